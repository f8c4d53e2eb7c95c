import PyProof.Rows.All
import Wide.All
import OpenK.AllK
import Wide.FinOn
import HandS.ForMost
import HandS.Style
import HandS.Codes
import HandS.IsInst
import HandS.AnyAll
import HandS.StrMore
import HandS.Defaults
import HandS.HeadHook4
import HandS.HeadWalk
import HandS.Head2
import HandS.Walk
import HandS.GenList
import HandS.RaiseMore
import PyProof.EqAt
import PyProof.EqKinds
import PyProof.NeKinds
import PyProof.NeData
import HandS.Iter
import KE.GoesMore
import HandS.TupAny
import HandS.List
import KE.KRevSl
import PySem.Challenge.RW_quicktongue_k02_trees_of_any_values
import HandS.ListItems
set_option Elab.async false
set_option linter.all false
set_option maxRecDepth 100000
set_option maxHeartbeats 4000000
/-! Tools over the hand layer: a def's call by keywords alone, repr of data, a def that knows its code object. -/
namespace KT
open PySem PySem.Spec PyProof.Rows L2
section
variable {X : Cx} {CX : CXT} {k : Nat} {f : Addr} {fd : FuncData} {ps ks : List Str} {sp : Sp} {E : XK} {x : Str} {p pos : Pos} {kws : List Keyword} {tk : TA}
/-- how a call with keywords alone binds: g puts the keywords' values in the parameters' order -/
structure KB0 (fd : FuncData) (ps ks : List Str) (g : {α : Type} → List α → List α) : Prop where
  to : ∀ (s : Shared) (ws : List Value), (g ws).length = ps.length → BindsTo s fd ⟨[], ks.zip ws⟩ (ps.zip (g ws))
  rel : ∀ {zs : List V} {ws : List Value}, Vals zs ws → Vals (g zs) (g ws)
def tCallK0 (sp : Sp) (g : {α : Type} → List α → List α) (E : XK) (tk : TA) : TE := fun σ H Q => tk σ H fun zs H2 => sp (g zs) H2 Q E
theorem pe_callK0 {g : {α : Type} → List α → List α} (F : FnOk X.prog X.w X.K X.mg X.base CX k f fd ps sp) (hr : Room k X.A) (hg : Gl X x) (hm : X.mg x = some (.ref f)) (hk : PySem.W.keepIn X.K (.ref f) = true) (hb : KB0 fd ps ks g) (hx : Passes CX X E)
    (hkw : PK X kws tk) (hall : (backToKw pos (keywordEach kws X.env)).all (·.1.isSome) = true := by rfl) (hks : (backToKw pos (keywordEach kws X.env)).filterMap (·.1) = ks := by rfl)
    (hdb : (x == ("__debug__" : Str)) = false := by decide) (hpl : ((backTo pos (starEach [] X.env)).any (·.1) || (backToKw pos (keywordEach kws X.env)).any (·.1.isNone)) = false := by rfl) :
    PE X (.Call (.Name x p) [] kws pos) (tCallK0 sp g E tk) := by
  refine ⟨fun pins s σ H Q I h => ?_⟩
  refine wpAny_Call_Name_kw (ld_glob I hg hm ?_ hdb)
  refine PySem.W.callWith_KW0 (h₀ := X.base) I.ok.mod.kin hk hall ?_ hpl
  refine thn (hkw.run pos pins s σ H _ I h) fun ws s2 ⟨zs, H2, I2, rz, q2⟩ => ⟨I2.kIn, ?_⟩
  rw [hks]
  have r2 := hb.rel rz
  have hl : (g ws).length = ps.length := by rw [← r2.length]; exact F.len _ _ _ _ q2
  refine wpAny_call (codeAny_mono (F.run X.A X.stack s2 H2 ⟨[] ++ [], ks.zip ws⟩ (g ws) (g zs) Q E hr I2.env0 (hb.to s2 ws hl) r2 q2) fun r s' hq => ?_)
  cases r with
  | error e => exact hx pins σ H2 s2 e s' I2 hq
  | ok fl =>
    cases fl with
    | ret u => exact I2.after hq
    | next => exact False.elim hq
    | brk => exact False.elim hq
    | cont => exact False.elim hq
end
/-! ### a def by its datum -/
section
variable {P : Program} {w : World} {K : PySem.W.Frag} {mg : Str → Option Value} {base : Heap}
abbrev FnP (K : PySem.W.Frag) (x : Str) (st : Stmt) (f : Addr) (fd : FuncData) : Prop := FunD K x x (defArgs st) (defBody st) (defScope st) [] [] f fd
theorem fun_of {x : Str} {st : Stmt} {f : Addr} {fd : FuncData} (F : FnP K x st f fd) : Fun K x x st f fd := by
  obtain ⟨⟨oc, od, dV, kV, doc, pm, an, cdv, ct, osl, e, l, c, d, _⟩, kp⟩ := F
  have hd : dV = .none := by
    rcases d with ⟨_, h⟩ | ⟨h, _⟩
    · exact h
    · exact absurd rfl h
  subst hd
  exact ⟨⟨oc, od, kV, doc, pm, an, cdv, ct, osl, e, l, c⟩, kp⟩
/-- the rule for a def, its code object told -/
theorem okC {x : Str} {st : Stmt} {fd : FuncData} {N ps : List Str} {k : Nat} {sp : Sp} (F : FnP K x st (He.fAd K (x, none)) fd) (S : FnScope N ps (defScope st)) (len : ∀ vs H Q E, sp vs H Q E → vs.length = ps.length)
    (hbody : ∀ (cdv : Value) (A : Around) (outer : List Env) (s : Shared) (H : Hp) (vs : List V) (Q : VK) (E : XK), cdv = .ref (He.codeOf K (x, none)) → Room k (A.deeper (envOfC x (defScope st) s.heap.objs.size (He.fAd K (x, none)) cdv)) → sp vs H Q E →
      ∃ t, PSs (cxOf CX0 P w K mg base N x (defScope st) (He.fAd K (x, none)) cdv A outer s H E).nox (defBody st) t ∧ t { nx := fun _ H' => Q .non H', rt := Q } (start N vs) H) : FnOk P w K mg base CX0 (k + 1) (He.fAd K (x, none)) fd ps sp := by
  obtain ⟨oc, od, kV, doc, pm, an, cdv, ct, osl, rfl, lk, hcd⟩ := (fun_of F).ex
  refine fn_of lk hcd S len fun A outer s H vs Q E hr hsp => ?_
  obtain ⟨c, ec⟩ := He.codeIn_ref hcd
  have e2 : He.codeOf K (x, none) = c := He.codeOf_eq lk ec
  obtain ⟨t, h, q⟩ := hbody cdv A outer s H vs Q E (by rw [ec, e2]) hr hsp
  exact ⟨t, h.nox, q⟩
end
/-! ### repr of data -/
section
variable {X : Cx}
def rReprD (K : PySem.W.Frag) : List V → Hp → VK → Prop := fun xs H Q => ∃ a d, xs = [.ref a] ∧ Dp K H (.ref a) d ∧ d.showable = true ∧ d.canLay0 = true ∧ d.depth ≤ 62 ∧ d.shown.length ≤ sizeLine ∧ Q (.str d.shown) H
theorem call_reprD {k : Nat} (hr : Room k X.A) (hg : X.A.guards = some []) : CallR X (.builtin "repr") (rReprD X.K) := by
  intro pins s σ H xs us Q I r h
  obtain ⟨a, d, rfl, hd, hs, hc, hdep, hsz, q⟩ := h
  obtain ⟨u, rfl, r1⟩ := vals1 r
  cases (show u = Value.ref a from r1)
  obtain ⟨as, hrd⟩ := Dp.reads I d _ _ hd rfl
  have hu := hr.units
  refine PySem.repr_of_reads' hrd hs (fun z => ?_) hg (by omega) (fun b o e => e) (fun h' u tk kk => ?_) hsz
  · rw [PyData.hasDict_of_canLay d hc] at z
    cases z
  · exact ⟨.str d.shown, H, I.kept (t' := tk) kk, ⟨u, rfl⟩, q⟩
end
/-! ### promises that may lean on «no repr is under way» -/
structure FnG (P : Program) (w : World) (K : PySem.W.Frag) (mg : Str → Option Value) (base : Heap) (k : Nat) (f : Addr) (fd : FuncData) (ps : List Str) (sp : Sp) : Prop where
  len : ∀ vs H Q E, sp vs H Q E → vs.length = ps.length
  run : ∀ (A : Around) (outer : List Env) (s : Shared) (H : Hp) (args : Args) (us : List Value) (vs : List V) (Q : VK) (E : XK), A.guards = some [] → Room k A → Env0 P w K mg base A outer s H → BindsTo s fd args (ps.zip us) → Vals vs us → sp vs H Q E →
    codeAny (model P w) A (.call (.ref f) args) (CR CX0 outer P w H s Q E) s
section
variable {P : Program} {w : World} {K : PySem.W.Frag} {mg : Str → Option Value} {base : Heap}
theorem FnG.of {k : Nat} {f : Addr} {fd : FuncData} {ps : List Str} {sp : Sp} (F : FnOk P w K mg base CX0 k f fd ps sp) : FnG P w K mg base k f fd ps sp := ⟨F.len, fun A outer s H args us vs Q E _ => F.run A outer s H args us vs Q E⟩
theorem okG {x : Str} {st : Stmt} {f : Addr} {fd : FuncData} {N ps : List Str} {k : Nat} {sp : Sp} (F : Fun K x x st f fd) (S : FnScope N ps (defScope st)) (len : ∀ vs H Q E, sp vs H Q E → vs.length = ps.length)
    (hbody : ∀ (cdv : Value) (A : Around) (outer : List Env) (s : Shared) (H : Hp) (vs : List V) (Q : VK) (E : XK), A.guards = some [] → Room k (A.deeper (envOfC x (defScope st) s.heap.objs.size f cdv)) → sp vs H Q E →
      ∃ t, PSs (cxOf CX0 P w K mg base N x (defScope st) f cdv A outer s H E).nox (defBody st) t ∧ t { nx := fun _ H' => Q .non H', rt := Q } (start N vs) H) : FnG P w K mg base (k + 1) f fd ps sp := by
  obtain ⟨oc, od, kV, doc, pm, an, cdv, ct, osl, rfl, lk, hcd⟩ := F.ex
  refine ⟨len, fun A outer s H args us vs Q E hA hr e0 hb r hsp => ?_⟩
  -- at this around alone: the def's rule over a promise that is asked here
  have KX : K.In s.heap := e0.mod.kin.keeps fun b o e => (e0.bs b o e).1
  have li : s.heap.NoLimit := e0.mod.nolimit.keeps fun b o e => (e0.bs b o e).1
  have knd : ∀ y ∈ ps.zip us, (defScope st).names.lookup y.1 = some .local ∨ ((defScope st).names.lookup y.1 = some .cell ∧ ((cellsFrom (s.heap.objs.size + 1) (defScope st).names []).lookup y.1).isSome = true) := by
    rintro ⟨n, v⟩ hy
    exact (S.par n (List.of_mem_zip hy).1).imp id fun q => ⟨q, PySem.W.cellsFrom_some _ _ _ (.inl q)⟩
  refine codeAny_call_function (hr.depth) (KX _ _ lk) rfl S.co S.gen rfl (PySem.W.codeRec_of KX hcd) (hb _ _ _ _ (wpAny_newFunctionEnv_cells S.kind knd fun env he s1 x1 => ?_))
  subst he
  obtain ⟨t, ht, hq⟩ := hbody cdv A outer s H vs Q E hA (hr.deeper _) hsp
  have J := inv_start (CX := CX0) (E := E) (mg := mg) (cd := cdv) (f := f) (qual := x) S hr.hd e0 (len _ _ _ _ hsp) r x1
  refine ⟨li.keeps x1.toInCall.keep, codeAny_func (wpAny_mono (ht.nox.run [] s1 (start N vs) H _ J hq) (fun fl s' hs => ?_) fun e s' z => z)⟩
  have done : ∀ {σ' : L2.St} {H' : Hp} {v : V} {u : Value}, Inv (cxOf CX0 P w K mg base N x (defScope st) f cdv A outer s H E) [] σ' H' s' → RelV v u → Q v H' → CE outer P w H s Q u s' := fun j rv q => ⟨_, _, j.os, j.bare, j.base, j.hok, rv, q⟩
  cases fl with
  | ret u =>
    obtain ⟨v, σ', H', j, rv, q⟩ := hs
    exact done j rv q
  | next =>
    obtain ⟨σ', H', j, q⟩ := hs
    exact done (v := V.non) (u := Value.none) j rfl q
  | brk => exact hs.elim fun _ z => z.elim fun _ z => z.2.elim
  | cont => exact hs.elim fun _ z => z.elim fun _ z => z.2.elim
end
section
variable {X : Cx} {k : Nat} {f : Addr} {fd : FuncData} {ps ks : List Str} {sp : Sp} {x : Str} {p pos : Pos} {e : Expr} {es : List Expr} {t : TA}
theorem run_g {pins : List (Addr × Obj)} {σ : L2.St} {H : Hp} {s : Shared} {Q : VK} {us : List Value} {vs : List V} (F : FnG X.prog X.w X.K X.mg X.base k f fd ps sp) (hA : X.A.guards = some []) (hr : Room k X.A) (hb : Binds X.K fd ps [])
    (I : Inv X pins σ H s) (r : Vals vs us) (h : sp vs H Q E0) : wpAny (model X.prog X.w) X.A (call (.ref f) us) (EP X pins σ Q) X.xe s := by
  have hl : us.length = ps.length := r.length.symm.trans (F.len _ _ _ _ h)
  have hb2 : BindsTo s fd ⟨us, []⟩ (ps.zip us) := by
    have z := hb s us I.kIn (by rw [List.append_nil]; exact hl)
    rw [List.append_nil] at z
    exact z
  refine wpAny_call (codeAny_mono (F.run X.A X.stack s H ⟨us, []⟩ us vs Q E0 hA hr I.env0 hb2 r h) fun rr s' hq => ?_)
  match rr, hq with
  | .error e, hq => exact hq.elim
  | .ok (.ret u), hq => exact I.after hq
  | .ok .next, hq => exact hq.elim
  | .ok .brk, hq => exact hq.elim
  | .ok .cont, hq => exact hq.elim
theorem pe_callG (F : FnG X.prog X.w X.K X.mg X.base k f fd ps sp) (hA : X.A.guards = some []) (hr : Room k X.A) (hg : Gl X x) (hm : X.mg x = some (.ref f)) (hk : PySem.W.keepIn X.K (.ref f) = true) (hb : Binds X.K fd ps [])
    (ha : PA X (e :: es) t) (hdb : (x == ("__debug__" : Str)) = false := by decide) (he : starEach (e :: es) X.env = (false, eval e X.env) :: starEach es X.env := by rfl) (hpl : (backTo pos (starEach es X.env)).any (·.1) = false := by rfl) :
    PE X (.Call (.Name x p) (e :: es) [] pos) (tCall sp [] E0 t) := by
  refine ⟨fun pins s σ H Q I h => wpAny_Call_Name_kw (ld_glob I hg hm (PySem.W.callWith_K (h₀ := X.base) I.ok.mod.kin hk (thn (ha.run pos pins s σ H _ I h) fun us s1 ⟨vs, H1, I1, r, q⟩ => ⟨I1.kIn, ?_⟩) he hpl) hdb)⟩
  have q2 : sp vs H1 Q E0 := by
    have z : sp (vs ++ []) H1 Q E0 := q
    rw [List.append_nil] at z
    exact z
  exact run_g F hA hr hb I1 r q2
end
/-! ### the end of a law's row: the tables of code objects tracked, the script known to its object -/
section
open GxR
def tabsH (cs : List (Addr × Addr)) : Hp := fun b => if b ∈ cs.map (·.2) then some (.tbl #[]) else none
theorem tabsH_in {cs : List (Addr × Addr)} {p : Addr × Addr} (h : p ∈ cs) : tabsH cs p.2 = some (.tbl #[]) := if_pos (List.mem_map.mpr ⟨p, h, rfl⟩)
theorem tabsH_some {cs : List (Addr × Addr)} {b : Addr} {o : HO} (h : tabsH cs b = some o) : o = .tbl #[] ∧ ∃ p ∈ cs, p.2 = b := by
  unfold tabsH at h
  split at h
  · rename_i hb
    obtain ⟨p, hp, e⟩ := List.mem_map.mp hb
    exact ⟨(Option.some.inj h).symm, p, hp, e⟩
  · cases h
def NoTab : Obj := { cls := .none, data := .fields #[] }
/-- what the head says of a state s₁: the script at a, the tables at cs -/
structure At1 (K : PySem.W.Frag) (mg : Str → Option Value) (cs : List (Addr × Addr)) (a : Addr) (ns : List Int) (s₁ : Shared) : Prop where
  kin : K.In s₁.heap
  ns_ : s₁.heap.Ns mainGlobals mg
  blt : ∃ mb, s₁.heap.Ns builtinsNs mb ∧ ∀ x : Str, x ≠ "__name__" → mb x = bootBuiltins x
  lim : s₁.heap.NoLimit
  gens : s₁.gens = #[]
  tabs : ∀ p ∈ cs, s₁.heap.get? p.2 = some NoTab
  out : ∀ p ∈ cs, K.lookup p.2 = none
  code : ∀ p ∈ cs, PySem.W.CodeHd s₁.heap p.1 p.2
  bm : ∃ (bm : Addr) (ob : Obj), mg "__builtins__" = some (.ref bm) ∧ bm ≠ builtinsNs ∧ s₁.heap.get? bm = some ob ∧ ob.cls = .type "module" ∧ ob.dict = some builtinsNs ∧ ob.data = .plain
  scr : ∃ vs : List Value, s₁.heap.get? a = some { cls := .type "list", data := .seq vs.toArray } ∧ IntsAre vs ns
  len : ns.length ≤ sizeLine
/-- an abstract heap of such a state -/
structure Good (K : PySem.W.Frag) (cs : List (Addr × Addr)) (a : Addr) (s₁ : Shared) (H : Hp) : Prop where
  at_ : ∀ b o, H b = some o → (o = .tbl #[] ∧ s₁.heap.get? b = some NoTab ∧ ∃ p ∈ cs, p.2 = b) ∨ (b = a ∧ (∃ ob xs, o = .frz ob (.lst xs)) ∧ ∃ vs : List Value, s₁.heap.get? a = some { cls := .type "list", data := .seq vs.toArray })
  tb : ∀ p ∈ cs, H p.2 = some (.tbl #[])
  k : H a ≠ none → K.lookup a = none
theorem At1.good {P : Program} {w : World} {K : PySem.W.Frag} {mg : Str → Option Value} {cs : List (Addr × Addr)} {a : Addr} {ns : List Int} {s₁ : Shared} (h : At1 K mg cs a ns s₁) :
    ∃ H : Hp, Good K cs a s₁ H ∧ SqL K H a (ns.map V.int) ∧ HOk P w H s₁.heap := by
  obtain ⟨vs, ha, hi⟩ := h.scr
  have rv := vals_ints hi
  have tabAt : ∀ b o, tabsH cs b = some o → o = .tbl #[] ∧ s₁.heap.get? b = some NoTab ∧ ∃ p ∈ cs, p.2 = b := fun b o e => by
    obtain ⟨e1, p, hp, e2⟩ := tabsH_some e
    exact ⟨e1, by rw [← e2]; exact h.tabs p hp, p, hp, e2⟩
  have na : tabsH cs a = none := by
    cases e : tabsH cs a with
    | none => rfl
    | some o =>
      have z := (tabAt a o e).2.1
      rw [ha] at z
      cases z
  have okT : ∀ b o, tabsH cs b = some o → ∀ H : Hp, ObjOk P w H s₁.heap b o := fun b o e H => by
    obtain ⟨e1, e2, _⟩ := tabAt b o e
    subst e1
    exact e2
  cases hk : K.lookup a with
  | some o =>
    have z := h.kin a o hk
    rw [ha] at z
    cases z
    refine ⟨tabsH cs, ⟨fun b o e => .inl (tabAt b o e), fun p hp => tabsH_in hp, fun z => absurd na z⟩, .inr ⟨_, vs.toArray, _, hk, rfl, rfl, rfl, ?_, by simpa using rv⟩, fun b o e => okT b o e _⟩
    rw [List.size_toArray, hi.length]
    exact h.len
  | none =>
    refine ⟨upd (tabsH cs) a (.frz { cls := .type "list", data := .seq vs.toArray } (.lst (ns.map V.int))), ⟨fun b o e => ?_, fun p hp => ?_, fun _ => hk⟩, .inl (.inr ⟨_, upd_same⟩), fun b o e => ?_⟩
    · by_cases hb : b = a
      · subst hb
        rw [upd_same] at e
        exact .inr ⟨rfl, ⟨_, _, (Option.some.inj e).symm⟩, vs, ha⟩
      · rw [upd_ne hb] at e
        exact .inl (tabAt b o e)
    · rw [upd_ne (ne_of_none (tabsH_in hp) na)]
      exact tabsH_in hp
    · by_cases hb : b = a
      · subst hb
        rw [upd_same] at e
        cases e
        exact ⟨ha, by rw [List.length_map]; exact h.len, vs, _, rv, ha⟩
      · rw [upd_ne hb] at e
        exact okT b o e _
variable {P : Program} {w : World} {K : PySem.W.Frag} {mg : Str → Option Value}
theorem Good.free {cs : List (Addr × Addr)} {a : Addr} {s₁ : Shared} {H : Hp} (g : Good K cs a s₁ H) {b : Addr} {o : Obj} (e : s₁.heap.get? b = some o) (h1 : ∀ vs n, o.data ≠ .seq vs n) (h2 : o.data ≠ .fields #[]) : H b = none := by
  cases q : H b with
  | none => rfl
  | some u =>
    rcases g.at_ b u q with ⟨_, z, _⟩ | ⟨rfl, _, vs, z⟩
    · rw [e] at z
      cases z
      exact (h2 rfl).elim
    · rw [e] at z
      cases z
      exact (h1 _ _ rfl).elim
theorem At1.call {cs : List (Addr × Addr)} {a fa : Addr} {ns : List Int} {s₁ : Shared} {k : Nat} {fd : FuncData} {x : Str} {sp : Sp} (h : At1 K mg cs a ns s₁) (hr : Room k callerA)
    (F : ∀ base : Heap, K.In base → base.Ns mainGlobals mg → (∀ (b : Addr) (m : Str → Option Value), s₁.heap.Ns b m → base.Ns b m) → (∀ p ∈ cs, TabB base mg p.1 p.2) → FnG P w K mg base k fa fd [x] sp) (hbind : ∀ (s : Shared) (u : Value), BindsTo s fd ⟨[u], []⟩ [(x, u)])
    (hsp : ∀ H : Hp, (∀ p ∈ cs, H p.2 = some (.tbl #[])) → SqL K H a (ns.map V.int) → sp [.ref a] H (fun v _ => v = .bl true) E0) :
    codeAny (model P w) callerA (.call (.ref fa) ⟨[.ref a], []⟩) (fun r s' => r = .ok (.ret (.bool true)) ∧ OldK s₁.heap s'.heap ∧ s'.os = s₁.os ∧ AllBare s'.gens) s₁ := by
  obtain ⟨H, g, hS, hok⟩ := h.good (P := P) (w := w)
  have dict_free : ∀ {b : Addr} {o : Obj} {es : Array DictEntry} {ep : Nat}, s₁.heap.get? b = some o → o.data = .dict es ep → H b = none := fun {b o es ep} e d => g.free e (fun vs n z => by rw [d] at z; cases z) fun z => by rw [d] at z; cases z
  have space : ∀ {b : Addr} {m : Str → Option Value}, s₁.heap.Ns b m → (hidT s₁.heap H).Ns b m := fun {b m} ⟨o, es, ep, e, d, r⟩ => ⟨o, es, ep, hidT_get e (dict_free e d), d, r⟩
  have kb : K.In (hidT s₁.heap H) := fun b o e => hidT_get (h.kin b o e) (by
    cases q : H b with
    | none => rfl
    | some u =>
      rcases g.at_ b u q with ⟨_, _, p, hp, e2⟩ | ⟨rfl, _, _⟩
      · rw [← e2, h.out p hp] at e
        cases e
      · rw [g.k (by rw [q]; exact fun z => nomatch z)] at e
        cases e)
  obtain ⟨mb, hb, hbb⟩ := h.blt
  have md : L2.Mod K mg (hidT s₁.heap H) := ⟨kb, space h.ns_, ⟨mb, space hb, hbb⟩, let ⟨mc, h1, h2⟩ := h.lim; ⟨mc, space h1, h2⟩⟩
  have tb : ∀ p ∈ cs, TabB (hidT s₁.heap H) mg p.1 p.2 := fun p hp => by
    have hTp := h.tabs p hp
    have ng : mainGlobals ≠ p.2 := fun z => by
      obtain ⟨o, es, ep, e, hd, _⟩ := h.ns_
      rw [z, hTp] at e
      cases e
      cases hd
    obtain ⟨o, us, file, tf, flags, tg, inF, text, tt, e1, r1, r2, r3, r⟩ := h.code p hp
    obtain ⟨bm, ob, b1, b2, b3, b4, b5, b6⟩ := h.bm
    have f1 : H p.1 = none := g.free e1 (fun vs n z => by rw [r2] at z; cases z) fun z => by
      rw [r2] at z
      cases z
      simp at r3
    have f2 : H bm = none := g.free b3 (fun vs n z => by rw [b6] at z; cases z) fun z => by rw [b6] at z; cases z
    refine ⟨⟨o, us, file, tf, flags, tg, inF, text, tt, hidT_get e1 f1, r1, r2, r3, r⟩, ⟨bm, ob, b1, b2, fun q => ?_, fun q => ?_, hidT_get b3 f2, b4, b5, b6⟩, ng⟩
    · obtain ⟨o2, es, ep, e, hd, _⟩ := h.ns_
      rw [← q, b3] at e
      cases e
      rw [b6] at hd
      cases hd
    · rw [q, hTp] at b3
      cases b3
      cases b6
  have e0 : Env0 P w K mg (hidT s₁.heap H) callerA [] s₁ H := ⟨rfl, md, fun b o e => of_hidT e, Nat.le_of_eq (hidT_size _ _), trivial, fun b hb => absurd (show b ∈ ([] : List Addr) from hb) (by simp), hok, .of_eq h.gens⟩
  refine codeAny_mono ((F _ kb (space h.ns_) (fun _ _ z => space z) tb).run callerA [] s₁ H ⟨[.ref a], []⟩ [.ref a] [.ref a] _ _ rfl hr e0 (hbind s₁ (.ref a)) (.cons rfl .nil) (hsp H g.tb hS)) fun r s' hq => ?_
  match r, hq with
  | .error e, hq => exact hq.elim
  | .ok .next, hq => exact hq.elim
  | .ok .brk, hq => exact hq.elim
  | .ok .cont, hq => exact hq.elim
  | .ok (.ret u), hq =>
    obtain ⟨v, H', os, bare, un, hok', r', q⟩ := hq
    obtain rfl : v = .bl true := q
    obtain rfl : u = Value.bool true := r'
    have keep : ∀ b o, s₁.heap.get? b = some o → s'.heap.get? b = some o ∨ (o = NoTab ∧ (∃ p ∈ cs, p.2 = b) ∧ ∃ more : Array Value, s'.heap.get? b = some { cls := .none, data := .fields more }) := fun b o e => by
      cases q : H b with
      | none => exact .inl (un.keep b o e q (by intro z; exact absurd (show b ∈ ([] : List Addr) from z) (by simp)) (by simp))
      | some u =>
        rcases g.at_ b u q with ⟨rfl, z, p⟩ | ⟨rfl, ⟨ob, xs, rfl⟩, _⟩
        · rw [e] at z
          cases z
          obtain ⟨more, z2⟩ := un.tbls b #[] q
          exact .inr ⟨rfl, p, _, hok' b _ z2⟩
        · obtain ⟨e1, _⟩ := hok b _ q
          obtain ⟨e2, _⟩ := hok' b _ (un.frzs b ob _ q)
          rw [e] at e1
          cases e1
          exact .inl e2
    refine ⟨rfl, ⟨fun b o e => ?_, fun b o e => ?_⟩, os, bare⟩
    · rcases keep b o e with z | ⟨rfl, ⟨p, hp, rfl⟩, more, z⟩
      · exact .inl z
      · exact .inr (.inl ⟨((h.code p hp).tab (h.tabs p hp)).isCodeTable, rfl, #[], more, rfl, by rw [Array.empty_append]; exact z⟩)
    · rcases keep b o e with z | ⟨_, _, more, z⟩
      · exact ⟨o, z⟩
      · exact ⟨_, z⟩
/-- sys.modules stands in the base -/
def HasMods (base : Heap) : Prop := ∃ mm, base.Ns sysModules mm
/-- the row's end by such promises -/
def LawG (l : PySem.W.OpenLaw) (w : World) (K : PySem.W.Frag) (k n : Nat) (x : Str) (mg : Str → Option Value) (fa : Addr) (h : Heap) : Prop :=
  ∃ (fd : FuncData) (cs : List (Addr × Addr)) (sp : Sp), (∀ p ∈ cs, h.get? p.2 = some NoTab) ∧ (∀ p ∈ cs, K.lookup p.2 = none) ∧ (∀ p ∈ cs, PySem.W.CodeHd h p.1 p.2) ∧ (∀ (s : Shared) (u : Value), BindsTo s fd ⟨[u], []⟩ [(x, u)]) ∧
    (∀ (H : Hp) (a : Addr) (ns : List Int), ns.length ≤ n → (∀ z ∈ ns, Builtin.Int.intBits z ≤ 1048576) → (∀ p ∈ cs, H p.2 = some (.tbl #[])) → SqL K H a (ns.map V.int) → sp [.ref a] H (fun v _ => v = .bl true) E0) ∧
    ∀ base : Heap, K.In base → base.Ns mainGlobals mg → HasMods base → (∀ p ∈ cs, TabB base mg p.1 p.2) → FnG l.prog w K mg base k fa fd [x] sp
theorem walkG {l : PySem.W.OpenLaw} {n k : Nat} {q : Program} {loose : List Str} {XP : (Str → Option Value) → Heap → Prop} {YP : World → Heap → Prop} {d : DefRec} {x : Str}
    (hn : l.most = some n) (hn2 : n ≤ sizeLine) (hdf : d.params.defaults = []) (hi : importsNone q = true) (hr : Room k callerA)
    (F : ∀ (w : World) (mg : Str → Option Value) (fa : Addr) (h : Heap), YP w h → h.Ns mainGlobals mg → mg d.name = some (.ref fa) → ∃ K : PySem.W.Frag, K.In h ∧ LawG l w K k n x mg fa h) :
    PySem.W.WalkO q loose XP YP l.row.toRowW d [] (fun f vs => PySem.call f vs) := by
  refine Att.attach_callB hn hdf fun w s₀ s₁ mg mb fa o pm cd doc a vs ns G Y ho hd hcd hmg hobj hints hlen hbits hg => ?_
  obtain ⟨K, kx, fd, cs, sp, hT, nT, C, hb, hsp, hF⟩ := F w mg fa _ Y G.T.g hmg
  exact At1.call (K := K) (cs := cs) (sp := sp) ⟨kx, G.T.g, ⟨mb, G.T.b, G.T.builtins⟩, G.T.nolimit, hg, hT, nT, C, G.T.bmain, ⟨vs, hobj, hints⟩, Nat.le_trans hlen hn2⟩ hr (fun base kb nb sp tb => hF base kb nb (let ⟨mm, z, _⟩ := (G.T.seer hi).mods; ⟨mm, sp _ _ z⟩) tb) hb fun H hH hS => hsp H a ns hlen hbits hH hS
end
/-! ### a def of the text: its datum, its name, how it binds -/
structure Df (K : PySem.W.Frag) (mg : Str → Option Value) (x : Str) (st : Stmt) (ps : List Str) (fd : FuncData) : Prop where
  F : FnP K x st (He.fAd K (x, none)) fd
  g : mg x = some (.ref (He.fAd K (x, none)))
  b : Binds K fd ps []
/-- a promise that none asks -/
def spNo : Sp := fun _ _ _ _ => False
theorem ok_no {P : Program} {w : World} {K : PySem.W.Frag} {mg : Str → Option Value} {base : Heap} {CX : CXT} {k : Nat} {f : Addr} {fd : FuncData} {ps : List Str} : FnOk P w K mg base CX k f fd ps spNo := ⟨fun _ _ _ _ h => h.elim, fun _ _ _ _ _ _ _ _ _ _ _ _ _ h => h.elim⟩
/-! ### isinstance of a built-in class -/
def isS : V → Bool
  | .str _ => true
  | _ => false
/-- x has a class, told, and whether it is T is told by b -/
def IsA (K : PySem.W.Frag) (H : Hp) (x : V) (T : String) (b : Bool) : Prop := ∃ t, TyX K H x (.type t) ∧ kitB t T = some b
theorem rIsi_of {K : PySem.W.Frag} {H : Hp} {x : V} {T : String} {b : Bool} {Q : VK} (h : IsA K H x T b) (q : Q (.bl b) H) : rIsi K [x, .ty T] H Q := by
  obtain ⟨t, h1, h2⟩ := h
  exact ⟨x, .ty T, .type t, .type T, b, rfl, .ty T, h1, kit_ty h2, q⟩
end KT

set_option Elab.async false
set_option linter.all false
set_option maxRecDepth 100000
set_option maxHeartbeats 4000000
/-! all(e for x in it), any(e for x in it): any element, calls of defs in it too. -/
namespace KG
open PySem PySem.Spec PyProof.Rows L2 GxR GenW KT
theorem over_cs {A : Around} {elt tg iter : Expr} {ifs : List Expr} {scope : Scope} {pos : Pos} {it acc : Value} {env : Env} : A.over (.compStart (.GeneratorExp elt [⟨tg, iter, ifs, 0⟩] scope pos) 0 it acc env) [] = A.deeper env := rfl
theorem over_cl {A : Around} {elt tg iter : Expr} {ifs : List Expr} {scope : Scope} {pos : Pos} {it acc : Value} {env : Env} : A.over (.compLoop (.GeneratorExp elt [⟨tg, iter, ifs, 0⟩] scope pos) 0 it acc env) [] = A.deeper env := rfl
/-- the context of a generator expression's frame: entered at s -/
abbrev gX (X : Cx) (s : Shared) (H : Hp) (cenv : Env) (fp : List Addr) : Cx := { X with s_0 := s, H_0 := H, env := cenv, A := X.A.in1.in1.deeper cenv, outer := X.stack, stack := cenv :: X.stack, ex := fp, fn := fun _ => false, pn := [], xe := fun _ _ => False }
theorem room_gen {k : Nat} {A : Around} {env : Env} (r : Room (k + 3) A) : Room k (A.in1.in1.deeper env) := (r.in1.in1).deeper env
structure GnOk (N : List Str) (sc scope : Scope) (own : List (Str × Nat)) : Prop where
  blk : BlkOk N sc scope own
  co : scope.isCoroutine = false
  cell : ∀ y ∈ scope.names, y.2 ≠ .cell
  dot : scope.names.lookup (".0" : Str) = some NameKind.local
def gnC (N : List Str) (sc scope : Scope) (own : List (Str × Nat)) : Bool :=
  blkC N sc scope own && (!scope.isCoroutine && ((scope.names.all fun y => decide (y.2 ≠ .cell)) && decide (scope.names.lookup (".0" : Str) = some NameKind.local)))
theorem gnOk_by {N : List Str} {sc scope : Scope} {own : List (Str × Nat)} (h : gnC N sc scope own = true) : GnOk N sc scope own := by
  unfold gnC at h
  obtain ⟨h1, h⟩ := Bool.and_eq_true_iff.mp h
  obtain ⟨h2, h⟩ := Bool.and_eq_true_iff.mp h
  obtain ⟨h3, h4⟩ := Bool.and_eq_true_iff.mp h
  refine ⟨blkOk_by h1, ?_, fun y hy => of_decide_eq_true (List.all_eq_true.mp h3 y hy), of_decide_eq_true h4⟩
  cases e : scope.isCoroutine with
  | false => rfl
  | true =>
    rw [e] at h2
    cases h2
section
variable {X : Cx} {pins : List (Addr × Obj)} {σ : L2.St} {H : Hp} {s : Shared}
theorem Inv_gens {X : Cx} {pins : List (Addr × Obj)} {σ : L2.St} {H : Hp} {s : Shared} {g' : Array GenState} {t' : Nat} (I : L2.Inv X pins σ H s) (hg : AllBare g') : L2.Inv X pins σ H { s with gens := g', toks := t' } := by
  refine I.step (h' := s.heap) (g' := g') (t' := t') (d' := s.drawn) (ch := []) (fun b hb => absurd hb (by simp)) (fun b o _ _ _ e _ => e) (fun b o _ _ _ e _ => ⟨o.slots, e⟩) (fun b o _ _ n => n) (fun b o _ e => ⟨o, e⟩) (fun _ _ e => e) (fun _ _ _ e => e) (fun b ps e => ⟨#[], by rw [e]; simp⟩) (fun m hm => hm) I.hok hg
theorem gen_start {scope : Scope} {own : List (Str × Nat)} {fp : List Addr} {code : Value} {h' : Heap} {o : Obj} {gs : GenState} {tk : Nat} {m0 : Str → Option Value} (I : L2.Inv X pins σ H s) (ok : GnOk X.N X.env.scope scope own) (hN : X.N.Nodup) (hfp : ∀ b ∈ fp, FpOk X pins H b ∧ b < s.heap.objs.size)
    (hn : h'.Ns s.heap.objs.size m0) (hsz : h'.objs.size = s.heap.objs.size + 1) (kp : ∀ b o, s.heap.get? b = some o → h'.get? b = some o) (hod : ∀ v, o.data ≠ .cell v) (hoc : o.isFreed = false) (hg : gs.bare = true) :
    L2.Inv (gX X s H (genEnv scope (cloFrom X.env.cells scope.names []) s.heap.objs.size code builtinsNs X.env) fp) [(h'.objs.size, o)] (wipe σ (own.map (·.2))) H { s with gens := s.gens.push gs, toks := tk, heap := h'.push o } := by
  have bk := ok.blk
  have hfree : ∀ y ∈ scope.names, y.2 = .free → ∃ c, X.env.cells.lookup y.1 = some c := fun y hy e => (bk.free y hy e).elim (fun k => I.ok.has _ (.inl k)) fun k => I.ok.has _ (.inr k)
  have kp2 : ∀ b u, s.heap.get? b = some u → (h'.push o).get? b = some u := fun b u e => Heap.get?_push_of_some _ (kp b u e)
  have cm : ∀ {y c}, (cloFrom X.env.cells scope.names []).lookup y = some c → X.env.cells.lookup y = some c ∧ (y, NameKind.free) ∈ scope.names := fun {y c} e => by
    rcases cloFrom_mem (PySem.mem_of_lookup e) with z | ⟨h1, rfl⟩
    · cases z
    · obtain ⟨c, hc⟩ := hfree _ h1 rfl
      rw [hc]
      exact ⟨rfl, h1⟩
  have clt : ∀ {y c}, X.env.cells.lookup y = some c → c < s.heap.objs.size := fun {y c} e => by
    obtain ⟨v, z⟩ := I.cell _ _ e
    exact z.lt
  have look : ∀ {y}, scope.names.lookup y = some .free → ∃ c, (cloFrom X.env.cells scope.names []).lookup y = some c ∧ X.env.cells.lookup y = some c := fun {y} hl => by
    obtain ⟨c, e⟩ := mem_lookup (cloFrom_has (cells := X.env.cells) (acc := []) (PySem.mem_of_lookup hl))
    exact ⟨c, e, (cm e).1⟩
  have bLt : ∀ b ∈ fp, b ≠ s.heap.objs.size := fun b hb => Nat.ne_of_lt (hfp b hb).2
  have kind_of : ∀ {y k}, scope.names.lookup y = some k → k = .cell ∨ k = .free → scope.names.lookup y = some .free := fun {y k} e hk => by
    rcases hk with rfl | rfl
    · exact absurd rfl (ok.cell _ (PySem.mem_of_lookup e))
    · exact e
  have okB : (gX X s H (genEnv scope (cloFrom X.env.cells scope.names []) s.heap.objs.size code builtinsNs X.env) fp).Ok := by
    refine { mod := I.ok.mod, kind := bk.kind, glob := I.ok.glob, blt := rfl, above := Nat.le_refl _, inj := fun y z c e1 e2 => I.ok.inj y z c (cm e1).1 (cm e2).1, has := fun y hy => ?_, cab := fun y c z _ => absurd z Bool.false_ne_true, hd := I.ok.hd, frames := Around.frames_deeper I.ok.frames, stk := .inr ⟨rfl, rfl⟩, exf := fun b hb => ⟨bLt b hb, fun y c e z => ?_⟩, bs := I.bs, bsz := Nat.le_trans I.ok.bsz I.sz, noex := fun b u e hb => ?_, exfs := fun b hb z => ?_, funs := I.stack, frf := I.stkFree }
    · rcases hy with hy | hy
      · obtain ⟨c, e, _⟩ := look (kind_of hy (.inl rfl))
        exact ⟨c, e⟩
      · obtain ⟨c, e, _⟩ := look hy
        exact ⟨c, e⟩
    · exact (hfp b hb).1.2.2.2.2.1 y c (cm e).1 z
    · rcases (hfp b hb).1.2.2.2.1 with z | z
      · exact I.ok.noex b u e z
      · exact absurd (Nat.lt_of_lt_of_le (Heap.lt_size e) (Nat.le_trans I.ok.bsz z)) (Nat.lt_irrefl _)
    · rcases List.mem_cons.mp (I.stkSub b z) with z | z
      · exact (hfp b hb).1.2.1 z
      · exact (hfp b hb).1.2.2.1 z
  have fsLt : ∀ b ∈ frs X.stack, b < s.heap.objs.size := fun b hb => by
    rcases List.mem_cons.mp (I.stkSub b hb) with z | z
    · rw [z]; exact I.lt
    · exact Nat.lt_of_not_le fun q => I.nofs q z
  refine ⟨okB, rfl, I.bare.push hg, Un.kept kp2, ⟨m0, hn.push _, fun i y av e1 e2 e3 => ?_⟩, fun y c e => ?_, I.hok.fresh (Nat.le_refl _), fun y c e => I.freeC y c (cm e).1, fun p hp => ?_, I.hok.kept kp2, by rw [wipe_length]; exact I.len⟩
  · obtain ⟨e2, hne⟩ := wipe_some e2
    have no : ∀ k, scope.names.lookup y = some k → k = .local ∨ k = .cell → False := fun k hk hh => by
      rcases bk.own _ (PySem.mem_of_lookup hk) hh with e' | e'
      · obtain ⟨p, hp, hpy⟩ := List.mem_map.mp e'
        have e3 := bk.ix p hp
        have q : p.1 = y := hpy
        rw [q] at e3
        exact hne (List.mem_map.mpr ⟨p, hp, nodup_ix hN e3 e1⟩)
      · exact e' (List.mem_of_getElem? e1)
    have fr : scope.names.lookup y = some .free := by
      have e3 : Vis scope y := e3
      rcases e3 with e3 | e3 | e3
      · exact (no _ e3 (.inl rfl)).elim
      · exact (no _ e3 (.inr rfl)).elim
      · exact e3
    obtain ⟨m, _, hl⟩ := I.loc
    have hv : Vis X.env.scope y := (bk.free _ (PySem.mem_of_lookup fr) rfl).elim (fun k => .inr (.inl k)) fun k => .inr (.inr k)
    obtain ⟨u, r, q⟩ := hl i y av e1 e2 hv
    obtain ⟨c, h1, h2⟩ := look fr
    refine ⟨u, r, .inr ⟨.inr fr, c, h1, ?_⟩⟩
    rcases q with ⟨k, _⟩ | ⟨_, c', e', z⟩
    · have k : X.env.scope.names.lookup y = some .local := k
      rcases bk.free _ (PySem.mem_of_lookup fr) rfl with k' | k' <;> rw [show X.env.scope.names.lookup y = _ from k'] at k <;> cases k
    · rw [h2] at e'
      cases e'
      exact z.keeps kp2
  · obtain ⟨v, z⟩ := I.cell y c (cm e).1
    exact ⟨v, z.keeps kp2⟩
  · obtain rfl : p = (h'.objs.size, o) := List.mem_singleton.mp hp
    refine ⟨Heap.get?_push_size _ hoc, I.hok.fresh (by rw [hsz]; exact Nat.le_succ _), ?_, fun z => ?_, hod⟩
    · show h'.objs.size ≠ s.heap.objs.size
      rw [hsz]
      exact Nat.succ_ne_self _
    · have q : h'.objs.size < s.heap.objs.size := fsLt _ z
      rw [hsz] at q
      exact Nat.lt_irrefl _ (Nat.lt_trans (Nat.lt_succ_self _) q)
end
section
variable {X : Cx}
/-- what the consumer sees at a yield: b0 lets it go on -/
def gY (X : Cx) (pa : List (Addr × Obj)) (σ : L2.St) (fp : List Addr) (tn : Nat → Heap → Prop) (b0 : Bool) (W : Nat → Nat → Hp → Prop) (Qf : Hp → Prop) : Protocol := fun n _ v s kap =>
  ∃ (i : Nat) (H : Hp) (b : Bool), v = .bool b ∧ L2.Inv X pa σ H s ∧ tn i s.heap ∧ (∀ b ∈ fp, H b = none) ∧ (b ≠ b0 → Qf H) ∧
    (b = b0 → (∃ m, m < n ∧ W i m H) ∧ ∀ s' : Shared, s'.heap = s.heap → s'.os = s.os → s'.drawn = s.drawn → AllBare s'.gens → kap (.send .none) s')
def gR (X : Cx) (pa : List (Addr × Obj)) (σ : L2.St) (Qe : Hp → Prop) : Nat → Shared → Shared → Prop := fun _ _ s => ∃ H, L2.Inv X pa σ H s ∧ Qe H
/-- the turns of such a walk, as the reading tells them -/
def Turns (J : It) (g : TG) (te : TE) (σ : L2.St) (vs : List Nat) (b0 : Bool) (W : Nat → Nat → Hp → Prop) (Qe Qf : Hp → Prop) : Prop := ∀ i m H, W i m H →
  (J.stop i H ∧ Qe H) ∨ (J.go i H ∧ ∃ Nx : Hp → Prop, (∀ H', Nx H' → ∃ m', m' < m ∧ W (i + 1) m' H') ∧ ∀ x H', J.yld i H x H' → g x (wipe σ vs) H' fun σ2 H2 => wipe σ2 vs = wipe σ vs ∧ te σ2 H2 fun y H3 => ∃ b, y = .bl b ∧ if b = b0 then Nx H3 else Qf H3)
theorem seg_turns {A : Around} {elt tg iter : Expr} {scope : Scope} {pos : Pos} {it : Addr} {fp : List Addr} {tn : Nat → Heap → Prop} {J : It} {g : TG} {te : TE} {σ : L2.St} {vs : List Nat} {b0 : Bool} {W : Nat → Nat → Hp → Prop} {Qe Qf : Hp → Prop} {pa : List (Addr × Obj)}
    (hA : A.deeper X.env = X.A) (hc : X.calm = true) (hpn : X.pn = []) (hpa : ∀ p ∈ pa, p.1 ∉ fp) (hex : X.ex = fp) (hco : X.env.scope.isCoroutine = false) (T : Turn X.prog X.w X.K tg J fp it tn) (pg : PG X tg g) (pe : PE X elt te) (hxe : X.xe = fun _ _ => False)
    (turn : Turns J g te σ vs b0 W Qe Qf) :
    ∀ (n m i : Nat) (s₀ s : Shared) (H : Hp), m < n → W i m H → L2.Inv X pa (wipe σ vs) H s → tn i s.heap → (∀ b ∈ fp, H b = none) →
      Seg (model X.prog X.w) A (fun n s₀ r s₁ => r = .ok .next ∧ gR X pa (wipe σ vs) Qe n s₀ s₁) (gY X pa (wipe σ vs) fp tn b0 W Qf) n s₀ (.compLoop (.GeneratorExp elt [⟨tg, iter, [], 0⟩] scope pos) 0 (.ref it) .none X.env)
        ((model X.prog X.w).den (.compLoop (.GeneratorExp elt [⟨tg, iter, [], 0⟩] scope pos) 0 (.ref it) .none X.env)) [] s := by
  have stat : ∀ {σ' : L2.St} {H' : Hp} {s' : Shared}, L2.Inv X pa σ' H' s' → (∀ b ∈ fp, H' b = none) → ∀ b ∈ fp, FpOk X pa H' b := fun {σ' H' s'} I' hn b hb => by
    have hb' : b ∈ X.ex := by rw [hex]; exact hb
    refine ⟨hn b hb, (I'.ok.exf b hb').1, I'.ok.exfs b hb', .inl hb', fun x c e => (I'.ok.exf b hb').2 x c e, fun p hp z => ?_⟩
    rw [hpn, List.nil_append] at hp
    exact hpa p hp (z ▸ hb)
  have ov : A.over (.compLoop (.GeneratorExp elt [⟨tg, iter, [], 0⟩] scope pos) 0 (.ref it) .none X.env) [] = X.A := by
    rw [over_cl]
    exact hA
  intro n
  induction n with
  | zero => intro m i s₀ s H h; exact absurd h (Nat.not_lt_zero _)
  | succ n ih =>
    intro m i s₀ s H hm w I st nf
    show Seg _ A _ _ _ s₀ _ ((compTurn (.GeneratorExp elt [⟨tg, iter, [], 0⟩] scope pos) 0 (.ref it) .none X.env).onRaise (leaving X.env)) [] s
    rw [compTurn_gen, Sem.onRaise_eq_wrap]
    refine seg_bind_wrap (wpAny_standAt ?_)
    rcases turn i m H w with ⟨stop, qe⟩ | ⟨go, Nx, hNx, step⟩
    · refine seg_bind_wrap ?_
      rw [ov]
      refine thnF (T.done X rfl rfl rfl hc i pa s _ H (fun _ _ => False) I (stat I nf) st stop) fun r s1 ⟨hr, I1⟩ => ?_
      subst hr
      exact seg_end (.ok .next) ⟨rfl, H, I1, qe⟩
    · refine seg_bind_wrap ?_
      rw [ov]
      refine thnF (T.item X rfl rfl rfl hc i pa s _ H (fun _ _ => False) I (stat I nf) st go) fun r s1 ⟨u, hr, h1⟩ => ?_
      subst hr
      refine seg_bind_wrap ?_
      rw [ov]
      refine thnF h1 fun _ s2 ⟨x, H2, I2, r2, y2, st2, n2⟩ => ?_
      have I2' := I2.pinned (stat I2 n2) (T.obj _ _ st2)
      refine seg_bind_wrap ?_
      rw [ov]
      have e0 : X.xe = fun _ _ => False := hxe
      have pgr := pg.run _ s2 _ H2 x u _ I2' r2 (step x H2 y2)
      rw [e0] at pgr
      refine thnF pgr fun _ s3 ⟨σ3, H3, I3, hw3, q3⟩ => ?_
      refine seg_bind_wrap ?_
      simp only [List.forIn_nil]
      refine wpAny_pure ?_
      simp only [if_true]
      have hy : ∀ v, yieldOut X.env v = yieldValue v := fun v => by simp only [yieldOut, hco, Bool.false_eq_true, if_false]
      simp only [hy]
      rw [Sem.bind_eq_wrap', Sem.bind_eq_wrap', Sem.wrap_wrap, Sem.wrap_wrap]
      refine seg_wrap ?_
      rw [ov]
      have per := pe.run _ s3 σ3 H3 _ I3 q3
      rw [e0] at per
      refine thnF per fun z s4 ⟨yv, H4, I4, r4, b, eb, q4⟩ => ?_
      subst eb
      obtain rfl : z = Value.bool b := r4
      have pin' : ∀ b ∈ fp, ∀ o, s2.heap.get? b = some o → s4.heap.get? b = some o ∧ H4 b = none := fun b hb o e =>
        let z := I4.pin (b, o) (List.mem_append_right _ (List.mem_append_right _ (mem_pinsAt hb e)))
        ⟨z.1, z.2.1⟩
      have hl : (wipe σ vs).length = σ3.length := by rw [← hw3, wipe_length]
      have J4 : L2.Inv X pa (wipe σ vs) H4 s4 := (I4.pins_of fun p hp => I4.pin p (List.mem_append_right _ (List.mem_append_left _ hp))).weak hl fun j v e => by
        rw [← hw3] at e
        exact (wipe_some e).1
      have st4 : tn (i + 1) s4.heap := T.keep _ _ _ st2 fun b hb o e => (pin' b hb o e).1
      have n4 : ∀ b ∈ fp, H4 b = none := fun b hb => by
        obtain ⟨o, e, _⟩ := T.obj _ _ st2 b hb
        exact (pin' b hb o e).2
      refine seg_at (seg_yield rfl rfl rfl ⟨i + 1, H4, b, rfl, J4, st4, n4, fun hb => ?_, fun hb => ?_⟩)
      · rw [if_neg hb] at q4
        exact q4
      · rw [if_pos hb] at q4
        obtain ⟨m', hm', w'⟩ := hNx H4 q4
        refine ⟨⟨m', by omega, w'⟩, fun s' h1 h2 h3 h4 => ?_⟩
        refine seg_again rfl (ih m' (i + 1) s' s' H4 (by omega) w' ?_ (by rw [h1]; exact st4) n4)
        have J5 := Inv_gens (g' := s'.gens) (t' := s'.toks) J4 h4
        obtain ⟨hp', g', d', t', o'⟩ := s'
        obtain rfl : hp' = s4.heap := h1
        obtain rfl : o' = s4.os := h2
        obtain rfl : d' = s4.drawn := h3
        exact J5
theorem seg_begin {A : Around} {elt tg iter : Expr} {scope : Scope} {pos : Pos} {it : Addr} {R : GenEnd} {Y : Protocol} {n : Nat} {s₀ s : Shared} {env : Env}
    (hs : ∀ (B : Around) (Q : Value → Shared → Prop) (E : Value → Shared → Prop), Q (.ref it) s → wpAny (model X.prog X.w) B (pyIter (.ref it)) Q E s)
    (loop : Seg (model X.prog X.w) A R Y n s₀ (.compLoop (.GeneratorExp elt [⟨tg, iter, [], 0⟩] scope pos) 0 (.ref it) .none env) ((model X.prog X.w).den (.compLoop (.GeneratorExp elt [⟨tg, iter, [], 0⟩] scope pos) 0 (.ref it) .none env)) [] s) :
    Seg (model X.prog X.w) A R Y n s₀ (.compStart (.GeneratorExp elt [⟨tg, iter, [], 0⟩] scope pos) 0 (.ref it) .none env) ((model X.prog X.w).den (.compStart (.GeneratorExp elt [⟨tg, iter, [], 0⟩] scope pos) 0 (.ref it) .none env)) [] s := by
  show Seg _ A _ _ _ s₀ _ ((compStart (.GeneratorExp elt [⟨tg, iter, [], 0⟩] scope pos) 0 (.ref it) .none env).onRaise (leaving env)) [] s
  unfold compStart
  rw [Sem.onRaise_eq_wrap]
  show Seg _ A R Y n s₀ _ ((ask >>= _).wrap _ _ _ _) [] s
  refine seg_bind_wrap (wpAny_askSetting ?_)
  split
  · exact seg_again rfl loop
  · first
      | exact seg_bind_wrap (wpAny_rule (seg_bind_wrap (wpAny_standAt (seg_bind_wrap (hs _ _ _ (seg_again rfl loop))))))
      | (refine seg_bind_wrap (wpAny_rule ?_); show Seg _ A R Y n s₀ _ ((standAt iter.pos >>= _).wrap _ _ _ _) [] s; exact seg_bind_wrap (wpAny_standAt (seg_bind_wrap (hs _ _ _ (seg_again rfl loop)))))
/-- a generator expression's object stands ready -/
def GRdy (X : Cx) (A : Around) (pa : List (Addr × Obj)) (σ : L2.St) (fp : List Addr) (tn : Nat → Heap → Prop) (b0 : Bool) (W : Nat → Nat → Hp → Prop) (Qe Qf : Hp → Prop) (a : Addr) (g n : Nat) (s : Shared) : Prop :=
  s.heap.IsGen a g ∧ s.heap.NoLimit ∧ ∃ gs, s.gens[g]? = some gs ∧ gs.Goes (model X.prog X.w) A (fun n s₀ r s₁ => r = .ok .next ∧ gR X pa σ Qe n s₀ s₁) (gY X pa σ fp tn b0 W Qf) n (.send .none) (s.setGen g .running)
theorem all_loop {A B : Around} {pa : List (Addr × Obj)} {σ : L2.St} {fp : List Addr} {tn : Nat → Heap → Prop} {W : Nat → Nat → Hp → Prop} {Qe Qf : Hp → Prop} {a : Addr} {g : Nat} {R : Result → Shared → Prop} (hB : A.in1.in1 = B) (hh : A.handled = none) (hd : A.depth < recursionLimit)
    (hag : ∀ {σ' : L2.St} {H' : Hp} {s' : Shared}, L2.Inv X pa σ' H' s' → s'.heap.IsGen a g)
    (he : ∀ H' s', L2.Inv X pa σ H' s' → Qe H' → R (.ok (.ret (.bool true))) s') (hf : ∀ H' s', L2.Inv X pa σ H' s' → Qf H' → R (.ok (.ret (.bool false))) s') :
    ∀ (n : Nat) (s : Shared), GRdy X B pa σ fp tn true W Qe Qf a g n s → codeAny (model X.prog X.w) A (.builtin "all.loop" ⟨[.ref a], []⟩) R s := by
  subst hB
  have step : ∀ (n : Nat) (s : Shared), (∀ m s', n = m + 1 → GRdy X A.in1.in1 pa σ fp tn true W Qe Qf a g m s' → codeAny (model X.prog X.w) A (.builtin "all.loop" ⟨[.ref a], []⟩) R s') → GRdy X A.in1.in1 pa σ fp tn true W Qe Qf a g n s → codeAny (model X.prog X.w) A (.builtin "all.loop" ⟨[.ref a], []⟩) R s := by
    intro n s ih ⟨hg, hl, gs, hgs, hgo⟩
    have hgl : g < s.gens.size := (Array.getElem?_eq_some_iff.mp hgs).1
    refine codeAny_builtin F.entry_all_loop ?_
    rw [Around.under_plainId F.plain_all_loop _]
    show wpAny _ A.in1 (pyNext (.ref a) >>= _) _ _ s
    refine wpAny_bind (wpAny_gsz (n := g + 1) hgl (wpAny_pyNext_genexpQ (A := A.in1) hh hl hd hg hgs hgo (fun v s₁ gs' hbare hv hsz => ?_) (fun s₁ hp h' hk hsz => ?_)))
    · obtain ⟨i, H', b, rfl, I, st, nf, qf, qn⟩ := hv
      have hsz1 : g < s₁.gens.size := by
        have q : (s₁.setGen g gs').gens.size = s₁.gens.size := setGen_size _ _ _
        have q2 : g + 1 ≤ (s₁.setGen g gs').gens.size := hsz
        omega
      have J : L2.Inv X pa σ H' (s₁.setGen g gs') := Inv_gens I (allBare_setGen I.bare hbare)
      refine wpAny_bind (wpAny_holding (wpAny_truthy_bool ?_))
      refine wpAny_bind (wpAny_letGo ?_)
      cases b with
      | true =>
        obtain ⟨_, kap⟩ := qn rfl
        simp only [if_true]
        cases n with
        | zero => exact (kap s₁ rfl rfl rfl I.bare).elim
        | succ m =>
          refine wpAny_pure ⟨plainId_quiet F.plain_all_loop _, ih m _ rfl ⟨hag J, J.nolimit, gs', setGen_at hsz1, ?_⟩⟩
          exact kap _ rfl rfl rfl (allBare_setGen J.bare rfl)
      | false =>
        simp only [Bool.false_eq_true, if_false]
        exact wpAny_bind (wpAny_rule (wpAny_pure (hf H' _ J (qf Bool.false_ne_true))))
    · obtain ⟨H', I, qe⟩ := hp
      refine wpAny_bind (wpAny_rule (wpAny_pure (he H' _ ?_ qe)))
      have J : L2.Inv X pa σ H' (s₁.setGen g .finished) := Inv_gens I (allBare_setGen I.bare rfl)
      exact J.kept (t' := (s₁.setGen g .finished).toks) hk
  intro n
  induction n with
  | zero => exact fun s => step 0 s fun m s' h => nomatch h
  | succ n ih =>
    refine fun s => step (n + 1) s fun m s' h => ?_
    obtain rfl : n = m := Nat.succ.inj h
    exact ih s'
theorem any_loop {A B : Around} {pa : List (Addr × Obj)} {σ : L2.St} {fp : List Addr} {tn : Nat → Heap → Prop} {W : Nat → Nat → Hp → Prop} {Qe Qf : Hp → Prop} {a : Addr} {g : Nat} {R : Result → Shared → Prop} (hB : A.in1.in1 = B) (hh : A.handled = none) (hd : A.depth < recursionLimit)
    (hag : ∀ {σ' : L2.St} {H' : Hp} {s' : Shared}, L2.Inv X pa σ' H' s' → s'.heap.IsGen a g)
    (he : ∀ H' s', L2.Inv X pa σ H' s' → Qe H' → R (.ok (.ret (.bool false))) s') (hf : ∀ H' s', L2.Inv X pa σ H' s' → Qf H' → R (.ok (.ret (.bool true))) s') :
    ∀ (n : Nat) (s : Shared), GRdy X B pa σ fp tn false W Qe Qf a g n s → codeAny (model X.prog X.w) A (.builtin "any.loop" ⟨[.ref a], []⟩) R s := by
  subst hB
  have step : ∀ (n : Nat) (s : Shared), (∀ m s', n = m + 1 → GRdy X A.in1.in1 pa σ fp tn false W Qe Qf a g m s' → codeAny (model X.prog X.w) A (.builtin "any.loop" ⟨[.ref a], []⟩) R s') → GRdy X A.in1.in1 pa σ fp tn false W Qe Qf a g n s → codeAny (model X.prog X.w) A (.builtin "any.loop" ⟨[.ref a], []⟩) R s := by
    intro n s ih ⟨hg, hl, gs, hgs, hgo⟩
    have hgl : g < s.gens.size := (Array.getElem?_eq_some_iff.mp hgs).1
    refine codeAny_builtin F.entry_any_loop ?_
    rw [Around.under_plainId F.plain_any_loop _]
    show wpAny _ A.in1 (pyNext (.ref a) >>= _) _ _ s
    refine wpAny_bind (wpAny_gsz (n := g + 1) hgl (wpAny_pyNext_genexpQ (A := A.in1) hh hl hd hg hgs hgo (fun v s₁ gs' hbare hv hsz => ?_) (fun s₁ hp h' hk hsz => ?_)))
    · obtain ⟨i, H', b, rfl, I, st, nf, qf, qn⟩ := hv
      have hsz1 : g < s₁.gens.size := by
        have q : (s₁.setGen g gs').gens.size = s₁.gens.size := setGen_size _ _ _
        have q2 : g + 1 ≤ (s₁.setGen g gs').gens.size := hsz
        omega
      have J : L2.Inv X pa σ H' (s₁.setGen g gs') := Inv_gens I (allBare_setGen I.bare hbare)
      refine wpAny_bind (wpAny_holding (wpAny_truthy_bool ?_))
      refine wpAny_bind (wpAny_letGo ?_)
      cases b with
      | true =>
        simp only [if_true]
        exact wpAny_bind (wpAny_rule (wpAny_pure (hf H' _ J (qf fun z => nomatch z))))
      | false =>
        obtain ⟨_, kap⟩ := qn rfl
        simp only [Bool.false_eq_true, if_false]
        cases n with
        | zero => exact (kap s₁ rfl rfl rfl I.bare).elim
        | succ m =>
          refine wpAny_pure ⟨plainId_quiet F.plain_any_loop _, ih m _ rfl ⟨hag J, J.nolimit, gs', setGen_at hsz1, ?_⟩⟩
          exact kap _ rfl rfl rfl (allBare_setGen J.bare rfl)
    · obtain ⟨H', I, qe⟩ := hp
      refine wpAny_bind (wpAny_rule (wpAny_pure (he H' _ ?_ qe)))
      have J : L2.Inv X pa σ H' (s₁.setGen g .finished) := Inv_gens I (allBare_setGen I.bare rfl)
      exact J.kept (t' := (s₁.setGen g .finished).toks) hk
  intro n
  induction n with
  | zero => exact fun s => step 0 s fun m s' h => nomatch h
  | succ n ih =>
    refine fun s => step (n + 1) s fun m s' h => ?_
    obtain rfl : n = m := Nat.succ.inj h
    exact ih s'
/-- b0: true for all, false for any; vs: the expression's own slots; P: the def's table -/
def tAG (b0 : Bool) (wi : TI) (g : TG) (te : TE) (vs : List Nat) (P : Addr) : TE := fun σ H Q => wi σ H fun J H1 => TabG H1 P ∧ ∀ H2, Tabbed P H1 H2 → ∃ W : Nat → Nat → Hp → Prop, (∃ m, W 0 m H2) ∧ Turns J g te σ vs b0 W (fun H => Q (.bl b0) H) fun H => Q (.bl (!b0)) H
variable {pins : List (Addr × Obj)} {σ : L2.St} {H : Hp} {s : Shared}
theorem gen_make {c P : Addr} {elt tg iter : Expr} {scope : Scope} {gpos : Pos} {own : List (Str × Nat)} {wi : TI} {g : TG} {te : TE} {k : Nat} {b0 : Bool} {Q : VK} {Q' : Value → Shared → Prop} (hc : X.calm = true) (hN : X.N.Nodup)
    (hr : Room k X.A) (TB : TabB X.base X.mg c P) (hcode : X.env.code = .ref c) (ok : GnOk X.N X.env.scope scope own) (hi : PI X tg iter wi)
    (hg : ∀ (s : Shared) (H : Hp) (cl : List (Str × Addr)) (C : Addr) (code : Value) (fp : List Addr), PG (gX X s H (genEnv scope cl C code builtinsNs X.env) fp) tg g)
    (he : ∀ (s : Shared) (H : Hp) (cl : List (Str × Addr)) (C : Addr) (code : Value) (fp : List Addr), PE (gX X s H (genEnv scope cl C code builtinsNs X.env) fp) elt te)
    (hs : ∀ v, genFold iter X.env v = pure v) (I : L2.Inv X pins σ H s) (h : tAG b0 wi g te (own.map (·.2)) P σ H Q)
    (hQ : ∀ (Y : Cx) (pa : List (Addr × Obj)) (fp : List Addr) (tn : Nat → Heap → Prop) (W : Nat → Nat → Hp → Prop) (a : Addr) (gn n : Nat) (s5 : Shared), Y.prog = X.prog → Y.w = X.w → (∀ {σ' : L2.St} {H' : Hp} {s' : Shared}, L2.Inv Y pa σ' H' s' → s'.heap.IsGen a gn) →
      (∀ H' s', L2.Inv Y pa (wipe σ (own.map (·.2))) H' s' → L2.Inv X pins σ H' s') → s5.heap.IsGen a gn → GRdy Y X.A.in1.in1 pa (wipe σ (own.map (·.2))) fp tn b0 W (fun H => Q (.bl b0) H) (fun H => Q (.bl (!b0)) H) a gn n s5 → Q' (.ref a) s5) :
    wpAny (model X.prog X.w) X.A (eval (.GeneratorExp elt [⟨tg, iter, [], 0⟩] scope gpos) X.env) Q' X.xe s := by
  have bk := ok.blk
  have hfree : ∀ y ∈ scope.names, y.2 = .free → ∃ c, X.env.cells.lookup y.1 = some c := fun y hy e => (bk.free y hy e).elim (fun k => I.ok.has _ (.inl k)) fun k => I.ok.has _ (.inr k)
  refine wpAny_GeneratorExp_make ok.co (closure_ok hfree) ok.cell ok.dot bk.kind (by have := hr.dp; omega) (thn (hi.run pins s σ H _ I h) fun xv s1 hx => thn hx fun itv s2 h2 => ?_) hs
  obtain ⟨it, fp, tn, J, H1, rfl, I1, T, st, hf, ⟨ps, hP, ht⟩, q⟩ := h2
  have hPs : s2.heap.get? P = some { cls := .none, data := .fields ps } := I1.hok P _ hP
  have cd : PySem.W.CodeHd s2.heap c P := TB.code.keeps fun b u e => I1.bk b u e
  have nP : ∀ b ∈ fp, b ≠ P := fun b hb z => by
    have q := (hf b hb).1
    rw [z, hP] at q
    cases q
  have cont : ∀ (code : Value) (h3 : Heap) (tk : Nat) (more : Array Value), Heap.ExtBut P s2.heap h3 → s2.heap.objs.size ≤ h3.objs.size → h3.get? P = some { cls := .none, data := .fields (ps ++ more) } → TriplesOk (ps ++ more).toList →
      wpAny (model X.prog X.w) X.A (builtinsFor X.env.globals X.env.builtins) (fun bi s₄ => ∀ h', h'.Ns s₄.heap.objs.size (fun y => if y = ".0" then some (Value.ref it) else none) → Heap.SameBut s₄.heap.objs.size (s₄.heap.push { cls := .type "frame", data := .dict #[] }) h' →
          Q' (.ref h'.objs.size) { s₄ with
            gens := s₄.gens.push (.fresh (.compStart (.GeneratorExp elt [⟨tg, iter, [], 0⟩] scope gpos) 0 (.ref it) .none (genEnv scope (cloFrom X.env.cells scope.names []) s₄.heap.objs.size code bi X.env)))
            toks := s₄.toks + 1 + 1 + 1
            heap := h'.push { cls := .type "generator", data := .fields #[.int s₄.gens.size 0, .str "<genexpr>" (s₄.toks + 1), .str (X.env.qual ++ "<genexpr>") (s₄.toks + 1 + 1)] } }) X.xe { s2 with heap := h3, toks := tk } := by
    intro code h3 tk more hx hsz hP3 ht3
    obtain ⟨bm, ob, e1, e2, e3, e4, e5, e6, e7, e8⟩ := TB.bm
    have J3 : L2.Inv X pins σ (upd H1 P (.tbl (ps ++ more))) { s2 with heap := h3, toks := tk } := inv_tab (more := more) (h' := h3) (g' := s2.gens) (d' := s2.drawn) (t' := tk) I1 hP (fun b u hb e => hx b u hb e) hP3 I1.bare
    refine wpAny_builtinsFor (m := X.mg) (by rw [I1.ok.glob]; exact J3.mod.glob.keeps J3.bk) e1 e2 (J3.bk _ _ e5) e6 e7 e8 ?_
    intro h' hn' hs'
    obtain ⟨W, ⟨m0, w0⟩, turn⟩ := q (upd H1 P (.tbl (ps ++ more))) ⟨⟨ps ++ more, upd_same, ht3⟩, fun b hb => upd_ne hb⟩
    have hsz' : h'.objs.size = h3.objs.size + 1 := by rw [hs'.1, Heap.size_push]
    have kp : ∀ b o, h3.get? b = some o → h'.get? b = some o := fun b o e => hs'.extBut b o (Nat.ne_of_lt (Heap.lt_size e)) (Heap.get?_push_of_some _ e)
    have hf3 : ∀ b ∈ fp, FpOk X pins (upd H1 P (.tbl (ps ++ more))) b ∧ b < h3.objs.size := fun b hb => by
      obtain ⟨o, e, _⟩ := T.obj _ _ st b hb
      refine ⟨⟨?_, (hf b hb).2⟩, Nat.lt_of_lt_of_le (Heap.lt_size e) hsz⟩
      rw [upd_ne (nP b hb)]
      exact (hf b hb).1
    have st3 : tn 0 h3 := T.keep _ _ _ st fun b hb o e => hx b o (nP b hb) e
    have st4 : tn 0 h' := T.keep _ _ _ st3 fun b hb o e => kp b o e
    have I5 := gen_start (fp := fp) (own := own) (scope := scope) (code := code) (h' := h') (o := { cls := .type "generator", data := .fields #[.int s2.gens.size 0, .str "<genexpr>" (tk + 1), .str (X.env.qual ++ "<genexpr>") (tk + 1 + 1)] })
      (gs := .fresh (.compStart (.GeneratorExp elt [⟨tg, iter, [], 0⟩] scope gpos) 0 (.ref it) .none (genEnv scope (cloFrom X.env.cells scope.names []) h3.objs.size code builtinsNs X.env))) (tk := tk + 1 + 1 + 1) J3 ok hN hf3 hn' hsz' kp (fun v z => by cases z) rfl rfl
    have pgx := hg { s2 with heap := h3, toks := tk } (upd H1 P (.tbl (ps ++ more))) (cloFrom X.env.cells scope.names []) h3.objs.size code fp
    have pex := he { s2 with heap := h3, toks := tk } (upd H1 P (.tbl (ps ++ more))) (cloFrom X.env.cells scope.names []) h3.objs.size code fp
    have gen : ∀ {σ' : L2.St} {H' : Hp} {s' : Shared}, L2.Inv (gX X { s2 with heap := h3, toks := tk } (upd H1 P (.tbl (ps ++ more))) (genEnv scope (cloFrom X.env.cells scope.names []) h3.objs.size code builtinsNs X.env) fp) [(h'.objs.size, _)] σ' H' s' → s'.heap.IsGen h'.objs.size s2.gens.size := fun {σ' H' s'} Z =>
      ⟨_, _, _, (Z.pin (h'.objs.size, { cls := .type "generator", data := .fields #[.int s2.gens.size 0, .str "<genexpr>" (tk + 1), .str (X.env.qual ++ "<genexpr>") (tk + 1 + 1)] }) (List.mem_append_right _ List.mem_cons_self)).1, rfl, rfl, rfl⟩
    refine hQ (gX X { s2 with heap := h3, toks := tk } (upd H1 P (.tbl (ps ++ more))) (genEnv scope (cloFrom X.env.cells scope.names []) h3.objs.size code builtinsNs X.env) fp) [(h'.objs.size, _)] fp tn W h'.objs.size s2.gens.size (m0 + 1) _ rfl rfl gen (fun H' s' Z => ?_) (gen I5) ⟨gen I5, I5.nolimit, _, Array.getElem?_push_size .., rfl, ?_⟩
    · exact J3.call' (ch := fp) Z.os Z.base Z.hok Z.bare fun b hb => ⟨(hf3 b hb).1.2.2.2.1, (hf3 b hb).1.2.1, (hf3 b hb).1.2.2.2.2.1, (hf3 b hb).1.2.2.2.2.2⟩
    · have I6 := Inv_gens (g' := (Shared.setGen _ s2.gens.size .running).gens) (t' := tk + 1 + 1 + 1) I5 (allBare_setGen (g := s2.gens.size) (x := .running) I5.bare rfl)
      have st6 : tn 0 (h'.push { cls := .type "generator", data := .fields #[.int s2.gens.size 0, .str "<genexpr>" (tk + 1), .str (X.env.qual ++ "<genexpr>") (tk + 1 + 1)] }) := T.keep _ _ _ st4 fun b hb o e => Heap.get?_push_of_some _ e
      refine seg_begin (X := X) (fun B Q E z => T.self B 0 _ Q E st6 z) ?_
      refine seg_turns (X := gX X { s2 with heap := h3, toks := tk } (upd H1 P (.tbl (ps ++ more))) (genEnv scope (cloFrom X.env.cells scope.names []) h3.objs.size code builtinsNs X.env) fp) rfl hc rfl (fun p hp z => ?_) rfl ok.co T pgx pex rfl turn (m0 + 1) m0 0 _ _ (upd H1 P (.tbl (ps ++ more))) (Nat.lt_succ_self _) w0 I6 st6 fun b hb => (hf3 b hb).1.1
      obtain rfl : p = (h'.objs.size, _) := List.mem_singleton.mp hp
      have z2 : h'.objs.size < h3.objs.size := (hf3 _ z).2
      omega
  refine ⟨I1.nolimit, ?_⟩
  cases hf' : codeAmong gpos ps.toList with
  | none =>
    refine wpAny_genexprCodeX hcode (cd.code hPs ht) (cd.tab hPs) hf' fun c' h' tk hx hge hlt hco' _ htab' _ => ?_
    obtain ⟨o1, vs, f1, tf, fl, tgg, inF, tx, tt, op, _, _, _, _, _, _, _, _, _, htr, _⟩ := hco'
    exact cont _ h' tk _ hx (Nat.le_trans hge (Nat.le_of_lt hlt)) htab'.2 htr
  | some cv =>
    refine wpAny_genexprCode_hit hcode (cd.code hPs ht) hf' ?_
    have e : ps ++ #[] = ps := by simp
    exact cont cv s2.heap s2.toks #[] (Heap.ExtBut.refl _ _) (Nat.le_refl _) (by rw [e]; exact hPs) (by rw [e]; exact ht)
theorem pe_all {c P : Addr} {elt tg iter : Expr} {scope : Scope} {p pos gpos : Pos} {own : List (Str × Nat)} {wi : TI} {g : TG} {te : TE} {k : Nat} (hc : X.calm = true) (hN : X.N.Nodup)
    (hr : Room k X.A) (hgl : Gl X "all") (hm : X.mg "all" = none) (TB : TabB X.base X.mg c P) (hcode : X.env.code = .ref c) (ok : GnOk X.N X.env.scope scope own) (hi : PI X tg iter wi)
    (hg : ∀ (s : Shared) (H : Hp) (cl : List (Str × Addr)) (C : Addr) (code : Value) (fp : List Addr), PG (gX X s H (genEnv scope cl C code builtinsNs X.env) fp) tg g)
    (he : ∀ (s : Shared) (H : Hp) (cl : List (Str × Addr)) (C : Addr) (code : Value) (fp : List Addr), PE (gX X s H (genEnv scope cl C code builtinsNs X.env) fp) elt te)
    (hs : ∀ v, genFold iter X.env v = pure v := by intro _; rfl)
    (hst : starEach [.GeneratorExp elt [⟨tg, iter, [], 0⟩] scope gpos] X.env = (false, eval (.GeneratorExp elt [⟨tg, iter, [], 0⟩] scope gpos) X.env) :: starEach [] X.env := by rfl) :
    PE X (.Call (.Name "all" p) [.GeneratorExp elt [⟨tg, iter, [], 0⟩] scope gpos] [] pos) (tAG true wi g te (own.map (·.2)) P) := by
  refine ⟨fun pins s σ H Q I h => wpAny_Call_Name_kw (ld_blt I hgl hm (by decide +kernel : bootBuiltins "all" = some (.builtin "all")) (PyProof.Rows.callWith_builtin1 ?_ hst (by rfl)))⟩
  rw [hst]
  show wpAny _ _ (spliced ((false, eval (.GeneratorExp elt [⟨tg, iter, [], 0⟩] scope gpos) X.env) :: backTo pos (starEach [] X.env))) _ _ s
  refine Calls.spliced_cons (gen_make (b0 := true) (Q := Q) hc hN hr TB hcode ok hi hg he hs I h fun Y pa fp tn W a gn n s5 e1 e2 hag back hg5 rdy => Calls.spliced_nil ?_)
  refine call_function_tree F.kind_all F.plain_all F.entry_all (F.args_all1 _) ?_
  unfold Builtin.«all»
  refine wpAny_bind (m := oneArg "all" _) (wpAny_pure (wpAny_bind (wpAny_pyIter_gen hg5 (wpAny_pure ⟨plainId_quiet F.plain_all_loop _, ?_⟩))))
  rw [← e1, ← e2]
  exact all_loop rfl hr.hd (by have := hr.dp; omega) hag (fun H' s' z q => ⟨.bl true, H', back H' s' z, rfl, q⟩) (fun H' s' z q => ⟨.bl false, H', back H' s' z, rfl, q⟩) n s5 rdy
theorem pe_any {c P : Addr} {elt tg iter : Expr} {scope : Scope} {p pos gpos : Pos} {own : List (Str × Nat)} {wi : TI} {g : TG} {te : TE} {k : Nat} (hc : X.calm = true) (hN : X.N.Nodup)
    (hr : Room k X.A) (hgl : Gl X "any") (hm : X.mg "any" = none) (TB : TabB X.base X.mg c P) (hcode : X.env.code = .ref c) (ok : GnOk X.N X.env.scope scope own) (hi : PI X tg iter wi)
    (hg : ∀ (s : Shared) (H : Hp) (cl : List (Str × Addr)) (C : Addr) (code : Value) (fp : List Addr), PG (gX X s H (genEnv scope cl C code builtinsNs X.env) fp) tg g)
    (he : ∀ (s : Shared) (H : Hp) (cl : List (Str × Addr)) (C : Addr) (code : Value) (fp : List Addr), PE (gX X s H (genEnv scope cl C code builtinsNs X.env) fp) elt te)
    (hs : ∀ v, genFold iter X.env v = pure v := by intro _; rfl)
    (hst : starEach [.GeneratorExp elt [⟨tg, iter, [], 0⟩] scope gpos] X.env = (false, eval (.GeneratorExp elt [⟨tg, iter, [], 0⟩] scope gpos) X.env) :: starEach [] X.env := by rfl) :
    PE X (.Call (.Name "any" p) [.GeneratorExp elt [⟨tg, iter, [], 0⟩] scope gpos] [] pos) (tAG false wi g te (own.map (·.2)) P) := by
  refine ⟨fun pins s σ H Q I h => wpAny_Call_Name_kw (ld_blt I hgl hm (by decide +kernel : bootBuiltins "any" = some (.builtin "any")) (PyProof.Rows.callWith_builtin1 ?_ hst (by rfl)))⟩
  rw [hst]
  show wpAny _ _ (spliced ((false, eval (.GeneratorExp elt [⟨tg, iter, [], 0⟩] scope gpos) X.env) :: backTo pos (starEach [] X.env))) _ _ s
  refine Calls.spliced_cons (gen_make (b0 := false) (Q := Q) hc hN hr TB hcode ok hi hg he hs I h fun Y pa fp tn W a gn n s5 e1 e2 hag back hg5 rdy => Calls.spliced_nil ?_)
  refine call_function_tree F.kind_any F.plain_any F.entry_any (F.args_any1 _) ?_
  unfold Builtin.«any»
  refine wpAny_bind (m := oneArg "any" _) (wpAny_pure (wpAny_bind (wpAny_pyIter_gen hg5 (wpAny_pure ⟨plainId_quiet F.plain_any_loop _, ?_⟩))))
  rw [← e1, ← e2]
  exact any_loop rfl hr.hd (by have := hr.dp; omega) hag (fun H' s' z q => ⟨.bl false, H', back H' s' z, rfl, q⟩) (fun H' s' z q => ⟨.bl true, H', back H' s' z, rfl, q⟩) n s5 rdy
end
/-- such a walk over anything that HandS.Walk knows -/
theorem turns_it {J : It} {n : Nat} {G : Hp → Prop} {Y : Nat → Hp → V → Hp → Prop} (w : Walk J n G Y) {g : TG} {te : TE} {vs : List Nat} {σ : L2.St} {b0 : Bool} {Hs : Hp} {Qe Qf : Hp → Prop} (Pv : Nat → Hp → Prop) (h0 : Pv 0 Hs) (hG : ∀ i H, i ≤ n → Pv i H → G H)
    (hs : ∀ i x H H', i < n → Pv i H → Y i H x H' → g x (wipe σ vs) H' fun σ2 H2 => wipe σ2 vs = wipe σ vs ∧ te σ2 H2 fun y H3 => ∃ b, y = .bl b ∧ if b = b0 then Pv (i + 1) H3 else Qf H3) (hd : ∀ H, Pv n H → Qe H) :
    ∃ W : Nat → Nat → Hp → Prop, (∃ m, W 0 m Hs) ∧ Turns J g te σ vs b0 W Qe Qf := by
  refine ⟨fun i m H => i ≤ n ∧ m + i = n ∧ Pv i H, ⟨n, Nat.zero_le _, rfl, h0⟩, fun i m H hW => ?_⟩
  obtain ⟨hi, hm, p⟩ := hW
  have q := hG i H hi p
  rcases Nat.lt_or_eq_of_le hi with hlt | rfl
  · exact .inr ⟨w.goes i H hlt q, Pv (i + 1), fun H' p' => ⟨m - 1, by omega, hlt, by omega, p'⟩, fun x H' y => hs i x H H' hlt p (w.yields i H x H' hlt q y)⟩
  · exact .inl ⟨w.stops H q, hd H p⟩
end KG

set_option linter.all false
set_option maxRecDepth 100000
set_option maxHeartbeats 4000000
namespace KM
open PySem PySem.Spec PyProof.Rows L2 KT
theorem small1000' {n : Nat} (h : n ≤ 2000) : n < sizeLine := Nat.lt_of_le_of_lt h (by decide)
def isW (z : Str) : Bool := z.cps.toList.all fun c => decide (c ∈ ("01" : Str).cps.toList)
theorem tw_all {p : Nat → Bool} : ∀ {l : List Nat}, l.all p = true → l.takeWhile p = l
  | [], _ => rfl
  | a :: r, h => by
    rw [List.all_cons, Bool.and_eq_true] at h
    rw [List.takeWhile_cons, h.1, tw_all h.2]
    rfl
theorem tw_lt {p : Nat → Bool} : ∀ {l : List Nat}, l.all p = false → (l.takeWhile p).length < l.length
  | [], h => by cases h
  | a :: r, h => by
    rw [List.takeWhile_cons]
    cases e : p a with
    | false => exact Nat.succ_pos _
    | true =>
      rw [List.all_cons, e, Bool.true_and] at h
      have ih := tw_lt h
      show (a :: r.takeWhile p).length < (a :: r).length
      rw [List.length_cons, List.length_cons]
      omega
theorem tw_head {p : Nat → Bool} : ∀ {l : List Nat}, l.all p = false → ∃ a r, l.drop (l.takeWhile p).length = a :: r ∧ p a = false
  | [], h => by cases h
  | a :: r, h => by
    rw [List.takeWhile_cons]
    cases e : p a with
    | false => exact ⟨a, r, rfl, e⟩
    | true =>
      rw [List.all_cons, e, Bool.true_and] at h
      exact tw_head h
theorem strip_len (goes : Nat → Bool) (z : Str) : (Txt.stripBy goes true true z).length = z.length - ((z.cps.toList.drop (z.cps.toList.takeWhile goes).length).reverse.takeWhile goes).length - (z.cps.toList.takeWhile goes).length := by
  have e1 : stripLo goes true z = (z.cps.toList.takeWhile goes).length := rfl
  have e2 : stripHi goes true z (stripLo goes true z) = z.length - ((z.cps.toList.drop (z.cps.toList.takeWhile goes).length).reverse.takeWhile goes).length := rfl
  unfold Txt.stripBy
  by_cases h : stripSame goes true true z = true
  · rw [if_pos h]
    unfold stripSame at h
    rw [Bool.and_eq_true] at h
    have h1 : stripLo goes true z = 0 := eq_of_beq h.1
    have h2 : stripHi goes true z (stripLo goes true z) = z.length := eq_of_beq h.2
    rw [← e2, ← e1, h2, h1, Nat.sub_zero]
  · rw [if_neg h]
    unfold stripped
    rw [size_strSub]
    · rw [e2, e1]
    · rw [e2]
      exact Nat.sub_le _ _
theorem len0 {z : Str} : z.length = 0 ↔ z = "" := by
  constructor
  · intro h
    obtain ⟨a⟩ := z
    have h2 : a.size = 0 := h
    have h3 : a = #[] := Array.eq_empty_of_size_eq_zero h2
    subst h3
    rfl
  · intro h
    subst h
    rfl
theorem strip_empty (goes : Nat → Bool) (z : Str) : (Txt.stripBy goes true true z = "") ↔ z.cps.toList.all goes = true := by
  rw [← len0, strip_len]
  have hl : z.cps.toList.length = z.length := by
    show z.cps.toList.length = z.cps.size
    rw [Array.length_toList]
  cases h : z.cps.toList.all goes with
  | true =>
    have e := tw_all h
    simp only [e, List.drop_length, List.reverse_nil, List.takeWhile_nil, List.length_nil, Nat.sub_zero, iff_true]
    omega
  | false =>
    have h1 := tw_lt h
    obtain ⟨a, r, h2, h3⟩ := tw_head h
    have h4 : ((z.cps.toList.drop (z.cps.toList.takeWhile goes).length).reverse).all goes = false := by
      rw [h2, List.all_reverse, List.all_cons, h3, Bool.false_and]
    have h5 := tw_lt h4
    rw [List.length_reverse, List.length_drop] at h5
    simp only [Bool.false_eq_true, iff_false]
    omega
theorem strip01 (z : Str) : decide (V.str (Txt.stripChars z "01") = V.str "") = isW z := by
  have h := strip_empty (("01" : Str).cps.contains) z
  have e : z.cps.toList.all (("01" : Str).cps.contains) = isW z := by
    unfold isW
    congr 1
    funext c
    rw [Array.contains_eq_mem]
    exact decide_eq_decide.mpr Array.mem_def
  rw [e] at h
  cases hw : isW z with
  | true => exact decide_eq_true (congrArg V.str (h.mpr hw))
  | false =>
    refine decide_eq_false fun q => ?_
    have z2 := h.mp (V.str.inj q)
    rw [hw] at z2
    cases z2
/-! ### signs of a text -/
def sg (c : Nat) : V := .str ⟨#[c]⟩
theorem dp_signs {K : PySem.W.Frag} {H : Hp} : ∀ cs : List Nat, DpAll K H (cs.map sg) (cs.map fun c => PyData.str ⟨#[c]⟩)
  | [] => .nil
  | c :: r => .cons (.str _) (dp_signs r)
theorem lay_signs : ∀ cs : List Nat, (∀ c ∈ cs, c < 128) → PyData.canLayAll0 (cs.map fun c => PyData.str ⟨#[c]⟩) = true
  | [], _ => rfl
  | c :: r, h => by
    show (PyData.canLay0 (.str ⟨#[c]⟩) && PyData.canLayAll0 (r.map fun c => PyData.str ⟨#[c]⟩)) = true
    rw [lay_signs r fun x hx => h x (List.mem_cons_of_mem _ hx), Bool.and_true]
    have hc := h c (List.mem_cons_self ..)
    show PyData.strOk ⟨#[c]⟩ = true
    have : c < 0x110000 := by omega
    simp [PyData.strOk, this]
theorem dep_signs : ∀ cs : List Nat, PyData.depthAll (cs.map fun c => PyData.str ⟨#[c]⟩) ≤ 1
  | [] => by simp [PyData.depthAll]
  | c :: r => by
    have h := dep_signs r
    simp only [List.map_cons, PyData.depthAll, PyData.depth]
    omega
theorem shaped_signs {cs : List Nat} (h : ∀ c ∈ cs, c < 128) : SeqAt.shaped (.list (cs.map fun c => PyData.str ⟨#[c]⟩)) = true := by
  unfold SeqAt.shaped
  rw [Bool.and_eq_true]
  refine ⟨lay_signs cs h, decide_eq_true ?_⟩
  have h2 := dep_signs cs
  simp only [PyData.depth]
  omega
theorem eqv_signs (cs : List Nat) : PyData.eqv (.list (cs.map fun c => PyData.str ⟨#[c]⟩)) (.list []) = cs.isEmpty := by
  cases cs <;> simp [PyData.eqv, PyData.eqvAll]
/-- a comprehension over a text that keeps some signs -/
theorem lc_signs {z : Str} {i : Nat} {tt : TT} {σ : L2.St} {H1 : Hp} {D : Addr} {Qd : Hp → Prop} (pb : Nat → Bool) (hz : z.length ≤ 2000) (hi : i < σ.length)
    (ht : ∀ c H (Q : Bool → Hp → Prop), c ∈ z.cps.toList → Q (pb c) H → tt ((wipe σ [i]).set i (some (sg c))) H Q) (hd : Qd (upd H1 D (.lst ((z.cps.toList.filter pb).map sg)))) :
    ∃ W : Nat → Nat → Hp → Prop, (∃ m, W 0 m (upd H1 D (.lst []))) ∧ ∀ j m H, W j m H →
      ((Its z).stop j H ∧ Qd H) ∨ ((Its z).go j H ∧ ∃ Nx : Hp → Prop, (∀ H', Nx H' → ∃ m', m' < m ∧ W (j + 1) m' H') ∧ ∀ x H', (Its z).yld j H x H' → gName i x (wipe σ [i]) H' fun σ2 H2 => wipe σ2 [i] = wipe σ [i] ∧ tt σ2 H2 fun b H3 =>
        if b = true then tVar i σ2 H3 fun y H4 => ∃ acc, H4 D = some (.lst acc) ∧ acc.length < sizeLine ∧ Nx (upd H4 D (.lst (acc ++ [y]))) else Nx H3) := by
  have hl : z.cps.toList.length = z.length := by
    show z.cps.toList.length = z.cps.size
    rw [Array.length_toList]
  refine lc_it walk_str (fun j H => H = upd H1 D (.lst (((z.cps.toList.take j).filter pb).map sg))) rfl (fun _ _ _ _ => trivial) (fun j x H H' hj h y => ?_) (fun H h => ?_)
  · obtain ⟨rfl, c, hc, rfl⟩ := y
    subst h
    have hc2 : z.cps.toList[j]? = some c := by rw [Array.getElem?_toList]; exact hc
    have hwi : (wipe σ [i]).length = σ.length := wipe_length σ [i]
    refine ⟨?_, ht c _ _ (List.mem_of_getElem? hc2) ?_⟩
    · show ((σ.set i none).set i (some (sg c))).set i none = σ.set i none
      rw [List.set_set, List.set_set]
    · have et : (z.cps.toList.take (j + 1)).filter pb = (z.cps.toList.take j).filter pb ++ (if pb c = true then [c] else []) := by
        rw [List.take_add_one, hc2, List.filter_append]
        congr 1
        show List.filter pb [c] = _
        rw [List.filter_cons, List.filter_nil]
      cases hp : pb c with
      | true =>
        rw [if_pos rfl]
        refine ⟨sg c, ?_, _, upd_same, ?_, ?_⟩
        · show ((σ.set i none).set i (some (sg c)))[i]? = some (some (sg c))
          rw [List.set_set, List.getElem?_set_self hi]
        · rw [List.length_map]
          refine small1000' ?_
          refine Nat.le_trans (List.length_filter_le _ _) ?_
          rw [List.length_take]
          omega
        · rw [upd_upd, et, hp, if_pos rfl, List.map_append]
          rfl
      | false =>
        rw [if_neg Bool.false_ne_true, et, hp, if_neg Bool.false_ne_true, List.append_nil]
  · subst h
    rw [List.take_of_length_le (by rw [hl]; exact Nat.le_refl _)]
    exact hd
end KM

set_option Elab.async false
set_option linter.all false
set_option maxRecDepth 100000
set_option maxHeartbeats 4000000
/-! Data at any depth with dicts in it; its repr; a row's end that knows where sys.modules is. -/
namespace KX
open PySem PySem.Spec PyProof.Rows L2 KT
def keyD : Key → PyData
  | .inl i => .int i
  | .inr x => .str x
/-! ### a value's data; M are addresses that may change -/
mutual
inductive Dx (M : Addr → Prop) (H : Hp) : V → PyData → Prop
  | non : Dx M H .non .none
  | bl (b : Bool) : Dx M H (.bl b) (.bool b)
  | int (i : Int) : Dx M H (.int i) (.int i)
  | str (x : Str) : Dx M H (.str x) (.str x)
  | lst {a : Addr} {xs : List V} {ds : List PyData} : ¬ M a → H a = some (.lst xs) → DxAll M H xs ds → Dx M H (.ref a) (.list ds)
  | tup {a : Addr} {xs : List V} {ds : List PyData} : H a = some (.tup xs) → DxAll M H xs ds → Dx M H (.ref a) (.tuple ds)
  | dk {a : Addr} {kvs : List (Key × V)} {ds : List (PyData × PyData)} : ¬ M a → H a = some (.dK kvs) → DxKv M H kvs ds → Dx M H (.ref a) (.dict ds)
inductive DxAll (M : Addr → Prop) (H : Hp) : List V → List PyData → Prop
  | nil : DxAll M H [] []
  | cons {v : V} {vs : List V} {d : PyData} {ds : List PyData} : Dx M H v d → DxAll M H vs ds → DxAll M H (v :: vs) (d :: ds)
inductive DxKv (M : Addr → Prop) (H : Hp) : List (Key × V) → List (PyData × PyData) → Prop
  | nil : DxKv M H [] []
  | cons {k : Key} {v : V} {r : List (Key × V)} {d : PyData} {ds : List (PyData × PyData)} : Dx M H v d → DxKv M H r ds → DxKv M H ((k, v) :: r) ((keyD k, d) :: ds)
end
/-- what is no table and may not change is kept; what may change is no tuple -/
structure Kp (M : Addr → Prop) (H H' : Hp) : Prop where
  st : ∀ a o, ¬ M a → (∀ ps, o ≠ .tbl ps) → H a = some o → H' a = some o
  tp : ∀ a xs, H a = some (.tup xs) → H' a = some (.tup xs)
theorem Kp.refl (M : Addr → Prop) (H : Hp) : Kp M H H := ⟨fun _ _ _ _ e => e, fun _ _ e => e⟩
theorem Kp.trans {M : Addr → Prop} {H H1 H2 : Hp} (a : Kp M H H1) (b : Kp M H1 H2) : Kp M H H2 := ⟨fun c o n t e => b.st c o n t (a.st c o n t e), fun c xs e => b.tp c xs (a.tp c xs e)⟩
theorem Kp.same {M : Addr → Prop} {H H' : Hp} (s : Same H H') : Kp M H H' := ⟨fun a o _ _ e => s a o e, fun a xs e => s a _ e⟩
theorem Kp.less {M N : Addr → Prop} {H H' : Hp} (k : Kp M H H') (h : ∀ a, M a → N a) : Kp N H H' := ⟨fun a o n => k.st a o fun z => n (h a z), k.tp⟩
mutual
theorem Dx.kp {M : Addr → Prop} {H H' : Hp} (k : Kp M H H') : ∀ (d : PyData) (v : V), Dx M H v d → Dx M H' v d
  | .none, _, h => by
    cases h
    exact .non
  | .bool b, _, h => by
    cases h
    exact .bl b
  | .int i, _, h => by
    cases h
    exact .int i
  | .str x, _, h => by
    cases h
    exact .str x
  | .list ds, _, h => by
    cases h with
    | lst n e r => exact .lst n (k.st _ _ n (fun _ z => by cases z) e) (Dx.kpAll k ds _ r)
  | .tuple ds, _, h => by
    cases h with
    | tup e r => exact .tup (k.tp _ _ e) (Dx.kpAll k ds _ r)
  | .dict ds, _, h => by
    cases h with
    | dk n e r => exact .dk n (k.st _ _ n (fun _ z => by cases z) e) (Dx.kpKv k ds _ r)
theorem Dx.kpAll {M : Addr → Prop} {H H' : Hp} (k : Kp M H H') : ∀ (ds : List PyData) (vs : List V), DxAll M H vs ds → DxAll M H' vs ds
  | [], _, h => by
    cases h
    exact .nil
  | d :: ds, _, h => by
    cases h with
    | cons h1 h2 => exact .cons (Dx.kp k d _ h1) (Dx.kpAll k ds _ h2)
theorem Dx.kpKv {M : Addr → Prop} {H H' : Hp} (k : Kp M H H') : ∀ (ds : List (PyData × PyData)) (vs : List (Key × V)), DxKv M H vs ds → DxKv M H' vs ds
  | [], _, h => by
    cases h
    exact .nil
  | (_, d) :: ds, _, h => by
    cases h with
    | cons h1 h2 => exact .cons (Dx.kp k d _ h1) (Dx.kpKv k ds _ h2)
end
theorem DxAll.length {M : Addr → Prop} {H : Hp} : ∀ {vs : List V} {ds : List PyData}, DxAll M H vs ds → vs.length = ds.length
  | [], [], _ => rfl
  | _ :: _, _ :: _, h => by
    cases h with
    | cons _ h2 => simp [DxAll.length h2]
  | [], _ :: _, h => by cases h
  | _ :: _, [], h => by cases h
theorem DxAll.at {M : Addr → Prop} {H : Hp} : ∀ {vs : List V} {ds : List PyData} {i : Nat} {v : V}, DxAll M H vs ds → vs[i]? = some v → ∃ d, ds[i]? = some d ∧ Dx M H v d
  | [], _, _, _, _, e => by simp at e
  | _ :: _, [], _, _, h, _ => by cases h
  | x :: vs, d :: ds, i, v, h, e => by
    cases h with
    | cons h1 h2 =>
      cases i with
      | zero =>
        cases e
        exact ⟨d, rfl, h1⟩
      | succ i => exact DxAll.at (i := i) h2 (by simpa using e)
theorem DxAll.app {M : Addr → Prop} {H : Hp} : ∀ {vs ws : List V} {ds es : List PyData}, DxAll M H vs ds → DxAll M H ws es → DxAll M H (vs ++ ws) (ds ++ es)
  | [], _, [], _, _, h => h
  | _ :: _, _, _ :: _, _, h, k => by
    cases h with
    | cons h1 h2 => exact .cons h1 (DxAll.app h2 k)
  | [], _, _ :: _, _, h, _ => by cases h
  | _ :: _, _, [], _, h, _ => by cases h
theorem DxAll.take {M : Addr → Prop} {H : Hp} : ∀ {vs : List V} {ds : List PyData} (n : Nat), DxAll M H vs ds → DxAll M H (vs.take n) (ds.take n)
  | _, _, 0, _ => .nil
  | [], [], _ + 1, _ => .nil
  | _ :: _, _ :: _, n + 1, h => by
    cases h with
    | cons h1 h2 => exact .cons h1 (DxAll.take n h2)
  | [], _ :: _, _ + 1, h => by cases h
  | _ :: _, [], _ + 1, h => by cases h
theorem DxAll.drop {M : Addr → Prop} {H : Hp} : ∀ {vs : List V} {ds : List PyData} (n : Nat), DxAll M H vs ds → DxAll M H (vs.drop n) (ds.drop n)
  | _, _, 0, h => h
  | [], [], _ + 1, _ => .nil
  | _ :: _, _ :: _, n + 1, h => by
    cases h with
    | cons h1 h2 => exact DxAll.drop n h2
  | [], _ :: _, _ + 1, h => by cases h
  | _ :: _, [], _ + 1, h => by cases h
theorem DxAll.rev {M : Addr → Prop} {H : Hp} : ∀ {vs : List V} {ds : List PyData}, DxAll M H vs ds → DxAll M H vs.reverse ds.reverse
  | [], [], h => h
  | _ :: _, _ :: _, h => by
    cases h with
    | cons h1 h2 =>
      rw [List.reverse_cons, List.reverse_cons]
      exact (DxAll.rev h2).app (.cons h1 .nil)
  | [], _ :: _, h => by cases h
  | _ :: _, [], h => by cases h
/-! ### such a value reads as its data -/
section
variable {X : Cx} {pins : List (Addr × Obj)} {σ : L2.St} {H : Hp} {s : Shared} {M : Addr → Prop}
theorem kv_reads {P : Program} {w : World} : ∀ {kvs : List (Key × V)} {vs : List (Key × Value)} {es : List DictEntry}, KV kvs vs → Pairs (mixKind P w) es vs →
    (∀ h : Heap, ∃ as, ReadsAll h (es.map (·.key)) (kvs.map fun p => keyD p.1) as ∧ sysModules ∉ as) ∧ Vals (kvs.map (·.2)) (es.map (·.val))
  | [], [], [], _, _ => ⟨fun _ => ⟨[], .nil, fun h => by cases h⟩, .nil⟩
  | (k, v) :: kvs, (k', v') :: vs, e :: es, r, p => by
    cases r with
    | cons r1 r2 =>
      cases p with
      | cons p1 p2 p3 =>
        obtain ⟨h1, h2⟩ := kv_reads r2 p3
        obtain ⟨rk, rv⟩ := r1
        dsimp only at rk rv p2
        subst rk
        refine ⟨fun h => ?_, ?_⟩
        · obtain ⟨as, q, nq⟩ := h1 h
          have key : Reads h e.key (keyD k) [] := by
            rcases keyIs_shape p1 with ⟨i, t, e1, e2⟩ | ⟨x, t, e1, e2⟩
            · rw [show k = Sum.inl i from e1, e2]
              exact .int i t
            · rw [show k = Sum.inr x from e1, e2]
              exact .str x t
          exact ⟨[] ++ as, .cons key q, nq⟩
        · refine .cons ?_ h2
          show L2.RelV v e.val
          rw [p2]
          exact rv
  | [], _ :: _, _, r, _ => by cases r
  | _ :: _, [], _, r, _ => by cases r
  | _, [], _ :: _, _, p => by cases p
  | _, _ :: _, [], _, p => by cases p
theorem not_mods {base : Heap} (hm : HasMods base) (hb : ∀ b o, base.get? b = some o → s.heap.get? b = some o) {a : Addr} {o : Obj} {vs : Array Value} {n : Nat} (e : s.heap.get? a = some o) (hd : o.data = .seq vs n) : a ≠ sysModules := fun z => by
  obtain ⟨mm, o2, es, ep, e2, d2, _⟩ := hm
  have q := hb _ _ e2
  rw [← z, e] at q
  cases q
  rw [hd] at d2
  cases d2
theorem kv_split {M : Addr → Prop} {H : Hp} : ∀ {kvs : List (Key × V)} {ds : List (PyData × PyData)}, DxKv M H kvs ds → (ds.map (·.1)) = kvs.map (fun p => keyD p.1) ∧ DxAll M H (kvs.map (·.2)) (ds.map (·.2))
  | [], [], _ => ⟨rfl, .nil⟩
  | (k, v) :: r, (k', d) :: ds, h => by
    cases h with
    | cons h1 h2 =>
      obtain ⟨q1, q2⟩ := kv_split h2
      exact ⟨by rw [List.map_cons, List.map_cons, q1], .cons h1 q2⟩
  | [], _ :: _, h => by cases h
  | _ :: _, [], h => by cases h
mutual
theorem Dx.reads (hm : HasMods X.base) (I : Inv X pins σ H s) : ∀ (d : PyData) (v : V) (u : Value), Dx M H v d → RelV v u → ∃ as, Reads s.heap u d as ∧ sysModules ∉ as
  | .none, _, _, h, r => by
    cases h
    cases r
    exact ⟨_, Reads.none, fun h => by cases h⟩
  | .bool b, _, _, h, r => by
    cases h
    cases r
    exact ⟨_, Reads.bool b, fun h => by cases h⟩
  | .int i, _, _, h, r => by
    cases h
    obtain ⟨t, rfl⟩ := r
    exact ⟨_, Reads.int i t, fun h => by cases h⟩
  | .str x, _, _, h, r => by
    cases h
    obtain ⟨t, rfl⟩ := r
    exact ⟨_, Reads.str x t, fun h => by cases h⟩
  | .list ds, _, _, h, r => by
    cases h with
    | lst n e ha =>
      cases r
      obtain ⟨z, its, n, rv, hl, ho⟩ := I.lstM e
      obtain ⟨as, hr, nr⟩ := Dx.readsAll hm I ds _ its ha rv
      refine ⟨_, Reads.list ho rfl rfl (by simpa using hr), fun hz => ?_⟩
      rcases List.mem_cons.mp hz with hz | hz
      · exact not_mods hm I.bk ho rfl hz.symm
      · exact nr hz
  | .tuple ds, _, _, h, r => by
    cases h with
    | tup e ha =>
      cases r
      obtain ⟨its, rv, ⟨o, ho, hc, n, hd⟩, _⟩ := I.tuple (SqT.of e)
      obtain ⟨as, hr, nr⟩ := Dx.readsAll hm I ds _ its ha rv
      exact ⟨_, Reads.tuple ho hc hd (by simpa using hr), nr⟩
  | .dict ds, _, _, h, r => by
    cases h with
    | dk n e ha =>
      cases r
      obtain ⟨_, nm, vs, rv, o, es, ep, ho, hx, hd, _, hp, _⟩ := dk_of I.hok e
      obtain ⟨q1, q2⟩ := kv_reads rv hp
      obtain ⟨w1, w2⟩ := kv_split ha
      obtain ⟨as, hr, nr⟩ := q1 s.heap
      obtain ⟨bs, hs, ns⟩ := Dx.readsKv hm I ds _ _ w2 q2
      refine ⟨_, Reads.dict ho hx.1 hd (by rw [w1]; exact hr) hs, fun hz => ?_⟩
      rcases List.mem_append.mp hz with hz | hz
      · rcases List.mem_cons.mp hz with hz | hz
        · rw [← hz] at nm
          simp at nm
        · exact nr hz
      · exact ns hz
theorem Dx.readsAll (hm : HasMods X.base) (I : Inv X pins σ H s) : ∀ (ds : List PyData) (vs : List V) (us : List Value), DxAll M H vs ds → Vals vs us → ∃ as, ReadsAll s.heap us ds as ∧ sysModules ∉ as
  | [], _, _, h, r => by
    cases h
    cases r
    exact ⟨_, ReadsAll.nil, fun h => by cases h⟩
  | d :: ds, _, _, h, r => by
    cases h with
    | cons h1 h2 =>
      cases r with
      | cons r1 r2 =>
        obtain ⟨as, q1, n1⟩ := Dx.reads hm I d _ _ h1 r1
        obtain ⟨bs, q2, n2⟩ := Dx.readsAll hm I ds _ _ h2 r2
        exact ⟨_, ReadsAll.cons q1 q2, fun hz => (List.mem_append.mp hz).elim n1 n2⟩
theorem Dx.readsKv (hm : HasMods X.base) (I : Inv X pins σ H s) : ∀ (ds : List (PyData × PyData)) (vs : List V) (us : List Value), DxAll M H vs (ds.map (·.2)) → Vals vs us → ∃ as, ReadsAll s.heap us (ds.map (·.2)) as ∧ sysModules ∉ as
  | [], _, _, h, r => by
    cases h
    cases r
    exact ⟨_, ReadsAll.nil, fun h => by cases h⟩
  | (_, d) :: ds, _, _, h, r => by
    cases h with
    | cons h1 h2 =>
      cases r with
      | cons r1 r2 =>
        obtain ⟨as, q1, n1⟩ := Dx.reads hm I d _ _ h1 r1
        obtain ⟨bs, q2, n2⟩ := Dx.readsKv hm I ds _ _ h2 r2
        exact ⟨_, ReadsAll.cons q1 q2, fun hz => (List.mem_append.mp hz).elim n1 n2⟩
end
/-- repr of any such value -/
def rReprX (M : Addr → Prop) : List V → Hp → VK → Prop := fun xs H Q => ∃ v d, xs = [v] ∧ Dx M H v d ∧ d.showable = true ∧ d.depth ≤ 150 ∧ d.shown.length ≤ sizeLine ∧ Q (.str d.shown) H
theorem call_reprX {k : Nat} (hr : Room k X.A) (hg : X.A.guards = some []) (hm : HasMods X.base) (M : Addr → Prop) : CallR X (.builtin "repr") (rReprX M) := by
  intro pins s σ H xs us Q I r h
  obtain ⟨v, d, rfl, hd, hs, hdep, hsz, q⟩ := h
  obtain ⟨u, rfl, r1⟩ := vals1 r
  have hu := hr.un
  have heap : ∀ {a : Addr}, v = .ref a → wpAny (model X.prog X.w) X.A (call (.builtin "repr") [u]) (EP X pins σ Q) X.xe s := fun {a} e => by
    subst e
    cases (show u = Value.ref a from r1)
    obtain ⟨as, hrd, nr⟩ := Dx.reads hm I d _ _ hd rfl
    refine PySem.repr_of_reads' hrd hs (fun _ => nr) hg (by omega) (fun b o e => e) (fun h' u tk kk => ?_) hsz
    exact ⟨.str d.shown, H, I.kept (t' := tk) kk, ⟨u, rfl⟩, q⟩
  cases hd with
  | non =>
    cases r1
    exact PySem.P.repr_of_none ⟨.str _, H, I.tok _, ⟨_, rfl⟩, q⟩
  | bl b =>
    cases r1
    exact PySem.P.repr_of_bool ⟨.str _, H, I.tok _, ⟨_, rfl⟩, q⟩
  | int i =>
    obtain ⟨t, rfl⟩ := r1
    exact PySem.P.repr_of_int (of_decide_eq_true hs) ⟨.str _, H, I.tok _, ⟨_, rfl⟩, q⟩
  | str x =>
    obtain ⟨t, rfl⟩ := r1
    exact PySem.P.repr_of_str ⟨.str _, H, I.tok _, ⟨_, rfl⟩, q⟩ hsz
  | lst n e r => exact heap rfl
  | tup e r => exact heap rfl
  | dk n e r => exact heap rfl
end
end KX

set_option Elab.async false
set_option linter.all false
set_option maxRecDepth 100000
set_option maxHeartbeats 4000000
/-! Any value against a text: ==, !=, in a tuple of texts. -/
namespace KQ
open PySem PySem.Spec PyProof.Rows L2 KT KX PySem.SeqAt
theorem sub_sd : isSubtype (.type "str") (.type "dict") = pure false := by rw [isSubtype_type]; kernel_rfl
theorem sub_ds : isSubtype (.type "dict") (.type "str") = pure false := by rw [isSubtype_type]; kernel_rfl
theorem dict_eq_no (l : Addr) (es : Array DictEntry) (ep : Nat) (dd : Option Addr) (sl : Array (Option Value)) (b : Str) (u : Tok) :
    Meets (Builtin.«dict.__eq__» ⟨[.ref l, .str b u], []⟩) (fun _ R s => s.heap.get? l = some { cls := .type "dict", dict := dd, data := .dict es ep, slots := sl } ∧ R (.ok (.ret .notImplemented)) s) :=
  .of_wp fun prog w A R s h => by obtain ⟨hp, g, d, tk, os⟩ := s; obtain ⟨hl, h⟩ := h; have f1 := sub_sd; wp_walk using wpAny_loadPart' hl, wpAny_load hl; exact ⟨_, rfl, h⟩
theorem dict_ne_no (l : Addr) (es : Array DictEntry) (ep : Nat) (dd : Option Addr) (sl : Array (Option Value)) (b : Str) (u : Tok) :
    Meets (Builtin.«dict.__ne__» ⟨[.ref l, .str b u], []⟩) (fun _ R s => s.heap.get? l = some { cls := .type "dict", dict := dd, data := .dict es ep, slots := sl } ∧ R (.ok (.ret .notImplemented)) s) :=
  .of_wp fun prog w A R s h => by obtain ⟨hp, g, d, tk, os⟩ := s; obtain ⟨hl, h⟩ := h; have f1 := sub_sd; wp_walk using wpAny_loadPart' hl, wpAny_load hl; exact ⟨_, rfl, h⟩
theorem str_eq_no (b : Str) (u : Tok) (l : Addr) (c : Value) (es : Array DictEntry) (ep : Nat) (dd : Option Addr) (sl : Array (Option Value)) :
    Meets (Builtin.«str.__eq__» ⟨[.str b u, .ref l], []⟩) (fun _ R s => s.heap.get? l = some { cls := c, dict := dd, data := .dict es ep, slots := sl } ∧ R (.ok (.ret .notImplemented)) s) :=
  .of_wp fun prog w A R s h => by obtain ⟨hp, g, d, tk, os⟩ := s; obtain ⟨hl, h⟩ := h; wp_walk using wpAny_loadPart' hl, wpAny_load hl; exact ⟨_, rfl, h⟩
theorem str_ne_no (b : Str) (u : Tok) (l : Addr) (c : Value) (es : Array DictEntry) (ep : Nat) (dd : Option Addr) (sl : Array (Option Value)) :
    Meets (Builtin.«str.__ne__» ⟨[.str b u, .ref l], []⟩) (fun _ R s => s.heap.get? l = some { cls := c, dict := dd, data := .dict es ep, slots := sl } ∧ R (.ok (.ret .notImplemented)) s) :=
  .of_wp fun prog w A R s h => by obtain ⟨hp, g, d, tk, os⟩ := s; obtain ⟨hl, h⟩ := h; wp_walk using wpAny_loadPart' hl, wpAny_load hl; exact ⟨_, rfl, h⟩
def IsDct (h : Heap) (l : Addr) : Prop := ∃ (dd : Option Addr) (es : Array DictEntry) (ep : Nat) (sl : Array (Option Value)), h.get? l = some { cls := .type "dict", dict := dd, data := .dict es ep, slots := sl }
section
variable {A : Around} {s : Shared} {l : Addr}
theorem rc_ds (b : Str) (u : Tok) (hl : IsDct s.heap l) (hu : A.units < cLine) : RcAt A s (.ref l) (.str b u) false := fun prog w E Q h => by
  obtain ⟨dd, es, ep, sl, ho⟩ := hl
  exact rc_eq_decline_or (k := false) ⟨_, ho, rfl⟩ (typeIs_str s b u) (by decide) sub_sd F.slot_dict_eq F.slot_str_eq_refl
    (fun _ hq => call_meets F.slot_dict_eq ⟨_, ho, rfl⟩ F.entry_dict_eq (F.args_dict_eq_2 _ _) (dict_eq_no l es ep dd sl b u) ⟨ho, hq⟩)
    (fun _ hq => call_meets F.slot_str_eq_refl (typeIs_str s b u) F.entry_str_eq (F.args_str_eq_2 _ _) (str_eq_no b u l (.type "dict") es ep dd sl) ⟨ho, hq⟩)
    (fun _ hq => wpAny_of_eq (rfl : isSame (.ref l) (.str b u) = pure false) hq) (.inr hu) h
theorem rc_sd (b : Str) (u : Tok) (hl : IsDct s.heap l) (hu : A.units < cLine) : RcAt A s (.str b u) (.ref l) false := fun prog w E Q h => by
  obtain ⟨dd, es, ep, sl, ho⟩ := hl
  exact rc_eq_decline_or (k := false) (typeIs_str s b u) ⟨_, ho, rfl⟩ (by decide) sub_ds F.slot_str_eq F.slot_dict_eq_refl
    (fun _ hq => call_meets F.slot_str_eq (typeIs_str s b u) F.entry_str_eq (F.args_str_eq_2 _ _) (str_eq_no b u l (.type "dict") es ep dd sl) ⟨ho, hq⟩)
    (fun _ hq => call_meets F.slot_dict_eq_refl ⟨_, ho, rfl⟩ F.entry_dict_eq (F.args_dict_eq_2 _ _) (dict_eq_no l es ep dd sl b u) ⟨ho, hq⟩)
    (fun _ hq => wpAny_of_eq (rfl : isSame (.str b u) (.ref l) = pure false) hq) (.inr hu) h
theorem eq_sd (b : Str) (u : Tok) (hl : IsDct s.heap l) (hu : A.units < cLine) : EqAt A s (.str b u) (.ref l) false := fun prog w E Q h => by
  unfold eqBool
  refine wpAny_holding ?_
  refine wpAny_ite_split (fun hab => absurd (eq_of_beq hab) nofun) (fun _ => ?_)
  exact wpAny_bind (rc_sd b u hl hu prog w E _ (wpAny_truthy_bool h))
theorem rn_ds (b : Str) (u : Tok) (hl : IsDct s.heap l) (hu : A.units < cLine) : RcNeAt A s (.ref l) (.str b u) true := fun prog w E Q h => by
  obtain ⟨dd, es, ep, sl, ho⟩ := hl
  exact rc_ne_decline_or (k := false) ⟨_, ho, rfl⟩ (typeIs_str s b u) (by decide) sub_sd F.slot_dict_ne F.slot_str_ne_refl
    (fun _ hq => call_meets F.slot_dict_ne ⟨_, ho, rfl⟩ F.entry_dict_ne (F.args_dict_ne_2 _ _) (dict_ne_no l es ep dd sl b u) ⟨ho, hq⟩)
    (fun _ hq => call_meets F.slot_str_ne_refl (typeIs_str s b u) F.entry_str_ne (F.args_str_ne_2 _ _) (str_ne_no b u l (.type "dict") es ep dd sl) ⟨ho, hq⟩)
    (fun _ hq => wpAny_of_eq (rfl : isSame (.ref l) (.str b u) = pure false) hq) (.inr hu) h
end
section
variable {X : Cx} {pins : List (Addr × Obj)} {σ : L2.St} {H : Hp} {s : Shared} {M : Addr → Prop} {A : Around}
def isT (v : V) (z : Str) : Bool := decide (v = .str z)
theorem isT_str (x z : Str) : isT (.str x) z = (x == z) := by
  unfold isT
  by_cases h : x = z
  · subst h
    simp
  · have : ¬ V.str x = V.str z := fun e => h (by cases e; rfl)
    rw [decide_eq_false this]
    exact (beq_eq_false_iff_ne.mpr h).symm
theorem isT_strR (x z : Str) : isT (.str x) z = (z == x) := by
  rw [isT_str]
  exact Bool.beq_comm ..
theorem dct_of {kvs : List (Key × V)} (ok : HOk X.prog X.w H s.heap) {a : Addr} (e : H a = some (.dK kvs)) : IsDct s.heap a := by
  obtain ⟨_, _, vs, _, o, es, ep, ho, hx, hd, _⟩ := dk_of ok e
  obtain ⟨cls, dd, data, sl⟩ := o
  obtain ⟨h1, _, _⟩ := hx
  dsimp only at h1 hd
  subst h1 hd
  exact ⟨_, _, _, _, ho⟩
theorem rc_any (I : Inv X pins σ H s) {v : V} {d : PyData} {u : Value} {z : Str} {t : Tok} (h : Dx M H v d) (r : RelV v u) (hu : A.units < cLine) : RcAt A s u (.str z t) (isT v z) := by
  cases h with
  | non => cases r; exact RcAt.none_str z t
  | bl b => cases r; exact RcAt.bool_str b z t
  | int i => obtain ⟨t', rfl⟩ := r; exact RcAt.int_str i t' z t
  | str x =>
    obtain ⟨t', rfl⟩ := r
    rw [isT_str]
    exact RcAt.str_str x t' z t
  | lst n e ha =>
    cases r
    obtain ⟨_, its, k, _, _, ho⟩ := I.lstM e
    exact RcAt.list_str (items := its.toArray) z t ⟨_, ho, rfl, k, rfl⟩ hu
  | tup e ha =>
    cases r
    obtain ⟨its, _, p, _⟩ := I.tuple (SqT.of e)
    exact RcAt.tuple_str z t p hu
  | dk n e ha => cases r; exact rc_ds z t (dct_of I.hok e) hu
theorem rn_any (I : Inv X pins σ H s) {v : V} {d : PyData} {u : Value} {z : Str} {t : Tok} (h : Dx M H v d) (r : RelV v u) (hu : A.units < cLine) : RcNeAt A s u (.str z t) (!isT v z) := by
  cases h with
  | non => cases r; exact RcNeAt.none_str z t
  | bl b => cases r; exact RcNeAt.bool_str b z t
  | int i => obtain ⟨t', rfl⟩ := r; exact RcNeAt.int_str i t' z t
  | str x =>
    obtain ⟨t', rfl⟩ := r
    rw [isT_str]
    exact RcNeAt.str_str x t' z t
  | lst n e ha =>
    cases r
    obtain ⟨_, its, k, _, _, ho⟩ := I.lstM e
    exact RcNeAt.list_str (items := its.toArray) z t ⟨_, ho, rfl, k, rfl⟩ hu
  | tup e ha =>
    cases r
    obtain ⟨its, _, p, _⟩ := I.tuple (SqT.of e)
    exact RcNeAt.tuple_str z t p hu
  | dk n e ha => cases r; exact rn_ds z t (dct_of I.hok e) hu
theorem eq_any (I : Inv X pins σ H s) {v : V} {d : PyData} {u : Value} {z : Str} {t : Tok} (h : Dx M H v d) (r : RelV v u) (hu : A.units < cLine) : EqAt A s (.str z t) u (isT v z) := by
  cases h with
  | non => cases r; exact EqAt.str_none z t
  | bl b => cases r; exact EqAt.str_bool z t b
  | int i => obtain ⟨t', rfl⟩ := r; exact EqAt.str_int z t i t'
  | str x =>
    obtain ⟨t', rfl⟩ := r
    rw [isT_strR]
    exact EqAt.str_str z t x t'
  | lst n e ha =>
    cases r
    obtain ⟨_, its, k, _, _, ho⟩ := I.lstM e
    exact EqAt.str_list (items := its.toArray) z t ⟨_, ho, rfl, k, rfl⟩ hu
  | tup e ha =>
    cases r
    obtain ⟨its, _, p, _⟩ := I.tuple (SqT.of e)
    exact EqAt.str_tuple z t p hu
  | dk n e ha => cases r; exact eq_sd z t (dct_of I.hok e) hu
end
section
variable {X : Cx} {k : Nat}
/-- any value == a text -/
def rEqT (M : Addr → Prop) : R2 := fun x y H Q => ∃ d z, Dx M H x d ∧ y = .str z ∧ Q (.bl (isT x z)) H
def rNeT (M : Addr → Prop) : R2 := fun x y H Q => ∃ d z, Dx M H x d ∧ y = .str z ∧ Q (.bl (!isT x z)) H
theorem op_eqT (hr : Room k X.A) (M : Addr → Prop) : OpR X (compareOp .Eq) (rEqT M) := by
  intro pins s σ H x y v u Q I rx ry h
  obtain ⟨d, z, hd, rfl, q⟩ := h
  obtain ⟨t, rfl⟩ := ry
  exact rc_any I hd rx (by have := hr.un; omega) X.prog X.w X.xe _ ⟨.bl _, H, I, rfl, q⟩
theorem op_neT (hr : Room k X.A) (M : Addr → Prop) : OpR X (compareOp .NotEq) (rNeT M) := by
  intro pins s σ H x y v u Q I rx ry h
  obtain ⟨d, z, hd, rfl, q⟩ := h
  obtain ⟨t, rfl⟩ := ry
  exact rn_any I hd rx (by have := hr.un; omega) X.prog X.w X.xe _ ⟨.bl _, H, I, rfl, q⟩
/-- any value in a tuple of texts -/
def rInT (M : Addr → Prop) (K : PySem.W.Frag) : R2 := fun x y H Q => ∃ d p, ∃ zs : List Str, Dx M H x d ∧ y = .ref p ∧ SqT K H p (zs.map V.str) ∧ Q (.bl (zs.any fun z => isT x z)) H
theorem op_inT (hr : Room (k + 1) X.A) (M : Addr → Prop) : OpR X (compareOp .In) (rInT M X.K) := by
  intro pins s σ H x y v u Q I rx ry h
  obtain ⟨d, p, zs, hd, rfl, hp, q⟩ := h
  cases ry
  obtain ⟨its, r, pl, hz⟩ := I.tuple hp
  have hu : X.A.in1.units < cLine := by have := hr.in1.un; omega
  have key : ∀ {zs : List Str} {its : List Value}, Vals (zs.map V.str) its → (∀ y ∈ its, ∃ z t, y = .str z t) ∧ ∀ e : Value → Bool, (∀ z t, e (.str z t) = isT x z) → its.any e = zs.any fun z => isT x z := by
    intro zs
    induction zs with
    | nil =>
      intro its r
      cases r
      exact ⟨(fun y hy => by cases hy), fun e _ => rfl⟩
    | cons a zs ih =>
      intro its r
      cases r with
      | cons r1 r2 =>
        obtain ⟨t, rfl⟩ := r1
        obtain ⟨h1, h2⟩ := ih r2
        exact ⟨fun y hy => (List.mem_cons.mp hy).elim (fun e => ⟨a, t, e⟩) (h1 y), fun e he => by rw [List.any_cons, List.any_cons, he, h2 e he]⟩
  obtain ⟨k1, k2⟩ := key r
  let e : Value → Bool := fun y => match y with
    | .str z _ => isT x z
    | _ => false
  refine SeqAt.in_tupleAt e pl (fun y hy => ?_) ⟨.bl _, H, I, rfl, ?_⟩
  · obtain ⟨z, t, rfl⟩ := k1 y (by simpa using hy)
    exact eq_any I hd rx hu
  · rw [show its.toArray.any e = its.any e by simp, k2 e fun _ _ => rfl]
    exact q
end
end KQ

set_option Elab.async false
set_option linter.all false
set_option maxRecDepth 100000
set_option maxHeartbeats 4000000
/-! A list or tuple against an empty one; a comprehension whose filter calls. -/
namespace KE0
open PySem PySem.Spec PyProof.Rows L2 KT KX PySem.SeqAt
section
variable {X : Cx} {k : Nat}
theorem emp_range {n : Nat} {e : Nat → Bool} (he : n = 0 → True) : ((List.range (min n 0)).all e && n == 0) = (n == 0) := by
  rw [Nat.min_zero]
  rfl
/-- a list == [] -/
def rEqE (K : PySem.W.Frag) : R2 := fun x y H Q => ∃ a b xs, x = .ref a ∧ y = .ref b ∧ ((SqL K H a xs ∧ SqL K H b []) ∨ (SqT K H a xs ∧ SqT K H b [])) ∧ Q (.bl xs.isEmpty) H
def rNeE (K : PySem.W.Frag) : R2 := fun x y H Q => ∃ a b xs, x = .ref a ∧ y = .ref b ∧ ((SqL K H a xs ∧ SqL K H b []) ∨ (SqT K H a xs ∧ SqT K H b [])) ∧ Q (.bl (!xs.isEmpty)) H
theorem vals_emp {xs : List V} {its : List Value} (r : Vals xs its) : (its.toArray.size == 0) = xs.isEmpty := by
  have e := r.length
  rw [List.size_toArray, ← e]
  cases xs <;> rfl
theorem op_eqE (hr : Room k X.A) : OpR X (compareOp .Eq) (rEqE X.K) := by
  intro pins s σ H x y v u Q I rx ry h
  obtain ⟨a, b, xs, rfl, rfl, hs, q⟩ := h
  cases rx
  cases ry
  have hu : X.A.units < cLine := by have := hr.un; omega
  rcases hs with ⟨h1, h2⟩ | ⟨h1, h2⟩
  · obtain ⟨its, r, pl, _⟩ := I.list h1
    obtain ⟨its2, r2, pl2, _⟩ := I.list h2
    cases r2
    have e := vals_emp r
    cases he : xs.isEmpty with
    | true =>
      rw [he] at e q
      have hz : its.toArray.size = 0 := eq_of_beq e
      refine RcAt.lists (e := fun _ => true) pl.isList pl2.isList hz hu (fun j h1 h2 => absurd h2 (by simp)) X.prog X.w X.xe _ ?_
      rw [hz]
      exact ⟨.bl true, H, I, rfl, q⟩
    | false =>
      rw [he] at e q
      exact RcAt.lists_lengths pl.isList pl2.isList (by simpa using e) hu X.prog X.w X.xe _ ⟨.bl false, H, I, rfl, q⟩
  · obtain ⟨its, r, pl, _⟩ := I.tuple h1
    obtain ⟨its2, r2, pl2, _⟩ := I.tuple h2
    cases r2
    have e := vals_emp r
    refine RcAt.tuples (e := fun _ => true) pl pl2 hu (fun j h1 h2 => absurd h2 (by simp)) X.prog X.w X.xe _ ?_
    have e3 : ((List.range (min its.toArray.size ([] : List Value).toArray.size)).all (fun _ => true) && its.toArray.size == ([] : List Value).toArray.size) = xs.isEmpty := by
      show ((List.range (min its.toArray.size 0)).all (fun _ => true) && its.toArray.size == 0) = xs.isEmpty
      rw [Nat.min_zero, e]
      rfl
    rw [e3]
    exact ⟨.bl _, H, I, rfl, q⟩
theorem op_neE (hr : Room k X.A) : OpR X (compareOp .NotEq) (rNeE X.K) := by
  intro pins s σ H x y v u Q I rx ry h
  obtain ⟨a, b, xs, rfl, rfl, hs, q⟩ := h
  cases rx
  cases ry
  have hu : X.A.units < cLine := by have := hr.un; omega
  rcases hs with ⟨h1, h2⟩ | ⟨h1, h2⟩
  · obtain ⟨its, r, pl, _⟩ := I.list h1
    obtain ⟨its2, r2, pl2, _⟩ := I.list h2
    cases r2
    have e := vals_emp r
    cases he : xs.isEmpty with
    | true =>
      rw [he] at e q
      have hz : its.toArray.size = 0 := eq_of_beq e
      refine RcNeAt.lists (e := fun _ => true) pl.isList pl2.isList hz hu (fun j h1 h2 => absurd h2 (by simp)) X.prog X.w X.xe _ ?_
      rw [hz]
      exact ⟨.bl false, H, I, rfl, q⟩
    | false =>
      rw [he] at e q
      exact RcNeAt.lists_lengths pl.isList pl2.isList (by simpa using e) hu X.prog X.w X.xe _ ⟨.bl true, H, I, rfl, q⟩
  · obtain ⟨its, r, pl, _⟩ := I.tuple h1
    obtain ⟨its2, r2, pl2, _⟩ := I.tuple h2
    cases r2
    have e := vals_emp r
    refine RcNeAt.tuples (e := fun _ => true) pl pl2 hu (fun j h1 h2 => absurd h2 (by simp)) X.prog X.w X.xe _ ?_
    have e3 : (!((List.range (min its.toArray.size ([] : List Value).toArray.size)).all (fun _ => true) && its.toArray.size == ([] : List Value).toArray.size)) = !xs.isEmpty := by
      show (!((List.range (min its.toArray.size 0)).all (fun _ => true) && its.toArray.size == 0)) = !xs.isEmpty
      rw [Nat.min_zero, e]
      rfl
    rw [e3]
    exact ⟨.bl _, H, I, rfl, q⟩
end
end KE0

set_option Elab.async false
set_option linter.all false
set_option maxRecDepth 100000
set_option maxHeartbeats 4000000
/-! enumerate(a tuple) -/
namespace PySem
open Builtin
set_option maxHeartbeats 1000000 in
theorem enT_new (l : Addr) (items : Array Value) (n : Nat) (dct : Option Addr) (sl : Array (Option Value)) :
    Meets (Builtin.«enumerate.__new__» ⟨[.type "enumerate", .ref l], []⟩) (fun _ R s => s.heap.get? l = some { cls := .type "tuple", dict := dct, data := .seq items n, slots := sl } ∧
      R (.ok (.ret (.ref (s.heap.push { cls := .type "tuple_iterator", data := .fields #[.ref l, .int 0 0] }).objs.size)))
        { s with heap := (s.heap.push { cls := .type "tuple_iterator", data := .fields #[.ref l, .int 0 0] }).push { cls := .type "enumerate", data := .fields #[.none, .bool false, .ref s.heap.objs.size, rawInt 0, .none, .none] } }) :=
  .of_wp fun prog w A R s h => by
    obtain ⟨hp, g, d, tk, os⟩ := s
    obtain ⟨hl, h⟩ := h
    have hL : hp.IsTuple l items := ⟨_, hl, rfl, n, rfl⟩
    have hsub := sub_enumerate
    wp_walk using wpAny_loadPart' hl, wpAny_pyIter_tuple hL
    refine wpAny_stack_any fun st => wpAny_pure ?_
    split
    · rename_i c _ _ _ _ _
      cases (c == Value.type "enumerate")
      · wp_walk using wpAny_loadPart' hl, wpAny_pyIter_tuple hL
        exact ⟨_, rfl, h⟩
      · wp_walk using wpAny_loadPart' hl, wpAny_pyIter_tuple hL
        exact ⟨_, rfl, h⟩
    · wp_walk using wpAny_loadPart' hl, wpAny_pyIter_tuple hL
      exact ⟨_, rfl, h⟩
section
variable {prog : Program} {w : World} {A : Around} {E : Value → Shared → Prop} {s : Shared}
theorem enT_call {l : Addr} {items : Array Value} {Q : Value → Shared → Prop} (hL : s.heap.IsTuple l items)
    (h : ∀ h', IsEnum h' (s.heap.objs.size + 1) s.heap.objs.size 0 .none → h'.IsTupleIter s.heap.objs.size l 0 → h'.objs.size = s.heap.objs.size + 2 →
      (∀ b o, s.heap.get? b = some o → h'.get? b = some o) → Q (.ref (s.heap.objs.size + 1)) { s with heap := h' }) :
    wpAny (model prog w) A (call (.type "enumerate") [.ref l]) Q E s := by
  obtain ⟨⟨c, dct, dt, sl⟩, hl, hc, n, hd⟩ := hL
  dsimp only at hc hd
  subst hc hd
  refine callType_new F.called_enumerate (by decide) (F.typeCall_enumerate_1 _) (F.newCall_enumerate_1 _) (fun obj => F.args_object_init_2 obj _) F.entry_enumerate_new (enT_new l items n dct sl) ⟨hl, ?_⟩
  have sz : (s.heap.push { cls := .type "tuple_iterator", data := .fields #[.ref l, .int 0 0] }).objs.size = s.heap.objs.size + 1 := Heap.size_push ..
  show _ ∧ _
  rw [sz]
  have en : IsEnum ((s.heap.push { cls := .type "tuple_iterator", data := .fields #[.ref l, .int 0 0] }).push
      { cls := .type "enumerate", data := .fields #[.none, .bool false, .ref s.heap.objs.size, rawInt 0, .none, .none] }) (s.heap.objs.size + 1) s.heap.objs.size 0 .none := by
    have q := Heap.get?_push_size (s.heap.push { cls := .type "tuple_iterator", data := .fields #[.ref l, .int 0 0] })
      (o := { cls := .type "enumerate", data := .fields #[.none, .bool false, .ref s.heap.objs.size, rawInt 0, .none, .none] }) rfl
    rw [sz] at q
    exact q
  exact ⟨⟨_, en, rfl⟩, h _ en ⟨_, Heap.get?_push_of_some _ (Heap.get?_push_size _ rfl), rfl, rfl⟩ (by rw [Heap.size_push, sz]) fun b o x => Heap.get?_push_of_some _ (Heap.get?_push_of_some _ x)⟩
end
end PySem
namespace EN
open PySem PySem.Spec PyProof.Rows L2
/-- the tuple at a, each item in a new pair with its place -/
def IteT (K : PySem.W.Frag) (a : Addr) : It :=
  ⟨fun i H => ∃ (xs : List V) (x : V), SqT K H a xs ∧ xs[i]? = some x, fun i H v H' => ∃ T x, v = .ref T ∧ H T = none ∧ H' = upd H T (.tup [.int (i : Nat), x]) ∧ ∀ xs, SqT K H a xs → xs[i]? = some x, fun i H => ∃ xs : List V, SqT K H a xs ∧ xs.length = i⟩
theorem turnT {P : Program} {w : World} {K : PySem.W.Frag} {elts : List Expr} {kk : Nat} {tpos : Pos} (a e it : Addr) :
    Turn P w K (.Tuple elts kk tpos) (IteT K a) [e, it] e (fun i h => (∃ old, IsEnum h e it ((i : Nat) : Int) old) ∧ h.IsTupleIter it a i ∧ e ≠ it) where
  mem := by simp
  obj := fun i h st b hb => by
    obtain ⟨⟨old, he⟩, ⟨o, ho, hc, hd⟩, _⟩ := st
    rcases (show b = e ∨ b = it by simpa using hb) with z | z
    · rw [z]
      exact ⟨_, he, fun v q => nomatch q⟩
    · rw [z]
      exact ⟨o, ho, fun v q => by rw [hd] at q; cases q⟩
  keep := fun i h h' st k => let ⟨⟨old, he⟩, hi, hne⟩ := st; ⟨⟨old, k e (by simp) _ he⟩, hi.at fun o q => k it (by simp) o q, hne⟩
  item := by
    intro X hP hw hK hc i pins s σ H E I hf st hg
    subst hP hw hK
    obtain ⟨⟨old, he⟩, hit, hne⟩ := st
    obtain ⟨xs, x, hq, hx⟩ := hg
    obtain ⟨its, rv, p, hz⟩ := I.tuple hq
    obtain ⟨u, hu, ru⟩ := rv.get hx
    have hel : e < s.heap.objs.size := Heap.lt_size he
    have hil : it < s.heap.objs.size := by obtain ⟨_, q, _⟩ := hit; exact Heap.lt_size q
    have hi : i < its.toArray.size := by
      rw [List.size_toArray]
      exact (List.getElem?_eq_some_iff.mp hu).1
    have hta : a ≠ it := fun z => by
      obtain ⟨o, ho, hc1, _⟩ := hit
      obtain ⟨o2, ho2, hc2, _⟩ := p
      rw [z, ho] at ho2
      cases ho2
      rw [hc1] at hc2
      simp at hc2
    have hea : e ≠ a := fun z => by
      obtain ⟨o2, ho2, hc2, _⟩ := p
      rw [← z, he] at ho2
      cases ho2
      simp at hc2
    refine wpAny_pyNext_enum_itemD (Draws.tuple (A := X.A.in1) (show X.A.in1.handled = none from I.ok.hd hc) it a hta its.toArray) he ⟨hit, p⟩ hi hne (by simp [hne, hea]) fun y h' tk hy ho hst hT hsz hk => ?_
    have ey : y = u := by
      have h3 : its.toArray[i]? = some u := by simpa using hu
      rw [h3] at hy
      exact (Option.some.inj hy).symm
    subst ey
    refine ⟨_, rfl, wpAny_letOwnedTupleGo_enum (s := { s with heap := h', toks := tk + 1 }) ho fun h'' he' sb => ?_⟩
    have hT2 : h''.get? s.heap.objs.size = some { cls := .type "tuple", data := .seq #[.int i tk, y] } := (sb.2 _ (Nat.ne_of_gt hel)).trans hT
    have new : ObjOk X.prog X.w (upd H s.heap.objs.size (.tup [.int (i : Nat), x])) h'' s.heap.objs.size (.tup [.int (i : Nat), x]) :=
      ⟨by show 2 ≤ sizeLine; decide, [.int i tk, y], .cons ⟨_, rfl⟩ (.cons ru .nil), ⟨_, hT2, rfl, _, rfl⟩⟩
    have I1 : Inv X pins σ (upd H s.heap.objs.size (.tup [.int (i : Nat), x])) { s with heap := h'', toks := tk + 1 } :=
      I.turnedNew (ch := [e, it]) (fun b ob hb q => (sb.2 b (fun z => hb (by simp [z]))).trans (hk b ob (fun z => hb (by simp [z])) (fun z => hb (by simp [z])) q)) hf (Nat.le_refl _) new
    refine ⟨.ref s.heap.objs.size, _, I1, rfl, ⟨_, x, rfl, I.hok.fresh (Nat.le_refl _), rfl, fun ys hy => by rw [I.tuple_inj hy hq]; exact hx⟩, ⟨⟨y, ?_⟩, hst.1.at fun o q => (sb.2 it (Ne.symm hne)).trans q, hne⟩, fun b hb => ?_⟩
    · have e1 : ((i + 1 : Nat) : Int) = (i : Int) + 1 := by omega
      rw [e1]
      exact he'
    · have hb' : b < s.heap.objs.size := by
        rcases (show b = e ∨ b = it by simpa using hb) with z | z
        · rw [z]
          exact hel
        · rw [z]
          exact hil
      rw [upd_ne (Nat.ne_of_lt hb')]
      exact (hf b hb).1
  done := by
    intro X hP hw hK hc i pins s σ H E I hf st hg
    subst hP hw hK
    obtain ⟨⟨old, he⟩, hit, hne⟩ := st
    obtain ⟨xs, hq, hx⟩ := hg
    obtain ⟨its, rv, p, hz⟩ := I.tuple hq
    obtain ⟨f0, f1, f2, f3, f4, f5⟩ := hf it (by simp)
    have hl := rv.length
    have hta : a ≠ it := fun z => by
      obtain ⟨o, ho, hc1, _⟩ := hit
      obtain ⟨o2, ho2, hc2, _⟩ := p
      rw [z, ho] at ho2
      cases ho2
      rw [hc1] at hc2
      simp at hc2
    have hn : its.toArray.size = i := by
      rw [List.size_toArray, ← hl]
      exact hx
    subst hn
    exact wpAny_pyNext_enum_endD (Draws.tuple (A := X.A.in1) (show X.A.in1.handled = none from I.ok.hd hc) it a hta its.toArray) he ⟨hit, p⟩ fun h' eb => ⟨rfl, I.turned (t' := s.toks) (fun b o hb e => eb b o hb e) f0 f1 f3 f4 f5⟩
  self := fun A i s Q E st h => let ⟨⟨_, he⟩, _⟩ := st; wpAny_pyIter_enum he h
def iEnumT (K : PySem.W.Frag) (ta : TA) : TI := fun σ H R => ta σ H fun vs H1 => ∃ a xs, vs = [.ref a] ∧ SqT K H1 a xs ∧ R (IteT K a) H1
theorem pi_enumT {X : Cx} {e : Expr} {ta : TA} {p pos tpos : Pos} {elts : List Expr} {kk : Nat} (hg : Gl X "enumerate") (hm : X.mg "enumerate" = none) (ha : PA X [e] ta) (hs : starEach [e] X.env = [(false, eval e X.env)] := by rfl) :
    PI X (.Tuple elts kk tpos) (.Call (.Name "enumerate" p) [e] [] pos) (iEnumT X.K ta) := by
  refine ⟨fun pins s σ H R I h => ?_⟩
  refine Call_ (ld_blt I hg hm boot_enumerate (PyProof.Rows.callWith_type1 (thn (ha.run pos pins s σ H _ I h) fun us s1 ⟨vs, H1, I1, r1, q1⟩ => ?_) hs rfl))
  obtain ⟨a, xs, ex, hq, q⟩ := q1
  subst ex
  cases r1 with
  | cons r rr =>
    cases rr
    cases r
    obtain ⟨its, rv, p', hz⟩ := I1.tuple hq
    refine enT_call p' fun h' he hit hsz hk => wpAny_pyIter_enum he ?_
    have I2 : Inv X pins σ H1 { s1 with heap := h' } := I1.kept (t' := s1.toks) hk
    refine ⟨s1.heap.objs.size + 1, [s1.heap.objs.size + 1, s1.heap.objs.size], _, _, H1, rfl, I2, turnT a (s1.heap.objs.size + 1) s1.heap.objs.size, ⟨⟨.none, he⟩, hit, Nat.succ_ne_self _⟩, fun b hb => ?_, q⟩
    have hle : s1.heap.objs.size ≤ b := by
      rcases (show b = s1.heap.objs.size + 1 ∨ b = s1.heap.objs.size by simpa using hb) with z | z
      · rw [z]
        exact Nat.le_add_right _ _
      · rw [z]
        exact Nat.le_refl _
    exact I1.fpOk hle (I1.hok.fresh hle)
theorem walkT {K : PySem.W.Frag} {a : Addr} {xs : List V} : Walk (IteT K a) xs.length (fun H => SqT K H a xs) (YPair (fun i => some (.int (i : Nat))) (fun i => xs[i]?)) := by
  refine ⟨fun i _ hi q => ⟨xs, xs[i], q, by simp [hi]⟩, fun _ q => ⟨xs, q, rfl⟩, fun i H v H' _ q y => ?_⟩
  obtain ⟨T, x, h1, h2, h3, h4⟩ := y
  exact ⟨T, .int (i : Nat), x, h1, h2, h3, rfl, h4 xs q⟩
end EN

set_option Elab.async false
set_option linter.all false
set_option maxRecDepth 100000
/-! A tuple from its end on: t[::-1]. -/
namespace RT
open PySem PySem.Spec PyProof.Rows L2 HT
section
variable {prog : Program} {w : World} {A : Around} {E : Value → Shared → Prop} {s : Shared}
theorem adjust_rev (n : Nat) : Builtin.Slice.sliceAdjust none none (-1) (n : Int) = ((n : Int) - 1, -1) := by
  unfold Builtin.Slice.sliceAdjust
  simp
theorem places_rev (n : Nat) : Builtin.Slice.slicePlaces ((n : Int) - 1) (-1) (-1) = n := by
  unfold Builtin.Slice.slicePlaces
  have h1 : ¬ ((-1 : Int) > 0) := by decide
  rw [if_neg h1, show (-(-1) : Int) = 1 by decide, Int.ediv_one]
  split <;> omega
theorem applied_rev {sl : Addr} {vl vu vs : Value} {n : Nat} {Q : Int × Int × Nat → Shared → Prop} (hs : s.heap.IsSliceOf sl vl vu vs) (pl : IsPart vl none) (pu : IsPart vu none) (ps : IsPart vs (some (-1)))
    (h : Q ((n : Int) - 1, -1, n) s) : wpAny (model prog w) A (Builtin.Slice.sliceApplied (.ref sl) (pure (n : Int))) Q E s := by
  obtain ⟨os, hos, hcs, hds⟩ := id hs
  unfold Builtin.Slice.sliceApplied Builtin.Slice.sliceFields
  refine wpAny_bind (wpAny_bind (wpAny_field hos hds (x := vl) rfl (wpAny_bind (wpAny_field hos hds (x := vu) rfl (wpAny_bind (wpAny_field hos hds (x := vs) rfl (wpAny_pure ?_)))))))
  refine wpAny_bind (slicePart_ ps ?_)
  show wpAny _ _ (if ((-1 : Int) == 0) = true then _ else _) _ _ s
  rw [if_neg (by decide)]
  refine wpAny_bind (slicePart_ pl (wpAny_bind (slicePart_ pu (wpAny_bind (wpAny_pure ?_)))))
  show wpAny _ _ (match Builtin.Slice.sliceAdjust none none (-1) (n : Int) with | (lo, hi) => pure (lo, (-1 : Int), Builtin.Slice.slicePlaces lo hi (-1))) _ _ s
  rw [adjust_rev]
  show wpAny _ _ (pure ((n : Int) - 1, (-1 : Int), Builtin.Slice.slicePlaces ((n : Int) - 1) (-1) (-1))) _ _ s
  rw [places_rev]
  exact wpAny_pure h
theorem pick_rev (xs : Array Value) : ((List.range xs.size).filterMap fun (m : Nat) => xs[(((xs.size : Int) - 1) + (m : Int) * (-1)).toNat]?).toArray = xs.toList.reverse.toArray := by
  have e : (List.range xs.size).filterMap (fun (m : Nat) => xs[(((xs.size : Int) - 1) + (m : Int) * (-1)).toNat]?) = ((List.range xs.size).map fun k => xs.size - 1 - k).filterMap (xs[·]?) := by
    rw [List.filterMap_map]
    refine congrArg (fun f => (List.range xs.size).filterMap f) (funext fun m => ?_)
    show xs[(((xs.size : Int) - 1) + (m : Int) * (-1)).toNat]? = xs[xs.size - 1 - m]?
    have : (((xs.size : Int) - 1) + (m : Int) * (-1)).toNat = xs.size - 1 - m := by omega
    rw [this]
  rw [e, PySem.W.krv_range, List.filterMap_reverse, PySem.W.krv_all]
theorem getItem_tuple_rev {t sl : Addr} {items : Array Value} {vl vu vs : Value} {Q : Value → Shared → Prop} (ht : IsTup s.heap t items) (hs : s.heap.IsSliceOf sl vl vu vs) (pl : IsPart vl none) (pu : IsPart vu none) (ps : IsPart vs (some (-1)))
    (h : Q (.ref s.heap.objs.size) { s with heap := s.heap.push { cls := .type "tuple", data := .seq items.toList.reverse.toArray } })
    (hsz : items.size ≤ sizeLine) : wpAny (model prog w) A (getItem (.ref t) (.ref sl)) Q E s := by
  have hz : sizeOk (.seq items.toList.reverse.toArray) := by
    show items.toList.reverse.toArray.size ≤ sizeLine
    rw [List.size_toArray, List.length_reverse, Array.length_toList]
    exact hsz
  obtain ⟨os, hos, hcs, hds⟩ := id hs
  have hTs : s.TypeIs (.ref sl) "slice" := ⟨os, hos, hcs⟩
  unfold getItem
  try with_reducible refine wpAny_holding ?_
  first | refine wpAny_bind (wpAny_pure ?_) | skip
  refine wpAny_bind (wpAny_sequenceKey ht.typeIs (by decide) ?_)
  refine wpAny_bind (wpAny_callSpecial?_slot (name := Str.ofString "__getitem__") ht.typeIs PyProof.Rows.slot_tuple_getitem
    (wpAny_call_entry PyProof.Rows.slot_tuple_getitem ht.typeIs entry_tuple_getitem ?_ (args_tuple_getitem _ _)))
  show wpAny _ _ (Builtin.Tuple.tupleItemsOf (.ref t) >>= _) _ _ s
  refine wpAny_bind (tupleItemsOf_ ht ?_)
  refine wpAny_bind (wpAny_typeOf hTs ?_)
  rw [if_pos (by decide)]
  refine wpAny_bind (applied_rev hs pl pu ps ?_)
  have hno : ¬ ((((items.size : Int) - 1) == 0 && (-1 : Int) == 1 && items.size == items.size) = true) := by
    intro q
    rw [Bool.and_eq_true, Bool.and_eq_true] at q
    exact absurd q.1.2 (by decide)
  show wpAny _ _ (if (((items.size : Int) - 1) == 0 && (-1 : Int) == 1 && items.size == items.size) = true then _ else _) _ _ s
  rw [if_neg hno, pick_rev]
  first
    | exact wpAny_bind (m := Builtin.Tuple.tupleExact _) (wpAny_newObj_type (wpAny_pure ⟨_, rfl, wpAny_pure h⟩) hz)
    | exact wpAny_bind (m := Builtin.Tuple.tupleExact _) (wpAny_newObj_type (wpAny_bind (wpAny_pure (wpAny_pure ⟨_, rfl, wpAny_pure h⟩))) hz)
    | exact wpAny_bind (wpAny_bind (m := Builtin.Tuple.tupleExact _) (wpAny_newObj_type (wpAny_pure (wpAny_pure ⟨_, rfl, wpAny_pure h⟩)) hz))
    | exact wpAny_bind (wpAny_bind (m := Builtin.Tuple.tupleExact _) (wpAny_newObj_type (wpAny_pure ⟨_, rfl, wpAny_pure h⟩) hz))
end
section
variable {X : Cx}
def tRevT (K : PySem.W.Frag) (te : TE) : TE := fun σ H Q => te σ H fun x H1 => ∃ a xs, x = .ref a ∧ SqT K H1 a xs ∧ ∀ p, H1 p = none → Q (.ref p) (upd H1 p (.tup xs.reverse))
theorem pe_revT {e : Expr} {te : TE} {k : Nat} {p1 p2 p3 pos : Pos} (he : PE X e te) : PE X (.Subscript e (.Slice none none (some (.UnaryOp .USub (.Constant (.int 1) k p1) p2)) p3) pos) (tRevT X.K te) := by
  refine ⟨fun pins s σ H Q I h => ?_⟩
  refine Subscript_ (thn (he.run pins s σ H _ I h) fun v s1 ⟨x, H1, I1, r1, q1⟩ => ?_)
  obtain ⟨a, xs, ex, hx, q⟩ := q1
  subst ex
  cases r1
  have hst : PO X (some (.UnaryOp .USub (.Constant (.int 1) k p1) p2)) (tPart (tUn (rU fun i => .int (-i)) (tC (.int 1)))) := po_some (pe_un un_neg pe_int)
  refine wpAny_Slice (thn (po_none.run pins s1 σ H1 (fun o H2 => o = none ∧ H2 = H1) I1 ⟨rfl, rfl⟩) fun vl s2 ⟨l, H2, I2, pl, el, e2⟩ => ?_)
  subst el e2
  refine thn (po_none.run pins s2 σ H2 (fun o H3 => o = none ∧ H3 = H2) I2 ⟨rfl, rfl⟩) fun vu s3 ⟨u, H3, I3, pu, eu, e3⟩ => ?_
  subst eu e3
  refine thn (hst.run pins s3 σ H3 (fun o H4 => o = some (-1) ∧ H4 = H3) I3 ⟨1, rfl, -1, rfl, rfl, rfl⟩) fun vs s4 ⟨o, H4, I4, ps, eo, e4⟩ => ?_
  subst eo e4
  have I5 : Inv X pins σ H4 { s4 with heap := s4.heap.push { cls := .type "slice", data := .fields #[vl, vu, vs] } } := I4.kept (t' := s4.toks) fun b ob q => Heap.get?_push_of_some _ q
  obtain ⟨its, r, ht, hz⟩ := I5.tuple hx
  have hlen := r.length
  show wpAny (model X.prog X.w) X.A (subscriptTail e (.Slice none none (some (.UnaryOp .USub (.Constant (.int 1) k p1) p2)) p3) (.ref a) (.ref s4.heap.objs.size)) (EP X pins σ Q) X.xe { s4 with heap := s4.heap.push { cls := .type "slice", data := .fields #[vl, vu, vs] } }
  refine tail_any (ops := [.ref a, .ref s4.heap.objs.size]) ht.typeIs (PyProof.Rows.slot_tuple_getitem.lookup) ?_ (by with_unfolding_all rfl)
  refine getItem_tuple_rev ht (Heap.IsSliceOf.new _ vl vu vs) pl pu ps ?_ (by rw [List.size_toArray]; omega)
  refine ⟨.ref _, _, I5.laid (t' := s4.toks) (o := .tup xs.reverse) (fun b ob q => Heap.get?_push_of_some _ q) (Nat.le_refl _) ?_, rfl, q _ (I5.hok.fresh (Nat.le_refl _))⟩
  exact ⟨by rw [List.length_reverse]; exact hz, _, r.reverse, IsTup.new _ _⟩
end
end RT

set_option Elab.async false
set_option linter.all false
set_option maxRecDepth 100000
set_option maxHeartbeats 4000000
/-! The numbers that a script gives, drawn one by one. -/
namespace KA
open PySem PySem.Spec PyProof.Rows L2 KT
def topS (i : Nat) : Stmt := PySem.Challenge.pw_quicktongue_k02_trees_of_any_values.main.body.getD i (.Pass ⟨0, 0, 0, 0⟩)
abbrev s_is_word : Stmt := topS 5
abbrev s_is_name : Stmt := topS 6
abbrev s_is_term : Stmt := topS 7
abbrev s_is_command : Stmt := topS 8
abbrev s_is_tree : Stmt := topS 9
abbrev s_are_names : Stmt := topS 10
abbrev s_are_terms : Stmt := topS 11
abbrev s_fits_term : Stmt := topS 12
abbrev s_fits_call : Stmt := topS 13
abbrev s_fits_command : Stmt := topS 14
abbrev s_fits_block : Stmt := topS 15
abbrev s_fits_function : Stmt := topS 16
abbrev s__law_deck : Stmt := topS 18
abbrev s__law_draw : Stmt := topS 19
abbrev s__law_pick : Stmt := topS 20
abbrev s__law_is_integer : Stmt := topS 21
abbrev s__law_any : Stmt := topS 22
abbrev s__law_instead : Stmt := topS 23
abbrev s__law_bent : Stmt := topS 24
abbrev s__law_words : Stmt := topS 25
abbrev s__law_is_word : Stmt := topS 26
abbrev s__law_is_name : Stmt := topS 27
abbrev s__law_are_names : Stmt := topS 28
abbrev s__law_are_terms : Stmt := topS 29
abbrev s__law_is_term : Stmt := topS 30
abbrev s__law_is_block : Stmt := topS 31
abbrev s__law_is_command : Stmt := topS 32
abbrev s__law_is_function : Stmt := topS 33
abbrev s__law_is_tree : Stmt := topS 34
abbrev s__law_pool : Stmt := topS 35
abbrev s__law_fresh : Stmt := topS 36
abbrev s__law_drawn_word : Stmt := topS 37
abbrev s__law_drawn_term : Stmt := topS 38
abbrev s__law_drawn_call : Stmt := topS 39
abbrev s__law_drawn_block : Stmt := topS 40
abbrev s__law_drawn_command : Stmt := topS 41
abbrev s__law_drawn_function : Stmt := topS 42
abbrev s__law_drawn_program : Stmt := topS 43
abbrev s__law_with : Stmt := topS 44
abbrev s__law_term_spots : Stmt := topS 45
abbrev s__law_block_spots : Stmt := topS 46
abbrev s__law_spots : Stmt := topS 47
abbrev s__law_at : Stmt := topS 48
abbrev s__law_odd_string : Stmt := topS 49
abbrev s__law_spoilt : Stmt := topS 50
abbrev s__law_some_part : Stmt := topS 51
abbrev s_law : Stmt := topS 52
/-! ### the deck: a dict with a list -/
def kL : Key := .inr "left"
def kM : Key := .inr "mixed"
def kD : Key := .inr "draws"
def kvD (L : Addr) (m k : Int) : List (Key × V) := [(kL, .ref L), (kM, .int m), (kD, .int k)]
theorem i12 : ¬ (kL = kM) := by decide +kernel
theorem i13 : ¬ (kL = kD) := by decide +kernel
theorem i23 : ¬ (kM = kD) := by decide +kernel
theorem kv_l (L : Addr) (m k : Int) : valV (kvD L m k) kL = some (.ref L) := valV_pos rfl
theorem kv_m (L : Addr) (m k : Int) : valV (kvD L m k) kM = some (.int m) := (valV_neg i12).trans (valV_pos rfl)
theorem kv_d (L : Addr) (m k : Int) : valV (kvD L m k) kD = some (.int k) := (valV_neg i13).trans ((valV_neg i23).trans (valV_pos rfl))
theorem kput_m (L : Addr) (m k m' : Int) : putK (kvD L m k) kM (.int m') = kvD L m' k := by
  simp [putK, kvD, i12, i13, i23, Ne.symm i12, Ne.symm i13, Ne.symm i23]
theorem kput_d (L : Addr) (m k k' : Int) : putK (kvD L m k) kD (.int k') = kvD L m k' := by
  simp [putK, kvD, i12, i13, i23, Ne.symm i12, Ne.symm i13, Ne.symm i23]
theorem merge_deck (L : Addr) (m k : Int) : mergeK [] (kvD L m k) = kvD L m k := by
  simp [mergeK, putK, kvD, i12, i13, i23, Ne.symm i12, Ne.symm i13, Ne.symm i23]
/-- a deck stands at d, its list at L -/
def DK (d L : Addr) (H : Hp) : Prop := ∃ (ns : List Int) (m k : Int), H d = some (.dK (kvD L m k)) ∧ H L = some (.lst (ns.map V.int)) ∧ 0 ≤ m ∧ m < 2147483648 ∧ ns.length ≤ 64
/-- a draw has been: the deck again, all else as it was -/
structure Fr (d L : Addr) (H H' : Hp) : Prop where
  dk : DK d L H'
  st : ∀ b o, b ≠ d → b ≠ L → H b = some o → H' b = some o
theorem Fr.trans {d L : Addr} {H H1 H2 : Hp} (a : Fr d L H H1) (b : Fr d L H1 H2) : Fr d L H H2 := ⟨b.dk, fun c o h1 h2 h => b.st c o h1 h2 (a.st c o h1 h2 h)⟩
theorem DK.ne {d L : Addr} {H : Hp} (h : DK d L H) : d ≠ L := by
  obtain ⟨ns, m, k, h1, h2, _⟩ := h
  exact ne_of h1 h2 (by intro z; cases z)
theorem DK.upd {d L p : Addr} {H : Hp} {o : HO} (h : DK d L H) (hp : H p = none) : DK d L (upd H p o) := by
  obtain ⟨ns, m, k, h1, h2, h3⟩ := h
  exact ⟨ns, m, k, by rw [upd_ne (ne_of_none h1 hp)]; exact h1, by rw [upd_ne (ne_of_none h2 hp)]; exact h2, h3⟩
theorem Fr.new {d L p : Addr} {H : Hp} {o : HO} (h : DK d L H) (hp : H p = none) : Fr d L H (L2.upd H p o) := ⟨h.upd hp, fun b x _ _ e => by
  rw [upd_ne (ne_of_none e hp)]
  exact e⟩
theorem Fr.refl {d L : Addr} {H : Hp} (h : DK d L H) : Fr d L H H := ⟨h, fun _ _ _ _ e => e⟩
theorem Fr.fresh {d L D : Addr} {H H2 : Hp} (f : Fr d L H H2) (n : H2 D = none) : H D = none ∧ D ≠ d ∧ D ≠ L := by
  obtain ⟨ns, m, k, h1, h2, _⟩ := f.dk
  have nd : D ≠ d := (ne_of_none h1 n).symm
  have nL : D ≠ L := (ne_of_none h2 n).symm
  refine ⟨?_, nd, nL⟩
  cases e : H D with
  | none => rfl
  | some o =>
    rw [f.st D o nd nL e] at n
    cases n
theorem DK.mut {d L D : Addr} {H : Hp} {o : HO} (h : DK d L H) (nd : D ≠ d) (nL : D ≠ L) : DK d L (L2.upd H D o) := by
  obtain ⟨ns, m, k, h1, h2, h3⟩ := h
  exact ⟨ns, m, k, by rw [upd_ne nd.symm]; exact h1, by rw [upd_ne nL.symm]; exact h2, h3⟩
/-- an object that was not there at H changes -/
theorem Fr.mut {d L D : Addr} {H H' : Hp} {o : HO} (f : Fr d L H H') (n : H D = none) (nd : D ≠ d) (nL : D ≠ L) : Fr d L H (L2.upd H' D o) := ⟨f.dk.mut nd nL, fun b x h1 h2 e => by
  rw [upd_ne (ne_of_none e n)]
  exact f.st b x h1 h2 e⟩
theorem dp_ints {K : PySem.W.Frag} {H : Hp} : ∀ ns : List Int, DpAll K H (ns.map V.int) (ns.map PyData.int)
  | [] => .nil
  | n :: r => .cons (.int n) (dp_ints r)
theorem lay_ints : ∀ ns : List Int, PyData.canLayAll0 (ns.map PyData.int) = true
  | [] => rfl
  | n :: r => by
    show (PyData.canLay0 (.int n) && PyData.canLayAll0 (r.map PyData.int)) = true
    rw [lay_ints r]
    rfl
theorem dep_ints : ∀ ns : List Int, PyData.depthAll (ns.map PyData.int) ≤ 1
  | [] => by simp [PyData.depthAll]
  | n :: r => by
    have h := dep_ints r
    simp only [List.map_cons, PyData.depthAll, PyData.depth]
    omega
theorem shaped_ints (ns : List Int) : SeqAt.shaped (.list (ns.map PyData.int)) = true := by
  unfold SeqAt.shaped
  rw [Bool.and_eq_true]
  refine ⟨lay_ints ns, decide_eq_true ?_⟩
  have h := dep_ints ns
  simp only [PyData.depth]
  omega
theorem cut63 (ns : List Int) : cutV (ns.map V.int) none (some 63) = (ns.take 63).map V.int := by
  unfold cutV
  rw [HT.sIx_none, show HT.sIx (ns.map V.int).length (ns.map V.int).length (some (63 : Int)) = min 63 (ns.map V.int).length from HT.sIx_nat _ _ 63]
  rw [List.drop_zero, Nat.sub_zero, List.map_take]
  rw [List.length_map]
  by_cases h : 63 ≤ ns.length
  · rw [Nat.min_eq_left h]
  · rw [Nat.min_eq_right (by omega), List.take_of_length_le (by simp), List.take_of_length_le (by rw [List.length_map]; omega)]
/-! ### what stands at the top -/
structure Tb (mg : Str → Option Value) : Prop where
  int : mg "int" = none
  list : mg "list" = none
  max : mg "max" = none
  len : mg "len" = none
  range : mg "range" = none
  tuple : mg "tuple" = none
  str : mg "str" = none
  isinstance : mg "isinstance" = none
  repr : mg "repr" = none
  all : mg "all" = none
  LN : ∃ t, mg "LONGEST_NAME" = some (.int 20 t)
  LE : ∃ t, mg "LETTERS" = some (.str "abcdefghijklmnopqrstuvwxyz" t)
  SI : ∃ t, mg "SIGNS" = some (.str "abcdefghijklmnopqrstuvwxyz0123456789_" t)
abbrev N__law_deck : List Str := ["_law_script", "_law_seed", "_law_mixed", "_law_cell"]
abbrev P__law_deck : List Str := ["_law_script", "_law_seed"]
theorem sc__law_deck : FnScope N__law_deck P__law_deck (defScope s__law_deck) := ⟨rfl, rfl, rfl, by decide +kernel, rfl, by decide +kernel, by decide +kernel⟩
abbrev N__law_draw : List Str := ["_law_deck_here", "_law_many", "_law_cell", "_law_figure"]
abbrev P__law_draw : List Str := ["_law_deck_here", "_law_many"]
theorem sc__law_draw : FnScope N__law_draw P__law_draw (defScope s__law_draw) := ⟨rfl, rfl, rfl, by decide +kernel, rfl, by decide +kernel, by decide +kernel⟩
abbrev N__law_pick : List Str := ["_law_deck_here", "_law_some"]
abbrev P__law_pick : List Str := ["_law_deck_here", "_law_some"]
theorem sc__law_pick : FnScope N__law_pick P__law_pick (defScope s__law_pick) := ⟨rfl, rfl, rfl, by decide +kernel, rfl, by decide +kernel, by decide +kernel⟩
section
variable {P : Program} {w : World} {K : PySem.W.Frag} {mg : Str → Option Value} {base : Heap}
def spDeck (K : PySem.W.Frag) : Sp := fun vs H Q _ => ∃ (a : Addr) (ns : List Int) (z : Int), vs = [.ref a, .int z] ∧ SqL K H a (ns.map V.int) ∧ 0 ≤ z ∧ z < 2147483648 ∧
  ∀ d L H', (∀ b o, H b = some o → H' b = some o) → H d = none → H L = none → DK d L H' → Q (.ref d) H'
theorem ok_deck {fd : FuncData} (D : Df K mg "_law_deck" s__law_deck P__law_deck fd) (T : Tb mg) : FnOk P w K mg base CX0 1 (He.fAd K ("_law_deck", none)) fd P__law_deck (spDeck K) := by
  refine (fun_of D.F).ok sc__law_deck (fun vs H Q E h => ?_) (fun cdv A outer s H vs Q E hr h => ?_)
  · obtain ⟨a, ns, z, rfl, _⟩ := h
    rfl
  · obtain ⟨a, ns, z, rfl, hS, z0, z1, q⟩ := h
    refine ⟨_, (pss_cons (ps_set (i := 2) sc__law_deck.nd rfl (.inl rfl) (pv 1))
      (pss_cons (ps_for PassesOwn.never rfl (pi_list (pe_slice sl_list (pv 0) po_none (po_some pe_int))) (pg_name (i := 3) sc__law_deck.nd rfl (.inl rfl)) (pss_one (ps_set (i := 2) sc__law_deck.nd rfl (.inl rfl) (pe_op op_mod (pe_callTy call_int1 (by rfl) T.int (by decide +kernel) (pa_cons (pe_op op_add (pe_op op_add (pe_op op_mul (pv 2) pe_int) (pe_op op_mod (pe_callTy call_int1 (by rfl) T.int (by decide +kernel) (pa_cons (pv 3) pa_nil)) pe_int)) pe_int) pa_nil)) pe_int))))
      (pss_one (ps_ret (pe_disp (pps_cons pe_str (pe_revL (pe_callTy call_list_of (by rfl) T.list (by decide +kernel) (pa_cons (pe_slice sl_list (pv 0) po_none (po_some pe_int)) pa_nil))) (pps_cons pe_str (pv 2) (pps_cons pe_str pe_int pps_nil))) (by rfl) (by rfl) (fun z => by cases z) (by decide)))))), ?_⟩
    refine ⟨_, rfl, _, rfl, 63, rfl, a, _, rfl, hS, fun p np => ?_⟩
    have st : ∀ b o, H b = some o → (upd H p (.lst (cutV (ns.map V.int) none (some 63)))) b = some o := fun b o e => by
      rw [upd_ne (ne_of_none e np)]
      exact e
    have st2 : Same H (upd H p (.lst (cutV (ns.map V.int) none (some 63)))) := st
    have hp : SqL K (upd H p (.lst (cutV (ns.map V.int) none (some 63)))) p (cutV (ns.map V.int) none (some 63)) := SqL.of upd_same
    generalize upd H p (.lst (cutV (ns.map V.int) none (some 63))) = H1 at st st2 hp
    have hA := st2.seq hS
    rw [cut63] at hp
    refine ⟨p, rfl, ⟨_, hp⟩, for_list (K := K) (a := p) (xs := (ns.take 63).map V.int) (fun i σ H' => H' = H1 ∧ ∃ m c, σ = [some (.ref a), some (.int z), some (.int m), c] ∧ 0 ≤ m ∧ m < 2147483648) ⟨rfl, z, none, rfl, z0, z1⟩ (fun i σ H' _ h => by rw [h.1]; exact hp) (fun i x σ H' hx h => ?_) (fun σ H' h => ?_)⟩
    · obtain ⟨rfl, m, c, rfl, m0, m1⟩ := h
      obtain ⟨y, rfl⟩ : ∃ y, x = V.int y := by
        rw [List.getElem?_map] at hx
        obtain ⟨y, _, e⟩ := Option.map_eq_some_iff.mp hx
        exact ⟨y, e.symm⟩
      refine ⟨_, rfl, _, _, rfl, rfl, .inl ⟨by omega, by omega⟩, _, rfl, .inl ⟨_, rfl, _, _, rfl, rfl, (by show (0 : Int) < _; decide), _, _, rfl, rfl, _, _, rfl, rfl, .inl ⟨_, rfl, _, _, rfl, rfl, (by show (0 : Int) < _; decide), ?_⟩⟩⟩
      refine ⟨rfl, _, _, rfl, Int.emod_nonneg _ (by decide), ?_⟩
      exact Int.lt_trans (Int.emod_lt_of_pos _ (by decide)) (by decide)
    · obtain ⟨rfl, m, c, rfl, m0, m1⟩ := h
      intro d nd
      have ndH : H d = none := Same.free st2 nd
      have s3 : Same H' (upd H' d (.dK [])) := fun b o e => by
        rw [upd_ne (ne_of_none e nd)]
        exact e
      refine ⟨_, rfl, 63, rfl, a, _, rfl, s3.seq hA, fun p1 n1 => ⟨p1, _, rfl, .inl (SqL.of upd_same), fun p2 n2 => ⟨p2, _, rfl, SqL.of upd_same, fun p3 n3 => ?_⟩⟩⟩
      have e1 : d ≠ p1 := ne_of_none upd_same n1
      have e2 : d ≠ p2 := fun e => by
        rw [← e, upd_ne e1, upd_same] at n2
        cases n2
      have e3 : d ≠ p3 := fun e => by
        rw [← e, upd_ne e2, upd_ne e1, upd_same] at n3
        cases n3
      have g : ∀ b o, H' b = some o → (upd (upd (upd (upd H' d (.dK [])) p1 (.lst (cutV (ns.map V.int) none (some 63)))) p2 (.lst (cutV (ns.map V.int) none (some 63)))) p3 (.lst (cutV (ns.map V.int) none (some 63)).reverse)) b = some o := fun b o e => by
        have f1 : (upd H' d (.dK [])) b = some o := s3 b o e
        have f2 : (upd (upd H' d (.dK [])) p1 (.lst (cutV (ns.map V.int) none (some 63)))) b = some o := by
          rw [upd_ne (ne_of_none f1 n1)]
          exact f1
        have f3 : (upd (upd (upd H' d (.dK [])) p1 (.lst (cutV (ns.map V.int) none (some 63)))) p2 (.lst (cutV (ns.map V.int) none (some 63)))) b = some o := by
          rw [upd_ne (ne_of_none f2 n2)]
          exact f2
        rw [upd_ne (ne_of_none f3 n3)]
        exact f3
      have n3' : H' p3 = none := by
        cases e : H' p3 with
        | none => rfl
        | some o =>
          have f1 : (upd H' d (.dK [])) p3 = some o := s3 p3 o e
          have f2 : (upd (upd H' d (.dK [])) p1 (.lst (cutV (ns.map V.int) none (some 63)))) p3 = some o := by
            rw [upd_ne (ne_of_none f1 n1)]
            exact f1
          have f3 : (upd (upd (upd H' d (.dK [])) p1 (.lst (cutV (ns.map V.int) none (some 63)))) p2 (.lst (cutV (ns.map V.int) none (some 63)))) p3 = some o := by
            rw [upd_ne (ne_of_none f2 n2)]
            exact f2
          rw [f3] at n3
          cases n3
      refine ⟨_, rfl, by rw [upd_ne e3, upd_ne e2, upd_ne e1, upd_same], kvD p3 m 0, rfl, (by show 3 ≤ 15; decide), ?_⟩
      rw [merge_deck]
      refine q d p3 _ (fun b o e => ?_) ndH (Same.free st2 n3') ⟨(ns.take 63).reverse, m, 0, upd_same, ?_, m0, m1, ?_⟩
      · have e' := st b o e
        rw [upd_ne (ne_of_none e' nd)]
        exact g b o e'
      · rw [upd_ne e3.symm, upd_same, cut63, List.map_reverse]
      · rw [List.length_reverse, List.length_take]
        omega
/-! ### a draw -/
theorem dg_l {H : Hp} {d L : Addr} {m k : Int} (h : H d = some (.dK (kvD L m k))) : DGet H d (.str "left") (some (.ref L)) := by
  have e : DGet H d (kV kL) (valV (kvD L m k) kL) := DGet.k h
  rw [kv_l] at e
  exact e
theorem dg_m {H : Hp} {d L : Addr} {m k : Int} (h : H d = some (.dK (kvD L m k))) : DGet H d (.str "mixed") (some (.int m)) := by
  have e : DGet H d (kV kM) (valV (kvD L m k) kM) := DGet.k h
  rw [kv_m] at e
  exact e
theorem dg_d {H : Hp} {d L : Addr} {m k : Int} (h : H d = some (.dK (kvD L m k))) : DGet H d (.str "draws") (some (.int k)) := by
  have e : DGet H d (kV kD) (valV (kvD L m k) kD) := DGet.k h
  rw [kv_d] at e
  exact e
theorem dp_m {H : Hp} {d L : Addr} {m k m' : Int} (h : H d = some (.dK (kvD L m k))) : DPut H d (.str "mixed") (.int m') (upd H d (.dK (kvD L m' k))) := by
  have e : DPut H d (kV kM) (.int m') (upd H d (.dK (putK (kvD L m k) kM (.int m')))) := DPut.k h (by show 3 < sizeLine; decide)
  rw [kput_m] at e
  exact e
theorem dp_d {H : Hp} {d L : Addr} {m k k' : Int} (h : H d = some (.dK (kvD L m k))) : DPut H d (.str "draws") (.int k') (upd H d (.dK (kvD L m k'))) := by
  have e : DPut H d (kV kD) (.int k') (upd H d (.dK (putK (kvD L m k) kD (.int k')))) := DPut.k h (by show 3 < sizeLine; decide)
  rw [kput_d] at e
  exact e
theorem eqv_nil (ns : List Int) : PyData.eqv (.list (ns.map PyData.int)) (.list []) = ns.isEmpty := by
  cases ns <;> simp [PyData.eqv, PyData.eqvAll]
def spDraw : Sp := fun vs H Q _ => ∃ (d L : Addr) (n : Int), vs = [.ref d, .int n] ∧ DK d L H ∧ 0 < n ∧ n ≤ 1000000000 ∧ ∀ (r : Int) H', 0 ≤ r → r < n → Fr d L H H' → Q (.int r) H'
theorem ok_draw {fd : FuncData} (D : Df K mg "_law_draw" s__law_draw P__law_draw fd) (T : Tb mg) : FnOk P w K mg base CX0 1 (He.fAd K ("_law_draw", none)) fd P__law_draw spDraw := by
  refine (fun_of D.F).ok sc__law_draw (fun vs H Q E h => ?_) (fun cdv A outer s H vs Q E hr h => ?_)
  · obtain ⟨d, L, n, rfl, _⟩ := h
    rfl
  · obtain ⟨d, L, n, rfl, ⟨ns, m, k, hd, hL, m0, m1, hl⟩, n0, n1, q⟩ := h
    have hu := hu_of hr
    have ndL : d ≠ L := ne_of hd hL (by intro z; cases z)
    refine ⟨_, (pss_cons (ps_dput hu (pv 0) pe_str (pe_op op_add (pe_dget hu (pv 0) pe_str (fun _ _ => rfl)) pe_int) rfl)
      (C8.pss_cut (ps_if (pt_cmpR (op_neD hr.units) (pe_dget hu (pv 0) pe_str (fun _ _ => rfl)) (pe_lst pa_nil) (nomark _)) (pss_cons (ps_set (i := 2) sc__law_draw.nd rfl (.inl rfl) (pe_bm0 PySem.F.plainAttrs_list PySem.F.slot_list_pop PySem.F.type_list_pop mt_pop (pe_dget hu (pv 0) pe_str (fun _ _ => rfl))))
          (pss_cons (ps_if (pt_cmpR op_ge (pv 2) (pe_op op_pow pe_int pe_int) (nomark _)) (pss_cons (ps_expr (pe_bm PySem.F.plainAttrs_list PySem.F.slot_list_append PySem.F.type_list_append mt_append (pe_dget hu (pv 0) pe_str (fun _ _ => rfl)) (pa_cons (pe_op op_fdiv (pv 2) (pe_callB (call_max2 rfl) (by rfl) T.max (by decide +kernel) (pa_cons pe_int (pa_cons (pv 1) pa_nil)))) pa_nil)))
              (pss_one (ps_ret (pe_op op_mod (pe_callTy call_int1 (by rfl) T.int (by decide +kernel) (pa_cons (pv 2) pa_nil)) (pv 1))))) pss_nil)
          (pss_one (ps_dput hu (pv 0) pe_str (pe_op op_mod (pe_callTy call_int1 (by rfl) T.int (by decide +kernel) (pa_cons (pe_op op_add (pe_op op_add (pe_op op_mul (pe_dget hu (pv 0) pe_str (fun _ _ => rfl)) pe_int) (pe_op op_mod (pe_callTy call_int1 (by rfl) T.int (by decide +kernel) (pa_cons (pv 2) pa_nil)) pe_int)) pe_int) pa_nil)) pe_int) rfl)))) pss_nil)
      (pss_cons (ps_set (i := 3) sc__law_draw.nd rfl (.inl rfl) (pe_op op_mod (pe_callTy call_int1 (by rfl) T.int (by decide +kernel) (pa_cons (pe_op op_add (pe_dget hu (pv 0) pe_str (fun _ _ => rfl)) (pe_op op_mul pe_int (pe_dget hu (pv 0) pe_str (fun _ _ => rfl)))) pa_nil)) pe_int))
      (pss_cons (ps_set (i := 3) sc__law_draw.nd rfl (.inl rfl) (pe_op op_mod (pe_callTy call_int1 (by rfl) T.int (by decide +kernel) (pa_cons (pe_op op_add (pe_op op_add (pe_op op_mul (pv 3) (pv 3)) (pe_op op_mul pe_int (pe_dget hu (pv 0) pe_str (fun _ _ => rfl)))) pe_int) pa_nil)) pe_int))
      (pss_cons (ps_set (i := 3) sc__law_draw.nd rfl (.inl rfl) (pe_op op_mod (pe_callTy call_int1 (by rfl) T.int (by decide +kernel) (pa_cons (pe_op op_add (pe_op op_mul (pv 3) pe_int) pe_int) pa_nil)) pe_int))
      (pss_one (ps_ret (pe_op op_mod (pe_callTy call_int1 (by rfl) T.int (by decide +kernel) (pa_cons (pe_op op_fdiv (pv 3) pe_int) pa_nil)) (pv 1))))))))), ?_⟩
    -- draws
    refine ⟨_, rfl, _, _, rfl, dg_d hd, _, _, rfl, rfl, _, rfl, d, _, rfl, dp_d hd, ?_⟩
    have st1 : ∀ b o, b ≠ d → b ≠ L → H b = some o → (upd H d (.dK (kvD L m (k + 1)))) b = some o := fun b o h1 _ e => by
      rw [upd_ne h1]
      exact e
    have hd1 : (upd H d (.dK (kvD L m (k + 1)))) d = some (.dK (kvD L m (k + 1))) := upd_same
    have hL1 : (upd H d (.dK (kvD L m (k + 1)))) L = some (.lst (ns.map V.int)) := by
      rw [upd_ne ndL.symm]
      exact hL
    generalize upd H d (.dK (kvD L m (k + 1))) = H1 at st1 hd1 hL1
    generalize k + 1 = k1 at hd1
    refine ⟨fun σ' H' => ∃ (ns' : List Int) (m' : Int) (c : Option V), σ' = [some (.ref d), some (.int n), c, none] ∧ H' d = some (.dK (kvD L m' k1)) ∧ H' L = some (.lst (ns'.map V.int)) ∧ 0 ≤ m' ∧ m' < 2147483648 ∧ ns'.length ≤ 64 ∧ ∀ b o, b ≠ d → b ≠ L → H b = some o → H' b = some o, ?_, fun σ' H' hM => ?_⟩
    · -- left != []
      refine ⟨_, rfl, _, _, rfl, dg_l hd1, Nat.zero_le _, fun p np => ?_⟩
      have pL : p ≠ L := (ne_of_none hL1 np).symm
      have pd : p ≠ d := (ne_of_none hd1 np).symm
      have st2 : ∀ b o, b ≠ d → b ≠ L → H b = some o → (upd H1 p (.lst [])) b = some o := fun b o h1 h2 e => by
        have e' := st1 b o h1 h2 e
        rw [upd_ne (ne_of_none e' np)]
        exact e'
      have hL2 : (upd H1 p (.lst [])) L = some (.lst (ns.map V.int)) := by
        rw [upd_ne pL.symm]
        exact hL1
      have hd2 : (upd H1 p (.lst [])) d = some (.dK (kvD L m k1)) := by
        rw [upd_ne pd.symm]
        exact hd1
      have hp2 : (upd H1 p (.lst [])) p = some (.lst []) := upd_same
      generalize upd H1 p (.lst []) = H2 at st2 hL2 hd2 hp2
      refine ⟨_, _, .lst (SqL.of hL2) (dp_ints ns), .lst (SqL.of hp2) .nil, shaped_ints ns, by decide +kernel, _, rfl, ?_⟩
      rw [eqv_nil]
      cases ns with
      | nil => exact ⟨[], m, none, rfl, hd2, hL2, m0, m1, hl, st2⟩
      | cons y r =>
        obtain ⟨r', y', er⟩ : ∃ r' y', y :: r = r' ++ [y'] := ⟨(y :: r).dropLast, (y :: r).getLast (List.cons_ne_nil _ _), (List.dropLast_concat_getLast _).symm⟩
        rw [er] at hL2 hl
        have hl' : r'.length + 1 ≤ 64 := by simpa using hl
        refine iteT ?_
        refine ⟨_, rfl, _, _, rfl, dg_l hd2, .inl ⟨rfl, _, SqL.of hL2⟩, L, _, .int y', rfl, rfl, hL2, by simp, ?_⟩
        have el : ((r' ++ [y']).map V.int).dropLast = r'.map V.int := by
          rw [List.map_append, List.map_singleton, List.dropLast_concat]
        rw [el]
        have hL3 : (upd H2 L (.lst (r'.map V.int))) L = some (.lst (r'.map V.int)) := upd_same
        have hd3 : (upd H2 L (.lst (r'.map V.int))) d = some (.dK (kvD L m k1)) := by
          rw [upd_ne ndL]
          exact hd2
        have st3 : ∀ b o, b ≠ d → b ≠ L → H b = some o → (upd H2 L (.lst (r'.map V.int))) b = some o := fun b o h1 h2 e => by
          rw [upd_ne h2]
          exact st2 b o h1 h2 e
        generalize upd H2 L (.lst (r'.map V.int)) = H3 at hL3 hd3 st3
        refine ⟨_, rfl, 10, 18, rfl, rfl, ⟨by decide, by decide, by decide⟩, _, _, rfl, rfl, _, rfl, ite2 (fun hy => ?_) (fun hy => ?_)⟩
        · -- the cell goes back, less a figure
          have hmx : (0 : Int) < (if n > 2 then n else 2) ∧ (if n > 2 then n else 2) < 1073741824 := by
            split <;> omega
          refine ⟨_, rfl, _, _, rfl, dg_l hd3, .inl ⟨rfl, _, SqL.of hL3⟩, _, rfl, _, rfl, _, _, rfl, _, _, rfl, rfl, hmx, L, _, _, rfl, rfl, hL3, ?_, ?_⟩
          · rw [List.length_map]
            exact small1000 (by omega)
          · refine ⟨_, rfl, .inl ⟨_, rfl, _, rfl, _, _, rfl, rfl, n0, ?_⟩⟩
            refine q _ _ (Int.emod_nonneg _ (by omega)) (Int.emod_lt_of_pos _ n0) ⟨⟨r' ++ [y' / (if n > 2 then n else 2)], m, k1, ?_, ?_, m0, m1, ?_⟩, fun b o h1 h2 e => ?_⟩
            · rw [upd_ne ndL]
              exact hd3
            · rw [upd_same, List.map_append]
              rfl
            · rw [List.length_append]
              exact hl'
            · rw [upd_ne h2]
              exact st3 b o h1 h2 e
        · -- a lesser cell is mixed in
          refine ⟨_, rfl, _, _, rfl, dg_m hd3, _, _, rfl, rfl, .inl ⟨by omega, by omega⟩, _, rfl, .inl ⟨_, rfl, _, _, rfl, rfl, (by show (0 : Int) < _; decide), _, _, rfl, rfl, _, _, rfl, rfl, .inl ⟨_, rfl, _, _, rfl, rfl, (by show (0 : Int) < _; decide), ?_⟩⟩⟩
          refine ⟨_, rfl, d, _, rfl, dp_m hd3, ?_⟩
          refine ⟨r', _, some (.int y'), rfl, upd_same, ?_, Int.emod_nonneg _ (by decide), ?_, by omega, fun b o h1 h2 e => ?_⟩
          · rw [upd_ne ndL.symm]
            exact hL3
          · exact Int.lt_trans (Int.emod_lt_of_pos _ (by decide)) (by decide)
          · rw [upd_ne h1]
            exact st3 b o h1 h2 e
    · obtain ⟨ns', m', c, rfl, hd', hL', m0', m1', hl', st'⟩ := hM
      refine ⟨_, rfl, _, _, rfl, dg_m hd', _, rfl, _, _, rfl, dg_d hd', _, _, rfl, rfl, .inl ⟨by decide, by decide⟩, _, _, rfl, rfl, .inl ⟨_, rfl, _, _, rfl, rfl, (by show (0 : Int) < _; decide), ?_⟩⟩
      refine ⟨_, rfl, _, rfl, _, _, rfl, rfl, .inl ⟨?_, ?_⟩, _, rfl, _, _, rfl, dg_d hd', _, _, rfl, rfl, .inl ⟨by decide, by decide⟩, _, _, rfl, rfl, _, _, rfl, rfl, .inl ⟨_, rfl, _, _, rfl, rfl, (by show (0 : Int) < _; decide), ?_⟩⟩
      · exact Int.lt_of_lt_of_le (by decide) (Int.emod_nonneg _ (by decide))
      · exact Int.lt_trans (Int.emod_lt_of_pos _ (by decide)) (by decide)
      refine ⟨_, rfl, _, _, rfl, rfl, .inl ⟨?_, ?_⟩, _, _, rfl, rfl, .inl ⟨_, rfl, _, _, rfl, rfl, (by show (0 : Int) < _; decide), ?_⟩⟩
      · exact Int.lt_of_lt_of_le (by decide) (Int.emod_nonneg _ (by decide))
      · exact Int.lt_trans (Int.emod_lt_of_pos _ (by decide)) (by decide)
      refine ⟨_, rfl, _, _, rfl, rfl, ⟨by decide, by decide⟩, .inl ⟨_, rfl, _, rfl, _, _, rfl, rfl, n0, ?_⟩⟩
      exact q _ _ (Int.emod_nonneg _ (by omega)) (Int.emod_lt_of_pos _ n0) ⟨⟨ns', m', k1, hd', hL', m0', m1', hl'⟩, st'⟩
/-! ### one of some -/
theorem Fr.seq {K : PySem.W.Frag} {d L a : Addr} {xs : List V} {H H' : Hp} (f : Fr d L H H') (h : DK d L H) (hS : SqL K H a xs) (hL : a ≠ L) : SqL K H' a xs := by
  obtain ⟨ns, m, k, h1, h2, _⟩ := h
  rcases hS with (e | ⟨o, e⟩) | e
  · exact .inl (.inl (f.st a _ (ne_of e h1 (by intro z; cases z)) hL e))
  · exact .inl (.inr ⟨o, f.st a _ (ne_of e h1 (by intro z; cases z)) hL e⟩)
  · exact .inr e
theorem Fr.tup {K : PySem.W.Frag} {d L a : Addr} {xs : List V} {H H' : Hp} (f : Fr d L H H') (h : DK d L H) (hS : SqT K H a xs) : SqT K H' a xs := by
  obtain ⟨ns, m, k, h1, h2, _⟩ := h
  rcases hS with (e | ⟨o, e⟩) | e
  · exact .inl (.inl (f.st a _ (ne_of e h1 (by intro z; cases z)) (ne_of e h2 (by intro z; cases z)) e))
  · exact .inl (.inr ⟨o, f.st a _ (ne_of e h1 (by intro z; cases z)) (ne_of e h2 (by intro z; cases z)) e⟩)
  · exact .inr e
def spPick (K : PySem.W.Frag) : Sp := fun vs H Q _ => ∃ (d L a : Addr) (xs : List V), vs = [.ref d, .ref a] ∧ DK d L H ∧ a ≠ L ∧ (SqL K H a xs ∨ SqT K H a xs) ∧ 0 < xs.length ∧ xs.length ≤ 1000000000 ∧
  ∀ (i : Nat) (x : V) H', xs[i]? = some x → Fr d L H H' → Q x H'
theorem ok_pick {fd fdD : FuncData} (D : Df K mg "_law_pick" s__law_pick P__law_pick fd) (T : Tb mg) (D__law_draw : Df K mg "_law_draw" s__law_draw P__law_draw fdD) : FnOk P w K mg base CX0 2 (He.fAd K ("_law_pick", none)) fd P__law_pick (spPick K) := by
  have G__law_draw : FnOk P w K mg base CX0 1 (He.fAd K ("_law_draw", none)) fdD P__law_draw spDraw := ok_draw D__law_draw T
  refine (fun_of D.F).ok sc__law_pick (fun vs H Q E h => ?_) (fun cdv A outer s H vs Q E hr h => ?_)
  · obtain ⟨d, L, a, xs, rfl, _⟩ := h
    rfl
  · obtain ⟨d, L, a, xs, rfl, hD, haL, hS, n0, n1, q⟩ := h
    refine ⟨_, (pss_one (ps_ret (pe_ix (ix_list.or ix_tup) (pv 1) (pe_call G__law_draw (hr.mono (by first | decide | omega)) (by rfl) D__law_draw.g D__law_draw.F.kp D__law_draw.b .nil pass0 (pa_cons (pv 0) (pa_cons (pe_callB call_len (by rfl) T.len (by decide +kernel) (pa_cons (pv 1) pa_nil)) pa_nil))) (fun _ _ => rfl)))), ?_⟩
    refine ⟨_, rfl, _, rfl, _, rfl, _, xs.length, rfl, (hS.elim (fun h => .inl ⟨_, h, rfl⟩) fun h => .inr ⟨_, h, rfl⟩), d, L, _, rfl, hD, by omega, by omega, fun r H' r0 r1 fr => ?_⟩
    obtain ⟨i, rfl⟩ := Int.eq_ofNat_of_zero_le r0
    have hi : i < xs.length := by omega
    rcases hS with h | h
    · exact .inl ⟨a, xs, _, xs[i], rfl, rfl, fr.seq hD h haL, atI_nat (List.getElem?_eq_getElem hi), q i _ _ (List.getElem?_eq_getElem hi) fr⟩
    · exact .inr ⟨a, xs, _, xs[i], rfl, rfl, fr.tup hD h, atI_nat (List.getElem?_eq_getElem hi), q i _ _ (List.getElem?_eq_getElem hi) fr⟩
end
end KA


set_option Elab.async false
set_option linter.all false
set_option maxRecDepth 100000
set_option maxHeartbeats 4000000
/-! A drawn value; words and names, as the law and the program see them. -/
namespace KB
open PySem PySem.Spec PyProof.Rows L2 KT KA
/-! ### drawn values -/
def Asc (z : Str) : Prop := z.length ≤ 2000 ∧ ∀ c ∈ z.cps.toList, c < 128
inductive Th (d L : Addr) (H : Hp) : V → Prop
  | non : Th d L H .non
  | bl (b : Bool) : Th d L H (.bl b)
  | int (i : Int) : Th d L H (.int i)
  | str {z : Str} (h : Asc z) : Th d L H (.str z)
  | lst {a : Addr} {xs : List V} (n : a ≠ L) (h : H a = some (.lst xs)) : Th d L H (.ref a)
  | tup {a : Addr} {xs : List V} (h : H a = some (.tup xs)) : Th d L H (.ref a)
  | dk {a : Addr} {kvs : List (Key × V)} (n : a ≠ d) (h : H a = some (.dK kvs)) : Th d L H (.ref a)
theorem Th.fr {d L : Addr} {H H' : Hp} {v : V} (t : Th d L H v) (h : DK d L H) (f : Fr d L H H') : Th d L H' v := by
  obtain ⟨ns, m, k, h1, h2, _⟩ := h
  cases t with
  | non => exact .non
  | bl b => exact .bl b
  | int i => exact .int i
  | str h => exact .str h
  | lst n e => exact .lst n (f.st _ _ (ne_of e h1 (by intro z; cases z)) n e)
  | tup e => exact .tup (f.st _ _ (ne_of e h1 (by intro z; cases z)) (ne_of e h2 (by intro z; cases z)) e)
  | dk n e => exact .dk n (f.st _ _ n (ne_of e h2 (by intro z; cases z)) e)
theorem Th.isStr {K : PySem.W.Frag} {d L : Addr} {H : Hp} {v : V} (t : Th d L H v) : IsA K H v "str" (isS v) := by
  cases t with
  | non => exact ⟨_, .base .non, by decide +kernel⟩
  | bl b => exact ⟨_, .base (.bl b), (by decide +kernel : kitB "bool" "str" = some false)⟩
  | int i => exact ⟨_, .base (.int i), (by decide +kernel : kitB "int" "str" = some false)⟩
  | str h => exact ⟨_, .base (.str _), (by decide +kernel : kitB "str" "str" = some true)⟩
  | lst n e => exact ⟨_, .base (.lst e), (by decide +kernel : kitB "list" "str" = some false)⟩
  | tup e => exact ⟨_, .base (.tup e), (by decide +kernel : kitB "tuple" "str" = some false)⟩
  | dk n e => exact ⟨_, .base (.dK e), (by decide +kernel : kitB "dict" "str" = some false)⟩
theorem asc_lit {z : Str} (h : (decide (z.length ≤ 2000) && z.cps.toList.all fun c => decide (c < 128)) = true) : Asc z := by
  rw [Bool.and_eq_true] at h
  exact ⟨of_decide_eq_true h.1, fun c hc => of_decide_eq_true (List.all_eq_true.mp h.2 c hc)⟩
abbrev N__law_any : List Str := ["_law_deck_here", "_law_deep", "_law_way", "_law_some", "_law_turn"]
abbrev P__law_any : List Str := ["_law_deck_here", "_law_deep"]
theorem sc__law_any : FnScope N__law_any P__law_any (defScope s__law_any) := ⟨rfl, rfl, rfl, by decide +kernel, rfl, by decide +kernel, by decide +kernel⟩
section
variable {P : Program} {w : World} {K : PySem.W.Frag} {mg : Str → Option Value} {base : Heap}
def spAny (n : Nat) : Sp := fun vs H Q _ => ∃ d L : Addr, vs = [.ref d, .int n] ∧ DK d L H ∧ ∀ v H', Th d L H' v → Fr d L H H' → Q v H'
def spPrev : Nat → Sp
  | 0 => spNo
  | n + 1 => spAny n
theorem ok_any1 {fd fdD fdP : FuncData} {n : Nat} (T : Tb mg) (D : Df K mg "_law_any" s__law_any P__law_any fd) (D__law_draw : Df K mg "_law_draw" s__law_draw P__law_draw fdD) (D__law_pick : Df K mg "_law_pick" s__law_pick P__law_pick fdP)
    (G__law_any : FnOk P w K mg base CX0 (n + 2) (He.fAd K ("_law_any", none)) fd P__law_any (spPrev n)) : FnOk P w K mg base CX0 (n + 3) (He.fAd K ("_law_any", none)) fd P__law_any (spAny n) := by
  have G__law_draw : FnOk P w K mg base CX0 1 (He.fAd K ("_law_draw", none)) fdD P__law_draw spDraw := ok_draw D__law_draw T
  have G__law_pick : FnOk P w K mg base CX0 2 (He.fAd K ("_law_pick", none)) fdP P__law_pick (spPick K) := ok_pick D__law_pick T D__law_draw
  have D__law_any := D
  refine (fun_of D.F).ok sc__law_any (fun vs H Q E h => ?_) (fun cdv A outer s H vs Q E hr h => ?_)
  · obtain ⟨d, L, rfl, _⟩ := h
    rfl
  · obtain ⟨d, L, rfl, hD, q⟩ := h
    refine ⟨_, (pss_cons (ps_set (i := 2) sc__law_any.nd rfl (.inl rfl) (pe_call G__law_draw (hr.mono (by first | decide | omega)) (by rfl) D__law_draw.g D__law_draw.F.kp D__law_draw.b .nil pass0 (pa_cons (pv 0) (pa_cons pe_int pa_nil))))
      (pss_cons (ps_if (pt_cmpR op_lt (pv 2) pe_int (nomark _)) (pss_one (ps_ret (pe_call G__law_pick (hr.mono (by first | decide | omega)) (by rfl) D__law_pick.g D__law_pick.F.kp D__law_pick.b .nil pass0 (pa_cons (pv 0) (pa_cons (pe_lst (pa_cons pe_int (pa_cons pe_int (pa_cons (pe_un un_neg pe_int) (pa_cons pe_int (pa_cons (pe_op op_pow pe_int pe_int) (pa_cons (pe_un un_neg (pe_op op_pow pe_int pe_int)) (pa_cons pe_int (pa_cons pe_int pa_nil))))))))) pa_nil))))) pss_nil)
      (pss_cons (ps_if (pt_cmpR op_lt (pv 2) pe_int (nomark _)) (pss_one (ps_ret (pe_call G__law_pick (hr.mono (by first | decide | omega)) (by rfl) D__law_pick.g D__law_pick.F.kp D__law_pick.b .nil pass0 (pa_cons (pv 0) (pa_cons (pe_lst (pa_cons pe_str (pa_cons pe_str (pa_cons pe_str (pa_cons pe_str (pa_cons pe_str (pa_cons pe_str (pa_cons pe_str (pa_cons pe_str pa_nil))))))))) pa_nil))))) pss_nil)
      (pss_cons (ps_if (pt_cmpR op_eq (pv 2) pe_int (nomark _)) (pss_one (ps_ret (pe_call G__law_pick (hr.mono (by first | decide | omega)) (by rfl) D__law_pick.g D__law_pick.F.kp D__law_pick.b .nil pass0 (pa_cons (pv 0) (pa_cons (pe_lst (pa_cons pe_bl (pa_cons pe_bl (pa_cons pe_non pa_nil)))) pa_nil))))) pss_nil)
      (C8.pss_cut (ps_set (i := 3) sc__law_any.nd rfl (.inl rfl) (pe_ifExp (pt_cmpR op_gt (pv 1) pe_int (nomark _)) (pe_lc (own := [("_law_turn", 4)]) (g := gName 4) (tt := tYes) (by rfl) sc__law_any.nd (pi_range1 rfl T.range (pa_cons (pe_call G__law_draw (hr.mono (by first | decide | omega)) (by rfl) D__law_draw.g D__law_draw.F.kp D__law_draw.b .nil pass0 (pa_cons (pv 0) (pa_cons pe_int pa_nil))) pa_nil)) (blkOk_by (own := [("_law_turn", 4)]) (N := N__law_any) (sc := defScope s__law_any) (by decide +kernel)) (fun _ _ _ _ _ => (pg_name (i := 4) sc__law_any.nd rfl (.inl rfl))) (fun _ _ _ _ _ => pts_nil) (fun _ _ _ _ _ => (pe_call G__law_any (hr.mono (by first | decide | omega)) (by rfl) D__law_any.g D__law_any.F.kp D__law_any.b .nil pass0 (pa_cons (pv 0) (pa_cons (pe_op op_sub (pv 1) pe_int) pa_nil))))) (pe_lst pa_nil)))
      (pss_cons (ps_if (pt_cmpR op_eq (pv 2) pe_int (nomark _)) (pss_one (ps_ret (pv 3))) pss_nil)
      (pss_one (ps_ret (pe_ifExp (pt_cmpR op_eq (pv 2) pe_int (nomark _)) (pe_disp (pps_cons pe_str (pv 3) (pps_cons pe_int (pe_callB call_len (by rfl) T.len (by decide +kernel) (pa_cons (pv 3) pa_nil)) pps_nil)) (by rfl) (by rfl) (fun z => by cases z) (by decide)) (pe_callTy call_tuple_of (by rfl) T.tuple (by decide +kernel) (pa_cons (pv 3) pa_nil))))))))))), ?_⟩
    refine ⟨_, rfl, d, L, _, rfl, hD, by decide, by decide, fun way H1 w0 w1 f1 => ?_⟩
    have pick : ∀ (xs : List V) (H0 H2 : Hp) (p : Addr), Fr d L H H0 → H0 p = none → H2 = upd H0 p (.lst xs) → xs.length ≤ 8 → 0 < xs.length → (∀ x ∈ xs, ∀ H', Th d L H' x) →
        spPick K [.ref d, .ref p] H2 Q E0 := by
      intro xs H0 H2 p f0 np e hl h0 hx
      subst e
      have dk0 := f0.dk
      have pL : p ≠ L := fun e => by
        obtain ⟨ns, m, k, h1, h2, _⟩ := dk0
        rw [e, h2] at np
        cases np
      refine ⟨d, L, p, xs, rfl, dk0.upd np, pL, .inl (SqL.of upd_same), h0, by omega, fun i x H' hi f2 => ?_⟩
      exact q x H' (hx x (List.mem_of_getElem? hi) H') (f0.trans ((Fr.new dk0 np).trans f2))
    -- way < 2
    refine ⟨_, rfl, _, _, rfl, rfl, _, rfl, ite2 (fun _ => ?_) (fun _ => ?_)⟩
    · refine ⟨_, rfl, 1, rfl, 10, 29, rfl, rfl, ⟨by decide, by decide, by decide⟩, 10, 20, rfl, rfl, ⟨by decide, by decide, by decide⟩, _, rfl, by show 8 ≤ sizeLine; decide, fun p np => ?_⟩
      refine pick _ _ _ p f1 np rfl (by show 8 ≤ 8; decide) (by show 0 < 8; decide) fun x hx H' => ?_
      simp only [List.mem_cons, List.not_mem_nil, or_false] at hx
      rcases hx with rfl | rfl | rfl | rfl | rfl | rfl | rfl | rfl <;> exact .int _
    refine ⟨_, rfl, _, _, rfl, rfl, _, rfl, ite2 (fun _ => ?_) (fun _ => ?_)⟩
    · refine ⟨_, rfl, by show 8 ≤ sizeLine; decide, fun p np => ?_⟩
      refine pick _ _ _ p f1 np rfl (by show 8 ≤ 8; decide) (by show 0 < 8; decide) fun x hx H' => ?_
      simp only [List.mem_cons, List.not_mem_nil, or_false] at hx
      rcases hx with rfl | rfl | rfl | rfl | rfl | rfl | rfl | rfl <;> exact .str (asc_lit (by decide +kernel))
    refine ⟨_, rfl, rfl, _, rfl, ite2 (fun _ => ?_) (fun _ => ?_)⟩
    · refine ⟨_, rfl, by show 3 ≤ sizeLine; decide, fun p np => ?_⟩
      refine pick _ _ _ p f1 np rfl (by show 3 ≤ 8; decide) (by show 0 < 3; decide) fun x hx H' => ?_
      simp only [List.mem_cons, List.not_mem_nil, or_false] at hx
      rcases hx with rfl | rfl | rfl
      · exact .bl _
      · exact .bl _
      · exact .non
    -- the parts
    refine ⟨fun σ' H' => ∃ p xs, σ' = [some (.ref d), some (.int n), some (.int way), some (.ref p), none] ∧ Fr d L H H' ∧ H' p = some (.lst xs) ∧ p ≠ L ∧ xs.length ≤ 4, ?_, fun σ' H' hM => ?_⟩
    · refine ⟨_, rfl, _, _, rfl, rfl, _, rfl, ite2 (fun hn => ?_) (fun _ => ?_)⟩
      · refine ⟨_, rfl, d, L, _, rfl, f1.dk, by decide, by decide, fun r H2 r0 r1 f2 => ⟨r, rfl, by omega, by omega, fun D nD => ?_⟩⟩
        have f12 := f1.trans f2
        obtain ⟨nHD, ndD, nLD⟩ := f12.fresh nD
        refine lc_range (lo := 0) (n := r.toNat) (fun i H' => ∃ xs, H' D = some (.lst xs) ∧ xs.length = i ∧ Fr d L H H') ⟨[], upd_same, rfl, f12.mut nHD ndD nLD⟩ (fun i H' hi h => ?_) (fun H' h => ?_)
        · obtain ⟨xs, hxs, hl, f3⟩ := h
          refine ⟨rfl, ?_⟩
          refine ⟨_, rfl, _, rfl, _, _, rfl, rfl, ?_⟩
          cases n with
          | zero => exact absurd (of_decide_eq_true hn) (by show ¬ ((0 : Int) < ((0 : Nat) : Int)); decide)
          | succ m =>
            have e : (((m + 1 : Nat) : Int) - 1) = (m : Int) := by omega
            refine ⟨d, L, congrArg (fun z => [V.ref d, V.int z]) e, f3.dk, fun v H4 tv f4 => ⟨xs, f4.st D _ ndD nLD hxs, small1000 (by omega), xs ++ [v], upd_same, ?_, (f3.trans f4).mut nHD ndD nLD⟩⟩
            rw [List.length_append, hl]
            rfl
        · obtain ⟨xs, hxs, hl, f3⟩ := h
          exact ⟨D, xs, rfl, f3, hxs, nLD, by omega⟩
      · refine ⟨Nat.zero_le _, fun p np => ?_⟩
        obtain ⟨nHp, nd, nL⟩ := f1.fresh np
        exact ⟨p, [], rfl, f1.mut nHp nd nL, upd_same, nL, Nat.zero_le _⟩
    · obtain ⟨p, xs, rfl, f3, hp, nL, hl⟩ := hM
      have hpd : p ≠ d := by
        obtain ⟨ns, m, k, h1, h2, _⟩ := f3.dk
        exact ne_of hp h1 (by intro z; cases z)
      refine ⟨_, rfl, rfl, _, rfl, ite2 (fun _ => ?_) (fun _ => ?_)⟩
      · exact ⟨_, rfl, q _ _ (.lst nL hp) f3⟩
      · refine ⟨_, rfl, rfl, _, rfl, ite2 (fun _ => ?_) (fun _ => ?_)⟩
        · intro D nD
          obtain ⟨nHD, ndD, nLD⟩ := f3.fresh nD
          have hp2 : (upd H' D (.dK [])) p = some (.lst xs) := by
            rw [upd_ne (ne_of_none hp nD)]
            exact hp
          refine ⟨_, rfl, _, rfl, _, xs.length, rfl, .inl ⟨_, SqL.of hp2, rfl⟩, upd_same, [(Sum.inr "key", .ref p), (Sum.inl 1, .int xs.length)], rfl, (by show 2 ≤ 15; decide), ?_⟩
          exact q _ _ (.dk ndD upd_same) ((f3.mut nHD ndD nLD).mut nHD ndD nLD)
        · refine ⟨_, rfl, p, xs, rfl, .inl ⟨SqL.of hp, fun l nl => ?_⟩⟩
          obtain ⟨nHD, ndD, nLD⟩ := f3.fresh nl
          exact q _ _ (.tup upd_same) (f3.mut nHD ndD nLD)
theorem ok_any {fd fdD fdP : FuncData} (T : Tb mg) (D : Df K mg "_law_any" s__law_any P__law_any fd) (D__law_draw : Df K mg "_law_draw" s__law_draw P__law_draw fdD) (D__law_pick : Df K mg "_law_pick" s__law_pick P__law_pick fdP) :
    ∀ n : Nat, FnOk P w K mg base CX0 (n + 3) (He.fAd K ("_law_any", none)) fd P__law_any (spAny n)
  | 0 => ok_any1 T D D__law_draw D__law_pick ok_no
  | n + 1 => ok_any1 T D D__law_draw D__law_pick (ok_any T D D__law_draw D__law_pick n)
end
end KB


set_option Elab.async false
set_option linter.all false
set_option maxRecDepth 100000
set_option maxHeartbeats 4000000
/-! Words and names, as the law and the program see them. -/
namespace KC
open PySem PySem.Spec PyProof.Rows L2 KT KG KM KA KB GxR
def keptL : List Str := ["fun", "own", "let", "set", "when", "none", "zero", "one", "each", "as", "give", "cut"]
def lets : Str := "abcdefghijklmnopqrstuvwxyz"
def sigs : Str := "abcdefghijklmnopqrstuvwxyz0123456789_"
def figs : Str := "0123456789_"
def allS (z : Str) : Bool := z.cps.toList.all fun c => decide (c ∈ sigs.cps.toList)
def isN (z : Str) : Bool := (decide (0 < z.length) && decide (z.length < 21)) && (!inV (.str z) (keptL.map V.str) && (allS z && decide (z.cps.toList.headD 0 ∉ figs.cps.toList)))
def wordV : V → Bool
  | .str z => isW z
  | _ => false
def nameV : V → Bool
  | .str z => isN z
  | _ => false
/-- a value whose class is known; a text of few signs -/
structure Sv (K : PySem.W.Frag) (H : Hp) (x : V) : Prop where
  ty : IsA K H x "str" (isS x)
  asc : ∀ z, x = .str z → Asc z
theorem Th.sv {K : PySem.W.Frag} {d L : Addr} {H : Hp} {v : V} (t : Th d L H v) : Sv K H v := ⟨t.isStr, fun z e => by
  cases t with
  | str h => cases e; exact h
  | _ => cases e⟩
theorem asc_line {z : Str} (h : Asc z) : z.length ≤ sizeLine := Nat.le_trans h.1 (by decide)
theorem same_new {H : Hp} {p : Addr} {o : HO} (n : H p = none) : Same H (upd H p o) := fun b x e => by
  rw [upd_ne (ne_of_none e n)]
  exact e
abbrev N_is_word : List Str := ["thing"]
abbrev P_is_word : List Str := ["thing"]
theorem sc_is_word : FnScope N_is_word P_is_word (defScope s_is_word) := ⟨rfl, rfl, rfl, by decide +kernel, rfl, by decide +kernel, by decide +kernel⟩
abbrev N_is_name : List Str := ["thing", "sign"]
abbrev P_is_name : List Str := ["thing"]
theorem sc_is_name : FnScope N_is_name P_is_name (defScope s_is_name) := ⟨rfl, rfl, rfl, by decide +kernel, rfl, by decide +kernel, by decide +kernel⟩
abbrev N__law_words : List Str := []
abbrev P__law_words : List Str := []
theorem sc__law_words : FnScope N__law_words P__law_words (defScope s__law_words) := ⟨rfl, rfl, rfl, by decide +kernel, rfl, by decide +kernel, by decide +kernel⟩
abbrev N__law_is_word : List Str := ["_law_thing", "_law_x"]
abbrev P__law_is_word : List Str := ["_law_thing"]
theorem sc__law_is_word : FnScope N__law_is_word P__law_is_word (defScope s__law_is_word) := ⟨rfl, rfl, rfl, by decide +kernel, rfl, by decide +kernel, by decide +kernel⟩
abbrev N__law_is_name : List Str := ["_law_thing", "_law_x"]
abbrev P__law_is_name : List Str := ["_law_thing"]
theorem sc__law_is_name : FnScope N__law_is_name P__law_is_name (defScope s__law_is_name) := ⟨rfl, rfl, rfl, by decide +kernel, rfl, by decide +kernel, by decide +kernel⟩
section
variable {P : Program} {w : World} {K : PySem.W.Frag} {mg : Str → Option Value} {base : Heap}
def spW (K : PySem.W.Frag) : Sp := fun vs H Q _ => ∃ x, vs = [x] ∧ Sv K H x ∧ ∀ H', Same H H' → Q (.bl (wordV x)) H'
theorem ok_is_word {fd : FuncData} (T : Tb mg) (D : Df K mg "is_word" s_is_word P_is_word fd) : FnOk P w K mg base CX0 1 (He.fAd K ("is_word", none)) fd P_is_word (spW K) := by
  refine (fun_of D.F).ok sc_is_word (fun vs H Q E h => ?_) (fun cdv A outer s H vs Q E hr h => ?_)
  · obtain ⟨x, rfl, _⟩ := h
    rfl
  · obtain ⟨x, rfl, sv, q⟩ := h
    refine ⟨_, (pss_one (ps_ret (pe_and (pe_callB call_isi (by rfl) T.isinstance (by decide +kernel) (pa_cons (pv 0) (pa_cons (pe_bltn (v := .ty "str") (by rfl) T.str (by decide +kernel) rfl) pa_nil))) (pe_one (pe_cmpR op_eq (pe_bm PySem.F.plainAttrs_str PySem.F.slot_str_strip PySem.F.type_str_strip mt_stripChars (pv 0) (pa_cons pe_str pa_nil)) pe_str (nomark _)))))), ?_⟩
    obtain ⟨t0, ht1, ht2⟩ := sv.ty
    refine ⟨x, rfl, x, _, .type t0, _, _, rfl, .ty "str", ht1, kit_ty ht2, _, rfl, ?_⟩
    cases x with
    | str z =>
      refine ⟨_, rfl, rfl, z, ("01" : Str), rfl, rfl, asc_line (sv.asc z rfl), rfl, ?_⟩
      have e := q H (Same.refl H)
      rw [show wordV (.str z) = isW z from rfl, ← strip01 z] at e
      exact e
    | _ => exact q H (Same.refl H)
theorem hd_at {z : Str} (h : 0 < z.length) : atI z.cps.toList 0 = some (z.cps.toList.headD 0) := by
  have hl : z.cps.toList.length = z.length := by
    show z.cps.toList.length = z.cps.size
    rw [Array.length_toList]
  cases e : z.cps.toList with
  | nil =>
    rw [e] at hl
    have : (0 : Nat) = z.length := hl
    omega
  | cons c r => exact atI_nat (j := 0) rfl
theorem lets_of {c : Nat} (h : c ∈ sigs.cps.toList) : (c ∈ lets.cps.toList) ↔ (c ∉ figs.cps.toList) := by
  have key : ∀ c ∈ sigs.cps.toList, decide (c ∈ lets.cps.toList) = !decide (c ∈ figs.cps.toList) := by decide +kernel
  have k := key c h
  by_cases h1 : c ∈ lets.cps.toList
  · rw [decide_eq_true h1] at k
    by_cases h2 : c ∈ figs.cps.toList
    · rw [decide_eq_true h2] at k
      cases k
    · exact ⟨fun _ => h2, fun _ => h1⟩
  · rw [decide_eq_false h1] at k
    by_cases h2 : c ∈ figs.cps.toList
    · exact ⟨fun z => absurd z h1, fun z => absurd h2 z⟩
    · rw [decide_eq_false h2] at k
      cases k
/-- the program's way to a name's answer -/
theorem isN_prog (z : Str) (h0 : 0 < z.length) (h1 : z.length < 21) : isN z = (decide (z.cps.toList.headD 0 ∈ lets.cps.toList) && (allS z && !inV (.str z) (keptL.map V.str))) := by
  unfold isN
  rw [decide_eq_true h0, decide_eq_true h1]
  simp only [Bool.true_and]
  cases ha : allS z with
  | false => simp
  | true =>
    have hm : z.cps.toList.headD 0 ∈ sigs.cps.toList := by
      have hl : z.cps.toList.length = z.length := by
        show z.cps.toList.length = z.cps.size
        rw [Array.length_toList]
      cases e : z.cps.toList with
      | nil =>
        rw [e] at hl
        have : (0 : Nat) = z.length := hl
        omega
      | cons c r =>
        unfold allS at ha
        rw [e, List.all_cons, Bool.and_eq_true] at ha
        exact of_decide_eq_true ha.1
    have e := lets_of hm
    have e2 : decide (z.cps.toList.headD 0 ∈ lets.cps.toList) = decide (z.cps.toList.headD 0 ∉ figs.cps.toList) := decide_eq_decide.mpr e
    rw [e2]
    cases inV (V.str z) (keptL.map V.str) <;> cases decide (z.cps.toList.headD 0 ∉ figs.cps.toList) <;> rfl
def spN (K : PySem.W.Frag) (Pt : Addr) : Sp := fun vs H Q _ => ∃ x, vs = [x] ∧ Sv K H x ∧ TabG H Pt ∧ ∀ H', Tabbed Pt H H' ∨ H' = H → Q (.bl (nameV x)) H'
theorem kept_flat : (keptL.map V.str).all flatV = true := by decide +kernel
theorem ok_is_name {fd : FuncData} (T : Tb mg) (D : Df K mg "is_name" s_is_name P_is_name fd) {a_KEPT_WORDS : Addr} (mg_KEPT_WORDS : mg "KEPT_WORDS" = some (.ref a_KEPT_WORDS)) (hK : ∀ H, SqT K H a_KEPT_WORDS (keptL.map V.str))
    (TB_is_name : TabB base mg (He.cT K ("is_name", none)).1 (He.cT K ("is_name", none)).2) : FnOk P w K mg base CX0 5 (He.fAd K ("is_name", none)) fd P_is_name (spN K (He.cT K ("is_name", none)).2) := by
  obtain ⟨t1, mg_LONGEST_NAME⟩ := T.LN
  obtain ⟨t2, mg_LETTERS⟩ := T.LE
  obtain ⟨t3, mg_SIGNS⟩ := T.SI
  refine okC D.F sc_is_name (fun vs H Q E h => ?_) (fun cdv A outer s H vs Q E hcd hr h => ?_)
  · obtain ⟨x, rfl, _⟩ := h
    rfl
  · obtain ⟨x, rfl, sv, tg, q⟩ := h
    refine ⟨_, (pss_cons (ps_if (PW.pt (pw_or (pt_not (pt_val (pe_callB call_isi (by rfl) T.isinstance (by decide +kernel) (pa_cons (pv 0) (pa_cons (pe_bltn (v := .ty "str") (by rfl) T.str (by decide +kernel) rfl) pa_nil))))) (pw_or1 (pt_not (pt_chain op_le op_le pe_int (pe_callB call_len_str (by rfl) T.len (by decide +kernel) (pa_cons (pv 0) pa_nil)) (pe_glob (v := .int 20) (by rfl) mg_LONGEST_NAME ⟨_, rfl⟩)))))) (pss_one (ps_ret pe_bl)) pss_nil)
      (pss_one (ps_ret (pe_and (pe_cmpR op_in_sign (pe_ix ix_str (pv 0) pe_int (fun _ _ => rfl)) (pe_glob (v := .str lets) (by rfl) mg_LETTERS ⟨_, rfl⟩) (by rfl)) (pe_and (pe_all (own := [("sign", 1)]) (g := gName 1) rfl sc_is_name.nd hr (by rfl) T.all TB_is_name hcd (gnOk_by (own := [("sign", 1)]) (N := N_is_name) (sc := defScope s_is_name) (by decide +kernel)) (pi_str (pv 0)) (fun _ _ _ _ _ _ => (pg_name (i := 1) sc_is_name.nd rfl (.inl rfl))) (fun _ _ _ _ _ _ => (pe_cmpR op_in_sign (pv 1) (pe_glob (v := .str sigs) (by rfl) mg_SIGNS ⟨_, rfl⟩) (by rfl)))) (pe_one (pe_cmpR op_notIn_seq (pv 0) (pe_glob (v := .ref a_KEPT_WORDS) (by rfl) mg_KEPT_WORDS rfl) (by rfl)))))))), ?_⟩
    obtain ⟨t0, ht1, ht2⟩ := sv.ty
    refine ⟨x, rfl, x, _, .type t0, _, _, rfl, .ty "str", ht1, kit_ty ht2, _, rfl, ?_⟩
    cases x with
    | str z =>
      have az := sv.asc z rfl
      refine ⟨_, rfl, z, rfl, asc_line az, _, _, rfl, rfl, _, rfl, ?_⟩
      have no : nameV (.str z) = false → ∀ H', Tabbed (He.cT K ("is_name", none)).2 H H' ∨ H' = H → Q (.bl false) H' := fun e H' h => by
        have q2 := q H' h
        rw [e] at q2
        exact q2
      have hl : z.cps.toList.length = z.length := by
        show z.cps.toList.length = z.cps.size
        rw [Array.length_toList]
      refine ite2 (fun h1 => ?_) (fun h1 => ?_)
      · have h1' : 0 < z.length := by
          have := of_decide_eq_true h1
          omega
        refine ⟨_, _, rfl, rfl, _, rfl, ite2 (fun h2 => ?_) (fun h2 => ?_)⟩
        · have h2' : ¬ z.length < 21 := fun h => by
            have e : decide ((z.length : Int) ≤ 20) = true := decide_eq_true (by omega)
            rw [e] at h2
            cases h2
          refine no ?_ H (.inr rfl)
          show isN z = false
          unfold isN
          rw [decide_eq_false h2']
          simp
        · have h2' : z.length < 21 := by
            by_cases h : z.length < 21
            · exact h
            · have e : decide ((z.length : Int) ≤ 20) = false := decide_eq_false (by omega)
              rw [e] at h2
              exact absurd rfl h2
          have en := isN_prog z h1' h2'
          refine ⟨_, rfl, z, 0, _, rfl, rfl, asc_line az, hd_at h1', z.cps.toList.headD 0, lets, rfl, rfl, _, rfl, ite2 (fun h3 => ?_) (fun h3 => ?_)⟩
          · rw [h3] at en
            refine ⟨_, rfl, z, rfl, tg, fun H2 tb => turns_it walk_str (fun i H' => H' = H2 ∧ (z.cps.toList.take i).all (fun c => decide (c ∈ sigs.cps.toList)) = true) ⟨rfl, rfl⟩ (fun _ _ _ _ => trivial) (fun i x H3 H4 hi hp y => ?_) (fun H3 hp => ?_)⟩
            · obtain ⟨rfl, c, hc, rfl⟩ := y
              obtain ⟨rfl, hall⟩ := hp
              have hc2 : z.cps.toList[i]? = some c := by rw [Array.getElem?_toList]; exact hc
              refine ⟨rfl, _, rfl, c, sigs, rfl, rfl, _, rfl, ?_⟩
              by_cases hcs : c ∈ sigs.cps.toList
              · rw [if_pos (decide_eq_true hcs)]
                refine ⟨rfl, ?_⟩
                rw [List.take_add_one, hc2, List.all_append, hall]
                show (true && (decide (c ∈ sigs.cps.toList) && true)) = true
                rw [decide_eq_true hcs]
                rfl
              · rw [if_neg (by rw [decide_eq_false hcs]; exact Bool.false_ne_true)]
                refine ⟨_, rfl, iteF (no ?_ _ (.inl tb))⟩
                show isN z = false
                have ha : allS z = false := by
                  unfold allS
                  rw [List.all_eq_false]
                  exact ⟨c, List.mem_of_getElem? hc2, by rw [decide_eq_false hcs]; exact Bool.false_ne_true⟩
                rw [en, ha]
                rfl
            · obtain ⟨rfl, hall⟩ := hp
              have ha : allS z = true := by
                rw [List.take_of_length_le (by rw [hl]; exact Nat.le_refl _)] at hall
                exact hall
              rw [ha] at en
              refine ⟨_, rfl, ?_⟩
              refine ⟨_, rfl, a_KEPT_WORDS, _, rfl, .inr (hK _), rfl, kept_flat, ?_⟩
              have q2 := q _ (.inl tb)
              rw [show nameV (.str z) = isN z from rfl, en] at q2
              exact q2
          · refine no ?_ H (.inr rfl)
            show isN z = false
            rw [en]
            have e3 : decide (z.cps.toList.headD 0 ∈ lets.cps.toList) = false := by
              cases e : decide (z.cps.toList.headD 0 ∈ lets.cps.toList) with
              | false => rfl
              | true => exact absurd e h3
            rw [e3]
            rfl
      · have h1' : ¬ 0 < z.length := fun h => h1 (decide_eq_true (by omega))
        refine ⟨_, rfl, ?_⟩
        refine no ?_ H (.inr rfl)
        show isN z = false
        unfold isN
        rw [decide_eq_false h1']
        rfl
    | _ => exact q H (.inr rfl)
/-! ### the law's own looks -/
def spWds : Sp := fun vs H Q _ => vs = [] ∧ ∀ p, H p = none → Q (.ref p) (upd H p (.tup (keptL.map V.str)))
theorem ok_words {fd : FuncData} (D : Df K mg "_law_words" s__law_words P__law_words fd) : FnOk P w K mg base CX0 1 (He.fAd K ("_law_words", none)) fd P__law_words spWds := by
  refine (fun_of D.F).ok sc__law_words (fun vs H Q E h => ?_) (fun cdv A outer s H vs Q E hr h => ?_)
  · obtain ⟨rfl, _⟩ := h
    rfl
  · obtain ⟨rfl, q⟩ := h
    refine ⟨_, (pss_one (ps_ret (pe_tup (pa_cons pe_str (pa_cons pe_str (pa_cons pe_str (pa_cons pe_str (pa_cons pe_str (pa_cons pe_str (pa_cons pe_str (pa_cons pe_str (pa_cons pe_str (pa_cons pe_str (pa_cons pe_str (pa_cons pe_str pa_nil))))))))))))))), ?_⟩
    exact ⟨by show 12 ≤ sizeLine; decide, fun p np => q p np⟩
theorem low_mem {z : Str} (h : Asc z) (pb : Nat → Bool) : ∀ c ∈ z.cps.toList.filter pb, c < 128 := fun c hc => h.2 c (List.mem_filter.mp hc).1
theorem empty_all {l : List Nat} {p : Nat → Bool} : (l.filter fun c => !p c).isEmpty = l.all p := by
  induction l with
  | nil => rfl
  | cons a r ih =>
    rw [List.filter_cons, List.all_cons]
    cases p a with
    | true => simpa using ih
    | false => rfl
theorem ok_lw {fd : FuncData} (T : Tb mg) (D : Df K mg "_law_is_word" s__law_is_word P__law_is_word fd) : FnOk P w K mg base CX0 1 (He.fAd K ("_law_is_word", none)) fd P__law_is_word (spW K) := by
  refine (fun_of D.F).ok sc__law_is_word (fun vs H Q E h => ?_) (fun cdv A outer s H vs Q E hr h => ?_)
  · obtain ⟨x, rfl, _⟩ := h
    rfl
  · obtain ⟨x, rfl, sv, q⟩ := h
    refine ⟨_, (pss_one (ps_ret (pe_and (pe_callB call_isi (by rfl) T.isinstance (by decide +kernel) (pa_cons (pv 0) (pa_cons (pe_bltn (v := .ty "str") (by rfl) T.str (by decide +kernel) rfl) pa_nil))) (pe_one (pe_cmpR (op_eqD hr.units) (pe_lc (own := [("_law_x", 1)]) (g := gName 1) (by rfl) sc__law_is_word.nd (pi_str (pv 0)) (blkOk_by (own := [("_law_x", 1)]) (N := N__law_is_word) (sc := defScope s__law_is_word) (by decide +kernel)) (fun _ _ _ _ _ => (pg_name (i := 1) sc__law_is_word.nd rfl (.inl rfl))) (fun _ _ _ _ _ => (pts_one (pt_cmpR op_notIn_sign (pv 1) pe_str (by rfl)))) (fun _ _ _ _ _ => (pv 1))) (pe_lst pa_nil) (nomark _)))))), ?_⟩
    obtain ⟨t0, ht1, ht2⟩ := sv.ty
    refine ⟨x, rfl, x, _, .type t0, _, _, rfl, .ty "str", ht1, kit_ty ht2, _, rfl, ?_⟩
    cases x with
    | str z =>
      have az := sv.asc z rfl
      refine ⟨_, rfl, z, rfl, fun D nD => lc_signs (i := 1) (fun c => !decide (c ∈ ("01" : Str).cps.toList)) az.1 (by show 1 < 2; decide) (fun c H' Q' hc hq => ⟨_, rfl, c, ("01" : Str), rfl, rfl, _, rfl, hq⟩) ?_⟩
      refine ⟨Nat.zero_le _, fun p np => ?_⟩
      have s1 : Same H (upd H D (.lst ((z.cps.toList.filter fun c => !decide (c ∈ ("01" : Str).cps.toList)).map sg))) := same_new nD
      refine ⟨_, _, .lst (SqL.of (by rw [upd_ne (ne_of_none upd_same np)]; exact upd_same)) (dp_signs _), .lst (SqL.of upd_same) .nil, shaped_signs (low_mem az _), by decide +kernel, ?_⟩
      rw [eqv_signs, empty_all]
      exact q _ (s1.trans (same_new np))
    | _ => exact q H (Same.refl H)
theorem ok_ln {fd fdW : FuncData} (T : Tb mg) (D : Df K mg "_law_is_name" s__law_is_name P__law_is_name fd) (D__law_words : Df K mg "_law_words" s__law_words P__law_words fdW) : FnOk P w K mg base CX0 2 (He.fAd K ("_law_is_name", none)) fd P__law_is_name
    (fun vs H Q _ => ∃ x, vs = [x] ∧ Sv K H x ∧ ∀ H', Same H H' → Q (.bl (nameV x)) H') := by
  have G__law_words : FnOk P w K mg base CX0 1 (He.fAd K ("_law_words", none)) fdW P__law_words spWds := ok_words D__law_words
  refine (fun_of D.F).ok sc__law_is_name (fun vs H Q E h => ?_) (fun cdv A outer s H vs Q E hr h => ?_)
  · obtain ⟨x, rfl, _⟩ := h
    rfl
  · obtain ⟨x, rfl, sv, q⟩ := h
    refine ⟨_, (pss_cons (ps_if (PW.pt (pw_or (pt_not (pt_val (pe_callB call_isi (by rfl) T.isinstance (by decide +kernel) (pa_cons (pv 0) (pa_cons (pe_bltn (v := .ty "str") (by rfl) T.str (by decide +kernel) rfl) pa_nil))))) (pw_or (pt_not (pt_chain op_lt op_lt pe_int (pe_callB call_len_str (by rfl) T.len (by decide +kernel) (pa_cons (pv 0) pa_nil)) pe_int)) (pw_or1 (pt_cmpR op_in_seq (pv 0) (pe_call0 G__law_words (hr.mono (by first | decide | omega)) (by rfl) D__law_words.g D__law_words.F.kp D__law_words.b .nil pass0) (by rfl)))))) (pss_one (ps_ret pe_bl)) pss_nil)
      (pss_cons (ps_if (pt_cmpR (op_neD hr.units) (pe_lc (own := [("_law_x", 1)]) (g := gName 1) (by rfl) sc__law_is_name.nd (pi_str (pv 0)) (blkOk_by (own := [("_law_x", 1)]) (N := N__law_is_name) (sc := defScope s__law_is_name) (by decide +kernel)) (fun _ _ _ _ _ => (pg_name (i := 1) sc__law_is_name.nd rfl (.inl rfl))) (fun _ _ _ _ _ => (pts_one (pt_cmpR op_notIn_sign (pv 1) pe_str (by rfl)))) (fun _ _ _ _ _ => (pv 1))) (pe_lst pa_nil) (nomark _)) (pss_one (ps_ret pe_bl)) pss_nil)
      (pss_one (ps_ret (pe_cmpR op_notIn_sign (pe_ix ix_str (pv 0) pe_int (fun _ _ => rfl)) pe_str (by rfl)))))), ?_⟩
    obtain ⟨t0, ht1, ht2⟩ := sv.ty
    refine ⟨x, rfl, x, _, .type t0, _, _, rfl, .ty "str", ht1, kit_ty ht2, _, rfl, ?_⟩
    cases x with
    | str z =>
      have az := sv.asc z rfl
      have no : nameV (.str z) = false → ∀ H', Same H H' → Q (.bl false) H' := fun e H' h => by
        have q2 := q H' h
        rw [e] at q2
        exact q2
      have hl : z.cps.toList.length = z.length := by
        show z.cps.toList.length = z.cps.size
        rw [Array.length_toList]
      have lng : (decide (0 < z.length) && decide (z.length < 21)) = false → isN z = false := fun e => by
        unfold isN
        rw [e]
        rfl
      refine ⟨_, rfl, z, rfl, asc_line az, _, _, rfl, rfl, _, rfl, ite2 (fun h1 => ?_) (fun h1 => ?_)⟩
      · have h1' : 0 < z.length := by
          have := of_decide_eq_true h1
          omega
        refine ⟨_, _, rfl, rfl, _, rfl, ?_⟩
        by_cases h2 : z.length < 21
        · have e2 : decide ((z.length : Int) < 21) = true := decide_eq_true (by omega)
          rw [e2]
          have hn : isN z = (!inV (.str z) (keptL.map V.str) && (allS z && decide (z.cps.toList.headD 0 ∉ figs.cps.toList))) := by
            unfold isN
            rw [decide_eq_true h1', decide_eq_true h2]
            rfl
          refine ⟨_, rfl, rfl, fun p np => ⟨p, _, rfl, .inr (SqT.of upd_same), rfl, kept_flat, _, rfl, ?_⟩⟩
          have s1 : Same H (upd H p (.tup (keptL.map V.str))) := same_new np
          cases hk : inV (V.str z) (keptL.map V.str) with
          | true =>
            rw [hk] at hn
            exact no hn _ s1
          | false =>
            rw [hk] at hn
            refine ⟨_, rfl, z, rfl, fun D nD => lc_signs (i := 1) (fun c => !decide (c ∈ sigs.cps.toList)) az.1 (by show 1 < 2; decide) (fun c H' Q' hc hq => ⟨_, rfl, c, sigs, rfl, rfl, _, rfl, hq⟩) ?_⟩
            have s2 := s1.trans (same_new (o := .lst ((z.cps.toList.filter fun c => !decide (c ∈ sigs.cps.toList)).map sg)) nD)
            refine ⟨Nat.zero_le _, fun p2 np2 => ?_⟩
            have s3 := s2.trans (same_new (o := .lst []) np2)
            refine ⟨_, _, .lst (SqL.of (by rw [upd_ne (ne_of_none upd_same np2)]; exact upd_same)) (dp_signs _), .lst (SqL.of upd_same) .nil, shaped_signs (low_mem az _), by decide +kernel, ?_⟩
            rw [eqv_signs, empty_all]
            refine ⟨_, rfl, ?_⟩
            cases ha : allS z with
            | false =>
              rw [ha] at hn
              rw [show (z.cps.toList.all fun c => decide (c ∈ sigs.cps.toList)) = false from ha]
              exact no hn _ s3
            | true =>
              rw [ha] at hn
              rw [show (z.cps.toList.all fun c => decide (c ∈ sigs.cps.toList)) = true from ha]
              refine ⟨_, rfl, z, 0, _, rfl, rfl, asc_line az, hd_at h1', z.cps.toList.headD 0, figs, rfl, rfl, ?_⟩
              have q2 := q _ s3
              rw [show nameV (.str z) = isN z from rfl, hn] at q2
              have e3 : (!decide (z.cps.toList.headD 0 ∈ figs.cps.toList)) = decide (z.cps.toList.headD 0 ∉ figs.cps.toList) := by
                by_cases h : z.cps.toList.headD 0 ∈ figs.cps.toList
                · rw [decide_eq_true h, decide_eq_false (fun n => n h)]
                  rfl
                · rw [decide_eq_false h, decide_eq_true h]
                  rfl
              rw [e3]
              exact q2
        · have e2 : decide ((z.length : Int) < 21) = false := decide_eq_false (by omega)
          rw [e2]
          refine no (lng ?_) H (Same.refl H)
          rw [decide_eq_false h2]
          simp
      · have h1' : ¬ 0 < z.length := fun h => h1 (decide_eq_true (by omega))
        refine ⟨_, rfl, ?_⟩
        refine no (lng ?_) H (Same.refl H)
        rw [decide_eq_false h1']
        rfl
    | _ => exact q H (Same.refl H)
end
end KC


set_option Elab.async false
set_option linter.all false
set_option maxRecDepth 100000
set_option maxHeartbeats 4000000
/-! Drawn texts. -/
namespace KD
open PySem PySem.Spec PyProof.Rows L2 KT KG KM KA KB KC GxR
def AscN (n : Nat) (z : Str) : Prop := z.length ≤ n ∧ ∀ c ∈ z.cps.toList, c < 128
theorem AscN.mono {n m : Nat} {z : Str} (h : AscN n z) (l : n ≤ m) : AscN m z := ⟨Nat.le_trans h.1 l, h.2⟩
theorem AscN.app {n m : Nat} {a b : Str} (h : AscN n a) (k : AscN m b) : AscN (n + m) (a ++ b) := by
  refine ⟨?_, fun c hc => ?_⟩
  · rw [Str.length_append]
    have := h.1
    have := k.1
    omega
  · have e : (a ++ b).cps.toList = a.cps.toList ++ b.cps.toList := by
      show (a.cps ++ b.cps).toList = _
      rw [Array.toList_append]
    rw [e] at hc
    rcases List.mem_append.mp hc with h1 | h1
    · exact h.2 c h1
    · exact k.2 c h1
theorem AscN.cut {n : Nat} {z : Str} (h : AscN n z) (lo hi : Option Int) : AscN n (cutS z lo hi) := by
  refine ⟨Nat.le_trans (cutS_length z lo hi) h.1, fun c hc => ?_⟩
  have e : (cutS z lo hi).cps.toList = (z.cps.toList.drop (HT.sIx z.length 0 lo)).take (HT.sIx z.length z.length hi - HT.sIx z.length 0 lo) := rfl
  rw [e] at hc
  exact h.2 c (List.mem_of_mem_drop (List.mem_of_mem_take hc))
theorem AscN.join1 {m : Nat} : ∀ ys : List Str, (∀ y ∈ ys, AscN m y) → AscN (ys.length * m) (Str.join "" ys)
  | [], _ => ⟨Nat.zero_le _, fun c hc => by cases hc⟩
  | [x], h => (h x (List.mem_cons_self ..)).mono (by simp)
  | x :: y :: r, h => by
    have ih := AscN.join1 (y :: r) fun z hz => h z (List.mem_cons_of_mem _ hz)
    have e0 : AscN 0 ("" : Str) := ⟨Nat.le_refl _, fun c hc => by cases hc⟩
    have hx := (h x (List.mem_cons_self ..)).app e0
    refine (hx.app ih).mono ?_
    simp only [List.length_cons, Nat.add_mul, Nat.one_mul]
    omega
theorem AscN.join {m : Nat} (ys : List Str) (h : ∀ y ∈ ys, AscN m y) : AscN (ys.length * m) (Txt.join "" ys) := by
  have e : Txt.join "" ys = Str.join "" ys := StrLaws.glued_eq_join _ _
  rw [e]
  exact AscN.join1 ys h
theorem AscN.asc {n : Nat} {z : Str} (h : AscN n z) (l : n ≤ 2000) : Asc z := ⟨Nat.le_trans h.1 l, h.2⟩
theorem ascn {n : Nat} {z : Str} (h : (decide (z.length ≤ n) && z.cps.toList.all fun c => decide (c < 128)) = true) : AscN n z := by
  rw [Bool.and_eq_true] at h
  exact ⟨of_decide_eq_true h.1, fun c hc => of_decide_eq_true (List.all_eq_true.mp h.2 c hc)⟩
theorem sum_len {ys : List Str} {m : Nat} (h : ∀ y ∈ ys, AscN m y) : (ys.map (·.length)).sum ≤ ys.length * m := by
  induction ys with
  | nil => exact Nat.zero_le _
  | cons a r ih =>
    have := (h a (List.mem_cons_self ..)).1
    have := ih fun y hy => h y (List.mem_cons_of_mem _ hy)
    simp only [List.map_cons, List.sum_cons, List.length_cons, Nat.add_mul, Nat.one_mul]
    omega
section
variable {X : Cx}
/-- a text times an int -/
def rRepS : R2 := fun x y H Q => ∃ z n, x = .str z ∧ y = .int n ∧ MulOk z n ∧ Q (.str (Txt.mul z n)) H
theorem op_repS : OpR X (binaryOp .Mult) rRepS := by
  intro pins s σ H x y v u Q I rx ry h
  obtain ⟨z, n, rfl, rfl, hz, q⟩ := h
  obtain ⟨t, rfl⟩ := rx
  obtain ⟨t', rfl⟩ := ry
  exact SB.mul hz (fun t' tk => ⟨.str _, H, I.tok _, ⟨_, rfl⟩, q⟩)
end
abbrev N__law_drawn_word : List Str := ["_law_deck_here", "_law_turn"]
abbrev P__law_drawn_word : List Str := ["_law_deck_here"]
theorem sc__law_drawn_word : FnScope N__law_drawn_word P__law_drawn_word (defScope s__law_drawn_word) := ⟨rfl, rfl, rfl, by decide +kernel, rfl, by decide +kernel, by decide +kernel⟩
theorem mul20 : MulOk "01" 20 := ⟨by decide +kernel, fun _ _ => by decide +kernel, fun _ _ => by decide +kernel⟩
theorem mul700 : MulOk "10" 700 := ⟨by decide +kernel, fun _ _ => by decide +kernel, fun _ _ => by decide +kernel⟩
theorem kept_asc : ∀ x ∈ keptL.map V.str, ∃ y : Str, x = .str y ∧ AscN 5 y := by
  intro x hx
  obtain ⟨y, hy, rfl⟩ := List.mem_map.mp hx
  have key : keptL.all (fun z => decide (z.length ≤ 5) && z.cps.toList.all fun c => decide (c < 128)) = true := by decide +kernel
  exact ⟨y, rfl, ascn (List.all_eq_true.mp key y hy)⟩
section
variable {P : Program} {w : World} {K : PySem.W.Frag} {mg : Str → Option Value} {base : Heap}
/-- what a pick out of a list just made is -/
theorem pickL {d L p : Addr} {H H1 : Hp} {xs : List V} {Q : VK} (f : Fr d L H H1) (np : H1 p = none) (h0 : 0 < xs.length) (hl : xs.length ≤ 1000)
    (h : ∀ x ∈ xs, ∀ H', Fr d L H H' → Q x H') : spPick K [.ref d, .ref p] (upd H1 p (.lst xs)) Q E0 := by
  have dk := f.dk
  have pL : p ≠ L := fun e => by
    obtain ⟨ns, m, k, h1, h2, _⟩ := dk
    rw [e, h2] at np
    cases np
  exact ⟨d, L, p, xs, rfl, dk.upd np, pL, .inl (SqL.of upd_same), h0, by omega, fun i x H' hi f2 => h x (List.mem_of_getElem? hi) H' (f.trans ((Fr.new dk np).trans f2))⟩
theorem pickT {d L p : Addr} {H H1 : Hp} {xs : List V} {Q : VK} (f : Fr d L H H1) (np : H1 p = none) (h0 : 0 < xs.length) (hl : xs.length ≤ 1000)
    (h : ∀ x ∈ xs, ∀ H', Fr d L H H' → Q x H') : spPick K [.ref d, .ref p] (upd H1 p (.tup xs)) Q E0 := by
  have dk := f.dk
  have pL : p ≠ L := fun e => by
    obtain ⟨ns, m, k, h1, h2, _⟩ := dk
    rw [e, h2] at np
    cases np
  exact ⟨d, L, p, xs, rfl, dk.upd np, pL, .inr (SqT.of upd_same), h0, by omega, fun i x H' hi f2 => h x (List.mem_of_getElem? hi) H' (f.trans ((Fr.new dk np).trans f2))⟩
def spTxt (n : Nat) : Sp := fun vs H Q _ => ∃ d L : Addr, vs = [.ref d] ∧ DK d L H ∧ ∀ z H', AscN n z → Fr d L H H' → Q (.str z) H'
theorem ok_drawn {fd fdD fdP : FuncData} (T : Tb mg) (D : Df K mg "_law_drawn_word" s__law_drawn_word P__law_drawn_word fd) (D__law_draw : Df K mg "_law_draw" s__law_draw P__law_draw fdD) (D__law_pick : Df K mg "_law_pick" s__law_pick P__law_pick fdP) :
    FnOk P w K mg base CX0 3 (He.fAd K ("_law_drawn_word", none)) fd P__law_drawn_word (spTxt 11) := by
  have G__law_pick : FnOk P w K mg base CX0 2 (He.fAd K ("_law_pick", none)) fdP P__law_pick (spPick K) := ok_pick D__law_pick T D__law_draw
  refine (fun_of D.F).ok sc__law_drawn_word (fun vs H Q E h => ?_) (fun cdv A outer s H vs Q E hr h => ?_)
  · obtain ⟨d, L, rfl, _⟩ := h
    rfl
  · obtain ⟨d, L, rfl, hD, q⟩ := h
    refine ⟨_, (pss_one (ps_ret (pe_bm PySem.F.plainAttrs_str PySem.F.slot_str_join PySem.F.type_str_join mt_join pe_str (pa_cons (pe_lc (own := [("_law_turn", 1)]) (g := gName 1) (tt := tYes) (by rfl) sc__law_drawn_word.nd (pi_range1 rfl T.range (pa_cons (pe_call G__law_pick (hr.mono (by first | decide | omega)) (by rfl) D__law_pick.g D__law_pick.F.kp D__law_pick.b .nil pass0 (pa_cons (pv 0) (pa_cons (pe_lst (pa_cons pe_int (pa_cons pe_int (pa_cons pe_int (pa_cons pe_int (pa_cons pe_int (pa_cons pe_int (pa_cons pe_int (pa_cons pe_int pa_nil))))))))) pa_nil))) pa_nil)) (blkOk_by (own := [("_law_turn", 1)]) (N := N__law_drawn_word) (sc := defScope s__law_drawn_word) (by decide +kernel)) (fun _ _ _ _ _ => (pg_name (i := 1) sc__law_drawn_word.nd rfl (.inl rfl))) (fun _ _ _ _ _ => pts_nil) (fun _ _ _ _ _ => (pe_call G__law_pick (hr.mono (by first | decide | omega)) (by rfl) D__law_pick.g D__law_pick.F.kp D__law_pick.b .nil pass0 (pa_cons (pv 0) (pa_cons (pe_lst (pa_cons pe_str (pa_cons pe_str pa_nil))) pa_nil))))) pa_nil)))), ?_⟩
    refine ⟨rfl, _, rfl, by show 8 ≤ sizeLine; decide, fun p np => pickL (Fr.refl hD) np (by show 0 < 8; decide) (by show 8 ≤ 1000; decide) fun x hx H2 f2 => ?_⟩
    have hx2 : ∃ r : Int, x = .int r ∧ 0 ≤ r ∧ r ≤ 11 := by
      simp only [List.mem_cons, List.not_mem_nil, or_false] at hx
      rcases hx with rfl | rfl | rfl | rfl | rfl | rfl | rfl | rfl <;> exact ⟨_, rfl, by decide, by decide⟩
    obtain ⟨r, rfl, r0, r1⟩ := hx2
    refine ⟨r, rfl, by omega, by omega, fun D nD => ?_⟩
    obtain ⟨nHD, ndD, nLD⟩ := f2.fresh nD
    refine lc_range (lo := 0) (n := r.toNat) (fun i H' => ∃ ys : List Str, H' D = some (.lst (ys.map V.str)) ∧ ys.length = i ∧ (∀ y ∈ ys, AscN 1 y) ∧ Fr d L H H') ⟨[], upd_same, rfl, (fun y hy => by cases hy), f2.mut nHD ndD nLD⟩ (fun i H' hi h => ?_) (fun H' h => ?_)
    · obtain ⟨ys, hys, hl, ha, f3⟩ := h
      refine ⟨rfl, ?_⟩
      refine ⟨_, rfl, by show 2 ≤ sizeLine; decide, fun p np => pickL (Fr.refl f3.dk) np (by show 0 < 2; decide) (by show 2 ≤ 1000; decide) fun x hx H4 f4 => ?_⟩
      obtain ⟨y, rfl, hy⟩ : ∃ y : Str, x = .str y ∧ AscN 1 y := by
        simp only [List.mem_cons, List.not_mem_nil, or_false] at hx
        rcases hx with rfl | rfl <;> exact ⟨_, rfl, ascn (by decide +kernel)⟩
      refine ⟨ys.map V.str, f4.st D _ ndD nLD hys, small1000 (by rw [List.length_map]; omega), ys ++ [y], ?_, ?_, ?_, (f3.trans f4).mut nHD ndD nLD⟩
      · rw [List.map_append]
        exact upd_same
      · rw [List.length_append, hl]
        rfl
      · intro z hz
        rcases List.mem_append.mp hz with h1 | h1
        · exact ha z h1
        · rw [List.mem_singleton.mp h1]
          exact hy
    · obtain ⟨ys, hys, hl, ha, f3⟩ := h
      refine ⟨"", D, ys, rfl, rfl, .inl (SqL.of hys), ?_, ?_⟩
      · have := sum_len ha
        have e : ("" : Str).length = 0 := rfl
        rw [e]
        omega
      · exact q _ _ ((AscN.join ys ha).mono (by omega)) f3
end
end KD


set_option Elab.async false
set_option linter.all false
set_option maxRecDepth 100000
set_option maxHeartbeats 4000000
/-! What the program says of terms, commands, trees, as a function of a value's data. -/
namespace KP
open PySem PySem.Spec PyProof.Rows L2 KT KG KM KX KQ KA KB KC GxR
/-! ### the plain functions -/
def nameD : PyData → Bool
  | .str z => isN z
  | _ => false
def wordD : PyData → Bool
  | .str z => isW z
  | _ => false
def bitD : PyData → Bool
  | .str z => z == "0" || z == "1"
  | _ => false
def kindIs (z : Str) : PyData → Bool
  | .str x => x == z
  | _ => false
def allT (f : PyData → Bool) : PyData → Bool
  | .tuple ys => ys.all f
  | _ => false
def termT (f g : PyData → Bool) : PyData → Bool
  | .tuple [k, a] => (kindIs "name" k && nameD a) || ((kindIs "word" k && wordD a) || (kindIs "cut" k && f a))
  | .tuple [k, a, b] => kindIs "put" k && (f a && bitD b)
  | .tuple [k, a, b, c] => kindIs "call" k && (nameD a && (g b && g c))
  | _ => false
def termB : Nat → PyData → Bool
  | 0, _ => false
  | 1, d => termT (fun _ => false) (allT fun _ => false) d
  | n + 2, d => termT (termB (n + 1)) (allT (termB n)) d
/-- every part of a tuple -/
def Sub (p : PyData → Prop) (d : PyData) : Prop := ∀ ys, d = .tuple ys → ∀ y ∈ ys, p y
theorem Sub.mono {p q : PyData → Prop} {d : PyData} (h : Sub p d) (k : ∀ y, p y → q y) : Sub q d := fun ys e y hy => k y (h ys e y hy)
theorem depth_mem : ∀ {ys : List PyData} {y : PyData}, y ∈ ys → y.depth ≤ PyData.depthAll ys
  | a :: r, y, h => by
    rcases List.mem_cons.mp h with rfl | h
    · simp only [PyData.depthAll]
      exact Nat.le_max_left _ _
    · simp only [PyData.depthAll]
      exact Nat.le_trans (depth_mem h) (Nat.le_max_right _ _)
theorem sub_depth {n : Nat} {d : PyData} (h : d.depth ≤ n + 1) : Sub (fun y => y.depth ≤ n) d := fun ys e y hy => by
  subst e
  simp only [PyData.depth] at h
  exact Nat.le_trans (depth_mem hy) (by omega)
theorem sub_zero {p : PyData → Prop} {d : PyData} (h : d.depth ≤ 0) : Sub p d := fun ys e => by
  subst e
  simp only [PyData.depth] at h
  omega
/-! ### what a look leaves -/
def Ts (Tl : List Addr) (H : Hp) : Prop := ∀ P ∈ Tl, TabG H P
structure Lk (M : Addr → Prop) (Tl : List Addr) (H H' : Hp) : Prop where
  k : Kp M H H'
  t : Ts Tl H → Ts Tl H'
theorem Lk.refl (M : Addr → Prop) (Tl : List Addr) (H : Hp) : Lk M Tl H H := ⟨.refl _ _, id⟩
theorem Lk.trans {M : Addr → Prop} {Tl : List Addr} {H H1 H2 : Hp} (a : Lk M Tl H H1) (b : Lk M Tl H1 H2) : Lk M Tl H H2 := ⟨a.k.trans b.k, fun h => b.t (a.t h)⟩
theorem Lk.same {M : Addr → Prop} {Tl : List Addr} {H H' : Hp} (s : Same H H') : Lk M Tl H H' := ⟨.same s, fun h P hP => by
  obtain ⟨ps, e, ok⟩ := h P hP
  exact ⟨ps, s _ _ e, ok⟩⟩
theorem Lk.new {M : Addr → Prop} {Tl : List Addr} {H : Hp} {p : Addr} {o : HO} (n : H p = none) : Lk M Tl H (upd H p o) := .same (same_new n)
theorem Lk.tab {M : Addr → Prop} {Tl : List Addr} {H H' : Hp} {P : Addr} (g : TabG H P) (t : Tabbed P H H') : Lk M Tl H H' := by
  obtain ⟨ps, e, _⟩ := g
  refine ⟨⟨fun a o n nt ea => ?_, fun a xs ea => ?_⟩, fun h Q hQ => ?_⟩
  · have : a ≠ P := fun z => by
      rw [z, e] at ea
      exact nt _ (Option.some.inj ea).symm
    rw [t.2 a this]
    exact ea
  · have : a ≠ P := fun z => by
      rw [z, e] at ea
      cases ea
    rw [t.2 a this]
    exact ea
  · by_cases z : Q = P
    · rw [z]
      exact t.1
    · obtain ⟨qs, f, ok⟩ := h Q hQ
      exact ⟨qs, by rw [t.2 Q z]; exact f, ok⟩
theorem Lk.tabs {M : Addr → Prop} {Tl : List Addr} {H H' : Hp} {P : Addr} (g : TabG H P) (t : Tabbed P H H' ∨ H' = H) : Lk M Tl H H' := by
  rcases t with t | rfl
  · exact Lk.tab g t
  · exact .refl _ _ _
/-! ### what a datum tells of its value -/
section
variable {M : Addr → Prop} {H : Hp}
theorem Dx.isa {K : PySem.W.Frag} {v : V} {d : PyData} (h : Dx M H v d) : IsA K H v "str" (isS v) := by
  cases h with
  | non => exact ⟨_, .base .non, by decide +kernel⟩
  | bl b => exact ⟨_, .base (.bl b), (by decide +kernel : kitB "bool" "str" = some false)⟩
  | int i => exact ⟨_, .base (.int i), (by decide +kernel : kitB "int" "str" = some false)⟩
  | str h => exact ⟨_, .base (.str _), (by decide +kernel : kitB "str" "str" = some true)⟩
  | lst n e _ => exact ⟨_, .base (.lst e), (by decide +kernel : kitB "list" "str" = some false)⟩
  | tup e _ => exact ⟨_, .base (.tup e), (by decide +kernel : kitB "tuple" "str" = some false)⟩
  | dk n e _ => exact ⟨_, .base (.dK e), (by decide +kernel : kitB "dict" "str" = some false)⟩
def isTup : PyData → Bool
  | .tuple _ => true
  | _ => false
theorem Dx.isaT {K : PySem.W.Frag} {v : V} {d : PyData} (h : Dx M H v d) : IsA K H v "tuple" (isTup d) := by
  cases h with
  | non => exact ⟨_, .base .non, by decide +kernel⟩
  | bl b => exact ⟨_, .base (.bl b), (by decide +kernel : kitB "bool" "tuple" = some false)⟩
  | int i => exact ⟨_, .base (.int i), (by decide +kernel : kitB "int" "tuple" = some false)⟩
  | str h => exact ⟨_, .base (.str _), (by decide +kernel : kitB "str" "tuple" = some false)⟩
  | lst n e _ => exact ⟨_, .base (.lst e), (by decide +kernel : kitB "list" "tuple" = some false)⟩
  | tup e _ => exact ⟨_, .base (.tup e), (by decide +kernel : kitB "tuple" "tuple" = some true)⟩
  | dk n e _ => exact ⟨_, .base (.dK e), (by decide +kernel : kitB "dict" "tuple" = some false)⟩
/-- strings of a datum are short -/
def AscD (d : PyData) : Prop := ∀ z, d = .str z → Asc z
theorem Dx.sv {K : PySem.W.Frag} {v : V} {d : PyData} (h : Dx M H v d) (a : AscD d) : Sv K H v := ⟨Dx.isa h, fun z e => by
  subst e
  cases h
  exact a z rfl⟩
theorem nameV_of {v : V} {d : PyData} (h : Dx M H v d) : nameV v = nameD d := by cases h <;> rfl
theorem wordV_of {v : V} {d : PyData} (h : Dx M H v d) : wordV v = wordD d := by cases h <;> rfl
theorem isT_of {v : V} {d : PyData} {z : Str} (h : Dx M H v d) : isT v z = kindIs z d := by
  cases h with
  | str x => exact isT_str x z
  | _ => rfl
theorem Dx.tupOf {v : V} {ys : List PyData} (h : Dx M H v (.tuple ys)) : ∃ a xs, v = .ref a ∧ H a = some (.tup xs) ∧ DxAll M H xs ys := by
  cases h with
  | tup e r => exact ⟨_, _, rfl, e, r⟩
end
/-! ### the program's looks -/
mutual
def AscA : PyData → Prop
  | .str z => Asc z
  | .list xs => AscL xs
  | .tuple xs => AscL xs
  | _ => True
def AscL : List PyData → Prop
  | [] => True
  | x :: r => AscA x ∧ AscL r
end
theorem AscL.mem : ∀ {ys : List PyData} {y : PyData}, AscL ys → y ∈ ys → AscA y
  | a :: r, y, h, m => by
    unfold AscL at h
    rcases List.mem_cons.mp m with rfl | m
    · exact h.1
    · exact AscL.mem h.2 m
theorem AscA.tup {ys : List PyData} (h : AscA (.tuple ys)) {y : PyData} (m : y ∈ ys) : AscA y := by
  unfold AscA at h
  exact AscL.mem h m
theorem AscA.ascD {d : PyData} (h : AscA d) : AscD d := fun z e => by
  subst e
  unfold AscA at h
  exact h
abbrev N_are_names : List Str := ["thing", "part"]
abbrev P_are_names : List Str := ["thing"]
theorem sc_are_names : FnScope N_are_names P_are_names (defScope s_are_names) := ⟨rfl, rfl, rfl, by decide +kernel, rfl, by decide +kernel, by decide +kernel⟩
abbrev N_are_terms : List Str := ["thing", "call", "part"]
abbrev P_are_terms : List Str := ["thing", "call"]
theorem sc_are_terms : FnScope N_are_terms P_are_terms (defScope s_are_terms) := ⟨rfl, rfl, rfl, by decide +kernel, rfl, by decide +kernel, by decide +kernel⟩
abbrev N_fits_term : List Str := ["thing", "call", "kind"]
abbrev P_fits_term : List Str := ["thing", "call"]
theorem sc_fits_term : FnScope N_fits_term P_fits_term (defScope s_fits_term) := ⟨rfl, rfl, rfl, by decide +kernel, rfl, by decide +kernel, by decide +kernel⟩
abbrev N_fits_call : List Str := ["thing", "call", "many", "part"]
abbrev P_fits_call : List Str := ["thing", "call"]
theorem sc_fits_call : FnScope N_fits_call P_fits_call (defScope s_fits_call) := ⟨rfl, rfl, rfl, by decide +kernel, rfl, by decide +kernel, by decide +kernel⟩
abbrev N_fits_command : List Str := ["thing", "call", "kind", "part"]
abbrev P_fits_command : List Str := ["thing", "call"]
theorem sc_fits_command : FnScope N_fits_command P_fits_command (defScope s_fits_command) := ⟨rfl, rfl, rfl, by decide +kernel, rfl, by decide +kernel, by decide +kernel⟩
abbrev N_fits_block : List Str := ["thing", "call", "part"]
abbrev P_fits_block : List Str := ["thing", "call"]
theorem sc_fits_block : FnScope N_fits_block P_fits_block (defScope s_fits_block) := ⟨rfl, rfl, rfl, by decide +kernel, rfl, by decide +kernel, by decide +kernel⟩
abbrev N_fits_function : List Str := ["thing", "kind", "call", "many", "names", "block", "gives", "part"]
abbrev P_fits_function : List Str := ["thing", "kind", "call"]
theorem sc_fits_function : FnScope N_fits_function P_fits_function (defScope s_fits_function) := ⟨rfl, rfl, rfl, by decide +kernel, rfl, by decide +kernel, by decide +kernel⟩
abbrev N_is_term : List Str := ["thing"]
abbrev P_is_term : List Str := ["thing"]
theorem sc_is_term : FnScope N_is_term P_is_term (defScope s_is_term) := ⟨rfl, rfl, rfl, by decide +kernel, rfl, by decide +kernel, by decide +kernel⟩
abbrev N_is_command : List Str := ["thing"]
abbrev P_is_command : List Str := ["thing"]
theorem sc_is_command : FnScope N_is_command P_is_command (defScope s_is_command) := ⟨rfl, rfl, rfl, by decide +kernel, rfl, by decide +kernel, by decide +kernel⟩
abbrev N_is_tree : List Str := ["thing", "part"]
abbrev P_is_tree : List Str := ["thing"]
theorem sc_is_tree : FnScope N_is_tree P_is_tree (defScope s_is_tree) := ⟨rfl, rfl, rfl, by decide +kernel, rfl, by decide +kernel, by decide +kernel⟩
section
variable {P : Program} {w : World} {K : PySem.W.Frag} {mg : Str → Option Value} {base : Heap} {Tl : List Addr}
def spB (Tl : List Addr) (args : List V) (dom : PyData → Prop) (f : PyData → Bool) : Sp := fun vs H Q _ => ∃ (M : Addr → Prop) (x : V) (d : PyData), vs = x :: args ∧ Dx M H x d ∧ AscA d ∧ dom d ∧ Ts Tl H ∧ ∀ H', Lk M Tl H H' → Q (.bl (f d)) H'
theorem all_take {f : PyData → Bool} {ys : List PyData} {i : Nat} {y : PyData} (h : (ys.take i).all f = true) (e : ys[i]? = some y) (hf : f y = true) : (ys.take (i + 1)).all f = true := by
  rw [List.take_add_one, e, List.all_append, h]
  show (true && (f y && true)) = true
  rw [hf]
  rfl
theorem all_false {f : PyData → Bool} {ys : List PyData} {i : Nat} {y : PyData} (e : ys[i]? = some y) (hf : f y = false) : ys.all f = false := by
  rw [List.all_eq_false]
  exact ⟨y, List.mem_of_getElem? e, by rw [hf]; exact Bool.false_ne_true⟩
/-- the turns of all(look(part, ..) for part in a tuple) -/
theorem turns_tup {H2 : Hp} {M : Addr → Prop} {a : Addr} {xs : List V} {ys : List PyData} {f : PyData → Bool} {g : TG} {te : TE} {vs : List Nat} {σ : L2.St} {Qe Qf : Hp → Prop}
    (e : H2 a = some (.tup xs)) (r : DxAll M H2 xs ys) (t : Ts Tl H2)
    (hs : ∀ (x : V) (y : PyData) (H : Hp) (R : Hp → Bool → Prop), y ∈ ys → Dx M H x y → Ts Tl H → Lk M Tl H2 H → (∀ H', Lk M Tl H H' → R H' (f y)) → g x (wipe σ vs) H fun σ2 H3 => wipe σ2 vs = wipe σ vs ∧ te σ2 H3 fun b H4 => ∃ c, b = .bl c ∧ R H4 c)
    (he : ∀ H, Lk M Tl H2 H → ys.all f = true → Qe H) (hf : ∀ H, Lk M Tl H2 H → ys.all f = false → Qf H) :
    ∃ W : Nat → Nat → Hp → Prop, (∃ m, W 0 m H2) ∧ KG.Turns (Itt K a) g te σ vs true W Qe Qf := by
  have hl := DxAll.length r
  refine turns_it (n := xs.length) walk_tup (fun i H => Lk M Tl H2 H ∧ (ys.take i).all f = true) ⟨.refl _ _ _, rfl⟩ (fun i H hi p => SqT.of (p.1.k.tp _ _ e)) (fun i x H H' hi p y => ?_) (fun H p => ?_)
  · obtain ⟨rfl, hx⟩ := y
    obtain ⟨lk, al⟩ := p
    obtain ⟨d, hd, hxd⟩ := DxAll.at r hx
    refine hs x d H' (fun H4 c => if c = true then (Lk M Tl H2 H4 ∧ (ys.take (i + 1)).all f = true) else Qf H4) (List.mem_of_getElem? hd) (Dx.kp lk.k _ _ hxd) (lk.t t) lk (fun H4 l4 => ?_)
    cases hfd : f d with
    | true =>
      rw [if_pos rfl]
      exact ⟨lk.trans l4, all_take al hd hfd⟩
    | false =>
      rw [if_neg Bool.false_ne_true]
      exact hf H4 (lk.trans l4) (all_false hd hfd)
  · refine he H p.1 ?_
    have := p.2
    rw [hl, List.take_length] at this
    exact this
/-- is_name by its value's datum -/
def spNm (K : PySem.W.Frag) : Sp := spN K (He.cT K ("is_name", none)).2
theorem name_sp {x : V} {d : PyData} {M : Addr → Prop} {H : Hp} {Q : VK} (hT : (He.cT K ("is_name", none)).2 ∈ Tl) (h : Dx M H x d) (a : AscA d) (t : Ts Tl H) (q : ∀ H', Lk M Tl H H' → Q (.bl (nameD d)) H') : spNm K [x] H Q E0 :=
  ⟨x, rfl, Dx.sv h a.ascD, t _ hT, fun H' ht => by
    rw [nameV_of h]
    exact q H' (Lk.tabs (t _ hT) ht)⟩
def spA (Tl : List Addr) (dom : PyData → Prop) (f : PyData → Bool) : Sp := spB Tl [] dom f
theorem ok_names {fd fdN : FuncData} (T : Tb mg) (D : Df K mg "are_names" s_are_names P_are_names fd) (D_is_name : Df K mg "is_name" s_is_name P_is_name fdN)
    (G_is_name : FnOk P w K mg base CX0 5 (He.fAd K ("is_name", none)) fdN P_is_name (spNm K)) (hT : (He.cT K ("is_name", none)).2 ∈ Tl) (hT2 : (He.cT K ("are_names", none)).2 ∈ Tl)
    (TB_are_names : TabB base mg (He.cT K ("are_names", none)).1 (He.cT K ("are_names", none)).2) : FnOk P w K mg base CX0 9 (He.fAd K ("are_names", none)) fd P_are_names (spB Tl [] (fun _ => True) (allT nameD)) := by
  refine okC D.F sc_are_names (fun vs H Q E h => ?_) (fun cdv A outer s H vs Q E hcd hr h => ?_)
  · obtain ⟨M, x, d, rfl, _⟩ := h
    rfl
  · obtain ⟨M, x, d, rfl, hx, ha, _, ht, q⟩ := h
    refine ⟨_, (pss_one (ps_ret (pe_and (pe_callB call_isi (by rfl) T.isinstance (by decide +kernel) (pa_cons (pv 0) (pa_cons (pe_bltn (v := .ty "tuple") (by rfl) T.tuple (by decide +kernel) rfl) pa_nil))) (pe_one (pe_all (own := [("part", 1)]) (g := gName 1) rfl sc_are_names.nd hr (by rfl) T.all TB_are_names hcd (gnOk_by (own := [("part", 1)]) (N := N_are_names) (sc := defScope s_are_names) (by decide +kernel)) (pi_tup (pv 0)) (fun _ _ _ _ _ _ => (pg_name (i := 1) sc_are_names.nd rfl (.inl rfl))) (fun _ _ _ _ _ _ => (pe_call G_is_name ((room_gen hr).mono (by first | decide | omega)) (by rfl) D_is_name.g D_is_name.F.kp D_is_name.b .nil pass0 (pa_cons (pv 1) pa_nil)))))))), ?_⟩
    obtain ⟨t0, ht1, ht2⟩ := Dx.isaT (K := K) hx
    refine ⟨x, rfl, x, _, .type t0, _, _, rfl, .ty "tuple", ht1, kit_ty ht2, _, rfl, ?_⟩
    cases d with
    | tuple ys =>
      obtain ⟨a, xs, rfl, e, r⟩ := Dx.tupOf hx
      refine ⟨_, rfl, a, rfl, ⟨xs, SqT.of e⟩, ht _ hT2, fun H2 tb => ?_⟩
      have lk : Lk M Tl H H2 := Lk.tab (ht _ hT2) tb
      refine turns_tup (f := nameD) (lk.k.tp _ _ e) (Dx.kpAll lk.k _ _ r) (lk.t ht) (fun x y H3 R hy hxy t3 l3 hR => ?_) (fun H3 l3 al => ?_) (fun H3 l3 al => ?_)
      · exact ⟨rfl, _, rfl, name_sp hT hxy (ha.tup hy) t3 fun H4 l4 => ⟨_, rfl, hR H4 l4⟩⟩
      · have q2 := q _ (lk.trans l3)
        rw [show allT nameD (.tuple ys) = ys.all nameD from rfl, al] at q2
        exact q2
      · have q2 := q _ (lk.trans l3)
        rw [show allT nameD (.tuple ys) = ys.all nameD from rfl, al] at q2
        exact q2
    | _ => exact q H (.refl _ _ _)
theorem ok_terms {fd fdF : FuncData} {k : Nat} {dom : PyData → Prop} {f : PyData → Bool} (T : Tb mg) (D : Df K mg "are_terms" s_are_terms P_are_terms fd) (D_fits_term : Df K mg "fits_term" s_fits_term P_fits_term fdF)
    (G_fits_term : FnOk P w K mg base CX0 k (He.fAd K ("fits_term", none)) fdF P_fits_term (spB Tl [.str "call"] dom f)) (hT2 : (He.cT K ("are_terms", none)).2 ∈ Tl)
    (TB_are_terms : TabB base mg (He.cT K ("are_terms", none)).1 (He.cT K ("are_terms", none)).2) : FnOk P w K mg base CX0 (k + 4) (He.fAd K ("are_terms", none)) fd P_are_terms (spB Tl [.str "call"] (Sub dom) (allT f)) := by
  refine okC D.F sc_are_terms (fun vs H Q E h => ?_) (fun cdv A outer s H vs Q E hcd hr h => ?_)
  · obtain ⟨M, x, d, rfl, _⟩ := h
    rfl
  · obtain ⟨M, x, d, rfl, hx, ha, hd, ht, q⟩ := h
    refine ⟨_, (pss_one (ps_ret (pe_and (pe_callB call_isi (by rfl) T.isinstance (by decide +kernel) (pa_cons (pv 0) (pa_cons (pe_bltn (v := .ty "tuple") (by rfl) T.tuple (by decide +kernel) rfl) pa_nil))) (pe_one (pe_all (own := [("part", 2)]) (g := gName 2) rfl sc_are_terms.nd hr (by rfl) T.all TB_are_terms hcd (gnOk_by (own := [("part", 2)]) (N := N_are_terms) (sc := defScope s_are_terms) (by decide +kernel)) (pi_tup (pv 0)) (fun _ _ _ _ _ _ => (pg_name (i := 2) sc_are_terms.nd rfl (.inl rfl))) (fun _ _ _ _ _ _ => (pe_call G_fits_term ((room_gen hr).mono (by first | decide | omega)) (by rfl) D_fits_term.g D_fits_term.F.kp D_fits_term.b .nil pass0 (pa_cons (pv 2) (pa_cons (pv 1) pa_nil))))))))), ?_⟩
    obtain ⟨t0, ht1, ht2⟩ := Dx.isaT (K := K) hx
    refine ⟨x, rfl, x, _, .type t0, _, _, rfl, .ty "tuple", ht1, kit_ty ht2, _, rfl, ?_⟩
    cases d with
    | tuple ys =>
      obtain ⟨a, xs, rfl, e, r⟩ := Dx.tupOf hx
      refine ⟨_, rfl, a, rfl, ⟨xs, SqT.of e⟩, ht _ hT2, fun H2 tb => ?_⟩
      have lk : Lk M Tl H H2 := Lk.tab (ht _ hT2) tb
      refine turns_tup (f := f) (lk.k.tp _ _ e) (Dx.kpAll lk.k _ _ r) (lk.t ht) (fun x y H3 R hy hxy t3 l3 hR => ?_) (fun H3 l3 al => ?_) (fun H3 l3 al => ?_)
      · exact ⟨rfl, _, rfl, _, rfl, M, x, y, rfl, hxy, ha.tup hy, hd ys rfl y hy, t3, fun H4 l4 => ⟨_, rfl, hR H4 l4⟩⟩
      · have q2 := q _ (lk.trans l3)
        rw [show allT f (.tuple ys) = ys.all f from rfl, al] at q2
        exact q2
      · have q2 := q _ (lk.trans l3)
        rw [show allT f (.tuple ys) = ys.all f from rfl, al] at q2
        exact q2
    | _ => exact q H (.refl _ _ _)
theorem len2 {M : Addr → Prop} {H : Hp} {xs : List V} {ys : List PyData} (r : DxAll M H xs ys) (h : xs.length = 2) : ∃ a b p q, xs = [a, b] ∧ ys = [p, q] ∧ Dx M H a p ∧ Dx M H b q :=
  match xs, ys, r, h with
  | [_, _], [_, _], .cons h1 (.cons h2 .nil), _ => ⟨_, _, _, _, rfl, rfl, h1, h2⟩
theorem len3 {M : Addr → Prop} {H : Hp} {xs : List V} {ys : List PyData} (r : DxAll M H xs ys) (h : xs.length = 3) : ∃ a b c p q s, xs = [a, b, c] ∧ ys = [p, q, s] ∧ Dx M H a p ∧ Dx M H b q ∧ Dx M H c s :=
  match xs, ys, r, h with
  | [_, _, _], [_, _, _], .cons h1 (.cons h2 (.cons h3 .nil)), _ => ⟨_, _, _, _, _, _, rfl, rfl, h1, h2, h3⟩
theorem len4 {M : Addr → Prop} {H : Hp} {xs : List V} {ys : List PyData} (r : DxAll M H xs ys) (h : xs.length = 4) : ∃ a b c e p q s t, xs = [a, b, c, e] ∧ ys = [p, q, s, t] ∧ Dx M H a p ∧ Dx M H b q ∧ Dx M H c s ∧ Dx M H e t :=
  match xs, ys, r, h with
  | [_, _, _, _], [_, _, _, _], .cons h1 (.cons h2 (.cons h3 (.cons h4 .nil))), _ => ⟨_, _, _, _, _, _, _, _, rfl, rfl, h1, h2, h3, h4⟩
theorem len5 {M : Addr → Prop} {H : Hp} {xs : List V} {ys : List PyData} (r : DxAll M H xs ys) (h : xs.length = 5) : ∃ a b c e g p q s t u, xs = [a, b, c, e, g] ∧ ys = [p, q, s, t, u] ∧ Dx M H a p ∧ Dx M H b q ∧ Dx M H c s ∧ Dx M H e t ∧ Dx M H g u :=
  match xs, ys, r, h with
  | [_, _, _, _, _], [_, _, _, _, _], .cons h1 (.cons h2 (.cons h3 (.cons h4 (.cons h5 .nil)))), _ => ⟨_, _, _, _, _, _, _, _, _, _, rfl, rfl, h1, h2, h3, h4, h5⟩
theorem decV (n m : Nat) : decide (V.int (n : Int) = V.int (m : Int)) = decide (n = m) := by
  apply decide_eq_decide.mpr
  constructor
  · intro h
    have : (n : Int) = (m : Int) := by cases h; rfl
    omega
  · intro h
    rw [h]
theorem kind_eq {z : Str} {k : PyData} (h : kindIs z k = true) : k = .str z := by
  cases k with
  | str x => rw [show x = z from eq_of_beq h]
  | _ => cases h
def callT (g : PyData → Bool) : PyData → Bool
  | .tuple [_, a, b, c] => nameD a && (g b && g c)
  | _ => false
theorem callT_no {g : PyData → Bool} {ys : List PyData} (h : ys.length ≠ 4) : callT g (.tuple ys) = false := by
  match ys, h with
  | [], _ => rfl
  | [_], _ => rfl
  | [_, _], _ => rfl
  | [_, _, _], _ => rfl
  | [_, _, _, _], h => exact absurd rfl h
  | _ :: _ :: _ :: _ :: _ :: _, _ => rfl
def IsTp (d : PyData) : Prop := ∃ ys, d = .tuple ys
theorem ok_call {fd fdA fdN : FuncData} {k : Nat} {dom : PyData → Prop} {g : PyData → Bool} (T : Tb mg) (D : Df K mg "fits_call" s_fits_call P_fits_call fd) (D_are_terms : Df K mg "are_terms" s_are_terms P_are_terms fdA) (D_is_name : Df K mg "is_name" s_is_name P_is_name fdN)
    (G_is_name : FnOk P w K mg base CX0 5 (He.fAd K ("is_name", none)) fdN P_is_name (spNm K)) (hT : (He.cT K ("is_name", none)).2 ∈ Tl) (hk : 4 ≤ k)
    (G_are_terms : FnOk P w K mg base CX0 k (He.fAd K ("are_terms", none)) fdA P_are_terms (spB Tl [.str "call"] dom g)) (hT2 : (He.cT K ("fits_call", none)).2 ∈ Tl)
    (TB_fits_call : TabB base mg (He.cT K ("fits_call", none)).1 (He.cT K ("fits_call", none)).2) : FnOk P w K mg base CX0 (k + 4) (He.fAd K ("fits_call", none)) fd P_fits_call (spB Tl [.str "call"] (fun d => IsTp d ∧ Sub dom d) (callT g)) := by
  refine okC D.F sc_fits_call (fun vs H Q E h => ?_) (fun cdv A outer s H vs Q E hcd hr h => ?_)
  · obtain ⟨M, x, d, rfl, _⟩ := h
    rfl
  · obtain ⟨M, x, d, rfl, hx, ha, ⟨⟨ys, rfl⟩, hd⟩, ht, q⟩ := h
    refine ⟨_, (pss_cons (ps_set (i := 2) sc_fits_call.nd rfl (.inl rfl) (pe_ifExp (pt_cmpR op_eq (pv 1) pe_str (nomark _)) pe_int pe_int))
      (pss_one (ps_ret (pe_and (pe_cmpR op_eq (pe_callB call_len (by rfl) T.len (by decide +kernel) (pa_cons (pv 0) pa_nil)) (pv 2) (nomark _)) (pe_and (pe_call G_is_name (hr.mono (by first | decide | omega)) (by rfl) D_is_name.g D_is_name.F.kp D_is_name.b .nil pass0 (pa_cons (pe_ix ix_tup (pv 0) pe_int (fun _ _ => rfl)) pa_nil)) (pe_one (pe_all (own := [("part", 3)]) (g := gName 3) rfl sc_fits_call.nd hr (by rfl) T.all TB_fits_call hcd (gnOk_by (own := [("part", 3)]) (N := N_fits_call) (sc := defScope s_fits_call) (by decide +kernel)) (pi_tup (pe_slice sl_tup (pv 0) (po_some pe_int) po_none)) (fun _ _ _ _ _ _ => (pg_name (i := 3) sc_fits_call.nd rfl (.inl rfl))) (fun _ _ _ _ _ _ => (pe_call G_are_terms ((room_gen hr).mono (by first | decide | omega)) (by rfl) D_are_terms.g D_are_terms.F.kp D_are_terms.b .nil pass0 (pa_cons (pv 3) (pa_cons (pv 1) pa_nil))))))))))), ?_⟩
    obtain ⟨a, xs, rfl, e, r⟩ := Dx.tupOf hx
    refine ⟨_, rfl, rfl, _, rfl, ite2 (fun _ => ?_) (fun h => absurd (decide_eq_true rfl) h)⟩
    refine ⟨_, rfl, _, xs.length, rfl, .inr ⟨_, SqT.of e, rfl⟩, _, rfl, rfl, decide (xs.length = 4), congrArg V.bl (decV _ 4), ite2 (fun h4 => ?_) (fun h4 => ?_)⟩
    · obtain ⟨v0, v1, v2, v3, d0, d1, d2, d3, rfl, rfl, h0, h1, h2, h3⟩ := len4 r (of_decide_eq_true h4)
      refine ⟨_, rfl, a, _, 1, v1, rfl, rfl, SqT.of e, rfl, name_sp hT h1 (ha.tup (by simp)) ht fun H1 l1 => ⟨_, rfl, ite2 (fun hn => ?_) (fun hn => ?_)⟩⟩
      · have e1 := l1.k.tp _ _ e
        refine ⟨_, rfl, 2, rfl, a, _, rfl, SqT.of e1, (by show ¬ (HT.sIx 4 0 (some 2) = 0 ∧ HT.sIx 4 4 none = 4); decide), fun p np => ⟨p, rfl, ⟨_, SqT.of upd_same⟩, ?_⟩⟩
        have lp : Lk M Tl H1 (upd H1 p (.tup [v2, v3])) := Lk.new np
        have t1 := lp.t (l1.t ht)
        refine ⟨t1 _ hT2, fun H2 tb => ?_⟩
        have l2 : Lk M Tl H H2 := l1.trans (lp.trans (Lk.tab (t1 _ hT2) tb))
        refine turns_tup (M := M) (Tl := Tl) (a := p) (xs := [v2, v3]) (ys := [d2, d3]) (f := g) ((Lk.tab (M := M) (Tl := Tl) (t1 _ hT2) tb).k.tp _ _ upd_same) (.cons (Dx.kp l2.k _ _ h2) (.cons (Dx.kp l2.k _ _ h3) .nil)) (l2.t ht) (fun x y H3 R hy hxy t3 l3 hR => ?_) (fun H3 l3 al => ?_) (fun H3 l3 al => ?_)
        · have hm : y ∈ [d0, d1, d2, d3] := List.mem_cons_of_mem _ (List.mem_cons_of_mem _ hy)
          exact ⟨rfl, _, rfl, _, rfl, M, x, y, rfl, hxy, ha.tup hm, hd _ rfl y hm, t3, fun H4 l4 => ⟨_, rfl, hR H4 l4⟩⟩
        · have q2 := q _ (l2.trans l3)
          have e3 : callT g (.tuple [d0, d1, d2, d3]) = true := by
            show (nameD d1 && (g d2 && g d3)) = true
            rw [hn]
            simpa using al
          rw [e3] at q2
          exact q2
        · have q2 := q _ (l2.trans l3)
          have e3 : callT g (.tuple [d0, d1, d2, d3]) = false := by
            show (nameD d1 && (g d2 && g d3)) = false
            rw [hn]
            simpa using al
          rw [e3] at q2
          exact q2
      · have q2 := q _ l1
        have e3 : callT g (.tuple [d0, d1, d2, d3]) = false := by
          show (nameD d1 && (g d2 && g d3)) = false
          cases hz : nameD d1 with
          | true => exact absurd hz hn
          | false => rfl
        rw [e3] at q2
        exact q2
    · have q2 := q H (.refl _ _ _)
      rw [callT_no (by rw [← DxAll.length r]; exact fun z => h4 (decide_eq_true z))] at q2
      exact q2
section
variable {f g : PyData → Bool}
theorem termT_name (r : List PyData) : termT f g (.tuple (.str "name" :: r)) = match r with | [a] => nameD a | _ => false := by
  match r with
  | [] => rfl
  | [a] =>
    show ((kindIs "name" (.str "name") && nameD a) || ((kindIs "word" (.str "name") && wordD a) || (kindIs "cut" (.str "name") && f a))) = nameD a
    rw [show kindIs "name" (.str "name") = true by decide +kernel, show kindIs "word" (.str "name") = false by decide +kernel, show kindIs "cut" (.str "name") = false by decide +kernel]
    simp
  | [a, b] =>
    show (kindIs "put" (.str "name") && (f a && bitD b)) = false
    rw [show kindIs "put" (.str "name") = false by decide +kernel]
    rfl
  | [a, b, c] =>
    show (kindIs "call" (.str "name") && (nameD a && (g b && g c))) = false
    rw [show kindIs "call" (.str "name") = false by decide +kernel]
    rfl
  | _ :: _ :: _ :: _ :: _ => rfl
theorem termT_word (r : List PyData) : termT f g (.tuple (.str "word" :: r)) = match r with | [a] => wordD a | _ => false := by
  match r with
  | [] => rfl
  | [a] =>
    show ((kindIs "name" (.str "word") && nameD a) || ((kindIs "word" (.str "word") && wordD a) || (kindIs "cut" (.str "word") && f a))) = wordD a
    rw [show kindIs "name" (.str "word") = false by decide +kernel, show kindIs "word" (.str "word") = true by decide +kernel, show kindIs "cut" (.str "word") = false by decide +kernel]
    simp
  | [a, b] =>
    show (kindIs "put" (.str "word") && (f a && bitD b)) = false
    rw [show kindIs "put" (.str "word") = false by decide +kernel]
    rfl
  | [a, b, c] =>
    show (kindIs "call" (.str "word") && (nameD a && (g b && g c))) = false
    rw [show kindIs "call" (.str "word") = false by decide +kernel]
    rfl
  | _ :: _ :: _ :: _ :: _ => rfl
theorem termT_cut (r : List PyData) : termT f g (.tuple (.str "cut" :: r)) = match r with | [a] => f a | _ => false := by
  match r with
  | [] => rfl
  | [a] =>
    show ((kindIs "name" (.str "cut") && nameD a) || ((kindIs "word" (.str "cut") && wordD a) || (kindIs "cut" (.str "cut") && f a))) = f a
    rw [show kindIs "name" (.str "cut") = false by decide +kernel, show kindIs "word" (.str "cut") = false by decide +kernel, show kindIs "cut" (.str "cut") = true by decide +kernel]
    simp
  | [a, b] =>
    show (kindIs "put" (.str "cut") && (f a && bitD b)) = false
    rw [show kindIs "put" (.str "cut") = false by decide +kernel]
    rfl
  | [a, b, c] =>
    show (kindIs "call" (.str "cut") && (nameD a && (g b && g c))) = false
    rw [show kindIs "call" (.str "cut") = false by decide +kernel]
    rfl
  | _ :: _ :: _ :: _ :: _ => rfl
theorem termT_put (r : List PyData) : termT f g (.tuple (.str "put" :: r)) = match r with | [a, b] => f a && bitD b | _ => false := by
  match r with
  | [] => rfl
  | [a] =>
    show ((kindIs "name" (.str "put") && nameD a) || ((kindIs "word" (.str "put") && wordD a) || (kindIs "cut" (.str "put") && f a))) = false
    rw [show kindIs "name" (.str "put") = false by decide +kernel, show kindIs "word" (.str "put") = false by decide +kernel, show kindIs "cut" (.str "put") = false by decide +kernel]
    simp
  | [a, b] =>
    show (kindIs "put" (.str "put") && (f a && bitD b)) = (f a && bitD b)
    rw [show kindIs "put" (.str "put") = true by decide +kernel]
    simp
  | [a, b, c] =>
    show (kindIs "call" (.str "put") && (nameD a && (g b && g c))) = false
    rw [show kindIs "call" (.str "put") = false by decide +kernel]
    rfl
  | _ :: _ :: _ :: _ :: _ => rfl
theorem termT_call (r : List PyData) : termT f g (.tuple (.str "call" :: r)) = callT g (.tuple (.str "call" :: r)) := by
  match r with
  | [] => rfl
  | [a] =>
    show ((kindIs "name" (.str "call") && nameD a) || ((kindIs "word" (.str "call") && wordD a) || (kindIs "cut" (.str "call") && f a))) = false
    rw [show kindIs "name" (.str "call") = false by decide +kernel, show kindIs "word" (.str "call") = false by decide +kernel, show kindIs "cut" (.str "call") = false by decide +kernel]
    simp
  | [a, b] =>
    show (kindIs "put" (.str "call") && (f a && bitD b)) = false
    rw [show kindIs "put" (.str "call") = false by decide +kernel]
    rfl
  | [a, b, c] =>
    show (kindIs "call" (.str "call") && (nameD a && (g b && g c))) = (nameD a && (g b && g c))
    rw [show kindIs "call" (.str "call") = true by decide +kernel]
    simp
  | _ :: _ :: _ :: _ :: _ => rfl
theorem termT_none {k : PyData} {r : List PyData} (h1 : kindIs "name" k = false) (h2 : kindIs "word" k = false) (h3 : kindIs "put" k = false) (h4 : kindIs "cut" k = false) (h5 : kindIs "call" k = false) : termT f g (.tuple (k :: r)) = false := by
  match r with
  | [] => rfl
  | [a] =>
    show ((kindIs "name" k && nameD a) || ((kindIs "word" k && wordD a) || (kindIs "cut" k && f a))) = false
    rw [h1, h2, h4]
    simp
  | [a, b] =>
    show (kindIs "put" k && (f a && bitD b)) = false
    rw [h3]
    rfl
  | [a, b, c] =>
    show (kindIs "call" k && (nameD a && (g b && g c))) = false
    rw [h5]
    rfl
  | _ :: _ :: _ :: _ :: _ => rfl
theorem bit_any {d : PyData} {M : Addr → Prop} {H : Hp} {v : V} (h : Dx M H v d) : (["0", "1"] : List Str).any (fun z => isT v z) = bitD d := by
  show (isT v "0" || (isT v "1" || false)) = bitD d
  rw [isT_of h, isT_of h, Bool.or_false]
  cases d <;> rfl
end
theorem ok_term1 {fd fdC fdN fdW : FuncData} {k kf kc : Nat} {domf dom : PyData → Prop} {f g : PyData → Bool} (T : Tb mg) (D : Df K mg "fits_term" s_fits_term P_fits_term fd) (D_fits_call : Df K mg "fits_call" s_fits_call P_fits_call fdC) (D_is_name : Df K mg "is_name" s_is_name P_is_name fdN) (D_is_word : Df K mg "is_word" s_is_word P_is_word fdW)
    (G_is_name : FnOk P w K mg base CX0 5 (He.fAd K ("is_name", none)) fdN P_is_name (spNm K)) (hT : (He.cT K ("is_name", none)).2 ∈ Tl) (G_is_word : FnOk P w K mg base CX0 1 (He.fAd K ("is_word", none)) fdW P_is_word (spW K))
    (h5 : 5 ≤ k) (hf : kf ≤ k) (hc : kc ≤ k) (G_fits_term : FnOk P w K mg base CX0 kf (He.fAd K ("fits_term", none)) fd P_fits_term (spB Tl [.str "call"] domf f))
    (G_fits_call : FnOk P w K mg base CX0 kc (He.fAd K ("fits_call", none)) fdC P_fits_call (spB Tl [.str "call"] (fun d => IsTp d ∧ dom d) (callT g))) :
    FnOk P w K mg base CX0 (k + 1) (He.fAd K ("fits_term", none)) fd P_fits_term (spB Tl [.str "call"] (fun d => Sub domf d ∧ dom d) (termT f g)) := by
  have D_fits_term := D
  refine (fun_of D.F).ok sc_fits_term (fun vs H Q E h => ?_) (fun cdv A outer s H vs Q E hr h => ?_)
  · obtain ⟨M, x, d, rfl, _⟩ := h
    rfl
  · obtain ⟨M, x, d, rfl, hx, ha, ⟨hd1, hd2⟩, ht, q⟩ := h
    refine ⟨_, (pss_cons (ps_if (PW.pt (pw_or (pt_not (pt_val (pe_callB call_isi (by rfl) T.isinstance (by decide +kernel) (pa_cons (pv 0) (pa_cons (pe_bltn (v := .ty "tuple") (by rfl) T.tuple (by decide +kernel) rfl) pa_nil))))) (pw_or1 (pt_cmpR op_lt (pe_callB call_len (by rfl) T.len (by decide +kernel) (pa_cons (pv 0) pa_nil)) pe_int (nomark _))))) (pss_one (ps_ret pe_bl)) pss_nil)
      (pss_cons (ps_set (i := 2) sc_fits_term.nd rfl (.inl rfl) (pe_ix ix_tup (pv 0) pe_int (fun _ _ => rfl)))
      (pss_cons (ps_if (pt_cmpR (op_eqT hr M) (pv 2) pe_str (nomark _)) (pss_one (ps_ret (pe_and (pe_cmpR op_eq (pe_callB call_len (by rfl) T.len (by decide +kernel) (pa_cons (pv 0) pa_nil)) pe_int (nomark _)) (pe_one (pe_call G_is_name (hr.mono (by first | decide | omega)) (by rfl) D_is_name.g D_is_name.F.kp D_is_name.b .nil pass0 (pa_cons (pe_ix ix_tup (pv 0) pe_int (fun _ _ => rfl)) pa_nil)))))) pss_nil)
      (pss_cons (ps_if (pt_cmpR (op_eqT hr M) (pv 2) pe_str (nomark _)) (pss_one (ps_ret (pe_and (pe_cmpR op_eq (pe_callB call_len (by rfl) T.len (by decide +kernel) (pa_cons (pv 0) pa_nil)) pe_int (nomark _)) (pe_one (pe_call G_is_word (hr.mono (by first | decide | omega)) (by rfl) D_is_word.g D_is_word.F.kp D_is_word.b .nil pass0 (pa_cons (pe_ix ix_tup (pv 0) pe_int (fun _ _ => rfl)) pa_nil)))))) pss_nil)
      (pss_cons (ps_if (pt_cmpR (op_eqT hr M) (pv 2) pe_str (nomark _)) (pss_one (ps_ret (pe_and (pe_cmpR op_eq (pe_callB call_len (by rfl) T.len (by decide +kernel) (pa_cons (pv 0) pa_nil)) pe_int (nomark _)) (pe_and (pe_cmpR (op_inT (k := 4) (hr.mono (by first | decide | omega)) M) (pe_ix ix_tup (pv 0) pe_int (fun _ _ => rfl)) (pe_tup (pa_cons pe_str (pa_cons pe_str pa_nil))) (by rfl)) (pe_one (pe_call G_fits_term (hr.mono (by first | decide | omega)) (by rfl) D_fits_term.g D_fits_term.F.kp D_fits_term.b .nil pass0 (pa_cons (pe_ix ix_tup (pv 0) pe_int (fun _ _ => rfl)) (pa_cons (pv 1) pa_nil)))))))) pss_nil)
      (pss_cons (ps_if (pt_cmpR (op_eqT hr M) (pv 2) pe_str (nomark _)) (pss_one (ps_ret (pe_and (pe_cmpR op_eq (pe_callB call_len (by rfl) T.len (by decide +kernel) (pa_cons (pv 0) pa_nil)) pe_int (nomark _)) (pe_one (pe_call G_fits_term (hr.mono (by first | decide | omega)) (by rfl) D_fits_term.g D_fits_term.F.kp D_fits_term.b .nil pass0 (pa_cons (pe_ix ix_tup (pv 0) pe_int (fun _ _ => rfl)) (pa_cons (pv 1) pa_nil))))))) pss_nil)
      (pss_one (ps_ret (pe_and (pe_cmpR (op_eqT hr M) (pv 2) (pv 1) (nomark _)) (pe_one (pe_call G_fits_call (hr.mono (by first | decide | omega)) (by rfl) D_fits_call.g D_fits_call.F.kp D_fits_call.b .nil pass0 (pa_cons (pv 0) (pa_cons (pv 1) pa_nil))))))))))))), ?_⟩
    obtain ⟨t0, ht1, ht2⟩ := Dx.isaT (K := K) hx
    refine ⟨x, rfl, x, _, .type t0, _, _, rfl, .ty "tuple", ht1, kit_ty ht2, _, rfl, ?_⟩
    cases d with
    | tuple ys =>
      obtain ⟨a, xs, rfl, e, r⟩ := Dx.tupOf hx
      refine ⟨_, rfl, _, xs.length, rfl, .inr ⟨_, SqT.of e, rfl⟩, _, _, rfl, rfl, _, rfl, ite2 (fun h2 => ?_) (fun h2 => ?_)⟩
      · have hz : xs.length < 2 := by have := of_decide_eq_true h2; omega
        have q2 := q H (.refl _ _ _)
        have e3 : termT f g (.tuple ys) = false := by
          rw [DxAll.length r] at hz
          match ys, hz with
          | [], _ => rfl
          | [_], _ => rfl
        rw [e3] at q2
        exact q2
      · have hz : ¬ xs.length < 2 := fun z => h2 (decide_eq_true (by omega))
        match xs, ys, r, e, hx, ha, hd1, hd2, q, hz with
        | v0 :: v1 :: vr, k0 :: k1 :: kr, r, e, hx, ha, hd1, hd2, q, hz =>
          have hk0 : Dx M H v0 k0 := by cases r with | cons h _ => exact h
          refine ⟨_, rfl, a, _, 0, v0, rfl, rfl, SqT.of e, atI_nat (j := 0) rfl, ?_⟩
          have q0 := q
          refine ⟨_, rfl, k0, "name", hk0, rfl, _, rfl, ite2 (fun hn => ?_) (fun hn => ?_)⟩
          · rw [isT_of hk0] at hn
            rw [kind_eq hn, termT_name] at q
            refine ⟨_, rfl, _, (v0 :: v1 :: vr).length, rfl, .inr ⟨_, SqT.of e, rfl⟩, rfl, decide ((v0 :: v1 :: vr).length = 2), congrArg V.bl (decV _ 2), ite2 (fun h4 => ?_) (fun h4 => ?_)⟩
            · obtain ⟨a0, a1, b0, b1, e1, e2, x0, x1⟩ := len2 r (of_decide_eq_true h4)
              cases e1
              cases e2
              exact ⟨_, rfl, a, _, 1, v1, rfl, rfl, SqT.of e, rfl, name_sp hT x1 (ha.tup (by simp)) ht q⟩
            · have hl : kr ≠ [] := fun z => h4 (decide_eq_true (by rw [DxAll.length r, z]; rfl))
              cases kr with
              | nil => exact absurd rfl hl
              | cons _ _ => exact q H (.refl _ _ _)
          refine ⟨_, rfl, k0, "word", hk0, rfl, _, rfl, ite2 (fun hw => ?_) (fun hw => ?_)⟩
          · rw [isT_of hk0] at hw
            rw [kind_eq hw, termT_word] at q
            refine ⟨_, rfl, _, (v0 :: v1 :: vr).length, rfl, .inr ⟨_, SqT.of e, rfl⟩, rfl, decide ((v0 :: v1 :: vr).length = 2), congrArg V.bl (decV _ 2), ite2 (fun h4 => ?_) (fun h4 => ?_)⟩
            · obtain ⟨a0, a1, b0, b1, e1, e2, x0, x1⟩ := len2 r (of_decide_eq_true h4)
              cases e1
              cases e2
              refine ⟨_, rfl, a, _, 1, v1, rfl, rfl, SqT.of e, rfl, v1, rfl, Dx.sv x1 (ha.tup (by simp)).ascD, fun H' s => ?_⟩
              rw [wordV_of x1]
              exact q H' (.same s)
            · have hl : kr ≠ [] := fun z => h4 (decide_eq_true (by rw [DxAll.length r, z]; rfl))
              cases kr with
              | nil => exact absurd rfl hl
              | cons _ _ => exact q H (.refl _ _ _)
          refine ⟨_, rfl, k0, "put", hk0, rfl, _, rfl, ite2 (fun hp => ?_) (fun hp => ?_)⟩
          · rw [isT_of hk0] at hp
            rw [kind_eq hp, termT_put] at q
            refine ⟨_, rfl, _, (v0 :: v1 :: vr).length, rfl, .inr ⟨_, SqT.of e, rfl⟩, rfl, decide ((v0 :: v1 :: vr).length = 3), congrArg V.bl (decV _ 3), ite2 (fun h4 => ?_) (fun h4 => ?_)⟩
            · obtain ⟨a0, a1, a2, b0, b1, b2, e1, e2, x0, x1, x2⟩ := len3 r (of_decide_eq_true h4)
              cases e1
              cases e2
              refine ⟨_, rfl, a, _, 2, a2, rfl, rfl, SqT.of e, rfl, by show 2 ≤ sizeLine; decide, fun p np => ⟨b2, p, ["0", "1"], Dx.kp (Kp.same (same_new np)) _ _ x2, rfl, SqT.of upd_same, _, rfl, ?_⟩⟩
              rw [bit_any x2]
              have lp : Lk M Tl H (upd H p (.tup [.str "0", .str "1"])) := Lk.new np
              cases hb : bitD b2 with
              | true =>
                rw [if_pos rfl]
                refine ⟨_, rfl, a, _, 1, v1, rfl, rfl, SqT.of (lp.k.tp _ _ e), rfl, _, rfl, M, v1, k1, rfl, Dx.kp lp.k _ _ x1, ha.tup (by simp), hd1 _ rfl _ (by simp), lp.t ht, fun H' l => ?_⟩
                have q2 := q H' (lp.trans l)
                rw [show (match ([k1, b2] : List PyData) with | [a, b] => f a && bitD b | _ => false) = (f k1 && bitD b2) from rfl, hb, Bool.and_true] at q2
                exact q2
              | false =>
                rw [if_neg Bool.false_ne_true]
                have q2 := q _ lp
                rw [show (match ([k1, b2] : List PyData) with | [a, b] => f a && bitD b | _ => false) = (f k1 && bitD b2) from rfl, hb, Bool.and_false] at q2
                exact q2
            · have hl : ∀ z, kr ≠ [z] := fun z e => h4 (decide_eq_true (by rw [DxAll.length r, e]; rfl))
              match kr, hl with
              | [], _ => exact q H (.refl _ _ _)
              | [z], hl => exact absurd rfl (hl z)
              | _ :: _ :: _, _ => exact q H (.refl _ _ _)
          refine ⟨_, rfl, k0, "cut", hk0, rfl, _, rfl, ite2 (fun hc => ?_) (fun hc => ?_)⟩
          · rw [isT_of hk0] at hc
            rw [kind_eq hc, termT_cut] at q
            refine ⟨_, rfl, _, (v0 :: v1 :: vr).length, rfl, .inr ⟨_, SqT.of e, rfl⟩, rfl, decide ((v0 :: v1 :: vr).length = 2), congrArg V.bl (decV _ 2), ite2 (fun h4 => ?_) (fun h4 => ?_)⟩
            · obtain ⟨a0, a1, b0, b1, e1, e2, x0, x1⟩ := len2 r (of_decide_eq_true h4)
              cases e1
              cases e2
              exact ⟨_, rfl, a, _, 1, v1, rfl, rfl, SqT.of e, rfl, _, rfl, M, v1, k1, rfl, x1, ha.tup (by simp), hd1 _ rfl _ (by simp), ht, q⟩
            · have hl : kr ≠ [] := fun z => h4 (decide_eq_true (by rw [DxAll.length r, z]; rfl))
              cases kr with
              | nil => exact absurd rfl hl
              | cons _ _ => exact q H (.refl _ _ _)
          refine ⟨_, rfl, _, rfl, k0, "call", hk0, rfl, _, rfl, ite2 (fun hl => ?_) (fun hl => ?_)⟩
          · rw [isT_of hk0] at hl
            have ek := kind_eq hl
            subst ek
            rw [termT_call] at q
            exact ⟨_, rfl, _, rfl, M, .ref a, _, rfl, hx, ha, ⟨⟨_, rfl⟩, hd2⟩, ht, q⟩
          · rw [isT_of hk0] at hn hw hp hc hl
            rw [termT_none (by simpa using hn) (by simpa using hw) (by simpa using hp) (by simpa using hc) (by simpa using hl)] at q
            exact q H (.refl _ _ _)
    | _ => exact q H (.refl _ _ _)
theorem spB_imp {args : List V} {dom dom' : PyData → Prop} {f f' : PyData → Bool} (h : ∀ d, dom' d → dom d ∧ f d = f' d) : ∀ vs H Q E, spB Tl args dom' f' vs H Q E → spB Tl args dom f vs H Q E := by
  intro vs H Q E ⟨M, x, d, e, hx, ha, hd, ht, q⟩
  obtain ⟨h1, h2⟩ := h d hd
  exact ⟨M, x, d, e, hx, ha, h1, ht, fun H' l => by rw [h2]; exact q H' l⟩
theorem ok_none {k : Nat} {fa : Addr} {fd : FuncData} {ps : List Str} {args : List V} {f : PyData → Bool} : FnOk P w K mg base CX0 k fa fd ps (spB Tl args (fun _ => False) f) :=
  ok_no.imp fun vs H Q E ⟨_, _, _, _, _, _, hf, _⟩ => hf.elim
/-- what the head tells of the program's looks -/
structure Pr (K : PySem.W.Frag) (mg : Str → Option Value) (base : Heap) (Tl : List Addr) where
  T : Tb mg
  aK : Addr
  gK : mg "KEPT_WORDS" = some (.ref aK)
  hK : ∀ H, SqT K H aK (keptL.map V.str)
  fn : Str → FuncData
  d_word : Df K mg "is_word" s_is_word P_is_word (fn "is_word")
  d_name : Df K mg "is_name" s_is_name P_is_name (fn "is_name")
  d_names : Df K mg "are_names" s_are_names P_are_names (fn "are_names")
  d_terms : Df K mg "are_terms" s_are_terms P_are_terms (fn "are_terms")
  d_term : Df K mg "fits_term" s_fits_term P_fits_term (fn "fits_term")
  d_call : Df K mg "fits_call" s_fits_call P_fits_call (fn "fits_call")
  d_cmd : Df K mg "fits_command" s_fits_command P_fits_command (fn "fits_command")
  d_block : Df K mg "fits_block" s_fits_block P_fits_block (fn "fits_block")
  d_fun : Df K mg "fits_function" s_fits_function P_fits_function (fn "fits_function")
  d_isterm : Df K mg "is_term" s_is_term P_is_term (fn "is_term")
  d_iscmd : Df K mg "is_command" s_is_command P_is_command (fn "is_command")
  d_istree : Df K mg "is_tree" s_is_tree P_is_tree (fn "is_tree")
  tb : ∀ x ∈ (["is_name", "are_names", "are_terms", "fits_call", "fits_command", "fits_block", "fits_function", "is_tree"] : List Str), (He.cT K (x, none)).2 ∈ Tl ∧ TabB base mg (He.cT K (x, none)).1 (He.cT K (x, none)).2
theorem Pr.t (p : Pr K mg base Tl) (x : Str) (h : x ∈ (["is_name", "are_names", "are_terms", "fits_call", "fits_command", "fits_block", "fits_function", "is_tree"] : List Str) := by simp) : (He.cT K (x, none)).2 ∈ Tl := (p.tb x h).1
theorem Pr.b (p : Pr K mg base Tl) (x : Str) (h : x ∈ (["is_name", "are_names", "are_terms", "fits_call", "fits_command", "fits_block", "fits_function", "is_tree"] : List Str) := by simp) : TabB base mg (He.cT K (x, none)).1 (He.cT K (x, none)).2 := (p.tb x h).2
theorem Pr.name (p : Pr K mg base Tl) : FnOk P w K mg base CX0 5 (He.fAd K ("is_name", none)) (p.fn "is_name") P_is_name (spNm K) := ok_is_name p.T p.d_name p.gK p.hK (p.b "is_name")
theorem Pr.word (p : Pr K mg base Tl) : FnOk P w K mg base CX0 1 (He.fAd K ("is_word", none)) (p.fn "is_word") P_is_word (spW K) := ok_is_word p.T p.d_word
theorem Pr.names (p : Pr K mg base Tl) : FnOk P w K mg base CX0 9 (He.fAd K ("are_names", none)) (p.fn "are_names") P_are_names (spB Tl [] (fun _ => True) (allT nameD)) :=
  ok_names p.T p.d_names p.d_name p.name (p.t "is_name") (p.t "are_names") (p.b "are_names")
/-- terms to any depth -/
theorem Pr.term (p : Pr K mg base Tl) : ∀ n : Nat, FnOk P w K mg base CX0 (5 * n + 12) (He.fAd K ("fits_term", none)) (p.fn "fits_term") P_fits_term (spB Tl [.str "call"] (fun d => d.depth ≤ n) (termB n))
  | 0 => by
    have A := ok_terms p.T p.d_terms p.d_term (ok_none (f := fun _ => false) (k := 0)) (p.t "are_terms") (p.b "are_terms") (P := P) (w := w) (base := base)
    have C := ok_call p.T p.d_call p.d_terms p.d_name p.name (p.t "is_name") (by omega) A (p.t "fits_call") (p.b "fits_call")
    have F := ok_term1 (k := 11) p.T p.d_term p.d_call p.d_name p.d_word p.name (p.t "is_name") p.word (by omega) (by omega) (by omega) (ok_none (f := fun _ => false) (k := 0)) C
    refine F.imp (spB_imp fun d hd => ⟨⟨sub_zero hd, sub_zero hd⟩, ?_⟩)
    cases d with
    | tuple ys =>
      simp only [PyData.depth] at hd
      omega
    | _ => rfl
  | 1 => by
    have A := ok_terms p.T p.d_terms p.d_term (ok_none (f := fun _ => false) (k := 0)) (p.t "are_terms") (p.b "are_terms") (P := P) (w := w) (base := base)
    have C := ok_call p.T p.d_call p.d_terms p.d_name p.name (p.t "is_name") (by omega) A (p.t "fits_call") (p.b "fits_call")
    have F := ok_term1 (k := 16) p.T p.d_term p.d_call p.d_name p.d_word p.name (p.t "is_name") p.word (by omega) (by omega) (by omega) (p.term 0) C
    exact F.imp (spB_imp fun d hd => ⟨⟨sub_depth hd, (sub_depth hd).mono fun y hy => sub_zero hy⟩, rfl⟩)
  | n + 2 => by
    have A := ok_terms p.T p.d_terms p.d_term (p.term n) (p.t "are_terms") (p.b "are_terms")
    have C := ok_call p.T p.d_call p.d_terms p.d_name p.name (p.t "is_name") (by omega) A (p.t "fits_call") (p.b "fits_call")
    have F := ok_term1 (k := 5 * n + 21) p.T p.d_term p.d_call p.d_name p.d_word p.name (p.t "is_name") p.word (by omega) (by omega) (by omega) (p.term (n + 1)) C
    exact (F.imp (spB_imp fun d hd => ⟨⟨sub_depth hd, (sub_depth hd).mono fun y hy => sub_depth hy⟩, rfl⟩)).mono (by omega)
theorem Pr.terms (p : Pr K mg base Tl) (n : Nat) : FnOk P w K mg base CX0 (5 * n + 16) (He.fAd K ("are_terms", none)) (p.fn "are_terms") P_are_terms (spB Tl [.str "call"] (fun d => d.depth ≤ n + 1) (allT (termB n))) :=
  (ok_terms p.T p.d_terms p.d_term (p.term n) (p.t "are_terms") (p.b "are_terms")).imp (spB_imp fun d hd => ⟨sub_depth hd, rfl⟩)
end
end KP


set_option Elab.async false
set_option linter.all false
set_option maxRecDepth 100000
set_option maxHeartbeats 4000000
/-! What the program says of commands, blocks, functions, trees. -/
namespace KP2
open PySem PySem.Spec PyProof.Rows L2 KT KG KM KX KQ KA KB KC KP GxR
def nonE : PyData → Bool
  | .tuple (_ :: _) => true
  | _ => false
def cmdT (f g : PyData → Bool) : PyData → Bool
  | .tuple [k, a, b] => (kindIs "let" k && (nameD a && f b)) || (kindIs "set" k && (allT nameD a && (nonE a && f b)))
  | .tuple [k, a, b, c, d] => (kindIs "when" k && (f a && (g b && (g c && g d)))) || (kindIs "each" k && ((nameD a && (nameD b && nameD c)) && g d))
  | _ => false
def cmdB : Nat → PyData → Bool
  | 0, _ => false
  | 1, d => cmdT (termB 0) (allT fun _ => false) d
  | n + 2, d => cmdT (termB (n + 1)) (allT (cmdB n)) d
section
variable {f g : PyData → Bool}
theorem cmdT_let (r : List PyData) : cmdT f g (.tuple (.str "let" :: r)) = match r with | [a, b] => nameD a && f b | _ => false := by
  match r with
  | [] => rfl
  | [_] => rfl
  | [a, b] =>
    show ((kindIs "let" (.str "let") && (nameD a && f b)) || (kindIs "set" (.str "let") && (allT nameD a && (nonE a && f b)))) = (nameD a && f b)
    rw [show kindIs "let" (.str "let") = true by decide +kernel, show kindIs "set" (.str "let") = false by decide +kernel]
    simp
  | [_, _, _] => rfl
  | [a, b, c, d] =>
    show ((kindIs "when" (.str "let") && (f a && (g b && (g c && g d)))) || (kindIs "each" (.str "let") && ((nameD a && (nameD b && nameD c)) && g d))) = false
    rw [show kindIs "when" (.str "let") = false by decide +kernel, show kindIs "each" (.str "let") = false by decide +kernel]
    rfl
  | _ :: _ :: _ :: _ :: _ :: _ => rfl
theorem cmdT_set (r : List PyData) : cmdT f g (.tuple (.str "set" :: r)) = match r with | [a, b] => allT nameD a && (nonE a && f b) | _ => false := by
  match r with
  | [] => rfl
  | [_] => rfl
  | [a, b] =>
    show ((kindIs "let" (.str "set") && (nameD a && f b)) || (kindIs "set" (.str "set") && (allT nameD a && (nonE a && f b)))) = (allT nameD a && (nonE a && f b))
    rw [show kindIs "let" (.str "set") = false by decide +kernel, show kindIs "set" (.str "set") = true by decide +kernel]
    simp
  | [_, _, _] => rfl
  | [a, b, c, d] =>
    show ((kindIs "when" (.str "set") && (f a && (g b && (g c && g d)))) || (kindIs "each" (.str "set") && ((nameD a && (nameD b && nameD c)) && g d))) = false
    rw [show kindIs "when" (.str "set") = false by decide +kernel, show kindIs "each" (.str "set") = false by decide +kernel]
    rfl
  | _ :: _ :: _ :: _ :: _ :: _ => rfl
theorem cmdT_when (r : List PyData) : cmdT f g (.tuple (.str "when" :: r)) = match r with | [a, b, c, d] => f a && (g b && (g c && g d)) | _ => false := by
  match r with
  | [] => rfl
  | [_] => rfl
  | [a, b] =>
    show ((kindIs "let" (.str "when") && (nameD a && f b)) || (kindIs "set" (.str "when") && (allT nameD a && (nonE a && f b)))) = false
    rw [show kindIs "let" (.str "when") = false by decide +kernel, show kindIs "set" (.str "when") = false by decide +kernel]
    rfl
  | [_, _, _] => rfl
  | [a, b, c, d] =>
    show ((kindIs "when" (.str "when") && (f a && (g b && (g c && g d)))) || (kindIs "each" (.str "when") && ((nameD a && (nameD b && nameD c)) && g d))) = (f a && (g b && (g c && g d)))
    rw [show kindIs "when" (.str "when") = true by decide +kernel, show kindIs "each" (.str "when") = false by decide +kernel]
    simp
  | _ :: _ :: _ :: _ :: _ :: _ => rfl
theorem cmdT_each (r : List PyData) : cmdT f g (.tuple (.str "each" :: r)) = match r with | [a, b, c, d] => (nameD a && (nameD b && nameD c)) && g d | _ => false := by
  match r with
  | [] => rfl
  | [_] => rfl
  | [a, b] =>
    show ((kindIs "let" (.str "each") && (nameD a && f b)) || (kindIs "set" (.str "each") && (allT nameD a && (nonE a && f b)))) = false
    rw [show kindIs "let" (.str "each") = false by decide +kernel, show kindIs "set" (.str "each") = false by decide +kernel]
    rfl
  | [_, _, _] => rfl
  | [a, b, c, d] =>
    show ((kindIs "when" (.str "each") && (f a && (g b && (g c && g d)))) || (kindIs "each" (.str "each") && ((nameD a && (nameD b && nameD c)) && g d))) = ((nameD a && (nameD b && nameD c)) && g d)
    rw [show kindIs "when" (.str "each") = false by decide +kernel, show kindIs "each" (.str "each") = true by decide +kernel]
    simp
  | _ :: _ :: _ :: _ :: _ :: _ => rfl
theorem cmdT_none {k : PyData} {r : List PyData} (h1 : kindIs "let" k = false) (h2 : kindIs "set" k = false) (h3 : kindIs "when" k = false) (h4 : kindIs "each" k = false) : cmdT f g (.tuple (k :: r)) = false := by
  match r with
  | [] => rfl
  | [_] => rfl
  | [a, b] =>
    show ((kindIs "let" k && (nameD a && f b)) || (kindIs "set" k && (allT nameD a && (nonE a && f b)))) = false
    rw [h1, h2]
    rfl
  | [_, _, _] => rfl
  | [a, b, c, d] =>
    show ((kindIs "when" k && (f a && (g b && (g c && g d)))) || (kindIs "each" k && ((nameD a && (nameD b && nameD c)) && g d))) = false
    rw [h3, h4]
    rfl
  | _ :: _ :: _ :: _ :: _ :: _ => rfl
end
section
variable {P : Program} {w : World} {K : PySem.W.Frag} {mg : Str → Option Value} {base : Heap} {Tl : List Addr}
theorem ok_block {k : Nat} {dom : PyData → Prop} {f : PyData → Bool} (p : Pr K mg base Tl)
    (G_fits_command : FnOk P w K mg base CX0 k (He.fAd K ("fits_command", none)) (p.fn "fits_command") P_fits_command (spB Tl [.str "call"] dom f)) :
    FnOk P w K mg base CX0 (k + 4) (He.fAd K ("fits_block", none)) (p.fn "fits_block") P_fits_block (spB Tl [.str "call"] (Sub dom) (allT f)) := by
  have T := p.T
  have D_fits_command := p.d_cmd
  have TB_fits_block := p.b "fits_block"
  have hT2 := p.t "fits_block"
  refine okC p.d_block.F sc_fits_block (fun vs H Q E h => ?_) (fun cdv A outer s H vs Q E hcd hr h => ?_)
  · obtain ⟨M, x, d, rfl, _⟩ := h
    rfl
  · obtain ⟨M, x, d, rfl, hx, ha, hd, ht, q⟩ := h
    refine ⟨_, (pss_one (ps_ret (pe_and (pe_callB call_isi (by rfl) T.isinstance (by decide +kernel) (pa_cons (pv 0) (pa_cons (pe_bltn (v := .ty "tuple") (by rfl) T.tuple (by decide +kernel) rfl) pa_nil))) (pe_one (pe_all (own := [("part", 2)]) (g := gName 2) rfl sc_fits_block.nd hr (by rfl) T.all TB_fits_block hcd (gnOk_by (own := [("part", 2)]) (N := N_fits_block) (sc := defScope s_fits_block) (by decide +kernel)) (pi_tup (pv 0)) (fun _ _ _ _ _ _ => (pg_name (i := 2) sc_fits_block.nd rfl (.inl rfl))) (fun _ _ _ _ _ _ => (pe_call G_fits_command ((room_gen hr).mono (by first | decide | omega)) (by rfl) D_fits_command.g D_fits_command.F.kp D_fits_command.b .nil pass0 (pa_cons (pv 2) (pa_cons (pv 1) pa_nil))))))))), ?_⟩
    obtain ⟨t0, ht1, ht2⟩ := Dx.isaT (K := K) hx
    refine ⟨x, rfl, x, _, .type t0, _, _, rfl, .ty "tuple", ht1, kit_ty ht2, _, rfl, ?_⟩
    cases d with
    | tuple ys =>
      obtain ⟨a, xs, rfl, e, r⟩ := Dx.tupOf hx
      refine ⟨_, rfl, a, rfl, ⟨xs, SqT.of e⟩, ht _ hT2, fun H2 tb => ?_⟩
      have lk : Lk M Tl H H2 := Lk.tab (ht _ hT2) tb
      refine turns_tup (f := f) (lk.k.tp _ _ e) (Dx.kpAll lk.k _ _ r) (lk.t ht) (fun x y H3 R hy hxy t3 l3 hR => ?_) (fun H3 l3 al => ?_) (fun H3 l3 al => ?_)
      · exact ⟨rfl, _, rfl, _, rfl, M, x, y, rfl, hxy, ha.tup hy, hd ys rfl y hy, t3, fun H4 l4 => ⟨_, rfl, hR H4 l4⟩⟩
      · have q2 := q _ (lk.trans l3)
        rw [show allT f (.tuple ys) = ys.all f from rfl, al] at q2
        exact q2
      · have q2 := q _ (lk.trans l3)
        rw [show allT f (.tuple ys) = ys.all f from rfl, al] at q2
        exact q2
    | _ => exact q H (.refl _ _ _)
theorem ascTup {ys : List PyData} (h : ∀ y ∈ ys, AscA y) : AscA (.tuple ys) := by
  unfold AscA
  induction ys with
  | nil =>
    unfold AscL
    trivial
  | cons a r ih =>
    unfold AscL
    exact ⟨h a (List.mem_cons_self ..), ih fun y hy => h y (List.mem_cons_of_mem _ hy)⟩
theorem ok_cmd1 {k kt kb : Nat} {domf dom : PyData → Prop} {f g : PyData → Bool} (p : Pr K mg base Tl) (h6 : 6 ≤ k) (hf : kt ≤ k + 3) (hb : kb ≤ k)
    (G_fits_term : FnOk P w K mg base CX0 kt (He.fAd K ("fits_term", none)) (p.fn "fits_term") P_fits_term (spB Tl [.str "call"] domf f))
    (G_fits_block : FnOk P w K mg base CX0 kb (He.fAd K ("fits_block", none)) (p.fn "fits_block") P_fits_block (spB Tl [.str "call"] dom g)) :
    FnOk P w K mg base CX0 (k + 4) (He.fAd K ("fits_command", none)) (p.fn "fits_command") P_fits_command (spB Tl [.str "call"] (fun d => Sub domf d ∧ Sub dom d) (cmdT f g)) := by
  have T := p.T
  have D_fits_term := p.d_term
  have D_fits_block := p.d_block
  have D_is_name := p.d_name
  have D_are_names := p.d_names
  have G_is_name : FnOk P w K mg base CX0 5 (He.fAd K ("is_name", none)) (p.fn "is_name") P_is_name (spNm K) := p.name
  have G_are_names : FnOk P w K mg base CX0 9 (He.fAd K ("are_names", none)) (p.fn "are_names") P_are_names (spB Tl [] (fun _ => True) (allT nameD)) := p.names
  have TB_fits_command := p.b "fits_command"
  have hT := p.t "is_name"
  have hT2 := p.t "fits_command"
  refine okC p.d_cmd.F sc_fits_command (fun vs H Q E h => ?_) (fun cdv A outer s H vs Q E hcd hr h => ?_)
  · obtain ⟨M, x, d, rfl, _⟩ := h
    rfl
  · obtain ⟨M, x, d, rfl, hx, ha, ⟨hd1, hd2⟩, ht, q⟩ := h
    refine ⟨_, (pss_cons (ps_if (PW.pt (pw_or (pt_not (pt_val (pe_callB call_isi (by rfl) T.isinstance (by decide +kernel) (pa_cons (pv 0) (pa_cons (pe_bltn (v := .ty "tuple") (by rfl) T.tuple (by decide +kernel) rfl) pa_nil))))) (pw_or1 (pt_cmpR op_lt (pe_callB call_len (by rfl) T.len (by decide +kernel) (pa_cons (pv 0) pa_nil)) pe_int (nomark _))))) (pss_one (ps_ret pe_bl)) pss_nil)
      (pss_cons (ps_set (i := 2) sc_fits_command.nd rfl (.inl rfl) (pe_ix ix_tup (pv 0) pe_int (fun _ _ => rfl)))
      (pss_cons (ps_if (pt_cmpR (op_eqT hr M) (pv 2) pe_str (nomark _)) (pss_one (ps_ret (pe_and (pe_cmpR op_eq (pe_callB call_len (by rfl) T.len (by decide +kernel) (pa_cons (pv 0) pa_nil)) pe_int (nomark _)) (pe_and (pe_call G_is_name (hr.mono (by first | decide | omega)) (by rfl) D_is_name.g D_is_name.F.kp D_is_name.b .nil pass0 (pa_cons (pe_ix ix_tup (pv 0) pe_int (fun _ _ => rfl)) pa_nil)) (pe_one (pe_call G_fits_term (hr.mono (by first | decide | omega)) (by rfl) D_fits_term.g D_fits_term.F.kp D_fits_term.b .nil pass0 (pa_cons (pe_ix ix_tup (pv 0) pe_int (fun _ _ => rfl)) (pa_cons (pv 1) pa_nil)))))))) pss_nil)
      (pss_cons (ps_if (pt_cmpR (op_eqT hr M) (pv 2) pe_str (nomark _)) (pss_one (ps_ret (pe_and (pe_cmpR op_eq (pe_callB call_len (by rfl) T.len (by decide +kernel) (pa_cons (pv 0) pa_nil)) pe_int (nomark _)) (pe_and (pe_call G_are_names (hr.mono (by first | decide | omega)) (by rfl) D_are_names.g D_are_names.F.kp D_are_names.b .nil pass0 (pa_cons (pe_ix ix_tup (pv 0) pe_int (fun _ _ => rfl)) pa_nil)) (pe_and (pe_cmpR op_gt (pe_callB call_len (by rfl) T.len (by decide +kernel) (pa_cons (pe_ix ix_tup (pv 0) pe_int (fun _ _ => rfl)) pa_nil)) pe_int (nomark _)) (pe_one (pe_call G_fits_term (hr.mono (by first | decide | omega)) (by rfl) D_fits_term.g D_fits_term.F.kp D_fits_term.b .nil pass0 (pa_cons (pe_ix ix_tup (pv 0) pe_int (fun _ _ => rfl)) (pa_cons (pv 1) pa_nil))))))))) pss_nil)
      (pss_cons (ps_if (pt_cmpR (op_eqT hr M) (pv 2) pe_str (nomark _)) (pss_one (ps_ret (pe_and (pe_cmpR op_eq (pe_callB call_len (by rfl) T.len (by decide +kernel) (pa_cons (pv 0) pa_nil)) pe_int (nomark _)) (pe_and (pe_call G_fits_term (hr.mono (by first | decide | omega)) (by rfl) D_fits_term.g D_fits_term.F.kp D_fits_term.b .nil pass0 (pa_cons (pe_ix ix_tup (pv 0) pe_int (fun _ _ => rfl)) (pa_cons (pv 1) pa_nil))) (pe_one (pe_all (own := [("part", 3)]) (g := gName 3) rfl sc_fits_command.nd hr (by rfl) T.all TB_fits_command hcd (gnOk_by (own := [("part", 3)]) (N := N_fits_command) (sc := defScope s_fits_command) (by decide +kernel)) (pi_tup (pe_slice sl_tup (pv 0) (po_some pe_int) po_none)) (fun _ _ _ _ _ _ => (pg_name (i := 3) sc_fits_command.nd rfl (.inl rfl))) (fun _ _ _ _ _ _ => (pe_call G_fits_block ((room_gen hr).mono (by first | decide | omega)) (by rfl) D_fits_block.g D_fits_block.F.kp D_fits_block.b .nil pass0 (pa_cons (pv 3) (pa_cons (pv 1) pa_nil)))))))))) pss_nil)
      (pss_one (ps_ret (pe_and (pe_cmpR (op_eqT hr M) (pv 2) pe_str (nomark _)) (pe_and (pe_cmpR op_eq (pe_callB call_len (by rfl) T.len (by decide +kernel) (pa_cons (pv 0) pa_nil)) pe_int (nomark _)) (pe_and (pe_call G_are_names (hr.mono (by first | decide | omega)) (by rfl) D_are_names.g D_are_names.F.kp D_are_names.b .nil pass0 (pa_cons (pe_slice sl_tup (pv 0) (po_some pe_int) (po_some pe_int)) pa_nil)) (pe_one (pe_call G_fits_block (hr.mono (by first | decide | omega)) (by rfl) D_fits_block.g D_fits_block.F.kp D_fits_block.b .nil pass0 (pa_cons (pe_ix ix_tup (pv 0) pe_int (fun _ _ => rfl)) (pa_cons (pv 1) pa_nil)))))))))))))), ?_⟩
    obtain ⟨t0, ht1, ht2⟩ := Dx.isaT (K := K) hx
    refine ⟨x, rfl, x, _, .type t0, _, _, rfl, .ty "tuple", ht1, kit_ty ht2, _, rfl, ?_⟩
    cases d with
    | tuple ys =>
      obtain ⟨a, xs, rfl, e, r⟩ := Dx.tupOf hx
      refine ⟨_, rfl, _, xs.length, rfl, .inr ⟨_, SqT.of e, rfl⟩, _, _, rfl, rfl, _, rfl, ite2 (fun h2 => ?_) (fun h2 => ?_)⟩
      · have hz : xs.length < 3 := by have := of_decide_eq_true h2; omega
        have q2 := q H (.refl _ _ _)
        have e3 : cmdT f g (.tuple ys) = false := by
          rw [DxAll.length r] at hz
          match ys, hz with
          | [], _ => rfl
          | [_], _ => rfl
          | [_, _], _ => rfl
        rw [e3] at q2
        exact q2
      · have hz : ¬ xs.length < 3 := fun z => h2 (decide_eq_true (by omega))
        match xs, ys, r, e, hx, ha, hd1, hd2, q, hz with
        | v0 :: v1 :: v2 :: vr, k0 :: k1 :: k2 :: kr, r, e, hx, ha, hd1, hd2, q, hz =>
          have hk0 : Dx M H v0 k0 := by cases r with | cons h _ => exact h
          refine ⟨_, rfl, a, _, 0, v0, rfl, rfl, SqT.of e, atI_nat (j := 0) rfl, ?_⟩
          refine ⟨_, rfl, k0, "let", hk0, rfl, _, rfl, ite2 (fun hn => ?_) (fun hn => ?_)⟩
          · rw [isT_of hk0] at hn
            rw [kind_eq hn, cmdT_let] at q
            refine ⟨_, rfl, _, (v0 :: v1 :: v2 :: vr).length, rfl, .inr ⟨_, SqT.of e, rfl⟩, rfl, decide ((v0 :: v1 :: v2 :: vr).length = 3), congrArg V.bl (decV _ 3), ite2 (fun h4 => ?_) (fun h4 => ?_)⟩
            · obtain ⟨a0, a1, a2, b0, b1, b2, e1, e2, x0, x1, x2⟩ := len3 r (of_decide_eq_true h4)
              cases e1
              cases e2
              refine ⟨_, rfl, a, _, 1, v1, rfl, rfl, SqT.of e, rfl, name_sp hT x1 (ha.tup (by simp)) ht fun H1 l1 => ⟨_, rfl, ite2 (fun hn => ?_) (fun hn => ?_)⟩⟩
              · refine ⟨_, rfl, a, _, 2, v2, rfl, rfl, SqT.of (l1.k.tp _ _ e), rfl, _, rfl, M, v2, k2, rfl, Dx.kp l1.k _ _ x2, ha.tup (by simp), hd1 _ rfl _ (by simp), l1.t ht, fun H' l => ?_⟩
                have q2 := q H' (l1.trans l)
                rw [show (match ([k1, k2] : List PyData) with | [a, b] => nameD a && f b | _ => false) = (nameD k1 && f k2) from rfl, hn, Bool.true_and] at q2
                exact q2
              · have q2 := q _ l1
                rw [show (match ([k1, k2] : List PyData) with | [a, b] => nameD a && f b | _ => false) = (nameD k1 && f k2) from rfl, show nameD k1 = false by simpa using hn, Bool.false_and] at q2
                exact q2
            · cases kr with
              | nil => exact absurd (decide_eq_true (by rw [DxAll.length r]; rfl)) h4
              | cons _ _ => exact q H (.refl _ _ _)
          refine ⟨_, rfl, k0, "set", hk0, rfl, _, rfl, ite2 (fun hs => ?_) (fun hs => ?_)⟩
          · rw [isT_of hk0] at hs
            rw [kind_eq hs, cmdT_set] at q
            refine ⟨_, rfl, _, (v0 :: v1 :: v2 :: vr).length, rfl, .inr ⟨_, SqT.of e, rfl⟩, rfl, decide ((v0 :: v1 :: v2 :: vr).length = 3), congrArg V.bl (decV _ 3), ite2 (fun h4 => ?_) (fun h4 => ?_)⟩
            · obtain ⟨a0, a1, a2, b0, b1, b2, e1, e2, x0, x1, x2⟩ := len3 r (of_decide_eq_true h4)
              cases e1
              cases e2
              replace q : ∀ H', Lk M Tl H H' → Q (.bl (allT nameD k1 && (nonE k1 && f k2))) H' := q
              refine ⟨_, rfl, a, _, 1, v1, rfl, rfl, SqT.of e, rfl, M, v1, k1, rfl, x1, ha.tup (by simp), trivial, ht, fun H1 l1 => ⟨_, rfl, ite2 (fun hn => ?_) (fun hn => ?_)⟩⟩
              · rw [hn, ] at q
                have e1 := l1.k.tp _ _ e
                have x1' := Dx.kp l1.k _ _ x1
                cases k1 with
                | tuple ns =>
                  obtain ⟨b, ws, rfl, eb, rb⟩ := Dx.tupOf x1'
                  refine ⟨_, rfl, a, _, 1, .ref b, rfl, rfl, SqT.of e1, rfl, .ref b, ws.length, rfl, .inr ⟨_, SqT.of eb, rfl⟩, _, _, rfl, rfl, _, rfl, ite2 (fun hg => ?_) (fun hg => ?_)⟩
                  · have hp : nonE (.tuple ns) = true := by
                      have hl := DxAll.length rb
                      have hg' := of_decide_eq_true hg
                      cases ns with
                      | nil =>
                        rw [hl] at hg'
                        exact absurd hg' (by decide)
                      | cons _ _ => rfl
                    rw [hp] at q
                    refine ⟨_, rfl, a, _, 2, v2, rfl, rfl, SqT.of e1, rfl, _, rfl, M, v2, k2, rfl, Dx.kp l1.k _ _ x2, ha.tup (by simp), hd1 _ rfl _ (by simp), l1.t ht, fun H' l => ?_⟩
                    exact q H' (l1.trans l)
                  · have hp : nonE (.tuple ns) = false := by
                      cases ns with
                      | nil => rfl
                      | cons _ _ =>
                        refine absurd (decide_eq_true ?_) hg
                        rw [DxAll.length rb, List.length_cons]
                        omega
                    rw [hp] at q
                    exact q _ l1
                | _ => cases hn
              · have q2 := q _ l1
                rw [show allT nameD k1 = false by simpa using hn, Bool.false_and] at q2
                exact q2
            · cases kr with
              | nil => exact absurd (decide_eq_true (by rw [DxAll.length r]; rfl)) h4
              | cons _ _ => exact q H (.refl _ _ _)
          refine ⟨_, rfl, k0, "when", hk0, rfl, _, rfl, ite2 (fun hw => ?_) (fun hw => ?_)⟩
          · rw [isT_of hk0] at hw
            rw [kind_eq hw, cmdT_when] at q
            refine ⟨_, rfl, _, (v0 :: v1 :: v2 :: vr).length, rfl, .inr ⟨_, SqT.of e, rfl⟩, rfl, decide ((v0 :: v1 :: v2 :: vr).length = 5), congrArg V.bl (decV _ 5), ite2 (fun h4 => ?_) (fun h4 => ?_)⟩
            · obtain ⟨a0, a1, a2, a3, a4, b0, b1, b2, b3, b4, e1, e2, x0, x1, x2, x3, x4⟩ := len5 r (of_decide_eq_true h4)
              cases e1
              cases e2
              replace q : ∀ H', Lk M Tl H H' → Q (.bl (f k1 && (g k2 && (g b3 && g b4)))) H' := q
              refine ⟨_, rfl, a, _, 1, v1, rfl, rfl, SqT.of e, rfl, _, rfl, M, v1, k1, rfl, x1, ha.tup (by simp), hd1 _ rfl _ (by simp), ht, fun H1 l1 => ⟨_, rfl, ite2 (fun hn => ?_) (fun hn => ?_)⟩⟩
              · rw [hn] at q
                have e1 := l1.k.tp _ _ e
                refine ⟨_, rfl, 2, rfl, a, _, rfl, SqT.of e1, (by show ¬ (HT.sIx 5 0 (some 2) = 0 ∧ HT.sIx 5 5 none = 5); decide), fun p np => ⟨p, rfl, ⟨_, SqT.of upd_same⟩, ?_⟩⟩
                have lp : Lk M Tl H1 (upd H1 p (.tup [v2, a3, a4])) := Lk.new np
                have t1 := lp.t (l1.t ht)
                refine ⟨t1 _ hT2, fun H2 tb => ?_⟩
                have l2 : Lk M Tl H H2 := l1.trans (lp.trans (Lk.tab (t1 _ hT2) tb))
                have al2 : ([k2, b3, b4] : List PyData).all g = (g k2 && (g b3 && g b4)) := by simp
                refine turns_tup (M := M) (Tl := Tl) (a := p) (xs := [v2, a3, a4]) (ys := [k2, b3, b4]) (f := g) ((Lk.tab (M := M) (Tl := Tl) (t1 _ hT2) tb).k.tp _ _ upd_same) (.cons (Dx.kp l2.k _ _ x2) (.cons (Dx.kp l2.k _ _ x3) (.cons (Dx.kp l2.k _ _ x4) .nil))) (l2.t ht) (fun x y H3 R hy hxy t3 l3 hR => ?_) (fun H3 l3 al => ?_) (fun H3 l3 al => ?_)
                · have hm : y ∈ [k0, k1, k2, b3, b4] := List.mem_cons_of_mem _ (List.mem_cons_of_mem _ hy)
                  exact ⟨rfl, _, rfl, _, rfl, M, x, y, rfl, hxy, ha.tup hm, hd2 _ rfl y hm, t3, fun H4 l4 => ⟨_, rfl, hR H4 l4⟩⟩
                · have q2 := q _ (l2.trans l3)
                  rw [← al2, al] at q2
                  exact q2
                · have q2 := q _ (l2.trans l3)
                  rw [← al2, al] at q2
                  exact q2
              · have q2 := q _ l1
                rw [show f k1 = false by simpa using hn, Bool.false_and] at q2
                exact q2
            · have hl : ∀ y z, kr ≠ [y, z] := fun y z e => h4 (decide_eq_true (by rw [DxAll.length r, e]; rfl))
              match kr, hl with
              | [], _ => exact q H (.refl _ _ _)
              | [_], _ => exact q H (.refl _ _ _)
              | [y, z], hl => exact absurd rfl (hl y z)
              | _ :: _ :: _ :: _, _ => exact q H (.refl _ _ _)
          refine ⟨_, rfl, k0, "each", hk0, rfl, _, rfl, ite2 (fun he => ?_) (fun he => ?_)⟩
          · rw [isT_of hk0] at he
            rw [kind_eq he, cmdT_each] at q
            refine ⟨_, rfl, _, (v0 :: v1 :: v2 :: vr).length, rfl, .inr ⟨_, SqT.of e, rfl⟩, rfl, decide ((v0 :: v1 :: v2 :: vr).length = 5), congrArg V.bl (decV _ 5), ite2 (fun h4 => ?_) (fun h4 => ?_)⟩
            · obtain ⟨a0, a1, a2, a3, a4, b0, b1, b2, b3, b4, e1, e2, x0, x1, x2, x3, x4⟩ := len5 r (of_decide_eq_true h4)
              cases e1
              cases e2
              replace q : ∀ H', Lk M Tl H H' → Q (.bl ((nameD k1 && (nameD k2 && nameD b3)) && g b4)) H' := q
              have al2 : allT nameD (.tuple [k1, k2, b3]) = (nameD k1 && (nameD k2 && nameD b3)) := by simp [allT]
              rw [← al2] at q
              refine ⟨_, rfl, 1, rfl, 4, rfl, a, _, rfl, SqT.of e, (by show ¬ (HT.sIx 5 0 (some 1) = 0 ∧ HT.sIx 5 5 (some 4) = 5); decide), fun p np => ?_⟩
              have lp : Lk M Tl H (upd H p (.tup [v1, v2, a3])) := Lk.new np
              have hm : ∀ y ∈ ([k1, k2, b3] : List PyData), AscA y := fun y hy => by
                simp only [List.mem_cons, List.not_mem_nil, or_false] at hy
                rcases hy with rfl | rfl | rfl <;> exact ha.tup (by simp)
              refine ⟨M, .ref p, .tuple [k1, k2, b3], rfl, .tup upd_same (.cons (Dx.kp lp.k _ _ x1) (.cons (Dx.kp lp.k _ _ x2) (.cons (Dx.kp lp.k _ _ x3) .nil))), ascTup hm, trivial, lp.t ht, fun H1 l1 => ⟨_, rfl, ite2 (fun hn => ?_) (fun hn => ?_)⟩⟩
              · rw [hn] at q
                have l2 := lp.trans l1
                exact ⟨_, rfl, a, _, 4, a4, rfl, rfl, SqT.of (l2.k.tp _ _ e), rfl, _, rfl, M, a4, b4, rfl, Dx.kp l2.k _ _ x4, ha.tup (by simp), hd2 _ rfl _ (by simp), l2.t ht, fun H' l => q H' (l2.trans l)⟩
              · have q2 := q _ (lp.trans l1)
                rw [show allT nameD (.tuple [k1, k2, b3]) = false by simpa using hn, Bool.false_and] at q2
                exact q2
            · have hl : ∀ y z, kr ≠ [y, z] := fun y z e => h4 (decide_eq_true (by rw [DxAll.length r, e]; rfl))
              match kr, hl with
              | [], _ => exact q H (.refl _ _ _)
              | [_], _ => exact q H (.refl _ _ _)
              | [y, z], hl => exact absurd rfl (hl y z)
              | _ :: _ :: _ :: _, _ => exact q H (.refl _ _ _)
          · rw [isT_of hk0] at hn hs hw he
            rw [cmdT_none (by simpa using hn) (by simpa using hs) (by simpa using hw) (by simpa using he)] at q
            exact q H (.refl _ _ _)
    | _ => exact q H (.refl _ _ _)
/-- commands to any depth -/
theorem _root_.KP.Pr.cmd (p : Pr K mg base Tl) : ∀ n : Nat, FnOk P w K mg base CX0 (5 * n + 18) (He.fAd K ("fits_command", none)) (p.fn "fits_command") P_fits_command (spB Tl [.str "call"] (fun d => d.depth ≤ n) (cmdB n))
  | 0 => by
    have B := ok_block p (ok_none (f := fun _ => false) (k := 0)) (P := P) (w := w) (base := base)
    have F := ok_cmd1 (k := 14) p (by omega) (by omega) (by omega) (ok_none (f := fun _ => false) (k := 0)) B
    refine F.imp (spB_imp fun d hd => ⟨⟨sub_zero hd, sub_zero hd⟩, ?_⟩)
    cases d with
    | tuple ys =>
      simp only [PyData.depth] at hd
      omega
    | _ => rfl
  | 1 => by
    have B := ok_block p (ok_none (f := fun _ => false) (k := 0)) (P := P) (w := w) (base := base)
    have F := ok_cmd1 (k := 19) p (by omega) (by omega) (by omega) (p.term 0) B
    exact F.imp (spB_imp fun d hd => ⟨⟨sub_depth hd, (sub_depth hd).mono fun y hy => sub_zero hy⟩, rfl⟩)
  | n + 2 => by
    have B := ok_block p (p.cmd n)
    have F := ok_cmd1 (k := 5 * n + 24) p (by omega) (by omega) (by omega) (p.term (n + 1)) B
    exact (F.imp (spB_imp fun d hd => ⟨⟨sub_depth hd, (sub_depth hd).mono fun y hy => sub_depth hy⟩, rfl⟩)).mono (by omega)
theorem _root_.KP.Pr.block (p : Pr K mg base Tl) (n : Nat) : FnOk P w K mg base CX0 (5 * n + 22) (He.fAd K ("fits_block", none)) (p.fn "fits_block") P_fits_block (spB Tl [.str "call"] (fun d => d.depth ≤ n + 1) (allT (cmdB n))) :=
  (ok_block p (p.cmd n)).imp (spB_imp fun d hd => ⟨sub_depth hd, rfl⟩)
def funT (g t : PyData → Bool) : PyData → Bool
  | .tuple [k, n, a, b, c, bl, gv] => kindIs "fun" k && (nameD n && ((allT nameD a && (allT nameD b && allT nameD c)) && (g bl && (allT t gv && nonE gv))))
  | _ => false
theorem funT_no {g t : PyData → Bool} {ys : List PyData} (h : ys.length ≠ 7) : funT g t (.tuple ys) = false := by
  match ys, h with
  | [], _ => rfl
  | [_], _ => rfl
  | [_, _], _ => rfl
  | [_, _, _], _ => rfl
  | [_, _, _, _], _ => rfl
  | [_, _, _, _, _], _ => rfl
  | [_, _, _, _, _, _], _ => rfl
  | [_, _, _, _, _, _, _], h => exact absurd rfl h
  | _ :: _ :: _ :: _ :: _ :: _ :: _ :: _ :: _, _ => rfl
theorem len7 {M : Addr → Prop} {H : Hp} {xs : List V} {ys : List PyData} (r : DxAll M H xs ys) (h : xs.length = 7) : ∃ a b c e g i j p q s t u v w, xs = [a, b, c, e, g, i, j] ∧ ys = [p, q, s, t, u, v, w] ∧ Dx M H a p ∧ Dx M H b q ∧ Dx M H c s ∧ Dx M H e t ∧ Dx M H g u ∧ Dx M H i v ∧ Dx M H j w :=
  match xs, ys, r, h with
  | [_, _, _, _, _, _, _], [_, _, _, _, _, _, _], .cons h1 (.cons h2 (.cons h3 (.cons h4 (.cons h5 (.cons h6 (.cons h7 .nil)))))), _ => ⟨_, _, _, _, _, _, _, _, _, _, _, _, _, _, rfl, rfl, h1, h2, h3, h4, h5, h6, h7⟩
theorem ok_fun {n : Nat} (p : Pr K mg base Tl) :
    FnOk P w K mg base CX0 (5 * n + 30) (He.fAd K ("fits_function", none)) (p.fn "fits_function") P_fits_function (spB Tl [.str "fun", .str "call"] (fun d => d.depth ≤ n + 2) (funT (allT (cmdB n)) (termB n))) := by
  have T := p.T
  have D_fits_block := p.d_block
  have D_are_terms := p.d_terms
  have D_is_name := p.d_name
  have D_are_names := p.d_names
  have G_is_name : FnOk P w K mg base CX0 5 (He.fAd K ("is_name", none)) (p.fn "is_name") P_is_name (spNm K) := p.name
  have G_are_names : FnOk P w K mg base CX0 9 (He.fAd K ("are_names", none)) (p.fn "are_names") P_are_names (spB Tl [] (fun _ => True) (allT nameD)) := p.names
  have G_fits_block : FnOk P w K mg base CX0 (5 * n + 22) (He.fAd K ("fits_block", none)) (p.fn "fits_block") P_fits_block (spB Tl [.str "call"] (fun d => d.depth ≤ n + 1) (allT (cmdB n))) := p.block n
  have G_are_terms : FnOk P w K mg base CX0 (5 * n + 16) (He.fAd K ("are_terms", none)) (p.fn "are_terms") P_are_terms (spB Tl [.str "call"] (fun d => d.depth ≤ n + 1) (allT (termB n))) := p.terms n
  have TB_fits_function := p.b "fits_function"
  have hT := p.t "is_name"
  have hT2 := p.t "fits_function"
  refine okC (k := 5 * n + 29) p.d_fun.F sc_fits_function (fun vs H Q E h => ?_) (fun cdv A outer s H vs Q E hcd hr h => ?_)
  · obtain ⟨M, x, d, rfl, _⟩ := h
    rfl
  · obtain ⟨M, x, d, rfl, hx, ha, hd, ht, q⟩ := h
    refine ⟨_, (pss_cons (ps_set (i := 3) sc_fits_function.nd rfl (.inl rfl) (pe_ifExp (pt_cmpR op_eq (pv 1) pe_str (nomark _)) pe_int pe_int))
      (pss_cons (ps_if (PW.pt (pw_or (pt_not (pt_val (pe_callB call_isi (by rfl) T.isinstance (by decide +kernel) (pa_cons (pv 0) (pa_cons (pe_bltn (v := .ty "tuple") (by rfl) T.tuple (by decide +kernel) rfl) pa_nil))))) (pw_or (pt_cmpR op_ne (pe_callB call_len (by rfl) T.len (by decide +kernel) (pa_cons (pv 0) pa_nil)) (pv 3) (nomark _)) (pw_or1 (pt_cmpR (op_neT hr M) (pe_ix ix_tup (pv 0) pe_int (fun _ _ => rfl)) (pv 1) (nomark _)))))) (pss_one (ps_ret pe_bl)) pss_nil)
      (pss_cons (ps_par3 (i := 4) (j := 5) (l := 6) (by rfl) sc_fits_function.nd rfl rfl rfl (by decide) (by decide) (by decide) rfl rfl rfl (pa_cons (pe_slice sl_tup (pv 0) (po_some pe_int) (po_some (pe_un un_neg pe_int))) (pa_cons (pe_ix ix_tup (pv 0) (pe_un un_neg pe_int) (fun _ _ => rfl)) (pa_cons (pe_ix ix_tup (pv 0) (pe_un un_neg pe_int) (fun _ _ => rfl)) pa_nil))) (by rfl))
      (pss_cons (ps_if (PW.pt (pw_or (pt_not (pt_val (pe_call G_is_name (hr.mono (by first | decide | omega)) (by rfl) D_is_name.g D_is_name.F.kp D_is_name.b .nil pass0 (pa_cons (pe_ix ix_tup (pv 0) pe_int (fun _ _ => rfl)) pa_nil)))) (pw_or1 (pt_not (pt_val (pe_all (own := [("part", 7)]) (g := gName 7) rfl sc_fits_function.nd hr (by rfl) T.all TB_fits_function hcd (gnOk_by (own := [("part", 7)]) (N := N_fits_function) (sc := defScope s_fits_function) (by decide +kernel)) (pi_tup (pv 4)) (fun _ _ _ _ _ _ => (pg_name (i := 7) sc_fits_function.nd rfl (.inl rfl))) (fun _ _ _ _ _ _ => (pe_call G_are_names ((room_gen hr).mono (by first | decide | omega)) (by rfl) D_are_names.g D_are_names.F.kp D_are_names.b .nil pass0 (pa_cons (pv 7) pa_nil))))))))) (pss_one (ps_ret pe_bl)) pss_nil)
      (pss_one (ps_ret (pe_and (pe_call G_fits_block (hr.mono (by first | decide | omega)) (by rfl) D_fits_block.g D_fits_block.F.kp D_fits_block.b .nil pass0 (pa_cons (pv 5) (pa_cons (pv 2) pa_nil))) (pe_and (pe_call G_are_terms (hr.mono (by first | decide | omega)) (by rfl) D_are_terms.g D_are_terms.F.kp D_are_terms.b .nil pass0 (pa_cons (pv 6) (pa_cons (pv 2) pa_nil))) (pe_one (pe_cmpR op_gt (pe_callB call_len (by rfl) T.len (by decide +kernel) (pa_cons (pv 6) pa_nil)) pe_int (nomark _))))))))))), ?_⟩
    refine ⟨_, rfl, rfl, _, rfl, ite2 (fun _ => ?_) (fun h => absurd (decide_eq_true rfl) h)⟩
    obtain ⟨t0, ht1, ht2⟩ := Dx.isaT (K := K) hx
    refine ⟨x, rfl, x, _, .type t0, _, _, rfl, .ty "tuple", ht1, kit_ty ht2, _, rfl, ?_⟩
    cases d with
    | tuple ys =>
      obtain ⟨a, xs, rfl, e, r⟩ := Dx.tupOf hx
      refine ⟨_, rfl, _, xs.length, rfl, .inr ⟨_, SqT.of e, rfl⟩, _, rfl, rfl, !decide (xs.length = 7), congrArg V.bl (congrArg not (decV _ 7)), ite2 (fun h4 => ?_) (fun h4 => ?_)⟩
      · rw [funT_no (by rw [← DxAll.length r]; simpa using h4)] at q
        exact q H (.refl _ _ _)
      · obtain ⟨v0, v1, v2, v3, v4, v5, v6, k0, k1, k2, k3, k4, k5, k6, rfl, rfl, x0, x1, x2, x3, x4, x5, x6⟩ := len7 r (by simpa using h4)
        replace q : ∀ H', Lk M Tl H H' → Q (.bl (kindIs "fun" k0 && (nameD k1 && ((allT nameD k2 && (allT nameD k3 && allT nameD k4)) && (allT (cmdB n) k5 && (allT (termB n) k6 && nonE k6)))))) H' := q
        refine ⟨_, rfl, a, _, 0, v0, rfl, rfl, SqT.of e, rfl, _, rfl, k0, "fun", x0, rfl, _, rfl, ite2 (fun hf => ?_) (fun hf => ?_)⟩
        · rw [isT_of x0] at hf
          rw [show kindIs "fun" k0 = false by simpa using hf] at q
          exact q H (.refl _ _ _)
        · rw [isT_of x0] at hf
          rw [show kindIs "fun" k0 = true by simpa using hf] at q
          rw [Bool.true_and] at q
          refine ⟨_, rfl, 2, rfl, 2, rfl, -2, rfl, a, _, rfl, SqT.of e, (by show ¬ (HT.sIx 7 0 (some 2) = 0 ∧ HT.sIx 7 7 (some (-2)) = 7); decide), fun b nb => ?_⟩
          have lb : Lk M Tl H (upd H b (.tup (cutV [v0, v1, v2, v3, v4, v5, v6] (some 2) (some (-2))))) := Lk.new nb
          have hb : (upd H b (.tup (cutV [v0, v1, v2, v3, v4, v5, v6] (some 2) (some (-2))))) b = some (.tup [v2, v3, v4]) := upd_same
          generalize upd H b (.tup (cutV [v0, v1, v2, v3, v4, v5, v6] (some 2) (some (-2)))) = H1 at lb hb
          have e1 := lb.k.tp _ _ e
          refine ⟨_, rfl, 2, rfl, a, _, -2, v5, rfl, rfl, SqT.of e1, rfl, _, rfl, 1, rfl, a, _, -1, v6, rfl, rfl, SqT.of e1, rfl, _, _, _, rfl, ?_⟩
          refine ⟨_, rfl, a, _, 1, v1, rfl, rfl, SqT.of e1, rfl, name_sp hT (Dx.kp lb.k _ _ x1) (ha.tup (by simp)) (lb.t ht) fun H2 l2 => ⟨_, rfl, ?_⟩⟩
          have l2' := lb.trans l2
          cases hn : nameD k1 with
          | false =>
            rw [hn, Bool.false_and] at q
            exact q _ l2'
          | true =>
            rw [hn, Bool.true_and] at q
            refine ⟨_, rfl, b, rfl, ⟨_, SqT.of (l2.k.tp _ _ hb)⟩, l2'.t ht _ hT2, fun H3 tb => ?_⟩
            have lt : Lk M Tl H2 H3 := Lk.tab (l2'.t ht _ hT2) tb
            have l3 := l2'.trans lt
            have al2 : ([k2, k3, k4] : List PyData).all (allT nameD) = (allT nameD k2 && (allT nameD k3 && allT nameD k4)) := by simp
            rw [← al2] at q
            refine turns_tup (M := M) (Tl := Tl) (a := b) (xs := [v2, v3, v4]) (ys := [k2, k3, k4]) (f := allT nameD) (lt.k.tp _ _ (l2.k.tp _ _ hb)) (.cons (Dx.kp l3.k _ _ x2) (.cons (Dx.kp l3.k _ _ x3) (.cons (Dx.kp l3.k _ _ x4) .nil))) (l3.t ht) (fun x y H4 R hy hxy t4 l4 hR => ?_) (fun H4 l4 al => ?_) (fun H4 l4 al => ?_)
            · have hm : y ∈ [k0, k1, k2, k3, k4, k5, k6] := by
                simp only [List.mem_cons, List.not_mem_nil, or_false] at hy
                rcases hy with rfl | rfl | rfl <;> simp
              exact ⟨rfl, _, rfl, M, x, y, rfl, hxy, ha.tup hm, trivial, t4, fun H5 l5 => ⟨_, rfl, hR H5 l5⟩⟩
            · rw [al, Bool.true_and] at q
              have l4' := l3.trans l4
              have dm : ∀ y ∈ [k0, k1, k2, k3, k4, k5, k6], y.depth ≤ n + 1 := sub_depth hd _ rfl
              refine ⟨_, rfl, _, rfl, _, rfl, M, v5, k5, rfl, Dx.kp l4'.k _ _ x5, ha.tup (by simp), dm _ (by simp), l4'.t ht, fun H5 l5 => ⟨_, rfl, ite2 (fun hg => ?_) (fun hg => ?_)⟩⟩
              · rw [hg, Bool.true_and] at q
                have l5' := l4'.trans l5
                refine ⟨_, rfl, _, rfl, M, v6, k6, rfl, Dx.kp l5'.k _ _ x6, ha.tup (by simp), dm _ (by simp), l5'.t ht, fun H6 l6 => ⟨_, rfl, ite2 (fun hg => ?_) (fun hg => ?_)⟩⟩
                · rw [hg, Bool.true_and] at q
                  have l6' := l5'.trans l6
                  cases k6 with
                  | tuple gs =>
                    obtain ⟨c, ws, rfl, ec, rc⟩ := Dx.tupOf (Dx.kp l6'.k _ _ x6)
                    refine ⟨_, rfl, .ref c, ws.length, rfl, .inr ⟨_, SqT.of ec, rfl⟩, _, _, rfl, rfl, ?_⟩
                    have eq : decide ((0 : Int) < (ws.length : Int)) = nonE (.tuple gs) := by
                      rw [DxAll.length rc]
                      cases gs with
                      | nil => rfl
                      | cons _ tl =>
                        show decide ((0 : Int) < ((tl.length + 1 : Nat) : Int)) = true
                        exact decide_eq_true (by omega)
                    have q2 := q _ l6'
                    rw [← eq] at q2
                    exact q2
                  | _ => cases hg
                · rw [show allT (termB n) k6 = false by simpa using hg, Bool.false_and] at q
                  exact q _ (l5'.trans l6)
              · rw [show allT (cmdB n) k5 = false by simpa using hg, Bool.false_and] at q
                exact q _ (l4'.trans l5)
            · rw [al, Bool.false_and] at q
              exact ⟨_, rfl, q _ (l3.trans l4)⟩
    | _ => exact q H (.refl _ _ _)
/-! ### the three at the front -/
theorem _root_.KP.Pr.isTerm (p : Pr K mg base Tl) (n : Nat) : FnOk P w K mg base CX0 (5 * n + 13) (He.fAd K ("is_term", none)) (p.fn "is_term") P_is_term (spB Tl [] (fun d => d.depth ≤ n) (termB n)) := by
  have D_fits_term := p.d_term
  have G_fits_term : FnOk P w K mg base CX0 (5 * n + 12) (He.fAd K ("fits_term", none)) (p.fn "fits_term") P_fits_term (spB Tl [.str "call"] (fun d => d.depth ≤ n) (termB n)) := p.term n
  refine (fun_of p.d_isterm.F).ok (k := 5 * n + 12) sc_is_term (fun vs H Q E h => ?_) (fun cdv A outer s H vs Q E hr h => ?_)
  · obtain ⟨M, x, d, rfl, _⟩ := h
    rfl
  · obtain ⟨M, x, d, rfl, h⟩ := h
    exact ⟨_, (pss_one (ps_ret (pe_call G_fits_term (hr.mono (by first | decide | omega)) (by rfl) D_fits_term.g D_fits_term.F.kp D_fits_term.b .nil pass0 (pa_cons (pv 0) (pa_cons pe_str pa_nil))))), _, rfl, M, x, d, rfl, h⟩
theorem _root_.KP.Pr.isCommand (p : Pr K mg base Tl) (n : Nat) : FnOk P w K mg base CX0 (5 * n + 19) (He.fAd K ("is_command", none)) (p.fn "is_command") P_is_command (spB Tl [] (fun d => d.depth ≤ n) (cmdB n)) := by
  have D_fits_command := p.d_cmd
  have G_fits_command : FnOk P w K mg base CX0 (5 * n + 18) (He.fAd K ("fits_command", none)) (p.fn "fits_command") P_fits_command (spB Tl [.str "call"] (fun d => d.depth ≤ n) (cmdB n)) := p.cmd n
  refine (fun_of p.d_iscmd.F).ok (k := 5 * n + 18) sc_is_command (fun vs H Q E h => ?_) (fun cdv A outer s H vs Q E hr h => ?_)
  · obtain ⟨M, x, d, rfl, _⟩ := h
    rfl
  · obtain ⟨M, x, d, rfl, h⟩ := h
    exact ⟨_, (pss_one (ps_ret (pe_call G_fits_command (hr.mono (by first | decide | omega)) (by rfl) D_fits_command.g D_fits_command.F.kp D_fits_command.b .nil pass0 (pa_cons (pv 0) (pa_cons pe_str pa_nil))))), _, rfl, M, x, d, rfl, h⟩
def treeB (n : Nat) : PyData → Bool := allT (funT (allT (cmdB n)) (termB n))
theorem _root_.KP.Pr.isTree (p : Pr K mg base Tl) (n : Nat) : FnOk P w K mg base CX0 (5 * n + 34) (He.fAd K ("is_tree", none)) (p.fn "is_tree") P_is_tree (spB Tl [] (fun d => d.depth ≤ n + 3) (treeB n)) := by
  have T := p.T
  have D_fits_function := p.d_fun
  have G_fits_function : FnOk P w K mg base CX0 (5 * n + 30) (He.fAd K ("fits_function", none)) (p.fn "fits_function") P_fits_function (spB Tl [.str "fun", .str "call"] (fun d => d.depth ≤ n + 2) (funT (allT (cmdB n)) (termB n))) := ok_fun p
  have TB_is_tree := p.b "is_tree"
  have hT2 := p.t "is_tree"
  refine okC (k := 5 * n + 33) p.d_istree.F sc_is_tree (fun vs H Q E h => ?_) (fun cdv A outer s H vs Q E hcd hr h => ?_)
  · obtain ⟨M, x, d, rfl, _⟩ := h
    rfl
  · obtain ⟨M, x, d, rfl, hx, ha, hd, ht, q⟩ := h
    refine ⟨_, (pss_one (ps_ret (pe_and (pe_callB call_isi (by rfl) T.isinstance (by decide +kernel) (pa_cons (pv 0) (pa_cons (pe_bltn (v := .ty "tuple") (by rfl) T.tuple (by decide +kernel) rfl) pa_nil))) (pe_one (pe_all (own := [("part", 1)]) (g := gName 1) rfl sc_is_tree.nd hr (by rfl) T.all TB_is_tree hcd (gnOk_by (own := [("part", 1)]) (N := N_is_tree) (sc := defScope s_is_tree) (by decide +kernel)) (pi_tup (pv 0)) (fun _ _ _ _ _ _ => (pg_name (i := 1) sc_is_tree.nd rfl (.inl rfl))) (fun _ _ _ _ _ _ => (pe_call G_fits_function ((room_gen hr).mono (by first | decide | omega)) (by rfl) D_fits_function.g D_fits_function.F.kp D_fits_function.b .nil pass0 (pa_cons (pv 1) (pa_cons pe_str (pa_cons pe_str pa_nil)))))))))), ?_⟩
    obtain ⟨t0, ht1, ht2⟩ := Dx.isaT (K := K) hx
    refine ⟨x, rfl, x, _, .type t0, _, _, rfl, .ty "tuple", ht1, kit_ty ht2, _, rfl, ?_⟩
    cases d with
    | tuple ys =>
      obtain ⟨a, xs, rfl, e, r⟩ := Dx.tupOf hx
      refine ⟨_, rfl, a, rfl, ⟨xs, SqT.of e⟩, ht _ hT2, fun H2 tb => ?_⟩
      have lk : Lk M Tl H H2 := Lk.tab (ht _ hT2) tb
      refine turns_tup (f := funT (allT (cmdB n)) (termB n)) (lk.k.tp _ _ e) (Dx.kpAll lk.k _ _ r) (lk.t ht) (fun x y H3 R hy hxy t3 l3 hR => ?_) (fun H3 l3 al => ?_) (fun H3 l3 al => ?_)
      · exact ⟨rfl, _, rfl, M, x, y, rfl, hxy, ha.tup hy, sub_depth hd ys rfl y hy, t3, fun H4 l4 => ⟨_, rfl, hR H4 l4⟩⟩
      · have q2 := q _ (lk.trans l3)
        rw [show treeB n (.tuple ys) = ys.all (funT (allT (cmdB n)) (termB n)) from rfl, al] at q2
        exact q2
      · have q2 := q _ (lk.trans l3)
        rw [show treeB n (.tuple ys) = ys.all (funT (allT (cmdB n)) (termB n)) from rfl, al] at q2
        exact q2
    | _ => exact q H (.refl _ _ _)
end
end KP2


set_option Elab.async false
set_option linter.all false
set_option maxRecDepth 100000
set_option maxHeartbeats 4000000
/-! The law's own looks at terms, commands, trees. -/
namespace KW
open PySem PySem.Spec PyProof.Rows L2 KT KG KM KX KQ KE0 KA KB KC KP KP2 GxR
section
variable {M : Addr → Prop} {H : Hp}
mutual
theorem Dx.less {N : Addr → Prop} (h : ∀ a, N a → M a) : ∀ (d : PyData) (v : V), Dx M H v d → Dx N H v d
  | .none, _, k => by cases k; exact .non
  | .bool b, _, k => by cases k; exact .bl b
  | .int i, _, k => by cases k; exact .int i
  | .str x, _, k => by cases k; exact .str x
  | .list ds, _, k => by
    cases k with
    | lst n e r => exact .lst (fun z => n (h _ z)) e (Dx.lessAll h ds _ r)
  | .tuple ds, _, k => by
    cases k with
    | tup e r => exact .tup e (Dx.lessAll h ds _ r)
  | .dict ds, _, k => by
    cases k with
    | dk n e r => exact .dk (fun z => n (h _ z)) e (Dx.lessKv h ds _ r)
theorem Dx.lessAll {N : Addr → Prop} (h : ∀ a, N a → M a) : ∀ (ds : List PyData) (vs : List V), DxAll M H vs ds → DxAll N H vs ds
  | [], _, k => by cases k; exact .nil
  | d :: ds, _, k => by
    cases k with
    | cons h1 h2 => exact .cons (Dx.less h d _ h1) (Dx.lessAll h ds _ h2)
theorem Dx.lessKv {N : Addr → Prop} (h : ∀ a, N a → M a) : ∀ (ds : List (PyData × PyData)) (vs : List (Key × V)), DxKv M H vs ds → DxKv N H vs ds
  | [], _, k => by cases k; exact .nil
  | (_, d) :: ds, _, k => by
    cases k with
    | cons h1 h2 => exact .cons (Dx.less h d _ h1) (Dx.lessKv h ds _ h2)
end
end
/-- [x for x in a tuple if not look(x)] -/
theorem lc_look {K : PySem.W.Frag} {M : Addr → Prop} {Tl : List Addr} {a : Addr} {xs : List V} {ys : List PyData} {f : PyData → Bool} {i : Nat} {tt : TT} {σ : L2.St} {H0 : Hp} {D : Addr} {Qd : Hp → Prop} (hi : i < σ.length) (nD : H0 D = none)
    (e : H0 a = some (.tup xs)) (r : DxAll M H0 xs ys) (t : Ts Tl H0) (hz : xs.length < sizeLine)
    (hs : ∀ (x : V) (y : PyData) (H : Hp) (R : Bool → Hp → Prop), y ∈ ys → Dx (fun a => M a ∧ a ≠ D) H x y → Ts Tl H → (∀ H', Lk (fun a => M a ∧ a ≠ D) Tl H H' → R (!f y) H') → tt ((wipe σ [i]).set i (some x)) H R)
    (hd : ∀ H acc, Lk M Tl H0 H → H D = some (.lst acc) → acc.isEmpty = ys.all f → Qd H) :
    ∃ W : Nat → Nat → Hp → Prop, (∃ m, W 0 m (upd H0 D (.lst []))) ∧ ∀ j m H, W j m H →
      ((Itt K a).stop j H ∧ Qd H) ∨ ((Itt K a).go j H ∧ ∃ Nx : Hp → Prop, (∀ H', Nx H' → ∃ m', m' < m ∧ W (j + 1) m' H') ∧ ∀ x H', (Itt K a).yld j H x H' → gName i x (wipe σ [i]) H' fun σ2 H2 => wipe σ2 [i] = wipe σ [i] ∧ tt σ2 H2 fun b H3 =>
        if b = true then tVar i σ2 H3 fun y H4 => ∃ acc, H4 D = some (.lst acc) ∧ acc.length < sizeLine ∧ Nx (upd H4 D (.lst (acc ++ [y]))) else Nx H3) := by
  have hl := DxAll.length r
  have put : ∀ {H : Hp} {acc : List V} {o : HO}, Lk M Tl H0 H → H D = some (.lst acc) → Lk M Tl H0 (upd H D o) := fun {H acc o} lk hD => by
    refine ⟨⟨fun b u n nt eb => ?_, fun b ws eb => ?_⟩, fun h P hP => ?_⟩
    · rw [upd_ne (ne_of_none eb nD)]
      exact lk.k.st b u n nt eb
    · rw [upd_ne (ne_of_none eb nD)]
      exact lk.k.tp b ws eb
    · obtain ⟨ps, eP, ok⟩ := lk.t h P hP
      refine ⟨ps, ?_, ok⟩
      rw [upd_ne (fun z => by rw [z, hD] at eP; cases eP)]
      exact eP
  refine lc_it (n := xs.length) walk_tup (fun j H => ∃ acc, H D = some (.lst acc) ∧ acc.length ≤ j ∧ acc.isEmpty = (ys.take j).all f ∧ Lk M Tl H0 H) ⟨[], upd_same, Nat.zero_le _, rfl, Lk.new nD⟩ (fun j H _ p => ?_) (fun j x H H' hj p y => ?_) (fun H p => ?_)
  · obtain ⟨acc, _, _, _, lk⟩ := p
    exact SqT.of (lk.k.tp _ _ e)
  · obtain ⟨rfl, hx⟩ := y
    obtain ⟨acc, hD, hlen, hem, lk⟩ := p
    obtain ⟨d, hd1, hxd⟩ := DxAll.at r hx
    refine ⟨by
      show ((σ.set i none).set i (some x)).set i none = σ.set i none
      rw [List.set_set, List.set_set], hs x d _ _ (List.mem_of_getElem? hd1) (Dx.less (fun a z => z.1) _ _ (Dx.kp lk.k _ _ hxd)) (lk.t t) fun H4 l4 => ?_⟩
    have hD4 : H4 D = some (.lst acc) := l4.k.st D _ (fun z => z.2 rfl) (fun _ z => by cases z) hD
    have lk4 : Lk M Tl H0 H4 := lk.trans ⟨l4.k.less fun a z => z.1, l4.t⟩
    have et : (ys.take (j + 1)).all f = ((ys.take j).all f && f d) := by
      rw [List.take_add_one, hd1, List.all_append]
      congr 1
      show (f d && true) = f d
      rw [Bool.and_true]
    cases hfd : f d with
    | true =>
      rw [if_neg (by decide)]
      exact ⟨acc, hD4, by omega, by rw [et, hfd, Bool.and_true]; exact hem, lk4⟩
    | false =>
      rw [if_pos (by decide)]
      refine ⟨x, ?_, acc, hD4, by omega, acc ++ [x], upd_same, by rw [List.length_append]; show acc.length + 1 ≤ _; omega, ?_, put lk4 hD4⟩
      · show ((σ.set i none).set i (some x))[i]? = some (some x)
        rw [List.set_set, List.getElem?_set_self hi]
      · rw [et, hfd, Bool.and_false]
        cases acc <;> rfl
  · obtain ⟨acc, hD, _, hem, lk⟩ := p
    rw [hl, List.take_length] at hem
    exact hd H acc lk hD hem
abbrev N__law_are_names : List Str := ["_law_thing", "_law_x"]
abbrev P__law_are_names : List Str := ["_law_thing"]
theorem sc__law_are_names : FnScope N__law_are_names P__law_are_names (defScope s__law_are_names) := ⟨rfl, rfl, rfl, by decide +kernel, rfl, by decide +kernel, by decide +kernel⟩
abbrev N__law_are_terms : List Str := ["_law_thing", "_law_x"]
abbrev P__law_are_terms : List Str := ["_law_thing"]
theorem sc__law_are_terms : FnScope N__law_are_terms P__law_are_terms (defScope s__law_are_terms) := ⟨rfl, rfl, rfl, by decide +kernel, rfl, by decide +kernel, by decide +kernel⟩
abbrev N__law_is_term : List Str := ["_law_thing"]
abbrev P__law_is_term : List Str := ["_law_thing"]
theorem sc__law_is_term : FnScope N__law_is_term P__law_is_term (defScope s__law_is_term) := ⟨rfl, rfl, rfl, by decide +kernel, rfl, by decide +kernel, by decide +kernel⟩
abbrev N__law_is_block : List Str := ["_law_thing", "_law_x"]
abbrev P__law_is_block : List Str := ["_law_thing"]
theorem sc__law_is_block : FnScope N__law_is_block P__law_is_block (defScope s__law_is_block) := ⟨rfl, rfl, rfl, by decide +kernel, rfl, by decide +kernel, by decide +kernel⟩
abbrev N__law_is_command : List Str := ["_law_thing", "_law_x"]
abbrev P__law_is_command : List Str := ["_law_thing"]
theorem sc__law_is_command : FnScope N__law_is_command P__law_is_command (defScope s__law_is_command) := ⟨rfl, rfl, rfl, by decide +kernel, rfl, by decide +kernel, by decide +kernel⟩
abbrev N__law_is_function : List Str := ["_law_thing", "_law_x"]
abbrev P__law_is_function : List Str := ["_law_thing"]
theorem sc__law_is_function : FnScope N__law_is_function P__law_is_function (defScope s__law_is_function) := ⟨rfl, rfl, rfl, by decide +kernel, rfl, by decide +kernel, by decide +kernel⟩
abbrev N__law_is_tree : List Str := ["_law_thing", "_law_x"]
abbrev P__law_is_tree : List Str := ["_law_thing"]
theorem sc__law_is_tree : FnScope N__law_is_tree P__law_is_tree (defScope s__law_is_tree) := ⟨rfl, rfl, rfl, by decide +kernel, rfl, by decide +kernel, by decide +kernel⟩
section
variable {P : Program} {w : World} {K : PySem.W.Frag} {mg : Str → Option Value} {base : Heap} {Tl : List Addr}
def spLn (K : PySem.W.Frag) : Sp := fun vs H Q _ => ∃ x, vs = [x] ∧ Sv K H x ∧ ∀ H', Same H H' → Q (.bl (nameV x)) H'
theorem lname_sp {x : V} {d : PyData} {M : Addr → Prop} {H : Hp} {Q : VK} (h : Dx M H x d) (a : AscA d) (q : ∀ H', Lk M Tl H H' → Q (.bl (nameD d)) H') : spLn K [x] H Q E0 :=
  ⟨x, rfl, Dx.sv h a.ascD, fun H' s => by
    rw [nameV_of h]
    exact q H' (.same s)⟩
theorem emp_new {H : Hp} {D p : Addr} {acc : List V} (hD : H D = some (.lst acc)) (np : H p = none) : (upd H p (.lst [])) D = some (.lst acc) := by
  rw [upd_ne (ne_of_none hD np)]
  exact hD
theorem lk_len {M : Addr → Prop} {H : Hp} {a : Addr} {xs : List V} {ys : List PyData} (h : ys.length ≤ 16000000) (r : DxAll M H xs ys) : xs.length < sizeLine := by
  rw [DxAll.length r]
  exact Nat.lt_of_le_of_lt h (by decide)
/- tuples are short -/
mutual
def ShA : PyData → Prop
  | .tuple xs => xs.length ≤ 16000000 ∧ ShL xs
  | _ => True
def ShL : List PyData → Prop
  | [] => True
  | x :: r => ShA x ∧ ShL r
end
theorem ShL.mem : ∀ {ys : List PyData} {y : PyData}, ShL ys → y ∈ ys → ShA y
  | a :: r, y, h, m => by
    unfold ShL at h
    rcases List.mem_cons.mp m with rfl | m
    · exact h.1
    · exact ShL.mem h.2 m
theorem ShA.len {ys : List PyData} (h : ShA (.tuple ys)) : ys.length ≤ 16000000 := by
  unfold ShA at h
  exact h.1
theorem ShA.tup {ys : List PyData} (h : ShA (.tuple ys)) {y : PyData} (m : y ∈ ys) : ShA y := by
  unfold ShA at h
  exact ShL.mem h.2 m
def spC (Tl : List Addr) (dom : PyData → Prop) (f : PyData → Bool) : Sp := spB Tl [] (fun d => ShA d ∧ dom d) f
theorem ok_lnames {fd fdN : FuncData} (T : Tb mg) (D : Df K mg "_law_are_names" s__law_are_names P__law_are_names fd) (D__law_is_name : Df K mg "_law_is_name" s__law_is_name P__law_is_name fdN)
    (G__law_is_name : FnOk P w K mg base CX0 2 (He.fAd K ("_law_is_name", none)) fdN P__law_is_name (spLn K)) : FnOk P w K mg base CX0 5 (He.fAd K ("_law_are_names", none)) fd P__law_are_names (spC Tl (fun _ => True) (allT nameD)) := by
  refine (fun_of D.F).ok sc__law_are_names (fun vs H Q E h => ?_) (fun cdv A outer s H vs Q E hr h => ?_)
  · obtain ⟨M, x, d, rfl, _⟩ := h
    rfl
  · obtain ⟨M, x, d, rfl, hx, ha, ⟨hsh, _⟩, ht, q⟩ := h
    refine ⟨_, (pss_one (ps_ret (pe_and (pe_callB call_isi (by rfl) T.isinstance (by decide +kernel) (pa_cons (pv 0) (pa_cons (pe_bltn (v := .ty "tuple") (by rfl) T.tuple (by decide +kernel) rfl) pa_nil))) (pe_one (pe_cmpR (op_eqE hr) (pe_lc (own := [("_law_x", 1)]) (g := gName 1) (by rfl) sc__law_are_names.nd (pi_tup (pv 0)) (blkOk_by (own := [("_law_x", 1)]) (N := N__law_are_names) (sc := defScope s__law_are_names) (by decide +kernel)) (fun _ _ _ _ _ => (pg_name (i := 1) sc__law_are_names.nd rfl (.inl rfl))) (fun _ _ _ _ _ => (pts_one (pt_not (pt_val (pe_call G__law_is_name (hr.mono (by first | decide | omega)) (by rfl) D__law_is_name.g D__law_is_name.F.kp D__law_is_name.b .nil pass0 (pa_cons (pv 1) pa_nil)))))) (fun _ _ _ _ _ => (pv 1))) (pe_lst pa_nil) (nomark _)))))), ?_⟩
    obtain ⟨t0, ht1, ht2⟩ := Dx.isaT (K := K) hx
    refine ⟨x, rfl, x, _, .type t0, _, _, rfl, .ty "tuple", ht1, kit_ty ht2, _, rfl, ?_⟩
    cases d with
    | tuple ys =>
      obtain ⟨a, xs, rfl, e, r⟩ := Dx.tupOf hx
      refine ⟨_, rfl, a, rfl, ⟨xs, SqT.of e⟩, fun D nD => lc_look (i := 1) (f := nameD) (by show 1 < 2; decide) nD e r ht (lk_len (a := a) hsh.len r) (fun x y H R hy hxy t3 hR => ?_) (fun H acc lk hD hem => ?_)⟩
      · refine ⟨_, rfl, x, rfl, Dx.sv hxy (ha.tup hy).ascD, fun H' s => ⟨_, rfl, ?_⟩⟩
        rw [nameV_of hxy]
        exact hR H' (.same s)
      · refine ⟨Nat.zero_le _, fun p np => ⟨D, p, acc, rfl, rfl, .inl ⟨SqL.of (emp_new hD np), SqL.of upd_same⟩, ?_⟩⟩
        rw [hem]
        exact q _ (lk.trans (Lk.new np))
    | _ => exact q H (.refl _ _ _)
theorem ok_lall {fd fdF : FuncData} {k : Nat} {dom : PyData → Prop} {f : PyData → Bool} (T : Tb mg) (D : Df K mg "_law_are_terms" s__law_are_terms P__law_are_terms fd) (D__law_is_term : Df K mg "_law_is_term" s__law_is_term P__law_is_term fdF)
    (G__law_is_term : FnOk P w K mg base CX0 k (He.fAd K ("_law_is_term", none)) fdF P__law_is_term (spC Tl dom f)) : FnOk P w K mg base CX0 (k + 3) (He.fAd K ("_law_are_terms", none)) fd P__law_are_terms (spC Tl (Sub dom) (allT f)) := by
  refine (fun_of D.F).ok sc__law_are_terms (fun vs H Q E h => ?_) (fun cdv A outer s H vs Q E hr h => ?_)
  · obtain ⟨M, x, d, rfl, _⟩ := h
    rfl
  · obtain ⟨M, x, d, rfl, hx, ha, ⟨hsh, hdm⟩, ht, q⟩ := h
    refine ⟨_, (pss_one (ps_ret (pe_and (pe_callB call_isi (by rfl) T.isinstance (by decide +kernel) (pa_cons (pv 0) (pa_cons (pe_bltn (v := .ty "tuple") (by rfl) T.tuple (by decide +kernel) rfl) pa_nil))) (pe_one (pe_cmpR (op_eqE hr) (pe_lc (own := [("_law_x", 1)]) (g := gName 1) (by rfl) sc__law_are_terms.nd (pi_tup (pv 0)) (blkOk_by (own := [("_law_x", 1)]) (N := N__law_are_terms) (sc := defScope s__law_are_terms) (by decide +kernel)) (fun _ _ _ _ _ => (pg_name (i := 1) sc__law_are_terms.nd rfl (.inl rfl))) (fun _ _ _ _ _ => (pts_one (pt_not (pt_val (pe_call G__law_is_term (hr.mono (by first | decide | omega)) (by rfl) D__law_is_term.g D__law_is_term.F.kp D__law_is_term.b .nil pass0 (pa_cons (pv 1) pa_nil)))))) (fun _ _ _ _ _ => (pv 1))) (pe_lst pa_nil) (nomark _)))))), ?_⟩
    obtain ⟨t0, ht1, ht2⟩ := Dx.isaT (K := K) hx
    refine ⟨x, rfl, x, _, .type t0, _, _, rfl, .ty "tuple", ht1, kit_ty ht2, _, rfl, ?_⟩
    cases d with
    | tuple ys =>
      obtain ⟨a, xs, rfl, e, r⟩ := Dx.tupOf hx
      refine ⟨_, rfl, a, rfl, ⟨xs, SqT.of e⟩, fun D nD => lc_look (i := 1) (f := f) (by show 1 < 2; decide) nD e r ht (lk_len (a := a) hsh.len r) (fun x y H R hy hxy t3 hR => ?_) (fun H acc lk hD hem => ?_)⟩
      · exact ⟨_, rfl, _, x, y, rfl, hxy, ha.tup hy, ⟨hsh.tup hy, hdm ys rfl y hy⟩, t3, fun H' l => ⟨_, rfl, hR H' l⟩⟩
      · refine ⟨Nat.zero_le _, fun p np => ⟨D, p, acc, rfl, rfl, .inl ⟨SqL.of (emp_new hD np), SqL.of upd_same⟩, ?_⟩⟩
        rw [hem]
        exact q _ (lk.trans (Lk.new np))
    | _ => exact q H (.refl _ _ _)
/-- a and b, as a test ahead of two ways -/
theorem and2 {A : Bool} {P1 X Y : Prop} (B : Bool) (h1 : A = true → (if B = true then X else Y) → P1) (hx : A = true → B = true → X) (hy : (A = true → B = true → False) → Y) : if A = true then P1 else (if false = true then X else Y) := by
  cases A with
  | true =>
    rw [if_pos rfl]
    refine h1 rfl ?_
    cases B with
    | true => rw [if_pos rfl]; exact hx rfl rfl
    | false => rw [if_neg Bool.false_ne_true]; exact hy fun _ z => Bool.noConfusion z
  | false =>
    rw [if_neg Bool.false_ne_true, if_neg Bool.false_ne_true]
    exact hy fun z => Bool.noConfusion z
/-- a or b, as a test ahead of two ways -/
theorem or2 {A : Bool} {P1 X Y : Prop} (B : Bool) (h1 : A = false → (if B = true then X else Y) → P1) (hx : A = true ∨ B = true → X) (hy : A = false → B = false → Y) : if A = true then (if true = true then X else Y) else P1 := by
  cases A with
  | true =>
    rw [if_pos rfl, if_pos rfl]
    exact hx (.inl rfl)
  | false =>
    rw [if_neg Bool.false_ne_true]
    refine h1 rfl ?_
    cases B with
    | true => rw [if_pos rfl]; exact hx (.inr rfl)
    | false => rw [if_neg Bool.false_ne_true]; exact hy rfl rfl
theorem termT_no {f g : PyData → Bool} {z : Str} {r : List PyData} (h1 : z = "name" → r.length = 1 → False) (h2 : z = "word" → r.length = 1 → False) (h3 : z = "put" → r.length = 2 → False) (h4 : z = "cut" → r.length = 1 → False) (h5 : z = "call" → r.length = 3 → False) : termT f g (.tuple (.str z :: r)) = false := by
  have n : ∀ {y : Str}, (z = y → False) → kindIs y (.str z) = false := fun {y} h => beq_eq_false_iff_ne.mpr h
  match r with
  | [] => rfl
  | [a] =>
    show ((kindIs "name" (.str z) && nameD a) || ((kindIs "word" (.str z) && wordD a) || (kindIs "cut" (.str z) && f a))) = false
    rw [n fun e => h1 e rfl, n fun e => h2 e rfl, n fun e => h4 e rfl]
    simp
  | [a, b] =>
    show (kindIs "put" (.str z) && (f a && bitD b)) = false
    rw [n fun e => h3 e rfl]
    rfl
  | [a, b, c] =>
    show (kindIs "call" (.str z) && (nameD a && (g b && g c))) = false
    rw [n fun e => h5 e rfl]
    rfl
  | _ :: _ :: _ :: _ :: _ => rfl
theorem str_dec (x y : Str) : decide (V.str x = V.str y) = decide (x = y) := by
  apply decide_eq_decide.mpr
  constructor
  · intro h
    cases h
    rfl
  · intro h
    rw [h]
theorem isS_of {M : Addr → Prop} {H : Hp} {v : V} {d : PyData} (h : Dx M H v d) (e : isS v = true) : ∃ z, v = .str z ∧ d = .str z := by
  cases h with
  | str z => exact ⟨z, rfl, rfl⟩
  | _ => cases e
theorem ok_lterm1 {fd fdA fdN fdW : FuncData} {k kf ka : Nat} {domf dom : PyData → Prop} {f g : PyData → Bool} (T : Tb mg) (D : Df K mg "_law_is_term" s__law_is_term P__law_is_term fd) (D__law_are_terms : Df K mg "_law_are_terms" s__law_are_terms P__law_are_terms fdA)
    (D__law_is_name : Df K mg "_law_is_name" s__law_is_name P__law_is_name fdN) (D__law_is_word : Df K mg "_law_is_word" s__law_is_word P__law_is_word fdW)
    (G__law_is_name : FnOk P w K mg base CX0 2 (He.fAd K ("_law_is_name", none)) fdN P__law_is_name (spLn K)) (G__law_is_word : FnOk P w K mg base CX0 1 (He.fAd K ("_law_is_word", none)) fdW P__law_is_word (spW K))
    (h6 : 6 ≤ k) (hf : kf ≤ k) (hk : ka ≤ k) (G__law_is_term : FnOk P w K mg base CX0 kf (He.fAd K ("_law_is_term", none)) fd P__law_is_term (spC Tl domf f))
    (G__law_are_terms : FnOk P w K mg base CX0 ka (He.fAd K ("_law_are_terms", none)) fdA P__law_are_terms (spC Tl dom g)) :
    FnOk P w K mg base CX0 (k + 1) (He.fAd K ("_law_is_term", none)) fd P__law_is_term (spC Tl (fun d => Sub domf d ∧ Sub dom d) (termT f g)) := by
  have D__law_is_term := D
  refine (fun_of D.F).ok sc__law_is_term (fun vs H Q E h => ?_) (fun cdv A outer s H vs Q E hr h => ?_)
  · obtain ⟨M, x, d, rfl, _⟩ := h
    rfl
  · obtain ⟨M, x, d, rfl, hx, ha, ⟨hsh, hd1, hd2⟩, ht, q⟩ := h
    refine ⟨_, (pss_cons (ps_if (PW.pt (pw_or (pt_not (pt_val (pe_callB call_isi (by rfl) T.isinstance (by decide +kernel) (pa_cons (pv 0) (pa_cons (pe_bltn (v := .ty "tuple") (by rfl) T.tuple (by decide +kernel) rfl) pa_nil))))) (pw_or (pt_cmpR (op_eqE hr) (pv 0) (pe_tup pa_nil) (nomark _)) (pw_or1 (pt_not (pt_val (pe_callB call_isi (by rfl) T.isinstance (by decide +kernel) (pa_cons (pe_ix ix_tup (pv 0) pe_int (fun _ _ => rfl)) (pa_cons (pe_bltn (v := .ty "str") (by rfl) T.str (by decide +kernel) rfl) pa_nil))))))))) (pss_one (ps_ret pe_bl)) pss_nil)
      (pss_cons (ps_if (PW.pt (pw_and (pt_cmpR op_eq (pe_ix ix_tup (pv 0) pe_int (fun _ _ => rfl)) pe_str (nomark _)) (pw_and1 (pt_cmpR op_eq (pe_callB call_len (by rfl) T.len (by decide +kernel) (pa_cons (pv 0) pa_nil)) pe_int (nomark _))))) (pss_one (ps_ret (pe_call G__law_is_name (hr.mono (by first | decide | omega)) (by rfl) D__law_is_name.g D__law_is_name.F.kp D__law_is_name.b .nil pass0 (pa_cons (pe_ix ix_tup (pv 0) pe_int (fun _ _ => rfl)) pa_nil)))) pss_nil)
      (pss_cons (ps_if (PW.pt (pw_and (pt_cmpR op_eq (pe_ix ix_tup (pv 0) pe_int (fun _ _ => rfl)) pe_str (nomark _)) (pw_and1 (pt_cmpR op_eq (pe_callB call_len (by rfl) T.len (by decide +kernel) (pa_cons (pv 0) pa_nil)) pe_int (nomark _))))) (pss_one (ps_ret (pe_call G__law_is_word (hr.mono (by first | decide | omega)) (by rfl) D__law_is_word.g D__law_is_word.F.kp D__law_is_word.b .nil pass0 (pa_cons (pe_ix ix_tup (pv 0) pe_int (fun _ _ => rfl)) pa_nil)))) pss_nil)
      (pss_cons (ps_if (PW.pt (pw_and (pt_cmpR op_eq (pe_ix ix_tup (pv 0) pe_int (fun _ _ => rfl)) pe_str (nomark _)) (pw_and1 (pt_cmpR op_eq (pe_callB call_len (by rfl) T.len (by decide +kernel) (pa_cons (pv 0) pa_nil)) pe_int (nomark _))))) (pss_one (ps_ret (pe_and (pe_call G__law_is_term (hr.mono (by first | decide | omega)) (by rfl) D__law_is_term.g D__law_is_term.F.kp D__law_is_term.b .nil pass0 (pa_cons (pe_ix ix_tup (pv 0) pe_int (fun _ _ => rfl)) pa_nil)) (pe_and (pe_callB call_isi (by rfl) T.isinstance (by decide +kernel) (pa_cons (pe_ix ix_tup (pv 0) pe_int (fun _ _ => rfl)) (pa_cons (pe_bltn (v := .ty "str") (by rfl) T.str (by decide +kernel) rfl) pa_nil))) (pe_one (pe_cmpR (op_inT (k := 4) (hr.mono (by first | decide | omega)) M) (pe_ix ix_tup (pv 0) pe_int (fun _ _ => rfl)) (pe_tup (pa_cons pe_str (pa_cons pe_str pa_nil))) (by rfl))))))) pss_nil)
      (pss_cons (ps_if (PW.pt (pw_and (pt_cmpR op_eq (pe_ix ix_tup (pv 0) pe_int (fun _ _ => rfl)) pe_str (nomark _)) (pw_and1 (pt_cmpR op_eq (pe_callB call_len (by rfl) T.len (by decide +kernel) (pa_cons (pv 0) pa_nil)) pe_int (nomark _))))) (pss_one (ps_ret (pe_call G__law_is_term (hr.mono (by first | decide | omega)) (by rfl) D__law_is_term.g D__law_is_term.F.kp D__law_is_term.b .nil pass0 (pa_cons (pe_ix ix_tup (pv 0) pe_int (fun _ _ => rfl)) pa_nil)))) pss_nil)
      (pss_cons (ps_if (PW.pt (pw_or (pt_cmpR op_ne (pe_ix ix_tup (pv 0) pe_int (fun _ _ => rfl)) pe_str (nomark _)) (pw_or1 (pt_cmpR op_ne (pe_callB call_len (by rfl) T.len (by decide +kernel) (pa_cons (pv 0) pa_nil)) pe_int (nomark _))))) (pss_one (ps_ret pe_bl)) pss_nil)
      (pss_one (ps_ret (pe_and (pe_call G__law_is_name (hr.mono (by first | decide | omega)) (by rfl) D__law_is_name.g D__law_is_name.F.kp D__law_is_name.b .nil pass0 (pa_cons (pe_ix ix_tup (pv 0) pe_int (fun _ _ => rfl)) pa_nil)) (pe_and (pe_call G__law_are_terms (hr.mono (by first | decide | omega)) (by rfl) D__law_are_terms.g D__law_are_terms.F.kp D__law_are_terms.b .nil pass0 (pa_cons (pe_ix ix_tup (pv 0) pe_int (fun _ _ => rfl)) pa_nil)) (pe_one (pe_call G__law_are_terms (hr.mono (by first | decide | omega)) (by rfl) D__law_are_terms.g D__law_are_terms.F.kp D__law_are_terms.b .nil pass0 (pa_cons (pe_ix ix_tup (pv 0) pe_int (fun _ _ => rfl)) pa_nil))))))))))))), ?_⟩
    obtain ⟨t0, ht1, ht2⟩ := Dx.isaT (K := K) hx
    refine ⟨x, rfl, x, _, .type t0, _, _, rfl, .ty "tuple", ht1, kit_ty ht2, _, rfl, ?_⟩
    cases d with
    | tuple ys =>
      obtain ⟨a, xs, rfl, e, r⟩ := Dx.tupOf hx
      refine ⟨_, rfl, Nat.zero_le _, fun p np => ?_⟩
      have lp : Lk M Tl H (upd H p (.tup [])) := Lk.new np
      have hp : (upd H p (.tup [])) p = some (.tup []) := upd_same
      generalize upd H p (.tup []) = H1 at lp hp
      have e1 := lp.k.tp _ _ e
      have r1 := Dx.kpAll lp.k _ _ r
      have t1 := lp.t ht
      refine ⟨a, p, xs, rfl, rfl, .inr ⟨SqT.of e1, SqT.of hp⟩, _, rfl, ?_⟩
      match xs, ys, r, r1, e1, e, hx, ha, hsh, hd1, hd2, q with
      | [], [], r, r1, e1, e, hx, ha, hsh, hd1, hd2, q => exact q _ lp
      | v0 :: vr, k0 :: kr, r, r1, e1, e, hx, ha, hsh, hd1, hd2, q =>
        have hk0 : Dx M H1 v0 k0 := by cases r1 with | cons h _ => exact h
        obtain ⟨t0, ht1, ht2⟩ := Dx.isa (K := K) hk0
        refine ⟨_, rfl, a, _, 0, v0, rfl, rfl, SqT.of e1, atI_nat (j := 0) rfl, v0, _, .type t0, _, _, rfl, .ty "str", ht1, kit_ty ht2, _, rfl, ?_⟩
        cases hS : isS v0 with
        | false =>
          have kn : ∀ z, kindIs z k0 = false := fun z => by
            cases hk0 with
            | str _ => cases hS
            | _ => rfl
          rw [termT_none (kn _) (kn _) (kn _) (kn _) (kn _)] at q
          exact q _ lp
        | true =>
          obtain ⟨z, rfl, rfl⟩ := isS_of hk0 hS
          have hlen : (V.str z :: vr).length = kr.length + 1 := by
            rw [DxAll.length r]
            rfl
          refine ⟨_, rfl, a, _, 0, .str z, rfl, rfl, SqT.of e1, atI_nat (j := 0) rfl, rfl, _, rfl, and2 (decide ((V.str z :: vr).length = 2)) (fun _ h => ⟨_, rfl, _, (V.str z :: vr).length, rfl, .inr ⟨_, SqT.of e1, rfl⟩, rfl, _, congrArg V.bl (decV _ 2), h⟩) (fun h1 h2 => ?_) (fun g1 => ?_)⟩
          · rw [str_dec] at h1
            have ez := of_decide_eq_true h1
            subst ez
            rw [termT_name] at q
            obtain ⟨a0, a1, b0, b1, e3, e4, x0, x1⟩ := len2 r1 (of_decide_eq_true h2)
            cases e3
            cases e4
            refine ⟨_, rfl, a, _, 1, a1, rfl, rfl, SqT.of e1, rfl, a1, rfl, Dx.sv x1 (ha.tup (by simp)).ascD, fun H' s => ?_⟩
            rw [nameV_of x1]
            exact q H' (lp.trans (.same s))
          refine ⟨_, rfl, a, _, 0, .str z, rfl, rfl, SqT.of e1, atI_nat (j := 0) rfl, rfl, _, rfl, and2 (decide ((V.str z :: vr).length = 2)) (fun _ h => ⟨_, rfl, _, (V.str z :: vr).length, rfl, .inr ⟨_, SqT.of e1, rfl⟩, rfl, _, congrArg V.bl (decV _ 2), h⟩) (fun h1 h2 => ?_) (fun g2 => ?_)⟩
          · rw [str_dec] at h1
            have ez := of_decide_eq_true h1
            subst ez
            rw [termT_word] at q
            obtain ⟨a0, a1, b0, b1, e3, e4, x0, x1⟩ := len2 r1 (of_decide_eq_true h2)
            cases e3
            cases e4
            refine ⟨_, rfl, a, _, 1, a1, rfl, rfl, SqT.of e1, rfl, a1, rfl, Dx.sv x1 (ha.tup (by simp)).ascD, fun H' s => ?_⟩
            rw [wordV_of x1]
            exact q H' (lp.trans (.same s))
          refine ⟨_, rfl, a, _, 0, .str z, rfl, rfl, SqT.of e1, atI_nat (j := 0) rfl, rfl, _, rfl, and2 (decide ((V.str z :: vr).length = 3)) (fun _ h => ⟨_, rfl, _, (V.str z :: vr).length, rfl, .inr ⟨_, SqT.of e1, rfl⟩, rfl, _, congrArg V.bl (decV _ 3), h⟩) (fun h1 h2 => ?_) (fun g3 => ?_)⟩
          · rw [str_dec] at h1
            have ez := of_decide_eq_true h1
            subst ez
            rw [termT_put] at q
            obtain ⟨a0, a1, a2, b0, b1, b2, e3, e4, x0, x1, x2⟩ := len3 r1 (of_decide_eq_true h2)
            cases e3
            cases e4
            replace q : ∀ H', Lk M Tl H H' → Q (.bl (f b1 && bitD b2)) H' := q
            refine ⟨_, rfl, a, _, 1, a1, rfl, rfl, SqT.of e1, rfl, M, a1, b1, rfl, x1, ha.tup (by simp), ⟨hsh.tup (by simp), hd1 _ rfl _ (by simp)⟩, t1, fun H2 l2 => ⟨_, rfl, ite2 (fun hb => ?_) (fun hb => ?_)⟩⟩
            · rw [hb, Bool.true_and] at q
              have l12 := lp.trans l2
              have e2 := l2.k.tp _ _ e1
              have x2' := Dx.kp l2.k _ _ x2
              obtain ⟨t0, ht1, ht2⟩ := Dx.isa (K := K) x2'
              refine ⟨_, rfl, a, _, 2, a2, rfl, rfl, SqT.of e2, rfl, a2, _, .type t0, _, _, rfl, .ty "str", ht1, kit_ty ht2, _, rfl, ?_⟩
              cases hS2 : isS a2 with
              | false =>
                have eb : bitD b2 = false := by
                  cases x2 with
                  | str _ => cases hS2
                  | _ => rfl
                rw [eb] at q
                exact q _ l12
              | true =>
                refine ⟨_, rfl, a, _, 2, a2, rfl, rfl, SqT.of e2, rfl, by show 2 ≤ sizeLine; decide, fun p2 np2 => ⟨b2, p2, ["0", "1"], Dx.kp (Kp.same (same_new np2)) _ _ x2', rfl, SqT.of upd_same, ?_⟩⟩
                rw [bit_any x2']
                exact q _ (l12.trans (Lk.new np2))
            · rw [show f b1 = false by simpa using hb, Bool.false_and] at q
              exact q _ (lp.trans l2)
          refine ⟨_, rfl, a, _, 0, .str z, rfl, rfl, SqT.of e1, atI_nat (j := 0) rfl, rfl, _, rfl, and2 (decide ((V.str z :: vr).length = 2)) (fun _ h => ⟨_, rfl, _, (V.str z :: vr).length, rfl, .inr ⟨_, SqT.of e1, rfl⟩, rfl, _, congrArg V.bl (decV _ 2), h⟩) (fun h1 h2 => ?_) (fun g4 => ?_)⟩
          · rw [str_dec] at h1
            have ez := of_decide_eq_true h1
            subst ez
            rw [termT_cut] at q
            obtain ⟨a0, a1, b0, b1, e3, e4, x0, x1⟩ := len2 r1 (of_decide_eq_true h2)
            cases e3
            cases e4
            exact ⟨_, rfl, a, _, 1, a1, rfl, rfl, SqT.of e1, rfl, M, a1, b1, rfl, x1, ha.tup (by simp), ⟨hsh.tup (by simp), hd1 _ rfl _ (by simp)⟩, t1, fun H' l => q H' (lp.trans l)⟩
          refine ⟨_, rfl, a, _, 0, .str z, rfl, rfl, SqT.of e1, atI_nat (j := 0) rfl, rfl, _, rfl, or2 (!decide ((V.str z :: vr).length = 4)) (fun _ h => ⟨_, rfl, _, (V.str z :: vr).length, rfl, .inr ⟨_, SqT.of e1, rfl⟩, rfl, _, congrArg V.bl (congrArg not (decV _ 4)), h⟩) (fun h => ?_) (fun h1 h2 => ?_)⟩
          · have no : ∀ {y : Str} {n : Nat}, (decide (V.str z = V.str y) = true → decide ((V.str z :: vr).length = n + 1) = true → False) → z = y → kr.length = n → False := fun {y n} h e1 e2 =>
              h (by rw [str_dec]; exact decide_eq_true e1) (decide_eq_true (by rw [hlen, e2]))
            rw [termT_no (no (n := 1) g1) (no (n := 1) g2) (no (n := 2) g3) (no (n := 1) g4) (fun ez er => ?_)] at q
            · exact q _ lp
            · rcases h with h | h
              · rw [ez] at h
                simp at h
              · rw [show decide ((V.str z :: vr).length = 4) = true from decide_eq_true (by rw [hlen, er])] at h
                cases h
          · have ez : z = "call" := by
              have h3 : decide (V.str z = V.str "call") = true := by simpa using h1
              rw [str_dec] at h3
              exact of_decide_eq_true h3
            subst ez
            rw [termT_call] at q
            obtain ⟨a0, a1, a2, a3, b0, b1, b2, b3, e3, e4, x0, x1, x2, x3⟩ := len4 r1 (of_decide_eq_true (by simpa using h2))
            cases e3
            cases e4
            replace q : ∀ H', Lk M Tl H H' → Q (.bl (nameD b1 && (g b2 && g b3))) H' := q
            refine ⟨_, rfl, a, _, 1, a1, rfl, rfl, SqT.of e1, rfl, a1, rfl, Dx.sv x1 (ha.tup (by simp)).ascD, fun H2 s => ⟨_, rfl, ?_⟩⟩
            rw [nameV_of x1]
            have l2 : Lk M Tl H H2 := lp.trans (.same s)
            refine ite2 (fun hb => ?_) (fun hb => ?_)
            · rw [hb, Bool.true_and] at q
              refine ⟨_, rfl, a, _, 2, a2, rfl, rfl, SqT.of (s _ _ e1), rfl, M, a2, b2, rfl, Dx.kp (.same s) _ _ x2, ha.tup (by simp), ⟨hsh.tup (by simp), hd2 _ rfl _ (by simp)⟩, l2.t ht, fun H3 l3 => ⟨_, rfl, ite2 (fun hb => ?_) (fun hb => ?_)⟩⟩
              · rw [hb, Bool.true_and] at q
                have l23 := l2.trans l3
                exact ⟨_, rfl, a, _, 3, a3, rfl, rfl, SqT.of (l3.k.tp _ _ (s _ _ e1)), rfl, M, a3, b3, rfl, Dx.kp ((Kp.same s).trans l3.k) _ _ x3, ha.tup (by simp), ⟨hsh.tup (by simp), hd2 _ rfl _ (by simp)⟩, l23.t ht, fun H4 l4 => q H4 (l23.trans l4)⟩
              · rw [show g b2 = false by simpa using hb, Bool.false_and] at q
                exact q _ (l2.trans l3)
            · rw [show nameD b1 = false by simpa using hb, Bool.false_and] at q
              exact q _ l2
    | _ => exact q H (.refl _ _ _)
/-- what the head tells of the law's looks -/
structure Lw (K : PySem.W.Frag) (mg : Str → Option Value) where
  fl : Str → FuncData
  d_words : Df K mg "_law_words" s__law_words P__law_words (fl "_law_words")
  d_word : Df K mg "_law_is_word" s__law_is_word P__law_is_word (fl "_law_is_word")
  d_name : Df K mg "_law_is_name" s__law_is_name P__law_is_name (fl "_law_is_name")
  d_names : Df K mg "_law_are_names" s__law_are_names P__law_are_names (fl "_law_are_names")
  d_terms : Df K mg "_law_are_terms" s__law_are_terms P__law_are_terms (fl "_law_are_terms")
  d_term : Df K mg "_law_is_term" s__law_is_term P__law_is_term (fl "_law_is_term")
  d_block : Df K mg "_law_is_block" s__law_is_block P__law_is_block (fl "_law_is_block")
  d_cmd : Df K mg "_law_is_command" s__law_is_command P__law_is_command (fl "_law_is_command")
  d_fun : Df K mg "_law_is_function" s__law_is_function P__law_is_function (fl "_law_is_function")
  d_tree : Df K mg "_law_is_tree" s__law_is_tree P__law_is_tree (fl "_law_is_tree")
theorem Lw.word (l : Lw K mg) (T : Tb mg) : FnOk P w K mg base CX0 1 (He.fAd K ("_law_is_word", none)) (l.fl "_law_is_word") P__law_is_word (spW K) := ok_lw T l.d_word
theorem Lw.name (l : Lw K mg) (T : Tb mg) : FnOk P w K mg base CX0 2 (He.fAd K ("_law_is_name", none)) (l.fl "_law_is_name") P__law_is_name (spLn K) := ok_ln T l.d_name l.d_words
theorem Lw.names (l : Lw K mg) (T : Tb mg) : FnOk P w K mg base CX0 5 (He.fAd K ("_law_are_names", none)) (l.fl "_law_are_names") P__law_are_names (spC Tl (fun _ => True) (allT nameD)) := ok_lnames T l.d_names l.d_name (l.name T)
theorem lok_none {k : Nat} {fa : Addr} {fd : FuncData} {ps : List Str} {f : PyData → Bool} : FnOk P w K mg base CX0 k fa fd ps (spC Tl (fun _ => False) f) :=
  ok_no.imp fun vs H Q E ⟨_, _, _, _, _, _, hf, _⟩ => hf.2.elim
theorem spC_imp {dom dom' : PyData → Prop} {f f' : PyData → Bool} (h : ∀ d, dom' d → dom d ∧ f d = f' d) : ∀ vs H Q E, spC Tl dom' f' vs H Q E → spC Tl dom f vs H Q E :=
  spB_imp fun d hd => ⟨⟨hd.1, (h d hd.2).1⟩, (h d hd.2).2⟩
theorem Lw.term (l : Lw K mg) (T : Tb mg) : ∀ n : Nat, FnOk P w K mg base CX0 (2 * n + 7) (He.fAd K ("_law_is_term", none)) (l.fl "_law_is_term") P__law_is_term (spC Tl (fun d => d.depth ≤ n) (termB n))
  | 0 => by
    have A := ok_lall (Tl := Tl) T l.d_terms l.d_term (lok_none (f := fun _ => false) (k := 0)) (P := P) (w := w) (base := base)
    have F := ok_lterm1 (k := 6) T l.d_term l.d_terms l.d_name l.d_word (l.name T) (l.word T) (by omega) (by omega) (by omega) (lok_none (f := fun _ => false) (k := 0)) A
    refine F.imp (spC_imp fun d hd => ⟨⟨sub_zero hd, sub_zero hd⟩, ?_⟩)
    cases d with
    | tuple ys =>
      simp only [PyData.depth] at hd
      omega
    | _ => rfl
  | 1 => by
    have A := ok_lall (Tl := Tl) T l.d_terms l.d_term (lok_none (f := fun _ => false) (k := 0)) (P := P) (w := w) (base := base)
    have F := ok_lterm1 (k := 8) T l.d_term l.d_terms l.d_name l.d_word (l.name T) (l.word T) (by omega) (by omega) (by omega) (l.term T 0) A
    exact F.imp (spC_imp fun d hd => ⟨⟨sub_depth hd, (sub_depth hd).mono fun y hy => sub_zero hy⟩, rfl⟩)
  | n + 2 => by
    have A := ok_lall T l.d_terms l.d_term (l.term T n)
    have F := ok_lterm1 (k := 2 * n + 10) T l.d_term l.d_terms l.d_name l.d_word (l.name T) (l.word T) (by omega) (by omega) (by omega) (l.term T (n + 1)) A
    exact (F.imp (spC_imp fun d hd => ⟨⟨sub_depth hd, (sub_depth hd).mono fun y hy => sub_depth hy⟩, rfl⟩)).mono (by omega)
theorem Lw.terms (l : Lw K mg) (T : Tb mg) (n : Nat) : FnOk P w K mg base CX0 (2 * n + 10) (He.fAd K ("_law_are_terms", none)) (l.fl "_law_are_terms") P__law_are_terms (spC Tl (fun d => d.depth ≤ n + 1) (allT (termB n))) :=
  (ok_lall T l.d_terms l.d_term (l.term T n)).imp (spC_imp fun d hd => ⟨sub_depth hd, rfl⟩)
theorem ok_lblock {k : Nat} {dom : PyData → Prop} {f : PyData → Bool} (l : Lw K mg) (T : Tb mg)
    (G__law_is_command : FnOk P w K mg base CX0 k (He.fAd K ("_law_is_command", none)) (l.fl "_law_is_command") P__law_is_command (spC Tl dom f)) : FnOk P w K mg base CX0 (k + 3) (He.fAd K ("_law_is_block", none)) (l.fl "_law_is_block") P__law_is_block (spC Tl (Sub dom) (allT f)) := by
  have D__law_is_command := l.d_cmd
  refine (fun_of l.d_block.F).ok sc__law_is_block (fun vs H Q E h => ?_) (fun cdv A outer s H vs Q E hr h => ?_)
  · obtain ⟨M, x, d, rfl, _⟩ := h
    rfl
  · obtain ⟨M, x, d, rfl, hx, ha, ⟨hsh, hdm⟩, ht, q⟩ := h
    refine ⟨_, (pss_one (ps_ret (pe_and (pe_callB call_isi (by rfl) T.isinstance (by decide +kernel) (pa_cons (pv 0) (pa_cons (pe_bltn (v := .ty "tuple") (by rfl) T.tuple (by decide +kernel) rfl) pa_nil))) (pe_one (pe_cmpR (op_eqE hr) (pe_lc (own := [("_law_x", 1)]) (g := gName 1) (by rfl) sc__law_is_block.nd (pi_tup (pv 0)) (blkOk_by (own := [("_law_x", 1)]) (N := N__law_is_block) (sc := defScope s__law_is_block) (by decide +kernel)) (fun _ _ _ _ _ => (pg_name (i := 1) sc__law_is_block.nd rfl (.inl rfl))) (fun _ _ _ _ _ => (pts_one (pt_not (pt_val (pe_call G__law_is_command (hr.mono (by first | decide | omega)) (by rfl) D__law_is_command.g D__law_is_command.F.kp D__law_is_command.b .nil pass0 (pa_cons (pv 1) pa_nil)))))) (fun _ _ _ _ _ => (pv 1))) (pe_lst pa_nil) (nomark _)))))), ?_⟩
    obtain ⟨t0, ht1, ht2⟩ := Dx.isaT (K := K) hx
    refine ⟨x, rfl, x, _, .type t0, _, _, rfl, .ty "tuple", ht1, kit_ty ht2, _, rfl, ?_⟩
    cases d with
    | tuple ys =>
      obtain ⟨a, xs, rfl, e, r⟩ := Dx.tupOf hx
      refine ⟨_, rfl, a, rfl, ⟨xs, SqT.of e⟩, fun D nD => lc_look (i := 1) (f := f) (by show 1 < 2; decide) nD e r ht (lk_len (a := a) hsh.len r) (fun x y H R hy hxy t3 hR => ?_) (fun H acc lk hD hem => ?_)⟩
      · exact ⟨_, rfl, _, x, y, rfl, hxy, ha.tup hy, ⟨hsh.tup hy, hdm ys rfl y hy⟩, t3, fun H' l => ⟨_, rfl, hR H' l⟩⟩
      · refine ⟨Nat.zero_le _, fun p np => ⟨D, p, acc, rfl, rfl, .inl ⟨SqL.of (emp_new hD np), SqL.of upd_same⟩, ?_⟩⟩
        rw [hem]
        exact q _ (lk.trans (Lk.new np))
    | _ => exact q H (.refl _ _ _)
theorem cmdT_no {f g : PyData → Bool} {z : Str} {r : List PyData} (h1 : z = "let" → r.length = 2 → False) (h2 : z = "set" → r.length = 2 → False) (h3 : z = "when" → r.length = 4 → False) (h4 : z = "each" → r.length = 4 → False) : cmdT f g (.tuple (.str z :: r)) = false := by
  have n : ∀ {y : Str}, (z = y → False) → kindIs y (.str z) = false := fun {y} h => beq_eq_false_iff_ne.mpr h
  match r with
  | [] => rfl
  | [_] => rfl
  | [a, b] =>
    show ((kindIs "let" (.str z) && (nameD a && f b)) || (kindIs "set" (.str z) && (allT nameD a && (nonE a && f b)))) = false
    rw [n fun e => h1 e rfl, n fun e => h2 e rfl]
    rfl
  | [_, _, _] => rfl
  | [a, b, c, d] =>
    show ((kindIs "when" (.str z) && (f a && (g b && (g c && g d)))) || (kindIs "each" (.str z) && ((nameD a && (nameD b && nameD c)) && g d))) = false
    rw [n fun e => h3 e rfl, n fun e => h4 e rfl]
    rfl
  | _ :: _ :: _ :: _ :: _ :: _ => rfl
theorem shTup {ys : List PyData} (hl : ys.length ≤ 16000000) (h : ∀ y ∈ ys, ShA y) : ShA (.tuple ys) := by
  unfold ShA
  refine ⟨hl, ?_⟩
  clear hl
  induction ys with
  | nil =>
    unfold ShL
    trivial
  | cons a r ih =>
    unfold ShL
    exact ⟨h a (List.mem_cons_self ..), ih fun y hy => h y (List.mem_cons_of_mem _ hy)⟩
theorem ok_lcmd1 {k kt kb : Nat} {domf dom : PyData → Prop} {f g : PyData → Bool} (l : Lw K mg) (T : Tb mg) (h6 : 8 ≤ k) (hf : kt ≤ k) (hk : kb ≤ k)
    (G__law_is_term : FnOk P w K mg base CX0 kt (He.fAd K ("_law_is_term", none)) (l.fl "_law_is_term") P__law_is_term (spC Tl domf f))
    (G__law_is_block : FnOk P w K mg base CX0 kb (He.fAd K ("_law_is_block", none)) (l.fl "_law_is_block") P__law_is_block (spC Tl dom g)) :
    FnOk P w K mg base CX0 (k + 1) (He.fAd K ("_law_is_command", none)) (l.fl "_law_is_command") P__law_is_command (spC Tl (fun d => Sub domf d ∧ Sub dom d) (cmdT f g)) := by
  have D__law_is_term := l.d_term
  have D__law_is_block := l.d_block
  have D__law_is_name := l.d_name
  have D__law_are_names := l.d_names
  have G__law_is_name : FnOk P w K mg base CX0 2 (He.fAd K ("_law_is_name", none)) (l.fl "_law_is_name") P__law_is_name (spLn K) := l.name T
  have G__law_are_names : FnOk P w K mg base CX0 5 (He.fAd K ("_law_are_names", none)) (l.fl "_law_are_names") P__law_are_names (spC Tl (fun _ => True) (allT nameD)) := l.names T
  refine (fun_of l.d_cmd.F).ok sc__law_is_command (fun vs H Q E h => ?_) (fun cdv A outer s H vs Q E hr h => ?_)
  · obtain ⟨M, x, d, rfl, _⟩ := h
    rfl
  · obtain ⟨M, x, d, rfl, hx, ha, ⟨hsh, hd1, hd2⟩, ht, q⟩ := h
    refine ⟨_, (pss_cons (ps_if (PW.pt (pw_or (pt_not (pt_val (pe_callB call_isi (by rfl) T.isinstance (by decide +kernel) (pa_cons (pv 0) (pa_cons (pe_bltn (v := .ty "tuple") (by rfl) T.tuple (by decide +kernel) rfl) pa_nil))))) (pw_or (pt_cmpR (op_eqE hr) (pv 0) (pe_tup pa_nil) (nomark _)) (pw_or1 (pt_not (pt_val (pe_callB call_isi (by rfl) T.isinstance (by decide +kernel) (pa_cons (pe_ix ix_tup (pv 0) pe_int (fun _ _ => rfl)) (pa_cons (pe_bltn (v := .ty "str") (by rfl) T.str (by decide +kernel) rfl) pa_nil))))))))) (pss_one (ps_ret pe_bl)) pss_nil)
      (pss_cons (ps_if (PW.pt (pw_and (pt_cmpR op_eq (pe_ix ix_tup (pv 0) pe_int (fun _ _ => rfl)) pe_str (nomark _)) (pw_and1 (pt_cmpR op_eq (pe_callB call_len (by rfl) T.len (by decide +kernel) (pa_cons (pv 0) pa_nil)) pe_int (nomark _))))) (pss_one (ps_ret (pe_and (pe_call G__law_is_name (hr.mono (by first | decide | omega)) (by rfl) D__law_is_name.g D__law_is_name.F.kp D__law_is_name.b .nil pass0 (pa_cons (pe_ix ix_tup (pv 0) pe_int (fun _ _ => rfl)) pa_nil)) (pe_one (pe_call G__law_is_term (hr.mono (by first | decide | omega)) (by rfl) D__law_is_term.g D__law_is_term.F.kp D__law_is_term.b .nil pass0 (pa_cons (pe_ix ix_tup (pv 0) pe_int (fun _ _ => rfl)) pa_nil)))))) pss_nil)
      (pss_cons (ps_if (PW.pt (pw_and (pt_cmpR op_eq (pe_ix ix_tup (pv 0) pe_int (fun _ _ => rfl)) pe_str (nomark _)) (pw_and1 (pt_cmpR op_eq (pe_callB call_len (by rfl) T.len (by decide +kernel) (pa_cons (pv 0) pa_nil)) pe_int (nomark _))))) (pss_one (ps_ret (pe_and (pe_call G__law_are_names (hr.mono (by first | decide | omega)) (by rfl) D__law_are_names.g D__law_are_names.F.kp D__law_are_names.b .nil pass0 (pa_cons (pe_ix ix_tup (pv 0) pe_int (fun _ _ => rfl)) pa_nil)) (pe_and (pe_cmpR (op_neE hr) (pe_ix ix_tup (pv 0) pe_int (fun _ _ => rfl)) (pe_tup pa_nil) (nomark _)) (pe_one (pe_call G__law_is_term (hr.mono (by first | decide | omega)) (by rfl) D__law_is_term.g D__law_is_term.F.kp D__law_is_term.b .nil pass0 (pa_cons (pe_ix ix_tup (pv 0) pe_int (fun _ _ => rfl)) pa_nil))))))) pss_nil)
      (pss_cons (ps_if (PW.pt (pw_and (pt_cmpR op_eq (pe_ix ix_tup (pv 0) pe_int (fun _ _ => rfl)) pe_str (nomark _)) (pw_and1 (pt_cmpR op_eq (pe_callB call_len (by rfl) T.len (by decide +kernel) (pa_cons (pv 0) pa_nil)) pe_int (nomark _))))) (pss_one (ps_ret (pe_and (pe_call G__law_is_term (hr.mono (by first | decide | omega)) (by rfl) D__law_is_term.g D__law_is_term.F.kp D__law_is_term.b .nil pass0 (pa_cons (pe_ix ix_tup (pv 0) pe_int (fun _ _ => rfl)) pa_nil)) (pe_one (pe_cmpR (op_eqE hr) (pe_lc (own := [("_law_x", 1)]) (g := gName 1) (by rfl) sc__law_is_command.nd (pi_tup (pe_slice sl_tup (pv 0) (po_some pe_int) po_none)) (blkOk_by (own := [("_law_x", 1)]) (N := N__law_is_command) (sc := defScope s__law_is_command) (by decide +kernel)) (fun _ _ _ _ _ => (pg_name (i := 1) sc__law_is_command.nd rfl (.inl rfl))) (fun _ _ _ _ _ => (pts_one (pt_not (pt_val (pe_call G__law_is_block (hr.mono (by first | decide | omega)) (by rfl) D__law_is_block.g D__law_is_block.F.kp D__law_is_block.b .nil pass0 (pa_cons (pv 1) pa_nil)))))) (fun _ _ _ _ _ => (pv 1))) (pe_lst pa_nil) (nomark _)))))) pss_nil)
      (pss_cons (ps_if (PW.pt (pw_or (pt_cmpR op_ne (pe_ix ix_tup (pv 0) pe_int (fun _ _ => rfl)) pe_str (nomark _)) (pw_or1 (pt_cmpR op_ne (pe_callB call_len (by rfl) T.len (by decide +kernel) (pa_cons (pv 0) pa_nil)) pe_int (nomark _))))) (pss_one (ps_ret pe_bl)) pss_nil)
      (pss_one (ps_ret (pe_and (pe_call G__law_are_names (hr.mono (by first | decide | omega)) (by rfl) D__law_are_names.g D__law_are_names.F.kp D__law_are_names.b .nil pass0 (pa_cons (pe_slice sl_tup (pv 0) (po_some pe_int) (po_some pe_int)) pa_nil)) (pe_one (pe_call G__law_is_block (hr.mono (by first | decide | omega)) (by rfl) D__law_is_block.g D__law_is_block.F.kp D__law_is_block.b .nil pass0 (pa_cons (pe_ix ix_tup (pv 0) pe_int (fun _ _ => rfl)) pa_nil))))))))))), ?_⟩
    obtain ⟨t0, ht1, ht2⟩ := Dx.isaT (K := K) hx
    refine ⟨x, rfl, x, _, .type t0, _, _, rfl, .ty "tuple", ht1, kit_ty ht2, _, rfl, ?_⟩
    cases d with
    | tuple ys =>
      obtain ⟨a, xs, rfl, e, r⟩ := Dx.tupOf hx
      refine ⟨_, rfl, Nat.zero_le _, fun p np => ?_⟩
      have lp : Lk M Tl H (upd H p (.tup [])) := Lk.new np
      have hp : (upd H p (.tup [])) p = some (.tup []) := upd_same
      generalize upd H p (.tup []) = H1 at lp hp
      have e1 := lp.k.tp _ _ e
      have r1 := Dx.kpAll lp.k _ _ r
      have t1 := lp.t ht
      refine ⟨a, p, xs, rfl, rfl, .inr ⟨SqT.of e1, SqT.of hp⟩, _, rfl, ?_⟩
      match xs, ys, r, r1, e1, e, hx, ha, hsh, hd1, hd2, q with
      | [], [], r, r1, e1, e, hx, ha, hsh, hd1, hd2, q => exact q _ lp
      | v0 :: vr, k0 :: kr, r, r1, e1, e, hx, ha, hsh, hd1, hd2, q =>
        have hk0 : Dx M H1 v0 k0 := by cases r1 with | cons h _ => exact h
        obtain ⟨t0, ht1, ht2⟩ := Dx.isa (K := K) hk0
        refine ⟨_, rfl, a, _, 0, v0, rfl, rfl, SqT.of e1, atI_nat (j := 0) rfl, v0, _, .type t0, _, _, rfl, .ty "str", ht1, kit_ty ht2, _, rfl, ?_⟩
        cases hS : isS v0 with
        | false =>
          have kn : ∀ z, kindIs z k0 = false := fun z => by
            cases hk0 with
            | str _ => cases hS
            | _ => rfl
          rw [cmdT_none (kn _) (kn _) (kn _) (kn _)] at q
          exact q _ lp
        | true =>
          obtain ⟨z, rfl, rfl⟩ := isS_of hk0 hS
          have hlen : (V.str z :: vr).length = kr.length + 1 := by
            rw [DxAll.length r]
            rfl
          refine ⟨_, rfl, a, _, 0, .str z, rfl, rfl, SqT.of e1, atI_nat (j := 0) rfl, rfl, _, rfl, and2 (decide ((V.str z :: vr).length = 3)) (fun _ h => ⟨_, rfl, _, (V.str z :: vr).length, rfl, .inr ⟨_, SqT.of e1, rfl⟩, rfl, _, congrArg V.bl (decV _ 3), h⟩) (fun h1 h2 => ?_) (fun g1 => ?_)⟩
          · rw [str_dec] at h1
            have ez := of_decide_eq_true h1
            subst ez
            rw [cmdT_let] at q
            obtain ⟨a0, a1, a2, b0, b1, b2, e3, e4, x0, x1, x2⟩ := len3 r1 (of_decide_eq_true h2)
            cases e3
            cases e4
            replace q : ∀ H', Lk M Tl H H' → Q (.bl (nameD b1 && f b2)) H' := q
            refine ⟨_, rfl, a, _, 1, a1, rfl, rfl, SqT.of e1, rfl, a1, rfl, Dx.sv x1 (ha.tup (by simp)).ascD, fun H2 s => ⟨_, rfl, ?_⟩⟩
            rw [nameV_of x1]
            have l2 : Lk M Tl H H2 := lp.trans (.same s)
            refine ite2 (fun hb => ?_) (fun hb => ?_)
            · rw [hb, Bool.true_and] at q
              exact ⟨_, rfl, a, _, 2, a2, rfl, rfl, SqT.of (s _ _ e1), rfl, M, a2, b2, rfl, Dx.kp (.same s) _ _ x2, ha.tup (by simp), ⟨hsh.tup (by simp), hd1 _ rfl _ (by simp)⟩, l2.t ht, fun H3 l3 => q H3 (l2.trans l3)⟩
            · rw [show nameD b1 = false by simpa using hb, Bool.false_and] at q
              exact q _ l2
          refine ⟨_, rfl, a, _, 0, .str z, rfl, rfl, SqT.of e1, atI_nat (j := 0) rfl, rfl, _, rfl, and2 (decide ((V.str z :: vr).length = 3)) (fun _ h => ⟨_, rfl, _, (V.str z :: vr).length, rfl, .inr ⟨_, SqT.of e1, rfl⟩, rfl, _, congrArg V.bl (decV _ 3), h⟩) (fun h1 h2 => ?_) (fun g2 => ?_)⟩
          · rw [str_dec] at h1
            have ez := of_decide_eq_true h1
            subst ez
            rw [cmdT_set] at q
            obtain ⟨a0, a1, a2, b0, b1, b2, e3, e4, x0, x1, x2⟩ := len3 r1 (of_decide_eq_true h2)
            cases e3
            cases e4
            replace q : ∀ H', Lk M Tl H H' → Q (.bl (allT nameD b1 && (nonE b1 && f b2))) H' := q
            refine ⟨_, rfl, a, _, 1, a1, rfl, rfl, SqT.of e1, rfl, M, a1, b1, rfl, x1, ha.tup (by simp), ⟨hsh.tup (by simp), trivial⟩, t1, fun H2 l2 => ⟨_, rfl, ite2 (fun hb => ?_) (fun hb => ?_)⟩⟩
            · rw [hb, Bool.true_and] at q
              have l12 := lp.trans l2
              have e2 := l2.k.tp _ _ e1
              cases b1 with
              | tuple ns =>
                obtain ⟨c, ws, rfl, ec, rc⟩ := Dx.tupOf (Dx.kp l2.k _ _ x1)
                refine ⟨_, rfl, a, _, 1, .ref c, rfl, rfl, SqT.of e2, rfl, Nat.zero_le _, fun p2 np2 => ⟨c, p2, ws, rfl, rfl, .inr ⟨SqT.of (by rw [upd_ne (ne_of_none ec np2)]; exact ec), SqT.of upd_same⟩, _, rfl, ?_⟩⟩
                have l3 : Lk M Tl H2 (upd H2 p2 (.tup [])) := Lk.new np2
                have en : (!ws.isEmpty) = nonE (.tuple ns) := by
                  have hl := DxAll.length rc
                  cases ns <;> cases ws <;> first | rfl | cases hl
                rw [en]
                refine ite2 (fun hn => ?_) (fun hn => ?_)
                · rw [hn, Bool.true_and] at q
                  have l13 := l12.trans l3
                  exact ⟨_, rfl, a, _, 2, a2, rfl, rfl, SqT.of (l3.k.tp _ _ e2), rfl, M, a2, b2, rfl, Dx.kp (l2.k.trans l3.k) _ _ x2, ha.tup (by simp), ⟨hsh.tup (by simp), hd1 _ rfl _ (by simp)⟩, l13.t ht, fun H3 l4 => q H3 (l13.trans l4)⟩
                · rw [show nonE (.tuple ns) = false by simpa using hn, Bool.false_and] at q
                  exact q _ (l12.trans l3)
              | _ => cases hb
            · rw [show allT nameD b1 = false by simpa using hb, Bool.false_and] at q
              exact q _ (lp.trans l2)
          refine ⟨_, rfl, a, _, 0, .str z, rfl, rfl, SqT.of e1, atI_nat (j := 0) rfl, rfl, _, rfl, and2 (decide ((V.str z :: vr).length = 5)) (fun _ h => ⟨_, rfl, _, (V.str z :: vr).length, rfl, .inr ⟨_, SqT.of e1, rfl⟩, rfl, _, congrArg V.bl (decV _ 5), h⟩) (fun h1 h2 => ?_) (fun g3 => ?_)⟩
          · rw [str_dec] at h1
            have ez := of_decide_eq_true h1
            subst ez
            rw [cmdT_when] at q
            obtain ⟨a0, a1, a2, a3, a4, b0, b1, b2, b3, b4, e3, e4, x0, x1, x2, x3, x4⟩ := len5 r1 (of_decide_eq_true h2)
            cases e3
            cases e4
            replace q : ∀ H', Lk M Tl H H' → Q (.bl (f b1 && (g b2 && (g b3 && g b4)))) H' := q
            refine ⟨_, rfl, a, _, 1, a1, rfl, rfl, SqT.of e1, rfl, M, a1, b1, rfl, x1, ha.tup (by simp), ⟨hsh.tup (by simp), hd1 _ rfl _ (by simp)⟩, t1, fun H2 l2 => ⟨_, rfl, ite2 (fun hb => ?_) (fun hb => ?_)⟩⟩
            · rw [hb, Bool.true_and] at q
              have l12 := lp.trans l2
              have e2 := l2.k.tp _ _ e1
              have al2 : ([b2, b3, b4] : List PyData).all g = (g b2 && (g b3 && g b4)) := by simp
              rw [← al2] at q
              refine ⟨_, rfl, 2, rfl, a, _, rfl, SqT.of e2, (by show ¬ (HT.sIx 5 0 (some 2) = 0 ∧ HT.sIx 5 5 none = 5); decide), fun p2 np2 => ⟨p2, rfl, ⟨_, SqT.of upd_same⟩, fun D nD => ?_⟩⟩
              have l3 : Lk M Tl H2 (upd H2 p2 (.tup [a2, a3, a4])) := Lk.new np2
              have l13 := l12.trans l3
              have kk := l2.k.trans l3.k
              refine lc_look (M := M) (Tl := Tl) (i := 1) (a := p2) (xs := [a2, a3, a4]) (ys := [b2, b3, b4]) (f := g) (by show 1 < 2; decide) nD upd_same (.cons (Dx.kp kk _ _ x2) (.cons (Dx.kp kk _ _ x3) (.cons (Dx.kp kk _ _ x4) .nil))) (l13.t ht) (by show 3 < sizeLine; decide) (fun x y H R hy hxy t3 hR => ?_) (fun H acc lk hD hem => ?_)
              · have hm : y ∈ [PyData.str "when", b1, b2, b3, b4] := List.mem_cons_of_mem _ (List.mem_cons_of_mem _ hy)
                exact ⟨_, rfl, _, x, y, rfl, hxy, ha.tup hm, ⟨hsh.tup hm, hd2 _ rfl y hm⟩, t3, fun H' l => ⟨_, rfl, hR H' l⟩⟩
              · refine ⟨Nat.zero_le _, fun p np => ⟨D, p, acc, rfl, rfl, .inl ⟨SqL.of (emp_new hD np), SqL.of upd_same⟩, ?_⟩⟩
                rw [hem]
                exact q _ (l13.trans (lk.trans (Lk.new np)))
            · rw [show f b1 = false by simpa using hb, Bool.false_and] at q
              exact q _ (lp.trans l2)
          refine ⟨_, rfl, a, _, 0, .str z, rfl, rfl, SqT.of e1, atI_nat (j := 0) rfl, rfl, _, rfl, or2 (!decide ((V.str z :: vr).length = 5)) (fun _ h => ⟨_, rfl, _, (V.str z :: vr).length, rfl, .inr ⟨_, SqT.of e1, rfl⟩, rfl, _, congrArg V.bl (congrArg not (decV _ 5)), h⟩) (fun h => ?_) (fun h1 h2 => ?_)⟩
          · have no : ∀ {y : Str} {n : Nat}, (decide (V.str z = V.str y) = true → decide ((V.str z :: vr).length = n + 1) = true → False) → z = y → kr.length = n → False := fun {y n} h e1 e2 =>
              h (by rw [str_dec]; exact decide_eq_true e1) (decide_eq_true (by rw [hlen, e2]))
            rw [cmdT_no (no (n := 2) g1) (no (n := 2) g2) (no (n := 4) g3) (fun ez er => ?_)] at q
            · exact q _ lp
            · rcases h with h | h
              · rw [ez] at h
                simp at h
              · rw [show decide ((V.str z :: vr).length = 5) = true from decide_eq_true (by rw [hlen, er])] at h
                cases h
          · have ez : z = "each" := by
              have h3 : decide (V.str z = V.str "each") = true := by simpa using h1
              rw [str_dec] at h3
              exact of_decide_eq_true h3
            subst ez
            rw [cmdT_each] at q
            obtain ⟨a0, a1, a2, a3, a4, b0, b1, b2, b3, b4, e3, e4, x0, x1, x2, x3, x4⟩ := len5 r1 (of_decide_eq_true (by simpa using h2))
            cases e3
            cases e4
            replace q : ∀ H', Lk M Tl H H' → Q (.bl ((nameD b1 && (nameD b2 && nameD b3)) && g b4)) H' := q
            have al2 : allT nameD (.tuple [b1, b2, b3]) = (nameD b1 && (nameD b2 && nameD b3)) := by simp [allT]
            rw [← al2] at q
            refine ⟨_, rfl, 1, rfl, 4, rfl, a, _, rfl, SqT.of e1, (by show ¬ (HT.sIx 5 0 (some 1) = 0 ∧ HT.sIx 5 5 (some 4) = 5); decide), fun p2 np2 => ?_⟩
            have l2 : Lk M Tl H1 (upd H1 p2 (.tup [a1, a2, a3])) := Lk.new np2
            have hm : ∀ y ∈ ([b1, b2, b3] : List PyData), y ∈ [PyData.str "each", b1, b2, b3, b4] := fun y hy => by
              simp only [List.mem_cons, List.not_mem_nil, or_false] at hy
              rcases hy with rfl | rfl | rfl <;> simp
            refine ⟨M, .ref p2, .tuple [b1, b2, b3], rfl, .tup upd_same (.cons (Dx.kp l2.k _ _ x1) (.cons (Dx.kp l2.k _ _ x2) (.cons (Dx.kp l2.k _ _ x3) .nil))), ascTup fun y hy => ha.tup (hm y hy), ⟨shTup (by show 3 ≤ 16000000; decide) fun y hy => hsh.tup (hm y hy), trivial⟩, l2.t t1, fun H3 l3 => ⟨_, rfl, ite2 (fun hn => ?_) (fun hn => ?_)⟩⟩
            · rw [hn, Bool.true_and] at q
              have l23 := l2.trans l3
              have l13 := lp.trans l23
              exact ⟨_, rfl, a, _, 4, a4, rfl, rfl, SqT.of (l23.k.tp _ _ e1), rfl, M, a4, b4, rfl, Dx.kp l23.k _ _ x4, ha.tup (by simp), ⟨hsh.tup (by simp), hd2 _ rfl _ (by simp)⟩, l13.t ht, fun H' l => q H' (l13.trans l)⟩
            · rw [show allT nameD (.tuple [b1, b2, b3]) = false by simpa using hn, Bool.false_and] at q
              exact q _ (lp.trans (l2.trans l3))
    | _ => exact q H (.refl _ _ _)
end
end KW


set_option Elab.async false
set_option linter.all false
set_option maxRecDepth 100000
set_option maxHeartbeats 4000000
/-! The law's own looks at functions and trees. -/
namespace KW2
open PySem PySem.Spec PyProof.Rows L2 KT KG KM KX KQ KE0 KA KB KC KP KP2 KW GxR
section
variable {P : Program} {w : World} {K : PySem.W.Frag} {mg : Str → Option Value} {base : Heap} {Tl : List Addr}
theorem _root_.KW.Lw.cmd (l : Lw K mg) (T : Tb mg) : ∀ n : Nat, FnOk P w K mg base CX0 (2 * n + 9) (He.fAd K ("_law_is_command", none)) (l.fl "_law_is_command") P__law_is_command (spC Tl (fun d => d.depth ≤ n) (cmdB n))
  | 0 => by
    have B := ok_lblock (Tl := Tl) l T (lok_none (f := fun _ => false) (k := 0)) (P := P) (w := w) (base := base)
    have F := ok_lcmd1 (k := 8) l T (by omega) (by omega) (by omega) (lok_none (f := fun _ => false) (k := 0)) B
    refine F.imp (spC_imp fun d hd => ⟨⟨sub_zero hd, sub_zero hd⟩, ?_⟩)
    cases d with
    | tuple ys =>
      simp only [PyData.depth] at hd
      omega
    | _ => rfl
  | 1 => by
    have B := ok_lblock (Tl := Tl) l T (lok_none (f := fun _ => false) (k := 0)) (P := P) (w := w) (base := base)
    have F := ok_lcmd1 (k := 10) l T (by omega) (by omega) (by omega) (l.term T 0) B
    exact F.imp (spC_imp fun d hd => ⟨⟨sub_depth hd, (sub_depth hd).mono fun y hy => sub_zero hy⟩, rfl⟩)
  | n + 2 => by
    have B := ok_lblock l T (l.cmd T n)
    have F := ok_lcmd1 (k := 2 * n + 12) l T (by omega) (by omega) (by omega) (l.term T (n + 1)) B
    exact (F.imp (spC_imp fun d hd => ⟨⟨sub_depth hd, (sub_depth hd).mono fun y hy => sub_depth hy⟩, rfl⟩)).mono (by omega)
theorem _root_.KW.Lw.block (l : Lw K mg) (T : Tb mg) (n : Nat) : FnOk P w K mg base CX0 (2 * n + 12) (He.fAd K ("_law_is_block", none)) (l.fl "_law_is_block") P__law_is_block (spC Tl (fun d => d.depth ≤ n + 1) (allT (cmdB n))) :=
  (ok_lblock l T (l.cmd T n)).imp (spC_imp fun d hd => ⟨sub_depth hd, rfl⟩)
theorem _root_.KW.Lw.fun_ (l : Lw K mg) (T : Tb mg) (n : Nat) : FnOk P w K mg base CX0 (2 * n + 14) (He.fAd K ("_law_is_function", none)) (l.fl "_law_is_function") P__law_is_function (spC Tl (fun d => d.depth ≤ n + 2) (funT (allT (cmdB n)) (termB n))) := by
  have D__law_is_block := l.d_block
  have D__law_are_terms := l.d_terms
  have D__law_is_name := l.d_name
  have D__law_are_names := l.d_names
  have G__law_is_name : FnOk P w K mg base CX0 2 (He.fAd K ("_law_is_name", none)) (l.fl "_law_is_name") P__law_is_name (spLn K) := l.name T
  have G__law_are_names : FnOk P w K mg base CX0 5 (He.fAd K ("_law_are_names", none)) (l.fl "_law_are_names") P__law_are_names (spC Tl (fun _ => True) (allT nameD)) := l.names T
  have G__law_is_block : FnOk P w K mg base CX0 (2 * n + 12) (He.fAd K ("_law_is_block", none)) (l.fl "_law_is_block") P__law_is_block (spC Tl (fun d => d.depth ≤ n + 1) (allT (cmdB n))) := l.block T n
  have G__law_are_terms : FnOk P w K mg base CX0 (2 * n + 10) (He.fAd K ("_law_are_terms", none)) (l.fl "_law_are_terms") P__law_are_terms (spC Tl (fun d => d.depth ≤ n + 1) (allT (termB n))) := l.terms T n
  refine (fun_of l.d_fun.F).ok (k := 2 * n + 13) sc__law_is_function (fun vs H Q E h => ?_) (fun cdv A outer s H vs Q E hr h => ?_)
  · obtain ⟨M, x, d, rfl, _⟩ := h
    rfl
  · obtain ⟨M, x, d, rfl, hx, ha, ⟨hsh, hd⟩, ht, q⟩ := h
    refine ⟨_, (pss_cons (ps_if (PW.pt (pw_or (pt_not (pt_val (pe_callB call_isi (by rfl) T.isinstance (by decide +kernel) (pa_cons (pv 0) (pa_cons (pe_bltn (v := .ty "tuple") (by rfl) T.tuple (by decide +kernel) rfl) pa_nil))))) (pw_or (pt_cmpR op_ne (pe_callB call_len (by rfl) T.len (by decide +kernel) (pa_cons (pv 0) pa_nil)) pe_int (nomark _)) (pw_or (pt_not (pt_val (pe_callB call_isi (by rfl) T.isinstance (by decide +kernel) (pa_cons (pe_ix ix_tup (pv 0) pe_int (fun _ _ => rfl)) (pa_cons (pe_bltn (v := .ty "str") (by rfl) T.str (by decide +kernel) rfl) pa_nil))))) (pw_or1 (pt_cmpR op_ne (pe_ix ix_tup (pv 0) pe_int (fun _ _ => rfl)) pe_str (nomark _))))))) (pss_one (ps_ret pe_bl)) pss_nil)
      (pss_cons (ps_if (PW.pt (pw_or (pt_not (pt_val (pe_call G__law_is_name (hr.mono (by first | decide | omega)) (by rfl) D__law_is_name.g D__law_is_name.F.kp D__law_is_name.b .nil pass0 (pa_cons (pe_ix ix_tup (pv 0) pe_int (fun _ _ => rfl)) pa_nil)))) (pw_or1 (pt_cmpR (op_neE hr) (pe_lc (own := [("_law_x", 1)]) (g := gName 1) (by rfl) sc__law_is_function.nd (pi_tup (pe_slice sl_tup (pv 0) (po_some pe_int) (po_some pe_int))) (blkOk_by (own := [("_law_x", 1)]) (N := N__law_is_function) (sc := defScope s__law_is_function) (by decide +kernel)) (fun _ _ _ _ _ => (pg_name (i := 1) sc__law_is_function.nd rfl (.inl rfl))) (fun _ _ _ _ _ => (pts_one (pt_not (pt_val (pe_call G__law_are_names (hr.mono (by first | decide | omega)) (by rfl) D__law_are_names.g D__law_are_names.F.kp D__law_are_names.b .nil pass0 (pa_cons (pv 1) pa_nil)))))) (fun _ _ _ _ _ => (pv 1))) (pe_lst pa_nil) (nomark _))))) (pss_one (ps_ret pe_bl)) pss_nil)
      (pss_one (ps_ret (pe_and (pe_call G__law_is_block (hr.mono (by first | decide | omega)) (by rfl) D__law_is_block.g D__law_is_block.F.kp D__law_is_block.b .nil pass0 (pa_cons (pe_ix ix_tup (pv 0) pe_int (fun _ _ => rfl)) pa_nil)) (pe_and (pe_call G__law_are_terms (hr.mono (by first | decide | omega)) (by rfl) D__law_are_terms.g D__law_are_terms.F.kp D__law_are_terms.b .nil pass0 (pa_cons (pe_ix ix_tup (pv 0) pe_int (fun _ _ => rfl)) pa_nil)) (pe_one (pe_cmpR (op_neE hr) (pe_ix ix_tup (pv 0) pe_int (fun _ _ => rfl)) (pe_tup pa_nil) (nomark _))))))))), ?_⟩
    obtain ⟨t0, ht1, ht2⟩ := Dx.isaT (K := K) hx
    refine ⟨x, rfl, x, _, .type t0, _, _, rfl, .ty "tuple", ht1, kit_ty ht2, _, rfl, ?_⟩
    cases d with
    | tuple ys =>
      obtain ⟨a, xs, rfl, e, r⟩ := Dx.tupOf hx
      refine ⟨_, rfl, _, xs.length, rfl, .inr ⟨_, SqT.of e, rfl⟩, rfl, !decide (xs.length = 7), congrArg V.bl (congrArg not (decV _ 7)), ite2 (fun h4 => ?_) (fun h4 => ?_)⟩
      · rw [funT_no (by rw [← DxAll.length r]; simpa using h4)] at q
        exact q H (.refl _ _ _)
      · obtain ⟨v0, v1, v2, v3, v4, v5, v6, k0, k1, k2, k3, k4, k5, k6, rfl, rfl, x0, x1, x2, x3, x4, x5, x6⟩ := len7 r (by simpa using h4)
        replace q : ∀ H', Lk M Tl H H' → Q (.bl (kindIs "fun" k0 && (nameD k1 && ((allT nameD k2 && (allT nameD k3 && allT nameD k4)) && (allT (cmdB n) k5 && (allT (termB n) k6 && nonE k6)))))) H' := q
        obtain ⟨t0, ht1, ht2⟩ := Dx.isa (K := K) x0
        refine ⟨_, rfl, a, _, 0, v0, rfl, rfl, SqT.of e, rfl, v0, _, .type t0, _, _, rfl, .ty "str", ht1, kit_ty ht2, _, rfl, ?_⟩
        cases hS : isS v0 with
        | false =>
          have kn : kindIs "fun" k0 = false := by
            cases x0 with
            | str _ => cases hS
            | _ => rfl
          rw [kn] at q
          exact q H (.refl _ _ _)
        | true =>
          obtain ⟨z, rfl, rfl⟩ := isS_of x0 hS
          refine ⟨_, rfl, a, _, 0, .str z, rfl, rfl, SqT.of e, rfl, rfl, _, congrArg V.bl (congrArg not (str_dec z "fun")), ite2 (fun hf => ?_) (fun hf => ?_)⟩
          · have ez : kindIs "fun" (.str z) = false := beq_eq_false_iff_ne.mpr (by simpa using hf)
            rw [ez] at q
            exact q H (.refl _ _ _)
          · have ez : kindIs "fun" (.str z) = true := beq_iff_eq.mpr (by simpa using hf)
            rw [ez, Bool.true_and] at q
            refine ⟨_, rfl, a, _, 1, v1, rfl, rfl, SqT.of e, rfl, v1, rfl, Dx.sv x1 (ha.tup (by simp)).ascD, fun H1 s => ⟨_, rfl, ?_⟩⟩
            rw [nameV_of x1]
            have l1 : Lk M Tl H H1 := .same s
            cases hn : nameD k1 with
            | false =>
              rw [hn, Bool.false_and] at q
              exact q _ l1
            | true =>
              rw [hn, Bool.true_and] at q
              have e1 := s _ _ e
              have al2 : ([k2, k3, k4] : List PyData).all (allT nameD) = (allT nameD k2 && (allT nameD k3 && allT nameD k4)) := by simp
              rw [← al2] at q
              refine ⟨_, rfl, 2, rfl, 5, rfl, a, _, rfl, SqT.of e1, (by show ¬ (HT.sIx 7 0 (some 2) = 0 ∧ HT.sIx 7 7 (some 5) = 7); decide), fun p2 np2 => ⟨p2, rfl, ⟨_, SqT.of upd_same⟩, fun D nD => ?_⟩⟩
              have l2 : Lk M Tl H1 (upd H1 p2 (.tup [v2, v3, v4])) := Lk.new np2
              have l12 := l1.trans l2
              have hm : ∀ y ∈ ([k2, k3, k4] : List PyData), y ∈ [PyData.str z, k1, k2, k3, k4, k5, k6] := fun y hy => by
                simp only [List.mem_cons, List.not_mem_nil, or_false] at hy
                rcases hy with rfl | rfl | rfl <;> simp
              refine lc_look (M := M) (Tl := Tl) (i := 1) (a := p2) (xs := [v2, v3, v4]) (ys := [k2, k3, k4]) (f := allT nameD) (by show 1 < 2; decide) nD upd_same (.cons (Dx.kp l12.k _ _ x2) (.cons (Dx.kp l12.k _ _ x3) (.cons (Dx.kp l12.k _ _ x4) .nil))) (l12.t ht) (by show 3 < sizeLine; decide) (fun x y H R hy hxy t3 hR => ?_) (fun H2 acc lk hD hem => ?_)
              · exact ⟨_, rfl, _, x, y, rfl, hxy, ha.tup (hm y hy), ⟨hsh.tup (hm y hy), trivial⟩, t3, fun H' l => ⟨_, rfl, hR H' l⟩⟩
              · refine ⟨Nat.zero_le _, fun p np => ⟨D, p, acc, rfl, rfl, .inl ⟨SqL.of (emp_new hD np), SqL.of upd_same⟩, ?_⟩⟩
                rw [hem]
                have l3 := l12.trans (lk.trans (Lk.new (o := .lst []) np))
                refine ⟨_, rfl, ?_⟩
                cases al : ([k2, k3, k4] : List PyData).all (allT nameD) with
                | false =>
                  rw [al, Bool.false_and] at q
                  exact q _ l3
                | true =>
                  rw [al, Bool.true_and] at q
                  have dm : ∀ y ∈ [PyData.str z, k1, k2, k3, k4, k5, k6], y.depth ≤ n + 1 := sub_depth hd _ rfl
                  refine ⟨_, rfl, a, _, 5, v5, rfl, rfl, SqT.of (l3.k.tp _ _ e), rfl, M, v5, k5, rfl, Dx.kp l3.k _ _ x5, ha.tup (by simp), ⟨hsh.tup (by simp), dm _ (by simp)⟩, l3.t ht, fun H5 l5 => ⟨_, rfl, ite2 (fun hg => ?_) (fun hg => ?_)⟩⟩
                  · rw [hg, Bool.true_and] at q
                    have l5' := l3.trans l5
                    refine ⟨_, rfl, a, _, 6, v6, rfl, rfl, SqT.of (l5'.k.tp _ _ e), rfl, M, v6, k6, rfl, Dx.kp l5'.k _ _ x6, ha.tup (by simp), ⟨hsh.tup (by simp), dm _ (by simp)⟩, l5'.t ht, fun H6 l6 => ⟨_, rfl, ite2 (fun hg => ?_) (fun hg => ?_)⟩⟩
                    · rw [hg, Bool.true_and] at q
                      have l6' := l5'.trans l6
                      cases k6 with
                      | tuple gs =>
                        obtain ⟨c, ws, rfl, ec, rc⟩ := Dx.tupOf (Dx.kp l6'.k _ _ x6)
                        refine ⟨_, rfl, a, _, 6, .ref c, rfl, rfl, SqT.of (l6'.k.tp _ _ e), rfl, Nat.zero_le _, fun p4 np4 => ⟨c, p4, ws, rfl, rfl, .inr ⟨SqT.of (by rw [upd_ne (ne_of_none ec np4)]; exact ec), SqT.of upd_same⟩, ?_⟩⟩
                        have en : (!ws.isEmpty) = nonE (.tuple gs) := by
                          have hl := DxAll.length rc
                          cases gs <;> cases ws <;> first | rfl | cases hl
                        rw [en]
                        exact q _ (l6'.trans (Lk.new np4))
                      | _ => cases hg
                    · rw [show allT (termB n) k6 = false by simpa using hg, Bool.false_and] at q
                      exact q _ (l5'.trans l6)
                  · rw [show allT (cmdB n) k5 = false by simpa using hg, Bool.false_and] at q
                    exact q _ (l3.trans l5)
    | _ => exact q H (.refl _ _ _)
theorem _root_.KW.Lw.tree (l : Lw K mg) (T : Tb mg) (n : Nat) : FnOk P w K mg base CX0 (2 * n + 16) (He.fAd K ("_law_is_tree", none)) (l.fl "_law_is_tree") P__law_is_tree (spC Tl (fun d => d.depth ≤ n + 3) (treeB n)) := by
  have D__law_is_function := l.d_fun
  have G__law_is_function : FnOk P w K mg base CX0 (2 * n + 14) (He.fAd K ("_law_is_function", none)) (l.fl "_law_is_function") P__law_is_function (spC Tl (fun d => d.depth ≤ n + 2) (funT (allT (cmdB n)) (termB n))) := l.fun_ T n
  refine (fun_of l.d_tree.F).ok (k := 2 * n + 15) sc__law_is_tree (fun vs H Q E h => ?_) (fun cdv A outer s H vs Q E hr h => ?_)
  · obtain ⟨M, x, d, rfl, _⟩ := h
    rfl
  · obtain ⟨M, x, d, rfl, hx, ha, ⟨hsh, hdm⟩, ht, q⟩ := h
    refine ⟨_, (pss_one (ps_ret (pe_and (pe_callB call_isi (by rfl) T.isinstance (by decide +kernel) (pa_cons (pv 0) (pa_cons (pe_bltn (v := .ty "tuple") (by rfl) T.tuple (by decide +kernel) rfl) pa_nil))) (pe_one (pe_cmpR (op_eqE hr) (pe_lc (own := [("_law_x", 1)]) (g := gName 1) (by rfl) sc__law_is_tree.nd (pi_tup (pv 0)) (blkOk_by (own := [("_law_x", 1)]) (N := N__law_is_tree) (sc := defScope s__law_is_tree) (by decide +kernel)) (fun _ _ _ _ _ => (pg_name (i := 1) sc__law_is_tree.nd rfl (.inl rfl))) (fun _ _ _ _ _ => (pts_one (pt_not (pt_val (pe_call G__law_is_function (hr.mono (by first | decide | omega)) (by rfl) D__law_is_function.g D__law_is_function.F.kp D__law_is_function.b .nil pass0 (pa_cons (pv 1) pa_nil)))))) (fun _ _ _ _ _ => (pv 1))) (pe_lst pa_nil) (nomark _)))))), ?_⟩
    obtain ⟨t0, ht1, ht2⟩ := Dx.isaT (K := K) hx
    refine ⟨x, rfl, x, _, .type t0, _, _, rfl, .ty "tuple", ht1, kit_ty ht2, _, rfl, ?_⟩
    cases d with
    | tuple ys =>
      obtain ⟨a, xs, rfl, e, r⟩ := Dx.tupOf hx
      refine ⟨_, rfl, a, rfl, ⟨xs, SqT.of e⟩, fun D nD => lc_look (i := 1) (f := funT (allT (cmdB n)) (termB n)) (by show 1 < 2; decide) nD e r ht (lk_len (a := a) hsh.len r) (fun x y H R hy hxy t3 hR => ?_) (fun H acc lk hD hem => ?_)⟩
      · exact ⟨_, rfl, _, x, y, rfl, hxy, ha.tup hy, ⟨hsh.tup hy, sub_depth hdm ys rfl y hy⟩, t3, fun H' l => ⟨_, rfl, hR H' l⟩⟩
      · refine ⟨Nat.zero_le _, fun p np => ⟨D, p, acc, rfl, rfl, .inl ⟨SqL.of (emp_new hD np), SqL.of upd_same⟩, ?_⟩⟩
        rw [hem]
        exact q _ (lk.trans (Lk.new np))
    | _ => exact q H (.refl _ _ _)
end
end KW2


set_option Elab.async false
set_option linter.all false
set_option maxRecDepth 100000
set_option maxHeartbeats 4000000
/-! Drawn terms. -/
namespace TD
open PySem PySem.Spec PyProof.Rows L2 KT KG KM KX KQ KE0 KA KB KC KD KP KP2 KW GxR
/-! ### how much a datum shows -/
mutual
def wt : PyData → Nat
  | .none => 5
  | .bool _ => 5
  | .int _ => 50
  | .str z => 10 * z.length + 2
  | .list xs => wtL xs + 3
  | .tuple xs => wtL xs + 3
  | .dict kvs => wtK kvs + 3
def wtL : List PyData → Nat
  | [] => 0
  | x :: r => wt x + 2 + wtL r
def wtK : List (PyData × PyData) → Nat
  | [] => 0
  | (k, v) :: r => wt k + wt v + 4 + wtK r
end
theorem wtL_app (a b : List PyData) : wtL (a ++ b) = wtL a + wtL b := by
  induction a with
  | nil => simp [wtL]
  | cons x r ih =>
    rw [List.cons_append]
    simp only [wtL]
    rw [ih]
    omega
/- strings and tuples alone -/
mutual
def Pt : PyData → Prop
  | .str z => AscN 100 z
  | .tuple xs => xs.length ≤ 1000 ∧ PtL xs
  | _ => False
def PtL : List PyData → Prop
  | [] => True
  | x :: r => Pt x ∧ PtL r
end
theorem PtL.app : ∀ {a b : List PyData}, PtL a → PtL b → PtL (a ++ b)
  | [], _, _, h => h
  | _ :: _, _, h, k => by
    unfold PtL at h
    rw [List.cons_append]
    unfold PtL
    exact ⟨h.1, PtL.app h.2 k⟩
theorem depth_app (a b : List PyData) : PyData.depthAll (a ++ b) = max (PyData.depthAll a) (PyData.depthAll b) := by
  induction a with
  | nil => simp [PyData.depthAll]
  | cons x r ih =>
    rw [List.cons_append]
    simp only [PyData.depthAll]
    rw [ih, Nat.max_assoc]
abbrev DT (H : Hp) (v : V) (D : PyData) : Prop := Dx (fun _ => True) H v D
/-! ### the box -/
def kP : Key := .inr "pool"
def kF : Key := .inr "left"
def kN : Key := .inr "known"
def bxV (p : Addr) (z : Int) (kn : Addr) : List (Key × V) := [(kP, .ref p), (kF, .int z), (kN, .ref kn)]
theorem j12 : ¬ (kP = kF) := by decide +kernel
theorem j13 : ¬ (kP = kN) := by decide +kernel
theorem j23 : ¬ (kF = kN) := by decide +kernel
theorem bget_p {H : Hp} {b p kn : Addr} {z : Int} (h : H b = some (.dK (bxV p z kn))) : DGet H b (.str "pool") (some (.ref p)) := by
  have e : DGet H b (kV kP) (valV (bxV p z kn) kP) := DGet.k h
  rw [show valV (bxV p z kn) kP = some (.ref p) from valV_pos rfl] at e
  exact e
theorem bget_f {H : Hp} {b p kn : Addr} {z : Int} (h : H b = some (.dK (bxV p z kn))) : DGet H b (.str "left") (some (.int z)) := by
  have e : DGet H b (kV kF) (valV (bxV p z kn) kF) := DGet.k h
  rw [show valV (bxV p z kn) kF = some (.int z) from (valV_neg j12).trans (valV_pos rfl)] at e
  exact e
theorem bget_n {H : Hp} {b p kn : Addr} {z : Int} (h : H b = some (.dK (bxV p z kn))) : DGet H b (.str "known") (some (.ref kn)) := by
  have e : DGet H b (kV kN) (valV (bxV p z kn) kN) := DGet.k h
  rw [show valV (bxV p z kn) kN = some (.ref kn) from (valV_neg j13).trans ((valV_neg j23).trans (valV_pos rfl))] at e
  exact e
theorem bput_f {H : Hp} {b p kn : Addr} {z z' : Int} (h : H b = some (.dK (bxV p z kn))) : DPut H b (.str "left") (.int z') (upd H b (.dK (bxV p z' kn))) := by
  have e : DPut H b (kV kF) (.int z') (upd H b (.dK (putK (bxV p z kn) kF (.int z')))) := DPut.k h (by show 3 < sizeLine; decide)
  rw [show putK (bxV p z kn) kF (.int z') = bxV p z' kn by simp [putK, bxV, j12, j13, j23, Ne.symm j12, Ne.symm j13, Ne.symm j23, kP, kF, kN] <;> decide +kernel] at e
  exact e
def KnOk (H : Hp) (v : V) : Prop := ∃ (t : Addr) (x : Str) (n1 n2 n3 : Nat), v = .ref t ∧ H t = some (.tup [.str x, .int n1, .int n2, .int n3]) ∧ AscN 20 x ∧ n1 ≤ 3 ∧ n2 ≤ 2 ∧ 1 ≤ n3 ∧ n3 ≤ 3
def StrsAt (H : Hp) (a : Addr) : Prop := ∃ ns : List Str, H a = some (.lst (ns.map V.str)) ∧ ns.length ≤ 1000 ∧ ∀ x ∈ ns, AscN 20 x
structure Bx (d L b p kn : Addr) (z : Int) (m : Nat) (H : Hp) : Prop where
  dk : DK d L H
  bx : H b = some (.dK (bxV p z kn))
  pl : ∃ ps : List Str, H p = some (.lst (ps.map V.str)) ∧ ps.length = m ∧ ∀ x ∈ ps, AscN 20 x
  ks : ∃ ks : List V, H kn = some (.lst ks) ∧ ks.length ≤ 1000 ∧ ∀ k ∈ ks, KnOk H k
  bd : b ≠ d
  pL : p ≠ L
  nL : kn ≠ L
  np : kn ≠ p
/-- what drawing with a box leaves -/
structure Fb (d L b p : Addr) (H H' : Hp) : Prop where
  st : ∀ c o, c ≠ d → c ≠ L → c ≠ b → c ≠ p → H c = some o → H' c = some o
  tp : ∀ c xs, H c = some (.tup xs) → H' c = some (.tup xs)
theorem Fb.trans {d L b p : Addr} {H H1 H2 : Hp} (x : Fb d L b p H H1) (y : Fb d L b p H1 H2) : Fb d L b p H H2 := ⟨fun c o h1 h2 h3 h4 e => y.st c o h1 h2 h3 h4 (x.st c o h1 h2 h3 h4 e), fun c xs e => y.tp c xs (x.tp c xs e)⟩
theorem Fb.refl {d L b p : Addr} (H : Hp) : Fb d L b p H H := ⟨fun _ _ _ _ _ _ e => e, fun _ _ e => e⟩
theorem Fb.new {d L b p q : Addr} {H : Hp} {o : HO} (n : H q = none) : Fb d L b p H (upd H q o) := ⟨fun c u _ _ _ _ e => by rw [upd_ne (ne_of_none e n)]; exact e, fun c xs e => by rw [upd_ne (ne_of_none e n)]; exact e⟩
theorem fr_tp {d L : Addr} {H H' : Hp} (h : DK d L H) (f : Fr d L H H') : ∀ c xs, H c = some (.tup xs) → H' c = some (.tup xs) := fun c xs e => by
  obtain ⟨ns, m, k, h1, h2, _⟩ := h
  exact f.st c _ (ne_of e h1 (by intro z; cases z)) (ne_of e h2 (by intro z; cases z)) e
theorem Fb.of {d L b p : Addr} {H H' : Hp} (h : DK d L H) (f : Fr d L H H') : Fb d L b p H H' := ⟨fun c o h1 h2 _ _ e => f.st c o h1 h2 e, fr_tp h f⟩
theorem KnOk.tp {H H' : Hp} (f : ∀ c xs, H c = some (.tup xs) → H' c = some (.tup xs)) {v : V} (k : KnOk H v) : KnOk H' v := by
  obtain ⟨t, x, n1, n2, n3, e, h, r⟩ := k
  exact ⟨t, x, n1, n2, n3, e, f _ _ h, r⟩
section
variable {d L b p kn : Addr} {z : Int} {m : Nat} {H H' : Hp}
theorem Bx.bL (B : Bx d L b p kn z m H) : b ≠ L := by
  obtain ⟨ns, mm, k, h1, h2, _⟩ := B.dk
  exact ne_of B.bx h2 (by intro z; cases z)
theorem Bx.pd (B : Bx d L b p kn z m H) : p ≠ d := by
  obtain ⟨ns, mm, k, h1, h2, _⟩ := B.dk
  obtain ⟨ps, e, _⟩ := B.pl
  exact ne_of e h1 (by intro z; cases z)
theorem Bx.knd (B : Bx d L b p kn z m H) : kn ≠ d := by
  obtain ⟨ns, mm, k, h1, h2, _⟩ := B.dk
  obtain ⟨ps, e, _⟩ := B.ks
  exact ne_of e h1 (by intro z; cases z)
theorem Bx.pb (B : Bx d L b p kn z m H) : p ≠ b := by
  obtain ⟨ps, e, _⟩ := B.pl
  exact ne_of e B.bx (by intro z; cases z)
theorem Bx.knb (B : Bx d L b p kn z m H) : kn ≠ b := by
  obtain ⟨ps, e, _⟩ := B.ks
  exact ne_of e B.bx (by intro z; cases z)
/-- a frame that leaves the box alone -/
theorem Bx.keep (B : Bx d L b p kn z m H) (dk : DK d L H') (st : ∀ c o, c ≠ d → c ≠ L → H c = some o → H' c = some o) : Bx d L b p kn z m H' := by
  obtain ⟨ps, h1, h2, h3⟩ := B.pl
  obtain ⟨ks, k1, k2, k3⟩ := B.ks
  have tp : ∀ c xs, H c = some (.tup xs) → H' c = some (.tup xs) := fr_tp B.dk ⟨dk, st⟩
  exact ⟨dk, st _ _ B.bd B.bL B.bx, ⟨ps, st _ _ B.pd B.pL h1, h2, h3⟩, ⟨ks, st _ _ B.knd B.nL k1, k2, fun k hk => (k3 k hk).tp tp⟩, B.bd, B.pL, B.nL, B.np⟩
theorem Bx.fr (B : Bx d L b p kn z m H) (f : Fr d L H H') : Bx d L b p kn z m H' := B.keep f.dk f.st
theorem Bx.new (B : Bx d L b p kn z m H) {q : Addr} {o : HO} (n : H q = none) : Bx d L b p kn z m (upd H q o) := B.keep (B.dk.upd n) fun c u _ _ e => by
  rw [upd_ne (ne_of_none e n)]
  exact e
theorem Bx.setF (B : Bx d L b p kn z m H) (z' : Int) : Bx d L b p kn z' m (upd H b (.dK (bxV p z' kn))) ∧ Fb d L b p H (upd H b (.dK (bxV p z' kn))) := by
  obtain ⟨ps, h1, h2, h3⟩ := B.pl
  obtain ⟨ks, k1, k2, k3⟩ := B.ks
  have tp : ∀ c xs, H c = some (.tup xs) → (upd H b (.dK (bxV p z' kn))) c = some (.tup xs) := fun c xs e => by
    rw [upd_ne (ne_of e B.bx (by intro z; cases z))]
    exact e
  refine ⟨⟨B.dk.mut B.bd B.bL, upd_same, ⟨ps, by rw [upd_ne B.pb]; exact h1, h2, h3⟩, ⟨ks, by rw [upd_ne B.knb]; exact k1, k2, fun k hk => (k3 k hk).tp tp⟩, B.bd, B.pL, B.nL, B.np⟩, fun c o _ _ h3 _ e => by rw [upd_ne h3]; exact e, tp⟩
/-- a list that is neither the deck's, nor the pool -/
theorem StrsAt.fb {a : Addr} (s : StrsAt H a) (B : Bx d L b p kn z m H) (hL : a ≠ L) (hp : a ≠ p) (f : Fb d L b p H H') : StrsAt H' a := by
  obtain ⟨ns, e, r⟩ := s
  obtain ⟨ns', mm, k, h1, h2, _⟩ := B.dk
  exact ⟨ns, f.st a _ (ne_of e h1 (by intro z; cases z)) hL (ne_of e B.bx (by intro z; cases z)) hp e, r⟩
theorem DT.fb {v : V} {D : PyData} (h : DT H v D) (f : Fb d L b p H H') : DT H' v D := Dx.kp ⟨fun a o n => absurd trivial n, f.tp⟩ D v h
end
abbrev N__law_fresh : List Str := ["_law_deck_here", "_law_box"]
abbrev P__law_fresh : List Str := ["_law_deck_here", "_law_box"]
theorem sc__law_fresh : FnScope N__law_fresh P__law_fresh (defScope s__law_fresh) := ⟨rfl, rfl, rfl, by decide +kernel, rfl, by decide +kernel, by decide +kernel⟩
abbrev N__law_drawn_term : List Str := ["_law_deck_here", "_law_box", "_law_leading", "_law_names", "_law_deep", "_law_way", "_law_some", "_law_it"]
abbrev P__law_drawn_term : List Str := ["_law_deck_here", "_law_box", "_law_leading", "_law_names", "_law_deep"]
theorem sc__law_drawn_term : FnScope N__law_drawn_term P__law_drawn_term (defScope s__law_drawn_term) := ⟨rfl, rfl, rfl, by decide +kernel, rfl, by decide +kernel, by decide +kernel⟩
abbrev N__law_drawn_call : List Str := ["_law_deck_here", "_law_box", "_law_known", "_law_leading", "_law_names", "_law_deep", "_law_leads", "_law_turn", "_law_softs"]
abbrev P__law_drawn_call : List Str := ["_law_deck_here", "_law_box", "_law_known", "_law_leading", "_law_names", "_law_deep"]
theorem sc__law_drawn_call : FnScope N__law_drawn_call P__law_drawn_call (defScope s__law_drawn_call) := ⟨rfl, rfl, rfl, by decide +kernel, rfl, by decide +kernel, by decide +kernel⟩
section
variable {P : Program} {w : World} {K : PySem.W.Frag} {mg : Str → Option Value} {base : Heap}
/-- what the head tells of the draws -/
structure Dw (K : PySem.W.Frag) (mg : Str → Option Value) where
  T : Tb mg
  fd : Str → FuncData
  d_draw : Df K mg "_law_draw" s__law_draw P__law_draw (fd "_law_draw")
  d_pick : Df K mg "_law_pick" s__law_pick P__law_pick (fd "_law_pick")
  d_word : Df K mg "_law_drawn_word" s__law_drawn_word P__law_drawn_word (fd "_law_drawn_word")
  d_fresh : Df K mg "_law_fresh" s__law_fresh P__law_fresh (fd "_law_fresh")
  d_term : Df K mg "_law_drawn_term" s__law_drawn_term P__law_drawn_term (fd "_law_drawn_term")
  d_call : Df K mg "_law_drawn_call" s__law_drawn_call P__law_drawn_call (fd "_law_drawn_call")
theorem Dw.draw (D : Dw K mg) : FnOk P w K mg base CX0 1 (He.fAd K ("_law_draw", none)) (D.fd "_law_draw") P__law_draw spDraw := ok_draw D.d_draw D.T
theorem Dw.pick (D : Dw K mg) : FnOk P w K mg base CX0 2 (He.fAd K ("_law_pick", none)) (D.fd "_law_pick") P__law_pick (spPick K) := ok_pick D.d_pick D.T D.d_draw
theorem Dw.word (D : Dw K mg) : FnOk P w K mg base CX0 3 (He.fAd K ("_law_drawn_word", none)) (D.fd "_law_drawn_word") P__law_drawn_word (spTxt 11) := ok_drawn D.T D.d_word D.d_draw D.d_pick
theorem er_map {α β : Type} (f : α → β) : ∀ (l : List α) (j : Nat), (l.map f).eraseIdx j = (l.eraseIdx j).map f
  | [], _ => rfl
  | _ :: _, 0 => rfl
  | x :: l, j + 1 => by
    show f x :: (l.map f).eraseIdx j = f x :: (l.eraseIdx j).map f
    rw [er_map f l j]
def spFresh : Sp := fun vs H Q _ => ∃ (d L b p kn : Addr) (z : Int) (m : Nat), vs = [.ref d, .ref b] ∧ Bx d L b p kn z (m + 1) H ∧ m < 1000 ∧ ∀ x H', AscN 20 x → Bx d L b p kn z m H' → Fb d L b p H H' → Q (.str x) H'
theorem Dw.fresh (D : Dw K mg) : FnOk P w K mg base CX0 2 (He.fAd K ("_law_fresh", none)) (D.fd "_law_fresh") P__law_fresh spFresh := by
  have T := D.T
  have D__law_draw := D.d_draw
  have G__law_draw : FnOk P w K mg base CX0 1 (He.fAd K ("_law_draw", none)) (D.fd "_law_draw") P__law_draw spDraw := D.draw
  refine (fun_of D.d_fresh.F).ok sc__law_fresh (fun vs H Q E h => ?_) (fun cdv A outer s H vs Q E hr h => ?_)
  · obtain ⟨d, L, b, p, kn, z, m, rfl, _⟩ := h
    rfl
  · obtain ⟨d, L, b, p, kn, z, m, rfl, B, hm, q⟩ := h
    have hu := hu_of hr
    refine ⟨_, (pss_one (ps_ret (pe_bm PySem.F.plainAttrs_list PySem.F.slot_list_pop PySem.F.type_list_pop mt_popAt (pe_dget hu (pv 1) pe_str (fun _ _ => rfl)) (pa_cons (pe_call G__law_draw (hr.mono (by first | decide | omega)) (by rfl) D__law_draw.g D__law_draw.F.kp D__law_draw.b .nil pass0 (pa_cons (pv 0) (pa_cons (pe_callB call_len (by rfl) T.len (by decide +kernel) (pa_cons (pe_dget hu (pv 1) pe_str (fun _ _ => rfl)) pa_nil)) pa_nil))) pa_nil)))), ?_⟩
    have B0 := B
    obtain ⟨ps, h1, h2, h3⟩ := B0.pl
    have hl : (ps.map V.str).length = m + 1 := by rw [List.length_map, h2]
    refine ⟨_, rfl, _, _, rfl, bget_p B.bx, .inl ⟨rfl, _, SqL.of h1⟩, _, rfl, _, rfl, _, _, rfl, bget_p B.bx, .ref p, (ps.map V.str).length, rfl, .inl ⟨_, SqL.of h1, rfl⟩, d, L, _, rfl, B.dk, by omega, by omega, fun r H1 r0 r1 f => ?_⟩
    obtain ⟨i, rfl⟩ := Int.eq_ofNat_of_zero_le r0
    have hi : i < (ps.map V.str).length := by omega
    have B1 := B.fr f
    obtain ⟨ps1, g1, g2, g3⟩ := B1.pl
    have e1 : H1 p = some (.lst (ps.map V.str)) := f.st p _ B.pd B.pL h1
    have hx : (ps.map V.str)[i]? = some (.str ps[i]!) := by
      have : i < ps.length := by rw [List.length_map] at hi; exact hi
      rw [List.getElem?_map, List.getElem?_eq_getElem this]
      simp [this]
    have hmem : ps[i]! ∈ ps := by
      have : i < ps.length := by rw [List.length_map] at hi; exact hi
      simp [this]
    refine ⟨p, ps.map V.str, (i : Int), i, _, rfl, rfl, e1, by omega, by omega, ?_, hx, ?_⟩
    · unfold seqIndex?
      have i0 : ¬ ((i : Int) < 0) := by omega
      simp only [i0, if_false]
      rw [if_pos (by rw [Bool.and_eq_true]; exact ⟨decide_eq_true (by omega), decide_eq_true (by omega)⟩)]
      simp
    · refine q _ _ (h3 _ hmem) ?_ ?_
      · have tp : ∀ c xs, H1 c = some (.tup xs) → (upd H1 p (.lst ((ps.map V.str).eraseIdx i))) c = some (.tup xs) := fun c xs e => by
          rw [upd_ne (ne_of e e1 (by intro z; cases z))]
          exact e
        obtain ⟨ks, k1, k2, k3⟩ := B1.ks
        refine ⟨B1.dk.mut B1.pd B1.pL, by rw [upd_ne B1.pb.symm]; exact B1.bx, ⟨ps.eraseIdx i, ?_, ?_, fun x hx => h3 x (List.mem_of_mem_eraseIdx hx)⟩, ⟨ks, by rw [upd_ne B1.np]; exact k1, k2, fun k hk => (k3 k hk).tp tp⟩, B1.bd, B1.pL, B1.nL, B1.np⟩
        · rw [upd_same, er_map]
        · rw [List.length_eraseIdx, if_pos (by rw [List.length_map] at hi; exact hi), h2]
          rfl
      · refine (Fb.of B.dk f).trans ⟨fun c o _ _ _ hp e => by rw [upd_ne hp]; exact e, fun c xs e => ?_⟩
        rw [upd_ne (ne_of e e1 (by intro z; cases z))]
        exact e
/-- the shape of terms -/
inductive TmS : PyData → Prop
  | name (x : Str) : TmS (.tuple [.str "name", .str x])
  | word (x : Str) : TmS (.tuple [.str "word", .str x])
  | put {a : PyData} (y : Str) : TmS a → TmS (.tuple [.str "put", a, .str y])
  | cut {a : PyData} : TmS a → TmS (.tuple [.str "cut", a])
  | call {l s : List PyData} (x : Str) : (∀ y ∈ l, TmS y) → (∀ y ∈ s, TmS y) → TmS (.tuple [.str "call", .str x, .tuple l, .tuple s])
def TmOk (n : Nat) (z z' : Int) (D : PyData) : Prop := z' ≤ z - 1 ∧ Pt D ∧ D.depth ≤ 2 * n + 1 ∧ wt D + 2000 * z'.toNat ≤ 400 + 2000 * z.toNat ∧ TmS D
def ClOk (n : Nat) (z z' : Int) (D : PyData) : Prop := z' ≤ z - 1 ∧ Pt D ∧ D.depth ≤ 2 * n + 1 ∧ wt D + 2000 * z'.toNat ≤ 2350 + 2000 * z.toNat ∧ TmS D
/-- a list of names that is neither the deck's nor the pool -/
structure Nl (L p : Addr) (H : Hp) (a : Addr) : Prop where
  s : StrsAt H a
  L : a ≠ L
  p : a ≠ p
theorem Nl.fb {d L b p kn a : Addr} {z : Int} {m : Nat} {H H' : Hp} (n : Nl L p H a) (B : Bx d L b p kn z m H) (f : Fb d L b p H H') : Nl L p H' a := ⟨n.s.fb B n.L n.p f, n.L, n.p⟩
def spTerm (n : Nat) : Sp := fun vs H Q _ => ∃ (d L b p kn ld nm : Addr) (z : Int) (m : Nat), vs = [.ref d, .ref b, .ref ld, .ref nm, .int n] ∧ Bx d L b p kn z m H ∧ Nl L p H ld ∧ Nl L p H nm ∧
  ∀ v D z' H', TmOk n z z' D → DT H' v D → Bx d L b p kn z' m H' → Fb d L b p H H' → Q v H'
def spCall (n : Nat) : Sp := fun vs H Q _ => ∃ (d L b p kn ld nm : Addr) (z : Int) (m : Nat) (kv : V), vs = [.ref d, .ref b, kv, .ref ld, .ref nm, .int n] ∧ KnOk H kv ∧ Bx d L b p kn z m H ∧ Nl L p H ld ∧ Nl L p H nm ∧
  ∀ v D z' H', ClOk n z z' D → DT H' v D → Bx d L b p kn z' m H' → Fb d L b p H H' → Q v H'
theorem pt_str {z : Str} {n : Nat} (h : AscN n z) (l : n ≤ 100) : Pt (.str z) := by
  unfold Pt
  exact h.mono l
theorem pt_tup {ys : List PyData} (hl : ys.length ≤ 1000) (h : PtL ys) : Pt (.tuple ys) := by
  unfold Pt
  exact ⟨hl, h⟩
theorem term1 {n : Nat} (D : Dw K mg) (Gt : ∀ n', n = n' + 1 → FnOk P w K mg base CX0 (2 * n' + 5) (He.fAd K ("_law_drawn_term", none)) (D.fd "_law_drawn_term") P__law_drawn_term (spTerm n'))
    (Gc : ∀ n', n = n' + 1 → FnOk P w K mg base CX0 (2 * n + 4) (He.fAd K ("_law_drawn_call", none)) (D.fd "_law_drawn_call") P__law_drawn_call (spCall n)) :
    FnOk P w K mg base CX0 (2 * n + 5) (He.fAd K ("_law_drawn_term", none)) (D.fd "_law_drawn_term") P__law_drawn_term (spTerm n) := by
  have T := D.T
  have D__law_draw := D.d_draw
  have D__law_pick := D.d_pick
  have D__law_drawn_word := D.d_word
  have D__law_drawn_term := D.d_term
  have D__law_drawn_call := D.d_call
  have G__law_draw : FnOk P w K mg base CX0 1 (He.fAd K ("_law_draw", none)) (D.fd "_law_draw") P__law_draw spDraw := D.draw
  have G__law_pick : FnOk P w K mg base CX0 2 (He.fAd K ("_law_pick", none)) (D.fd "_law_pick") P__law_pick (spPick K) := D.pick
  have G__law_drawn_word : FnOk P w K mg base CX0 3 (He.fAd K ("_law_drawn_word", none)) (D.fd "_law_drawn_word") P__law_drawn_word (spTxt 11) := D.word
  let sT : Sp := match n with
    | 0 => spNo
    | n' + 1 => spTerm n'
  let sC : Sp := match n with
    | 0 => spNo
    | n' + 1 => spCall (n' + 1)
  have G__law_drawn_term : FnOk P w K mg base CX0 (2 * n + 3) (He.fAd K ("_law_drawn_term", none)) (D.fd "_law_drawn_term") P__law_drawn_term sT := by
    cases n with
    | zero => exact ok_no
    | succ n' => exact Gt n' rfl
  have G__law_drawn_call : FnOk P w K mg base CX0 (2 * n + 4) (He.fAd K ("_law_drawn_call", none)) (D.fd "_law_drawn_call") P__law_drawn_call sC := by
    cases n with
    | zero => exact ok_no
    | succ n' => exact Gc n' rfl
  refine (fun_of D.d_term.F).ok (k := 2 * n + 4) sc__law_drawn_term (fun vs H Q E h => ?_) (fun cdv A outer s H vs Q E hr h => ?_)
  · obtain ⟨d, L, b, p, kn, ld, nm, z, m, rfl, _⟩ := h
    rfl
  · obtain ⟨d, L, b, p, kn, ld, nm, z, m, rfl, B, Ld, Nm, q⟩ := h
    have hu := hu_of hr
    refine ⟨_, (pss_cons (ps_dput hu (pv 1) pe_str (pe_op op_sub (pe_dget hu (pv 1) pe_str (fun _ _ => rfl)) pe_int) rfl)
      (C8.pss_cut (ps_set (i := 5) sc__law_drawn_term.nd rfl (.inl rfl) (pe_ifExp (PW.pt (pw_and (pt_cmpR op_gt (pv 4) pe_int (nomark _)) (pw_and1 (pt_cmpR op_gt (pe_dget hu (pv 1) pe_str (fun _ _ => rfl)) pe_int (nomark _))))) (pe_call G__law_draw (hr.mono (by first | decide | omega)) (by rfl) D__law_draw.g D__law_draw.F.kp D__law_draw.b .nil pass0 (pa_cons (pv 0) (pa_cons pe_int pa_nil))) (pe_call G__law_draw (hr.mono (by first | decide | omega)) (by rfl) D__law_draw.g D__law_draw.F.kp D__law_draw.b .nil pass0 (pa_cons (pv 0) (pa_cons pe_int pa_nil)))))
      (pss_cons (ps_setLc (i := 6) (own := [("_law_it", 7)]) (g := gName 7) (by rfl) sc__law_drawn_term.nd rfl rfl (sw_true rfl rfl rfl (by decide +kernel)) (pi_list (pe_dget hu (pv 1) pe_str (fun _ _ => rfl))) (blkOk_by (own := [("_law_it", 7)]) (N := N__law_drawn_term) (sc := defScope s__law_drawn_term) (by decide +kernel)) (fun _ _ _ _ _ => (pg_name (i := 7) sc__law_drawn_term.nd rfl (.inl rfl))) (fun _ _ _ _ _ => (pts_one (pt_cmpR op_eq (pe_ix (show IxR _ (rIxT K) from ix_tup) (pv 7) pe_int (fun _ _ => rfl)) pe_int (nomark _)))) (fun _ _ _ _ _ => (pv 7)))
      (C8.pss_cut (ps_if (PW.pt (pw_and (pt_cmpR op_lt (pv 5) pe_int (nomark _)) (pw_and1 (pt_cmpR (op_neE hr) (pv 3) (pe_lst pa_nil) (nomark _))))) (pss_one (ps_ret (pe_tup (pa_cons pe_str (pa_cons (pe_call G__law_pick (hr.mono (by first | decide | omega)) (by rfl) D__law_pick.g D__law_pick.F.kp D__law_pick.b .nil pass0 (pa_cons (pv 0) (pa_cons (pv 3) pa_nil))) pa_nil))))) pss_nil)
      (C8.pss_cut (ps_if (PW.pt (pw_or (pt_cmpR op_lt (pv 5) pe_int (nomark _)) (pw_or1 (PW.pt (pw_and (pt_cmpR op_eq (pv 5) pe_int (nomark _)) (pw_and1 (pt_cmpR (op_eqE hr) (pv 6) (pe_lst pa_nil) (nomark _)))))))) (pss_one (ps_ret (pe_tup (pa_cons pe_str (pa_cons (pe_call G__law_drawn_word (hr.mono (by first | decide | omega)) (by rfl) D__law_drawn_word.g D__law_drawn_word.F.kp D__law_drawn_word.b .nil pass0 (pa_cons (pv 0) pa_nil)) pa_nil))))) pss_nil)
      (pss_cons (ps_if (pt_cmpR op_lt (pv 5) pe_int (nomark _)) (pss_one (ps_ret (pe_tup (pa_cons pe_str (pa_cons (pe_call G__law_drawn_term (hr.mono (by first | decide | omega)) (by rfl) D__law_drawn_term.g D__law_drawn_term.F.kp D__law_drawn_term.b .nil pass0 (pa_cons (pv 0) (pa_cons (pv 1) (pa_cons (pv 2) (pa_cons (pv 3) (pa_cons (pe_op op_sub (pv 4) pe_int) pa_nil)))))) (pa_cons (pe_call G__law_pick (hr.mono (by first | decide | omega)) (by rfl) D__law_pick.g D__law_pick.F.kp D__law_pick.b .nil pass0 (pa_cons (pv 0) (pa_cons (pe_lst (pa_cons pe_str (pa_cons pe_str pa_nil))) pa_nil))) pa_nil)))))) pss_nil)
      (pss_cons (ps_if (pt_cmpR op_eq (pv 5) pe_int (nomark _)) (pss_one (ps_ret (pe_tup (pa_cons pe_str (pa_cons (pe_call G__law_drawn_term (hr.mono (by first | decide | omega)) (by rfl) D__law_drawn_term.g D__law_drawn_term.F.kp D__law_drawn_term.b .nil pass0 (pa_cons (pv 0) (pa_cons (pv 1) (pa_cons (pv 2) (pa_cons (pv 3) (pa_cons (pe_op op_sub (pv 4) pe_int) pa_nil)))))) pa_nil))))) pss_nil)
      (pss_one (ps_ret (pe_call G__law_drawn_call (hr.mono (by first | decide | omega)) (by rfl) D__law_drawn_call.g D__law_drawn_call.F.kp D__law_drawn_call.b .nil pass0 (pa_cons (pv 0) (pa_cons (pv 1) (pa_cons (pe_call G__law_pick (hr.mono (by first | decide | omega)) (by rfl) D__law_pick.g D__law_pick.F.kp D__law_pick.b .nil pass0 (pa_cons (pv 0) (pa_cons (pv 6) pa_nil))) (pa_cons (pv 2) (pa_cons (pv 3) (pa_cons (pv 4) pa_nil)))))))))))))))), ?_⟩
    refine ⟨_, rfl, _, _, rfl, bget_f B.bx, _, _, rfl, rfl, _, rfl, b, _, rfl, bput_f B.bx, ?_⟩
    obtain ⟨B1, F1⟩ := B.setF (z - 1)
    have Ld1 := Ld.fb B F1
    have Nm1 := Nm.fb B F1
    generalize upd H b (.dK (bxV p (z - 1) kn)) = H1 at B1 F1 Ld1 Nm1
    refine ⟨fun σ' H' => ∃ way : Int, σ' = [some (.ref d), some (.ref b), some (.ref ld), some (.ref nm), some (.int n), some (.int way), none, none] ∧ way < 8 ∧ (4 ≤ way → 0 < n ∧ 0 < z - 1) ∧ Fr d L H1 H', ?_, fun σ' H' hM => ?_⟩
    · refine ⟨_, rfl, _, _, rfl, rfl, _, rfl, ite2 (fun hn => ?_) (fun hn => ?_)⟩
      · refine ⟨_, rfl, _, _, rfl, bget_f B1.bx, _, _, rfl, rfl, _, rfl, ite2 (fun hz => ?_) (fun hz => ?_)⟩
        · exact ⟨_, rfl, d, L, _, rfl, B1.dk, by decide, by decide, fun r H2 r0 r1 f => ⟨r, rfl, r1, fun _ => ⟨by have := of_decide_eq_true hn; omega, of_decide_eq_true hz⟩, f⟩⟩
        · exact ⟨_, rfl, d, L, _, rfl, B1.dk, by decide, by decide, fun r H2 r0 r1 f => ⟨r, rfl, by omega, fun _ => by omega, f⟩⟩
      · exact ⟨_, rfl, d, L, _, rfl, B1.dk, by decide, by decide, fun r H2 r0 r1 f => ⟨r, rfl, by omega, fun _ => by omega, f⟩⟩
    obtain ⟨way, rfl, w8, w4, f2⟩ := hM
    have B2 := B1.fr f2
    have F2 := F1.trans (Fb.of (b := b) (p := p) B1.dk f2)
    have Ld2 := Ld.fb B F2
    have Nm2 := Nm.fb B F2
    obtain ⟨ks, k1, k2, k3⟩ := B2.ks
    refine ⟨_, rfl, _, _, rfl, bget_n B2.bx, kn, rfl, ⟨_, SqL.of k1⟩, fun D nD => ?_⟩
    have nd : D ≠ d ∧ D ≠ L ∧ D ≠ b ∧ D ≠ p := by
      obtain ⟨ns, mm, k, h1, h2, _⟩ := B2.dk
      obtain ⟨ps, h4, _⟩ := B2.pl
      exact ⟨(ne_of_none h1 nD).symm, (ne_of_none h2 nD).symm, (ne_of_none B2.bx nD).symm, (ne_of_none h4 nD).symm⟩
    refine lc_it (n := ks.length) walk_list (fun j H3 => ∃ acc : List V, H3 D = some (.lst acc) ∧ acc.length ≤ j ∧ (∀ k ∈ acc, k ∈ ks) ∧ ∀ c, c ≠ D → H3 c = H' c) ⟨[], upd_same, Nat.zero_le _, (fun k hk => by cases hk), fun c hc => upd_ne hc⟩ (fun j H3 _ h => ?_) (fun j x H3 H4 hj h y => ?_) (fun H3 h => ?_)
    · obtain ⟨acc, _, _, _, hk⟩ := h
      exact SqL.of (by rw [hk kn (fun z => by rw [z, nD] at k1; cases k1)]; exact k1)
    · obtain ⟨rfl, hx⟩ := y
      obtain ⟨acc, hD, hl, ha, hk⟩ := h
      have hmem := List.mem_of_getElem? hx
      obtain ⟨t, nmz, n1, n2, n3, rfl, ht, _⟩ := k3 x hmem
      have ht' : H4 t = some (.tup [.str nmz, .int n1, .int n2, .int n3]) := by
        rw [hk t (fun z => by rw [z, nD] at ht; cases ht)]
        exact ht
      refine ⟨rfl, _, rfl, t, _, 3, _, rfl, rfl, SqT.of ht', rfl, rfl, _, rfl, ?_⟩
      refine ite2 (fun _ => ⟨_, rfl, acc, hD, small1000 (by omega), acc ++ [.ref t], upd_same, by rw [List.length_append]; show acc.length + 1 ≤ _; omega, fun k hk' => ?_, fun c hc => by rw [upd_ne hc]; exact hk c hc⟩) (fun _ => ⟨acc, hD, by omega, ha, hk⟩)
      rcases List.mem_append.mp hk' with h1 | h1
      · exact ha k h1
      · rw [List.mem_singleton.mp h1]
        exact hmem
    obtain ⟨acc, hD, hl, ha, hk⟩ := h
    have f3 : Fr d L H' H3 := ⟨by
      obtain ⟨ns, mm, k, h1, h2, h3⟩ := B2.dk
      exact ⟨ns, mm, k, by rw [hk d nd.1.symm]; exact h1, by rw [hk L nd.2.1.symm]; exact h2, h3⟩, fun c o _ _ e => by rw [hk c (fun z => by rw [z, nD] at e; cases e)]; exact e⟩
    have B3 := B2.fr f3
    have F3 := F2.trans (Fb.of (b := b) (p := p) B2.dk f3)
    have ka : ∀ k ∈ acc, KnOk H3 k := fun k hk' => (k3 k (ha k hk')).tp (fr_tp B2.dk f3)
    have la : acc.length ≤ 1000 := by omega
    clear f3 hk ha hl nD k1 k2 k3
    -- names
    have key : ∀ {H4 : Hp} {q : Addr} {o : HO}, Bx d L b p kn (z - 1) m H4 → Fb d L b p H H4 → H4 D = some (.lst acc) → (∀ k ∈ acc, KnOk H4 k) → H4 q = none →
        Bx d L b p kn (z - 1) m (upd H4 q o) ∧ Fb d L b p H (upd H4 q o) ∧ (upd H4 q o) D = some (.lst acc) ∧ ∀ k ∈ acc, KnOk (upd H4 q o) k := fun {H4 q o} B F hD hk nq =>
      ⟨B.new nq, F.trans (Fb.new nq), by rw [upd_ne (ne_of_none hD nq)]; exact hD, fun k hk' => (hk k hk').tp fun c xs e => by rw [upd_ne (ne_of_none e nq)]; exact e⟩
    refine ⟨fun σ' H4 => σ' = [some (.ref d), some (.ref b), some (.ref ld), some (.ref nm), some (.int n), some (.int way), some (.ref D), none] ∧ Bx d L b p kn (z - 1) m H4 ∧ Fb d L b p H H4 ∧ H4 D = some (.lst acc) ∧ ∀ k ∈ acc, KnOk H4 k, ?_, fun σ' H4 hM => ?_⟩
    · refine ⟨_, rfl, _, _, rfl, rfl, _, rfl, ite2 (fun _ => ?_) (fun _ => ?_)⟩
      · refine ⟨_, rfl, Nat.zero_le _, fun p1 np1 => ?_⟩
        obtain ⟨B4, F4, hD4, ka4⟩ := key (o := .lst []) B3 F3 hD ka np1
        have Nm4 := Nm.fb B F4
        obtain ⟨ns, e4, l4, a4⟩ := Nm4.s
        refine ⟨nm, p1, ns.map V.str, rfl, rfl, .inl ⟨SqL.of e4, SqL.of upd_same⟩, _, rfl, ite2 (fun hne => ?_) (fun _ => ⟨rfl, B4, F4, hD4, ka4⟩)⟩
        have n0 : 0 < (ns.map V.str).length := by
          cases ns with
          | nil => cases hne
          | cons _ _ => exact Nat.succ_pos _
        have B4' := B4
        refine ⟨_, rfl, _, rfl, d, L, nm, ns.map V.str, rfl, B4.dk, Nm4.L, .inl (SqL.of e4), n0, by rw [List.length_map]; omega, fun i x H5 hx f5 => ⟨by show 2 ≤ sizeLine; decide, fun q2 nq2 => ?_⟩⟩
        obtain ⟨y, hy, rfl⟩ := List.mem_map.mp (List.mem_of_getElem? hx)
        have F5 := F4.trans (Fb.of (b := b) (p := p) B4.dk f5)
        refine q _ (.tuple [.str "name", .str y]) (z - 1) _ ⟨by omega, ?_, ?_, ?_, .name y⟩ (.tup upd_same (.cons (.str _) (.cons (.str _) .nil))) ((B4.fr f5).new nq2) (F5.trans (Fb.new nq2))
        · exact pt_tup (by show 2 ≤ 1000; decide) ⟨pt_str (n := 100) (ascn (by decide +kernel)) (by decide), pt_str (a4 y hy) (by decide), trivial⟩
        · show max 0 (max 0 0) + 1 ≤ 2 * n + 1
          omega
        · have := (a4 y hy).1
          show (10 * ("name" : Str).length + 2 + 2 + (10 * y.length + 2 + 2 + 0)) + 3 + 2000 * (z - 1).toNat ≤ 400 + 2000 * z.toNat
          rw [show ("name" : Str).length = 4 from rfl]
          omega
      · exact ⟨rfl, B3, F3, hD, ka⟩
    clear B3 F3 hD ka
    obtain ⟨rfl, B3, F3, hD, ka⟩ := hM
    have retW : ∀ {H4 : Hp}, Bx d L b p kn (z - 1) m H4 → Fb d L b p H H4 → spTxt 11 [.ref d] H4 (fun zv H5 => 2 ≤ sizeLine ∧ ∀ q2, H5 q2 = none → Q (.ref q2) (upd H5 q2 (.tup [.str "word", zv]))) E0 := fun {H4} B F =>
      ⟨d, L, rfl, B.dk, fun x H5 hx f5 => ⟨by show 2 ≤ sizeLine; decide, fun q2 nq2 => by
        refine q _ (.tuple [.str "word", .str x]) (z - 1) _ ⟨by omega, ?_, ?_, ?_, .word x⟩ (.tup upd_same (.cons (.str _) (.cons (.str _) .nil))) ((B.fr f5).new nq2) ((F.trans (Fb.of (b := b) (p := p) B.dk f5)).trans (Fb.new nq2))
        · exact pt_tup (by show 2 ≤ 1000; decide) ⟨pt_str (n := 100) (ascn (by decide +kernel)) (by decide), pt_str hx (by decide), trivial⟩
        · show max 0 (max 0 0) + 1 ≤ 2 * n + 1
          omega
        · have := hx.1
          show (10 * ("word" : Str).length + 2 + 2 + (10 * x.length + 2 + 2 + 0)) + 3 + 2000 * (z - 1).toNat ≤ 400 + 2000 * z.toNat
          rw [show ("word" : Str).length = 4 from rfl]
          omega⟩⟩
    refine ⟨fun σ' H5 => σ' = [some (.ref d), some (.ref b), some (.ref ld), some (.ref nm), some (.int n), some (.int way), some (.ref D), none] ∧ Bx d L b p kn (z - 1) m H5 ∧ Fb d L b p H H5 ∧ H5 D = some (.lst acc) ∧ (∀ k ∈ acc, KnOk H5 k) ∧ 4 ≤ way ∧ (way = 7 → acc ≠ []), ?_, fun σ' H5 hM => ?_⟩
    · refine ⟨_, rfl, _, _, rfl, rfl, _, rfl, ite2 (fun _ => ⟨_, rfl, retW B3 F3⟩) (fun w4' => ?_)⟩
      have w4n : 4 ≤ way := by
        by_cases h : way < 4
        · exact absurd (decide_eq_true h) w4'
        · omega
      refine ⟨_, rfl, rfl, _, rfl, ite2 (fun _ => ?_) (fun w7 => ⟨rfl, B3, F3, hD, ka, w4n, fun e => absurd (decide_eq_true (by rw [e])) w7⟩)⟩
      refine ⟨_, rfl, Nat.zero_le _, fun p1 np1 => ?_⟩
      obtain ⟨B4, F4, hD4, ka4⟩ := key (o := .lst []) B3 F3 hD ka np1
      refine ⟨D, p1, acc, rfl, rfl, .inl ⟨SqL.of hD4, SqL.of upd_same⟩, _, rfl, ite2 (fun _ => ⟨_, rfl, retW B4 F4⟩) (fun hne => ⟨rfl, B4, F4, hD4, ka4, w4n, fun _ e => hne (by rw [e]; rfl)⟩)⟩
    obtain ⟨rfl, B5, F5, hD5, ka5, w4n, w7⟩ := hM
    obtain ⟨n0, z0⟩ := w4 w4n
    clear retW key B3 F3 hD ka B2 F2 Ld2 Nm2 B1 F1 Ld1 Nm1 f2
    obtain ⟨n', rfl⟩ : ∃ n', n = n' + 1 := ⟨n - 1, by omega⟩
    have en : (((n' + 1 : Nat) : Int) - 1) = (n' : Int) := by omega
    have Ld5 := Ld.fb B F5
    have Nm5 := Nm.fb B F5
    refine ⟨_, rfl, _, _, rfl, rfl, _, rfl, ite2 (fun _ => ?_) (fun w6 => ?_)⟩
    · refine ⟨_, rfl, _, rfl, _, rfl, _, rfl, _, rfl, _, _, rfl, rfl, ?_⟩
      refine ⟨d, L, b, p, kn, ld, nm, z - 1, m, congrArg (fun y => [V.ref d, .ref b, .ref ld, .ref nm, V.int y]) en, B5, Ld5, Nm5, fun v D1 z' H6 ok dt B6 F6 => ?_⟩
      refine ⟨_, rfl, by show 2 ≤ sizeLine; decide, fun p1 np1 => pickL (Fr.refl B6.dk) np1 (by show 0 < 2; decide) (by show 2 ≤ 1000; decide) fun x hx H7 f7 => ⟨by show 3 ≤ sizeLine; decide, fun p2 np2 => ?_⟩⟩
      obtain ⟨y, rfl, hy⟩ : ∃ y : Str, x = .str y ∧ AscN 1 y := by
        simp only [List.mem_cons, List.not_mem_nil, or_false] at hx
        rcases hx with rfl | rfl <;> exact ⟨_, rfl, ascn (by decide +kernel)⟩
      obtain ⟨o1, o2, o3, o4, o5⟩ := ok
      have F7 := (F5.trans F6).trans (Fb.of (b := b) (p := p) B6.dk f7)
      have dt7 : DT (upd H7 p2 (.tup [.str "put", v, .str y])) v D1 := DT.fb dt ((Fb.of (b := b) (p := p) B6.dk f7).trans (Fb.new np2))
      refine q _ (.tuple [.str "put", D1, .str y]) z' _ ⟨by omega, ?_, ?_, ?_, .put y o5⟩ (.tup upd_same (.cons (.str _) (.cons dt7 (.cons (.str _) .nil)))) ((B6.fr f7).new np2) (F7.trans (Fb.new np2))
      · exact pt_tup (by show 3 ≤ 1000; decide) ⟨pt_str (n := 100) (ascn (by decide +kernel)) (by decide), o2, pt_str hy (by decide), trivial⟩
      · show max 0 (max D1.depth (max 0 0)) + 1 ≤ 2 * (n' + 1) + 1
        omega
      · have := hy.1
        show (10 * ("put" : Str).length + 2 + 2 + (wt D1 + 2 + (10 * y.length + 2 + 2 + 0))) + 3 + 2000 * z'.toNat ≤ 400 + 2000 * z.toNat
        rw [show ("put" : Str).length = 3 from rfl]
        omega
    refine ⟨_, rfl, rfl, _, rfl, ite2 (fun _ => ?_) (fun w6' => ?_)⟩
    · refine ⟨_, rfl, _, rfl, _, rfl, _, rfl, _, rfl, _, _, rfl, rfl, ?_⟩
      refine ⟨d, L, b, p, kn, ld, nm, z - 1, m, congrArg (fun y => [V.ref d, .ref b, .ref ld, .ref nm, V.int y]) en, B5, Ld5, Nm5, fun v D1 z' H6 ok dt B6 F6 => ⟨by show 2 ≤ sizeLine; decide, fun p2 np2 => ?_⟩⟩
      obtain ⟨o1, o2, o3, o4, o5⟩ := ok
      refine q _ (.tuple [.str "cut", D1]) z' _ ⟨by omega, ?_, ?_, ?_, .cut o5⟩ (.tup upd_same (.cons (.str _) (.cons (DT.fb dt (Fb.new (d := d) (L := L) (b := b) (p := p) np2)) .nil))) (B6.new np2) ((F5.trans F6).trans (Fb.new np2))
      · exact pt_tup (by show 2 ≤ 1000; decide) ⟨pt_str (n := 100) (ascn (by decide +kernel)) (by decide), o2, trivial⟩
      · show max 0 (max D1.depth 0) + 1 ≤ 2 * (n' + 1) + 1
        omega
      · show (10 * ("cut" : Str).length + 2 + 2 + (wt D1 + 2 + 0)) + 3 + 2000 * z'.toNat ≤ 400 + 2000 * z.toNat
        rw [show ("cut" : Str).length = 3 from rfl]
        omega
    have e7 : way = 7 := by
      have a1 : ¬ way < 6 := fun h => w6 (decide_eq_true h)
      have a2 : ¬ way = 6 := fun h => w6' (decide_eq_true (by rw [h]))
      omega
    have ne := w7 e7
    have l0 : 0 < acc.length := by
      cases acc with
      | nil => exact absurd rfl ne
      | cons _ _ => exact Nat.succ_pos _
    refine ⟨_, rfl, _, rfl, _, rfl, _, rfl, d, L, D, acc, rfl, B5.dk, nd.2.1, .inl (SqL.of hD5), l0, by omega, fun i x H6 hx f6 => ?_⟩
    have B6 := B5.fr f6
    have F6 := F5.trans (Fb.of (b := b) (p := p) B5.dk f6)
    refine ⟨_, rfl, _, rfl, _, rfl, d, L, b, p, kn, ld, nm, z - 1, m, x, rfl, (ka5 x (List.mem_of_getElem? hx)).tp (fr_tp B5.dk f6), B6, Ld.fb B F6, Nm.fb B F6, fun v D1 z' H7 ok dt B7 F7 => ?_⟩
    obtain ⟨o1, o2, o3, o4, o5⟩ := ok
    exact q _ D1 z' _ ⟨by omega, o2, o3, by omega, o5⟩ dt B7 (F6.trans F7)
theorem Fb.fresh {d L b p kn q : Addr} {z : Int} {m : Nat} {H H1 : Hp} (B : Bx d L b p kn z m H1) (F : Fb d L b p H H1) (n : H1 q = none) : H q = none ∧ q ≠ d ∧ q ≠ L ∧ q ≠ b ∧ q ≠ p ∧ q ≠ kn := by
  obtain ⟨ns, mm, k, h1, h2, _⟩ := B.dk
  obtain ⟨ps, h4, _⟩ := B.pl
  obtain ⟨ks, h5, _⟩ := B.ks
  have a1 := (ne_of_none h1 n).symm
  have a2 := (ne_of_none h2 n).symm
  have a3 := (ne_of_none B.bx n).symm
  have a4 := (ne_of_none h4 n).symm
  refine ⟨?_, a1, a2, a3, a4, (ne_of_none h5 n).symm⟩
  cases e : H q with
  | none => rfl
  | some o =>
    rw [F.st q o a1 a2 a3 a4 e] at n
    cases n
/-- an own list changes -/
theorem Bx.mut {d L b p kn q : Addr} {z : Int} {m : Nat} {H : Hp} {xs : List V} {o : HO} (B : Bx d L b p kn z m H) (e : H q = some (.lst xs)) (h1 : q ≠ d) (h2 : q ≠ L) (h3 : q ≠ b) (h4 : q ≠ p) (h5 : q ≠ kn) : Bx d L b p kn z m (upd H q o) := by
  obtain ⟨ps, p1, p2, p3⟩ := B.pl
  obtain ⟨ks, k1, k2, k3⟩ := B.ks
  exact ⟨B.dk.mut h1 h2, by rw [upd_ne h3.symm]; exact B.bx, ⟨ps, by rw [upd_ne h4.symm]; exact p1, p2, p3⟩, ⟨ks, by rw [upd_ne h5.symm]; exact k1, k2, fun k hk => (k3 k hk).tp fun c ws ec => by rw [upd_ne (ne_of ec e (by intro z; cases z))]; exact ec⟩, B.bd, B.pL, B.nL, B.np⟩
theorem Fb.mut {d L b p q : Addr} {H H1 : Hp} {xs : List V} {o : HO} (F : Fb d L b p H H1) (n : H q = none) : Fb d L b p H (upd H1 q o) := ⟨fun c u h1 h2 h3 h4 e => by
  rw [upd_ne (ne_of_none e n)]
  exact F.st c u h1 h2 h3 h4 e, fun c ws e => by
  rw [upd_ne (ne_of_none e n)]
  exact F.tp c ws e⟩
theorem DTs.fb {H H' : Hp} {vs : List V} {Ds : List PyData} (h : DxAll (fun _ => True) H vs Ds) (tp : ∀ c xs, H c = some (.tup xs) → H' c = some (.tup xs)) : DxAll (fun _ => True) H' vs Ds := Dx.kpAll ⟨fun a o n => absurd trivial n, tp⟩ Ds vs h
def AccOk (n : Nat) (z0 z' : Int) (i : Nat) (Ds : List PyData) : Prop := z' ≤ z0 ∧ PtL Ds ∧ PyData.depthAll Ds ≤ 2 * n + 1 ∧ Ds.length = i ∧ wtL Ds + 2000 * z'.toNat ≤ 402 * i + 2000 * z0.toNat ∧ ∀ x ∈ Ds, TmS x
theorem AccOk.step {n i : Nat} {z0 z1 z2 : Int} {Ds : List PyData} {D : PyData} (a : AccOk n z0 z1 i Ds) (t : TmOk n z1 z2 D) : AccOk n z0 z2 (i + 1) (Ds ++ [D]) := by
  obtain ⟨a1, a2, a3, a4, a5, a6⟩ := a
  obtain ⟨t1, t2, t3, t4, t5⟩ := t
  refine ⟨by omega, a2.app ⟨t2, trivial⟩, ?_, by rw [List.length_append, a4]; rfl, ?_, fun x hx => (List.mem_append.mp hx).elim (a6 x) fun h => by rw [List.mem_singleton.mp h]; exact t5⟩
  · rw [depth_app]
    simp only [PyData.depthAll]
    omega
  · rw [wtL_app]
    simp only [wtL]
    omega
theorem call1 {n : Nat} (D : Dw K mg) (Gt : FnOk P w K mg base CX0 (2 * n + 5) (He.fAd K ("_law_drawn_term", none)) (D.fd "_law_drawn_term") P__law_drawn_term (spTerm n)) :
    FnOk P w K mg base CX0 (2 * n + 6) (He.fAd K ("_law_drawn_call", none)) (D.fd "_law_drawn_call") P__law_drawn_call (spCall (n + 1)) := by
  have T := D.T
  have D__law_drawn_term := D.d_term
  have G__law_drawn_term : FnOk P w K mg base CX0 (2 * n + 5) (He.fAd K ("_law_drawn_term", none)) (D.fd "_law_drawn_term") P__law_drawn_term (spTerm n) := Gt
  refine (fun_of D.d_call.F).ok (k := 2 * n + 5) sc__law_drawn_call (fun vs H Q E h => ?_) (fun cdv A outer s H vs Q E hr h => ?_)
  · obtain ⟨d, L, b, p, kn, ld, nm, z, m, kv, rfl, _⟩ := h
    rfl
  · obtain ⟨d, L, b, p, kn, ld, nm, z, m, kv, rfl, hk, B, Ld, Nm, q⟩ := h
    have hu := hu_of hr
    have en : (((n + 1 : Nat) : Int) - 1) = (n : Int) := by omega
    refine ⟨_, (pss_cons (ps_dput hu (pv 1) pe_str (pe_op op_sub (pe_dget hu (pv 1) pe_str (fun _ _ => rfl)) pe_int) rfl)
      (pss_cons (ps_setLc (i := 6) (own := [("_law_turn", 7)]) (g := gName 7) (tt := tYes) (by rfl) sc__law_drawn_call.nd rfl rfl (sw_true rfl rfl rfl (by decide +kernel)) (pi_range1 rfl T.range (pa_cons (pe_ix ix_tup (pv 2) pe_int (fun _ _ => rfl)) pa_nil)) (blkOk_by (own := [("_law_turn", 7)]) (N := N__law_drawn_call) (sc := defScope s__law_drawn_call) (by decide +kernel)) (fun _ _ _ _ _ => (pg_name (i := 7) sc__law_drawn_call.nd rfl (.inl rfl))) (fun _ _ _ _ _ => pts_nil) (fun _ _ _ _ _ => (pe_call G__law_drawn_term (hr.mono (by first | decide | omega)) (by rfl) D__law_drawn_term.g D__law_drawn_term.F.kp D__law_drawn_term.b .nil pass0 (pa_cons (pv 0) (pa_cons (pv 1) (pa_cons (pv 3) (pa_cons (pv 3) (pa_cons (pe_op op_sub (pv 5) pe_int) pa_nil))))))))
      (pss_cons (ps_setLc (i := 8) (own := [("_law_turn", 7)]) (g := gName 7) (tt := tYes) (by rfl) sc__law_drawn_call.nd rfl rfl (sw_true rfl rfl rfl (by decide +kernel)) (pi_range1 rfl T.range (pa_cons (pe_ix ix_tup (pv 2) pe_int (fun _ _ => rfl)) pa_nil)) (blkOk_by (own := [("_law_turn", 7)]) (N := N__law_drawn_call) (sc := defScope s__law_drawn_call) (by decide +kernel)) (fun _ _ _ _ _ => (pg_name (i := 7) sc__law_drawn_call.nd rfl (.inl rfl))) (fun _ _ _ _ _ => pts_nil) (fun _ _ _ _ _ => (pe_call G__law_drawn_term (hr.mono (by first | decide | omega)) (by rfl) D__law_drawn_term.g D__law_drawn_term.F.kp D__law_drawn_term.b .nil pass0 (pa_cons (pv 0) (pa_cons (pv 1) (pa_cons (pv 3) (pa_cons (pv 4) (pa_cons (pe_op op_sub (pv 5) pe_int) pa_nil))))))))
      (pss_one (ps_ret (pe_tup (pa_cons pe_str (pa_cons (pe_ix ix_tup (pv 2) pe_int (fun _ _ => rfl)) (pa_cons (pe_callTy call_tuple_of (by rfl) T.tuple (by decide +kernel) (pa_cons (pv 6) pa_nil)) (pa_cons (pe_callTy call_tuple_of (by rfl) T.tuple (by decide +kernel) (pa_cons (pv 8) pa_nil)) pa_nil)))))))))), ?_⟩
    refine ⟨_, rfl, _, _, rfl, bget_f B.bx, _, _, rfl, rfl, _, rfl, b, _, rfl, bput_f B.bx, ?_⟩
    obtain ⟨B1, F1⟩ := B.setF (z - 1)
    generalize upd H b (.dK (bxV p (z - 1) kn)) = H1 at B1 F1
    obtain ⟨t, nmz, n1, n2, n3, rfl, ht, hnm, l1, l2, l3⟩ := hk
    have ht1 := F1.tp _ _ ht
    refine ⟨_, rfl, t, _, 1, _, rfl, rfl, SqT.of ht1, rfl, (n1 : Int), rfl, by omega, by omega, fun D1 nD1 => ?_⟩
    obtain ⟨nD, d1, d2, d3, d4, d5⟩ := Fb.fresh B1 F1 nD1
    refine lc_range (lo := 0) (n := (n1 : Int).toNat) (fun i H' => ∃ acc Ds z', H' D1 = some (.lst acc) ∧ DxAll (fun _ => True) H' acc Ds ∧ AccOk n (z - 1) z' i Ds ∧ Bx d L b p kn z' m H' ∧ Fb d L b p H H')
      ⟨[], [], z - 1, upd_same, .nil, ⟨by omega, trivial, Nat.zero_le _, rfl, by simp [wtL], (fun x hx => by cases hx)⟩, B1.new nD1, F1.trans (Fb.new nD1)⟩ (fun i H' hi h => ?_) (fun H2 h => ?_)
    · obtain ⟨acc, Ds, z', hD, hDs, ao, B2, F2⟩ := h
      refine ⟨rfl, ?_⟩
      refine ⟨_, rfl, _, rfl, _, rfl, _, rfl, _, rfl, _, _, rfl, rfl, ?_⟩
      refine ⟨d, L, b, p, kn, ld, ld, z', m, congrArg (fun y => [V.ref d, .ref b, .ref ld, .ref ld, V.int y]) en, B2, Ld.fb B F2, Ld.fb B F2, fun v D2 z2 H3 ok dt B3 F3 => ?_⟩
      have hD3 := F3.st D1 _ d1 d2 d3 d4 hD
      have la : acc.length = i := by rw [DxAll.length hDs, ao.2.2.2.1]
      have tp : ∀ c xs, H3 c = some (.tup xs) → (upd H3 D1 (.lst (acc ++ [v]))) c = some (.tup xs) := fun c xs e => by
        rw [upd_ne (ne_of e hD3 (by intro z; cases z))]
        exact e
      exact ⟨acc, hD3, small1000 (by omega), acc ++ [v], Ds ++ [D2], z2, upd_same, (DTs.fb (DTs.fb hDs F3.tp) tp).app (.cons (Dx.kp ⟨fun a o n => absurd trivial n, tp⟩ _ _ dt) .nil), ao.step ok, B3.mut hD3 d1 d2 d3 d4 d5, (F2.trans F3).mut (xs := acc) nD⟩
    · obtain ⟨acc1, Ds1, z1, hD1, hDs1, ao1, B2, F2⟩ := h
      have ht2 := F2.tp _ _ ht
      refine ⟨_, rfl, t, _, 2, _, rfl, rfl, SqT.of ht2, rfl, (n2 : Int), rfl, by omega, by omega, fun D6 nD6 => ?_⟩
      obtain ⟨nDb, e1, e2, e3, e4, e5⟩ := Fb.fresh B2 F2 nD6
      have e6 : D1 ≠ D6 := ne_of_none hD1 nD6
      refine lc_range (lo := 0) (n := (n2 : Int).toNat) (fun i H' => ∃ acc Ds z', H' D6 = some (.lst acc) ∧ DxAll (fun _ => True) H' acc Ds ∧ AccOk n z1 z' i Ds ∧ Bx d L b p kn z' m H' ∧ Fb d L b p H H' ∧ H' D1 = some (.lst acc1) ∧ DxAll (fun _ => True) H' acc1 Ds1)
        ⟨[], [], z1, upd_same, .nil, ⟨by omega, trivial, Nat.zero_le _, rfl, by simp [wtL], (fun x hx => by cases hx)⟩, B2.new nD6, F2.trans (Fb.new nD6), by rw [upd_ne e6]; exact hD1, DTs.fb hDs1 (Fb.new (d := d) (L := L) (b := b) (p := p) nD6).tp⟩ (fun i H' hi h => ?_) (fun H3 h => ?_)
      · obtain ⟨acc, Ds, z', hD, hDs, ao, B3, F3, hDD, hDDs⟩ := h
        refine ⟨rfl, ?_⟩
        refine ⟨_, rfl, _, rfl, _, rfl, _, rfl, _, rfl, _, _, rfl, rfl, ?_⟩
        refine ⟨d, L, b, p, kn, ld, nm, z', m, congrArg (fun y => [V.ref d, .ref b, .ref ld, .ref nm, V.int y]) en, B3, Ld.fb B F3, Nm.fb B F3, fun v D2 z2 H4 ok dt B4 F4 => ?_⟩
        have hD3 := F4.st D6 _ e1 e2 e3 e4 hD
        have la : acc.length = i := by rw [DxAll.length hDs, ao.2.2.2.1]
        have tp : ∀ c xs, H4 c = some (.tup xs) → (upd H4 D6 (.lst (acc ++ [v]))) c = some (.tup xs) := fun c xs e => by
          rw [upd_ne (ne_of e hD3 (by intro z; cases z))]
          exact e
        exact ⟨acc, hD3, small1000 (by omega), acc ++ [v], Ds ++ [D2], z2, upd_same, (DTs.fb (DTs.fb hDs F4.tp) tp).app (.cons (Dx.kp ⟨fun a o n => absurd trivial n, tp⟩ _ _ dt) .nil), ao.step ok, B4.mut hD3 e1 e2 e3 e4 e5, (F3.trans F4).mut (xs := acc) nDb,
          by rw [upd_ne e6]; exact F4.st D1 _ d1 d2 d3 d4 hDD, DTs.fb (DTs.fb hDDs F4.tp) tp⟩
      · obtain ⟨acc2, Ds2, z2, hD2, hDs2, ao2, B3, F3, hD1', hDs1'⟩ := h
        have ht3 := F3.tp _ _ ht
        refine ⟨_, rfl, t, _, 0, _, rfl, rfl, SqT.of ht3, rfl, ?_⟩
        refine ⟨_, rfl, D1, acc1, rfl, .inl ⟨SqL.of hD1', fun q1 nq1 => ?_⟩⟩
        refine ⟨_, rfl, D6, acc2, rfl, .inl ⟨SqL.of (by rw [upd_ne (ne_of_none hD2 nq1)]; exact hD2), fun q2 nq2 => ⟨by show 4 ≤ sizeLine; decide, fun q3 nq3 => ?_⟩⟩⟩
        have g1 : (upd (upd (upd H3 q1 (.tup acc1)) q2 (.tup acc2)) q3 (.tup [.str "call", .str nmz, .ref q1, .ref q2])) q1 = some (.tup acc1) := by
          have h1 : (upd H3 q1 (.tup acc1)) q1 = some (.tup acc1) := upd_same
          have h2 : (upd (upd H3 q1 (.tup acc1)) q2 (.tup acc2)) q1 = some (.tup acc1) := by rw [upd_ne (ne_of_none h1 nq2)]; exact h1
          rw [upd_ne (ne_of_none h2 nq3)]
          exact h2
        have g2 : (upd (upd (upd H3 q1 (.tup acc1)) q2 (.tup acc2)) q3 (.tup [.str "call", .str nmz, .ref q1, .ref q2])) q2 = some (.tup acc2) := by
          have h2 : (upd (upd H3 q1 (.tup acc1)) q2 (.tup acc2)) q2 = some (.tup acc2) := upd_same
          rw [upd_ne (ne_of_none h2 nq3)]
          exact h2
        have F4 : Fb d L b p H3 (upd (upd (upd H3 q1 (.tup acc1)) q2 (.tup acc2)) q3 (.tup [.str "call", .str nmz, .ref q1, .ref q2])) := (Fb.new nq1).trans ((Fb.new nq2).trans (Fb.new nq3))
        obtain ⟨a1, a2, a3, a4, a5, a6⟩ := ao1
        obtain ⟨c1, c2, c3, c4, c5, c6⟩ := ao2
        refine q _ (.tuple [.str "call", .str nmz, .tuple Ds1, .tuple Ds2]) z2 _ ⟨by omega, ?_, ?_, ?_, .call nmz a6 c6⟩ (.tup upd_same (.cons (.str _) (.cons (.str _) (.cons (.tup g1 (DTs.fb hDs1' F4.tp)) (.cons (.tup g2 (DTs.fb hDs2 F4.tp)) .nil))))) (((B3.new nq1).new nq2).new nq3) (F3.trans F4)
        · exact pt_tup (by show 4 ≤ 1000; decide) ⟨pt_str (n := 100) (ascn (by decide +kernel)) (by decide), pt_str hnm (by decide), pt_tup (by omega) a2, pt_tup (by omega) c2, trivial⟩
        · show max 0 (max 0 (max (PyData.depthAll Ds1 + 1) (max (PyData.depthAll Ds2 + 1) 0))) + 1 ≤ 2 * (n + 1) + 1
          omega
        · have := hnm.1
          show (10 * ("call" : Str).length + 2 + 2 + (10 * nmz.length + 2 + 2 + (wtL Ds1 + 3 + 2 + (wtL Ds2 + 3 + 2 + 0)))) + 3 + 2000 * z2.toNat ≤ 2350 + 2000 * z.toNat
          rw [show ("call" : Str).length = 4 from rfl]
          omega
/-- terms and calls to any depth -/
theorem Dw.term (D : Dw K mg) : ∀ n : Nat, FnOk P w K mg base CX0 (2 * n + 5) (He.fAd K ("_law_drawn_term", none)) (D.fd "_law_drawn_term") P__law_drawn_term (spTerm n)
  | 0 => term1 D (fun n' e => by cases e) (fun n' e => by cases e)
  | n + 1 => term1 D (fun n' e => by cases e; exact D.term n) (fun n' e => by cases e; exact call1 D (D.term n))
theorem Dw.call (D : Dw K mg) (n : Nat) : FnOk P w K mg base CX0 (2 * n + 6) (He.fAd K ("_law_drawn_call", none)) (D.fd "_law_drawn_call") P__law_drawn_call (spCall (n + 1)) := call1 D (D.term n)
end
end TD


set_option Elab.async false
set_option linter.all false
set_option maxRecDepth 100000
set_option maxHeartbeats 4000000
/-! Drawn blocks and commands. -/
namespace TD2
open PySem PySem.Spec PyProof.Rows L2 KT KG KM KX KQ KE0 KA KB KC KD KP KP2 KW TD GxR
/-- a list of at most N names -/
structure Nn (N : Nat) (L p : Addr) (H : Hp) (a : Addr) : Prop where
  s : ∃ ns : List Str, H a = some (.lst (ns.map V.str)) ∧ ns.length ≤ N ∧ ∀ x ∈ ns, AscN 20 x
  L : a ≠ L
  p : a ≠ p
section
variable {N : Nat} {d L b p kn a q : Addr} {z : Int} {m : Nat} {H H' : Hp}
theorem Nn.nl (n : Nn N L p H a) (h : N ≤ 1000) : Nl L p H a := by
  obtain ⟨ns, e, l, r⟩ := n.s
  exact ⟨⟨ns, e, by omega, r⟩, n.L, n.p⟩
theorem Nn.keep (n : Nn N L p H a) (h : ∀ xs, H a = some (.lst xs) → H' a = some (.lst xs)) : Nn N L p H' a := by
  obtain ⟨ns, e, l, r⟩ := n.s
  exact ⟨⟨ns, h _ e, l, r⟩, n.L, n.p⟩
theorem Nn.fb (n : Nn N L p H a) (B : Bx d L b p kn z m H) (f : Fb d L b p H H') : Nn N L p H' a := by
  obtain ⟨ns', mm, k, h1, h2, _⟩ := B.dk
  exact n.keep fun xs e => f.st a _ (ne_of e h1 (by intro z; cases z)) n.L (ne_of e B.bx (by intro z; cases z)) n.p e
theorem Nn.mono {N' : Nat} (n : Nn N L p H a) (h : N ≤ N') : Nn N' L p H a := by
  obtain ⟨ns, e, l, r⟩ := n.s
  exact ⟨⟨ns, e, by omega, r⟩, n.L, n.p⟩
theorem Nn.new (n : Nn N L p H a) {o : HO} (nq : H q = none) : Nn N L p (upd H q o) a := n.keep fun xs e => by
  rw [upd_ne (ne_of_none e nq)]
  exact e
end
theorem seq_nat {i n : Nat} (h : i < n) : seqIndex? (i : Int) n = some i := by
  unfold seqIndex?
  have i0 : ¬ ((i : Int) < 0) := by omega
  simp only [i0, if_false]
  rw [if_pos (by rw [Bool.and_eq_true]; exact ⟨decide_eq_true (by omega), decide_eq_true (by omega)⟩)]
  simp
theorem strs_data {as : List Str} (h : ∀ x ∈ as, AscN 20 x) : (∀ H, DxAll (fun _ => True) H (as.map V.str) (as.map PyData.str)) ∧ PtL (as.map PyData.str) ∧ PyData.depthAll (as.map PyData.str) = 0 ∧ wtL (as.map PyData.str) ≤ 204 * as.length := by
  induction as with
  | nil => exact ⟨fun _ => .nil, trivial, rfl, Nat.le_refl _⟩
  | cons a r ih =>
    obtain ⟨h1, h2, h3, h4⟩ := ih fun x hx => h x (List.mem_cons_of_mem _ hx)
    have ha := h a (List.mem_cons_self ..)
    refine ⟨fun H => .cons (.str _) (h1 H), ⟨pt_str ha (by decide), h2⟩, ?_, ?_⟩
    · show max 0 (PyData.depthAll (r.map PyData.str)) = 0
      rw [h3]
      rfl
    · have := ha.1
      show 10 * a.length + 2 + 2 + wtL (r.map PyData.str) ≤ 204 * (r.length + 1)
      omega
theorem DK.same' {d L : Addr} {H H' : Hp} (h : DK d L H) (s : ∀ c o, H c = some o → H' c = some o) : DK d L H' := by
  obtain ⟨ns, m, k, h1, h2, h3⟩ := h
  exact ⟨ns, m, k, s _ _ h1, s _ _ h2, h3⟩
def CmSh (D : PyData) : Prop := ∃ (k : Str) (a : PyData) (r : List PyData), D = .tuple (.str k :: a :: r) ∧ (k = "let" → ∃ x, a = .str x ∧ AscN 20 x)
mutual
inductive CmS : PyData → Prop
  | let_ {t : PyData} (x : Str) : TmS t → CmS (.tuple [.str "let", .str x, t])
  | set_ {t : PyData} (ns : List Str) : TmS t → CmS (.tuple [.str "set", .tuple (ns.map .str), t])
  | when_ {t : PyData} {bs : List PyData} : TmS t → bs.length = 3 → (∀ b ∈ bs, BkS b) → CmS (.tuple (.str "when" :: t :: bs))
  | each_ {b : PyData} (x r l : Str) : BkS b → CmS (.tuple [.str "each", .str x, .str r, .str l, b])
inductive BkS : PyData → Prop
  | mk {cs : List PyData} : (∀ c ∈ cs, CmS c) → BkS (.tuple cs)
end
def CmOk (n : Nat) (z : Int) (m : Nat) (z' : Int) (m' : Nat) (D : PyData) : Prop := z' ≤ z ∧ m' ≤ m ∧ Pt D ∧ D.depth ≤ 2 * n + 8 ∧ wt D + 10 + 6000 * (z'.toNat + m') ≤ 6000 * (z.toNat + m) ∧ CmSh D ∧ CmS D
def BkOk (n : Nat) (z : Int) (m : Nat) (z' : Int) (m' : Nat) (D : PyData) : Prop := z' ≤ z ∧ m' ≤ m ∧ Pt D ∧ D.depth ≤ 2 * n + 9 ∧ wt D + 6000 * (z'.toNat + m') ≤ 3 + 6000 * (z.toNat + m) ∧ BkS D
def spCmd (n : Nat) : Sp := fun vs H Q _ => ∃ (d L b p kn ld sf : Addr) (z : Int) (m : Nat), vs = [.ref d, .ref b, .ref ld, .ref sf, .int n] ∧ Bx d L b p kn z m H ∧ 0 < z ∧ 4 ≤ m ∧ m ≤ 900 ∧ Nn (990 - 10 * n) L p H ld ∧ Nn 6 L p H sf ∧
  ∀ v D z' m' H', CmOk n z m z' m' D → DT H' v D → Bx d L b p kn z' m' H' → Fb d L b p H H' → Q v H'
def spBlk (n : Nat) : Sp := fun vs H Q _ => ∃ (d L b p kn ld sf : Addr) (z : Int) (m : Nat), vs = [.ref d, .ref b, .ref ld, .ref sf, .int n] ∧ Bx d L b p kn z m H ∧ m ≤ 900 ∧ Nn (984 - 10 * n) L p H ld ∧ Nn 6 L p H sf ∧
  ∀ t vb ld' D z' m' H', H' t = some (.tup [vb, .ref ld']) → BkOk n z m z' m' D → DT H' vb D → Nn 990 L p H' ld' → Bx d L b p kn z' m' H' → Fb d L b p H H' → Q (.ref t) H'
/-- the commands so far -/
def CsOk (n i : Nat) (z : Int) (m : Nat) (z' : Int) (m' : Nat) (Ds : List PyData) : Prop := z' ≤ z ∧ m' ≤ m ∧ PtL Ds ∧ PyData.depthAll Ds ≤ 2 * n + 8 ∧ Ds.length ≤ i ∧ wtL Ds + 6000 * (z'.toNat + m') ≤ 6000 * (z.toNat + m) ∧ ∀ c ∈ Ds, CmS c
theorem CsOk.step {n i : Nat} {z z1 z2 : Int} {m m1 m2 : Nat} {Ds : List PyData} {D : PyData} (a : CsOk n i z m z1 m1 Ds) (t : CmOk n z1 m1 z2 m2 D) : CsOk n (i + 1) z m z2 m2 (Ds ++ [D]) := by
  obtain ⟨a1, a2, a3, a4, a5, a6, a7⟩ := a
  obtain ⟨t1, t2, t3, t4, t5, _, t7⟩ := t
  refine ⟨by omega, by omega, a3.app ⟨t3, trivial⟩, ?_, by rw [List.length_append]; show Ds.length + 1 ≤ _; omega, ?_, fun x hx => (List.mem_append.mp hx).elim (a7 x) fun h => by rw [List.mem_singleton.mp h]; exact t7⟩
  · rw [depth_app]
    simp only [PyData.depthAll]
    omega
  · rw [wtL_app]
    simp only [wtL]
    omega
abbrev N__law_drawn_block : List Str := ["_law_deck_here", "_law_box", "_law_leading", "_law_soft", "_law_deep", "_law_found", "_law_turn", "_law_command"]
abbrev P__law_drawn_block : List Str := ["_law_deck_here", "_law_box", "_law_leading", "_law_soft", "_law_deep"]
theorem sc__law_drawn_block : FnScope N__law_drawn_block P__law_drawn_block (defScope s__law_drawn_block) := ⟨rfl, rfl, rfl, by decide +kernel, rfl, by decide +kernel, by decide +kernel⟩
abbrev N__law_drawn_command : List Str := ["_law_deck_here", "_law_box", "_law_leading", "_law_soft", "_law_deep", "_law_way", "_law_term", "_law_some", "_law_turn", "_law_it", "_law_known", "_law_left", "_law_names", "_law_blocks", "_law_rest", "_law_letter", "_law_block"]
abbrev P__law_drawn_command : List Str := ["_law_deck_here", "_law_box", "_law_leading", "_law_soft", "_law_deep"]
theorem sc__law_drawn_command : FnScope N__law_drawn_command P__law_drawn_command (defScope s__law_drawn_command) := ⟨rfl, rfl, rfl, by decide +kernel, rfl, by decide +kernel, by decide +kernel⟩
section
variable {P : Program} {w : World} {K : PySem.W.Frag} {mg : Str → Option Value} {base : Heap}
structure Dx2 (K : PySem.W.Frag) (mg : Str → Option Value) extends Dw K mg where
  fb : Str → FuncData
  d_block : Df K mg "_law_drawn_block" s__law_drawn_block P__law_drawn_block (fb "_law_drawn_block")
  d_cmd : Df K mg "_law_drawn_command" s__law_drawn_command P__law_drawn_command (fb "_law_drawn_command")
theorem block1 {n : Nat} (D : Dx2 K mg) (Gc : FnOk P w K mg base CX0 (2 * n + 12) (He.fAd K ("_law_drawn_command", none)) (D.fb "_law_drawn_command") P__law_drawn_command (spCmd n)) (hn : n ≤ 5) :
    FnOk P w K mg base CX0 (2 * n + 13) (He.fAd K ("_law_drawn_block", none)) (D.fb "_law_drawn_block") P__law_drawn_block (spBlk n) := by
  have T := D.T
  have D__law_pick := D.d_pick
  have D__law_drawn_command := D.d_cmd
  have G__law_pick : FnOk P w K mg base CX0 2 (He.fAd K ("_law_pick", none)) (D.fd "_law_pick") P__law_pick (spPick K) := D.pick
  have G__law_drawn_command : FnOk P w K mg base CX0 (2 * n + 12) (He.fAd K ("_law_drawn_command", none)) (D.fb "_law_drawn_command") P__law_drawn_command (spCmd n) := Gc
  refine (fun_of D.d_block.F).ok (k := 2 * n + 12) sc__law_drawn_block (fun vs H Q E h => ?_) (fun cdv A outer s H vs Q E hr h => ?_)
  · obtain ⟨d, L, b, p, kn, ld, sf, z, m, rfl, _⟩ := h
    rfl
  · obtain ⟨d, L, b, p, kn, ld, sf, z, m, rfl, B, hm, Ld, Sf, q⟩ := h
    have hu := hu_of hr
    refine ⟨_, (pss_cons (ps_par (i := 5) (j := 2) (by rfl) sc__law_drawn_block.nd rfl rfl (by decide) rfl rfl (pa_cons (pe_lst pa_nil) (pa_cons (pe_callTy call_list_of (by rfl) T.list (by decide +kernel) (pa_cons (pv 2) pa_nil)) pa_nil)) (by rfl))
      (pss_cons (ps_for PassesOwn.never rfl (pi_range1 rfl T.range (pa_cons (pe_call G__law_pick (hr.mono (by first | decide | omega)) (by rfl) D__law_pick.g D__law_pick.F.kp D__law_pick.b .nil pass0 (pa_cons (pv 0) (pa_cons (pe_lst (pa_cons pe_int (pa_cons pe_int (pa_cons pe_int (pa_cons pe_int (pa_cons pe_int (pa_cons pe_int pa_nil))))))) pa_nil))) pa_nil)) (pg_name (i := 6) sc__law_drawn_block.nd rfl (.inl rfl)) (pss_one (ps_if (PW.pt (pw_and (pt_cmpR op_gt (pe_dget hu (pv 1) pe_str (fun _ _ => rfl)) pe_int (nomark _)) (pw_and1 (pt_cmpR op_gt (pe_callB call_len (by rfl) T.len (by decide +kernel) (pa_cons (pe_dget hu (pv 1) pe_str (fun _ _ => rfl)) pa_nil)) pe_int (nomark _))))) (pss_cons (ps_set (i := 7) sc__law_drawn_block.nd rfl (.inl rfl) (pe_call G__law_drawn_command (hr.mono (by first | decide | omega)) (by rfl) D__law_drawn_command.g D__law_drawn_command.F.kp D__law_drawn_command.b .nil pass0 (pa_cons (pv 0) (pa_cons (pv 1) (pa_cons (pv 2) (pa_cons (pv 3) (pa_cons (pv 4) pa_nil)))))))
              (pss_cons (ps_expr (pe_bm PySem.F.plainAttrs_list PySem.F.slot_list_append PySem.F.type_list_append mt_append (pv 5) (pa_cons (pv 7) pa_nil)))
              (pss_one (ps_if (pt_cmpR op_eq (pe_ix ix_tup (pv 7) pe_int (fun _ _ => rfl)) pe_str (nomark _)) (pss_one (ps_expr (pe_bm PySem.F.plainAttrs_list PySem.F.slot_list_append PySem.F.type_list_append mt_append (pv 2) (pa_cons (pe_ix ix_tup (pv 7) pe_int (fun _ _ => rfl)) pa_nil)))) pss_nil)))) pss_nil)))
      (pss_one (ps_ret (pe_tup (pa_cons (pe_callTy call_tuple_of (by rfl) T.tuple (by decide +kernel) (pa_cons (pv 5) pa_nil)) (pa_cons (pv 2) pa_nil))))))), ?_⟩
    refine ⟨Nat.zero_le _, fun fo nfo => ?_⟩
    obtain ⟨nf0, f1, f2, f3, f4, f5⟩ := Fb.fresh B (Fb.refl H) nfo
    have B1 := B.new (o := .lst []) nfo
    have Ld1 := Ld.new (o := .lst []) nfo
    have hfo : (upd H fo (.lst [])) fo = some (.lst []) := upd_same
    have F1 : Fb d L b p H (upd H fo (.lst [])) := Fb.new nfo
    generalize upd H fo (.lst []) = H1 at B1 Ld1 hfo F1
    obtain ⟨ns, e1, l1, a1⟩ := Ld1.s
    refine ⟨_, rfl, ld, _, rfl, .inl (SqL.of e1), fun l2 nl2 => ⟨_, _, rfl, ?_⟩⟩
    obtain ⟨nl0, g1, g2, g3, g4, g5⟩ := Fb.fresh B1 F1 nl2
    have fl : fo ≠ l2 := ne_of_none hfo nl2
    have B2 := B1.new (o := .lst (ns.map V.str)) nl2
    have F2 : Fb d L b p H (upd H1 l2 (.lst (ns.map V.str))) := F1.trans (Fb.new nl2)
    have hfo2 : (upd H1 l2 (.lst (ns.map V.str))) fo = some (.lst []) := by rw [upd_ne fl]; exact hfo
    have hl2 : (upd H1 l2 (.lst (ns.map V.str))) l2 = some (.lst (ns.map V.str)) := upd_same
    generalize upd H1 l2 (.lst (ns.map V.str)) = H2 at B2 F2 hfo2 hl2
    refine ⟨_, rfl, by show 6 ≤ sizeLine; decide, fun p1 np1 => pickL (Fr.refl B2.dk) np1 (by show 0 < 6; decide) (by show 6 ≤ 1000; decide) fun x hx H3 f3' => ?_⟩
    obtain ⟨r, rfl, r0, r1⟩ : ∃ r : Int, x = .int r ∧ 0 ≤ r ∧ r ≤ 4 := by
      simp only [List.mem_cons, List.not_mem_nil, or_false] at hx
      rcases hx with rfl | rfl | rfl | rfl | rfl | rfl <;> exact ⟨_, rfl, by decide, by decide⟩
    have B3 := B2.fr f3'
    have F3 := F2.trans (Fb.of (b := b) (p := p) B2.dk f3')
    refine ⟨r, rfl, by omega, by omega, for_range (lo := 0) (n := r.toNat) (fun i σ H' => ∃ (c6 c7 : Option V) (acc : List V) (Ds : List PyData) (ms : List Str) (z' : Int) (m' : Nat), σ = [some (.ref d), some (.ref b), some (.ref l2), some (.ref sf), some (.int n), some (.ref fo), c6, c7] ∧
      H' fo = some (.lst acc) ∧ DxAll (fun _ => True) H' acc Ds ∧ CsOk n i z m z' m' Ds ∧ H' l2 = some (.lst (ms.map V.str)) ∧ ms.length ≤ 984 - 10 * n + i ∧ (∀ x ∈ ms, AscN 20 x) ∧ Bx d L b p kn z' m' H' ∧ Fb d L b p H H')
      ⟨none, none, [], [], ns, z, m, rfl, f3'.st fo _ f1 f2 hfo2, .nil, ⟨by omega, by omega, trivial, Nat.zero_le _, Nat.zero_le _, by simp [wtL], (fun c hc => by cases hc)⟩, f3'.st l2 _ g1 g2 hl2, l1, a1, B3, F3⟩ (fun i σ H4 hi h => ?_) (fun σ H4 h => ?_)⟩
    · obtain ⟨c6, c7, acc, Ds, ms, z4, m4, rfl, hacc, hDs, cs, hms, lms, ams, B4, F4⟩ := h
      have skip : ∃ (c6 c7' : Option V) (acc : List V) (Ds : List PyData) (ms : List Str) (z' : Int) (m' : Nat), [some (V.ref d), some (.ref b), some (.ref l2), some (.ref sf), some (.int n), some (.ref fo), some (.int (0 + (i : Int))), c7] = [some (.ref d), some (.ref b), some (.ref l2), some (.ref sf), some (.int n), some (.ref fo), c6, c7'] ∧
          H4 fo = some (.lst acc) ∧ DxAll (fun _ => True) H4 acc Ds ∧ CsOk n (i + 1) z m z' m' Ds ∧ H4 l2 = some (.lst (ms.map V.str)) ∧ ms.length ≤ 984 - 10 * n + (i + 1) ∧ (∀ x ∈ ms, AscN 20 x) ∧ Bx d L b p kn z' m' H4 ∧ Fb d L b p H H4 :=
        ⟨_, _, acc, Ds, ms, z4, m4, rfl, hacc, hDs, ⟨cs.1, cs.2.1, cs.2.2.1, cs.2.2.2.1, by have := cs.2.2.2.2.1; omega, cs.2.2.2.2.2⟩, hms, by omega, ams, B4, F4⟩
      obtain ⟨ps, h1, h2, h3⟩ := B4.pl
      have hl : (ps.map V.str).length = m4 := by rw [List.length_map, h2]
      refine ⟨_, rfl, _, _, rfl, bget_f B4.bx, _, _, rfl, rfl, _, rfl, ite2 (fun hz => ?_) (fun _ => skip)⟩
      refine ⟨_, rfl, _, _, rfl, bget_p B4.bx, .ref p, (ps.map V.str).length, rfl, .inl ⟨_, SqL.of h1, rfl⟩, _, _, rfl, rfl, _, rfl, ite2 (fun hp => ?_) (fun _ => skip)⟩
      have m4l : 4 ≤ m4 := by have := of_decide_eq_true hp; omega
      refine ⟨_, rfl, _, rfl, _, rfl, _, rfl, _, rfl, d, L, b, p, kn, l2, sf, z4, m4, rfl, B4, of_decide_eq_true hz, m4l, by have := cs.2.1; omega, ⟨⟨ms, hms, by omega, ams⟩, g2, g4⟩, Sf.fb B F4, fun v D2 z5 m5 H5 ok dt B5 F5 => ?_⟩
      have hacc5 := F5.st fo _ f1 f2 f3 f4 hacc
      have hms5 := F5.st l2 _ g1 g2 g3 g4 hms
      have hDs5 := DTs.fb hDs F5.tp
      have la : acc.length ≤ 4 := by rw [DxAll.length hDs]; have := cs.2.2.2.2.1; omega
      refine ⟨_, rfl, .inl ⟨rfl, _, SqL.of hacc5⟩, _, rfl, fo, acc, v, rfl, rfl, hacc5, small1000 (by omega), ?_⟩
      have tp6 : ∀ c xs, H5 c = some (.tup xs) → (upd H5 fo (.lst (acc ++ [v]))) c = some (.tup xs) := fun c xs e => by
        rw [upd_ne (ne_of e hacc5 (by intro z; cases z))]
        exact e
      have B6 : Bx d L b p kn z5 m5 (upd H5 fo (.lst (acc ++ [v]))) := B5.mut hacc5 f1 f2 f3 f4 f5
      have F6 : Fb d L b p H (upd H5 fo (.lst (acc ++ [v]))) := (F4.trans F5).mut (xs := acc) nf0
      have hacc6 : (upd H5 fo (.lst (acc ++ [v]))) fo = some (.lst (acc ++ [v])) := upd_same
      have hms6 : (upd H5 fo (.lst (acc ++ [v]))) l2 = some (.lst (ms.map V.str)) := by rw [upd_ne fl.symm]; exact hms5
      have dt6 : DT (upd H5 fo (.lst (acc ++ [v]))) v D2 := Dx.kp ⟨fun a o n => absurd trivial n, tp6⟩ _ _ dt
      have hDs6 := DTs.fb hDs5 tp6
      generalize upd H5 fo (.lst (acc ++ [v])) = H6 at tp6 B6 F6 hacc6 hms6 dt6 hDs6
      have cs' := cs.step ok
      obtain ⟨k, a, rr, eD, hlet⟩ := ok.2.2.2.2.2.1
      subst eD
      obtain ⟨t, ws, rfl, ht, hws⟩ := Dx.tupOf dt6
      match ws, hws with
      | v0 :: v1 :: vr, .cons h0 (.cons hv1 _) =>
        cases h0
        refine ⟨_, rfl, t, _, 0, .str k, rfl, rfl, SqT.of ht, atI_nat (j := 0) rfl, rfl, _, congrArg V.bl (str_dec k "let"), ite2 (fun hk => ?_) (fun _ => ?_)⟩
        · obtain ⟨y, rfl, hy⟩ := hlet (of_decide_eq_true hk)
          cases hv1
          refine ⟨_, rfl, .inl ⟨rfl, _, SqL.of hms6⟩, _, rfl, t, _, 1, .str y, rfl, rfl, SqT.of ht, atI_nat (j := 1) rfl, l2, _, .str y, rfl, rfl, hms6, small1000 (by rw [List.length_map]; omega), ?_⟩
          have tp7 : ∀ c xs, H6 c = some (.tup xs) → (upd H6 l2 (.lst (ms.map V.str ++ [V.str y]))) c = some (.tup xs) := fun c xs e => by
            rw [upd_ne (ne_of e hms6 (by intro z; cases z))]
            exact e
          refine ⟨_, _, acc ++ [.ref t], Ds ++ [_], ms ++ [y], z5, m5, rfl, by rw [upd_ne fl]; exact hacc6, ?_, cs', ?_, by rw [List.length_append]; show ms.length + 1 ≤ _; omega, ?_, B6.mut hms6 g1 g2 g3 g4 g5, F6.mut (xs := ms.map V.str) nl0⟩
          · exact (DTs.fb hDs6 tp7).app (.cons (Dx.kp ⟨fun a o n => absurd trivial n, tp7⟩ _ _ dt6) .nil)
          · rw [upd_same, List.map_append]
            rfl
          · intro x hx
            rcases List.mem_append.mp hx with h | h
            · exact ams x h
            · rw [List.mem_singleton.mp h]
              exact hy
        · exact ⟨_, _, acc ++ [.ref t], Ds ++ [_], ms, z5, m5, rfl, hacc6, hDs6.app (.cons dt6 .nil), cs', hms6, by omega, ams, B6, F6⟩
    · obtain ⟨c6, c7, acc, Ds, ms, z4, m4, rfl, hacc, hDs, ⟨cs1, cs2, cs3, cs4, cs5, cs6, cs7⟩, hms, lms, ams, B4, F4⟩ := h
      refine ⟨_, rfl, fo, acc, rfl, .inl ⟨SqL.of hacc, fun q1 nq1 => ⟨_, rfl, by show 2 ≤ sizeLine; decide, fun q2 nq2 => ?_⟩⟩⟩
      have h1 : (upd H4 q1 (.tup acc)) q1 = some (.tup acc) := upd_same
      have N5 : Nn 990 L p (upd (upd H4 q1 (.tup acc)) q2 (.tup [.ref q1, .ref l2])) l2 := Nn.new (Nn.new ⟨⟨ms, hms, by omega, ams⟩, g2, g4⟩ nq1) nq2
      refine q q2 (.ref q1) l2 (.tuple Ds) z4 m4 _ upd_same ⟨by omega, by omega, pt_tup (by omega) cs3, ?_, ?_, .mk cs7⟩ (.tup (by rw [upd_ne (ne_of_none h1 nq2)]; exact h1) (DTs.fb hDs ((Fb.new (d := d) (L := L) (b := b) (p := p) nq1).trans (Fb.new nq2)).tp)) N5 ((B4.new nq1).new nq2) (F4.trans ((Fb.new nq1).trans (Fb.new nq2)))
      · show PyData.depthAll Ds + 1 ≤ 2 * n + 9
        omega
      · show wtL Ds + 3 + 6000 * (z4.toNat + m4) ≤ 3 + 6000 * (z.toNat + m)
        omega
theorem cmd1 {n : Nat} (D : Dx2 K mg) (hn : n ≤ 5) (Gb : ∀ n', n = n' + 1 → FnOk P w K mg base CX0 (2 * n' + 13) (He.fAd K ("_law_drawn_block", none)) (D.fb "_law_drawn_block") P__law_drawn_block (spBlk n')) :
    FnOk P w K mg base CX0 (2 * n + 12) (He.fAd K ("_law_drawn_command", none)) (D.fb "_law_drawn_command") P__law_drawn_command (spCmd n) := by
  have T := D.T
  have D__law_draw := D.d_draw
  have D__law_pick := D.d_pick
  have D__law_fresh := D.d_fresh
  have D__law_drawn_term := D.d_term
  have D__law_drawn_call := D.d_call
  have D__law_drawn_block := D.d_block
  have G__law_draw : FnOk P w K mg base CX0 1 (He.fAd K ("_law_draw", none)) (D.fd "_law_draw") P__law_draw spDraw := D.draw
  have G__law_pick : FnOk P w K mg base CX0 2 (He.fAd K ("_law_pick", none)) (D.fd "_law_pick") P__law_pick (spPick K) := D.pick
  have G__law_fresh : FnOk P w K mg base CX0 2 (He.fAd K ("_law_fresh", none)) (D.fd "_law_fresh") P__law_fresh spFresh := D.fresh
  let spT : Sp := fun vs H Q E => spTerm 2 vs H Q E ∨ spTerm 3 vs H Q E
  have G__law_drawn_term : FnOk P w K mg base CX0 11 (He.fAd K ("_law_drawn_term", none)) (D.fd "_law_drawn_term") P__law_drawn_term spT :=
    ⟨fun vs H Q E h => h.elim (fun h => (Dw.term (P := P) (w := w) (base := base) D.toDw 2).len _ _ _ _ h) (fun h => (Dw.term (P := P) (w := w) (base := base) D.toDw 3).len _ _ _ _ h),
      fun A outer s H args us vs Q E hr he hb hv h => h.elim (fun h => (Dw.term D.toDw 2).run A outer s H args us vs Q E (hr.mono (by omega)) he hb hv h) (fun h => (Dw.term D.toDw 3).run A outer s H args us vs Q E hr he hb hv h)⟩
  have G__law_drawn_call : FnOk P w K mg base CX0 8 (He.fAd K ("_law_drawn_call", none)) (D.fd "_law_drawn_call") P__law_drawn_call (spCall 2) := Dw.call D.toDw 1
  let sB : Sp := match n with
    | 0 => spNo
    | n' + 1 => spBlk n'
  have G__law_drawn_block : FnOk P w K mg base CX0 (2 * n + 11) (He.fAd K ("_law_drawn_block", none)) (D.fb "_law_drawn_block") P__law_drawn_block sB := by
    cases n with
    | zero => exact ok_no
    | succ n' => exact Gb n' rfl
  refine (fun_of D.d_cmd.F).ok (k := 2 * n + 11) sc__law_drawn_command (fun vs H Q E h => ?_) (fun cdv A outer s H vs Q E hr h => ?_)
  · obtain ⟨d, L, b, p, kn, ld, sf, z, m, rfl, _⟩ := h
    rfl
  · obtain ⟨d, L, b, p, kn, ld, sf, z, m, rfl, B, hz, hm4, hm, Ld, Sf, q⟩ := h
    obtain ⟨m0, rfl⟩ : ∃ m0, m = m0 + 1 := ⟨m - 1, by omega⟩
    have hu := hu_of hr
    refine ⟨_, (C8.pss_cut (ps_set (i := 5) sc__law_drawn_command.nd rfl (.inl rfl) (pe_call G__law_draw (hr.mono (by first | decide | omega)) (by rfl) D__law_draw.g D__law_draw.F.kp D__law_draw.b .nil pass0 (pa_cons (pv 0) (pa_cons (pe_ifExp (pt_cmpR op_gt (pv 4) pe_int (nomark _)) pe_int pe_int) pa_nil))))
      (C8.pss_cut (ps_if (PW.pt (pw_or (pt_cmpR op_eq (pv 5) pe_int (nomark _)) (pw_or (PW.pt (pw_and (pt_cmpR op_lt (pv 5) pe_int (nomark _)) (pw_and1 (pt_cmpR (op_eqE hr) (pv 3) (pe_lst pa_nil) (nomark _))))) (pw_or1 (PW.pt (pw_and (pt_cmpR op_gt (pv 5) pe_int (nomark _)) (pw_and1 (pt_cmpR (op_eqE hr) (pv 2) (pe_lst pa_nil) (nomark _))))))))) (pss_cons (ps_set (i := 6) sc__law_drawn_command.nd rfl (.inl rfl) (pe_call G__law_drawn_term (hr.mono (by first | decide | omega)) (by rfl) D__law_drawn_term.g D__law_drawn_term.F.kp D__law_drawn_term.b .nil pass0 (pa_cons (pv 0) (pa_cons (pv 1) (pa_cons (pv 2) (pa_cons (pv 2) (pa_cons pe_int pa_nil)))))))
          (pss_one (ps_ret (pe_tup (pa_cons pe_str (pa_cons (pe_call G__law_fresh (hr.mono (by first | decide | omega)) (by rfl) D__law_fresh.g D__law_fresh.F.kp D__law_fresh.b .nil pass0 (pa_cons (pv 0) (pa_cons (pv 1) pa_nil))) (pa_cons (pv 6) pa_nil))))))) pss_nil)
      (pss_cons (ps_if (pt_cmpR op_lt (pv 5) pe_int (nomark _)) (pss_cons (ps_setLc (i := 7) (own := [("_law_it", 9)]) (g := gName 9) (by rfl) sc__law_drawn_command.nd rfl rfl (sw_true rfl rfl rfl (by decide +kernel)) (pi_list (pe_dget hu (pv 1) pe_str (fun _ _ => rfl))) (blkOk_by (own := [("_law_it", 9)]) (N := N__law_drawn_command) (sc := defScope s__law_drawn_command) (by decide +kernel)) (fun _ _ _ _ _ => (pg_name (i := 9) sc__law_drawn_command.nd rfl (.inl rfl))) (fun _ _ _ _ _ => (pts_one (pt_chain op_lt op_le pe_int (pe_ix (show IxR _ (rIxT K) from ix_tup) (pv 9) pe_int (fun _ _ => rfl)) (pe_callB (show CallR _ (.builtin "len") (rLen K) from call_len) (by rfl) T.len (by decide +kernel) (pa_cons (pv 3) pa_nil))))) (fun _ _ _ _ _ => (pv 9)))
          (C8.pss_cut (ps_if (PW.pt (pw_and (pt_cmpR (op_neE hr) (pv 7) (pe_lst pa_nil) (nomark _)) (pw_and1 (pt_cmpR op_eq (pe_call G__law_draw (hr.mono (by first | decide | omega)) (by rfl) D__law_draw.g D__law_draw.F.kp D__law_draw.b .nil pass0 (pa_cons (pv 0) (pa_cons pe_int pa_nil))) pe_int (nomark _))))) (pss_cons (ps_par3 (i := 10) (j := 11) (l := 12) (by rfl) sc__law_drawn_command.nd rfl rfl rfl (by decide) (by decide) (by decide) rfl rfl rfl (pa_cons (pe_call G__law_pick (hr.mono (by first | decide | omega)) (by rfl) D__law_pick.g D__law_pick.F.kp D__law_pick.b .nil pass0 (pa_cons (pv 0) (pa_cons (pv 7) pa_nil))) (pa_cons (pe_callTy call_list_of (by rfl) T.list (by decide +kernel) (pa_cons (pv 3) pa_nil)) (pa_cons (pe_lst pa_nil) pa_nil))) (by rfl))
              (pss_cons (ps_for PassesOwn.never rfl (pi_range1 rfl T.range (pa_cons (pe_ix ix_tup (pv 10) pe_int (fun _ _ => rfl)) pa_nil)) (pg_name (i := 8) sc__law_drawn_command.nd rfl (.inl rfl)) (pss_one (ps_expr (pe_bm PySem.F.plainAttrs_list PySem.F.slot_list_append PySem.F.type_list_append mt_append (pv 12) (pa_cons (pe_bm PySem.F.plainAttrs_list PySem.F.slot_list_pop PySem.F.type_list_pop mt_popAt (pv 11) (pa_cons (pe_call G__law_draw (hr.mono (by first | decide | omega)) (by rfl) D__law_draw.g D__law_draw.F.kp D__law_draw.b .nil pass0 (pa_cons (pv 0) (pa_cons (pe_callB call_len (by rfl) T.len (by decide +kernel) (pa_cons (pv 11) pa_nil)) pa_nil))) pa_nil)) pa_nil)))))
              (pss_one (ps_ret (pe_tup (pa_cons pe_str (pa_cons (pe_callTy call_tuple_of (by rfl) T.tuple (by decide +kernel) (pa_cons (pv 12) pa_nil)) (pa_cons (pe_call G__law_drawn_call (hr.mono (by first | decide | omega)) (by rfl) D__law_drawn_call.g D__law_drawn_call.F.kp D__law_drawn_call.b .nil pass0 (pa_cons (pv 0) (pa_cons (pv 1) (pa_cons (pv 10) (pa_cons (pv 2) (pa_cons (pe_op op_cat (pv 2) (pv 3)) (pa_cons pe_int pa_nil))))))) pa_nil)))))))) pss_nil)
          (pss_one (ps_ret (pe_tup (pa_cons pe_str (pa_cons (pe_tup (pa_cons (pe_call G__law_pick (hr.mono (by first | decide | omega)) (by rfl) D__law_pick.g D__law_pick.F.kp D__law_pick.b .nil pass0 (pa_cons (pv 0) (pa_cons (pv 3) pa_nil))) pa_nil)) (pa_cons (pe_call G__law_drawn_term (hr.mono (by first | decide | omega)) (by rfl) D__law_drawn_term.g D__law_drawn_term.F.kp D__law_drawn_term.b .nil pass0 (pa_cons (pv 0) (pa_cons (pv 1) (pa_cons (pv 2) (pa_cons (pe_op op_cat (pv 2) (pv 3)) (pa_cons pe_int pa_nil)))))) pa_nil)))))))) pss_nil)
      (pss_cons (ps_if (pt_cmpR op_lt (pv 5) pe_int (nomark _)) (pss_cons (ps_par (i := 6) (j := 13) (by rfl) sc__law_drawn_command.nd rfl rfl (by decide) rfl rfl (pa_cons (pe_call G__law_drawn_term (hr.mono (by first | decide | omega)) (by rfl) D__law_drawn_term.g D__law_drawn_term.F.kp D__law_drawn_term.b .nil pass0 (pa_cons (pv 0) (pa_cons (pv 1) (pa_cons (pv 2) (pa_cons (pe_op op_cat (pv 2) (pv 3)) (pa_cons pe_int pa_nil)))))) (pa_cons (pe_lst pa_nil) pa_nil)) (by rfl))
          (pss_cons (ps_for PassesOwn.never rfl (pi_range1 rfl T.range (pa_cons pe_int pa_nil)) (pg_name (i := 8) sc__law_drawn_command.nd rfl (.inl rfl)) (pss_one (ps_expr (pe_bm PySem.F.plainAttrs_list PySem.F.slot_list_append PySem.F.type_list_append mt_append (pv 13) (pa_cons (pe_ix ix_tup (pe_call G__law_drawn_block (hr.mono (by first | decide | omega)) (by rfl) D__law_drawn_block.g D__law_drawn_block.F.kp D__law_drawn_block.b .nil pass0 (pa_cons (pv 0) (pa_cons (pv 1) (pa_cons (pv 2) (pa_cons (pv 3) (pa_cons (pe_op op_sub (pv 4) pe_int) pa_nil)))))) pe_int (fun _ _ => rfl)) pa_nil)))))
          (pss_one (ps_ret (pe_op op_catT (pe_tup (pa_cons pe_str (pa_cons (pv 6) pa_nil))) (pe_callTy call_tuple_of (by rfl) T.tuple (by decide +kernel) (pa_cons (pv 13) pa_nil))))))) pss_nil)
      (pss_cons (ps_par (i := 14) (j := 15) (by rfl) sc__law_drawn_command.nd rfl rfl (by decide) rfl rfl (pa_cons (pe_call G__law_fresh (hr.mono (by first | decide | omega)) (by rfl) D__law_fresh.g D__law_fresh.F.kp D__law_fresh.b .nil pass0 (pa_cons (pv 0) (pa_cons (pv 1) pa_nil))) (pa_cons (pe_call G__law_fresh (hr.mono (by first | decide | omega)) (by rfl) D__law_fresh.g D__law_fresh.F.kp D__law_fresh.b .nil pass0 (pa_cons (pv 0) (pa_cons (pv 1) pa_nil))) pa_nil)) (by rfl))
      (pss_cons (ps_set (i := 16) sc__law_drawn_command.nd rfl (.inl rfl) (pe_ix ix_tup (pe_call G__law_drawn_block (hr.mono (by first | decide | omega)) (by rfl) D__law_drawn_block.g D__law_drawn_block.F.kp D__law_drawn_block.b .nil pass0 (pa_cons (pv 0) (pa_cons (pv 1) (pa_cons (pe_op op_cat (pv 2) (pe_lst (pa_cons (pv 14) (pa_cons (pv 15) pa_nil)))) (pa_cons (pv 3) (pa_cons (pe_op op_sub (pv 4) pe_int) pa_nil)))))) pe_int (fun _ _ => rfl)))
      (pss_one (ps_ret (pe_tup (pa_cons pe_str (pa_cons (pe_call G__law_pick (hr.mono (by first | decide | omega)) (by rfl) D__law_pick.g D__law_pick.F.kp D__law_pick.b .nil pass0 (pa_cons (pv 0) (pa_cons (pv 2) pa_nil))) (pa_cons (pv 14) (pa_cons (pv 15) (pa_cons (pv 16) pa_nil)))))))))))))), ?_⟩
    refine ⟨fun σ' H' => ∃ way : Int, σ' = [some (.ref d), some (.ref b), some (.ref ld), some (.ref sf), some (.int n), some (.int way), none, none, none, none, none, none, none, none, none, none, none] ∧ 0 ≤ way ∧ way < 8 ∧ (4 ≤ way → 0 < n) ∧ Fr d L H H', ?_, fun σ' H' hM => ?_⟩
    · refine ⟨_, rfl, _, rfl, _, _, rfl, rfl, _, rfl, ite2 (fun hn => ?_) (fun hn => ?_)⟩
      · exact ⟨d, L, _, rfl, B.dk, by decide, by decide, fun r H2 r0 r1 f => ⟨r, rfl, r0, r1, fun _ => by have := of_decide_eq_true hn; omega, f⟩⟩
      · exact ⟨d, L, _, rfl, B.dk, by decide, by decide, fun r H2 r0 r1 f => ⟨r, rfl, r0, by omega, fun _ => by omega, f⟩⟩
    obtain ⟨way, rfl, w0, w8, w4, f1⟩ := hM
    have B1 := B.fr f1
    have F1 := Fb.of (b := b) (p := p) B.dk f1
    clear f1
    have finL : ∀ {H4 H5 H6 : Hp} {v : V} {D1 : PyData} {z1 : Int} {x : Str} {q2 : Addr}, Bx d L b p kn z (m0 + 1) H4 → Fb d L b p H H4 → TmOk 2 z z1 D1 → DT H5 v D1 → Bx d L b p kn z1 (m0 + 1) H5 → Fb d L b p H4 H5 → AscN 20 x → Bx d L b p kn z1 m0 H6 → Fb d L b p H5 H6 → H6 q2 = none →
        Q (.ref q2) (upd H6 q2 (.tup [.str "let", .str x, v])) := fun {H4 H5 H6 v D1 z1 x q2} B4 F4 ok dt B5 F5 hx B6 F6 nq2 => by
      obtain ⟨o1, o2, o3, o4, o5⟩ := ok
      have hxl := hx.1
      have dt6 : DT (upd H6 q2 (.tup [.str "let", .str x, v])) v D1 := DT.fb dt (F6.trans (Fb.new nq2))
      refine q _ (.tuple [.str "let", .str x, D1]) z1 m0 _ ⟨by omega, by omega, ?_, ?_, ?_, ⟨"let", .str x, [D1], rfl, fun _ => ⟨x, rfl, hx⟩⟩, .let_ x o5⟩ (.tup upd_same (.cons (.str _) (.cons (.str _) (.cons dt6 .nil)))) (B6.new nq2) ((F4.trans F5).trans (F6.trans (Fb.new nq2)))
      · exact pt_tup (by show 3 ≤ 1000; decide) ⟨pt_str (n := 100) (ascn (by decide +kernel)) (by decide), pt_str hx (by decide), o2, trivial⟩
      · show max 0 (max 0 (max D1.depth 0)) + 1 ≤ 2 * n + 8
        omega
      · show (10 * ("let" : Str).length + 2 + 2 + (10 * x.length + 2 + 2 + (wt D1 + 2 + 0))) + 3 + 10 + 6000 * (z1.toNat + m0) ≤ 6000 * (z.toNat + (m0 + 1))
        rw [show ("let" : Str).length = 3 from rfl]
        omega
    refine ⟨fun σ' H4 => σ' = [some (.ref d), some (.ref b), some (.ref ld), some (.ref sf), some (.int n), some (.int way), none, none, none, none, none, none, none, none, none, none, none] ∧ Bx d L b p kn z (m0 + 1) H4 ∧ Fb d L b p H H4 ∧ 1 ≤ way ∧ (way < 4 → ∃ ns : List Str, H4 sf = some (.lst (ns.map V.str)) ∧ 0 < ns.length ∧ ns.length ≤ 6 ∧ ∀ x ∈ ns, AscN 20 x) ∧ (5 < way → ∃ ns : List Str, H4 ld = some (.lst (ns.map V.str)) ∧ 0 < ns.length ∧ ns.length ≤ 990 ∧ ∀ x ∈ ns, AscN 20 x), ?_, fun σ' H4 hM => ?_⟩
    · have Ld1 := Ld.fb B F1
      refine ⟨_, rfl, rfl, _, rfl, ite2 (fun _ => ?_) (fun hw0 => ?_)⟩
      · exact ⟨_, rfl, _, rfl, _, rfl, _, rfl, .inl ⟨d, L, b, p, kn, ld, ld, z, m0 + 1, rfl, B1, Ld1.nl (by omega), Ld1.nl (by omega), fun v D1 z1 H5 ok dt B5 F5 => ⟨_, rfl, _, rfl, d, L, b, p, kn, z1, m0, rfl, B5, by omega, fun x H6 hx B6 F6 => ⟨_, rfl, by show 3 ≤ sizeLine; decide, fun q2 nq2 => finL B1 F1 ok dt B5 F5 hx B6 F6 nq2⟩⟩⟩⟩
      have w1 : 1 ≤ way := by
        by_cases h : way = 0
        · exact absurd (decide_eq_true (by rw [h])) hw0
        · omega
      -- soft == []
      have tail : ∀ {H4 : Hp}, Bx d L b p kn z (m0 + 1) H4 → Fb d L b p H H4 → (way < 4 → ∃ ns : List Str, H4 sf = some (.lst (ns.map V.str)) ∧ 0 < ns.length ∧ ns.length ≤ 6 ∧ ∀ x ∈ ns, AscN 20 x) → True := fun _ _ _ => trivial
      refine ⟨_, rfl, _, _, rfl, rfl, _, rfl, ite2 (fun hw => ?_) (fun hw => ?_)⟩
      · have w3 : way < 4 := of_decide_eq_true hw
        refine ⟨_, rfl, Nat.zero_le _, fun p1 np1 => ?_⟩
        have B2 := B1.new (o := .lst []) np1
        have F2 := F1.trans (Fb.new (o := .lst []) np1)
        have Sf2 := Sf.fb B F2
        have Ld2 := Ld.fb B F2
        obtain ⟨ns, e, l, a⟩ := Sf2.s
        refine ⟨sf, p1, ns.map V.str, rfl, rfl, .inl ⟨SqL.of e, SqL.of upd_same⟩, _, rfl, ite2 (fun _ => ?_) (fun hne => ?_)⟩
        · exact ⟨_, rfl, _, rfl, _, rfl, _, rfl, .inl ⟨d, L, b, p, kn, ld, ld, z, m0 + 1, rfl, B2, Ld2.nl (by omega), Ld2.nl (by omega), fun v D1 z1 H5 ok dt B5 F5 => ⟨_, rfl, _, rfl, d, L, b, p, kn, z1, m0, rfl, B5, by omega, fun x H6 hx B6 F6 => ⟨_, rfl, by show 3 ≤ sizeLine; decide, fun q2 nq2 => finL B2 F2 ok dt B5 F5 hx B6 F6 nq2⟩⟩⟩⟩
        · have l0 : 0 < ns.length := by
            cases ns with
            | nil => exact absurd rfl hne
            | cons _ _ => exact Nat.succ_pos _
          refine ⟨_, rfl, _, _, rfl, rfl, _, rfl, ite2 (fun h => absurd (of_decide_eq_true h) (by omega)) (fun _ => ⟨rfl, B2, F2, w1, fun _ => ⟨ns, e, l0, l, a⟩, fun h => by omega⟩)⟩
      · have w4' : ¬ way < 4 := fun h => hw (decide_eq_true h)
        refine ⟨_, rfl, _, _, rfl, rfl, _, rfl, ite2 (fun h5 => ?_) (fun h5 => ⟨rfl, B1, F1, w1, fun h => absurd h w4', fun h => absurd (decide_eq_true h) h5⟩)⟩
        refine ⟨_, rfl, Nat.zero_le _, fun p1 np1 => ?_⟩
        have B2 := B1.new (o := .lst []) np1
        have F2 := F1.trans (Fb.new (o := .lst []) np1)
        have Ld2 := Ld.fb B F2
        obtain ⟨ns, e, l, a⟩ := Ld2.s
        refine ⟨ld, p1, ns.map V.str, rfl, rfl, .inl ⟨SqL.of e, SqL.of upd_same⟩, _, rfl, ite2 (fun _ => ?_) (fun hne => ?_)⟩
        · exact ⟨_, rfl, _, rfl, _, rfl, _, rfl, .inl ⟨d, L, b, p, kn, ld, ld, z, m0 + 1, rfl, B2, Ld2.nl (by omega), Ld2.nl (by omega), fun v D1 z1 H5 ok dt B5 F5 => ⟨_, rfl, _, rfl, d, L, b, p, kn, z1, m0, rfl, B5, by omega, fun x H6 hx B6 F6 => ⟨_, rfl, by show 3 ≤ sizeLine; decide, fun q2 nq2 => finL B2 F2 ok dt B5 F5 hx B6 F6 nq2⟩⟩⟩⟩
        · have l0 : 0 < ns.length := by
            cases ns with
            | nil => exact absurd rfl hne
            | cons _ _ => exact Nat.succ_pos _
          exact ⟨rfl, B2, F2, w1, fun h => absurd h w4', fun _ => ⟨ns, e, l0, by omega, a⟩⟩
    clear B1 F1 finL
    obtain ⟨rfl, B1, F1, w1, hsf, hld⟩ := hM
    have Ld1 := Ld.fb B F1
    have Sf1 := Sf.fb B F1
    -- leading + soft
    have both : ∀ {H4 : Hp}, Bx d L b p kn z (m0 + 1) H4 ∨ True → Nn (990 - 10 * n) L p H4 ld → Nn 6 L p H4 sf → ∃ xs ys : List Str, H4 ld = some (.lst (xs.map V.str)) ∧ H4 sf = some (.lst (ys.map V.str)) ∧ xs.length + ys.length ≤ 1000 ∧ ∀ x ∈ xs ++ ys, AscN 20 x := fun {H4} _ l s => by
      obtain ⟨xs, e1, l1, a1⟩ := l.s
      obtain ⟨ys, e2, l2, a2⟩ := s.s
      refine ⟨xs, ys, e1, e2, by omega, fun x hx => ?_⟩
      rcases List.mem_append.mp hx with h | h
      · exact a1 x h
      · exact a2 x h
    refine ⟨_, rfl, _, _, rfl, rfl, _, rfl, ite2 (fun hw => ?_) (fun hw => ?_)⟩
    · have w3 : way < 4 := of_decide_eq_true hw
      obtain ⟨ss, es, ls0, ls6, as⟩ := hsf w3
      obtain ⟨ks, k1, k2, k3⟩ := B1.ks
      refine ⟨_, rfl, _, _, rfl, bget_n B1.bx, kn, rfl, ⟨_, SqL.of k1⟩, fun D9 nD => ?_⟩
      obtain ⟨nD0, d1, d2, d3, d4, d5⟩ := Fb.fresh B1 F1 nD
      have dsf : sf ≠ D9 := ne_of_none es nD
      refine lc_it (n := ks.length) walk_list (fun j H3 => ∃ acc : List V, H3 D9 = some (.lst acc) ∧ acc.length ≤ j ∧ (∀ k ∈ acc, ∃ (t : Addr) (x : Str) (n1 n2 n3 : Nat), k = .ref t ∧ H4 t = some (.tup [.str x, .int n1, .int n2, .int n3]) ∧ AscN 20 x ∧ n1 ≤ 3 ∧ n2 ≤ 2 ∧ 2 ≤ n3 ∧ n3 ≤ 3 ∧ n3 ≤ ss.length) ∧ ∀ c, c ≠ D9 → H3 c = H4 c) ⟨[], upd_same, Nat.zero_le _, (fun k hk => by cases hk), fun c hc => upd_ne hc⟩ (fun j H3 _ h => ?_) (fun j x H3 H5 hj h y => ?_) (fun H3 h => ?_)
      · obtain ⟨acc, _, _, _, hk⟩ := h
        exact SqL.of (by rw [hk kn d5.symm]; exact k1)
      · obtain ⟨rfl, hx⟩ := y
        obtain ⟨acc, hD, hl, ha, hk⟩ := h
        have hmem := List.mem_of_getElem? hx
        obtain ⟨t, nmz, n1, n2, n3, rfl, ht, t1, t2, t3, t4, t5⟩ := k3 x hmem
        have ht' : H5 t = some (.tup [.str nmz, .int n1, .int n2, .int n3]) := by
          rw [hk t (fun z => by rw [z, nD] at ht; cases ht)]
          exact ht
        have es' : H5 sf = some (.lst (ss.map V.str)) := by rw [hk sf dsf]; exact es
        refine ⟨rfl, _, rfl, t, _, 3, _, rfl, rfl, SqT.of ht', rfl, _, _, rfl, rfl, _, rfl, ite2 (fun g1 => ?_) (fun _ => ⟨_, rfl, ?_⟩)⟩
        · refine ⟨_, rfl, .ref sf, (ss.map V.str).length, rfl, .inl ⟨_, SqL.of es', rfl⟩, _, _, rfl, rfl, _, rfl, ite2 (fun g2 => ⟨_, rfl, acc, hD, small1000 (by omega), acc ++ [.ref t], upd_same, by rw [List.length_append]; show acc.length + 1 ≤ _; omega, fun k hk' => ?_, fun c hc => by rw [upd_ne hc]; exact hk c hc⟩) (fun _ => ⟨acc, hD, by omega, ha, hk⟩)⟩
          rcases List.mem_append.mp hk' with h1 | h1
          · exact ha k h1
          · rw [List.mem_singleton.mp h1]
            have q1 := of_decide_eq_true g1
            have q2 := of_decide_eq_true g2
            rw [List.length_map] at q2
            exact ⟨t, nmz, n1, n2, n3, rfl, ht, t1, t2, t3, by omega, t5, by omega⟩
        · exact ⟨acc, hD, by omega, ha, hk⟩
      obtain ⟨acc, hD, hl, ha, hk⟩ := h
      have st3 : ∀ c o, H4 c = some o → H3 c = some o := fun c o e => by
        rw [hk c (fun z => by rw [z, nD] at e; cases e)]
        exact e
      have B3 := B1.keep (H' := H3) (DK.same' B1.dk st3) (fun c o _ _ e => st3 c o e)
      have F3 : Fb d L b p H H3 := F1.trans ⟨fun c o _ _ _ _ e => st3 c o e, fun c xs e => st3 c _ e⟩
      have es3 := st3 _ _ es
      have la : acc.length ≤ 1000 := by omega
      have ka : ∀ k ∈ acc, ∃ (t : Addr) (x : Str) (n1 n2 n3 : Nat), k = .ref t ∧ H3 t = some (.tup [.str x, .int n1, .int n2, .int n3]) ∧ AscN 20 x ∧ n1 ≤ 3 ∧ n2 ≤ 2 ∧ 2 ≤ n3 ∧ n3 ≤ 3 ∧ n3 ≤ ss.length := fun k hk' => by
        obtain ⟨t, x, n1, n2, n3, e, h, r⟩ := ha k hk'
        exact ⟨t, x, n1, n2, n3, e, st3 _ _ h, r⟩
      clear hk ha hl nD k1 k2 k3 st3 es Ld1 Sf1 B1 F1
      refine ⟨fun σ' H5 => σ' = [some (.ref d), some (.ref b), some (.ref ld), some (.ref sf), some (.int n), some (.int way), none, some (.ref D9), none, none, none, none, none, none, none, none, none] ∧ Bx d L b p kn z (m0 + 1) H5 ∧ Fb d L b p H H5 ∧ H5 sf = some (.lst (ss.map V.str)), ?_, fun σ' H5 hM => ?_⟩
      · refine ⟨_, rfl, Nat.zero_le _, fun p1 np1 => ?_⟩
        have B4 := B3.new (o := .lst []) np1
        have F4 := F3.trans (Fb.new (o := .lst []) np1)
        have es4 : (upd H3 p1 (.lst [])) sf = some (.lst (ss.map V.str)) := by rw [upd_ne (ne_of_none es3 np1)]; exact es3
        have hD4 : (upd H3 p1 (.lst [])) D9 = some (.lst acc) := by rw [upd_ne (ne_of_none hD np1)]; exact hD
        have tp4 : ∀ c xs, H3 c = some (.tup xs) → (upd H3 p1 (.lst [])) c = some (.tup xs) := fun c xs e => by rw [upd_ne (ne_of_none e np1)]; exact e
        refine ⟨D9, p1, acc, rfl, rfl, .inl ⟨SqL.of hD4, SqL.of upd_same⟩, _, rfl, ite2 (fun hne => ?_) (fun _ => ⟨rfl, B4, F4, es4⟩)⟩
        generalize upd H3 p1 (.lst []) = H5 at B4 F4 es4 hD4 tp4
        refine ⟨_, rfl, d, L, _, rfl, B4.dk, by decide, by decide, fun r H6 r0 r1 f6 => ?_⟩
        have B6 := B4.fr f6
        have F6 := F4.trans (Fb.of (b := b) (p := p) B4.dk f6)
        have es6 := f6.st sf _ (by obtain ⟨ns', mm, k, h1, h2, _⟩ := B4.dk; exact ne_of es4 h1 (by intro z; cases z)) Sf.L es4
        have hD6 := f6.st D9 _ d1 d2 hD4
        refine ⟨rfl, _, rfl, ite2 (fun _ => ?_) (fun _ => ⟨rfl, B6, F6, es6⟩)⟩
        have l0 : 0 < acc.length := by
          cases acc with
          | nil => cases hne
          | cons _ _ => exact Nat.succ_pos _
        refine ⟨_, rfl, _, rfl, d, L, D9, acc, rfl, B6.dk, d2, .inl (SqL.of hD6), l0, by omega, fun i x H7 hx f7 => ?_⟩
        obtain ⟨t, nmz, n1, n2, n3, rfl, ht, t1, t2, t3, t4, t5, t6⟩ := ka x (List.mem_of_getElem? hx)
        have ht7 : H7 t = some (.tup [.str nmz, .int n1, .int n2, .int n3]) := fr_tp B6.dk f7 _ _ (fr_tp B4.dk f6 _ _ (tp4 _ _ ht))
        have B7 := B6.fr f7
        have F7 := F6.trans (Fb.of (b := b) (p := p) B6.dk f7)
        have es7 := f7.st sf _ (by obtain ⟨ns', mm, k, h1, h2, _⟩ := B6.dk; exact ne_of es6 h1 (by intro z; cases z)) Sf.L es6
        clear ht ka tp4 hD4 es4 hD6 es6 B4 F4 B6 F6 f6 f7
        refine ⟨_, rfl, sf, _, rfl, .inl (SqL.of es7), fun lf nlf => ?_⟩
        obtain ⟨lf0, a1, a2, a3, a4, a5⟩ := Fb.fresh B7 F7 nlf
        have B8 := B7.new (o := .lst (ss.map V.str)) nlf
        have F8 := F7.trans (Fb.new (o := .lst (ss.map V.str)) nlf)
        have hlf : (upd H7 lf (.lst (ss.map V.str))) lf = some (.lst (ss.map V.str)) := upd_same
        have ht8 : (upd H7 lf (.lst (ss.map V.str))) t = some (.tup [.str nmz, .int n1, .int n2, .int n3]) := by rw [upd_ne (ne_of_none ht7 nlf)]; exact ht7
        generalize upd H7 lf (.lst (ss.map V.str)) = H8 at B8 F8 hlf ht8
        refine ⟨Nat.zero_le _, fun nl nnl => ⟨_, _, _, rfl, ?_⟩⟩
        obtain ⟨nl0, e1, e2, e3, e4, e5⟩ := Fb.fresh B8 F8 nnl
        have ll : lf ≠ nl := ne_of_none hlf nnl
        have ht9 : (upd H8 nl (.lst [])) t = some (.tup [.str nmz, .int n1, .int n2, .int n3]) := by rw [upd_ne (ne_of_none ht8 nnl)]; exact ht8
        refine ⟨_, rfl, t, _, 3, _, rfl, rfl, SqT.of ht9, rfl, (n3 : Int), rfl, by omega, by omega, for_range (lo := 0) (n := (n3 : Int).toNat) (fun i σ H' => ∃ (c8 : Option V) (ls as' : List Str), σ = [some (.ref d), some (.ref b), some (.ref ld), some (.ref sf), some (.int n), some (.int way), none, some (.ref D9), c8, none, some (.ref t), some (.ref lf), some (.ref nl), none, none, none, none] ∧
          H' lf = some (.lst (ls.map V.str)) ∧ ls.length + i = ss.length ∧ (∀ x ∈ ls, AscN 20 x) ∧ H' nl = some (.lst (as'.map V.str)) ∧ as'.length = i ∧ (∀ x ∈ as', AscN 20 x) ∧ Bx d L b p kn z (m0 + 1) H' ∧ Fb d L b p H H' ∧ H' t = some (.tup [.str nmz, .int n1, .int n2, .int n3]))
          ⟨none, ss, [], rfl, by rw [upd_ne ll]; exact hlf, rfl, as, upd_same, rfl, (fun x hx => by cases hx), B8.new nnl, F8.trans (Fb.new nnl), ht9⟩ (fun i σ H9 hi h => ?_) (fun σ H9 h => ?_)⟩
        · obtain ⟨c8, ls, as', rfl, hls, lls, als, has, las, aas, B9, F9, ht'⟩ := h
          have hi3 : i < n3 := by omega
          have hll : (ls.map V.str).length = ls.length := List.length_map ..
          refine ⟨_, rfl, .inl ⟨rfl, _, SqL.of has⟩, _, rfl, .inl ⟨rfl, _, SqL.of hls⟩, _, rfl, _, rfl, .ref lf, (ls.map V.str).length, rfl, .inl ⟨_, SqL.of hls, rfl⟩, d, L, _, rfl, B9.dk, by omega, by omega, fun r H10 r0 r1 f => ?_⟩
          obtain ⟨j, rfl⟩ := Int.eq_ofNat_of_zero_le r0
          have hj : j < ls.length := by omega
          have B10 := B9.fr f
          have F10 := F9.trans (Fb.of (b := b) (p := p) B9.dk f)
          have hls' := f.st lf _ a1 a2 hls
          have has' := f.st nl _ e1 e2 has
          have ht10 := fr_tp B9.dk f _ _ ht'
          have hx : (ls.map V.str)[j]? = some (.str ls[j]!) := by
            rw [List.getElem?_map, List.getElem?_eq_getElem hj]
            simp [hj]
          have hmem : ls[j]! ∈ ls := by simp [hj]
          refine ⟨lf, ls.map V.str, (j : Int), j, _, rfl, rfl, hls', by omega, by omega, seq_nat (by omega), hx, nl, as'.map V.str, _, rfl, rfl, by rw [upd_ne ll.symm]; exact has', small1000 (by rw [List.length_map]; omega), ?_⟩
          have hnl : (upd H10 lf (.lst ((ls.map V.str).eraseIdx j))) nl = some (.lst (as'.map V.str)) := by rw [upd_ne ll.symm]; exact has'
          have B11 : Bx d L b p kn z (m0 + 1) (upd H10 lf (.lst ((ls.map V.str).eraseIdx j))) := B10.mut hls' a1 a2 a3 a4 a5
          have F11 : Fb d L b p H (upd H10 lf (.lst ((ls.map V.str).eraseIdx j))) := F10.mut (xs := ls.map V.str) lf0
          refine ⟨_, ls.eraseIdx j, as' ++ [ls[j]!], rfl, by rw [upd_ne ll, upd_same, er_map], ?_, fun x hx => als x (List.mem_of_mem_eraseIdx hx), by rw [upd_same, List.map_append]; rfl, by rw [List.length_append, las]; rfl, fun x hx => ?_, B11.mut hnl e1 e2 e3 e4 e5, F11.mut (xs := as'.map V.str) nl0, ?_⟩
          · rw [List.length_eraseIdx, if_pos hj]
            omega
          · rcases List.mem_append.mp hx with h | h
            · exact aas x h
            · rw [List.mem_singleton.mp h]
              exact als _ hmem
          · rw [upd_ne (ne_of ht10 has' (by intro z; cases z)), upd_ne (ne_of ht10 hls' (by intro z; cases z))]
            exact ht10
        · obtain ⟨c8, ls, as', rfl, hls, lls, als, has, las, aas, B9, F9, ht'⟩ := h
          refine ⟨_, rfl, nl, _, rfl, .inl ⟨SqL.of has, fun p2 np2 => ?_⟩⟩
          have B10 := B9.new (o := .tup (as'.map V.str)) np2
          have F10 := F9.trans (Fb.new (o := .tup (as'.map V.str)) np2)
          have h1 : (upd H9 p2 (.tup (as'.map V.str))) p2 = some (.tup (as'.map V.str)) := upd_same
          have ht10 : (upd H9 p2 (.tup (as'.map V.str))) t = some (.tup [.str nmz, .int n1, .int n2, .int n3]) := by rw [upd_ne (ne_of_none ht' np2)]; exact ht'
          generalize upd H9 p2 (.tup (as'.map V.str)) = H10 at B10 F10 h1 ht10
          obtain ⟨xs, ys, g1, g2, g3, g4⟩ := both (.inr trivial) (Ld.fb B F10) (Sf.fb B F10)
          refine ⟨_, rfl, _, rfl, _, rfl, _, rfl, _, rfl, _, rfl, ld, sf, xs.map V.str, ys.map V.str, rfl, rfl, g1, g2, by rw [List.length_map, List.length_map]; exact Nat.le_trans g3 (by decide), fun pc npc => ?_⟩
          obtain ⟨_, c1, c2, c3, c4, c5⟩ := Fb.fresh B10 F10 npc
          have B11 := B10.new (o := .lst (xs.map V.str ++ ys.map V.str)) npc
          have F11 := F10.trans (Fb.new (o := .lst (xs.map V.str ++ ys.map V.str)) npc)
          have np : Nl L p (upd H10 pc (.lst (xs.map V.str ++ ys.map V.str))) pc := ⟨⟨xs ++ ys, by rw [upd_same, List.map_append], by rw [List.length_append]; exact g3, g4⟩, c2, c4⟩
          refine ⟨d, L, b, p, kn, ld, pc, z, m0 + 1, .ref t, rfl, ⟨t, nmz, n1, n2, n3, rfl, by rw [upd_ne (ne_of_none ht10 npc)]; exact ht10, t1, t2, t3, by omega, t5⟩, B11, (Ld.fb B F11).nl (by omega), np, fun v D1 z1 H12 ok dt B12 F12 => ⟨by show 3 ≤ sizeLine; decide, fun q2 nq2 => ?_⟩⟩
          obtain ⟨o1, o2, o3, o4, o5⟩ := ok
          have h12 : H12 p2 = some (.tup (as'.map V.str)) := F12.tp _ _ (by rw [upd_ne (ne_of_none h1 npc)]; exact h1)
          obtain ⟨w1', w2', w3', w4'⟩ := strs_data aas
          have la3 : as'.length ≤ 3 := by omega
          refine q _ (.tuple [.str "set", .tuple (as'.map PyData.str), D1]) z1 (m0 + 1) _ ⟨by omega, Nat.le_refl _, ?_, ?_, ?_, ⟨"set", .tuple (as'.map PyData.str), [D1], rfl, fun e => absurd e (by decide +kernel)⟩, .set_ as' o5⟩ (.tup upd_same (.cons (.str _) (.cons (.tup (by rw [upd_ne (ne_of_none h12 nq2)]; exact h12) (w1' _)) (.cons (DT.fb dt (Fb.new (d := d) (L := L) (b := b) (p := p) nq2)) .nil)))) (B12.new nq2) ((F11.trans F12).trans (Fb.new nq2))
          · exact pt_tup (by show 3 ≤ 1000; decide) ⟨pt_str (n := 100) (ascn (by decide +kernel)) (by decide), pt_tup (by rw [List.length_map]; omega) w2', o2, trivial⟩
          · show max 0 (max (PyData.depthAll (as'.map PyData.str) + 1) (max D1.depth 0)) + 1 ≤ 2 * n + 8
            omega
          · show (10 * ("set" : Str).length + 2 + 2 + (wtL (as'.map PyData.str) + 3 + 2 + (wt D1 + 2 + 0))) + 3 + 10 + 6000 * (z1.toNat + (m0 + 1)) ≤ 6000 * (z.toNat + (m0 + 1))
            rw [show ("set" : Str).length = 3 from rfl]
            omega
      obtain ⟨rfl, B5, F5, es5⟩ := hM
      have Ld5 := Ld.fb B F5
      have Sf5 := Sf.fb B F5
      refine ⟨_, rfl, _, rfl, d, L, sf, ss.map V.str, rfl, B5.dk, Sf.L, .inl (SqL.of es5), by rw [List.length_map]; exact ls0, by rw [List.length_map]; omega, fun i x H6 hx f6 => ⟨by show 1 ≤ sizeLine; decide, fun p1 np1 => ?_⟩⟩
      obtain ⟨y, hy, rfl⟩ := List.mem_map.mp (List.mem_of_getElem? hx)
      have hya := as y hy
      have B6 := (B5.fr f6).new (o := .tup [.str y]) np1
      have F6 := (F5.trans (Fb.of (b := b) (p := p) B5.dk f6)).trans (Fb.new (o := .tup [.str y]) np1)
      have h1 : (upd H6 p1 (.tup [.str y])) p1 = some (.tup [.str y]) := upd_same
      generalize upd H6 p1 (.tup [.str y]) = H7 at B6 F6 h1
      obtain ⟨xs, ys, g1, g2, g3, g4⟩ := both (.inr trivial) (Ld.fb B F6) (Sf.fb B F6)
      refine ⟨_, rfl, _, rfl, _, rfl, _, rfl, _, rfl, ld, sf, xs.map V.str, ys.map V.str, rfl, rfl, g1, g2, by rw [List.length_map, List.length_map]; exact Nat.le_trans g3 (by decide), fun pc npc => ?_⟩
      obtain ⟨_, c1, c2, c3, c4, c5⟩ := Fb.fresh B6 F6 npc
      have B8 := B6.new (o := .lst (xs.map V.str ++ ys.map V.str)) npc
      have F8 := F6.trans (Fb.new (o := .lst (xs.map V.str ++ ys.map V.str)) npc)
      have np : Nl L p (upd H7 pc (.lst (xs.map V.str ++ ys.map V.str))) pc := ⟨⟨xs ++ ys, by rw [upd_same, List.map_append], by rw [List.length_append]; exact g3, g4⟩, c2, c4⟩
      refine .inr ⟨d, L, b, p, kn, ld, pc, z, m0 + 1, rfl, B8, (Ld.fb B F8).nl (by omega), np, fun v D1 z1 H9 ok dt B9 F9 => ⟨by show 3 ≤ sizeLine; decide, fun q2 nq2 => ?_⟩⟩
      obtain ⟨o1, o2, o3, o4, o5⟩ := ok
      have hyl := hya.1
      have h9 : H9 p1 = some (.tup [.str y]) := F9.tp _ _ (by rw [upd_ne (ne_of_none h1 npc)]; exact h1)
      refine q _ (.tuple [.str "set", .tuple [.str y], D1]) z1 (m0 + 1) _ ⟨by omega, Nat.le_refl _, ?_, ?_, ?_, ⟨"set", .tuple [.str y], [D1], rfl, fun e => absurd e (by decide +kernel)⟩, .set_ [y] o5⟩ (.tup upd_same (.cons (.str _) (.cons (.tup (by rw [upd_ne (ne_of_none h9 nq2)]; exact h9) (.cons (.str _) .nil)) (.cons (DT.fb dt (Fb.new (d := d) (L := L) (b := b) (p := p) nq2)) .nil)))) (B9.new nq2) ((F8.trans F9).trans (Fb.new nq2))
      · exact pt_tup (by show 3 ≤ 1000; decide) ⟨pt_str (n := 100) (ascn (by decide +kernel)) (by decide), pt_tup (by show 1 ≤ 1000; decide) ⟨pt_str hya (by decide), trivial⟩, o2, trivial⟩
      · show max 0 (max (max 0 0 + 1) (max D1.depth 0)) + 1 ≤ 2 * n + 8
        omega
      · show (10 * ("set" : Str).length + 2 + 2 + (10 * y.length + 2 + 2 + 0 + 3 + 2 + (wt D1 + 2 + 0))) + 3 + 10 + 6000 * (z1.toNat + (m0 + 1)) ≤ 6000 * (z.toNat + (m0 + 1))
        rw [show ("set" : Str).length = 3 from rfl]
        omega
    have w4' : 4 ≤ way := by
      by_cases h : way < 4
      · exact absurd (decide_eq_true h) hw
      · omega
    have n0 := w4 w4'
    obtain ⟨n', rfl⟩ : ∃ n', n = n' + 1 := ⟨n - 1, by omega⟩
    have en : (((n' + 1 : Nat) : Int) - 1) = (n' : Int) := by omega
    refine ⟨_, rfl, _, _, rfl, rfl, _, rfl, ite2 (fun hw6 => ?_) (fun hw6 => ?_)⟩
    · obtain ⟨xs, ys, g1, g2, g3, g4⟩ := both (.inr trivial) Ld1 Sf1
      refine ⟨_, rfl, _, rfl, _, rfl, _, rfl, _, rfl, ld, sf, xs.map V.str, ys.map V.str, rfl, rfl, g1, g2, by rw [List.length_map, List.length_map]; exact Nat.le_trans g3 (by decide), fun pc npc => ?_⟩
      obtain ⟨_, c1, c2, c3, c4, c5⟩ := Fb.fresh B1 F1 npc
      have B8 := B1.new (o := .lst (xs.map V.str ++ ys.map V.str)) npc
      have F8 := F1.trans (Fb.new (o := .lst (xs.map V.str ++ ys.map V.str)) npc)
      have np : Nl L p (upd H4 pc (.lst (xs.map V.str ++ ys.map V.str))) pc := ⟨⟨xs ++ ys, by rw [upd_same, List.map_append], by rw [List.length_append]; exact g3, g4⟩, c2, c4⟩
      refine .inl ⟨d, L, b, p, kn, ld, pc, z, m0 + 1, rfl, B8, (Ld.fb B F8).nl (by omega), np, fun v D1 z1 H9 ok dt B9 F9 => ⟨Nat.zero_le _, fun bl nbl => ⟨_, _, rfl, ?_⟩⟩⟩
      obtain ⟨o1, o2, o3, o4, o5⟩ := ok
      have F9' := F8.trans F9
      obtain ⟨bl0, e1, e2, e3, e4, e5⟩ := Fb.fresh B9 F9' nbl
      refine ⟨3, rfl, by omega, by omega, for_range (lo := 0) (n := 3) (fun i σ H' => ∃ (c8 : Option V) (acc : List V) (Ds : List PyData) (z' : Int) (m' : Nat), σ = [some (.ref d), some (.ref b), some (.ref ld), some (.ref sf), some (.int ((n' + 1 : Nat) : Int)), some (.int way), some v, none, c8, none, none, none, none, some (.ref bl), none, none, none] ∧
        H' bl = some (.lst acc) ∧ DxAll (fun _ => True) H' acc Ds ∧ z' ≤ z1 ∧ m' ≤ m0 + 1 ∧ PtL Ds ∧ PyData.depthAll Ds ≤ 2 * n' + 9 ∧ Ds.length = i ∧ (∀ y ∈ Ds, BkS y) ∧ wtL Ds + 6000 * (z'.toNat + m') ≤ 5 * i + 6000 * (z1.toNat + (m0 + 1)) ∧ DT H' v D1 ∧ Bx d L b p kn z' m' H' ∧ Fb d L b p H H')
        ⟨none, [], [], z1, m0 + 1, rfl, upd_same, .nil, by omega, Nat.le_refl _, trivial, Nat.zero_le _, rfl, (fun y hy => by cases hy), by simp [wtL], DT.fb dt (Fb.new (d := d) (L := L) (b := b) (p := p) nbl), B9.new nbl, F9'.trans (Fb.new nbl)⟩ (fun i σ H' hi h => ?_) (fun σ H' h => ?_)⟩
      · obtain ⟨c8, acc, Ds, z', m', rfl, hbl, hDs, b1, b2, b3, b4, b5, bS, b6, dt', B10, F10⟩ := h
        have la : acc.length = i := by rw [DxAll.length hDs, b5]
        refine ⟨_, rfl, .inl ⟨rfl, _, SqL.of hbl⟩, _, rfl, _, rfl, _, rfl, _, rfl, _, rfl, _, _, rfl, rfl, ?_⟩
        refine ⟨d, L, b, p, kn, ld, sf, z', m', congrArg (fun y => [V.ref d, .ref b, .ref ld, .ref sf, V.int y]) en, B10, by omega, (Ld.fb B F10).mono (by omega), Sf.fb B F10, fun t vb ld' D2 z2 m2 H11 ht ok2 dt2 _ B11 F11 => ?_⟩
        obtain ⟨k1, k2, k3, k4, k5, k6⟩ := ok2
        have hbl' := F11.st bl _ e1 e2 e3 e4 hbl
        have tp : ∀ c xs, H11 c = some (.tup xs) → (upd H11 bl (.lst (acc ++ [vb]))) c = some (.tup xs) := fun c xs e => by
          rw [upd_ne (ne_of e hbl' (by intro z; cases z))]
          exact e
        refine ⟨t, _, 0, vb, rfl, rfl, SqT.of ht, rfl, bl, acc, vb, rfl, rfl, hbl', small1000 (by omega), ?_⟩
        refine ⟨_, acc ++ [vb], Ds ++ [D2], z2, m2, rfl, upd_same, (DTs.fb (DTs.fb hDs F11.tp) tp).app (.cons (Dx.kp ⟨fun a o n => absurd trivial n, tp⟩ _ _ dt2) .nil), by omega, by omega, b3.app ⟨k3, trivial⟩, ?_, by rw [List.length_append, b5]; rfl, fun y hy => (List.mem_append.mp hy).elim (bS y) fun h => by rw [List.mem_singleton.mp h]; exact k6, ?_, Dx.kp ⟨fun a o n => absurd trivial n, fun c xs e => tp c xs (F11.tp c xs e)⟩ _ _ dt', B11.mut hbl' e1 e2 e3 e4 e5, (F10.trans F11).mut (xs := acc) bl0⟩
        · rw [depth_app]
          simp only [PyData.depthAll]
          omega
        · rw [wtL_app]
          simp only [wtL]
          omega
      · obtain ⟨c8, acc, Ds, z', m', rfl, hbl, hDs, b1, b2, b3, b4, b5, bS, b6, dt', B10, F10⟩ := h
        have la : acc.length = 3 := by rw [DxAll.length hDs, b5]
        refine ⟨_, rfl, by show 2 ≤ sizeLine; decide, fun p1 np1 => ⟨_, rfl, bl, acc, rfl, .inl ⟨SqL.of (by rw [upd_ne (ne_of_none hbl np1)]; exact hbl), fun p2 np2 => ?_⟩⟩⟩
        have h1 : (upd H' p1 (.tup [.str "when", v])) p1 = some (.tup [.str "when", v]) := upd_same
        have h2 : (upd (upd H' p1 (.tup [.str "when", v])) p2 (.tup acc)) p1 = some (.tup [.str "when", v]) := by rw [upd_ne (ne_of_none h1 np2)]; exact h1
        have F12 : Fb d L b p H' (upd (upd H' p1 (.tup [.str "when", v])) p2 (.tup acc)) := (Fb.new np1).trans (Fb.new np2)
        refine ⟨p1, p2, _, acc, rfl, rfl, SqT.of h2, SqT.of upd_same, by simp, (by rw [la]; show 5 ≤ sizeLine; decide), (fun e => by rw [e] at la; cases la), fun _ p3 np3 => ?_⟩
        have F13 := F12.trans (Fb.new (o := .tup ([.str "when", v] ++ acc)) np3)
        refine q _ (.tuple (.str "when" :: D1 :: Ds)) z' m' _ ⟨by omega, by omega, ?_, ?_, ?_, ⟨"when", D1, Ds, rfl, fun e => absurd e (by decide +kernel)⟩, .when_ o5 b5 bS⟩ (.tup upd_same (.cons (.str _) (.cons (DT.fb dt' F13) (DTs.fb hDs F13.tp)))) (((B10.new np1).new np2).new np3) (F10.trans F13)
        · exact pt_tup (by rw [List.length_cons, List.length_cons, b5]; decide) ⟨pt_str (n := 100) (ascn (by decide +kernel)) (by decide), o2, b3⟩
        · show max 0 (max D1.depth (PyData.depthAll Ds)) + 1 ≤ 2 * (n' + 1) + 8
          omega
        · show (10 * ("when" : Str).length + 2 + 2 + (wt D1 + 2 + wtL Ds)) + 3 + 10 + 6000 * (z'.toNat + m') ≤ 6000 * (z.toNat + (m0 + 1))
          rw [show ("when" : Str).length = 4 from rfl]
          omega
    · have w7 : 5 < way := by
        by_cases h : way < 6
        · exact absurd (decide_eq_true h) hw6
        · omega
      obtain ⟨ls, el, ll0, ll1, al⟩ := hld w7
      obtain ⟨m1, rfl⟩ : ∃ m1, m0 = m1 + 1 := ⟨m0 - 1, by omega⟩
      refine ⟨_, rfl, _, rfl, d, L, b, p, kn, z, m1 + 1, rfl, B1, by omega, fun x1 H5 hx1 B5 F5 => ⟨_, rfl, _, rfl, d, L, b, p, kn, z, m1, rfl, B5, by omega, fun x2 H6 hx2 B6 F6 => ⟨_, _, rfl, ?_⟩⟩⟩
      have F6' := (F1.trans F5).trans F6
      refine ⟨_, rfl, _, rfl, _, rfl, _, rfl, _, rfl, by show 2 ≤ sizeLine; decide, fun pl npl => ?_⟩
      have B7 := B6.new (o := .lst [.str x1, .str x2]) npl
      have F7 := F6'.trans (Fb.new (o := .lst [.str x1, .str x2]) npl)
      have hpl : (upd H6 pl (.lst [.str x1, .str x2])) pl = some (.lst [.str x1, .str x2]) := upd_same
      have G7 : Fb d L b p H4 (upd H6 pl (.lst [.str x1, .str x2])) := (F5.trans F6).trans (Fb.new npl)
      generalize upd H6 pl (.lst [.str x1, .str x2]) = H7 at B7 F7 hpl G7
      obtain ⟨xs, e7, l7, a7⟩ := (Ld.fb B F7).s
      refine ⟨ld, pl, xs.map V.str, _, rfl, rfl, e7, hpl, by rw [List.length_map]; exact Nat.le_trans (show xs.length + 2 ≤ 1000 by omega) (by decide), fun pc npc => ?_⟩
      obtain ⟨_, c1, c2, c3, c4, c5⟩ := Fb.fresh B7 F7 npc
      have B8 := B7.new (o := .lst (xs.map V.str ++ [.str x1, .str x2])) npc
      have F8 := F7.trans (Fb.new (o := .lst (xs.map V.str ++ [.str x1, .str x2])) npc)
      have np : Nn (984 - 10 * n') L p (upd H7 pc (.lst (xs.map V.str ++ [.str x1, .str x2]))) pc := ⟨⟨xs ++ [x1, x2], by rw [upd_same, List.map_append]; rfl, by rw [List.length_append]; show xs.length + 2 ≤ _; omega, fun x hx => by
        rcases List.mem_append.mp hx with h | h
        · exact a7 x h
        · simp only [List.mem_cons, List.not_mem_nil, or_false] at h
          rcases h with rfl | rfl
          · exact hx1
          · exact hx2⟩, c2, c4⟩
      refine ⟨_, rfl, _, rfl, _, _, rfl, rfl, d, L, b, p, kn, pc, sf, z, m1, congrArg (fun y => [V.ref d, .ref b, .ref pc, .ref sf, V.int y]) en, B8, by omega, np, Sf.fb B F8, fun t vb ld' D2 z2 m2 H9 ht ok2 dt2 _ B9 F9 => ?_⟩
      obtain ⟨k1, k2, k3, k4, k5, k6⟩ := ok2
      refine ⟨t, _, 0, vb, rfl, rfl, SqT.of ht, rfl, ?_⟩
      have el9 : H9 ld = some (.lst (ls.map V.str)) := by
        obtain ⟨ns', mm, kk, h1, h2, _⟩ := B1.dk
        exact ((G7.trans (Fb.new npc)).trans F9).st ld _ (ne_of el h1 (by intro z; cases z)) Ld.L (ne_of el B1.bx (by intro z; cases z)) Ld.p el
      refine ⟨_, rfl, _, rfl, d, L, ld, ls.map V.str, rfl, B9.dk, Ld.L, .inl (SqL.of el9), by rw [List.length_map]; exact ll0, by rw [List.length_map]; omega, fun i x H10 hx f10 => ⟨_, rfl, _, rfl, _, rfl, by show 5 ≤ sizeLine; decide, fun q2 nq2 => ?_⟩⟩
      obtain ⟨y, hy, rfl⟩ := List.mem_map.mp (List.mem_of_getElem? hx)
      have hyl := (al y hy).1
      have h1l := hx1.1
      have h2l := hx2.1
      have F10 := (F8.trans F9).trans (Fb.of (b := b) (p := p) B9.dk f10)
      have dt10 := DT.fb (DT.fb dt2 (Fb.of (b := b) (p := p) B9.dk f10)) (Fb.new (d := d) (L := L) (b := b) (p := p) (o := .tup [.str "each", .str y, .str x1, .str x2, vb]) nq2)
      refine q _ (.tuple [.str "each", .str y, .str x1, .str x2, D2]) z2 m2 _ ⟨by omega, by omega, ?_, ?_, ?_, ⟨"each", .str y, [.str x1, .str x2, D2], rfl, fun e => absurd e (by decide +kernel)⟩, .each_ y x1 x2 k6⟩ (.tup upd_same (.cons (.str _) (.cons (.str _) (.cons (.str _) (.cons (.str _) (.cons dt10 .nil)))))) ((B9.fr f10).new nq2) (F10.trans (Fb.new nq2))
      · exact pt_tup (by show 5 ≤ 1000; decide) ⟨pt_str (n := 100) (ascn (by decide +kernel)) (by decide), pt_str (al y hy) (by decide), pt_str hx1 (by decide), pt_str hx2 (by decide), k3, trivial⟩
      · show max 0 (max 0 (max 0 (max 0 (max D2.depth 0)))) + 1 ≤ 2 * (n' + 1) + 8
        omega
      · show (10 * ("each" : Str).length + 2 + 2 + (10 * y.length + 2 + 2 + (10 * x1.length + 2 + 2 + (10 * x2.length + 2 + 2 + (wt D2 + 2 + 0))))) + 3 + 10 + 6000 * (z2.toNat + m2) ≤ 6000 * (z.toNat + (m1 + 1 + 1))
        rw [show ("each" : Str).length = 4 from rfl]
        omega
theorem Dx2.cmd (D : Dx2 K mg) : ∀ n : Nat, n ≤ 5 → FnOk P w K mg base CX0 (2 * n + 12) (He.fAd K ("_law_drawn_command", none)) (D.fb "_law_drawn_command") P__law_drawn_command (spCmd n)
  | 0, h => cmd1 D h (fun n' e => by cases e)
  | n + 1, h => cmd1 D h (fun n' e => by cases e; exact block1 D (Dx2.cmd D n (by omega)) (by omega))
theorem Dx2.blk (D : Dx2 K mg) (n : Nat) (h : n ≤ 5) : FnOk P w K mg base CX0 (2 * n + 13) (He.fAd K ("_law_drawn_block", none)) (D.fb "_law_drawn_block") P__law_drawn_block (spBlk n) := block1 D (Dx2.cmd D n h) h
end
end TD2


set_option Elab.async false
set_option linter.all false
set_option maxRecDepth 100000
set_option maxHeartbeats 4000000
/-! Drawn functions and programs. -/
namespace TD3
open PySem PySem.Spec PyProof.Rows L2 KT KG KM KX KQ KE0 KA KB KC KD KP KP2 KW TD TD2 GxR
abbrev N__law_pool : List Str := ["_law_found"]
abbrev P__law_pool : List Str := []
theorem sc__law_pool : FnScope N__law_pool P__law_pool (defScope s__law_pool) := ⟨rfl, rfl, rfl, by decide +kernel, rfl, by decide +kernel, by decide +kernel⟩
abbrev N__law_drawn_function : List Str := ["_law_deck_here", "_law_name", "_law_known", "_law_size", "_law_box", "_law_leads", "_law_turn", "_law_softs", "_law_owns", "_law_block", "_law_leading", "_law_gives"]
abbrev P__law_drawn_function : List Str := ["_law_deck_here", "_law_name", "_law_known", "_law_size"]
theorem sc__law_drawn_function : FnScope N__law_drawn_function P__law_drawn_function (defScope s__law_drawn_function) := ⟨rfl, rfl, rfl, by decide +kernel, rfl, by decide +kernel, by decide +kernel⟩
abbrev N__law_drawn_program : List Str := ["_law_deck_here", "_law_many", "_law_size", "_law_names", "_law_known", "_law_found", "_law_turn", "_law_name", "_law_function"]
abbrev P__law_drawn_program : List Str := ["_law_deck_here", "_law_many", "_law_size"]
theorem sc__law_drawn_program : FnScope N__law_drawn_program P__law_drawn_program (defScope s__law_drawn_program) := ⟨rfl, rfl, rfl, by decide +kernel, rfl, by decide +kernel, by decide +kernel⟩
section
variable {P : Program} {w : World} {K : PySem.W.Frag} {mg : Str → Option Value} {base : Heap}
def poolA : List Str := ["x", "y", "z", "a", "b", "c", "s", "t", "u", "v", "w", "p", "q", "r", "k", "l", "m", "n"]
def poolB : List Str := ["x_1", "y0", "a2345678901234567890", "b_", "c9_9", "d", "e", "ones", "asx", "cut_", "j", "i", "name", "word", "put", "call"]
def pool34 : List Str := poolA ++ poolB
theorem pool_ok : pool34.length = 34 ∧ ∀ x ∈ pool34, AscN 20 x := by
  refine ⟨rfl, fun x hx => ?_⟩
  have key : pool34.all (fun z => decide (z.length ≤ 20) && z.cps.toList.all fun c => decide (c < 128)) = true := by decide +kernel
  exact ascn (List.all_eq_true.mp key x hx)
def spPool : Sp := fun vs H Q _ => vs = [] ∧ ∀ p H', Same H H' → H p = none → H' p = some (.lst (pool34.map V.str)) → Q (.ref p) H'
structure Dx3 (K : PySem.W.Frag) (mg : Str → Option Value) extends Dx2 K mg where
  f3 : Str → FuncData
  d_pool : Df K mg "_law_pool" s__law_pool P__law_pool (f3 "_law_pool")
  d_fun : Df K mg "_law_drawn_function" s__law_drawn_function P__law_drawn_function (f3 "_law_drawn_function")
  d_prog : Df K mg "_law_drawn_program" s__law_drawn_program P__law_drawn_program (f3 "_law_drawn_program")
theorem Dx3.pool (D : Dx3 K mg) : FnOk P w K mg base CX0 1 (He.fAd K ("_law_pool", none)) (D.f3 "_law_pool") P__law_pool spPool := by
  refine (fun_of D.d_pool.F).ok sc__law_pool (fun vs H Q E h => ?_) (fun cdv A outer s H vs Q E hr h => ?_)
  · obtain ⟨rfl, _⟩ := h
    rfl
  · obtain ⟨rfl, q⟩ := h
    refine ⟨_, (pss_cons (ps_set (i := 0) sc__law_pool.nd rfl (.inl rfl) (pe_lst (pa_cons pe_str (pa_cons pe_str (pa_cons pe_str (pa_cons pe_str (pa_cons pe_str (pa_cons pe_str (pa_cons pe_str (pa_cons pe_str (pa_cons pe_str (pa_cons pe_str (pa_cons pe_str (pa_cons pe_str (pa_cons pe_str (pa_cons pe_str (pa_cons pe_str (pa_cons pe_str (pa_cons pe_str (pa_cons pe_str pa_nil))))))))))))))))))))
      (pss_one (ps_ret (pe_op op_cat (pv 0) (pe_lst (pa_cons pe_str (pa_cons pe_str (pa_cons pe_str (pa_cons pe_str (pa_cons pe_str (pa_cons pe_str (pa_cons pe_str (pa_cons pe_str (pa_cons pe_str (pa_cons pe_str (pa_cons pe_str (pa_cons pe_str (pa_cons pe_str (pa_cons pe_str (pa_cons pe_str (pa_cons pe_str pa_nil))))))))))))))))))))), ?_⟩
    refine ⟨by show 18 ≤ sizeLine; decide, fun p1 n1 => ⟨_, rfl, by show 16 ≤ sizeLine; decide, fun p2 n2 => ?_⟩⟩
    refine ⟨p1, p2, _, _, rfl, rfl, by rw [upd_ne (ne_of_none upd_same n2), upd_same], upd_same, by show 18 + 16 ≤ sizeLine; decide, fun p3 n3 => ?_⟩
    refine q p3 _ (((same_new n1).trans (same_new n2)).trans (same_new n3)) ?_ upd_same
    exact Same.free ((same_new n1).trans (same_new n2)) n3
/-- what a drawn function is -/
def FnD (nm : Str) (D : PyData) : Prop := ∃ (l s o : List Str) (g : List PyData) (bl : PyData), D = .tuple [.str "fun", .str nm, .tuple (l.map .str), .tuple (s.map .str), .tuple (o.map .str), bl, .tuple g] ∧ BkS bl ∧ (∀ x ∈ g, TmS x) ∧ l.length ≤ 3 ∧ s.length ≤ 2 ∧ 1 ≤ g.length ∧ g.length ≤ 3 ∧ Pt D ∧ D.depth ≤ 16 ∧ wt D ≤ 400000
def spFun : Sp := fun vs H Q _ => ∃ (d L kn : Addr) (nm : Str), vs = [.ref d, .str nm, .ref kn, .int 14] ∧ DK d L H ∧ kn ≠ L ∧ AscN 20 nm ∧ (∃ ks : List V, H kn = some (.lst ks) ∧ ks.length ≤ 1000 ∧ ∀ k ∈ ks, KnOk H k) ∧
  ∀ v D H', FnD nm D → DT H' v D → Fr d L H H' → Q v H'
theorem kp_disp (p kn : Addr) (z : Int) : mergeK [] (bxV p z kn) = bxV p z kn := by
  simp [mergeK, putK, bxV, j12, j13, j23, Ne.symm j12, Ne.symm j13, Ne.symm j23]
/-- the turns of [fresh for turn in range(k)] -/
def NmInv (d L b p kn D : Addr) (H0 : Hp) (z : Int) (m : Nat) : Nat → Hp → Prop := fun i H' => ∃ ms : List Str, H' D = some (.lst (ms.map V.str)) ∧ ms.length = i ∧ (∀ x ∈ ms, AscN 20 x) ∧ Bx d L b p kn z (m - i) H' ∧ Fb d L b p H0 H'
theorem Dx3.fun_ (D : Dx3 K mg) : FnOk P w K mg base CX0 21 (He.fAd K ("_law_drawn_function", none)) (D.f3 "_law_drawn_function") P__law_drawn_function spFun := by
  have T := D.T
  have D__law_pick := D.d_pick
  have D__law_pool := D.d_pool
  have D__law_fresh := D.d_fresh
  have D__law_drawn_block := D.d_block
  have D__law_drawn_term := D.d_term
  have G__law_pick : FnOk P w K mg base CX0 2 (He.fAd K ("_law_pick", none)) (D.fd "_law_pick") P__law_pick (spPick K) := D.pick
  have G__law_pool : FnOk P w K mg base CX0 1 (He.fAd K ("_law_pool", none)) (D.f3 "_law_pool") P__law_pool spPool := D.pool
  have G__law_fresh : FnOk P w K mg base CX0 2 (He.fAd K ("_law_fresh", none)) (D.fd "_law_fresh") P__law_fresh spFresh := D.fresh
  have G__law_drawn_block : FnOk P w K mg base CX0 19 (He.fAd K ("_law_drawn_block", none)) (D.fb "_law_drawn_block") P__law_drawn_block (spBlk 3) := D.blk 3 (by omega)
  have G__law_drawn_term : FnOk P w K mg base CX0 9 (He.fAd K ("_law_drawn_term", none)) (D.fd "_law_drawn_term") P__law_drawn_term (spTerm 2) := Dw.term D.toDw 2
  refine (fun_of D.d_fun.F).ok (k := 20) sc__law_drawn_function (fun vs H Q E h => ?_) (fun cdv A outer s H vs Q E hr h => ?_)
  · obtain ⟨d, L, kn, nm, rfl, _⟩ := h
    rfl
  · obtain ⟨d, L, kn, nm, rfl, hD, hkL, hnm, ⟨ks, k1, k2, k3⟩, q⟩ := h
    have hu := hu_of hr
    refine ⟨_, (pss_cons (ps_set (i := 4) sc__law_drawn_function.nd rfl (.inr rfl) (pe_disp (pps_cons pe_str (pe_call0 G__law_pool (hr.mono (by first | decide | omega)) (by rfl) D__law_pool.g D__law_pool.F.kp D__law_pool.b .nil pass0) (pps_cons pe_str (pv 3) (pps_cons pe_str (pv 2) pps_nil))) (by rfl) (by rfl) (fun z => by cases z) (by decide)))
      (pss_cons (ps_setLc (i := 5) (own := [("_law_turn", 6)]) (g := gName 6) (tt := tYes) (by rfl) sc__law_drawn_function.nd rfl rfl (sw_true rfl rfl rfl (by decide +kernel)) (pi_range1 rfl T.range (pa_cons (pe_call G__law_pick (hr.mono (by first | decide | omega)) (by rfl) D__law_pick.g D__law_pick.F.kp D__law_pick.b .nil pass0 (pa_cons (pv 0) (pa_cons (pe_lst (pa_cons pe_int (pa_cons pe_int (pa_cons pe_int (pa_cons pe_int (pa_cons pe_int pa_nil)))))) pa_nil))) pa_nil)) (blkOk_by (own := [("_law_turn", 6)]) (N := N__law_drawn_function) (sc := defScope s__law_drawn_function) (by decide +kernel)) (fun _ _ _ _ _ => (pg_name (i := 6) sc__law_drawn_function.nd rfl (.inl rfl))) (fun _ _ _ _ _ => pts_nil) (fun _ _ _ _ _ => (pe_call G__law_fresh (hr.mono (by first | decide | omega)) (by rfl) D__law_fresh.g D__law_fresh.F.kp D__law_fresh.b .nil pass0 (pa_cons (pv 0) (pa_cons (pv 4) pa_nil)))))
      (pss_cons (ps_setLc (i := 7) (own := [("_law_turn", 6)]) (g := gName 6) (tt := tYes) (by rfl) sc__law_drawn_function.nd rfl rfl (sw_true rfl rfl rfl (by decide +kernel)) (pi_range1 rfl T.range (pa_cons (pe_call G__law_pick (hr.mono (by first | decide | omega)) (by rfl) D__law_pick.g D__law_pick.F.kp D__law_pick.b .nil pass0 (pa_cons (pv 0) (pa_cons (pe_lst (pa_cons pe_int (pa_cons pe_int (pa_cons pe_int (pa_cons pe_int pa_nil))))) pa_nil))) pa_nil)) (blkOk_by (own := [("_law_turn", 6)]) (N := N__law_drawn_function) (sc := defScope s__law_drawn_function) (by decide +kernel)) (fun _ _ _ _ _ => (pg_name (i := 6) sc__law_drawn_function.nd rfl (.inl rfl))) (fun _ _ _ _ _ => pts_nil) (fun _ _ _ _ _ => (pe_call G__law_fresh (hr.mono (by first | decide | omega)) (by rfl) D__law_fresh.g D__law_fresh.F.kp D__law_fresh.b .nil pass0 (pa_cons (pv 0) (pa_cons (pv 4) pa_nil)))))
      (pss_cons (ps_setLc (i := 8) (own := [("_law_turn", 6)]) (g := gName 6) (tt := tYes) (by rfl) sc__law_drawn_function.nd rfl rfl (sw_true rfl rfl rfl (by decide +kernel)) (pi_range1 rfl T.range (pa_cons (pe_call G__law_pick (hr.mono (by first | decide | omega)) (by rfl) D__law_pick.g D__law_pick.F.kp D__law_pick.b .nil pass0 (pa_cons (pv 0) (pa_cons (pe_lst (pa_cons pe_int (pa_cons pe_int (pa_cons pe_int pa_nil)))) pa_nil))) pa_nil)) (blkOk_by (own := [("_law_turn", 6)]) (N := N__law_drawn_function) (sc := defScope s__law_drawn_function) (by decide +kernel)) (fun _ _ _ _ _ => (pg_name (i := 6) sc__law_drawn_function.nd rfl (.inl rfl))) (fun _ _ _ _ _ => pts_nil) (fun _ _ _ _ _ => (pe_call G__law_fresh (hr.mono (by first | decide | omega)) (by rfl) D__law_fresh.g D__law_fresh.F.kp D__law_fresh.b .nil pass0 (pa_cons (pv 0) (pa_cons (pv 4) pa_nil)))))
      (pss_cons (ps_asg (pe_call G__law_drawn_block (hr.mono (by first | decide | omega)) (by rfl) D__law_drawn_block.g D__law_drawn_block.F.kp D__law_drawn_block.b .nil pass0 (pa_cons (pv 0) (pa_cons (pv 4) (pa_cons (pv 5) (pa_cons (pe_op op_cat (pv 7) (pv 8)) (pa_cons pe_int pa_nil)))))) (pg_tup rfl (pgs_cons (pg_name (i := 9) sc__law_drawn_function.nd rfl (.inl rfl)) (pgs_cons (pg_name (i := 10) sc__law_drawn_function.nd rfl (.inl rfl)) pgs_nil))))
      (pss_cons (ps_set (i := 11) sc__law_drawn_function.nd rfl (.inl rfl) (pe_lst pa_nil))
      (pss_cons (ps_for PassesOwn.never rfl (pi_range1 rfl T.range (pa_cons (pe_call G__law_pick (hr.mono (by first | decide | omega)) (by rfl) D__law_pick.g D__law_pick.F.kp D__law_pick.b .nil pass0 (pa_cons (pv 0) (pa_cons (pe_lst (pa_cons pe_int (pa_cons pe_int (pa_cons pe_int (pa_cons pe_int (pa_cons pe_int pa_nil)))))) pa_nil))) pa_nil)) (pg_name (i := 6) sc__law_drawn_function.nd rfl (.inl rfl)) (pss_one (ps_expr (pe_bm PySem.F.plainAttrs_list PySem.F.slot_list_append PySem.F.type_list_append mt_append (pv 11) (pa_cons (pe_call G__law_drawn_term (hr.mono (by first | decide | omega)) (by rfl) D__law_drawn_term.g D__law_drawn_term.F.kp D__law_drawn_term.b .nil pass0 (pa_cons (pv 0) (pa_cons (pv 4) (pa_cons (pv 10) (pa_cons (pe_op op_cat (pe_op op_cat (pv 10) (pv 7)) (pv 8)) (pa_cons pe_int pa_nil)))))) pa_nil)))))
      (pss_one (ps_ret (pe_tup (pa_cons pe_str (pa_cons (pv 1) (pa_cons (pe_callTy call_tuple_of (by rfl) T.tuple (by decide +kernel) (pa_cons (pv 5) pa_nil)) (pa_cons (pe_callTy call_tuple_of (by rfl) T.tuple (by decide +kernel) (pa_cons (pv 7) pa_nil)) (pa_cons (pe_callTy call_tuple_of (by rfl) T.tuple (by decide +kernel) (pa_cons (pv 8) pa_nil)) (pa_cons (pv 9) (pa_cons (pe_callTy call_tuple_of (by rfl) T.tuple (by decide +kernel) (pa_cons (pv 11) pa_nil)) pa_nil))))))))))))))))), ?_⟩
    intro b nb
    refine ⟨rfl, fun p H1 sm np hp => ?_⟩
    have sb : Same H (upd H b (.dK [])) := same_new nb
    have hb1 : H1 b = some (.dK []) := sm _ _ upd_same
    refine ⟨_, rfl, _, rfl, hb1, bxV p 14 kn, rfl, by show 3 ≤ 15; decide, ?_⟩
    rw [kp_disp]
    have st1 : ∀ c o, H c = some o → (upd H1 b (.dK (bxV p 14 kn))) c = some o := fun c o e => by
      have e1 := sm c o (sb c o e)
      rw [upd_ne (ne_of_none e nb)]
      exact e1
    obtain ⟨dn, dm, dk, e1, e2, e3⟩ := hD
    have pb : p ≠ b := fun z => by
      rw [z, hb1] at hp
      cases hp
    have pH : H p = none := Same.free sb np
    have bd : b ≠ d := (ne_of_none e1 nb).symm
    have B0 : Bx d L b p kn 14 34 (upd H1 b (.dK (bxV p 14 kn))) := ⟨⟨dn, dm, dk, st1 _ _ e1, st1 _ _ e2, e3⟩, upd_same, ⟨pool34, by rw [upd_ne pb]; exact hp, pool_ok.1, pool_ok.2⟩,
      ⟨ks, st1 _ _ k1, k2, fun k hk => (k3 k hk).tp fun c xs e => st1 _ _ e⟩, bd, (ne_of_none e2 pH).symm, hkL, fun z => by rw [z, pH] at k1; cases k1⟩
    have F0 : Fb d L b p H (upd H1 b (.dK (bxV p 14 kn))) := ⟨fun c o _ _ _ _ e => st1 c o e, fun c xs e => st1 c _ e⟩
    generalize upd H1 b (.dK (bxV p 14 kn)) = H2 at B0 F0
    clear st1 hp hb1 sm
    -- leads
    refine ⟨_, rfl, by show 5 ≤ sizeLine; decide, fun p1 np1 => pickL (Fr.refl B0.dk) np1 (by show 0 < 5; decide) (by show 5 ≤ 1000; decide) fun x hx H3 f3 => ?_⟩
    obtain ⟨r, rfl, r0, r1⟩ : ∃ r : Int, x = .int r ∧ 0 ≤ r ∧ r ≤ 3 := by
      simp only [List.mem_cons, List.not_mem_nil, or_false] at hx
      rcases hx with rfl | rfl | rfl | rfl | rfl <;> exact ⟨_, rfl, by decide, by decide⟩
    have B3 := B0.fr f3
    have F3 := F0.trans (Fb.of (b := b) (p := p) B0.dk f3)
    refine ⟨r, rfl, by omega, by omega, fun D5 nD5 => ?_⟩
    obtain ⟨z5, a1, a2, a3, a4, a5⟩ := Fb.fresh B3 F3 nD5
    have fr1 : ∀ {i : Nat} {H' : Hp} {Dd : Addr} {ms : List Str} {m : Nat}, H Dd = none → Dd ≠ d → Dd ≠ L → Dd ≠ b → Dd ≠ p → Dd ≠ kn → H' Dd = some (.lst (ms.map V.str)) → (∀ x ∈ ms, AscN 20 x) → Bx d L b p kn 14 (m + 1) H' → Fb d L b p H H' → ∀ {x : Str} {H'' : Hp}, AscN 20 x → Bx d L b p kn 14 m H'' → Fb d L b p H' H'' →
        H'' Dd = some (.lst (ms.map V.str)) ∧ Bx d L b p kn 14 m (upd H'' Dd (.lst (ms.map V.str ++ [V.str x]))) ∧ Fb d L b p H (upd H'' Dd (.lst (ms.map V.str ++ [V.str x]))) ∧ (upd H'' Dd (.lst (ms.map V.str ++ [V.str x]))) Dd = some (.lst ((ms ++ [x]).map V.str)) ∧ ∀ y ∈ ms ++ [x], AscN 20 y :=
      fun {i H' Dd ms m} h0 h1 h2 h3 h4 h5 e a B F {x H''} hx B' F' => by
        have e' := F'.st Dd _ h1 h2 h3 h4 e
        refine ⟨e', B'.mut e' h1 h2 h3 h4 h5, (F.trans F').mut (xs := ms.map V.str) h0, by rw [upd_same, List.map_append]; rfl, fun y hy => ?_⟩
        rcases List.mem_append.mp hy with h | h
        · exact a y h
        · rw [List.mem_singleton.mp h]
          exact hx
    refine lc_range (lo := 0) (n := r.toNat) (NmInv d L b p kn D5 H 14 34) ⟨[], upd_same, rfl, (fun x hx => by cases hx), B3.new nD5, F3.trans (Fb.new nD5)⟩ (fun i H' hi h => ?_) (fun H4 h => ?_)
    · obtain ⟨ms, hms, hl, ha, B, F⟩ := h
      have em : 34 - i = (34 - (i + 1)) + 1 := by omega
      rw [em] at B
      refine ⟨rfl, _, rfl, _, rfl, d, L, b, p, kn, 14, 34 - (i + 1), rfl, B, by omega, fun x H'' hx B' F' => ?_⟩
      obtain ⟨g1, g2, g3, g4, g5⟩ := fr1 (i := i) z5 a1 a2 a3 a4 a5 hms ha B F hx B' F'
      exact ⟨ms.map V.str, g1, small1000 (by rw [List.length_map]; omega), ms ++ [x], g4, by rw [List.length_append, hl]; rfl, g5, g2, g3⟩
    obtain ⟨leads, hl1, hl2, hl3, B4, F4⟩ := h
    have ll : leads.length ≤ 3 := by omega
    generalize hm4 : 34 - r.toNat = m4 at B4
    have m4l : 31 ≤ m4 ∧ m4 ≤ 34 := by omega
    clear B3 F3 f3 B0 F0
    -- softs
    refine ⟨_, rfl, by show 4 ≤ sizeLine; decide, fun p2 np2 => pickL (Fr.refl B4.dk) np2 (by show 0 < 4; decide) (by show 4 ≤ 1000; decide) fun x hx H5 f5 => ?_⟩
    obtain ⟨s, rfl, s0, s1⟩ : ∃ r : Int, x = .int r ∧ 0 ≤ r ∧ r ≤ 2 := by
      simp only [List.mem_cons, List.not_mem_nil, or_false] at hx
      rcases hx with rfl | rfl | rfl | rfl <;> exact ⟨_, rfl, by decide, by decide⟩
    have B5 := B4.fr f5
    have F5 := F4.trans (Fb.of (b := b) (p := p) B4.dk f5)
    have hl5 := f5.st D5 _ a1 a2 hl1
    refine ⟨s, rfl, by omega, by omega, fun D7 nD7 => ?_⟩
    obtain ⟨z7, b1, b2, b3, b4, b5⟩ := Fb.fresh B5 F5 nD7
    have d57 : D5 ≠ D7 := ne_of_none hl5 nD7
    refine lc_range (lo := 0) (n := s.toNat) (fun i H' => NmInv d L b p kn D7 H 14 m4 i H' ∧ H' D5 = some (.lst (leads.map V.str))) ⟨⟨[], upd_same, rfl, (fun x hx => by cases hx), B5.new nD7, F5.trans (Fb.new nD7)⟩, by rw [upd_ne d57]; exact hl5⟩ (fun i H' hi h => ?_) (fun H6 h => ?_)
    · obtain ⟨⟨ms, hms, hl, ha, B, F⟩, h5⟩ := h
      have em : m4 - i = (m4 - (i + 1)) + 1 := by omega
      rw [em] at B
      refine ⟨rfl, _, rfl, _, rfl, d, L, b, p, kn, 14, m4 - (i + 1), rfl, B, by omega, fun x H'' hx B' F' => ?_⟩
      obtain ⟨g1, g2, g3, g4, g5⟩ := fr1 (i := i) z7 b1 b2 b3 b4 b5 hms ha B F hx B' F'
      exact ⟨ms.map V.str, g1, small1000 (by rw [List.length_map]; omega), ⟨ms ++ [x], g4, by rw [List.length_append, hl]; rfl, g5, g2, g3⟩, by rw [upd_ne d57]; exact F'.st D5 _ a1 a2 a3 a4 h5⟩
    obtain ⟨⟨softs, hs1, hs2, hs3, B6, F6⟩, hl6⟩ := h
    have ls : softs.length ≤ 2 := by omega
    generalize hm6 : m4 - s.toNat = m6 at B6
    have m6l : 29 ≤ m6 ∧ m6 ≤ 34 := by omega
    clear B5 F5 f5 B4 F4 hl5 hl1
    -- owns
    refine ⟨_, rfl, by show 3 ≤ sizeLine; decide, fun p3 np3 => pickL (Fr.refl B6.dk) np3 (by show 0 < 3; decide) (by show 3 ≤ 1000; decide) fun x hx H7 f7 => ?_⟩
    obtain ⟨o, rfl, o0, o1⟩ : ∃ r : Int, x = .int r ∧ 0 ≤ r ∧ r ≤ 2 := by
      simp only [List.mem_cons, List.not_mem_nil, or_false] at hx
      rcases hx with rfl | rfl | rfl <;> exact ⟨_, rfl, by decide, by decide⟩
    have B7 := B6.fr f7
    have F7 := F6.trans (Fb.of (b := b) (p := p) B6.dk f7)
    have hl7 := f7.st D5 _ a1 a2 hl6
    have hs7 := f7.st D7 _ b1 b2 hs1
    refine ⟨o, rfl, by omega, by omega, fun D8 nD8 => ?_⟩
    obtain ⟨z8, c1, c2, c3, c4, c5⟩ := Fb.fresh B7 F7 nD8
    have d58 : D5 ≠ D8 := ne_of_none hl7 nD8
    have d78 : D7 ≠ D8 := ne_of_none hs7 nD8
    refine lc_range (lo := 0) (n := o.toNat) (fun i H' => NmInv d L b p kn D8 H 14 m6 i H' ∧ H' D5 = some (.lst (leads.map V.str)) ∧ H' D7 = some (.lst (softs.map V.str))) ⟨⟨[], upd_same, rfl, (fun x hx => by cases hx), B7.new nD8, F7.trans (Fb.new nD8)⟩, by rw [upd_ne d58]; exact hl7, by rw [upd_ne d78]; exact hs7⟩ (fun i H' hi h => ?_) (fun H8 h => ?_)
    · obtain ⟨⟨ms, hms, hl, ha, B, F⟩, h5, h7⟩ := h
      have em : m6 - i = (m6 - (i + 1)) + 1 := by omega
      rw [em] at B
      refine ⟨rfl, _, rfl, _, rfl, d, L, b, p, kn, 14, m6 - (i + 1), rfl, B, by omega, fun x H'' hx B' F' => ?_⟩
      obtain ⟨g1, g2, g3, g4, g5⟩ := fr1 (i := i) z8 c1 c2 c3 c4 c5 hms ha B F hx B' F'
      exact ⟨ms.map V.str, g1, small1000 (by rw [List.length_map]; omega), ⟨ms ++ [x], g4, by rw [List.length_append, hl]; rfl, g5, g2, g3⟩, by rw [upd_ne d58]; exact F'.st D5 _ a1 a2 a3 a4 h5, by rw [upd_ne d78]; exact F'.st D7 _ b1 b2 b3 b4 h7⟩
    obtain ⟨⟨owns, ho1, ho2, ho3, B8, F8⟩, hl8, hs8⟩ := h
    have lo : owns.length ≤ 2 := by omega
    generalize hm8 : m6 - o.toNat = m8 at B8
    have m8l : 27 ≤ m8 ∧ m8 ≤ 34 := by omega
    clear B7 F7 f7 B6 F6 hl7 hs7 hl6 hs1 fr1
    -- the block
    refine ⟨_, rfl, _, rfl, _, rfl, _, rfl, _, rfl, D7, D8, softs.map V.str, owns.map V.str, rfl, rfl, hs8, ho1, by rw [List.length_map, List.length_map]; exact Nat.le_trans (show softs.length + owns.length ≤ 1000 by omega) (by decide), fun pc npc => ?_⟩
    obtain ⟨_, e1', e2', e3', e4', e5'⟩ := Fb.fresh B8 F8 npc
    have B9 := B8.new (o := .lst (softs.map V.str ++ owns.map V.str)) npc
    have F9 := F8.trans (Fb.new (o := .lst (softs.map V.str ++ owns.map V.str)) npc)
    have N5 : Nn (984 - 10 * 3) L p (upd H8 pc (.lst (softs.map V.str ++ owns.map V.str))) D5 := Nn.new ⟨⟨leads, hl8, by omega, hl3⟩, a2, a4⟩ npc
    have Npc : Nn 6 L p (upd H8 pc (.lst (softs.map V.str ++ owns.map V.str))) pc := ⟨⟨softs ++ owns, by rw [upd_same, List.map_append], by rw [List.length_append]; omega, fun x hx => (List.mem_append.mp hx).elim (hs3 x) (ho3 x)⟩, e2', e4'⟩
    have hl9 : (upd H8 pc (.lst (softs.map V.str ++ owns.map V.str))) D5 = some (.lst (leads.map V.str)) := by rw [upd_ne (ne_of_none hl8 npc)]; exact hl8
    have hs9 : (upd H8 pc (.lst (softs.map V.str ++ owns.map V.str))) D7 = some (.lst (softs.map V.str)) := by rw [upd_ne (ne_of_none hs8 npc)]; exact hs8
    have ho9 : (upd H8 pc (.lst (softs.map V.str ++ owns.map V.str))) D8 = some (.lst (owns.map V.str)) := by rw [upd_ne (ne_of_none ho1 npc)]; exact ho1
    generalize upd H8 pc (.lst (softs.map V.str ++ owns.map V.str)) = H9 at B9 F9 N5 Npc hl9 hs9 ho9
    refine ⟨d, L, b, p, kn, D5, pc, 14, m8, rfl, B9, by omega, N5, Npc, fun t vb ld' D2 z2 m2 HA ht ok dt nn BA FA => ?_⟩
    obtain ⟨k1', k2', k3', k4', k5', k6'⟩ := ok
    have hlA := FA.st D5 _ a1 a2 a3 a4 hl9
    have hsA := FA.st D7 _ b1 b2 b3 b4 hs9
    have hoA := FA.st D8 _ c1 c2 c3 c4 ho9
    have FA' := F9.trans FA
    clear B9 F9 N5 Npc hl9 hs9 ho9 B8 F8 hl8 hs8 ho1 FA
    refine ⟨t, _, rfl, SqT.of ht, rfl, _, _, rfl, _, _, rfl, rfl, ?_⟩
    refine ⟨Nat.zero_le _, fun gl ngl => ?_⟩
    obtain ⟨zg, g1, g2, g3, g4, g5⟩ := Fb.fresh BA FA' ngl
    have dg5 : D5 ≠ gl := ne_of_none hlA ngl
    have dg7 : D7 ≠ gl := ne_of_none hsA ngl
    have dg8 : D8 ≠ gl := ne_of_none hoA ngl
    have BB := BA.new (o := .lst []) ngl
    have FB := FA'.trans (Fb.new (o := .lst []) ngl)
    have hgB : (upd HA gl (.lst [])) gl = some (.lst []) := upd_same
    have nnB := nn.new (o := .lst []) ngl
    have dtB := DT.fb dt (Fb.new (d := d) (L := L) (b := b) (p := p) (o := .lst []) ngl)
    have hlB : (upd HA gl (.lst [])) D5 = some (.lst (leads.map V.str)) := by rw [upd_ne dg5]; exact hlA
    have hsB : (upd HA gl (.lst [])) D7 = some (.lst (softs.map V.str)) := by rw [upd_ne dg7]; exact hsA
    have hoB : (upd HA gl (.lst [])) D8 = some (.lst (owns.map V.str)) := by rw [upd_ne dg8]; exact hoA
    have ldg : ld' ≠ gl := by
      obtain ⟨ns', e, _⟩ := nn.s
      exact ne_of_none e ngl
    generalize upd HA gl (.lst []) = HB at BB FB hgB nnB dtB hlB hsB hoB
    clear BA FA' nn dt hlA hsA hoA
    refine ⟨_, rfl, by show 5 ≤ sizeLine; decide, fun p5 np5 => pickL (Fr.refl BB.dk) np5 (by show 0 < 5; decide) (by show 5 ≤ 1000; decide) fun x hx HC fC => ?_⟩
    obtain ⟨u, rfl, u0, u1⟩ : ∃ r : Int, x = .int r ∧ 1 ≤ r ∧ r ≤ 3 := by
      simp only [List.mem_cons, List.not_mem_nil, or_false] at hx
      rcases hx with rfl | rfl | rfl | rfl | rfl <;> exact ⟨_, rfl, by decide, by decide⟩
    have FCf := Fb.of (b := b) (p := p) BB.dk fC
    refine ⟨u, rfl, by omega, by omega, for_range (lo := 0) (n := u.toNat) (fun i σ H' => ∃ (c6 : Option V) (acc : List V) (Ds : List PyData) (z' : Int), σ = [some (.ref d), some (.str nm), some (.ref kn), some (.int 14), some (.ref b), some (.ref D5), c6, some (.ref D7), some (.ref D8), some vb, some (.ref ld'), some (.ref gl)] ∧
      H' gl = some (.lst acc) ∧ DxAll (fun _ => True) H' acc Ds ∧ AccOk 2 z2 z' i Ds ∧ DT H' vb D2 ∧ Nn 990 L p H' ld' ∧ H' D5 = some (.lst (leads.map V.str)) ∧ H' D7 = some (.lst (softs.map V.str)) ∧ H' D8 = some (.lst (owns.map V.str)) ∧ Bx d L b p kn z' m2 H' ∧ Fb d L b p H H')
      ⟨none, [], [], z2, rfl, fC.st gl _ g1 g2 hgB, .nil, ⟨by omega, trivial, Nat.zero_le _, rfl, by simp [wtL], (fun x hx => by cases hx)⟩, DT.fb dtB FCf, nnB.fb BB FCf, fC.st D5 _ a1 a2 hlB, fC.st D7 _ b1 b2 hsB, fC.st D8 _ c1 c2 hoB, BB.fr fC, FB.trans FCf⟩ (fun i σ H' hi h => ?_) (fun σ H' h => ?_)⟩
    · obtain ⟨c6, acc, Ds, z', rfl, hg, hDs, ao, dt', nn', h5, h7, h8, B, F⟩ := h
      obtain ⟨xs, ex, lx, ax⟩ := nn'.s
      refine ⟨_, rfl, .inl ⟨rfl, _, SqL.of hg⟩, _, rfl, _, rfl, _, rfl, _, rfl, _, rfl, ld', D7, xs.map V.str, softs.map V.str, rfl, rfl, ex, h7, by rw [List.length_map, List.length_map]; exact Nat.le_trans (show xs.length + softs.length ≤ 1000 by omega) (by decide), fun pa npa => ⟨_, rfl, pa, D8, _, owns.map V.str, rfl, rfl, upd_same, by rw [upd_ne (ne_of_none h8 npa)]; exact h8, by rw [List.length_append, List.length_map, List.length_map, List.length_map]; exact Nat.le_trans (show xs.length + softs.length + owns.length ≤ 1000 by omega) (by decide), fun pb npb => ?_⟩⟩
      have Bp := (B.new (o := .lst (xs.map V.str ++ softs.map V.str)) npa).new (o := .lst (xs.map V.str ++ softs.map V.str ++ owns.map V.str)) npb
      have Fp := (Fb.new (d := d) (L := L) (b := b) (p := p) (o := .lst (xs.map V.str ++ softs.map V.str)) npa).trans (Fb.new (o := .lst (xs.map V.str ++ softs.map V.str ++ owns.map V.str)) npb)
      obtain ⟨_, q1, q2, q3, q4, q5⟩ := Fb.fresh (B.new (o := .lst (xs.map V.str ++ softs.map V.str)) npa) (F.trans (Fb.new (o := .lst (xs.map V.str ++ softs.map V.str)) npa)) npb
      have Np : Nl L p (upd (upd H' pa (.lst (xs.map V.str ++ softs.map V.str))) pb (.lst (xs.map V.str ++ softs.map V.str ++ owns.map V.str))) pb := ⟨⟨xs ++ softs ++ owns, by rw [upd_same, List.map_append, List.map_append], by rw [List.length_append, List.length_append]; omega, fun x hx => by
        rcases List.mem_append.mp hx with h | h
        · exact (List.mem_append.mp h).elim (ax x) (hs3 x)
        · exact ho3 x h⟩, q2, q4⟩
      refine ⟨d, L, b, p, kn, ld', pb, z', m2, rfl, Bp, ((nn'.fb B Fp).nl (by omega)), Np, fun v D3 z3 H'' ok3 dt3 B'' F'' => ?_⟩
      have hg' := F''.st gl _ g1 g2 g3 g4 (Fp.st gl _ g1 g2 g3 g4 hg)
      have FF := Fp.trans F''
      have tp : ∀ c xs, H'' c = some (.tup xs) → (upd H'' gl (.lst (acc ++ [v]))) c = some (.tup xs) := fun c xs e => by
        rw [upd_ne (ne_of e hg' (by intro z; cases z))]
        exact e
      have la : acc.length = i := by rw [DxAll.length hDs, ao.2.2.2.1]
      refine ⟨gl, acc, v, rfl, rfl, hg', small1000 (by omega), ?_⟩
      refine ⟨_, acc ++ [v], Ds ++ [D3], z3, rfl, upd_same, (DTs.fb (DTs.fb hDs FF.tp) tp).app (.cons (Dx.kp ⟨fun a o n => absurd trivial n, tp⟩ _ _ dt3) .nil), ao.step ok3, Dx.kp ⟨fun a o n => absurd trivial n, fun c xs e => tp c xs (FF.tp c xs e)⟩ _ _ dt', (nn'.fb B FF).keep (fun xs e => by rw [upd_ne ldg]; exact e), by rw [upd_ne dg5]; exact FF.st D5 _ a1 a2 a3 a4 h5, by rw [upd_ne dg7]; exact FF.st D7 _ b1 b2 b3 b4 h7, by rw [upd_ne dg8]; exact FF.st D8 _ c1 c2 c3 c4 h8, B''.mut hg' g1 g2 g3 g4 g5, (F.trans FF).mut (xs := acc) zg⟩
    · obtain ⟨c6, acc, Ds, z', rfl, hg, hDs, ⟨o1', o2', o3', o4', o5', o6'⟩, dt', nn', h5, h7, h8, B, F⟩ := h
      refine ⟨_, rfl, _, rfl, D5, _, rfl, .inl ⟨SqL.of h5, fun r1 nr1 => ?_⟩⟩
      have t1 : (upd H' r1 (.tup (leads.map V.str))) r1 = some (.tup (leads.map V.str)) := upd_same
      have K1 : Fb d L b p H' (upd H' r1 (.tup (leads.map V.str))) := Fb.new nr1
      have B1 := B.new (o := .tup (leads.map V.str)) nr1
      have w7 : (upd H' r1 (.tup (leads.map V.str))) D7 = some (.lst (softs.map V.str)) := by rw [upd_ne (ne_of_none h7 nr1)]; exact h7
      have w8 : (upd H' r1 (.tup (leads.map V.str))) D8 = some (.lst (owns.map V.str)) := by rw [upd_ne (ne_of_none h8 nr1)]; exact h8
      have wg : (upd H' r1 (.tup (leads.map V.str))) gl = some (.lst acc) := by rw [upd_ne (ne_of_none hg nr1)]; exact hg
      generalize upd H' r1 (.tup (leads.map V.str)) = J1 at t1 K1 B1 w7 w8 wg
      refine ⟨_, rfl, D7, _, rfl, .inl ⟨SqL.of w7, fun r2 nr2 => ?_⟩⟩
      have t2 : (upd J1 r2 (.tup (softs.map V.str))) r2 = some (.tup (softs.map V.str)) := upd_same
      have K2 : Fb d L b p H' (upd J1 r2 (.tup (softs.map V.str))) := K1.trans (Fb.new nr2)
      have B2 := B1.new (o := .tup (softs.map V.str)) nr2
      have v8 : (upd J1 r2 (.tup (softs.map V.str))) D8 = some (.lst (owns.map V.str)) := by rw [upd_ne (ne_of_none w8 nr2)]; exact w8
      have vg : (upd J1 r2 (.tup (softs.map V.str))) gl = some (.lst acc) := by rw [upd_ne (ne_of_none wg nr2)]; exact wg
      have t12 : (upd J1 r2 (.tup (softs.map V.str))) r1 = some (.tup (leads.map V.str)) := by rw [upd_ne (ne_of_none t1 nr2)]; exact t1
      generalize upd J1 r2 (.tup (softs.map V.str)) = J2 at t2 K2 B2 v8 vg t12
      refine ⟨_, rfl, D8, _, rfl, .inl ⟨SqL.of v8, fun r3 nr3 => ?_⟩⟩
      have t3 : (upd J2 r3 (.tup (owns.map V.str))) r3 = some (.tup (owns.map V.str)) := upd_same
      have K3 : Fb d L b p H' (upd J2 r3 (.tup (owns.map V.str))) := K2.trans (Fb.new nr3)
      have B3 := B2.new (o := .tup (owns.map V.str)) nr3
      have ug : (upd J2 r3 (.tup (owns.map V.str))) gl = some (.lst acc) := by rw [upd_ne (ne_of_none vg nr3)]; exact vg
      have t13 : (upd J2 r3 (.tup (owns.map V.str))) r1 = some (.tup (leads.map V.str)) := by rw [upd_ne (ne_of_none t12 nr3)]; exact t12
      have t23 : (upd J2 r3 (.tup (owns.map V.str))) r2 = some (.tup (softs.map V.str)) := by rw [upd_ne (ne_of_none t2 nr3)]; exact t2
      generalize upd J2 r3 (.tup (owns.map V.str)) = J3 at t3 K3 B3 ug t13 t23
      refine ⟨_, rfl, _, rfl, gl, _, rfl, .inl ⟨SqL.of ug, fun r4 nr4 => ⟨by show 7 ≤ sizeLine; decide, fun r5 nr5 => ?_⟩⟩⟩
      have t4 : (upd J3 r4 (.tup acc)) r4 = some (.tup acc) := upd_same
      have J5 : ∀ c xs, J3 c = some (.tup xs) → (upd (upd J3 r4 (.tup acc)) r5 (.tup [.str "fun", .str nm, .ref r1, .ref r2, .ref r3, vb, .ref r4])) c = some (.tup xs) := ((Fb.new (d := d) (L := L) (b := b) (p := p) nr4).trans (Fb.new nr5)).tp
      have K5 := K3.trans ((Fb.new (o := .tup acc) nr4).trans (Fb.new (o := .tup [.str "fun", .str nm, .ref r1, .ref r2, .ref r3, vb, .ref r4]) nr5))
      have BF := (B3.new (o := .tup acc) nr4).new (o := .tup [.str "fun", .str nm, .ref r1, .ref r2, .ref r3, vb, .ref r4]) nr5
      obtain ⟨ld1, ld2, ld3, ld4⟩ := strs_data hl3
      obtain ⟨sd1, sd2, sd3, sd4⟩ := strs_data hs3
      obtain ⟨od1, od2, od3, od4⟩ := strs_data ho3
      have hnl := hnm.1
      have lg : Ds.length = u.toNat := o4'
      refine q _ (.tuple [.str "fun", .str nm, .tuple (leads.map .str), .tuple (softs.map .str), .tuple (owns.map .str), D2, .tuple Ds]) _ ⟨leads, softs, owns, Ds, D2, rfl, k6', o6', ll, ls, by omega, by omega, ?_, ?_, ?_⟩
        (.tup upd_same (.cons (.str _) (.cons (.str _) (.cons (.tup (J5 _ _ t13) (ld1 _)) (.cons (.tup (J5 _ _ t23) (sd1 _)) (.cons (.tup (J5 _ _ t3) (od1 _)) (.cons (DT.fb dt' K5) (.cons (.tup (by rw [upd_ne (ne_of_none t4 nr5)]; exact t4) (DTs.fb hDs K5.tp)) .nil))))))))
        ⟨BF.dk, fun c o h1 h2 e => ((F.trans K5).st c o h1 h2 (ne_of_none e nb) (ne_of_none e pH) e)⟩
      · exact pt_tup (by show 7 ≤ 1000; decide) ⟨pt_str (n := 100) (ascn (by decide +kernel)) (by decide), pt_str hnm (by decide), pt_tup (by rw [List.length_map]; omega) ld2, pt_tup (by rw [List.length_map]; omega) sd2, pt_tup (by rw [List.length_map]; omega) od2, k3', pt_tup (by omega) o2', trivial⟩
      · show max 0 (max 0 (max (PyData.depthAll (leads.map PyData.str) + 1) (max (PyData.depthAll (softs.map PyData.str) + 1) (max (PyData.depthAll (owns.map PyData.str) + 1) (max D2.depth (max (PyData.depthAll Ds + 1) 0)))))) + 1 ≤ 16
        omega
      · show (10 * ("fun" : Str).length + 2 + 2 + (10 * nm.length + 2 + 2 + (wtL (leads.map PyData.str) + 3 + 2 + (wtL (softs.map PyData.str) + 3 + 2 + (wtL (owns.map PyData.str) + 3 + 2 + (wt D2 + 2 + (wtL Ds + 3 + 2 + 0))))))) + 3 ≤ 400000
        rw [show ("fun" : Str).length = 3 from rfl]
        have : z2.toNat ≤ 14 := by omega
        omega
def names6 : List Str := ["f", "g", "x", "main", "times_2", "h0"]
theorem names6_ok : ∀ x ∈ names6, AscN 20 x := fun x hx => by
  have key : names6.all (fun z => decide (z.length ≤ 20) && z.cps.toList.all fun c => decide (c < 128)) = true := by decide +kernel
  exact ascn (List.all_eq_true.mp key x hx)
def PgD (D : PyData) : Prop := ∃ Ds : List PyData, D = .tuple Ds ∧ 1 ≤ Ds.length ∧ Ds.length ≤ 3 ∧ (∀ x ∈ Ds, ∃ nm, FnD nm x) ∧ Pt D ∧ D.depth ≤ 17 ∧ wt D ≤ 1200100
def spProg : Sp := fun vs H Q _ => ∃ (d L : Addr), vs = [.ref d, .int 3, .int 14] ∧ DK d L H ∧ ∀ v D H', PgD D → DT H' v D → Fr d L H H' → Q v H'
theorem Dx3.prog (D : Dx3 K mg) : FnOk P w K mg base CX0 22 (He.fAd K ("_law_drawn_program", none)) (D.f3 "_law_drawn_program") P__law_drawn_program spProg := by
  have T := D.T
  have D__law_draw := D.d_draw
  have D__law_pick := D.d_pick
  have D__law_drawn_function := D.d_fun
  have G__law_draw : FnOk P w K mg base CX0 1 (He.fAd K ("_law_draw", none)) (D.fd "_law_draw") P__law_draw spDraw := D.draw
  have G__law_pick : FnOk P w K mg base CX0 2 (He.fAd K ("_law_pick", none)) (D.fd "_law_pick") P__law_pick (spPick K) := D.pick
  have G__law_drawn_function : FnOk P w K mg base CX0 21 (He.fAd K ("_law_drawn_function", none)) (D.f3 "_law_drawn_function") P__law_drawn_function spFun := D.fun_
  refine (fun_of D.d_prog.F).ok (k := 21) sc__law_drawn_program (fun vs H Q E h => ?_) (fun cdv A outer s H vs Q E hr h => ?_)
  · obtain ⟨d, L, rfl, _⟩ := h
    rfl
  · obtain ⟨d, L, rfl, hD, q⟩ := h
    refine ⟨_, (pss_cons (ps_par3 (i := 3) (j := 4) (l := 5) (by rfl) sc__law_drawn_program.nd rfl rfl rfl (by decide) (by decide) (by decide) rfl rfl rfl (pa_cons (pe_lst (pa_cons pe_str (pa_cons pe_str (pa_cons pe_str (pa_cons pe_str (pa_cons pe_str (pa_cons pe_str pa_nil))))))) (pa_cons (pe_lst pa_nil) (pa_cons (pe_lst pa_nil) pa_nil))) (by rfl))
      (pss_cons (ps_for PassesOwn.never rfl (pi_range1 rfl T.range (pa_cons (pe_call G__law_pick (hr.mono (by first | decide | omega)) (by rfl) D__law_pick.g D__law_pick.F.kp D__law_pick.b .nil pass0 (pa_cons (pv 0) (pa_cons (pe_lst (pa_cons pe_int (pa_cons pe_int (pa_cons pe_int (pa_cons pe_int (pa_cons (pv 1) pa_nil)))))) pa_nil))) pa_nil)) (pg_name (i := 6) sc__law_drawn_program.nd rfl (.inl rfl)) (pss_one (ps_if (pt_cmpR op_lt (pv 6) (pv 1) (nomark _)) (pss_cons (ps_set (i := 7) sc__law_drawn_program.nd rfl (.inl rfl) (pe_bm PySem.F.plainAttrs_list PySem.F.slot_list_pop PySem.F.type_list_pop mt_popAt (pv 3) (pa_cons (pe_call G__law_draw (hr.mono (by first | decide | omega)) (by rfl) D__law_draw.g D__law_draw.F.kp D__law_draw.b .nil pass0 (pa_cons (pv 0) (pa_cons (pe_callB call_len (by rfl) T.len (by decide +kernel) (pa_cons (pv 3) pa_nil)) pa_nil))) pa_nil)))
              (pss_cons (ps_set (i := 8) sc__law_drawn_program.nd rfl (.inl rfl) (pe_call G__law_drawn_function (hr.mono (by first | decide | omega)) (by rfl) D__law_drawn_function.g D__law_drawn_function.F.kp D__law_drawn_function.b .nil pass0 (pa_cons (pv 0) (pa_cons (pv 7) (pa_cons (pv 4) (pa_cons (pv 2) pa_nil))))))
              (pss_cons (ps_expr (pe_bm PySem.F.plainAttrs_list PySem.F.slot_list_append PySem.F.type_list_append mt_append (pv 5) (pa_cons (pv 8) pa_nil)))
              (pss_one (ps_set (i := 4) sc__law_drawn_program.nd rfl (.inl rfl) (pe_op op_cat (pv 4) (pe_lst (pa_cons (pe_tup (pa_cons (pv 7) (pa_cons (pe_callB call_len (by rfl) T.len (by decide +kernel) (pa_cons (pe_ix ix_tup (pv 8) pe_int (fun _ _ => rfl)) pa_nil)) (pa_cons (pe_callB call_len (by rfl) T.len (by decide +kernel) (pa_cons (pe_ix ix_tup (pv 8) pe_int (fun _ _ => rfl)) pa_nil)) (pa_cons (pe_callB call_len (by rfl) T.len (by decide +kernel) (pa_cons (pe_ix ix_tup (pv 8) pe_int (fun _ _ => rfl)) pa_nil)) pa_nil))))) pa_nil)))))))) pss_nil)))
      (pss_one (ps_ret (pe_callTy call_tuple_of (by rfl) T.tuple (by decide +kernel) (pa_cons (pv 5) pa_nil)))))), ?_⟩
    refine ⟨by show 6 ≤ sizeLine; decide, fun nl nnl => ?_⟩
    have f1 : KA.Fr d L H (upd H nl (.lst (names6.map V.str))) := Fr.new hD nnl
    obtain ⟨n0, n1, n2⟩ := (Fr.refl hD).fresh nnl
    have hn1 : (upd H nl (.lst (names6.map V.str))) nl = some (.lst (names6.map V.str)) := upd_same
    refine ⟨Nat.zero_le _, fun kl nkl => ?_⟩
    replace nkl : (upd H nl (.lst (names6.map V.str))) kl = none := nkl
    obtain ⟨k0, k1, k2⟩ := f1.fresh nkl
    have kn1 : nl ≠ kl := ne_of_none hn1 nkl
    have f2 := f1.trans (Fr.new f1.dk (o := .lst []) nkl)
    have hn2 : (upd (upd H nl (.lst (names6.map V.str))) kl (.lst [])) nl = some (.lst (names6.map V.str)) := by rw [upd_ne kn1]; exact hn1
    have hk2 : (upd (upd H nl (.lst (names6.map V.str))) kl (.lst [])) kl = some (.lst []) := upd_same
    refine ⟨Nat.zero_le _, fun fl nfl => ⟨_, _, _, rfl, ?_⟩⟩
    replace nfl : (upd (upd H nl (.lst (names6.map V.str))) kl (.lst [])) fl = none := nfl
    obtain ⟨g0, g1, g2⟩ := f2.fresh nfl
    have fn1 : nl ≠ fl := ne_of_none hn2 nfl
    have fk1 : kl ≠ fl := ne_of_none hk2 nfl
    have f3 := f2.trans (Fr.new f2.dk (o := .lst []) nfl)
    have hn3 : (upd (upd (upd H nl (.lst (names6.map V.str))) kl (.lst [])) fl (.lst [])) nl = some (.lst (names6.map V.str)) := by rw [upd_ne fn1]; exact hn2
    have hk3 : (upd (upd (upd H nl (.lst (names6.map V.str))) kl (.lst [])) fl (.lst [])) kl = some (.lst []) := by rw [upd_ne fk1]; exact hk2
    have hf3 : (upd (upd (upd H nl (.lst (names6.map V.str))) kl (.lst [])) fl (.lst [])) fl = some (.lst []) := upd_same
    show tSeq _ _ _ _ (upd (upd (upd H nl (.lst (names6.map V.str))) kl (.lst [])) fl (.lst []))
    generalize upd (upd (upd H nl (.lst (names6.map V.str))) kl (.lst [])) fl (.lst []) = H3 at f3 hn3 hk3 hf3
    clear hn1 hn2 hk2 f1 f2
    refine ⟨_, rfl, _, rfl, by show 5 ≤ sizeLine; decide, fun p1 np1 => pickL (Fr.refl f3.dk) np1 (by show 0 < 5; decide) (by show 5 ≤ 1000; decide) fun x hx H4 f4 => ?_⟩
    obtain ⟨r, rfl, r0, r1⟩ : ∃ r : Int, x = .int r ∧ 1 ≤ r ∧ r ≤ 3 := by
      simp only [List.mem_cons, List.not_mem_nil, or_false] at hx
      rcases hx with rfl | rfl | rfl | rfl | rfl <;> exact ⟨_, rfl, by decide, by decide⟩
    refine ⟨r, rfl, by omega, by omega, for_range (lo := 0) (n := r.toNat) (fun i σ H' => ∃ (c6 c7 c8 : Option V) (ms : List Str) (ka : Addr) (ks acc : List V) (Ds : List PyData), σ = [some (.ref d), some (.int 3), some (.int 14), some (.ref nl), some (.ref ka), some (.ref fl), c6, c7, c8] ∧
      H' nl = some (.lst (ms.map V.str)) ∧ ms.length + i = 6 ∧ (∀ x ∈ ms, AscN 20 x) ∧ H' ka = some (.lst ks) ∧ ks.length = i ∧ (∀ k ∈ ks, KnOk H' k) ∧ ka ≠ L ∧ ka ≠ d ∧ ka ≠ nl ∧ ka ≠ fl ∧ H' fl = some (.lst acc) ∧ DxAll (fun _ => True) H' acc Ds ∧ Ds.length = i ∧ (∀ x ∈ Ds, ∃ nm, FnD nm x) ∧ PtL Ds ∧ PyData.depthAll Ds ≤ 16 ∧ wtL Ds ≤ 400002 * i ∧ KA.Fr d L H H')
      ⟨none, none, none, names6, kl, [], [], [], rfl, f4.st nl _ n1 n2 hn3, rfl, names6_ok, f4.st kl _ k1 k2 hk3, rfl, (fun k hk => by cases hk), k2, k1, kn1.symm, fk1, f4.st fl _ g1 g2 hf3, .nil, rfl, (fun x hx => by cases hx), trivial, Nat.zero_le _, by simp [wtL], f3.trans f4⟩ (fun i σ H5 hi h => ?_) (fun σ H5 h => ?_)⟩
    · obtain ⟨c6, c7, c8, ms, ka, ks, acc, Ds, rfl, hms, lms, ams, hks, lks, kks, q1, q2, q3, q4, hacc, hDs, lDs, fDs, pDs, dDs, wDs, F⟩ := h
      refine ⟨_, rfl, _, rfl, _, _, rfl, rfl, _, rfl, ite2 (fun _ => ?_) (fun h => absurd (decide_eq_true (show (0 : Int) + (i : Int) < 3 by omega)) h)⟩
      refine ⟨_, rfl, .inl ⟨rfl, _, SqL.of hms⟩, _, rfl, _, rfl, .ref nl, (ms.map V.str).length, rfl, .inl ⟨_, SqL.of hms, rfl⟩, d, L, _, rfl, F.dk, by rw [List.length_map]; omega, by rw [List.length_map]; omega, fun u H6 u0 u1 f => ?_⟩
      obtain ⟨j, rfl⟩ := Int.eq_ofNat_of_zero_le u0
      have hj : j < ms.length := by rw [List.length_map] at u1; omega
      have hms6 := f.st nl _ n1 n2 hms
      have hx : (ms.map V.str)[j]? = some (.str ms[j]!) := by
        rw [List.getElem?_map, List.getElem?_eq_getElem hj]
        simp [hj]
      have hmem : ms[j]! ∈ ms := by simp [hj]
      refine ⟨nl, ms.map V.str, (j : Int), j, _, rfl, rfl, hms6, by omega, by omega, seq_nat (by rw [List.length_map]; exact hj), hx, ?_⟩
      have tp7 : ∀ c xs, H6 c = some (.tup xs) → (upd H6 nl (.lst ((ms.map V.str).eraseIdx j))) c = some (.tup xs) := fun c xs e => by
        rw [upd_ne (ne_of e hms6 (by intro z; cases z))]
        exact e
      have F7 : KA.Fr d L H (upd H6 nl (.lst ((ms.map V.str).eraseIdx j))) := (F.trans f).mut n0 n1 n2
      have hn7 : (upd H6 nl (.lst ((ms.map V.str).eraseIdx j))) nl = some (.lst ((ms.eraseIdx j).map V.str)) := by rw [upd_same, er_map]
      have hk7 : (upd H6 nl (.lst ((ms.map V.str).eraseIdx j))) ka = some (.lst ks) := by rw [upd_ne q3]; exact f.st ka _ q2 q1 hks
      have hf7 : (upd H6 nl (.lst ((ms.map V.str).eraseIdx j))) fl = some (.lst acc) := by rw [upd_ne fn1.symm]; exact f.st fl _ g1 g2 hacc
      have kk7 : ∀ k ∈ ks, KnOk (upd H6 nl (.lst ((ms.map V.str).eraseIdx j))) k := fun k hk => ((kks k hk).tp (fr_tp F.dk f)).tp tp7
      have hD7 := DTs.fb (DTs.fb hDs (fr_tp F.dk f)) tp7
      generalize upd H6 nl (.lst ((ms.map V.str).eraseIdx j)) = H7 at tp7 F7 hn7 hk7 hf7 kk7 hD7
      refine ⟨_, rfl, _, rfl, _, rfl, _, rfl, d, L, ka, _, rfl, F7.dk, q1, ams _ hmem, ⟨ks, hk7, by omega, kk7⟩, fun v D1 H8 fd dt f8 => ?_⟩
      have hn8 := f8.st nl _ n1 n2 hn7
      have hk8 := f8.st ka _ q2 q1 hk7
      have hf8 := f8.st fl _ g1 g2 hf7
      have la : acc.length = i := by rw [DxAll.length hDs, lDs]
      refine ⟨_, rfl, .inl ⟨rfl, _, SqL.of hf8⟩, _, rfl, fl, acc, v, rfl, rfl, hf8, small1000 (by omega), ?_⟩
      have tp9 : ∀ c xs, H8 c = some (.tup xs) → (upd H8 fl (.lst (acc ++ [v]))) c = some (.tup xs) := fun c xs e => by
        rw [upd_ne (ne_of e hf8 (by intro z; cases z))]
        exact e
      have F9 : KA.Fr d L H (upd H8 fl (.lst (acc ++ [v]))) := (F7.trans f8).mut g0 g1 g2
      have hn9 : (upd H8 fl (.lst (acc ++ [v]))) nl = some (.lst ((ms.eraseIdx j).map V.str)) := by rw [upd_ne fn1]; exact hn8
      have hk9 : (upd H8 fl (.lst (acc ++ [v]))) ka = some (.lst ks) := by rw [upd_ne q4]; exact hk8
      have hf9 : (upd H8 fl (.lst (acc ++ [v]))) fl = some (.lst (acc ++ [v])) := upd_same
      have kk9 : ∀ k ∈ ks, KnOk (upd H8 fl (.lst (acc ++ [v]))) k := fun k hk => ((kk7 k hk).tp (fr_tp F7.dk f8)).tp tp9
      have dt9 : DT (upd H8 fl (.lst (acc ++ [v]))) v D1 := Dx.kp ⟨fun a o n => absurd trivial n, tp9⟩ _ _ dt
      have hD9 := (DTs.fb (DTs.fb hD7 (fr_tp F7.dk f8)) tp9).app (.cons dt9 .nil)
      generalize upd H8 fl (.lst (acc ++ [v])) = H9 at tp9 F9 hn9 hk9 hf9 kk9 dt9 hD9
      have fd0 := fd
      obtain ⟨l, ss, o, g, bl, rfl, _, _, b1, b2, b3, b4, b5, b6, b7⟩ := fd0
      obtain ⟨t, ws, rfl, ht, hws⟩ := Dx.tupOf dt9
      obtain ⟨v0, v1, v2, v3, v4, v5, v6, y0, y1, y2, y3, y4, y5, y6, ew, ey, _, _, h2, h3, _, _, h6⟩ := len7 hws (DxAll.length hws)
      cases ew
      cases ey
      · skip
        obtain ⟨t2, w2, rfl, e2, r2⟩ := Dx.tupOf h2
        obtain ⟨t3, w3, rfl, e3, r3⟩ := Dx.tupOf h3
        obtain ⟨t6, w6, rfl, e6, r6⟩ := Dx.tupOf h6
        refine ⟨_, rfl, _, rfl, _, rfl, t, _, 2, .ref t2, rfl, rfl, SqT.of ht, rfl, .ref t2, w2.length, rfl, .inr ⟨_, SqT.of e2, rfl⟩, ?_⟩
        refine ⟨_, rfl, t, _, 3, .ref t3, rfl, rfl, SqT.of ht, rfl, .ref t3, w3.length, rfl, .inr ⟨_, SqT.of e3, rfl⟩, ?_⟩
        refine ⟨_, rfl, t, _, 6, .ref t6, rfl, rfl, SqT.of ht, rfl, .ref t6, w6.length, rfl, .inr ⟨_, SqT.of e6, rfl⟩, by show 4 ≤ sizeLine; decide, fun p3 np3 => ⟨by show 1 ≤ sizeLine; decide, fun p4 np4 => ?_⟩⟩
        have s34 : Same H9 (upd (upd H9 p3 (.tup [.str ms[j]!, .int w2.length, .int w3.length, .int w6.length])) p4 (.lst [.ref p3])) := (same_new np3).trans (same_new np4)
        refine ⟨ka, p4, ks, [.ref p3], rfl, rfl, s34 _ _ hk9, upd_same, by show ks.length + 1 ≤ sizeLine; exact Nat.le_trans (show ks.length + 1 ≤ 1000 by omega) (by decide), fun p5 np5 => ?_⟩
        have s5 := s34.trans (same_new (o := .lst (ks ++ [.ref p3])) np5)
        have f5 : KA.Fr d L H9 (upd (upd (upd H9 p3 (.tup [.str ms[j]!, .int w2.length, .int w3.length, .int w6.length])) p4 (.lst [.ref p3])) p5 (.lst (ks ++ [.ref p3]))) := ⟨DK.same' F9.dk s5, fun c o _ _ e => s5 _ _ e⟩
        have e3' : (upd H9 p3 (.tup [.str ms[j]!, .int w2.length, .int w3.length, .int w6.length])) p3 = some (.tup [.str ms[j]!, .int w2.length, .int w3.length, .int w6.length]) := upd_same
        have e3'' : (upd (upd H9 p3 (.tup [.str ms[j]!, .int w2.length, .int w3.length, .int w6.length])) p4 (.lst [.ref p3])) p3 = some (.tup [.str ms[j]!, .int w2.length, .int w3.length, .int w6.length]) := by rw [upd_ne (ne_of_none e3' np4)]; exact e3'
        have np5' : H9 p5 = none := Same.free s34 np5
        obtain ⟨_, z1, z2⟩ := (Fr.refl F9.dk).fresh np5'
        refine ⟨_, _, _, ms.eraseIdx j, p5, ks ++ [.ref p3], acc ++ [.ref t], Ds ++ [_], rfl, s5 _ _ hn9, ?_, fun x hx => ams x (List.mem_of_mem_eraseIdx hx), upd_same, by rw [List.length_append, lks]; rfl, fun k hk => ?_, z2, z1, (ne_of_none hn9 np5').symm, (ne_of_none hf9 np5').symm, s5 _ _ hf9, DTs.fb hD9 (fun c xs e => s5 _ _ e), by rw [List.length_append, lDs]; rfl, fun x hx => ?_, pDs.app ⟨b5, trivial⟩, ?_, ?_, F9.trans f5⟩
        · rw [List.length_eraseIdx, if_pos hj]
          omega
        · rcases List.mem_append.mp hk with h | h
          · exact (kk9 k h).tp fun c xs e => s5 _ _ e
          · rw [List.mem_singleton.mp h]
            refine ⟨p3, ms[j]!, w2.length, w3.length, w6.length, rfl, ?_, ams _ hmem, by rw [DxAll.length r2, List.length_map]; exact b1, by rw [DxAll.length r3, List.length_map]; exact b2, by rw [DxAll.length r6]; exact b3, by rw [DxAll.length r6]; exact b4⟩
            rw [upd_ne (ne_of_none e3'' np5)]
            exact e3''
        · rcases List.mem_append.mp hx with h | h
          · exact fDs x h
          · rw [List.mem_singleton.mp h]
            exact ⟨_, fd⟩
        · rw [depth_app]
          simp only [PyData.depthAll] at b6 ⊢
          omega
        · rw [wtL_app]
          simp only [wtL] at b7 ⊢
          omega
    · obtain ⟨c6, c7, c8, ms, ka, ks, acc, Ds, rfl, hms, lms, ams, hks, lks, kks, q1, q2, q3, q4, hacc, hDs, lDs, fDs, pDs, dDs, wDs, F⟩ := h
      refine ⟨_, rfl, fl, acc, rfl, .inl ⟨SqL.of hacc, fun q5 nq5 => ?_⟩⟩
      refine q _ (.tuple Ds) _ ⟨Ds, rfl, by omega, by omega, fDs, pt_tup (by omega) pDs, ?_, ?_⟩ (.tup upd_same (DTs.fb hDs (fun c xs e => by rw [upd_ne (ne_of_none e nq5)]; exact e))) (F.trans (Fr.new F.dk nq5))
      · show PyData.depthAll Ds + 1 ≤ 17
        omega
      · show wtL Ds + 3 ≤ 1200100
        omega
end
end TD3


set_option Elab.async false
set_option linter.all false
set_option maxRecDepth 100000
set_option maxHeartbeats 4000000
/-! What a datum shows is no longer than its weight. -/
namespace TR
open PySem PySem.Spec PyProof.Rows L2 KT KX KA KB KC KD KP KP2 KW TD
/- texts are short, ints are below b -/
mutual
def Gd (b : Nat) : PyData → Prop
  | .str z => Asc z
  | .int i => i.natAbs < b
  | .list xs => GdL b xs
  | .tuple xs => GdL b xs
  | .dict kvs => GdK b kvs
  | _ => True
def GdL (b : Nat) : List PyData → Prop
  | [] => True
  | x :: r => Gd b x ∧ GdL b r
def GdK (b : Nat) : List (PyData × PyData) → Prop
  | [] => True
  | (k, v) :: r => Gd b k ∧ Gd b v ∧ GdK b r
end
def sumL (ts : List Str) : Nat := (ts.map (·.length)).sum
theorem from_len : ∀ (ts : List Str) (k : Nat) (acc : Str), (textFrom k acc ts).length ≤ acc.length + sumL ts + 2 * ts.length
  | [], k, acc => by
    show acc.length ≤ _
    simp [sumL]
  | t :: r, k, acc => by
    have ih := from_len r (k + 1) (acc ++ (if k > 0 then ", " else "" : String) ++ t)
    have e : (acc ++ Str.ofString (if k > 0 then ", " else "" : String) ++ t).length ≤ acc.length + 2 + t.length := by
      rw [Str.length_append, Str.length_append]
      by_cases h : k > 0
      · rw [if_pos h]
        show acc.length + 2 + t.length ≤ _
        omega
      · rw [if_neg h]
        show acc.length + 0 + t.length ≤ _
        omega
    show (textFrom (k + 1) (acc ++ Str.ofString (if k > 0 then ", " else "" : String) ++ t) r).length ≤ _
    refine Nat.le_trans ih ?_
    simp only [sumL, List.map_cons, List.sum_cons, List.length_cons]
    omega
theorem list_len (ts : List Str) : (listText ts).length ≤ sumL ts + 2 * ts.length + 2 := by
  unfold listText
  rw [Str.length_append]
  have := from_len ts 0 "["
  have e : ("[" : Str).length = 1 := rfl
  have e2 : ("]" : Str).length = 1 := rfl
  omega
theorem join_len (ts : List Str) : (Str.join ", " ts).length ≤ sumL ts + 2 * ts.length := by
  have := StrLaws.join_length_le ", " ts
  have e : (", " : Str).length = 2 := rfl
  rw [e] at this
  unfold sumL
  omega
theorem tuple_len (ts : List Str) : (tupleText ts).length ≤ sumL ts + 2 * ts.length + 3 := by
  unfold tupleText
  rw [Str.length_append, Str.length_append]
  have := join_len ts
  have e : ("(" : Str).length = 1 := rfl
  by_cases h : (ts.length == 1) = true
  · rw [if_pos h]
    have e2 : (Str.ofString ",)").length = 2 := rfl
    omega
  · rw [if_neg h]
    have e2 : (Str.ofString ")").length = 1 := rfl
    omega
theorem dict_len (ts : List Str) : (dictText ts).length ≤ sumL ts + 2 * ts.length + 2 := by
  unfold dictText
  rw [Str.length_append, Str.length_append]
  have := join_len ts
  have e : ("{" : Str).length = 1 := rfl
  have e2 : ("}" : Str).length = 1 := rfl
  omega
mutual
theorem shown_wt {b : Nat} (hb : b ≤ 10 ^ 45) : ∀ d : PyData, Gd b d → d.shown.length ≤ wt d
  | .none, _ => by
    simp only [PyData.shown, wt]
    decide +kernel
  | .bool c, _ => by
    simp only [PyData.shown, wt]
    cases c <;> decide +kernel
  | .int i, h => by
    simp only [PyData.shown, wt]
    unfold Gd at h
    have := int_text_length_le10 (k := 45) (by decide) (Nat.lt_of_lt_of_le h hb)
    show (Str.ofString (toString i)).length ≤ 50
    rw [PySem.ofString_length]
    omega
  | .str z, h => by
    simp only [PyData.shown, wt]
    unfold Gd at h
    exact StrLaws.reprText_len z fun c hc => Nat.lt_of_lt_of_le (h.2 c hc) (by decide)
  | .list xs, h => by
    simp only [PyData.shown, wt]
    unfold Gd at h
    obtain ⟨h1, h2⟩ := shown_wtL hb xs h
    have := list_len (PyData.shownAll xs)
    omega
  | .tuple xs, h => by
    simp only [PyData.shown, wt]
    unfold Gd at h
    obtain ⟨h1, h2⟩ := shown_wtL hb xs h
    have := tuple_len (PyData.shownAll xs)
    omega
  | .dict kvs, h => by
    simp only [PyData.shown, wt]
    unfold Gd at h
    obtain ⟨h1, h2⟩ := shown_wtK hb kvs h
    have := dict_len (PyData.shownKv kvs)
    omega
theorem shown_wtL {b : Nat} (hb : b ≤ 10 ^ 45) : ∀ xs : List PyData, GdL b xs → sumL (PyData.shownAll xs) + 2 * (PyData.shownAll xs).length ≤ wtL xs ∧ (PyData.shownAll xs).length = xs.length
  | [], _ => ⟨by simp [PyData.shownAll, sumL, wtL], rfl⟩
  | x :: r, h => by
    unfold GdL at h
    have h1 := shown_wt hb x h.1
    obtain ⟨h2, h3⟩ := shown_wtL hb r h.2
    simp only [PyData.shownAll, wtL, sumL, List.map_cons, List.sum_cons, List.length_cons]
    unfold sumL at h2
    exact ⟨by omega, by omega⟩
theorem shown_wtK {b : Nat} (hb : b ≤ 10 ^ 45) : ∀ xs : List (PyData × PyData), GdK b xs → sumL (PyData.shownKv xs) + 2 * (PyData.shownKv xs).length ≤ wtK xs ∧ True
  | [], _ => ⟨by simp [PyData.shownKv, sumL, wtK], trivial⟩
  | (k, v) :: r, h => by
    unfold GdK at h
    have h1 := shown_wt hb k h.1
    have h0 := shown_wt hb v h.2.1
    obtain ⟨h2, _⟩ := shown_wtK hb r h.2.2
    simp only [PyData.shownKv, wtK, sumL, List.map_cons, List.sum_cons, List.length_cons, Str.length_append]
    unfold sumL at h2
    have e : (Str.ofString ": ").length = 2 := rfl
    rw [e]
    exact ⟨by omega, trivial⟩
end
/-! showable, and what is drawn is such -/
mutual
theorem gd_show {b : Nat} (hb : b ≤ 10 ^ 45) : ∀ d : PyData, Gd b d → d.showable = true
  | .none, _ => rfl
  | .bool _, _ => rfl
  | .str _, _ => rfl
  | .int i, h => by
    unfold Gd at h
    simp only [PyData.showable]
    refine decide_eq_true ?_
    rcases Nat.eq_zero_or_pos i.natAbs with e | e
    · rw [e]
      decide
    · have h2 : i.natAbs < 2 ^ 1920 := Nat.lt_of_lt_of_le (Nat.lt_of_lt_of_le h hb) (by decide +kernel)
      exact (Nat.log2_lt (by omega)).mpr h2
  | .list xs, h => by
    unfold Gd at h
    simp only [PyData.showable]
    exact gd_showL hb xs h
  | .tuple xs, h => by
    unfold Gd at h
    simp only [PyData.showable]
    exact gd_showL hb xs h
  | .dict kvs, h => by
    unfold Gd at h
    simp only [PyData.showable]
    exact gd_showK hb kvs h
theorem gd_showL {b : Nat} (hb : b ≤ 10 ^ 45) : ∀ xs : List PyData, GdL b xs → PyData.showableAll xs = true
  | [], _ => rfl
  | x :: r, h => by
    unfold GdL at h
    simp only [PyData.showableAll]
    rw [gd_show hb x h.1, gd_showL hb r h.2]
    rfl
theorem gd_showK {b : Nat} (hb : b ≤ 10 ^ 45) : ∀ xs : List (PyData × PyData), GdK b xs → PyData.showableKv xs = true
  | [], _ => rfl
  | (k, v) :: r, h => by
    unfold GdK at h
    simp only [PyData.showableKv]
    rw [gd_show hb k h.1, gd_show hb v h.2.1, gd_showK hb r h.2.2]
    rfl
end
mutual
theorem gd_asc {b : Nat} : ∀ d : PyData, Gd b d → AscA d
  | .none, _ => by unfold AscA; trivial
  | .bool _, _ => by unfold AscA; trivial
  | .str _, h => by
    unfold Gd at h
    unfold AscA
    exact h
  | .int i, h => by unfold AscA; trivial
  | .list xs, h => by
    unfold Gd at h
    unfold AscA
    exact gd_ascL xs h
  | .tuple xs, h => by
    unfold Gd at h
    unfold AscA
    exact gd_ascL xs h
  | .dict kvs, h => by unfold AscA; trivial
theorem gd_ascL {b : Nat} : ∀ xs : List PyData, GdL b xs → AscL xs
  | [], _ => by unfold AscL; trivial
  | x :: r, h => by
    unfold GdL at h
    unfold AscL
    exact ⟨gd_asc x h.1, gd_ascL r h.2⟩
end
mutual
theorem pt_gd {b : Nat} : ∀ d : PyData, Pt d → Gd b d ∧ ShA d
  | .str z, h => by
    unfold Pt at h
    unfold Gd ShA
    exact ⟨h.asc (by decide), trivial⟩
  | .tuple xs, h => by
    unfold Pt at h
    unfold Gd ShA
    obtain ⟨h1, h2⟩ := pt_gdL xs h.2
    exact ⟨h1, Nat.le_trans h.1 (by decide), h2⟩
  | .none, h => by unfold Pt at h; exact h.elim
  | .bool _, h => by unfold Pt at h; exact h.elim
  | .int _, h => by unfold Pt at h; exact h.elim
  | .list _, h => by unfold Pt at h; exact h.elim
  | .dict _, h => by unfold Pt at h; exact h.elim
theorem pt_gdL {b : Nat} : ∀ xs : List PyData, PtL xs → GdL b xs ∧ ShL xs
  | [], _ => by unfold GdL ShL; exact ⟨trivial, trivial⟩
  | x :: r, h => by
    unfold PtL at h
    unfold GdL ShL
    obtain ⟨a1, a2⟩ := pt_gd x h.1
    obtain ⟨b1, b2⟩ := pt_gdL r h.2
    exact ⟨⟨a1, b1⟩, a2, b2⟩
end
/-- repr of such a value -/
theorem repr_ok {b : Nat} (hb : b ≤ 10 ^ 45) {M : Addr → Prop} {H : Hp} {v : V} {d : PyData} {Q : VK} (h : Dx M H v d) (g : Gd b d) (dp : d.depth ≤ 150) (w : wt d ≤ 16777216) (q : Q (.str d.shown) H) : rReprX M [v] H Q :=
  ⟨v, d, rfl, h, gd_show hb d g, dp, Nat.le_trans (shown_wt hb d g) (by rw [sizeLine_eq]; exact w), q⟩
/-! what weighs little is short -/
theorem wtL_len : ∀ xs : List PyData, 2 * xs.length ≤ wtL xs
  | [] => Nat.zero_le _
  | x :: r => by
    have := wtL_len r
    simp only [wtL, List.length_cons]
    omega
mutual
theorem wt_sh : ∀ d : PyData, wt d ≤ 16000000 → ShA d
  | .none, _ => by unfold ShA; trivial
  | .bool _, _ => by unfold ShA; trivial
  | .int _, _ => by unfold ShA; trivial
  | .str _, _ => by unfold ShA; trivial
  | .list _, _ => by unfold ShA; trivial
  | .dict _, _ => by unfold ShA; trivial
  | .tuple xs, h => by
    simp only [wt] at h
    have := wtL_len xs
    unfold ShA
    exact ⟨by omega, wt_shL xs (by omega)⟩
theorem wt_shL : ∀ xs : List PyData, wtL xs ≤ 16000000 → ShL xs
  | [], _ => by unfold ShL; trivial
  | x :: r, h => by
    simp only [wtL] at h
    unfold ShL
    exact ⟨wt_sh x (by omega), wt_shL r (by omega)⟩
end
/-! with a bigger bound too -/
mutual
theorem Gd.mono {a b : Nat} (l : a ≤ b) : ∀ d : PyData, Gd a d → Gd b d
  | .none, _ => by unfold Gd; trivial
  | .bool _, _ => by unfold Gd; trivial
  | .str _, h => by
    unfold Gd at h ⊢
    exact h
  | .int i, h => by
    unfold Gd at h ⊢
    exact Nat.lt_of_lt_of_le h l
  | .list xs, h => by
    unfold Gd at h ⊢
    exact GdL.mono l xs h
  | .tuple xs, h => by
    unfold Gd at h ⊢
    exact GdL.mono l xs h
  | .dict kvs, h => by
    unfold Gd at h ⊢
    exact GdK.mono l kvs h
theorem GdL.mono {a b : Nat} (l : a ≤ b) : ∀ xs : List PyData, GdL a xs → GdL b xs
  | [], _ => by unfold GdL; trivial
  | x :: r, h => by
    unfold GdL at h ⊢
    exact ⟨Gd.mono l x h.1, GdL.mono l r h.2⟩
theorem GdK.mono {a b : Nat} (l : a ≤ b) : ∀ xs : List (PyData × PyData), GdK a xs → GdK b xs
  | [], _ => by unfold GdK; trivial
  | (k, v) :: r, h => by
    unfold GdK at h ⊢
    exact ⟨Gd.mono l k h.1, Gd.mono l v h.2.1, GdK.mono l r h.2.2⟩
end
end TR


set_option Elab.async false
set_option linter.all false
set_option maxRecDepth 100000
set_option maxHeartbeats 4000000
/-! Drawn values, with their data. -/
namespace TA2
open PySem PySem.Spec PyProof.Rows L2 KT KX KA KB KC KD KP KP2 KW TD TD2 TR
/-- what stands at H -/
abbrev On (H : Hp) : Addr → Prop := fun a => H a ≠ none
def AnyD (n : Nat) (D : PyData) : Prop := Gd (10 ^ 30) D ∧ ShA D ∧ D.depth ≤ 2 * n + 2 ∧ wt D ≤ 800 * 4 ^ n
def spAnyD (n : Nat) : Sp := fun vs H Q _ => ∃ d L : Addr, vs = [.ref d, .int n] ∧ DK d L H ∧ ∀ v D H', AnyD n D → Dx (On H) H' v D → KA.Fr d L H H' → Q v H'
def spPrevD : Nat → Sp
  | 0 => spNo
  | n + 1 => spAnyD n
theorem anyI {n : Nat} {i : Int} (h : i.natAbs < 10 ^ 30) : AnyD n (.int i) := by
  refine ⟨by unfold Gd; exact h, by unfold ShA; trivial, Nat.zero_le _, ?_⟩
  simp only [wt]
  have : 1 ≤ 4 ^ n := Nat.one_le_pow _ _ (by decide)
  omega
theorem anyS {n : Nat} {z : Str} (h : AscN 4 z) : AnyD n (.str z) := by
  refine ⟨by unfold Gd; exact h.asc (by decide), by unfold ShA; trivial, Nat.zero_le _, ?_⟩
  simp only [wt]
  have := h.1
  have : 1 ≤ 4 ^ n := Nat.one_le_pow _ _ (by decide)
  omega
theorem any0 {n : Nat} {D : PyData} (h : D = .none ∨ D = .bool true ∨ D = .bool false) : AnyD n D := by
  have : 1 ≤ 4 ^ n := Nat.one_le_pow _ _ (by decide)
  rcases h with rfl | rfl | rfl <;> exact ⟨by unfold Gd; trivial, by unfold ShA; trivial, Nat.zero_le _, by simp only [wt]; omega⟩
/-- the parts of a list so far -/
def PsOk (n i : Nat) (Ds : List PyData) : Prop := GdL (10 ^ 30) Ds ∧ ShL Ds ∧ (n = 0 → Ds = []) ∧ PyData.depthAll Ds ≤ 2 * n ∧ Ds.length = i ∧ 4 * wtL Ds ≤ i * (800 * 4 ^ n + 8)
theorem GdL.app {n : Nat} : ∀ {a b : List PyData}, GdL n a → GdL n b → GdL n (a ++ b)
  | [], _, _, h => h
  | _ :: _, _, h, k => by
    unfold GdL at h
    rw [List.cons_append]
    unfold GdL
    exact ⟨h.1, GdL.app h.2 k⟩
theorem ShL.app : ∀ {a b : List PyData}, ShL a → ShL b → ShL (a ++ b)
  | [], _, _, h => h
  | _ :: _, _, h, k => by
    unfold ShL at h
    rw [List.cons_append]
    unfold ShL
    exact ⟨h.1, ShL.app h.2 k⟩
theorem PsOk.step {n i : Nat} {Ds : List PyData} {D : PyData} (p : PsOk (n + 1) i Ds) (a : AnyD n D) : PsOk (n + 1) (i + 1) (Ds ++ [D]) := by
  obtain ⟨p1, p2, p3, p4, p5, p6⟩ := p
  obtain ⟨a1, a2, a3, a4⟩ := a
  refine ⟨GdL.app p1 (by unfold GdL; exact ⟨a1, by unfold GdL; trivial⟩), ShL.app p2 (by unfold ShL; exact ⟨a2, by unfold ShL; trivial⟩), (fun e => by cases e), ?_, (by rw [List.length_append, p5]; rfl), ?_⟩
  · rw [depth_app]
    simp only [PyData.depthAll]
    omega
  · rw [wtL_app]
    simp only [wtL]
    have e : 4 ^ (n + 1) = 4 * 4 ^ n := by rw [Nat.pow_succ]; omega
    rw [e] at p6 ⊢
    rw [Nat.add_mul]
    omega
section
variable {P : Program} {w : World} {K : PySem.W.Frag} {mg : Str → Option Value} {base : Heap}
theorem ok_anyD1 {fd fdD fdP : FuncData} {n : Nat} (T : Tb mg) (D : Df K mg "_law_any" s__law_any P__law_any fd) (D__law_draw : Df K mg "_law_draw" s__law_draw P__law_draw fdD) (D__law_pick : Df K mg "_law_pick" s__law_pick P__law_pick fdP)
    (G__law_any : FnOk P w K mg base CX0 (n + 2) (He.fAd K ("_law_any", none)) fd P__law_any (spPrevD n)) : FnOk P w K mg base CX0 (n + 3) (He.fAd K ("_law_any", none)) fd P__law_any (spAnyD n) := by
  have G__law_draw : FnOk P w K mg base CX0 1 (He.fAd K ("_law_draw", none)) fdD P__law_draw spDraw := ok_draw D__law_draw T
  have G__law_pick : FnOk P w K mg base CX0 2 (He.fAd K ("_law_pick", none)) fdP P__law_pick (spPick K) := ok_pick D__law_pick T D__law_draw
  have D__law_any := D
  refine (fun_of D.F).ok sc__law_any (fun vs H Q E h => ?_) (fun cdv A outer s H vs Q E hr h => ?_)
  · obtain ⟨d, L, rfl, _⟩ := h
    rfl
  · obtain ⟨d, L, rfl, hD, q⟩ := h
    have one4 : 1 ≤ 4 ^ n := Nat.one_le_pow _ _ (by decide)
    refine ⟨_, (pss_cons (ps_set (i := 2) sc__law_any.nd rfl (.inl rfl) (pe_call G__law_draw (hr.mono (by first | decide | omega)) (by rfl) D__law_draw.g D__law_draw.F.kp D__law_draw.b .nil pass0 (pa_cons (pv 0) (pa_cons pe_int pa_nil))))
      (pss_cons (ps_if (pt_cmpR op_lt (pv 2) pe_int (nomark _)) (pss_one (ps_ret (pe_call G__law_pick (hr.mono (by first | decide | omega)) (by rfl) D__law_pick.g D__law_pick.F.kp D__law_pick.b .nil pass0 (pa_cons (pv 0) (pa_cons (pe_lst (pa_cons pe_int (pa_cons pe_int (pa_cons (pe_un un_neg pe_int) (pa_cons pe_int (pa_cons (pe_op op_pow pe_int pe_int) (pa_cons (pe_un un_neg (pe_op op_pow pe_int pe_int)) (pa_cons pe_int (pa_cons pe_int pa_nil))))))))) pa_nil))))) pss_nil)
      (pss_cons (ps_if (pt_cmpR op_lt (pv 2) pe_int (nomark _)) (pss_one (ps_ret (pe_call G__law_pick (hr.mono (by first | decide | omega)) (by rfl) D__law_pick.g D__law_pick.F.kp D__law_pick.b .nil pass0 (pa_cons (pv 0) (pa_cons (pe_lst (pa_cons pe_str (pa_cons pe_str (pa_cons pe_str (pa_cons pe_str (pa_cons pe_str (pa_cons pe_str (pa_cons pe_str (pa_cons pe_str pa_nil))))))))) pa_nil))))) pss_nil)
      (pss_cons (ps_if (pt_cmpR op_eq (pv 2) pe_int (nomark _)) (pss_one (ps_ret (pe_call G__law_pick (hr.mono (by first | decide | omega)) (by rfl) D__law_pick.g D__law_pick.F.kp D__law_pick.b .nil pass0 (pa_cons (pv 0) (pa_cons (pe_lst (pa_cons pe_bl (pa_cons pe_bl (pa_cons pe_non pa_nil)))) pa_nil))))) pss_nil)
      (C8.pss_cut (ps_set (i := 3) sc__law_any.nd rfl (.inl rfl) (pe_ifExp (pt_cmpR op_gt (pv 1) pe_int (nomark _)) (pe_lc (own := [("_law_turn", 4)]) (g := gName 4) (tt := tYes) (by rfl) sc__law_any.nd (pi_range1 rfl T.range (pa_cons (pe_call G__law_draw (hr.mono (by first | decide | omega)) (by rfl) D__law_draw.g D__law_draw.F.kp D__law_draw.b .nil pass0 (pa_cons (pv 0) (pa_cons pe_int pa_nil))) pa_nil)) (blkOk_by (own := [("_law_turn", 4)]) (N := N__law_any) (sc := defScope s__law_any) (by decide +kernel)) (fun _ _ _ _ _ => (pg_name (i := 4) sc__law_any.nd rfl (.inl rfl))) (fun _ _ _ _ _ => pts_nil) (fun _ _ _ _ _ => (pe_call G__law_any (hr.mono (by first | decide | omega)) (by rfl) D__law_any.g D__law_any.F.kp D__law_any.b .nil pass0 (pa_cons (pv 0) (pa_cons (pe_op op_sub (pv 1) pe_int) pa_nil))))) (pe_lst pa_nil)))
      (pss_cons (ps_if (pt_cmpR op_eq (pv 2) pe_int (nomark _)) (pss_one (ps_ret (pv 3))) pss_nil)
      (pss_one (ps_ret (pe_ifExp (pt_cmpR op_eq (pv 2) pe_int (nomark _)) (pe_disp (pps_cons pe_str (pv 3) (pps_cons pe_int (pe_callB call_len (by rfl) T.len (by decide +kernel) (pa_cons (pv 3) pa_nil)) pps_nil)) (by rfl) (by rfl) (fun z => by cases z) (by decide)) (pe_callTy call_tuple_of (by rfl) T.tuple (by decide +kernel) (pa_cons (pv 3) pa_nil))))))))))), ?_⟩
    refine ⟨_, rfl, d, L, _, rfl, hD, by decide, by decide, fun way H1 w0 w1 f1 => ?_⟩
    refine ⟨_, rfl, _, _, rfl, rfl, _, rfl, ite2 (fun _ => ?_) (fun _ => ?_)⟩
    · refine ⟨_, rfl, 1, rfl, 10, 29, rfl, rfl, ⟨by decide, by decide, by decide⟩, 10, 20, rfl, rfl, ⟨by decide, by decide, by decide⟩, _, rfl, by show 8 ≤ sizeLine; decide, fun p np => ?_⟩
      refine pickL f1 np (by show 0 < 8; decide) (by show 8 ≤ 1000; decide) fun x hx H' f => ?_
      simp only [List.mem_cons, List.not_mem_nil, or_false] at hx
      rcases hx with rfl | rfl | rfl | rfl | rfl | rfl | rfl | rfl <;> exact q _ (.int _) H' (anyI (by decide +kernel)) (.int _) f
    refine ⟨_, rfl, _, _, rfl, rfl, _, rfl, ite2 (fun _ => ?_) (fun _ => ?_)⟩
    · refine ⟨_, rfl, by show 8 ≤ sizeLine; decide, fun p np => ?_⟩
      refine pickL f1 np (by show 0 < 8; decide) (by show 8 ≤ 1000; decide) fun x hx H' f => ?_
      simp only [List.mem_cons, List.not_mem_nil, or_false] at hx
      rcases hx with rfl | rfl | rfl | rfl | rfl | rfl | rfl | rfl <;> exact q _ (.str _) H' (anyS (ascn (by decide +kernel))) (.str _) f
    refine ⟨_, rfl, rfl, _, rfl, ite2 (fun _ => ?_) (fun _ => ?_)⟩
    · refine ⟨_, rfl, by show 3 ≤ sizeLine; decide, fun p np => ?_⟩
      refine pickL f1 np (by show 0 < 3; decide) (by show 3 ≤ 1000; decide) fun x hx H' f => ?_
      simp only [List.mem_cons, List.not_mem_nil, or_false] at hx
      rcases hx with rfl | rfl | rfl
      · exact q _ (.bool true) H' (any0 (.inr (.inl rfl))) (.bl _) f
      · exact q _ (.bool false) H' (any0 (.inr (.inr rfl))) (.bl _) f
      · exact q _ .none H' (any0 (.inl rfl)) .non f
    have on1 : ∀ a, H a ≠ none → H1 a ≠ none := fun a ha => by
      by_cases e1 : a = d
      · obtain ⟨ns, m, k, h1, _⟩ := f1.dk
        rw [e1, h1]
        exact fun z => by cases z
      · by_cases e2 : a = L
        · obtain ⟨ns, m, k, _, h2, _⟩ := f1.dk
          rw [e2, h2]
          exact fun z => by cases z
        · cases e : H a with
          | none => exact absurd e ha
          | some o =>
            rw [f1.st a o e1 e2 e]
            exact fun z => by cases z
    -- the parts
    refine ⟨fun σ' H' => ∃ p xs Ds, σ' = [some (.ref d), some (.int n), some (.int way), some (.ref p), none] ∧ KA.Fr d L H H' ∧ H p = none ∧ H' p = some (.lst xs) ∧ DxAll (On H) H' xs Ds ∧ (GdL (10 ^ 30) Ds ∧ ShL Ds ∧ PyData.depthAll Ds ≤ 2 * n ∧ Ds.length ≤ 3 ∧ 4 * wtL Ds ≤ 3 * (800 * 4 ^ n + 8)), ?_, fun σ' H' hM => ?_⟩
    · refine ⟨_, rfl, _, _, rfl, rfl, _, rfl, ite2 (fun hn => ?_) (fun _ => ?_)⟩
      · refine ⟨_, rfl, d, L, _, rfl, f1.dk, by decide, by decide, fun r H2 r0 r1 f2 => ⟨r, rfl, by omega, by omega, fun D nD => ?_⟩⟩
        have f12 := f1.trans f2
        obtain ⟨nHD, ndD, nLD⟩ := f12.fresh nD
        cases n with
        | zero => exact absurd (of_decide_eq_true hn) (by show ¬ ((0 : Int) < ((0 : Nat) : Int)); decide)
        | succ m =>
          have e : (((m + 1 : Nat) : Int) - 1) = (m : Int) := by omega
          refine lc_range (lo := 0) (n := r.toNat) (fun i H' => ∃ xs Ds, H' D = some (.lst xs) ∧ DxAll (fun a => On H a ∨ a = D) H' xs Ds ∧ PsOk (m + 1) i Ds ∧ KA.Fr d L H H') ⟨[], [], upd_same, .nil, ⟨by unfold GdL; trivial, by unfold ShL; trivial, (fun e => by cases e), Nat.zero_le _, rfl, by simp [wtL]⟩, f12.mut nHD ndD nLD⟩ (fun i H' hi h => ?_) (fun H' h => ?_)
          · obtain ⟨xs, Ds, hxs, hDs, ps, f3⟩ := h
            have hl : xs.length = i := by rw [DxAll.length hDs, ps.2.2.2.2.1]
            refine ⟨rfl, ?_⟩
            refine ⟨_, rfl, _, rfl, _, _, rfl, rfl, ?_⟩
            refine ⟨d, L, congrArg (fun z => [V.ref d, V.int z]) e, f3.dk, fun v D2 H4 av dv f4 => ?_⟩
            have hD4 := f4.st D _ ndD nLD hxs
            have kp4 : Kp (On H) H' H4 := ⟨fun a o na _ ea => f4.st a o (fun z => na (by rw [z]; obtain ⟨ns, mm, k, h1, _⟩ := hD; show H d ≠ none; rw [h1]; exact fun z => by cases z)) (fun z => na (by rw [z]; obtain ⟨ns, mm, k, _, h2, _⟩ := hD; show H L ≠ none; rw [h2]; exact fun z => by cases z)) ea, fr_tp f3.dk f4⟩
            have on' : ∀ a, On H a → On H' a := fun a ha => by
              show H' a ≠ none
              by_cases e1 : a = d
              · obtain ⟨ns, mm, k, h1, _⟩ := f3.dk
                rw [e1, h1]
                exact fun z => by cases z
              · by_cases e2 : a = L
                · obtain ⟨ns, mm, k, _, h2, _⟩ := f3.dk
                  rw [e2, h2]
                  exact fun z => by cases z
                · cases e : H a with
                  | none => exact absurd e ha
                  | some o =>
                    rw [f3.st a o e1 e2 e]
                    exact fun z => by cases z
            have kp5 : Kp (fun a => On H a ∨ a = D) H4 (upd H4 D (.lst (xs ++ [v]))) := ⟨fun a o na _ ea => by rw [upd_ne (fun z => na (.inr z))]; exact ea, fun a ws ea => by rw [upd_ne (ne_of ea hD4 (by intro z; cases z))]; exact ea⟩
            have dv2 : Dx (fun a => On H a ∨ a = D) H4 v D2 := Dx.less (fun a ha => by
              rcases ha with h | h
              · exact on' a h
              · show H' a ≠ none
                rw [h, hxs]
                exact fun z => by cases z) _ _ dv
            exact ⟨xs, hD4, small1000 (by omega), xs ++ [v], Ds ++ [D2], upd_same, (Dx.kpAll ((kp4.less fun a ha => .inl ha).trans kp5) _ _ hDs).app (.cons (Dx.kp kp5 _ _ dv2) .nil), ps.step av, (f3.trans f4).mut nHD ndD nLD⟩
          · obtain ⟨xs, Ds, hxs, hDs, ps, f3⟩ := h
            exact ⟨D, xs, Ds, rfl, f3, nHD, hxs, Dx.lessAll (fun a ha => .inl ha) _ _ hDs, ps.1, ps.2.1, ps.2.2.2.1, by have := ps.2.2.2.2.1; omega, by
              have := ps.2.2.2.2.2
              have l3 : r.toNat ≤ 3 := by omega
              exact Nat.le_trans this (Nat.mul_le_mul_right _ l3)⟩
      · refine ⟨Nat.zero_le _, fun p np => ?_⟩
        obtain ⟨nHp, nd, nL⟩ := f1.fresh np
        exact ⟨p, [], [], rfl, f1.mut nHp nd nL, nHp, upd_same, .nil, by unfold GdL; trivial, by unfold ShL; trivial, Nat.zero_le _, Nat.zero_le _, by simp [wtL]⟩
    · obtain ⟨p, xs, Ds, rfl, f3, nHp, hp, hDs, g1, g2, g3, g4, g5⟩ := hM
      have on : ¬ On H p := fun z => z nHp
      have hl : xs.length = Ds.length := DxAll.length hDs
      refine ⟨_, rfl, rfl, _, rfl, ite2 (fun _ => ?_) (fun _ => ?_)⟩
      · refine ⟨_, rfl, q _ (.list Ds) _ ⟨by unfold Gd; exact g1, by unfold ShA; trivial, ?_, ?_⟩ (.lst on hp hDs) f3⟩
        · show PyData.depthAll Ds + 1 ≤ 2 * n + 2
          omega
        · show wtL Ds + 3 ≤ 800 * 4 ^ n
          omega
      · refine ⟨_, rfl, rfl, _, rfl, ite2 (fun _ => ?_) (fun _ => ?_)⟩
        · intro D nD
          obtain ⟨nHD, ndD, nLD⟩ := f3.fresh nD
          have hp2 : (upd H' D (.dK [])) p = some (.lst xs) := by
            rw [upd_ne (ne_of_none hp nD)]
            exact hp
          refine ⟨_, rfl, _, rfl, _, xs.length, rfl, .inl ⟨_, SqL.of hp2, rfl⟩, upd_same, [(Sum.inr "key", .ref p), (Sum.inl 1, .int xs.length)], rfl, (by show 2 ≤ 15; decide), ?_⟩
          have s2 : Same H' (upd (upd H' D (.dK [])) D (.dK (mergeK [] [(Sum.inr "key", .ref p), (Sum.inl 1, .int xs.length)]))) := fun a o ea => by
            rw [upd_ne (ne_of_none ea nD), upd_ne (ne_of_none ea nD)]
            exact ea
          have em : mergeK [] [((Sum.inr "key" : Key), V.ref p), (Sum.inl 1, .int xs.length)] = [((Sum.inr "key" : Key), V.ref p), (Sum.inl 1, .int xs.length)] := rfl
          refine q _ (.dict [(.str "key", .list Ds), (.int 1, .int xs.length)]) _ ⟨?_, by unfold ShA; trivial, ?_, ?_⟩ (.dk (fun z => z nHD) (by rw [em]; exact upd_same) (.cons (k := Sum.inr "key") (.lst on (s2 _ _ hp) (Dx.kpAll (Kp.same s2) _ _ hDs)) (.cons (k := Sum.inl 1) (.int _) .nil))) ((f3.mut nHD ndD nLD).mut nHD ndD nLD)
          · unfold Gd GdK GdK GdK
            refine ⟨by unfold Gd; exact asc_lit (by decide +kernel), by unfold Gd; exact g1, by unfold Gd; decide, ?_, trivial⟩
            unfold Gd
            show ((xs.length : Int)).natAbs < 10 ^ 30
            rw [Int.natAbs_natCast, hl]
            exact Nat.lt_of_le_of_lt g4 (by decide +kernel)
          · show max (max 0 (PyData.depthAll Ds + 1)) (max (max 0 0) 0) + 1 ≤ 2 * n + 2
            omega
          · show 10 * ("key" : Str).length + 2 + (wtL Ds + 3) + 4 + (50 + 50 + 4 + 0) + 3 ≤ 800 * 4 ^ n
            rw [show ("key" : Str).length = 3 from rfl]
            omega
        · refine ⟨_, rfl, p, xs, rfl, .inl ⟨SqL.of hp, fun l nl => ?_⟩⟩
          obtain ⟨nHD, ndD, nLD⟩ := f3.fresh nl
          refine q _ (.tuple Ds) _ ⟨by unfold Gd; exact g1, by unfold ShA; exact ⟨by omega, g2⟩, ?_, ?_⟩ (.tup upd_same (Dx.kpAll (Kp.same (same_new nl)) _ _ hDs)) (f3.mut nHD ndD nLD)
          · show PyData.depthAll Ds + 1 ≤ 2 * n + 2
            omega
          · show wtL Ds + 3 ≤ 800 * 4 ^ n
            omega
theorem ok_anyD {fd fdD fdP : FuncData} (T : Tb mg) (D : Df K mg "_law_any" s__law_any P__law_any fd) (D__law_draw : Df K mg "_law_draw" s__law_draw P__law_draw fdD) (D__law_pick : Df K mg "_law_pick" s__law_pick P__law_pick fdP) :
    ∀ n : Nat, FnOk P w K mg base CX0 (n + 3) (He.fAd K ("_law_any", none)) fd P__law_any (spAnyD n)
  | 0 => ok_anyD1 T D D__law_draw D__law_pick ok_no
  | n + 1 => ok_anyD1 T D D__law_draw D__law_pick (ok_anyD T D D__law_draw D__law_pick n)
end
end TA2


set_option Elab.async false
set_option linter.all false
set_option maxRecDepth 100000
set_option maxHeartbeats 4000000
/-! Paths in a tree. -/
namespace TE
open PySem PySem.Spec PyProof.Rows L2 KT KX KA KB KC KD KP KP2 KW TD TD2 TR EN
def partAt : PyData → List Nat → Option PyData
  | d, [] => some d
  | .tuple ys, i :: r => ys[i]?.bind fun d => partAt d r
  | _, _ :: _ => none
theorem partAt_app : ∀ (ns ms : List Nat) (d : PyData), partAt d (ns ++ ms) = (partAt d ns).bind fun e => partAt e ms
  | [], _, _ => rfl
  | i :: r, ms, .tuple ys => by
    show (ys[i]?.bind fun d => partAt d (r ++ ms)) = (ys[i]?.bind fun d => partAt d r).bind fun e => partAt e ms
    cases ys[i]? with
    | none => rfl
    | some d => exact partAt_app r ms d
  | _ :: _, _, .none => rfl
  | _ :: _, _, .bool _ => rfl
  | _ :: _, _, .int _ => rfl
  | _ :: _, _, .str _ => rfl
  | _ :: _, _, .list _ => rfl
  | _ :: _, _, .dict _ => rfl
theorem partAt_step {R D : PyData} {ns ms : List Nat} {E : PyData} (h : partAt R ns = some D) (k : partAt D ms = some E) : partAt R (ns ++ ms) = some E := by
  rw [partAt_app, h]
  exact k
def nI (i : Nat) : V := .int i
abbrev N__law_at : List Str := ["_law_tree", "_law_path", "_law_place"]
abbrev P__law_at : List Str := ["_law_tree", "_law_path"]
theorem sc__law_at : FnScope N__law_at P__law_at (defScope s__law_at) := ⟨rfl, rfl, rfl, by decide +kernel, rfl, by decide +kernel, by decide +kernel⟩
section
variable {P : Program} {w : World} {K : PySem.W.Frag} {mg : Str → Option Value} {base : Heap}
def spAt : Sp := fun vs H Q _ => ∃ (M : Addr → Prop) (tv : V) (pt : Addr) (D D' : PyData) (ns : List Nat), vs = [tv, .ref pt] ∧ Dx M H tv D ∧ H pt = some (.tup (ns.map nI)) ∧ partAt D ns = some D' ∧ ∀ v, Dx M H v D' → Q v H
theorem ok_at {fd : FuncData} (D : Df K mg "_law_at" s__law_at P__law_at fd) : FnOk P w K mg base CX0 1 (He.fAd K ("_law_at", none)) fd P__law_at spAt := by
  refine (fun_of D.F).ok sc__law_at (fun vs H Q E h => ?_) (fun cdv A outer s H vs Q E hr h => ?_)
  · obtain ⟨M, tv, pt, D, D', ns, rfl, _⟩ := h
    rfl
  · obtain ⟨M, tv, pt, D, D', ns, rfl, hD, hp, hat, q⟩ := h
    refine ⟨_, (pss_cons (ps_for PassesOwn.never rfl (pi_tup (pv 1)) (pg_name (i := 2) sc__law_at.nd rfl (.inl rfl)) (pss_one (ps_set (i := 0) sc__law_at.nd rfl (.inl rfl) (pe_ix ix_tup (pv 0) (pv 2) (fun _ _ => rfl)))))
      (pss_one (ps_ret (pv 0)))), ?_⟩
    refine ⟨_, rfl, pt, rfl, ⟨_, SqT.of hp⟩, for_it (n := (ns.map nI).length) walk_tup (fun i σ H' => H' = H ∧ ∃ (v : V) (c : Option V) (E : PyData), σ = [some v, some (.ref pt), c] ∧ Dx M H v E ∧ partAt E (ns.drop i) = some D') ⟨rfl, tv, none, D, rfl, hD, hat⟩ (fun i σ H' _ h => by rw [h.1]; exact SqT.of hp) (fun i x σ H' H'' hi h y => ?_) (fun σ H' h => ?_)⟩
    · obtain ⟨rfl, hx⟩ := y
      obtain ⟨rfl, v, c, E, rfl, hE, he⟩ := h
      rw [List.length_map] at hi
      have hx2 : x = nI ns[i] := by
        rw [List.getElem?_map, List.getElem?_eq_getElem hi] at hx
        exact (Option.some.inj hx).symm
      subst hx2
      have hd : ns.drop i = ns[i] :: ns.drop (i + 1) := List.drop_eq_getElem_cons hi
      rw [hd] at he
      cases E with
      | tuple ys =>
        obtain ⟨a, xs, rfl, ea, r⟩ := Dx.tupOf hE
        have he' : (ys[ns[i]]?.bind fun d => partAt d (ns.drop (i + 1))) = some D' := he
        cases hy : ys[ns[i]]? with
        | none =>
          rw [hy] at he'
          cases he'
        | some E2 =>
          rw [hy] at he'
          have hl : ns[i] < xs.length := by
            rw [DxAll.length r]
            exact (List.getElem?_eq_some_iff.mp hy).1
          obtain ⟨E3, h3, h4⟩ := DxAll.at r (List.getElem?_eq_getElem hl)
          rw [hy] at h3
          cases h3
          refine ⟨_, rfl, _, rfl, a, xs, (ns[i] : Int), xs[ns[i]], rfl, rfl, SqT.of ea, atI_nat (List.getElem?_eq_getElem hl), ?_⟩
          exact ⟨rfl, _, _, E2, rfl, h4, he'⟩
      | _ => cases he
    · obtain ⟨rfl, v, c, E, rfl, hE, he⟩ := h
      rw [List.length_map, List.drop_length] at he
      cases he
      exact ⟨_, rfl, q v hE⟩
end
end TE


set_option Elab.async false
set_option linter.all false
set_option maxRecDepth 100000
set_option maxHeartbeats 4000000
/-! Odd texts; integers. -/
namespace TI
open PySem PySem.Spec PyProof.Rows L2 KT KX KA KB KC KD KP KP2 KW TD TD2 TR TA2
abbrev N__law_odd_string : List Str := ["_law_deck_here"]
abbrev P__law_odd_string : List Str := ["_law_deck_here"]
theorem sc__law_odd_string : FnScope N__law_odd_string P__law_odd_string (defScope s__law_odd_string) := ⟨rfl, rfl, rfl, by decide +kernel, rfl, by decide +kernel, by decide +kernel⟩
abbrev N__law_is_integer : List Str := ["_law_thing"]
abbrev P__law_is_integer : List Str := ["_law_thing"]
theorem sc__law_is_integer : FnScope N__law_is_integer P__law_is_integer (defScope s__law_is_integer) := ⟨rfl, rfl, rfl, by decide +kernel, rfl, by decide +kernel, by decide +kernel⟩
section
variable {P : Program} {w : World} {K : PySem.W.Frag} {mg : Str → Option Value} {base : Heap}
theorem ok_odd {fd fdD fdP : FuncData} (T : Tb mg) (D : Df K mg "_law_odd_string" s__law_odd_string P__law_odd_string fd) (D__law_draw : Df K mg "_law_draw" s__law_draw P__law_draw fdD) (D__law_pick : Df K mg "_law_pick" s__law_pick P__law_pick fdP) :
    FnOk P w K mg base CX0 3 (He.fAd K ("_law_odd_string", none)) fd P__law_odd_string (spTxt 4) := by
  have G__law_pick : FnOk P w K mg base CX0 2 (He.fAd K ("_law_pick", none)) fdP P__law_pick (spPick K) := ok_pick D__law_pick T D__law_draw
  refine (fun_of D.F).ok sc__law_odd_string (fun vs H Q E h => ?_) (fun cdv A outer s H vs Q E hr h => ?_)
  · obtain ⟨d, L, rfl, _⟩ := h
    rfl
  · obtain ⟨d, L, rfl, hD, q⟩ := h
    refine ⟨_, (pss_one (ps_ret (pe_call G__law_pick (hr.mono (by first | decide | omega)) (by rfl) D__law_pick.g D__law_pick.F.kp D__law_pick.b .nil pass0 (pa_cons (pv 0) (pa_cons (pe_lst (pa_cons pe_str (pa_cons pe_str (pa_cons pe_str (pa_cons pe_str (pa_cons pe_str (pa_cons pe_str (pa_cons pe_str (pa_cons pe_str (pa_cons pe_str (pa_cons pe_str (pa_cons pe_str (pa_cons pe_str (pa_cons pe_str (pa_cons pe_str (pa_cons pe_str (pa_cons pe_str (pa_cons pe_str pa_nil)))))))))))))))))) pa_nil))))), ?_⟩
    refine ⟨_, rfl, by show 17 ≤ sizeLine; decide, fun p np => pickL (Fr.refl hD) np (by show 0 < 17; decide) (by show 17 ≤ 1000; decide) fun x hx H2 f2 => ?_⟩
    obtain ⟨y, rfl, hy⟩ : ∃ y : Str, x = .str y ∧ AscN 4 y := by
      simp only [List.mem_cons, List.not_mem_nil, or_false] at hx
      rcases hx with rfl | rfl | rfl | rfl | rfl | rfl | rfl | rfl | rfl | rfl | rfl | rfl | rfl | rfl | rfl | rfl | rfl <;> exact ⟨_, rfl, ascn (by decide +kernel)⟩
    exact q y H2 hy f2
def isIB : PyData → Bool
  | .int _ => true
  | .bool _ => true
  | _ => false
def isB : PyData → Bool
  | .bool _ => true
  | _ => false
def isI : PyData → Bool
  | .int _ => true
  | _ => false
theorem isaI {M : Addr → Prop} {H : Hp} {v : V} {d : PyData} (h : Dx M H v d) : IsA K H v "int" (isIB d) := by
  cases h with
  | non => exact ⟨_, .base .non, by decide +kernel⟩
  | bl b => exact ⟨_, .base (.bl b), (by decide +kernel : kitB "bool" "int" = some true)⟩
  | int i => exact ⟨_, .base (.int i), (by decide +kernel : kitB "int" "int" = some true)⟩
  | str h => exact ⟨_, .base (.str _), (by decide +kernel : kitB "str" "int" = some false)⟩
  | lst n e _ => exact ⟨_, .base (.lst e), (by decide +kernel : kitB "list" "int" = some false)⟩
  | tup e _ => exact ⟨_, .base (.tup e), (by decide +kernel : kitB "tuple" "int" = some false)⟩
  | dk n e _ => exact ⟨_, .base (.dK e), (by decide +kernel : kitB "dict" "int" = some false)⟩
theorem isaB {M : Addr → Prop} {H : Hp} {v : V} {d : PyData} (h : Dx M H v d) : IsA K H v "bool" (isB d) := by
  cases h with
  | non => exact ⟨_, .base .non, by decide +kernel⟩
  | bl b => exact ⟨_, .base (.bl b), (by decide +kernel : kitB "bool" "bool" = some true)⟩
  | int i => exact ⟨_, .base (.int i), (by decide +kernel : kitB "int" "bool" = some false)⟩
  | str h => exact ⟨_, .base (.str _), (by decide +kernel : kitB "str" "bool" = some false)⟩
  | lst n e _ => exact ⟨_, .base (.lst e), (by decide +kernel : kitB "list" "bool" = some false)⟩
  | tup e _ => exact ⟨_, .base (.tup e), (by decide +kernel : kitB "tuple" "bool" = some false)⟩
  | dk n e _ => exact ⟨_, .base (.dK e), (by decide +kernel : kitB "dict" "bool" = some false)⟩
structure TbI (mg : Str → Option Value) : Prop where
  isinstance : mg "isinstance" = none
  int : mg "int" = none
  bool : mg "bool" = none
def spInt : Sp := fun vs H Q _ => ∃ (M : Addr → Prop) (x : V) (d : PyData), vs = [x] ∧ Dx M H x d ∧ Q (.bl (isI d)) H
theorem ok_int {fd : FuncData} (T : TbI mg) (D : Df K mg "_law_is_integer" s__law_is_integer P__law_is_integer fd) :
    FnOk P w K mg base CX0 1 (He.fAd K ("_law_is_integer", none)) fd P__law_is_integer spInt := by
  refine (fun_of D.F).ok sc__law_is_integer (fun vs H Q E h => ?_) (fun cdv A outer s H vs Q E hr h => ?_)
  · obtain ⟨M, x, d, rfl, _⟩ := h
    rfl
  · obtain ⟨M, x, d, rfl, hx, q⟩ := h
    refine ⟨_, (pss_one (ps_ret (pe_and (pe_callB call_isi (by rfl) T.isinstance (by decide +kernel) (pa_cons (pv 0) (pa_cons (pe_bltn (v := .ty "int") (by rfl) T.int (by decide +kernel) rfl) pa_nil))) (pe_one (pe_not (pe_callB call_isi (by rfl) T.isinstance (by decide +kernel) (pa_cons (pv 0) (pa_cons (pe_bltn (v := .ty "bool") (by rfl) T.bool (by decide +kernel) rfl) pa_nil)))))))), ?_⟩
    obtain ⟨t0, h1, h2⟩ := isaI hx
    obtain ⟨t1, h3, h4⟩ := isaB hx
    refine ⟨x, rfl, x, .ty "int", .type t0, .type "int", _, rfl, .ty "int", h1, kit_ty h2, _, rfl, ?_⟩
    cases d with
    | int i => exact ⟨x, rfl, x, .ty "bool", .type t1, .type "bool", _, rfl, .ty "bool", h3, kit_ty h4, _, rfl, q⟩
    | bool b => exact ⟨x, rfl, x, .ty "bool", .type t1, .type "bool", _, rfl, .ty "bool", h3, kit_ty h4, _, rfl, q⟩
    | _ => exact q
end
end TI


set_option Elab.async false
set_option linter.all false
set_option maxRecDepth 100000
set_option maxHeartbeats 4000000
/-! A tuple with one part put otherwise. -/
namespace TJ
open PySem PySem.Spec PyProof.Rows L2 KT KX KA KB KC KD KP KP2 KW TD TD2 TR TA2
abbrev N__law_instead : List Str := ["_law_some", "_law_at_here", "_law_item"]
abbrev P__law_instead : List Str := ["_law_some", "_law_at_here", "_law_item"]
theorem sc__law_instead : FnScope N__law_instead P__law_instead (defScope s__law_instead) := ⟨rfl, rfl, rfl, by decide +kernel, rfl, by decide +kernel, by decide +kernel⟩
section
variable {P : Program} {w : World} {K : PySem.W.Frag} {mg : Str → Option Value} {base : Heap}
theorem cat_dx {a b : Addr} {xs ys : List V} {H : Hp} {Q : VK} (ha : H a = some (.tup xs)) (hb : H b = some (.tup ys)) (hl : xs.length + ys.length ≤ sizeLine)
    (q : ∀ r H', Same H H' → H' r = some (.tup (xs ++ ys)) → Q (.ref r) H') : rCatA K (.ref a) (.ref b) H Q := by
  refine ⟨a, b, xs, ys, rfl, rfl, SqT.of ha, SqT.of hb, hl, fun e => ?_, fun _ e => ?_, fun _ _ p np => ?_⟩
  · refine q b H (fun _ _ z => z) ?_
    rw [e]
    exact hb
  · refine q a H (fun _ _ z => z) ?_
    rw [e, List.append_nil]
    exact ha
  · exact q p _ (same_new np) upd_same
def spIns : Sp := fun vs H Q _ => ∃ (M : Addr → Prop) (a : Addr) (xs : List V) (ys : List PyData) (i : Nat) (x : V) (D : PyData), vs = [.ref a, (.int i), x] ∧ H a = some (.tup xs) ∧ DxAll M H xs ys ∧ Dx M H x D ∧ i < xs.length ∧ xs.length ≤ 8000000 ∧ ∀ r H', Same H H' → Dx M H' (.ref r) (.tuple (ys.set i D)) → Q (.ref r) H'
theorem ok_ins {fd : FuncData} (D : Df K mg "_law_instead" s__law_instead P__law_instead fd) : FnOk P w K mg base CX0 1 (He.fAd K ("_law_instead", none)) fd P__law_instead spIns := by
  refine (fun_of D.F).ok sc__law_instead (fun vs H Q E h => ?_) (fun cdv A outer s H vs Q E hr h => ?_)
  · obtain ⟨M, a, xs, ys, i, x, D, rfl, _⟩ := h
    rfl
  · obtain ⟨M, a, xs, ys, i, x, D, rfl, ha, hx, hD, hi, hl, q⟩ := h
    refine ⟨_, (pss_one (ps_ret (pe_op op_catA (pe_op op_catA (pe_slice sl_tup (pv 0) po_none (po_some (pv 1))) (pe_tup (pa_cons (pv 2) pa_nil))) (pe_slice sl_tup (pv 0) (po_some (pe_op op_add (pv 1) pe_int)) po_none)))), ?_⟩
    have e1 : cutV xs none (some (i : Int)) = xs.take i := by
      show (xs.drop (HT.sIx xs.length 0 none)).take (HT.sIx xs.length xs.length (some (i : Int)) - HT.sIx xs.length 0 none) = xs.take i
      rw [HT.sIx_nat, HT.sIx_none, Nat.sub_zero, List.drop_zero, Nat.min_eq_left (Nat.le_of_lt hi)]
    have e2 : cutV xs (some ((i : Int) + 1)) none = xs.drop (i + 1) := by
      show (xs.drop (HT.sIx xs.length 0 (some ((i + 1 : Nat) : Int)))).take (HT.sIx xs.length xs.length none - HT.sIx xs.length 0 (some ((i + 1 : Nat) : Int))) = xs.drop (i + 1)
      rw [HT.sIx_nat, HT.sIx_none, Nat.min_eq_left hi, List.take_of_length_le (by rw [List.length_drop]; omega)]
    have w1 : ¬ (HT.sIx xs.length 0 none = 0 ∧ HT.sIx xs.length xs.length (some (i : Int)) = xs.length) := by
      rw [HT.sIx_nat, Nat.min_eq_left (Nat.le_of_lt hi)]
      omega
    have w2 : ¬ (HT.sIx xs.length 0 (some ((i : Int) + 1)) = 0 ∧ HT.sIx xs.length xs.length none = xs.length) := by
      show ¬ (HT.sIx xs.length 0 (some ((i + 1 : Nat) : Int)) = 0 ∧ HT.sIx xs.length xs.length none = xs.length)
      rw [HT.sIx_nat, Nat.min_eq_left hi]
      omega
    have hy : i < ys.length := by
      rw [← DxAll.length hx]
      exact hi
    have sL : 8000001 ≤ sizeLine := by rw [sizeLine_eq]; decide
    refine ⟨_, rfl, _, rfl, (i : Int), rfl, a, xs, rfl, SqT.of ha, w1, fun p1 n1 => ⟨_, rfl, (by show 1 ≤ sizeLine; decide), fun p2 n2 => ?_⟩⟩
    rw [e1] at n2 ⊢
    have s1 : Same H (upd H p1 (.tup (xs.take i))) := same_new n1
    have s2 : Same (upd H p1 (.tup (xs.take i))) (upd (upd H p1 (.tup (xs.take i))) p2 (.tup [x])) := same_new n2
    refine cat_dx (s2 _ _ upd_same) upd_same (by rw [List.length_take, List.length_singleton]; omega) fun r H3 s3 hr3 => ?_
    refine ⟨_, rfl, _, rfl, (i : Int), 1, rfl, rfl, (i : Int) + 1, rfl, a, xs, rfl, SqT.of (s3 _ _ (s2 _ _ (s1 _ _ ha))), w2, fun p4 n4 => ?_⟩
    rw [e2]
    have s4 : Same H3 (upd H3 p4 (.tup (xs.drop (i + 1)))) := same_new n4
    refine cat_dx (s4 _ _ hr3) upd_same (by rw [List.length_append, List.length_take, List.length_singleton, List.length_drop]; omega) fun r5 H5 s5 hr5 => ?_
    have sm : Same H H5 := fun b o e => s5 _ _ (s4 _ _ (s3 _ _ (s2 _ _ (s1 _ _ e))))
    refine q r5 H5 sm ?_
    have ed : ys.set i D = ys.take i ++ [D] ++ ys.drop (i + 1) := by
      rw [List.set_eq_take_append_cons_drop, if_pos hy, List.append_assoc]
      rfl
    rw [ed]
    have hx5 := Dx.kpAll (Kp.same sm) _ _ hx
    exact .tup hr5 (((DxAll.take i hx5).app (.cons (Dx.kp (Kp.same sm) _ _ hD) .nil)).app (DxAll.drop (i + 1) hx5))
end
end TJ


set_option Elab.async false
set_option linter.all false
set_option maxRecDepth 100000
set_option maxHeartbeats 4000000
/-! Bent values. -/
namespace TB
open PySem PySem.Spec PyProof.Rows L2 KT KX KE0 KA KB KC KD KP KP2 KW TD TD2 TR TA2 TI TJ RT
abbrev N__law_bent : List Str := ["_law_deck_here", "_law_thing", "_law_deep", "_law_way", "_law_at_here"]
abbrev P__law_bent : List Str := ["_law_deck_here", "_law_thing", "_law_deep"]
theorem sc__law_bent : FnScope N__law_bent P__law_bent (defScope s__law_bent) := ⟨rfl, rfl, rfl, by decide +kernel, rfl, by decide +kernel, by decide +kernel⟩
section
variable {P : Program} {w : World} {K : PySem.W.Frag} {mg : Str → Option Value} {base : Heap}
/-- what the law's values may not hold: the deck's two objects -/
abbrev DL (d L : Addr) : Addr → Prop := fun a => a = d ∨ a = L
/-- what a bend makes of it: a little more -/
def Nw (b : Nat) (D D' : PyData) : Prop := Gd (b + 5) D' ∧ D'.depth ≤ D.depth + 6 ∧ wt D' ≤ 2 * wt D + 20000
theorem wtL_set : ∀ {ys : List PyData} {i : Nat} {D E : PyData}, ys[i]? = some D → wtL (ys.set i E) + wt D = wtL ys + wt E
  | [], _, _, _, h => by cases h
  | y :: r, 0, _, _, h => by
    cases h
    simp only [List.set_cons_zero, wtL]
    omega
  | y :: r, i + 1, D, E, h => by
    have ih := wtL_set (ys := r) (i := i) (D := D) (E := E) h
    simp only [List.set_cons_succ, wtL]
    omega
theorem depth_set : ∀ (ys : List PyData) (i : Nat) (E : PyData), PyData.depthAll (ys.set i E) ≤ max (PyData.depthAll ys) E.depth
  | [], _, _ => Nat.zero_le _
  | y :: r, 0, E => by
    simp only [List.set_cons_zero, PyData.depthAll]
    omega
  | y :: r, i + 1, E => by
    have := depth_set r i E
    simp only [List.set_cons_succ, PyData.depthAll]
    omega
theorem gd_set {b : Nat} : ∀ {ys : List PyData} {i : Nat} {E : PyData}, GdL b ys → Gd b E → GdL b (ys.set i E)
  | [], _, _, h, _ => h
  | y :: r, 0, E, h, k => by
    unfold GdL at h
    rw [List.set_cons_zero]
    unfold GdL
    exact ⟨k, h.2⟩
  | y :: r, i + 1, E, h, k => by
    unfold GdL at h
    rw [List.set_cons_succ]
    unfold GdL
    exact ⟨h.1, gd_set h.2 k⟩
theorem gd_mem {b : Nat} : ∀ {ys : List PyData}, GdL b ys → ∀ D ∈ ys, Gd b D
  | [], _, _, h => by cases h
  | y :: r, g, D, h => by
    unfold GdL at g
    rcases List.mem_cons.mp h with rfl | h
    · exact g.1
    · exact gd_mem g.2 D h
theorem gd_of {b : Nat} : ∀ {ys : List PyData}, (∀ D ∈ ys, Gd b D) → GdL b ys
  | [], _ => by unfold GdL; trivial
  | y :: r, g => by
    unfold GdL
    exact ⟨g y (List.mem_cons_self ..), gd_of fun D h => g D (List.mem_cons_of_mem _ h)⟩
theorem depth_mem : ∀ {ys : List PyData} {D : PyData}, D ∈ ys → D.depth ≤ PyData.depthAll ys
  | y :: r, D, h => by
    simp only [PyData.depthAll]
    rcases List.mem_cons.mp h with rfl | h
    · omega
    · have := depth_mem h
      omega
theorem depth_of : ∀ {ys : List PyData} {k : Nat}, (∀ D ∈ ys, D.depth ≤ k) → PyData.depthAll ys ≤ k
  | [], _, _ => Nat.zero_le _
  | y :: r, k, h => by
    simp only [PyData.depthAll]
    have := h y (List.mem_cons_self ..)
    have := depth_of (ys := r) fun D hD => h D (List.mem_cons_of_mem _ hD)
    omega
theorem wt_mem : ∀ {ys : List PyData} {D : PyData}, D ∈ ys → wt D + 2 ≤ wtL ys
  | y :: r, D, h => by
    simp only [wtL]
    rcases List.mem_cons.mp h with rfl | h
    · omega
    · have := wt_mem h
      omega
theorem wtL_rev (ys : List PyData) : wtL ys.reverse = wtL ys := by
  induction ys with
  | nil => rfl
  | cons y r ih =>
    rw [List.reverse_cons, wtL_app, ih]
    simp only [wtL]
    omega
theorem wtL_take : ∀ (n : Nat) (ys : List PyData), wtL (ys.take n) ≤ wtL ys
  | 0, _ => by simp [wtL]
  | _ + 1, [] => Nat.le_refl _
  | n + 1, y :: r => by
    have := wtL_take n r
    rw [List.take_succ_cons]
    simp only [wtL]
    omega
theorem wtL_drop : ∀ (n : Nat) (ys : List PyData), wtL (ys.drop n) ≤ wtL ys
  | 0, _ => Nat.le_refl _
  | _ + 1, [] => Nat.le_refl _
  | n + 1, y :: r => by
    have := wtL_drop n r
    rw [List.drop_succ_cons]
    simp only [wtL]
    omega
theorem DxAll.rev {M : Addr → Prop} {H : Hp} : ∀ {xs : List V} {ys : List PyData}, DxAll M H xs ys → DxAll M H xs.reverse ys.reverse
  | _, _, .nil => .nil
  | _, _, .cons h t => by
    rw [List.reverse_cons, List.reverse_cons]
    exact (DxAll.rev t).app (.cons h .nil)
theorem gd_tup {b : Nat} {ys : List PyData} (h : Gd b (.tuple ys)) : GdL b ys := by
  unfold Gd at h
  exact h
/-- a tuple of parts of D's parts, at most twice as many -/
theorem nw_sub {b : Nat} {ys zs : List PyData} (g : Gd b (.tuple ys)) (h : ∀ D ∈ zs, D ∈ ys) (w : wtL zs ≤ 2 * wtL ys) : Nw b (.tuple ys) (.tuple zs) := by
  have g1 := gd_tup (Gd.mono (show b ≤ b + 5 by omega) _ g)
  refine ⟨by unfold Gd; exact gd_of fun D hD => gd_mem g1 D (h D hD), ?_, ?_⟩
  · show PyData.depthAll zs + 1 ≤ PyData.depthAll ys + 1 + 6
    have := depth_of (ys := zs) (k := PyData.depthAll ys) fun D hD => depth_mem (h D hD)
    omega
  · simp only [wt]
    omega
theorem nw_set {b i : Nat} {ys : List PyData} {D E : PyData} (g : Gd b (.tuple ys)) (h : ys[i]? = some D) (n : Nw b D E) : Nw b (.tuple ys) (.tuple (ys.set i E)) := by
  obtain ⟨n1, n2, n3⟩ := n
  have g1 := gd_tup (Gd.mono (show b ≤ b + 5 by omega) _ g)
  have m := List.mem_of_getElem? h
  refine ⟨by unfold Gd; exact gd_set g1 n1, ?_, ?_⟩
  · show PyData.depthAll (ys.set i E) + 1 ≤ PyData.depthAll ys + 1 + 6
    have := depth_set ys i E
    have := depth_mem m
    omega
  · have := wtL_set (E := E) h
    have := wt_mem m
    simp only [wt]
    omega
/-- small data -/
theorem nw_small {b : Nat} {D D' : PyData} (g : Gd (b + 5) D') (d : D'.depth ≤ 6) (w : wt D' ≤ 20000) : Nw b D D' := ⟨g, by omega, by omega⟩
theorem dk_same {d L : Addr} {H H' : Hp} (h : DK d L H) (s : Same H H') : DK d L H' := by
  obtain ⟨ns, m, k, h1, h2, h3⟩ := h
  exact ⟨ns, m, k, s _ _ h1, s _ _ h2, h3⟩
theorem fr_same {d L : Addr} {H H' : Hp} (h : DK d L H) (s : Same H H') : KA.Fr d L H H' := ⟨dk_same h s, fun b o _ _ e => s b o e⟩
structure TbX (mg : Str → Option Value) : Prop extends Tb mg where
  bool : mg "bool" = none
theorem kpF {d L : Addr} {H H1 : Hp} (hD : DK d L H) (f : KA.Fr d L H H1) : Kp (DL d L) H H1 := ⟨fun a o na _ ea => f.st a o (fun z => na (.inl z)) (fun z => na (.inr z)) ea, fr_tp hD f⟩
theorem seqif {c : TT} {B N R : TS} {Dn : Ends} {σ : L2.St} {H : Hp} (G : Hp → Prop) (h : ∀ Qc : Bool → Hp → Prop, (∀ H1, G H1 → Qc true H1) → c σ H Qc) (hb : ∀ H1, G H1 → B { Dn with nx := R Dn } σ H1) : tSeq (tIfS c B N) R Dn σ H :=
  h _ fun H1 g => by
    rw [if_pos rfl]
    exact hb H1 g
theorem tnx {Dn : Ends} {σ : L2.St} {H : Hp} (h : Dn.nx σ H) : tNext Dn σ H := h
theorem seqto {c : TT} {B R : TS} {Dn : Ends} {σ : L2.St} {H : Hp} (p : Prop) (h : ∀ Qc : Bool → Hp → Prop, Qc true H → (p → Qc false H) → c σ H Qc) (hb : B { Dn with nx := R Dn } σ H) (hn : p → R Dn σ H) : tSeq (tIfS c B tNext) R Dn σ H :=
  h _ (by
    rw [if_pos rfl]
    exact hb) fun hp => by
    rw [if_neg Bool.false_ne_true]
    exact hn hp
theorem asc_int {i : Int} (h : i.natAbs < 10 ^ 45) : Asc (Str.ofString (toString i)) ∧ (Str.ofString (toString i)).length ≤ 46 := by
  have l : (Str.ofString (toString i)).length ≤ 46 := by
    rw [PySem.ofString_length]
    exact int_text_length_le10 (by decide) h
  refine ⟨⟨Nat.le_trans l (by decide), fun c hc => ?_⟩, l⟩
  by_cases hl : c < 128
  · exact hl
  · exact absurd hc (int_text_free' c ⟨by omega, by omega⟩ i)
theorem seq2 {c : TT} {B R : TS} {Dn : Ends} {σ : L2.St} {H : Hp} (G F : Hp → Prop) (h : ∀ Qc : Bool → Hp → Prop, (∀ H1, G H1 → Qc true H1) → (∀ H1, F H1 → Qc false H1) → c σ H Qc)
    (hb : ∀ H1, G H1 → B { Dn with nx := R Dn } σ H1) (hn : ∀ H1, F H1 → R Dn σ H1) : tSeq (tIfS c B tNext) R Dn σ H :=
  h _ (fun H1 g => by
    rw [if_pos rfl]
    exact hb H1 g) fun H1 g => by
    rw [if_neg Bool.false_ne_true]
    exact hn H1 g
def spBent (n : Nat) : Sp := fun vs H Q _ => ∃ (d L : Addr) (v : V) (D : PyData) (b : Nat), vs = [.ref d, v, .int n] ∧ DK d L H ∧ Dx (DL d L) H v D ∧ Gd b D ∧ 10 ^ 30 ≤ b ∧ b ≤ 10 ^ 40 ∧ wt D ≤ 7000000 ∧ ∀ v' D' H', Dx (DL d L) H' v' D' → Nw b D D' → KA.Fr d L H H' → Q v' H'
def spPrevB : Nat → Sp
  | 0 => spNo
  | n + 1 => spBent n
theorem ok_bent1 {fd : FuncData} {fl : Str → FuncData} {n : Nat} (T : TbX mg) (D : Df K mg "_law_bent" s__law_bent P__law_bent fd)
    (D__law_draw : Df K mg "_law_draw" s__law_draw P__law_draw (fl "_law_draw")) (D__law_pick : Df K mg "_law_pick" s__law_pick P__law_pick (fl "_law_pick"))
    (D__law_is_integer : Df K mg "_law_is_integer" s__law_is_integer P__law_is_integer (fl "_law_is_integer"))
    (D__law_any : Df K mg "_law_any" s__law_any P__law_any (fl "_law_any")) (D__law_instead : Df K mg "_law_instead" s__law_instead P__law_instead (fl "_law_instead"))
    (G__law_bent : FnOk P w K mg base CX0 (n + 5) (He.fAd K ("_law_bent", none)) fd P__law_bent (spPrevB n)) :
    FnOk P w K mg base CX0 (n + 6) (He.fAd K ("_law_bent", none)) fd P__law_bent (spBent n) := by
  have G__law_any : FnOk P w K mg base CX0 5 (He.fAd K ("_law_any", none)) (fl "_law_any") P__law_any (spAnyD 2) := ok_anyD T.toTb D__law_any D__law_draw D__law_pick 2
  have G__law_draw : FnOk P w K mg base CX0 1 (He.fAd K ("_law_draw", none)) (fl "_law_draw") P__law_draw spDraw := ok_draw D__law_draw T.toTb
  have G__law_pick : FnOk P w K mg base CX0 2 (He.fAd K ("_law_pick", none)) (fl "_law_pick") P__law_pick (spPick K) := ok_pick D__law_pick T.toTb D__law_draw
  have G__law_is_integer : FnOk P w K mg base CX0 1 (He.fAd K ("_law_is_integer", none)) (fl "_law_is_integer") P__law_is_integer TI.spInt := TI.ok_int ⟨T.isinstance, T.int, T.bool⟩ D__law_is_integer
  have G__law_instead : FnOk P w K mg base CX0 1 (He.fAd K ("_law_instead", none)) (fl "_law_instead") P__law_instead TJ.spIns := TJ.ok_ins D__law_instead
  have D__law_bent := D
  refine (fun_of D.F).ok (k := n + 5) sc__law_bent (fun vs H Q E h => ?_) (fun cdv A outer s H vs Q E hr h => ?_)
  · obtain ⟨d, L, v, D, b, rfl, _⟩ := h
    rfl
  · obtain ⟨d, L, v, D, b, rfl, hD, hv, gd, hb, hb2, hW, q⟩ := h
    refine ⟨_, (pss_cons (ps_if (PW.pt (pw_or (pt_not (pt_val (pe_callB call_isi (by rfl) T.isinstance (by decide +kernel) (pa_cons (pv 1) (pa_cons (pe_bltn (v := .ty "tuple") (by rfl) T.tuple (by decide +kernel) rfl) pa_nil))))) (pw_or (pt_cmpR (op_eqE hr) (pv 1) (pe_tup pa_nil) (nomark _)) (pw_or (pt_cmpR op_eq (pv 2) pe_int (nomark _)) (pw_or1 (pt_cmpR op_eq (pe_call G__law_draw (hr.mono (by first | decide | omega)) (by rfl) D__law_draw.g D__law_draw.F.kp D__law_draw.b .nil pass0 (pa_cons (pv 0) (pa_cons pe_int pa_nil))) pe_int (nomark _))))))) (pss_cons (ps_set (i := 3) sc__law_bent.nd rfl (.inl rfl) (pe_call G__law_draw (hr.mono (by first | decide | omega)) (by rfl) D__law_draw.g D__law_draw.F.kp D__law_draw.b .nil pass0 (pa_cons (pv 0) (pa_cons pe_int pa_nil))))
          (pss_cons (ps_if (pt_val (pe_call G__law_is_integer (hr.mono (by first | decide | omega)) (by rfl) D__law_is_integer.g D__law_is_integer.F.kp D__law_is_integer.b .nil pass0 (pa_cons (pv 1) pa_nil))) (pss_one (ps_ret (pe_call G__law_pick (hr.mono (by first | decide | omega)) (by rfl) D__law_pick.g D__law_pick.F.kp D__law_pick.b .nil pass0 (pa_cons (pv 0) (pa_cons (pe_lst (pa_cons pe_int (pa_cons (pe_un un_neg (pv 1)) (pa_cons (pe_op op_sub (pv 1) pe_int) (pa_cons (pe_op op_add (pv 1) pe_int) (pa_cons (pe_callTy call_bool1 (by rfl) T.bool (by decide +kernel) (pa_cons (pv 1) pa_nil)) (pa_cons (pe_callTy call_str_int (by rfl) T.str (by decide +kernel) (pa_cons (pv 1) pa_nil)) (pa_cons (pe_tup (pa_cons (pv 1) pa_nil)) (pa_cons (pe_lst (pa_cons (pv 1) pa_nil)) (pa_cons pe_non (pa_cons (pe_op op_add (pv 1) pe_int) pa_nil))))))))))) pa_nil))))) pss_nil)
          (pss_cons (ps_if (PW.pt (pw_or (pt_cmpR op_eq (pv 3) pe_int (nomark _)) (pw_or1 (pt_not (pt_val (pe_callB call_isi (by rfl) T.isinstance (by decide +kernel) (pa_cons (pv 1) (pa_cons (pe_bltn (v := .ty "tuple") (by rfl) T.tuple (by decide +kernel) rfl) pa_nil)))))))) (pss_one (ps_ret (pe_call G__law_any (hr.mono (by first | decide | omega)) (by rfl) D__law_any.g D__law_any.F.kp D__law_any.b .nil pass0 (pa_cons (pv 0) (pa_cons pe_int pa_nil))))) pss_nil)
          (pss_cons (ps_if (pt_cmpR op_lt (pv 3) pe_int (nomark _)) (pss_one (ps_ret (pe_callTy call_list_of (by rfl) T.list (by decide +kernel) (pa_cons (pv 1) pa_nil)))) pss_nil)
          (pss_cons (ps_if (pt_cmpR op_lt (pv 3) pe_int (nomark _)) (pss_one (ps_ret (pe_op op_catA (pv 1) (pe_tup (pa_cons (pe_call G__law_pick (hr.mono (by first | decide | omega)) (by rfl) D__law_pick.g D__law_pick.F.kp D__law_pick.b .nil pass0 (pa_cons (pv 0) (pa_cons (pe_lst (pa_cons (pe_tup pa_nil) (pa_cons pe_int (pa_cons pe_int (pa_cons (pe_tup (pa_cons pe_int pa_nil)) (pa_cons pe_non (pa_cons pe_bl pa_nil))))))) pa_nil))) pa_nil))))) pss_nil)
          (pss_cons (ps_if (pt_cmpR op_lt (pv 3) pe_int (nomark _)) (pss_one (ps_ret (pe_revT (pv 1)))) pss_nil)
          (pss_cons (ps_if (pt_cmpR op_lt (pv 3) pe_int (nomark _)) (pss_one (ps_ret (pe_op op_catA (pv 1) (pe_slice sl_tupA (pv 1) po_none (po_some pe_int))))) pss_nil)
          (pss_one (ps_ret (pe_ifExp (pt_cmpR op_lt (pv 3) pe_int (nomark _)) (pe_slice sl_tupA (pv 1) (po_some pe_int) po_none) (pe_tup (pa_cons (pv 1) pa_nil)))))))))))) pss_nil)
      (pss_cons (ps_set (i := 4) sc__law_bent.nd rfl (.inl rfl) (pe_call G__law_draw (hr.mono (by first | decide | omega)) (by rfl) D__law_draw.g D__law_draw.F.kp D__law_draw.b .nil pass0 (pa_cons (pv 0) (pa_cons (pe_callB call_len (by rfl) T.len (by decide +kernel) (pa_cons (pv 1) pa_nil)) pa_nil))))
      (pss_one (ps_ret (pe_call G__law_instead (hr.mono (by first | decide | omega)) (by rfl) D__law_instead.g D__law_instead.F.kp D__law_instead.b .nil pass0 (pa_cons (pv 1) (pa_cons (pv 4) (pa_cons (pe_call G__law_bent (hr.mono (by first | decide | omega)) (by rfl) D__law_bent.g D__law_bent.F.kp D__law_bent.b .nil pass0 (pa_cons (pv 0) (pa_cons (pe_ix ix_tup (pv 1) (pv 4) (fun _ _ => rfl)) (pa_cons (pe_op op_sub (pv 2) pe_int) pa_nil)))) pa_nil)))))))), ?_⟩
    refine seq2 (fun H1 => KA.Fr d L H H1) (fun H1 => KA.Fr d L H H1 ∧ ∃ (m : Nat) (y : PyData) (ys : List PyData), n = m + 1 ∧ D = .tuple (y :: ys)) (fun Qc h hn => ?_) (fun H1 f1 => ?_) (fun H1 f1 => ?_)
    · obtain ⟨t0, ht1, ht2⟩ := Dx.isaT (K := K) hv
      refine ⟨v, rfl, v, .ty "tuple", .type t0, .type "tuple", _, rfl, .ty "tuple", ht1, kit_ty ht2, _, rfl, ?_⟩
      cases D with
      | tuple ys =>
        obtain ⟨a, xs, rfl, e, r⟩ := Dx.tupOf hv
        refine ⟨_, rfl, Nat.zero_le _, fun p np => ?_⟩
        have fp : KA.Fr d L H (upd H p (.tup [])) := (Fr.refl hD).mut np (Fr.refl hD |>.fresh np).2.1 (Fr.refl hD |>.fresh np).2.2
        have e1 := (same_new np : Same H (upd H p (.tup []))) _ _ e
        refine ⟨a, p, xs, rfl, rfl, .inr ⟨SqT.of e1, SqT.of upd_same⟩, _, rfl, ?_⟩
        cases xs with
        | nil => exact h _ fp
        | cons x r2 =>
          cases n with
          | zero => exact ⟨_, rfl, rfl, _, rfl, h _ fp⟩
          | succ m =>
            cases r with
            | cons r1 r3 =>
              refine ⟨_, rfl, rfl, _, rfl, ite2 (fun hz => ?_) (fun _ => ?_)⟩
              · exfalso
                have := V.int.inj (of_decide_eq_true hz)
                omega
              · refine ⟨_, rfl, d, L, _, rfl, fp.dk, by decide, by decide, fun r H3 r0 r1 f3 => ⟨rfl, _, rfl, ?_⟩⟩
                have hq : ∀ c, Qc c H3 := fun c => by
                  cases c with
                  | true => exact h _ (fp.trans f3)
                  | false => exact hn _ ⟨fp.trans f3, m, _, _, rfl, rfl⟩
                exact hq _
      | _ => exact h _ (Fr.refl hD)
    · have kp1 := kpF hD f1
      refine ⟨_, rfl, d, L, _, rfl, f1.dk, by decide, by decide, fun way H2 w0 w1 f2 => ?_⟩
      have f12 := f1.trans f2
      have hv2 := Dx.kp (kpF hD f12) _ _ hv
      refine ⟨v, rfl, DL d L, v, D, rfl, hv2, _, rfl, ite2 (fun hi => ?_) (fun hi => ?_)⟩
      · cases D with
        | int i =>
          cases hv2
          have hi45 : i.natAbs < b := by
            unfold Gd at gd
            exact gd
          have gdi : ∀ j : Int, j.natAbs < b + 5 → Gd (b + 5) (.int j) := fun j hj => by
            unfold Gd
            exact hj
          have okI : ∀ j : Int, j.natAbs < b + 5 → Nw b (.int i) (.int j) := fun j hj => nw_small (gdi j hj) (Nat.zero_le _) (by simp only [wt]; omega)
          refine ⟨_, rfl, _, rfl, i, rfl, _, rfl, i, 1, rfl, rfl, _, rfl, i, 1, rfl, rfl, _, rfl, .inl ⟨i, rfl, ?_⟩⟩
          refine ⟨_, rfl, i, rfl, ?_, ?_⟩
          · rcases Nat.eq_zero_or_pos i.natAbs with e | e
            · rw [e]
              decide
            · exact (Nat.log2_lt (by omega)).mpr (Nat.lt_of_lt_of_le (Nat.lt_of_lt_of_le hi45 hb2) (by decide +kernel))
          refine ⟨_, rfl, by show 1 ≤ sizeLine; decide, fun p1 n1 => ?_⟩
          obtain ⟨a1, a2, a3⟩ := f12.fresh n1
          have f3 := f12.mut (o := .tup [.int i]) a1 a2 a3
          refine ⟨_, rfl, by show 1 ≤ sizeLine; decide, fun p2 n2 => ?_⟩
          obtain ⟨b1, b2, b3⟩ := f3.fresh n2
          have f4 := f3.mut (o := .lst [.int i]) b1 b2 b3
          have h1 : upd (upd H2 p1 (.tup [.int i])) p2 (.lst [.int i]) p1 = some (.tup [.int i]) := by
            rw [upd_ne (ne_of_none upd_same n2)]
            exact upd_same
          have h2 : upd (upd H2 p1 (.tup [.int i])) p2 (.lst [.int i]) p2 = some (.lst [.int i]) := upd_same
          generalize upd (upd H2 p1 (.tup [.int i])) p2 (.lst [.int i]) = H3 at f4 h1 h2
          refine ⟨_, rfl, i, 4, rfl, rfl, by show 10 ≤ sizeLine; decide, fun p3 n3 => pickL (Fr.refl f4.dk) n3 (by show 0 < 10; decide) (by show 10 ≤ 1000; decide) fun x hx H' f5 => ?_⟩
          have f6 := f4.trans f5
          simp only [List.mem_cons, List.not_mem_nil, or_false] at hx
          rcases hx with rfl | rfl | rfl | rfl | rfl | rfl | rfl | rfl | rfl | rfl
          · exact q (.int 0) (.int 0) H' (.int _) (okI _ (by show 0 < b + 5; omega)) f6
          · exact q (.int (-i)) (.int (-i)) H' (.int _) (okI _ (by omega)) f6
          · exact q (.int (i - 1)) (.int (i - 1)) H' (.int _) (okI _ (by omega)) f6
          · exact q (.int (i + 1)) (.int (i + 1)) H' (.int _) (okI _ (by omega)) f6
          · exact q _ (.bool _) H' (.bl _) (nw_small (by unfold Gd; trivial) (Nat.zero_le _) (by simp only [wt]; omega)) f6
          · obtain ⟨z1, z2⟩ := asc_int (Nat.lt_trans (Nat.lt_of_lt_of_le hi45 hb2) (by decide +kernel))
            exact q _ (.str _) H' (.str _) (nw_small (by unfold Gd; exact z1) (Nat.zero_le _) (by simp only [wt]; omega)) f6
          · exact q _ (.tuple [.int i]) H' (.tup (f5.st p1 _ a2 a3 h1) (.cons (.int i) .nil)) (nw_small (by unfold Gd GdL GdL; exact ⟨gdi i (by omega), trivial⟩) (by show max 0 0 + 1 ≤ 6; decide) (by simp only [wt, wtL]; omega)) f6
          · exact q _ (.list [.int i]) H' (.lst (fun z => z.elim b2 b3) (f5.st p2 _ b2 b3 h2) (.cons (.int i) .nil)) (nw_small (by unfold Gd GdL GdL; exact ⟨gdi i (by omega), trivial⟩) (by show max 0 0 + 1 ≤ 6; decide) (by simp only [wt, wtL]; omega)) f6
          · exact q _ .none H' .non (nw_small (by unfold Gd; trivial) (Nat.zero_le _) (by simp only [wt]; omega)) f6
          · exact q (.int (i + 4)) (.int (i + 4)) H' (.int _) (okI _ (by omega)) f6
        | _ => cases hi
      refine tnx ?_
      dsimp only
      refine seqto (∃ ys, D = .tuple ys) (fun Qc h1 h2 => ?_) ?_ (fun hp => ?_)
      · refine ⟨_, rfl, rfl, ?_⟩
        refine ⟨_, rfl, ite2 (fun _ => h1) (fun _ => ?_)⟩
        obtain ⟨t0, ht1, ht2⟩ := Dx.isaT (K := K) hv2
        refine ⟨v, rfl, v, .ty "tuple", .type t0, .type "tuple", _, rfl, .ty "tuple", ht1, kit_ty ht2, _, rfl, ?_⟩
        cases D with
        | tuple ys => exact h2 ⟨ys, rfl⟩
        | _ => exact h1
      · refine ⟨_, rfl, d, L, rfl, f12.dk, fun v2 D2 H' av dv f => q v2 D2 H' (Dx.less (fun a ha => ?_) _ _ dv) (nw_small (Gd.mono (by omega) _ av.1) (by have := av.2.2.1; omega) (by have := av.2.2.2; omega)) (f12.trans f)⟩
        obtain ⟨ns, mm, kk, g1, g2, _⟩ := f12.dk
        rcases ha with rfl | rfl
        · show H2 a ≠ none
          rw [g1]
          exact fun z => by cases z
        · show H2 a ≠ none
          rw [g2]
          exact fun z => by cases z
      obtain ⟨ys, rfl⟩ := hp
      obtain ⟨a, xs, rfl, e, r⟩ := Dx.tupOf hv2
      have okL := gd_tup gd
      have okG := gd_tup (Gd.mono (show b ≤ b + 5 by omega) _ gd)
      have hwt : wtL ys + 3 ≤ 7000000 := by
        have := hW
        simp only [wt] at this
        exact this
      have hlen : ys.length ≤ 3500000 := by
        have := wtL_len ys
        omega
      have hxl : xs.length ≤ 3500000 := by
        rw [DxAll.length r]
        exact hlen
      have sL : 7000010 ≤ sizeLine := by rw [sizeLine_eq]; decide
      refine ⟨_, rfl, _, _, rfl, rfl, _, rfl, ite2 (fun _ => ?_) (fun _ => ?_)⟩
      · refine ⟨_, rfl, a, xs, rfl, .inr (SqT.of e), fun l nl => ?_⟩
        obtain ⟨a1, a2, a3⟩ := f12.fresh nl
        refine q (.ref l) (.list ys) _ (.lst (fun z => z.elim a2 a3) upd_same (Dx.kpAll (Kp.same (same_new nl)) _ _ r)) ⟨by unfold Gd; exact okG, by show PyData.depthAll ys + 1 ≤ PyData.depthAll ys + 1 + 6; omega, ?_⟩ (f12.mut a1 a2 a3)
        simp only [wt]
        omega
      refine tnx ?_
      dsimp only
      refine ⟨_, rfl, _, _, rfl, rfl, _, rfl, ite2 (fun _ => ?_) (fun _ => ?_)⟩
      · -- one more part
        refine ⟨_, rfl, _, rfl, Nat.zero_le _, fun p1 n1 => ?_⟩
        have s1 : Same H2 (upd H2 p1 (.tup [])) := same_new n1
        refine ⟨by show 1 ≤ sizeLine; decide, fun p2 n2 => ?_⟩
        have s2 : Same (upd H2 p1 (.tup [])) (upd (upd H2 p1 (.tup [])) p2 (.tup [.int 0])) := same_new n2
        have h1 := s2 _ _ (upd_same : upd H2 p1 (.tup []) p1 = _)
        have h2 : upd (upd H2 p1 (.tup [])) p2 (.tup [.int 0]) p2 = some (.tup [.int 0]) := upd_same
        have s12 := s1.trans s2
        generalize upd (upd H2 p1 (.tup [])) p2 (.tup [.int 0]) = H3 at s12 h1 h2
        have f3 := f12.trans (fr_same f12.dk s12)
        refine ⟨by show 6 ≤ sizeLine; decide, fun p3 n3 => pickL (Fr.refl f3.dk) n3 (by show 0 < 6; decide) (by show 6 ≤ 1000; decide) fun x hx H4 f4 => ?_⟩
        have k34 := kpF f3.dk f4
        obtain ⟨E, hE, gE, dE, wE⟩ : ∃ E, Dx (DL d L) H4 x E ∧ Gd (b + 5) E ∧ E.depth ≤ 1 ∧ wt E ≤ 60 := by
          simp only [List.mem_cons, List.not_mem_nil, or_false] at hx
          rcases hx with rfl | rfl | rfl | rfl | rfl | rfl
          · exact ⟨.tuple [], .tup (k34.tp _ _ h1) .nil, by unfold Gd GdL; trivial, by decide, by simp only [wt, wtL]; omega⟩
          · exact ⟨.int 0, .int 0, by unfold Gd; show 0 < b + 5; omega, by decide, by simp only [wt]; omega⟩
          · exact ⟨.int 1, .int 1, by unfold Gd; show 1 < b + 5; omega, by decide, by simp only [wt]; omega⟩
          · exact ⟨.tuple [.int 0], .tup (k34.tp _ _ h2) (.cons (.int 0) .nil), by unfold Gd GdL GdL Gd; exact ⟨by show 0 < b + 5; omega, trivial⟩, by decide, by simp only [wt, wtL]; omega⟩
          · exact ⟨.none, .non, by unfold Gd; trivial, by decide, by simp only [wt]; omega⟩
          · exact ⟨.bool true, .bl true, by unfold Gd; trivial, by decide, by simp only [wt]; omega⟩
        have f14 := f3.trans f4
        refine ⟨by show 1 ≤ sizeLine; decide, fun p4 n4 => ?_⟩
        have s4 : Same H4 (upd H4 p4 (.tup [x])) := same_new n4
        have e4 := s4 _ _ (k34.tp _ _ (s12 _ _ e))
        refine cat_dx e4 upd_same (by rw [List.length_singleton]; omega) fun r5 H5 s5 hr5 => ?_
        have s45 := s4.trans s5
        have r3 := Dx.kpAll (kpF f12.dk ((fr_same f12.dk s12).trans f4)) _ _ r
        refine q _ (.tuple (ys ++ [E])) H5 (.tup hr5 ((Dx.kpAll (Kp.same s45) _ _ r3).app (.cons (Dx.kp (Kp.same s45) _ _ hE) .nil))) ⟨?_, ?_, ?_⟩ (f14.trans (fr_same f14.dk s45))
        · unfold Gd
          exact GdL.app okG (by unfold GdL GdL; exact ⟨gE, trivial⟩)
        · show PyData.depthAll (ys ++ [E]) + 1 ≤ PyData.depthAll ys + 1 + 6
          rw [depth_app]
          simp only [PyData.depthAll]
          omega
        · simp only [wt]
          rw [wtL_app]
          simp only [wtL]
          omega
      refine tnx ?_
      dsimp only
      refine ⟨_, rfl, _, _, rfl, rfl, _, rfl, ite2 (fun _ => ?_) (fun _ => ?_)⟩
      · -- turned round
        refine ⟨_, rfl, a, xs, rfl, SqT.of e, fun p np => ?_⟩
        obtain ⟨a1, a2, a3⟩ := f12.fresh np
        exact q _ (.tuple ys.reverse) _ (.tup upd_same (DxAll.rev (Dx.kpAll (Kp.same (same_new np)) _ _ r))) (nw_sub gd (fun D hD => List.mem_reverse.mp hD) (by rw [wtL_rev]; omega)) (f12.mut a1 a2 a3)
      refine tnx ?_
      dsimp only
      refine ⟨_, rfl, _, _, rfl, rfl, _, rfl, ite2 (fun _ => ?_) (fun _ => ?_)⟩
      · -- the first part once more
        have cut1 : cutV xs none (some 1) = xs.take 1 := by
          show (xs.drop (HT.sIx xs.length 0 none)).take (HT.sIx xs.length xs.length (some ((1 : Nat) : Int)) - HT.sIx xs.length 0 none) = xs.take 1
          rw [HT.sIx_nat, HT.sIx_none, Nat.sub_zero, List.drop_zero]
          cases xs with
          | nil => rfl
          | cons x r => rw [Nat.min_eq_left (by rw [List.length_cons]; omega)]
        have fin : ∀ (t : Addr) (H3 : Hp), Same H2 H3 → H3 t = some (.tup (xs.take 1)) → rCatA K (.ref a) (.ref t) H3 Q := fun t H3 s3 ht => by
          refine cat_dx (s3 _ _ e) ht (by rw [List.length_take]; omega) fun r5 H5 s5 hr5 => ?_
          have s25 := s3.trans s5
          have r5' := Dx.kpAll (Kp.same s25) _ _ r
          refine q _ (.tuple (ys ++ ys.take 1)) H5 (.tup hr5 (r5'.app (DxAll.take 1 r5'))) (nw_sub gd (fun D hD => (List.mem_append.mp hD).elim id fun h => List.mem_of_mem_take h) ?_) (f12.trans (fr_same f12.dk s25))
          rw [wtL_app]
          have := wtL_take 1 ys
          omega
        refine ⟨_, rfl, _, rfl, 1, rfl, a, xs, rfl, SqT.of e, fun hw => ?_, fun _ p np => ?_⟩
        · refine fin a H2 (fun _ _ z => z) ?_
          have : xs.take 1 = xs := by
            refine List.take_of_length_le ?_
            have h2 := hw.2
            rw [show (some (1 : Int)) = some ((1 : Nat) : Int) from rfl, HT.sIx_nat] at h2
            omega
          rw [this]
          exact e
        · rw [cut1]
          exact fin p _ (same_new np) upd_same
      refine tnx ?_
      dsimp only
      refine ⟨_, rfl, _, _, rfl, rfl, _, rfl, ite2 (fun _ => ?_) (fun _ => ?_)⟩
      · -- without the first part
        have cut1 : cutV xs (some 1) none = xs.drop 1 := by
          show (xs.drop (HT.sIx xs.length 0 (some ((1 : Nat) : Int)))).take (HT.sIx xs.length xs.length none - HT.sIx xs.length 0 (some ((1 : Nat) : Int))) = xs.drop 1
          rw [HT.sIx_nat, HT.sIx_none]
          cases xs with
          | nil => rfl
          | cons x r =>
            rw [Nat.min_eq_left (by rw [List.length_cons]; omega), List.take_of_length_le (by rw [List.length_drop]; omega)]
        refine ⟨_, rfl, 1, rfl, a, xs, rfl, SqT.of e, fun hw => ?_, fun _ p np => ?_⟩
        · exact q _ (.tuple ys) H2 (.tup e r) (nw_sub gd (fun D hD => hD) (by omega)) f12
        · rw [cut1]
          obtain ⟨a1, a2, a3⟩ := f12.fresh np
          have := wtL_drop 1 ys
          exact q _ (.tuple (ys.drop 1)) _ (.tup upd_same (DxAll.drop 1 (Dx.kpAll (Kp.same (same_new np)) _ _ r))) (nw_sub gd (fun D hD => List.mem_of_mem_drop hD) (by omega)) (f12.mut a1 a2 a3)
      · -- in a tuple of its own
        refine ⟨_, rfl, by show 1 ≤ sizeLine; decide, fun p np => ?_⟩
        obtain ⟨a1, a2, a3⟩ := f12.fresh np
        refine q _ (.tuple [.tuple ys]) _ (.tup upd_same (.cons (.tup ((same_new np : Same H2 _) _ _ e) (Dx.kpAll (Kp.same (same_new np)) _ _ r)) .nil)) ⟨?_, ?_, ?_⟩ (f12.mut a1 a2 a3)
        · unfold Gd GdL GdL
          exact ⟨Gd.mono (show b ≤ b + 5 by omega) _ gd, trivial⟩
        · show max (PyData.depthAll ys + 1) 0 + 1 ≤ PyData.depthAll ys + 1 + 6
          omega
        · simp only [wt, wtL]
          omega
    · obtain ⟨f1, m, y, ys, rfl, rfl⟩ := f1
      have hv1 := Dx.kp (kpF hD f1) _ _ hv
      obtain ⟨a, xs, rfl, e, r⟩ := Dx.tupOf hv1
      have hxl : xs.length = (y :: ys).length := DxAll.length r
      have hlen := wtL_len (y :: ys)
      have hwt : wtL (y :: ys) + 3 ≤ 7000000 := by
        have := hW
        simp only [wt] at this ⊢
        exact this
      have x0 : 0 < xs.length := by rw [hxl, List.length_cons]; omega
      refine ⟨_, rfl, _, rfl, _, xs.length, rfl, .inr ⟨xs, SqT.of e, rfl⟩, d, L, _, rfl, f1.dk, by omega, by omega, fun at_ H2 r0 r1 f2 => ?_⟩
      obtain ⟨i, rfl⟩ := Int.eq_ofNat_of_zero_le r0
      have hi : i < xs.length := by omega
      have f12 := f1.trans f2
      have r2 := Dx.kpAll (kpF f1.dk f2) _ _ r
      have e2 := (kpF f1.dk f2).tp _ _ e
      obtain ⟨E, h3, h4⟩ := DxAll.at r2 (List.getElem?_eq_getElem hi)
      have em : (((m + 1 : Nat) : Int) - 1) = (m : Int) := by omega
      have hE := List.mem_of_getElem? h3
      refine ⟨_, rfl, _, rfl, _, rfl, _, rfl, _, rfl, a, xs, (i : Int), xs[i], rfl, rfl, SqT.of e2, atI_nat (List.getElem?_eq_getElem hi), _, rfl, _, _, rfl, rfl, ?_⟩
      refine ⟨d, L, xs[i], E, b, congrArg (fun z => [V.ref d, xs[i], V.int z]) em, f12.dk, h4, gd_mem (gd_tup gd) E hE, hb, hb2, ?_, fun v' D' H3 dv nw f3 => ?_⟩
      · have := wt_mem hE
        omega
      have r3 := Dx.kpAll (kpF f12.dk f3) _ _ r2
      have e3 := (kpF f12.dk f3).tp _ _ e2
      refine ⟨DL d L, a, xs, y :: ys, i, v', D', rfl, e3, r3, dv, hi, by omega, fun rr H4 s4 hr4 => ?_⟩
      exact q _ _ H4 hr4 (nw_set gd h3 nw) ((f12.trans f3).trans (fr_same f3.dk s4))
theorem ok_bent {fd : FuncData} {fl : Str → FuncData} (T : TbX mg) (D : Df K mg "_law_bent" s__law_bent P__law_bent fd)
    (D__law_draw : Df K mg "_law_draw" s__law_draw P__law_draw (fl "_law_draw")) (D__law_pick : Df K mg "_law_pick" s__law_pick P__law_pick (fl "_law_pick"))
    (D__law_is_integer : Df K mg "_law_is_integer" s__law_is_integer P__law_is_integer (fl "_law_is_integer"))
    (D__law_any : Df K mg "_law_any" s__law_any P__law_any (fl "_law_any")) (D__law_instead : Df K mg "_law_instead" s__law_instead P__law_instead (fl "_law_instead")) :
    FnOk P w K mg base CX0 7 (He.fAd K ("_law_bent", none)) fd P__law_bent (spBent 1) :=
  ok_bent1 (n := 1) T D D__law_draw D__law_pick D__law_is_integer D__law_any D__law_instead (ok_bent1 (n := 0) T D D__law_draw D__law_pick D__law_is_integer D__law_any D__law_instead ok_no)
end
end TB


set_option Elab.async false
set_option linter.all false
set_option maxRecDepth 100000
set_option maxHeartbeats 4000000
/-! Names in scope; the places of terms. -/
namespace TF
open PySem PySem.Spec PyProof.Rows L2 KT KX KE0 KA KB KC KD KP KP2 KW TD TD2 TD3 TR TJ TE EN LiI
/-- a scope: texts for texts -/
def ScK (kvs : List (Key × V)) : Prop := ∀ kv ∈ kvs, ∃ x y : Str, kv = ((Sum.inr x : Key), V.str y)
def ScOk (N : Nat) (H : Hp) (sc : Addr) : Prop := ∃ kvs : List (Key × V), H sc = some (.dK kvs) ∧ kvs.length ≤ N ∧ ScK kvs
theorem ScOk.same {N : Nat} {H H' : Hp} {sc : Addr} (s : Same H H') (h : ScOk N H sc) : ScOk N H' sc := by
  obtain ⟨kvs, h1, h2, h3⟩ := h
  exact ⟨kvs, s _ _ h1, h2, h3⟩
theorem ScOk.le {N M : Nat} {H : Hp} {sc : Addr} (l : N ≤ M) (h : ScOk N H sc) : ScOk M H sc := by
  obtain ⟨kvs, h1, h2, h3⟩ := h
  exact ⟨kvs, h1, Nat.le_trans h2 l, h3⟩
theorem putK_len (kvs : List (Key × V)) (k : Key) (v : V) : (putK kvs k v).length ≤ kvs.length + 1 := by
  unfold putK
  split
  · rw [List.length_map]
    omega
  · rw [List.length_append]
    exact Nat.le_refl _
theorem putK_sc (kvs : List (Key × V)) (x y : Str) (h : ScK kvs) : ScK (putK kvs (Sum.inr x : Key) (.str y)) := fun kv hk => by
  unfold putK at hk
  split at hk
  · obtain ⟨a, ha, e⟩ := List.mem_map.mp hk
    subst e
    split
    · rename_i e
      exact ⟨x, y, by rw [e]⟩
    · exact h a ha
  · rcases List.mem_append.mp hk with hk | hk
    · exact h kv hk
    · exact ⟨x, y, List.mem_singleton.mp hk⟩
theorem mergeK_ok : ∀ (new acc : List (Key × V)), ScK acc → ScK new → ScK (mergeK acc new) ∧ (mergeK acc new).length ≤ acc.length + new.length
  | [], acc, h, _ => ⟨h, Nat.le_refl _⟩
  | a :: r, acc, h, k => by
    obtain ⟨x, y, e⟩ := k a (List.mem_cons_self ..)
    subst e
    have ih := mergeK_ok r (putK acc (Sum.inr x : Key) (.str y)) (putK_sc acc x y h) fun z hz => k z (List.mem_cons_of_mem _ hz)
    have hl := putK_len acc (Sum.inr x : Key) (.str y)
    refine ⟨ih.1, Nat.le_trans ih.2 ?_⟩
    rw [List.length_cons]
    omega
theorem paired_mono {α β : Type} {F G : α → β → Prop} (h : ∀ a b, F a b → G a b) : ∀ {xs : List α} {ys : List β}, Paired F xs ys → Paired G xs ys
  | _, _, .nil => .nil
  | _, _, .cons a r => .cons (h _ _ a) (paired_mono h r)
theorem paired_app {α β : Type} {F : α → β → Prop} : ∀ {xs xs' : List α} {ys ys' : List β}, Paired F xs ys → Paired F xs' ys' → Paired F (xs ++ xs') (ys ++ ys')
  | _, _, _, _, .nil, h => h
  | _, _, _, _, .cons a r, h => .cons a (paired_app r h)
theorem paired_len {α β : Type} {F : α → β → Prop} : ∀ {xs : List α} {ys : List β}, Paired F xs ys → xs.length = ys.length
  | _, _, .nil => rfl
  | _, _, .cons _ r => by rw [List.length_cons, List.length_cons, paired_len r]
theorem valV_sc {kvs : List (Key × V)} {k : Key} : ScK kvs → ∃ y : Str, (valV kvs k).getD (.str "") = .str y := by
  intro h
  induction kvs with
  | nil => exact ⟨"", rfl⟩
  | cons a r ih =>
    by_cases e : a.1 = k
    · obtain ⟨x, y, ea⟩ := h a (List.mem_cons_self ..)
      refine ⟨y, ?_⟩
      subst ea
      rw [valV_pos e]
      rfl
    · rw [valV_neg e]
      exact ih fun z hz => h z (List.mem_cons_of_mem _ hz)
structure TbF (mg : Str → Option Value) : Prop extends Tb mg where
  dict : mg "dict" = none
  enumerate : mg "enumerate" = none
abbrev N__law_with : List Str := ["_law_scope", "_law_names", "_law_x"]
abbrev P__law_with : List Str := ["_law_scope", "_law_names"]
theorem sc__law_with : FnScope N__law_with P__law_with (defScope s__law_with) := ⟨rfl, rfl, rfl, by decide +kernel, rfl, by decide +kernel, by decide +kernel⟩
section
variable {P : Program} {w : World} {K : PySem.W.Frag} {mg : Str → Option Value} {base : Heap}
def spWith : Sp := fun vs H Q _ => ∃ (sc nm : Addr) (N : Nat) (xs : List Str), vs = [.ref sc, .ref nm] ∧ ScOk N H sc ∧ H nm = some (.tup (xs.map V.str)) ∧ N + xs.length ≤ 8000000 ∧ ∀ r H', Same H H' → H r = none → ScOk (N + xs.length) H' r → Q (.ref r) H'
theorem ok_with {fd : FuncData} (T : TbF mg) (D : Df K mg "_law_with" s__law_with P__law_with fd) : FnOk P w K mg base CX0 1 (He.fAd K ("_law_with", none)) fd P__law_with spWith := by
  refine (fun_of D.F).ok sc__law_with (fun vs H Q E h => ?_) (fun cdv A outer s H vs Q E hr h => ?_)
  · obtain ⟨sc, nm, N, xs, rfl, _⟩ := h
    rfl
  · obtain ⟨sc, nm, N, xs, rfl, hsc, hnm, hN, q⟩ := h
    have hu := hu_of hr
    refine ⟨_, (pss_one (ps_ret (pe_callTy (call_dictP rfl) (by rfl) T.dict (by decide +kernel) (pa_cons (pe_op op_cat (pe_listItems rfl (pv 0) (by rfl) T.list (by decide +kernel)) (pe_lc (own := [("_law_x", 2)]) (g := gName 2) (by rfl) sc__law_with.nd (pi_tup (pv 1)) (blkOk_by (own := [("_law_x", 2)]) (N := N__law_with) (sc := defScope s__law_with) (by decide +kernel)) (fun _ _ _ _ _ => (pg_name (i := 2) sc__law_with.nd rfl (.inl rfl))) (fun _ _ _ _ _ => (pts_one (pt_cmpR op_ne (pe_dget2 hu (pv 0) (pv 2) pe_str ⟨by rfl, by rfl, by rfl, by rfl⟩) pe_str (nomark _)))) (fun _ _ _ _ _ => (pe_tup (pa_cons (pv 2) (pa_cons pe_str pa_nil)))))) pa_nil)))), ?_⟩
    obtain ⟨kvs, e1, e2, e3⟩ := hsc
    refine ⟨_, rfl, sc, kvs, rfl, e1, fun H1 p ts s1 np nts hpt hp pts => ?_⟩
    refine ⟨_, rfl, nm, rfl, ⟨_, SqT.of (s1 _ _ hnm)⟩, fun D nD => ?_⟩
    have hl : (xs.map V.str).length = xs.length := List.length_map ..
    have ppD : p ≠ D := ne_of_none hp nD
    refine lc_tup (xs := xs.map V.str) (fun i H' => ∃ (rs : List Addr) (ks : List (Key × V)), H' D = some (.lst (rs.map V.ref)) ∧ Same H1 H' ∧ rs.length ≤ i ∧ ScK ks ∧ Paired (fun (t : Addr) (q : Key × V) => H' t = some (.tup [kV q.1, q.2])) rs ks)
      ⟨[], [], upd_same, same_new nD, Nat.le_refl _, (fun kv h => by cases h), .nil⟩ (fun i H' _ h => ?_) (fun i x H' hx h => ?_) (fun H' h => ?_)
    · obtain ⟨rs, ks, h1, h2, h3⟩ := h
      exact SqT.of (h2 _ _ (s1 _ _ hnm))
    · obtain ⟨rs, ks, h1, h2, h3, h4, h5⟩ := h
      obtain ⟨y, rfl⟩ : ∃ y, x = V.str y := by
        rw [List.getElem?_map] at hx
        obtain ⟨y, _, e⟩ := Option.map_eq_some_iff.mp hx
        exact ⟨y, e.symm⟩
      have hi : i < xs.length := by
        have := (List.getElem?_eq_some_iff.mp hx).1
        omega
      have ed : H' sc = some (.dK kvs) := h2 _ _ (s1 _ _ e1)
      obtain ⟨z, ez⟩ := valV_sc (k := (Sum.inr y : Key)) e3
      refine ⟨rfl, ?_⟩
      refine ⟨_, rfl, sc, rfl, .inl ⟨kvs, .inl ed⟩, _, rfl, _, DGet.k (k := Sum.inr y) ed, ?_⟩
      rw [ez]
      refine ⟨rfl, _, rfl, ite2 (fun _ => ?_) (fun _ => ⟨rs, ks, h1, h2, by omega, h4, h5⟩)⟩
      refine ⟨_, rfl, by show 2 ≤ sizeLine; decide, fun t nt => ?_⟩
      have Dt : D ≠ t := ne_of_none h1 nt
      have st : Same H' (upd H' t (.tup [.str y, .str "leading"])) := same_new nt
      refine ⟨rs.map V.ref, st _ _ h1, by rw [List.length_map, sizeLine_eq]; omega, rs ++ [t], ks ++ [((Sum.inr y : Key), .str "leading")], by rw [upd_same, List.map_append]; rfl, ?_, by rw [List.length_append]; show rs.length + 1 ≤ _; omega, ?_, ?_⟩
      · intro c o e
        rw [upd_ne (ne_of_none e nD)]
        exact st _ _ (h2 _ _ e)
      · intro kv hk
        rcases List.mem_append.mp hk with hk | hk
        · exact h4 kv hk
        · exact ⟨y, "leading", List.mem_singleton.mp hk⟩
      · refine paired_app (paired_mono (fun a b e => ?_) h5) (.cons ?_ .nil)
        · have e2 := st _ _ e
          rw [upd_ne (ne_of e2 (st _ _ h1) (by intro z; cases z))]
          exact e2
        · rw [upd_ne Dt.symm]
          exact upd_same
    · obtain ⟨rs, ks, h1, h2, h3, h4, h5⟩ := h
      have lts := paired_len pts
      have lrs := paired_len h5
      refine ⟨p, D, ts.map V.ref, rs.map V.ref, rfl, rfl, h2 _ _ hp, h1, by rw [List.length_map, List.length_map, sizeLine_eq]; omega, fun p2 np2 => ?_⟩
      have s2 : Same H' (upd H' p2 (.lst (ts.map V.ref ++ rs.map V.ref))) := same_new np2
      refine ⟨p2, ts ++ rs, kvs ++ ks, rfl, SqL.of (by rw [List.map_append]; exact upd_same), paired_app (paired_mono (fun a b e => SqT.of (s2 _ _ (h2 _ _ e))) pts) (paired_mono (fun a b e => SqT.of (s2 _ _ e)) h5), fun r nr => ?_⟩
      have sm : Same H (upd H' p2 (.lst (ts.map V.ref ++ rs.map V.ref))) := ((show Same H H1 from s1).trans h2).trans s2
      obtain ⟨m1, m2⟩ := mergeK_ok (kvs ++ ks) [] (fun kv h => by cases h) fun kv hk => (List.mem_append.mp hk).elim (e3 kv) (h4 kv)
      refine q r _ (sm.trans (same_new nr)) (sm.free nr) ⟨_, upd_same, ?_, m1⟩
      rw [List.length_append] at m2
      simp only [List.length_nil] at m2
      omega
end
end TF


set_option Elab.async false
set_option linter.all false
set_option maxRecDepth 100000
set_option maxHeartbeats 4000000
/-! The places of terms. -/
namespace TF2
open PySem PySem.Spec PyProof.Rows L2 KT KX KE0 KA KB KC KD KP KP2 KW TD TD2 TD3 TR TJ TE TB TF EN
/-- a pair of a path that leads somewhere, and a scope -/
def SpOk (R : PyData) (H : Hp) (it : V) : Prop := ∃ (t pt : Addr) (sc : V) (ns : List Nat) (D : PyData), it = .ref t ∧ H t = some (.tup [.ref pt, sc]) ∧ H pt = some (.tup (ns.map nI)) ∧ partAt R ns = some D
theorem SpOk.tp {R : PyData} {H H' : Hp} {it : V} (f : ∀ c xs, H c = some (.tup xs) → H' c = some (.tup xs)) (h : SpOk R H it) : SpOk R H' it := by
  obtain ⟨t, pt, sc, ns, D, e, h1, h2, h3⟩ := h
  exact ⟨t, pt, sc, ns, D, e, f _ _ h1, f _ _ h2, h3⟩
def SpL (R : PyData) (N : Nat) (H : Hp) (l : Addr) : Prop := ∃ its : List V, H l = some (.lst its) ∧ its.length ≤ N ∧ ∀ it ∈ its, SpOk R H it
theorem SpL.same {R : PyData} {N : Nat} {H H' : Hp} {l : Addr} (s : Same H H') (h : SpL R N H l) : SpL R N H' l := by
  obtain ⟨its, h1, h2, h3⟩ := h
  exact ⟨its, s _ _ h1, h2, fun it hi => (h3 it hi).tp fun c xs e => s _ _ e⟩
/-- what stood at H0 still stands; a list l that did not, with places -/
def Gw (R : PyData) (H0 : Hp) (l : Addr) (N : Nat) (H : Hp) : Prop := Same H0 H ∧ H0 l = none ∧ SpL R N H l
theorem Gw.same {R : PyData} {H0 : Hp} {l : Addr} {N : Nat} {H H' : Hp} (g : Gw R H0 l N H) (s : Same H H') : Gw R H0 l N H' := ⟨g.1.trans s, g.2.1, g.2.2.same s⟩
theorem Gw.le {R : PyData} {H0 : Hp} {l : Addr} {N M : Nat} {H : Hp} (g : Gw R H0 l N H) (h : N ≤ M) : Gw R H0 l M H := by
  obtain ⟨a, b, its, h1, h2, h3⟩ := g
  exact ⟨a, b, its, h1, Nat.le_trans h2 h, h3⟩
theorem Gw.put {R : PyData} {H0 : Hp} {l : Addr} {N m : Nat} {H : Hp} {its new : List V} (g : Gw R H0 l N H) (e : H l = some (.lst its)) (hn : ∀ it ∈ new, SpOk R H it) (hl : new.length ≤ m) : Gw R H0 l (N + m) (upd H l (.lst (its ++ new))) := by
  obtain ⟨a, b, its', h1, h2, h3⟩ := g
  rw [h1] at e
  cases e
  have k : ∀ c xs, H c = some (.tup xs) → (upd H l (.lst (its ++ new))) c = some (.tup xs) := fun c xs ec => by
    rw [upd_ne (ne_of ec h1 (by intro z; cases z))]
    exact ec
  refine ⟨fun c o ec => ?_, b, its ++ new, upd_same, by rw [List.length_append]; omega, fun it hi => ?_⟩
  · rw [upd_ne (ne_of_none ec b)]
    exact a _ _ ec
  · rcases List.mem_append.mp hi with h | h
    · exact (h3 it h).tp k
    · exact (hn it h).tp k
/-- extend by such a list -/
theorem ext_ok {R : PyData} {H0 : Hp} {l b : Addr} {N m : Nat} {H : Hp} {Q : VK} (g : Gw R H0 l N H) (hb : SpL R m H b) (hz : N + m ≤ 16000000) (q : ∀ H', Gw R H0 l (N + m) H' → (∀ c xs, H c = some (.tup xs) → H' c = some (.tup xs)) → (∀ c o, c ≠ l → H c = some o → H' c = some o) → Q .non H') : rExtend (.ref l) [.ref b] H Q := by
  obtain ⟨zs, b1, b2, b3⟩ := hb
  have g' := g
  obtain ⟨a, bb, its, h1, h2, h3⟩ := g
  refine ⟨l, b, its, zs, rfl, rfl, h1, b1, by rw [sizeLine_eq]; omega, q _ (g'.put h1 b3 b2) (fun c xs ec => ?_) fun c o n ec => ?_⟩
  · rw [upd_ne (ne_of ec h1 (by intro z; cases z))]
    exact ec
  · rw [upd_ne n]
    exact ec
/-- t + u as tuples, by their ints -/
theorem cat_ns {a b : Addr} {K : PySem.W.Frag} {ns ms : List Nat} {H : Hp} {Q : VK} (ha : H a = some (.tup (ns.map nI))) (hb : H b = some (.tup (ms.map nI))) (hl : ns.length + ms.length ≤ 2000)
    (q : ∀ r H', Same H H' → H' r = some (.tup ((ns ++ ms).map nI)) → Q (.ref r) H') : rCatA K (.ref a) (.ref b) H Q := by
  refine cat_dx ha hb ?_ fun r H' s h => q r H' s ?_
  · rw [List.length_map, List.length_map, sizeLine_eq]
    omega
  · rw [List.map_append]
    exact h
abbrev N__law_term_spots : List Str := ["_law_term", "_law_path", "_law_scope", "_law_found", "_law_at_here", "_law_k", "_law_inner"]
abbrev P__law_term_spots : List Str := ["_law_term", "_law_path", "_law_scope"]
theorem sc__law_term_spots : FnScope N__law_term_spots P__law_term_spots (defScope s__law_term_spots) := ⟨rfl, rfl, rfl, by decide +kernel, rfl, by decide +kernel, by decide +kernel⟩
section
variable {P : Program} {w : World} {K : PySem.W.Frag} {mg : Str → Option Value} {base : Heap}
def spTS (n : Nat) : Sp := fun vs H Q _ => ∃ (tv sc : V) (pt : Addr) (D R : PyData) (ns : List Nat), vs = [tv, .ref pt, sc] ∧ DT H tv D ∧ TmS D ∧ D.depth ≤ n ∧ wt D ≤ 2000000 ∧ H pt = some (.tup (ns.map nI)) ∧ ns.length + 2 * D.depth ≤ 1000 ∧ partAt R ns = some D ∧
  ∀ l H', Gw R H l (wt D) H' → Q (.ref l) H'
def spPrevT : Nat → Sp
  | 0 => spNo
  | n + 1 => spTS n
theorem up_tp {H : Hp} {l c : Addr} {its xs : List V} {o : HO} (h : H l = some (.lst its)) (e : H c = some (.tup xs)) : upd H l o c = some (.tup xs) := by
  rw [upd_ne (ne_of e h (by intro z; cases z))]
  exact e
theorem gw_start {R : PyData} {H H1 : Hp} {l : Addr} {it : V} (s : Same H H1) (n : H1 l = none) (h : SpOk R H1 it) : Gw R H l 1 (upd H1 l (.lst [it])) :=
  ⟨s.trans (same_new n), s.free n, [it], upd_same, Nat.le_refl _, fun x hx => by
    rw [List.mem_singleton.mp hx]
    exact h.tp fun c xs e => (same_new n : Same H1 _) _ _ e⟩
theorem ok_ts1 {fd : FuncData} {n : Nat} (T : TbF mg) (D : Df K mg "_law_term_spots" s__law_term_spots P__law_term_spots fd)
    (G__law_term_spots : FnOk P w K mg base CX0 (n + 1) (He.fAd K ("_law_term_spots", none)) fd P__law_term_spots (spPrevT n)) :
    FnOk P w K mg base CX0 (n + 2) (He.fAd K ("_law_term_spots", none)) fd P__law_term_spots (spTS n) := by
  have D__law_term_spots := D
  refine (fun_of D.F).ok (k := n + 1) sc__law_term_spots (fun vs H Q E h => ?_) (fun cdv A outer s H vs Q E hr h => ?_)
  · obtain ⟨tv, sc, pt, D, R, ns, rfl, _⟩ := h
    rfl
  · obtain ⟨tv, sc, pt, D, R, ns, rfl, hv, ts, dn, hw, hp, hl, hat, q⟩ := h
    obtain ⟨m, rfl⟩ : ∃ m, n = m + 1 := by
      cases n with
      | zero =>
        exfalso
        cases ts <;> (simp only [PyData.depth] at dn; omega)
      | succ m => exact ⟨m, rfl⟩
    refine ⟨_, (pss_cons (ps_set (i := 3) sc__law_term_spots.nd rfl (.inl rfl) (pe_lst (pa_cons (pe_tup (pa_cons (pv 1) (pa_cons (pv 2) pa_nil))) pa_nil)))
      (pss_cons (ps_if (pt_cmpR op_in_seq (pe_ix ix_tup (pv 0) pe_int (fun _ _ => rfl)) (pe_tup (pa_cons pe_str (pa_cons pe_str pa_nil))) (by rfl)) (pss_one (ps_expr (pe_bm PySem.F.plainAttrs_list PySem.F.slot_list_extend PySem.F.type_list_extend mt_extend (pv 3) (pa_cons (pe_call G__law_term_spots (hr.mono (by first | decide | omega)) (by rfl) D__law_term_spots.g D__law_term_spots.F.kp D__law_term_spots.b .nil pass0 (pa_cons (pe_ix ix_tup (pv 0) pe_int (fun _ _ => rfl)) (pa_cons (pe_op op_catA (pv 1) (pe_tup (pa_cons pe_int pa_nil))) (pa_cons (pv 2) pa_nil)))) pa_nil)))) pss_nil)
      (pss_cons (ps_if (pt_cmpR op_eq (pe_ix ix_tup (pv 0) pe_int (fun _ _ => rfl)) pe_str (nomark _)) (pss_one (ps_for PassesOwn.never rfl (pi_tup (pe_tup (pa_cons pe_int (pa_cons pe_int pa_nil)))) (pg_name (i := 4) sc__law_term_spots.nd rfl (.inl rfl)) (pss_one (ps_for PassesOwn.never rfl (pi_enumT (by rfl) T.enumerate (pa_cons (pe_ix ix_tup (pv 0) (pv 4) (fun _ _ => rfl)) pa_nil)) (pg_tup rfl (pgs_cons (pg_name (i := 5) sc__law_term_spots.nd rfl (.inl rfl)) (pgs_cons (pg_name (i := 6) sc__law_term_spots.nd rfl (.inl rfl)) pgs_nil))) (pss_one (ps_expr (pe_bm PySem.F.plainAttrs_list PySem.F.slot_list_extend PySem.F.type_list_extend mt_extend (pv 3) (pa_cons (pe_call G__law_term_spots (hr.mono (by first | decide | omega)) (by rfl) D__law_term_spots.g D__law_term_spots.F.kp D__law_term_spots.b .nil pass0 (pa_cons (pv 6) (pa_cons (pe_op op_catA (pv 1) (pe_tup (pa_cons (pv 4) (pa_cons (pv 5) pa_nil)))) (pa_cons (pv 2) pa_nil)))) pa_nil)))))))) pss_nil)
      (pss_one (ps_ret (pv 3)))))), ?_⟩
    refine ⟨_, rfl, _, rfl, by show 2 ≤ sizeLine; decide, fun t nt => ⟨by show 1 ≤ sizeLine; decide, fun fo nfo => ?_⟩⟩
    have st : Same H (upd H t (.tup [.ref pt, sc])) := same_new nt
    have g0 := gw_start (R := R) (it := .ref t) st nfo ⟨t, pt, sc, ns, D, rfl, upd_same, st _ _ hp, hat⟩
    generalize upd (upd H t (.tup [.ref pt, sc])) fo (.lst [.ref t]) = H1 at g0
    obtain ⟨ys, rfl⟩ : ∃ ys, D = .tuple ys := by cases ts <;> exact ⟨_, rfl⟩
    obtain ⟨a, xs, rfl, e, r⟩ := Dx.tupOf hv
    cases ts with
    | name x =>
      cases r with
      | cons r1 r2 =>
        cases r1
        refine ⟨_, rfl, a, _, 0, .str "name", rfl, rfl, SqT.of (g0.1 _ _ e), atI_nat (j := 0) rfl, by show 2 ≤ sizeLine; decide, fun p np => ⟨p, _, rfl, .inr (SqT.of upd_same), rfl, rfl, _, rfl, ?_⟩⟩
        have g2 := g0.same (same_new np : Same H1 (upd H1 p (.tup [.str "put", .str "cut"])))
        generalize upd H1 p (.tup [.str "put", .str "cut"]) = H2 at g2
        refine ite2 (fun h => absurd h (by decide +kernel)) (fun _ => ?_)
        refine tnx ?_
        refine ⟨_, rfl, a, _, 0, .str "name", rfl, rfl, SqT.of (g2.1 _ _ e), atI_nat (j := 0) rfl, rfl, _, rfl, ite2 (fun h => absurd h (by decide +kernel)) (fun _ => ?_)⟩
        exact ⟨_, rfl, q fo _ (g2.le (by simp only [wt]; omega))⟩
    | word x =>
      cases r with
      | cons r1 r2 =>
        cases r1
        refine ⟨_, rfl, a, _, 0, .str "word", rfl, rfl, SqT.of (g0.1 _ _ e), atI_nat (j := 0) rfl, by show 2 ≤ sizeLine; decide, fun p np => ⟨p, _, rfl, .inr (SqT.of upd_same), rfl, rfl, _, rfl, ?_⟩⟩
        have g2 := g0.same (same_new np : Same H1 (upd H1 p (.tup [.str "put", .str "cut"])))
        generalize upd H1 p (.tup [.str "put", .str "cut"]) = H2 at g2
        refine ite2 (fun h => absurd h (by decide +kernel)) (fun _ => ?_)
        refine tnx ?_
        refine ⟨_, rfl, a, _, 0, .str "word", rfl, rfl, SqT.of (g2.1 _ _ e), atI_nat (j := 0) rfl, rfl, _, rfl, ite2 (fun h => absurd h (by decide +kernel)) (fun _ => ?_)⟩
        exact ⟨_, rfl, q fo _ (g2.le (by simp only [wt]; omega))⟩
    | put y t1 =>
      rename_i d1
      cases r with
      | cons r1 r2 =>
        cases r1
        cases r2 with
        | cons r3 r4 =>
        rename_i v1 _
        refine ⟨_, rfl, a, _, 0, .str "put", rfl, rfl, SqT.of (g0.1 _ _ e), atI_nat (j := 0) rfl, by show 2 ≤ sizeLine; decide, fun p np => ⟨p, _, rfl, .inr (SqT.of upd_same), rfl, rfl, _, rfl, ?_⟩⟩
        have g2 := g0.same (same_new np : Same H1 (upd H1 p (.tup [.str "put", .str "cut"])))
        generalize upd H1 p (.tup [.str "put", .str "cut"]) = H2 at g2
        refine ite2 (fun _ => ?_) (fun h => absurd (by decide +kernel) h)
        obtain ⟨_, _, its, hfo, _⟩ := id g2
        refine ⟨_, rfl, .inl ⟨rfl, _, SqL.of hfo⟩, _, rfl, a, _, 1, v1, rfl, rfl, SqT.of (g2.1 _ _ e), atI_nat (j := 1) rfl, _, rfl, by show 1 ≤ sizeLine; decide, fun p1 np1 => ?_⟩
        have s3 := (same_new np1 : Same H2 (upd H2 p1 (.tup [.int 1])))
        refine cat_ns (ms := [1]) (s3 _ _ (g2.1 _ _ hp)) upd_same (by show ns.length + 1 ≤ 2000; omega) fun r5 H5 s5 hr5 => ?_
        have g5 := (g2.same s3).same s5
        have dd : PyData.depth d1 ≤ m := by
          simp only [PyData.depth, PyData.depthAll] at dn
          omega
        refine ⟨_, rfl, v1, sc, r5, d1, R, ns ++ [1], rfl, Dx.kp (Kp.same g5.1) _ _ r3, t1, dd, ?_, hr5, ?_, partAt_step hat rfl, fun l H6 g6 => ?_⟩
        · simp only [wt, wtL] at hw
          omega
        · simp only [PyData.depth, PyData.depthAll] at hl
          rw [List.length_append]
          show ns.length + 1 + 2 * PyData.depth d1 ≤ 1000
          omega
        have g7 : Gw R H fo 1 H6 := g5.same g6.1
        dsimp only [tNil]
        refine ext_ok g7 g6.2.2 (by simp only [wt, wtL] at hw; omega) fun H8 g8 k8 _ => ?_
        refine ⟨_, rfl, a, _, 0, .str "put", rfl, rfl, SqT.of (g8.1 _ _ e), atI_nat (j := 0) rfl, rfl, _, rfl, ite2 (fun h => absurd h (by decide +kernel)) (fun _ => ?_)⟩
        exact ⟨_, rfl, q fo _ (g8.le (by simp only [wt, wtL]; omega))⟩
    | cut t1 =>
      rename_i d1
      cases r with
      | cons r1 r2 =>
        cases r1
        cases r2 with
        | cons r3 r4 =>
        rename_i v1 _
        refine ⟨_, rfl, a, _, 0, .str "cut", rfl, rfl, SqT.of (g0.1 _ _ e), atI_nat (j := 0) rfl, by show 2 ≤ sizeLine; decide, fun p np => ⟨p, _, rfl, .inr (SqT.of upd_same), rfl, rfl, _, rfl, ?_⟩⟩
        have g2 := g0.same (same_new np : Same H1 (upd H1 p (.tup [.str "put", .str "cut"])))
        generalize upd H1 p (.tup [.str "put", .str "cut"]) = H2 at g2
        refine ite2 (fun _ => ?_) (fun h => absurd (by decide +kernel) h)
        obtain ⟨_, _, its, hfo, _⟩ := id g2
        refine ⟨_, rfl, .inl ⟨rfl, _, SqL.of hfo⟩, _, rfl, a, _, 1, v1, rfl, rfl, SqT.of (g2.1 _ _ e), atI_nat (j := 1) rfl, _, rfl, by show 1 ≤ sizeLine; decide, fun p1 np1 => ?_⟩
        have s3 := (same_new np1 : Same H2 (upd H2 p1 (.tup [.int 1])))
        refine cat_ns (ms := [1]) (s3 _ _ (g2.1 _ _ hp)) upd_same (by show ns.length + 1 ≤ 2000; omega) fun r5 H5 s5 hr5 => ?_
        have g5 := (g2.same s3).same s5
        have dd : PyData.depth d1 ≤ m := by
          simp only [PyData.depth, PyData.depthAll] at dn
          omega
        refine ⟨_, rfl, v1, sc, r5, d1, R, ns ++ [1], rfl, Dx.kp (Kp.same g5.1) _ _ r3, t1, dd, ?_, hr5, ?_, partAt_step hat rfl, fun l H6 g6 => ?_⟩
        · simp only [wt, wtL] at hw
          omega
        · simp only [PyData.depth, PyData.depthAll] at hl
          rw [List.length_append]
          show ns.length + 1 + 2 * PyData.depth d1 ≤ 1000
          omega
        have g7 : Gw R H fo 1 H6 := g5.same g6.1
        dsimp only [tNil]
        refine ext_ok g7 g6.2.2 (by simp only [wt, wtL] at hw; omega) fun H8 g8 k8 _ => ?_
        refine ⟨_, rfl, a, _, 0, .str "cut", rfl, rfl, SqT.of (g8.1 _ _ e), atI_nat (j := 0) rfl, rfl, _, rfl, ite2 (fun h => absurd h (by decide +kernel)) (fun _ => ?_)⟩
        exact ⟨_, rfl, q fo _ (g8.le (by simp only [wt, wtL]; omega))⟩
    | call x h1 h2 =>
      rename_i ls ss
      obtain ⟨vl, vs, rfl, rl, rs⟩ : ∃ vl vs, xs = [.str "call", .str x, vl, vs] ∧ Dx (fun _ => True) H vl (.tuple ls) ∧ Dx (fun _ => True) H vs (.tuple ss) := by
        cases r with
        | cons r1 r2 =>
          cases r1
          cases r2 with
          | cons r3 r4 =>
            cases r3
            cases r4 with
            | cons r5 r6 =>
              cases r6 with
              | cons r7 r8 =>
                cases r8
                exact ⟨_, _, rfl, r5, r7⟩
      refine ⟨_, rfl, a, _, 0, .str "call", rfl, rfl, SqT.of (g0.1 _ _ e), atI_nat (j := 0) rfl, by show 2 ≤ sizeLine; decide, fun p np => ⟨p, _, rfl, .inr (SqT.of upd_same), rfl, rfl, _, rfl, ?_⟩⟩
      have g2 := g0.same (same_new np : Same H1 (upd H1 p (.tup [.str "put", .str "cut"])))
      generalize upd H1 p (.tup [.str "put", .str "cut"]) = H2 at g2
      refine ite2 (fun h => absurd h (by decide +kernel)) (fun _ => ?_)
      refine tnx ?_
      refine ⟨_, rfl, a, _, 0, .str "call", rfl, rfl, SqT.of (g2.1 _ _ e), atI_nat (j := 0) rfl, rfl, _, rfl, ite2 (fun _ => ?_) (fun h => absurd (by decide +kernel) h)⟩
      refine ⟨by show 2 ≤ sizeLine; decide, fun p2 np2 => ⟨p2, rfl, ⟨_, SqT.of upd_same⟩, ?_⟩⟩
      have g3 := g2.same (same_new np2 : Same H2 (upd H2 p2 (.tup [.int 2, .int 3])))
      have hp2 : upd H2 p2 (.tup [.int 2, .int 3]) p2 = some (.tup [.int 2, .int 3]) := upd_same
      generalize upd H2 p2 (.tup [.int 2, .int 3]) = H3 at g3 hp2
      have hdp : PyData.depthAll ls ≤ m ∧ PyData.depthAll ss ≤ m ∧ PyData.depthAll ls + 2 ≤ PyData.depth (.tuple [.str "call", .str x, .tuple ls, .tuple ss]) ∧ PyData.depthAll ss + 2 ≤ PyData.depth (.tuple [.str "call", .str x, .tuple ls, .tuple ss]) := by
        simp only [PyData.depth, PyData.depthAll] at dn ⊢
        omega
      have hwp : wtL ls + wtL ss + 60 ≤ wt (.tuple [.str "call", .str x, .tuple ls, .tuple ss]) := by
        simp only [wt, wtL]
        have : ("call" : Str).length = 4 := rfl
        omega
      let zs : Nat → List PyData := fun i => if i = 0 then ls else ss
      let ac : Nat → Nat := fun i => if i = 0 then 1 else if i = 1 then 1 + wtL ls else 1 + wtL ls + wtL ss
      refine for_it (n := [V.int 2, V.int 3].length) walk_tup (fun i σ H' => ∃ c4 c5 c6, σ = [some (.ref a), some (.ref pt), some sc, some (.ref fo), c4, c5, c6] ∧ Gw R H fo (ac i) H' ∧ H' p2 = some (.tup [.int 2, .int 3])) ⟨none, none, none, rfl, g3, hp2⟩ (fun i σ H' _ h => ?_) (fun i ix σ H' H'' hi h y => ?_) (fun σ H' h => ?_)
      · obtain ⟨_, _, _, _, _, h⟩ := h
        exact SqT.of h
      · obtain ⟨rfl, hx⟩ := y
        obtain ⟨c4, c5, c6, rfl, g4, hp4⟩ := h
        obtain ⟨k, vz, rfl, hk, hz, hzt, hza, hzd, hac⟩ : ∃ (k : Nat) (vz : V), ix = .int k ∧ [V.str "call", .str x, vl, vs][k]? = some vz ∧ Dx (fun _ => True) H vz (.tuple (zs i)) ∧ (∀ y ∈ zs i, TmS y) ∧ partAt (.tuple [.str "call", .str x, .tuple ls, .tuple ss]) [k] = some (.tuple (zs i)) ∧ (PyData.depthAll (zs i) ≤ m ∧ PyData.depthAll (zs i) + 2 ≤ PyData.depth (.tuple [.str "call", .str x, .tuple ls, .tuple ss])) ∧ ac i + wtL (zs i) ≤ ac (i + 1) ∧ ac (i + 1) ≤ 1 + wtL ls + wtL ss := by
          have hi' : i < 2 := hi
          match i, hi', hx with
          | 0, _, hx =>
            cases hx
            exact ⟨2, vl, rfl, rfl, rl, h1, rfl, ⟨hdp.1, hdp.2.2.1⟩, Nat.le_refl _, by show 1 + wtL ls ≤ _; omega⟩
          | 1, _, hx =>
            cases hx
            exact ⟨3, vs, rfl, rfl, rs, h2, rfl, ⟨hdp.2.1, hdp.2.2.2⟩, Nat.le_refl _, Nat.le_refl _⟩
        generalize zs i = us at hz hzt hza hzd hac
        obtain ⟨az, zv, rfl, ez, rz⟩ := Dx.tupOf hz
        refine ⟨_, rfl, _, rfl, a, _, (k : Int), .ref az, rfl, rfl, SqT.of (g4.1 _ _ e), atI_nat hk, az, zv, rfl, SqT.of (g4.1 _ _ ez), ?_⟩
        refine for_it (n := zv.length) walkT (fun j σ H' => ∃ c5 c6, σ = [some (.ref a), some (.ref pt), some sc, some (.ref fo), some (.int k), c5, c6] ∧ Gw R H fo (ac i + wtL (us.take j)) H' ∧ H' p2 = some (.tup [.int 2, .int 3])) ⟨c5, c6, rfl, g4.le (Nat.le_add_right _ _), hp4⟩ (fun j σ H' _ h => ?_) (fun j x σ H' H'' hj h y => ?_) (fun σ H' h => ?_)
        · obtain ⟨_, _, _, h, _⟩ := h
          exact SqT.of (h.1 _ _ ez)
        · obtain ⟨c5, c6, rfl, g5, hp5⟩ := h
          obtain ⟨T, xk, xv, rfl, nT, rfl, hxk, hxv⟩ := y
          cases hxk
          have g6 := g5.same (same_new nT : Same H' (upd H' T (.tup [.int (j : Nat), xv])))
          have hp6 := (same_new nT : Same H' (upd H' T (.tup [.int (j : Nat), xv]))) _ _ hp5
          have hT : upd H' T (.tup [.int (j : Nat), xv]) T = some (.tup [.int (j : Nat), xv]) := upd_same
          generalize upd H' T (.tup [.int (j : Nat), xv]) = H6 at g6 hp6 hT
          refine ⟨T, _, rfl, SqT.of hT, rfl, _, _, rfl, _, _, rfl, rfl, ?_⟩
          obtain ⟨_, _, its, hfo, _⟩ := id g6
          obtain ⟨dj, hd1, hd2⟩ := DxAll.at rz hxv
          have hmem := List.mem_of_getElem? hd1
          have hdj := TB.depth_mem hmem
          have hwj := wt_mem hmem
          have htk : wtL (us.take (j + 1)) = wtL (us.take j) + (wt dj + 2) := by
            rw [List.take_add_one, hd1, wtL_app]
            rfl
          have htl := wtL_take (j + 1) us
          refine ⟨_, rfl, .inl ⟨rfl, _, SqL.of hfo⟩, _, rfl, _, rfl, _, rfl, _, rfl, by show 2 ≤ sizeLine; decide, fun p1 np1 => ?_⟩
          have s7 := (same_new np1 : Same H6 (upd H6 p1 (.tup [.int k, .int (j : Nat)])))
          refine cat_ns (ms := [k, j]) (s7 _ _ (g6.1 _ _ hp)) upd_same (by show ns.length + 2 ≤ 2000; omega) fun r8 H8 s8 hr8 => ?_
          have g8 := (g6.same s7).same s8
          have hp8 := s8 _ _ (s7 _ _ hp6)
          refine ⟨_, rfl, xv, sc, r8, dj, R, ns ++ [k, j], rfl, Dx.kp (Kp.same g8.1) _ _ hd2, hzt dj hmem, by omega, by omega, hr8, ?_, partAt_step hat (partAt_step (ns := [k]) (ms := [j]) hza ?_), fun l H9 g9 => ?_⟩
          · rw [List.length_append]
            show ns.length + 2 + 2 * PyData.depth dj ≤ 1000
            omega
          · show (us[j]?.bind fun d => partAt d []) = some dj
            rw [hd1]
            rfl
          dsimp only [tNil]
          refine ext_ok (g8.same g9.1) g9.2.2 (by omega) fun Hx gx kx _ => ?_
          exact ⟨_, _, rfl, gx.le (by omega), kx _ _ (g9.1 _ _ hp8)⟩
        · obtain ⟨c5, c6, rfl, g5, hp5⟩ := h
          refine ⟨_, c5, c6, rfl, g5.le ?_, hp5⟩
          rw [DxAll.length rz, List.take_length]
          exact hac.1
      · obtain ⟨c4, c5, c6, rfl, g4, hp4⟩ := h
        exact ⟨_, rfl, q fo _ (g4.le (by show 1 + wtL ls + wtL ss ≤ _; omega))⟩
theorem ok_ts {fd : FuncData} (T : TbF mg) (D : Df K mg "_law_term_spots" s__law_term_spots P__law_term_spots fd) :
    ∀ n : Nat, FnOk P w K mg base CX0 (n + 2) (He.fAd K ("_law_term_spots", none)) fd P__law_term_spots (spTS n)
  | 0 => ok_ts1 T D ok_no
  | n + 1 => ok_ts1 T D (ok_ts T D n)
end
end TF2


set_option Elab.async false
set_option linter.all false
set_option maxRecDepth 100000
set_option maxHeartbeats 4000000
/-! The places of commands. -/
namespace TF3
open PySem PySem.Spec PyProof.Rows L2 KT KX KE0 KA KB KC KD KP KP2 KW TD TD2 TD3 TR TJ TE TB TF TF2 EN
/-- one place more -/
theorem app_ok {R : PyData} {H0 : Hp} {l : Addr} {it : V} {N : Nat} {H : Hp} {Q : VK} (g : Gw R H0 l N H) (h : SpOk R H it) (hz : N ≤ 16000000) (q : ∀ H', Gw R H0 l (N + 1) H' → (∀ c xs, H c = some (.tup xs) → H' c = some (.tup xs)) → (∀ c o, c ≠ l → H c = some o → H' c = some o) → Q .non H') : rAppend (.ref l) [it] H Q := by
  have g' := g
  obtain ⟨a, bb, its, h1, h2, h3⟩ := g
  refine ⟨l, its, it, rfl, rfl, h1, by rw [sizeLine_eq]; omega, q _ (g'.put h1 (fun x hx => by rw [List.mem_singleton.mp hx]; exact h) (Nat.le_refl _)) (fun c xs ec => ?_) fun c o n ec => ?_⟩
  · rw [upd_ne (ne_of ec h1 (by intro z; cases z))]
    exact ec
  · rw [upd_ne n]
    exact ec
theorem ScOk.put {R : PyData} {H0 : Hp} {l sc : Addr} {N M : Nat} {H H' : Hp} (g : Gw R H0 l N H) (k : ∀ c o, c ≠ l → H c = some o → H' c = some o) (h : ScOk M H sc) : ScOk M H' sc := by
  obtain ⟨kvs, h1, h2, h3⟩ := h
  obtain ⟨_, _, its, e, _⟩ := g
  exact ⟨kvs, k _ _ (ne_of h1 e (by intro z; cases z)) h1, h2, h3⟩
abbrev N__law_block_spots : List Str := ["_law_block", "_law_path", "_law_scope", "_law_found", "_law_k", "_law_command", "_law_near", "_law_at_here"]
abbrev P__law_block_spots : List Str := ["_law_block", "_law_path", "_law_scope"]
theorem sc__law_block_spots : FnScope N__law_block_spots P__law_block_spots (defScope s__law_block_spots) := ⟨rfl, rfl, rfl, by decide +kernel, rfl, by decide +kernel, by decide +kernel⟩
section
variable {P : Program} {w : World} {K : PySem.W.Frag} {mg : Str → Option Value} {base : Heap}
def spBS (n : Nat) : Sp := fun vs H Q _ => ∃ (bv : V) (pt sc : Addr) (B R : PyData) (ns : List Nat) (N : Nat), vs = [bv, .ref pt, .ref sc] ∧ DT H bv B ∧ BkS B ∧ B.depth ≤ n ∧ B.depth ≤ 17 ∧ wt B ≤ 2000000 ∧ H pt = some (.tup (ns.map nI)) ∧ ns.length + 2 * B.depth ≤ 1000 ∧ partAt R ns = some B ∧ ScOk N H sc ∧ N + wt B ≤ 6000000 ∧
  ∀ t l sc' H', H' t = some (.tup [.ref l, .ref sc']) → Gw R H l (wt B) H' → ScOk (N + wt B) H' sc' → Q (.ref t) H'
def spPrevS : Nat → Sp
  | 0 => spNo
  | n + 1 => spBS n
theorem ok_bs1 {fd : FuncData} {fl : Str → FuncData} {n : Nat} (T : TbF mg) (D : Df K mg "_law_block_spots" s__law_block_spots P__law_block_spots fd)
    (D__law_term_spots : Df K mg "_law_term_spots" s__law_term_spots P__law_term_spots (fl "_law_term_spots")) (D__law_with : Df K mg "_law_with" s__law_with P__law_with (fl "_law_with"))
    (G__law_block_spots : FnOk P w K mg base CX0 (n + 19) (He.fAd K ("_law_block_spots", none)) fd P__law_block_spots (spPrevS n)) :
    FnOk P w K mg base CX0 (n + 20) (He.fAd K ("_law_block_spots", none)) fd P__law_block_spots (spBS n) := by
  have D__law_block_spots := D
  have G__law_term_spots : FnOk P w K mg base CX0 19 (He.fAd K ("_law_term_spots", none)) (fl "_law_term_spots") P__law_term_spots (spTS 17) := ok_ts T D__law_term_spots 17
  have G__law_with : FnOk P w K mg base CX0 1 (He.fAd K ("_law_with", none)) (fl "_law_with") P__law_with spWith := ok_with T D__law_with
  refine (fun_of D.F).ok (k := n + 19) sc__law_block_spots (fun vs H Q E h => ?_) (fun cdv A outer s H vs Q E hr h => ?_)
  · obtain ⟨bv, pt, sc, B, R, ns, N, rfl, _⟩ := h
    rfl
  · obtain ⟨bv, pt, sc, B, R, ns, N, rfl, hv, bs, dn, d17, hw, hp, hl, hat, hsc, hN, q⟩ := h
    obtain ⟨m, rfl⟩ : ∃ m, n = m + 1 := by
      cases n with
      | zero =>
        exfalso
        cases bs
        simp only [PyData.depth] at dn
        omega
      | succ m => exact ⟨m, rfl⟩
    refine ⟨_, (pss_cons (ps_set (i := 3) sc__law_block_spots.nd rfl (.inl rfl) (pe_lst pa_nil))
      (pss_cons (ps_for PassesOwn.never rfl (pi_enumT (by rfl) T.enumerate (pa_cons (pv 0) pa_nil)) (pg_tup rfl (pgs_cons (pg_name (i := 4) sc__law_block_spots.nd rfl (.inl rfl)) (pgs_cons (pg_name (i := 5) sc__law_block_spots.nd rfl (.inl rfl)) pgs_nil))) (pss_cons (ps_set (i := 6) sc__law_block_spots.nd rfl (.inl rfl) (pe_op op_catA (pv 1) (pe_tup (pa_cons (pv 4) pa_nil))))
          (pss_cons (ps_expr (pe_bm PySem.F.plainAttrs_list PySem.F.slot_list_append PySem.F.type_list_append mt_append (pv 3) (pa_cons (pe_tup (pa_cons (pv 6) (pa_cons (pv 2) pa_nil))) pa_nil)))
          (pss_one (ps_if (pt_cmpR op_in_seq (pe_ix ix_tup (pv 5) pe_int (fun _ _ => rfl)) (pe_tup (pa_cons pe_str (pa_cons pe_str pa_nil))) (by rfl)) (pss_cons (ps_expr (pe_bm PySem.F.plainAttrs_list PySem.F.slot_list_extend PySem.F.type_list_extend mt_extend (pv 3) (pa_cons (pe_call G__law_term_spots (hr.mono (by first | decide | omega)) (by rfl) D__law_term_spots.g D__law_term_spots.F.kp D__law_term_spots.b .nil pass0 (pa_cons (pe_ix ix_tup (pv 5) pe_int (fun _ _ => rfl)) (pa_cons (pe_op op_catA (pv 6) (pe_tup (pa_cons pe_int pa_nil))) (pa_cons (pv 2) pa_nil)))) pa_nil)))
              (pss_one (ps_set (i := 2) sc__law_block_spots.nd rfl (.inl rfl) (pe_ifExp (pt_cmpR op_eq (pe_ix ix_tup (pv 5) pe_int (fun _ _ => rfl)) pe_str (nomark _)) (pe_call G__law_with (hr.mono (by first | decide | omega)) (by rfl) D__law_with.g D__law_with.F.kp D__law_with.b .nil pass0 (pa_cons (pv 2) (pa_cons (pe_slice sl_tup (pv 5) (po_some pe_int) (po_some pe_int)) pa_nil))) (pv 2))))) (pss_one (ps_if (pt_cmpR op_eq (pe_ix ix_tup (pv 5) pe_int (fun _ _ => rfl)) pe_str (nomark _)) (pss_cons (ps_expr (pe_bm PySem.F.plainAttrs_list PySem.F.slot_list_extend PySem.F.type_list_extend mt_extend (pv 3) (pa_cons (pe_call G__law_term_spots (hr.mono (by first | decide | omega)) (by rfl) D__law_term_spots.g D__law_term_spots.F.kp D__law_term_spots.b .nil pass0 (pa_cons (pe_ix ix_tup (pv 5) pe_int (fun _ _ => rfl)) (pa_cons (pe_op op_catA (pv 6) (pe_tup (pa_cons pe_int pa_nil))) (pa_cons (pv 2) pa_nil)))) pa_nil)))
                  (pss_one (ps_for PassesOwn.never rfl (pi_tup (pe_tup (pa_cons pe_int (pa_cons pe_int (pa_cons pe_int pa_nil))))) (pg_name (i := 7) sc__law_block_spots.nd rfl (.inl rfl)) (pss_one (ps_expr (pe_bm PySem.F.plainAttrs_list PySem.F.slot_list_extend PySem.F.type_list_extend mt_extend (pv 3) (pa_cons (pe_ix ix_tup (pe_call G__law_block_spots (hr.mono (by first | decide | omega)) (by rfl) D__law_block_spots.g D__law_block_spots.F.kp D__law_block_spots.b .nil pass0 (pa_cons (pe_ix ix_tup (pv 5) (pv 7) (fun _ _ => rfl)) (pa_cons (pe_op op_catA (pv 6) (pe_tup (pa_cons (pv 7) pa_nil))) (pa_cons (pv 2) pa_nil)))) pe_int (fun _ _ => rfl)) pa_nil))))))) (pss_one (ps_expr (pe_bm PySem.F.plainAttrs_list PySem.F.slot_list_extend PySem.F.type_list_extend mt_extend (pv 3) (pa_cons (pe_ix ix_tup (pe_call G__law_block_spots (hr.mono (by first | decide | omega)) (by rfl) D__law_block_spots.g D__law_block_spots.F.kp D__law_block_spots.b .nil pass0 (pa_cons (pe_ix ix_tup (pv 5) pe_int (fun _ _ => rfl)) (pa_cons (pe_op op_catA (pv 6) (pe_tup (pa_cons pe_int pa_nil))) (pa_cons (pe_call G__law_with (hr.mono (by first | decide | omega)) (by rfl) D__law_with.g D__law_with.F.kp D__law_with.b .nil pass0 (pa_cons (pv 2) (pa_cons (pe_slice sl_tup (pv 5) (po_some pe_int) (po_some pe_int)) pa_nil))) pa_nil)))) pe_int (fun _ _ => rfl)) pa_nil)))))))))))
      (pss_one (ps_ret (pe_tup (pa_cons (pv 3) (pa_cons (pv 2) pa_nil))))))), ?_⟩
    refine ⟨Nat.zero_le _, fun fo nfo => ?_⟩
    have g0 : Gw R H fo 0 (upd H fo (.lst [])) := ⟨same_new nfo, nfo, [], upd_same, Nat.le_refl _, fun x hx => by cases hx⟩
    have sc0 := hsc.same (same_new nfo : Same H (upd H fo (.lst [])))
    generalize upd H fo (.lst []) = H1 at g0 sc0
    cases bs with
    | mk hcs =>
    rename_i cs
    obtain ⟨a, xs, rfl, e, r⟩ := Dx.tupOf hv
    have hdc : PyData.depthAll cs + 1 ≤ m + 1 := dn
    have hd17 : PyData.depthAll cs + 1 ≤ 17 := d17
    have hwc : wtL cs + 3 ≤ 2000000 := by
      simp only [wt] at hw
      exact hw
    have hlc : ns.length + 2 * (PyData.depthAll cs + 1) ≤ 1000 := hl
    have hNc : N + wtL cs + 3 ≤ 6000000 := by
      simp only [wt] at hN
      omega
    refine ⟨_, rfl, a, xs, rfl, SqT.of (g0.1 _ _ e), ?_⟩
    refine for_it (n := xs.length) walkT (fun i σ H' => ∃ (sc' : Addr) (c4 c5 c6 c7 : Option V), σ = [some (.ref a), some (.ref pt), some (.ref sc'), some (.ref fo), c4, c5, c6, c7] ∧ Gw R H fo (wtL (cs.take i)) H' ∧ ScOk (N + wtL (cs.take i)) H' sc')
      ⟨sc, none, none, none, none, rfl, g0, sc0⟩ (fun j σ H' _ h => ?_) (fun j ix σ H' H'' hj h y => ?_) (fun σ H' h => ?_)
    · obtain ⟨_, _, _, _, _, _, h, _⟩ := h
      exact SqT.of (h.1 _ _ e)
    · obtain ⟨sc', c4, c5, c6, c7, rfl, g5, sc5⟩ := h
      obtain ⟨T1, xk, xv, rfl, nT, rfl, hxk, hxv⟩ := y
      cases hxk
      have g6 := g5.same (same_new nT : Same H' (upd H' T1 (.tup [.int (j : Nat), xv])))
      have sc6 := sc5.same (same_new nT : Same H' (upd H' T1 (.tup [.int (j : Nat), xv])))
      have hT : upd H' T1 (.tup [.int (j : Nat), xv]) T1 = some (.tup [.int (j : Nat), xv]) := upd_same
      generalize upd H' T1 (.tup [.int (j : Nat), xv]) = H6 at g6 sc6 hT
      refine ⟨T1, _, rfl, SqT.of hT, rfl, _, _, rfl, _, _, rfl, rfl, ?_⟩
      obtain ⟨C, hd1, hd2⟩ := DxAll.at r hxv
      have hmem := List.mem_of_getElem? hd1
      have hdC := TB.depth_mem hmem
      have hwC := wt_mem hmem
      have htk : wtL (cs.take (j + 1)) = wtL (cs.take j) + (wt C + 2) := by
        rw [List.take_add_one, hd1, wtL_app]
        rfl
      have htl := wtL_take (j + 1) cs
      have hatC : partAt R (ns ++ [j]) = some C := partAt_step hat (by
        show (cs[j]?.bind fun d => partAt d []) = some C
        rw [hd1]
        rfl)
      -- near
      refine ⟨_, rfl, _, rfl, by show 1 ≤ sizeLine; decide, fun p1 np1 => ?_⟩
      have s7 := (same_new np1 : Same H6 (upd H6 p1 (.tup [.int (j : Nat)])))
      refine cat_ns (ms := [j]) (s7 _ _ (g6.1 _ _ hp)) upd_same (by show ns.length + 1 ≤ 2000; omega) fun nr H8 s8 hnr => ?_
      have g8 := (g6.same s7).same s8
      have sc8 := (sc6.same s7).same s8
      clear g6 sc6 hT s7
      -- its place
      obtain ⟨_, _, its, hfo, _⟩ := id g8
      refine ⟨_, rfl, .inl ⟨rfl, _, SqL.of hfo⟩, _, rfl, _, rfl, by show 2 ≤ sizeLine; decide, fun t nt => ?_⟩
      have st := (same_new nt : Same H8 (upd H8 t (.tup [.ref nr, .ref sc'])))
      have g8' := g8.same st
      dsimp only [tNil]
      refine app_ok g8' ⟨t, nr, .ref sc', ns ++ [j], C, rfl, upd_same, st _ _ hnr, hatC⟩ (by omega) fun H9 g9 k9 kk9 => ?_
      have sc9 := ScOk.put g8' kk9 (sc8.same st)
      have hnr9 := k9 _ _ (st _ _ hnr)
      clear g8 sc8 hfo st g8' k9 kk9 hnr
      cases hcs C hmem with
      | let_ x ht =>
        rename_i dt
        obtain ⟨ca, xs3, rfl, eC, r3⟩ := Dx.tupOf hd2
        obtain ⟨vt, rfl, hvt⟩ : ∃ vt, xs3 = [.str "let", .str x, vt] ∧ Dx (fun _ => True) H vt dt := by
          cases r3 with
          | cons r1 r2 =>
            cases r1
            cases r2 with
            | cons r4 r5 =>
              cases r4
              cases r5 with
              | cons r6 r7 =>
                cases r7
                exact ⟨_, rfl, r6⟩
        have hdt : PyData.depth dt + 1 ≤ PyData.depth (.tuple [.str "let", .str x, dt]) := by
          simp only [PyData.depth, PyData.depthAll]
          omega
        have hwt : wt dt + 40 ≤ wt (.tuple [.str "let", .str x, dt]) := by
          simp only [wt, wtL]
          have : ("let" : Str).length = 3 := rfl
          omega
        refine ⟨_, rfl, ca, _, 0, .str "let", rfl, rfl, SqT.of (g9.1 _ _ eC), atI_nat (j := 0) rfl, by show 2 ≤ sizeLine; decide, fun p np => ⟨p, _, rfl, .inr (SqT.of upd_same), rfl, rfl, _, rfl, ?_⟩⟩
        have g10 := g9.same (same_new np : Same H9 (upd H9 p (.tup [.str "let", .str "set"])))
        have sc10 := sc9.same (same_new np : Same H9 (upd H9 p (.tup [.str "let", .str "set"])))
        have hnr10 := (same_new np : Same H9 (upd H9 p (.tup [.str "let", .str "set"]))) _ _ hnr9
        generalize upd H9 p (.tup [.str "let", .str "set"]) = H10 at g10 sc10 hnr10
        refine ite2 (fun _ => ?_) (fun h => absurd (by decide +kernel) h)
        obtain ⟨_, _, its2, hfo2, _⟩ := id g10
        refine ⟨_, rfl, .inl ⟨rfl, _, SqL.of hfo2⟩, _, rfl, ca, _, 2, vt, rfl, rfl, SqT.of (g10.1 _ _ eC), atI_nat (j := 2) rfl, _, rfl, by show 1 ≤ sizeLine; decide, fun p1 np1 => ?_⟩
        have s11 := (same_new np1 : Same H10 (upd H10 p1 (.tup [.int 2])))
        refine cat_ns (ms := [2]) (s11 _ _ hnr10) upd_same (by rw [List.length_append]; show ns.length + 1 + 1 ≤ 2000; omega) fun r12 H12 s12 hr12 => ?_
        have g12 := (g10.same s11).same s12
        have sc12 := (sc10.same s11).same s12
        refine ⟨_, rfl, vt, .ref sc', r12, dt, R, ns ++ [j] ++ [2], rfl, Dx.kp (Kp.same g12.1) _ _ hvt, ht, by omega, by omega, hr12, ?_, partAt_step hatC rfl, fun l H13 g13 => ?_⟩
        · rw [List.length_append, List.length_append]
          show ns.length + 1 + 1 + 2 * PyData.depth dt ≤ 1000
          omega
        dsimp only [tNil]
        have g14 := g12.same g13.1
        refine ext_ok g14 g13.2.2 (by omega) fun H15 g15 k15 kk15 => ?_
        have sc15 := ScOk.put g14 kk15 (sc12.same g13.1)
        refine ⟨_, rfl, ca, _, 0, .str "let", rfl, rfl, SqT.of (g15.1 _ _ eC), atI_nat (j := 0) rfl, rfl, _, rfl, ?_⟩
        refine ite2 (fun _ => ?_) (fun h => absurd (by decide +kernel) h)
        refine ⟨_, rfl, _, rfl, 1, rfl, 2, rfl, ca, _, rfl, SqT.of (g15.1 _ _ eC), (by show ¬ (HT.sIx 3 0 (some 1) = 0 ∧ HT.sIx 3 3 (some 2) = 3); decide), fun p np => ?_⟩
        refine ⟨sc', p, N + wtL (cs.take j), [x], rfl, sc15.same (same_new np), upd_same, by show _ + 1 ≤ _; omega, fun r16 H16 s16 n16 sc16 => ?_⟩
        exact ⟨r16, _, _, _, _, rfl, ((g15.same (same_new np)).same s16).le (by omega), sc16.le (by show _ + 1 ≤ _; omega)⟩
      | set_ nms ht =>
        rename_i dt
        obtain ⟨ca, xs3, rfl, eC, r3⟩ := Dx.tupOf hd2
        obtain ⟨v1, vt, rfl, hvt⟩ : ∃ v1 vt, xs3 = [.str "set", v1, vt] ∧ Dx (fun _ => True) H vt dt := by
          cases r3 with
          | cons r1 r2 =>
            cases r1
            cases r2 with
            | cons r4 r5 =>
              cases r5 with
              | cons r6 r7 =>
                cases r7
                exact ⟨_, _, rfl, r6⟩
        have hdt : PyData.depth dt + 1 ≤ PyData.depth (.tuple [.str "set", .tuple (nms.map .str), dt]) := by
          simp only [PyData.depth, PyData.depthAll]
          omega
        have hwt : wt dt + 40 ≤ wt (.tuple [.str "set", .tuple (nms.map .str), dt]) := by
          simp only [wt, wtL]
          have : ("set" : Str).length = 3 := rfl
          omega
        refine ⟨_, rfl, ca, _, 0, .str "set", rfl, rfl, SqT.of (g9.1 _ _ eC), atI_nat (j := 0) rfl, by show 2 ≤ sizeLine; decide, fun p np => ⟨p, _, rfl, .inr (SqT.of upd_same), rfl, rfl, _, rfl, ?_⟩⟩
        have g10 := g9.same (same_new np : Same H9 (upd H9 p (.tup [.str "let", .str "set"])))
        have sc10 := sc9.same (same_new np : Same H9 (upd H9 p (.tup [.str "let", .str "set"])))
        have hnr10 := (same_new np : Same H9 (upd H9 p (.tup [.str "let", .str "set"]))) _ _ hnr9
        generalize upd H9 p (.tup [.str "let", .str "set"]) = H10 at g10 sc10 hnr10
        refine ite2 (fun _ => ?_) (fun h => absurd (by decide +kernel) h)
        obtain ⟨_, _, its2, hfo2, _⟩ := id g10
        refine ⟨_, rfl, .inl ⟨rfl, _, SqL.of hfo2⟩, _, rfl, ca, _, 2, vt, rfl, rfl, SqT.of (g10.1 _ _ eC), atI_nat (j := 2) rfl, _, rfl, by show 1 ≤ sizeLine; decide, fun p1 np1 => ?_⟩
        have s11 := (same_new np1 : Same H10 (upd H10 p1 (.tup [.int 2])))
        refine cat_ns (ms := [2]) (s11 _ _ hnr10) upd_same (by rw [List.length_append]; show ns.length + 1 + 1 ≤ 2000; omega) fun r12 H12 s12 hr12 => ?_
        have g12 := (g10.same s11).same s12
        have sc12 := (sc10.same s11).same s12
        refine ⟨_, rfl, vt, .ref sc', r12, dt, R, ns ++ [j] ++ [2], rfl, Dx.kp (Kp.same g12.1) _ _ hvt, ht, by omega, by omega, hr12, ?_, partAt_step hatC rfl, fun l H13 g13 => ?_⟩
        · rw [List.length_append, List.length_append]
          show ns.length + 1 + 1 + 2 * PyData.depth dt ≤ 1000
          omega
        dsimp only [tNil]
        have g14 := g12.same g13.1
        refine ext_ok g14 g13.2.2 (by omega) fun H15 g15 k15 kk15 => ?_
        have sc15 := ScOk.put g14 kk15 (sc12.same g13.1)
        refine ⟨_, rfl, ca, _, 0, .str "set", rfl, rfl, SqT.of (g15.1 _ _ eC), atI_nat (j := 0) rfl, rfl, _, rfl, ?_⟩
        refine ite2 (fun h => absurd h (by decide +kernel)) (fun _ => ?_)
        exact ⟨_, rfl, sc', _, _, _, _, rfl, g15.le (by omega), sc15.le (by omega)⟩
      | when_ ht hb3 hbs =>
        rename_i dt bs
        obtain ⟨ca, xs3, rfl, eC, r3⟩ := Dx.tupOf hd2
        obtain ⟨vt, vbs, rfl, hvt, hvb⟩ : ∃ vt vbs, xs3 = .str "when" :: vt :: vbs ∧ Dx (fun _ => True) H vt dt ∧ DxAll (fun _ => True) H vbs bs := by
          cases r3 with
          | cons r1 r2 =>
            cases r1
            cases r2 with
            | cons r4 r5 => exact ⟨_, _, rfl, r4, r5⟩
        have hdt : PyData.depth dt + 1 ≤ PyData.depth (.tuple (.str "when" :: dt :: bs)) ∧ PyData.depthAll bs + 1 ≤ PyData.depth (.tuple (.str "when" :: dt :: bs)) := by
          simp only [PyData.depth, PyData.depthAll]
          omega
        have hwt : wt dt + wtL bs + 40 ≤ wt (.tuple (.str "when" :: dt :: bs)) := by
          simp only [wt, wtL]
          have : ("when" : Str).length = 4 := rfl
          omega
        refine ⟨_, rfl, ca, _, 0, .str "when", rfl, rfl, SqT.of (g9.1 _ _ eC), atI_nat (j := 0) rfl, by show 2 ≤ sizeLine; decide, fun p np => ⟨p, _, rfl, .inr (SqT.of upd_same), rfl, rfl, _, rfl, ?_⟩⟩
        have g10 := g9.same (same_new np : Same H9 (upd H9 p (.tup [.str "let", .str "set"])))
        have sc10 := sc9.same (same_new np : Same H9 (upd H9 p (.tup [.str "let", .str "set"])))
        have hnr10 := (same_new np : Same H9 (upd H9 p (.tup [.str "let", .str "set"]))) _ _ hnr9
        generalize upd H9 p (.tup [.str "let", .str "set"]) = H10 at g10 sc10 hnr10
        refine ite2 (fun h => absurd h (by decide +kernel)) (fun _ => ?_)
        refine ⟨_, rfl, ca, _, 0, .str "when", rfl, rfl, SqT.of (g10.1 _ _ eC), atI_nat (j := 0) rfl, rfl, _, rfl, ite2 (fun _ => ?_) (fun h => absurd (by decide +kernel) h)⟩
        obtain ⟨_, _, its2, hfo2, _⟩ := id g10
        refine ⟨_, rfl, .inl ⟨rfl, _, SqL.of hfo2⟩, _, rfl, ca, _, 1, vt, rfl, rfl, SqT.of (g10.1 _ _ eC), atI_nat (j := 1) rfl, _, rfl, by show 1 ≤ sizeLine; decide, fun p1 np1 => ?_⟩
        have s11 := (same_new np1 : Same H10 (upd H10 p1 (.tup [.int 1])))
        refine cat_ns (ms := [1]) (s11 _ _ hnr10) upd_same (by rw [List.length_append]; show ns.length + 1 + 1 ≤ 2000; omega) fun r12 H12 s12 hr12 => ?_
        have g12 := (g10.same s11).same s12
        have sc12 := (sc10.same s11).same s12
        refine ⟨_, rfl, vt, .ref sc', r12, dt, R, ns ++ [j] ++ [1], rfl, Dx.kp (Kp.same g12.1) _ _ hvt, ht, by omega, by omega, hr12, ?_, partAt_step hatC rfl, fun l H13 g13 => ?_⟩
        · rw [List.length_append, List.length_append]
          show ns.length + 1 + 1 + 2 * PyData.depth dt ≤ 1000
          omega
        dsimp only [tNil]
        have g14 := g12.same g13.1
        refine ext_ok g14 g13.2.2 (by omega) fun H15 g15 k15 kk15 => ?_
        have sc15 := ScOk.put g14 kk15 (sc12.same g13.1)
        have hnr15 := k15 _ _ (g13.1 _ _ (s12 _ _ (s11 _ _ hnr10)))
        refine ⟨by show 3 ≤ sizeLine; decide, fun p2 np2 => ⟨p2, rfl, ⟨_, SqT.of upd_same⟩, ?_⟩⟩
        have s16 := (same_new np2 : Same H15 (upd H15 p2 (.tup [.int 2, .int 3, .int 4])))
        have g16 := g15.same s16
        have sc16 := sc15.same s16
        have hnr16 := s16 _ _ hnr15
        have hp16 : upd H15 p2 (.tup [.int 2, .int 3, .int 4]) p2 = some (.tup [.int 2, .int 3, .int 4]) := upd_same
        generalize upd H15 p2 (.tup [.int 2, .int 3, .int 4]) = H16 at g16 sc16 hnr16 hp16
        refine for_it (n := [V.int 2, V.int 3, V.int 4].length) walk_tup (fun i σ H' => ∃ (c7 : Option V), σ = [some (.ref a), some (.ref pt), some (.ref sc'), some (.ref fo), some (.int (j : Nat)), some (.ref ca), some (.ref nr), c7] ∧ Gw R H fo (wtL (cs.take j) + 1 + wt dt + wtL (bs.take i)) H' ∧ ScOk (N + wtL (cs.take j)) H' sc' ∧ H' p2 = some (.tup [.int 2, .int 3, .int 4]) ∧ H' nr = some (.tup ((ns ++ [j]).map nI)))
          ⟨_, rfl, g16.le (by omega), sc16, hp16, hnr16⟩ (fun i σ H' _ h => ?_) (fun i ix σ H' H'' hi h y => ?_) (fun σ H' h => ?_)
        · obtain ⟨_, _, _, _, h, _⟩ := h
          exact SqT.of h
        · obtain ⟨rfl, hx⟩ := y
          obtain ⟨c7, rfl, g17, sc17, hp17, hnr17⟩ := h
          have hi3 : i < 3 := hi
          have hib : i < bs.length := by omega
          have hxi : ix = .int ((2 + i : Nat) : Int) := by
            match i, hi3, hx with
            | 0, _, hx =>
              cases hx
              rfl
            | 1, _, hx =>
              cases hx
              rfl
            | 2, _, hx =>
              cases hx
              rfl
          subst hxi
          have hlv : i < vbs.length := by
            rw [DxAll.length hvb]
            exact hib
          obtain ⟨b, hb1, hb2⟩ := DxAll.at hvb (List.getElem?_eq_getElem hlv)
          have hbm := List.mem_of_getElem? hb1
          have hdb := TB.depth_mem hbm
          have hwb := wt_mem hbm
          have htb : wtL (bs.take (i + 1)) = wtL (bs.take i) + (wt b + 2) := by
            rw [List.take_add_one, hb1, wtL_app]
            rfl
          have htbl := wtL_take (i + 1) bs
          have hk : (V.str "when" :: vt :: vbs)[2 + i]? = some vbs[i] := by
            rw [show 2 + i = i + 1 + 1 by omega, List.getElem?_cons_succ, List.getElem?_cons_succ]
            exact List.getElem?_eq_getElem hlv
          obtain ⟨_, _, its3, hfo3, _⟩ := id g17
          refine ⟨_, rfl, .inl ⟨rfl, _, SqL.of hfo3⟩, _, rfl, _, rfl, ca, _, ((2 + i : Nat) : Int), vbs[i], rfl, rfl, SqT.of (g17.1 _ _ eC), atI_nat hk, _, rfl, _, rfl, by show 1 ≤ sizeLine; decide, fun p1 np1 => ?_⟩
          have s18 := (same_new np1 : Same H'' (upd H'' p1 (.tup [.int ((2 + i : Nat) : Int)])))
          refine cat_ns (ms := [2 + i]) (s18 _ _ hnr17) upd_same (by rw [List.length_append]; show ns.length + 1 + 1 ≤ 2000; omega) fun r19 H19 s19 hr19 => ?_
          have g19 := (g17.same s18).same s19
          have sc19 := (sc17.same s18).same s19
          have hp19 := s19 _ _ (s18 _ _ hp17)
          have hnr19 := s19 _ _ (s18 _ _ hnr17)
          refine ⟨_, rfl, vbs[i], r19, sc', b, R, ns ++ [j] ++ [2 + i], N + wtL (cs.take j), rfl, Dx.kp (Kp.same g19.1) _ _ hb2, hbs b hbm, by omega, by omega, by omega, hr19, ?_, partAt_step hatC ?_, sc19, by omega, fun t2 l2 sc2 H20 ht2 g20 sc20 => ?_⟩
          · rw [List.length_append, List.length_append]
            show ns.length + 1 + 1 + 2 * PyData.depth b ≤ 1000
            omega
          · show (((PyData.str "when" :: dt :: bs)[2 + i]?).bind fun d => partAt d []) = some b
            rw [show 2 + i = i + 1 + 1 by omega, List.getElem?_cons_succ, List.getElem?_cons_succ, hb1]
            rfl
          refine ⟨t2, _, 0, .ref l2, rfl, rfl, SqT.of ht2, atI_nat (j := 0) rfl, ?_⟩
          dsimp only [tNil]
          have g21 := g19.same g20.1
          refine ext_ok g21 g20.2.2 (by omega) fun H22 g22 k22 kk22 => ?_
          exact ⟨_, rfl, g22.le (by omega), ScOk.put g21 kk22 (sc19.same g20.1), k22 _ _ (g20.1 _ _ hp19), k22 _ _ (g20.1 _ _ hnr19)⟩
        · obtain ⟨c7, rfl, g17, sc17, _, _⟩ := h
          have hb4 := wtL_take 3 bs
          exact ⟨sc', _, _, _, _, rfl, g17.le (by show _ + wtL (bs.take 3) ≤ _; omega), sc17.le (by omega)⟩
      | each_ x rr ll hb =>
        rename_i b
        obtain ⟨ca, xs3, rfl, eC, r3⟩ := Dx.tupOf hd2
        obtain ⟨vb, rfl, hvb⟩ : ∃ vb, xs3 = [.str "each", .str x, .str rr, .str ll, vb] ∧ Dx (fun _ => True) H vb b := by
          cases r3 with
          | cons r1 r2 =>
            cases r1
            cases r2 with
            | cons r4 r5 =>
              cases r4
              cases r5 with
              | cons r6 r7 =>
                cases r6
                cases r7 with
                | cons r8 r9 =>
                  cases r8
                  cases r9 with
                  | cons ra rb =>
                    cases rb
                    exact ⟨_, rfl, ra⟩
        have hdt : PyData.depth b + 1 ≤ PyData.depth (.tuple [.str "each", .str x, .str rr, .str ll, b]) := by
          simp only [PyData.depth, PyData.depthAll]
          omega
        have hwt : wt b + 40 ≤ wt (.tuple [.str "each", .str x, .str rr, .str ll, b]) := by
          simp only [wt, wtL]
          have : ("each" : Str).length = 4 := rfl
          omega
        refine ⟨_, rfl, ca, _, 0, .str "each", rfl, rfl, SqT.of (g9.1 _ _ eC), atI_nat (j := 0) rfl, by show 2 ≤ sizeLine; decide, fun p np => ⟨p, _, rfl, .inr (SqT.of upd_same), rfl, rfl, _, rfl, ?_⟩⟩
        have g10 := g9.same (same_new np : Same H9 (upd H9 p (.tup [.str "let", .str "set"])))
        have sc10 := sc9.same (same_new np : Same H9 (upd H9 p (.tup [.str "let", .str "set"])))
        have hnr10 := (same_new np : Same H9 (upd H9 p (.tup [.str "let", .str "set"]))) _ _ hnr9
        generalize upd H9 p (.tup [.str "let", .str "set"]) = H10 at g10 sc10 hnr10
        refine ite2 (fun h => absurd h (by decide +kernel)) (fun _ => ?_)
        refine ⟨_, rfl, ca, _, 0, .str "each", rfl, rfl, SqT.of (g10.1 _ _ eC), atI_nat (j := 0) rfl, rfl, _, rfl, ite2 (fun h => absurd h (by decide +kernel)) (fun _ => ?_)⟩
        obtain ⟨_, _, its2, hfo2, _⟩ := id g10
        refine ⟨_, rfl, .inl ⟨rfl, _, SqL.of hfo2⟩, _, rfl, ca, _, 4, vb, rfl, rfl, SqT.of (g10.1 _ _ eC), atI_nat (j := 4) rfl, _, rfl, by show 1 ≤ sizeLine; decide, fun p1 np1 => ?_⟩
        have s11 := (same_new np1 : Same H10 (upd H10 p1 (.tup [.int 4])))
        refine cat_ns (ms := [4]) (s11 _ _ hnr10) upd_same (by rw [List.length_append]; show ns.length + 1 + 1 ≤ 2000; omega) fun r12 H12 s12 hr12 => ?_
        have g12 := (g10.same s11).same s12
        have sc12 := (sc10.same s11).same s12
        refine ⟨_, rfl, _, rfl, 2, rfl, 4, rfl, ca, _, rfl, SqT.of (g12.1 _ _ eC), (by show ¬ (HT.sIx 5 0 (some 2) = 0 ∧ HT.sIx 5 5 (some 4) = 5); decide), fun p np => ?_⟩
        have s13 := (same_new np : Same H12 (upd H12 p (.tup (cutV [.str "each", .str x, .str rr, .str ll, vb] (some 2) (some 4)))))
        refine ⟨sc', p, N + wtL (cs.take j), [rr, ll], rfl, sc12.same s13, upd_same, by show _ + 2 ≤ _; omega, fun scr H16 s16 n16 sc16 => ?_⟩
        have g16 := (g12.same s13).same s16
        have scx := (sc12.same s13).same s16
        refine ⟨vb, r12, scr, b, R, ns ++ [j] ++ [4], N + wtL (cs.take j) + 2, rfl, Dx.kp (Kp.same g16.1) _ _ hvb, hb, by omega, by omega, by omega, s16 _ _ (s13 _ _ hr12), ?_, partAt_step hatC rfl, sc16, by omega, fun t2 l2 sc2 H20 ht2 g20 sc20 => ?_⟩
        · rw [List.length_append, List.length_append]
          show ns.length + 1 + 1 + 2 * PyData.depth b ≤ 1000
          omega
        refine ⟨t2, _, 0, .ref l2, rfl, rfl, SqT.of ht2, atI_nat (j := 0) rfl, ?_⟩
        dsimp only [tNil]
        have g21 := g16.same g20.1
        refine ext_ok g21 g20.2.2 (by omega) fun H22 g22 k22 kk22 => ?_
        exact ⟨sc', _, _, _, _, rfl, g22.le (by omega), (ScOk.put g21 kk22 (scx.same g20.1)).le (by omega)⟩
    · obtain ⟨sc', c4, c5, c6, c7, rfl, g5, sc5⟩ := h
      have hlx := DxAll.length r
      rw [hlx, List.take_length] at g5 sc5
      refine ⟨_, rfl, _, rfl, by show 2 ≤ sizeLine; decide, fun t nt => q t fo sc' _ upd_same ((g5.same (same_new nt)).le ?_) ((sc5.same (same_new nt)).le ?_)⟩
      · simp only [wt]
        omega
      · simp only [wt]
        omega
theorem ok_bs {fd : FuncData} {fl : Str → FuncData} (T : TbF mg) (D : Df K mg "_law_block_spots" s__law_block_spots P__law_block_spots fd)
    (D__law_term_spots : Df K mg "_law_term_spots" s__law_term_spots P__law_term_spots (fl "_law_term_spots")) (D__law_with : Df K mg "_law_with" s__law_with P__law_with (fl "_law_with")) :
    ∀ n : Nat, FnOk P w K mg base CX0 (n + 20) (He.fAd K ("_law_block_spots", none)) fd P__law_block_spots (spBS n)
  | 0 => ok_bs1 T D D__law_term_spots D__law_with ok_no
  | n + 1 => ok_bs1 T D D__law_term_spots D__law_with (ok_bs T D D__law_term_spots D__law_with n)
end
end TF3


set_option Elab.async false
set_option linter.all false
set_option maxRecDepth 100000
set_option maxHeartbeats 4000000
/-! The places of a program. -/
namespace TF4
open PySem PySem.Spec PyProof.Rows L2 KT KX KE0 KA KB KC KD KP KP2 KW TD TD2 TD3 TR TJ TE TB TF TF2 TF3 EN
theorem dx_strs {M : Addr → Prop} {H : Hp} : ∀ {ss : List Str} {zs : List V}, DxAll M H zs (ss.map .str) → zs = ss.map V.str
  | [], _, .nil => rfl
  | s :: r, _, .cons h t => by
    cases h
    rw [dx_strs t]
    rfl
abbrev N__law_spots : List Str := ["_law_tree", "_law_found", "_law_i", "_law_function", "_law_scope", "_law_near", "_law_k", "_law_term", "_law_x"]
abbrev P__law_spots : List Str := ["_law_tree"]
theorem sc__law_spots : FnScope N__law_spots P__law_spots (defScope s__law_spots) := ⟨rfl, rfl, rfl, by decide +kernel, rfl, by decide +kernel, by decide +kernel⟩
section
variable {P : Program} {w : World} {K : PySem.W.Frag} {mg : Str → Option Value} {base : Heap}
def spSpots : Sp := fun vs H Q _ => ∃ (tv : V) (D : PyData), vs = [tv] ∧ DT H tv D ∧ PgD D ∧ ∀ l H', Gw D H l (wt D) H' → Q (.ref l) H'
theorem ok_spots {fd : FuncData} {fl : Str → FuncData} (T : TbF mg) (D : Df K mg "_law_spots" s__law_spots P__law_spots fd)
    (D__law_term_spots : Df K mg "_law_term_spots" s__law_term_spots P__law_term_spots (fl "_law_term_spots")) (D__law_with : Df K mg "_law_with" s__law_with P__law_with (fl "_law_with"))
    (D__law_block_spots : Df K mg "_law_block_spots" s__law_block_spots P__law_block_spots (fl "_law_block_spots")) :
    FnOk P w K mg base CX0 38 (He.fAd K ("_law_spots", none)) fd P__law_spots spSpots := by
  have G__law_term_spots : FnOk P w K mg base CX0 19 (He.fAd K ("_law_term_spots", none)) (fl "_law_term_spots") P__law_term_spots (spTS 17) := ok_ts T D__law_term_spots 17
  have G__law_block_spots : FnOk P w K mg base CX0 37 (He.fAd K ("_law_block_spots", none)) (fl "_law_block_spots") P__law_block_spots (spBS 17) := ok_bs T D__law_block_spots D__law_term_spots D__law_with 17
  have G__law_with : FnOk P w K mg base CX0 1 (He.fAd K ("_law_with", none)) (fl "_law_with") P__law_with spWith := ok_with T D__law_with
  refine (fun_of D.F).ok (k := 37) sc__law_spots (fun vs H Q E h => ?_) (fun cdv A outer s H vs Q E hr h => ?_)
  · obtain ⟨tv, D, rfl, _⟩ := h
    rfl
  · obtain ⟨tv, R, rfl, hv, pg, q⟩ := h
    refine ⟨_, (pss_cons (ps_set (i := 1) sc__law_spots.nd rfl (.inl rfl) (pe_lst pa_nil))
      (pss_cons (ps_for PassesOwn.never rfl (pi_enumT (by rfl) T.enumerate (pa_cons (pv 0) pa_nil)) (pg_tup rfl (pgs_cons (pg_name (i := 2) sc__law_spots.nd rfl (.inl rfl)) (pgs_cons (pg_name (i := 3) sc__law_spots.nd rfl (.inl rfl)) pgs_nil))) (pss_cons (ps_set (i := 4) sc__law_spots.nd rfl (.inl rfl) (pe_call G__law_with (hr.mono (by first | decide | omega)) (by rfl) D__law_with.g D__law_with.F.kp D__law_with.b .nil pass0 (pa_cons (pe_callTy (call_dictP rfl) (by rfl) T.dict (by decide +kernel) (pa_cons (pe_lc (own := [("_law_x", 8)]) (g := gName 8) (tt := tYes) (by rfl) sc__law_spots.nd (pi_tup (pe_op op_catA (pe_ix ix_tup (pv 3) pe_int (fun _ _ => rfl)) (pe_ix ix_tup (pv 3) pe_int (fun _ _ => rfl)))) (blkOk_by (own := [("_law_x", 8)]) (N := N__law_spots) (sc := defScope s__law_spots) (by decide +kernel)) (fun _ _ _ _ _ => (pg_name (i := 8) sc__law_spots.nd rfl (.inl rfl))) (fun _ _ _ _ _ => pts_nil) (fun _ _ _ _ _ => (pe_tup (pa_cons (pv 8) (pa_cons pe_str pa_nil))))) pa_nil)) (pa_cons (pe_ix ix_tup (pv 3) pe_int (fun _ _ => rfl)) pa_nil))))
          (pss_cons (ps_asg (pe_call G__law_block_spots (hr.mono (by first | decide | omega)) (by rfl) D__law_block_spots.g D__law_block_spots.F.kp D__law_block_spots.b .nil pass0 (pa_cons (pe_ix ix_tup (pv 3) pe_int (fun _ _ => rfl)) (pa_cons (pe_tup (pa_cons (pv 2) (pa_cons pe_int pa_nil))) (pa_cons (pv 4) pa_nil)))) (pg_tup rfl (pgs_cons (pg_name (i := 5) sc__law_spots.nd rfl (.inl rfl)) (pgs_cons (pg_name (i := 4) sc__law_spots.nd rfl (.inl rfl)) pgs_nil))))
          (pss_cons (ps_expr (pe_bm PySem.F.plainAttrs_list PySem.F.slot_list_extend PySem.F.type_list_extend mt_extend (pv 1) (pa_cons (pv 5) pa_nil)))
          (pss_one (ps_for PassesOwn.never rfl (pi_enumT (by rfl) T.enumerate (pa_cons (pe_ix ix_tup (pv 3) pe_int (fun _ _ => rfl)) pa_nil)) (pg_tup rfl (pgs_cons (pg_name (i := 6) sc__law_spots.nd rfl (.inl rfl)) (pgs_cons (pg_name (i := 7) sc__law_spots.nd rfl (.inl rfl)) pgs_nil))) (pss_one (ps_expr (pe_bm PySem.F.plainAttrs_list PySem.F.slot_list_extend PySem.F.type_list_extend mt_extend (pv 1) (pa_cons (pe_call G__law_term_spots (hr.mono (by first | decide | omega)) (by rfl) D__law_term_spots.g D__law_term_spots.F.kp D__law_term_spots.b .nil pass0 (pa_cons (pv 7) (pa_cons (pe_tup (pa_cons (pv 2) (pa_cons pe_int (pa_cons (pv 6) pa_nil)))) (pa_cons (pv 4) pa_nil)))) pa_nil))))))))))
      (pss_one (ps_ret (pv 1))))), ?_⟩
    refine ⟨Nat.zero_le _, fun fo nfo => ?_⟩
    obtain ⟨Ds, rfl, l1, l3, hf, _, dn, hw⟩ := pg
    have g0 : Gw (.tuple Ds) H fo 0 (upd H fo (.lst [])) := ⟨same_new nfo, nfo, [], upd_same, Nat.le_refl _, fun x hx => by cases hx⟩
    generalize upd H fo (.lst []) = H1 at g0
    obtain ⟨a, xs, rfl, e, r⟩ := Dx.tupOf hv
    refine ⟨_, rfl, a, xs, rfl, SqT.of (g0.1 _ _ e), ?_⟩
    refine for_it (n := xs.length) walkT (fun i σ H' => ∃ (c2 c3 c4 c5 c6 c7 c8 : Option V), σ = [some (.ref a), some (.ref fo), c2, c3, c4, c5, c6, c7, c8] ∧ Gw (.tuple Ds) H fo (wtL (Ds.take i)) H')
      ⟨none, none, none, none, none, none, none, rfl, g0⟩ (fun j σ H' _ h => ?_) (fun j ix σ H' H'' hj h y => ?_) (fun σ H' h => ?_)
    · obtain ⟨_, _, _, _, _, _, _, _, h⟩ := h
      exact SqT.of (h.1 _ _ e)
    · obtain ⟨c2, c3, c4, c5, c6, c7, c8, rfl, g5⟩ := h
      obtain ⟨T1, xk, xv, rfl, nT, rfl, hxk, hxv⟩ := y
      cases hxk
      have g6 := g5.same (same_new nT : Same H' (upd H' T1 (.tup [.int (j : Nat), xv])))
      have hT : upd H' T1 (.tup [.int (j : Nat), xv]) T1 = some (.tup [.int (j : Nat), xv]) := upd_same
      generalize upd H' T1 (.tup [.int (j : Nat), xv]) = H6 at g6 hT
      refine ⟨T1, _, rfl, SqT.of hT, rfl, _, _, rfl, _, _, rfl, rfl, ?_⟩
      obtain ⟨F, hd1, hd2⟩ := DxAll.at r hxv
      have hmem := List.mem_of_getElem? hd1
      obtain ⟨nm, lds, sfs, ows, gs, bl, rfl, hbl, hgs, ll, ls, _, _, _, fd, fw⟩ := hf F hmem
      have htk : wtL (Ds.take (j + 1)) = wtL (Ds.take j) + (wt (.tuple [.str "fun", .str nm, .tuple (lds.map .str), .tuple (sfs.map .str), .tuple (ows.map .str), bl, .tuple gs]) + 2) := by
        rw [List.take_add_one, hd1, wtL_app]
        rfl
      have htl := wtL_take (j + 1) Ds
      have hwD : wtL Ds + 3 ≤ 1200100 := by
        simp only [wt] at hw
        exact hw
      have hatF : partAt (.tuple Ds) [j] = some (.tuple [.str "fun", .str nm, .tuple (lds.map .str), .tuple (sfs.map .str), .tuple (ows.map .str), bl, .tuple gs]) := by
        show (Ds[j]?.bind fun d => partAt d []) = some _
        rw [hd1]
        rfl
      obtain ⟨ca, xs3, rfl, eC, r3⟩ := Dx.tupOf hd2
      obtain ⟨al, as, ao, vb, ag, gv, rfl, eal, eas, eao, hvb, eag, rg⟩ : ∃ (al as ao : Addr) (vb : V) (ag : Addr) (gv : List V), xs3 = [.str "fun", .str nm, .ref al, .ref as, .ref ao, vb, .ref ag] ∧ H al = some (.tup (lds.map V.str)) ∧ H as = some (.tup (sfs.map V.str)) ∧ H ao = some (.tup (ows.map V.str)) ∧ Dx (fun _ => True) H vb bl ∧ H ag = some (.tup gv) ∧ DxAll (fun _ => True) H gv gs := by
        cases r3 with
        | cons r1 r2 =>
          cases r1
          cases r2 with
          | cons r4 r5 =>
            cases r4
            cases r5 with
            | cons r6 r7 =>
              cases r7 with
              | cons r8 r9 =>
                cases r9 with
                | cons ra rb =>
                  cases rb with
                  | cons rc rd =>
                    cases rd with
                    | cons re rf =>
                      cases rf
                      obtain ⟨al, zl, rfl, el, hl⟩ := Dx.tupOf r6
                      obtain ⟨as, zs, rfl, es, hs⟩ := Dx.tupOf r8
                      obtain ⟨ao, zo, rfl, eo, ho⟩ := Dx.tupOf ra
                      obtain ⟨ag, zg, rfl, eg, hg⟩ := Dx.tupOf re
                      rw [dx_strs hl] at el
                      rw [dx_strs hs] at es
                      rw [dx_strs ho] at eo
                      exact ⟨al, as, ao, _, ag, zg, rfl, el, es, eo, rc, eg, hg⟩
      have hlo : 2 * ows.length ≤ wtL (ows.map .str) := by
        have := wtL_len (ows.map .str)
        rw [List.length_map] at this
        exact this
      have hwt : wt bl + wtL gs + wtL (ows.map .str) + 60 ≤ wt (.tuple [.str "fun", .str nm, .tuple (lds.map .str), .tuple (sfs.map .str), .tuple (ows.map .str), bl, .tuple gs]) := by
        simp only [wt, wtL]
        have : ("fun" : Str).length = 3 := rfl
        omega
      have hdp : PyData.depth bl ≤ 15 ∧ PyData.depthAll gs ≤ 15 := by
        simp only [PyData.depth, PyData.depthAll] at fd
        omega
      -- the scope
      refine ⟨_, rfl, ca, _, 3, .ref as, rfl, rfl, SqT.of (g6.1 _ _ eC), atI_nat (j := 3) rfl, _, rfl, ca, _, 4, .ref ao, rfl, rfl, SqT.of (g6.1 _ _ eC), atI_nat (j := 4) rfl, ?_⟩
      refine cat_dx (g6.1 _ _ eas) (g6.1 _ _ eao) (by rw [List.length_map, List.length_map, sizeLine_eq]; omega) fun ac H7 s7 hac => ?_
      rw [← List.map_append] at hac
      have g7 := g6.same s7
      refine ⟨ac, rfl, ⟨_, SqT.of hac⟩, fun D nD => ?_⟩
      have lxy : (sfs ++ ows).length ≤ 250000 := by
        rw [List.length_append]
        omega
      refine lc_tup (xs := (sfs ++ ows).map V.str) (fun i H' => ∃ (rs : List Addr) (ks : List (Key × V)), H' D = some (.lst (rs.map V.ref)) ∧ Same H7 H' ∧ rs.length = i ∧ ScK ks ∧ Paired (fun (t : Addr) (q : Key × V) => H' t = some (.tup [kV q.1, q.2])) rs ks)
        ⟨[], [], upd_same, same_new nD, rfl, (fun kv h => by cases h), .nil⟩ (fun i H' _ h => ?_) (fun i x H' hx h => ?_) (fun H8 h => ?_)
      · obtain ⟨rs, ks, h1, h2, h3⟩ := h
        exact SqT.of (h2 _ _ hac)
      · obtain ⟨rs, ks, h1, h2, h3, h4, h5⟩ := h
        obtain ⟨y, rfl⟩ : ∃ y, x = V.str y := by
          rw [List.getElem?_map] at hx
          obtain ⟨y, _, e⟩ := Option.map_eq_some_iff.mp hx
          exact ⟨y, e.symm⟩
        have hi : i < (sfs ++ ows).length := by
          have := (List.getElem?_eq_some_iff.mp hx).1
          rw [List.length_map] at this
          exact this
        refine ⟨rfl, ?_⟩
        refine ⟨_, rfl, by show 2 ≤ sizeLine; decide, fun t nt => ?_⟩
        have Dt : D ≠ t := ne_of_none h1 nt
        have st : Same H' (upd H' t (.tup [.str y, .str "soft"])) := same_new nt
        refine ⟨rs.map V.ref, st _ _ h1, by rw [List.length_map, sizeLine_eq]; omega, rs ++ [t], ks ++ [((Sum.inr y : Key), .str "soft")], by rw [upd_same, List.map_append]; rfl, ?_, by rw [List.length_append, h3]; rfl, ?_, ?_⟩
        · intro c o e
          rw [upd_ne (ne_of_none e nD)]
          exact st _ _ (h2 _ _ e)
        · intro kv hk
          rcases List.mem_append.mp hk with hk | hk
          · exact h4 kv hk
          · exact ⟨y, "soft", List.mem_singleton.mp hk⟩
        · refine paired_app (paired_mono (fun a b e => ?_) h5) (.cons ?_ .nil)
          · have e2 := st _ _ e
            rw [upd_ne (ne_of e2 (st _ _ h1) (by intro z; cases z))]
            exact e2
          · rw [upd_ne Dt.symm]
            exact upd_same
      obtain ⟨rs, ks, h1, h2, h3, h4, h5⟩ := h
      have lrs := paired_len h5
      rw [List.length_map] at h3
      have g8 := g7.same h2
      refine ⟨D, rs, ks, rfl, SqL.of h1, paired_mono (fun a b e => SqT.of e) h5, fun sd nsd => ?_⟩
      obtain ⟨m1, m2⟩ := mergeK_ok ks [] (fun kv h => by cases h) h4
      have g9 := g8.same (same_new nsd : Same H8 (upd H8 sd (.dK (mergeK [] ks))))
      have sc9 : ScOk 250000 (upd H8 sd (.dK (mergeK [] ks))) sd := ⟨_, upd_same, by simp only [List.length_nil] at m2; omega, m1⟩
      generalize upd H8 sd (.dK (mergeK [] ks)) = H9 at g9 sc9
      refine ⟨_, rfl, ca, _, 2, .ref al, rfl, rfl, SqT.of (g9.1 _ _ eC), atI_nat (j := 2) rfl, ?_⟩
      refine ⟨sd, al, 250000, lds, rfl, sc9, g9.1 _ _ eal, by omega, fun scr HA sA nA scA => ?_⟩
      have gA := g9.same sA
      -- the block
      refine ⟨_, rfl, ca, _, 5, vb, rfl, rfl, SqT.of (gA.1 _ _ eC), atI_nat (j := 5) rfl, _, rfl, by show 2 ≤ sizeLine; decide, fun p1 np1 => ?_⟩
      have gB := gA.same (same_new np1 : Same HA (upd HA p1 (.tup [.int (j : Nat), .int 5])))
      have scB := scA.same (same_new np1 : Same HA (upd HA p1 (.tup [.int (j : Nat), .int 5])))
      have hp1 : upd HA p1 (.tup [.int (j : Nat), .int 5]) p1 = some (.tup (([j, 5] : List Nat).map nI)) := upd_same
      generalize upd HA p1 (.tup [.int (j : Nat), .int 5]) = HB at gB scB hp1
      refine ⟨_, rfl, vb, p1, scr, bl, .tuple Ds, [j, 5], 250000 + lds.length, rfl, Dx.kp (Kp.same gB.1) _ _ hvb, hbl, by omega, by omega, by omega, hp1, by show 2 + 2 * PyData.depth bl ≤ 1000; omega, partAt_step (ns := [j]) (ms := [5]) hatF rfl, scB, by omega, fun t l sc' HC ht gC scC => ?_⟩
      refine ⟨t, _, rfl, SqT.of ht, rfl, _, _, rfl, _, _, rfl, rfl, ?_⟩
      have gD := gB.same gC.1
      obtain ⟨_, _, its, hfo, _⟩ := id gD
      refine ⟨_, rfl, .inl ⟨rfl, _, SqL.of hfo⟩, _, rfl, ?_⟩
      dsimp only [tNil]
      refine ext_ok gD gC.2.2 (by omega) fun HE gE kE kkE => ?_
      -- the gives
      refine ⟨_, rfl, ca, _, 6, .ref ag, rfl, rfl, SqT.of (gE.1 _ _ eC), atI_nat (j := 6) rfl, ag, gv, rfl, SqT.of (gE.1 _ _ eag), ?_⟩
      refine for_it (n := gv.length) walkT (fun k σ H' => ∃ (c5 c6 c7 c8 : Option V), σ = [some (.ref a), some (.ref fo), some (.int (j : Nat)), some (.ref ca), some (.ref sc'), c5, c6, c7, c8] ∧ Gw (.tuple Ds) H fo (wtL (Ds.take j) + wt bl + wtL (gs.take k)) H')
        ⟨_, _, _, _, rfl, gE.le (by omega)⟩ (fun k σ H' _ h => ?_) (fun k ix σ H' H'' hk h y => ?_) (fun σ H' h => ?_)
      · obtain ⟨_, _, _, _, _, h⟩ := h
        exact SqT.of (h.1 _ _ eag)
      · obtain ⟨c5, c6, c7, c8, rfl, gF⟩ := h
        obtain ⟨T2, yk, yv, rfl, nT2, rfl, hyk, hyv⟩ := y
        cases hyk
        have gG := gF.same (same_new nT2 : Same H' (upd H' T2 (.tup [.int (k : Nat), yv])))
        have hT2 : upd H' T2 (.tup [.int (k : Nat), yv]) T2 = some (.tup [.int (k : Nat), yv]) := upd_same
        generalize upd H' T2 (.tup [.int (k : Nat), yv]) = HG at gG hT2
        refine ⟨T2, _, rfl, SqT.of hT2, rfl, _, _, rfl, _, _, rfl, rfl, ?_⟩
        obtain ⟨G, hg1, hg2⟩ := DxAll.at rg hyv
        have hgm := List.mem_of_getElem? hg1
        have hdg := TB.depth_mem hgm
        have hwg := wt_mem hgm
        have htg : wtL (gs.take (k + 1)) = wtL (gs.take k) + (wt G + 2) := by
          rw [List.take_add_one, hg1, wtL_app]
          rfl
        have htgl := wtL_take (k + 1) gs
        obtain ⟨_, _, its2, hfo2, _⟩ := id gG
        refine ⟨_, rfl, .inl ⟨rfl, _, SqL.of hfo2⟩, _, rfl, _, rfl, _, rfl, by show 3 ≤ sizeLine; decide, fun p3 np3 => ?_⟩
        have gH := gG.same (same_new np3 : Same HG (upd HG p3 (.tup [.int (j : Nat), .int 6, .int (k : Nat)])))
        have hp3 : upd HG p3 (.tup [.int (j : Nat), .int 6, .int (k : Nat)]) p3 = some (.tup (([j, 6, k] : List Nat).map nI)) := upd_same
        generalize upd HG p3 (.tup [.int (j : Nat), .int 6, .int (k : Nat)]) = HH at gH hp3
        refine ⟨_, rfl, yv, .ref sc', p3, G, .tuple Ds, [j, 6, k], rfl, Dx.kp (Kp.same gH.1) _ _ hg2, hgs G hgm, by omega, by omega, hp3, by show 3 + 2 * PyData.depth G ≤ 1000; omega, partAt_step (ns := [j]) (ms := [6, k]) hatF ?_, fun l2 HI gI => ?_⟩
        · show (gs[k]?.bind fun d => partAt d []) = some G
          rw [hg1]
          rfl
        dsimp only [tNil]
        refine ext_ok (gH.same gI.1) gI.2.2 (by omega) fun HJ gJ kJ kkJ => ?_
        exact ⟨_, _, _, _, rfl, gJ.le (by omega)⟩
      · obtain ⟨c5, c6, c7, c8, rfl, gF⟩ := h
        have hlx := DxAll.length rg
        rw [hlx, List.take_length] at gF
        exact ⟨_, _, _, _, _, _, _, rfl, gF.le (by omega)⟩
    · obtain ⟨c2, c3, c4, c5, c6, c7, c8, rfl, g5⟩ := h
      have hlx := DxAll.length r
      rw [hlx, List.take_length] at g5
      exact ⟨_, rfl, q fo _ (g5.le (by simp only [wt]; omega))⟩
end
end TF4


set_option Elab.async false
set_option linter.all false
set_option maxRecDepth 100000
set_option maxHeartbeats 4000000
/-! Spoilt values. -/
namespace TG
open PySem PySem.Spec PyProof.Rows L2 KT KX KE0 KA KB KC KD KP KP2 KW TD TD2 TR TA2 TI TJ TB RT
abbrev N__law_spoilt : List Str := ["_law_deck_here", "_law_thing", "_law_way", "_law_at_here"]
abbrev P__law_spoilt : List Str := ["_law_deck_here", "_law_thing"]
theorem sc__law_spoilt : FnScope N__law_spoilt P__law_spoilt (defScope s__law_spoilt) := ⟨rfl, rfl, rfl, by decide +kernel, rfl, by decide +kernel, by decide +kernel⟩
section
variable {P : Program} {w : World} {K : PySem.W.Frag} {mg : Str → Option Value} {base : Heap}
def spSpo (n : Nat) : Sp := fun vs H Q _ => ∃ (d L : Addr) (v : V) (D : PyData) (b : Nat), vs = [.ref d, v] ∧ DK d L H ∧ Dx (DL d L) H v D ∧ D.depth ≤ n ∧ Gd b D ∧ 10 ^ 30 ≤ b ∧ b ≤ 10 ^ 40 ∧ wt D ≤ 7000000 ∧ ∀ v' D' H', Dx (DL d L) H' v' D' → Nw b D D' → KA.Fr d L H H' → Q v' H'
def spPrevSp : Nat → Sp
  | 0 => spNo
  | n + 1 => spSpo n
theorem gdS {b : Nat} {z : Str} (h : z.length ≤ 8 ∧ ∀ c ∈ z.cps.toList, c < 128) : Gd b (.str z) := by
  unfold Gd
  exact AscN.asc (n := 8) h (by decide)
theorem ok_spo1 {fd : FuncData} {fl : Str → FuncData} {n : Nat} (T : TbX mg) (D : Df K mg "_law_spoilt" s__law_spoilt P__law_spoilt fd)
    (D__law_draw : Df K mg "_law_draw" s__law_draw P__law_draw (fl "_law_draw")) (D__law_pick : Df K mg "_law_pick" s__law_pick P__law_pick (fl "_law_pick"))
    (D__law_is_integer : Df K mg "_law_is_integer" s__law_is_integer P__law_is_integer (fl "_law_is_integer"))
    (D__law_any : Df K mg "_law_any" s__law_any P__law_any (fl "_law_any")) (D__law_instead : Df K mg "_law_instead" s__law_instead P__law_instead (fl "_law_instead"))
    (D__law_bent : Df K mg "_law_bent" s__law_bent P__law_bent (fl "_law_bent")) (D__law_odd_string : Df K mg "_law_odd_string" s__law_odd_string P__law_odd_string (fl "_law_odd_string"))
    (G__law_spoilt : FnOk P w K mg base CX0 (n + 7) (He.fAd K ("_law_spoilt", none)) fd P__law_spoilt (spPrevSp n)) :
    FnOk P w K mg base CX0 (n + 8) (He.fAd K ("_law_spoilt", none)) fd P__law_spoilt (spSpo n) := by
  have G__law_bent : FnOk P w K mg base CX0 7 (He.fAd K ("_law_bent", none)) (fl "_law_bent") P__law_bent (spBent 1) := ok_bent T D__law_bent D__law_draw D__law_pick D__law_is_integer D__law_any D__law_instead
  have G__law_odd_string : FnOk P w K mg base CX0 3 (He.fAd K ("_law_odd_string", none)) (fl "_law_odd_string") P__law_odd_string (spTxt 4) := ok_odd T.toTb D__law_odd_string D__law_draw D__law_pick
  have G__law_draw : FnOk P w K mg base CX0 1 (He.fAd K ("_law_draw", none)) (fl "_law_draw") P__law_draw spDraw := ok_draw D__law_draw T.toTb
  have G__law_pick : FnOk P w K mg base CX0 2 (He.fAd K ("_law_pick", none)) (fl "_law_pick") P__law_pick (spPick K) := ok_pick D__law_pick T.toTb D__law_draw
  have G__law_instead : FnOk P w K mg base CX0 1 (He.fAd K ("_law_instead", none)) (fl "_law_instead") P__law_instead TJ.spIns := TJ.ok_ins D__law_instead
  have D__law_spoilt := D
  refine (fun_of D.F).ok (k := n + 7) sc__law_spoilt (fun vs H Q E h => ?_) (fun cdv A outer s H vs Q E hr h => ?_)
  · obtain ⟨d, L, v, D, b, rfl, _⟩ := h
    rfl
  · obtain ⟨d, L, v, D, b, rfl, hD, hv, dn, gd, hb, hb2, hW, q⟩ := h
    refine ⟨_, (pss_cons (ps_if (PW.pt (pw_and (pt_val (pe_callB call_isi (by rfl) T.isinstance (by decide +kernel) (pa_cons (pv 1) (pa_cons (pe_bltn (v := .ty "str") (by rfl) T.str (by decide +kernel) rfl) pa_nil)))) (pw_and1 (pt_cmpR op_gt (pe_call G__law_draw (hr.mono (by first | decide | omega)) (by rfl) D__law_draw.g D__law_draw.F.kp D__law_draw.b .nil pass0 (pa_cons (pv 0) (pa_cons pe_int pa_nil))) pe_int (nomark _))))) (pss_one (ps_ret (pe_call G__law_odd_string (hr.mono (by first | decide | omega)) (by rfl) D__law_odd_string.g D__law_odd_string.F.kp D__law_odd_string.b .nil pass0 (pa_cons (pv 0) pa_nil)))) pss_nil)
      (pss_cons (ps_if (PW.pt (pw_or (pt_not (pt_val (pe_callB call_isi (by rfl) T.isinstance (by decide +kernel) (pa_cons (pv 1) (pa_cons (pe_bltn (v := .ty "tuple") (by rfl) T.tuple (by decide +kernel) rfl) pa_nil))))) (pw_or (pt_cmpR (op_eqE hr) (pv 1) (pe_tup pa_nil) (nomark _)) (pw_or1 (pt_cmpR op_eq (pe_call G__law_draw (hr.mono (by first | decide | omega)) (by rfl) D__law_draw.g D__law_draw.F.kp D__law_draw.b .nil pass0 (pa_cons (pv 0) (pa_cons pe_int pa_nil))) pe_int (nomark _)))))) (pss_cons (ps_set (i := 2) sc__law_spoilt.nd rfl (.inl rfl) (pe_call G__law_draw (hr.mono (by first | decide | omega)) (by rfl) D__law_draw.g D__law_draw.F.kp D__law_draw.b .nil pass0 (pa_cons (pv 0) (pa_cons pe_int pa_nil))))
          (pss_cons (ps_if (pt_cmpR op_eq (pv 2) pe_int (nomark _)) (pss_one (ps_ret (pe_call G__law_pick (hr.mono (by first | decide | omega)) (by rfl) D__law_pick.g D__law_pick.F.kp D__law_pick.b .nil pass0 (pa_cons (pv 0) (pa_cons (pe_lst (pa_cons (pe_tup pa_nil) (pa_cons pe_non (pa_cons pe_int (pa_cons (pe_lst pa_nil) (pa_cons pe_str (pa_cons (pe_tup (pa_cons pe_str (pa_cons pe_str pa_nil))) (pa_cons (pe_tup (pa_cons pe_str (pa_cons pe_str pa_nil))) (pa_cons (pe_tup (pa_cons (pe_tup (pa_cons pe_str (pa_cons pe_str (pa_cons (pe_tup (pa_cons pe_str (pa_cons pe_str pa_nil))) pa_nil)))) pa_nil)) (pa_cons (pe_tup (pa_cons pe_str pa_nil)) pa_nil)))))))))) pa_nil))))) pss_nil)
          (pss_one (ps_ret (pe_call G__law_bent (hr.mono (by first | decide | omega)) (by rfl) D__law_bent.g D__law_bent.F.kp D__law_bent.b .nil pass0 (pa_cons (pv 0) (pa_cons (pv 1) (pa_cons pe_int pa_nil)))))))) pss_nil)
      (pss_cons (ps_set (i := 3) sc__law_spoilt.nd rfl (.inl rfl) (pe_call G__law_draw (hr.mono (by first | decide | omega)) (by rfl) D__law_draw.g D__law_draw.F.kp D__law_draw.b .nil pass0 (pa_cons (pv 0) (pa_cons (pe_callB call_len (by rfl) T.len (by decide +kernel) (pa_cons (pv 1) pa_nil)) pa_nil))))
      (pss_one (ps_ret (pe_call G__law_instead (hr.mono (by first | decide | omega)) (by rfl) D__law_instead.g D__law_instead.F.kp D__law_instead.b .nil pass0 (pa_cons (pv 1) (pa_cons (pv 3) (pa_cons (pe_call G__law_spoilt (hr.mono (by first | decide | omega)) (by rfl) D__law_spoilt.g D__law_spoilt.F.kp D__law_spoilt.b .nil pass0 (pa_cons (pv 0) (pa_cons (pe_ix ix_tup (pv 1) (pv 3) (fun _ _ => rfl)) pa_nil))) pa_nil))))))))), ?_⟩
    refine seq2 (fun H1 => KA.Fr d L H H1) (fun H1 => KA.Fr d L H H1) (fun Qc h hn => ?_) (fun H1 f1 => ?_) (fun H1 f1 => ?_)
    · obtain ⟨t0, ht1, ht2⟩ := Dx.isa (K := K) hv
      refine ⟨v, rfl, v, .ty "str", .type t0, .type "str", _, rfl, .ty "str", ht1, kit_ty ht2, _, rfl, ite2 (fun _ => ?_) (fun _ => hn _ (Fr.refl hD))⟩
      refine ⟨_, rfl, d, L, _, rfl, hD, by decide, by decide, fun r H3 r0 r1 f3 => ⟨_, _, rfl, rfl, _, rfl, ?_⟩⟩
      have hq : ∀ c, Qc c H3 := fun c => by
        cases c with
        | true => exact h _ f3
        | false => exact hn _ f3
      exact hq _
    · exact ⟨_, rfl, d, L, rfl, f1.dk, fun z H2 az f2 => q _ (.str z) H2 (.str z) (nw_small (by unfold Gd; exact az.asc (by decide)) (Nat.zero_le _) (by have := az.1; simp only [wt]; omega)) (f1.trans f2)⟩
    have hv1 := Dx.kp (kpF hD f1) _ _ hv
    refine seq2 (fun H2 => KA.Fr d L H H2) (fun H2 => KA.Fr d L H H2 ∧ ∃ (y : PyData) (ys : List PyData), D = .tuple (y :: ys)) (fun Qc h hn => ?_) (fun H2 f2 => ?_) (fun H2 f2 => ?_)
    · obtain ⟨t0, ht1, ht2⟩ := Dx.isaT (K := K) hv1
      refine ⟨v, rfl, v, .ty "tuple", .type t0, .type "tuple", _, rfl, .ty "tuple", ht1, kit_ty ht2, _, rfl, ?_⟩
      cases D with
      | tuple ys =>
        obtain ⟨a, xs, rfl, e, r⟩ := Dx.tupOf hv1
        refine ⟨_, rfl, Nat.zero_le _, fun p np => ?_⟩
        have fp : KA.Fr d L H (upd H1 p (.tup [])) := f1.mut (f1.fresh np).1 (f1.fresh np).2.1 (f1.fresh np).2.2
        have e1 := (same_new np : Same H1 (upd H1 p (.tup []))) _ _ e
        refine ⟨a, p, xs, rfl, rfl, .inr ⟨SqT.of e1, SqT.of upd_same⟩, _, rfl, ?_⟩
        cases xs with
        | nil => exact h _ fp
        | cons x r2 =>
          cases r with
          | cons r1 r3 =>
            refine ⟨_, rfl, d, L, _, rfl, fp.dk, by decide, by decide, fun r H3 r0 r1 f3 => ⟨rfl, _, rfl, ?_⟩⟩
            have hq : ∀ c, Qc c H3 := fun c => by
              cases c with
              | true => exact h _ (fp.trans f3)
              | false => exact hn _ ⟨fp.trans f3, _, _, rfl⟩
            exact hq _
      | _ => exact h _ f1
    · refine ⟨_, rfl, d, L, _, rfl, f2.dk, by decide, by decide, fun way H3 w0 w1 f3' => ?_⟩
      have f3 := f2.trans f3'
      refine ⟨_, rfl, rfl, _, rfl, ite2 (fun _ => ?_) (fun _ => ?_)⟩
      · -- one of some
        refine ⟨_, rfl, Nat.zero_le _, fun p1 n1 => ?_⟩
        have s1 := (same_new n1 : Same H3 (upd H3 p1 (.tup [])))
        have h1 : upd H3 p1 (.tup []) p1 = some (.tup []) := upd_same
        generalize upd H3 p1 (.tup []) = J1 at s1 h1
        refine ⟨Nat.zero_le _, fun p2 n2 => ?_⟩
        have s2 := (same_new n2 : Same J1 (upd J1 p2 (.lst [])))
        have h2 : upd J1 p2 (.lst []) p2 = some (.lst []) := upd_same
        generalize upd J1 p2 (.lst []) = J2 at s2 h2
        refine ⟨by show 2 ≤ sizeLine; decide, fun p3 n3 => ?_⟩
        have s3 := (same_new n3 : Same J2 (upd J2 p3 (.tup [.str "name", .str "y"])))
        have h3 : upd J2 p3 (.tup [.str "name", .str "y"]) p3 = some (.tup [.str "name", .str "y"]) := upd_same
        generalize upd J2 p3 (.tup [.str "name", .str "y"]) = J3 at s3 h3
        refine ⟨by show 2 ≤ sizeLine; decide, fun p4 n4 => ?_⟩
        have s4 := (same_new n4 : Same J3 (upd J3 p4 (.tup [.str "word", .str ""])))
        have h4 : upd J3 p4 (.tup [.str "word", .str ""]) p4 = some (.tup [.str "word", .str ""]) := upd_same
        generalize upd J3 p4 (.tup [.str "word", .str ""]) = J4 at s4 h4
        refine ⟨by show 2 ≤ sizeLine; decide, fun p5 n5 => ?_⟩
        have s5 := (same_new n5 : Same J4 (upd J4 p5 (.tup [.str "word", .str ""])))
        have h5 : upd J4 p5 (.tup [.str "word", .str ""]) p5 = some (.tup [.str "word", .str ""]) := upd_same
        generalize upd J4 p5 (.tup [.str "word", .str ""]) = J5 at s5 h5
        refine ⟨by show 3 ≤ sizeLine; decide, fun p6 n6 => ?_⟩
        have s6 := (same_new n6 : Same J5 (upd J5 p6 (.tup [.str "let", .str "x", .ref p5])))
        have h6 : upd J5 p6 (.tup [.str "let", .str "x", .ref p5]) p6 = some (.tup [.str "let", .str "x", .ref p5]) := upd_same
        generalize upd J5 p6 (.tup [.str "let", .str "x", .ref p5]) = J6 at s6 h6
        refine ⟨by show 1 ≤ sizeLine; decide, fun p7 n7 => ?_⟩
        have s7 := (same_new n7 : Same J6 (upd J6 p7 (.tup [.ref p6])))
        have h7 : upd J6 p7 (.tup [.ref p6]) p7 = some (.tup [.ref p6]) := upd_same
        generalize upd J6 p7 (.tup [.ref p6]) = J7 at s7 h7
        refine ⟨by show 1 ≤ sizeLine; decide, fun p8 n8 => ?_⟩
        have s8 := (same_new n8 : Same J7 (upd J7 p8 (.tup [.str "x"])))
        have h8 : upd J7 p8 (.tup [.str "x"]) p8 = some (.tup [.str "x"]) := upd_same
        generalize upd J7 p8 (.tup [.str "x"]) = J8 at s8 h8
        have t7 := s8
        have t6 := s7.trans t7
        have t5 := s6.trans t6
        have t4 := s5.trans t5
        have t3 := s4.trans t4
        have t2 := s3.trans t3
        have t1 := s2.trans t2
        have f8 := f3.trans (fr_same f3.dk (s1.trans t1))
        obtain ⟨_, nd2, nL2⟩ := (f3.trans (fr_same f3.dk s1)).fresh n2
        refine ⟨by show 9 ≤ sizeLine; decide, fun p9 n9 => pickL (Fr.refl f8.dk) n9 (by show 0 < 9; decide) (by show 9 ≤ 1000; decide) fun x hx H9 f9 => ?_⟩
        have tp9 := (kpF f8.dk f9).tp
        have f := f8.trans f9
        simp only [List.mem_cons, List.not_mem_nil, or_false] at hx
        rcases hx with rfl | rfl | rfl | rfl | rfl | rfl | rfl | rfl | rfl
        · exact q _ (.tuple []) H9 (.tup (tp9 _ _ (t1 _ _ h1)) .nil) (nw_small (by unfold Gd GdL; trivial) (by decide) (by simp only [wt, wtL]; omega)) f
        · exact q _ .none H9 .non (nw_small (by unfold Gd; trivial) (by decide) (by simp only [wt]; omega)) f
        · exact q (.int 0) (.int 0) H9 (.int 0) (nw_small (by unfold Gd; show 0 < b + 5; omega) (by decide) (by simp only [wt]; omega)) f
        · exact q _ (.list []) H9 (.lst (fun z => z.elim nd2 nL2) (f9.st p2 _ nd2 nL2 (t2 _ _ h2)) .nil) (nw_small (by unfold Gd GdL; trivial) (by decide) (by simp only [wt, wtL]; omega)) f
        · exact q _ (.str "x") H9 (.str "x") (nw_small (gdS (by decide +kernel)) (by decide) (by decide +kernel)) f
        · exact q _ (.tuple [.str "name", .str "y"]) H9 (.tup (tp9 _ _ (t3 _ _ h3)) (.cons (.str _) (.cons (.str _) .nil))) (nw_small (by unfold Gd GdL GdL GdL; exact ⟨gdS (by decide +kernel), gdS (by decide +kernel), trivial⟩) (by decide) (by decide +kernel)) f
        · exact q _ (.tuple [.str "word", .str ""]) H9 (.tup (tp9 _ _ (t4 _ _ h4)) (.cons (.str _) (.cons (.str _) .nil))) (nw_small (by unfold Gd GdL GdL GdL; exact ⟨gdS (by decide +kernel), gdS (by decide +kernel), trivial⟩) (by decide) (by decide +kernel)) f
        · refine q _ (.tuple [.tuple [.str "let", .str "x", .tuple [.str "word", .str ""]]]) H9 (.tup (tp9 _ _ (t7 _ _ h7)) (.cons (.tup (tp9 _ _ (t6 _ _ h6)) (.cons (.str _) (.cons (.str _) (.cons (.tup (tp9 _ _ (t5 _ _ h5)) (.cons (.str _) (.cons (.str _) .nil))) .nil)))) .nil)) (nw_small ?_ (by decide) (by decide +kernel)) f
          have w2 : Gd (b + 5) (.tuple [.str "word", .str ""]) := by unfold Gd GdL GdL GdL; exact ⟨gdS (by decide +kernel), gdS (by decide +kernel), trivial⟩
          have w3 : Gd (b + 5) (.tuple [.str "let", .str "x", .tuple [.str "word", .str ""]]) := by unfold Gd GdL GdL GdL GdL; exact ⟨gdS (by decide +kernel), gdS (by decide +kernel), w2, trivial⟩
          unfold Gd GdL GdL
          exact ⟨w3, trivial⟩
        · exact q _ (.tuple [.str "x"]) H9 (.tup (tp9 _ _ h8) (.cons (.str _) .nil)) (nw_small (by unfold Gd GdL GdL; exact ⟨gdS (by decide +kernel), trivial⟩) (by decide) (by decide +kernel)) f
      refine tnx ?_
      dsimp only
      refine ⟨_, rfl, _, rfl, ?_⟩
      exact ⟨d, L, v, D, b, rfl, f3.dk, Dx.kp (kpF hD f3) _ _ hv, gd, hb, hb2, hW, fun v' D' H4 dv nw f4 => q v' D' H4 dv nw (f3.trans f4)⟩
    · obtain ⟨f2, y, ys, rfl⟩ := f2
      obtain ⟨m, rfl⟩ : ∃ m, n = m + 1 := by
        cases n with
        | zero =>
          exfalso
          simp only [PyData.depth] at dn
          omega
        | succ m => exact ⟨m, rfl⟩
      have hv2 := Dx.kp (kpF hD f2) _ _ hv
      obtain ⟨a, xs, rfl, e, r⟩ := Dx.tupOf hv2
      have hxl : xs.length = (y :: ys).length := DxAll.length r
      have hlen := wtL_len (y :: ys)
      have hwt : wtL (y :: ys) + 3 ≤ 7000000 := by
        have := hW
        simp only [wt] at this ⊢
        exact this
      have x0 : 0 < xs.length := by rw [hxl, List.length_cons]; omega
      refine ⟨_, rfl, _, rfl, _, xs.length, rfl, .inr ⟨xs, SqT.of e, rfl⟩, d, L, _, rfl, f2.dk, by omega, by omega, fun at_ H3 r0 r1 f3' => ?_⟩
      obtain ⟨i, rfl⟩ := Int.eq_ofNat_of_zero_le r0
      have hi : i < xs.length := by omega
      have f3 := f2.trans f3'
      have r2 := Dx.kpAll (kpF f2.dk f3') _ _ r
      have e2 := (kpF f2.dk f3').tp _ _ e
      obtain ⟨E, h3, h4⟩ := DxAll.at r2 (List.getElem?_eq_getElem hi)
      have hE := List.mem_of_getElem? h3
      refine ⟨_, rfl, _, rfl, _, rfl, _, rfl, _, rfl, a, xs, (i : Int), xs[i], rfl, rfl, SqT.of e2, atI_nat (List.getElem?_eq_getElem hi), ?_⟩
      refine ⟨d, L, xs[i], E, b, rfl, f3.dk, h4, ?_, gd_mem (gd_tup gd) E hE, hb, hb2, ?_, fun v' D' H4 dv nw f4 => ?_⟩
      · have := TB.depth_mem hE
        have : PyData.depthAll (y :: ys) + 1 ≤ m + 1 := dn
        omega
      · have := wt_mem hE
        omega
      have r3 := Dx.kpAll (kpF f3.dk f4) _ _ r2
      have e3 := (kpF f3.dk f4).tp _ _ e2
      refine ⟨DL d L, a, xs, y :: ys, i, v', D', rfl, e3, r3, dv, hi, by omega, fun rr H5 s5 hr5 => ?_⟩
      exact q _ _ H5 hr5 (nw_set gd h3 nw) ((f3.trans f4).trans (fr_same f4.dk s5))
theorem ok_spo {fd : FuncData} {fl : Str → FuncData} (T : TbX mg) (D : Df K mg "_law_spoilt" s__law_spoilt P__law_spoilt fd)
    (D__law_draw : Df K mg "_law_draw" s__law_draw P__law_draw (fl "_law_draw")) (D__law_pick : Df K mg "_law_pick" s__law_pick P__law_pick (fl "_law_pick"))
    (D__law_is_integer : Df K mg "_law_is_integer" s__law_is_integer P__law_is_integer (fl "_law_is_integer"))
    (D__law_any : Df K mg "_law_any" s__law_any P__law_any (fl "_law_any")) (D__law_instead : Df K mg "_law_instead" s__law_instead P__law_instead (fl "_law_instead"))
    (D__law_bent : Df K mg "_law_bent" s__law_bent P__law_bent (fl "_law_bent")) (D__law_odd_string : Df K mg "_law_odd_string" s__law_odd_string P__law_odd_string (fl "_law_odd_string")) :
    ∀ n : Nat, FnOk P w K mg base CX0 (n + 8) (He.fAd K ("_law_spoilt", none)) fd P__law_spoilt (spSpo n)
  | 0 => ok_spo1 T D D__law_draw D__law_pick D__law_is_integer D__law_any D__law_instead D__law_bent D__law_odd_string ok_no
  | n + 1 => ok_spo1 T D D__law_draw D__law_pick D__law_is_integer D__law_any D__law_instead D__law_bent D__law_odd_string (ok_spo T D D__law_draw D__law_pick D__law_is_integer D__law_any D__law_instead D__law_bent D__law_odd_string n)
end
end TG


set_option Elab.async false
set_option linter.all false
set_option maxRecDepth 100000
set_option maxHeartbeats 4000000
/-! Some part of a program. -/
namespace TH
open PySem PySem.Spec PyProof.Rows L2 KT KX KE0 KA KB KC KD KP KP2 KW KW2 TD TD2 TD3 TR TA2 TI TJ TE TB TF TF2 TF3 TF4 EN RT
/-- what stands still while the law goes on: all but the deck and the tables -/
structure Lq (d L : Addr) (Tl : List Addr) (H H' : Hp) : Prop where
  k : Kp (DL d L) H H'
  t : Ts Tl H → Ts Tl H'
  dk : DK d L H'
theorem Lq.trans {d L : Addr} {Tl : List Addr} {H H1 H2 : Hp} (a : Lq d L Tl H H1) (b : Lq d L Tl H1 H2) : Lq d L Tl H H2 := ⟨a.k.trans b.k, fun h => b.t (a.t h), b.dk⟩
theorem Lq.fr {d L : Addr} {Tl : List Addr} {H H' : Hp} (h : DK d L H) (f : KA.Fr d L H H') : Lq d L Tl H H' := ⟨kpF h f, fun t P hP => by
  obtain ⟨ps, e, ok⟩ := t P hP
  obtain ⟨ns, m, k, h1, h2, _⟩ := h
  exact ⟨ps, f.st P _ (ne_of e h1 (by intro z; cases z)) (ne_of e h2 (by intro z; cases z)) e, ok⟩, f.dk⟩
theorem dk_kp {d L : Addr} {H H' : Hp} (h : DK d L H) (k : Kp (fun _ => False) H H') : DK d L H' := by
  obtain ⟨ns, m, j, h1, h2, h3⟩ := h
  exact ⟨ns, m, j, k.st _ _ id (fun _ z => by cases z) h1, k.st _ _ id (fun _ z => by cases z) h2, h3⟩
theorem Lq.lk {d L : Addr} {Tl : List Addr} {H H' : Hp} (h : DK d L H) (f : Lk (fun _ => False) Tl H H') : Lq d L Tl H H' := ⟨f.k.less fun _ z => z.elim, f.t, dk_kp h f.k⟩
theorem Lq.same {d L : Addr} {Tl : List Addr} {H H' : Hp} (h : DK d L H) (s : Same H H') : Lq d L Tl H H' := Lq.fr h (fr_same h s)
theorem part_small : ∀ (ns : List Nat) (D E : PyData), partAt D ns = some E → Pt D → Pt E ∧ E.depth ≤ D.depth ∧ wt E ≤ wt D
  | [], D, E, h, p => by
    cases h
    exact ⟨p, Nat.le_refl _, Nat.le_refl _⟩
  | i :: r, .tuple ys, E, h, p => by
    have h' : (ys[i]?.bind fun d => partAt d r) = some E := h
    cases hy : ys[i]? with
    | none =>
      rw [hy] at h'
      cases h'
    | some y =>
      rw [hy] at h'
      have m := List.mem_of_getElem? hy
      have py : Pt y := by
        unfold Pt at p
        have h2 := p.2
        clear p h h' hy
        induction ys with
        | nil => cases m
        | cons a t ih =>
          unfold PtL at h2
          rcases List.mem_cons.mp m with rfl | m
          · exact h2.1
          · exact ih m h2.2
      obtain ⟨e1, e2, e3⟩ := part_small r y E h' py
      have := TB.depth_mem m
      have := wt_mem m
      refine ⟨e1, ?_, ?_⟩
      · show E.depth ≤ PyData.depthAll ys + 1
        omega
      · simp only [wt]
        omega
  | _ :: _, .none, _, h, _ => by cases h
  | _ :: _, .bool _, _, h, _ => by cases h
  | _ :: _, .int _, _, h, _ => by cases h
  | _ :: _, .str _, _, h, _ => by cases h
  | _ :: _, .list _, _, h, _ => by cases h
  | _ :: _, .dict _, _, h, _ => by cases h
abbrev N__law_some_part : List Str := ["_law_deck_here", "_law_tree", "_law_spots_here", "_law_path", "_law_scope", "_law_thing", "_law_more"]
abbrev P__law_some_part : List Str := ["_law_deck_here", "_law_tree"]
theorem sc__law_some_part : FnScope N__law_some_part P__law_some_part (defScope s__law_some_part) := ⟨rfl, rfl, rfl, by decide +kernel, rfl, by decide +kernel, by decide +kernel⟩
section
variable {P : Program} {w : World} {K : PySem.W.Frag} {mg : Str → Option Value} {base : Heap} {Tl : List Addr}
def spPart (Tl : List Addr) : Sp := fun vs H Q _ => ∃ (d L : Addr) (tv : V) (D : PyData), vs = [.ref d, tv] ∧ DK d L H ∧ DT H tv D ∧ PgD D ∧ Ts Tl H ∧
  ∀ v E H', Dx (DL d L) H' v E → Gd (10 ^ 30) E → E.depth ≤ 29 → wt E ≤ 1300000 → Lq d L Tl H H' → Q v H'
theorem ok_part {fd : FuncData} {fl : Str → FuncData} (l : Lw K mg) (T : TbF mg) (D : Df K mg "_law_some_part" s__law_some_part P__law_some_part fd)
    (D__law_draw : Df K mg "_law_draw" s__law_draw P__law_draw (fl "_law_draw")) (D__law_pick : Df K mg "_law_pick" s__law_pick P__law_pick (fl "_law_pick"))
    (D__law_term_spots : Df K mg "_law_term_spots" s__law_term_spots P__law_term_spots (fl "_law_term_spots")) (D__law_with : Df K mg "_law_with" s__law_with P__law_with (fl "_law_with"))
    (D__law_block_spots : Df K mg "_law_block_spots" s__law_block_spots P__law_block_spots (fl "_law_block_spots")) (D__law_spots : Df K mg "_law_spots" s__law_spots P__law_spots (fl "_law_spots")) (D__law_at : Df K mg "_law_at" s__law_at P__law_at (fl "_law_at")) :
    FnOk P w K mg base CX0 42 (He.fAd K ("_law_some_part", none)) fd P__law_some_part (spPart Tl) := by
  have D__law_is_term := l.d_term
  have G__law_is_term : FnOk P w K mg base CX0 41 (He.fAd K ("_law_is_term", none)) (l.fl "_law_is_term") P__law_is_term (spC Tl (fun d => d.depth ≤ 17) (termB 17)) := l.term T.toTb 17
  have G__law_spots : FnOk P w K mg base CX0 38 (He.fAd K ("_law_spots", none)) (fl "_law_spots") P__law_spots spSpots := ok_spots T D__law_spots D__law_term_spots D__law_with D__law_block_spots
  have G__law_at : FnOk P w K mg base CX0 1 (He.fAd K ("_law_at", none)) (fl "_law_at") P__law_at spAt := ok_at D__law_at
  have G__law_draw : FnOk P w K mg base CX0 1 (He.fAd K ("_law_draw", none)) (fl "_law_draw") P__law_draw spDraw := ok_draw D__law_draw T.toTb
  have G__law_pick : FnOk P w K mg base CX0 2 (He.fAd K ("_law_pick", none)) (fl "_law_pick") P__law_pick (spPick K) := ok_pick D__law_pick T.toTb D__law_draw
  refine (fun_of D.F).ok (k := 41) sc__law_some_part (fun vs H Q E h => ?_) (fun cdv A outer s H vs Q E hr h => ?_)
  · obtain ⟨d, L, tv, D, rfl, _⟩ := h
    rfl
  · obtain ⟨d, L, tv, D, rfl, hD, hv, pg, ht, q⟩ := h
    refine ⟨_, (pss_cons (ps_set (i := 2) sc__law_some_part.nd rfl (.inl rfl) (pe_op op_cat (pe_lc (own := [("_law_path", 3), ("_law_scope", 4)]) (g := gTup K 2 (gCons (gName 3) (gCons (gName 4) gNil))) (tt := tYes) (by rfl) sc__law_some_part.nd (pi_list (pe_call G__law_spots (hr.mono (by first | decide | omega)) (by rfl) D__law_spots.g D__law_spots.F.kp D__law_spots.b .nil pass0 (pa_cons (pv 1) pa_nil))) (blkOk_by (own := [("_law_path", 3), ("_law_scope", 4)]) (N := N__law_some_part) (sc := defScope s__law_some_part) (by decide +kernel)) (fun _ _ _ _ _ => (pg_tup (by rfl) (pgs_cons (pg_name (i := 3) sc__law_some_part.nd (by rfl) (by exact (.inl rfl)) (hf := by first | exact .inl rfl | exact .inr rfl)) (pgs_cons (pg_name (i := 4) sc__law_some_part.nd (by rfl) (by exact (.inl rfl)) (hf := by first | exact .inl rfl | exact .inr rfl)) pgs_nil (hs := by rfl)) (hs := by rfl)) (hn := by rfl) (hst := by rfl))) (fun _ _ _ _ _ => pts_nil) (fun _ _ _ _ _ => (pv 3))) (pe_lst (pa_cons (pe_tup (pa_cons pe_int pa_nil)) (pa_cons (pe_tup (pa_cons pe_int (pa_cons pe_int pa_nil))) (pa_cons (pe_tup (pa_cons (pe_op op_sub (pe_callB call_len (by rfl) T.len (by decide +kernel) (pa_cons (pv 1) pa_nil)) pe_int) pa_nil)) pa_nil))))))
      (pss_cons (ps_if (pt_cmpR op_eq (pe_call G__law_draw (hr.mono (by first | decide | omega)) (by rfl) D__law_draw.g D__law_draw.F.kp D__law_draw.b .nil pass0 (pa_cons (pv 0) (pa_cons pe_int pa_nil))) pe_int (nomark _)) (pss_one (ps_ret (pv 1))) pss_nil)
      (pss_cons (ps_set (i := 5) sc__law_some_part.nd rfl (.inl rfl) (pe_call G__law_at (hr.mono (by first | decide | omega)) (by rfl) D__law_at.g D__law_at.F.kp D__law_at.b .nil pass0 (pa_cons (pv 1) (pa_cons (pe_call G__law_pick (hr.mono (by first | decide | omega)) (by rfl) D__law_pick.g D__law_pick.F.kp D__law_pick.b .nil pass0 (pa_cons (pv 0) (pa_cons (pv 2) pa_nil))) pa_nil))))
      (pss_cons (ps_for PassesOwn.never rfl (pi_range1 rfl T.range (pa_cons (pe_ifExp (pt_val (pe_call G__law_is_term (hr.mono (by first | decide | omega)) (by rfl) D__law_is_term.g D__law_is_term.F.kp D__law_is_term.b .nil pass0 (pa_cons (pv 5) pa_nil))) (pe_call G__law_pick (hr.mono (by first | decide | omega)) (by rfl) D__law_pick.g D__law_pick.F.kp D__law_pick.b .nil pass0 (pa_cons (pv 0) (pa_cons (pe_lst (pa_cons pe_int (pa_cons pe_int (pa_cons pe_int pa_nil)))) pa_nil))) pe_int) pa_nil)) (pg_name (i := 6) sc__law_some_part.nd rfl (.inl rfl)) (pss_one (ps_set (i := 5) sc__law_some_part.nd rfl (.inl rfl) (pe_tup (pa_cons pe_str (pa_cons (pe_tup (pa_cons pe_str (pa_cons (pv 5) pa_nil))) (pa_cons pe_str pa_nil)))))))
      (pss_one (ps_ret (pv 5))))))), ?_⟩
    refine ⟨_, rfl, tv, D, rfl, hv, pg, fun sl H1 g1 => ?_⟩
    obtain ⟨s1, ns1, its, esl, lits, hits⟩ := g1
    refine ⟨sl, rfl, ⟨_, SqL.of esl⟩, fun Dl nDl => ?_⟩
    have hwD : wt D ≤ 1200100 := by
      obtain ⟨_, _, _, _, _, _, _, hw⟩ := pg
      exact hw
    have hPt : Pt D := by
      obtain ⟨_, _, _, _, _, hp, _, _⟩ := pg
      exact hp
    have hdD : D.depth ≤ 17 := by
      obtain ⟨_, _, _, _, _, _, hd, _⟩ := pg
      exact hd
    refine lc_list (xs := its) (fun i H' => ∃ ps : List Addr, H' Dl = some (.lst (ps.map V.ref)) ∧ Same H1 H' ∧ ps.length = i ∧ ∀ p ∈ ps, ∃ (ns : List Nat) (E : PyData), H' p = some (.tup (ns.map nI)) ∧ partAt D ns = some E)
      ⟨[], upd_same, same_new nDl, rfl, (fun p hp => by cases hp)⟩ (fun i H' _ h => ?_) (fun i x H' hx h => ?_) (fun H2 h => ?_)
    · obtain ⟨ps, h1, h2, h3, h4⟩ := h
      exact SqL.of (h2 _ _ esl)
    · obtain ⟨ps, h1, h2, h3, h4⟩ := h
      have hi : i < its.length := (List.getElem?_eq_some_iff.mp hx).1
      obtain ⟨t, pt, sc, ns, E, rfl, e1, e2, e3⟩ := hits x (List.mem_of_getElem? hx)
      refine ⟨t, _, rfl, SqT.of (h2 _ _ e1), rfl, _, _, rfl, _, _, rfl, rfl, rfl, ?_⟩
      refine ⟨_, rfl, ps.map V.ref, h1, by rw [List.length_map, sizeLine_eq]; omega, ps ++ [pt], by rw [upd_same, List.map_append]; rfl, ?_, by rw [List.length_append, h3]; rfl, ?_⟩
      · intro c o e
        rw [upd_ne (ne_of_none e nDl)]
        exact h2 _ _ e
      · have k : ∀ c xs, H' c = some (.tup xs) → (upd H' Dl (.lst (ps.map V.ref ++ [V.ref pt]))) c = some (.tup xs) := fun c xs e => by
          rw [upd_ne (ne_of e h1 (by intro z; cases z))]
          exact e
        intro p hp
        rcases List.mem_append.mp hp with hp | hp
        · obtain ⟨ns', E', z1, z2⟩ := h4 p hp
          exact ⟨ns', E', k _ _ z1, z2⟩
        · rw [List.mem_singleton.mp hp]
          exact ⟨ns, E, k _ _ (h2 _ _ e2), e3⟩
    obtain ⟨ps, h1, h2, h3, h4⟩ := h
    have s02 : Same H H2 := s1.trans h2
    -- three more
    obtain ⟨Ds, rfl, ld1, ld3, hf, _, _, _⟩ := pg
    obtain ⟨a, xs, rfl, e, r⟩ := Dx.tupOf hv
    have hlx : xs.length = Ds.length := DxAll.length r
    have em : ((xs.length : Int) - 1) = ((xs.length - 1 : Nat) : Int) := by omega
    refine ⟨by show 1 ≤ sizeLine; decide, fun p1 n1 => ?_⟩
    have t1 := (same_new n1 : Same H2 (upd H2 p1 (.tup [.int 0])))
    have c1 : upd H2 p1 (.tup [.int 0]) p1 = some (.tup (([0] : List Nat).map nI)) := upd_same
    generalize upd H2 p1 (.tup [.int 0]) = J1 at t1 c1
    refine ⟨by show 2 ≤ sizeLine; decide, fun p2 n2 => ?_⟩
    have t2 := (same_new n2 : Same J1 (upd J1 p2 (.tup [.int 0, .int 5])))
    have c2 : upd J1 p2 (.tup [.int 0, .int 5]) p2 = some (.tup (([0, 5] : List Nat).map nI)) := upd_same
    generalize upd J1 p2 (.tup [.int 0, .int 5]) = J2 at t2 c2
    refine ⟨_, rfl, _, xs.length, rfl, .inr ⟨xs, SqT.of (t2 _ _ (t1 _ _ (s02 _ _ e))), rfl⟩, _, _, rfl, rfl, by show 1 ≤ sizeLine; decide, fun p3 n3 => ?_⟩
    have t3 := (same_new n3 : Same J2 (upd J2 p3 (.tup [.int ((xs.length : Int) - 1)])))
    have c3 : upd J2 p3 (.tup [.int ((xs.length : Int) - 1)]) p3 = some (.tup (([xs.length - 1] : List Nat).map nI)) := by
      rw [upd_same, em]
      rfl
    generalize upd J2 p3 (.tup [.int ((xs.length : Int) - 1)]) = J3 at t3 c3
    refine ⟨by show 3 ≤ sizeLine; decide, fun p4 n4 => ?_⟩
    have t4 := (same_new n4 : Same J3 (upd J3 p4 (.lst [.ref p1, .ref p2, .ref p3])))
    have c4 : upd J3 p4 (.lst [.ref p1, .ref p2, .ref p3]) p4 = some (.lst [.ref p1, .ref p2, .ref p3]) := upd_same
    generalize upd J3 p4 (.lst [.ref p1, .ref p2, .ref p3]) = J4 at t4 c4
    have s24 : Same H2 J4 := ((t1.trans t2).trans t3).trans t4
    refine ⟨Dl, p4, ps.map V.ref, [.ref p1, .ref p2, .ref p3], rfl, rfl, s24 _ _ h1, c4, by rw [List.length_map, sizeLine_eq]; show ps.length + 3 ≤ _; omega, fun p5 n5 => ?_⟩
    have t5 := (same_new n5 : Same J4 (upd J4 p5 (.lst (ps.map V.ref ++ [.ref p1, .ref p2, .ref p3]))))
    have c5 : upd J4 p5 (.lst (ps.map V.ref ++ [.ref p1, .ref p2, .ref p3])) p5 = some (.lst ((ps ++ [p1, p2, p3]).map V.ref)) := by
      rw [upd_same, List.map_append]
      rfl
    generalize upd J4 p5 (.lst (ps.map V.ref ++ [.ref p1, .ref p2, .ref p3])) = J5 at t5 c5
    have s25 := s24.trans t5
    have s05 := s02.trans s25
    have dk5 := dk_same hD s05
    have all5 : ∀ p ∈ ps ++ [p1, p2, p3], ∃ (ns : List Nat) (E : PyData), J5 p = some (.tup (ns.map nI)) ∧ partAt (.tuple Ds) ns = some E := by
      obtain ⟨F0, Fr0, eD⟩ : ∃ F0 Fr0, Ds = F0 :: Fr0 := by
        cases Ds with
        | nil => exact absurd ld1 (by decide)
        | cons x y => exact ⟨x, y, rfl⟩
      intro p hp
      rcases List.mem_append.mp hp with hp | hp
      · obtain ⟨ns, E, z1, z2⟩ := h4 p hp
        exact ⟨ns, E, s25 _ _ z1, z2⟩
      · simp only [List.mem_cons, List.not_mem_nil, or_false] at hp
        rcases hp with rfl | rfl | rfl
        · exact ⟨[0], F0, t5 _ _ (t4 _ _ (t3 _ _ (t2 _ _ c1))), by rw [eD]; rfl⟩
        · obtain ⟨nm, l', s', o', g', bl, ef, _⟩ := hf F0 (by rw [eD]; exact List.mem_cons_self ..)
          exact ⟨[0, 5], bl, t5 _ _ (t4 _ _ (t3 _ _ c2)), by rw [eD, ef]; rfl⟩
        · refine ⟨[xs.length - 1], Ds[Ds.length - 1]'(by omega), t5 _ _ (t4 _ _ c3), ?_⟩
          show (Ds[xs.length - 1]?.bind fun d => partAt d []) = _
          rw [hlx, List.getElem?_eq_getElem (by omega)]
          rfl
    have lps : (ps ++ [p1, p2, p3]).length ≤ 1300000 := by
      rw [List.length_append]
      show ps.length + 3 ≤ _
      omega
    generalize hps : ps ++ [p1, p2, p3] = P5 at c5 all5 lps
    have lp0 : 0 < P5.length := by
      rw [← hps, List.length_append]
      show 0 < ps.length + 3
      omega
    have q05 : Lq d L Tl H J5 := Lq.same hD s05
    clear c1 c2 c3 c4 t1 t2 t3 t4 t5 s24 h1 h4
    -- the whole
    refine ⟨_, rfl, d, L, _, rfl, dk5, by decide, by decide, fun r H6 r0 r1 f6 => ⟨rfl, _, rfl, ite2 (fun _ => ?_) (fun _ => ?_)⟩⟩
    · have q06 := q05.trans (Lq.fr dk5 f6)
      refine ⟨_, rfl, q _ (.tuple Ds) H6 (Dx.less (fun _ _ => trivial) _ _ (Dx.kp (q06.k.less fun _ _ => trivial) _ _ hv)) (pt_gd _ hPt).1 (by omega) (by omega) q06⟩
    refine tnx ?_
    have q06 := q05.trans (Lq.fr dk5 f6)
    have p5L : p5 ≠ L := by
      obtain ⟨ns, m, k, g1, g2, _⟩ := dk_same hD (s02.trans (fun _ _ z => z : Same H2 H2))
      intro z
      obtain ⟨ns', m', k', g1', g2', _⟩ := hD
      have := s05 _ _ g2'
      rw [z] at c5
      rw [c5] at this
      cases P5 with
      | nil => exact absurd lp0 (by decide)
      | cons x y =>
        cases ns' with
        | nil => cases this
        | cons u v => cases this
    have p5d : p5 ≠ d := by
      obtain ⟨ns', m', k', g1', _⟩ := dk5
      exact ne_of c5 g1' (by intro z; cases z)
    refine ⟨_, rfl, _, rfl, _, rfl, d, L, p5, P5.map V.ref, rfl, f6.dk, p5L, .inl (SqL.of (f6.st p5 _ p5d p5L c5)), by rw [List.length_map]; exact lp0, by rw [List.length_map]; omega, fun i x H7 hx f7 => ?_⟩
    obtain ⟨p, hpm, rfl⟩ : ∃ p, p ∈ P5 ∧ x = .ref p := by
      obtain ⟨p, h1, h2⟩ := List.mem_map.mp (List.mem_of_getElem? hx)
      exact ⟨p, h1, h2.symm⟩
    obtain ⟨ns, E, z1, z2⟩ := all5 p hpm
    have q07 := q06.trans (Lq.fr f6.dk f7)
    have z7 := (fr_tp f6.dk f7) _ _ ((fr_tp dk5 f6) _ _ z1)
    obtain ⟨pE, dE, wE⟩ := part_small ns _ E z2 hPt
    refine ⟨DL d L, .ref a, p, .tuple Ds, E, ns, rfl, Dx.less (fun _ _ => trivial) _ _ (Dx.kp (q07.k.less fun _ _ => trivial) _ _ hv), z7, z2, fun v hvE => ?_⟩
    have gE : Gd (10 ^ 30) E := (pt_gd (b := 10 ^ 30) _ pE).1
    refine ⟨_, rfl, fun _ => False, v, E, rfl, Dx.less (fun _ z => z.elim) _ _ hvE, gd_asc _ gE, ⟨wt_sh _ (by omega), by omega⟩, q07.t ht, fun H8 lk8 => ?_⟩
    have q08 := q07.trans (Lq.lk q07.dk lk8)
    have hv8 : Dx (DL d L) H8 v E := Dx.kp (lk8.k.less fun _ z => z.elim) _ _ hvE
    refine ⟨_, rfl, ite2 (fun _ => ?_) (fun _ => ?_)⟩
    · refine ⟨_, rfl, by show 3 ≤ sizeLine; decide, fun pp np => pickL (Fr.refl q08.dk) np (by show 0 < 3; decide) (by show 3 ≤ 1000; decide) fun x hx H9 f9 => ?_⟩
      obtain ⟨r, rfl, rr0, rr1⟩ : ∃ r : Int, x = .int r ∧ 0 ≤ r ∧ r ≤ 6 := by
        simp only [List.mem_cons, List.not_mem_nil, or_false] at hx
        rcases hx with rfl | rfl | rfl <;> exact ⟨_, rfl, by decide, by decide⟩
      have q09 := q08.trans (Lq.fr q08.dk f9)
      have hv9 := Dx.kp (kpF q08.dk f9) _ _ hv8
      refine ⟨r, rfl, by omega, by omega, for_range (lo := 0) (n := r.toNat) (fun i σ H' => ∃ (v' : V) (c6 : Option V) (E' : PyData), σ = [some (.ref d), some (.ref a), some (.ref p5), none, none, some v', c6] ∧ Dx (DL d L) H' v' E' ∧ Gd (10 ^ 30) E' ∧ E'.depth ≤ 17 + 2 * i ∧ wt E' ≤ 1200100 + 100 * i ∧ Lq d L Tl H H') ⟨v, none, E, rfl, hv9, gE, by omega, by omega, q09⟩ (fun i σ H' hi h => ?_) (fun σ H' h => ?_)⟩
      · obtain ⟨v', c6, E', rfl, hE, g1, g2, g3, g4⟩ := h
        refine ⟨_, rfl, by show 2 ≤ sizeLine; decide, fun u1 m1 => ?_⟩
        have x1 := (same_new m1 : Same H' (upd H' u1 (.tup [.str "cut", v'])))
        have y1 : upd H' u1 (.tup [.str "cut", v']) u1 = some (.tup [.str "cut", v']) := upd_same
        generalize upd H' u1 (.tup [.str "cut", v']) = I1 at x1 y1
        refine ⟨by show 3 ≤ sizeLine; decide, fun u2 m2 => ?_⟩
        have x2 := (same_new m2 : Same I1 (upd I1 u2 (.tup [.str "put", .ref u1, .str "1"])))
        have y2 : upd I1 u2 (.tup [.str "put", .ref u1, .str "1"]) u2 = some (.tup [.str "put", .ref u1, .str "1"]) := upd_same
        generalize upd I1 u2 (.tup [.str "put", .ref u1, .str "1"]) = I2 at x2 y2
        have x12 := x1.trans x2
        refine ⟨_, _, .tuple [.str "put", .tuple [.str "cut", E'], .str "1"], rfl, .tup y2 (.cons (.str _) (.cons (.tup (x2 _ _ y1) (.cons (.str _) (.cons (Dx.kp (Kp.same x12) _ _ hE) .nil))) (.cons (.str _) .nil))), ?_, ?_, ?_, g4.trans (Lq.same g4.dk x12)⟩
        · have w1 : Gd (10 ^ 30) (.tuple [.str "cut", E']) := by
            unfold Gd GdL GdL GdL
            exact ⟨by unfold Gd; exact asc_lit (by decide +kernel), g1, trivial⟩
          unfold Gd GdL GdL GdL GdL
          exact ⟨by unfold Gd; exact asc_lit (by decide +kernel), w1, by unfold Gd; exact asc_lit (by decide +kernel), trivial⟩
        · simp only [PyData.depth, PyData.depthAll]
          omega
        · simp only [wt, wtL]
          have : ("put" : Str).length = 3 := rfl
          have : ("cut" : Str).length = 3 := rfl
          have : ("1" : Str).length = 1 := rfl
          omega
      · obtain ⟨v', c6, E', rfl, hE, g1, g2, g3, g4⟩ := h
        exact ⟨_, rfl, q v' E' H' hE g1 (by omega) (by omega) g4⟩
    · refine ⟨0, rfl, by decide, by decide, for_range (lo := 0) (n := 0) (fun i σ H' => i = 0 ∧ σ = [some (.ref d), some (.ref a), some (.ref p5), none, none, some v, none] ∧ H' = H8) ⟨rfl, rfl, rfl⟩ (fun i σ H' hi h => absurd hi (by omega)) (fun σ H' h => ?_)⟩
      obtain ⟨_, rfl, rfl⟩ := h
      exact ⟨_, rfl, q v E _ hv8 gE (by omega) (by omega) q08⟩
end
end TH


set_option Elab.async false
set_option linter.all false
set_option maxRecDepth 100000
set_option maxHeartbeats 8000000
/-! The law. -/
namespace TL
open PySem PySem.Spec PyProof.Rows L2 KT KG KM KX KQ KE0 KA KB KC KD KP KP2 KW KW2 TD TD2 TD3 TR TA2 TI TJ TE TB TF TF2 TF3 TF4 TG TH EN RT
abbrev N_law : List Str := ["_law_script", "_law_deck_here", "_law_tree", "_law_turn", "_law_thing", "_law_again", "_law_told", "_law_text", "_law_due"]
abbrev P_law : List Str := ["_law_script"]
theorem sc_law : FnScope N_law P_law (defScope s_law) := ⟨rfl, rfl, rfl, by decide +kernel, rfl, by decide +kernel, by decide +kernel⟩
section
variable {P : Program} {w : World} {K : PySem.W.Frag} {mg : Str → Option Value} {base : Heap} {Tl : List Addr}
def spLaw (K : PySem.W.Frag) (Tl : List Addr) : Sp := fun vs H Q _ => ∃ (a : Addr) (ns : List Int), vs = [.ref a] ∧ SqL K H a (ns.map V.int) ∧ Ts Tl H ∧ ∀ H', Q (.bl true) H'
theorem gd3 (a b c : Bool) : Gd (10 ^ 30) (.tuple [.bool a, .bool b, .bool c]) ∧ (PyData.tuple [.bool a, .bool b, .bool c]).depth ≤ 150 ∧ wt (.tuple [.bool a, .bool b, .bool c]) ≤ 16777216 := by
  refine ⟨by unfold Gd GdL GdL GdL GdL; exact ⟨by unfold Gd; trivial, by unfold Gd; trivial, by unfold Gd; trivial, trivial⟩, by simp only [PyData.depth, PyData.depthAll]; omega, by simp only [wt, wtL]; omega⟩
/-- a thing as the law has it -/
def Tg (d L : Addr) (H : Hp) (v : V) : Prop := ∃ E, Dx (DL d L) H v E ∧ Gd (10 ^ 31) E ∧ E.depth ≤ 42 ∧ wt E ≤ 6000000
theorem ok_law {fd : FuncData} {fl : Str → FuncData} (p : Pr K mg base Tl) (l : Lw K mg) (T : TbF mg) (Tx : TbX mg) (x3 : Dx3 K mg) (hm : HasMods base) (D : Df K mg "law" s_law P_law fd)
    (D__law_deck : Df K mg "_law_deck" s__law_deck P__law_deck (fl "_law_deck"))
    (D__law_draw : Df K mg "_law_draw" s__law_draw P__law_draw (fl "_law_draw")) (D__law_pick : Df K mg "_law_pick" s__law_pick P__law_pick (fl "_law_pick"))
    (D__law_is_integer : Df K mg "_law_is_integer" s__law_is_integer P__law_is_integer (fl "_law_is_integer"))
    (D__law_any : Df K mg "_law_any" s__law_any P__law_any (fl "_law_any")) (D__law_instead : Df K mg "_law_instead" s__law_instead P__law_instead (fl "_law_instead"))
    (D__law_bent : Df K mg "_law_bent" s__law_bent P__law_bent (fl "_law_bent")) (D__law_odd_string : Df K mg "_law_odd_string" s__law_odd_string P__law_odd_string (fl "_law_odd_string"))
    (D__law_spoilt : Df K mg "_law_spoilt" s__law_spoilt P__law_spoilt (fl "_law_spoilt"))
    (D__law_term_spots : Df K mg "_law_term_spots" s__law_term_spots P__law_term_spots (fl "_law_term_spots")) (D__law_with : Df K mg "_law_with" s__law_with P__law_with (fl "_law_with"))
    (D__law_block_spots : Df K mg "_law_block_spots" s__law_block_spots P__law_block_spots (fl "_law_block_spots")) (D__law_spots : Df K mg "_law_spots" s__law_spots P__law_spots (fl "_law_spots")) (D__law_at : Df K mg "_law_at" s__law_at P__law_at (fl "_law_at"))
    (D__law_some_part : Df K mg "_law_some_part" s__law_some_part P__law_some_part (fl "_law_some_part"))
    (kb_is_term : KB0 (p.fn "is_term") P_is_term ["thing"] (fun l => l)) (kb_is_command : KB0 (p.fn "is_command") P_is_command ["thing"] (fun l => l)) (kb_is_tree : KB0 (p.fn "is_tree") P_is_tree ["thing"] (fun l => l)) :
    FnG P w K mg base 230 (He.fAd K ("law", none)) fd P_law (spLaw K Tl) := by
  have G__law_deck : FnOk P w K mg base CX0 1 (He.fAd K ("_law_deck", none)) (fl "_law_deck") P__law_deck (spDeck K) := ok_deck D__law_deck T.toTb
  have G__law_draw : FnOk P w K mg base CX0 1 (He.fAd K ("_law_draw", none)) (fl "_law_draw") P__law_draw spDraw := ok_draw D__law_draw T.toTb
  have G__law_pick : FnOk P w K mg base CX0 2 (He.fAd K ("_law_pick", none)) (fl "_law_pick") P__law_pick (spPick K) := ok_pick D__law_pick T.toTb D__law_draw
  have G__law_any : FnOk P w K mg base CX0 6 (He.fAd K ("_law_any", none)) (fl "_law_any") P__law_any (spAnyD 3) := ok_anyD T.toTb D__law_any D__law_draw D__law_pick 3
  have G__law_some_part : FnOk P w K mg base CX0 42 (He.fAd K ("_law_some_part", none)) (fl "_law_some_part") P__law_some_part (spPart Tl) := ok_part l T D__law_some_part D__law_draw D__law_pick D__law_term_spots D__law_with D__law_block_spots D__law_spots D__law_at
  have G__law_spoilt : FnOk P w K mg base CX0 43 (He.fAd K ("_law_spoilt", none)) (fl "_law_spoilt") P__law_spoilt (spSpo 35) := ok_spo Tx D__law_spoilt D__law_draw D__law_pick D__law_is_integer D__law_any D__law_instead D__law_bent D__law_odd_string 35
  have D__law_drawn_program := x3.d_prog
  have G__law_drawn_program := x3.prog (P := P) (w := w) (base := base)
  have D__law_is_term := l.d_term
  have D__law_is_command := l.d_cmd
  have D__law_is_tree := l.d_tree
  have G__law_is_term := l.term (P := P) (w := w) (base := base) (Tl := Tl) T.toTb 42
  have G__law_is_command := l.cmd (P := P) (w := w) (base := base) (Tl := Tl) T.toTb 42
  have G__law_is_tree := l.tree (P := P) (w := w) (base := base) (Tl := Tl) T.toTb 39
  have D_is_term := p.d_isterm
  have D_is_command := p.d_iscmd
  have D_is_tree := p.d_istree
  have G_is_term := p.isTerm (P := P) (w := w) 42
  have G_is_command := p.isCommand (P := P) (w := w) 42
  have G_is_tree := p.isTree (P := P) (w := w) 39
  refine okG (k := 229) (fun_of D.F) sc_law (fun vs H Q E h => ?_) (fun cdv A outer s H vs Q E hA hr h => ?_)
  · obtain ⟨a, ns, rfl, _⟩ := h
    rfl
  · obtain ⟨a, ns, rfl, hS, ht0, q⟩ := h
    refine ⟨_, (pss_cons (ps_set (i := 1) sc_law.nd rfl (.inl rfl) (pe_call G__law_deck (hr.mono (by first | decide | omega)) (by rfl) D__law_deck.g D__law_deck.F.kp D__law_deck.b .nil pass0 (pa_cons (pv 0) (pa_cons pe_int pa_nil))))
      (pss_cons (ps_set (i := 2) sc_law.nd rfl (.inl rfl) (pe_call G__law_drawn_program (hr.mono (by first | decide | omega)) (by rfl) D__law_drawn_program.g D__law_drawn_program.F.kp D__law_drawn_program.b .nil pass0 (pa_cons (pv 1) (pa_cons pe_int (pa_cons pe_int pa_nil)))))
      (pss_cons (ps_for PassesOwn.never rfl (pi_range1 rfl T.range (pa_cons pe_int pa_nil)) (pg_name (i := 3) sc_law.nd rfl (.inl rfl)) (pss_cons (ps_set (i := 4) sc_law.nd rfl (.inl rfl) (pe_call G__law_some_part (hr.mono (by first | decide | omega)) (by rfl) D__law_some_part.g D__law_some_part.F.kp D__law_some_part.b .nil pass0 (pa_cons (pv 1) (pa_cons (pv 2) pa_nil))))
          (pss_cons (ps_for PassesOwn.never rfl (pi_range1 rfl T.range (pa_cons (pe_call G__law_pick (hr.mono (by first | decide | omega)) (by rfl) D__law_pick.g D__law_pick.F.kp D__law_pick.b .nil pass0 (pa_cons (pv 1) (pa_cons (pe_lst (pa_cons pe_int (pa_cons pe_int (pa_cons pe_int (pa_cons pe_int pa_nil))))) pa_nil))) pa_nil)) (pg_name (i := 5) sc_law.nd rfl (.inl rfl)) (pss_one (ps_set (i := 4) sc_law.nd rfl (.inl rfl) (pe_call G__law_spoilt (hr.mono (by first | decide | omega)) (by rfl) D__law_spoilt.g D__law_spoilt.F.kp D__law_spoilt.b .nil pass0 (pa_cons (pv 1) (pa_cons (pv 4) pa_nil))))))
          (C8.pss_cut (ps_if (pt_cmpR op_eq (pe_call G__law_draw (hr.mono (by first | decide | omega)) (by rfl) D__law_draw.g D__law_draw.F.kp D__law_draw.b .nil pass0 (pa_cons (pv 1) (pa_cons pe_int pa_nil))) pe_int (nomark _)) (pss_one (ps_set (i := 4) sc_law.nd rfl (.inl rfl) (pe_call G__law_any (hr.mono (by first | decide | omega)) (by rfl) D__law_any.g D__law_any.F.kp D__law_any.b .nil pass0 (pa_cons (pv 1) (pa_cons pe_int pa_nil))))) pss_nil)
          (pss_cons (ps_par (i := 7) (j := 8) (by rfl) sc_law.nd rfl rfl (by decide) rfl rfl (pa_cons (pe_callB (call_reprX hr hA hm (fun _ => False)) (by rfl) T.repr (by decide +kernel) (pa_cons (pv 4) pa_nil)) (pa_cons (pe_tup (pa_cons (pe_call G__law_is_term (hr.mono (by first | decide | omega)) (by rfl) D__law_is_term.g D__law_is_term.F.kp D__law_is_term.b .nil pass0 (pa_cons (pv 4) pa_nil)) (pa_cons (pe_call G__law_is_command (hr.mono (by first | decide | omega)) (by rfl) D__law_is_command.g D__law_is_command.F.kp D__law_is_command.b .nil pass0 (pa_cons (pv 4) pa_nil)) (pa_cons (pe_call G__law_is_tree (hr.mono (by first | decide | omega)) (by rfl) D__law_is_tree.g D__law_is_tree.F.kp D__law_is_tree.b .nil pass0 (pa_cons (pv 4) pa_nil)) pa_nil)))) pa_nil)) (by rfl))
          (pss_cons (ps_set (i := 6) sc_law.nd rfl (.inl rfl) (pe_tup (pa_cons (pe_call G_is_term (hr.mono (by first | decide | omega)) (by rfl) D_is_term.g D_is_term.F.kp D_is_term.b .nil pass0 (pa_cons (pv 4) pa_nil)) (pa_cons (pe_call G_is_command (hr.mono (by first | decide | omega)) (by rfl) D_is_command.g D_is_command.F.kp D_is_command.b .nil pass0 (pa_cons (pv 4) pa_nil)) (pa_cons (pe_call G_is_tree (hr.mono (by first | decide | omega)) (by rfl) D_is_tree.g D_is_tree.F.kp D_is_tree.b .nil pass0 (pa_cons (pv 4) pa_nil)) pa_nil)))))
          (pss_cons (ps_if (PW.pt (pw_or (pt_cmpR op_ne (pe_callB (call_reprX hr hA hm (fun _ => False)) (by rfl) T.repr (by decide +kernel) (pa_cons (pv 6) pa_nil)) (pe_callB (call_reprX hr hA hm (fun _ => False)) (by rfl) T.repr (by decide +kernel) (pa_cons (pv 8) pa_nil)) (nomark _)) (pw_or1 (pt_cmpR op_ne (pe_callB (call_reprX hr hA hm (fun _ => False)) (by rfl) T.repr (by decide +kernel) (pa_cons (pv 4) pa_nil)) (pv 7) (nomark _))))) (pss_one (ps_ret pe_bl)) pss_nil)
          (pss_one (ps_if (pt_cmpR op_ne (pe_callB (call_reprX hr hA hm (fun _ => False)) (by rfl) T.repr (by decide +kernel) (pa_cons (pe_tup (pa_cons (pe_callK0 G_is_term (hr.mono (by first | decide | omega)) (by rfl) D_is_term.g D_is_term.F.kp kb_is_term pass0 (pk_cons (pv 4) pk_nil)) (pa_cons (pe_callK0 G_is_command (hr.mono (by first | decide | omega)) (by rfl) D_is_command.g D_is_command.F.kp kb_is_command pass0 (pk_cons (pv 4) pk_nil)) (pa_cons (pe_callK0 G_is_tree (hr.mono (by first | decide | omega)) (by rfl) D_is_tree.g D_is_tree.F.kp kb_is_tree pass0 (pk_cons (pv 4) pk_nil)) pa_nil)))) pa_nil)) (pe_callB (call_reprX hr hA hm (fun _ => False)) (by rfl) T.repr (by decide +kernel) (pa_cons (pv 8) pa_nil)) (nomark _)) (pss_one (ps_ret pe_bl)) pss_nil)))))))))
      (pss_one (ps_ret pe_bl))))), ?_⟩
    refine ⟨_, rfl, a, ns, 13745002, rfl, hS, by decide, by decide, fun d L H1 st nd nL dk1 => ?_⟩
    have ht1 : Ts Tl H1 := (Lk.same (M := fun _ => False) (show Same H H1 from st)).t ht0
    refine ⟨_, rfl, d, L, rfl, dk1, fun tv R H2 pg hv2 f2 => ?_⟩
    have ht2 := (Lq.fr (Tl := Tl) dk1 f2).t ht1
    have q22 : Lq d L Tl H2 H2 := Lq.fr f2.dk (Fr.refl f2.dk)
    refine ⟨8, rfl, by omega, by omega, for_range (lo := 0) (n := 8) (fun i σ H' => ∃ c3 c4 c5 c6 c7 c8, σ = [some (.ref a), some (.ref d), some tv, c3, c4, c5, c6, c7, c8] ∧ Lq d L Tl H2 H') ⟨none, none, none, none, none, none, rfl, q22⟩ (fun i σ H3 _ h => ?_) (fun σ H3 h => ?_)⟩
    · obtain ⟨c3, c4, c5, c6, c7, c8, rfl, q3⟩ := h
      refine ⟨_, rfl, _, rfl, d, L, tv, R, rfl, q3.dk, Dx.kp (q3.k.less fun _ _ => trivial) _ _ hv2, pg, q3.t ht2, fun v0 E0' H4 dv0 g0 d0 w0 q34 => ?_⟩
      have q4 := q3.trans q34
      refine ⟨_, rfl, by show 4 ≤ sizeLine; decide, fun pp np => pickL (Fr.refl q4.dk) np (by show 0 < 4; decide) (by show 4 ≤ 1000; decide) fun x hx H5 f5 => ?_⟩
      obtain ⟨r, rfl, rr0, rr1⟩ : ∃ r : Int, x = .int r ∧ 0 ≤ r ∧ r ≤ 2 := by
        simp only [List.mem_cons, List.not_mem_nil, or_false] at hx
        rcases hx with rfl | rfl | rfl | rfl <;> exact ⟨_, rfl, by decide, by decide⟩
      have q5 := q4.trans (Lq.fr q4.dk f5)
      have dv5 := Dx.kp (kpF q4.dk f5) _ _ dv0
      refine ⟨r, rfl, by omega, by omega, for_range (lo := 0) (n := r.toNat) (fun j σ H' => ∃ (v : V) (c5 : Option V) (E : PyData), σ = [some (.ref a), some (.ref d), some tv, some (.int (0 + (i : Int))), some v, c5, c6, c7, c8] ∧ Dx (DL d L) H' v E ∧ Gd (10 ^ 30 + 5 * j) E ∧ E.depth ≤ 29 + 6 * j ∧ wt E + 20000 ≤ 1320000 * 2 ^ j ∧ Lq d L Tl H2 H') ⟨v0, c5, E0', rfl, dv5, Gd.mono (by omega) _ g0, by omega, by omega, q5⟩ (fun j σ H' hj h => ?_) (fun σ H6 h => ?_)⟩
      · obtain ⟨v, c5, E, rfl, dv, gE, dE, wE, q6⟩ := h
        have hj1 : j = 0 ∨ j = 1 := by omega
        have h2j : 1320000 * 2 ^ j ≤ 2640000 := by rcases hj1 with rfl | rfl <;> decide
        have h2s : 1320000 * 2 ^ (j + 1) = 2 * (1320000 * 2 ^ j) := by
          rw [Nat.pow_succ]
          omega
        refine ⟨_, rfl, _, rfl, d, L, v, E, 10 ^ 30 + 5 * j, rfl, q6.dk, dv, by omega, gE, by omega, ?_, by omega, fun v' D' H7 dv' nw f7 => ?_⟩
        · rcases hj1 with rfl | rfl <;> decide +kernel
        obtain ⟨n1, n2, n3⟩ := nw
        exact ⟨v', _, D', rfl, dv', Gd.mono (by omega) _ n1, by omega, by omega, q6.trans (Lq.fr q6.dk f7)⟩
      obtain ⟨v, c5', E, rfl, dv, gE, dE, wE, q6⟩ := h
      have hr2 : r.toNat = 0 ∨ r.toNat = 1 ∨ r.toNat = 2 := by omega
      have hw6 : wt E ≤ 6000000 := by
        have : 1320000 * 2 ^ r.toNat ≤ 5280000 := by rcases hr2 with e | e | e <;> rw [e] <;> decide
        omega
      have tg6 : Tg d L H6 v := ⟨E, dv, Gd.mono (by rcases hr2 with e | e | e <;> rw [e] <;> decide +kernel) _ gE, by omega, hw6⟩
      clear dE wE gE dv hw6
      refine ⟨fun σ' H' => ∃ v c5, σ' = [some (.ref a), some (.ref d), some tv, some (.int (0 + (i : Int))), some v, c5, c6, c7, c8] ∧ Tg d L H' v ∧ Lq d L Tl H2 H', ?_, fun σ' H7 hM => ?_⟩
      · refine ⟨_, rfl, d, L, _, rfl, q6.dk, by decide, by decide, fun r' H7 r0 r1 f7 => ⟨rfl, _, rfl, ite2 (fun _ => ?_) (fun _ => ?_)⟩⟩
        · refine ⟨_, rfl, d, L, rfl, f7.dk, fun v' D' H8 av dv f8 => ?_⟩
          have q8 := (q6.trans (Lq.fr q6.dk f7)).trans (Lq.fr f7.dk f8)
          refine ⟨v', _, rfl, ⟨D', Dx.less (fun b hb => ?_) _ _ dv, Gd.mono (by decide +kernel) _ av.1, by have := av.2.2.1; omega, by have := av.2.2.2; omega⟩, q8⟩
          obtain ⟨ns', mm, kk, g1, g2, _⟩ := f7.dk
          rcases hb with rfl | rfl
          · show H7 b ≠ none
            rw [g1]
            exact fun z => by cases z
          · show H7 b ≠ none
            rw [g2]
            exact fun z => by cases z
        · obtain ⟨E1, z1, z2⟩ := tg6
          exact ⟨v, _, rfl, ⟨E1, Dx.kp (kpF q6.dk f7) _ _ z1, z2⟩, q6.trans (Lq.fr q6.dk f7)⟩
      clear tg6 q6
      obtain ⟨v, c5'', rfl, ⟨E, dv, gE, dE, wE⟩, q7⟩ := hM
      have hb : (10 : Nat) ^ 31 ≤ 10 ^ 45 := by decide +kernel
      have sE := gd_show hb E gE
      have aE := gd_asc E gE
      have lE : E.shown.length ≤ sizeLine := Nat.le_trans (shown_wt hb E gE) (by rw [sizeLine_eq]; omega)
      have hE : ShA E := wt_sh E (by omega)
      have F7 : Dx (fun _ => False) H7 v E := Dx.less (fun _ z => z.elim) _ _ dv
      have t7 := q7.t ht2
      have dE48 : E.depth ≤ 39 + 3 := by omega
      refine ⟨_, rfl, v, E, rfl, F7, sE, by omega, lE, ?_⟩
      refine ⟨_, rfl, fun _ => False, v, E, rfl, F7, aE, ⟨hE, dE⟩, t7, fun H8 k8 => ?_⟩
      have F8 := Dx.kp k8.k _ _ F7
      refine ⟨_, rfl, fun _ => False, v, E, rfl, F8, aE, ⟨hE, dE⟩, k8.t t7, fun H9 k9 => ?_⟩
      have k79 := k8.trans k9
      have F9 := Dx.kp k9.k _ _ F8
      refine ⟨_, rfl, fun _ => False, v, E, rfl, F9, aE, ⟨hE, dE48⟩, k79.t t7, fun HA kA => ?_⟩
      have k7A := k79.trans kA
      refine ⟨by show 3 ≤ sizeLine; decide, fun pd npd => ?_⟩
      have k7B := k7A.trans (Lk.new (M := fun _ => False) (Tl := Tl) (o := .tup [.bl (termB 42 E), .bl (cmdB 42 E), .bl (treeB 39 E)]) npd)
      have hpd : upd HA pd (.tup [.bl (termB 42 E), .bl (cmdB 42 E), .bl (treeB 39 E)]) pd = some (.tup [.bl (termB 42 E), .bl (cmdB 42 E), .bl (treeB 39 E)]) := upd_same
      generalize upd HA pd (.tup [.bl (termB 42 E), .bl (cmdB 42 E), .bl (treeB 39 E)]) = HB at k7B hpd
      have FB := Dx.kp k7B.k _ _ F7
      have tB := k7B.t t7
      have q2B := q7.trans (Lq.lk q7.dk k7B)
      clear F8 F9 k79 k7A k8 k9 kA
      refine ⟨_, _, rfl, ?_⟩
      refine ⟨_, rfl, fun _ => False, v, E, rfl, FB, aE, dE, tB, fun HC kC => ?_⟩
      have FC := Dx.kp kC.k _ _ FB
      refine ⟨_, rfl, fun _ => False, v, E, rfl, FC, aE, dE, kC.t tB, fun HD kD => ?_⟩
      have kBD := kC.trans kD
      have FD := Dx.kp kD.k _ _ FC
      refine ⟨_, rfl, fun _ => False, v, E, rfl, FD, aE, dE48, kBD.t tB, fun HE kE => ?_⟩
      have kBE := kBD.trans kE
      refine ⟨by show 3 ≤ sizeLine; decide, fun pt npt => ?_⟩
      have kBF := kBE.trans (Lk.new (M := fun _ => False) (Tl := Tl) (o := .tup [.bl (termB 42 E), .bl (cmdB 42 E), .bl (treeB 39 E)]) npt)
      have hpt : upd HE pt (.tup [.bl (termB 42 E), .bl (cmdB 42 E), .bl (treeB 39 E)]) pt = some (.tup [.bl (termB 42 E), .bl (cmdB 42 E), .bl (treeB 39 E)]) := upd_same
      generalize upd HE pt (.tup [.bl (termB 42 E), .bl (cmdB 42 E), .bl (treeB 39 E)]) = HF at kBF hpt
      have FF := Dx.kp kBF.k _ _ FB
      have hpdF := kBF.k.tp _ _ hpd
      have tF := kBF.t tB
      have q2F := q2B.trans (Lq.lk q2B.dk kBF)
      obtain ⟨g3a, g3b, g3c⟩ := gd3 (termB 42 E) (cmdB 42 E) (treeB 39 E)
      have hb0 : (10 : Nat) ^ 30 ≤ 10 ^ 45 := by decide +kernel
      have s3 := gd_show hb0 _ g3a
      have l3 : (PyData.tuple [.bool (termB 42 E), .bool (cmdB 42 E), .bool (treeB 39 E)]).shown.length ≤ sizeLine := Nat.le_trans (shown_wt hb0 _ g3a) (by rw [sizeLine_eq]; exact g3c)
      have dx3 : ∀ {H' : Hp} {p' : Addr}, H' p' = some (.tup [.bl (termB 42 E), .bl (cmdB 42 E), .bl (treeB 39 E)]) → Dx (fun _ => False) H' (.ref p') (.tuple [.bool (termB 42 E), .bool (cmdB 42 E), .bool (treeB 39 E)]) := fun h => .tup h (.cons (.bl _) (.cons (.bl _) (.cons (.bl _) .nil)))
      clear FC FD kBD kBE kC kD kE
      refine ⟨_, rfl, .ref pt, _, rfl, dx3 hpt, s3, g3b, l3, ?_⟩
      refine ⟨_, rfl, .ref pd, _, rfl, dx3 hpdF, s3, g3b, l3, rfl, false, by simp, ?_⟩
      refine ⟨_, rfl, v, E, rfl, FF, sE, by omega, lE, _, rfl, rfl, false, by simp, ?_⟩
      refine ⟨_, rfl, fun _ => False, v, E, rfl, FF, aE, dE, tF, fun HC kC => ?_⟩
      have FC := Dx.kp kC.k _ _ FF
      refine ⟨_, rfl, fun _ => False, v, E, rfl, FC, aE, dE, kC.t tF, fun HD kD => ?_⟩
      have kBD := kC.trans kD
      have FD := Dx.kp kD.k _ _ FC
      refine ⟨_, rfl, fun _ => False, v, E, rfl, FD, aE, dE48, kBD.t tF, fun HE kE => ?_⟩
      have kBE := kBD.trans kE
      refine ⟨by show 3 ≤ sizeLine; decide, fun pu npu => ?_⟩
      have kBG := kBE.trans (Lk.new (M := fun _ => False) (Tl := Tl) (o := .tup [.bl (termB 42 E), .bl (cmdB 42 E), .bl (treeB 39 E)]) npu)
      have hpu : upd HE pu (.tup [.bl (termB 42 E), .bl (cmdB 42 E), .bl (treeB 39 E)]) pu = some (.tup [.bl (termB 42 E), .bl (cmdB 42 E), .bl (treeB 39 E)]) := upd_same
      generalize upd HE pu (.tup [.bl (termB 42 E), .bl (cmdB 42 E), .bl (treeB 39 E)]) = HG at kBG hpu
      have hpdG := kBG.k.tp _ _ hpdF
      have q2G := q2F.trans (Lq.lk q2F.dk kBG)
      refine ⟨_, _, rfl, dx3 hpu, s3, g3b, l3, ?_⟩
      refine ⟨_, rfl, .ref pd, _, rfl, dx3 hpdG, s3, g3b, l3, rfl, false, by simp, ?_⟩
      exact ⟨_, _, _, _, _, _, rfl, q2G⟩
    · obtain ⟨c3, c4, c5, c6, c7, c8, rfl, q3⟩ := h
      exact q H3
end
end TL


set_option Elab.async false
set_option linter.all false
set_option maxRecDepth 100000
set_option maxHeartbeats 0
/-! The end of the row. -/
namespace TZ
open PySem PySem.Spec PyProof.Rows L2 KT KG KM KX KQ KE0 KA KB KC KD KP KP2 KW KW2 TD TD2 TD3 TR TA2 TI TJ TE TB TF TF2 TF3 TF4 TG TH EN RT TL GxR
def hdFa : List He.Fa := [.glo "is_word", .glo "is_name", .glo "is_term", .glo "is_command", .glo "is_tree", .glo "are_names", .glo "are_terms", .glo "fits_term", .glo "fits_call", .glo "fits_command", .glo "fits_block", .glo "fits_function", .glo "_law_deck", .glo "_law_draw", .glo "_law_pick", .glo "_law_is_integer", .glo "_law_any", .glo "_law_instead", .glo "_law_bent", .glo "_law_words", .glo "_law_is_word", .glo "_law_is_name", .glo "_law_are_names", .glo "_law_are_terms", .glo "_law_is_term", .glo "_law_is_block", .glo "_law_is_command", .glo "_law_is_function", .glo "_law_is_tree", .glo "_law_pool", .glo "_law_fresh", .glo "_law_drawn_word", .glo "_law_drawn_term", .glo "_law_drawn_call", .glo "_law_drawn_block", .glo "_law_drawn_command", .glo "_law_drawn_function", .glo "_law_drawn_program", .glo "_law_with", .glo "_law_term_spots", .glo "_law_block_spots", .glo "_law_spots", .glo "_law_at", .glo "_law_odd_string", .glo "_law_spoilt", .glo "_law_some_part", .glo "law", .free "all", .free "bool", .free "dict", .free "enumerate", .free "int", .free "isinstance", .free "len", .free "list", .free "max", .free "range", .free "repr", .free "str", .free "tuple", .glo "KEPT_WORDS", .str "LETTERS" "abcdefghijklmnopqrstuvwxyz", .str "SIGNS" "abcdefghijklmnopqrstuvwxyz0123456789_", .int "LONGEST_NAME" 20]
def dd_is_word : He.DefD := ⟨("is_word", none), "is_word", "is_word", defArgs s_is_word, defBody s_is_word, defScope s_is_word, [], []⟩
def dd_is_name : He.DefD := ⟨("is_name", none), "is_name", "is_name", defArgs s_is_name, defBody s_is_name, defScope s_is_name, [], []⟩
def dd_is_term : He.DefD := ⟨("is_term", none), "is_term", "is_term", defArgs s_is_term, defBody s_is_term, defScope s_is_term, [], []⟩
def dd_is_command : He.DefD := ⟨("is_command", none), "is_command", "is_command", defArgs s_is_command, defBody s_is_command, defScope s_is_command, [], []⟩
def dd_is_tree : He.DefD := ⟨("is_tree", none), "is_tree", "is_tree", defArgs s_is_tree, defBody s_is_tree, defScope s_is_tree, [], []⟩
def dd_are_names : He.DefD := ⟨("are_names", none), "are_names", "are_names", defArgs s_are_names, defBody s_are_names, defScope s_are_names, [], []⟩
def dd_are_terms : He.DefD := ⟨("are_terms", none), "are_terms", "are_terms", defArgs s_are_terms, defBody s_are_terms, defScope s_are_terms, [], []⟩
def dd_fits_term : He.DefD := ⟨("fits_term", none), "fits_term", "fits_term", defArgs s_fits_term, defBody s_fits_term, defScope s_fits_term, [], []⟩
def dd_fits_call : He.DefD := ⟨("fits_call", none), "fits_call", "fits_call", defArgs s_fits_call, defBody s_fits_call, defScope s_fits_call, [], []⟩
def dd_fits_command : He.DefD := ⟨("fits_command", none), "fits_command", "fits_command", defArgs s_fits_command, defBody s_fits_command, defScope s_fits_command, [], []⟩
def dd_fits_block : He.DefD := ⟨("fits_block", none), "fits_block", "fits_block", defArgs s_fits_block, defBody s_fits_block, defScope s_fits_block, [], []⟩
def dd_fits_function : He.DefD := ⟨("fits_function", none), "fits_function", "fits_function", defArgs s_fits_function, defBody s_fits_function, defScope s_fits_function, [], []⟩
def dd__law_deck : He.DefD := ⟨("_law_deck", none), "_law_deck", "_law_deck", defArgs s__law_deck, defBody s__law_deck, defScope s__law_deck, [], []⟩
def dd__law_draw : He.DefD := ⟨("_law_draw", none), "_law_draw", "_law_draw", defArgs s__law_draw, defBody s__law_draw, defScope s__law_draw, [], []⟩
def dd__law_pick : He.DefD := ⟨("_law_pick", none), "_law_pick", "_law_pick", defArgs s__law_pick, defBody s__law_pick, defScope s__law_pick, [], []⟩
def dd__law_is_integer : He.DefD := ⟨("_law_is_integer", none), "_law_is_integer", "_law_is_integer", defArgs s__law_is_integer, defBody s__law_is_integer, defScope s__law_is_integer, [], []⟩
def dd__law_any : He.DefD := ⟨("_law_any", none), "_law_any", "_law_any", defArgs s__law_any, defBody s__law_any, defScope s__law_any, [], []⟩
def dd__law_instead : He.DefD := ⟨("_law_instead", none), "_law_instead", "_law_instead", defArgs s__law_instead, defBody s__law_instead, defScope s__law_instead, [], []⟩
def dd__law_bent : He.DefD := ⟨("_law_bent", none), "_law_bent", "_law_bent", defArgs s__law_bent, defBody s__law_bent, defScope s__law_bent, [], []⟩
def dd__law_words : He.DefD := ⟨("_law_words", none), "_law_words", "_law_words", defArgs s__law_words, defBody s__law_words, defScope s__law_words, [], []⟩
def dd__law_is_word : He.DefD := ⟨("_law_is_word", none), "_law_is_word", "_law_is_word", defArgs s__law_is_word, defBody s__law_is_word, defScope s__law_is_word, [], []⟩
def dd__law_is_name : He.DefD := ⟨("_law_is_name", none), "_law_is_name", "_law_is_name", defArgs s__law_is_name, defBody s__law_is_name, defScope s__law_is_name, [], []⟩
def dd__law_are_names : He.DefD := ⟨("_law_are_names", none), "_law_are_names", "_law_are_names", defArgs s__law_are_names, defBody s__law_are_names, defScope s__law_are_names, [], []⟩
def dd__law_are_terms : He.DefD := ⟨("_law_are_terms", none), "_law_are_terms", "_law_are_terms", defArgs s__law_are_terms, defBody s__law_are_terms, defScope s__law_are_terms, [], []⟩
def dd__law_is_term : He.DefD := ⟨("_law_is_term", none), "_law_is_term", "_law_is_term", defArgs s__law_is_term, defBody s__law_is_term, defScope s__law_is_term, [], []⟩
def dd__law_is_block : He.DefD := ⟨("_law_is_block", none), "_law_is_block", "_law_is_block", defArgs s__law_is_block, defBody s__law_is_block, defScope s__law_is_block, [], []⟩
def dd__law_is_command : He.DefD := ⟨("_law_is_command", none), "_law_is_command", "_law_is_command", defArgs s__law_is_command, defBody s__law_is_command, defScope s__law_is_command, [], []⟩
def dd__law_is_function : He.DefD := ⟨("_law_is_function", none), "_law_is_function", "_law_is_function", defArgs s__law_is_function, defBody s__law_is_function, defScope s__law_is_function, [], []⟩
def dd__law_is_tree : He.DefD := ⟨("_law_is_tree", none), "_law_is_tree", "_law_is_tree", defArgs s__law_is_tree, defBody s__law_is_tree, defScope s__law_is_tree, [], []⟩
def dd__law_pool : He.DefD := ⟨("_law_pool", none), "_law_pool", "_law_pool", defArgs s__law_pool, defBody s__law_pool, defScope s__law_pool, [], []⟩
def dd__law_fresh : He.DefD := ⟨("_law_fresh", none), "_law_fresh", "_law_fresh", defArgs s__law_fresh, defBody s__law_fresh, defScope s__law_fresh, [], []⟩
def dd__law_drawn_word : He.DefD := ⟨("_law_drawn_word", none), "_law_drawn_word", "_law_drawn_word", defArgs s__law_drawn_word, defBody s__law_drawn_word, defScope s__law_drawn_word, [], []⟩
def dd__law_drawn_term : He.DefD := ⟨("_law_drawn_term", none), "_law_drawn_term", "_law_drawn_term", defArgs s__law_drawn_term, defBody s__law_drawn_term, defScope s__law_drawn_term, [], []⟩
def dd__law_drawn_call : He.DefD := ⟨("_law_drawn_call", none), "_law_drawn_call", "_law_drawn_call", defArgs s__law_drawn_call, defBody s__law_drawn_call, defScope s__law_drawn_call, [], []⟩
def dd__law_drawn_block : He.DefD := ⟨("_law_drawn_block", none), "_law_drawn_block", "_law_drawn_block", defArgs s__law_drawn_block, defBody s__law_drawn_block, defScope s__law_drawn_block, [], []⟩
def dd__law_drawn_command : He.DefD := ⟨("_law_drawn_command", none), "_law_drawn_command", "_law_drawn_command", defArgs s__law_drawn_command, defBody s__law_drawn_command, defScope s__law_drawn_command, [], []⟩
def dd__law_drawn_function : He.DefD := ⟨("_law_drawn_function", none), "_law_drawn_function", "_law_drawn_function", defArgs s__law_drawn_function, defBody s__law_drawn_function, defScope s__law_drawn_function, [], []⟩
def dd__law_drawn_program : He.DefD := ⟨("_law_drawn_program", none), "_law_drawn_program", "_law_drawn_program", defArgs s__law_drawn_program, defBody s__law_drawn_program, defScope s__law_drawn_program, [], []⟩
def dd__law_with : He.DefD := ⟨("_law_with", none), "_law_with", "_law_with", defArgs s__law_with, defBody s__law_with, defScope s__law_with, [], []⟩
def dd__law_term_spots : He.DefD := ⟨("_law_term_spots", none), "_law_term_spots", "_law_term_spots", defArgs s__law_term_spots, defBody s__law_term_spots, defScope s__law_term_spots, [], []⟩
def dd__law_block_spots : He.DefD := ⟨("_law_block_spots", none), "_law_block_spots", "_law_block_spots", defArgs s__law_block_spots, defBody s__law_block_spots, defScope s__law_block_spots, [], []⟩
def dd__law_spots : He.DefD := ⟨("_law_spots", none), "_law_spots", "_law_spots", defArgs s__law_spots, defBody s__law_spots, defScope s__law_spots, [], []⟩
def dd__law_at : He.DefD := ⟨("_law_at", none), "_law_at", "_law_at", defArgs s__law_at, defBody s__law_at, defScope s__law_at, [], []⟩
def dd__law_odd_string : He.DefD := ⟨("_law_odd_string", none), "_law_odd_string", "_law_odd_string", defArgs s__law_odd_string, defBody s__law_odd_string, defScope s__law_odd_string, [], []⟩
def dd__law_spoilt : He.DefD := ⟨("_law_spoilt", none), "_law_spoilt", "_law_spoilt", defArgs s__law_spoilt, defBody s__law_spoilt, defScope s__law_spoilt, [], []⟩
def dd__law_some_part : He.DefD := ⟨("_law_some_part", none), "_law_some_part", "_law_some_part", defArgs s__law_some_part, defBody s__law_some_part, defScope s__law_some_part, [], []⟩
def dd_law : He.DefD := ⟨("law", none), "law", "law", defArgs s_law, defBody s_law, defScope s_law, [], []⟩
def hdFn : List He.DefD := [dd_is_word, dd_is_name, dd_is_term, dd_is_command, dd_is_tree, dd_are_names, dd_are_terms, dd_fits_term, dd_fits_call, dd_fits_command, dd_fits_block, dd_fits_function, dd__law_deck, dd__law_draw, dd__law_pick, dd__law_is_integer, dd__law_any, dd__law_instead, dd__law_bent, dd__law_words, dd__law_is_word, dd__law_is_name, dd__law_are_names, dd__law_are_terms, dd__law_is_term, dd__law_is_block, dd__law_is_command, dd__law_is_function, dd__law_is_tree, dd__law_pool, dd__law_fresh, dd__law_drawn_word, dd__law_drawn_term, dd__law_drawn_call, dd__law_drawn_block, dd__law_drawn_command, dd__law_drawn_function, dd__law_drawn_program, dd__law_with, dd__law_term_spots, dd__law_block_spots, dd__law_spots, dd__law_at, dd__law_odd_string, dd__law_spoilt, dd__law_some_part, dd_law]
def hdTf : List He.Defn := [("is_name", none), ("are_names", none), ("are_terms", none), ("fits_call", none), ("fits_command", none), ("fits_block", none), ("fits_function", none), ("is_tree", none)]
def hdEx (K : PySem.W.Frag) : Bool := He.tupB K "KEPT_WORDS" (keptL.map He.Dv.str)
def hdLoose : List Str := [("KEPT_WORDS" : Str), ("LETTERS" : Str), ("SIGNS" : Str), ("LONGEST_NAME" : Str), ("is_word" : Str), ("is_name" : Str), ("is_term" : Str), ("is_command" : Str), ("is_tree" : Str), ("are_names" : Str), ("are_terms" : Str), ("fits_term" : Str), ("fits_call" : Str), ("fits_command" : Str), ("fits_block" : Str), ("fits_function" : Str), ("_law_deck" : Str), ("_law_draw" : Str), ("_law_pick" : Str), ("_law_is_integer" : Str), ("_law_any" : Str), ("_law_instead" : Str), ("_law_bent" : Str), ("_law_words" : Str), ("_law_is_word" : Str), ("_law_is_name" : Str), ("_law_are_names" : Str), ("_law_are_terms" : Str), ("_law_is_term" : Str), ("_law_is_block" : Str), ("_law_is_command" : Str), ("_law_is_function" : Str), ("_law_is_tree" : Str), ("_law_pool" : Str), ("_law_fresh" : Str), ("_law_drawn_word" : Str), ("_law_drawn_term" : Str), ("_law_drawn_call" : Str), ("_law_drawn_block" : Str), ("_law_drawn_command" : Str), ("_law_drawn_function" : Str), ("_law_drawn_program" : Str), ("_law_with" : Str), ("_law_term_spots" : Str), ("_law_block_spots" : Str), ("_law_spots" : Str), ("_law_at" : Str), ("_law_odd_string" : Str), ("_law_spoilt" : Str), ("_law_some_part" : Str)]
abbrev hdR : PySem.W.OpenRow := PySem.W.OpenLaw.row PySem.Challenge.rw_quicktongue_k02_trees_of_any_values
abbrev hdK : PySem.W.Hook := He.hookX 4 hdFa hdFn [] hdTf hdEx
def hdOb (s : PySem.W.SharedT) : He.AlX := He.obsX 4 hdFa hdFn [] hdTf hdEx (HandSHeadRun.getT s)
theorem hdOb_eq (s : PySem.W.SharedT) : hdOb s = hdK.obs s.abs := He.obsX_eq (HandSHeadRun.getT_eq s)
theorem hdRun (w : World) : HandSHeadRun.RunEq hdR (PySem.W.view hdR.prog [52]) hdK hdOb 2000 hdLoose w := by
  intro os
  kernel_rfl
theorem df_is_word {K : PySem.W.Frag} {h : Heap} {mg : Str → Option Value} (X : K.In h) (G : h.Ns mainGlobals mg) (c : He.SaysD hdFa hdFn K) : ∃ fd, Df K mg "is_word" s_is_word P_is_word fd := by
  obtain ⟨fd, F⟩ := c.def_ 0 (d := dd_is_word) rfl
  exact ⟨fd, F, He.glo_ok X G (c.fact 0 (f := .glo "is_word") rfl), F.bindsN fun _ _ _ _ _ _ us hl => match us, hl with | [_], _ => rfl⟩
theorem df_is_name {K : PySem.W.Frag} {h : Heap} {mg : Str → Option Value} (X : K.In h) (G : h.Ns mainGlobals mg) (c : He.SaysD hdFa hdFn K) : ∃ fd, Df K mg "is_name" s_is_name P_is_name fd := by
  obtain ⟨fd, F⟩ := c.def_ 1 (d := dd_is_name) rfl
  exact ⟨fd, F, He.glo_ok X G (c.fact 1 (f := .glo "is_name") rfl), F.bindsN fun _ _ _ _ _ _ us hl => match us, hl with | [_], _ => rfl⟩
theorem df_is_term {K : PySem.W.Frag} {h : Heap} {mg : Str → Option Value} (X : K.In h) (G : h.Ns mainGlobals mg) (c : He.SaysD hdFa hdFn K) : ∃ fd, Df K mg "is_term" s_is_term P_is_term fd := by
  obtain ⟨fd, F⟩ := c.def_ 2 (d := dd_is_term) rfl
  exact ⟨fd, F, He.glo_ok X G (c.fact 2 (f := .glo "is_term") rfl), F.bindsN fun _ _ _ _ _ _ us hl => match us, hl with | [_], _ => rfl⟩
theorem df_is_command {K : PySem.W.Frag} {h : Heap} {mg : Str → Option Value} (X : K.In h) (G : h.Ns mainGlobals mg) (c : He.SaysD hdFa hdFn K) : ∃ fd, Df K mg "is_command" s_is_command P_is_command fd := by
  obtain ⟨fd, F⟩ := c.def_ 3 (d := dd_is_command) rfl
  exact ⟨fd, F, He.glo_ok X G (c.fact 3 (f := .glo "is_command") rfl), F.bindsN fun _ _ _ _ _ _ us hl => match us, hl with | [_], _ => rfl⟩
theorem df_is_tree {K : PySem.W.Frag} {h : Heap} {mg : Str → Option Value} (X : K.In h) (G : h.Ns mainGlobals mg) (c : He.SaysD hdFa hdFn K) : ∃ fd, Df K mg "is_tree" s_is_tree P_is_tree fd := by
  obtain ⟨fd, F⟩ := c.def_ 4 (d := dd_is_tree) rfl
  exact ⟨fd, F, He.glo_ok X G (c.fact 4 (f := .glo "is_tree") rfl), F.bindsN fun _ _ _ _ _ _ us hl => match us, hl with | [_], _ => rfl⟩
theorem df_are_names {K : PySem.W.Frag} {h : Heap} {mg : Str → Option Value} (X : K.In h) (G : h.Ns mainGlobals mg) (c : He.SaysD hdFa hdFn K) : ∃ fd, Df K mg "are_names" s_are_names P_are_names fd := by
  obtain ⟨fd, F⟩ := c.def_ 5 (d := dd_are_names) rfl
  exact ⟨fd, F, He.glo_ok X G (c.fact 5 (f := .glo "are_names") rfl), F.bindsN fun _ _ _ _ _ _ us hl => match us, hl with | [_], _ => rfl⟩
theorem df_are_terms {K : PySem.W.Frag} {h : Heap} {mg : Str → Option Value} (X : K.In h) (G : h.Ns mainGlobals mg) (c : He.SaysD hdFa hdFn K) : ∃ fd, Df K mg "are_terms" s_are_terms P_are_terms fd := by
  obtain ⟨fd, F⟩ := c.def_ 6 (d := dd_are_terms) rfl
  exact ⟨fd, F, He.glo_ok X G (c.fact 6 (f := .glo "are_terms") rfl), F.bindsN fun _ _ _ _ _ _ us hl => match us, hl with | [_, _], _ => rfl⟩
theorem df_fits_term {K : PySem.W.Frag} {h : Heap} {mg : Str → Option Value} (X : K.In h) (G : h.Ns mainGlobals mg) (c : He.SaysD hdFa hdFn K) : ∃ fd, Df K mg "fits_term" s_fits_term P_fits_term fd := by
  obtain ⟨fd, F⟩ := c.def_ 7 (d := dd_fits_term) rfl
  exact ⟨fd, F, He.glo_ok X G (c.fact 7 (f := .glo "fits_term") rfl), F.bindsN fun _ _ _ _ _ _ us hl => match us, hl with | [_, _], _ => rfl⟩
theorem df_fits_call {K : PySem.W.Frag} {h : Heap} {mg : Str → Option Value} (X : K.In h) (G : h.Ns mainGlobals mg) (c : He.SaysD hdFa hdFn K) : ∃ fd, Df K mg "fits_call" s_fits_call P_fits_call fd := by
  obtain ⟨fd, F⟩ := c.def_ 8 (d := dd_fits_call) rfl
  exact ⟨fd, F, He.glo_ok X G (c.fact 8 (f := .glo "fits_call") rfl), F.bindsN fun _ _ _ _ _ _ us hl => match us, hl with | [_, _], _ => rfl⟩
theorem df_fits_command {K : PySem.W.Frag} {h : Heap} {mg : Str → Option Value} (X : K.In h) (G : h.Ns mainGlobals mg) (c : He.SaysD hdFa hdFn K) : ∃ fd, Df K mg "fits_command" s_fits_command P_fits_command fd := by
  obtain ⟨fd, F⟩ := c.def_ 9 (d := dd_fits_command) rfl
  exact ⟨fd, F, He.glo_ok X G (c.fact 9 (f := .glo "fits_command") rfl), F.bindsN fun _ _ _ _ _ _ us hl => match us, hl with | [_, _], _ => rfl⟩
theorem df_fits_block {K : PySem.W.Frag} {h : Heap} {mg : Str → Option Value} (X : K.In h) (G : h.Ns mainGlobals mg) (c : He.SaysD hdFa hdFn K) : ∃ fd, Df K mg "fits_block" s_fits_block P_fits_block fd := by
  obtain ⟨fd, F⟩ := c.def_ 10 (d := dd_fits_block) rfl
  exact ⟨fd, F, He.glo_ok X G (c.fact 10 (f := .glo "fits_block") rfl), F.bindsN fun _ _ _ _ _ _ us hl => match us, hl with | [_, _], _ => rfl⟩
theorem df_fits_function {K : PySem.W.Frag} {h : Heap} {mg : Str → Option Value} (X : K.In h) (G : h.Ns mainGlobals mg) (c : He.SaysD hdFa hdFn K) : ∃ fd, Df K mg "fits_function" s_fits_function P_fits_function fd := by
  obtain ⟨fd, F⟩ := c.def_ 11 (d := dd_fits_function) rfl
  exact ⟨fd, F, He.glo_ok X G (c.fact 11 (f := .glo "fits_function") rfl), F.bindsN fun _ _ _ _ _ _ us hl => match us, hl with | [_, _, _], _ => rfl⟩
theorem df__law_deck {K : PySem.W.Frag} {h : Heap} {mg : Str → Option Value} (X : K.In h) (G : h.Ns mainGlobals mg) (c : He.SaysD hdFa hdFn K) : ∃ fd, Df K mg "_law_deck" s__law_deck P__law_deck fd := by
  obtain ⟨fd, F⟩ := c.def_ 12 (d := dd__law_deck) rfl
  exact ⟨fd, F, He.glo_ok X G (c.fact 12 (f := .glo "_law_deck") rfl), F.bindsN fun _ _ _ _ _ _ us hl => match us, hl with | [_, _], _ => rfl⟩
theorem df__law_draw {K : PySem.W.Frag} {h : Heap} {mg : Str → Option Value} (X : K.In h) (G : h.Ns mainGlobals mg) (c : He.SaysD hdFa hdFn K) : ∃ fd, Df K mg "_law_draw" s__law_draw P__law_draw fd := by
  obtain ⟨fd, F⟩ := c.def_ 13 (d := dd__law_draw) rfl
  exact ⟨fd, F, He.glo_ok X G (c.fact 13 (f := .glo "_law_draw") rfl), F.bindsN fun _ _ _ _ _ _ us hl => match us, hl with | [_, _], _ => rfl⟩
theorem df__law_pick {K : PySem.W.Frag} {h : Heap} {mg : Str → Option Value} (X : K.In h) (G : h.Ns mainGlobals mg) (c : He.SaysD hdFa hdFn K) : ∃ fd, Df K mg "_law_pick" s__law_pick P__law_pick fd := by
  obtain ⟨fd, F⟩ := c.def_ 14 (d := dd__law_pick) rfl
  exact ⟨fd, F, He.glo_ok X G (c.fact 14 (f := .glo "_law_pick") rfl), F.bindsN fun _ _ _ _ _ _ us hl => match us, hl with | [_, _], _ => rfl⟩
theorem df__law_is_integer {K : PySem.W.Frag} {h : Heap} {mg : Str → Option Value} (X : K.In h) (G : h.Ns mainGlobals mg) (c : He.SaysD hdFa hdFn K) : ∃ fd, Df K mg "_law_is_integer" s__law_is_integer P__law_is_integer fd := by
  obtain ⟨fd, F⟩ := c.def_ 15 (d := dd__law_is_integer) rfl
  exact ⟨fd, F, He.glo_ok X G (c.fact 15 (f := .glo "_law_is_integer") rfl), F.bindsN fun _ _ _ _ _ _ us hl => match us, hl with | [_], _ => rfl⟩
theorem df__law_any {K : PySem.W.Frag} {h : Heap} {mg : Str → Option Value} (X : K.In h) (G : h.Ns mainGlobals mg) (c : He.SaysD hdFa hdFn K) : ∃ fd, Df K mg "_law_any" s__law_any P__law_any fd := by
  obtain ⟨fd, F⟩ := c.def_ 16 (d := dd__law_any) rfl
  exact ⟨fd, F, He.glo_ok X G (c.fact 16 (f := .glo "_law_any") rfl), F.bindsN fun _ _ _ _ _ _ us hl => match us, hl with | [_, _], _ => rfl⟩
theorem df__law_instead {K : PySem.W.Frag} {h : Heap} {mg : Str → Option Value} (X : K.In h) (G : h.Ns mainGlobals mg) (c : He.SaysD hdFa hdFn K) : ∃ fd, Df K mg "_law_instead" s__law_instead P__law_instead fd := by
  obtain ⟨fd, F⟩ := c.def_ 17 (d := dd__law_instead) rfl
  exact ⟨fd, F, He.glo_ok X G (c.fact 17 (f := .glo "_law_instead") rfl), F.bindsN fun _ _ _ _ _ _ us hl => match us, hl with | [_, _, _], _ => rfl⟩
theorem df__law_bent {K : PySem.W.Frag} {h : Heap} {mg : Str → Option Value} (X : K.In h) (G : h.Ns mainGlobals mg) (c : He.SaysD hdFa hdFn K) : ∃ fd, Df K mg "_law_bent" s__law_bent P__law_bent fd := by
  obtain ⟨fd, F⟩ := c.def_ 18 (d := dd__law_bent) rfl
  exact ⟨fd, F, He.glo_ok X G (c.fact 18 (f := .glo "_law_bent") rfl), F.bindsN fun _ _ _ _ _ _ us hl => match us, hl with | [_, _, _], _ => rfl⟩
theorem df__law_words {K : PySem.W.Frag} {h : Heap} {mg : Str → Option Value} (X : K.In h) (G : h.Ns mainGlobals mg) (c : He.SaysD hdFa hdFn K) : ∃ fd, Df K mg "_law_words" s__law_words P__law_words fd := by
  obtain ⟨fd, F⟩ := c.def_ 19 (d := dd__law_words) rfl
  exact ⟨fd, F, He.glo_ok X G (c.fact 19 (f := .glo "_law_words") rfl), F.bindsN fun _ _ _ _ _ _ us hl => match us, hl with | [], _ => rfl⟩
theorem df__law_is_word {K : PySem.W.Frag} {h : Heap} {mg : Str → Option Value} (X : K.In h) (G : h.Ns mainGlobals mg) (c : He.SaysD hdFa hdFn K) : ∃ fd, Df K mg "_law_is_word" s__law_is_word P__law_is_word fd := by
  obtain ⟨fd, F⟩ := c.def_ 20 (d := dd__law_is_word) rfl
  exact ⟨fd, F, He.glo_ok X G (c.fact 20 (f := .glo "_law_is_word") rfl), F.bindsN fun _ _ _ _ _ _ us hl => match us, hl with | [_], _ => rfl⟩
theorem df__law_is_name {K : PySem.W.Frag} {h : Heap} {mg : Str → Option Value} (X : K.In h) (G : h.Ns mainGlobals mg) (c : He.SaysD hdFa hdFn K) : ∃ fd, Df K mg "_law_is_name" s__law_is_name P__law_is_name fd := by
  obtain ⟨fd, F⟩ := c.def_ 21 (d := dd__law_is_name) rfl
  exact ⟨fd, F, He.glo_ok X G (c.fact 21 (f := .glo "_law_is_name") rfl), F.bindsN fun _ _ _ _ _ _ us hl => match us, hl with | [_], _ => rfl⟩
theorem df__law_are_names {K : PySem.W.Frag} {h : Heap} {mg : Str → Option Value} (X : K.In h) (G : h.Ns mainGlobals mg) (c : He.SaysD hdFa hdFn K) : ∃ fd, Df K mg "_law_are_names" s__law_are_names P__law_are_names fd := by
  obtain ⟨fd, F⟩ := c.def_ 22 (d := dd__law_are_names) rfl
  exact ⟨fd, F, He.glo_ok X G (c.fact 22 (f := .glo "_law_are_names") rfl), F.bindsN fun _ _ _ _ _ _ us hl => match us, hl with | [_], _ => rfl⟩
theorem df__law_are_terms {K : PySem.W.Frag} {h : Heap} {mg : Str → Option Value} (X : K.In h) (G : h.Ns mainGlobals mg) (c : He.SaysD hdFa hdFn K) : ∃ fd, Df K mg "_law_are_terms" s__law_are_terms P__law_are_terms fd := by
  obtain ⟨fd, F⟩ := c.def_ 23 (d := dd__law_are_terms) rfl
  exact ⟨fd, F, He.glo_ok X G (c.fact 23 (f := .glo "_law_are_terms") rfl), F.bindsN fun _ _ _ _ _ _ us hl => match us, hl with | [_], _ => rfl⟩
theorem df__law_is_term {K : PySem.W.Frag} {h : Heap} {mg : Str → Option Value} (X : K.In h) (G : h.Ns mainGlobals mg) (c : He.SaysD hdFa hdFn K) : ∃ fd, Df K mg "_law_is_term" s__law_is_term P__law_is_term fd := by
  obtain ⟨fd, F⟩ := c.def_ 24 (d := dd__law_is_term) rfl
  exact ⟨fd, F, He.glo_ok X G (c.fact 24 (f := .glo "_law_is_term") rfl), F.bindsN fun _ _ _ _ _ _ us hl => match us, hl with | [_], _ => rfl⟩
theorem df__law_is_block {K : PySem.W.Frag} {h : Heap} {mg : Str → Option Value} (X : K.In h) (G : h.Ns mainGlobals mg) (c : He.SaysD hdFa hdFn K) : ∃ fd, Df K mg "_law_is_block" s__law_is_block P__law_is_block fd := by
  obtain ⟨fd, F⟩ := c.def_ 25 (d := dd__law_is_block) rfl
  exact ⟨fd, F, He.glo_ok X G (c.fact 25 (f := .glo "_law_is_block") rfl), F.bindsN fun _ _ _ _ _ _ us hl => match us, hl with | [_], _ => rfl⟩
theorem df__law_is_command {K : PySem.W.Frag} {h : Heap} {mg : Str → Option Value} (X : K.In h) (G : h.Ns mainGlobals mg) (c : He.SaysD hdFa hdFn K) : ∃ fd, Df K mg "_law_is_command" s__law_is_command P__law_is_command fd := by
  obtain ⟨fd, F⟩ := c.def_ 26 (d := dd__law_is_command) rfl
  exact ⟨fd, F, He.glo_ok X G (c.fact 26 (f := .glo "_law_is_command") rfl), F.bindsN fun _ _ _ _ _ _ us hl => match us, hl with | [_], _ => rfl⟩
theorem df__law_is_function {K : PySem.W.Frag} {h : Heap} {mg : Str → Option Value} (X : K.In h) (G : h.Ns mainGlobals mg) (c : He.SaysD hdFa hdFn K) : ∃ fd, Df K mg "_law_is_function" s__law_is_function P__law_is_function fd := by
  obtain ⟨fd, F⟩ := c.def_ 27 (d := dd__law_is_function) rfl
  exact ⟨fd, F, He.glo_ok X G (c.fact 27 (f := .glo "_law_is_function") rfl), F.bindsN fun _ _ _ _ _ _ us hl => match us, hl with | [_], _ => rfl⟩
theorem df__law_is_tree {K : PySem.W.Frag} {h : Heap} {mg : Str → Option Value} (X : K.In h) (G : h.Ns mainGlobals mg) (c : He.SaysD hdFa hdFn K) : ∃ fd, Df K mg "_law_is_tree" s__law_is_tree P__law_is_tree fd := by
  obtain ⟨fd, F⟩ := c.def_ 28 (d := dd__law_is_tree) rfl
  exact ⟨fd, F, He.glo_ok X G (c.fact 28 (f := .glo "_law_is_tree") rfl), F.bindsN fun _ _ _ _ _ _ us hl => match us, hl with | [_], _ => rfl⟩
theorem df__law_pool {K : PySem.W.Frag} {h : Heap} {mg : Str → Option Value} (X : K.In h) (G : h.Ns mainGlobals mg) (c : He.SaysD hdFa hdFn K) : ∃ fd, Df K mg "_law_pool" s__law_pool P__law_pool fd := by
  obtain ⟨fd, F⟩ := c.def_ 29 (d := dd__law_pool) rfl
  exact ⟨fd, F, He.glo_ok X G (c.fact 29 (f := .glo "_law_pool") rfl), F.bindsN fun _ _ _ _ _ _ us hl => match us, hl with | [], _ => rfl⟩
theorem df__law_fresh {K : PySem.W.Frag} {h : Heap} {mg : Str → Option Value} (X : K.In h) (G : h.Ns mainGlobals mg) (c : He.SaysD hdFa hdFn K) : ∃ fd, Df K mg "_law_fresh" s__law_fresh P__law_fresh fd := by
  obtain ⟨fd, F⟩ := c.def_ 30 (d := dd__law_fresh) rfl
  exact ⟨fd, F, He.glo_ok X G (c.fact 30 (f := .glo "_law_fresh") rfl), F.bindsN fun _ _ _ _ _ _ us hl => match us, hl with | [_, _], _ => rfl⟩
theorem df__law_drawn_word {K : PySem.W.Frag} {h : Heap} {mg : Str → Option Value} (X : K.In h) (G : h.Ns mainGlobals mg) (c : He.SaysD hdFa hdFn K) : ∃ fd, Df K mg "_law_drawn_word" s__law_drawn_word P__law_drawn_word fd := by
  obtain ⟨fd, F⟩ := c.def_ 31 (d := dd__law_drawn_word) rfl
  exact ⟨fd, F, He.glo_ok X G (c.fact 31 (f := .glo "_law_drawn_word") rfl), F.bindsN fun _ _ _ _ _ _ us hl => match us, hl with | [_], _ => rfl⟩
theorem df__law_drawn_term {K : PySem.W.Frag} {h : Heap} {mg : Str → Option Value} (X : K.In h) (G : h.Ns mainGlobals mg) (c : He.SaysD hdFa hdFn K) : ∃ fd, Df K mg "_law_drawn_term" s__law_drawn_term P__law_drawn_term fd := by
  obtain ⟨fd, F⟩ := c.def_ 32 (d := dd__law_drawn_term) rfl
  exact ⟨fd, F, He.glo_ok X G (c.fact 32 (f := .glo "_law_drawn_term") rfl), F.bindsN fun _ _ _ _ _ _ us hl => match us, hl with | [_, _, _, _, _], _ => rfl⟩
theorem df__law_drawn_call {K : PySem.W.Frag} {h : Heap} {mg : Str → Option Value} (X : K.In h) (G : h.Ns mainGlobals mg) (c : He.SaysD hdFa hdFn K) : ∃ fd, Df K mg "_law_drawn_call" s__law_drawn_call P__law_drawn_call fd := by
  obtain ⟨fd, F⟩ := c.def_ 33 (d := dd__law_drawn_call) rfl
  exact ⟨fd, F, He.glo_ok X G (c.fact 33 (f := .glo "_law_drawn_call") rfl), F.bindsN fun _ _ _ _ _ _ us hl => match us, hl with | [_, _, _, _, _, _], _ => rfl⟩
theorem df__law_drawn_block {K : PySem.W.Frag} {h : Heap} {mg : Str → Option Value} (X : K.In h) (G : h.Ns mainGlobals mg) (c : He.SaysD hdFa hdFn K) : ∃ fd, Df K mg "_law_drawn_block" s__law_drawn_block P__law_drawn_block fd := by
  obtain ⟨fd, F⟩ := c.def_ 34 (d := dd__law_drawn_block) rfl
  exact ⟨fd, F, He.glo_ok X G (c.fact 34 (f := .glo "_law_drawn_block") rfl), F.bindsN fun _ _ _ _ _ _ us hl => match us, hl with | [_, _, _, _, _], _ => rfl⟩
theorem df__law_drawn_command {K : PySem.W.Frag} {h : Heap} {mg : Str → Option Value} (X : K.In h) (G : h.Ns mainGlobals mg) (c : He.SaysD hdFa hdFn K) : ∃ fd, Df K mg "_law_drawn_command" s__law_drawn_command P__law_drawn_command fd := by
  obtain ⟨fd, F⟩ := c.def_ 35 (d := dd__law_drawn_command) rfl
  exact ⟨fd, F, He.glo_ok X G (c.fact 35 (f := .glo "_law_drawn_command") rfl), F.bindsN fun _ _ _ _ _ _ us hl => match us, hl with | [_, _, _, _, _], _ => rfl⟩
theorem df__law_drawn_function {K : PySem.W.Frag} {h : Heap} {mg : Str → Option Value} (X : K.In h) (G : h.Ns mainGlobals mg) (c : He.SaysD hdFa hdFn K) : ∃ fd, Df K mg "_law_drawn_function" s__law_drawn_function P__law_drawn_function fd := by
  obtain ⟨fd, F⟩ := c.def_ 36 (d := dd__law_drawn_function) rfl
  exact ⟨fd, F, He.glo_ok X G (c.fact 36 (f := .glo "_law_drawn_function") rfl), F.bindsN fun _ _ _ _ _ _ us hl => match us, hl with | [_, _, _, _], _ => rfl⟩
theorem df__law_drawn_program {K : PySem.W.Frag} {h : Heap} {mg : Str → Option Value} (X : K.In h) (G : h.Ns mainGlobals mg) (c : He.SaysD hdFa hdFn K) : ∃ fd, Df K mg "_law_drawn_program" s__law_drawn_program P__law_drawn_program fd := by
  obtain ⟨fd, F⟩ := c.def_ 37 (d := dd__law_drawn_program) rfl
  exact ⟨fd, F, He.glo_ok X G (c.fact 37 (f := .glo "_law_drawn_program") rfl), F.bindsN fun _ _ _ _ _ _ us hl => match us, hl with | [_, _, _], _ => rfl⟩
theorem df__law_with {K : PySem.W.Frag} {h : Heap} {mg : Str → Option Value} (X : K.In h) (G : h.Ns mainGlobals mg) (c : He.SaysD hdFa hdFn K) : ∃ fd, Df K mg "_law_with" s__law_with P__law_with fd := by
  obtain ⟨fd, F⟩ := c.def_ 38 (d := dd__law_with) rfl
  exact ⟨fd, F, He.glo_ok X G (c.fact 38 (f := .glo "_law_with") rfl), F.bindsN fun _ _ _ _ _ _ us hl => match us, hl with | [_, _], _ => rfl⟩
theorem df__law_term_spots {K : PySem.W.Frag} {h : Heap} {mg : Str → Option Value} (X : K.In h) (G : h.Ns mainGlobals mg) (c : He.SaysD hdFa hdFn K) : ∃ fd, Df K mg "_law_term_spots" s__law_term_spots P__law_term_spots fd := by
  obtain ⟨fd, F⟩ := c.def_ 39 (d := dd__law_term_spots) rfl
  exact ⟨fd, F, He.glo_ok X G (c.fact 39 (f := .glo "_law_term_spots") rfl), F.bindsN fun _ _ _ _ _ _ us hl => match us, hl with | [_, _, _], _ => rfl⟩
theorem df__law_block_spots {K : PySem.W.Frag} {h : Heap} {mg : Str → Option Value} (X : K.In h) (G : h.Ns mainGlobals mg) (c : He.SaysD hdFa hdFn K) : ∃ fd, Df K mg "_law_block_spots" s__law_block_spots P__law_block_spots fd := by
  obtain ⟨fd, F⟩ := c.def_ 40 (d := dd__law_block_spots) rfl
  exact ⟨fd, F, He.glo_ok X G (c.fact 40 (f := .glo "_law_block_spots") rfl), F.bindsN fun _ _ _ _ _ _ us hl => match us, hl with | [_, _, _], _ => rfl⟩
theorem df__law_spots {K : PySem.W.Frag} {h : Heap} {mg : Str → Option Value} (X : K.In h) (G : h.Ns mainGlobals mg) (c : He.SaysD hdFa hdFn K) : ∃ fd, Df K mg "_law_spots" s__law_spots P__law_spots fd := by
  obtain ⟨fd, F⟩ := c.def_ 41 (d := dd__law_spots) rfl
  exact ⟨fd, F, He.glo_ok X G (c.fact 41 (f := .glo "_law_spots") rfl), F.bindsN fun _ _ _ _ _ _ us hl => match us, hl with | [_], _ => rfl⟩
theorem df__law_at {K : PySem.W.Frag} {h : Heap} {mg : Str → Option Value} (X : K.In h) (G : h.Ns mainGlobals mg) (c : He.SaysD hdFa hdFn K) : ∃ fd, Df K mg "_law_at" s__law_at P__law_at fd := by
  obtain ⟨fd, F⟩ := c.def_ 42 (d := dd__law_at) rfl
  exact ⟨fd, F, He.glo_ok X G (c.fact 42 (f := .glo "_law_at") rfl), F.bindsN fun _ _ _ _ _ _ us hl => match us, hl with | [_, _], _ => rfl⟩
theorem df__law_odd_string {K : PySem.W.Frag} {h : Heap} {mg : Str → Option Value} (X : K.In h) (G : h.Ns mainGlobals mg) (c : He.SaysD hdFa hdFn K) : ∃ fd, Df K mg "_law_odd_string" s__law_odd_string P__law_odd_string fd := by
  obtain ⟨fd, F⟩ := c.def_ 43 (d := dd__law_odd_string) rfl
  exact ⟨fd, F, He.glo_ok X G (c.fact 43 (f := .glo "_law_odd_string") rfl), F.bindsN fun _ _ _ _ _ _ us hl => match us, hl with | [_], _ => rfl⟩
theorem df__law_spoilt {K : PySem.W.Frag} {h : Heap} {mg : Str → Option Value} (X : K.In h) (G : h.Ns mainGlobals mg) (c : He.SaysD hdFa hdFn K) : ∃ fd, Df K mg "_law_spoilt" s__law_spoilt P__law_spoilt fd := by
  obtain ⟨fd, F⟩ := c.def_ 44 (d := dd__law_spoilt) rfl
  exact ⟨fd, F, He.glo_ok X G (c.fact 44 (f := .glo "_law_spoilt") rfl), F.bindsN fun _ _ _ _ _ _ us hl => match us, hl with | [_, _], _ => rfl⟩
theorem df__law_some_part {K : PySem.W.Frag} {h : Heap} {mg : Str → Option Value} (X : K.In h) (G : h.Ns mainGlobals mg) (c : He.SaysD hdFa hdFn K) : ∃ fd, Df K mg "_law_some_part" s__law_some_part P__law_some_part fd := by
  obtain ⟨fd, F⟩ := c.def_ 45 (d := dd__law_some_part) rfl
  exact ⟨fd, F, He.glo_ok X G (c.fact 45 (f := .glo "_law_some_part") rfl), F.bindsN fun _ _ _ _ _ _ us hl => match us, hl with | [_, _], _ => rfl⟩
theorem df_law {K : PySem.W.Frag} {h : Heap} {mg : Str → Option Value} (X : K.In h) (G : h.Ns mainGlobals mg) (c : He.SaysD hdFa hdFn K) : ∃ fd, Df K mg "law" s_law P_law fd := by
  obtain ⟨fd, F⟩ := c.def_ 46 (d := dd_law) rfl
  exact ⟨fd, F, He.glo_ok X G (c.fact 46 (f := .glo "law") rfl), F.bindsN fun _ _ _ _ _ _ us hl => match us, hl with | [_], _ => rfl⟩
theorem fa_all {K : PySem.W.Frag} {h : Heap} {mg : Str → Option Value} (X : K.In h) (G : h.Ns mainGlobals mg) (c : He.SaysD hdFa hdFn K) : mg "all" = none := He.free_ok X G (c.fact 47 (f := .free "all") rfl)
theorem fa_bool {K : PySem.W.Frag} {h : Heap} {mg : Str → Option Value} (X : K.In h) (G : h.Ns mainGlobals mg) (c : He.SaysD hdFa hdFn K) : mg "bool" = none := He.free_ok X G (c.fact 48 (f := .free "bool") rfl)
theorem fa_dict {K : PySem.W.Frag} {h : Heap} {mg : Str → Option Value} (X : K.In h) (G : h.Ns mainGlobals mg) (c : He.SaysD hdFa hdFn K) : mg "dict" = none := He.free_ok X G (c.fact 49 (f := .free "dict") rfl)
theorem fa_enumerate {K : PySem.W.Frag} {h : Heap} {mg : Str → Option Value} (X : K.In h) (G : h.Ns mainGlobals mg) (c : He.SaysD hdFa hdFn K) : mg "enumerate" = none := He.free_ok X G (c.fact 50 (f := .free "enumerate") rfl)
theorem fa_int {K : PySem.W.Frag} {h : Heap} {mg : Str → Option Value} (X : K.In h) (G : h.Ns mainGlobals mg) (c : He.SaysD hdFa hdFn K) : mg "int" = none := He.free_ok X G (c.fact 51 (f := .free "int") rfl)
theorem fa_isinstance {K : PySem.W.Frag} {h : Heap} {mg : Str → Option Value} (X : K.In h) (G : h.Ns mainGlobals mg) (c : He.SaysD hdFa hdFn K) : mg "isinstance" = none := He.free_ok X G (c.fact 52 (f := .free "isinstance") rfl)
theorem fa_len {K : PySem.W.Frag} {h : Heap} {mg : Str → Option Value} (X : K.In h) (G : h.Ns mainGlobals mg) (c : He.SaysD hdFa hdFn K) : mg "len" = none := He.free_ok X G (c.fact 53 (f := .free "len") rfl)
theorem fa_list {K : PySem.W.Frag} {h : Heap} {mg : Str → Option Value} (X : K.In h) (G : h.Ns mainGlobals mg) (c : He.SaysD hdFa hdFn K) : mg "list" = none := He.free_ok X G (c.fact 54 (f := .free "list") rfl)
theorem fa_max {K : PySem.W.Frag} {h : Heap} {mg : Str → Option Value} (X : K.In h) (G : h.Ns mainGlobals mg) (c : He.SaysD hdFa hdFn K) : mg "max" = none := He.free_ok X G (c.fact 55 (f := .free "max") rfl)
theorem fa_range {K : PySem.W.Frag} {h : Heap} {mg : Str → Option Value} (X : K.In h) (G : h.Ns mainGlobals mg) (c : He.SaysD hdFa hdFn K) : mg "range" = none := He.free_ok X G (c.fact 56 (f := .free "range") rfl)
theorem fa_repr {K : PySem.W.Frag} {h : Heap} {mg : Str → Option Value} (X : K.In h) (G : h.Ns mainGlobals mg) (c : He.SaysD hdFa hdFn K) : mg "repr" = none := He.free_ok X G (c.fact 57 (f := .free "repr") rfl)
theorem fa_str {K : PySem.W.Frag} {h : Heap} {mg : Str → Option Value} (X : K.In h) (G : h.Ns mainGlobals mg) (c : He.SaysD hdFa hdFn K) : mg "str" = none := He.free_ok X G (c.fact 58 (f := .free "str") rfl)
theorem fa_tuple {K : PySem.W.Frag} {h : Heap} {mg : Str → Option Value} (X : K.In h) (G : h.Ns mainGlobals mg) (c : He.SaysD hdFa hdFn K) : mg "tuple" = none := He.free_ok X G (c.fact 59 (f := .free "tuple") rfl)
theorem fa_KEPT_WORDS {K : PySem.W.Frag} {h : Heap} {mg : Str → Option Value} (X : K.In h) (G : h.Ns mainGlobals mg) (c : He.SaysD hdFa hdFn K) : mg "KEPT_WORDS" = some (.ref (He.ga K "KEPT_WORDS")) := He.glo_ok X G (c.fact 60 (f := .glo "KEPT_WORDS") rfl)
theorem fa_LETTERS {K : PySem.W.Frag} {h : Heap} {mg : Str → Option Value} (X : K.In h) (G : h.Ns mainGlobals mg) (c : He.SaysD hdFa hdFn K) : ∃ t, mg "LETTERS" = some (.str "abcdefghijklmnopqrstuvwxyz" t) := He.str_ok X G (c.fact 61 (f := .str "LETTERS" "abcdefghijklmnopqrstuvwxyz") rfl)
theorem fa_SIGNS {K : PySem.W.Frag} {h : Heap} {mg : Str → Option Value} (X : K.In h) (G : h.Ns mainGlobals mg) (c : He.SaysD hdFa hdFn K) : ∃ t, mg "SIGNS" = some (.str "abcdefghijklmnopqrstuvwxyz0123456789_" t) := He.str_ok X G (c.fact 62 (f := .str "SIGNS" "abcdefghijklmnopqrstuvwxyz0123456789_") rfl)
theorem fa_LONGEST_NAME {K : PySem.W.Frag} {h : Heap} {mg : Str → Option Value} (X : K.In h) (G : h.Ns mainGlobals mg) (c : He.SaysD hdFa hdFn K) : ∃ t, mg "LONGEST_NAME" = some (.int 20 t) := He.int_ok X G (c.fact 63 (f := .int "LONGEST_NAME" 20) rfl)
section
variable {K : PySem.W.Frag} {x qual : Str} {params : Arguments} {body : List Stmt} {scope : Scope} {f : Addr} {fd : FuncData} {ps ks : List Str}
theorem kb0_of (F : FunD K x qual params body scope [] [] f fd)
    (h : ∀ (kV doc pm : Value) (an : Option Addr) (cdv ct : Value) (ws : List Value), ws.length = ps.length → bindArgs (PySem.W.fnOf x qual params body scope .none kV doc pm an cdv ct) ⟨[], ks.zip ws⟩ = pure (ps.zip ws)) : KB0 fd ps ks (fun l => l) := by
  obtain ⟨oc, od, dV, kV, doc, pm, an, cdv, ct, osl, rfl, lk, hcd, hD, hK⟩ := F.ex
  rcases hD with ⟨_, rfl⟩ | ⟨e, _⟩
  · exact ⟨fun s ws hl => .of_eq (h kV doc pm an cdv ct ws hl), fun r => r⟩
  · exact absurd rfl e
end
/-- a def's datum, by its name -/
def lk (d : FuncData) : List Str → List FuncData → Str → FuncData
  | a :: r, f :: g, n => if n = a then f else lk d r g n
  | _, _, _ => d
theorem lk_at {d : FuncData} : ∀ {ns : List Str} {fs : List FuncData} {n : Str} {f : FuncData} (i : Nat), fs[i]? = some f → ns[i]? = some n → (ns.take i).all (fun a => decide (a ≠ n)) = true → lk d ns fs n = f
  | [], _, _, _, i, _, h, _ => by simp at h
  | _ :: _, [], _, _, i, h, _, _ => by simp at h
  | a :: r, g :: t, n, f, 0, h1, h2, _ => by
    cases h1
    cases h2
    unfold lk
    rw [if_pos rfl]
  | a :: r, g :: t, n, f, i + 1, h1, h2, h3 => by
    rw [List.take_succ_cons, List.all_cons, Bool.and_eq_true] at h3
    unfold lk
    rw [if_neg (Ne.symm (of_decide_eq_true h3.1))]
    exact lk_at i h1 h2 h3.2

def names : List Str := [("is_word" : Str), ("is_name" : Str), ("is_term" : Str), ("is_command" : Str), ("is_tree" : Str), ("are_names" : Str), ("are_terms" : Str), ("fits_term" : Str), ("fits_call" : Str), ("fits_command" : Str), ("fits_block" : Str), ("fits_function" : Str), ("_law_deck" : Str), ("_law_draw" : Str), ("_law_pick" : Str), ("_law_is_integer" : Str), ("_law_any" : Str), ("_law_instead" : Str), ("_law_bent" : Str), ("_law_words" : Str), ("_law_is_word" : Str), ("_law_is_name" : Str), ("_law_are_names" : Str), ("_law_are_terms" : Str), ("_law_is_term" : Str), ("_law_is_block" : Str), ("_law_is_command" : Str), ("_law_is_function" : Str), ("_law_is_tree" : Str), ("_law_pool" : Str), ("_law_fresh" : Str), ("_law_drawn_word" : Str), ("_law_drawn_term" : Str), ("_law_drawn_call" : Str), ("_law_drawn_block" : Str), ("_law_drawn_command" : Str), ("_law_drawn_function" : Str), ("_law_drawn_program" : Str), ("_law_with" : Str), ("_law_term_spots" : Str), ("_law_block_spots" : Str), ("_law_spots" : Str), ("_law_at" : Str), ("_law_odd_string" : Str), ("_law_spoilt" : Str), ("_law_some_part" : Str), ("law" : Str)]
def tabsN : List Str := ["is_name", "are_names", "are_terms", "fits_call", "fits_command", "fits_block", "fits_function", "is_tree"]
theorem tb_of {K : PySem.W.Frag} {h : Heap} {mg : Str → Option Value} (X : K.In h) (G : h.Ns mainGlobals mg) (c : He.SaysD hdFa hdFn K) : Tb mg where
  int := fa_int X G c
  list := fa_list X G c
  max := fa_max X G c
  len := fa_len X G c
  range := fa_range X G c
  tuple := fa_tuple X G c
  str := fa_str X G c
  isinstance := fa_isinstance X G c
  repr := fa_repr X G c
  all := fa_all X G c
  LN := fa_LONGEST_NAME X G c
  LE := fa_LETTERS X G c
  SI := fa_SIGNS X G c
theorem law_g {q : PySem.W.OpenLaw} {w : World} {h : Heap} {K : PySem.W.Frag} {mg : Str → Option Value} {fa : Addr} (X : K.In h) (G : h.Ns mainGlobals mg) (c : He.SaysX hdFa hdFn [] hdTf hdEx w h K) (hfa : mg ("law" : Str) = some (.ref fa)) :
    LawG q w K 230 63 "_law_script" mg fa h := by
  have cd := c.t.d
  obtain ⟨f0, E0⟩ := df_is_word X G cd
  obtain ⟨f1, E1⟩ := df_is_name X G cd
  obtain ⟨f2, E2⟩ := df_is_term X G cd
  obtain ⟨f3, E3⟩ := df_is_command X G cd
  obtain ⟨f4, E4⟩ := df_is_tree X G cd
  obtain ⟨f5, E5⟩ := df_are_names X G cd
  obtain ⟨f6, E6⟩ := df_are_terms X G cd
  obtain ⟨f7, E7⟩ := df_fits_term X G cd
  obtain ⟨f8, E8⟩ := df_fits_call X G cd
  obtain ⟨f9, E9⟩ := df_fits_command X G cd
  obtain ⟨f10, E10⟩ := df_fits_block X G cd
  obtain ⟨f11, E11⟩ := df_fits_function X G cd
  obtain ⟨f12, E12⟩ := df__law_deck X G cd
  obtain ⟨f13, E13⟩ := df__law_draw X G cd
  obtain ⟨f14, E14⟩ := df__law_pick X G cd
  obtain ⟨f15, E15⟩ := df__law_is_integer X G cd
  obtain ⟨f16, E16⟩ := df__law_any X G cd
  obtain ⟨f17, E17⟩ := df__law_instead X G cd
  obtain ⟨f18, E18⟩ := df__law_bent X G cd
  obtain ⟨f19, E19⟩ := df__law_words X G cd
  obtain ⟨f20, E20⟩ := df__law_is_word X G cd
  obtain ⟨f21, E21⟩ := df__law_is_name X G cd
  obtain ⟨f22, E22⟩ := df__law_are_names X G cd
  obtain ⟨f23, E23⟩ := df__law_are_terms X G cd
  obtain ⟨f24, E24⟩ := df__law_is_term X G cd
  obtain ⟨f25, E25⟩ := df__law_is_block X G cd
  obtain ⟨f26, E26⟩ := df__law_is_command X G cd
  obtain ⟨f27, E27⟩ := df__law_is_function X G cd
  obtain ⟨f28, E28⟩ := df__law_is_tree X G cd
  obtain ⟨f29, E29⟩ := df__law_pool X G cd
  obtain ⟨f30, E30⟩ := df__law_fresh X G cd
  obtain ⟨f31, E31⟩ := df__law_drawn_word X G cd
  obtain ⟨f32, E32⟩ := df__law_drawn_term X G cd
  obtain ⟨f33, E33⟩ := df__law_drawn_call X G cd
  obtain ⟨f34, E34⟩ := df__law_drawn_block X G cd
  obtain ⟨f35, E35⟩ := df__law_drawn_command X G cd
  obtain ⟨f36, E36⟩ := df__law_drawn_function X G cd
  obtain ⟨f37, E37⟩ := df__law_drawn_program X G cd
  obtain ⟨f38, E38⟩ := df__law_with X G cd
  obtain ⟨f39, E39⟩ := df__law_term_spots X G cd
  obtain ⟨f40, E40⟩ := df__law_block_spots X G cd
  obtain ⟨f41, E41⟩ := df__law_spots X G cd
  obtain ⟨f42, E42⟩ := df__law_at X G cd
  obtain ⟨f43, E43⟩ := df__law_odd_string X G cd
  obtain ⟨f44, E44⟩ := df__law_spoilt X G cd
  obtain ⟨f45, E45⟩ := df__law_some_part X G cd
  obtain ⟨f46, E46⟩ := df_law X G cd
  let fl : Str → FuncData := lk f0 names [f0, f1, f2, f3, f4, f5, f6, f7, f8, f9, f10, f11, f12, f13, f14, f15, f16, f17, f18, f19, f20, f21, f22, f23, f24, f25, f26, f27, f28, f29, f30, f31, f32, f33, f34, f35, f36, f37, f38, f39, f40, f41, f42, f43, f44, f45, f46]
  have D_is_word : Df K mg "is_word" s_is_word P_is_word (fl "is_word") := by
    rw [show fl "is_word" = f0 from lk_at 0 rfl rfl (by decide +kernel)]
    exact E0
  have D_is_name : Df K mg "is_name" s_is_name P_is_name (fl "is_name") := by
    rw [show fl "is_name" = f1 from lk_at 1 rfl rfl (by decide +kernel)]
    exact E1
  have D_is_term : Df K mg "is_term" s_is_term P_is_term (fl "is_term") := by
    rw [show fl "is_term" = f2 from lk_at 2 rfl rfl (by decide +kernel)]
    exact E2
  have D_is_command : Df K mg "is_command" s_is_command P_is_command (fl "is_command") := by
    rw [show fl "is_command" = f3 from lk_at 3 rfl rfl (by decide +kernel)]
    exact E3
  have D_is_tree : Df K mg "is_tree" s_is_tree P_is_tree (fl "is_tree") := by
    rw [show fl "is_tree" = f4 from lk_at 4 rfl rfl (by decide +kernel)]
    exact E4
  have D_are_names : Df K mg "are_names" s_are_names P_are_names (fl "are_names") := by
    rw [show fl "are_names" = f5 from lk_at 5 rfl rfl (by decide +kernel)]
    exact E5
  have D_are_terms : Df K mg "are_terms" s_are_terms P_are_terms (fl "are_terms") := by
    rw [show fl "are_terms" = f6 from lk_at 6 rfl rfl (by decide +kernel)]
    exact E6
  have D_fits_term : Df K mg "fits_term" s_fits_term P_fits_term (fl "fits_term") := by
    rw [show fl "fits_term" = f7 from lk_at 7 rfl rfl (by decide +kernel)]
    exact E7
  have D_fits_call : Df K mg "fits_call" s_fits_call P_fits_call (fl "fits_call") := by
    rw [show fl "fits_call" = f8 from lk_at 8 rfl rfl (by decide +kernel)]
    exact E8
  have D_fits_command : Df K mg "fits_command" s_fits_command P_fits_command (fl "fits_command") := by
    rw [show fl "fits_command" = f9 from lk_at 9 rfl rfl (by decide +kernel)]
    exact E9
  have D_fits_block : Df K mg "fits_block" s_fits_block P_fits_block (fl "fits_block") := by
    rw [show fl "fits_block" = f10 from lk_at 10 rfl rfl (by decide +kernel)]
    exact E10
  have D_fits_function : Df K mg "fits_function" s_fits_function P_fits_function (fl "fits_function") := by
    rw [show fl "fits_function" = f11 from lk_at 11 rfl rfl (by decide +kernel)]
    exact E11
  have D__law_deck : Df K mg "_law_deck" s__law_deck P__law_deck (fl "_law_deck") := by
    rw [show fl "_law_deck" = f12 from lk_at 12 rfl rfl (by decide +kernel)]
    exact E12
  have D__law_draw : Df K mg "_law_draw" s__law_draw P__law_draw (fl "_law_draw") := by
    rw [show fl "_law_draw" = f13 from lk_at 13 rfl rfl (by decide +kernel)]
    exact E13
  have D__law_pick : Df K mg "_law_pick" s__law_pick P__law_pick (fl "_law_pick") := by
    rw [show fl "_law_pick" = f14 from lk_at 14 rfl rfl (by decide +kernel)]
    exact E14
  have D__law_is_integer : Df K mg "_law_is_integer" s__law_is_integer P__law_is_integer (fl "_law_is_integer") := by
    rw [show fl "_law_is_integer" = f15 from lk_at 15 rfl rfl (by decide +kernel)]
    exact E15
  have D__law_any : Df K mg "_law_any" s__law_any P__law_any (fl "_law_any") := by
    rw [show fl "_law_any" = f16 from lk_at 16 rfl rfl (by decide +kernel)]
    exact E16
  have D__law_instead : Df K mg "_law_instead" s__law_instead P__law_instead (fl "_law_instead") := by
    rw [show fl "_law_instead" = f17 from lk_at 17 rfl rfl (by decide +kernel)]
    exact E17
  have D__law_bent : Df K mg "_law_bent" s__law_bent P__law_bent (fl "_law_bent") := by
    rw [show fl "_law_bent" = f18 from lk_at 18 rfl rfl (by decide +kernel)]
    exact E18
  have D__law_words : Df K mg "_law_words" s__law_words P__law_words (fl "_law_words") := by
    rw [show fl "_law_words" = f19 from lk_at 19 rfl rfl (by decide +kernel)]
    exact E19
  have D__law_is_word : Df K mg "_law_is_word" s__law_is_word P__law_is_word (fl "_law_is_word") := by
    rw [show fl "_law_is_word" = f20 from lk_at 20 rfl rfl (by decide +kernel)]
    exact E20
  have D__law_is_name : Df K mg "_law_is_name" s__law_is_name P__law_is_name (fl "_law_is_name") := by
    rw [show fl "_law_is_name" = f21 from lk_at 21 rfl rfl (by decide +kernel)]
    exact E21
  have D__law_are_names : Df K mg "_law_are_names" s__law_are_names P__law_are_names (fl "_law_are_names") := by
    rw [show fl "_law_are_names" = f22 from lk_at 22 rfl rfl (by decide +kernel)]
    exact E22
  have D__law_are_terms : Df K mg "_law_are_terms" s__law_are_terms P__law_are_terms (fl "_law_are_terms") := by
    rw [show fl "_law_are_terms" = f23 from lk_at 23 rfl rfl (by decide +kernel)]
    exact E23
  have D__law_is_term : Df K mg "_law_is_term" s__law_is_term P__law_is_term (fl "_law_is_term") := by
    rw [show fl "_law_is_term" = f24 from lk_at 24 rfl rfl (by decide +kernel)]
    exact E24
  have D__law_is_block : Df K mg "_law_is_block" s__law_is_block P__law_is_block (fl "_law_is_block") := by
    rw [show fl "_law_is_block" = f25 from lk_at 25 rfl rfl (by decide +kernel)]
    exact E25
  have D__law_is_command : Df K mg "_law_is_command" s__law_is_command P__law_is_command (fl "_law_is_command") := by
    rw [show fl "_law_is_command" = f26 from lk_at 26 rfl rfl (by decide +kernel)]
    exact E26
  have D__law_is_function : Df K mg "_law_is_function" s__law_is_function P__law_is_function (fl "_law_is_function") := by
    rw [show fl "_law_is_function" = f27 from lk_at 27 rfl rfl (by decide +kernel)]
    exact E27
  have D__law_is_tree : Df K mg "_law_is_tree" s__law_is_tree P__law_is_tree (fl "_law_is_tree") := by
    rw [show fl "_law_is_tree" = f28 from lk_at 28 rfl rfl (by decide +kernel)]
    exact E28
  have D__law_pool : Df K mg "_law_pool" s__law_pool P__law_pool (fl "_law_pool") := by
    rw [show fl "_law_pool" = f29 from lk_at 29 rfl rfl (by decide +kernel)]
    exact E29
  have D__law_fresh : Df K mg "_law_fresh" s__law_fresh P__law_fresh (fl "_law_fresh") := by
    rw [show fl "_law_fresh" = f30 from lk_at 30 rfl rfl (by decide +kernel)]
    exact E30
  have D__law_drawn_word : Df K mg "_law_drawn_word" s__law_drawn_word P__law_drawn_word (fl "_law_drawn_word") := by
    rw [show fl "_law_drawn_word" = f31 from lk_at 31 rfl rfl (by decide +kernel)]
    exact E31
  have D__law_drawn_term : Df K mg "_law_drawn_term" s__law_drawn_term P__law_drawn_term (fl "_law_drawn_term") := by
    rw [show fl "_law_drawn_term" = f32 from lk_at 32 rfl rfl (by decide +kernel)]
    exact E32
  have D__law_drawn_call : Df K mg "_law_drawn_call" s__law_drawn_call P__law_drawn_call (fl "_law_drawn_call") := by
    rw [show fl "_law_drawn_call" = f33 from lk_at 33 rfl rfl (by decide +kernel)]
    exact E33
  have D__law_drawn_block : Df K mg "_law_drawn_block" s__law_drawn_block P__law_drawn_block (fl "_law_drawn_block") := by
    rw [show fl "_law_drawn_block" = f34 from lk_at 34 rfl rfl (by decide +kernel)]
    exact E34
  have D__law_drawn_command : Df K mg "_law_drawn_command" s__law_drawn_command P__law_drawn_command (fl "_law_drawn_command") := by
    rw [show fl "_law_drawn_command" = f35 from lk_at 35 rfl rfl (by decide +kernel)]
    exact E35
  have D__law_drawn_function : Df K mg "_law_drawn_function" s__law_drawn_function P__law_drawn_function (fl "_law_drawn_function") := by
    rw [show fl "_law_drawn_function" = f36 from lk_at 36 rfl rfl (by decide +kernel)]
    exact E36
  have D__law_drawn_program : Df K mg "_law_drawn_program" s__law_drawn_program P__law_drawn_program (fl "_law_drawn_program") := by
    rw [show fl "_law_drawn_program" = f37 from lk_at 37 rfl rfl (by decide +kernel)]
    exact E37
  have D__law_with : Df K mg "_law_with" s__law_with P__law_with (fl "_law_with") := by
    rw [show fl "_law_with" = f38 from lk_at 38 rfl rfl (by decide +kernel)]
    exact E38
  have D__law_term_spots : Df K mg "_law_term_spots" s__law_term_spots P__law_term_spots (fl "_law_term_spots") := by
    rw [show fl "_law_term_spots" = f39 from lk_at 39 rfl rfl (by decide +kernel)]
    exact E39
  have D__law_block_spots : Df K mg "_law_block_spots" s__law_block_spots P__law_block_spots (fl "_law_block_spots") := by
    rw [show fl "_law_block_spots" = f40 from lk_at 40 rfl rfl (by decide +kernel)]
    exact E40
  have D__law_spots : Df K mg "_law_spots" s__law_spots P__law_spots (fl "_law_spots") := by
    rw [show fl "_law_spots" = f41 from lk_at 41 rfl rfl (by decide +kernel)]
    exact E41
  have D__law_at : Df K mg "_law_at" s__law_at P__law_at (fl "_law_at") := by
    rw [show fl "_law_at" = f42 from lk_at 42 rfl rfl (by decide +kernel)]
    exact E42
  have D__law_odd_string : Df K mg "_law_odd_string" s__law_odd_string P__law_odd_string (fl "_law_odd_string") := by
    rw [show fl "_law_odd_string" = f43 from lk_at 43 rfl rfl (by decide +kernel)]
    exact E43
  have D__law_spoilt : Df K mg "_law_spoilt" s__law_spoilt P__law_spoilt (fl "_law_spoilt") := by
    rw [show fl "_law_spoilt" = f44 from lk_at 44 rfl rfl (by decide +kernel)]
    exact E44
  have D__law_some_part : Df K mg "_law_some_part" s__law_some_part P__law_some_part (fl "_law_some_part") := by
    rw [show fl "_law_some_part" = f45 from lk_at 45 rfl rfl (by decide +kernel)]
    exact E45
  have D_law : Df K mg "law" s_law P_law (fl "law") := by
    rw [show fl "law" = f46 from lk_at 46 rfl rfl (by decide +kernel)]
    exact E46
  have T := tb_of X G cd
  have TF_ : TbF mg := { toTb := T, dict := fa_dict X G cd, enumerate := fa_enumerate X G cd }
  have TX_ : TbX mg := { toTb := T, bool := fa_bool X G cd }
  have lw : Lw K mg := ⟨fl, D__law_words, D__law_is_word, D__law_is_name, D__law_are_names, D__law_are_terms, D__law_is_term, D__law_is_block, D__law_is_command, D__law_is_function, D__law_is_tree⟩
  have x3 : Dx3 K mg := ⟨⟨⟨T, fl, D__law_draw, D__law_pick, D__law_drawn_word, D__law_fresh, D__law_drawn_term, D__law_drawn_call⟩, fl, D__law_drawn_block, D__law_drawn_command⟩, fl, D__law_pool, D__law_drawn_function, D__law_drawn_program⟩
  have e := hfa.symm.trans D_law.g
  cases e
  let cs : List (Addr × Addr) := tabsN.map fun x => He.cT K (x, none)
  have hm : ∀ p ∈ cs, ∃ x, ((x, none) : He.Defn) ∈ hdTf ∧ p = He.cT K (x, none) := fun p hp => by
    obtain ⟨x, hx, rfl⟩ := List.mem_map.mp hp
    refine ⟨x, ?_, rfl⟩
    have : hdTf = tabsN.map fun y => ((y, none) : He.Defn) := rfl
    rw [this]
    exact List.mem_map.mpr ⟨x, hx, rfl⟩
  refine ⟨fl "law", cs, spLaw K (cs.map (·.2)), ?_, ?_, ?_, ?_, ?_, ?_⟩
  · intro p hp
    obtain ⟨x, hx, rfl⟩ := hm p hp
    exact c.empty _ hx
  · intro p hp
    obtain ⟨x, hx, rfl⟩ := hm p hp
    exact c.out _ hx
  · intro p hp
    obtain ⟨x, hx, rfl⟩ := hm p hp
    exact PySem.W.codeHd_of_K X (c.hd _ hx)
  · intro s u
    exact FunD.bindsA (ps := ["_law_script"]) D_law.F (fun _ _ _ _ _ _ us hl => match us, hl with | [_], _ => rfl) s [u] rfl
  · intro H a ns hl hb hT hS
    refine ⟨a, ns, rfl, hS, fun P hP => ?_, fun _ => rfl⟩
    obtain ⟨p, hp, rfl⟩ := List.mem_map.mp hP
    exact ⟨#[], hT p hp, trivial⟩
  · intro base hb hn hmods hT
    let pr : Pr K mg base (cs.map (·.2)) := ⟨T, _, fa_KEPT_WORDS X G cd, fun H => He.tupB_ok (vs := keptL.map He.Dv.str) c.more H, fl, D_is_word, D_is_name, D_are_names, D_are_terms, D_fits_term, D_fits_call, D_fits_command, D_fits_block, D_fits_function, D_is_term, D_is_command, D_is_tree,
      fun x hx => ⟨List.mem_map.mpr ⟨He.cT K (x, none), List.mem_map.mpr ⟨x, hx, rfl⟩, rfl⟩, hT _ (List.mem_map.mpr ⟨x, hx, rfl⟩)⟩⟩
    exact ok_law pr lw TF_ TX_ x3 hmods D_law D__law_deck D__law_draw D__law_pick D__law_is_integer D__law_any D__law_instead D__law_bent D__law_odd_string D__law_spoilt D__law_term_spots D__law_with D__law_block_spots D__law_spots D__law_at D__law_some_part
      (kb0_of D_is_term.F fun _ _ _ _ _ _ ws hl => match ws, hl with | [_], _ => rfl) (kb0_of D_is_command.F fun _ _ _ _ _ _ ws hl => match ws, hl with | [_], _ => rfl) (kb0_of D_is_tree.F fun _ _ _ _ _ _ ws hl => match ws, hl with | [_], _ => rfl)
end TZ
open PySem PySem.W PySem.Calls PyProof.Rows
theorem PySem.Challenge.cw_quicktongue_k02_trees_of_any_values_holds : PySem.Challenge.rw_quicktongue_k02_trees_of_any_values.Holds := by
  w_on; o_law
  refine HandSHeadRun.head_any (r := OpenLaw.row PySem.Challenge.rw_quicktongue_k02_trees_of_any_values) (q := view (OpenLaw.row PySem.Challenge.rw_quicktongue_k02_trees_of_any_values).prog [52]) (H := TZ.hdK) (ob := TZ.hdOb) (M := 2000) (loose := TZ.hdLoose) (d := HandSHeadRun.topDef (OpenLaw.row PySem.Challenge.rw_quicktongue_k02_trees_of_any_values).prog 52) (kwd := []) TZ.hdOb_eq
    (by kernel_rfl) (fun s => by kernel_rfl) TZ.hdRun (by kernel_rfl) (by kernel_rfl) (by kernel_rfl) (by rfl) (by first | assumption | decide +kernel) (by decide +kernel) ⟨rfl, rfl, rfl, rfl, rfl, by decide +kernel⟩ ?hw ?hc
  case hw => w_witness2
  case hc =>
    refine KT.walkG (l := PySem.Challenge.rw_quicktongue_k02_trees_of_any_values) (n := 63) (k := 230) (x := "_law_script") rfl (by decide) (by kernel_rfl) (by kernel_rfl) ⟨rfl, by decide, by decide⟩ ?F
    intro w mg fa h Y G hmg0
    obtain ⟨K, KX, c⟩ := Y
    have hmg : mg ("law" : PySem.Str) = some (.ref fa) := by
      have e : (HandSHeadRun.topDef (OpenLaw.row PySem.Challenge.rw_quicktongue_k02_trees_of_any_values).prog 52).name = ("law" : PySem.Str) := by kernel_rfl
      rw [← e]
      exact hmg0
    exact ⟨K, KX, TZ.law_g KX G c hmg⟩




import PyProof.Rows.All
import Wide.All
import OpenK.AllK
import Wide.FinOn
import HandS.ExcCtx
import HandS.HotCalls
import HandS.ExcValue
import HandS.ForMost
import HandS.Defaults
import HandS.Wide
import HandS.IsInst
import HandS.EndTab
import HandS.Gcd
import HandS.AnyAll
import HandS.GenOver
import HandS.SetFor
import HandS.NoneIn
import HandS.HeadWalk
import HandS.Style
import HandS.Zip
import PyProof.SumAny
import HandS.TupAny
import PyProof.ListTruth
import HandS.Conv
import HandS.Deep
import HandS.TupSets
import HandS.Iter
import HandS.Exc
import HandS.ExcOwn
import HandS.ExcIs
import HandS.HeadHook4
import HandS.Dict
import KE.KDictZip
import HandS.ListItems
import HandS.TupMul
import HandS.Comp
import PyProof.NeKinds
import HandS.ExcInit
import HandS.ExcField
import KE.KExcIs
import HandS.HeadHook1
import HandS.HeadHook2
import KE.KStateDown
import HandS.Head0
import HandS.Head1
import HandS.Head2
import HandS.HeadEnd
import HandS.HeadHook3
import HandS.NestedK
import PySem.Challenge.RW_soldrises_k23_refusals_with_fields

set_option Elab.async false
set_option linter.all false
set_option maxRecDepth 100000
set_option maxHeartbeats 2000000
/-! an error that is kept as a value behind its clause -/
namespace KeE
open PySem PySem.Spec PyProof.Rows L2
/-- an exception of the class cls that lies at a -/
def ExK (cls : Value) (d : Option Addr) (a : Addr) : HO := .ext fun h => ∃ (o : Obj) (vs : Array Value), h.get? a = some o ∧ Zc cls d o ∧ o.data = .fields vs
theorem exk_ok {P : Program} {w : World} {H : Hp} {h : Heap} {a : Addr} {cls : Value} {d : Option Addr} {o : Obj} {vs : Array Value} (e : h.get? a = some o) (z : Zc cls d o) (q : o.data = .fields vs) : ObjOk P w H h a (ExK cls d a) :=
  ⟨⟨o, vs, e, z, q⟩, ⟨o, e⟩, fun _ _ ⟨o', vs', e', r⟩ k => ⟨o', vs', k o' e', r⟩⟩
section
variable {X : Cx} {pins : List (Addr × Obj)} {σ : L2.St} {H : Hp} {s : Shared} {a : Addr} {oe : Obj} {u : HO}
/-- what was pinned is known from here on -/
theorem track (I : Inv X ((a, oe) :: pins) σ H s) (fresh : ∀ q, X.s_0.heap.get? a = some q → a ∉ X.ex → False) (apart : ∀ p ∈ X.pn ++ pins, p.1 ≠ a) (new : ObjOk X.prog X.w (upd H a u) s.heap a u) : Inv X pins σ (upd H a u) s := by
  obtain ⟨g1, g2, g3, g4, g5⟩ := I.pin (a, oe) (List.mem_append_right _ List.mem_cons_self)
  have ne : ∀ {b : Addr} {v : HO}, H b = some v → b ≠ a := fun {b v} e z => by rw [z, show H a = none from g2] at e; cases e
  have non : ∀ {b : Addr}, H b = none → b ≠ a → upd H a u b = none := fun {b} e z => by rw [upd_ne z]; exact e
  refine { ok := I.ok, os := I.os, bare := I.bare, loc := I.loc, cell := I.cell, len := I.len, hok := I.hok.laidN (fun _ _ q => q) g2 new, base := ?_, free := non I.free (Ne.symm g3), freeC := ?_, pin := ?_ }
  · refine ⟨I.base.keep, I.base.slot, fun b o e n x => ?_, I.base.there, fun b xs e => ?_, fun b o v e => ?_, fun b ps e => ?_⟩
    · by_cases z : b = a
      · subst z; exact (fresh o e x).elim
      · exact non (I.base.free b o e n x) z
    · have e2 := I.base.tups b xs e
      rw [upd_ne (ne e2)]; exact e2
    · have e2 := I.base.frzs b o v e
      rw [upd_ne (ne e2)]; exact e2
    · obtain ⟨more, e2⟩ := I.base.tbls b ps e
      exact ⟨more, by rw [upd_ne (ne e2)]; exact e2⟩
  · intro y c e
    obtain ⟨w, z⟩ := I.cell y c e
    refine non (I.freeC y c e) fun h => ?_
    subst h
    obtain ⟨oc, h1, h2⟩ := z
    rw [show s.heap.get? c = some oe from g1] at h1
    cases h1
    exact g5 w h2
  · intro p hp
    have hp2 : p ∈ X.pn ++ (a, oe) :: pins := by
      rcases List.mem_append.mp hp with m | m
      · exact List.mem_append_left _ m
      · exact List.mem_append_right _ (List.mem_cons_of_mem _ m)
    obtain ⟨p1, p2, p3, p4, p5⟩ := I.pin p hp2
    exact ⟨p1, non p2 (apart p hp), p3, p4, p5⟩
end
/-- what the clause wishes: behind the suite the error is known -/
def wKeep (K : PySem.W.Frag) (c : Value) (i : Nat) (ts : Addr → Value → Option Addr → TS) (Wo : WX) (D : Ends) : WX := fun cls d σ H =>
  ∃ b, PySem.W.exmOne K cls c = some b ∧ (b = false → Wo cls d σ H) ∧
    (b = true → ∀ a, H a = none → ts a cls d { nx := fun σ1 H1 => H1 a = none → D.nx (σ1.set i none) (upd H1 a (ExK cls d a)), rt := fun _ _ => False, bk := fun _ _ => False, ct := fun _ _ => False } (σ.set i (some (.ref a))) H)
section
variable {X : Cx} {x n : Str} {c : Value} {i : Nat} {body suite : List Stmt} {st : Stmt} {np pos pos' : Pos} {tb : WX → TS} {ts : Addr → Value → Option Addr → TS} {Wo : WX}
theorem ps_try_keep (stk : X.stack = X.env :: X.outer) (fr : X.env.frame = some X.env.locals) (nd : X.N.Nodup) (at_ : X.N[i]? = some n) (lc : X.env.kindOf n = some .local) (nm : Names X x c) (tk : L2N.Takes X Wo)
    (hb : ∀ (W : WX) (pn : List (Addr × Obj)) (xe : Value → Shared → Prop), L2N.Takes (X.tr pn xe) W → PassesOwn (model X.prog X.w) X.A X.env xe → PSs (X.tr pn xe) body (tb W))
    (hsu : ∀ (a : Addr) (oe : Obj) (cls : Value) (d : Option Addr) (pn : List (Addr × Obj)), L2N.Zn cls d oe → (∃ vs, oe.data = .fields vs) → PSs (X.suite a ((a, oe) :: pn)) (st :: suite) (ts a cls d)) :
    PS X (.Try body [.ExceptHandler (some (.Name x np)) (some n) (st :: suite) pos'] [] [] pos) (fun D σ H => tb (wKeep X.K c i ts Wo D) D σ H) := by
  refine ⟨fun pins s0 σ0 H0 D I0 wish => ?_⟩
  have ok := I0.ok
  have frs2 : X.A.frames = some (X.env :: X.outer) := ok.frames.trans (congrArg some stk)
  refine wpAny_Try_except (wpAny_mono ((hb (wKeep X.K c i ts Wo D) (X.pn ++ pins) (fun e s₁ => wpAny (model X.prog X.w) X.A (noteFrame e X.env) (fun _ s₂ => wpAny (model X.prog X.w) X.A (setFlight e none) (fun _ s₃ => wpAny (model X.prog X.w) X.A (handleBy e X.env [.ExceptHandler (some (.Name x np)) (some n) (st :: suite) pos']) (SP X pins D) X.xe s₃) X.xe s₂) X.xe s₁) (fun u se ex => ?_) PassesOwn.looking).run [] s0 σ0 H0 D (I0.toTry _) wish) (fun f se hf => ?_) (fun e se he => he))
  · obtain ⟨a, B, sI, _, σ1, H1, cls, d, rfl, J0, nb, up, sky, na, os, ag, b, hb1, out, yes⟩ := ex
    have J : Inv X pins σ1 H1 sI := J0.ofTry ok
    have sky : Sky B (X.env :: X.outer) a (L2N.Zn cls d) X.env.locals se.heap := stk ▸ sky
    show wpAny (model X.prog X.w) X.A (noteFrame (.ref a) X.env) _ _ _
    refine L2N.Sky.land L2N.Zn.steady frs2 fr sky fun h3 fl3 up3 => ?_
    have newB : B.get? a = none := fl3.2.1
    obtain ⟨o3, vs3, e3, z3, d3⟩ := fl3.there
    have noFrame : a ∉ frs (X.env :: X.outer) := fun hm => by
      obtain ⟨_, o', e', nf⟩ := fl3.2.2.1.mem hm
      rw [e3] at e'
      cases e'
      exact nf _ d3
    have nL : a ≠ X.env.locals := fun z => noFrame (List.mem_filterMap.mpr ⟨X.env, List.mem_cons_self, z ▸ fr⟩)
    have nF : a ∉ X.fs := fun hm => by
      obtain ⟨e, h1, h2⟩ := List.mem_filterMap.mp hm
      exact noFrame (List.mem_filterMap.mpr ⟨e, List.mem_cons_of_mem _ h1, h2⟩)
    have newI : sI.heap.get? a = none := by
      cases e : sI.heap.get? a with
      | none => rfl
      | some o => exact absurd ((nb a o e (stk ▸ noFrame)).symm.trans newB) (fun z => nomatch z)
    have J3 : Inv X pins σ1 H1 { se with heap := h3 } := J.landed nb fl3.1 (up.trans up3) os ag
    have S3 := J3.suite e3 d3 na nL nF
    refine wpAny_handleBy_cons (codeAny_handlers_test ?_) (fun z => nomatch z)
    have look : PySem.W.Looks (model X.prog X.w) h3 (typeOf (.ref a)) cls := fun _ _ _ _ k q => wpAny_typeOf_ref (k _ _ e3) (z3.1.symm ▸ q)
    have ask : ∀ {Q : Value → Shared → Prop} {E : Value → Shared → Prop}, Q c { se with heap := h3 } → wpAny (model X.prog X.w) (X.A.mark (some (.ref a))) (eval (.Name x np) X.env) Q E { se with heap := h3 } := fun {Q E} q => by
      obtain ⟨gl, db, m1 | ⟨m1, m2, m3⟩⟩ := nm
      · exact ld_glob (X := X.suite a ((a, o3) :: (X.pn ++ pins))) S3 gl m1 q db
      · exact ld_blt (X := X.suite a ((a, o3) :: (X.pn ++ pins))) S3 gl m1 m2 q m3 db
    refine ask ((PySem.W.exm_one (M := model X.prog X.w) J3.kIn look hb1).here ?_)
    cases b with
    | true =>
      refine codeAny_handlers_suite_as (HandSPX.lands_againZ fl3 fun h4 fl4 up4 => ?_)
      have J4 : Inv X pins σ1 H1 { se with heap := h4 } := J.landed nb fl4.1 ((up.trans up3).trans up4) os ag
      obtain ⟨o4, vs4, e4, z4, d4⟩ := fl4.there
      refine store_ok (X := X.suite a ((a, o4) :: (X.pn ++ pins))) (v := .ref a) (J4.suite e4 d4 na nL nF) nd at_ (.inl lc) rfl (fun s5 S5 => ?_) (.inr lc)
      refine wpAny_mono ((hsu a o4 cls d (X.pn ++ pins) z4 ⟨_, d4⟩).run [] s5 _ H1 _ S5 (yes rfl a na)) (fun f s6 hf => ?_) (fun _ _ z => z.elim)
      cases f with
      | next =>
        obtain ⟨σ6, H6, S6, q6⟩ := hf
        have J6 : Inv X ((a, o4) :: pins) σ6 H6 s6 := by
          have w := S6.unsuite ok
          refine ⟨w.ok, w.os, w.bare, w.base, w.loc, w.cell, w.free, w.freeC, fun p hp => ?_, w.hok, w.len⟩
          rcases List.mem_append.mp hp with m | m
          · exact w.pin p (List.mem_append_left _ m)
          · rcases List.mem_cons.mp m with rfl | m
            · exact S6.pin (a, o4) (List.mem_append_left _ List.mem_cons_self)
            · exact w.pin p (List.mem_append_right _ m)
        refine gone_ok J6 nd at_ lc fun s7 J7 => ?_
        have g7 := J7.pin (a, o4) (List.mem_append_right _ List.mem_cons_self)
        refine ⟨_, _, track J7 (fun o e nx => ?_) (fun p hp z => ?_) (exk_ok g7.1 z4.zc d4), q6 g7.2.1⟩
        · obtain ⟨o', e'⟩ := J.base.there a o e nx
          rw [newI] at e'
          cases e'
        · have := (J.pin p hp).1
          rw [z, newI] at this
          cases this
      | brk => exact (let ⟨_, _, _, q⟩ := hf; q).elim
      | cont => exact (let ⟨_, _, _, q⟩ := hf; q).elim
      | ret u => exact (let ⟨_, _, _, _, _, q⟩ := hf; q).elim
    | false =>
      show wpAny _ X.A (handleBy (.ref a) X.env []) _ _ _
      refine wpAny_handleBy_nil ?_
      obtain ⟨_, _, _, oe, vs, T, oT, ts', he, hz, hd, h1, hr⟩ := id fl3
      unfold PySem.passOn
      refine wpAny_bind (wpAny_field he hd h1 ?_)
      rw [if_neg (show ¬ ((Value.ref T == Value.none) = true) from fun z => nomatch z)]
      have fin : wpAny (model X.prog X.w) X.A (setFlight (.ref a) X.env.frame) (fun _ sq => wpAny (model X.prog X.w) X.A (throw (.ref a) : Sem Flow) (SP X pins D) X.xe sq) X.xe { se with heap := h3 } := by
        rw [fr]
        exact HandSPX.setFlight_upZ fl3 fun h4 hh4 up4 => wpAny_throw (tk _ _ ⟨a, B, sI, pins, σ1, H1, cls, d, rfl, J, nb, (up.trans up3).trans up4, .inr (.inr (stk ▸ hh4)), na, os, ag, out rfl⟩)
      first
        | exact wpAny_bind (wpAny_pure (wpAny_bind fin))
        | exact wpAny_bind fin
  · cases f with
    | next =>
      obtain ⟨σ1, H1, J1, q⟩ := hf
      exact wpAny_execs_nil ⟨σ1, H1, J1.ofTry ok, q⟩
    | brk => exact let ⟨σ1, H1, J1, q⟩ := hf; ⟨σ1, H1, J1.ofTry ok, q⟩
    | cont => exact let ⟨σ1, H1, J1, q⟩ := hf; ⟨σ1, H1, J1.ofTry ok, q⟩
    | ret u => exact let ⟨v, σ1, H1, J1, r, q⟩ := hf; ⟨v, σ1, H1, J1.ofTry ok, r, q⟩
end
end KeE


set_option Elab.async false
set_option linter.all false
set_option maxRecDepth 100000
set_option maxHeartbeats 2000000
/-! all(elt for target in iter), elt anything that the layer knows: the generator's own frame as a context of its own -/
namespace GA
open PySem PySem.Spec PyProof.Rows L2 GxR

/-- the context of the generator's frame -/
abbrev gcx (X : Cx) (s : Shared) (H : Hp) (ce : Env) (A : Around) (fp : List Addr) : Cx :=
  { X with A := A, s_0 := s, H_0 := H, env := ce, outer := X.stack, stack := ce :: X.stack, ex := fp, fn := fun _ => false, pn := [], xe := fun _ _ => False }

theorem inv_same {X : Cx} {pins : List (Addr × Obj)} {σ : L2.St} {H : Hp} {s t : Shared} (I : Inv X pins σ H s) (hh : t.heap = s.heap) (ho : t.os = s.os) (hb : AllBare t.gens) : Inv X pins σ H t := by
  obtain ⟨h, g, d, k, o⟩ := t
  have e1 : h = s.heap := hh
  have e2 : o = s.os := ho
  subst e1 e2
  exact ⟨I.ok, I.os, hb, I.base, I.loc, I.cell, I.free, I.freeC, I.pin, I.hok, I.len⟩

section
variable {X : Cx} {pins : List (Addr × Obj)} {σ : L2.St} {H : Hp} {s : Shared}
theorem gen_start {scope : Scope} {own : List (Str × Nat)} {fp : List Addr} {code : Value} {A' : Around} {ce : Env} {h' : Heap} {og : Obj} {g' : Array GenState} {tk : Nat} {m : Str → Option Value}
    (I : Inv X pins σ H s) (ok : BlkOk X.N X.env.scope scope own) (hN : X.N.Nodup) (hfp : ∀ b ∈ fp, FpOk X pins H b ∧ b < s.heap.objs.size) (hcell : ∀ y ∈ scope.names, y.2 ≠ .cell)
    (hce : ce = genEnv scope (cloFrom X.env.cells scope.names []) s.heap.objs.size code builtinsNs X.env) (hA : A'.handled = none) (hfr : A'.frames = some (ce :: X.stack))
    (hns : h'.Ns s.heap.objs.size m) (hsb : Heap.SameBut s.heap.objs.size (s.heap.push { cls := .type "frame", data := .dict #[] }) h') (hog : ∀ v, og.data ≠ .cell v) (hof : og.isFreed = false) (hb : AllBare g') :
    Inv (gcx X s H ce A' fp) [(h'.objs.size, og)] (wipe σ (own.map (·.2))) H { s with heap := h'.push og, gens := g', toks := tk } := by
  have hsz : h'.objs.size = s.heap.objs.size + 1 := by rw [hsb.1, Heap.size_push]
  have kp : ∀ b o, s.heap.get? b = some o → (h'.push og).get? b = some o := fun b o e =>
    Heap.get?_push_of_some _ (hsb.extBut b o (Nat.ne_of_lt (Heap.lt_size e)) (Heap.get?_push_of_some _ e))
  have hL : ce.locals = s.heap.objs.size := by rw [hce]; rfl
  have hcl : ce.cells = cloFrom X.env.cells scope.names [] := by rw [hce]; rfl
  have hsc : ce.scope = scope := by rw [hce]; rfl
  have hfree : ∀ y ∈ scope.names, y.2 = .free → ∃ c, X.env.cells.lookup y.1 = some c := fun y hy e => by
    rcases ok.free y hy e with k | k
    · exact I.ok.has _ (.inl k)
    · exact I.ok.has _ (.inr k)
  have cm : ∀ {y c}, ce.cells.lookup y = some c → X.env.cells.lookup y = some c ∧ c < s.heap.objs.size := fun {y c} hm => by
    rw [hcl] at hm
    rcases cloFrom_mem (PySem.mem_of_lookup hm) with hm | ⟨h1, rfl⟩
    · cases hm
    · obtain ⟨c, hc⟩ := hfree _ h1 rfl
      rw [hc]
      obtain ⟨w, z⟩ := I.cell _ _ hc
      exact ⟨rfl, z.lt⟩
  have look : ∀ {y}, scope.names.lookup y = some .free → ∃ c, ce.cells.lookup y = some c := fun {y} hl => by
    have hy : (y, NameKind.free) ∈ scope.names := PySem.mem_of_lookup hl
    obtain ⟨c', e'⟩ := mem_lookup (cloFrom_has (cells := X.env.cells) (acc := []) hy)
    exact ⟨c', by rw [hcl]; exact e'⟩
  have okB : (gcx X s H ce A' fp).Ok := by
    refine ⟨I.ok.mod, by show ce.scope.kind = _; rw [hsc]; exact ok.kind, by show ce.globals = _; rw [hce]; exact I.ok.glob, by show ce.builtins = _; rw [hce]; rfl, by show s.heap.objs.size ≤ ce.locals; rw [hL]; exact Nat.le_refl _,
      fun y z c e1 e2 => I.ok.inj y z c (cm e1).1 (cm e2).1, fun y hy => ?_, fun y c z e => ?_, fun _ => hA, hfr, .inr ⟨rfl, by show ce.frame = some ce.locals; rw [hce]; rfl⟩, fun b hb => ⟨?_, fun y c e z => ?_⟩, I.bs, Nat.le_trans I.ok.bsz I.sz, fun b o e hb => ?_, fun b hb z => ?_, I.stack, I.stkFree⟩
    · have key : ∀ k, scope.names.lookup y = some k → (k = .cell ∨ k = .free) → ∃ c, ce.cells.lookup y = some c := fun k hk hk' => by
        rcases hk' with rfl | rfl
        · exact absurd rfl (hcell _ (PySem.mem_of_lookup hk))
        · exact look hk
      have hk1 : ce.kindOf y = scope.names.lookup y := by show ce.scope.names.lookup y = _; rw [hsc]
      rcases hy with hy | hy
      · exact key _ (hk1.symm.trans hy) (.inl rfl)
      · exact key _ (hk1.symm.trans hy) (.inr rfl)
    · cases z
    · show b ≠ ce.locals
      rw [hL]; exact Nat.ne_of_lt (hfp b hb).2
    · exact (hfp b hb).1.2.2.2.2.1 y c (cm e).1 z
    · rcases (hfp b hb).1.2.2.2.1 with z | z
      · exact I.ok.noex b o e z
      · exact absurd (Nat.lt_of_lt_of_le (Heap.lt_size e) (Nat.le_trans I.ok.bsz z)) (Nat.lt_irrefl _)
    · rcases List.mem_cons.mp (I.stkSub b z) with z | z
      · exact (hfp b hb).1.2.1 z
      · exact (hfp b hb).1.2.2.1 z
  have hsa : s.heap.objs.size ≤ h'.objs.size := by rw [hsz]; exact Nat.le_succ _
  refine ⟨okB, rfl, hb, Un.kept kp, ⟨m, ?_, fun i y av e1 e2 e3 => ?_⟩, fun y c e => ?_, ?_, fun y c e => ?_, fun p hp => ?_, I.hok.kept kp, by rw [wipe_length]; exact I.len⟩
  · show Heap.Ns _ ce.locals _
    rw [hL]
    exact hns.push _
  · obtain ⟨e2, hne⟩ := wipe_some e2
    have e3 : Vis ce.scope y := e3
    rw [hsc] at e3
    have no : ¬ (scope.names.lookup y = some .local ∨ scope.names.lookup y = some .cell) := fun hh => by
      have : ∃ k, scope.names.lookup y = some k ∧ (k = .local ∨ k = .cell) := by
        rcases hh with z | z
        · exact ⟨_, z, .inl rfl⟩
        · exact ⟨_, z, .inr rfl⟩
      obtain ⟨k, hk, hkk⟩ := this
      rcases ok.own _ (PySem.mem_of_lookup hk) hkk with e' | e'
      · obtain ⟨p, hp, hpy⟩ := List.mem_map.mp e'
        have e4 := ok.ix p hp
        have : p.1 = y := hpy
        rw [this] at e4
        exact hne (List.mem_map.mpr ⟨p, hp, nodup_ix hN e4 e1⟩)
      · exact e' (List.mem_of_getElem? e1)
    have hf : scope.names.lookup y = some .free := by
      rcases e3 with z | z | z
      · exact absurd (.inl z) no
      · exact absurd (.inr z) no
      · exact z
    obtain ⟨m0, hn, hl⟩ := I.loc
    have hvis : Vis X.env.scope y := (ok.free _ (PySem.mem_of_lookup hf) rfl).elim (fun k => .inr (.inl k)) (fun k => .inr (.inr k))
    obtain ⟨w, r, q⟩ := hl i y av e1 e2 hvis
    obtain ⟨c, h1⟩ := look hf
    refine ⟨w, r, .inr ⟨.inr (by show ce.scope.names.lookup y = _; rw [hsc]; exact hf), c, h1, ?_⟩⟩
    have h2 := (cm h1).1
    rcases q with ⟨k, _⟩ | ⟨_, c', e', z⟩
    · have k : X.env.scope.names.lookup y = some .local := k
      rcases ok.free _ (PySem.mem_of_lookup hf) rfl with k' | k' <;> rw [show X.env.scope.names.lookup y = _ from k'] at k <;> cases k
    · rw [h2] at e'; cases e'
      exact z.keeps kp
  · obtain ⟨w, z⟩ := I.cell y c (cm e).1
    exact ⟨w, z.keeps kp⟩
  · show H ce.locals = none
    rw [hL]; exact I.hok.fresh (Nat.le_refl _)
  · exact I.freeC y c (cm e).1
  · have e : p = (h'.objs.size, og) := by
      have hp : p ∈ ([] : List (Addr × Obj)) ++ [(h'.objs.size, og)] := hp
      simpa using hp
    subst e
    refine ⟨Heap.get?_push_size _ hof, I.hok.fresh hsa, ?_, fun z => ?_, hog⟩
    · show h'.objs.size ≠ ce.locals
      rw [hL, hsz]; exact Nat.succ_ne_self _
    · rcases List.mem_cons.mp (I.stkSub _ z) with z | z
      · exact absurd (Nat.lt_of_lt_of_le I.lt hsa) (by have z : h'.objs.size = X.env.locals := z; rw [← z]; exact Nat.lt_irrefl _)
      · exact I.nofs hsa z

/-! ### the generator's turns -/
/-- what is wanted of the invariant W: n turns, Q of the answer -/
structure Plan (J : It) (g : TG) (te : TE) (vs : List Nat) (σ : L2.St) (n : Nat) (W : Nat → Hp → Prop) (Q : Bool → Hp → Prop) : Prop where
  turn : ∀ i H, i < n → W i H → J.go i H ∧ ∀ x H', J.yld i H x H' → g x (wipe σ vs) H' fun σ2 H3 => wipe σ2 vs = wipe σ vs ∧ te σ2 H3 fun y H4 => ∃ b, y = .bl b ∧ if b = true then W (i + 1) H4 else Q false H4
  fin : ∀ H, W n H → J.stop n H ∧ Q true H

def EndG (X' : Cx) (pin : Addr × Obj) (τ : L2.St) (Q : Bool → Hp → Prop) : Nat → Shared → Shared → Prop := fun n _ s1 => n = 0 ∧ ∃ H', Inv X' [pin] τ H' s1 ∧ Q true H'
def YldG (X' : Cx) (pin : Addr × Obj) (τ : L2.St) (N : Nat) (W : Nat → Hp → Prop) (Q : Bool → Hp → Prop) : Protocol := fun m _ v s kap =>
  ∃ b H', v = .bool b ∧ Inv X' [pin] τ H' s ∧ ((b = false ∧ Q false H') ∨ (b = true ∧ W (N - m) H' ∧ ∀ t : Shared, t.heap = s.heap → t.os = s.os → AllBare t.gens → kap (.send .none) t))

theorem gen_loop {A : Around} {elt tg iter : Expr} {scope : Scope} {pos : Pos} {it a : Addr} {og : Obj} {fp : List Addr} {tn : Nat → Heap → Prop} {J : It} {g : TG} {te : TE} {vs : List Nat} {N : Nat} {W : Nat → Hp → Prop} {Q : Bool → Hp → Prop} {ce : Env} {s0 : Shared} {H0 : Hp}
    (hA : A.handled = none) (hc : X.calm = true) (hco : ce.scope.isCoroutine = false) (T : Turn X.prog X.w X.K tg J fp it tn) (P : Plan J g te vs σ N W Q)
    (pg : PG (gcx X s0 H0 ce (A.over (.compLoop (.GeneratorExp elt [⟨tg, iter, [], 0⟩] scope pos) 0 (.ref it) .none ce) []) fp) tg g)
    (pe : PE (gcx X s0 H0 ce (A.over (.compLoop (.GeneratorExp elt [⟨tg, iter, [], 0⟩] scope pos) 0 (.ref it) .none ce) []) fp) elt te) (hap : a ∉ fp) :
    ∀ (k i : Nat) (z0 s : Shared) (H : Hp), N - i = k → i ≤ N → Inv (gcx X s0 H0 ce (A.over (.compLoop (.GeneratorExp elt [⟨tg, iter, [], 0⟩] scope pos) 0 (.ref it) .none ce) []) fp) [(a, og)] (wipe σ vs) H s →
      tn i s.heap → (∀ b ∈ fp, H b = none) → W i H →
      Seg (model X.prog X.w) A (fun n z r z1 => r = .ok .next ∧ EndG (gcx X s0 H0 ce (A.over (.compLoop (.GeneratorExp elt [⟨tg, iter, [], 0⟩] scope pos) 0 (.ref it) .none ce) []) fp) (a, og) (wipe σ vs) Q n z z1)
        (YldG (gcx X s0 H0 ce (A.over (.compLoop (.GeneratorExp elt [⟨tg, iter, [], 0⟩] scope pos) 0 (.ref it) .none ce) []) fp) (a, og) (wipe σ vs) N W Q) k z0
        (.compLoop (.GeneratorExp elt [⟨tg, iter, [], 0⟩] scope pos) 0 (.ref it) .none ce)
        ((model X.prog X.w).den (.compLoop (.GeneratorExp elt [⟨tg, iter, [], 0⟩] scope pos) 0 (.ref it) .none ce)) [] s := by
  generalize hA' : A.over (.compLoop (.GeneratorExp elt [⟨tg, iter, [], 0⟩] scope pos) 0 (.ref it) .none ce) [] = A'
  rw [hA'] at pg pe
  have stat : ∀ {σ' : L2.St} {H' : Hp} {s' : Shared}, Inv (gcx X s0 H0 ce A' fp) [(a, og)] σ' H' s' → (∀ b ∈ fp, H' b = none) → ∀ b ∈ fp, FpOk (gcx X s0 H0 ce A' fp) [(a, og)] H' b := fun {σ' H' s'} I' hn b hb =>
    ⟨hn b hb, (I'.ok.exf b hb).1, I'.ok.exfs b hb, .inl hb, fun x c e => (I'.ok.exf b hb).2 x c e, fun p hp => by
      have hp : p ∈ ([] : List (Addr × Obj)) ++ [(a, og)] := hp
      have e : p = (a, og) := by simpa using hp
      rw [e]
      exact fun z => hap (by rw [show a = b from z]; exact hb)⟩
  intro k
  induction k with
  | zero =>
    intro i z0 s H hk hi I st n w
    have e : i = N := by omega
    subst e
    obtain ⟨stop, qq⟩ := P.fin H w
    show Seg _ A _ _ _ z0 _ ((compTurn (.GeneratorExp elt [⟨tg, iter, [], 0⟩] scope pos) 0 (.ref it) .none ce).onRaise (leaving ce)) [] s
    rw [compTurn_gen, Sem.onRaise_eq_wrap]
    refine seg_bind_wrap (wpAny_standAt ?_)
    have td := T.done (gcx X s0 H0 ce A' fp) rfl rfl rfl hc i [(a, og)] s _ H (fun _ _ => False) I (stat I n) st stop
    refine seg_bind_wrap ?_
    rw [hA']
    refine thnF td fun r s6 ⟨hr, I6⟩ => ?_
    subst hr
    exact seg_end (.ok .next) ⟨rfl, rfl, H, I6, qq⟩
  | succ k ih =>
    intro i z0 s H hk hi I st n w
    have hlt : i < N := by omega
    obtain ⟨go, step⟩ := P.turn i H hlt w
    show Seg _ A _ _ _ z0 _ ((compTurn (.GeneratorExp elt [⟨tg, iter, [], 0⟩] scope pos) 0 (.ref it) .none ce).onRaise (leaving ce)) [] s
    rw [compTurn_gen, Sem.onRaise_eq_wrap]
    refine seg_bind_wrap (wpAny_standAt ?_)
    have ti := T.item (gcx X s0 H0 ce A' fp) rfl rfl rfl hc i [(a, og)] s _ H (fun _ _ => False) I (stat I n) st go
    refine seg_bind_wrap ?_
    rw [hA']
    refine thnF ti fun r s6 ⟨u, hr, h6⟩ => ?_
    subst hr
    refine seg_bind_wrap ?_
    rw [hA']
    refine thnF h6 fun _ s7 ⟨x, H7, I7, r7, y7, st7, n7⟩ => ?_
    have I7' := I7.pinned (stat I7 n7) (T.obj _ _ st7)
    refine seg_bind_wrap ?_
    rw [hA']
    refine thnF (pg.run _ s7 _ H7 x u _ I7' r7 (step x H7 y7)) fun _ s8 ⟨σ8, H8, I8, hw8, q8⟩ => ?_
    refine seg_bind_wrap ?_
    rw [hA']
    refine wpAny_tests_nil ?_
    simp only [if_true]
    have hy : ∀ v, yieldOut ce v = yieldValue v := fun v => by simp only [yieldOut, hco, Bool.false_eq_true, if_false]
    simp only [hy]
    rw [Sem.bind_eq_wrap', Sem.bind_eq_wrap', Sem.wrap_wrap, Sem.wrap_wrap]
    refine seg_wrap ?_
    rw [hA']
    refine thnF (pe.run _ s8 σ8 H8 _ I8 q8) fun z s10 ⟨yv, H10, I10, r10, b, hyb, nx⟩ => ?_
    subst hyb
    obtain rfl : z = Value.bool b := r10
    have pin' : ∀ b ∈ fp, ∀ o, s7.heap.get? b = some o → s10.heap.get? b = some o ∧ H10 b = none := fun b hb o e =>
      let z := I10.pin (b, o) (List.mem_append_right _ (List.mem_append_right _ (mem_pinsAt hb e)))
      ⟨z.1, z.2.1⟩
    have hl : (wipe σ vs).length = σ8.length := by rw [← hw8, wipe_length]
    have I11 : Inv (gcx X s0 H0 ce A' fp) [(a, og)] (wipe σ vs) H10 s10 := (I10.unpinned (pins := [(a, og)])).weak hl (fun j v e => by
      rw [← hw8] at e
      exact (wipe_some e).1)
    refine seg_at (seg_yield rfl rfl rfl ⟨b, H10, rfl, I11, ?_⟩)
    cases b with
    | false => exact .inl ⟨rfl, nx⟩
    | true =>
      refine .inr ⟨rfl, ?_, fun t ht ho hb => ?_⟩
      · have e : N - k = i + 1 := by omega
        rw [e]
        exact nx
      · refine seg_again rfl (ih (i + 1) t t H10 (by omega) hlt (inv_same I11 ht ho hb) ?_ (fun b hb => ?_) nx)
        · rw [ht]
          exact T.keep _ _ _ st7 fun b hb o e => (pin' b hb o e).1
        · obtain ⟨o, e, _⟩ := T.obj _ _ st7 b hb
          exact (pin' b hb o e).2

/-! ### all's own loop over it -/
def AtG (X X' : Cx) (A : Around) (a : Addr) (og : Obj) (gn : Nat) (τ : L2.St) (N : Nat) (W : Nat → Hp → Prop) (Q : Bool → Hp → Prop) (k : Nat) (s : Shared) : Prop :=
  ∃ H, Inv X' [(a, og)] τ H s ∧ ∃ gs : GenState, s.gens[gn]? = some gs ∧ ∀ t : Shared, t.heap = s.heap → t.os = s.os → AllBare t.gens →
    gs.Goes (model X.prog X.w) A.in1 (fun n z r z1 => r = .ok .next ∧ EndG X' (a, og) τ Q n z z1) (YldG X' (a, og) τ N W Q) k (.send .none) t

theorem setGen_bare {s : Shared} {g : Nat} {x : GenState} (h : AllBare s.gens) (hx : x.bare = true) : AllBare (s.setGen g x).gens := by
  have hm : GenOnlyQ g s.gens (s.setGen g x).gens := by
    by_cases hg : g < s.gens.size
    · exact GenOnlyQ.of (GenOnly.setGen s g x) (setGen_self (gs := s.gens[g]) (by rw [Array.getElem?_eq_getElem hg])) hx
    · refine .inl ?_
      simp [Shared.setGen, Array.setIfInBounds, hg]
  exact h.moved hm

theorem all_loop {X' : Cx} {a : Addr} {og : Obj} {gn : Nat} {τ : L2.St} {N : Nat} {W : Nat → Hp → Prop} {Q : Bool → Hp → Prop} {R : Result → Shared → Prop} (hd : X.A.handled = none) (hroom : X.A.depth < recursionLimit)
    (hgen : ∀ h : Heap, h.get? a = some og → h.IsGen a gn) (hback : ∀ H' s', Inv X' [(a, og)] τ H' s' → Inv X pins σ H' s') (hR : ∀ b H' s', Inv X pins σ H' s' → Q b H' → R (.ok (.ret (.bool b))) s') :
    ∀ (k : Nat) (s : Shared), k ≤ N → AtG X X' X.A.in1 a og gn τ N W Q k s → codeAny (model X.prog X.w) X.A (.builtin "all.loop" ⟨[.ref a], []⟩) R s := by
  intro k
  induction k with
  | zero =>
    rintro s hk ⟨H, I, gs, hgs, hgo⟩
    have hg : s.heap.IsGen a gn := hgen _ (I.pin (a, og) (List.mem_append_right _ (by simp))).1
    refine codeAny_builtin F.entry_all_loop ?_
    rw [Around.under_plainId F.plain_all_loop _]
    show wpAny _ X.A.in1 (pyNext (.ref a) >>= _) _ _ s
    refine wpAny_bind (wpAny_pyNext_genexpQ (P := EndG X' (a, og) τ Q) hd (hback _ _ I).nolimit hroom hg hgs (hgo _ rfl rfl (setGen_bare I.bare rfl)) (fun v s1 gs' hb hv => ?_) (fun s1 hp h' hk' => ?_))
    · obtain ⟨b, H', rfl, I1, ⟨_, q⟩ | ⟨_, _, q⟩⟩ := hv
      · subst b
        refine wpAny_bind (wpAny_holding (wpAny_truthy_bool ?_))
        refine wpAny_bind (wpAny_letGo ?_)
        simp only [Bool.false_eq_true, if_false]
        refine wpAny_bind (wpAny_rule (wpAny_pure ?_))
        exact hR false H' _ (hback _ _ (inv_same I1 rfl rfl (setGen_bare I1.bare hb))) q
      · exact (q s1 rfl rfl I1.bare).elim
    · obtain ⟨_, H', I1, q⟩ := hp
      refine wpAny_bind (wpAny_rule (wpAny_pure ?_))
      have I2 : Inv X' [(a, og)] τ H' (s1.setGen gn .finished) := inv_same I1 rfl rfl (setGen_bare I1.bare rfl)
      exact hR true H' _ (hback _ _ (I2.kept (h' := h') (t' := s1.toks) hk')) q
  | succ k ih =>
    rintro s hk ⟨H, I, gs, hgs, hgo⟩
    have hlt : gn + 1 ≤ s.gens.size := by
      rcases Nat.lt_or_ge gn s.gens.size with z | z
      · exact z
      · rw [Array.getElem?_eq_none z] at hgs
        cases hgs
    have hg : s.heap.IsGen a gn := hgen _ (I.pin (a, og) (List.mem_append_right _ (by simp))).1
    refine codeAny_builtin F.entry_all_loop ?_
    rw [Around.under_plainId F.plain_all_loop _]
    show wpAny _ X.A.in1 (pyNext (.ref a) >>= _) _ _ s
    refine wpAny_bind (GenW.wpAny_gsz hlt ?_)
    refine wpAny_pyNext_genexpQ (P := EndG X' (a, og) τ Q) hd (hback _ _ I).nolimit hroom hg hgs (hgo _ rfl rfl (setGen_bare I.bare rfl)) (fun v s1 gs' hb hv => ?_) (fun s1 hp h' hk' => ?_)
    · intro hsz
      rw [GenW.setGen_size] at hsz
      obtain ⟨b, H', rfl, I1, ⟨_, q⟩ | ⟨_, w, q⟩⟩ := hv
      · subst b
        refine wpAny_bind (wpAny_holding (wpAny_truthy_bool ?_))
        refine wpAny_bind (wpAny_letGo ?_)
        simp only [Bool.false_eq_true, if_false]
        refine wpAny_bind (wpAny_rule (wpAny_pure ?_))
        exact hR false H' _ (hback _ _ (inv_same I1 rfl rfl (setGen_bare I1.bare hb))) q
      · subst b
        refine wpAny_bind (wpAny_holding (wpAny_truthy_bool ?_))
        refine wpAny_bind (wpAny_letGo ?_)
        simp only [if_true]
        refine wpAny_pure ⟨plainId_quiet F.plain_all_loop _, ih (s1.setGen gn gs') (by omega) ⟨H', inv_same I1 rfl rfl (setGen_bare I1.bare hb), gs', ?_, fun t ht ho hbt => q t ht ho hbt⟩⟩
        have hg1 : gn < s1.gens.size := hsz
        exact setGen_self (gs := s1.gens[gn]) (by rw [Array.getElem?_eq_getElem hg1])
    · exact absurd hp.1 (Nat.succ_ne_zero k)
end

/-! ### the rule -/
/-- all(elt for target in iter): the def's table at P may grow; then n turns by W -/
def tAllG (P : Addr) (wi : TI) (g : TG) (te : TE) (vs : List Nat) : TE := fun σ H Q => wi σ H fun J H1 => TabG H1 P ∧ ∀ H2, Tabbed P H1 H2 → ∃ (n : Nat) (W : Nat → Hp → Prop), W 0 H2 ∧ Plan J g te vs σ n W (fun b H' => Q (.bl b) H')

section
variable {X : Cx}
theorem pe_allG {c P : Addr} {elt iter tg : Expr} {p pos gpos : Pos} {scope : Scope} {own : List (Str × Nat)} {wi : TI} {g : TG} {te : TE} {k : Nat}
    (hr : Room (k + 1) X.A) (hcalm : X.calm = true) (hN : X.N.Nodup) (hgl : Gl X "all") (hm : X.mg "all" = none) (TB : TabB X.base X.mg c P) (hcode : X.env.code = .ref c)
    (hi : PI X tg iter wi) (ok : BlkOk X.N X.env.scope scope own) (hcell : ∀ y ∈ scope.names, y.2 ≠ .cell) (hdot : scope.names.lookup (".0" : Str) = some NameKind.local) (hco : scope.isCoroutine = false)
    (hg : ∀ (s : Shared) (H : Hp) (C : Addr) (cl : List (Str × Addr)) (code : Value) (A' : Around) (fp : List Addr), PG (gcx X s H (genEnv scope cl C code builtinsNs X.env) A' fp) tg g)
    (he : ∀ (s : Shared) (H : Hp) (C : Addr) (cl : List (Str × Addr)) (code : Value) (A' : Around) (fp : List Addr), Room k A' → PE (gcx X s H (genEnv scope cl C code builtinsNs X.env) A' fp) elt te)
    (hs : ∀ v, genFold iter X.env v = pure v) (hb : bootBuiltins "all" = some (.builtin "all"))
    (hst : starEach [.GeneratorExp elt [⟨tg, iter, [], 0⟩] scope gpos] X.env = (false, eval (.GeneratorExp elt [⟨tg, iter, [], 0⟩] scope gpos) X.env) :: starEach [] X.env := by rfl) :
    PE X (.Call (.Name "all" p) [.GeneratorExp elt [⟨tg, iter, [], 0⟩] scope gpos] [] pos) (tAllG P wi g te (own.map (·.2))) := by
  refine ⟨fun pins s σ H Q I h => ?_⟩
  refine wpAny_Call_Name_kw (ld_blt I hgl hm hb ?_)
  refine PyProof.Rows.callWith_builtin1 ?_ hst (by rfl)
  rw [hst]
  show wpAny _ _ (spliced ((false, eval (.GeneratorExp elt [⟨tg, iter, [], 0⟩] scope gpos) X.env) :: backTo pos (starEach [] X.env))) _ _ s
  refine Calls.spliced_cons ?_
  have hfree : ∀ y ∈ scope.names, y.2 = .free → ∃ c, X.env.cells.lookup y.1 = some c := fun y hy e => by
    rcases ok.free y hy e with k | k
    · exact I.ok.has _ (.inl k)
    · exact I.ok.has _ (.inr k)
  refine wpAny_GeneratorExp_make hco (closure_ok hfree) hcell hdot ok.kind hr.depth ?_ hs
  refine thn (hi.run pins s σ H _ I h) fun xv s1 hx => thn hx fun itv s2 h2 => ?_
  obtain ⟨it, fp, tn, J, H2, e, I2, T, st2, f2, ⟨ps, hP, ht⟩, q⟩ := h2
  subst e
  refine ⟨I2.nolimit, ?_⟩
  have hPs : s2.heap.get? P = some { cls := .none, data := .fields ps } := I2.hok P _ hP
  have cd : PySem.W.CodeHd s2.heap c P := TB.code.keeps fun b u e => I2.bk b u e
  have nN : ∀ b, H2 b = none → b ≠ P := fun b e z => by
    rw [z, hP] at e
    cases e
  have sz2 : ∀ b ∈ fp, b < s2.heap.objs.size := fun b hb => by
    obtain ⟨o, e, _⟩ := T.obj _ _ st2 b hb
    exact Heap.lt_size e
  -- behind the table
  have cont : ∀ (code : Value) (s3 : Shared) (H3 : Hp), Inv X pins σ H3 s3 → Tabbed P H2 H3 → (∀ b o, b ≠ P → s2.heap.get? b = some o → s3.heap.get? b = some o) →
      wpAny (model X.prog X.w) X.A (builtinsFor X.env.globals X.env.builtins) (fun bi s4 =>
        ∀ h', h'.Ns s4.heap.objs.size (fun y => if y = (".0" : Str) then some (Value.ref it) else none) → Heap.SameBut s4.heap.objs.size (s4.heap.push { cls := .type "frame", data := .dict #[] }) h' →
          wpAny (model X.prog X.w) X.A (spliced (backTo pos (starEach [] X.env))) (fun vs s' => wpAny (model X.prog X.w) X.A (call (.builtin "all") (Value.ref h'.objs.size :: vs)) (EP X pins σ Q) X.xe s') X.xe { s4 with
            gens := s4.gens.push (.fresh (.compStart (.GeneratorExp elt [⟨tg, iter, [], 0⟩] scope gpos) 0 (.ref it) .none (genEnv scope (cloFrom X.env.cells scope.names []) s4.heap.objs.size code bi X.env))),
            toks := s4.toks + 1 + 1 + 1,
            heap := h'.push { cls := .type "generator", data := .fields #[.int s4.gens.size 0, .str "<genexpr>" (s4.toks + 1), .str (X.env.qual ++ "<genexpr>") (s4.toks + 1 + 1)] } }) X.xe s3 := by
    intro code s3 H3 I3 hT kp3
    obtain ⟨bm, ob, e1, e2, e3, e4, e5, e6, e7, e8⟩ := TB.bm
    refine wpAny_builtinsFor (m := X.mg) (by rw [I3.ok.glob]; exact I3.mod.glob.keeps I3.bk) e1 e2 (I3.bk _ _ e5) e6 e7 e8 ?_
    intro h' hns hsb
    refine Calls.spliced_nil ?_
    generalize hog : ({ cls := .type "generator", data := .fields #[.int s3.gens.size 0, .str "<genexpr>" (s3.toks + 1), .str (X.env.qual ++ "<genexpr>") (s3.toks + 1 + 1)] } : Obj) = og
    generalize hce : genEnv scope (cloFrom X.env.cells scope.names []) s3.heap.objs.size code builtinsNs X.env = ce
    generalize hgs : (GenState.fresh (.compStart (.GeneratorExp elt [⟨tg, iter, [], 0⟩] scope gpos) 0 (.ref it) .none ce)) = gs
    obtain ⟨n, W, w0, pl⟩ := q H3 hT
    have nfp : ∀ b ∈ fp, H3 b = none := fun b hb => (hT.2 b (nN b (f2 b hb).1)).trans (f2 b hb).1
    have f3 : ∀ b ∈ fp, FpOk X pins H3 b ∧ b < s3.heap.objs.size := fun b hb => by
      obtain ⟨o, e, _⟩ := T.obj _ _ st2 b hb
      exact ⟨⟨nfp b hb, (f2 b hb).2⟩, Heap.lt_size (kp3 b o (nN b (f2 b hb).1) e)⟩
    have st3 : tn 0 s3.heap := T.keep _ _ _ st2 fun b hb o e => kp3 b o (nN b (f2 b hb).1) e
    have hfrm : (X.A.in1.in1.over (.compLoop (.GeneratorExp elt [⟨tg, iter, [], 0⟩] scope gpos) 0 (.ref it) .none ce) []).frames = some (ce :: X.stack) := by
      show pushEnvs [ce] (pushEnvs (envsOf []) X.A.frames) = _
      rw [I3.ok.frames]
      rfl
    have hrm : Room k (X.A.in1.in1.over (.compLoop (.GeneratorExp elt [⟨tg, iter, [], 0⟩] scope gpos) 0 (.ref it) .none ce) []) := by
      refine ⟨hr.hd, ?_, ?_⟩
      · have z := hr.dp
        show X.A.depth + 0 + 1 + 3 * k + 5 < _
        omega
      · have z := hr.un
        show X.A.units + 1 + 1 + 0 + 3 + 16 * k + 200 < _
        omega
    have hsz : h'.objs.size = s3.heap.objs.size + 1 := by rw [hsb.1, Heap.size_push]
    have I4 := gen_start (og := og) (g' := s3.gens.push gs) (tk := s3.toks + 1 + 1 + 1) (fp := fp) (A' := X.A.in1.in1.over (.compLoop (.GeneratorExp elt [⟨tg, iter, [], 0⟩] scope gpos) 0 (.ref it) .none ce) []) I3 ok hN f3 hcell hce.symm hr.hd hfrm hns hsb (fun v z => by subst hog; cases z) (by subst hog; rfl) (I3.bare.push (by subst hgs; rfl))
    have st4 : tn 0 (h'.push og) := T.keep _ _ _ st3 fun b hb o e => Heap.get?_push_of_some _ (hsb.extBut b o (Nat.ne_of_lt (f3 b hb).2) (Heap.get?_push_of_some _ e))
    have hap : h'.objs.size ∉ fp := fun z => by
      have q1 : (h'.objs.size : Nat) < s3.heap.objs.size := (f3 _ z).2
      rw [hsz] at q1
      exact absurd q1 (Nat.not_lt.mpr (Nat.le_succ _))
    have pg := hg s3 H3 s3.heap.objs.size (cloFrom X.env.cells scope.names []) code (X.A.in1.in1.over (.compLoop (.GeneratorExp elt [⟨tg, iter, [], 0⟩] scope gpos) 0 (.ref it) .none ce) []) fp
    have pe := he s3 H3 s3.heap.objs.size (cloFrom X.env.cells scope.names []) code (X.A.in1.in1.over (.compLoop (.GeneratorExp elt [⟨tg, iter, [], 0⟩] scope gpos) 0 (.ref it) .none ce) []) fp hrm
    rw [hce] at pg pe
    have hcs : ce.scope = scope := by rw [← hce]; rfl
    have loop := fun (z0 t : Shared) (I : Inv _ _ _ _ t) (st : tn 0 t.heap) => gen_loop (A := X.A.in1.in1) (og := og) (a := h'.objs.size) (N := n) (pos := gpos) (iter := iter) (scope := scope) (it := it) hr.hd hcalm (by rw [hcs]; exact hco) T pl pg pe hap n 0 z0 t H3 rfl (Nat.zero_le _) I st nfp w0
    refine call_function_tree F.kind_all F.plain_all F.entry_all (F.args_all1 _) ?_
    unfold Builtin.«all»
    refine wpAny_bind (m := oneArg "all" _) (wpAny_pure ?_)
    have isG : ∀ h : Heap, h.get? h'.objs.size = some og → h.IsGen h'.objs.size s3.gens.size := fun h e => by
      subst hog
      exact ⟨_, _, _, e, rfl, rfl, rfl⟩
    refine wpAny_bind (wpAny_pyIter_gen (g := s3.gens.size) (isG _ (Heap.get?_push_size _ (by subst hog; rfl))) ?_)
    refine wpAny_pure ⟨plainId_quiet F.plain_all_loop _, ?_⟩
    refine all_loop (X' := gcx X s3 H3 ce (X.A.in1.in1.over (.compLoop (.GeneratorExp elt [⟨tg, iter, [], 0⟩] scope gpos) 0 (.ref it) .none ce) []) fp) (og := og) (gn := s3.gens.size) (τ := wipe σ (own.map (·.2))) (N := n) (W := W) (Q := fun b H' => Q (.bl b) H') hr.hd hr.depth isG (fun H' s' I' => ?_) (fun b H' s' I' q' => ⟨.bl b, H', I', rfl, q'⟩) n _ (Nat.le_refl _) ⟨H3, I4, gs, ?_, fun t ht ho hbt => ?_⟩
    · exact I3.call' (ch := fp) I'.os I'.base I'.hok I'.bare fun b hb => ⟨(f3 b hb).1.2.2.2.1, (f3 b hb).1.2.1, (f3 b hb).1.2.2.2.2.1, (f3 b hb).1.2.2.2.2.2⟩
    · exact Array.getElem?_push_size ..
    · have I5 := inv_same I4 ht ho hbt
      have st5 : tn 0 t.heap := by rw [ht]; exact st4
      subst hgs
      refine ⟨rfl, ?_⟩
      have lp := loop t t I5 st5
      show Seg _ _ _ _ _ _ _ ((compStart (.GeneratorExp elt [⟨tg, iter, [], 0⟩] scope gpos) 0 (.ref it) .none ce).onRaise (leaving ce)) [] t
      unfold compStart
      rw [Sem.onRaise_eq_wrap]
      show Seg _ _ _ _ _ _ _ ((ask >>= _).wrap _ _ _ _) [] t
      refine seg_bind_wrap (wpAny_askSetting ?_)
      split
      · exact seg_again rfl lp
      · refine seg_bind_wrap (wpAny_rule ?_)
        show Seg _ _ _ _ _ _ _ ((standAt iter.pos >>= _).wrap _ _ _ _) [] t
        exact seg_bind_wrap (wpAny_standAt (seg_bind_wrap (T.self _ 0 t _ _ st5 (seg_again rfl lp))))
  cases hf : codeAmong gpos ps.toList with
  | none =>
    refine wpAny_genexprCodeX hcode (cd.code hPs ht) (cd.tab hPs) hf fun c' h' tk hx hge hlt hco' _ htab' _ => ?_
    obtain ⟨o1, vs1, f1, tf, fl, tg1, inF, tx, tt, op, _, _, _, _, _, _, _, _, _, htr, _⟩ := hco'
    have J := inv_tab (more := #[rawInt gpos.line, rawInt gpos.col, .ref c']) (h' := h') (g' := s2.gens) (d' := s2.drawn) (t' := tk) I2 hP hx htab'.2 I2.bare
    exact cont _ _ _ J ⟨⟨_, upd_same, htr⟩, fun b hb => upd_ne hb⟩ hx
  | some cv =>
    refine wpAny_genexprCode_hit hcode (cd.code hPs ht) hf ?_
    exact cont cv s2 H2 I2 ⟨⟨ps, hP, ht⟩, fun _ _ => rfl⟩ fun b o _ e => e
end
end GA


set_option Elab.async false
set_option linter.all false
set_option maxRecDepth 100000
set_option maxHeartbeats 1000000
/-! the layer above the heap: what stands in the slots is data; some slots own a list that changes -/
namespace DX
open PySem PySem.Spec PyProof.Rows L2 GxR GA
open Classical

/-! ### data in a heap -/
/-- a dict of which nothing is asked but what it is -/
def opq : List (PyData × PyData) → Bool
  | [] => false
  | (.none, _) :: _ => false
  | _ => true
mutual
inductive Rp (K : PySem.W.Frag) (H : Hp) : PyData → V → Prop
  | non : Rp K H .none .non
  | bl (b : Bool) : Rp K H (.bool b) (.bl b)
  | int (i : Int) : Rp K H (.int i) (.int i)
  | str (x : Str) : Rp K H (.str x) (.str x)
  | lst {a : Addr} {vs : List V} {xs : List PyData} : H a = some (.lst vs) → RpL K H xs vs → Rp K H (.list xs) (.ref a)
  | tup {a : Addr} {vs : List V} {xs : List PyData} : SqT K H a vs → RpL K H xs vs → Rp K H (.tuple xs) (.ref a)
  | dct {a : Addr} : H a = some (.dK []) → Rp K H (.dict []) (.ref a)
  | dk {a : Addr} {u : List (Key × V)} {kvs : List (PyData × PyData)} : H a = some (.dK u) → opq kvs = true → Rp K H (.dict kvs) (.ref a)
  | scr {a : Addr} {ns : List Int} : SqL K H a (ns.map V.int) → Rp K H (.dict [(.none, .list (ns.map PyData.int))]) (.ref a)
inductive RpL (K : PySem.W.Frag) (H : Hp) : List PyData → List V → Prop
  | nil : RpL K H [] []
  | cons {x : PyData} {xs : List PyData} {v : V} {vs : List V} : Rp K H x v → RpL K H xs vs → RpL K H (x :: xs) (v :: vs)
end

/-- not a table -/
def NT (o : HO) : Prop := ∀ ps, o ≠ .tbl ps
/-- all that stands stays, but tables -/
def Gr (H H' : Hp) : Prop := ∀ b o, NT o → H b = some o → H' b = some o
theorem Gr.refl (H : Hp) : Gr H H := fun _ _ _ e => e
theorem Gr.trans {H H1 H2 : Hp} (a : Gr H H1) (b : Gr H1 H2) : Gr H H2 := fun c o n e => b c o n (a c o n e)
theorem nt_lst (xs : List V) : NT (.lst xs) := fun _ e => by cases e
theorem nt_tup (xs : List V) : NT (.tup xs) := fun _ e => by cases e
theorem nt_frz (o : Obj) (u : HO) : NT (.frz o u) := fun _ e => by cases e
theorem nt_dK (u : List (Key × V)) : NT (.dK u) := fun _ e => by cases e
theorem SqL.gr {K : PySem.W.Frag} {H H' : Hp} {a : Addr} {xs : List V} (g : Gr H H') (h : SqL K H a xs) : SqL K H' a xs := by
  rcases h with (h | ⟨o, h⟩) | h
  · exact .inl (.inl (g _ _ (nt_lst _) h))
  · exact .inl (.inr ⟨o, g _ _ (nt_frz _ _) h⟩)
  · exact .inr h
theorem SqT.gr {K : PySem.W.Frag} {H H' : Hp} {a : Addr} {xs : List V} (g : Gr H H') (h : SqT K H a xs) : SqT K H' a xs := by
  rcases h with (h | ⟨o, h⟩) | h
  · exact .inl (.inl (g _ _ (nt_tup _) h))
  · exact .inl (.inr ⟨o, g _ _ (nt_frz _ _) h⟩)
  · exact .inr h
mutual
theorem Rp.gr {K : PySem.W.Frag} {H H' : Hp} (g : Gr H H') : ∀ {d : PyData} {v : V}, Rp K H d v → Rp K H' d v
  | _, _, .non => .non
  | _, _, .bl b => .bl b
  | _, _, .int i => .int i
  | _, _, .str x => .str x
  | _, _, .lst h r => .lst (g _ _ (nt_lst _) h) (RpL.gr g r)
  | _, _, .tup h r => .tup (SqT.gr g h) (RpL.gr g r)
  | _, _, .dct h => .dct (g _ _ (nt_dK _) h)
  | _, _, .dk h o => .dk (g _ _ (nt_dK _) h) o
  | _, _, .scr h => .scr (SqL.gr g h)
theorem RpL.gr {K : PySem.W.Frag} {H H' : Hp} (g : Gr H H') : ∀ {ds : List PyData} {vs : List V}, RpL K H ds vs → RpL K H' ds vs
  | _, _, .nil => .nil
  | _, _, .cons r t => .cons (Rp.gr g r) (RpL.gr g t)
end
theorem RpL.len {K : PySem.W.Frag} {H : Hp} : ∀ {ds : List PyData} {vs : List V}, RpL K H ds vs → ds.length = vs.length
  | _, _, .nil => rfl
  | _, _, .cons _ t => congrArg Nat.succ (RpL.len t)
theorem RpL.get {K : PySem.W.Frag} {H : Hp} : ∀ {ds : List PyData} {vs : List V} {i : Nat} {d : PyData}, RpL K H ds vs → ds[i]? = some d → ∃ v, vs[i]? = some v ∧ Rp K H d v
  | _, _, _, _, .nil, e => by simp at e
  | _, _, 0, _, .cons r _, e => by simp at e; subst e; exact ⟨_, rfl, r⟩
  | _, _, i + 1, _, .cons _ t, e => by
    obtain ⟨v, h1, h2⟩ := RpL.get (i := i) t (by simpa using e)
    exact ⟨v, by simpa using h1, h2⟩
theorem RpL.getV {K : PySem.W.Frag} {H : Hp} {ds : List PyData} {vs : List V} {i : Nat} {v : V} (r : RpL K H ds vs) (e : vs[i]? = some v) : ∃ d, ds[i]? = some d ∧ Rp K H d v := by
  have hl := r.len
  have hi := (List.getElem?_eq_some_iff.mp e).1
  obtain ⟨w, h1, h2⟩ := r.get (i := i) (d := ds[i]'(by omega)) (by simp)
  rw [e] at h1
  cases h1
  exact ⟨_, by simp, h2⟩
theorem RpL.app {K : PySem.W.Frag} {H : Hp} : ∀ {ds es : List PyData} {vs ws : List V}, RpL K H ds vs → RpL K H es ws → RpL K H (ds ++ es) (vs ++ ws)
  | _, _, _, _, .nil, s => s
  | _, _, _, _, .cons r t, s => .cons r (RpL.app t s)
theorem RpL.set {K : PySem.W.Frag} {H : Hp} {d : PyData} {v : V} (r : Rp K H d v) : ∀ {ds : List PyData} {vs : List V} (i : Nat), RpL K H ds vs → RpL K H (ds.set i d) (vs.set i v)
  | _, _, _, .nil => .nil
  | _, _, 0, .cons _ t => .cons r t
  | _, _, i + 1, .cons q t => .cons q (RpL.set r i t)
theorem RpL.one {K : PySem.W.Frag} {H : Hp} {d : PyData} {v : V} (r : Rp K H d v) : RpL K H [d] [v] := .cons r .nil
theorem RpL.take {K : PySem.W.Frag} {H : Hp} : ∀ {ds : List PyData} {vs : List V} (n : Nat), RpL K H ds vs → RpL K H (ds.take n) (vs.take n)
  | _, _, 0, _ => .nil
  | _, _, _ + 1, .nil => .nil
  | _, _, n + 1, .cons r t => .cons r (RpL.take n t)
theorem RpL.drop {K : PySem.W.Frag} {H : Hp} : ∀ {ds : List PyData} {vs : List V} (n : Nat), RpL K H ds vs → RpL K H (ds.drop n) (vs.drop n)
  | _, _, 0, r => r
  | _, _, _ + 1, .nil => .nil
  | _, _, n + 1, .cons _ t => RpL.drop n t

/-- the script, as data -/
def scrD (ns : List Int) : PyData := .dict [(.none, .list (ns.map PyData.int))]
theorem rp_of_ints {K : PySem.W.Frag} {H : Hp} : ∀ ns : List Int, RpL K H (ns.map PyData.int) (ns.map V.int)
  | [] => .nil
  | n :: ns => .cons (.int n) (rp_of_ints ns)
/-! ### a heap without some addresses -/
noncomputable def del (H : Hp) (M : Addr → Prop) : Hp := fun b => if M b then none else H b
theorem del_some {H : Hp} {M : Addr → Prop} {b : Addr} {o : HO} : del H M b = some o ↔ ¬ M b ∧ H b = some o := by
  unfold del
  by_cases h : M b
  · simp [h]
  · simp [h]
theorem gr_del {H H' : Hp} {M M' : Addr → Prop} (h : ∀ b o, NT o → ¬ M b → H b = some o → ¬ M' b ∧ H' b = some o) : Gr (del H M) (del H' M') := fun b o n e => by
  obtain ⟨e1, e2⟩ := del_some.mp e
  exact del_some.mpr (h b o n e1 e2)
theorem gr_out {H : Hp} {M : Addr → Prop} : Gr (del H M) H := fun b o _ e => (del_some.mp e).2

/-! ### slots -/
/-- an error of the class at D that is kept -/
def XR (H : Hp) (D : Addr) (v : V) : Prop := ∃ a, v = .ref a ∧ H a = some (KeE.ExK (.ref D) none a)
theorem nt_exk (c : Value) (d : Option Addr) (a : Addr) : NT (KeE.ExK c d a) := fun _ e => by cases e
theorem XR.gr {H H' : Hp} {D : Addr} {v : V} (g : Gr H H') (h : XR H D v) : XR H' D v := by
  obtain ⟨a, e, h⟩ := h
  exact ⟨a, e, g _ _ (nt_exk _ _ _) h⟩
inductive E where
  | d (x : PyData)
  | m (xs : List PyData)
  | k (n : Nat)
  | err (D : Addr)
abbrev DEnv := List (Option E)
/-- at most one deck -/
def K1 (δ : DEnv) : Prop := ∀ (i j n m : Nat), δ[i]? = some (some (E.k n)) → δ[j]? = some (some (E.k m)) → i = j
theorem K1.set {δ : DEnv} {i : Nat} {x : Option E} (h : K1 δ) (hx : ∀ n, x ≠ some (E.k n)) : K1 (δ.set i x) := by
  have key : ∀ {j n : Nat}, (δ.set i x)[j]? = some (some (E.k n)) → δ[j]? = some (some (E.k n)) := fun {j n} e => by
    by_cases hij : i = j
    · subst hij
      by_cases hl : i < δ.length
      · rw [List.getElem?_set_self hl] at e
        exact absurd (Option.some.inj e) (hx n)
      · rw [List.getElem?_eq_none (by rw [List.length_set]; omega)] at e
        cases e
    · rw [List.getElem?_set_ne hij] at e
      exact e
  exact fun a b n m h1 h2 => h a b n m (key h1) (key h2)
theorem K1.setK {δ : DEnv} {i n n' : Nat} (h : K1 δ) (hi : δ[i]? = some (some (E.k n))) : K1 (δ.set i (some (.k n'))) := by
  have key : ∀ {j m : Nat}, (δ.set i (some (.k n')))[j]? = some (some (E.k m)) → ∃ m', δ[j]? = some (some (E.k m')) := fun {j m} e => by
    by_cases hij : i = j
    · subst hij
      exact ⟨n, hi⟩
    · rw [List.getElem?_set_ne hij] at e
      exact ⟨m, e⟩
  intro a b n m h1 h2
  obtain ⟨_, h1⟩ := key h1
  obtain ⟨_, h2⟩ := key h2
  exact h a b _ _ h1 h2
/-- a slot owns the list at a -/
def MA (δ : DEnv) (σ : L2.St) (a : Addr) : Prop := ∃ (i : Nat) (xs : List PyData), δ[i]? = some (some (E.m xs)) ∧ σ[i]? = some (some (V.ref a))
/-- one pool: three numbers -/
def Pool (H : Hp) (q : Addr) (n : Nat) : Prop := ∃ c0 c1 c2 : Int, H q = some (.lst [.int c0, .int c1, .int c2]) ∧ 0 ≤ c2 ∧ c2 ≤ 3000 + n
/-- pools and which one is next, all at wild addresses -/
def Deck (W : Addr → Prop) (H : Hp) (a : Addr) (n : Nat) : Prop := ∃ (p : Addr) (c : Int) (qs : List Addr), W a ∧ W p ∧ H a = some (.lst [.ref p, .int c]) ∧ 0 ≤ c ∧ H p = some (.lst (qs.map V.ref)) ∧ 0 < qs.length ∧ qs.length ≤ 63 ∧ ∀ q ∈ qs, W q ∧ Pool H q n
theorem Deck.up {W : Addr → Prop} {H H' : Hp} {a : Addr} {n : Nat} (kp : ∀ b vs, W b → H b = some (.lst vs) → H' b = some (.lst vs)) (h : Deck W H a n) : Deck W H' a n := by
  obtain ⟨p, c, qs, wa, wp, h1, h2, h3, h4, h5, h6⟩ := h
  refine ⟨p, c, qs, wa, wp, kp _ _ wa h1, h2, kp _ _ wp h3, h4, h5, fun q hq => ?_⟩
  obtain ⟨w, c0, c1, c2, g, g2⟩ := h6 q hq
  exact ⟨w, c0, c1, c2, kp _ _ w g, g2⟩
def SlotOk (K : PySem.W.Frag) (W : Addr → Prop) (Hd H : Hp) : E → V → Prop
  | .d x, v => Rp K Hd x v
  | .k n, v => ∃ a, v = .ref a ∧ Deck W H a n
  | .err D, v => XR Hd D v
  | .m xs, v => ∃ a vs, v = .ref a ∧ H a = some (.lst vs) ∧ RpL K Hd xs vs
/-- fixed for a law: the written part, the tables, the slots that are not stored to -/
structure Gx where
  K : PySem.W.Frag
  cs : List Addr
  pn : List Nat
/-- fixed for a run: the heap at the start, who may change, who is others', the slots at the start -/
structure Fx where
  H0 : Hp
  M0 : Addr → Prop
  X0 : Addr → Prop
  s0 : L2.St
  W0 : Addr → Prop
structure EI (G : Gx) (F : Fx) (δ : DEnv) (σ : L2.St) (H : Hp) : Prop where
  len : δ.length = σ.length
  slot : ∀ (i : Nat) (e : E), δ[i]? = some (some e) → ∃ v, σ[i]? = some (some v) ∧ SlotOk G.K F.W0 (del H fun a => MA δ σ a ∨ F.X0 a) H e v
  nd : ∀ (i j : Nat) (xs ys : List PyData) (a : Addr), δ[i]? = some (some (E.m xs)) → δ[j]? = some (some (E.m ys)) → σ[i]? = some (some (V.ref a)) → σ[j]? = some (some (V.ref a)) → i = j
  own : ∀ a, MA δ σ a → F.M0 a ∨ (F.H0 a = none ∧ ¬ F.X0 a)
  keep : ∀ b o, NT o → ¬ F.M0 b → ¬ F.W0 b → F.H0 b = some o → H b = some o
  ex : ∀ a, F.X0 a → ∃ o, H a = some o ∧ NT o
  pin : ∀ i ∈ G.pn, σ[i]? = F.s0[i]?
  tab : ∀ p ∈ G.cs, TabG H p
  tk : ∀ b ps, F.H0 b = some (.tbl ps) → ∃ qs, H b = some (.tbl qs)
  mt : ∀ a, F.M0 a → ∃ o, H a = some o
  mx : ∀ (i : Nat) (xs : List PyData) (a : Addr), δ[i]? = some (some (E.m xs)) → σ[i]? = some (some (V.ref a)) → F.X0 a → i ∈ G.pn
  wl : ∀ a, F.W0 a → F.X0 a ∧ ¬ MA δ σ a
  k1 : K1 δ
/-- the run from here on -/
def Fx.now (F : Fx) (δ : DEnv) (σ : L2.St) (H : Hp) : Fx := { F with H0 := H, M0 := MA δ σ }
section
variable {G : Gx} {F : Fx} {δ δ' : DEnv} {σ σ' : L2.St} {H H' : Hp}
theorem EI.now (I : EI G F δ σ H) : EI G (F.now δ σ H) δ σ H := ⟨I.len, I.slot, I.nd, fun a h => .inl h, fun b o _ _ _ e => e, I.ex, I.pin, I.tab, fun b ps e => ⟨ps, e⟩, fun a ⟨i, xs, h1, h2⟩ => by
  obtain ⟨v, e1, b, vs, rfl, hb, _⟩ := I.slot i _ h1
  rw [h2] at e1; cases e1
  exact ⟨_, hb⟩, I.mx, I.wl, I.k1⟩
theorem EI.back (I : EI G F δ σ H) (J : EI G (F.now δ σ H) δ' σ' H') : EI G F δ' σ' H' := by
  refine ⟨J.len, J.slot, J.nd, fun a h => ?_, fun b o n hb hw e => ?_, J.ex, J.pin, J.tab, fun b ps e => ?_, fun a ha => ?_, J.mx, J.wl, J.k1⟩
  · rcases J.own a h with z | ⟨z, zx⟩
    · exact I.own a z
    · by_cases hm : F.M0 a
      · exact .inl hm
      · refine .inr ⟨?_, zx⟩
        have z : H a = none := z
        have zx : ¬ F.X0 a := zx
        cases q : F.H0 a with
        | none => rfl
        | some o =>
          by_cases hn : NT o
          · rw [I.keep a o hn hm (fun w => zx (I.wl a w).1) q] at z; cases z
          · have : ∃ ps, o = .tbl ps := Classical.byContradiction fun w => hn fun ps e => w ⟨ps, e⟩
            obtain ⟨ps, rfl⟩ := this
            obtain ⟨qs, e⟩ := I.tk a ps q
            rw [e] at z; cases z
  · have e1 := I.keep b o n hb hw e
    refine J.keep b o n (fun z => ?_) hw e1
    rcases I.own b z with z | ⟨z, _⟩
    · exact hb z
    · rw [z] at e; cases e
  · obtain ⟨qs, e1⟩ := I.tk b ps e
    exact J.tk b qs e1
  · obtain ⟨o, e⟩ := I.mt a ha
    by_cases hm : MA δ σ a
    · exact J.mt a hm
    · by_cases hw : F.W0 a
      · obtain ⟨o', e', _⟩ := J.ex a (I.wl a hw).1
        exact ⟨o', e'⟩
      · by_cases hn : NT o
        · exact ⟨o, J.keep a o hn hm hw e⟩
        · have : ∃ ps, o = .tbl ps := Classical.byContradiction fun w => hn fun ps e => w ⟨ps, e⟩
          obtain ⟨ps, rfl⟩ := this
          obtain ⟨qs, e⟩ := J.tk a ps e
          exact ⟨_, e⟩
theorem EI.fresh {p : Addr} (I : EI G F δ σ H) (h : H p = none) : F.H0 p = none ∧ ¬ F.M0 p ∧ ¬ F.X0 p ∧ ¬ MA δ σ p := by
  have h1 : ¬ F.M0 p := fun z => by
    obtain ⟨o, e⟩ := I.mt p z
    rw [h] at e; cases e
  have h2 : ¬ F.X0 p := fun z => by
    obtain ⟨o, e, _⟩ := I.ex p z
    rw [h] at e; cases e
  refine ⟨?_, h1, h2, fun ⟨i, xs, e1, e2⟩ => ?_⟩
  · cases q : F.H0 p with
    | none => rfl
    | some o =>
      by_cases hn : NT o
      · rw [I.keep p o hn h1 (fun w => h2 (I.wl p w).1) q] at h; cases h
      · have : ∃ ps, o = .tbl ps := Classical.byContradiction fun w => hn fun ps e => w ⟨ps, e⟩
        obtain ⟨ps, rfl⟩ := this
        obtain ⟨qs, e⟩ := I.tk p ps q
        rw [e] at h; cases h
  · obtain ⟨v, e3, b, vs, rfl, hb, _⟩ := I.slot i _ e1
    rw [e2] at e3; cases e3
    rw [h] at hb; cases hb
theorem EI.freshW {p : Addr} (I : EI G F δ σ H) (h : H p = none) : ¬ F.W0 p := fun w => (I.fresh h).2.2.1 (I.wl p w).1
end
end DX


set_option Elab.async false
set_option linter.all false
set_option maxRecDepth 100000
set_option maxHeartbeats 1000000
namespace DX
open PySem PySem.Spec PyProof.Rows L2 GxR GA
open Classical
/-! ### judgements -/
abbrev Sl (F : Fx) (δ : DEnv) (σ : L2.St) : Addr → Prop := fun a => MA δ σ a ∨ F.X0 a
def ED (G : Gx) (t : TE) (δ : DEnv) (Q : PyData → DEnv → Prop) : Prop :=
  ∀ (F : Fx) (σ : L2.St) (H : Hp) (R : VK), EI G F δ σ H → (∀ d v δ' H', Q d δ' → EI G F δ' σ H' → Rp G.K (del H' (Sl F δ' σ)) d v → R v H') → t σ H R
def DT (G : Gx) (t : TT) (δ : DEnv) (Q : Bool → DEnv → Prop) : Prop :=
  ∀ (F : Fx) (σ : L2.St) (H : Hp) (R : Bool → Hp → Prop), EI G F δ σ H → (∀ b δ' H', Q b δ' → EI G F δ' σ H' → R b H') → t σ H R
/-- an argument: data, or the list of a slot -/
inductive Ar where
  | d (x : PyData)
  | s (i : Nat)
def ArOk (K : PySem.W.Frag) (Hd : Hp) (δ : DEnv) (σ : L2.St) : Ar → V → Prop
  | .d x, v => Rp K Hd x v
  | .s i, v => σ[i]? = some (some v) ∧ ∃ xs, δ[i]? = some (some (E.m xs))
def EA (G : Gx) (t : TA) (δ : DEnv) (Q : List Ar → DEnv → Prop) : Prop :=
  ∀ (F : Fx) (σ : L2.St) (H : Hp) (R : List V → Hp → Prop), EI G F δ σ H → (∀ as vs δ' H', Q as δ' → EI G F δ' σ H' → Paired (ArOk G.K (del H' (Sl F δ' σ)) δ' σ) as vs → R vs H') → t σ H R
/-- a new list -/
def Fx.own (F : Fx) (p : Addr) : Fx := { F with X0 := fun a => a = p ∨ F.X0 a }
structure New (G : Gx) (F : Fx) (δ : DEnv) (σ : L2.St) (H : Hp) (p : Addr) (xs : List PyData) : Prop where
  ei : EI G (F.own p) δ σ H
  ma : ¬ MA δ σ p
  x0 : ¬ F.X0 p
  h0 : F.H0 p = none
  m0 : ¬ F.M0 p
  w0 : ¬ F.W0 p
  at_ : ∃ vs, H p = some (.lst vs) ∧ RpL G.K (del H (Sl (F.own p) δ σ)) xs vs
def EF (G : Gx) (t : TE) (δ : DEnv) (Q : List PyData → DEnv → Prop) : Prop :=
  ∀ (F : Fx) (σ : L2.St) (H : Hp) (R : VK), EI G F δ σ H → (∀ xs p δ' H', Q xs δ' → New G F δ' σ H' p xs → R (.ref p) H') → t σ H R
inductive Out where
  | nx (δ : DEnv)
  | rt (d : PyData) (δ : DEnv)
  | bk (δ : DEnv)
  | ct (δ : DEnv)
  | rf (xs : List PyData) (δ : DEnv)
  | rm (i : Nat) (δ : DEnv)
  | r2 (i j : Nat) (δ : DEnv)
def Sat (G : Gx) (F : Fx) : Out → Ends → Prop
  | .nx δ, D => ∀ σ H, EI G F δ σ H → D.nx σ H
  | .rt d δ, D => ∀ σ H v, EI G F δ σ H → Rp G.K (del H (Sl F δ σ)) d v → D.rt v H
  | .bk δ, D => ∀ σ H, EI G F δ σ H → D.bk σ H
  | .ct δ, D => ∀ σ H, EI G F δ σ H → D.ct σ H
  | .rf xs δ, D => ∀ σ H p, New G F δ σ H p xs → D.rt (.ref p) H
  | .rm i δ, D => ∀ σ H a, EI G F δ σ H → σ[i]? = some (some (V.ref a)) → D.rt (.ref a) H
  | .r2 i j δ, D => ∀ σ H p a b, EI G F δ σ H → H p = none → σ[i]? = some (some (V.ref a)) → σ[j]? = some (some (V.ref b)) → D.rt (.ref p) (upd H p (.tup [.ref a, .ref b]))
def SD (G : Gx) (t : TS) (δ : DEnv) (Q : Out → Prop) : Prop :=
  ∀ (F : Fx) (σ : L2.St) (H : Hp) (D : Ends), EI G F δ σ H → (∀ o, Q o → Sat G F o D) → t D σ H

section
variable {G : Gx} {F : Fx} {δ δ' : DEnv} {σ σ' : L2.St} {H H' : Hp}
/-- what has happened since -/
structure Since (G : Gx) (F : Fx) (δ : DEnv) (σ : L2.St) (H : Hp) (δ' : DEnv) (σ' : L2.St) (H' : Hp) : Prop where
  ei : EI G F δ' σ' H'
  gr : Gr (del H (Sl F δ σ)) (del H' (Sl F δ' σ'))
  kp : ∀ b o, NT o → ¬ MA δ σ b → ¬ F.W0 b → H b = some o → H' b = some o
  ma : ∀ a, MA δ' σ' a → MA δ σ a ∨ H a = none
  tk : ∀ b ps, H b = some (.tbl ps) → ∃ qs, H' b = some (.tbl qs)
theorem EI.since (I : EI G F δ σ H) (J : EI G (F.now δ σ H) δ' σ' H') : Since G F δ σ H δ' σ' H' := by
  have ma : ∀ a, MA δ' σ' a → MA δ σ a ∨ H a = none := fun a h => by
    rcases J.own a h with z | ⟨z, _⟩
    · exact .inl z
    · exact .inr z
  refine ⟨I.back J, gr_del fun b o n hb e => ⟨fun z => ?_, J.keep b o n (fun z => hb (.inl z)) (fun w => hb (.inr (I.wl b w).1)) e⟩, J.keep, ma, J.tk⟩
  rcases z with z | z
  · rcases ma b z with z | z
    · exact hb (.inl z)
    · rw [z] at e; cases e
  · exact hb (.inr z)
theorem ED.go {t : TE} {Q : PyData → DEnv → Prop} {R : VK} (h : ED G t δ Q) (I : EI G F δ σ H) (k : ∀ d v δ' H', Q d δ' → Since G F δ σ H δ' σ H' → Rp G.K (del H' (Sl F δ' σ)) d v → R v H') : t σ H R :=
  h (F.now δ σ H) σ H R I.now fun d v δ' H' q J r => k d v δ' H' q (I.since J) r
theorem DT.go {t : TT} {Q : Bool → DEnv → Prop} {R : Bool → Hp → Prop} (h : DT G t δ Q) (I : EI G F δ σ H) (k : ∀ b δ' H', Q b δ' → Since G F δ σ H δ' σ H' → R b H') : t σ H R :=
  h (F.now δ σ H) σ H R I.now fun d δ' H' q J => k d δ' H' q (I.since J)
theorem EA.go {t : TA} {Q : List Ar → DEnv → Prop} {R : List V → Hp → Prop} (h : EA G t δ Q) (I : EI G F δ σ H) (k : ∀ as vs δ' H', Q as δ' → Since G F δ σ H δ' σ H' → Paired (ArOk G.K (del H' (Sl F δ' σ)) δ' σ) as vs → R vs H') : t σ H R :=
  h (F.now δ σ H) σ H R I.now fun d v δ' H' q J r => k d v δ' H' q (I.since J) r
theorem Since.trans {δ1 : DEnv} {H1 : Hp} (a : Since G F δ σ H δ1 σ' H1) {σ2 : L2.St} (b : Since G F δ1 σ' H1 δ' σ2 H') : Since G F δ σ H δ' σ2 H' := by
  refine ⟨b.ei, a.gr.trans b.gr, fun c o n hc hw e => b.kp c o n (fun z => ?_) hw (a.kp c o n hc hw e), fun c hc => ?_, fun c ps e => ?_⟩
  · rcases a.ma c z with z | z
    · exact hc z
    · rw [z] at e; cases e
  · rcases b.ma c hc with z | z
    · exact a.ma c z
    · by_cases hm : MA δ σ c
      · exact .inl hm
      · refine .inr ?_
        cases q : H c with
        | none => rfl
        | some o =>
          by_cases hn : NT o
          · rw [a.kp c o hn hm (fun w => (b.ei.wl c w).2 hc) q] at z; cases z
          · have : ∃ ps, o = .tbl ps := Classical.byContradiction fun w => hn fun ps e => w ⟨ps, e⟩
            obtain ⟨ps, rfl⟩ := this
            obtain ⟨qs, e⟩ := a.tk c ps q
            rw [e] at z; cases z
  · obtain ⟨qs, e1⟩ := a.tk c ps e
    exact b.tk c qs e1

/-! ### a heap with one new object -/
theorem EI.laid {p : Addr} {o : HO} (I : EI G F δ σ H) (hp : H p = none) (hn : NT o) : EI G F δ σ (upd H p o) := by
  obtain ⟨h0, hM, hX, hma⟩ := I.fresh hp
  have ne : ∀ {b : Addr} {u : HO}, H b = some u → b ≠ p := fun {b u} e z => by rw [z, hp] at e; cases e
  have gr : Gr (del H fun a => MA δ σ a ∨ F.X0 a) (del (upd H p o) fun a => MA δ σ a ∨ F.X0 a) := gr_del fun b u n hb e => ⟨hb, by rw [upd_ne (ne e)]; exact e⟩
  refine ⟨I.len, fun i e h => ?_, I.nd, I.own, fun b u n hb hw e => ?_, fun a ha => ?_, I.pin, fun q hq => ?_, fun b ps e => ?_, fun a ha => ?_, I.mx, I.wl, I.k1⟩
  · obtain ⟨v, h1, h2⟩ := I.slot i e h
    refine ⟨v, h1, ?_⟩
    cases e with
    | d x => exact Rp.gr gr h2
    | err D => exact XR.gr gr h2
    | k n =>
      obtain ⟨a, ea, h3⟩ := h2
      exact ⟨a, ea, h3.up fun b u w e => by rw [upd_ne (ne e)]; exact e⟩
    | m xs =>
      obtain ⟨a, vs, h3, h4, h5⟩ := h2
      exact ⟨a, vs, h3, by rw [upd_ne (ne h4)]; exact h4, RpL.gr gr h5⟩
  · have := I.keep b u n hb hw e
    rw [upd_ne (ne this)]; exact this
  · obtain ⟨u, e, n⟩ := I.ex a ha
    exact ⟨u, by rw [upd_ne (ne e)]; exact e, n⟩
  · obtain ⟨ps, e, t⟩ := I.tab q hq
    exact ⟨ps, by rw [upd_ne (ne e)]; exact e, t⟩
  · obtain ⟨qs, e1⟩ := I.tk b ps e
    exact ⟨qs, by rw [upd_ne (ne e1)]; exact e1⟩
  · obtain ⟨u, e⟩ := I.mt a ha
    exact ⟨u, by rw [upd_ne (ne e)]; exact e⟩
theorem gr_laid {p : Addr} {o : HO} {M : Addr → Prop} (hp : H p = none) : Gr (del H M) (del (upd H p o) M) := gr_del fun b u n hb e => ⟨hb, by
  have ne : b ≠ p := fun z => by rw [z, hp] at e; cases e
  rw [upd_ne ne]; exact e⟩
end
end DX


set_option Elab.async false
set_option linter.all false
set_option maxRecDepth 100000
set_option maxHeartbeats 1000000
namespace DX
open PySem PySem.Spec PyProof.Rows L2 GxR GA
open Classical
section
variable {G : Gx} {F : Fx} {δ δ' : DEnv} {σ σ' : L2.St} {H H' : Hp} {ta tb tc : TE} {Q : PyData → DEnv → Prop}
theorem ED.mono {Q' : PyData → DEnv → Prop} (h : ED G ta δ Q) (hq : ∀ d δ', Q d δ' → Q' d δ') : ED G ta δ Q' := fun F σ H R I k => h F σ H R I fun d v δ' H' q => k d v δ' H' (hq d δ' q)
/-! ### names, constants -/
theorem ed_var {i : Nat} {x : PyData} (h : δ[i]? = some (some (E.d x))) (q : Q x δ) : ED G (tVar i) δ Q := fun F σ H R I k => by
  obtain ⟨v, h1, h2⟩ := I.slot i _ h
  exact ⟨v, h1, k x v δ H q I h2⟩
theorem ed_int {n : Int} (q : Q (.int n) δ) : ED G (tC (.int n)) δ Q := fun F σ H R I k => k _ _ δ H q I (.int n)
theorem ed_bl {n : Bool} (q : Q (.bool n) δ) : ED G (tC (.bl n)) δ Q := fun F σ H R I k => k _ _ δ H q I (.bl n)
theorem ed_str {n : Str} (q : Q (.str n) δ) : ED G (tC (.str n)) δ Q := fun F σ H R I k => k _ _ δ H q I (.str n)
theorem ed_non (q : Q .none δ) : ED G (tC .non) δ Q := fun F σ H R I k => k _ _ δ H q I .non
/-! ### operators on ints -/
/-- the two operands -/
theorem ed_two {r : R2} {P : PyData → PyData → DEnv → Prop} (h : ED G ta δ fun x δ1 => ED G tb δ1 fun y δ2 => P x y δ2)
    (hr : ∀ (F : Fx) (σ : L2.St) (H : Hp) (R : VK) (x y : PyData) (u v : V) (δ2 : DEnv), P x y δ2 → EI G F δ2 σ H → Rp G.K (del H (Sl F δ2 σ)) x u → Rp G.K (del H (Sl F δ2 σ)) y v →
      (∀ d w δ' H', Q d δ' → EI G F δ' σ H' → Rp G.K (del H' (Sl F δ' σ)) d w → R w H') → r u v H R) : ED G (tOp r ta tb) δ Q := fun F σ H R I k =>
  h.go I fun x u δ1 H1 q1 s1 r1 => q1.go s1.ei fun y v δ2 H2 q2 s2 r2 => hr F σ H2 R x y u v δ2 q2 s2.ei (Rp.gr s2.gr r1) r2 k
theorem ed_i0 {g : Int → Int → Int} (h : ED G ta δ fun x δ1 => ED G tb δ1 fun y δ2 => ∃ i j, x = .int i ∧ y = .int j ∧ Q (.int (g i j)) δ2) : ED G (tOp (rI0 fun i j => .int (g i j)) ta tb) δ Q :=
  ed_two h fun F σ H R x y u v δ2 ⟨i, j, e1, e2, q⟩ I r1 r2 k => by
    subst e1 e2
    cases r1; cases r2
    exact ⟨i, j, rfl, rfl, k _ _ δ2 H q I (.int _)⟩
theorem ed_b0 {g : Int → Int → Bool} (h : ED G ta δ fun x δ1 => ED G tb δ1 fun y δ2 => ∃ i j, x = .int i ∧ y = .int j ∧ Q (.bool (g i j)) δ2) : ED G (tOp (rI0 fun i j => .bl (g i j)) ta tb) δ Q :=
  ed_two h fun F σ H R x y u v δ2 ⟨i, j, e1, e2, q⟩ I r1 r2 k => by
    subst e1 e2
    cases r1; cases r2
    exact ⟨i, j, rfl, rfl, k _ _ δ2 H q I (.bl _)⟩
theorem ed_ic {C : Int → Int → Prop} {g : Int → Int → Int} (h : ED G ta δ fun x δ1 => ED G tb δ1 fun y δ2 => ∃ i j, x = .int i ∧ y = .int j ∧ C i j ∧ Q (.int (g i j)) δ2) : ED G (tOp (rI C fun i j => .int (g i j)) ta tb) δ Q :=
  ed_two h fun F σ H R x y u v δ2 ⟨i, j, e1, e2, c, q⟩ I r1 r2 k => by
    subst e1 e2
    cases r1; cases r2
    exact ⟨i, j, rfl, rfl, c, k _ _ δ2 H q I (.int _)⟩
theorem ed_neg (h : ED G ta δ fun x δ1 => ∃ i, x = .int i ∧ Q (.int (-i)) δ1) : ED G (tUn (rU fun i => .int (-i)) ta) δ Q := fun F σ H R I k =>
  h.go I fun x u δ1 H1 ⟨i, e, q⟩ s1 r1 => by
    subst e
    cases r1
    exact ⟨i, rfl, k _ _ δ1 H1 q s1.ei (.int _)⟩
/-- is None -/
def isNon : PyData → Bool
  | .none => true
  | _ => false
theorem rp_non {K : PySem.W.Frag} {x : PyData} {v : V} (r : Rp K H x v) : decide (v = V.non) = isNon x := by
  cases r <;> rfl
abbrev rIsN : R2 := fun x y H Q => y = .non ∧ Q (.bl (decide (x = .non))) H
abbrev rNotN : R2 := fun x y H Q => y = .non ∧ Q (.bl (!decide (x = .non))) H
theorem ed_isN (h : ED G ta δ fun x δ1 => Q (.bool (isNon x)) δ1) : ED G (tOp rIsN ta (tC .non)) δ Q := fun F σ H R I k =>
  h.go I fun x u δ1 H1 q s1 r1 => by
    refine ⟨rfl, ?_⟩
    rw [rp_non r1]
    exact k _ _ δ1 H1 q s1.ei (.bl _)
theorem ed_notN (h : ED G ta δ fun x δ1 => Q (.bool (!isNon x)) δ1) : ED G (tOp rNotN ta (tC .non)) δ Q := fun F σ H R I k =>
  h.go I fun x u δ1 H1 q s1 r1 => by
    refine ⟨rfl, ?_⟩
    rw [rp_non r1]
    exact k _ _ δ1 H1 q s1.ei (.bl _)
/-! ### == of data -/
end
mutual
def noDct : PyData → Bool
  | .dict _ => false
  | .list xs => noDctL xs
  | .tuple xs => noDctL xs
  | _ => true
def noDctL : List PyData → Bool
  | [] => true
  | x :: xs => noDct x && noDctL xs
end
mutual
theorem Rp.dp {K : PySem.W.Frag} {H : Hp} : ∀ {d : PyData} {v : V}, Rp K H d v → noDct d = true → Dp K H v d
  | _, _, .non, _ => .non
  | _, _, .bl b, _ => .bl b
  | _, _, .int b, _ => .int b
  | _, _, .str b, _ => .str b
  | _, _, .lst h r, n => .lst (SqL.of h) (RpL.dp r n)
  | _, _, .tup h r, n => .tup h (RpL.dp r n)
  | _, _, .dct h, n => by cases n
  | _, _, .dk h o, n => by cases n
  | _, _, .scr h, n => by cases n
theorem RpL.dp {K : PySem.W.Frag} {H : Hp} : ∀ {ds : List PyData} {vs : List V}, RpL K H ds vs → noDctL ds = true → DpAll K H vs ds
  | _, _, .nil, _ => .nil
  | _, _, .cons r t, n => by
    have n' : (noDct _ && noDctL _) = true := n
    rw [Bool.and_eq_true] at n'
    exact .cons (Rp.dp r n'.1) (RpL.dp t n'.2)
end
/-- what == may be asked of -/
def EqOk (x : PyData) : Prop := noDct x = true ∧ SeqAt.shaped x = true
section
variable {G : Gx} {F : Fx} {δ δ' : DEnv} {σ σ' : L2.St} {H H' : Hp} {ta tb tc : TE} {Q : PyData → DEnv → Prop}
theorem Rp.full {K : PySem.W.Frag} {M : Addr → Prop} {d : PyData} {v : V} (r : Rp K (del H M) d v) : Rp K H d v := r.gr gr_out
theorem ed_eqD (h : ED G ta δ fun x δ1 => ED G tb δ1 fun y δ2 => EqOk x ∧ EqOk y ∧ Q (.bool (PyData.eqv x y)) δ2) : ED G (tOp (rEqD G.K) ta tb) δ Q :=
  ed_two h fun F σ H R x y u v δ2 ⟨o1, o2, q⟩ I r1 r2 k => ⟨x, y, r1.full.dp o1.1, r2.full.dp o2.1, o1.2, o2.2, k _ _ δ2 H q I (.bl _)⟩
theorem ed_neD (h : ED G ta δ fun x δ1 => ED G tb δ1 fun y δ2 => EqOk x ∧ EqOk y ∧ Q (.bool (!PyData.eqv x y)) δ2) : ED G (tOp (rNeD G.K) ta tb) δ Q :=
  ed_two h fun F σ H R x y u v δ2 ⟨o1, o2, q⟩ I r1 r2 k => ⟨x, y, r1.full.dp o1.1, r2.full.dp o2.1, o1.2, o2.2, k _ _ δ2 H q I (.bl _)⟩
/-- == of two numbers, texts or truths -/
def sclD : PyData → PyData → Option Bool
  | .int i, .int j => some (i == j)
  | .bool i, .bool j => some (i == j)
  | .str i, .str j => some (i == j)
  | .none, .none => some true
  | .none, .int _ => some false
  | .int _, .none => some false
  | _, _ => none
theorem scl_ok {K : PySem.W.Frag} {x y : PyData} {u v : V} {b : Bool} (e : sclD x y = some b) (r1 : Rp K H x u) (r2 : Rp K H y v) : scal u v = true ∧ decide (u = v) = b := by
  cases r1 <;> cases r2 <;> first
    | (cases e; exact ⟨rfl, rfl⟩)
    | (cases e; exact ⟨rfl, dec_int⟩)
    | (cases e; exact ⟨rfl, dec_bl⟩)
    | (cases e; exact ⟨rfl, dec_str⟩)
    | (cases e)
theorem ed_eqS (h : ED G ta δ fun x δ1 => ED G tb δ1 fun y δ2 => ∃ b, sclD x y = some b ∧ Q (.bool b) δ2) : ED G (tOp rEq ta tb) δ Q :=
  ed_two h fun F σ H R x y u v δ2 ⟨b, e, q⟩ I r1 r2 k => by
    obtain ⟨h1, h2⟩ := scl_ok e r1 r2
    refine ⟨h1, ?_⟩
    rw [h2]
    exact k _ _ δ2 H q I (.bl _)
theorem ed_neS (h : ED G ta δ fun x δ1 => ED G tb δ1 fun y δ2 => ∃ b, sclD x y = some b ∧ Q (.bool (!b)) δ2) : ED G (tOp rNe ta tb) δ Q :=
  ed_two h fun F σ H R x y u v δ2 ⟨b, e, q⟩ I r1 r2 k => by
    obtain ⟨h1, h2⟩ := scl_ok e r1 r2
    refine ⟨h1, ?_⟩
    rw [h2]
    exact k _ _ δ2 H q I (.bl _)
/-! ### tests -/
variable {t u : TT} {QT : Bool → DEnv → Prop}
theorem dt_of (h : ED G ta δ fun x δ1 => ∃ b, x = .bool b ∧ QT b δ1) : DT G (tTest ta) δ QT := fun F σ H R I k =>
  h F σ H _ I fun x v δ1 H1 ⟨b, e, q⟩ J r => by
    subst e
    cases r
    exact ⟨b, rfl, k b δ1 H1 q J⟩
theorem dt_ofB (h : ED G ta δ fun x δ1 => ∃ b, x = .bool b ∧ QT b δ1) : DT G (tB ta) δ QT := fun F σ H R I k =>
  h F σ H _ I fun x v δ1 H1 ⟨b, e, q⟩ J r => by
    subst e
    cases r
    exact ⟨b, rfl, k b δ1 H1 q J⟩
theorem dt_and (h : DT G t δ fun b δ1 => if b = true then DT G u δ1 QT else QT false δ1) : DT G (tAnd t u) δ QT := fun F σ H R I k =>
  h F σ H _ I fun b δ1 H1 q J => by
    cases b with
    | true => exact iteT (q F σ H1 R J k)
    | false => exact iteF (k false δ1 H1 q J)
theorem dt_or (h : DT G t δ fun b δ1 => if b = true then QT true δ1 else DT G u δ1 QT) : DT G (tOr t u) δ QT := fun F σ H R I k =>
  h F σ H _ I fun b δ1 H1 q J => by
    cases b with
    | true => exact iteT (k true δ1 H1 q J)
    | false => exact iteF (q F σ H1 R J k)
theorem dt_not (h : DT G t δ fun b δ1 => QT (!b) δ1) : DT G (tNot t) δ QT := fun F σ H R I k => h F σ H _ I fun b δ1 H1 q J => k (!b) δ1 H1 q J
theorem ed_and (h : ED G ta δ fun x δ1 => ∃ b, x = .bool b ∧ if b = true then ED G tb δ1 Q else Q (.bool false) δ1) : ED G (tAndV ta tb) δ Q := fun F σ H R I k =>
  h F σ H _ I fun x v δ1 H1 ⟨b, e, q⟩ J r => by
    subst e
    cases r
    refine ⟨b, rfl, ?_⟩
    cases b with
    | true => exact iteT (q F σ H1 R J k)
    | false => exact iteF (k _ _ δ1 H1 q J (.bl _))
theorem ed_or (h : ED G ta δ fun x δ1 => ∃ b, x = .bool b ∧ if b = true then Q (.bool true) δ1 else ED G tb δ1 Q) : ED G (tOrV ta tb) δ Q := fun F σ H R I k =>
  h F σ H _ I fun x v δ1 H1 ⟨b, e, q⟩ J r => by
    subst e
    cases r
    refine ⟨b, rfl, ?_⟩
    cases b with
    | true => exact iteT (k _ _ δ1 H1 q J (.bl _))
    | false => exact iteF (q F σ H1 R J k)
theorem ed_not (h : ED G ta δ fun x δ1 => ∃ b, x = .bool b ∧ Q (.bool (!b)) δ1) : ED G (tNotV ta) δ Q := fun F σ H R I k =>
  h F σ H _ I fun x v δ1 H1 ⟨b, e, q⟩ J r => by
    subst e
    cases r
    exact ⟨b, rfl, k _ _ δ1 H1 q J (.bl _)⟩
theorem ed_if (h : DT G t δ fun b δ1 => if b = true then ED G ta δ1 Q else ED G tb δ1 Q) : ED G (tIf t ta tb) δ Q := fun F σ H R I k =>
  h F σ H _ I fun b δ1 H1 q J => by
    cases b with
    | true => exact iteT (q F σ H1 R J k)
    | false => exact iteF (q F σ H1 R J k)
/-- a op b op' c, numbers -/
theorem ed_chain {g g' : Int → Int → Bool} (h : ED G ta δ fun x δ1 => ED G tb δ1 fun y δ2 => ∃ i j, x = .int i ∧ y = .int j ∧ if g i j = true then ED G tc δ2 fun z δ3 => ∃ k, z = .int k ∧ Q (.bool (g' j k)) δ3 else Q (.bool false) δ2) :
    ED G (tChain (rI0 fun i j => .bl (g i j)) (rI0 fun i j => .bl (g' i j)) ta tb tc) δ Q := fun F σ H R I k =>
  h.go I fun x u δ1 H1 q1 s1 r1 => q1.go s1.ei fun y v δ2 H2 ⟨i, j, e1, e2, q⟩ s2 r2 => by
    subst e1 e2
    cases r1; cases r2
    refine ⟨i, j, rfl, rfl, g i j, rfl, ?_⟩
    cases hb : g i j with
    | true =>
      rw [hb] at q
      have q' : ED G tc δ2 (fun z δ3 => ∃ k, z = .int k ∧ Q (.bool (g' j k)) δ3) := by simpa using q
      refine iteT (q'.go s2.ei fun z w δ3 H3 ⟨l, e3, q3⟩ s3 r3 => ?_)
      subst e3
      cases r3
      exact ⟨j, l, rfl, rfl, k _ _ δ3 H3 q3 s3.ei (.bl _)⟩
    | false =>
      rw [hb] at q
      exact iteF (k _ _ δ2 H2 (by simpa using q) s2.ei (.bl _))
/-! ### arguments -/
variable {tr : TA} {QA : List Ar → DEnv → Prop}
theorem ea_nil (q : QA [] δ) : EA G tNil δ QA := fun F σ H R I k => k [] [] δ H q I .nil
theorem ArOk.gr {K : PySem.W.Frag} {Hd Hd' : Hp} {a : Ar} {v : V} (g : Gr Hd Hd') (h : ArOk K Hd δ σ a v) (hs : ∀ i, a = .s i → (∃ xs, δ[i]? = some (some (E.m xs))) → ∃ xs, δ'[i]? = some (some (E.m xs))) : ArOk K Hd' δ' σ a v := by
  cases a with
  | d x => exact Rp.gr g h
  | s i => exact ⟨h.1, hs i rfl h.2⟩
theorem ea_cons (h : ED G ta δ fun x δ1 => EA G tr δ1 fun as δ2 => QA (.d x :: as) δ2) : EA G (tCons ta tr) δ QA := fun F σ H R I k =>
  h.go I fun x v δ1 H1 q1 s1 r1 => q1.go s1.ei fun as vs δ2 H2 q2 s2 r2 => k _ _ δ2 H2 q2 s2.ei (.cons (Rp.gr s2.gr r1) r2)
theorem ea_slot {i : Nat} {xs : List PyData} (hi : δ[i]? = some (some (E.m xs))) (h : EA G tr δ fun as δ2 => (∃ ys, δ2[i]? = some (some (E.m ys))) ∧ QA (.s i :: as) δ2) : EA G (tCons (tVar i) tr) δ QA := fun F σ H R I k => by
  obtain ⟨v, h1, _⟩ := I.slot i _ hi
  exact ⟨v, h1, h.go I fun as vs δ2 H2 ⟨q1, q2⟩ s2 r2 => k _ _ δ2 H2 q2 s2.ei (.cons ⟨h1, q1⟩ r2)⟩
/-! ### displays -/
/-- all arguments are data -/
def allD : List Ar → Option (List PyData)
  | [] => some []
  | .d x :: r => (allD r).map (x :: ·)
  | .s _ :: _ => none
theorem allD_ok {K : PySem.W.Frag} {Hd : Hp} : ∀ {as : List Ar} {vs : List V} {xs : List PyData}, allD as = some xs → Paired (ArOk K Hd δ σ) as vs → RpL K Hd xs vs
  | [], _, _, e, .nil => by cases e; exact .nil
  | .d x :: r, _, _, e, .cons h t => by
    cases q : allD r with
    | none => simp [allD, q] at e
    | some ys =>
      simp [allD, q] at e
      subst e
      exact .cons h (allD_ok q t)
  | .s i :: r, _, _, e, .cons h t => by simp [allD] at e
theorem ed_tup (h : EA G tr δ fun as δ1 => ∃ xs, allD as = some xs ∧ xs.length ≤ sizeLine ∧ Q (.tuple xs) δ1) : ED G (tTup tr) δ Q := fun F σ H R I k =>
  h F σ H _ I fun as vs δ1 H1 ⟨xs, e, hl, q⟩ J r => by
    have r2 := allD_ok e r
    refine ⟨by rw [← r2.len]; exact hl, fun p hp => ?_⟩
    have J2 := J.laid hp (nt_tup vs)
    obtain ⟨_, _, hX, hm⟩ := J.fresh hp
    exact k _ _ δ1 _ q J2 (.tup (.inl (.inl (del_some.mpr ⟨fun z => z.elim hm hX, upd_same⟩))) (RpL.gr (gr_laid hp) r2))
/-- a new object that the slots don't know yet -/
theorem New.mk_ {p : Addr} {vs : List V} {xs : List PyData} (J : EI G F δ σ H) (hp : H p = none) (r : RpL G.K (del H (Sl F δ σ)) xs vs) : New G F δ σ (upd H p (.lst vs)) p xs := by
  obtain ⟨h0, hM, hX, hm⟩ := J.fresh hp
  have J2 := J.laid hp (nt_lst vs)
  have ne : ∀ {b : Addr} {u : HO}, H b = some u → b ≠ p := fun {b u} e z => by rw [z, hp] at e; cases e
  have gr : Gr (del H (Sl F δ σ)) (del (upd H p (.lst vs)) (Sl (F.own p) δ σ)) := gr_del fun b u n hb e => ⟨fun z => by
    rcases z with z | z | z
    · exact hb (.inl z)
    · exact ne e z
    · exact hb (.inr z), by rw [upd_ne (ne e)]; exact e⟩
  refine ⟨⟨J2.len, fun i e h => ?_, J2.nd, fun a ha => ?_, J2.keep, fun a ha => ?_, J2.pin, J2.tab, J2.tk, J2.mt, fun i ys a e1 e2 ha => ha.elim (fun z => absurd ⟨i, ys, e1, z ▸ e2⟩ hm) (J2.mx i ys a e1 e2), fun a w => ⟨.inr (J2.wl a w).1, (J2.wl a w).2⟩, J2.k1⟩, hm, hX, h0, hM, J.freshW hp, vs, upd_same, RpL.gr gr r⟩
  · obtain ⟨v, h1, h2⟩ := J.slot i e h
    refine ⟨v, h1, ?_⟩
    cases e with
    | d x => exact Rp.gr gr h2
    | err D => exact XR.gr gr h2
    | k n =>
      obtain ⟨a, ea, h3⟩ := h2
      exact ⟨a, ea, h3.up fun b u w e => by rw [upd_ne (ne e)]; exact e⟩
    | m ys =>
      obtain ⟨a, ws, h3, h4, h5⟩ := h2
      exact ⟨a, ws, h3, by rw [upd_ne (ne h4)]; exact h4, RpL.gr gr h5⟩
  · rcases J.own a ha with z | ⟨z, zx⟩
    · exact .inl z
    · refine .inr ⟨z, fun w => ?_⟩
      rcases w with w | w
      · subst w; exact hm ha
      · exact zx w
  · rcases ha with rfl | ha
    · exact ⟨_, upd_same, nt_lst vs⟩
    · exact J2.ex a ha
theorem ef_lst (h : EA G tr δ fun as δ1 => ∃ xs, allD as = some xs ∧ xs.length ≤ sizeLine ∧ QF xs δ1) : EF G (tLst tr) δ QF := fun F σ H R I k =>
  h F σ H _ I fun as vs δ1 H1 ⟨xs, e, hl, q⟩ J r => by
    have r2 := allD_ok e r
    exact ⟨by rw [← r2.len]; exact hl, fun p hp => k xs p δ1 _ q (New.mk_ J hp r2)⟩
/-- a new list as data -/
theorem New.give {p : Addr} {xs : List PyData} (N : New G F δ σ H p xs) : EI G F δ σ H ∧ Rp G.K (del H (Sl F δ σ)) (.list xs) (.ref p) := by
  obtain ⟨J, hm, hX, h0, _, wn, vs, hp, r⟩ := N
  have gr : Gr (del H (Sl (F.own p) δ σ)) (del H (Sl F δ σ)) := gr_del fun b u n hb e => ⟨fun z => hb (by
    rcases z with z | z
    · exact .inl z
    · exact .inr (.inr z)), e⟩
  refine ⟨⟨J.len, fun i e h => ?_, J.nd, fun a ha => ?_, J.keep, fun a ha => J.ex a (.inr ha), J.pin, J.tab, J.tk, J.mt, fun i ys a e1 e2 ha => J.mx i ys a e1 e2 (.inr ha), fun a w => ⟨((J.wl a w).1).resolve_left (fun z => wn (z ▸ w)), (J.wl a w).2⟩, J.k1⟩, .lst (del_some.mpr ⟨fun z => z.elim hm hX, hp⟩) (RpL.gr gr r)⟩
  · obtain ⟨v, h1, h2⟩ := J.slot i e h
    refine ⟨v, h1, ?_⟩
    cases e with
    | d x => exact Rp.gr gr h2
    | err D => exact XR.gr gr h2
    | k n => exact h2
    | m ys =>
      obtain ⟨a, ws, h3, h4, h5⟩ := h2
      exact ⟨a, ws, h3, h4, RpL.gr gr h5⟩
  · rcases J.own a ha with z | ⟨z, zx⟩
    · exact .inl z
    · exact .inr ⟨z, fun w => zx (.inr w)⟩
theorem ed_ef (h : EF G ta δ fun xs δ1 => Q (.list xs) δ1) : ED G ta δ Q := fun F σ H R I k => h F σ H R I fun xs p δ1 H1 q N => k _ _ δ1 H1 q N.give.1 N.give.2
end
end DX


set_option Elab.async false
set_option linter.all false
set_option maxRecDepth 100000
set_option maxHeartbeats 1000000
namespace DX
open PySem PySem.Spec PyProof.Rows L2 GxR GA
open Classical
section
variable {G : Gx} {F : Fx} {δ δ' : DEnv} {σ σ' : L2.St} {H H' : Hp} {ta tb tc : TE} {tr : TA} {Q : PyData → DEnv → Prop}
/-! ### built-ins by their arguments as data -/
theorem ed_cb {r : List V → Hp → VK → Prop} {P : List PyData → DEnv → Prop} (h : EA G tr δ fun as δ1 => ∃ xs, allD as = some xs ∧ P xs δ1)
    (hr : ∀ (F : Fx) (σ : L2.St) (H : Hp) (R : VK) (xs : List PyData) (vs : List V) (δ2 : DEnv), P xs δ2 → EI G F δ2 σ H → RpL G.K (del H (Sl F δ2 σ)) xs vs →
      (∀ d w δ' H', Q d δ' → EI G F δ' σ H' → Rp G.K (del H' (Sl F δ' σ)) d w → R w H') → r vs H R) : ED G (tCB r tr) δ Q := fun F σ H R I k =>
  h F σ H _ I fun as vs δ1 H1 ⟨xs, e, q⟩ J r1 => hr F σ H1 R xs vs δ1 q J (allD_ok e r1) k
def rLenS (K : PySem.W.Frag) : List V → Hp → VK → Prop := fun xs H Q => ∃ p ys, xs = [.ref p] ∧ (SqL K H p ys ∨ SqT K H p ys) ∧ Q (.int ys.length) H
theorem c_len {X : Cx} : CallR X (.builtin "len") (rLenS X.K) := call_len_seq
def seqD : PyData → Option (List PyData)
  | .list xs => some xs
  | .tuple xs => some xs
  | .dict [(.none, .list xs)] => some xs
  | _ => none
theorem rp_seq {K : PySem.W.Frag} {M : Addr → Prop} {x : PyData} {xs : List PyData} {v : V} (e : seqD x = some xs) (r : Rp K (del H M) x v) : ∃ p ys, v = .ref p ∧ (SqL K H p ys ∨ SqT K H p ys) ∧ RpL K (del H M) xs ys := by
  cases r with
  | lst h1 r3 =>
    cases e
    exact ⟨_, _, rfl, .inl (SqL.of (del_some.mp h1).2), r3⟩
  | tup h1 r3 =>
    cases e
    exact ⟨_, _, rfl, .inr (SqT.gr gr_out h1), r3⟩
  | scr h1 =>
    cases e
    exact ⟨_, _, rfl, .inl (SqL.gr gr_out h1), rp_of_ints _⟩
  | dk h o =>
    unfold seqD at e
    split at e
    · rename_i e2; cases e2
    · rename_i e2; cases e2
    · rename_i e2; cases e2; cases o
    · cases e
  | _ => cases e
def lenD (x : PyData) : Option Nat := (seqD x).map List.length
theorem ed_len (h : EA G tr δ fun as δ1 => ∃ xs, allD as = some xs ∧ ∃ x n, xs = [x] ∧ lenD x = some n ∧ Q (.int n) δ1) : ED G (tCB (rLenS G.K) tr) δ Q :=
  ed_cb h fun F σ H R xs vs δ2 ⟨x, n, e1, e2, q⟩ I r k => by
    subst e1
    obtain ⟨r1, r2⟩ := r
    rename_i r1 r2
    cases r2
    unfold lenD at e2
    cases e : seqD x with
    | none => rw [e] at e2; cases e2
    | some ys =>
      rw [e] at e2
      cases e2
      obtain ⟨p, zs, rfl, h1, h2⟩ := rp_seq e r1
      refine ⟨p, zs, rfl, h1, ?_⟩
      rw [← h2.len]
      exact k _ _ δ2 H q I (.int _)
/-- the length of a slot's own list -/
theorem ed_lenM {i : Nat} {xs : List PyData} (hi : δ[i]? = some (some (E.m xs))) (q : Q (.int xs.length) δ) : ED G (tCB (rLenS G.K) (tCons (tVar i) tNil)) δ Q := fun F σ H R I k => by
  obtain ⟨v, h1, a, vs, e, h2, h3⟩ := I.slot i _ hi
  subst e
  refine ⟨_, h1, a, vs, rfl, .inl (SqL.of h2), ?_⟩
  rw [← h3.len]
  exact k _ _ δ H q I (.int _)
def rMax2 : List V → Hp → VK → Prop := fun xs H Q => ∃ i j, xs = [.int i, .int j] ∧ Q (.int (if j > i then j else i)) H
def rMin2 : List V → Hp → VK → Prop := fun xs H Q => ∃ i j, xs = [.int i, .int j] ∧ Q (.int (if j < i then j else i)) H
theorem c_max2 {X : Cx} (hc : X.calm = true) : CallR X (.builtin "max") rMax2 := call_max2 hc
theorem c_min2 {X : Cx} (hc : X.calm = true) : CallR X (.builtin "min") rMin2 := call_min2 hc
theorem ed_max2 (h : EA G tr δ fun as δ1 => ∃ xs, allD as = some xs ∧ ∃ i j, xs = [.int i, .int j] ∧ Q (.int (if j > i then j else i)) δ1) : ED G (tCB rMax2 tr) δ Q :=
  ed_cb h fun F σ H R xs vs δ2 ⟨i, j, e1, q⟩ I r k => by
    subst e1
    cases r with
    | cons r1 r => cases r with
      | cons r2 r => cases r; cases r1; cases r2; exact ⟨i, j, rfl, k _ _ δ2 H q I (.int _)⟩
theorem ed_min2 (h : EA G tr δ fun as δ1 => ∃ xs, allD as = some xs ∧ ∃ i j, xs = [.int i, .int j] ∧ Q (.int (if j < i then j else i)) δ1) : ED G (tCB rMin2 tr) δ Q :=
  ed_cb h fun F σ H R xs vs δ2 ⟨i, j, e1, q⟩ I r k => by
    subst e1
    cases r with
    | cons r1 r => cases r with
      | cons r2 r => cases r; cases r1; cases r2; exact ⟨i, j, rfl, k _ _ δ2 H q I (.int _)⟩
def rInt1 : List V → Hp → VK → Prop := fun xs H Q => (∃ i, xs = [.int i] ∧ Q (.int i) H) ∨ ∃ k, xs = [.bl k] ∧ Q (.int (if k then 1 else 0)) H
theorem c_int1 {X : Cx} : CallR X (.type "int") rInt1 := call_int1
theorem ed_intB (h : EA G tr δ fun as δ1 => ∃ xs, allD as = some xs ∧ ∃ b, xs = [.bool b] ∧ Q (.int (if b then 1 else 0)) δ1) : ED G (tCB rInt1 tr) δ Q :=
  ed_cb h fun F σ H R xs vs δ2 ⟨b, e1, q⟩ I r k => by
    subst e1
    cases r with
    | cons r1 r => cases r; cases r1; exact .inr ⟨b, rfl, k _ _ δ2 H q I (.int _)⟩
def rList1 (K : PySem.W.Frag) : List V → Hp → VK → Prop := fun xs H Q => ∃ p ys, xs = [.ref p] ∧ (SqL K H p ys ∨ SqT K H p ys) ∧ ∀ l, H l = none → Q (.ref l) (upd H l (.lst ys))
theorem c_list1 {X : Cx} : CallR X (.type "list") (rList1 X.K) := call_list_of
theorem ef_list1 {QF : List PyData → DEnv → Prop} (h : EA G tr δ fun as δ1 => ∃ x xs, allD as = some [x] ∧ seqD x = some xs ∧ QF xs δ1) : EF G (tCB (rList1 G.K) tr) δ QF := fun F σ H R I k =>
  h F σ H _ I fun as vs δ1 H1 ⟨x, xs, e, e2, q⟩ J r1 => by
    have r2 := allD_ok e r1
    cases r2 with
    | cons r3 r4 =>
      cases r4
      obtain ⟨p, ys, rfl, h1, h2⟩ := rp_seq e2 r3
      exact ⟨p, ys, rfl, h1, fun l hl => k xs l δ1 _ q (New.mk_ J hl h2)⟩
def rAllL (K : PySem.W.Frag) : List V → Hp → VK → Prop := rAll K
theorem rp_bools {K : PySem.W.Frag} : ∀ {bs : List Bool} {vs : List V}, RpL K H (bs.map PyData.bool) vs → vs = bs.map V.bl
  | [], _, .nil => rfl
  | b :: bs, _, .cons r t => by
    cases r
    rw [rp_bools t]
    rfl
theorem rp_ints {K : PySem.W.Frag} : ∀ {ns : List Int} {vs : List V}, RpL K H (ns.map PyData.int) vs → vs = ns.map V.int
  | [], _, .nil => rfl
  | b :: bs, _, .cons r t => by
    cases r
    rw [rp_ints t]
    rfl
theorem ed_all (h : EA G tr δ fun as δ1 => ∃ bs : List Bool, allD as = some [.list (bs.map PyData.bool)] ∧ Q (.bool (bs.all id)) δ1) : ED G (tCB (rAll G.K) tr) δ Q := fun F σ H R I k =>
  h F σ H _ I fun as vs δ1 H1 ⟨bs, e, q⟩ J r1 => by
    have r2 := allD_ok e r1
    cases r2 with
    | cons r3 r4 =>
      cases r4
      cases r3 with
      | lst h1 r5 => exact ⟨_, bs, rfl, by rw [← rp_bools r5]; exact SqL.of (del_some.mp h1).2, k _ _ δ1 H1 q J (.bl _)⟩
theorem ed_maxL (h : EA G tr δ fun as δ1 => ∃ ns : List Int, allD as = some [.list (ns.map PyData.int)] ∧ 0 < ns.length ∧ ∀ m ∈ ns, (∀ y ∈ ns, y ≤ m) → Q (.int m) δ1) : ED G (tCB (rMax G.K) tr) δ Q := fun F σ H R I k =>
  h F σ H _ I fun as vs δ1 H1 ⟨bs, e, hl, q⟩ J r1 => by
    have r2 := allD_ok e r1
    cases r2 with
    | cons r3 r4 =>
      cases r4
      cases r3 with
      | lst h1 r5 => exact ⟨_, bs, rfl, by rw [← rp_ints r5]; exact SqL.of (del_some.mp h1).2, hl, fun m hm hle => k _ _ δ1 H1 (q m hm hle) J (.int _)⟩
/-! ### isinstance -/
def tyD : PyData → String
  | .none => "NoneType"
  | .bool _ => "bool"
  | .int _ => "int"
  | .str _ => "str"
  | .list _ => "list"
  | .tuple _ => "tuple"
  | .dict [(.none, .list _)] => "list"
  | .dict _ => "dict"
theorem rp_ty {K : PySem.W.Frag} {M : Addr → Prop} {x : PyData} {v : V} (r : Rp K (del H M) x v) : TyX K H v (.type (tyD x)) := by
  cases r with
  | non => exact .base .non
  | bl b => exact .base (.bl b)
  | int b => exact .base (.int b)
  | str b => exact .base (.str b)
  | lst h _ => exact .base (.lst (del_some.mp h).2)
  | tup h _ =>
    rcases SqT.gr gr_out h with (h | ⟨o, h⟩) | ⟨o, its, n, h, hc, _⟩
    · exact .base (.tup h)
    · exact .fTuple h
    · exact .kTuple h hc
  | dct h => exact .base (.dK (del_some.mp h).2)
  | @dk a u kvs h o =>
    have e : tyD (.dict kvs) = "dict" := by
      match kvs, o with
      | (.none, _) :: _, o => exact absurd o (by simp [opq])
      | (.bool _, _) :: _, _ => rfl
      | (.int _, _) :: _, _ => rfl
      | (.str _, _) :: _, _ => rfl
      | (.list _, _) :: _, _ => rfl
      | (.tuple _, _) :: _, _ => rfl
      | (.dict _, _) :: _, _ => rfl
    rw [e]
    exact .base (.dK (del_some.mp h).2)
  | scr h =>
    rcases SqL.gr gr_out h with (h | ⟨o, h⟩) | ⟨o, its, n, h, hc, _⟩
    · exact .base (.lst h)
    · exact .base (.frz h)
    · exact .kList h hc
theorem tyD_all (x : PyData) : tyD x = "NoneType" ∨ tyD x = "bool" ∨ tyD x = "int" ∨ tyD x = "str" ∨ tyD x = "list" ∨ tyD x = "tuple" ∨ tyD x = "dict" := by
  unfold tyD
  split <;> simp
/-- isinstance of a built-in class -/
def isD (T : String) (x : PyData) : Bool := tyD x == T || (T == "int" && tyD x == "bool")
theorem kit_is {K : PySem.W.Frag} {T : String} (hT : T ∈ ["int", "bool", "str", "list", "tuple", "dict"]) (x : PyData) : PySem.W.kitOne K (.type (tyD x)) (.type T) = some (isD T x) := by
  simp only [List.mem_cons, List.not_mem_nil, or_false] at hT
  rcases hT with rfl | rfl | rfl | rfl | rfl | rfl <;> rcases tyD_all x with e | e | e | e | e | e | e <;> (unfold isD; rw [e]; rfl)
theorem ed_isi {T : String} (hT : T ∈ ["int", "bool", "str", "list", "tuple", "dict"]) (h : ED G ta δ fun x δ1 => Q (.bool (isD T x)) δ1) : ED G (tCB (rIsi G.K) (tCons ta (tCons (tC (.ty T)) tNil))) δ Q := fun F σ H R I k =>
  h F σ H _ I fun x v δ1 H1 q J r => ⟨v, .ty T, _, _, _, rfl, .ty T, rp_ty r, kit_is hT x, k _ _ δ1 H1 q J (.bl _)⟩
theorem kit_any {K : PySem.W.Frag} (x : PyData) : PySem.W.kitAny K (.type (tyD x)) [.type "list", .type "tuple"] = some (isD "list" x || isD "tuple" x) := by
  rcases tyD_all x with e | e | e | e | e | e | e <;> (unfold isD; rw [e]; rfl)
theorem ed_isiLT (h : ED G ta δ fun x δ1 => Q (.bool (isD "list" x || isD "tuple" x)) δ1) : ED G (tCB (rIsiT G.K) (tCons ta (tCons (tTup (tCons (tC (.ty "list")) (tCons (tC (.ty "tuple")) tNil))) tNil))) δ Q := fun F σ H R I k =>
  h F σ H _ I fun x v δ1 H1 q J r => by
    refine ⟨by show 2 ≤ sizeLine; decide, fun p hp => ?_⟩
    have J2 := J.laid hp (nt_tup [.ty "list", .ty "tuple"])
    have r2 := r.gr (gr_laid (o := .tup [.ty "list", .ty "tuple"]) hp)
    exact ⟨v, p, _, _, _, _, rfl, upd_same, .cons (.ty _) (.cons (.ty _) .nil), rp_ty r2, kit_any x, k _ _ δ1 _ q J2 (.bl _)⟩
/-! ### subscripts -/
theorem atI_rp {K : PySem.W.Frag} {xs : List PyData} {vs : List V} {i : Int} {x : PyData} (r : RpL K H xs vs) (h : atI xs i = some x) : ∃ v, atI vs i = some v ∧ Rp K H x v := by
  unfold atI at h ⊢
  rw [← r.len]
  cases e : ixN xs.length i with
  | none => rw [e] at h; cases h
  | some j =>
    rw [e] at h
    exact r.get h
theorem ed_ix (h : ED G ta δ fun x δ1 => ED G tb δ1 fun y δ2 => ∃ xs i d, seqD x = some xs ∧ y = .int i ∧ atI xs i = some d ∧ Q d δ2) : ED G (tOp (rIx G.K) ta tb) δ Q :=
  ed_two h fun F σ H R x y u v δ2 ⟨xs, i, d, e1, e2, e3, q⟩ I r1 r2 k => by
    subst e2
    cases r2
    obtain ⟨p, ys, rfl, h1, h2⟩ := rp_seq e1 r1
    obtain ⟨w, h3, h4⟩ := atI_rp h2 e3
    rcases h1 with h1 | h1
    · exact .inl ⟨p, ys, i, w, rfl, rfl, h1, h3, k _ _ δ2 H q I h4⟩
    · exact .inr (.inl ⟨p, ys, i, w, rfl, rfl, h1, h3, k _ _ δ2 H q I h4⟩)
/-- of a slot's own list -/
theorem ed_ixM {i : Nat} {xs : List PyData} (hi : δ[i]? = some (some (E.m xs))) (h : ED G tb δ fun y δ2 => δ2 = δ ∧ ∃ j d, y = .int j ∧ atI xs j = some d ∧ Q d δ) : ED G (tOp (rIx G.K) (tVar i) tb) δ Q := fun F σ H R I k => by
  obtain ⟨v, h1, _⟩ := I.slot i _ hi
  refine ⟨v, h1, h.go I fun y w δ2 H2 ⟨e0, j, d, e1, e2, q⟩ s2 r2 => ?_⟩
  subst e0 e1
  cases r2
  obtain ⟨v', h1', a, vs, e, h2, h3⟩ := s2.ei.slot i _ hi
  rw [h1] at h1'
  cases h1'
  subst e
  obtain ⟨u, h4, h5⟩ := atI_rp h3 e2
  exact .inl ⟨a, vs, j, u, rfl, rfl, SqL.of h2, h4, k _ _ _ H2 q s2.ei h5⟩
/-! ### slices -/
def DO (G : Gx) (t : TO) (δ : DEnv) (Q : Option Int → DEnv → Prop) : Prop :=
  ∀ (F : Fx) (σ : L2.St) (H : Hp) (R : Option Int → Hp → Prop), EI G F δ σ H → (∀ o δ' H', Q o δ' → Since G F δ σ H δ' σ H' → R o H') → t σ H R
theorem EI.here (I : EI G F δ σ H) : Since G F δ σ H δ σ H := I.since I.now
theorem do_none {QO : Option Int → DEnv → Prop} (q : QO none δ) : DO G tNoPart δ QO := fun F σ H R I k => k none δ H q I.here
theorem do_some {QO : Option Int → DEnv → Prop} (h : ED G ta δ fun x δ1 => ∃ i, x = .int i ∧ QO (some i) δ1) : DO G (tPart ta) δ QO := fun F σ H R I k =>
  h.go I fun x v δ1 H1 ⟨i, e, q⟩ s1 r => by
    subst e
    cases r
    exact ⟨i, rfl, k _ δ1 H1 q s1⟩
def cutD (xs : List PyData) (lo hi : Option Int) : List PyData := (xs.drop (HT.sIx xs.length 0 lo)).take (HT.sIx xs.length xs.length hi - HT.sIx xs.length 0 lo)
theorem cut_rp {K : PySem.W.Frag} {xs : List PyData} {vs : List V} {lo hi : Option Int} (r : RpL K H xs vs) : RpL K H (cutD xs lo hi) (cutV vs lo hi) := by
  unfold cutD cutV
  rw [← r.len]
  exact (r.drop _).take _
theorem ef_slice {tl th : TO} {QF : List PyData → DEnv → Prop} (h : ED G ta δ fun x δ1 => DO G tl δ1 fun lo δ2 => DO G th δ2 fun hi δ3 => ∃ xs, x = .list xs ∧ QF (cutD xs lo hi) δ3) : EF G (tSl (rSlL G.K) ta tl th) δ QF := fun F σ H R I k =>
  h.go I fun x v δ1 H1 q1 s1 r1 => q1 F σ H1 _ s1.ei fun lo δ2 H2 q2 s2 => q2 F σ H2 _ s2.ei fun hi δ3 H3 ⟨xs, e, q3⟩ s3 => by
    subst e
    have r2 := (r1.gr s2.gr).gr s3.gr
    cases r2 with
    | lst h1 r3 => exact ⟨_, _, rfl, SqL.of (del_some.mp h1).2, fun p hp => k _ p δ3 _ q3 (New.mk_ s3.ei hp (cut_rp r3))⟩
/-! ### + and * of lists -/
theorem ef_cat {QF : List PyData → DEnv → Prop} (h : ED G ta δ fun x δ1 => ED G tb δ1 fun y δ2 => ∃ xs ys, x = .list xs ∧ y = .list ys ∧ xs.length + ys.length ≤ sizeLine ∧ QF (xs ++ ys) δ2) : EF G (tOp rCat ta tb) δ QF := fun F σ H R I k =>
  h.go I fun x u δ1 H1 q1 s1 r1 => q1.go s1.ei fun y v δ2 H2 ⟨xs, ys, e1, e2, hl, q⟩ s2 r2 => by
    subst e1 e2
    have r1 := r1.gr s2.gr
    cases r1 with
    | lst h1 r3 => cases r2 with
      | lst h2 r4 => exact ⟨_, _, _, _, rfl, rfl, (del_some.mp h1).2, (del_some.mp h2).2, by rw [← r3.len, ← r4.len]; exact hl, fun p hp => k _ p δ2 _ q (New.mk_ s2.ei hp (r3.app r4))⟩
end
end DX


set_option Elab.async false
set_option linter.all false
set_option maxRecDepth 100000
set_option maxHeartbeats 1000000
namespace DX
open PySem PySem.Spec PyProof.Rows L2 GxR GA
open Classical
/-! ### storing to slots -/
section
variable {G : Gx} {F : Fx} {δ δ' : DEnv} {σ σ' : L2.St} {H H' : Hp} {ta tb tc : TE} {tr : TA} {Q : PyData → DEnv → Prop}
theorem get_set {α : Type} {l : List α} {i j : Nat} {a b : α} (h : (l.set i a)[j]? = some b) : (j = i ∧ b = a ∧ i < l.length) ∨ (j ≠ i ∧ l[j]? = some b) := by
  by_cases e : i = j
  · subst e
    by_cases hl : i < l.length
    · rw [List.getElem?_set_self hl] at h
      cases h
      exact .inl ⟨rfl, rfl, hl⟩
    · rw [List.getElem?_eq_none (by rw [List.length_set]; omega)] at h
      cases h
  · rw [List.getElem?_set_ne e] at h
    exact .inr ⟨fun z => e z.symm, h⟩
/-- a store of data: who owned a list there gives it up -/
theorem MA.set_d {i : Nat} {x : Option E} {v : Option V} (hx : ∀ xs, x ≠ some (E.m xs)) {a : Addr} (h : MA (δ.set i x) (σ.set i v) a) : MA δ σ a ∧ ∃ j xs, j ≠ i ∧ δ[j]? = some (some (E.m xs)) ∧ σ[j]? = some (some (V.ref a)) := by
  obtain ⟨j, xs, h1, h2⟩ := h
  rcases get_set h1 with ⟨_, e, _⟩ | ⟨ne, h3⟩
  · exact absurd e.symm (hx xs)
  · rw [List.getElem?_set_ne (fun z => ne z.symm)] at h2
    exact ⟨⟨j, xs, h3, h2⟩, j, xs, ne, h3, h2⟩
theorem EI.set_d {i : Nat} {d : PyData} {v : V} (I : EI G F δ σ H) (hp : i ∉ G.pn) (r : Rp G.K (del H (Sl F δ σ)) d v) : EI G F (δ.set i (some (.d d))) (σ.set i (some v)) H := by
  have gr : Gr (del H (Sl F δ σ)) (del H (Sl F (δ.set i (some (.d d))) (σ.set i (some v)))) := gr_del fun b u n hb e => ⟨fun z => hb (z.imp (fun z => (MA.set_d (fun _ q => by cases q) z).1) id), e⟩
  refine ⟨by rw [List.length_set, List.length_set]; exact I.len, fun j e h => ?_, fun j k xs ys a h1 h2 h3 h4 => ?_, fun a ha => I.own a (MA.set_d (fun _ q => by cases q) ha).1, I.keep, I.ex, fun j hj => ?_, I.tab, I.tk, I.mt, fun j ys a e1 e2 ha => by
    rcases get_set e1 with ⟨_, e, _⟩ | ⟨ne, h1⟩
    · cases e
    · rw [List.getElem?_set_ne (fun z => ne z.symm)] at e2
      exact I.mx j ys a h1 e2 ha, fun a w => ⟨(I.wl a w).1, fun z => (I.wl a w).2 (MA.set_d (fun _ q => by cases q) z).1⟩, I.k1.set (fun _ q => by cases q)⟩
  · rcases get_set h with ⟨rfl, e1, hl⟩ | ⟨ne, h1⟩
    · cases e1
      exact ⟨v, by rw [List.getElem?_set_self (by rw [← I.len]; exact hl)], r.gr gr⟩
    · obtain ⟨w, h2, h3⟩ := I.slot j e h1
      refine ⟨w, by rw [List.getElem?_set_ne (fun z => ne z.symm)]; exact h2, ?_⟩
      cases e with
      | d x => exact Rp.gr gr h3
      | err D => exact XR.gr gr h3
      | k n => exact h3
      | m ys =>
        obtain ⟨a, ws, h4, h5, h6⟩ := h3
        exact ⟨a, ws, h4, h5, RpL.gr gr h6⟩
  · rcases get_set h1 with ⟨_, e, _⟩ | ⟨n1, h1⟩
    · cases e
    · rcases get_set h2 with ⟨_, e, _⟩ | ⟨n2, h2⟩
      · cases e
      · rw [List.getElem?_set_ne (fun z => n1 z.symm)] at h3
        rw [List.getElem?_set_ne (fun z => n2 z.symm)] at h4
        exact I.nd j k xs ys a h1 h2 h3 h4
  · rw [List.getElem?_set_ne (fun z : i = j => hp (by rw [z]; exact hj))]
    exact I.pin j hj
/-- forgetting a slot -/
theorem EI.set_n {i : Nat} {v : Option V} (I : EI G F δ σ H) (hp : i ∉ G.pn) : EI G F (δ.set i none) (σ.set i v) H := by
  have gr : Gr (del H (Sl F δ σ)) (del H (Sl F (δ.set i none) (σ.set i v))) := gr_del fun b u n hb e => ⟨fun z => hb (z.imp (fun z => (MA.set_d (fun _ q => by cases q) z).1) id), e⟩
  refine ⟨by rw [List.length_set, List.length_set]; exact I.len, fun j e h => ?_, fun j k xs ys a h1 h2 h3 h4 => ?_, fun a ha => I.own a (MA.set_d (fun _ q => by cases q) ha).1, I.keep, I.ex, fun j hj => ?_, I.tab, I.tk, I.mt, fun j ys a e1 e2 ha => by
    rcases get_set e1 with ⟨_, e, _⟩ | ⟨ne, h1⟩
    · cases e
    · rw [List.getElem?_set_ne (fun z => ne z.symm)] at e2
      exact I.mx j ys a h1 e2 ha, fun a w => ⟨(I.wl a w).1, fun z => (I.wl a w).2 (MA.set_d (fun _ q => by cases q) z).1⟩, I.k1.set (fun _ q => by cases q)⟩
  · rcases get_set h with ⟨rfl, e1, hl⟩ | ⟨ne, h1⟩
    · cases e1
    · obtain ⟨w, h2, h3⟩ := I.slot j e h1
      refine ⟨w, by rw [List.getElem?_set_ne (fun z => ne z.symm)]; exact h2, ?_⟩
      cases e with
      | d x => exact Rp.gr gr h3
      | err D => exact XR.gr gr h3
      | k n => exact h3
      | m ys =>
        obtain ⟨a, ws, h4, h5, h6⟩ := h3
        exact ⟨a, ws, h4, h5, RpL.gr gr h6⟩
  · rcases get_set h1 with ⟨_, e, _⟩ | ⟨n1, h1⟩
    · cases e
    · rcases get_set h2 with ⟨_, e, _⟩ | ⟨n2, h2⟩
      · cases e
      · rw [List.getElem?_set_ne (fun z => n1 z.symm)] at h3
        rw [List.getElem?_set_ne (fun z => n2 z.symm)] at h4
        exact I.nd j k xs ys a h1 h2 h3 h4
  · rw [List.getElem?_set_ne (fun z : i = j => hp (by rw [z]; exact hj))]
    exact I.pin j hj
/-- a new list becomes a slot's own -/
theorem New.take {i : Nat} {xs : List PyData} {p : Addr} (N : New G F δ σ H p xs) (hi : i < δ.length) (hp : i ∉ G.pn) : EI G F (δ.set i (some (.m xs))) (σ.set i (some (.ref p))) H := by
  obtain ⟨J, hm, hX, h0, _, wn, vs, hq, r⟩ := N
  have old : ∀ {a}, MA (δ.set i (some (.m xs))) (σ.set i (some (.ref p))) a → a = p ∨ MA δ σ a := fun {a} ⟨j, ys, h1, h2⟩ => by
    rcases get_set h1 with ⟨e, _, _⟩ | ⟨ne, h3⟩
    · subst e
      rw [List.getElem?_set_self (by rw [← J.len]; exact hi)] at h2
      cases h2
      exact .inl rfl
    · rw [List.getElem?_set_ne (fun z => ne z.symm)] at h2
      exact .inr ⟨j, ys, h3, h2⟩
  have gr : Gr (del H (Sl (F.own p) δ σ)) (del H (Sl F (δ.set i (some (.m xs))) (σ.set i (some (.ref p))))) := gr_del fun b u n hb e => ⟨fun z => hb (by
    rcases z with z | z
    · rcases old z with z | z
      · exact .inr (.inl z)
      · exact .inl z
    · exact .inr (.inr z)), e⟩
  refine ⟨by rw [List.length_set, List.length_set]; exact J.len, fun j e h => ?_, fun j k ys zs a h1 h2 h3 h4 => ?_, fun a ha => ?_, J.keep, fun a ha => J.ex a (.inr ha), fun j hj => ?_, J.tab, J.tk, J.mt, fun j ys a e1 e2 ha => by
    rcases get_set e1 with ⟨e, _, _⟩ | ⟨ne, h1⟩
    · rw [e, List.getElem?_set_self (by rw [← J.len]; exact hi)] at e2
      cases e2
      exact absurd ha hX
    · rw [List.getElem?_set_ne (fun z => ne z.symm)] at e2
      exact J.mx j ys a h1 e2 (.inr ha), fun a w => ⟨((J.wl a w).1).resolve_left (fun z => wn (z ▸ w)), fun z => (old z).elim (fun z => wn (z ▸ w)) (J.wl a w).2⟩, J.k1.set (fun _ q => by cases q)⟩
  · rcases get_set h with ⟨rfl, e1, hl⟩ | ⟨ne, h1⟩
    · cases e1
      exact ⟨.ref p, by rw [List.getElem?_set_self (by rw [← J.len]; exact hl)], p, vs, rfl, hq, RpL.gr gr r⟩
    · obtain ⟨w, h2, h3⟩ := J.slot j e h1
      refine ⟨w, by rw [List.getElem?_set_ne (fun z => ne z.symm)]; exact h2, ?_⟩
      cases e with
      | d x => exact Rp.gr gr h3
      | err D => exact XR.gr gr h3
      | k n => exact h3
      | m ys =>
        obtain ⟨a, ws, h4, h5, h6⟩ := h3
        exact ⟨a, ws, h4, h5, RpL.gr gr h6⟩
  · have pm : ∀ {j : Nat} {ys : List PyData} {a : Addr}, δ[j]? = some (some (E.m ys)) → (σ.set i (some (V.ref p)))[j]? = some (some (V.ref a)) → j ≠ i → a ≠ p := fun {j ys a} e1 e2 ne z => by
      rw [List.getElem?_set_ne (fun z => ne z.symm)] at e2
      subst z
      exact hm ⟨j, ys, e1, e2⟩
    have me : ∀ {a : Addr}, (σ.set i (some (V.ref p)))[i]? = some (some (V.ref a)) → a = p := fun {a} e => by
      rw [List.getElem?_set_self (by rw [← J.len]; exact hi)] at e
      cases e; rfl
    rcases get_set h1 with ⟨e1, _, _⟩ | ⟨n1, g1⟩
    · rcases get_set h2 with ⟨e2, _, _⟩ | ⟨n2, g2⟩
      · rw [e1, e2]
      · rw [e1] at h3
        exact absurd (me h3) (pm g2 h4 n2)
    · rcases get_set h2 with ⟨e2, _, _⟩ | ⟨n2, g2⟩
      · rw [e2] at h4
        exact absurd (me h4) (pm g1 h3 n1)
      · rw [List.getElem?_set_ne (fun z => n1 z.symm)] at h3
        rw [List.getElem?_set_ne (fun z => n2 z.symm)] at h4
        exact J.nd j k ys zs a g1 g2 h3 h4
  · rcases old ha with rfl | ha
    · exact .inr ⟨h0, hX⟩
    · rcases J.own a ha with z | ⟨z, zx⟩
      · exact .inl z
      · exact .inr ⟨z, fun w => zx (.inr w)⟩
  · rw [List.getElem?_set_ne (fun z : i = j => hp (by rw [z]; exact hj))]
    exact J.pin j hj
/-- a slot's own list becomes data -/
theorem EI.freeze {i : Nat} {xs : List PyData} (I : EI G F δ σ H) (h : δ[i]? = some (some (E.m xs))) (hp : i ∉ G.pn) : EI G F (δ.set i (some (.d (.list xs)))) σ H := by
  obtain ⟨v, h1, a, vs, e, h2, h3⟩ := I.slot i _ h
  subst e
  have old : ∀ {b}, MA (δ.set i (some (.d (.list xs)))) σ b → MA δ σ b ∧ b ≠ a := fun {b} ⟨j, ys, e1, e2⟩ => by
    rcases get_set e1 with ⟨_, e, _⟩ | ⟨ne, e3⟩
    · cases e
    · exact ⟨⟨j, ys, e3, e2⟩, fun z => ne (I.nd j i ys xs a e3 h (z ▸ e2) h1)⟩
  have hX : ¬ F.X0 a := fun z => hp (I.mx i xs a h h1 z)
  have gr : Gr (del H (Sl F δ σ)) (del H (Sl F (δ.set i (some (.d (.list xs)))) σ)) := gr_del fun b u n hb e => ⟨fun z => hb (z.imp (fun z => (old z).1) id), e⟩
  refine ⟨by rw [List.length_set]; exact I.len, fun j e h4 => ?_, fun j k ys zs b e1 e2 e3 e4 => ?_, fun b hb => I.own b (old hb).1, I.keep, I.ex, I.pin, I.tab, I.tk, I.mt, fun j ys b e1 e2 ha => by
    rcases get_set e1 with ⟨_, e, _⟩ | ⟨ne, h1⟩
    · cases e
    · exact I.mx j ys b h1 e2 ha, fun a w => ⟨(I.wl a w).1, fun z => (I.wl a w).2 (old z).1⟩, I.k1.set (fun _ q => by cases q)⟩
  · rcases get_set h4 with ⟨rfl, e1, hl⟩ | ⟨ne, e1⟩
    · cases e1
      exact ⟨_, h1, .lst (del_some.mpr ⟨fun z => z.elim (fun z => (old z).2 rfl) hX, h2⟩) (RpL.gr gr h3)⟩
    · obtain ⟨w, e2, e3⟩ := I.slot j e e1
      refine ⟨w, e2, ?_⟩
      cases e with
      | d x => exact Rp.gr gr e3
      | err D => exact XR.gr gr e3
      | k n => exact e3
      | m ys =>
        obtain ⟨b, ws, h4, h5, h6⟩ := e3
        exact ⟨b, ws, h4, h5, RpL.gr gr h6⟩
  · rcases get_set e1 with ⟨_, e, _⟩ | ⟨n1, e1⟩
    · cases e
    · rcases get_set e2 with ⟨_, e, _⟩ | ⟨n2, e2⟩
      · cases e
      · exact I.nd j k ys zs b e1 e2 e3 e4
/-- a slot gives its own list away -/
theorem EI.release {i : Nat} {xs : List PyData} {a : Addr} (I : EI G F δ σ H) (h : δ[i]? = some (some (E.m xs))) (h1 : σ[i]? = some (some (V.ref a))) (hM : ¬ F.M0 a) : New G F (δ.set i none) σ H a xs := by
  obtain ⟨v, e1, b, vs, e, h2, h3⟩ := I.slot i _ h
  subst e
  rw [h1] at e1
  cases e1
  have hma : MA δ σ a := ⟨i, xs, h, h1⟩
  have old : ∀ {b}, MA (δ.set i none) σ b → MA δ σ b ∧ b ≠ a := fun {b} ⟨j, ys, e1, e2⟩ => by
    rcases get_set e1 with ⟨_, e, _⟩ | ⟨ne, e3⟩
    · cases e
    · exact ⟨⟨j, ys, e3, e2⟩, fun z => ne (I.nd j i ys xs a e3 h (z ▸ e2) h1)⟩
  obtain ⟨h0, hX⟩ := (I.own a hma).resolve_left hM
  have gr : Gr (del H (Sl F δ σ)) (del H (Sl (F.own a) (δ.set i none) σ)) := gr_del fun b u n hb e => ⟨fun z => hb (by
    rcases z with z | z | z
    · exact .inl (old z).1
    · exact .inl (z ▸ hma)
    · exact .inr z), e⟩
  refine ⟨⟨by rw [List.length_set]; exact I.len, fun j e h4 => ?_, fun j k ys zs b e1 e2 e3 e4 => ?_, fun b hb => ?_, I.keep, fun b hb => ?_, I.pin, I.tab, I.tk, I.mt, fun j ys b e1 e2 hb => by
    rcases hb with hb | hb
    · exact absurd hb (old ⟨j, ys, e1, e2⟩).2
    · rcases get_set e1 with ⟨_, e, _⟩ | ⟨ne, h1⟩
      · cases e
      · exact I.mx j ys b h1 e2 hb, fun b w => ⟨.inr (I.wl b w).1, fun z => (I.wl b w).2 (old z).1⟩, I.k1.set (fun _ q => by cases q)⟩, fun z => (old z).2 rfl, hX, h0, hM, fun w => (I.wl a w).2 hma, vs, h2, RpL.gr gr h3⟩
  · rcases get_set h4 with ⟨_, e1, _⟩ | ⟨ne, e1⟩
    · cases e1
    · obtain ⟨w, e2, e3⟩ := I.slot j e e1
      refine ⟨w, e2, ?_⟩
      cases e with
      | d x => exact Rp.gr gr e3
      | err D => exact XR.gr gr e3
      | k n => exact e3
      | m ys =>
        obtain ⟨b, ws, h4, h5, h6⟩ := e3
        exact ⟨b, ws, h4, h5, RpL.gr gr h6⟩
  · rcases get_set e1 with ⟨_, e, _⟩ | ⟨n1, e1⟩
    · cases e
    · rcases get_set e2 with ⟨_, e, _⟩ | ⟨n2, e2⟩
      · cases e
      · exact I.nd j k ys zs b e1 e2 e3 e4
  · rcases I.own b (old hb).1 with z | ⟨z, zx⟩
    · exact .inl z
    · refine .inr ⟨z, fun w => ?_⟩
      rcases w with w | w
      · exact (old hb).2 w
      · exact zx w
  · rcases hb with hb | hb
    · exact ⟨_, (congrArg H hb).trans h2, nt_lst _⟩
    · exact I.ex b hb
/-- a slot's own list is changed -/
theorem EI.write {i : Nat} {xs ys : List PyData} {vs ws : List V} {a : Addr} (I : EI G F δ σ H) (h : δ[i]? = some (some (E.m xs))) (h1 : σ[i]? = some (some (V.ref a))) (h2 : H a = some (.lst vs)) (r : RpL G.K (del H (Sl F δ σ)) ys ws) :
    EI G F (δ.set i (some (.m ys))) σ (upd H a (.lst ws)) := by
  have hma : MA δ σ a := ⟨i, xs, h, h1⟩
  have old : ∀ {b}, MA (δ.set i (some (.m ys))) σ b → MA δ σ b := fun {b} ⟨j, zs, e1, e2⟩ => by
    rcases get_set e1 with ⟨e0, e, _⟩ | ⟨ne, e3⟩
    · subst e0
      exact ⟨j, xs, h, e2⟩
    · exact ⟨j, zs, e3, e2⟩
  have gr : Gr (del H (Sl F δ σ)) (del (upd H a (.lst ws)) (Sl F (δ.set i (some (.m ys))) σ)) := gr_del fun b u n hb e => ⟨fun z => hb (z.imp old id), by
    have ne : b ≠ a := fun z => hb (.inl (z ▸ hma))
    rw [upd_ne ne]; exact e⟩
  refine ⟨by rw [List.length_set]; exact I.len, fun j e h4 => ?_, fun j k zs us b e1 e2 e3 e4 => ?_, fun b hb => I.own b (old hb), fun b u n hb hw e => ?_, fun b hb => ?_, I.pin, fun p hp => ?_, fun b ps e => ?_, fun b hb => ?_, fun j zs b e1 e2 hb => by
    rcases get_set e1 with ⟨e0, _, _⟩ | ⟨ne, g1⟩
    · subst e0
      exact I.mx j xs b h e2 hb
    · exact I.mx j zs b g1 e2 hb, fun b w => ⟨(I.wl b w).1, fun z => (I.wl b w).2 (old z)⟩, I.k1.set (fun _ q => by cases q)⟩
  · rcases get_set h4 with ⟨rfl, e1, hl⟩ | ⟨ne, e1⟩
    · cases e1
      exact ⟨_, h1, a, ws, rfl, upd_same, RpL.gr gr r⟩
    · obtain ⟨w, e2, e3⟩ := I.slot j e e1
      refine ⟨w, e2, ?_⟩
      cases e with
      | d x => exact Rp.gr gr e3
      | err D => exact XR.gr gr e3
      | k n =>
        obtain ⟨b, eb, h3⟩ := e3
        exact ⟨b, eb, h3.up fun c u w e => by rw [upd_ne (show c ≠ a from fun z => (I.wl c w).2 (by rw [z]; exact hma))]; exact e⟩
      | m zs =>
        obtain ⟨b, us, h4, h5, h6⟩ := e3
        subst h4
        have nb : b ≠ a := fun z => ne (I.nd j i zs xs a e1 h (z ▸ e2) h1)
        exact ⟨b, us, rfl, by rw [upd_ne nb]; exact h5, RpL.gr gr h6⟩
  · have b1 : ∃ z, δ[j]? = some (some (E.m z)) := by
      rcases get_set e1 with ⟨e0, e, _⟩ | ⟨_, e1⟩
      · subst e0; exact ⟨_, h⟩
      · exact ⟨_, e1⟩
    have b2 : ∃ z, δ[k]? = some (some (E.m z)) := by
      rcases get_set e2 with ⟨e0, e, _⟩ | ⟨_, e1⟩
      · subst e0; exact ⟨_, h⟩
      · exact ⟨_, e1⟩
    obtain ⟨z1, b1⟩ := b1
    obtain ⟨z2, b2⟩ := b2
    exact I.nd j k z1 z2 b b1 b2 e3 e4
  · have e1 := I.keep b u n hb hw e
    by_cases hba : b = a
    · subst hba
      rcases I.own b hma with z | ⟨z, _⟩
      · exact absurd z hb
      · rw [z] at e; cases e
    · rw [upd_ne hba]; exact e1
  · by_cases hba : b = a
    · subst hba; exact ⟨_, upd_same, nt_lst _⟩
    · rw [upd_ne hba]; exact I.ex b hb
  · obtain ⟨ps, e, t⟩ := I.tab p hp
    have ne : p ≠ a := fun z => by rw [z, h2] at e; cases e
    exact ⟨ps, by rw [upd_ne ne]; exact e, t⟩
  · obtain ⟨qs, e1⟩ := I.tk b ps e
    have ne : b ≠ a := fun z => by rw [z, h2] at e1; cases e1
    exact ⟨qs, by rw [upd_ne ne]; exact e1⟩
  · by_cases hba : b = a
    · subst hba; exact ⟨_, upd_same⟩
    · rw [upd_ne hba]; exact I.mt b hb
end
end DX


set_option Elab.async false
set_option linter.all false
set_option maxRecDepth 100000
set_option maxHeartbeats 1000000
namespace DX
open PySem PySem.Spec PyProof.Rows L2 GxR GA
open Classical
/-! ### what a def promises, over data -/
abbrev CtP := List PyData → (PyData → Prop) → Prop
abbrev CtT := List PyData → List PyData → (PyData → List PyData → Prop) → Prop
/-- all data in, data out; what stood stands -/
def spP (K : PySem.W.Frag) (cs : List Addr) (C : CtP) : Sp := fun vs H Q _ => ∃ (xs : List PyData) (P : PyData → Prop) (X0 : Addr → Prop), C xs P ∧ RpL K (del H X0) xs vs ∧ (∀ a, X0 a → ∃ o, H a = some o ∧ NT o) ∧ (∀ p ∈ cs, TabG H p) ∧
  ∀ d v H', P d → Rp K (del H' X0) d v → (∀ b o, NT o → H b = some o → H' b = some o) → (∀ b ps, H b = some (.tbl ps) → ∃ qs, H' b = some (.tbl qs)) → (∀ p ∈ cs, TabG H' p) → Q v H'
/-- the first argument a list that changes -/
def spT (K : PySem.W.Frag) (cs : List Addr) (C : CtT) : Sp := fun vs H Q _ => ∃ (a : Addr) (vs' ws : List V) (ts xs : List PyData) (P : PyData → List PyData → Prop) (X0 : Addr → Prop), vs = .ref a :: vs' ∧ H a = some (.lst ws) ∧ RpL K (del H X0) ts ws ∧ X0 a ∧ RpL K (del H X0) xs vs' ∧ C ts xs P ∧
  (∀ a, X0 a → ∃ o, H a = some o ∧ NT o) ∧ (∀ p ∈ cs, TabG H p) ∧
  ∀ d v H' ts' ws', P d ts' → H' a = some (.lst ws') → RpL K (del H' X0) ts' ws' → Rp K (del H' X0) d v → (∀ b o, b ≠ a → NT o → H b = some o → H' b = some o) → (∀ b ps, H b = some (.tbl ps) → ∃ qs, H' b = some (.tbl qs)) → (∀ p ∈ cs, TabG H' p) → Q v H'

section
variable {G : Gx} {F : Fx} {δ δ' : DEnv} {σ σ' : L2.St} {H H' : Hp} {ta tb tc : TE} {tr tk : TA} {Q : PyData → DEnv → Prop}
/-- behind a call that leaves all as it stood -/
theorem EI.called (I : EI G F δ σ H) (kp : ∀ b o, NT o → H b = some o → H' b = some o) (tk : ∀ b ps, H b = some (.tbl ps) → ∃ qs, H' b = some (.tbl qs)) (tb : ∀ p ∈ G.cs, TabG H' p) : EI G F δ σ H' := by
  have gr : Gr (del H (Sl F δ σ)) (del H' (Sl F δ σ)) := gr_del fun b u n hb e => ⟨hb, kp b u n e⟩
  refine ⟨I.len, fun i e h => ?_, I.nd, I.own, fun b o n hb hw e => kp b o n (I.keep b o n hb hw e), fun a ha => ?_, I.pin, tb, fun b ps e => ?_, fun a ha => ?_, I.mx, I.wl, I.k1⟩
  · obtain ⟨v, h1, h2⟩ := I.slot i e h
    refine ⟨v, h1, ?_⟩
    cases e with
    | d x => exact Rp.gr gr h2
    | err D => exact XR.gr gr h2
    | k n =>
      obtain ⟨b, eb, h3⟩ := h2
      exact ⟨b, eb, h3.up fun c u w e => kp _ _ (nt_lst _) e⟩
    | m ys =>
      obtain ⟨a, ws, h4, h5, h6⟩ := h2
      exact ⟨a, ws, h4, kp _ _ (nt_lst _) h5, RpL.gr gr h6⟩
  · obtain ⟨o, e, n⟩ := I.ex a ha
    exact ⟨o, kp a o n e, n⟩
  · obtain ⟨qs, e1⟩ := I.tk b ps e
    exact tk b qs e1
  · obtain ⟨o, e⟩ := I.mt a ha
    by_cases hn : NT o
    · exact ⟨o, kp a o hn e⟩
    · have : ∃ ps, o = .tbl ps := Classical.byContradiction fun w => hn fun ps e => w ⟨ps, e⟩
      obtain ⟨ps, rfl⟩ := this
      obtain ⟨qs, e⟩ := tk a ps e
      exact ⟨_, e⟩
theorem run_P {C : CtP} {vs : List V} {xs : List PyData} {R : VK} {E' : XK} (J : EI G F δ σ H) (r : RpL G.K (del H (Sl F δ σ)) xs vs) (c : C xs fun d => Q d δ)
    (k : ∀ d v δ' H', Q d δ' → EI G F δ' σ H' → Rp G.K (del H' (Sl F δ' σ)) d v → R v H') : spP G.K G.cs C vs H R E' :=
  ⟨xs, _, Sl F δ σ, c, r, fun a ha => by
    rcases ha with ⟨i, ys, h1, h2⟩ | ha
    · obtain ⟨v, h3, b, ws, h4, h5, _⟩ := J.slot i _ h1
      rw [h2] at h3
      cases h3
      cases h4
      exact ⟨_, h5, nt_lst _⟩
    · exact J.ex a ha, J.tab, fun d v H' p r kp tk tb => k d v δ H' p (J.called kp tk tb) r⟩
theorem ed_callP {C : CtP} (h : EA G tr δ fun as δ1 => ∃ xs, allD as = some xs ∧ C xs fun d => Q d δ1) : ED G (tCall (spP G.K G.cs C) [] E0 tr) δ Q := fun F σ H R I k =>
  h F σ H _ I fun as vs δ1 H1 ⟨xs, e, c⟩ J r1 => by
    show spP G.K G.cs C (vs ++ []) H1 R E0
    rw [List.append_nil]
    exact run_P J (allD_ok e r1) c k
/-- with defaults -/
theorem ed_callPd {C : CtP} {ds : List PyData} {dvs : List V} (hd : ∀ H, RpL G.K H ds dvs) (h : EA G tr δ fun as δ1 => ∃ xs, allD as = some xs ∧ C (xs ++ ds) fun d => Q d δ1) : ED G (tCall (spP G.K G.cs C) dvs E0 tr) δ Q := fun F σ H R I k =>
  h F σ H _ I fun as vs δ1 H1 ⟨xs, e, c⟩ J r1 => run_P J ((allD_ok e r1).app (hd _)) c k
/-- with keywords -/
theorem ed_callPk {C : CtP} {n m : Nat} {gV : List V → List V → List V} {gD : List PyData → List PyData → List PyData} (hg : ∀ {K H xs ys vs ws}, RpL K H xs vs → RpL K H ys ws → RpL K H (gD xs ys) (gV vs ws))
    (h : EA G tr δ fun as δ1 => EA G tk δ1 fun bs δ2 => ∃ xs ys, allD as = some xs ∧ allD bs = some ys ∧ xs.length = n ∧ ys.length = m ∧ C (gD xs ys) fun d => Q d δ2) : ED G (tCallN n m (spP G.K G.cs C) gV E0 tr tk) δ Q := fun F σ H R I k =>
  h.go I fun as vs δ1 H1 q s1 r1 => q.go s1.ei fun bs ws δ2 H2 ⟨xs, ys, e1, e2, l1, l2, c⟩ s2 r2 => by
    have hx := RpL.gr s2.gr (allD_ok e1 r1)
    have hy := allD_ok e2 r2
    exact ⟨hx.len.symm.trans l1, hy.len.symm.trans l2, run_P s2.ei (hg hx hy) c k⟩
/-- the first argument a slot's own list -/
theorem ed_callT {C : CtT} {i : Nat} {ts0 : List PyData} (hi : δ[i]? = some (some (E.m ts0))) (h : EA G tr δ fun as δ1 => ∃ xs ts, allD as = some xs ∧ δ1[i]? = some (some (E.m ts)) ∧ C ts xs fun d ts' => Q d (δ1.set i (some (.m ts')))) :
    ED G (tCall (spT G.K G.cs C) [] E0 (tCons (tVar i) tr)) δ Q := fun F σ H R I k => by
  obtain ⟨v, h1, _⟩ := I.slot i _ hi
  refine ⟨v, h1, h.go I fun as vs δ1 H1 ⟨xs, ts, e, hi1, c⟩ s1 r1 => ?_⟩
  have J := s1.ei
  obtain ⟨v', h1', a, ws, ev, h2, h3⟩ := J.slot i _ hi1
  rw [h1] at h1'
  cases h1'
  subst ev
  show spT G.K G.cs C (V.ref a :: vs ++ []) H1 R E0
  rw [List.append_nil]
  refine ⟨a, vs, ws, ts, xs, _, Sl F δ1 σ, rfl, h2, h3, .inl ⟨i, ts, hi1, h1⟩, allD_ok e r1, c, fun b hb => ?_, J.tab, fun d w H' ts' ws' p ha rt rd kp tkk tb => ?_⟩
  · rcases hb with ⟨j, ys, h4, h5⟩ | hb
    · obtain ⟨v, h6, b', us, h7, h8, _⟩ := J.slot j _ h4
      rw [h5] at h6
      cases h6
      cases h7
      exact ⟨_, h8, nt_lst _⟩
    · exact J.ex b hb
  · have hma : MA δ1 σ a := ⟨i, ts, hi1, h1⟩
    have hit : i < δ1.length := (List.getElem?_eq_some_iff.mp hi1).1
    have old : ∀ {b}, MA (δ1.set i (some (.m ts'))) σ b → MA δ1 σ b := fun {b} ⟨j, zs, e1, e2⟩ => by
      rcases get_set e1 with ⟨e0, e, _⟩ | ⟨ne, e3⟩
      · subst e0
        exact ⟨j, ts, hi1, e2⟩
      · exact ⟨j, zs, e3, e2⟩
    have sub : Gr (del H' (Sl F δ1 σ)) (del H' (Sl F (δ1.set i (some (.m ts'))) σ)) := gr_del fun b u n hb e => ⟨fun z => hb (z.imp old id), e⟩
    have gr : Gr (del H1 (Sl F δ1 σ)) (del H' (Sl F (δ1.set i (some (.m ts'))) σ)) := gr_del fun b u n hb e => ⟨fun z => hb (z.imp old id), kp b u (fun z => hb (.inl (z ▸ hma))) n e⟩
    refine k d w _ H' p ⟨by rw [List.length_set]; exact J.len, fun j e h4 => ?_, fun j l zs us b e1 e2 e3 e4 => ?_, fun b hb => J.own b (old hb), fun b u n hb hw e => ?_, fun b hb => ?_, J.pin, tb, fun b ps e => ?_, fun b hb => ?_, fun j zs b e1 e2 hb => by
      rcases get_set e1 with ⟨e0, _, _⟩ | ⟨ne, g1⟩
      · subst e0
        exact J.mx j ts b hi1 e2 hb
      · exact J.mx j zs b g1 e2 hb, fun b w => ⟨(J.wl b w).1, fun z => (J.wl b w).2 (old z)⟩, J.k1.set (fun _ q => by cases q)⟩ (rd.gr sub)
    · rcases get_set h4 with ⟨e0, e1, hl⟩ | ⟨ne, e1⟩
      · subst e0
        cases e1
        exact ⟨_, h1, a, ws', rfl, ha, RpL.gr sub rt⟩
      · obtain ⟨w2, e2, e3⟩ := J.slot j e e1
        refine ⟨w2, e2, ?_⟩
        cases e with
        | d x => exact Rp.gr gr e3
        | err D => exact XR.gr gr e3
        | k n =>
          obtain ⟨b, eb, h3⟩ := e3
          exact ⟨b, eb, h3.up fun c u w e => kp _ _ (show c ≠ a from fun z => (J.wl c w).2 (by rw [z]; exact hma)) (nt_lst _) e⟩
        | m zs =>
          obtain ⟨b, us, h4, h5, h6⟩ := e3
          subst h4
          have nb : b ≠ a := fun z => ne (J.nd j i zs ts a e1 hi1 (z ▸ e2) h1)
          exact ⟨b, us, rfl, kp _ _ nb (nt_lst _) h5, RpL.gr gr h6⟩
    · have b1 : ∃ z, δ1[j]? = some (some (E.m z)) := by
        rcases get_set e1 with ⟨e0, e, _⟩ | ⟨_, e1⟩
        · rw [e0]; exact ⟨_, hi1⟩
        · exact ⟨_, e1⟩
      have b2 : ∃ z, δ1[l]? = some (some (E.m z)) := by
        rcases get_set e2 with ⟨e0, e, _⟩ | ⟨_, e1⟩
        · rw [e0]; exact ⟨_, hi1⟩
        · exact ⟨_, e1⟩
      obtain ⟨z1, b1⟩ := b1
      obtain ⟨z2, b2⟩ := b2
      exact J.nd j l z1 z2 b b1 b2 e3 e4
    · have e1 := J.keep b u n hb hw e
      refine kp b u (fun z => ?_) n e1
      rcases J.own b (z ▸ hma) with z | ⟨z, _⟩
      · exact hb z
      · rw [z] at e; cases e
    · by_cases hba : b = a
      · rw [hba]; exact ⟨_, ha, nt_lst _⟩
      · obtain ⟨o, e, n⟩ := J.ex b hb
        exact ⟨o, kp b o hba n e, n⟩
    · obtain ⟨qs, e1⟩ := J.tk b ps e
      exact tkk b qs e1
    · by_cases hba : b = a
      · rw [hba]; exact ⟨_, ha⟩
      · obtain ⟨o, e⟩ := J.mt b hb
        by_cases hn : NT o
        · exact ⟨o, kp b o hba hn e⟩
        · have : ∃ ps, o = .tbl ps := Classical.byContradiction fun w => hn fun ps e => w ⟨ps, e⟩
          obtain ⟨ps, rfl⟩ := this
          obtain ⟨qs, e⟩ := tkk b ps e
          exact ⟨_, e⟩
end
/-! ### a def's body -/
def envP (N : List Str) (xs : List PyData) : DEnv := xs.map (fun x => some (E.d x)) ++ List.replicate (N.length - xs.length) none
def QP (P : PyData → Prop) : Out → Prop
  | .rt d _ => P d
  | .rf xs _ => P (.list xs)
  | .rm i δ => ∃ xs, δ[i]? = some (some (E.m xs)) ∧ P (.list xs)
  | .nx _ => P .none
  | _ => False
theorem start_P {K : PySem.W.Frag} {cs : List Addr} {N : List Str} {vs : List V} {xs : List PyData} {H : Hp} {X0 : Addr → Prop} (r : RpL K (del H X0) xs vs) (ex : ∀ a, X0 a → ∃ o, H a = some o ∧ NT o) (tb : ∀ p ∈ cs, TabG H p) :
    EI ⟨K, cs, []⟩ ⟨H, fun _ => False, X0, L2.start N vs, fun _ => False⟩ (envP N xs) (L2.start N vs) H := by
  have len := r.len
  have noM : ∀ {i : Nat} {ys : List PyData}, (envP N xs)[i]? ≠ some (some (E.m ys)) := fun {i ys} e => by
    unfold envP at e
    by_cases hi : i < (xs.map fun x => some (E.d x)).length
    · rw [List.getElem?_append_left hi, List.getElem?_map] at e
      cases q : xs[i]? with
      | none => rw [q] at e; cases e
      | some x => rw [q] at e; cases e
    · rw [List.getElem?_append_right (by omega), List.getElem?_replicate] at e
      split at e <;> cases e
  have noK : ∀ {i n : Nat}, (envP N xs)[i]? ≠ some (some (E.k n)) := fun {i ys} e => by
    unfold envP at e
    by_cases hi : i < (xs.map fun x => some (E.d x)).length
    · rw [List.getElem?_append_left hi, List.getElem?_map] at e
      cases q : xs[i]? with
      | none => rw [q] at e; cases e
      | some x => rw [q] at e; cases e
    · rw [List.getElem?_append_right (by omega), List.getElem?_replicate] at e
      split at e <;> cases e
  have noE : ∀ {i : Nat} {n : Addr}, (envP N xs)[i]? ≠ some (some (E.err n)) := fun {i ys} e => by
    unfold envP at e
    by_cases hi : i < (xs.map fun x => some (E.d x)).length
    · rw [List.getElem?_append_left hi, List.getElem?_map] at e
      cases q : xs[i]? with
      | none => rw [q] at e; cases e
      | some x => rw [q] at e; cases e
    · rw [List.getElem?_append_right (by omega), List.getElem?_replicate] at e
      split at e <;> cases e
  have g0 : Gr (del H X0) (del H fun a => MA (envP N xs) (start N vs) a ∨ X0 a) := gr_del fun b u n hb e => ⟨fun z => hb (z.resolve_left fun ⟨i, ys, h1, _⟩ => noM h1), e⟩
  refine ⟨?_, fun i e h => ?_, fun i j ys zs a h1 => absurd h1 noM, fun a ⟨i, ys, h1, _⟩ => absurd h1 noM, fun b o _ _ _ e => e, ex, fun i hi => rfl, tb, fun b ps e => ⟨ps, e⟩, fun a ha => ha.elim, fun i ys a h1 => absurd h1 noM, fun a w => w.elim, fun i j n m h => absurd h noK⟩
  · unfold envP L2.start
    simp only [List.length_append, List.length_map, List.length_replicate, len]
  · cases e with
    | m ys => exact absurd h noM
    | k n => exact absurd h noK
    | err D => exact absurd h noE
    | d x =>
      unfold envP at h
      by_cases hi : i < (xs.map fun x => some (E.d x)).length
      · rw [List.getElem?_append_left hi, List.getElem?_map] at h
        cases q : xs[i]? with
        | none => rw [q] at h; cases h
        | some y =>
          rw [q] at h
          cases h
          obtain ⟨v, h1, h2⟩ := r.get q
          refine ⟨v, ?_, h2.gr g0⟩
          unfold L2.start
          have hi2 : i < vs.length := (List.getElem?_eq_some_iff.mp h1).1
          rw [List.getElem?_append_left (by rw [List.length_map]; exact hi2), List.getElem?_map, h1]
          rfl
      · rw [List.getElem?_append_right (by omega), List.getElem?_replicate] at h
        split at h <;> cases h
theorem body_P {K : PySem.W.Frag} {cs : List Addr} {C : CtP} {t : TS} {N : List Str} {vs : List V} {H : Hp} {Q : VK} {E' : XK} (hs : ∀ xs P, C xs P → xs.length ≤ N.length ∧ SD ⟨K, cs, []⟩ t (envP N xs) (QP P)) (h : spP K cs C vs H Q E') :
    t { nx := fun _ H' => Q .non H', rt := Q } (start N vs) H := by
  obtain ⟨xs, P, X0, c, r, ex, tb, k⟩ := h
  obtain ⟨hl, sd⟩ := hs xs P c
  have I := start_P (N := N) (cs := cs) r ex tb
  have fin : ∀ {δ' : DEnv} {σ' : L2.St} {H' : Hp} {d : PyData} {v : V}, P d → EI ⟨K, cs, []⟩ ⟨H, fun _ => False, X0, start N vs, fun _ => False⟩ δ' σ' H' → Rp K (del H' fun a => MA δ' σ' a ∨ X0 a) d v → Q v H' := fun {δ' σ' H' d v} p J r' =>
    k d v H' p (r'.gr (gr_del fun b u n hb e => ⟨fun z => hb (.inr z), e⟩)) (fun b o n e => J.keep b o n (fun z => z) (fun z => z) e) J.tk J.tab
  refine sd _ _ _ _ I fun o q => ?_
  cases o with
  | nx δ' => exact fun σ' H' J => fin q J .non
  | rt d δ' => exact fun σ' H' v J r' => fin q J r'
  | bk δ' => exact q.elim
  | r2 i j δ' => exact q.elim
  | ct δ' => exact q.elim
  | rf xs δ' => exact fun σ' H' p N => fin q N.give.1 N.give.2
  | rm i δ' =>
    obtain ⟨xs, hi, p⟩ := q
    exact fun σ' H' a J ha => have N := J.release hi ha (fun z => z); fin p N.give.1 N.give.2
def envT (N : List Str) (ts xs : List PyData) : DEnv := some (.m ts) :: (xs.map (fun x => some (E.d x)) ++ List.replicate (N.length - (xs.length + 1)) none)
def QT (P : PyData → List PyData → Prop) : Out → Prop
  | .rf xs δ => ∃ ts, δ[0]? = some (some (E.m ts)) ∧ P (.list xs) ts
  | .rm i δ => i ≠ 0 ∧ ∃ ts xs, δ[0]? = some (some (E.m ts)) ∧ δ[i]? = some (some (E.m xs)) ∧ P (.list xs) ts
  | .rt d δ => ∃ ts, δ[0]? = some (some (E.m ts)) ∧ P d ts
  | .nx δ => ∃ ts, δ[0]? = some (some (E.m ts)) ∧ P .none ts
  | _ => False
theorem body_T {K : PySem.W.Frag} {cs : List Addr} {C : CtT} {t : TS} {N : List Str} {vs : List V} {H : Hp} {Q : VK} {E' : XK} (hs : ∀ ts xs P, C ts xs P → SD ⟨K, cs, [0]⟩ t (envT N ts xs) (QT P)) (h : spT K cs C vs H Q E') :
    t { nx := fun _ H' => Q .non H', rt := Q } (start N vs) H := by
  obtain ⟨a, vs', ws, ts, xs, P, X0, rfl, ha, rt, xa, r, c, ex, tb, k⟩ := h
  have sd := hs ts xs P c
  have len := r.len
  have isM : ∀ {i : Nat} {ys : List PyData}, (envT N ts xs)[i]? = some (some (E.m ys)) → i = 0 ∧ ys = ts := fun {i ys} e => by
    unfold envT at e
    cases i with
    | zero => cases e; exact ⟨rfl, rfl⟩
    | succ i =>
      rw [List.getElem?_cons_succ] at e
      by_cases hi : i < (xs.map fun x => some (E.d x)).length
      · rw [List.getElem?_append_left hi, List.getElem?_map] at e
        cases q : xs[i]? with
        | none => rw [q] at e; cases e
        | some x => rw [q] at e; cases e
      · rw [List.getElem?_append_right (by omega), List.getElem?_replicate] at e
        split at e <;> cases e
  have noK : ∀ {i n : Nat}, (envT N ts xs)[i]? ≠ some (some (E.k n)) := fun {i n} e => by
    unfold envT at e
    cases i with
    | zero => cases e
    | succ i =>
      rw [List.getElem?_cons_succ] at e
      by_cases hi : i < (xs.map fun x => some (E.d x)).length
      · rw [List.getElem?_append_left hi, List.getElem?_map] at e
        cases q : xs[i]? with
        | none => rw [q] at e; cases e
        | some x => rw [q] at e; cases e
      · rw [List.getElem?_append_right (by omega), List.getElem?_replicate] at e
        split at e <;> cases e
  have noE : ∀ {i : Nat} {n : Addr}, (envT N ts xs)[i]? ≠ some (some (E.err n)) := fun {i n} e => by
    unfold envT at e
    cases i with
    | zero => cases e
    | succ i =>
      rw [List.getElem?_cons_succ] at e
      by_cases hi : i < (xs.map fun x => some (E.d x)).length
      · rw [List.getElem?_append_left hi, List.getElem?_map] at e
        cases q : xs[i]? with
        | none => rw [q] at e; cases e
        | some x => rw [q] at e; cases e
      · rw [List.getElem?_append_right (by omega), List.getElem?_replicate] at e
        split at e <;> cases e
  have s0 : (start N (V.ref a :: vs'))[0]? = some (some (V.ref a)) := rfl
  have isA : ∀ {b}, MA (envT N ts xs) (start N (V.ref a :: vs')) b → b = a := fun {b} ⟨i, ys, h1, h2⟩ => by
    obtain ⟨rfl, _⟩ := isM h1
    rw [s0] at h2
    cases h2; rfl
  have g0 : Gr (del H X0) (del H fun b => MA (envT N ts xs) (start N (V.ref a :: vs')) b ∨ X0 b) := gr_del fun b u n hb e => ⟨fun z => hb (z.elim (fun z => isA z ▸ xa) id), e⟩
  have I : EI ⟨K, cs, [0]⟩ ⟨H, fun b => b = a, X0, start N (V.ref a :: vs'), fun _ => False⟩ (envT N ts xs) (start N (V.ref a :: vs')) H := by
    refine ⟨?_, fun i e h => ?_, fun i j ys zs b h1 h2 _ _ => by rw [(isM h1).1, (isM h2).1], fun b hb => .inl (isA hb), fun b o _ _ _ e => e, ex, fun i hi => rfl, tb, fun b ps e => ⟨ps, e⟩, fun b hb => ⟨.lst ws, (congrArg H (show b = a from hb)).trans ha⟩, fun i ys b h1 _ _ => by rw [(isM h1).1]; simp, fun a w => w.elim, fun i j n m h => absurd h noK⟩
    · unfold envT L2.start
      simp only [List.length_append, List.length_map, List.length_replicate, List.length_cons, len]
      omega
    · cases e with
      | k n => exact absurd h noK
      | err D => exact absurd h noE
      | m ys =>
        obtain ⟨rfl, rfl⟩ := isM h
        exact ⟨_, s0, a, ws, rfl, ha, RpL.gr g0 rt⟩
      | d x =>
        unfold envT at h
        cases i with
        | zero => cases h
        | succ i =>
          rw [List.getElem?_cons_succ] at h
          by_cases hi : i < (xs.map fun x => some (E.d x)).length
          · rw [List.getElem?_append_left hi, List.getElem?_map] at h
            cases q : xs[i]? with
            | none => rw [q] at h; cases h
            | some y =>
              rw [q] at h
              cases h
              obtain ⟨v, h1, h2⟩ := r.get q
              refine ⟨v, ?_, h2.gr g0⟩
              unfold L2.start
              have hi2 : i < vs'.length := (List.getElem?_eq_some_iff.mp h1).1
              rw [List.getElem?_append_left (by rw [List.length_map, List.length_cons]; omega), List.getElem?_map, List.getElem?_cons_succ, h1]
              rfl
          · rw [List.getElem?_append_right (by omega), List.getElem?_replicate] at h
            split at h <;> cases h
  have fin : ∀ {δ' : DEnv} {σ' : L2.St} {H' : Hp} {d : PyData} {v : V} {us : List PyData}, δ'[0]? = some (some (E.m us)) → P d us → EI ⟨K, cs, [0]⟩ ⟨H, fun b => b = a, X0, start N (V.ref a :: vs'), fun _ => False⟩ δ' σ' H' → Rp K (del H' fun a => MA δ' σ' a ∨ X0 a) d v → Q v H' := fun {δ' σ' H' d v us} h0 p J r' => by
    obtain ⟨w, e1, b, zs, e2, e3, e4⟩ := J.slot 0 _ h0
    have e5 : σ'[0]? = (start N (V.ref a :: vs'))[0]? := J.pin 0 (by simp)
    rw [e1, s0] at e5
    cases e5
    cases e2
    have sub : Gr (del H' fun a => MA δ' σ' a ∨ X0 a) (del H' X0) := gr_del fun b u n hb e => ⟨fun z => hb (.inr z), e⟩
    exact k d v H' us zs p e3 (RpL.gr sub e4) (r'.gr sub) (fun b o hb n e => J.keep b o n hb (fun z => z) e) J.tk J.tab
  refine sd _ _ _ _ I fun o q => ?_
  cases o with
  | nx δ' => obtain ⟨us, h0, p⟩ := q; exact fun σ' H' J => fin h0 p J .non
  | rt d δ' => obtain ⟨us, h0, p⟩ := q; exact fun σ' H' v J r' => fin h0 p J r'
  | bk δ' => exact q.elim
  | r2 i j δ' => exact q.elim
  | ct δ' => exact q.elim
  | rf xs δ' => obtain ⟨us, h0, p⟩ := q; exact fun σ' H' p' N => fin h0 p N.give.1 N.give.2
  | rm i δ' =>
    obtain ⟨hi0, us, xs, h0, hi, p⟩ := q
    intro σ' H' b J hb
    obtain ⟨w, e1, b', zs, e2, e3, e4⟩ := J.slot 0 _ h0
    have e5 : σ'[0]? = (L2.start N (V.ref a :: vs'))[0]? := J.pin 0 (by simp)
    rw [e1, s0] at e5
    cases e5
    have N := J.release hi hb (fun z => hi0 (J.nd i 0 xs us b hi h0 hb (by rw [e1, show b = a from z])))
    exact fin (by rw [List.getElem?_set_ne hi0]; exact h0) p N.give.1 N.give.2
/-! ### a def that hands back a new list -/
abbrev CtF := List PyData → (List PyData → Prop) → Prop
def spF (K : PySem.W.Frag) (cs : List Addr) (C : CtF) : Sp := fun vs H Q _ => ∃ (xs : List PyData) (P : List PyData → Prop) (X0 : Addr → Prop), C xs P ∧ RpL K (del H X0) xs vs ∧ (∀ a, X0 a → ∃ o, H a = some o ∧ NT o) ∧ (∀ p ∈ cs, TabG H p) ∧
  ∀ ys q ws H', P ys → H q = none → H' q = some (.lst ws) → RpL K (del H' fun a => a = q ∨ X0 a) ys ws → (∀ b o, NT o → H b = some o → H' b = some o) → (∀ b ps, H b = some (.tbl ps) → ∃ qs, H' b = some (.tbl qs)) → (∀ p ∈ cs, TabG H' p) → Q (.ref q) H'
section
variable {G : Gx} {F : Fx} {δ δ' : DEnv} {σ σ' : L2.St} {H H' : Hp} {tr tk : TA} {QF : List PyData → DEnv → Prop}
theorem run_F {C : CtF} {vs : List V} {xs : List PyData} {R : VK} {E' : XK} (J : EI G F δ σ H) (r : RpL G.K (del H (Sl F δ σ)) xs vs) (c : C xs fun d => QF d δ)
    (k : ∀ d p δ' H', QF d δ' → New G F δ' σ H' p d → R (.ref p) H') : spF G.K G.cs C vs H R E' :=
  ⟨xs, _, Sl F δ σ, c, r, fun a ha => by
    rcases ha with ⟨i, ys, h1, h2⟩ | ha
    · obtain ⟨v, h3, b, ws, h4, h5, _⟩ := J.slot i _ h1
      rw [h2] at h3
      cases h3
      cases h4
      exact ⟨_, h5, nt_lst _⟩
    · exact J.ex a ha, J.tab, fun d q ws H' p hq hq' rd kp tk tb => by
    obtain ⟨f0, fM, fX, fm⟩ := J.fresh hq
    have J2 := J.called kp tk tb
    have ne : ∀ {b : Addr} {u : HO}, H b = some u → b ≠ q := fun {b u} e z => by rw [z, hq] at e; cases e
    have gr : Gr (del H (Sl F δ σ)) (del H' (Sl (F.own q) δ σ)) := gr_del fun b u n hb e => ⟨fun z => by
      rcases z with z | z | z
      · exact hb (.inl z)
      · exact ne e z
      · exact hb (.inr z), kp b u n e⟩
    have sub : Gr (del H' fun a => a = q ∨ Sl F δ σ a) (del H' (Sl (F.own q) δ σ)) := gr_del fun b u n hb e => ⟨fun z => hb (by
      rcases z with z | z | z
      · exact .inr (.inl z)
      · exact .inl z
      · exact .inr (.inr z)), e⟩
    refine k d q δ H' p ⟨⟨J2.len, fun i e h => ?_, J2.nd, fun a ha => ?_, J2.keep, fun a ha => ?_, J2.pin, J2.tab, J2.tk, J2.mt, fun i ys a e1 e2 ha => ha.elim (fun z => absurd ⟨i, ys, e1, z ▸ e2⟩ fm) (J2.mx i ys a e1 e2), fun a w => ⟨.inr (J2.wl a w).1, (J2.wl a w).2⟩, J2.k1⟩, fm, fX, f0, fM, J.freshW hq, ws, hq', RpL.gr sub rd⟩
    · obtain ⟨v, h1, h2⟩ := J.slot i e h
      refine ⟨v, h1, ?_⟩
      cases e with
      | d x => exact Rp.gr gr h2
      | err D => exact XR.gr gr h2
      | k n =>
        obtain ⟨b, eb, h3⟩ := h2
        exact ⟨b, eb, h3.up fun c u w e => kp _ _ (nt_lst _) e⟩
      | m ys =>
        obtain ⟨a, us, h4, h5, h6⟩ := h2
        exact ⟨a, us, h4, kp _ _ (nt_lst _) h5, RpL.gr gr h6⟩
    · rcases J.own a ha with z | ⟨z, zx⟩
      · exact .inl z
      · refine .inr ⟨z, fun w => ?_⟩
        rcases w with w | w
        · exact fm (by rw [← w]; exact ha)
        · exact zx w
    · rcases ha with rfl | ha
      · exact ⟨_, hq', nt_lst _⟩
      · exact J2.ex a ha⟩
theorem ef_callF {C : CtF} (h : EA G tr δ fun as δ1 => ∃ xs, allD as = some xs ∧ C xs fun d => QF d δ1) : EF G (tCall (spF G.K G.cs C) [] E0 tr) δ QF := fun F σ H R I k =>
  h F σ H _ I fun as vs δ1 H1 ⟨xs, e, c⟩ J r1 => by
    show spF G.K G.cs C (vs ++ []) H1 R E0
    rw [List.append_nil]
    exact run_F J (allD_ok e r1) c k
theorem ef_callFd {C : CtF} {ds : List PyData} {dvs : List V} (hd : ∀ H, RpL G.K H ds dvs) (h : EA G tr δ fun as δ1 => ∃ xs, allD as = some xs ∧ C (xs ++ ds) fun d => QF d δ1) : EF G (tCall (spF G.K G.cs C) dvs E0 tr) δ QF := fun F σ H R I k =>
  h F σ H _ I fun as vs δ1 H1 ⟨xs, e, c⟩ J r1 => run_F J ((allD_ok e r1).app (hd _)) c k
theorem ef_callFk {C : CtF} {n m : Nat} {gV : List V → List V → List V} {gD : List PyData → List PyData → List PyData} (hg : ∀ {K H xs ys vs ws}, RpL K H xs vs → RpL K H ys ws → RpL K H (gD xs ys) (gV vs ws))
    (h : EA G tr δ fun as δ1 => EA G tk δ1 fun bs δ2 => ∃ xs ys, allD as = some xs ∧ allD bs = some ys ∧ xs.length = n ∧ ys.length = m ∧ C (gD xs ys) fun d => QF d δ2) : EF G (tCallN n m (spF G.K G.cs C) gV E0 tr tk) δ QF := fun F σ H R I k =>
  h.go I fun as vs δ1 H1 q s1 r1 => q.go s1.ei fun bs ws δ2 H2 ⟨xs, ys, e1, e2, l1, l2, c⟩ s2 r2 => by
    have hx := RpL.gr s2.gr (allD_ok e1 r1)
    have hy := allD_ok e2 r2
    exact ⟨hx.len.symm.trans l1, hy.len.symm.trans l2, run_F s2.ei (hg hx hy) c k⟩
end
def QFr (P : List PyData → Prop) : Out → Prop
  | .rf xs _ => P xs
  | .rm i δ => ∃ xs, δ[i]? = some (some (E.m xs)) ∧ P xs
  | _ => False
theorem body_F {K : PySem.W.Frag} {cs : List Addr} {C : CtF} {t : TS} {N : List Str} {vs : List V} {H : Hp} {Q : VK} {E' : XK} (hs : ∀ xs P, C xs P → xs.length ≤ N.length ∧ SD ⟨K, cs, []⟩ t (envP N xs) (QFr P)) (h : spF K cs C vs H Q E') :
    t { nx := fun _ H' => Q .non H', rt := Q } (L2.start N vs) H := by
  obtain ⟨xs, P, X0, c, r, ex, tb, k⟩ := h
  have I := start_P (N := N) (cs := cs) r ex tb
  obtain ⟨hl, sd⟩ := hs xs P c
  have fin : ∀ {δ' : DEnv} {σ' : L2.St} {H' : Hp} {ys : List PyData} {p : Addr}, P ys → New ⟨K, cs, []⟩ ⟨H, fun _ => False, X0, L2.start N vs, fun _ => False⟩ δ' σ' H' p ys → Q (.ref p) H' := fun {δ' σ' H' ys p} pq N => by
    obtain ⟨J, hm, hX, h0, hM, _, ws, hq, rr⟩ := N
    exact k ys p ws H' pq h0 hq (RpL.gr (gr_del fun b u n hb e => ⟨fun z => hb (by
      rcases z with z | z
      · exact .inr (.inl z)
      · exact .inr (.inr z)), e⟩) rr) (fun b o n e => J.keep b o n (fun z => z) (fun z => z) e) J.tk J.tab
  refine sd _ _ _ _ I fun o q => ?_
  cases o with
  | nx δ' => exact q.elim
  | rt d δ' => exact q.elim
  | bk δ' => exact q.elim
  | r2 i j δ' => exact q.elim
  | ct δ' => exact q.elim
  | rf ys δ' => exact fun σ' H' p N => fin q N
  | rm i δ' =>
    obtain ⟨ys, hi, p⟩ := q
    exact fun σ' H' a J ha => fin p (J.release hi ha (fun z => z))
end DX


set_option Elab.async false
set_option linter.all false
set_option maxRecDepth 100000
set_option maxHeartbeats 1000000
namespace DX
open PySem PySem.Spec PyProof.Rows L2 GxR GA
open Classical
section
variable {G : Gx} {F : Fx} {δ δ' : DEnv} {σ σ' : L2.St} {H H' : Hp} {ta tb tc te : TE} {tr tk : TA} {Q : PyData → DEnv → Prop} {QS : Out → Prop} {t u : TS} {tt : TT}
/-! ### statements -/
theorem N0_ei {p : Addr} (wn : ¬ F.W0 p) (J : EI G (F.own p) δ σ H) : EI G F δ σ H := by
  have gr : Gr (del H (Sl (F.own p) δ σ)) (del H (Sl F δ σ)) := gr_del fun b u n hb e => ⟨fun z => hb (by
    rcases z with z | z
    · exact .inl z
    · exact .inr (.inr z)), e⟩
  refine ⟨J.len, fun i e h => ?_, J.nd, fun a ha => ?_, J.keep, fun a ha => J.ex a (.inr ha), J.pin, J.tab, J.tk, J.mt, fun i ys a e1 e2 ha => J.mx i ys a e1 e2 (.inr ha), fun a w => ⟨((J.wl a w).1).resolve_left (fun z => wn (z ▸ w)), (J.wl a w).2⟩, J.k1⟩
  · obtain ⟨v, h1, h2⟩ := J.slot i e h
    refine ⟨v, h1, ?_⟩
    cases e with
    | d x => exact Rp.gr gr h2
    | err D => exact XR.gr gr h2
    | k n => exact h2
    | m ys =>
      obtain ⟨a, ws, h3, h4, h5⟩ := h2
      exact ⟨a, ws, h3, h4, RpL.gr gr h5⟩
  · rcases J.own a ha with z | ⟨z, zx⟩
    · exact .inl z
    · exact .inr ⟨z, fun w => zx (.inr w)⟩
theorem SD.mono {Q' : Out → Prop} (h : SD G t δ QS) (hq : ∀ o, QS o → Q' o) : SD G t δ Q' := fun F σ H D I k => h F σ H D I fun o q => k o (hq o q)
def Then (G : Gx) (u : TS) (Q : Out → Prop) : Out → Prop
  | .nx δ => SD G u δ Q
  | .rt d δ => Q (.rt d δ)
  | .bk δ => Q (.bk δ)
  | .ct δ => Q (.ct δ)
  | .rf xs δ => Q (.rf xs δ)
  | .rm i δ => Q (.rm i δ)
  | .r2 i j δ => Q (.r2 i j δ)
theorem sd_seq (h : SD G t δ (Then G u QS)) : SD G (tSeq t u) δ QS := fun F σ H D I k => h F σ H _ I fun o q => by
  cases o with
  | nx δ1 => exact fun σ1 H1 J => q F σ1 H1 D J k
  | rt d δ1 => exact k _ q
  | bk δ1 => exact k _ q
  | ct δ1 => exact k _ q
  | rf xs δ1 => exact k _ q
  | rm i δ1 => exact k _ q
  | r2 i j δ1 => exact k _ q
theorem sd_next (q : QS (.nx δ)) : SD G tNext δ QS := fun F σ H D I k => k _ q σ H I
theorem sd_break (q : QS (.bk δ)) : SD G tBreak δ QS := fun F σ H D I k => k _ q σ H I
theorem sd_cont (q : QS (.ct δ)) : SD G tCont δ QS := fun F σ H D I k => k _ q σ H I
theorem sd_retM {i : Nat} (q : QS (.rm i δ)) (h : ∃ xs, δ[i]? = some (some (E.m xs))) : SD G (tRet (tVar i)) δ QS := fun F σ H D I k => by
  obtain ⟨xs, h⟩ := h
  obtain ⟨v, h1, a, vs, e, h2, h3⟩ := I.slot i _ h
  subst e
  exact ⟨_, h1, k _ q σ H a I h1⟩
theorem sd_retF (h : EF G te δ fun xs δ1 => QS (.rf xs δ1)) : SD G (tRet te) δ QS := fun F σ H D I k => h F σ H _ I fun xs p δ1 H1 q N => k _ q σ H1 p N
theorem sd_ret (h : ED G te δ fun d δ1 => QS (.rt d δ1)) : SD G (tRet te) δ QS := fun F σ H D I k => h F σ H _ I fun d v δ1 H1 q J r => k _ q σ H1 v J r
theorem sd_retN (q : QS (.rt .none δ)) : SD G tRetN δ QS := fun F σ H D I k => k _ q σ H _ I .non
theorem sd_if (h : DT G tt δ fun b δ1 => if b = true then SD G t δ1 QS else SD G u δ1 QS) : SD G (tIfS tt t u) δ QS := fun F σ H D I k =>
  h F σ H _ I fun b δ1 H1 q J => by
    cases b with
    | true => exact iteT (q F σ H1 D J k)
    | false => exact iteF (q F σ H1 D J k)
theorem sd_drop (h : ED G te δ fun d δ1 => QS (.nx δ1)) : SD G (tDrop te) δ QS := fun F σ H D I k => h F σ H _ I fun d v δ1 H1 q J r => k _ q σ H1 J
theorem sd_set {i : Nat} (hp : i ∉ G.pn) (h : ED G te δ fun d δ1 => QS (.nx (δ1.set i (some (.d d))))) : SD G (tAsg te (gName i)) δ QS := fun F σ H D I k =>
  h F σ H _ I fun d v δ1 H1 q J r => k _ q _ H1 (J.set_d hp r)
/-- a slot that owns its list -/
theorem sd_setM {i : Nat} (hp : i ∉ G.pn) (hi : i < δ.length) (h : EF G te δ fun xs δ1 => QS (.nx (δ1.set i (some (.m xs))))) : SD G (tAsg te (gName i)) δ QS := fun F σ H D I k =>
  h F σ H _ I fun xs p δ1 H1 q N => k _ q _ H1 (N.take (by rw [N.ei.len, ← I.len]; exact hi) hp)
/-- xs.append(e) of a slot's own list -/
theorem sd_append {i : Nat} {xs0 : List PyData} (h0 : δ[i]? = some (some (E.m xs0))) (h : ED G te δ fun d δ1 => ∃ xs, δ1[i]? = some (some (E.m xs)) ∧ xs.length < sizeLine ∧ QS (.nx (δ1.set i (some (.m (xs ++ [d])))))) :
    SD G (tDrop (tBM G.K "list" rAppend (tVar i) (tCons te tNil))) δ QS := fun F σ H D I k => by
  obtain ⟨v, h1, a, vs, e, h2, h3⟩ := I.slot i _ h0
  subst e
  refine ⟨_, h1, .inl ⟨rfl, vs, SqL.of h2⟩, h.go I fun d w δ1 H1 ⟨xs, h4, hl, q⟩ s r => ?_⟩
  obtain ⟨v, h1', b, ws, e, h5, h6⟩ := s.ei.slot i _ h4
  rw [h1] at h1'
  cases h1'
  cases e
  exact ⟨a, ws, w, rfl, rfl, h5, by rw [← h6.len]; exact hl, k _ q σ _ (s.ei.write h4 h1 h5 (h6.app (.one r)))⟩
/-- xs[j] = e of a slot's own list -/
theorem sd_setIx {i : Nat} {xs0 : List PyData} {ti : TE} (h : ED G te δ fun d δ1 => (∃ xs1, δ1[i]? = some (some (E.m xs1))) ∧ ED G ti δ1 fun y δ2 => ∃ xs j k, δ2[i]? = some (some (E.m xs)) ∧ y = .int j ∧ ixN xs.length j = some k ∧ QS (.nx (δ2.set i (some (.m (xs.set k d)))))) :
    SD G (tAsg te (gSub (tVar i) ti rSetL)) δ QS := fun F σ H D I k =>
  h.go I fun d w δ1 H1 ⟨⟨xs1, h1⟩, q1⟩ s1 r1 => by
    obtain ⟨v, g1, a, vs, e, g2, g3⟩ := s1.ei.slot i _ h1
    subst e
    refine ⟨_, g1, q1.go s1.ei fun y z δ2 H2 ⟨xs, j, l, h4, e1, e2, q⟩ s2 r2 => ?_⟩
    subst e1
    cases r2
    obtain ⟨v, h1', b, ws, e, h5, h6⟩ := s2.ei.slot i _ h4
    rw [g1] at h1'
    cases h1'
    cases e
    refine ⟨a, ws, j, l, rfl, rfl, h5, by rw [← h6.len]; exact e2, k _ q σ _ (s2.ei.write h4 g1 h5 (RpL.set (r1.gr s2.gr) l h6))⟩
theorem sd_freeze {i : Nat} {xs : List PyData} (h : δ[i]? = some (some (E.m xs))) (hp : i ∉ G.pn) (s : SD G t (δ.set i (some (.d (.list xs)))) QS) : SD G t δ QS := fun F σ H D I k =>
  s F σ H D (I.freeze h hp) k
/-! ### targets -/
def DG (G : Gx) (g : TG) (vs : List Nat) (d : PyData) (δ : DEnv) (Q : DEnv → Prop) : Prop :=
  ∀ (F : Fx) (σ : L2.St) (H : Hp) (v : V) (R : L2.St → Hp → Prop), EI G F δ σ H → Rp G.K (del H (Sl F δ σ)) d v →
    (∀ δ' σ', Q δ' → EI G F δ' σ' H → Gr (del H (Sl F δ σ)) (del H (Sl F δ' σ')) → σ'.length = σ.length → (∀ j, j ∉ vs → σ'[j]? = σ[j]?) → (∀ a, MA δ' σ' a → MA δ σ a) → R σ' H) → g v σ H R
def DGs (G : Gx) (g : TGs) (vs : List Nat) (ds : List PyData) (δ : DEnv) (Q : DEnv → Prop) : Prop :=
  ∀ (F : Fx) (σ : L2.St) (H : Hp) (ws : List V) (R : L2.St → Hp → Prop), EI G F δ σ H → RpL G.K (del H (Sl F δ σ)) ds ws →
    (∀ δ' σ', Q δ' → EI G F δ' σ' H → Gr (del H (Sl F δ σ)) (del H (Sl F δ' σ')) → σ'.length = σ.length → (∀ j, j ∉ vs → σ'[j]? = σ[j]?) → (∀ a, MA δ' σ' a → MA δ σ a) → R σ' H) → g ws σ H R
theorem dg_name {i : Nat} {vs : List Nat} {d : PyData} {QD : DEnv → Prop} (hi : i ∈ vs) (hp : i ∉ G.pn) (q : QD (δ.set i (some (.d d)))) : DG G (gName i) vs d δ QD := fun F σ H v R I r k => by
  refine k _ _ q (I.set_d hp r) (gr_del fun b u n hb e => ⟨fun z => hb (z.imp (fun z => (MA.set_d (fun _ q => by cases q) z).1) id), e⟩) (List.length_set ..) (fun j hj => ?_) (fun a ha => (MA.set_d (fun _ q => by cases q) ha).1)
  rw [List.getElem?_set_ne (fun z : i = j => hj (by rw [← z]; exact hi))]
theorem dg_nil {vs : List Nat} {QD : DEnv → Prop} (q : QD δ) : DGs G gNil vs [] δ QD := fun F σ H ws R I r k => by
  cases r
  exact ⟨rfl, k δ σ q I (Gr.refl _) rfl (fun _ _ => rfl) fun _ z => z⟩
theorem dg_cons {g : TG} {gs : TGs} {vs : List Nat} {d : PyData} {ds : List PyData} {QD : DEnv → Prop} (h : DG G g vs d δ fun δ1 => DGs G gs vs ds δ1 QD) : DGs G (gCons g gs) vs (d :: ds) δ QD := fun F σ H ws R I r k => by
  cases r with
  | cons r1 r2 =>
    exact ⟨_, _, rfl, h F σ H _ _ I r1 fun δ1 σ1 q1 J1 g1 l1 a1 m1 => q1 F σ1 H _ _ J1 (RpL.gr g1 r2) fun δ2 σ2 q2 J2 g2 l2 a2 m2 =>
      k δ2 σ2 q2 J2 (g1.trans g2) (l2.trans l1) (fun j hj => (a2 j hj).trans (a1 j hj)) fun a z => m1 a (m2 a z)⟩
theorem dg_tup {gs : TGs} {vs : List Nat} {ds : List PyData} {n : Nat} {QD : DEnv → Prop} (hn : ds.length = n) (h : DGs G gs vs ds δ QD) : DG G (gTup G.K n gs) vs (.tuple ds) δ QD := fun F σ H v R I r k => by
  cases r with
  | tup h1 r2 => exact ⟨_, _, rfl, SqT.gr gr_out h1, by rw [← r2.len]; exact hn, h F σ H _ R I r2 k⟩
/-- a, b = e -/
theorem sd_asgT {g : TG} {vs : List Nat} (h : ED G te δ fun d δ1 => DG G g vs d δ1 fun δ2 => QS (.nx δ2)) : SD G (tAsg te g) δ QS := fun F σ H D I k =>
  h F σ H _ I fun d v δ1 H1 q J r => q F σ H1 v D.nx J r fun δ2 σ2 q2 J2 _ _ _ _ => k _ q2 σ2 H1 J2
/-! ### loops -/
def Lp (Q : Out → Prop) (I : DEnv → Prop) : Out → Prop
  | .nx δ => I δ
  | .ct δ => I δ
  | .bk δ => Q (.nx δ)
  | .rt d δ => Q (.rt d δ)
  | .rf xs δ => Q (.rf xs δ)
  | .rm i δ => Q (.rm i δ)
  | .r2 i j δ => Q (.r2 i j δ)
theorem loop_ends {P : L2.St → Hp → Prop} {IV : DEnv → Prop} {D : Ends} (hk : ∀ o, QS o → Sat G F o D) (hP : ∀ δ' σ' H', IV δ' → EI G F δ' σ' H' → P σ' H') : ∀ o, Lp QS IV o → Sat G F o { D with nx := P, ct := P, bk := D.nx } := fun o q => by
  cases o with
  | nx δ1 => exact fun σ1 H1 J => hP δ1 σ1 H1 q J
  | ct δ1 => exact fun σ1 H1 J => hP δ1 σ1 H1 q J
  | bk δ1 => exact hk _ q
  | rt d δ1 => exact hk _ q
  | rf xs δ1 => exact hk _ q
  | rm i δ1 => exact hk _ q
  | r2 i j δ1 => exact hk _ q
theorem New.back {p : Addr} {xs : List PyData} {δ0 : DEnv} {σ0 : L2.St} {H0 : Hp} (N : New G (F.now δ0 σ0 H0) δ σ H p xs) (I : EI G F δ0 σ0 H0) : New G F δ σ H p xs := by
  obtain ⟨J, hm, hX, h0, hM, wn, at_⟩ := N
  have h0 : H0 p = none := h0
  obtain ⟨f0, fM, _, _⟩ := I.fresh h0
  have J1 := I.back (δ' := δ) (σ' := σ) (H' := H) (N0_ei wn J)
  refine ⟨⟨J.len, J.slot, J.nd, fun a ha => ?_, J1.keep, J.ex, J.pin, J.tab, J1.tk, J1.mt, J.mx, J.wl, J.k1⟩, hm, hX, f0, fM, wn, at_⟩
  rcases J1.own a ha with z | ⟨z, zx⟩
  · exact .inl z
  · refine .inr ⟨z, fun w => ?_⟩
    rcases w with w | w
    · exact hm (by rw [← w]; exact ha)
    · exact zx w
theorem sat_back (I : EI G F δ σ H) {o : Out} {D : Ends} (h : Sat G F o D) : Sat G (F.now δ σ H) o D := by
  cases o with
  | nx δ1 => exact fun σ1 H1 J => h σ1 H1 (I.back J)
  | ct δ1 => exact fun σ1 H1 J => h σ1 H1 (I.back J)
  | bk δ1 => exact fun σ1 H1 J => h σ1 H1 (I.back J)
  | rt d δ1 => exact fun σ1 H1 v J r => h σ1 H1 v (I.back J) r
  | rf xs δ1 => exact fun σ1 H1 p N => h σ1 H1 p (N.back I)
  | rm i δ1 => exact fun σ1 H1 a J ha => h σ1 H1 a (I.back J) ha
  | r2 i j δ1 => exact fun σ1 H1 p a b J hp ha hb => h σ1 H1 p a b (I.back J) hp ha hb
theorem sd_forR {i : Nat} (hp : i ∉ G.pn) (h : EA G tr δ fun as δ1 => ∃ n : Int, allD as = some [.int n] ∧ -(2 ^ 62) ≤ n ∧ n < 2 ^ 62 ∧ ∃ IV : Nat → DEnv → Prop, IV 0 δ1 ∧
      (∀ k δ2, k < n.toNat → IV k δ2 → SD G t (δ2.set i (some (.d (.int k)))) (Lp QS (IV (k + 1)))) ∧ ∀ δ2, IV n.toNat δ2 → QS (.nx δ2)) : SD G (tFor (iRng1 tr) (gName i) t) δ QS := fun F σ H D I k =>
  h F σ H _ I fun as vs δ1 H1 ⟨n, e, n1, n2, IV, i0, st, fin⟩ J r => by
    have r2 := allD_ok e r
    cases r2 with
    | cons r3 r4 =>
      cases r4; cases r3
      refine ⟨n, rfl, n1, n2, for_range (lo := 0) (n := n.toNat) (fun j σ' H' => ∃ δ2, IV j δ2 ∧ EI G F δ2 σ' H') ⟨δ1, i0, J⟩ ?_ ?_⟩
      · rintro j σ2 H2 hj ⟨δ2, iv, J2⟩
        have ej : (0 : Int) + (j : Int) = (j : Int) := by omega
        show t _ (σ2.set i (some (.int (0 + (j : Int))))) H2
        rw [ej]
        exact st j δ2 hj iv F _ H2 _ (J2.set_d hp (.int _)) (loop_ends k fun δ3 σ3 H3 iv3 J3 => ⟨δ3, iv3, J3⟩)
      · rintro σ2 H2 ⟨δ2, iv, J2⟩
        exact k _ (fin δ2 iv) σ2 H2 J2
theorem sd_forL {g : TG} {vs : List Nat} (h : ED G te δ fun x δ1 => ∃ xs, x = .list xs ∧ ∃ IV : Nat → DEnv → Prop, IV 0 δ1 ∧
      (∀ k δ2 y, xs[k]? = some y → IV k δ2 → DG G g vs y δ2 fun δ3 => SD G t δ3 (Lp QS (IV (k + 1)))) ∧ ∀ δ2, IV xs.length δ2 → QS (.nx δ2)) : SD G (tFor (iList G.K te) g t) δ QS := fun F σ H D I k =>
  h F σ H _ I fun x v δ1 H1 ⟨xs, e, IV, i0, st, fin⟩ J r => by
    subst e
    cases r with
    | @lst a ws _ h1 r1 =>
      obtain ⟨hno, h2⟩ := del_some.mp h1
      have stay : ∀ {δ2 : DEnv} {σ2 : L2.St} {H2 : Hp}, EI G (F.now δ1 σ H1) δ2 σ2 H2 → H2 a = some (.lst ws) ∧ RpL G.K (del H2 (Sl (F.now δ1 σ H1) δ2 σ2)) xs ws := fun {δ2 σ2 H2} J2 => by
        have s := J.since J2
        exact ⟨s.kp a _ (nt_lst _) (fun z => hno (.inl z)) (fun w => hno (.inr (J.wl a w).1)) h2, RpL.gr s.gr r1⟩
      refine ⟨a, rfl, ⟨ws, SqL.of h2⟩, for_list (xs := ws) (fun j σ' H' => ∃ δ2, IV j δ2 ∧ EI G (F.now δ1 σ H1) δ2 σ' H') ⟨δ1, i0, J.now⟩ ?_ ?_ ?_⟩
      · rintro j σ2 H2 _ ⟨δ2, iv, J2⟩
        exact SqL.of (stay J2).1
      · rintro j y σ2 H2 hy ⟨δ2, iv, J2⟩
        obtain ⟨d, hd, rd⟩ := (stay J2).2.getV hy
        exact st j δ2 d hd iv _ σ2 H2 y _ J2 rd fun δ3 σ3 q3 J3 _ _ _ _ => q3 _ σ3 H2 _ J3 (loop_ends (fun o q => sat_back J (k o q)) fun δ4 σ4 H4 iv4 J4 => ⟨δ4, iv4, J4⟩)
      · rintro σ2 H2 ⟨δ2, iv, J2⟩
        rw [← r1.len] at iv
        exact k _ (fin δ2 iv) σ2 H2 (J.back J2)
theorem sd_while (IV : Nat → DEnv → Prop) (i0 : ∃ m, IV m δ) (h : ∀ m δ2, IV m δ2 → DT G tt δ2 fun b δ3 => if b = true then SD G t δ3 (Lp QS fun δ4 => ∃ m', m' < m ∧ IV m' δ4) else QS (.nx δ3)) : SD G (tWhile tt t) δ QS := fun F σ H D I k => by
  obtain ⟨m0, i0⟩ := i0
  refine ⟨fun m σ' H' => ∃ δ2, IV m δ2 ∧ EI G F δ2 σ' H', ⟨m0, δ, i0, I⟩, ?_⟩
  rintro m σ2 H2 ⟨δ2, iv, J⟩
  refine h m δ2 iv F σ2 H2 _ J fun b δ3 H3 q J3 => ?_
  cases b with
  | true =>
    refine iteT ⟨fun σ' H' => ∃ m', m' < m ∧ ∃ δ2, IV m' δ2 ∧ EI G F δ2 σ' H', fun σ' H' z => z, ?_⟩
    exact q F σ2 H3 _ J3 (loop_ends k fun δ4 σ4 H4 ⟨m', hm, iv4⟩ J4 => ⟨m', hm, δ4, iv4, J4⟩)
  | false => exact iteF (k _ q σ2 H3 J3)
end
end DX


set_option Elab.async false
set_option linter.all false
set_option maxRecDepth 100000
set_option maxHeartbeats 1000000
namespace DX
open PySem PySem.Spec PyProof.Rows L2 GxR GA
open Classical
section
variable {G : Gx} {F : Fx} {δ δ' : DEnv} {σ σ' : L2.St} {H H' : Hp} {ta tb tc te tl : TE} {tr tk : TA} {Q : PyData → DEnv → Prop} {QF : List PyData → DEnv → Prop} {tt : TT}
/-! ### slots forgotten -/
def wipeD (δ : DEnv) : List Nat → DEnv
  | [] => δ
  | v :: vs => (wipeD δ vs).set v none
theorem wipeD_length (δ : DEnv) : ∀ vs, (wipeD δ vs).length = δ.length
  | [] => rfl
  | v :: vs => by unfold wipeD; rw [List.length_set, wipeD_length δ vs]
theorem wipeD_some {i : Nat} {x : E} : ∀ {vs : List Nat}, (wipeD δ vs)[i]? = some (some x) → δ[i]? = some (some x) ∧ i ∉ vs
  | [], h => ⟨h, by simp⟩
  | v :: vs, h => by
    unfold wipeD at h
    rcases get_set h with ⟨_, e, _⟩ | ⟨ne, h2⟩
    · cases e
    · obtain ⟨h3, h4⟩ := wipeD_some h2
      exact ⟨h3, by simp only [List.mem_cons, not_or]; exact ⟨ne, h4⟩⟩
theorem wipe_get {j : Nat} : ∀ {vs : List Nat}, j ∉ vs → (wipe σ vs)[j]? = σ[j]?
  | [], _ => rfl
  | v :: vs, h => by
    unfold wipe
    rw [List.getElem?_set_ne (fun z : v = j => h (by rw [z]; exact List.mem_cons_self)), wipe_get (fun z => h (List.mem_cons_of_mem _ z))]
theorem wipe_in {j : Nat} : ∀ {vs : List Nat}, j ∈ vs → j < σ.length → (wipe σ vs)[j]? = some none
  | v :: vs, h, hl => by
    unfold wipe
    by_cases e : v = j
    · subst e
      rw [List.getElem?_set_self (by rw [wipe_length]; exact hl)]
    · rw [List.getElem?_set_ne e]
      exact wipe_in ((List.mem_cons.mp h).resolve_left fun z => e z.symm) hl
theorem wipe_eq {vs : List Nat} (hl : σ'.length = σ.length) (h : ∀ j, j ∉ vs → σ'[j]? = σ[j]?) : wipe σ' vs = wipe σ vs := by
  refine List.ext_getElem? fun j => ?_
  by_cases hj : j ∈ vs
  · by_cases hlt : j < σ.length
    · rw [wipe_in hj hlt, wipe_in hj (by omega)]
    · rw [List.getElem?_eq_none (by rw [wipe_length]; omega), List.getElem?_eq_none (by rw [wipe_length]; omega)]
  · rw [wipe_get hj, wipe_get hj, h j hj]
/-- the same slots where something is known -/
theorem EI.agree (I : EI G F δ σ H) (hl : σ'.length = σ.length) (hs : ∀ (i : Nat) (e : E), δ[i]? = some (some e) → σ'[i]? = σ[i]?) (hp : ∀ i ∈ G.pn, σ'[i]? = σ[i]?) : EI G F δ σ' H := by
  have ma : ∀ a, MA δ σ' a → MA δ σ a := fun a ⟨i, xs, h1, h2⟩ => ⟨i, xs, h1, (hs i _ h1) ▸ h2⟩
  have gr : Gr (del H (Sl F δ σ)) (del H (Sl F δ σ')) := gr_del fun b u n hb e => ⟨fun z => hb (z.imp (ma b) id), e⟩
  refine ⟨I.len.trans hl.symm, fun i e h => ?_, fun i j xs ys a h1 h2 h3 h4 => I.nd i j xs ys a h1 h2 ((hs i _ h1) ▸ h3) ((hs j _ h2) ▸ h4), fun a ha => I.own a (ma a ha), I.keep, I.ex, fun i hi => (hp i hi).trans (I.pin i hi), I.tab, I.tk, I.mt, fun i xs a e1 e2 ha => I.mx i xs a e1 ((hs i _ e1) ▸ e2) ha, fun a w => ⟨(I.wl a w).1, fun z => (I.wl a w).2 (ma a z)⟩, I.k1⟩
  obtain ⟨v, h1, h2⟩ := I.slot i e h
  refine ⟨v, (hs i e h).trans h1, ?_⟩
  cases e with
  | d x => exact Rp.gr gr h2
  | err D => exact XR.gr gr h2
  | k n => exact h2
  | m ys =>
    obtain ⟨a, ws, h4, h5, h6⟩ := h2
    exact ⟨a, ws, h4, h5, RpL.gr gr h6⟩
/-- fewer slots known -/
theorem EI.less (I : EI G F δ σ H) (hl : δ'.length = δ.length) (hs : ∀ (i : Nat) (e : E), δ'[i]? = some (some e) → δ[i]? = some (some e)) : EI G F δ' σ H := by
  have ma : ∀ a, MA δ' σ a → MA δ σ a := fun a ⟨i, xs, h1, h2⟩ => ⟨i, xs, hs _ _ h1, h2⟩
  have gr : Gr (del H (Sl F δ σ)) (del H (Sl F δ' σ)) := gr_del fun b u n hb e => ⟨fun z => hb (z.imp (ma b) id), e⟩
  refine ⟨hl.trans I.len, fun i e h => ?_, fun i j xs ys a h1 h2 h3 h4 => I.nd i j xs ys a (hs _ _ h1) (hs _ _ h2) h3 h4, fun a ha => I.own a (ma a ha), I.keep, I.ex, I.pin, I.tab, I.tk, I.mt, fun i xs a e1 e2 ha => I.mx i xs a (hs _ _ e1) e2 ha, fun a w => ⟨(I.wl a w).1, fun z => (I.wl a w).2 (ma a z)⟩, fun i j n m h1 h2 => I.k1 i j n m (hs _ _ h1) (hs _ _ h2)⟩
  obtain ⟨v, h1, h2⟩ := I.slot i e (hs i e h)
  refine ⟨v, h1, ?_⟩
  cases e with
  | d x => exact Rp.gr gr h2
  | err D => exact XR.gr gr h2
  | k n => exact h2
  | m ys =>
    obtain ⟨a, ws, h4, h5, h6⟩ := h2
    exact ⟨a, ws, h4, h5, RpL.gr gr h6⟩
theorem EI.wiped {vs : List Nat} (I : EI G F δ σ H) (hp : ∀ i ∈ G.pn, i ∉ vs) : EI G F (wipeD δ vs) (wipe σ vs) H :=
  (I.less (wipeD_length δ vs) fun i e h => (wipeD_some h).1).agree (wipe_length σ vs) (fun i e h => wipe_get (wipeD_some h).2) fun i hi => wipe_get (hp i hi)
theorem EI.unwiped {vs : List Nat} (I : EI G F (wipeD δ vs) (wipe σ vs) H) (hp : ∀ i ∈ G.pn, i ∉ vs) : EI G F (wipeD δ vs) σ H :=
  I.agree (wipe_length σ vs).symm (fun i e h => (wipe_get (wipeD_some h).2).symm) fun i hi => (wipe_get (hp i hi)).symm
theorem wipeD_idem {vs : List Nat} : wipeD (wipeD δ vs) vs = wipeD δ vs := by
  refine List.ext_getElem? fun j => ?_
  have key : ∀ (δ : DEnv) (vs : List Nat) (j : Nat), (wipeD δ vs)[j]? = if j ∈ vs ∧ j < δ.length then some none else δ[j]? := fun δ vs => by
    induction vs with
    | nil => intro j; simp [wipeD]
    | cons v vs ih =>
      intro j
      unfold wipeD
      by_cases e : v = j
      · subst e
        by_cases hl : v < δ.length
        · rw [List.getElem?_set_self (by rw [wipeD_length]; exact hl)]
          simp [hl]
        · rw [List.getElem?_eq_none (by rw [List.length_set, wipeD_length]; omega)]
          simp [hl]
      · rw [List.getElem?_set_ne e, ih j]
        have : (j ∈ v :: vs) ↔ j ∈ vs := ⟨fun z => (List.mem_cons.mp z).resolve_left fun z => e z.symm, List.mem_cons_of_mem _⟩
        simp only [this]
  rw [key, key, wipeD_length]
  split <;> rfl
/-- an owned list that no slot knows is changed -/
theorem EI.poke {p : Addr} {vs ws : List V} (I : EI G F δ σ H) (hx : F.X0 p) (hm : ¬ MA δ σ p) (h0 : F.H0 p = none) (hM : ¬ F.M0 p) (hW : ¬ F.W0 p) (hp : H p = some (.lst vs)) : EI G F δ σ (upd H p (.lst ws)) ∧ Gr (del H (Sl F δ σ)) (del (upd H p (.lst ws)) (Sl F δ σ)) := by
  have gr : Gr (del H (Sl F δ σ)) (del (upd H p (.lst ws)) (Sl F δ σ)) := gr_del fun b u n hb e => ⟨hb, by
    have ne : b ≠ p := fun z => hb (.inr (z ▸ hx))
    rw [upd_ne ne]; exact e⟩
  refine ⟨⟨I.len, fun i e h => ?_, I.nd, I.own, fun b u n hb hw e => ?_, fun a ha => ?_, I.pin, fun q hq => ?_, fun b ps e => ?_, fun a ha => ?_, I.mx, I.wl, I.k1⟩, gr⟩
  · obtain ⟨v, h1, h2⟩ := I.slot i e h
    refine ⟨v, h1, ?_⟩
    cases e with
    | d x => exact Rp.gr gr h2
    | err D => exact XR.gr gr h2
    | k n =>
      obtain ⟨b, eb, h3⟩ := h2
      exact ⟨b, eb, h3.up fun c u w e => by rw [upd_ne (show c ≠ p from fun z => hW (by rw [← z]; exact w))]; exact e⟩
    | m ys =>
      obtain ⟨a, us, h4, h5, h6⟩ := h2
      subst h4
      have ne : a ≠ p := fun z => hm ⟨i, ys, h, z ▸ h1⟩
      exact ⟨a, us, rfl, by rw [upd_ne ne]; exact h5, RpL.gr gr h6⟩
  · have ne : b ≠ p := fun z => by rw [z, h0] at e; cases e
    rw [upd_ne ne]; exact I.keep b u n hb hw e
  · by_cases e : a = p
    · rw [e]; exact ⟨_, upd_same, nt_lst _⟩
    · rw [upd_ne e]; exact I.ex a ha
  · obtain ⟨ps, e, t⟩ := I.tab q hq
    have ne : q ≠ p := fun z => by rw [z, hp] at e; cases e
    exact ⟨ps, by rw [upd_ne ne]; exact e, t⟩
  · obtain ⟨qs, e1⟩ := I.tk b ps e
    have ne : b ≠ p := fun z => by rw [z, hp] at e1; cases e1
    exact ⟨qs, by rw [upd_ne ne]; exact e1⟩
  · have ne : a ≠ p := fun z => hM (z ▸ ha)
    rw [upd_ne ne]; exact I.mt a ha

/-! ### list comprehensions -/
/-- between two turns: acc is in the new list at D; what is walked stands -/
structure LcI (G : Gx) (F : Fx) (σ : L2.St) (vs : List Nat) (D : Addr) (Hd : Hp → Prop) (IV : List PyData → DEnv → Prop) (len : Nat) (H : Hp) : Prop where
  ex : ∃ acc δ, IV acc (wipeD δ vs) ∧ acc.length ≤ len ∧ New G F (wipeD δ vs) (wipe σ vs) H D acc ∧ Hd (del H (Sl (F.own D) (wipeD δ vs) (wipe σ vs)))
theorem LcI.end_ {vs : List Nat} {D : Addr} {Hd : Hp → Prop} {IV : List PyData → DEnv → Prop} {len : Nat} (hp : ∀ i ∈ G.pn, i ∉ vs) (h : LcI G F σ vs D Hd IV len H) : ∃ acc δ, IV acc (wipeD δ vs) ∧ acc.length ≤ len ∧ New G F (wipeD δ vs) σ H D acc := by
  obtain ⟨acc, δ, iv, hl, N, _⟩ := h.ex
  have ma : ∀ a, MA (wipeD δ vs) σ a → MA (wipeD δ vs) (wipe σ vs) a := fun a ⟨i, xs, h1, h2⟩ => ⟨i, xs, h1, (wipe_get (wipeD_some h1).2).trans h2⟩
  have J := N.ei.unwiped hp
  obtain ⟨ws, h1, r1⟩ := N.at_
  exact ⟨acc, δ, iv, hl, J, fun z => N.ma (ma _ z), N.x0, N.h0, N.m0, N.w0, ws, h1, RpL.gr (gr_del fun b u n hb e => ⟨fun z => hb (z.imp (ma b) id), e⟩) r1⟩
theorem LcI.start_ {vs : List Nat} {D : Addr} {Hd : Hp → Prop} {IV : List PyData → DEnv → Prop} (hp : ∀ i ∈ G.pn, i ∉ vs) (I : EI G F δ σ H) (hD : H D = none) (hg : ∀ H H', Gr H H' → Hd H → Hd H') (r : Hd (del H (Sl F δ σ))) (i0 : IV [] (wipeD δ vs)) : LcI G F σ vs D Hd IV 0 (upd H D (.lst [])) := by
  have J := I.wiped hp
  have ma : ∀ a, MA (wipeD δ vs) (wipe σ vs) a → MA δ σ a := fun a ⟨i, xs, h1, h2⟩ => ⟨i, xs, (wipeD_some h1).1, (wipe_get (wipeD_some h1).2) ▸ h2⟩
  refine ⟨[], δ, i0, Nat.le_refl _, New.mk_ J hD .nil, hg _ _ (gr_del fun b u n hb e => ⟨fun z => ?_, ?_⟩) r⟩
  · rcases z with z | z | z
    · exact hb (.inl (ma b z))
    · rw [z, hD] at e; cases e
    · exact hb (.inr z)
  · have ne : b ≠ D := fun z => by rw [z, hD] at e; cases e
    rw [upd_ne ne]; exact e
/-- one turn -/
theorem lc_turn {g : TG} {vs : List Nat} {D : Addr} {Hd Hd2 : Hp → Prop} {IV IV' : List PyData → DEnv → Prop} {len : Nat} {y : V} {d : PyData} (hp : ∀ i ∈ G.pn, i ∉ vs) (hlen : len < sizeLine)
    (st : ∀ acc δ, IV acc (wipeD δ vs) → acc.length ≤ len → DG G g vs d (wipeD δ vs) fun δ1 => DT G tt δ1 fun b δ2 => if b = true then ED G te δ2 fun z δ3 => IV' (acc ++ [z]) (wipeD δ3 vs) else IV' acc (wipeD δ2 vs))
    (hg : ∀ H H', Gr H H' → Hd H → Hd H') (hw : ∀ H, Hd H → Hd2 H) (I : LcI G F σ vs D Hd IV len H) (ry : ∀ M, Hd (del H M) → Rp G.K (del H M) d y) :
    g y (wipe σ vs) H fun σ2 H2 => wipe σ2 vs = wipe σ vs ∧ tt σ2 H2 fun b H3 =>
      if b = true then te σ2 H3 fun y H4 => ∃ acc, H4 D = some (.lst acc) ∧ acc.length < sizeLine ∧ LcI G F σ vs D Hd2 IV' (len + 1) (upd H4 D (.lst (acc ++ [y]))) else LcI G F σ vs D Hd2 IV' (len + 1) H3 := by
  obtain ⟨acc, δ, iv, hl, ⟨J, nm, nx, n0, nM, nW, ws, hD, ra⟩, hr⟩ := I.ex
  refine st acc δ iv hl (F.own D) (wipe σ vs) H y _ J (ry _ hr) fun δ1 σ1 q1 J1 g1 l1 a1 m1 => ?_
  have we : wipe σ1 vs = wipe σ vs := (wipe_eq l1 a1).trans (wipe_eq (wipe_length σ vs) fun j hj => wipe_get hj)
  have nm1 : ¬ MA δ1 σ1 D := fun z => nm (m1 D z)
  have mw : ∀ {δ' : DEnv} {a : Addr}, MA (wipeD δ' vs) (wipe σ vs) a → MA δ' σ1 a := fun {δ' a} ⟨i, xs, h1, h2⟩ => ⟨i, xs, (wipeD_some h1).1, by
    rw [← we] at h2
    exact (wipe_get (wipeD_some h1).2) ▸ h2⟩
  refine ⟨we, q1.go J1 fun b δ2 H2 q2 s2 => ?_⟩
  have nm2 : ¬ MA δ2 σ1 D := fun z => (s2.ma D z).elim nm1 fun z => by rw [hD] at z; cases z
  have hD2 : H2 D = some (.lst ws) := s2.kp D _ (nt_lst _) nm1 nW hD
  cases b with
  | false =>
    refine iteF ⟨acc, δ2, (by simpa using q2), Nat.le_succ_of_le hl, ?_⟩
    have J2 := s2.ei.wiped hp
    rw [we] at J2
    have sub : Gr (del H2 (Sl (F.own D) δ2 σ1)) (del H2 (Sl (F.own D) (wipeD δ2 vs) (wipe σ vs))) := gr_del fun b u n hb e => ⟨fun z => hb (z.imp mw id), e⟩
    exact ⟨⟨J2, fun z => nm2 (mw z), nx, n0, nM, nW, ws, hD2, RpL.gr sub (RpL.gr s2.gr (RpL.gr g1 ra))⟩, hw _ (hg _ _ sub (hg _ _ s2.gr (hg _ _ g1 hr)))⟩
  | true =>
    have q3 : ED G te δ2 fun z δ3 => IV' (acc ++ [z]) (wipeD δ3 vs) := by simpa using q2
    refine iteT (q3.go s2.ei fun z w δ3 H3 q4 s3 r3 => ?_)
    have nm3 : ¬ MA δ3 σ1 D := fun z => (s3.ma D z).elim nm2 fun z => by rw [hD2] at z; cases z
    have hD3 : H3 D = some (.lst ws) := s3.kp D _ (nt_lst _) nm2 nW hD2
    have J3 := s3.ei.wiped hp
    rw [we] at J3
    have sub : Gr (del H3 (Sl (F.own D) δ3 σ1)) (del H3 (Sl (F.own D) (wipeD δ3 vs) (wipe σ vs))) := gr_del fun b u n hb e => ⟨fun z => hb (z.imp mw id), e⟩
    have rl := RpL.len ra
    obtain ⟨J4, g4⟩ := J3.poke (p := D) (ws := ws ++ [w]) (.inl rfl) (fun z => nm3 (mw z)) n0 nM nW hD3
    refine ⟨ws, hD3, by rw [← rl]; omega, acc ++ [z], δ3, q4, by rw [List.length_append, List.length_singleton]; omega, ⟨J4, fun z => nm3 (mw z), nx, n0, nM, nW, ws ++ [w], upd_same, ?_⟩, ?_⟩
    · exact RpL.gr g4 (RpL.gr sub ((RpL.gr s3.gr (RpL.gr s2.gr (RpL.gr g1 ra))).app (.one r3)))
    · exact hw _ (hg _ _ g4 (hg _ _ sub (hg _ _ s3.gr (hg _ _ s2.gr (hg _ _ g1 hr)))))
/-- [te for i in range(n)] -/
theorem ef_lcR {i : Nat} (hp : i ∉ G.pn) (h : EA G tr δ fun as δ1 => ∃ n : Int, allD as = some [.int n] ∧ -(2 ^ 62) ≤ n ∧ n < 2 ^ 62 ∧ n.toNat ≤ sizeLine ∧ ∃ IV : Nat → List PyData → DEnv → Prop, IV 0 [] (wipeD δ1 [i]) ∧
      (∀ k acc δ2, k < n.toNat → IV k acc (wipeD δ2 [i]) → acc.length ≤ k → ED G te ((wipeD δ2 [i]).set i (some (.d (.int k)))) fun z δ3 => IV (k + 1) (acc ++ [z]) (wipeD δ3 [i])) ∧ ∀ acc δ2, IV n.toNat acc (wipeD δ2 [i]) → acc.length ≤ n.toNat → QF acc (wipeD δ2 [i])) :
    EF G (tLc (iRng1 tr) (gName i) tYes te [i]) δ QF := fun F σ H R I k =>
  h F σ H _ I fun as vs δ1 H1 ⟨n, e, n1, n2, n3, IV, i0, st, fin⟩ J r => by
    have hp' : ∀ j ∈ G.pn, j ∉ [i] := fun j hj z => hp (by rw [← List.mem_singleton.mp z]; exact hj)
    have r2 := allD_ok e r
    cases r2 with
    | cons r3 r4 =>
      cases r4; cases r3
      refine ⟨n, rfl, n1, n2, fun D hD => lc_range (lo := 0) (n := n.toNat) (fun j H' => LcI G F σ [i] D (fun _ => True) (IV j) j H') (LcI.start_ hp' J hD (fun _ _ _ z => z) trivial i0) ?_ ?_⟩
      · intro j H' hj I'
        have ej : (0 : Int) + (j : Int) = (j : Int) := by omega
        rw [ej]
        refine lc_turn (d := .int j) hp' (by omega) (fun acc δ2 iv hl => dg_name (by simp) hp ?_) (fun _ _ _ z => z) (fun _ z => z) I' fun M _ => .int _
        intro F2 σ2 H2 R2 I2 k2
        exact k2 true _ H2 (by simpa using st j acc δ2 hj iv hl) I2
      · intro H' I'
        obtain ⟨acc, δ2, iv, hl, N⟩ := I'.end_ hp'
        exact k acc D _ H' (fin acc δ2 iv hl) N
/-- [te for g in xs if tt] -/
theorem ef_lcL {g : TG} {vs : List Nat} (hp : ∀ j ∈ G.pn, j ∉ vs) (h : ED G tl δ fun x δ1 => ∃ xs, x = .list xs ∧ xs.length ≤ sizeLine ∧ ∃ IV : Nat → List PyData → DEnv → Prop, IV 0 [] (wipeD δ1 vs) ∧
      (∀ k acc δ2 y, xs[k]? = some y → IV k acc (wipeD δ2 vs) → acc.length ≤ k → DG G g vs y (wipeD δ2 vs) fun δ3 => DT G tt δ3 fun b δ4 => if b = true then ED G te δ4 fun z δ5 => IV (k + 1) (acc ++ [z]) (wipeD δ5 vs) else IV (k + 1) acc (wipeD δ4 vs)) ∧
      ∀ acc δ2, IV xs.length acc (wipeD δ2 vs) → acc.length ≤ xs.length → QF acc (wipeD δ2 vs)) : EF G (tLc (iList G.K tl) g tt te vs) δ QF := fun F σ H R I k =>
  h F σ H _ I fun x v δ1 H1 ⟨xs, e, hs, IV, i0, st, fin⟩ J r => by
    subst e
    cases r with
    | @lst a ws _ h1 r1 =>
      obtain ⟨hno, h2⟩ := del_some.mp h1
      have hg : ∀ H H' : Hp, Gr H H' → (H a = some (.lst ws) ∧ RpL G.K H xs ws) → (H' a = some (.lst ws) ∧ RpL G.K H' xs ws) := fun H H' g z => ⟨g _ _ (nt_lst _) z.1, RpL.gr g z.2⟩
      refine ⟨a, rfl, ⟨ws, SqL.of h2⟩, fun D hD => lc_list (K := G.K) (a := a) (xs := ws) (fun j H' => LcI G F σ vs D (fun H => H a = some (.lst ws) ∧ RpL G.K H xs ws) (IV j) j H') (LcI.start_ hp J hD hg ⟨h1, r1⟩ i0) ?_ ?_ ?_⟩
      · rintro j H' _ I'
        obtain ⟨_, _, _, _, _, q⟩ := I'.ex
        exact SqL.of (del_some.mp q.1).2
      · rintro j y H' hy I'
        obtain ⟨d, hd, _⟩ := r1.getV hy
        have hj : j < xs.length := (List.getElem?_eq_some_iff.mp hd).1
        refine lc_turn (d := d) hp (by omega) (fun acc δ2 iv hl => st j acc δ2 d hd iv hl) hg (fun _ z => z) I' fun M q => ?_
        obtain ⟨d', hd', rd⟩ := q.2.getV hy
        rw [hd] at hd'
        cases hd'
        exact rd
      · rintro H' I'
        rw [← r1.len] at I'
        obtain ⟨acc, δ2, iv, hl, N⟩ := I'.end_ hp
        exact k acc D _ H' (fin acc δ2 iv hl) N
end
end DX


set_option Elab.async false
set_option linter.all false
set_option maxRecDepth 100000
set_option maxHeartbeats 1000000
namespace DX
open PySem PySem.Spec PyProof.Rows L2 GxR GA
open Classical
section
variable {G : Gx} {F : Fx} {δ δ' : DEnv} {σ σ' : L2.St} {H H' : Hp} {ta tb tc te tl : TE} {tr tk : TA} {Q : PyData → DEnv → Prop} {QF : List PyData → DEnv → Prop} {tt : TT}
theorem EI.tabbed {P : Addr} (I : EI G F δ σ H) (hP : P ∈ G.cs) (T : Tabbed P H H') : EI G F δ σ H' ∧ Gr (del H (Sl F δ σ)) (del H' (Sl F δ σ)) := by
  obtain ⟨ps, h0, _⟩ := I.tab P hP
  have kp : ∀ b o, NT o → H b = some o → H' b = some o := fun b o n e => by
    have ne : b ≠ P := fun z => by rw [z, h0] at e; cases e; exact n _ rfl
    rw [T.2 b ne]; exact e
  refine ⟨I.called kp (fun b qs e => ?_) fun p hp => ?_, gr_del fun b u n hb e => ⟨hb, kp b u n e⟩⟩
  · by_cases hb : b = P
    · obtain ⟨rs, e1, _⟩ := T.1
      exact ⟨rs, by rw [hb]; exact e1⟩
    · exact ⟨qs, by rw [T.2 b hb]; exact e⟩
  · by_cases hb : p = P
    · rw [hb]; exact T.1
    · obtain ⟨qs, e, t⟩ := I.tab p hp
      exact ⟨qs, by rw [T.2 p hb]; exact e, t⟩
/-- all(te for i in xs) -/
theorem ed_allG {i : Nat} {P : Addr} (hP : P ∈ G.cs) (hp : i ∉ G.pn) (h : ED G tl δ fun x δ1 => ∃ xs, x = .list xs ∧ ∃ IV : Nat → DEnv → Prop, IV 0 (wipeD δ1 [i]) ∧
      (∀ k δ2 y, xs[k]? = some y → IV k (wipeD δ2 [i]) → ED G te ((wipeD δ2 [i]).set i (some (.d y))) fun z δ3 => ∃ b, z = .bool b ∧ if b = true then IV (k + 1) (wipeD δ3 [i]) else Q (.bool false) (wipeD δ3 [i])) ∧
      ∀ δ2, IV xs.length (wipeD δ2 [i]) → Q (.bool true) (wipeD δ2 [i])) : ED G (tAllG P (iList G.K tl) (gName i) te [i]) δ Q := fun F σ H R I k =>
  h F σ H _ I fun x v δ1 H1 ⟨xs, e, IV, i0, st, fin⟩ J r => by
    subst e
    have hp' : ∀ j ∈ G.pn, j ∉ [i] := fun j hj z => hp (by rw [← List.mem_singleton.mp z]; exact hj)
    cases r with
    | @lst a ws _ h1 r1 =>
      obtain ⟨hno, h2⟩ := del_some.mp h1
      refine ⟨a, rfl, ⟨ws, SqL.of h2⟩, J.tab P hP, fun H2 T => ?_⟩
      obtain ⟨J2, g2⟩ := J.tabbed hP T
      have w1 : ∀ {δ' : DEnv} {b : Addr}, MA (wipeD δ' [i]) (wipe σ [i]) b → MA δ' σ b := fun {δ' b} ⟨j, ys, e1, e2⟩ => ⟨j, ys, (wipeD_some e1).1, (wipe_get (wipeD_some e1).2) ▸ e2⟩
      have sub : ∀ {δ' : DEnv} {H' : Hp}, Gr (del H' (Sl F δ' σ)) (del H' (Sl F (wipeD δ' [i]) (wipe σ [i]))) := fun {δ' H'} => gr_del fun b u n hb e => ⟨fun z => hb (z.imp w1 id), e⟩
      refine ⟨xs.length, fun j H' => ∃ δ2, IV j (wipeD δ2 [i]) ∧ EI G F (wipeD δ2 [i]) (wipe σ [i]) H' ∧ (del H' (Sl F (wipeD δ2 [i]) (wipe σ [i]))) a = some (.lst ws) ∧ RpL G.K (del H' (Sl F (wipeD δ2 [i]) (wipe σ [i]))) xs ws,
        ⟨δ1, i0, J2.wiped hp', sub _ _ (nt_lst _) (g2 _ _ (nt_lst _) h1), RpL.gr sub (RpL.gr g2 r1)⟩, ⟨?_, ?_⟩⟩
      · rintro j H' hj ⟨δ2, iv, J3, ha, rl⟩
        have hw : j < ws.length := by rw [← r1.len]; exact hj
        refine ⟨⟨ws, ws[j], SqL.of (del_some.mp ha).2, by simp [hw]⟩, ?_⟩
        rintro y H'' ⟨rfl, hy⟩
        have hy := hy ws (SqL.of (del_some.mp ha).2)
        obtain ⟨d, hd, rd⟩ := rl.getV hy
        have J4 := J3.set_d (i := i) hp rd
        have we : wipe ((wipe σ [i]).set i (some y)) [i] = wipe σ [i] := wipe_eq (by rw [List.length_set, wipe_length]) fun j hj => by
          have : i ≠ j := fun z => hj (by rw [← z]; exact List.mem_singleton.mpr rfl)
          rw [List.getElem?_set_ne this, wipe_get hj]
        refine ⟨we, ?_⟩
        have g4 : Gr (del H'' (Sl F (wipeD δ2 [i]) (wipe σ [i]))) (del H'' (Sl F ((wipeD δ2 [i]).set i (some (.d d))) ((wipe σ [i]).set i (some y)))) := gr_del fun b u n hb e => ⟨fun z => hb (z.imp (fun z => (MA.set_d (fun _ q => by cases q) z).1) id), e⟩
        refine (st j δ2 d hd iv).go J4 fun z w δ3 H3 ⟨b, eb, q⟩ s3 r3 => ?_
        subst eb
        cases r3
        have J5 := s3.ei.wiped hp'
        rw [we] at J5
        have w2 : ∀ {b : Addr}, MA (wipeD δ3 [i]) (wipe σ [i]) b → MA δ3 ((wipe σ [i]).set i (some y)) b := fun {b} ⟨j, ys, e1, e2⟩ => ⟨j, ys, (wipeD_some e1).1, by
          rw [← we] at e2
          exact (wipe_get (wipeD_some e1).2) ▸ e2⟩
        have sub2 : Gr (del H3 (Sl F δ3 ((wipe σ [i]).set i (some y)))) (del H3 (Sl F (wipeD δ3 [i]) (wipe σ [i]))) := gr_del fun b u n hb e => ⟨fun z => hb (z.imp w2 id), e⟩
        refine ⟨b, rfl, ?_⟩
        cases b with
        | true =>
          refine iteT ⟨δ3, (by simpa using q), J5, sub2 _ _ (nt_lst _) (s3.gr _ _ (nt_lst _) (g4 _ _ (nt_lst _) ha)), RpL.gr sub2 (RpL.gr s3.gr (RpL.gr g4 rl))⟩
        | false => exact iteF (k _ _ _ H3 (by simpa using q) (J5.unwiped hp') (.bl _))
      · rintro H' ⟨δ2, iv, J3, ha, rl⟩
        refine ⟨⟨ws, SqL.of (del_some.mp ha).2, by rw [← r1.len]; exact Nat.le_refl _⟩, ?_⟩
        exact k _ _ _ H' (fin δ2 iv) (J3.unwiped hp') (.bl _)
/-- .. where the test is a plain one -/
theorem ed_allP {i : Nat} {P : Addr} (hP : P ∈ G.cs) (hp : i ∉ G.pn) (pb : PyData → Bool) (h : ED G tl δ fun x δ1 => ∃ xs, x = .list xs ∧
      (∀ y ∈ xs, ∀ Q' : PyData → DEnv → Prop, (∀ δ3, wipeD δ3 [i] = wipeD δ1 [i] → Q' (.bool (pb y)) δ3) → ED G te ((wipeD δ1 [i]).set i (some (.d y))) Q') ∧ Q (.bool (xs.all pb)) (wipeD δ1 [i])) : ED G (tAllG P (iList G.K tl) (gName i) te [i]) δ Q :=
  ed_allG hP hp (h.mono fun x δ1 ⟨xs, e, ht, q⟩ => by
    refine ⟨xs, e, fun k δ2 => δ2 = wipeD δ1 [i] ∧ (xs.take k).all pb = true, ⟨rfl, rfl⟩, ?_, ?_⟩
    · rintro k δ2 y hy ⟨e1, hb⟩
      rw [e1]
      refine ht y (List.mem_of_getElem? hy) _ fun δ3 e3 => ⟨pb y, rfl, ?_⟩
      have hk : k < xs.length := (List.getElem?_eq_some_iff.mp hy).1
      have ek : xs[k] = y := (List.getElem?_eq_some_iff.mp hy).2
      cases hpb : pb y with
      | true =>
        refine iteT ⟨e3, ?_⟩
        rw [List.take_succ_eq_append_getElem hk, List.all_append, hb, ek]
        simp [hpb]
      | false =>
        refine iteF ?_
        rw [e3]
        have : xs.all pb = false := by
          rw [List.all_eq_false]
          exact ⟨y, List.mem_of_getElem? hy, by simp [hpb]⟩
        rw [this] at q
        exact q
    · rintro δ2 ⟨e1, hb⟩
      rw [e1]
      rw [List.take_length] at hb
      rw [hb] at q
      exact q)
end
/-! ### powers of great numbers -/
def CPowW (i j : Int) : Prop := 0 ≤ j ∧ (i.natAbs.log2 + 1 : Nat) * j.toNat ≤ 100000
theorem op_powW {X : Cx} : OpR X (binaryOp .Pow) (rI CPowW fun i j => .int (i ^ j.toNat)) := opI fun i j _ _ _ _ _ hc q => by
  obtain ⟨h0, h1⟩ := hc
  refine pow_int h0 ?_ q
  have b : Builtin.Int.intBits i ≤ i.natAbs.log2 + 1 := by
    unfold Builtin.Int.intBits
    split <;> omega
  have e : ((Builtin.Int.intBits i : Nat) : Int) * j = ((Builtin.Int.intBits i * j.toNat : Nat) : Int) := by
    rw [Int.natCast_mul, Int.toNat_of_nonneg h0]
  rw [e]
  have h2 : Builtin.Int.intBits i * j.toNat ≤ 100000 := Nat.le_trans (Nat.mul_le_mul_right _ b) h1
  have h3 : ((Builtin.Int.intBits i * j.toNat : Nat) : Int) ≤ ((100000 : Nat) : Int) := Int.ofNat_le.mpr h2
  exact Int.le_trans h3 (by decide)
end DX


set_option Elab.async false
set_option linter.all false
set_option maxRecDepth 100000
set_option maxHeartbeats 1000000
namespace DX
open PySem PySem.Spec PyProof.Rows L2 GxR GA
open Classical
section
variable {G : Gx} {F : Fx} {δ δ' : DEnv} {σ σ' : L2.St} {H H' : Hp} {ta tb tc te tl : TE} {tr tk : TA} {Q : PyData → DEnv → Prop} {QF : List PyData → DEnv → Prop} {tt : TT} {QS : Out → Prop} {t : TS}
/-! ### for over enumerate -/
theorem for_enum {K : PySem.W.Frag} {a : Addr} {xs : List V} {g : TG} {tb : TS} {D : Ends} {σ : L2.St} {H : Hp} (Pv : Nat → L2.St → Hp → Prop) (h0 : Pv 0 σ H) (hl : ∀ i σ H, i ≤ xs.length → Pv i σ H → SqL K H a xs)
    (hs : ∀ i x σ H T, xs[i]? = some x → Pv i σ H → H T = none → g (.ref T) σ (upd H T (.tup [.int (i : Nat), x])) fun σ2 H2 => tb { D with nx := Pv (i + 1), ct := Pv (i + 1), bk := D.nx } σ2 H2) (hd : ∀ σ H, Pv xs.length σ H → D.nx σ H) :
    ∃ W : Nat → Nat → L2.St → Hp → Prop, (∃ m, W 0 m σ H) ∧ ∀ i m σ H, W i m σ H →
      ((Ite K a).stop i H ∧ D.nx σ H) ∨ ((Ite K a).go i H ∧ ∃ N : L2.St → Hp → Prop, (∀ σ' H', N σ' H' → ∃ m', m' < m ∧ W (i + 1) m' σ' H') ∧ ∀ x H', (Ite K a).yld i H x H' → g x σ H' fun σ2 H2 => tb { D with nx := N, ct := N, bk := D.nx } σ2 H2) := by
  refine ⟨fun i m σ H => m = xs.length - i ∧ i ≤ xs.length ∧ Pv i σ H, ⟨xs.length, by simp, Nat.zero_le _, h0⟩, ?_⟩
  rintro i m σ H ⟨rfl, hi, p⟩
  have q := hl i σ H hi p
  by_cases hlt : i < xs.length
  · refine .inr ⟨⟨xs, xs[i], q, by simp [hlt]⟩, Pv (i + 1), fun σ' H' p' => ⟨xs.length - (i + 1), by omega, rfl, hlt, p'⟩, fun x H' y => ?_⟩
    obtain ⟨T, z, rfl, hT, rfl, y⟩ := y
    exact hs i z σ H T (y xs q) p hT
  · have e : i = xs.length := by omega
    subst e
    exact .inl ⟨⟨xs, q, Nat.le_refl _⟩, hd σ H p⟩
theorem sd_forE {g : TG} {vs : List Nat} (h : EA G tr δ fun as δ1 => ∃ xs, allD as = some [.list xs] ∧ ∃ IV : Nat → DEnv → Prop, IV 0 δ1 ∧
      (∀ k δ2 y, xs[k]? = some y → IV k δ2 → DG G g vs (.tuple [.int (k : Nat), y]) δ2 fun δ3 => SD G t δ3 (Lp QS (IV (k + 1)))) ∧ ∀ δ2, IV xs.length δ2 → QS (.nx δ2)) : SD G (tFor (iEnum G.K tr) g t) δ QS := fun F σ H D I k =>
  h F σ H _ I fun as ws0 δ1 H1 ⟨xs, e, IV, i0, st, fin⟩ J r0 => by
    have r2 := allD_ok e r0
    cases r2 with
    | cons r r4 =>
      cases r4
      cases r with
      | @lst a ws _ h1 r1 =>
        obtain ⟨hno, h2⟩ := del_some.mp h1
        have stay : ∀ {δ2 : DEnv} {σ2 : L2.St} {H2 : Hp}, EI G (F.now δ1 σ H1) δ2 σ2 H2 → H2 a = some (.lst ws) ∧ RpL G.K (del H2 (Sl (F.now δ1 σ H1) δ2 σ2)) xs ws := fun {δ2 σ2 H2} J2 => by
          have s := J.since J2
          exact ⟨s.kp a _ (nt_lst _) (fun z => hno (.inl z)) (fun w => hno (.inr (J.wl a w).1)) h2, RpL.gr s.gr r1⟩
        refine ⟨a, ws, rfl, SqL.of h2, for_enum (xs := ws) (fun j σ' H' => ∃ δ2, IV j δ2 ∧ EI G (F.now δ1 σ H1) δ2 σ' H') ⟨δ1, i0, J.now⟩ ?_ ?_ ?_⟩
        · rintro j σ2 H2 _ ⟨δ2, iv, J2⟩
          exact SqL.of (stay J2).1
        · rintro j y σ2 H2 T hy ⟨δ2, iv, J2⟩ hT
          obtain ⟨d, hd, rd⟩ := (stay J2).2.getV hy
          have J3 := J2.laid hT (nt_tup [.int (j : Nat), y])
          obtain ⟨_, _, hX, hm⟩ := J2.fresh hT
          have rd2 : Rp G.K (del (upd H2 T (.tup [.int (j : Nat), y])) (Sl (F.now δ1 σ H1) δ2 σ2)) (.tuple [.int (j : Nat), d]) (.ref T) :=
            .tup (.inl (.inl (del_some.mpr ⟨fun z => z.elim hm hX, upd_same⟩))) (.cons (.int _) (.cons (rd.gr (gr_laid hT)) .nil))
          exact st j δ2 d hd iv _ σ2 _ _ _ J3 rd2 fun δ3 σ3 q3 J3 _ _ _ _ => q3 _ σ3 _ _ J3 (loop_ends (fun o q => sat_back J (k o q)) fun δ4 σ4 H4 iv4 J4 => ⟨δ4, iv4, J4⟩)
        · rintro σ2 H2 ⟨δ2, iv, J2⟩
          rw [← r1.len] at iv
          exact k _ (fin δ2 iv) σ2 H2 (J.back J2)
/-! ### list.count of an int among ints and None -/
def okC : V → Bool
  | .non => true
  | .int _ => true
  | _ => false
def cntV (k : Int) (vs : List V) : Nat := vs.countP fun v => match v with
  | .int i => i == k
  | _ => false
def rCntM (K : PySem.W.Frag) : V → List V → Hp → VK → Prop := fun x xs H Q => ∃ (p : Addr) (ws : List V) (k : Int), x = .ref p ∧ xs = [.int k] ∧ SqL K H p ws ∧ ws.all okC = true ∧ Q (.int (cntV k ws : Nat)) H
theorem cntV_vals {k : Int} : ∀ {vs : List V} {us : List Value}, vs.all okC = true → Vals vs us → us.countP (eqk k) = cntV k vs ∧ ∀ (A : Around) (s : Shared) (t : Tok), ∀ y ∈ us, SeqAt.EqAt A s y (.int k t) (eqk k y)
  | [], _, _, .nil => ⟨rfl, fun _ _ _ y hy => by cases hy⟩
  | v :: vs, _, h, .cons r t => by
    have h' : (okC v && vs.all okC) = true := h
    rw [Bool.and_eq_true] at h'
    obtain ⟨ih1, ih2⟩ := cntV_vals (k := k) h'.2 t
    cases v with
    | non =>
      cases r
      refine ⟨?_, fun A s tk y hy => ?_⟩
      · unfold cntV at ih1 ⊢
        rw [List.countP_cons, List.countP_cons, ih1]
        rfl
      · rcases List.mem_cons.mp hy with rfl | hy
        · exact SeqAt.EqAt.none_int k tk
        · exact ih2 A s tk y hy
    | int i =>
      obtain ⟨t', rfl⟩ := r
      refine ⟨?_, fun A s tk y hy => ?_⟩
      · unfold cntV at ih1 ⊢
        rw [List.countP_cons, List.countP_cons, ih1]
        rfl
      · rcases List.mem_cons.mp hy with rfl | hy
        · exact SeqAt.EqAt.int_int i t' k tk
        · exact ih2 A s tk y hy
    | _ => cases h'.1
theorem mt_cntM {X : Cx} : MtR X "list.count" (rCntM X.K) := by
  intro pins s σ H x xs v us Q I rx rxs h
  obtain ⟨p, ws, k, rfl, rfl, hs, hok, q⟩ := h
  cases rx
  obtain ⟨u, rfl, ru⟩ := rxs.one
  obtain ⟨t, rfl⟩ := ru
  obtain ⟨its, rv, ⟨⟨cls, dd, data, sl⟩, n, ho, hc, hdn, hd⟩, hlen⟩ := I.list hs
  simp only at hc hd
  subst hc hd
  obtain ⟨ec, he⟩ := cntV_vals (k := k) hok rv
  refine call_meets PySem.F.slot_list_count ⟨_, ho, rfl⟩ PySem.F.entry_list_count (PySem.F.args_list_count_2 _ _)
    (SeqAt.list_countAt p its.toArray n dd sl (.int k t) (eqk k)) ⟨ho, fun y hy => he _ _ t y (by simpa using hy), ?_⟩
  refine ⟨.int (cntV k ws : Nat), H, I.tok _, ⟨s.toks, ?_⟩, q⟩
  show Value.int ((its.toArray.toList.countP (eqk k) : Nat) : Int) s.toks = Value.int ((cntV k ws : Nat) : Int) s.toks
  rw [← ec]
def oD : Option Int → PyData
  | none => .none
  | some i => .int i
def oV : Option Int → V
  | none => .non
  | some i => .int i
theorem rp_os {K : PySem.W.Frag} : ∀ {ns : List (Option Int)} {vs : List V}, RpL K H (ns.map oD) vs → vs = ns.map oV
  | [], _, .nil => rfl
  | none :: bs, _, .cons r t => by
    cases r
    rw [rp_os t]
    rfl
  | some i :: bs, _, .cons r t => by
    cases r
    rw [rp_os t]
    rfl
theorem cnt_os (k : Int) : ∀ ns : List (Option Int), cntV k (ns.map oV) = ns.count (some k)
  | [] => rfl
  | x :: ns => by
    have ih := cnt_os k ns
    unfold cntV at ih ⊢
    rw [List.map_cons, List.countP_cons, List.count_cons, ih]
    cases x with
    | none => rfl
    | some i => rfl
theorem ok_os : ∀ ns : List (Option Int), (ns.map oV).all okC = true
  | [] => rfl
  | none :: ns => by simp [oV, okC, ok_os ns]
  | some i :: ns => by simp [oV, okC, ok_os ns]
theorem ed_cnt (h : ED G ta δ fun x δ1 => ∃ ns : List (Option Int), x = .list (ns.map oD) ∧ EA G tr δ1 fun as δ2 => ∃ (k : Int), allD as = some [.int k] ∧ Q (.int (ns.count (some k) : Nat)) δ2) : ED G (tBM G.K "list" (rCntM G.K) ta tr) δ Q := fun F σ H R I k =>
  h.go I fun x u δ1 H1 ⟨ns, e, q1⟩ s1 r1 => by
    subst e
    cases r1 with
    | @lst a ws _ h1 r1 =>
      refine ⟨.inl ⟨rfl, ws, SqL.of (del_some.mp h1).2⟩, q1.go s1.ei fun as vs δ2 H2 ⟨k', e, q2⟩ s2 r2 => ?_⟩
      have r3 := allD_ok e r2
      cases r3 with
      | cons r4 r5 =>
        cases r5; cases r4
        have e1 := rp_os r1
        refine ⟨a, ws, k', rfl, rfl, SqL.of (del_some.mp (s2.gr _ _ (nt_lst _) h1)).2, by rw [e1]; exact ok_os ns, ?_⟩
        rw [e1, cnt_os]
        exact k _ _ δ2 H2 q2 s2.ei (.int _)
/-! ### a list many times -/
theorem rpL_rep {K : PySem.W.Frag} {xs : List PyData} {vs : List V} (r : RpL K H xs vs) : ∀ n : Nat, RpL K H (List.replicate n xs).flatten (List.replicate n vs).flatten
  | 0 => .nil
  | n + 1 => by
    rw [List.replicate_succ, List.replicate_succ, List.flatten_cons, List.flatten_cons]
    exact r.app (rpL_rep r n)
theorem ef_rep (h : EF G ta δ fun xs δ1 => ED G tb δ1 fun y δ2 => ∃ k : Int, y = .int k ∧ -(2 ^ 63) ≤ k ∧ k < 2 ^ 63 ∧ xs.length * k.toNat ≤ sizeLine ∧ QF (List.replicate k.toNat xs).flatten δ2) : EF G (tOp rRep ta tb) δ QF := fun F σ H R I k =>
  (ed_ef (Q := fun x δ1 => ∃ xs, x = .list xs ∧ ED G tb δ1 fun y δ2 => ∃ k : Int, y = .int k ∧ -(2 ^ 63) ≤ k ∧ k < 2 ^ 63 ∧ xs.length * k.toNat ≤ sizeLine ∧ QF (List.replicate k.toNat xs).flatten δ2) (fun F σ H R I k => h F σ H R I fun xs p δ1 H1 q N => k xs p δ1 H1 ⟨xs, rfl, q⟩ N)).go I
    fun x u δ1 H1 ⟨xs, e, q1⟩ s1 r1 => by
      subst e
      cases r1 with
      | @lst a ws _ h1 r1 =>
        refine q1.go s1.ei fun y w δ2 H2 ⟨k', e, k1, k2, k3, q2⟩ s2 r2 => ?_
        subst e
        cases r2
        have r3 := RpL.gr s2.gr r1
        exact ⟨a, k', ws, rfl, rfl, (del_some.mp (s2.gr _ _ (nt_lst _) h1)).2, k1, k2, by rw [← r1.len]; exact k3, fun p hp => k _ p δ2 _ q2 (New.mk_ s2.ei hp (rpL_rep r3 _))⟩
/-! ### unpacking a list -/
theorem dg_unl {gs : TGs} {vs : List Nat} {ds : List PyData} {n : Nat} {QD : DEnv → Prop} (hn : ds.length = n) (h : DGs G gs vs ds δ QD) : DG G (gUnl G.K n gs) vs (.list ds) δ QD := fun F σ H v R I r k => by
  cases r with
  | @lst a ws _ h1 r2 => exact ⟨a, ws, rfl, SqL.of (del_some.mp h1).2, by rw [← r2.len]; exact hn, h F σ H _ R I r2 k⟩
end
end DX


set_option Elab.async false
set_option linter.all false
set_option maxRecDepth 100000
set_option maxHeartbeats 1000000
/-! the market, its run, as plain functions -/
namespace So
theorem gD_lt {α : Type} (l : List α) (d : α) {k : Nat} (h : k < l.length) : l.getD k d = l[k] := by
  rw [List.getD_eq_getElem?_getD, List.getElem?_eq_getElem h]; rfl
theorem gD_ge {α : Type} (l : List α) (d : α) {k : Nat} (h : l.length ≤ k) : l.getD k d = d := by
  rw [List.getD_eq_getElem?_getD, List.getElem?_eq_none h]; rfl
abbrev Good := Int × Int × Int
abbrev Buyer := Option (List (Option Int))
structure Mart where
  goods : List Good
  rounds : List Buyer
def g0 : Good := (0, 0, 0)
def tkn (ws : List (Option Int)) (ps : List Int) : Nat → Option Int × Int
  | 0 => (none, -1)
  | k + 1 => match ws.getD k none with
    | none => tkn ws ps k
    | some w => if (tkn ws ps k).2 < w - ps.getD k 0 then (some (k : Nat), w - ps.getD k 0) else tkn ws ps k
def taken (b : Buyer) (ps : List Int) : Option Int := match b with
  | none => none
  | some ws => (tkn ws ps ws.length).1
def mvd (gs : List Good) (ps : List Int) (t : Option Int) (k : Nat) : Int := if t = some (k : Int) then ps.getD k 0 + (gs.getD k g0).1 else ps.getD k 0 - (gs.getD k g0).2.1
def moved (gs : List Good) (ps : List Int) (t : Option Int) : List Int := (List.range gs.length).map (mvd gs ps t)
def run (gs : List Good) (bs : Nat → Buyer) (ps : List Int) : Nat → List (Option Int) × List Int
  | 0 => ([], ps)
  | d + 1 => ((run gs bs ps d).1 ++ [taken (bs d) (run gs bs ps d).2], moved gs (run gs bs ps d).2 (taken (bs d) (run gs bs ps d).2))
def Mart.bs (m : Mart) (d : Nat) : Buyer := m.rounds.getD (d % m.rounds.length) none
def Mart.starts (m : Mart) : List Int := m.goods.map (·.2.2)
def Mart.run (m : Mart) (d : Nat) : List (Option Int) × List Int := So.run m.goods m.bs m.starts d
def VGood (g : Good) : Prop := (1 ≤ g.1 ∧ g.1 ≤ 4) ∧ (1 ≤ g.2.1 ∧ g.2.1 ≤ 4) ∧ (-99 ≤ g.2.2 ∧ g.2.2 ≤ 99)
def VW (o : Option Int) : Prop := ∀ x, o = some x → -99 ≤ x ∧ x ≤ 99
def VBuyer (n : Nat) (b : Buyer) : Prop := ∀ ws, b = some ws → ws.length = n ∧ ∀ w ∈ ws, VW w
structure Valid (m : Mart) : Prop where
  g1 : 1 ≤ m.goods.length
  g4 : m.goods.length ≤ 4
  gs : ∀ g ∈ m.goods, VGood g
  r1 : 1 ≤ m.rounds.length
  r6 : m.rounds.length ≤ 6
  rs : ∀ b ∈ m.rounds, VBuyer m.goods.length b
theorem moved_len (gs : List Good) (ps : List Int) (t : Option Int) : (moved gs ps t).length = gs.length := by simp [moved]
theorem run_len (gs : List Good) (bs : Nat → Buyer) (ps : List Int) : ∀ d, (run gs bs ps d).1.length = d
  | 0 => rfl
  | d + 1 => by simp [run, run_len gs bs ps d]
theorem run_len2 (gs : List Good) (bs : Nat → Buyer) (ps : List Int) (h : ps.length = gs.length) : ∀ d, (run gs bs ps d).2.length = gs.length
  | 0 => h
  | d + 1 => by simp [run, moved_len]
theorem run_add (gs : List Good) (bs : Nat → Buyer) (ps : List Int) (a : Nat) : ∀ b, run gs bs ps (a + b) = ((run gs bs ps a).1 ++ (run gs (fun d => bs (a + d)) (run gs bs ps a).2 b).1, (run gs (fun d => bs (a + d)) (run gs bs ps a).2 b).2)
  | 0 => by simp [run]
  | b + 1 => by
    have ih := run_add gs bs ps a b
    show run gs bs ps ((a + b) + 1) = _
    simp only [run]
    rw [ih]
    simp only [List.append_assoc]
theorem run_congr {gs gs' : List Good} {bs bs' : Nat → Buyer} (hl : gs.length = gs'.length) (hg : ∀ k, (gs.getD k g0).1 = (gs'.getD k g0).1 ∧ (gs.getD k g0).2.1 = (gs'.getD k g0).2.1) (ps : List Int) (hb : ∀ d ps, taken (bs d) ps = taken (bs' d) ps) :
    ∀ d, run gs bs ps d = run gs' bs' ps d
  | 0 => rfl
  | d + 1 => by
    have ih := run_congr hl hg ps hb d
    simp only [run]
    rw [ih, hb]
    have e : ∀ ps t, moved gs ps t = moved gs' ps t := fun ps t => by
      unfold moved
      rw [hl]
      refine List.map_congr_left fun k _ => ?_
      unfold mvd
      rw [(hg k).1, (hg k).2]
    rw [e]
theorem bs_mem {m : Mart} (h : 1 ≤ m.rounds.length) (d : Nat) : m.bs d ∈ m.rounds := by
  unfold Mart.bs
  have hl : d % m.rounds.length < m.rounds.length := Nat.mod_lt _ (by omega)
  rw [gD_lt _ _ hl]
  exact List.getElem_mem hl
/-! what is taken is a good's number -/
theorem tkn_rng (ws : List (Option Int)) (ps : List Int) : ∀ k i, (tkn ws ps k).1 = some i → 0 ≤ i ∧ i < k
  | 0, i, h => by cases h
  | k + 1, i, h => by
    have ih := tkn_rng ws ps k i
    unfold tkn at h
    split at h
    · have := ih h; omega
    · split at h
      · cases h; omega
      · have := ih h; omega
/-! ### the round begun later -/
def later (m : Mart) (a : Nat) : Mart := ⟨(List.range m.goods.length).map fun k => ((m.goods.getD k g0).1, (m.goods.getD k g0).2.1, (m.run a).2.getD k 0), m.rounds.drop (a % m.rounds.length) ++ m.rounds.take (a % m.rounds.length)⟩
theorem getD_range_map {α : Type} (f : Nat → α) (n k : Nat) (d : α) : ((List.range n).map f).getD k d = if k < n then f k else d := by
  by_cases h : k < n
  · rw [if_pos h, gD_lt _ _ (by simpa using h)]
    simp
  · rw [if_neg h, gD_ge _ _ (by simpa using h)]
theorem mod_rot (a d n : Nat) (h : 0 < n) : (a + d) % n = if d % n < n - a % n then a % n + d % n else d % n - (n - a % n) := by
  have h1 : a % n < n := Nat.mod_lt _ h
  have h2 : d % n < n := Nat.mod_lt _ h
  rw [Nat.add_mod]
  split
  · rw [Nat.mod_eq_of_lt (by omega)]
  · rw [Nat.mod_eq_sub_mod (by omega), Nat.mod_eq_of_lt (by omega)]
    omega
theorem later_bs (m : Mart) (h : 1 ≤ m.rounds.length) (a d : Nat) : (later m a).bs d = m.bs (a + d) := by
  have h0 : 0 < m.rounds.length := h
  have h1 : a % m.rounds.length < m.rounds.length := Nat.mod_lt _ h0
  have hl : (later m a).rounds.length = m.rounds.length := by
    simp [later]
    omega
  unfold Mart.bs
  rw [hl, mod_rot a d _ h0]
  have h2 : d % m.rounds.length < m.rounds.length := Nat.mod_lt _ h0
  unfold later
  simp only []
  generalize d % m.rounds.length = j at *
  generalize a % m.rounds.length = i at *
  rw [List.getD_eq_getElem?_getD, List.getD_eq_getElem?_getD]
  congr 1
  by_cases hj : j < m.rounds.length - i
  · rw [if_pos hj, List.getElem?_append_left (by simp; omega), List.getElem?_drop]
  · rw [if_neg hj, List.getElem?_append_right (by simp; omega), List.length_drop, List.getElem?_take_of_lt (by omega)]
theorem later_starts (m : Mart) (a : Nat) : (later m a).starts = (m.run a).2 := by
  have hl : (m.run a).2.length = m.goods.length := run_len2 _ _ _ (by simp [Mart.starts]) a
  unfold Mart.starts later
  refine List.ext_getElem (by simp [hl]) fun k h1 h2 => ?_
  have h2' : k < (m.run a).2.length := h2
  simp [List.getElem?_eq_getElem h2']
theorem later_run (m : Mart) (h : 1 ≤ m.rounds.length) (a b : Nat) : m.run (a + b) = ((m.run a).1 ++ ((later m a).run b).1, ((later m a).run b).2) := by
  have e : (later m a).run b = run m.goods (fun d => m.bs (a + d)) (m.run a).2 b := by
    unfold Mart.run
    have e1 : (later m a).starts = (run m.goods m.bs m.starts a).2 := later_starts m a
    rw [e1]
    refine run_congr (by simp [later]) (fun k => ?_) _ (fun d ps => by rw [later_bs m h]) b
    unfold later
    simp only [getD_range_map]
    by_cases hk : k < m.goods.length
    · rw [if_pos hk]
      exact ⟨rfl, rfl⟩
    · rw [if_neg hk, gD_ge _ _ (by omega)]
      exact ⟨rfl, rfl⟩
  rw [e]
  exact run_add m.goods m.bs m.starts a b
theorem later_valid {m : Mart} (V : Valid m) (a : Nat) (hs : ∀ x ∈ (m.run a).2, -99 ≤ x ∧ x ≤ 99) : Valid (later m a) := by
  have hl : (later m a).goods.length = m.goods.length := by simp [later]
  have hl2 : (m.run a).2.length = m.goods.length := run_len2 _ _ _ (by simp [Mart.starts]) a
  have h1 : a % m.rounds.length < m.rounds.length := Nat.mod_lt _ V.r1
  have hr : (later m a).rounds.length = m.rounds.length := by simp [later]; omega
  refine ⟨by rw [hl]; exact V.g1, by rw [hl]; exact V.g4, fun g hg => ?_, by rw [hr]; exact V.r1, by rw [hr]; exact V.r6, fun b hb => ?_⟩
  · unfold later at hg
    simp only [List.mem_map, List.mem_range] at hg
    obtain ⟨k, hk, rfl⟩ := hg
    have hm : m.goods.getD k g0 ∈ m.goods := by
      rw [gD_lt _ _ hk]
      exact List.getElem_mem hk
    have hv := V.gs _ hm
    refine ⟨hv.1, hv.2.1, hs _ ?_⟩
    show (m.run a).2.getD k 0 ∈ _
    rw [gD_lt _ _ (by omega)]
    exact List.getElem_mem _
  · rw [hl]
    unfold later at hb
    rcases List.mem_append.mp hb with hb | hb
    · exact V.rs b (List.mem_of_mem_drop hb)
    · exact V.rs b (List.mem_of_mem_take hb)
/-! ### nobody for one who wants nothing -/
def nobody (n : Nat) (b : Buyer) : Buyer := match b with
  | none => some (List.replicate n none)
  | some ws => if ws = List.replicate n none then none else some ws
def nobodies (m : Mart) : Mart := ⟨m.goods, m.rounds.map (nobody m.goods.length)⟩
theorem tkn_rep (n : Nat) (ps : List Int) : ∀ k, tkn (List.replicate n none) ps k = (none, -1)
  | 0 => rfl
  | k + 1 => by
    unfold tkn
    have e : (List.replicate n (none : Option Int)).getD k none = none := by
      rw [List.getD_eq_getElem?_getD, List.getElem?_replicate]
      split <;> rfl
    rw [e]
    exact tkn_rep n ps k
theorem taken_nobody (n : Nat) (b : Buyer) (ps : List Int) : taken (nobody n b) ps = taken b ps := by
  unfold nobody
  cases b with
  | none => simp [taken, tkn_rep]
  | some ws =>
    simp only []
    split
    · rename_i h
      simp [taken, h, tkn_rep]
    · rfl
theorem nobodies_run (m : Mart) (h : 1 ≤ m.rounds.length) (d : Nat) : (nobodies m).run d = m.run d := by
  unfold Mart.run
  have e : (nobodies m).starts = m.starts := rfl
  rw [e]
  refine run_congr rfl (fun k => ⟨rfl, rfl⟩) _ (fun d ps => ?_) d
  have h1 : d % m.rounds.length < m.rounds.length := Nat.mod_lt _ h
  have e2 : (nobodies m).bs d = nobody m.goods.length (m.bs d) := by
    unfold Mart.bs nobodies
    simp only [List.length_map]
    rw [gD_lt _ _ (by simpa using h1), gD_lt _ _ h1, List.getElem_map]
  rw [e2, taken_nobody]
theorem nobodies_valid {m : Mart} (V : Valid m) : Valid (nobodies m) := by
  refine ⟨V.g1, V.g4, V.gs, by simpa [nobodies] using V.r1, by simpa [nobodies] using V.r6, fun b hb => ?_⟩
  unfold nobodies at hb
  obtain ⟨c, hc, rfl⟩ := List.mem_map.mp hb
  intro ws e
  show ws.length = m.goods.length ∧ _
  unfold nobody at e
  cases c with
  | none =>
    cases e
    exact ⟨by simp, fun w hw x ex => by rw [List.eq_of_mem_replicate hw] at ex; cases ex⟩
  | some us =>
    simp only [] at e
    split at e
    · cases e
    · exact V.rs _ hc _ e
/-! ### the round told twice -/
def twice (m : Mart) : Mart := ⟨m.goods, m.rounds ++ m.rounds⟩
theorem twice_run (m : Mart) (h : 1 ≤ m.rounds.length) (d : Nat) : (twice m).run d = m.run d := by
  unfold Mart.run
  refine run_congr rfl (fun k => ⟨rfl, rfl⟩) _ (fun d ps => ?_) d
  have e2 : (twice m).bs d = m.bs d := by
    unfold Mart.bs twice
    simp only [List.length_append]
    rw [List.getD_eq_getElem?_getD, List.getD_eq_getElem?_getD]
    congr 1
    have h1 : d % m.rounds.length < m.rounds.length := Nat.mod_lt _ h
    have h3 : d % (m.rounds.length + m.rounds.length) < m.rounds.length + m.rounds.length := Nat.mod_lt _ (by omega)
    have h4 : d % (m.rounds.length + m.rounds.length) % m.rounds.length = d % m.rounds.length := Nat.mod_mod_of_dvd _ ⟨2, by omega⟩
    by_cases hj : d % (m.rounds.length + m.rounds.length) < m.rounds.length
    · rw [List.getElem?_append_left hj]
      rw [Nat.mod_eq_of_lt hj] at h4
      rw [h4]
    · rw [List.getElem?_append_right (by omega)]
      rw [Nat.mod_eq_sub_mod (by omega), Nat.mod_eq_of_lt (by omega)] at h4
      rw [h4]
  rw [e2]
theorem twice_valid {m : Mart} (V : Valid m) (h : m.rounds.length < 4) : Valid (twice m) := by
  refine ⟨V.g1, V.g4, V.gs, ?_, ?_, fun b hb => ?_⟩
  · have := V.r1; simp [twice]; omega
  · simp [twice]; omega
  · exact V.rs b (by simpa [twice] using hb)
end So


set_option Elab.async false
set_option linter.all false
set_option maxRecDepth 100000
set_option maxHeartbeats 1000000
/-! a good more that nobody wants -/
namespace So
def ins {α : Type} (at_ : Nat) (x : α) (l : List α) : List α := l.take at_ ++ [x] ++ l.drop at_
theorem ins_len {α : Type} {a : Nat} {x : α} {l : List α} (h : a ≤ l.length) : (ins a x l).length = l.length + 1 := by
  simp [ins]; omega
theorem ins_get {α : Type} {a : Nat} {x d : α} {l : List α} (h : a ≤ l.length) (k : Nat) : (ins a x l).getD k d = if k < a then l.getD k d else if k = a then x else l.getD (k - 1) d := by
  unfold ins
  simp only [List.getD_eq_getElem?_getD]
  by_cases h1 : k < a
  · rw [if_pos h1, List.append_assoc, List.getElem?_append_left (by simp; omega), List.getElem?_take_of_lt h1]
  · rw [if_neg h1, List.append_assoc, List.getElem?_append_right (by simp; omega), List.length_take, Nat.min_eq_left h]
    by_cases h2 : k = a
    · rw [if_pos h2]
      have e : k - a = 0 := by omega
      rw [e]
      rfl
    · rw [if_neg h2, List.getElem?_append_right (by simp; omega), List.getElem?_drop]
      have e : a + (k - a - [x].length) = k - 1 := by simp; omega
      rw [e]
theorem ins_cut {α : Type} {a : Nat} {x : α} {l : List α} (h : a ≤ l.length) : (ins a x l).take a ++ (ins a x l).drop (a + 1) = l := by
  unfold ins
  rw [List.append_assoc, List.take_append_of_le_length (by simp; omega), List.take_take, Nat.min_self]
  have e : (l.take a ++ ([x] ++ l.drop a)).drop (a + 1) = l.drop a := by
    rw [← List.drop_drop, List.drop_append_of_le_length (by simp; omega)]
    have e2 : (l.take a).drop a = [] := by simp
    rw [e2]
    rfl
  rw [e, List.take_append_drop]
/-- the goods' numbers behind the place -/
def sh (a : Nat) : Option Int → Option Int
  | none => none
  | some i => some (if i < a then i else i + 1)
def unsh (a : Nat) : Option Int → Option Int
  | none => none
  | some i => if i < a then some i else some (i - 1)
theorem unsh_sh (a : Nat) (t : Option Int) : unsh a (sh a t) = t := by
  cases t with
  | none => rfl
  | some i =>
    unfold sh unsh
    simp only []
    by_cases h : i < a
    · rw [if_pos h, if_pos h]
    · rw [if_neg h, if_neg (by omega)]
      congr 1; omega
theorem sh_ne (a : Nat) (t : Option Int) : sh a t ≠ some (a : Int) := by
  cases t with
  | none => simp [sh]
  | some i =>
    unfold sh
    intro h
    have h := Option.some.inj h
    split at h <;> omega
theorem tkn_ins {a : Nat} {ws : List (Option Int)} {ps : List Int} {p : Int} (h1 : a ≤ ws.length) (h2 : a ≤ ps.length) :
    (∀ k, k ≤ a → tkn (ins a none ws) (ins a p ps) k = tkn ws ps k) ∧ ∀ k, a ≤ k → tkn (ins a none ws) (ins a p ps) (k + 1) = (sh a (tkn ws ps k).1, (tkn ws ps k).2) := by
  have A : ∀ k, k ≤ a → tkn (ins a none ws) (ins a p ps) k = tkn ws ps k := by
    intro k
    induction k with
    | zero => intro _; rfl
    | succ k ih =>
      intro hk
      have ih := ih (by omega)
      unfold tkn
      rw [ih, ins_get h1, ins_get h2, if_pos (show k < a by omega), if_pos (show k < a by omega)]
  refine ⟨A, fun k => ?_⟩
  induction k with
  | zero =>
    intro hk
    have ha : a = 0 := by omega
    subst ha
    have e0 : (ins 0 none ws).getD 0 none = none := by rw [ins_get h1]; rfl
    rw [tkn.eq_2 (ins 0 none ws) (ins 0 p ps) 0, e0]
    rfl
  | succ k ih =>
    intro hk
    by_cases hk2 : a = k + 1
    · have e0 : (ins a none ws).getD (k + 1) none = none := by rw [ins_get h1, if_neg (by omega), if_pos hk2.symm]
      rw [tkn.eq_2 (ins a none ws) (ins a p ps) (k + 1), e0]
      show tkn (ins a none ws) (ins a p ps) (k + 1) = _
      rw [A (k + 1) (by omega)]
      have r := tkn_rng ws ps (k + 1)
      generalize tkn ws ps (k + 1) = z at r
      obtain ⟨z1, z2⟩ := z
      cases z1 with
      | none => rfl
      | some i =>
        have r := r i rfl
        unfold sh
        simp only []
        rw [if_pos (by omega)]
    · have ih := ih (by omega)
      have e1 : (ins a none ws).getD (k + 1) none = ws.getD k none := by
        rw [ins_get h1, if_neg (by omega), if_neg (by omega)]; rfl
      have e2 : (ins a p ps).getD (k + 1) 0 = ps.getD k 0 := by
        rw [ins_get h2, if_neg (by omega), if_neg (by omega)]; rfl
      show (match (ins a none ws).getD (k + 1) none with
        | none => tkn (ins a none ws) (ins a p ps) (k + 1)
        | some w => if (tkn (ins a none ws) (ins a p ps) (k + 1)).2 < w - (ins a p ps).getD (k + 1) 0 then (some ((k + 1 : Nat) : Int), w - (ins a p ps).getD (k + 1) 0) else tkn (ins a none ws) (ins a p ps) (k + 1)) = (sh a (match ws.getD k none with
        | none => tkn ws ps k
        | some w => if (tkn ws ps k).2 < w - ps.getD k 0 then (some (k : Int), w - ps.getD k 0) else tkn ws ps k).1, (match ws.getD k none with
        | none => tkn ws ps k
        | some w => if (tkn ws ps k).2 < w - ps.getD k 0 then (some (k : Int), w - ps.getD k 0) else tkn ws ps k).2)
      rw [e1, e2, ih]
      cases ws.getD k none with
      | none => rfl
      | some w =>
        simp only []
        split
        · unfold sh
          simp only []
          rw [if_neg (by omega)]
          congr 2
        · rfl
theorem taken_ins {a : Nat} {b : Buyer} {ps : List Int} {p : Int} (h1 : ∀ ws, b = some ws → a ≤ ws.length) (h2 : a ≤ ps.length) : taken (b.map (ins a none)) (ins a p ps) = sh a (taken b ps) := by
  cases b with
  | none => rfl
  | some ws =>
    have h1 := h1 ws rfl
    show (tkn (ins a none ws) (ins a p ps) (ins a none ws).length).1 = _
    rw [ins_len h1, (tkn_ins h1 h2).2 _ h1]
    rfl
theorem moved_ins {a : Nat} {gs : List Good} {ps : List Int} {g : Good} {p : Int} (h1 : a ≤ gs.length) (h2 : gs.length = ps.length) (t : Option Int) (ht : ∀ i, t = some i → 0 ≤ i) :
    moved (ins a g gs) (ins a p ps) (sh a t) = ins a (p - g.2.1) (moved gs ps t) := by
  have hm : (moved gs ps t).length = gs.length := moved_len _ _ _
  refine List.ext_getElem? fun k => ?_
  have key : ∀ k, k < gs.length + 1 → (moved (ins a g gs) (ins a p ps) (sh a t)).getD k 0 = (ins a (p - g.2.1) (moved gs ps t)).getD k 0 := fun k hk => by
    rw [ins_get (by omega)]
    unfold moved
    rw [ins_len h1, getD_range_map, if_pos hk]
    unfold mvd
    rw [ins_get (by omega), ins_get h1]
    by_cases c1 : k < a
    · rw [if_pos c1, if_pos c1, if_pos c1, getD_range_map, if_pos (show k < gs.length by omega)]
      show _ = mvd gs ps t k
      unfold mvd
      cases t with
      | none => rfl
      | some i =>
        unfold sh
        simp only [Option.some.injEq]
        by_cases ci : i < a
        · rw [if_pos ci]
        · rw [if_neg ci, if_neg (by omega), if_neg (by omega)]
    · rw [if_neg c1, if_neg c1, if_neg c1]
      by_cases c2 : k = a
      · subst c2
        rw [if_pos rfl, if_pos rfl, if_pos rfl, if_neg (sh_ne _ t)]
      · rw [if_neg c2, if_neg c2, if_neg c2, getD_range_map, if_pos (show k - 1 < gs.length by omega)]
        show _ = mvd gs ps t (k - 1)
        unfold mvd
        cases t with
        | none => rfl
        | some i =>
          unfold sh
          simp only [Option.some.injEq]
          have e : (k : Int) = ((k - 1 : Nat) : Int) + 1 := by omega
          by_cases ci : i < a
          · rw [if_pos ci, if_neg (by omega), if_neg (by omega)]
          · rw [if_neg ci]
            by_cases c3 : i = ((k - 1 : Nat) : Int)
            · rw [if_pos c3, if_pos (by omega)]
            · rw [if_neg c3, if_neg (by omega)]
  have l1 : (moved (ins a g gs) (ins a p ps) (sh a t)).length = gs.length + 1 := by rw [moved_len, ins_len h1]
  have l2 : (ins a (p - g.2.1) (moved gs ps t)).length = gs.length + 1 := by rw [ins_len (by omega), hm]
  by_cases hk : k < gs.length + 1
  · have e := key k hk
    rw [gD_lt _ _ (by omega), gD_lt _ _ (by omega)] at e
    rw [List.getElem?_eq_getElem (by omega), List.getElem?_eq_getElem (by omega), e]
  · rw [List.getElem?_eq_none (by omega), List.getElem?_eq_none (by omega)]
theorem run_ins {a : Nat} {gs : List Good} {g : Good} {p : Int} (bs : Nat → Buyer) (ps : List Int) (h1 : a ≤ gs.length) (h2 : gs.length = ps.length) (hb : ∀ d ws, bs d = some ws → ws.length = gs.length) :
    ∀ d, run (ins a g gs) (fun d => (bs d).map (ins a none)) (ins a p ps) d = ((run gs bs ps d).1.map (sh a), ins a (p - g.2.1 * d) (run gs bs ps d).2)
  | 0 => by simp [run]
  | d + 1 => by
    have ih := run_ins (g := g) (p := p) bs ps h1 h2 hb d
    have hl := run_len2 gs bs ps h2.symm d
    have tt : taken ((bs d).map (ins a none)) (ins a (p - g.2.1 * d) (run gs bs ps d).2) = sh a (taken (bs d) (run gs bs ps d).2) := taken_ins (fun ws e => by rw [hb d ws e]; exact h1) (by omega)
    simp only [run]
    rw [ih]
    simp only [tt]
    rw [moved_ins h1 (by omega) _ (fun i e => ?_)]
    · simp only [List.map_append, List.map_cons, List.map_nil]
      congr 2
      push_cast
      rw [Int.mul_add]
      omega
    · cases hbd : bs d with
      | none => rw [hbd] at e; cases e
      | some ws =>
        rw [hbd] at e
        exact (tkn_rng _ _ _ _ e).1
def wide (m : Mart) (a : Nat) (g : Good) : Mart := ⟨ins a g m.goods, m.rounds.map fun b => b.map (ins a none)⟩
theorem wide_run {m : Mart} (V : Valid m) {a : Nat} {g : Good} (h : a ≤ m.goods.length) (d : Nat) : (wide m a g).run d = ((m.run d).1.map (sh a), ins a (g.2.2 - g.2.1 * d) (m.run d).2) := by
  have e1 : (wide m a g).starts = ins a g.2.2 m.starts := by
    unfold Mart.starts wide ins
    simp
  have e2 : (wide m a g).bs = fun d => (m.bs d).map (ins a none) := by
    funext d
    unfold Mart.bs wide
    have h1 : d % m.rounds.length < m.rounds.length := Nat.mod_lt _ V.r1
    simp only [List.length_map]
    rw [gD_lt _ _ (by simpa using h1), gD_lt _ _ h1, List.getElem_map]
  unfold Mart.run
  rw [e1, e2]
  exact run_ins m.bs m.starts h (by simp [Mart.starts]) (fun d ws e => (V.rs _ (bs_mem V.r1 d) ws e).1) d
theorem mem_ins {α : Type} {a : Nat} {x y : α} {l : List α} (h : y ∈ ins a x l) : y = x ∨ y ∈ l := by
  unfold ins at h
  simp only [List.mem_append, List.mem_singleton] at h
  rcases h with (h | h) | h
  · exact .inr (List.mem_of_mem_take h)
  · exact .inl h
  · exact .inr (List.mem_of_mem_drop h)
theorem wide_valid {m : Mart} (V : Valid m) {a : Nat} {g : Good} (h : a ≤ m.goods.length) (h4 : m.goods.length ≠ 4) (hg : VGood g) : Valid (wide m a g) := by
  have hl : (wide m a g).goods.length = m.goods.length + 1 := ins_len h
  have := V.g4
  refine ⟨by omega, by omega, fun x hx => ?_, by simpa [wide] using V.r1, by simpa [wide] using V.r6, fun b hb => ?_⟩
  · rcases mem_ins hx with rfl | hx
    · exact hg
    · exact V.gs x hx
  · rw [hl]
    obtain ⟨c, hc, rfl⟩ := List.mem_map.mp (show b ∈ m.rounds.map fun b => b.map (ins a none) from hb)
    intro ws e
    cases c with
    | none => cases e
    | some us =>
      cases e
      obtain ⟨l1, l2⟩ := V.rs _ hc us rfl
      refine ⟨by rw [ins_len (by omega), l1], fun w hw => ?_⟩
      rcases mem_ins hw with rfl | hw
      · intro x ex; cases ex
      · exact l2 w hw
theorem count_sh (a : Nat) (ts : List (Option Int)) : (ts.map (sh a)).count (some (a : Int)) = 0 := by
  rw [List.count_eq_zero]
  intro h
  obtain ⟨t, _, e⟩ := List.mem_map.mp h
  exact sh_ne a t e
theorem unsh_map (a : Nat) (ts : List (Option Int)) : (ts.map (sh a)).map (unsh a) = ts := by
  rw [List.map_map]
  have : (unsh a ∘ sh a) = id := by funext t; exact unsh_sh a t
  rw [this, List.map_id]
end So


set_option Elab.async false
set_option linter.all false
set_option maxRecDepth 100000
set_option maxHeartbeats 1000000
/-! what each function promises -/
namespace So
open PySem PySem.Spec PyProof.Rows L2 GxR GA DX
def goodD (g : Good) : PyData := .tuple [.int g.1, .int g.2.1, .int g.2.2]
def buyD : Buyer → PyData
  | none => .none
  | some ws => .list (ws.map oD)
def goodsD (gs : List Good) : PyData := .list (gs.map goodD)
def roundsD (bs : List Buyer) : PyData := .list (bs.map buyD)
def martD (m : Mart) : PyData := .tuple [goodsD m.goods, roundsD m.rounds]
def intsD (ns : List Int) : PyData := .list (ns.map PyData.int)
def takesD (ns : List (Option Int)) : PyData := .list (ns.map oD)
/-! tests -/
def withinB (x : PyData) (a b : Int) : Bool := match x with
  | .int i => decide (a ≤ i) && decide (i ≤ b)
  | _ => false
def stepB (x : PyData) : Bool := withinB x 1 4
def worthB (x : PyData) : Bool := withinB x (-99) 99
def goodB : PyData → Bool
  | .tuple [a, b, c] => stepB a && stepB b && worthB c
  | _ => false
def goodsB : PyData → Bool
  | .list xs => decide (1 ≤ xs.length) && decide (xs.length ≤ 4) && xs.all goodB
  | _ => false
def buyerB (n : Int) : PyData → Bool
  | .list xs => decide ((xs.length : Int) = n) && xs.all fun x => isNon x || worthB x
  | _ => false
def roundB (n : Int) : PyData → Bool
  | .list xs => decide (1 ≤ xs.length) && decide (xs.length ≤ 6) && xs.all fun x => isNon x || buyerB n x
  | _ => false
def marketB : PyData → Bool
  | .tuple [g, r] => goodsB g && (match g with
    | .list xs => roundB xs.length r
    | _ => false)
  | _ => false
def wholeB (x : PyData) : Bool := isD "int" x && !isD "bool" x
def C_is_whole : CtP := fun xs P => ∃ x, xs = [x] ∧ P (.bool (wholeB x))
def C_is_within : CtP := fun xs P => ∃ x a b, xs = [x, .int a, .int b] ∧ P (.bool (withinB x a b))
def C_is_step : CtP := fun xs P => ∃ x, xs = [x] ∧ P (.bool (stepB x))
def C_is_worth : CtP := fun xs P => ∃ x, xs = [x] ∧ P (.bool (worthB x))
def C_is_good : CtP := fun xs P => ∃ x, xs = [x] ∧ P (.bool (goodB x))
def C_is_list_of_goods : CtP := fun xs P => ∃ x, xs = [x] ∧ noDct x = true ∧ P (.bool (goodsB x))
def C_is_buyer : CtP := fun xs P => ∃ x n, xs = [x, .int n] ∧ noDct x = true ∧ P (.bool (buyerB n x))
def C_is_round : CtP := fun xs P => ∃ x n, xs = [x, .int n] ∧ noDct x = true ∧ P (.bool (roundB n x))
def C_is_market : CtP := fun xs P => ∃ x, xs = [x] ∧ noDct x = true ∧ P (.bool (marketB x))
def C_check_market : CtP := fun xs P => ∃ x, xs = [x] ∧ noDct x = true ∧ marketB x = true ∧ P .none
def C_starts_of : CtP := fun xs P => ∃ m, xs = [martD m] ∧ Valid m ∧ P (intsD m.starts)
def C_buyer_at : CtP := fun xs P => ∃ m d, xs = [martD m, .int (d : Nat)] ∧ Valid m ∧ P (buyD (m.bs d))
def C_taken_by : CtP := fun xs P => ∃ b ps, xs = [buyD b, intsD ps] ∧ (∀ ws, b = some ws → ws.length = ps.length) ∧ P (oD (taken b ps))
def C_moved : CtP := fun xs P => ∃ gs ps t, xs = [goodsD gs, intsD ps, oD t] ∧ gs.length = ps.length ∧ gs.length ≤ 4 ∧ P (intsD (moved gs ps t))
def C_check_days : CtP := fun xs P => ∃ d : Int, xs = [.int d] ∧ 0 ≤ d ∧ d ≤ 4000 ∧ P .none
def C_run_of : CtP := fun xs P => ∃ m d, xs = [martD m, .int (d : Nat)] ∧ Valid m ∧ d ≤ 4000 ∧ P (.tuple [takesD (m.run d).1, intsD (m.run d).2])
def C_takes : CtP := fun xs P => ∃ m d, xs = [martD m, .int (d : Nat)] ∧ Valid m ∧ d ≤ 4000 ∧ P (takesD (m.run d).1)
def C_prices_at : CtP := fun xs P => ∃ m d, xs = [martD m, .int (d : Nat)] ∧ Valid m ∧ d ≤ 4000 ∧ P (intsD (m.run d).2)
def Mart.sold (m : Mart) (d : Nat) : List Int := (List.range m.goods.length).map fun (k : Nat) => (((m.run d).1.count (some (k : Int)) : Nat) : Int)
def C_sold : CtP := fun xs P => ∃ m d, xs = [martD m, .int (d : Nat)] ∧ Valid m ∧ d ≤ 4000 ∧ P (intsD (m.sold d))
/-! draws -/
def Till (n : Nat) (ts : List PyData) : Prop := ∃ c0 c1 c2 : Int, ts = [.int c0, .int c1, .int c2] ∧ 0 ≤ c0 ∧ 0 ≤ c1 ∧ c1 < 2 ^ 160 ∧ 0 ≤ c2 ∧ c2 ≤ n
theorem Till.mono {n k : Nat} {ts : List PyData} (h : Till n ts) (hk : n ≤ k) : Till k ts := by
  obtain ⟨c0, c1, c2, e, h0, h1, h2, h3, h4⟩ := h
  exact ⟨c0, c1, c2, e, h0, h1, h2, h3, by omega⟩
def C_law_till : CtF := fun xs P => ∃ ns k, xs = [scrD ns, .int (k : Nat)] ∧ k < 100 ∧ ∀ ts, Till 0 ts → P ts
def C_law_pull : CtT := fun ts xs P => ∃ n k, Till n ts ∧ n < 2 ^ 40 ∧ xs = [.int k] ∧ 0 < k ∧ k < 2 ^ 60 ∧ ∀ r ts', 0 ≤ r → r < k → Till (n + 1) ts' → P (.int r) ts'
def C_law_near : CtT := fun ts xs P => ∃ n, Till n ts ∧ n < 2 ^ 39 ∧ xs = [] ∧ ∀ r ts', -99 ≤ r → r ≤ 99 → Till (n + 3) ts' → P (.int r) ts'
def C_law_buyer : CtT := fun ts xs P => ∃ n k, Till n ts ∧ n < 2 ^ 38 ∧ xs = [.int (k : Nat)] ∧ k ≤ 4 ∧ ∀ b ts', VBuyer k b → Till (n + 20) ts' → P (buyD b) ts'
def C_law_market : CtT := fun ts xs P => ∃ n, Till n ts ∧ n < 2 ^ 30 ∧ xs = [] ∧ ∀ m ts', Valid m → Till (n + 200) ts' → P (martD m) ts'
def C_law_calm : CtT := fun ts xs P => ∃ n m, Till n ts ∧ n < 2 ^ 39 ∧ xs = [martD m] ∧ Valid m ∧ ∀ m' ts', Valid m' → Till (n + 1) ts' → P (martD m') ts'
def C_law_goes_on : CtP := fun xs P => ∃ m a b, xs = [martD m, .int (a : Nat), .int (b : Nat)] ∧ Valid m ∧ a + b ≤ 4000 ∧ P (.bool true)
def C_law_runs_alike : CtP := fun xs P => ∃ m m' d, xs = [martD m, martD m', .int (d : Nat)] ∧ Valid m ∧ Valid m' ∧ d ≤ 4000 ∧ m.run d = m'.run d ∧ P (.bool true)
def C_law_nobodies : CtP := fun xs P => ∃ m, xs = [martD m] ∧ Valid m ∧ P (martD (nobodies m))
def C_law_one_more_right : CtT := fun ts xs P => ∃ n m d, Till n ts ∧ n < 2 ^ 39 ∧ xs = [martD m, .int (d : Nat)] ∧ Valid m ∧ d ≤ 4000 ∧ ∀ ts', Till (n + 4) ts' → P (.bool true) ts'
def C_law : CtP := fun xs P => ∃ ns : List Int, xs = [scrD ns] ∧ ns.length ≤ 63 ∧ P (.bool true)
end So


set_option Elab.async false
set_option linter.all false
set_option maxRecDepth 100000
set_option maxHeartbeats 1000000
/-! the end for a law that asks repr: its own def is entered from the caller alone, where no repr is under way -/
namespace EndG
open PySem PySem.Spec PyProof.Rows L2
/-- the law's def, entered from the caller -/
def RunG (P : Program) (w : World) (K : PySem.W.Frag) (mg : Str → Option Value) (base : Heap) (CX : CXT) (f : Addr) (fd : FuncData) (x : Str) (sp : Sp) : Prop :=
  ∀ (z : Shared) (H : Hp) (u : Value) (v : V) (Q : VK) (E : XK), Env0 P w K mg base callerA [] z H → BindsTo z fd ⟨[u], []⟩ [(x, u)] → RelV v u → sp [v] H Q E →
    codeAny (model P w) callerA (.call (.ref f) ⟨[u], []⟩) (CR CX [] P w H z Q E) z
section
variable {CX : CXT} {P : Program} {w : World} {K : PySem.W.Frag} {mg : Str → Option Value} {base : Heap} {nm qual : Str} {params : Arguments} {body : List Stmt} {scope : Scope} {dvs : List V} {kws : List (Str × V)} {f : Addr} {fd : FuncData}
theorem runG_of {N : List Str} {x : Str} {k : Nat} {sp : Sp} {c : Addr} (F : FunD K nm qual params body scope dvs kws f fd) (S : FnScope N [x] scope) (hc : fd.code = .ref c) (room : Room (k + 1) callerA)
    (hb : ∀ (z : Shared) (H : Hp) (v : V) (Q : VK) (E : XK), Room k (callerA.deeper (envOfC qual scope z.heap.objs.size f (.ref c))) → sp [v] H Q E →
      ∃ t, PSs (cxOf CX P w K mg base N qual scope f (.ref c) callerA [] z H E) body t ∧ t { nx := fun _ H' => Q .non H', rt := Q } (start N [v]) H) : RunG P w K mg base CX f fd x sp := by
  obtain ⟨oc, od, dV, kV, doc, pm, an, cdv, ct, osl, rfl, look, code, _, _⟩ := F.ex
  obtain rfl : cdv = .ref c := hc
  intro z H u v Q E en bind rel hsp
  have rels : Vals [v] [u] := .cons rel .nil
  have inK : K.In z.heap := en.mod.kin.keeps fun b o e => (en.bs b o e).1
  have free : z.heap.NoLimit := en.mod.nolimit.keeps fun b o e => (en.bs b o e).1
  have kinds : ∀ y ∈ [x].zip [u], scope.names.lookup y.1 = some .local ∨ (scope.names.lookup y.1 = some .cell ∧ ((cellsFrom (z.heap.objs.size + 1) scope.names []).lookup y.1).isSome = true) := by
    intro y hy
    have ey : y.1 = x := by
      have hy' : y ∈ [(x, u)] := hy
      rw [List.mem_singleton.mp hy']
    rcases S.par x (List.mem_singleton.mpr rfl) with h | h
    · exact .inl (ey ▸ h)
    · exact .inr ⟨ey ▸ h, PySem.W.cellsFrom_some _ _ _ (.inl (ey ▸ h))⟩
  refine codeAny_call_function room.depth (inK _ _ look) rfl S.co S.gen rfl (PySem.W.codeRec_of inK code) (bind _ _ _ _ ?_)
  refine wpAny_newFunctionEnv_cells (binds := [x].zip [u]) S.kind kinds fun env ee z1 inside => ?_
  subst ee
  refine ⟨free.keeps inside.toInCall.keep, codeAny_func ?_⟩
  obtain ⟨t, runs, wish⟩ := hb z H v Q E (room.deeper _) hsp
  have at0 : Inv (cxOf CX P w K mg base N qual scope f (.ref c) callerA [] z H E) [] (start N [v]) H z1 := inv_start S room.hd en rfl rels inside
  refine wpAny_mono (runs.run [] z1 (start N [v]) H _ at0 wish) (fun flow z2 ends => ?_) fun e z2 ends => ends
  have done : ∀ {τ : L2.St} {H' : Hp} {r : V} {q : Value}, Inv (cxOf CX P w K mg base N qual scope f (.ref c) callerA [] z H E) [] τ H' z2 → RelV r q → Q r H' → CE [] P w H z Q q z2 :=
    fun {τ H' r q} J rr qq => ⟨r, H', J.os, J.bare, J.base, J.hok, rr, qq⟩
  cases flow with
  | ret q =>
    obtain ⟨r, τ, H', J, rr, qq⟩ := ends
    exact done J rr qq
  | next =>
    obtain ⟨τ, H', J, qq⟩ := ends
    exact done J (show RelV .non .none from rfl) qq
  | brk => exact (ends.elim fun _ h => h.elim fun _ h => h.2).elim
  | cont => exact (ends.elim fun _ h => h.elim fun _ h => h.2).elim
end
/-- what is tracked at the law's call: the tables, the script where K doesn't hold it -/
structure Trk (K : PySem.W.Frag) (H : Hp) (a : Addr) (ob : Obj) (ns : List Int) (tabs : List Addr) : Prop where
  tab : ∀ b ∈ tabs, H b = some (.tbl #[])
  all : ∀ b u, H b = some u → (b ∈ tabs ∧ u = .tbl #[]) ∨ (b = a ∧ K.lookup a = none ∧ u = .frz ob (.lst (ns.map V.int)))
  scr : SqL K H a (ns.map V.int)
theorem trk_ex {K : PySem.W.Frag} {h : Heap} {a : Addr} {vs : List Value} {ns : List Int} {tabs : List Addr} (inK : K.In h) (ha : h.get? a = some { cls := .type "list", data := .seq vs.toArray }) (nums : IntsAre vs ns) (small : ns.length ≤ sizeLine) (na : a ∉ tabs) :
    ∃ H, Trk K H a { cls := .type "list", data := .seq vs.toArray } ns tabs := by
  have lv := nums.length
  cases look : K.lookup a with
  | some o =>
    have same := inK a o look
    rw [ha] at same
    cases same
    refine ⟨fun b => if b ∈ tabs then some (.tbl #[]) else none, fun b hb => if_pos hb, fun b u hu => ?_, .inr ⟨_, vs.toArray, _, look, rfl, rfl, rfl, by rw [List.size_toArray, lv]; exact small, by simpa using vals_ints nums⟩⟩
    by_cases hb : b ∈ tabs
    · have hu' : some (HO.tbl #[]) = some u := (if_pos hb).symm.trans hu
      exact .inl ⟨hb, (Option.some.inj hu').symm⟩
    · have hu' : (none : Option HO) = some u := (if_neg hb).symm.trans hu
      cases hu'
  | none =>
    refine ⟨fun b => if b ∈ tabs then some (.tbl #[]) else if b = a then some (.frz { cls := .type "list", data := .seq vs.toArray } (.lst (ns.map V.int))) else none, fun b hb => if_pos hb, fun b u hu => ?_, .inl (.inr ⟨_, (if_neg na).trans (if_pos rfl)⟩)⟩
    by_cases hb : b ∈ tabs
    · have hu' : some (HO.tbl #[]) = some u := (if_pos hb).symm.trans hu
      exact .inl ⟨hb, (Option.some.inj hu').symm⟩
    · have h1 := (if_neg hb).symm.trans hu
      by_cases e : b = a
      · have hu' := (if_pos e).symm.trans h1
        exact .inr ⟨e, look, (Option.some.inj hu').symm⟩
      · have hu' := (if_neg e).symm.trans h1
        cases hu'
theorem law_top {P : Program} {w : World} {K : PySem.W.Frag} {mg mb : Str → Option Value} {CX : CXT} {fa a : Addr} {cs : List (Addr × Addr)} {fd : FuncData} {x : Str} {sp : Sp} {z : Shared} {vs : List Value} {ns : List Int}
    (inK : K.In z.heap) (glob : z.heap.Ns mainGlobals mg) (blt : z.heap.Ns builtinsNs mb) (boot : ∀ x : Str, x ≠ "__name__" → mb x = bootBuiltins x) (free : z.heap.NoLimit) (nogen : z.gens = #[])
    (empty : ∀ p ∈ cs, z.heap.get? p.2 = some { cls := .none, data := .fields #[] }) (outK : ∀ p ∈ cs, K.lookup p.2 = none) (heads : ∀ p ∈ cs, PySem.W.CodeHd z.heap p.1 p.2)
    (bmod : ∃ (bm : Addr) (ob : Obj), mg "__builtins__" = some (.ref bm) ∧ bm ≠ builtinsNs ∧ z.heap.get? bm = some ob ∧ ob.cls = .type "module" ∧ ob.dict = some builtinsNs ∧ ob.data = .plain)
    (ha : z.heap.get? a = some { cls := .type "list", data := .seq vs.toArray }) (nums : IntsAre vs ns) (small : ns.length ≤ sizeLine)
    (F : ∀ base : Heap, K.In base → base.Ns mainGlobals mg → (∀ p ∈ cs, LamX.TabB base mg p.1 p.2) → RunG P w K mg base CX fa fd x sp) (bind : ∀ (s : Shared) (u : Value), BindsTo s fd ⟨[u], []⟩ [(x, u)])
    (wish : ∀ H : Hp, (∀ p ∈ cs, H p.2 = some (.tbl #[])) → SqL K H a (ns.map V.int) → sp [.ref a] H (fun v _ => v = .bl true) fun _ _ _ => False)
    (calm : ∀ H e s', CX [] H z (fun _ _ _ => False) e s' → False) :
    codeAny (model P w) callerA (.call (.ref fa) ⟨[.ref a], []⟩) (fun r s' => r = .ok (.ret (.bool true)) ∧ OldK z.heap s'.heap ∧ s'.os = z.os ∧ AllBare s'.gens) z := by
  have isTab : ∀ b ∈ cs.map (·.2), z.heap.get? b = some { cls := .none, data := .fields #[] } := by
    intro b hb
    obtain ⟨p, hp, rfl⟩ := List.mem_map.mp hb
    exact empty p hp
  have mem : ∀ p ∈ cs, p.2 ∈ cs.map (·.2) := fun p hp => List.mem_map.mpr ⟨p, hp, rfl⟩
  have na : a ∉ cs.map (·.2) := by
    intro hb
    have two := (isTab a hb).symm.trans ha
    have bad : Data.fields #[] = Data.seq vs.toArray _ := congrArg Obj.data (Option.some.inj two)
    cases bad
  obtain ⟨H, T⟩ := trk_ex (K := K) inK ha nums small na
  have hid : ∀ {b : Addr} {o : Obj}, z.heap.get? b = some o → (∀ us n, o.data ≠ .seq us n) → o.data ≠ .fields #[] → (hidT z.heap H).get? b = some o := by
    intro b o e n1 n2
    refine hidT_get e ?_
    cases q : H b with
    | none => rfl
    | some u =>
      rcases T.all b u q with ⟨hb, _⟩ | ⟨rfl, _, _⟩
      · have := (isTab b hb).symm.trans e
        cases this
        exact absurd rfl n2
      · have := ha.symm.trans e
        cases this
        exact absurd rfl (n1 _ _)
  have hns : ∀ {b : Addr} {m : Str → Option Value}, z.heap.Ns b m → (hidT z.heap H).Ns b m := by
    rintro b m ⟨o, es, ep, e, d, rest⟩
    exact ⟨o, es, ep, hid e (fun us n h => by rw [d] at h; cases h) (fun h => by rw [d] at h; cases h), d, rest⟩
  have inB : K.In (hidT z.heap H) := by
    intro b o e
    refine hidT_get (inK b o e) ?_
    cases q : H b with
    | none => rfl
    | some u =>
      rcases T.all b u q with ⟨hb, _⟩ | ⟨rfl, hn, _⟩
      · obtain ⟨p, hp, rfl⟩ := List.mem_map.mp hb
        rw [outK p hp] at e
        cases e
      · rw [hn] at e
        cases e
  have held : HOk P w H z.heap := by
    intro b u q
    rcases T.all b u q with ⟨hb, rfl⟩ | ⟨rfl, _, rfl⟩
    · exact isTab b hb
    · exact ⟨ha, by rw [List.length_map]; exact small, vs, _, vals_ints nums, ha⟩
  have tabs : ∀ p ∈ cs, LamX.TabB (hidT z.heap H) mg p.1 p.2 := by
    intro p hp
    have hT := empty p hp
    refine ⟨?_, ?_, ?_⟩
    · obtain ⟨o, us, fl, tf, fg, tg, iF, tx, tt, e1, r1, r2, r3, rest⟩ := heads p hp
      exact ⟨o, us, fl, tf, fg, tg, iF, tx, tt, hid e1 (fun _ _ h => by rw [r2] at h; cases h) (fun h => by rw [r2] at h; cases h; simp at r3), r1, r2, r3, rest⟩
    · obtain ⟨bm, ob, b1, b2, b3, b4, b5, b6⟩ := bmod
      refine ⟨bm, ob, b1, b2, fun q => ?_, fun q => ?_, hid b3 (fun _ _ h => by rw [b6] at h; cases h) (fun h => by rw [b6] at h; cases h), b4, b5, b6⟩
      · obtain ⟨o, es, ep, e, hd, _⟩ := glob
        rw [q, e] at b3
        cases b3
        rw [hd] at b6
        cases b6
      · rw [q, hT] at b3
        cases b3
        cases b6
    · intro q
      obtain ⟨o, es, ep, e, hd, _⟩ := glob
      rw [q, hT] at e
      cases e
      cases hd
  have entry : Env0 P w K mg (hidT z.heap H) callerA [] z H :=
    ⟨rfl, ⟨inB, hns glob, ⟨mb, hns blt, boot⟩, free.elim fun mc h => ⟨mc, hns h.1, h.2⟩⟩, fun b o e => of_hidT e, Nat.le_of_eq (hidT_size _ _), trivial, fun b hb => (List.not_mem_nil (show b ∈ [] from hb)).elim, held, .of_eq nogen⟩
  refine codeAny_mono (F _ inB (hns glob) tabs z H (.ref a) (.ref a) _ _ entry (bind z (.ref a)) rfl (wish H (fun p hp => T.tab _ (mem p hp)) T.scr)) fun r z2 ends => ?_
  match r, ends with
  | .error e, ends => exact (calm H e z2 ends).elim
  | .ok .next, ends => exact False.elim ends
  | .ok .brk, ends => exact False.elim ends
  | .ok .cont, ends => exact False.elim ends
  | .ok (.ret q), ⟨v, H', os, bare, un, held2, rel, hv⟩ =>
    have hv : v = .bl true := hv
    subst hv
    obtain rfl : q = Value.bool true := rel
    have stay : ∀ b o, b ∉ cs.map (·.2) → z.heap.get? b = some o → z2.heap.get? b = some o := by
      intro b o nb e
      cases q : H b with
      | none => exact un.keep b o e q (List.not_mem_nil (a := b)) (by simp)
      | some u =>
        rcases T.all b u q with ⟨hb, _⟩ | ⟨rfl, _, rfl⟩
        · exact absurd hb nb
        · have := ha.symm.trans e
          cases this
          exact (held2 _ _ (un.frzs _ _ _ q)).1
    have more : ∀ p ∈ cs, ∃ ms : Array Value, z2.heap.get? p.2 = some { cls := .none, data := .fields ms } := by
      intro p hp
      obtain ⟨ms, q⟩ := un.tbls p.2 #[] (T.tab _ (mem p hp))
      exact ⟨_, held2 _ _ q⟩
    refine ⟨rfl, ⟨fun b o e => ?_, fun b o e => ?_⟩, os, bare⟩
    · by_cases hb : b ∈ cs.map (·.2)
      · obtain ⟨p, hp, rfl⟩ := List.mem_map.mp hb
        obtain ⟨ms, hm⟩ := more p hp
        have := (empty p hp).symm.trans e
        cases this
        exact .inr (.inl ⟨((heads p hp).tab (empty p hp)).isCodeTable, rfl, #[], ms, rfl, by simpa using hm⟩)
      · exact .inl (stay b o hb e)
    · by_cases hb : b ∈ cs.map (·.2)
      · obtain ⟨p, hp, rfl⟩ := List.mem_map.mp hb
        obtain ⟨ms, hm⟩ := more p hp
        exact ⟨_, hm⟩
      · exact ⟨o, stay b o hb e⟩
end EndG


set_option Elab.async false
set_option linter.all false
set_option maxRecDepth 100000
set_option maxHeartbeats 1000000
namespace EndG
open PySem PySem.Spec PyProof.Rows L2
/-- the law, walked from the caller alone -/
def LawG (l : PySem.W.OpenLaw) (w : World) (K : PySem.W.Frag) (CX : CXT) (n : Nat) (x : Str) (mg : Str → Option Value) (fa : Addr) (h : Heap) : Prop :=
  ∃ (fd : FuncData) (cs : List (Addr × Addr)) (sp : Sp), (∀ p ∈ cs, h.get? p.2 = some { cls := .none, data := .fields #[] } ∧ K.lookup p.2 = none ∧ PySem.W.CodeHd h p.1 p.2) ∧ (∀ (s : Shared) (u : Value), BindsTo s fd ⟨[u], []⟩ [(x, u)]) ∧
    (∀ (H : Hp) (a : Addr) (ns : List Int), ns.length ≤ n → (∀ p ∈ cs, H p.2 = some (.tbl #[])) → SqL K H a (ns.map V.int) → sp [.ref a] H (fun v _ => v = .bl true) fun _ _ _ => False) ∧
    ∀ base : Heap, K.In base → base.Ns mainGlobals mg → (∀ p ∈ cs, LamX.TabB base mg p.1 p.2) → RunG l.prog w K mg base CX fa fd x sp
theorem walkG {l : PySem.W.OpenLaw} {n : Nat} {q : Program} {loose : List Str} {XP : (Str → Option Value) → Heap → Prop} {YP : World → Heap → Prop} {d : DefRec} {CX : World → CXT} {x : Str}
    (most : l.most = some n) (few : n ≤ sizeLine) (plain : d.params.defaults = [])
    (F : ∀ (w : World) (mg : Str → Option Value) (fa : Addr) (h : Heap), YP w h → h.Ns mainGlobals mg → mg d.name = some (.ref fa) → ∃ K : PySem.W.Frag, K.In h ∧ LawG l w K (CX w) n x mg fa h)
    (calm : ∀ (w : World) (H : Hp) (s : Shared) (e : Value) (s' : Shared), CX w [] H s (fun _ _ _ => False) e s' → False) :
    PySem.W.WalkO q loose XP YP l.row.toRowW d [] (fun f vs => PySem.call f vs) := by
  refine Att.attach_callB most plain fun w _ z mg mb fa _ _ _ _ a us ns G Y _ _ _ named obj nums short _ nogen => ?_
  obtain ⟨K, inK, fd, cs, sp, tab, bind, wish, runs⟩ := F w mg fa _ Y G.T.g named
  exact law_top inK G.T.g G.T.b G.T.builtins G.T.nolimit nogen (fun p hp => (tab p hp).1) (fun p hp => (tab p hp).2.1) (fun p hp => (tab p hp).2.2) G.T.bmain obj nums (Nat.le_trans short few) runs bind (fun H hT hS => wish H a ns short hT hS) fun H e s' => calm w H z e s'
end EndG
namespace DX
open PySem PySem.Spec PyProof.Rows L2 GxR GA
/-! ### repr -/
def rReprD (K : PySem.W.Frag) : List V → Hp → VK → Prop := fun xs H Q => ∃ a d, xs = [.ref a] ∧ Dp K H (.ref a) d ∧ SeqAt.shaped d = true ∧ d.showable = true ∧ d.shown.length ≤ sizeLine ∧ Q (.str d.shown) H
theorem c_repr {X : Cx} (hg : X.A.guards = some []) (hu : X.A.units + 70 < cLine) : CallR X (.builtin "repr") (rReprD X.K) := by
  intro pins s σ H xs us Q I r h
  obtain ⟨a, d, rfl, dp, sh, sw, sz, q⟩ := h
  obtain ⟨u, rfl, ru⟩ := r.one
  cases ru
  obtain ⟨as, rd⟩ := Dp.reads I d _ _ dp rfl
  have hdep := SeqAt.depth_of_shaped sh
  have nodict : d.hasDict = false := PyData.hasDict_of_canLay d (SeqAt.canLay_of_shaped sh)
  refine PySem.repr_of_reads' rd sw (fun z => by rw [nodict] at z; cases z) hg (by omega) (fun _ _ e => e) (fun h' u tk hk => ⟨.str d.shown, H, I.kept (t' := tk) hk, ⟨u, rfl⟩, q⟩) sz
end DX


set_option Elab.async false
set_option linter.all false
set_option maxRecDepth 100000
set_option maxHeartbeats 1000000
namespace DX
open PySem PySem.Spec PyProof.Rows L2 GxR GA
open Classical
theorem u70 {k : Nat} {A : Around} (r : Room k A) : A.units + 70 < cLine := by have := r.un; omega
/-! ### keywords in any order -/
def perm {α : Type} (is : List Nat) (l : List α) : List α := is.filterMap fun i => l[i]?
theorem vals_perm {vs : List V} {us : List Value} (r : Vals vs us) : ∀ is, Vals (perm is vs) (perm is us)
  | [] => .nil
  | i :: is => by
    have ih := vals_perm r is
    unfold perm at ih ⊢
    rw [List.filterMap_cons, List.filterMap_cons]
    cases e : vs[i]? with
    | none =>
      have : us[i]? = none := by
        rw [List.getElem?_eq_none_iff] at e ⊢
        rw [← r.length]; exact e
      rw [this]
      exact ih
    | some v =>
      obtain ⟨u, hu, ru⟩ := r.get e
      rw [hu]
      exact .cons ru ih
theorem rpL_perm {K : PySem.W.Frag} {H : Hp} {xs : List PyData} {vs : List V} (r : RpL K H xs vs) : ∀ is, RpL K H (perm is xs) (perm is vs)
  | [] => .nil
  | i :: is => by
    have ih := rpL_perm r is
    unfold perm at ih ⊢
    rw [List.filterMap_cons, List.filterMap_cons]
    cases e : xs[i]? with
    | none =>
      have : vs[i]? = none := by
        rw [List.getElem?_eq_none_iff] at e ⊢
        rw [← r.len]; exact e
      rw [this]
      exact ih
    | some x =>
      obtain ⟨v, hv, rv⟩ := r.get e
      rw [hv]
      exact .cons rv ih
section
variable {K : PySem.W.Frag} {x qual : Str} {params : Arguments} {body : List Stmt} {scope : Scope} {kws : List (Str × V)} {f : Addr} {fd : FuncData} {ps : List Str}
/-- no defaults at all -/
theorem kb_plain (F : FunD K x qual params body scope [] [] f fd) (n : Nat) (ks : List Str) (is : List Nat)
    (h : ∀ (kV doc pm : Value) (an : Option Addr) (cdv ct : Value) (us ws : List Value), us.length = n → ws.length = ks.length → bindArgs (PySem.W.fnOf x qual params body scope .none kV doc pm an cdv ct) ⟨us, ks.zip ws⟩ = pure (ps.zip (us ++ perm is ws))) :
    KBn K fd ps n ks (fun us ws => us ++ perm is ws) (fun vs zs => vs ++ perm is zs) := by
  obtain ⟨oc, od, dV, kV, doc, pm, an, cdv, ct, osl, rfl, look, code, hD, _⟩ := F.ex
  rcases hD with ⟨_, rfl⟩ | ⟨e, _⟩
  · exact ⟨fun s us ws _ l1 l2 => .of_eq (h kV doc pm an cdv ct us ws l1 l2), fun r1 r2 => r1.append (vals_perm r2 is)⟩
  · exact absurd rfl e
/-- keyword-only defaults, none of them lacking -/
theorem kb_only (F : FunD K x qual params body scope [] kws f fd) (hk : kws ≠ []) (n : Nat) (ks : List Str) (is : List Nat)
    (h : ∀ (D : Addr) (doc pm : Value) (an : Option Addr) (cdv ct : Value) (us ws : List Value), us.length = n → ws.length = ks.length → bindArgs (PySem.W.fnOf x qual params body scope .none (.ref D) doc pm an cdv ct) ⟨us, ks.zip ws⟩ = pure (ps.zip (us ++ perm is ws))) :
    KBn K fd ps n ks (fun us ws => us ++ perm is ws) (fun vs zs => vs ++ perm is zs) := by
  obtain ⟨oc, od, dV, kV, doc, pm, an, cdv, ct, osl, rfl, look, code, hD, hK⟩ := F.ex
  rcases hD with ⟨_, rfl⟩ | ⟨e, _⟩
  · rcases hK with e | ⟨D, rfl, _⟩
    · exact absurd e hk
    · exact ⟨fun s us ws _ l1 l2 => .of_eq (h D doc pm an cdv ct us ws l1 l2), fun r1 r2 => r1.append (vals_perm r2 is)⟩
  · exact absurd rfl e
end
section
variable {X : Cx} {CX : CXT} {k : Nat} {f : Addr} {fd : FuncData} {ps ks : List Str} {sp : Sp} {E : XK} {x : Str} {p pos : Pos} {kws : List Keyword} {tk : TA} {g : List Value → List Value → List Value} {gV : List V → List V → List V}
/-- f(k = v, ..) -/
theorem pe_callN0 (F : FnOk X.prog X.w X.K X.mg X.base CX k f fd ps sp) (hr : Room k X.A) (hg : Gl X x) (hm : X.mg x = some (.ref f)) (hk : PySem.W.keepIn X.K (.ref f) = true) (hb : KBn X.K fd ps 0 ks g gV) (hx : Passes CX X E) (hkw : PK X kws tk)
    (hall : (backToKw pos (keywordEach kws X.env)).all (·.1.isSome) = true := by rfl) (hks : (backToKw pos (keywordEach kws X.env)).filterMap (·.1) = ks := by rfl)
    (hdb : (x == ("__debug__" : Str)) = false := by decide) (hpl : ((backTo pos (starEach [] X.env)).any (·.1) || (backToKw pos (keywordEach kws X.env)).any (·.1.isNone)) = false := by rfl) :
    PE X (.Call (.Name x p) [] kws pos) (tCallN 0 ks.length sp gV E tNil tk) := by
  refine ⟨fun pins s σ H Q I h => wpAny_Call_Name_kw (ld_glob I hg hm ?_ hdb)⟩
  refine PySem.W.callWith_KW0 (h₀ := X.base) I.ok.mod.kin hk hall (thn (hkw.run pos pins s σ H _ I h) fun ws z ⟨zs, H2, I2, rz, l1, l2, q2⟩ => ⟨I2.kIn, ?_⟩) hpl
  rw [hks]
  exact run_fnN F hr hb hx I2 .nil rz l1 l2 q2
end
section
variable {G : Gx} {F : Fx} {δ : DEnv} {tr tk : TA} {Q : PyData → DEnv → Prop}
/-- a call with keywords in any order -/
theorem ed_callPm {C : CtP} {n m : Nat} {is : List Nat} (h : EA G tr δ fun as δ1 => EA G tk δ1 fun bs δ2 => ∃ xs ys, allD as = some xs ∧ allD bs = some ys ∧ xs.length = n ∧ ys.length = m ∧ C (xs ++ perm is ys) fun d => Q d δ2) :
    ED G (tCallN n m (spP G.K G.cs C) (fun vs zs => vs ++ perm is zs) E0 tr tk) δ Q := ed_callPk (gD := fun xs ys => xs ++ perm is ys) (fun r1 r2 => r1.app (rpL_perm r2 is)) h
/-- repr of a list or a tuple -/
theorem ed_repr (h : EA G tr δ fun as δ1 => ∃ x, allD as = some [x] ∧ ((∃ ys, x = .list ys) ∨ ∃ ys, x = .tuple ys) ∧ EqOk x ∧ x.showable = true ∧ x.shown.length ≤ sizeLine ∧ Q (.str x.shown) δ1) : ED G (tCB (rReprD G.K) tr) δ Q := fun F σ H R I k =>
  h F σ H _ I fun as vs δ1 H1 ⟨x, e, kind, ok, sw, sz, q⟩ J r1 => by
    have r2 := allD_ok e r1
    cases r2 with
    | cons r3 r4 =>
      cases r4
      have dp := r3.full.dp ok.1
      rcases kind with ⟨ys, rfl⟩ | ⟨ys, rfl⟩
      · cases r3 with
        | lst _ _ => exact ⟨_, _, rfl, dp, ok.2, sw, sz, k _ _ δ1 H1 q J (.str _)⟩
      · cases r3 with
        | tup _ _ => exact ⟨_, _, rfl, dp, ok.2, sw, sz, k _ _ δ1 H1 q J (.str _)⟩
end
end DX


set_option Elab.async false
set_option linter.all false
set_option maxRecDepth 100000
set_option maxHeartbeats 1000000
/-! prices, a day's take -/
namespace So
open PySem PySem.Spec PyProof.Rows L2 GxR GA DX
def PricesOk (n : Nat) (ps : List Int) : Prop := ps.length = n ∧ ∀ p ∈ ps, -1000000 ≤ p ∧ p ≤ 1000000
def C_check_prices : CtP := fun xs P => ∃ m ps, xs = [martD m, intsD ps] ∧ PricesOk m.goods.length ps ∧ P .none
def C_check_day : CtP := fun xs P => ∃ d, xs = [.int (d : Nat)] ∧ P .none
def C_check_asked : CtP := fun xs P => ∃ m ps d, xs = [martD m, intsD ps, .int (d : Nat)] ∧ Valid m ∧ PricesOk m.goods.length ps ∧ P .none
def C_take_of : CtP := fun xs P => ∃ m ps d, xs = [martD m, intsD ps, .int (d : Nat)] ∧ Valid m ∧ PricesOk m.goods.length ps ∧ P (oD (taken (m.bs d) ps))
def C_prices_behind : CtP := fun xs P => ∃ m ps d, xs = [martD m, intsD ps, .int (d : Nat)] ∧ Valid m ∧ PricesOk m.goods.length ps ∧ P (intsD (moved m.goods ps (taken (m.bs d) ps)))
def C_law_take : CtP := fun xs P => ∃ b ps, xs = [buyD b, intsD ps] ∧ (∀ ws, b = some ws → ws.length = ps.length) ∧ ps.length ≤ 4 ∧ P (oD (taken b ps))
def C_law_behind : CtP := fun xs P => ∃ gs ps t, xs = [goodsD gs, intsD ps, oD t] ∧ gs.length = ps.length ∧ gs.length ≤ 4 ∧ P (intsD (moved gs ps t))
def C_law_tags : CtT := fun ts xs P => ∃ k b n, Till k ts ∧ k < 2 ^ 38 ∧ xs = [buyD b, .int (n : Nat)] ∧ VBuyer n b ∧ n ≤ 4 ∧ ∀ ps ts', PricesOk n ps → Till (k + 40) ts' → P (intsD ps) ts'
/-- plain data: none, ints, lists and tuples of such, no deeper than n -/
def okS : Nat → PyData → Bool
  | _, .none => true
  | _, .int _ => true
  | n + 1, .list xs => decide (xs.length ≤ 5000) && xs.all (okS n)
  | n + 1, .tuple xs => decide (xs.length ≤ 5000) && xs.all (okS n)
  | _, _ => false
def C_never : CtP := fun _ _ => False
def C_same (n : Nat) : CtP := fun xs P => ∃ x, xs = [x, x] ∧ okS n x = true ∧ P (.bool true)
def C_law_same : CtP := C_same 3
theorem okS_ints (n : Nat) (ns : List Int) : (ns.map PyData.int).all (okS n) = true := by
  rw [List.all_eq_true]
  intro x hx
  obtain ⟨i, _, rfl⟩ := List.mem_map.mp hx
  cases n <;> rfl
theorem okS_o (n : Nat) (t : Option Int) : okS n (oD t) = true := by
  cases t <;> cases n <;> rfl
end So


set_option Elab.async false
set_option linter.all false
set_option maxRecDepth 100000
set_option maxHeartbeats 1000000
namespace DX
open PySem PySem.Spec PyProof.Rows L2 GxR GA
/-- small nests of small ints and none -/
def tiny : Nat → PyData → Bool
  | _, .none => true
  | _, .int i => decide (i.natAbs < 100000000)
  | n + 1, .list xs => decide (xs.length ≤ 6) && xs.all (tiny n)
  | n + 1, .tuple xs => decide (xs.length ≤ 6) && xs.all (tiny n)
  | _, _ => false
structure TinyOk (n : Nat) (x : PyData) : Prop where
  nd : noDct x = true
  lay : x.canLay0 = true
  dep : x.depth ≤ n
  sh : x.showable = true
  lv : x.leavesShort 13 = true
  wt : x.weight + 1 ≤ 30 * 7 ^ n
structure TinyAll (n : Nat) (xs : List PyData) : Prop where
  nd : noDctL xs = true
  lay : PyData.canLayAll0 xs = true
  dep : PyData.depthAll xs ≤ n
  sh : PyData.showableAll xs = true
  lv : PyData.leavesShortAll 13 xs = true
  wt : PyData.weightAll xs ≤ xs.length * (30 * 7 ^ n)
theorem tinyAll_of {n : Nat} : ∀ {xs : List PyData}, (∀ x ∈ xs, TinyOk n x) → TinyAll n xs
  | [], _ => ⟨rfl, rfl, Nat.zero_le _, rfl, rfl, Nat.zero_le _⟩
  | x :: xs, h => by
    have a := h x (by simp)
    have b := tinyAll_of fun y hy => h y (List.mem_cons_of_mem _ hy)
    refine ⟨by simp [noDctL, a.nd, b.nd], by simp [PyData.canLayAll0, a.lay, b.lay], by have := a.dep; have := b.dep; simp [PyData.depthAll]; omega, by simp [PyData.showableAll, a.sh, b.sh], by simp [PyData.leavesShortAll, a.lv, b.lv], ?_⟩
    have h1 := a.wt
    have h2 := b.wt
    rw [PyData.weightAll, List.length_cons, Nat.succ_mul]
    omega
theorem short_int {i : Int} (h : i.natAbs < 100000000) : (PyData.shown (.int i)).length ≤ 13 := by
  have h1 := int_text_length_le10 (a := i) (k := 8) (by decide) h
  have e : (PyData.shown (.int i)).length = (toString i).length := by
    rw [PyData.shown]
    exact PySem.ofString_length _
  rw [e]
  omega
theorem tiny_int (n : Nat) {i : Int} (h : i.natAbs < 100000000) : TinyOk n (.int i) := by
  have h2 : i.natAbs.log2 < 27 := PySem.Flt.log2_lt_of (by decide) (Nat.lt_of_lt_of_le h (by decide))
  have p : 1 ≤ 7 ^ n := Nat.pow_pos (by decide)
  refine ⟨rfl, rfl, by simp [PyData.depth], by simp [PyData.showable]; omega, by simp only [PyData.leavesShort]; exact decide_eq_true (short_int h), ?_⟩
  have : (PyData.int i).weight ≤ 27 := by
    simp only [PyData.weight]
    split <;> omega
  omega
theorem tiny_none (n : Nat) : TinyOk n .none := by
  have p : 1 ≤ 7 ^ n := Nat.pow_pos (by decide)
  refine ⟨rfl, rfl, by simp [PyData.depth], rfl, rfl, ?_⟩
  simp [PyData.weight]
  omega
theorem tiny_seq {n : Nat} {xs : List PyData} (hl : xs.length ≤ 6) (h : ∀ x ∈ xs, TinyOk n x) : TinyOk (n + 1) (.list xs) ∧ TinyOk (n + 1) (.tuple xs) := by
  have a := tinyAll_of h
  have p : 1 ≤ 7 ^ n := Nat.pow_pos (by decide)
  have w : PyData.weightAll xs + 1 ≤ 30 * 7 ^ (n + 1) := by
    have := a.wt
    have m : xs.length * (30 * 7 ^ n) ≤ 6 * (30 * 7 ^ n) := Nat.mul_le_mul_right _ hl
    rw [Nat.pow_succ]
    omega
  have d := a.dep
  exact ⟨⟨a.nd, by simpa [PyData.canLay0] using a.lay, by simp [PyData.depth]; omega, by simpa [PyData.showable] using a.sh, by simpa [PyData.leavesShort] using a.lv, by simpa [PyData.weight] using w⟩,
    ⟨a.nd, by simpa [PyData.canLay0] using a.lay, by simp [PyData.depth]; omega, by simpa [PyData.showable] using a.sh, by simpa [PyData.leavesShort] using a.lv, by simpa [PyData.weight] using w⟩⟩
theorem tiny_ok : ∀ (n : Nat) (x : PyData), tiny n x = true → TinyOk n x := by
  intro n
  induction n with
  | zero =>
    intro x h
    cases x with
    | none => exact tiny_none 0
    | int i => exact tiny_int 0 (of_decide_eq_true h)
    | _ => cases h
  | succ n ih =>
    intro x h
    cases x with
    | none => exact tiny_none _
    | int i => exact tiny_int _ (of_decide_eq_true h)
    | list xs =>
      have h : (decide (xs.length ≤ 6) && xs.all (tiny n)) = true := h
      rw [Bool.and_eq_true] at h
      exact (tiny_seq (of_decide_eq_true h.1) fun x hx => ih x (List.all_eq_true.mp h.2 x hx)).1
    | tuple xs =>
      have h : (decide (xs.length ≤ 6) && xs.all (tiny n)) = true := h
      rw [Bool.and_eq_true] at h
      exact (tiny_seq (of_decide_eq_true h.1) fun x hx => ih x (List.all_eq_true.mp h.2 x hx)).2
    | _ => cases h
section
variable {G : Gx} {δ : DEnv} {tr : TA} {Q : PyData → DEnv → Prop}
theorem TinyOk.eqOk {n : Nat} {x : PyData} (h : TinyOk n x) (hn : n ≤ 64) : EqOk x := ⟨h.nd, by
  unfold SeqAt.shaped
  rw [h.lay, decide_eq_true (Nat.le_trans h.dep hn)]
  rfl⟩
theorem TinyOk.fits {n : Nat} {x : PyData} (h : TinyOk n x) (hn : n ≤ 5) : x.shown.length ≤ sizeLine := by
  refine PyData.shown_fits (B := 13) (by decide) (by decide) h.lv ?_
  have m : 7 ^ n ≤ 7 ^ 5 := Nat.pow_le_pow_right (by decide) hn
  have := h.wt
  have e : 7 ^ 5 = 16807 := by decide
  omega
/-- repr of a small nest -/
theorem ed_reprT (h : EA G tr δ fun as δ1 => ∃ x, allD as = some [x] ∧ ((∃ ys, x = .list ys) ∨ ∃ ys, x = .tuple ys) ∧ tiny 5 x = true ∧ Q (.str x.shown) δ1) : ED G (tCB (rReprD G.K) tr) δ Q :=
  ed_repr fun F σ H R I k => h F σ H R I fun as vs δ1 H1 ⟨x, e, kind, t, q⟩ => k as vs δ1 H1 ⟨x, e, kind, (tiny_ok 5 x t).eqOk (by decide), (tiny_ok 5 x t).sh, (tiny_ok 5 x t).fits (Nat.le_refl _), q⟩
end
end DX


set_option Elab.async false
set_option linter.all false
set_option maxRecDepth 100000
set_option maxHeartbeats 1000000
namespace DX
open PySem PySem.Spec PyProof.Rows L2 GxR GA
open Classical
/-! ### lending a slot's own list to a function that hands back plain data -/
def scalD : PyData → Bool
  | .list _ => false
  | .tuple _ => false
  | .dict _ => false
  | _ => true
def lentD (δ : DEnv) : Ar → Option PyData
  | .d x => some x
  | .s i => match δ[i]? with
    | some (some (E.m xs)) => some (.list xs)
    | _ => none
def lentAll (δ : DEnv) : List Ar → Option (List PyData)
  | [] => some []
  | a :: r => match lentD δ a, lentAll δ r with
    | some x, some xs => some (x :: xs)
    | _, _ => none
section
variable {G : Gx} {F : Fx} {δ : DEnv} {σ : L2.St} {H : Hp} {tr : TA} {Q : PyData → DEnv → Prop}
theorem lent_ok (I : EI G F δ σ H) {X1 : Addr → Prop} (hX : ∀ a, ¬ MA δ σ a → X1 a → F.X0 a) (hM : ∀ a, MA δ σ a → ¬ X1 a) : ∀ {as : List Ar} {vs : List V} {xs : List PyData}, lentAll δ as = some xs → Paired (ArOk G.K (del H (Sl F δ σ)) δ σ) as vs → RpL G.K (del H X1) xs vs
  | [], _, _, e, .nil => by cases e; exact .nil
  | a :: r, _, _, e, .cons h t => by
    have gr : Gr (del H (Sl F δ σ)) (del H X1) := gr_del fun b u n hb e => ⟨fun z => by
      by_cases m : MA δ σ b
      · exact hM b m z
      · exact hb (.inr (hX b m z)), e⟩
    unfold lentAll at e
    cases e1 : lentD δ a with
    | none => rw [e1] at e; cases e
    | some x =>
      cases e2 : lentAll δ r with
      | none => rw [e1, e2] at e; cases e
      | some ys =>
        rw [e1, e2] at e
        cases e
        refine .cons ?_ (lent_ok I hX hM e2 t)
        cases a with
        | d y =>
          cases e1
          exact Rp.gr gr h
        | s i =>
          obtain ⟨h1, zs, h2⟩ := h
          have e3 : lentD δ (.s i) = some (.list zs) := by
            show (match δ[i]? with
              | some (some (E.m xs)) => some (PyData.list xs)
              | _ => none) = _
            rw [h2]
          rw [e3] at e1
          cases e1
          obtain ⟨w, h3, b, ws, rfl, h4, h5⟩ := I.slot i _ h2
          rw [h1] at h3
          cases h3
          exact .lst (del_some.mpr ⟨hM b ⟨i, zs, h2, h1⟩, h4⟩) (RpL.gr gr h5)
theorem rp_scal {K : PySem.W.Frag} {H1 H2 : Hp} {x : PyData} {v : V} (h : scalD x = true) (r : Rp K H1 x v) : Rp K H2 x v := by
  cases r with
  | non => exact .non
  | bl b => exact .bl b
  | int b => exact .int b
  | str b => exact .str b
  | _ => cases h
theorem ed_callL {C : CtP} (h : EA G tr δ fun as δ1 => ∃ xs, lentAll δ1 as = some xs ∧ C xs fun d => scalD d = true ∧ Q d δ1) : ED G (tCall (spP G.K G.cs C) [] E0 tr) δ Q := fun F σ H R I k =>
  h F σ H _ I fun as vs δ1 H1 ⟨xs, e, c⟩ J r1 => by
    show spP G.K G.cs C (vs ++ []) H1 R E0
    rw [List.append_nil]
    refine ⟨xs, _, fun a => F.X0 a ∧ ¬ MA δ1 σ a, c, lent_ok J (fun a _ z => z.1) (fun a m z => z.2 m) e r1, fun a ha => J.ex a ha.1, J.tab, fun d v H' hd rd kp tk tb => ?_⟩
    exact k d v δ1 H' hd.2 (J.called kp tk tb) (rp_scal hd.1 rd)
end
end DX


set_option Elab.async false
set_option linter.all false
set_option maxRecDepth 100000
set_option maxHeartbeats 1000000
namespace DX
open PySem PySem.Spec PyProof.Rows L2 GxR GA
open Classical
/-! ### a tuple of two new lists -/
abbrev CtF2 := List PyData → (List PyData → List PyData → Prop) → Prop
def spF2 (K : PySem.W.Frag) (cs : List Addr) (C : CtF2) : Sp := fun vs H Q _ => ∃ (xs : List PyData) (P : List PyData → List PyData → Prop) (X0 : Addr → Prop), C xs P ∧ RpL K (del H X0) xs vs ∧ (∀ a, X0 a → ∃ o, H a = some o ∧ NT o) ∧ (∀ p ∈ cs, TabG H p) ∧
  ∀ ys zs q a b ws us H', P ys zs → H q = none → H a = none → H b = none → a ≠ b → q ≠ a → q ≠ b → H' q = some (.tup [.ref a, .ref b]) → H' a = some (.lst ws) → H' b = some (.lst us) → RpL K (del H' fun c => c = a ∨ c = b ∨ X0 c) ys ws → RpL K (del H' fun c => c = a ∨ c = b ∨ X0 c) zs us →
    (∀ b o, NT o → H b = some o → H' b = some o) → (∀ b ps, H b = some (.tbl ps) → ∃ qs, H' b = some (.tbl qs)) → (∀ p ∈ cs, TabG H' p) → Q (.ref q) H'
def QF2 (P : List PyData → List PyData → Prop) : Out → Prop
  | .r2 i j δ => i ≠ j ∧ ∃ xs ys, δ[i]? = some (some (E.m xs)) ∧ δ[j]? = some (some (E.m ys)) ∧ P xs ys
  | _ => False
theorem body_F2 {K : PySem.W.Frag} {cs : List Addr} {C : CtF2} {t : TS} {N : List Str} {vs : List V} {H : Hp} {Q : VK} {E' : XK} (hs : ∀ xs P, C xs P → xs.length ≤ N.length ∧ SD ⟨K, cs, []⟩ t (envP N xs) (QF2 P)) (h : spF2 K cs C vs H Q E') :
    t { nx := fun _ H' => Q .non H', rt := Q } (L2.start N vs) H := by
  obtain ⟨xs, P, X0, c, r, ex, tb, k⟩ := h
  have I := start_P (N := N) (cs := cs) r ex tb
  obtain ⟨hl, sd⟩ := hs xs P c
  refine sd _ _ _ _ I fun o q => ?_
  cases o with
  | r2 i j δ' =>
    obtain ⟨hij, ys, zs, hi, hj, p⟩ := q
    intro σ' H' q a b J hq ha hb
    have N1 := J.release hi ha (fun z => z)
    have hj2 : (δ'.set i none)[j]? = some (some (E.m zs)) := by rw [List.getElem?_set_ne hij]; exact hj
    have N2 := N1.ei.release hj2 hb (fun z => z)
    obtain ⟨ws, w1, w2⟩ := N1.at_
    obtain ⟨us, u1, u2⟩ := N2.at_
    have nab : a ≠ b := fun z => N2.x0 (.inl z.symm)
    have nqa : q ≠ a := fun z => by rw [z, w1] at hq; cases hq
    have nqb : q ≠ b := fun z => by rw [z, u1] at hq; cases hq
    have J3 := J.laid hq (nt_tup [.ref a, .ref b])
    have ne : ∀ {c : Addr} {u : HO}, H' c = some u → c ≠ q := fun {c u} e z => by rw [z, hq] at e; cases e
    have hbm : MA (δ'.set i none) σ' b := ⟨j, zs, hj2, hb⟩
    refine k ys zs q a b ws us _ p ?_ N1.h0 N2.h0 nab nqa nqb upd_same (by rw [upd_ne (Ne.symm nqa)]; exact w1) (by rw [upd_ne (Ne.symm nqb)]; exact u1) (RpL.gr (gr_del fun c u n hc e => ⟨fun z => ?_, by rw [upd_ne (ne e)]; exact e⟩) w2) (RpL.gr (gr_del fun c u n hc e => ⟨fun z => ?_, by rw [upd_ne (ne e)]; exact e⟩) u2) (fun c o n e => J3.keep c o n (fun z => z) (fun z => z) e) J3.tk J3.tab
    · exact (J.fresh hq).1
    · rcases z with rfl | rfl | z
      · exact hc (.inr (.inl rfl))
      · exact hc (.inl hbm)
      · exact hc (.inr (.inr z))
    · rcases z with rfl | rfl | z
      · exact hc (.inr (.inr (.inl rfl)))
      · exact hc (.inr (.inl rfl))
      · exact hc (.inr (.inr (.inr z)))
  | _ => exact q.elim
section
variable {G : Gx} {F : Fx} {δ δ' : DEnv} {σ σ' : L2.St} {H H' : Hp} {tr tk : TA} {QS : Out → Prop} {QF : List PyData → DEnv → Prop} {Q : PyData → DEnv → Prop}
theorem sd_ret2 {i j : Nat} (hi : ∃ xs, δ[i]? = some (some (E.m xs))) (hj : ∃ xs, δ[j]? = some (some (E.m xs))) (q : QS (.r2 i j δ)) : SD G (tRet (tTup (tCons (tVar i) (tCons (tVar j) tNil)))) δ QS := fun F σ H D I k => by
  obtain ⟨xs, hi⟩ := hi
  obtain ⟨ys, hj⟩ := hj
  obtain ⟨v, h1, a, vs, e1, _, _⟩ := I.slot i _ hi
  obtain ⟨w, h2, b, us, e2, _, _⟩ := I.slot j _ hj
  subst e1 e2
  exact ⟨_, h1, _, h2, by show 2 ≤ sizeLine; decide, fun p hp => k _ q σ H p a b I hp h1 h2⟩
/-- new addresses are nobody's: S of them are others' from here on -/
theorem EI.called_own {S : Addr → Prop} (J : EI G F δ σ H) (kp : ∀ b o, NT o → H b = some o → H' b = some o) (tk : ∀ b ps, H b = some (.tbl ps) → ∃ qs, H' b = some (.tbl qs)) (tb : ∀ p ∈ G.cs, TabG H' p) (hS : ∀ a, S a → H a = none ∧ ∃ o, H' a = some o ∧ NT o) :
    EI G { F with X0 := fun a => S a ∨ F.X0 a } δ σ H' := by
  have J2 := J.called kp tk tb
  have gr : Gr (del H (Sl F δ σ)) (del H' (Sl { F with X0 := fun a => S a ∨ F.X0 a } δ σ)) := gr_del fun b u n hb e => ⟨fun z => by
    rcases z with z | z | z
    · exact hb (.inl z)
    · rw [(hS b z).1] at e; cases e
    · exact hb (.inr z), kp b u n e⟩
  have nS : ∀ a, MA δ σ a → ¬ S a := fun a m z => (J.fresh (hS a z).1).2.2.2 m
  refine ⟨J2.len, fun i e h => ?_, J2.nd, fun a ha => ?_, J2.keep, fun a ha => ?_, J2.pin, J2.tab, J2.tk, J2.mt, fun i ys a e1 e2 ha => ha.elim (fun z => absurd z (nS a ⟨i, ys, e1, e2⟩)) (J2.mx i ys a e1 e2), fun a w => ⟨.inr (J2.wl a w).1, (J2.wl a w).2⟩, J2.k1⟩
  · obtain ⟨v, h1, h2⟩ := J.slot i e h
    refine ⟨v, h1, ?_⟩
    cases e with
    | d x => exact Rp.gr gr h2
    | err D => exact XR.gr gr h2
    | k n =>
      obtain ⟨b, eb, h3⟩ := h2
      exact ⟨b, eb, h3.up fun c u w e => kp _ _ (nt_lst _) e⟩
    | m ys =>
      obtain ⟨a, us, h4, h5, h6⟩ := h2
      exact ⟨a, us, h4, kp _ _ (nt_lst _) h5, RpL.gr gr h6⟩
  · rcases J.own a ha with z | ⟨z, zx⟩
    · exact .inl z
    · exact .inr ⟨z, fun w => w.elim (nS a ha) zx⟩
  · rcases ha with ha | ha
    · exact (hS a ha).2
    · exact J2.ex a ha
theorem x_ex (J : EI G F δ σ H) (a : Addr) (ha : Sl F δ σ a) : ∃ o, H a = some o ∧ NT o := by
  rcases ha with ⟨i, ys, h1, h2⟩ | ha
  · obtain ⟨v, h3, b, ws, h4, h5, _⟩ := J.slot i _ h1
    rw [h2] at h3
    cases h3
    cases h4
    exact ⟨_, h5, nt_lst _⟩
  · exact J.ex a ha
/-- x, y = f(..): two slots own the two new lists -/
theorem sd_two {C : CtF2} {i j : Nat} (hij : i ≠ j) (hi : i ∉ G.pn) (hj : j ∉ G.pn) (li : i < δ.length) (lj : j < δ.length) (h : EA G tr δ fun as δ1 => ∃ xs, allD as = some xs ∧ C xs fun ys zs => QS (.nx ((δ1.set i (some (.m ys))).set j (some (.m zs))))) :
    SD G (tAsg (tCall (spF2 G.K G.cs C) [] E0 tr) (gTup G.K 2 (gCons (gName i) (gCons (gName j) gNil)))) δ QS := fun F σ H D I k =>
  h F σ H _ I fun as vs δ1 H1 ⟨xs, e, c⟩ J r1 => by
    show spF2 G.K G.cs C (vs ++ []) H1 _ E0
    rw [List.append_nil]
    refine ⟨xs, _, Sl F δ1 σ, c, allD_ok e r1, x_ex J, J.tab, fun ys zs q a b ws us H' p hq ha hb nab nqa nqb tq ta tb' ra rb kp tk tb => ?_⟩
    have lens : δ1.length = δ.length := J.len.trans I.len.symm
    obtain ⟨fa0, faM, faX, fam⟩ := J.fresh ha
    obtain ⟨fb0, fbM, fbX, fbm⟩ := J.fresh hb
    have Jab := J.called_own (S := fun c => c = a ∨ c = b) kp tk tb fun c hc => by
      rcases hc with rfl | rfl
      · exact ⟨ha, _, ta, nt_lst _⟩
      · exact ⟨hb, _, tb', nt_lst _⟩
    have JB : EI G ((F.own a).own b) δ1 σ H' := by
      have e : ((F.own a).own b) = { F with X0 := fun c => (c = a ∨ c = b) ∨ F.X0 c } := by
        unfold Fx.own
        congr 1
        funext c
        apply propext
        constructor
        · rintro (z | z | z)
          · exact .inl (.inr z)
          · exact .inl (.inl z)
          · exact .inr z
        · rintro ((z | z) | z)
          · exact .inr (.inl z)
          · exact .inl z
          · exact .inr (.inr z)
      rw [e]
      exact Jab
    have NB : New G (F.own a) δ1 σ H' b zs := ⟨JB, fbm, fun z => z.elim (fun z => nab z.symm) fbX, fb0, fbM, J.freshW hb, us, tb', RpL.gr (gr_del fun c u n hc e => ⟨fun z => hc (by
      rcases z with z | z | z | z
      · exact .inr (.inr (.inl z))
      · exact .inr (.inl z)
      · exact .inl z
      · exact .inr (.inr (.inr z))), e⟩) rb⟩
    have J1 := NB.take (i := j) (by rw [lens]; exact lj) hj
    have ma1 : ¬ MA (δ1.set j (some (.m zs))) (σ.set j (some (.ref b))) a := fun ⟨m, us', h1, h2⟩ => by
      rcases get_set h1 with ⟨e0, _, _⟩ | ⟨ne, h3⟩
      · rw [e0, List.getElem?_set_self (by rw [← J.len, lens]; exact lj)] at h2
        cases h2
        exact nab rfl
      · rw [List.getElem?_set_ne (fun z => ne z.symm)] at h2
        exact fam ⟨m, us', h3, h2⟩
    have old : ∀ {c}, MA (δ1.set j (some (.m zs))) (σ.set j (some (.ref b))) c → c = b ∨ MA δ1 σ c := fun {c} ⟨m, us', h1, h2⟩ => by
      rcases get_set h1 with ⟨e0, _, _⟩ | ⟨ne, h3⟩
      · rw [e0, List.getElem?_set_self (by rw [← J.len, lens]; exact lj)] at h2
        cases h2
        exact .inl rfl
      · rw [List.getElem?_set_ne (fun z => ne z.symm)] at h2
        exact .inr ⟨m, us', h3, h2⟩
    have NA : New G F (δ1.set j (some (.m zs))) (σ.set j (some (.ref b))) H' a ys := ⟨J1, ma1, faX, fa0, faM, J.freshW ha, ws, ta, RpL.gr (gr_del fun c u n hc e => ⟨fun z => hc (by
      rcases z with z | z | z
      · rcases old z with z | z
        · exact .inr (.inl z)
        · exact .inr (.inr (.inl z))
      · exact .inl z
      · exact .inr (.inr (.inr z))), e⟩) ra⟩
    have J2 := NA.take (i := i) (by rw [List.length_set, lens]; exact li) hi
    refine ⟨q, _, rfl, .inl (.inl tq), rfl, _, _, rfl, _, _, rfl, rfl, ?_⟩
    have ed : (δ1.set j (some (.m zs))).set i (some (.m ys)) = (δ1.set i (some (.m ys))).set j (some (.m zs)) := List.set_comm _ _ (Ne.symm hij)
    have es : (σ.set j (some (V.ref b))).set i (some (.ref a)) = (σ.set i (some (.ref a))).set j (some (.ref b)) := List.set_comm _ _ (Ne.symm hij)
    rw [ed, es] at J2
    exact k _ p _ H' J2
/-- lending to a function that hands back a new list of plain data -/
theorem ef_callFL {C : CtF} (h : EA G tr δ fun as δ1 => ∃ xs, lentAll δ1 as = some xs ∧ C xs fun d => d.all scalD = true ∧ QF d δ1) : EF G (tCall (spF G.K G.cs C) [] E0 tr) δ QF := fun F σ H R I k =>
  h F σ H _ I fun as vs δ1 H1 ⟨xs, e, c⟩ J r1 => by
    show spF G.K G.cs C (vs ++ []) H1 R E0
    rw [List.append_nil]
    refine ⟨xs, _, fun a => F.X0 a ∧ ¬ MA δ1 σ a, c, lent_ok J (fun a _ z => z.1) (fun a m z => z.2 m) e r1, fun a ha => J.ex a ha.1, J.tab, fun d q ws H' hd hq hq' rd kp tk tb => ?_⟩
    obtain ⟨f0, fM, fX, fm⟩ := J.fresh hq
    have J2 := J.called_own (S := fun c => c = q) kp tk tb fun c hc => by
      subst hc
      exact ⟨hq, _, hq', nt_lst _⟩
    have sc : ∀ {ds : List PyData} {us : List V} {K : PySem.W.Frag} {H1 H2 : Hp}, ds.all scalD = true → RpL K H1 ds us → RpL K H2 ds us := by
      intro ds us K H1 H2 h r
      induction ds generalizing us with
      | nil => cases r; exact .nil
      | cons x xs ih =>
        cases r with
        | cons r1 r2 =>
          rw [List.all_cons, Bool.and_eq_true] at h
          exact .cons (rp_scal h.1 r1) (ih h.2 r2)
    exact k d q δ1 H' hd.2 ⟨J2, fm, fX, f0, fM, J.freshW hq, ws, hq', sc hd.1 rd⟩
/-- list.count of an owned list -/
theorem ed_cntM {i : Nat} {ns : List (Option Int)} (hi : δ[i]? = some (some (E.m (ns.map oD)))) (h : EA G tr δ fun as δ2 => δ2 = δ ∧ ∃ (k : Int), allD as = some [.int k] ∧ Q (.int (ns.count (some k) : Nat)) δ) : ED G (tBM G.K "list" (rCntM G.K) (tVar i) tr) δ Q := fun F σ H R I k => by
  obtain ⟨v, h1, a, vs, e, h2, h3⟩ := I.slot i _ hi
  subst e
  refine ⟨_, h1, .inl ⟨rfl, vs, SqL.of h2⟩, h.go I fun as us δ2 H2 ⟨e0, k', e, q2⟩ s2 r2 => ?_⟩
  subst e0
  have r3 := allD_ok e r2
  obtain ⟨v', h1', b, ws, ev, h4, h5⟩ := s2.ei.slot i _ hi
  rw [h1] at h1'
  cases h1'
  cases ev
  cases r3 with
  | cons r4 r5 =>
    cases r5; cases r4
    have e1 := rp_os h5
    refine ⟨a, ws, k', rfl, rfl, SqL.of h4, by rw [e1]; exact ok_os ns, ?_⟩
    rw [e1, cnt_os]
    exact k _ _ δ2 H2 q2 s2.ei (.int _)
end
end DX


set_option Elab.async false
set_option linter.all false
set_option maxRecDepth 100000
set_option maxHeartbeats 1000000
namespace DX
open PySem PySem.Spec PyProof.Rows L2 GxR GA
open Classical
section
variable {G : Gx} {F : Fx} {δ δ' : DEnv} {σ σ' : L2.St} {H H' : Hp} {t1 t2 t3 : TE} {QS : Out → Prop} {rest a : TS}
/-- one more new list beside those that were made -/
theorem EF.next {δ1 : DEnv} {H1 : Hp} {te : TE} {Q : List PyData → DEnv → Prop} {R : VK} (h : EF G te δ1 Q) (I : EI G F δ1 σ H1)
    (k : ∀ ys q δ2 H2, Q ys δ2 → New G F δ2 σ H2 q ys → H1 q = none → (∀ b o, NT o → ¬ MA δ1 σ b → ¬ F.W0 b → H1 b = some o → H2 b = some o) → Gr (del H1 (Sl F δ1 σ)) (del H2 (Sl (F.own q) δ2 σ)) → R (.ref q) H2) : te σ H1 R :=
  h (F.now δ1 σ H1) σ H1 R I.now fun ys q δ2 H2 qq N => by
    have h0 : H1 q = none := N.h0
    refine k ys q δ2 H2 qq (N.back I) h0 N.ei.keep (gr_del fun b o n hb e => ⟨fun z => ?_, N.ei.keep b o n (fun z => hb (.inl z)) (fun w => hb (.inr (I.wl b w).1)) e⟩)
    rcases z with z | z | z
    · rcases N.ei.own b z with w | ⟨w, _⟩
      · exact hb (.inl w)
      · have w : H1 b = none := w
        rw [w] at e; cases e
    · rw [z, h0] at e; cases e
    · exact hb (.inr z)
/-- three new lists in a list; they are asked, then changed row by row, then forgotten -/
theorem sd_rows {C : CtP} {i j r : Nat} (hij : i ≠ j) (hir : i ≠ r) (hi : i ∉ G.pn) (hr : r ∉ G.pn) (li : i < δ.length) (lr : r < δ.length)
    (h : EF G t1 δ fun xs δ1 => EF G t2 δ1 fun ys δ2 => EF G t3 δ2 fun zs δ3 => xs.length < sizeLine ∧ ys.length < sizeLine ∧ zs.length < sizeLine ∧ ∃ y, δ3[j]? = some (some (E.d y)) ∧
      C [.list [.list xs, .list ys, .list zs], y] (fun d => d = .bool true) ∧ SD G rest ((δ3.set i none).set r none) QS) :
    SD G (tSeq (tAsg (tLst (tCons t1 (tCons t2 (tCons t3 tNil)))) (gName i)) (tSeq (tIfS (tNot (tB (tCall (spP G.K G.cs C) [] E0 (tCons (tVar i) (tCons (tVar j) tNil))))) a tNext)
      (tSeq (tFor (iList G.K (tVar i)) (gName r) (tSeq (tDrop (tBM G.K "list" rAppend (tVar r) (tCons (tC (.int 7)) tNil))) (tDrop (tBM0 G.K "list" rReverse (tVar r))))) rest))) δ QS := fun F σ H D I k => by
  show t1 σ H _
  refine EF.next h I fun xs p1 δ1 H1 q1 N1 n1 _ _ => ?_
  show t2 σ H1 _
  refine EF.next q1 N1.ei fun ys p2 δ2 H2 q2 N2 n2 k2 g2 => ?_
  show t3 σ H2 _
  refine EF.next q2 N2.ei fun zs p3 δ3 H3 q3 N3 n3 k3 g3 => ?_
  obtain ⟨lx, ly, lz, y, hy, c, sd⟩ := q3
  obtain ⟨us1, a1, b1⟩ := N1.at_
  obtain ⟨us2, a2, b2⟩ := N2.at_
  obtain ⟨us3, a3, b3⟩ := N3.at_
  have a1' := k3 p1 _ (nt_lst _) (fun z => by
    rcases N2.ei.own p1 z with w | ⟨w, wx⟩
    · exact N1.m0 w
    · exact wx (.inr (.inl rfl))) N1.w0 (k2 p1 _ (nt_lst _) N1.ma N1.w0 a1)
  have a2' := k3 p2 _ (nt_lst _) N2.ma N2.w0 a2
  have b1' := RpL.gr g3 (RpL.gr g2 b1)
  have b2' := RpL.gr g3 b2
  have J3 := N3.ei
  have l3 : δ3.length = δ.length := J3.len.trans I.len.symm
  refine ⟨by show 3 ≤ sizeLine; decide, fun p0 h0 => ?_⟩
  have J4 := J3.laid h0 (nt_lst [.ref p1, .ref p2, .ref p3])
  obtain ⟨f0, fM, fX, fm⟩ := J3.fresh h0
  have J5 := J4.set_n (i := i) (v := some (.ref p0)) hi
  have ne1 : p1 ≠ p0 := fun z => by rw [z, h0] at a1'; cases a1'
  have ne2 : p2 ≠ p0 := fun z => by rw [z, h0] at a2'; cases a2'
  have ne3 : p3 ≠ p0 := fun z => by rw [z, h0] at a3; cases a3
  have hli : i < σ.length := by rw [← I.len]; exact li
  have hσi : (σ.set i (some (V.ref p0)))[i]? = some (some (V.ref p0)) := List.getElem?_set_self hli
  have hδj : (δ3.set i none)[j]? = some (some (E.d y)) := by rw [List.getElem?_set_ne hij]; exact hy
  obtain ⟨w, hw, rw_⟩ := J5.slot j _ hδj
  refine ⟨.ref p0, hσi, w, hw, ?_⟩
  let S : Addr → Prop := fun b => b = p0 ∨ b = p1 ∨ b = p2 ∨ b = p3
  let X1 : Addr → Prop := fun b => Sl (((F.own p1).own p2).own p3) (δ3.set i none) (σ.set i (some (.ref p0))) b ∧ ¬ S b
  have g5 : ∀ {M : Addr → Prop}, (∀ b, X1 b → M b) → Gr (del (upd H3 p0 (.lst [.ref p1, .ref p2, .ref p3])) M) (del (upd H3 p0 (.lst [.ref p1, .ref p2, .ref p3])) X1) := fun hM => gr_del fun b o n hb e => ⟨fun z => hb (hM b z), e⟩
  have gl : Gr (del H3 (Sl (((F.own p1).own p2).own p3) δ3 σ)) (del (upd H3 p0 (.lst [.ref p1, .ref p2, .ref p3])) X1) := gr_del fun b o n hb e => ⟨fun z => hb (by
    rcases z.1 with m | m
    · exact .inl (MA.set_d (fun _ q => by cases q) m).1
    · exact .inr m), by
    have nb : b ≠ p0 := fun z => by rw [z, h0] at e; cases e
    rw [upd_ne nb]; exact e⟩
  have at_ : ∀ {b : Addr} {ws : List V} {ds : List PyData}, S b → b ≠ p0 → H3 b = some (.lst ws) → RpL G.K (del H3 (Sl (((F.own p1).own p2).own p3) δ3 σ)) ds ws → Rp G.K (del (upd H3 p0 (.lst [.ref p1, .ref p2, .ref p3])) X1) (.list ds) (.ref b) := fun {b ws ds} hS nb e rr =>
    .lst (del_some.mpr ⟨fun z => z.2 hS, by rw [upd_ne nb]; exact e⟩) (RpL.gr gl rr)
  have rows : Rp G.K (del (upd H3 p0 (.lst [.ref p1, .ref p2, .ref p3])) X1) (.list [.list xs, .list ys, .list zs]) (.ref p0) :=
    .lst (del_some.mpr ⟨fun z => z.2 (.inl rfl), upd_same⟩) (.cons (at_ (.inr (.inl rfl)) ne1 a1' b1') (.cons (at_ (.inr (.inr (.inl rfl))) ne2 a2' b2') (.cons (at_ (.inr (.inr (.inr rfl))) ne3 a3 b3) .nil)))
  have rwy : Rp G.K (del (upd H3 p0 (.lst [.ref p1, .ref p2, .ref p3])) X1) y w := Rp.gr (g5 fun b z => z.1) rw_
  show spP G.K G.cs C [.ref p0, w] _ _ E0
  refine ⟨_, _, X1, c, .cons rows (.cons rwy .nil), fun b z => x_ex J5 b z.1, J5.tab, fun d v H6 hd rd kp tk tb => ?_⟩
  subst hd
  cases rd
  have J6 := J5.called kp tk tb
  have P0 : H6 p0 = some (.lst [.ref p1, .ref p2, .ref p3]) := kp _ _ (nt_lst _) upd_same
  have P1 : H6 p1 = some (.lst us1) := kp _ _ (nt_lst _) (by rw [upd_ne ne1]; exact a1')
  have P2 : H6 p2 = some (.lst us2) := kp _ _ (nt_lst _) (by rw [upd_ne ne2]; exact a2')
  have P3 : H6 p3 = some (.lst us3) := kp _ _ (nt_lst _) (by rw [upd_ne ne3]; exact a3)
  refine ⟨true, rfl, iteF ?_⟩
  refine ⟨.ref p0, hσi, p0, rfl, ⟨_, SqL.of P0⟩, ?_⟩
  have fr : ∀ b, (b = p1 ∨ b = p2 ∨ b = p3) → (((F.own p1).own p2).own p3).X0 b ∧ F.H0 b = none ∧ ¬ F.M0 b ∧ ¬ F.W0 b := fun b hb => by
    rcases hb with rfl | rfl | rfl
    · exact ⟨.inr (.inr (.inl rfl)), N1.h0, N1.m0, N1.w0⟩
    · exact ⟨.inr (.inl rfl), N2.h0, N2.m0, N2.w0⟩
    · exact ⟨.inl rfl, N3.h0, N3.m0, N3.w0⟩
  let Pv : Nat → L2.St → Hp → Prop := fun m τ H7 => EI G (((F.own p1).own p2).own p3) ((δ3.set i none).set r none) τ H7 ∧ H7 p0 = some (.lst [.ref p1, .ref p2, .ref p3]) ∧
    ∀ n b, m ≤ n → [V.ref p1, .ref p2, .ref p3][n]? = some (.ref b) → (b = p1 ∨ b = p2 ∨ b = p3) ∧ b ≠ p0 ∧ ∃ ws, H7 b = some (.lst ws) ∧ ws.length < sizeLine
  have hlr : r < (δ3.set i none).length := by rw [List.length_set, l3]; exact lr
  refine for_list (xs := [.ref p1, .ref p2, .ref p3]) (fun m τ H7 => Pv m τ H7) ⟨?_, P0, ?_⟩ ?_ ?_ ?_
  · exact J6.less (by rw [List.length_set]) fun m e h => by
      rcases get_set h with ⟨_, e1, _⟩ | ⟨_, h1⟩
      · cases e1
      · exact h1
  · intro n b _ e
    match n, e with
    | 0, e => cases e; exact ⟨.inl rfl, ne1, _, P1, by rw [← b1.len]; exact lx⟩
    | 1, e => cases e; exact ⟨.inr (.inl rfl), ne2, _, P2, by rw [← b2.len]; exact ly⟩
    | 2, e => cases e; exact ⟨.inr (.inr rfl), ne3, _, P3, by rw [← b3.len]; exact lz⟩
    | n + 3, e => simp at e
  · rintro m τ H7 _ ⟨_, e, _⟩
    exact SqL.of e
  · rintro m x τ H7 hx ⟨J7, e0, hall⟩
    obtain ⟨b, rfl⟩ : ∃ b, x = .ref b := by
      match m, hx with
      | 0, hx => cases hx; exact ⟨_, rfl⟩
      | 1, hx => cases hx; exact ⟨_, rfl⟩
      | 2, hx => cases hx; exact ⟨_, rfl⟩
      | m + 3, hx => simp at hx
    obtain ⟨hb, nb, ws, hws, hl⟩ := hall m b (Nat.le_refl _) hx
    obtain ⟨fb1, fb2, fb3, fb4⟩ := fr b hb
    have lt7 : r < τ.length := by rw [← J7.len, List.length_set]; exact hlr
    have hτ : (τ.set r (some (V.ref b)))[r]? = some (some (V.ref b)) := List.getElem?_set_self lt7
    have J8 : EI G (((F.own p1).own p2).own p3) ((δ3.set i none).set r none) (τ.set r (some (.ref b))) H7 := by
      have := J7.set_n (i := r) (v := some (.ref b)) hr
      rw [List.set_set] at this
      exact this
    have nm : ¬ MA ((δ3.set i none).set r none) (τ.set r (some (.ref b))) b := fun z => by
      rcases J8.own b z with w | ⟨_, w⟩
      · exact fb3 w
      · exact w fb1
    obtain ⟨J9, _⟩ := J8.poke (ws := ws ++ [.int 7]) fb1 nm fb2 fb3 fb4 hws
    obtain ⟨J10, _⟩ := J9.poke (ws := (ws ++ [V.int 7]).reverse) fb1 nm fb2 fb3 fb4 upd_same
    refine ⟨_, hτ, .inl ⟨rfl, ws, SqL.of hws⟩, b, ws, .int 7, rfl, rfl, hws, hl, ?_⟩
    refine ⟨_, hτ, .inl ⟨rfl, _, SqL.of upd_same⟩, b, _, rfl, rfl, upd_same, ?_⟩
    refine ⟨J10, ?_, fun n b' hn e => ?_⟩
    · rw [upd_ne (Ne.symm nb), upd_ne (Ne.symm nb)]
      exact e0
    · obtain ⟨h1, h2, ws', h3, h4⟩ := hall n b' (by omega) e
      have nbb : b' ≠ b := by
        intro z
        subst z
        have nd12 : p1 ≠ p2 := fun z => N2.x0 (.inl z.symm)
        have nd13 : p1 ≠ p3 := fun z => N3.x0 (.inr (.inl z.symm))
        have nd23 : p2 ≠ p3 := fun z => N3.x0 (.inl z.symm)
        match m, n, hn, hx, e with
        | 0, 1, _, h, e => cases h; cases e; exact nd12 rfl
        | 0, 2, _, h, e => cases h; cases e; exact nd13 rfl
        | 1, 2, _, h, e => cases h; cases e; exact nd23 rfl
        | m, n + 3, _, _, e => simp at e
        | m + 1, 0, hn, _, _ => omega
        | 0, 0, hn, _, _ => omega
        | m + 1, 1, hn, _, _ => omega
        | m + 2, 2, hn, _, _ => omega
      exact ⟨h1, h2, ws', by rw [upd_ne nbb, upd_ne nbb]; exact h3, h4⟩
  · rintro τ H7 ⟨J7, _, _⟩
    exact sd F τ H7 D (N0_ei N1.w0 (N0_ei N2.w0 (N0_ei N3.w0 J7))) k
end
end DX


set_option Elab.async false
set_option linter.all false
set_option maxRecDepth 100000
set_option maxHeartbeats 1000000
namespace DX
open PySem PySem.Spec PyProof.Rows L2 GxR GA
open Classical
section
variable {G : Gx} {F : Fx} {δ δ' : DEnv} {σ σ' : L2.St} {H H' : Hp} {ta tb t1 t2 tY : TE} {tr : TA} {Q : PyData → DEnv → Prop} {QS : Out → Prop} {a : TS}
theorem ed_gcd (h : EA G tr δ fun as δ1 => ∃ i j : Int, allD as = some [.int i, .int j] ∧ Q (.int ((Nat.gcd i.natAbs j.natAbs : Nat) : Int)) δ1) : ED G (tCB rGcd tr) δ Q := fun F σ H R I k =>
  h F σ H _ I fun as vs δ1 H1 ⟨i, j, e, q⟩ J r => by
    have r2 := allD_ok e r
    cases r2 with
    | cons r3 r4 => cases r4 with
      | cons r5 r6 => cases r6; cases r3; cases r5; exact ⟨i, j, rfl, k _ _ δ1 H1 q J (.int _)⟩
theorem ed_notB (h : ED G ta δ fun x δ1 => ED G tb δ1 fun y δ2 => ∃ b c : Bool, x = .bool b ∧ y = .bool c ∧ Q (.bool (!decide (b = c))) δ2) : ED G (tOp rNotB ta tb) δ Q :=
  ed_two h fun F σ H R x y u v δ2 ⟨b, c, e1, e2, q⟩ I r1 r2 k => by
    subst e1 e2
    cases r1; cases r2
    exact ⟨b, c, rfl, rfl, k _ _ δ2 H q I (.bl _)⟩
/-- two new lists in a list; they are asked, then changed, then forgotten -/
theorem sd_rows2 {C : CtP} {i : Nat} (hi : i ∉ G.pn) (li : i < δ.length)
    (h : EF G t1 δ fun xs δ1 => EF G t2 δ1 fun ys δ2 => xs.length < sizeLine ∧ ED G tY (δ2.set i none) fun y δ3 => δ3 = δ2.set i none ∧ C [.list [.list xs, .list ys], y] (fun d => d = .bool true) ∧ QS (.nx (δ2.set i none))) :
    SD G (tSeq (tAsg (tLst (tCons t1 (tCons t2 tNil))) (gName i)) (tSeq (tIfS (tNot (tB (tCall (spP G.K G.cs C) [] E0 (tCons (tVar i) (tCons tY tNil))))) a tNext)
      (tSeq (tDrop (tBM G.K "list" rAppend (tOp (rIx G.K) (tVar i) (tC (.int 0))) (tCons (tC (.int 1)) tNil))) (tDrop (tBM0 G.K "list" rClear (tOp (rIx G.K) (tVar i) (tC (.int 1)))))))) δ QS := fun F σ H D I k => by
  show t1 σ H _
  refine EF.next h I fun xs p1 δ1 H1 q1 N1 n1 _ _ => ?_
  show t2 σ H1 _
  refine EF.next q1 N1.ei fun ys p2 δ2 H2 q2 N2 n2 k2 g2 => ?_
  obtain ⟨lx, q3⟩ := q2
  obtain ⟨us1, a1, b1⟩ := N1.at_
  obtain ⟨us2, a2, b2⟩ := N2.at_
  have a1' := k2 p1 _ (nt_lst _) N1.ma N1.w0 a1
  have b1' := RpL.gr g2 b1
  have J2 := N2.ei
  have l2 : δ2.length = δ.length := J2.len.trans I.len.symm
  refine ⟨by show 2 ≤ sizeLine; decide, fun p0 h0 => ?_⟩
  have J4 := J2.laid h0 (nt_lst [.ref p1, .ref p2])
  obtain ⟨f0, fM, fX, fm⟩ := J2.fresh h0
  have J5 := J4.set_n (i := i) (v := some (.ref p0)) hi
  have ne1 : p1 ≠ p0 := fun z => by rw [z, h0] at a1'; cases a1'
  have ne2 : p2 ≠ p0 := fun z => by rw [z, h0] at a2; cases a2
  have hli : i < σ.length := by rw [← I.len]; exact li
  have hσi : (σ.set i (some (V.ref p0)))[i]? = some (some (V.ref p0)) := List.getElem?_set_self hli
  have m1 : ¬ MA (δ2.set i none) (σ.set i (some (.ref p0))) p1 := fun z => by
    have z := (MA.set_d (fun _ q => by cases q) z).1
    rcases J2.own p1 z with w | ⟨_, w⟩
    · exact N1.m0 w
    · exact w (.inr (.inl rfl))
  have m2 : ¬ MA (δ2.set i none) (σ.set i (some (.ref p0))) p2 := fun z => N2.ma (MA.set_d (fun _ q => by cases q) z).1
  have m0 : ¬ MA (δ2.set i none) (σ.set i (some (.ref p0))) p0 := fun z => fm (MA.set_d (fun _ q => by cases q) z).1
  refine ⟨.ref p0, hσi, ?_⟩
  refine q3.go J5 fun y w δ3 H5 q4 s5 ry => ?_
  obtain ⟨rfl, c, qs⟩ := q4
  have J5' := s5.ei
  have P0 := s5.kp p0 _ (nt_lst _) m0 (J2.freshW h0) upd_same
  have P1 := s5.kp p1 _ (nt_lst _) m1 N1.w0 (by rw [upd_ne ne1]; exact a1')
  have P2 := s5.kp p2 _ (nt_lst _) m2 N2.w0 (by rw [upd_ne ne2]; exact a2)
  let S : Addr → Prop := fun b => b = p0 ∨ b = p1 ∨ b = p2
  let X1 : Addr → Prop := fun b => Sl ((F.own p1).own p2) (δ2.set i none) (σ.set i (some (.ref p0))) b ∧ ¬ S b
  have gl : Gr (del H2 (Sl ((F.own p1).own p2) δ2 σ)) (del H5 X1) := gr_del fun b o n hb e => by
    have nb : b ≠ p0 := fun z => by rw [z, h0] at e; cases e
    have nm : ¬ MA (δ2.set i none) (σ.set i (some (.ref p0))) b := fun m => hb (.inl (MA.set_d (fun _ q => by cases q) m).1)
    refine ⟨fun z => ?_, s5.kp b o n nm (fun w => hb (.inr (J2.wl b w).1)) (by rw [upd_ne nb]; exact e)⟩
    rcases z.1 with m | m
    · exact nm m
    · exact hb (.inr m)
  have rows : Rp G.K (del H5 X1) (.list [.list xs, .list ys]) (.ref p0) :=
    .lst (del_some.mpr ⟨fun z => z.2 (.inl rfl), P0⟩) (.cons (.lst (del_some.mpr ⟨fun z => z.2 (.inr (.inl rfl)), P1⟩) (RpL.gr gl b1')) (.cons (.lst (del_some.mpr ⟨fun z => z.2 (.inr (.inr rfl)), P2⟩) (RpL.gr gl b2)) .nil))
  have rwy : Rp G.K (del H5 X1) y w := Rp.gr (gr_del fun b o n hb e => ⟨fun z => hb z.1, e⟩) ry
  show spP G.K G.cs C [.ref p0, w] _ _ E0
  refine ⟨_, _, X1, c, .cons rows (.cons rwy .nil), fun b z => x_ex J5' b z.1, J5'.tab, fun d v H6 hd rd kp tk tb => ?_⟩
  subst hd
  cases rd
  have J6 := J5'.called kp tk tb
  have P0 := kp _ _ (nt_lst _) P0
  have P1 := kp _ _ (nt_lst _) P1
  have P2 := kp _ _ (nt_lst _) P2
  refine ⟨true, rfl, iteF ?_⟩
  have nd12 : p1 ≠ p2 := fun z => N2.x0 (.inl z.symm)
  have x1 : ((F.own p1).own p2).X0 p1 := .inr (.inl rfl)
  have x2 : ((F.own p1).own p2).X0 p2 := .inl rfl
  obtain ⟨J7, _⟩ := J6.poke (ws := us1 ++ [V.int 1]) x1 m1 N1.h0 N1.m0 N1.w0 P1
  have P0' : (upd H6 p1 (.lst (us1 ++ [V.int 1]))) p0 = some (.lst [.ref p1, .ref p2]) := by rw [upd_ne (Ne.symm ne1)]; exact P0
  have P2' : (upd H6 p1 (.lst (us1 ++ [V.int 1]))) p2 = some (.lst us2) := by rw [upd_ne (Ne.symm nd12)]; exact P2
  obtain ⟨J8, _⟩ := J7.poke (ws := []) x2 m2 N2.h0 N2.m0 N2.w0 P2'
  refine ⟨.ref p0, hσi, .inl ⟨p0, _, 0, .ref p1, rfl, rfl, SqL.of P0, rfl, .inl ⟨rfl, us1, SqL.of P1⟩, p1, us1, .int 1, rfl, rfl, P1, by rw [← b1.len]; exact lx, ?_⟩⟩
  refine ⟨.ref p0, hσi, .inl ⟨p0, _, 1, .ref p2, rfl, rfl, SqL.of P0', rfl, .inl ⟨rfl, us2, SqL.of P2'⟩, p2, us2, rfl, rfl, P2', ?_⟩⟩
  exact k _ qs _ _ (N0_ei N1.w0 (N0_ei N2.w0 J8))
end
end DX


set_option Elab.async false
set_option linter.all false
set_option maxRecDepth 100000
set_option maxHeartbeats 1000000
namespace DX
open PySem PySem.Spec PyProof.Rows L2 GxR GA
open Classical
/-! ### functions that draw from a deck, their first argument -/
abbrev CtK := Nat → List PyData → (PyData → Nat → Prop) → Prop
def spK (K : PySem.W.Frag) (cs : List Addr) (C : CtK) : Sp := fun vs H Q _ => ∃ (a : Addr) (vs' : List V) (n : Nat) (xs : List PyData) (P : PyData → Nat → Prop) (X0 W : Addr → Prop), vs = .ref a :: vs' ∧ Deck W H a n ∧ (∀ b, W b → X0 b) ∧ RpL K (del H X0) xs vs' ∧ C n xs P ∧
  (∀ a, X0 a → ∃ o, H a = some o ∧ NT o) ∧ (∀ p ∈ cs, TabG H p) ∧
  ∀ d v H' n', P d n' → Deck W H' a n' → Rp K (del H' X0) d v → (∀ b o, ¬ W b → NT o → H b = some o → H' b = some o) → (∀ b, W b → ∃ o, H' b = some o ∧ NT o) → (∀ b ps, H b = some (.tbl ps) → ∃ qs, H' b = some (.tbl qs)) → (∀ p ∈ cs, TabG H' p) → Q v H'
/-- a function that hands back a new deck -/
abbrev CtD := List PyData → (Nat → Prop) → Prop
def spD (K : PySem.W.Frag) (cs : List Addr) (C : CtD) : Sp := fun vs H Q _ => ∃ (xs : List PyData) (P : Nat → Prop) (X0 : Addr → Prop), C xs P ∧ RpL K (del H X0) xs vs ∧ (∀ a, X0 a → ∃ o, H a = some o ∧ NT o) ∧ (∀ p ∈ cs, TabG H p) ∧
  ∀ n a W H', P n → (∀ b, W b → H b = none ∧ ∃ o, H' b = some o ∧ NT o) → Deck W H' a n → (∀ b o, NT o → H b = some o → H' b = some o) → (∀ b ps, H b = some (.tbl ps) → ∃ qs, H' b = some (.tbl qs)) → (∀ p ∈ cs, TabG H' p) → Q (.ref a) H'
theorem tbl_of {o : HO} (h : ¬ NT o) : ∃ ps, o = .tbl ps := Classical.byContradiction fun w => h fun ps e => w ⟨ps, e⟩
section
variable {G : Gx} {F : Fx} {δ δ' : DEnv} {σ σ' : L2.St} {H H' : Hp} {ta tb tc : TE} {tr tk : TA} {Q : PyData → DEnv → Prop}
theorem MA.set_1 {i : Nat} {x : Option E} (hx : ∀ xs, x ≠ some (E.m xs)) {a : Addr} (h : MA (δ.set i x) σ a) : MA δ σ a := by
  obtain ⟨j, zs, e1, e2⟩ := h
  rcases get_set e1 with ⟨_, e, _⟩ | ⟨_, e3⟩
  · exact absurd e.symm (hx zs)
  · exact ⟨j, zs, e3, e2⟩
theorem ed_callK {C : CtK} {i n0 : Nat} (hi : δ[i]? = some (some (E.k n0))) (h : EA G tr δ fun as δ1 => ∃ xs n, allD as = some xs ∧ δ1[i]? = some (some (E.k n)) ∧ C n xs fun d n' => Q d (δ1.set i (some (.k n')))) :
    ED G (tCall (spK G.K G.cs C) [] E0 (tCons (tVar i) tr)) δ Q := fun F σ H R I k => by
  obtain ⟨v, h1, _⟩ := I.slot i _ hi
  refine ⟨v, h1, h.go I fun as vs δ1 H1 ⟨xs, n, e, hi1, c⟩ s1 r1 => ?_⟩
  have J := s1.ei
  obtain ⟨v', h1', a, ev, dk⟩ := J.slot i _ hi1
  rw [h1] at h1'
  cases h1'
  subst ev
  show spK G.K G.cs C (V.ref a :: vs ++ []) H1 R E0
  rw [List.append_nil]
  refine ⟨a, vs, n, xs, _, Sl F δ1 σ, F.W0, rfl, dk, fun b w => .inr (J.wl b w).1, allD_ok e r1, c, x_ex J, J.tab, fun d w H' n' p dk' rd kp ex tkk tb => ?_⟩
  have old : ∀ {b}, MA (δ1.set i (some (.k n'))) σ b → MA δ1 σ b := fun {b} z => MA.set_1 (fun _ q => by cases q) z
  have gr : Gr (del H1 (Sl F δ1 σ)) (del H' (Sl F (δ1.set i (some (.k n'))) σ)) := gr_del fun b u nt hb e => ⟨fun z => hb (z.imp old id), kp b u (fun w => hb (.inr (J.wl b w).1)) nt e⟩
  have sub : Gr (del H' (Sl F δ1 σ)) (del H' (Sl F (δ1.set i (some (.k n'))) σ)) := gr_del fun b u nt hb e => ⟨fun z => hb (z.imp old id), e⟩
  refine k d w _ H' p ⟨by rw [List.length_set]; exact J.len, fun j e h4 => ?_, fun j l zs us b e1 e2 e3 e4 => ?_, fun b hb => J.own b (old hb), fun b u nt hb hw e => kp b u hw nt (J.keep b u nt hb hw e), fun b hb => ?_, J.pin, tb, fun b ps e => ?_, fun b hb => ?_, fun j zs b e1 e2 hb => ?_, fun b w => ⟨(J.wl b w).1, fun z => (J.wl b w).2 (old z)⟩, J.k1.setK hi1⟩ (rd.gr sub)
  · rcases get_set h4 with ⟨e0, e1, hl⟩ | ⟨ne, e1⟩
    · subst e0
      cases e1
      exact ⟨_, h1, a, rfl, dk'⟩
    · obtain ⟨w2, e2, e3⟩ := J.slot j e e1
      refine ⟨w2, e2, ?_⟩
      cases e with
      | d x => exact Rp.gr gr e3
      | err D => exact XR.gr gr e3
      | k m => exact absurd (J.k1 j i _ _ e1 hi1) ne
      | m zs =>
        obtain ⟨b, us, h4, h5, h6⟩ := e3
        subst h4
        exact ⟨b, us, rfl, kp _ _ (fun w => (J.wl b w).2 ⟨j, zs, e1, e2⟩) (nt_lst _) h5, RpL.gr gr h6⟩
  · rcases get_set e1 with ⟨_, e, _⟩ | ⟨_, e1⟩
    · cases e
    · rcases get_set e2 with ⟨_, e, _⟩ | ⟨_, e2⟩
      · cases e
      · exact J.nd j l zs us b e1 e2 e3 e4
  · by_cases hw : F.W0 b
    · exact ex b hw
    · obtain ⟨o, e, nt⟩ := J.ex b hb
      exact ⟨o, kp b o hw nt e, nt⟩
  · obtain ⟨qs, e1⟩ := J.tk b ps e
    exact tkk b qs e1
  · by_cases hw : F.W0 b
    · obtain ⟨o, e, _⟩ := ex b hw
      exact ⟨o, e⟩
    · obtain ⟨o, e⟩ := J.mt b hb
      by_cases hn : NT o
      · exact ⟨o, kp b o hw hn e⟩
      · obtain ⟨ps, rfl⟩ := tbl_of hn
        obtain ⟨qs, e⟩ := tkk b ps e
        exact ⟨_, e⟩
  · rcases get_set e1 with ⟨_, e, _⟩ | ⟨_, e1⟩
    · cases e
    · exact J.mx j zs b e1 e2 hb
end
/-! ### a def's body -/
def envK (N : List Str) (n : Nat) (xs : List PyData) : DEnv := some (.k n) :: (xs.map (fun x => some (E.d x)) ++ List.replicate (N.length - (xs.length + 1)) none)
def QK (P : PyData → Nat → Prop) : Out → Prop
  | .rf xs δ => ∃ n, δ[0]? = some (some (E.k n)) ∧ P (.list xs) n
  | .rm i δ => ∃ n xs, δ[0]? = some (some (E.k n)) ∧ δ[i]? = some (some (E.m xs)) ∧ P (.list xs) n
  | .rt d δ => ∃ n, δ[0]? = some (some (E.k n)) ∧ P d n
  | .nx δ => ∃ n, δ[0]? = some (some (E.k n)) ∧ P .none n
  | _ => False
theorem body_K {K : PySem.W.Frag} {cs : List Addr} {C : CtK} {t : TS} {N : List Str} {vs : List V} {H : Hp} {Q : VK} {E' : XK} (hs : ∀ n xs P, C n xs P → SD ⟨K, cs, [0]⟩ t (envK N n xs) (QK P)) (h : spK K cs C vs H Q E') :
    t { nx := fun _ H' => Q .non H', rt := Q } (L2.start N vs) H := by
  obtain ⟨a, vs', n, xs, P, X0, W, rfl, dk, hW, r, c, ex, tb, k⟩ := h
  have sd := hs n xs P c
  have len := r.len
  have noM : ∀ {i : Nat} {ys : List PyData}, (envK N n xs)[i]? ≠ some (some (E.m ys)) := fun {i ys} e => by
    unfold envK at e
    cases i with
    | zero => cases e
    | succ i =>
      rw [List.getElem?_cons_succ] at e
      by_cases hi : i < (xs.map fun x => some (E.d x)).length
      · rw [List.getElem?_append_left hi, List.getElem?_map] at e
        cases q : xs[i]? with
        | none => rw [q] at e; cases e
        | some x => rw [q] at e; cases e
      · rw [List.getElem?_append_right (by omega), List.getElem?_replicate] at e
        split at e <;> cases e
  have isK : ∀ {i m : Nat}, (envK N n xs)[i]? = some (some (E.k m)) → i = 0 ∧ m = n := fun {i m} e => by
    unfold envK at e
    cases i with
    | zero => cases e; exact ⟨rfl, rfl⟩
    | succ i =>
      rw [List.getElem?_cons_succ] at e
      by_cases hi : i < (xs.map fun x => some (E.d x)).length
      · rw [List.getElem?_append_left hi, List.getElem?_map] at e
        cases q : xs[i]? with
        | none => rw [q] at e; cases e
        | some x => rw [q] at e; cases e
      · rw [List.getElem?_append_right (by omega), List.getElem?_replicate] at e
        split at e <;> cases e
  have noE : ∀ {i : Nat} {m : Addr}, (envK N n xs)[i]? = some (some (E.err m)) → False := fun {i m} e => by
    unfold envK at e
    cases i with
    | zero => cases e
    | succ i =>
      rw [List.getElem?_cons_succ] at e
      by_cases hi : i < (xs.map fun x => some (E.d x)).length
      · rw [List.getElem?_append_left hi, List.getElem?_map] at e
        cases q : xs[i]? with
        | none => rw [q] at e; cases e
        | some x => rw [q] at e; cases e
      · rw [List.getElem?_append_right (by omega), List.getElem?_replicate] at e
        split at e <;> cases e
  have s0 : (L2.start N (V.ref a :: vs'))[0]? = some (some (V.ref a)) := rfl
  have g0 : Gr (del H X0) (del H fun b => MA (envK N n xs) (L2.start N (V.ref a :: vs')) b ∨ X0 b) := gr_del fun b u nt hb e => ⟨fun z => hb (z.elim (fun ⟨i, ys, h1, _⟩ => absurd h1 noM) id), e⟩
  have I : EI ⟨K, cs, [0]⟩ ⟨H, fun _ => False, X0, L2.start N (V.ref a :: vs'), W⟩ (envK N n xs) (L2.start N (V.ref a :: vs')) H := by
    refine ⟨?_, fun i e h => ?_, fun i j ys zs b h1 => absurd h1 noM, fun b ⟨i, ys, h1, _⟩ => absurd h1 noM, fun b o _ _ _ e => e, ex, fun i hi => rfl, tb, fun b ps e => ⟨ps, e⟩, fun b hb => hb.elim, fun i ys b h1 => absurd h1 noM, fun b w => ⟨hW b w, fun ⟨i, ys, h1, _⟩ => absurd h1 noM⟩, fun i j m l h1 h2 => by rw [(isK h1).1, (isK h2).1]⟩
    · unfold envK L2.start
      simp only [List.length_append, List.length_map, List.length_replicate, List.length_cons, len]
      omega
    · cases e with
      | m ys => exact absurd h noM
      | err D => exact (noE h).elim
      | k m =>
        obtain ⟨rfl, rfl⟩ := isK h
        exact ⟨_, s0, a, rfl, dk⟩
      | d x =>
        unfold envK at h
        cases i with
        | zero => cases h
        | succ i =>
          rw [List.getElem?_cons_succ] at h
          by_cases hi : i < (xs.map fun x => some (E.d x)).length
          · rw [List.getElem?_append_left hi, List.getElem?_map] at h
            cases q : xs[i]? with
            | none => rw [q] at h; cases h
            | some y =>
              rw [q] at h
              cases h
              obtain ⟨v, h1, h2⟩ := r.get q
              refine ⟨v, ?_, h2.gr g0⟩
              unfold L2.start
              have hi2 : i < vs'.length := (List.getElem?_eq_some_iff.mp h1).1
              rw [List.getElem?_append_left (by rw [List.length_map, List.length_cons]; omega), List.getElem?_map, List.getElem?_cons_succ, h1]
              rfl
          · rw [List.getElem?_append_right (by omega), List.getElem?_replicate] at h
            split at h <;> cases h
  have fin : ∀ {δ' : DEnv} {σ' : L2.St} {H' : Hp} {d : PyData} {v : V} {m : Nat}, δ'[0]? = some (some (E.k m)) → P d m → EI ⟨K, cs, [0]⟩ ⟨H, fun _ => False, X0, L2.start N (V.ref a :: vs'), W⟩ δ' σ' H' → Rp K (del H' fun a => MA δ' σ' a ∨ X0 a) d v → Q v H' := fun {δ' σ' H' d v m} h0 p J r' => by
    obtain ⟨w, e1, b, e2, dk'⟩ := J.slot 0 _ h0
    have e5 : σ'[0]? = (L2.start N (V.ref a :: vs'))[0]? := J.pin 0 (by simp)
    rw [e1, s0] at e5
    cases e5
    cases e2
    have sub : Gr (del H' fun a => MA δ' σ' a ∨ X0 a) (del H' X0) := gr_del fun b u n hb e => ⟨fun z => hb (.inr z), e⟩
    exact k d v H' m p dk' (r'.gr sub) (fun b o hb n e => J.keep b o n (fun z => z) hb e) (fun b w => J.ex b (hW b w)) J.tk J.tab
  refine sd _ _ _ _ I fun o q => ?_
  cases o with
  | nx δ' => obtain ⟨us, h0, p⟩ := q; exact fun σ' H' J => fin h0 p J .non
  | rt d δ' => obtain ⟨us, h0, p⟩ := q; exact fun σ' H' v J r' => fin h0 p J r'
  | bk δ' => exact q.elim
  | r2 i j δ' => exact q.elim
  | ct δ' => exact q.elim
  | rf xs δ' => obtain ⟨us, h0, p⟩ := q; exact fun σ' H' p' N => fin h0 p N.give.1 N.give.2
  | rm i δ' =>
    obtain ⟨us, xs, h0, hi, p⟩ := q
    intro σ' H' b J hb
    have hi0 : i ≠ 0 := fun z => by rw [z, h0] at hi; cases hi
    have N := J.release hi hb (fun z => z)
    exact fin (by rw [List.getElem?_set_ne hi0]; exact h0) p N.give.1 N.give.2
/-! ### the law makes its deck -/
def QPr (P : PyData → Prop) : Out → Prop
  | .rt d _ => P d
  | _ => False
def noK : Option E → Option E
  | some (.k _) => none
  | x => x
section
variable {G : Gx} {F : Fx} {δ δ' : DEnv} {σ σ' : L2.St} {H H' : Hp} {tr : TA} {rest : TS}
theorem EI.drop {W : Addr → Prop} (J : EI G ⟨F.H0, F.M0, fun b => W b ∨ F.X0 b, F.s0, fun b => W b ∨ F.W0 b⟩ δ σ H) (hW : ∀ b, W b → F.H0 b = none) (hx : ∀ b, F.W0 b → F.X0 b) (hk : ∀ (j n : Nat), δ[j]? ≠ some (some (E.k n))) : EI G F δ σ H := by
  have sub : Gr (del H (Sl ⟨F.H0, F.M0, fun b => W b ∨ F.X0 b, F.s0, fun b => W b ∨ F.W0 b⟩ δ σ)) (del H (Sl F δ σ)) := gr_del fun b u n hb e => ⟨fun z => hb (z.imp id .inr), e⟩
  refine ⟨J.len, fun i e h => ?_, J.nd, fun a ha => ?_, fun b o n hb hw e => J.keep b o n hb (fun w => w.elim (fun w => by have w := hW b w; rw [show F.H0 b = some o from e] at w; cases w) hw) e, fun a ha => J.ex a (.inr ha), J.pin, J.tab, J.tk, J.mt, fun i xs a e1 e2 ha => J.mx i xs a e1 e2 (.inr ha), fun a w => ⟨hx a w, (J.wl a (.inr w)).2⟩, J.k1⟩
  · obtain ⟨v, h1, h2⟩ := J.slot i e h
    refine ⟨v, h1, ?_⟩
    cases e with
    | d x => exact Rp.gr sub h2
    | err D => exact XR.gr sub h2
    | k n => exact absurd h (hk i n)
    | m ys =>
      obtain ⟨a, ws, h4, h5, h6⟩ := h2
      exact ⟨a, ws, h4, h5, RpL.gr sub h6⟩
  · rcases J.own a ha with z | ⟨z, zx⟩
    · exact .inl z
    · exact .inr ⟨z, fun w => zx (.inr w)⟩
theorem noK_get {δ : DEnv} {j : Nat} {e : E} (h : (δ.map noK)[j]? = some (some e)) : δ[j]? = some (some e) ∧ ∀ n, e ≠ .k n := by
  rw [List.getElem?_map] at h
  cases q : δ[j]? with
  | none => rw [q] at h; cases h
  | some o =>
    rw [q] at h
    cases o with
    | none => cases h
    | some e' =>
      cases e' with
      | k m => cases h
      | err x => cases h; exact ⟨rfl, fun n z => by cases z⟩
      | d x => cases h; exact ⟨rfl, fun n z => by cases z⟩
      | m x => cases h; exact ⟨rfl, fun n z => by cases z⟩
theorem sd_deck {C : CtD} {i : Nat} {P : PyData → Prop} (hi : i ∉ G.pn) (li : i < δ.length) (hno : ∀ (j n : Nat), δ[j]? ≠ some (some (E.k n))) (h : EA G tr δ fun as δ1 => δ1 = δ ∧ ∃ xs, allD as = some xs ∧ C xs fun n => SD G rest (δ.set i (some (.k n))) (QPr P)) :
    SD G (tSeq (tAsg (tCall (spD G.K G.cs C) [] E0 tr) (gName i)) rest) δ (QP P) := fun F σ H D I k => by
  refine h F σ H _ I fun as vs δ1 H1 ⟨e0, xs, e, c⟩ J r1 => ?_
  subst e0
  show spD G.K G.cs C (vs ++ []) H1 _ E0
  rw [List.append_nil]
  refine ⟨xs, _, Sl F δ1 σ, c, allD_ok e r1, x_ex J, J.tab, fun n a W H' p hW dk kp tk tb => ?_⟩
  have J2 := J.called_own (S := W) kp tk tb hW
  have nm : ∀ b, W b → ¬ MA δ1 σ b := fun b w => (J.fresh (hW b w).1).2.2.2
  have old : ∀ {b}, MA (δ1.set i (some (.k n))) (σ.set i (some (.ref a))) b → MA δ1 σ b := fun {b} z => (MA.set_d (fun _ q => by cases q) z).1
  have J3 : EI G ⟨F.H0, F.M0, fun b => W b ∨ F.X0 b, F.s0, fun b => W b ∨ F.W0 b⟩ (δ1.set i (some (.k n))) (σ.set i (some (.ref a))) H' := by
    have gr : Gr (del H' (Sl { F with X0 := fun a => W a ∨ F.X0 a } δ1 σ)) (del H' (Sl ⟨F.H0, F.M0, fun b => W b ∨ F.X0 b, F.s0, fun b => W b ∨ F.W0 b⟩ (δ1.set i (some (.k n))) (σ.set i (some (.ref a))))) := gr_del fun b u nt hb e => ⟨fun z => hb (z.imp old id), e⟩
    refine ⟨by rw [List.length_set, List.length_set]; exact J2.len, fun j e h4 => ?_, fun j l zs us b e1 e2 e3 e4 => ?_, fun b hb => J2.own b (old hb), fun b o nt hb hw e => J2.keep b o nt hb (fun w => hw (.inr w)) e, J2.ex, fun j hj => ?_, J2.tab, J2.tk, J2.mt, fun j zs b e1 e2 hb => ?_, fun b w => ⟨w.elim .inl fun w => .inr (J.wl b w).1, fun z => w.elim (fun w => nm b w (old z)) fun w => (J.wl b w).2 (old z)⟩, fun j l m m' h1 h2 => ?_⟩
    · rcases get_set h4 with ⟨e0, e1, hl⟩ | ⟨ne, e1⟩
      · subst e0
        cases e1
        refine ⟨.ref a, by rw [List.getElem?_set_self (by rw [← J.len]; exact hl)], a, rfl, ?_⟩
        obtain ⟨p, c, qs, wa, wp, g1, g2, g3, g4, g5, g6⟩ := dk
        exact ⟨p, c, qs, .inl wa, .inl wp, g1, g2, g3, g4, g5, fun q hq => ⟨.inl (g6 q hq).1, (g6 q hq).2⟩⟩
      · obtain ⟨w2, e2, e3⟩ := J2.slot j e e1
        refine ⟨w2, by rw [List.getElem?_set_ne (fun z => ne z.symm)]; exact e2, ?_⟩
        cases e with
        | d x => exact Rp.gr gr e3
        | err D => exact XR.gr gr e3
        | k m => exact absurd e1 (hno j m)
        | m zs =>
          obtain ⟨b, us, h4, h5, h6⟩ := e3
          exact ⟨b, us, h4, h5, RpL.gr gr h6⟩
    · rcases get_set e1 with ⟨_, e, _⟩ | ⟨n1, e1⟩
      · cases e
      · rcases get_set e2 with ⟨_, e, _⟩ | ⟨n2, e2⟩
        · cases e
        · rw [List.getElem?_set_ne (fun z => n1 z.symm)] at e3
          rw [List.getElem?_set_ne (fun z => n2 z.symm)] at e4
          exact J2.nd j l zs us b e1 e2 e3 e4
    · rw [List.getElem?_set_ne (fun z : i = j => hi (by rw [z]; exact hj))]
      exact J2.pin j hj
    · rcases get_set e1 with ⟨_, e, _⟩ | ⟨n1, e1⟩
      · cases e
      · rw [List.getElem?_set_ne (fun z => n1 z.symm)] at e2
        exact J2.mx j zs b e1 e2 hb
    · rcases get_set h1 with ⟨e0, _, _⟩ | ⟨_, e1⟩
      · rcases get_set h2 with ⟨e0', _, _⟩ | ⟨_, e2⟩
        · rw [e0, e0']
        · exact absurd e2 (hno _ _)
      · exact absurd e1 (hno _ _)
  refine p _ _ H' D J3 fun o q => ?_
  cases o with
  | rt d δ' =>
    intro σ' H'' v J4 r
    have J5 : EI G F (δ'.map noK) σ' H'' := EI.drop (J4.less (by rw [List.length_map]) fun j e h => (noK_get h).1) (fun b w => (J.fresh (hW b w).1).1) (fun b w => (J.wl b w).1) fun j m h => (noK_get h).2 m rfl
    refine k (.rt d (δ'.map noK)) q σ' H'' v J5 (Rp.gr (gr_del fun b u n hb e => ⟨fun z => hb ?_, e⟩) r)
    rcases z with ⟨j, ys, h1, h2⟩ | z
    · exact .inl ⟨j, ys, (noK_get h1).1, h2⟩
    · exact .inr (.inr z)
  | _ => exact q.elim
end
end DX


set_option Elab.async false
set_option linter.all false
set_option maxRecDepth 100000
set_option maxHeartbeats 1000000
namespace DX
open PySem PySem.Spec PyProof.Rows L2 GxR GA
open Classical
/-! ### zip -/
theorem lc_zip {K : PySem.W.Frag} {a b : Addr} {xs ys : List V} {g : TG} {tt : TT} {te : TE} {vs : List Nat} {σ : L2.St} {H1 : Hp} {D : Addr} {Qd : Hp → Prop} (hl : xs.length = ys.length) (Pv : Nat → Hp → Prop) (h0 : Pv 0 (upd H1 D (.lst []))) (hq : ∀ i H, i ≤ xs.length → Pv i H → SqL K H a xs ∧ SqL K H b ys)
    (hs : ∀ i x y T H, xs[i]? = some x → ys[i]? = some y → Pv i H → H T = none → g (.ref T) (wipe σ vs) (upd H T (.tup [x, y])) fun σ2 H2 => wipe σ2 vs = wipe σ vs ∧ tt σ2 H2 fun b H3 =>
      if b = true then te σ2 H3 fun y H4 => ∃ acc, H4 D = some (.lst acc) ∧ acc.length < sizeLine ∧ Pv (i + 1) (upd H4 D (.lst (acc ++ [y]))) else Pv (i + 1) H3) (hd : ∀ H, Pv xs.length H → Qd H) :
    ∃ W : Nat → Nat → Hp → Prop, (∃ m, W 0 m (upd H1 D (.lst []))) ∧ ∀ i m H, W i m H →
      ((Itz K a b).stop i H ∧ Qd H) ∨ ((Itz K a b).go i H ∧ ∃ Nx : Hp → Prop, (∀ H', Nx H' → ∃ m', m' < m ∧ W (i + 1) m' H') ∧ ∀ x H', (Itz K a b).yld i H x H' → g x (wipe σ vs) H' fun σ2 H2 => wipe σ2 vs = wipe σ vs ∧ tt σ2 H2 fun b H3 =>
        if b = true then te σ2 H3 fun y H4 => ∃ acc, H4 D = some (.lst acc) ∧ acc.length < sizeLine ∧ Nx (upd H4 D (.lst (acc ++ [y]))) else Nx H3) := by
  refine ⟨fun i m H => m = xs.length - i ∧ i ≤ xs.length ∧ Pv i H, ⟨xs.length, by simp, Nat.zero_le _, h0⟩, ?_⟩
  rintro i m H ⟨rfl, hi, p⟩
  obtain ⟨qx, qy⟩ := hq i H hi p
  by_cases hlt : i < xs.length
  · have hlt2 : i < ys.length := by omega
    refine .inr ⟨⟨xs, ys, xs[i], ys[i], qx, qy, by simp [hlt], by simp [hlt2]⟩, Pv (i + 1), fun H' p' => ⟨xs.length - (i + 1), by omega, rfl, hlt, p'⟩, fun x H' y => ?_⟩
    obtain ⟨T, x', y', rfl, hT, rfl, f1, f2⟩ := y
    exact hs i x' y' T H (f1 xs qx) (f2 ys qy) p hT
  · have e : i = xs.length := by omega
    subst e
    exact .inl ⟨⟨xs, ys, qx, qy, .inl (Nat.le_refl _)⟩, hd H p⟩
section
variable {G : Gx} {F : Fx} {δ δ' : DEnv} {σ σ' : L2.St} {H H' : Hp} {ta tb tc te tl : TE} {tr tk : TA} {Q : PyData → DEnv → Prop} {QF : List PyData → DEnv → Prop} {QS : Out → Prop} {tt : TT} {t : TS}
theorem sd_forZ {g : TG} {vs : List Nat} (h : EA G tr δ fun as δ1 => ∃ xs zs, allD as = some [.list xs, .list zs] ∧ xs.length = zs.length ∧ ∃ IV : Nat → DEnv → Prop, IV 0 δ1 ∧
      (∀ k δ2 y z, xs[k]? = some y → zs[k]? = some z → IV k δ2 → DG G g vs (.tuple [y, z]) δ2 fun δ3 => SD G t δ3 (Lp QS (IV (k + 1)))) ∧ ∀ δ2, IV xs.length δ2 → QS (.nx δ2)) : SD G (tFor (iZip G.K tr) g t) δ QS := fun F σ H D I k =>
  h F σ H _ I fun as ws0 δ1 H1 ⟨xs, zs, e, hl, IV, i0, st, fin⟩ J r0 => by
    have r2 := allD_ok e r0
    cases r2 with
    | cons r r4 =>
      cases r4 with
      | cons r' r5 =>
        cases r5
        cases r with
        | @lst a ws _ h1 r1 =>
          cases r' with
          | @lst b us _ h1' r1' =>
            obtain ⟨hno, h2⟩ := del_some.mp h1
            obtain ⟨hno', h2'⟩ := del_some.mp h1'
            have stay : ∀ {δ2 : DEnv} {σ2 : L2.St} {H2 : Hp}, EI G (F.now δ1 σ H1) δ2 σ2 H2 → (H2 a = some (.lst ws) ∧ RpL G.K (del H2 (Sl (F.now δ1 σ H1) δ2 σ2)) xs ws) ∧ (H2 b = some (.lst us) ∧ RpL G.K (del H2 (Sl (F.now δ1 σ H1) δ2 σ2)) zs us) := fun {δ2 σ2 H2} J2 => by
              have s := J.since J2
              exact ⟨⟨s.kp a _ (nt_lst _) (fun z => hno (.inl z)) (fun w => hno (.inr (J.wl a w).1)) h2, RpL.gr s.gr r1⟩, s.kp b _ (nt_lst _) (fun z => hno' (.inl z)) (fun w => hno' (.inr (J.wl b w).1)) h2', RpL.gr s.gr r1'⟩
            refine ⟨a, b, ws, us, rfl, SqL.of h2, SqL.of h2', RZ.for_zipL (xs := ws) (ys := us) (by rw [← r1.len, ← r1'.len, hl]) (fun j σ' H' => ∃ δ2, IV j δ2 ∧ EI G (F.now δ1 σ H1) δ2 σ' H') ⟨δ1, i0, J.now⟩ ?_ ?_ ?_⟩
            · rintro j σ2 H2 ⟨δ2, iv, J2⟩
              exact ⟨SqL.of (stay J2).1.1, SqL.of (stay J2).2.1⟩
            · rintro j y z T σ2 H2 hy hz ⟨δ2, iv, J2⟩ hT
              obtain ⟨d, hd, rd⟩ := (stay J2).1.2.getV hy
              obtain ⟨d', hd', rd'⟩ := (stay J2).2.2.getV hz
              have J3 := J2.laid hT (nt_tup [y, z])
              obtain ⟨_, _, hX, hm⟩ := J2.fresh hT
              have rd2 : Rp G.K (del (upd H2 T (.tup [y, z])) (Sl (F.now δ1 σ H1) δ2 σ2)) (.tuple [d, d']) (.ref T) :=
                .tup (.inl (.inl (del_some.mpr ⟨fun z => z.elim hm hX, upd_same⟩))) (.cons (rd.gr (gr_laid hT)) (.cons (rd'.gr (gr_laid hT)) .nil))
              exact st j δ2 d d' hd hd' iv _ σ2 _ _ _ J3 rd2 fun δ3 σ3 q3 J3 _ _ _ _ => q3 _ σ3 _ _ J3 (loop_ends (fun o q => sat_back J (k o q)) fun δ4 σ4 H4 iv4 J4 => ⟨δ4, iv4, J4⟩)
            · rintro σ2 H2 ⟨δ2, iv, J2⟩
              rw [← r1.len] at iv
              exact k _ (fin δ2 iv) σ2 H2 (J.back J2)
/-- a new tuple beside what a comprehension has -/
theorem LcI.laid {vs : List Nat} {D T : Addr} {Hd : Hp → Prop} {IV : List PyData → DEnv → Prop} {len : Nat} {o : HO} (hn : NT o) (hg : ∀ H H', Gr H H' → Hd H → Hd H') (h : LcI G F σ vs D Hd IV len H) (hT : H T = none) : LcI G F σ vs D Hd IV len (upd H T o) := by
  obtain ⟨acc, δ, iv, hl, ⟨J, nm, nx, n0, nM, nW, ws, hD, ra⟩, hr⟩ := h.ex
  have ne : D ≠ T := fun z => by rw [z, hT] at hD; cases hD
  exact ⟨acc, δ, iv, hl, ⟨J.laid hT hn, nm, nx, n0, nM, nW, ws, by rw [upd_ne ne]; exact hD, RpL.gr (gr_laid hT) ra⟩, hg _ _ (gr_laid hT) hr⟩
/-- [te for g in zip(xs, zs)] -/
theorem ef_lcZ {g : TG} {vs : List Nat} (hp : ∀ j ∈ G.pn, j ∉ vs) (h : EA G tr δ fun as δ1 => ∃ xs zs, allD as = some [.list xs, .list zs] ∧ xs.length = zs.length ∧ xs.length ≤ sizeLine ∧ ∃ IV : Nat → List PyData → DEnv → Prop, IV 0 [] (wipeD δ1 vs) ∧
      (∀ k acc δ2 y z, xs[k]? = some y → zs[k]? = some z → IV k acc (wipeD δ2 vs) → acc.length ≤ k → DG G g vs (.tuple [y, z]) (wipeD δ2 vs) fun δ3 => DT G tt δ3 fun b δ4 => if b = true then ED G te δ4 fun w δ5 => IV (k + 1) (acc ++ [w]) (wipeD δ5 vs) else IV (k + 1) acc (wipeD δ4 vs)) ∧
      ∀ acc δ2, IV xs.length acc (wipeD δ2 vs) → acc.length ≤ xs.length → QF acc (wipeD δ2 vs)) : EF G (tLc (iZip G.K tr) g tt te vs) δ QF := fun F σ H R I k =>
  h F σ H _ I fun as ws0 δ1 H1 ⟨xs, zs, e, hl, hs, IV, i0, st, fin⟩ J r0 => by
    have r2 := allD_ok e r0
    cases r2 with
    | cons r r4 =>
      cases r4 with
      | cons r' r5 =>
        cases r5
        cases r with
        | @lst a ws _ h1 r1 =>
          cases r' with
          | @lst b us _ h1' r1' =>
            obtain ⟨hno, h2⟩ := del_some.mp h1
            obtain ⟨hno', h2'⟩ := del_some.mp h1'
            have hg : ∀ H H' : Hp, Gr H H' → ((H a = some (.lst ws) ∧ RpL G.K H xs ws) ∧ (H b = some (.lst us) ∧ RpL G.K H zs us)) → ((H' a = some (.lst ws) ∧ RpL G.K H' xs ws) ∧ (H' b = some (.lst us) ∧ RpL G.K H' zs us)) := fun H H' g z => ⟨⟨g _ _ (nt_lst _) z.1.1, RpL.gr g z.1.2⟩, g _ _ (nt_lst _) z.2.1, RpL.gr g z.2.2⟩
            refine ⟨a, b, ws, us, rfl, SqL.of h2, SqL.of h2', fun D hD => lc_zip (K := G.K) (a := a) (b := b) (xs := ws) (ys := us) (by rw [← r1.len, ← r1'.len, hl]) (fun j H' => LcI G F σ vs D (fun H => (H a = some (.lst ws) ∧ RpL G.K H xs ws) ∧ (H b = some (.lst us) ∧ RpL G.K H zs us)) (IV j) j H') (LcI.start_ hp J hD hg ⟨⟨h1, r1⟩, h1', r1'⟩ i0) ?_ ?_ ?_⟩
            · rintro j H' _ I'
              obtain ⟨_, _, _, _, _, q⟩ := I'.ex
              exact ⟨SqL.of (del_some.mp q.1.1).2, SqL.of (del_some.mp q.2.1).2⟩
            · rintro j y z T H' hy hz I' hT
              obtain ⟨d, hd, _⟩ := r1.getV hy
              obtain ⟨d', hd', _⟩ := r1'.getV hz
              have hj : j < xs.length := (List.getElem?_eq_some_iff.mp hd).1
              have I2 := I'.laid (o := .tup [y, z]) (nt_tup _) hg hT
              have tT : Rp G.K (del (upd H' T (.tup [y, z])) (Sl (F.own D) (wipeD I'.ex.choose_spec.choose vs) (wipe σ vs))) (.tuple [d, d']) (.ref T) := by
                obtain ⟨iv, hl', N, q⟩ := I'.ex.choose_spec.choose_spec
                obtain ⟨_, _, hX, hm⟩ := N.ei.fresh hT
                obtain ⟨e1, he1, r3⟩ := q.1.2.getV hy
                obtain ⟨e2, he2, r4⟩ := q.2.2.getV hz
                rw [hd] at he1
                rw [hd'] at he2
                cases he1
                cases he2
                exact .tup (.inl (.inl (del_some.mpr ⟨fun z => z.elim hm hX, upd_same⟩))) (.cons (r3.gr (gr_laid hT)) (.cons (r4.gr (gr_laid hT)) .nil))
              have I3 : LcI G F σ vs D (fun H => ((H a = some (.lst ws) ∧ RpL G.K H xs ws) ∧ (H b = some (.lst us) ∧ RpL G.K H zs us)) ∧ Rp G.K H (.tuple [d, d']) (.ref T)) (IV j) j (upd H' T (.tup [y, z])) := by
                obtain ⟨iv, hl', N, q⟩ := I'.ex.choose_spec.choose_spec
                have ne : D ≠ T := fun z => by
                  obtain ⟨_, hD', _⟩ := N.at_
                  rw [z, hT] at hD'; cases hD'
                obtain ⟨J, nm, nx, n0, nM, nW, ws', hD', ra⟩ := N
                exact ⟨_, _, iv, hl', ⟨J.laid hT (nt_tup _), nm, nx, n0, nM, nW, ws', by rw [upd_ne ne]; exact hD', RpL.gr (gr_laid hT) ra⟩, hg _ _ (gr_laid hT) q, tT⟩
              have key := lc_turn (G := G) (F := F) (σ := σ) (g := g) (tt := tt) (te := te) (vs := vs) (D := D) (d := .tuple [d, d']) (IV' := IV (j + 1)) (y := .ref T) hp (by omega) (fun acc δ2 iv hl => st j acc δ2 d d' hd hd' iv hl) (fun H H' g z => ⟨hg H H' g z.1, Rp.gr g z.2⟩) (fun _ z => z.1) I3 fun M q => q.2
              exact key
            · rintro H' I'
              rw [← r1.len] at I'
              obtain ⟨acc, δ2, iv, hl, N⟩ := I'.end_ hp
              exact k acc D _ H' (fin acc δ2 iv hl) N
/-- divmod: a tuple -/
def rDivmod : List V → Hp → VK → Prop := fun xs H Q => ∃ i j, xs = [.int i, .int j] ∧ CDiv i j ∧ ∀ p, H p = none → Q (.ref p) (upd H p (.tup [.int (i / j), .int (i % j)]))
theorem c_divmod {X : Cx} : CallR X (.builtin "divmod") rDivmod := call_divmod
theorem ed_divmod (h : EA G tr δ fun as δ1 => ∃ i j : Int, allD as = some [.int i, .int j] ∧ CDiv i j ∧ Q (.tuple [.int (i / j), .int (i % j)]) δ1) : ED G (tCB rDivmod tr) δ Q := fun F σ H R I k =>
  h F σ H _ I fun as vs δ1 H1 ⟨i, j, e, c, q⟩ J r => by
    have r2 := allD_ok e r
    cases r2 with
    | cons r3 r4 => cases r4 with
      | cons r5 r6 =>
        cases r6; cases r3; cases r5
        refine ⟨i, j, rfl, c, fun p hp => ?_⟩
        obtain ⟨_, _, hX, hm⟩ := J.fresh hp
        exact k _ _ δ1 _ q (J.laid hp (nt_tup _)) (.tup (.inl (.inl (del_some.mpr ⟨fun z => z.elim hm hX, upd_same⟩))) (.cons (.int _) (.cons (.int _) .nil)))
end
end DX


set_option Elab.async false
set_option linter.all false
set_option maxRecDepth 100000
set_option maxHeartbeats 1000000
/-! sales and days -/
namespace So
open PySem PySem.Spec PyProof.Rows L2 GxR GA DX
theorem len_map {α β : Type} (l : List α) (f : α → β) : some (l.map f).length = some l.length := by rw [List.length_map]
theorem map_get {α β : Type} {l : List α} {f : α → β} {k : Nat} {x : β} (h : (l.map f)[k]? = some x) : ∃ y, l[k]? = some y ∧ x = f y := by
  rw [List.getElem?_map] at h
  obtain ⟨y, h1, h2⟩ := Option.map_eq_some_iff.mp h
  exact ⟨y, h1, h2.symm⟩
theorem atN {α : Type} {xs : List α} {k : Nat} {x : α} (h : xs[k]? = some x) : atI xs (k : Int) = some x := by
  unfold atI ixN
  have hk : k < xs.length := (List.getElem?_eq_some_iff.mp h).1
  rw [if_pos (by omega), if_pos (by omega)]
  simpa using h
theorem at_map {α β : Type} {l : List α} {f : α → β} {k : Nat} {x : α} (h : l[k]? = some x) : atI (l.map f) (k : Int) = some (f x) := atN (by rw [List.getElem?_map, h]; rfl)
theorem gD_get {α : Type} {l : List α} {d : α} {k : Nat} (h : k < l.length) : l[k]? = some (l.getD k d) := by
  rw [List.getD_eq_getElem?_getD, List.getElem?_eq_getElem h]; rfl
theorem gD_mem {α : Type} {l : List α} {d : α} {k : Nat} (h : k < l.length) : l.getD k d ∈ l := List.mem_of_getElem? (gD_get h)
theorem gD_of {α : Type} {l : List α} {d : α} {k : Nat} {x : α} (h : l[k]? = some x) : l.getD k d = x := by
  rw [List.getD_eq_getElem?_getD, h]; rfl
/-- a list told by its places -/
def tab {α : Type} (n : Nat) (f : Nat → α) : List α := (List.range n).map f
theorem tab_len {α : Type} (n : Nat) (f : Nat → α) : (tab n f).length = n := by simp [tab]
theorem tab_succ {α : Type} (n : Nat) (f : Nat → α) : tab (n + 1) f = tab n f ++ [f n] := by simp [tab, List.range_succ]
theorem tab_get {α : Type} {n k : Nat} (f : Nat → α) (h : k < n) : (tab n f)[k]? = some (f k) := by simp [tab, h]
theorem tab_gD {α : Type} {n k : Nat} (f : Nat → α) (d : α) (h : k < n) : (tab n f).getD k d = f k := gD_of (tab_get f h)
theorem tab_congr {α : Type} {n : Nat} {f g : Nat → α} (h : ∀ k, k < n → f k = g k) : tab n f = tab n g := List.map_congr_left fun k hk => h k (List.mem_range.mp hk)
theorem tab_map {α β : Type} (n : Nat) (f : Nat → α) (g : α → β) : (tab n f).map g = tab n fun k => g (f k) := by simp [tab]
theorem tab_self {α : Type} (l : List α) (d : α) : tab l.length (fun k => l.getD k d) = l := by
  refine List.ext_getElem? fun k => ?_
  by_cases h : k < l.length
  · rw [tab_get _ h, gD_get h]
  · rw [List.getElem?_eq_none (by rw [tab_len]; omega), List.getElem?_eq_none (by omega)]
/-! the prices that sales tell -/
def SalesOk (n : Nat) (d : Nat) (cs : List Int) : Prop := cs.length = n ∧ ∀ c ∈ cs, 0 ≤ c ∧ c ≤ d
def priceBy (g : Good) (d n : Int) : Int := g.2.2 + (g.1 + g.2.1) * n - g.2.1 * d
def pricesBy (gs : List Good) (d : Int) (cs : List Int) : List Int := tab gs.length fun k => priceBy (gs.getD k g0) d (cs.getD k 0)
def C_check_sales : CtP := fun xs P => ∃ m d cs, xs = [martD m, .int (d : Nat), intsD cs] ∧ SalesOk m.goods.length d cs ∧ P .none
def C_price_by : CtP := fun xs P => ∃ g d n, xs = [goodD g, .int d, .int n] ∧ VGood g ∧ d.natAbs < 2 ^ 60 ∧ n.natAbs < 2 ^ 60 ∧ P (.int (priceBy g d n))
def C_prices_by : CtF := fun xs P => ∃ m d cs, xs = [martD m, .int (d : Nat), intsD cs] ∧ Valid m ∧ d ≤ 4000 ∧ SalesOk m.goods.length d cs ∧ P ((pricesBy m.goods d cs).map PyData.int)
def C_law_sales : CtT := fun ts xs P => ∃ n k d, Till n ts ∧ n < 2 ^ 38 ∧ xs = [.int (k : Nat), .int (d : Nat)] ∧ k ≤ 4 ∧ d ≤ 4000 ∧ ∀ cs ts', SalesOk k d cs → Till (n + 12) ts' → P (intsD cs) ts'
def C_law_due : CtP := fun xs P => ∃ gs d cs, xs = [goodsD gs, .int (d : Nat), intsD cs] ∧ (∀ g ∈ gs, VGood g) ∧ gs.length ≤ 4 ∧ d ≤ 4001 ∧ SalesOk gs.length d cs ∧ P (intsD (pricesBy gs d cs))
end So


set_option Elab.async false
set_option linter.all false
set_option maxRecDepth 100000
set_option maxHeartbeats 1000000
/-! small lemmas that all laws want -/
namespace So
open PySem PySem.Spec PyProof.Rows L2 GxR GA DX
theorem szz {n : Nat} (h : n ≤ 10000) : n ≤ sizeLine := Nat.le_trans h (by decide)
theorem szl {n : Nat} (h : n < 10000) : n < sizeLine := Nat.lt_of_lt_of_le h (by decide)
theorem eqvSelf {x : PyData} (h : EqOk x) : PyData.eqv x x = true := SeqAt.eqv_refl x (SeqAt.canLay_of_shaped h.2)
section
variable {G : Gx} {δ : DEnv} {ta tb : TE} {Q : PyData → DEnv → Prop}
/-- != of two that are one -/
theorem ed_ne1 (h : ED G ta δ fun x δ1 => ED G tb δ1 fun y δ2 => x = y ∧ EqOk y ∧ Q (.bool false) δ2) : ED G (tOp (rNeD G.K) ta tb) δ Q :=
  ed_neD fun F σ H R I k => h F σ H R I fun x v δ1 H1 q J r => k x v δ1 H1 (fun F σ H R I k => q F σ H R I fun y w δ2 H2 ⟨e, ok, q2⟩ J2 r2 => k y w δ2 H2 ⟨e ▸ ok, ok, by subst e; rw [eqvSelf ok]; exact q2⟩ J2 r2) J r
theorem ed_eq1 (h : ED G ta δ fun x δ1 => ED G tb δ1 fun y δ2 => x = y ∧ EqOk y ∧ Q (.bool true) δ2) : ED G (tOp (rEqD G.K) ta tb) δ Q :=
  ed_eqD fun F σ H R I k => h F σ H R I fun x v δ1 H1 q J r => k x v δ1 H1 (fun F σ H R I k => q F σ H R I fun y w δ2 H2 ⟨e, ok, q2⟩ J2 r2 => k y w δ2 H2 ⟨e ▸ ok, ok, by subst e; rw [eqvSelf ok]; exact q2⟩ J2 r2) J r
end
theorem tinyI {n : Nat} {ns : List Int} (hl : ns.length ≤ 6) (h : ∀ x ∈ ns, x.natAbs < 100000000) : tiny (n + 1) (intsD ns) = true := by
  have e : (ns.map PyData.int).all (tiny n) = true := by
    rw [List.all_eq_true]
    intro x hx
    obtain ⟨i, hi, rfl⟩ := List.mem_map.mp hx
    have d := h i hi
    cases n <;> exact decide_eq_true d
  show (decide ((ns.map PyData.int).length ≤ 6) && (ns.map PyData.int).all (tiny n)) = true
  rw [e]
  simp
  omega
theorem eqOkI {ns : List Int} (hl : ns.length ≤ 6) (h : ∀ x ∈ ns, x.natAbs < 100000000) : EqOk (intsD ns) := (tiny_ok 1 _ (tinyI (n := 0) hl h)).eqOk (by decide)
theorem tinyS {n : Nat} {x : PyData} (h : tiny n x = true) : tiny (n + 1) x = true := by
  induction n generalizing x with
  | zero => cases x <;> first | rfl | exact h | cases h
  | succ n ih =>
    cases x with
    | list xs =>
      have h : (decide (xs.length ≤ 6) && xs.all (tiny n)) = true := h
      rw [Bool.and_eq_true, List.all_eq_true] at h
      show (decide (xs.length ≤ 6) && xs.all (tiny (n + 1))) = true
      rw [Bool.and_eq_true, List.all_eq_true]
      exact ⟨h.1, fun y hy => ih (h.2 y hy)⟩
    | tuple xs =>
      have h : (decide (xs.length ≤ 6) && xs.all (tiny n)) = true := h
      rw [Bool.and_eq_true, List.all_eq_true] at h
      show (decide (xs.length ≤ 6) && xs.all (tiny (n + 1))) = true
      rw [Bool.and_eq_true, List.all_eq_true]
      exact ⟨h.1, fun y hy => ih (h.2 y hy)⟩
    | none => rfl
    | int i => exact h
    | bool b => cases h
    | str b => cases h
    | dict b => cases h
theorem tinyL {n : Nat} {xs : List PyData} (hl : xs.length ≤ 6) (h : ∀ x ∈ xs, tiny n x = true) : tiny (n + 1) (.list xs) = true := by
  show (decide (xs.length ≤ 6) && xs.all (tiny n)) = true
  rw [Bool.and_eq_true, List.all_eq_true]
  exact ⟨decide_eq_true hl, h⟩
/-- the number of turns -/
theorem turns (n N : Nat) (hN : 1 ≤ N) : ∃ M : Int, M = (if (if (n : Int) < (N : Int) then (n : Int) else (N : Int)) > 1 then (if (n : Int) < (N : Int) then (n : Int) else (N : Int)) else 1) ∧ M ≤ N ∧ 1 ≤ M := ⟨_, rfl, by split <;> split <;> omega, by split <;> split <;> omega⟩
theorem all_more {k : Nat} {f : Nat → Bool} (h : (List.range k).all f = true) (hk : f k = true) : (List.range (k + 1)).all f = true := by
  rw [List.range_succ, List.all_append, h, List.all_cons, hk]
  rfl
theorem all_not {n k : Nat} {f : Nat → Bool} (h : k < n) (hk : f k = false) : (List.range n).all f = false := List.all_eq_false.mpr ⟨k, List.mem_range.mpr h, by rw [hk]; decide⟩
theorem mem_tab {α : Type} {n : Nat} {f : Nat → α} {x : α} (h : x ∈ tab n f) : ∃ k, k < n ∧ x = f k := by
  obtain ⟨k, hk, e⟩ := List.mem_map.mp h
  exact ⟨k, List.mem_range.mp hk, e.symm⟩
theorem price_small {g : Good} {d n : Int} (v : VGood g) (hd : 0 ≤ d ∧ d ≤ 4001) (hn : 0 ≤ n ∧ n ≤ d) : (priceBy g d n).natAbs < 1000000 := by
  obtain ⟨⟨a1, a2⟩, ⟨b1, b2⟩, c1, c2⟩ := v
  unfold priceBy
  have e1 : 0 ≤ (g.1 + g.2.1) * n := Int.mul_nonneg (by omega) hn.1
  have e2 : (g.1 + g.2.1) * n ≤ 8 * 4001 := Int.mul_le_mul (by omega) (by omega) hn.1 (by omega)
  have e3 : 0 ≤ g.2.1 * d := Int.mul_nonneg (by omega) hd.1
  have e4 : g.2.1 * d ≤ 4 * 4001 := Int.mul_le_mul (by omega) (by omega) hd.1 (by omega)
  omega
theorem prices_small {gs : List Good} {d : Nat} {cs : List Int} (V : ∀ g ∈ gs, VGood g) (hd : d ≤ 4001) (S : SalesOk gs.length d cs) : ∀ x ∈ pricesBy gs d cs, x.natAbs < 1000000 := by
  intro x hx
  obtain ⟨k, hk, rfl⟩ := mem_tab hx
  have h2 := S.2 _ (gD_mem (d := 0) (l := cs) (k := k) (by rw [S.1]; exact hk))
  exact price_small (V _ (gD_mem hk)) (by omega) h2
theorem pricesBy_len (gs : List Good) (d : Int) (cs : List Int) : (pricesBy gs d cs).length = gs.length := tab_len _ _
end So


set_option Elab.async false
set_option linter.all false
set_option maxRecDepth 100000
set_option maxHeartbeats 1000000
namespace DX
open PySem PySem.Spec PyProof.Rows L2 GxR GA
open Classical
theorem dt_yes {G : Gx} {δ : DEnv} {Q : Bool → DEnv → Prop} (q : Q true δ) : DT G tYes δ Q := fun F σ H R I k => k true δ H q I
theorem szq {n : Nat} (h : n ≤ 10000) : n ≤ sizeLine := Nat.le_trans h (by decide)
section
variable {G : Gx} {F : Fx} {δ δ' : DEnv} {σ σ' : L2.St} {H H' : Hp} {ta tb tc te tl : TE} {tr tk : TA} {Q : PyData → DEnv → Prop} {QF : List PyData → DEnv → Prop} {QS : Out → Prop} {tt : TT} {t : TS}
theorem wipe_idem {δ : DEnv} {vs : List Nat} : wipeD (wipeD δ vs) vs = wipeD δ vs := wipeD_idem
/-- [te for i in range(n)] that changes nothing -/
theorem ef_lcRp {i : Nat} (hp : i ∉ G.pn) (f : Nat → PyData) (h : EA G tr δ fun as δ1 => ∃ n : Nat, allD as = some [.int n] ∧ n ≤ 10000 ∧
      (∀ k, k < n → ∀ Q' : PyData → DEnv → Prop, (∀ δ3, wipeD δ3 [i] = wipeD δ1 [i] → Q' (f k) δ3) → ED G te ((wipeD δ1 [i]).set i (some (.d (.int (k : Nat))))) Q') ∧ QF ((List.range n).map f) (wipeD δ1 [i])) :
    EF G (tLc (iRng1 tr) (gName i) tYes te [i]) δ QF :=
  ef_lcR hp fun F σ H R I k => h F σ H R I fun as vs δ1 H1 ⟨n, e, hn, st, q⟩ J r => k as vs δ1 H1 ⟨(n : Int), e, by omega, by omega, by rw [Int.toNat_natCast]; exact szq hn, fun k acc δ2 => δ2 = wipeD δ1 [i] ∧ acc = (List.range k).map f, ⟨rfl, rfl⟩, fun k acc δ2 hk ⟨e1, e2⟩ hl => by
      rw [Int.toNat_natCast] at hk
      rw [e1]
      refine st k hk _ fun δ3 e3 => ⟨e3, ?_⟩
      rw [e2, List.range_succ, List.map_append]
      rfl, fun acc δ2 ⟨e1, e2⟩ hl => by
      rw [Int.toNat_natCast] at e2
      rw [e1, e2]
      exact q⟩ J r
/-- [te for g in xs if tt] that changes nothing -/
theorem ef_lcLf {α : Type} {g : TG} {vs : List Nat} (hp : ∀ j ∈ G.pn, j ∉ vs) (l : List α) (emb f : α → PyData) (b : α → Bool) (h : ED G tl δ fun x δ1 => x = .list (l.map emb) ∧ l.length ≤ 10000 ∧
      (∀ a ∈ l, ∀ Q' : PyData → DEnv → Prop, ∀ Q2 : DEnv → Prop, (∀ δ3, wipeD δ3 vs = wipeD δ1 vs → b a = true → Q' (f a) δ3) → (∀ δ3, wipeD δ3 vs = wipeD δ1 vs → b a = false → Q2 δ3) → DG G g vs (emb a) (wipeD δ1 vs) fun δ3 => DT G tt δ3 fun c δ4 => if c = true then ED G te δ4 Q' else Q2 δ4) ∧
      QF ((l.filter b).map f) (wipeD δ1 vs)) : EF G (tLc (iList G.K tl) g tt te vs) δ QF :=
  ef_lcL hp fun F σ H R I k => h F σ H R I fun x v δ1 H1 ⟨e, hn, st, q⟩ J r => k x v δ1 H1 ⟨l.map emb, e, by rw [List.length_map]; exact szq hn, fun k acc δ2 => δ2 = wipeD δ1 vs ∧ acc = ((l.take k).filter b).map f, ⟨rfl, rfl⟩, fun k acc δ2 y hy ⟨e1, e2⟩ hl => by
      rw [List.getElem?_map] at hy
      obtain ⟨a, ha, rfl⟩ := Option.map_eq_some_iff.mp hy
      rw [e1]
      have et : l.take (k + 1) = l.take k ++ [a] := by rw [List.take_add_one, ha]; rfl
      refine st a (List.mem_of_getElem? ha) _ _ (fun δ3 e3 hb => ⟨e3, ?_⟩) fun δ3 e3 hb => ⟨e3, ?_⟩
      · rw [e2, et, List.filter_append, List.map_append]
        simp [hb]
      · rw [e2, et, List.filter_append, List.map_append]
        simp [hb], fun acc δ2 ⟨e1, e2⟩ hl => by
      rw [List.length_map, List.take_length] at e2
      rw [e1, e2]
      exact q⟩ J r
theorem ef_lcLp {α : Type} {g : TG} {vs : List Nat} (hp : ∀ j ∈ G.pn, j ∉ vs) (l : List α) (emb f : α → PyData) (h : ED G tl δ fun x δ1 => x = .list (l.map emb) ∧ l.length ≤ 10000 ∧
      (∀ a ∈ l, ∀ Q' : PyData → DEnv → Prop, (∀ δ3, wipeD δ3 vs = wipeD δ1 vs → Q' (f a) δ3) → DG G g vs (emb a) (wipeD δ1 vs) fun δ3 => ED G te δ3 Q') ∧
      QF (l.map f) (wipeD δ1 vs)) : EF G (tLc (iList G.K tl) g tYes te vs) δ QF :=
  ef_lcLf hp l emb f (fun _ => true) fun F σ H R I k => h F σ H R I fun x v δ1 H1 ⟨e, hn, st, q⟩ J r => k x v δ1 H1 ⟨e, hn, fun a ha Q' Q2 k1 k2 => by
      have z := st a ha Q' fun δ3 e3 => k1 δ3 e3 rfl
      exact fun F σ H v R I r k => z F σ H v R I r fun δ' σ' q => k δ' σ' (dt_yes (if_pos rfl ▸ q)), by
      rw [List.filter_eq_self.mpr fun _ _ => rfl]
      exact q⟩ J r
/-- [te for g in zip(xs, zs)] that changes nothing -/
theorem ef_lcZp {g : TG} {vs : List Nat} (hp : ∀ j ∈ G.pn, j ∉ vs) (f : Nat → PyData) (h : EA G tr δ fun as δ1 => ∃ xs zs, allD as = some [.list xs, .list zs] ∧ xs.length = zs.length ∧ xs.length ≤ 10000 ∧
      (∀ k y z, xs[k]? = some y → zs[k]? = some z → ∀ Q' : PyData → DEnv → Prop, (∀ δ3, wipeD δ3 vs = wipeD δ1 vs → Q' (f k) δ3) → DG G g vs (.tuple [y, z]) (wipeD δ1 vs) fun δ3 => ED G te δ3 Q') ∧
      QF ((List.range xs.length).map f) (wipeD δ1 vs)) : EF G (tLc (iZip G.K tr) g tYes te vs) δ QF :=
  ef_lcZ hp fun F σ H R I k => h F σ H R I fun as v δ1 H1 ⟨xs, zs, e, hl, hn, st, q⟩ J r => k as v δ1 H1 ⟨xs, zs, e, hl, szq hn, fun k acc δ2 => δ2 = wipeD δ1 vs ∧ acc = (List.range k).map f, ⟨rfl, rfl⟩, fun k acc δ2 y z hy hz ⟨e1, e2⟩ _ => by
      rw [e1]
      have w := st k y z hy hz (fun x δ3 => wipeD δ3 vs = wipeD δ1 vs ∧ acc ++ [x] = (List.range (k + 1)).map f) fun δ3 e3 => ⟨e3, by rw [e2, List.range_succ, List.map_append]; rfl⟩
      exact fun F σ H v R I r k => w F σ H v R I r fun δ' σ' q => k δ' σ' (dt_yes (if_pos rfl ▸ q)), fun acc δ2 ⟨e1, e2⟩ _ => by
      rw [e1, e2]
      exact q⟩ J r
/-- xs.clear() of a slot's own list -/
theorem sd_clear {i : Nat} {xs : List PyData} (h0 : δ[i]? = some (some (E.m xs))) (q : QS (.nx (δ.set i (some (.m []))))) : SD G (tDrop (tBM0 G.K "list" rClear (tVar i))) δ QS := fun F σ H D I k => by
  obtain ⟨v, h1, a, vs, e, h2, h3⟩ := I.slot i _ h0
  subst e
  exact ⟨_, h1, .inl ⟨rfl, vs, SqL.of h2⟩, a, vs, rfl, rfl, h2, k _ q σ _ (I.write h0 h1 h2 .nil)⟩
end
end DX


set_option Elab.async false
set_option linter.all false
set_option maxRecDepth 100000
set_option maxHeartbeats 1000000
namespace DX
open PySem PySem.Spec PyProof.Rows L2 GxR GA
open Classical
/-! ### a function that hands back None or a new list -/
abbrev CtO := List PyData → (Option (List PyData) → Prop) → Prop
def spO (K : PySem.W.Frag) (cs : List Addr) (C : CtO) : Sp := fun vs H Q _ => ∃ (xs : List PyData) (P : Option (List PyData) → Prop) (X0 : Addr → Prop), C xs P ∧ RpL K (del H X0) xs vs ∧ (∀ a, X0 a → ∃ o, H a = some o ∧ NT o) ∧ (∀ p ∈ cs, TabG H p) ∧
  (∀ H', P none → (∀ b o, NT o → H b = some o → H' b = some o) → (∀ b ps, H b = some (.tbl ps) → ∃ qs, H' b = some (.tbl qs)) → (∀ p ∈ cs, TabG H' p) → Q .non H') ∧
  ∀ ys q ws H', P (some ys) → H q = none → H' q = some (.lst ws) → RpL K (del H' fun a => a = q ∨ X0 a) ys ws → (∀ b o, NT o → H b = some o → H' b = some o) → (∀ b ps, H b = some (.tbl ps) → ∃ qs, H' b = some (.tbl qs)) → (∀ p ∈ cs, TabG H' p) → Q (.ref q) H'
def QO (P : Option (List PyData) → Prop) : Out → Prop
  | .rf xs _ => P (some xs)
  | .rm i δ => ∃ xs, δ[i]? = some (some (E.m xs)) ∧ P (some xs)
  | .rt d _ => d = .none ∧ P none
  | _ => False
theorem body_O {K : PySem.W.Frag} {cs : List Addr} {C : CtO} {t : TS} {N : List Str} {vs : List V} {H : Hp} {Q : VK} {E' : XK} (hs : ∀ xs P, C xs P → xs.length ≤ N.length ∧ SD ⟨K, cs, []⟩ t (envP N xs) (QO P)) (h : spO K cs C vs H Q E') :
    t { nx := fun _ H' => Q .non H', rt := Q } (L2.start N vs) H := by
  obtain ⟨xs, P, X0, c, r, ex, tb, k0, k⟩ := h
  have I := start_P (N := N) (cs := cs) r ex tb
  obtain ⟨hl, sd⟩ := hs xs P c
  have fin : ∀ {δ' : DEnv} {σ' : L2.St} {H' : Hp} {ys : List PyData} {p : Addr}, P (some ys) → New ⟨K, cs, []⟩ ⟨H, fun _ => False, X0, L2.start N vs, fun _ => False⟩ δ' σ' H' p ys → Q (.ref p) H' := fun {δ' σ' H' ys p} pq N => by
    obtain ⟨J, hm, hX, h0, hM, _, ws, hq, rr⟩ := N
    exact k ys p ws H' pq h0 hq (RpL.gr (gr_del fun b u n hb e => ⟨fun z => hb (by
      rcases z with z | z
      · exact .inr (.inl z)
      · exact .inr (.inr z)), e⟩) rr) (fun b o n e => J.keep b o n (fun z => z) (fun z => z) e) J.tk J.tab
  refine sd _ _ _ _ I fun o q => ?_
  cases o with
  | nx δ' => exact q.elim
  | rt d δ' =>
    obtain ⟨rfl, p⟩ := q
    intro σ' H' v J r'
    cases r'
    exact k0 H' p (fun b o n e => J.keep b o n (fun z => z) (fun z => z) e) J.tk J.tab
  | bk δ' => exact q.elim
  | r2 i j δ' => exact q.elim
  | ct δ' => exact q.elim
  | rf ys δ' => exact fun σ' H' p N => fin q N
  | rm i δ' =>
    obtain ⟨ys, hi, p⟩ := q
    exact fun σ' H' a J ha => fin p (J.release hi ha (fun z => z))
section
variable {G : Gx} {F : Fx} {δ δ' : DEnv} {σ σ' : L2.St} {H H' : Hp} {ta : TE} {tr tk : TA} {Q : PyData → DEnv → Prop} {QS : Out → Prop}
theorem New.of_call {q : Addr} {ws : List V} {ys : List PyData} (J : EI G F δ σ H) (kp : ∀ b o, NT o → H b = some o → H' b = some o) (tk : ∀ b ps, H b = some (.tbl ps) → ∃ qs, H' b = some (.tbl qs)) (tb : ∀ p ∈ G.cs, TabG H' p)
    (hq : H q = none) (hq' : H' q = some (.lst ws)) (rd : RpL G.K (del H' fun a => a = q ∨ Sl F δ σ a) ys ws) : New G F δ σ H' q ys := by
  obtain ⟨f0, fM, fX, fm⟩ := J.fresh hq
  have J2 := J.called_own (S := fun c => c = q) kp tk tb fun c hc => by
    subst hc
    exact ⟨hq, _, hq', nt_lst _⟩
  exact ⟨J2, fm, fX, f0, fM, J.freshW hq, ws, hq', RpL.gr (gr_del fun b u n hb e => ⟨fun z => hb (by
    rcases z with z | z | z
    · exact .inr (.inl z)
    · exact .inl z
    · exact .inr (.inr z)), e⟩) rd⟩
/-- what is wanted of either answer -/
def OptQ (Q : PyData → DEnv → Prop) (δ : DEnv) : Option (List PyData) → Prop
  | none => Q .none δ
  | some ys => Q (.list ys) δ
theorem run_O {C : CtO} {vs : List V} {xs : List PyData} {R : VK} {E' : XK} (J : EI G F δ σ H) (r : RpL G.K (del H (Sl F δ σ)) xs vs) (c : C xs (OptQ Q δ))
    (k : ∀ d v δ' H', Q d δ' → EI G F δ' σ H' → Rp G.K (del H' (Sl F δ' σ)) d v → R v H') : spO G.K G.cs C vs H R E' :=
  ⟨xs, _, Sl F δ σ, c, r, x_ex J, J.tab, fun H' p kp tk tb => k _ _ δ H' p (J.called kp tk tb) .non, fun ys q ws H' p hq hq' rd kp tk tb => by
    have N := New.of_call J kp tk tb hq hq' rd
    exact k _ _ δ H' p N.give.1 N.give.2⟩
theorem ed_callO {C : CtO} (h : EA G tr δ fun as δ1 => ∃ xs, allD as = some xs ∧ C xs (OptQ Q δ1)) : ED G (tCall (spO G.K G.cs C) [] E0 tr) δ Q := fun F σ H R I k =>
  h F σ H _ I fun as vs δ1 H1 ⟨xs, e, c⟩ J r1 => by
    show spO G.K G.cs C (vs ++ []) H1 R E0
    rw [List.append_nil]
    exact run_O J (allD_ok e r1) c k
theorem ed_callOm {C : CtO} {n m : Nat} {is : List Nat} (h : EA G tr δ fun as δ1 => EA G tk δ1 fun bs δ2 => ∃ xs ys, allD as = some xs ∧ allD bs = some ys ∧ xs.length = n ∧ ys.length = m ∧ C (xs ++ perm is ys) (OptQ Q δ2)) :
    ED G (tCallN n m (spO G.K G.cs C) (fun vs zs => vs ++ perm is zs) E0 tr tk) δ Q := fun F σ H R I k =>
  h.go I fun as vs δ1 H1 q s1 r1 => q.go s1.ei fun bs ws δ2 H2 ⟨xs, ys, e1, e2, l1, l2, c⟩ s2 r2 => by
    have hx := RpL.gr s2.gr (allD_ok e1 r1)
    have hy := allD_ok e2 r2
    exact ⟨hx.len.symm.trans l1, hy.len.symm.trans l2, run_O s2.ei (hx.app (rpL_perm hy is)) c k⟩
/-- the slot owns it, where it is one -/
def OptS (Q : Out → Prop) (δ : DEnv) (i : Nat) : Option (List PyData) → Prop
  | none => Q (.nx (δ.set i (some (.d .none))))
  | some ys => Q (.nx (δ.set i (some (.m ys))))
theorem sd_setO {C : CtO} {i : Nat} (hi : i ∉ G.pn) (li : i < δ.length) (h : EA G tr δ fun as δ1 => ∃ xs, allD as = some xs ∧ C xs (OptS QS δ1 i)) : SD G (tAsg (tCall (spO G.K G.cs C) [] E0 tr) (gName i)) δ QS := fun F σ H D I k =>
  h F σ H _ I fun as vs δ1 H1 ⟨xs, e, c⟩ J r1 => by
    show spO G.K G.cs C (vs ++ []) H1 _ E0
    rw [List.append_nil]
    have lens : δ1.length = δ.length := J.len.trans I.len.symm
    exact ⟨xs, _, Sl F δ1 σ, c, allD_ok e r1, x_ex J, J.tab, fun H' p kp tk tb => k _ p _ H' ((J.called kp tk tb).set_d hi .non), fun ys q ws H' p hq hq' rd kp tk tb => k _ p _ H' ((New.of_call J kp tk tb hq hq' rd).take (by rw [lens]; exact li) hi)⟩
/-- an owned list is not None -/
theorem ed_notNM {i : Nat} {xs : List PyData} (h0 : δ[i]? = some (some (E.m xs))) (q : Q (.bool true) δ) : ED G (tOp rNotN (tVar i) (tC .non)) δ Q := fun F σ H R I k => by
  obtain ⟨v, h1, a, vs, e, h2, h3⟩ := I.slot i _ h0
  subst e
  exact ⟨_, h1, rfl, k _ _ δ H q I (.bl _)⟩
theorem ed_isNM {i : Nat} {xs : List PyData} (h0 : δ[i]? = some (some (E.m xs))) (q : Q (.bool false) δ) : ED G (tOp rIsN (tVar i) (tC .non)) δ Q := fun F σ H R I k => by
  obtain ⟨v, h1, a, vs, e, h2, h3⟩ := I.slot i _ h0
  subst e
  exact ⟨_, h1, rfl, k _ _ δ H q I (.bl _)⟩
end
end DX


set_option Elab.async false
set_option linter.all false
set_option maxRecDepth 100000
set_option maxHeartbeats 1000000
namespace DX
open PySem PySem.Spec PyProof.Rows L2 GxR GA
open Classical
/-! ### what a generator walks: lists, enumerate, zip, range -/
structure ItOk (K : PySem.W.Frag) (J : It) (n : Nat) (d : Nat → PyData) (Hd : Hp → Prop) : Prop where
  hg : ∀ H H' : Hp, Gr H H' → Hd H → Hd H'
  jg : ∀ i H M, i < n → Hd (del H M) → J.go i H
  jy : ∀ i H x H' M, i < n → (∀ T, H T = none → ¬ M T) → Hd (del H M) → J.yld i H x H' → (H' = H ∨ ∃ T us, H T = none ∧ H' = upd H T (.tup us)) ∧ Rp K (del H' M) (d i) x
  js : ∀ H M, Hd (del H M) → J.stop n H
def GI (G : Gx) (wi : TI) (δ : DEnv) (QI : Nat → (Nat → PyData) → DEnv → Prop) : Prop :=
  ∀ (F : Fx) (σ : L2.St) (H : Hp) (R : It → Hp → Prop), EI G F δ σ H → (∀ n d δ1 H1 J Hd, QI n d δ1 → EI G F δ1 σ H1 → ItOk G.K J n d Hd → Hd (del H1 (Sl F δ1 σ)) → R J H1) → wi σ H R
section
variable {G : Gx} {F : Fx} {δ δ' δ1 : DEnv} {σ σ' : L2.St} {H H' : Hp} {ta tb tc te tl : TE} {tr tk : TA} {Q : PyData → DEnv → Prop} {QI : Nat → (Nat → PyData) → DEnv → Prop}
theorem gi_list (h : ED G tl δ fun x δ1 => ∃ xs, x = .list xs ∧ QI xs.length (fun i => xs.getD i .none) δ1) : GI G (iList G.K tl) δ QI := fun F σ H R I k =>
  h F σ H _ I fun x v δ1 H1 ⟨xs, e, q⟩ J r => by
    subst e
    cases r with
    | @lst a ws _ h1 r1 =>
      refine ⟨a, rfl, ⟨ws, SqL.of (del_some.mp h1).2⟩, k _ _ δ1 H1 _ (fun H => H a = some (.lst ws) ∧ RpL G.K H xs ws) q J ⟨fun H H' g z => ⟨g _ _ (nt_lst _) z.1, RpL.gr g z.2⟩, fun i H M hi z => ?_, fun i H x H' M hi _ z y => ?_, fun H M z => ?_⟩ ⟨h1, r1⟩⟩
      · have hw : i < ws.length := by rw [← r1.len]; exact hi
        exact ⟨ws, ws[i], SqL.of (del_some.mp z.1).2, by simp [hw]⟩
      · obtain ⟨rfl, hy⟩ := y
        refine ⟨.inl rfl, ?_⟩
        have hy := hy ws (SqL.of (del_some.mp z.1).2)
        obtain ⟨d, hd, rd⟩ := z.2.getV hy
        have e : xs.getD i .none = d := by rw [List.getD_eq_getElem?_getD, hd]; rfl
        show Rp G.K _ (xs.getD i .none) x
        rw [e]
        exact rd
      · exact ⟨ws, SqL.of (del_some.mp z.1).2, by rw [← r1.len]; exact Nat.le_refl _⟩
theorem rp_pair {K : PySem.W.Frag} {M : Addr → Prop} {T : Addr} {d e : PyData} {x y : V} (hT : H T = none) (nM : ¬ M T) (r1 : Rp K (del H M) d x) (r2 : Rp K (del H M) e y) : Rp K (del (upd H T (.tup [x, y])) M) (.tuple [d, e]) (.ref T) :=
  .tup (.inl (.inl (del_some.mpr ⟨nM, upd_same⟩))) (.cons (r1.gr (gr_laid hT)) (.cons (r2.gr (gr_laid hT)) .nil))
theorem gi_enum (h : EA G tr δ fun as δ1 => ∃ xs, allD as = some [.list xs] ∧ QI xs.length (fun i => .tuple [.int (i : Nat), xs.getD i .none]) δ1) : GI G (iEnum G.K tr) δ QI := fun F σ H R I k =>
  h F σ H _ I fun as ws0 δ1 H1 ⟨xs, e, q⟩ J r0 => by
    have r2 := allD_ok e r0
    cases r2 with
    | cons r r4 =>
      cases r4
      cases r with
      | @lst a ws _ h1 r1 =>
        refine ⟨a, ws, rfl, SqL.of (del_some.mp h1).2, k _ _ δ1 H1 _ (fun H => H a = some (.lst ws) ∧ RpL G.K H xs ws) q J ⟨fun H H' g z => ⟨g _ _ (nt_lst _) z.1, RpL.gr g z.2⟩, fun i H M hi z => ?_, fun i H x H' M hi nM z y => ?_, fun H M z => ?_⟩ ⟨h1, r1⟩⟩
        · have hw : i < ws.length := by rw [← r1.len]; exact hi
          exact ⟨ws, ws[i], SqL.of (del_some.mp z.1).2, by simp [hw]⟩
        · obtain ⟨T, x', rfl, hT, rfl, hy⟩ := y
          have hy := hy ws (SqL.of (del_some.mp z.1).2)
          obtain ⟨d, hd, rd⟩ := z.2.getV hy
          have e : xs.getD i .none = d := by rw [List.getD_eq_getElem?_getD, hd]; rfl
          refine ⟨.inr ⟨T, _, hT, rfl⟩, ?_⟩
          show Rp G.K _ (.tuple [.int (i : Nat), xs.getD i .none]) _
          rw [e]
          exact rp_pair hT (nM T hT) (.int _) rd
        · exact ⟨ws, SqL.of (del_some.mp z.1).2, by rw [← r1.len]; exact Nat.le_refl _⟩
theorem gi_zip (h : EA G tr δ fun as δ1 => ∃ xs zs, allD as = some [.list xs, .list zs] ∧ xs.length = zs.length ∧ QI xs.length (fun i => .tuple [xs.getD i .none, zs.getD i .none]) δ1) : GI G (iZip G.K tr) δ QI := fun F σ H R I k =>
  h F σ H _ I fun as ws0 δ1 H1 ⟨xs, zs, e, hl, q⟩ J r0 => by
    have r2 := allD_ok e r0
    cases r2 with
    | cons r r4 =>
      cases r4 with
      | cons r' r5 =>
        cases r5
        cases r with
        | @lst a ws _ h1 r1 =>
          cases r' with
          | @lst b us _ h1' r1' =>
            refine ⟨a, b, ws, us, rfl, SqL.of (del_some.mp h1).2, SqL.of (del_some.mp h1').2, k _ _ δ1 H1 _ (fun H => (H a = some (.lst ws) ∧ RpL G.K H xs ws) ∧ (H b = some (.lst us) ∧ RpL G.K H zs us)) q J ⟨fun H H' g z => ⟨⟨g _ _ (nt_lst _) z.1.1, RpL.gr g z.1.2⟩, g _ _ (nt_lst _) z.2.1, RpL.gr g z.2.2⟩, fun i H M hi z => ?_, fun i H x H' M hi nM z y => ?_, fun H M z => ?_⟩ ⟨⟨h1, r1⟩, h1', r1'⟩⟩
            · have hw : i < ws.length := by rw [← r1.len]; exact hi
              have hu : i < us.length := by rw [← r1'.len, ← hl]; exact hi
              exact ⟨ws, us, ws[i], us[i], SqL.of (del_some.mp z.1.1).2, SqL.of (del_some.mp z.2.1).2, by simp [hw], by simp [hu]⟩
            · obtain ⟨T, x', y', rfl, hT, rfl, f1, f2⟩ := y
              have hx := f1 ws (SqL.of (del_some.mp z.1.1).2)
              have hy := f2 us (SqL.of (del_some.mp z.2.1).2)
              obtain ⟨d, hd, rd⟩ := z.1.2.getV hx
              obtain ⟨d', hd', rd'⟩ := z.2.2.getV hy
              have e : xs.getD i .none = d := by rw [List.getD_eq_getElem?_getD, hd]; rfl
              have e' : zs.getD i .none = d' := by rw [List.getD_eq_getElem?_getD, hd']; rfl
              refine ⟨.inr ⟨T, _, hT, rfl⟩, ?_⟩
              show Rp G.K _ (.tuple [xs.getD i .none, zs.getD i .none]) _
              rw [e, e']
              exact rp_pair hT (nM T hT) rd rd'
            · exact ⟨ws, us, SqL.of (del_some.mp z.1.1).2, SqL.of (del_some.mp z.2.1).2, .inl (by rw [← r1.len]; exact Nat.le_refl _)⟩
theorem gi_range1 (h : EA G tr δ fun as δ1 => ∃ j : Int, allD as = some [.int j] ∧ -(2 ^ 62) ≤ j ∧ j < 2 ^ 62 ∧ QI j.toNat (fun i => .int (i : Nat)) δ1) : GI G (iRng1 tr) δ QI := fun F σ H R I k =>
  h F σ H _ I fun as ws0 δ1 H1 ⟨j, e, j1, j2, q⟩ J r0 => by
    have r2 := allD_ok e r0
    cases r2 with
    | cons r r4 =>
      cases r4
      cases r
      refine ⟨j, rfl, j1, j2, k _ _ δ1 H1 _ (fun _ => True) q J ⟨fun H H' g z => z, fun i H M hi z => hi, fun i H x H' M hi _ z y => ?_, fun H M z => Nat.le_refl _⟩ trivial⟩
      obtain ⟨rfl, rfl⟩ := y
      refine ⟨.inl rfl, ?_⟩
      have e : (0 : Int) + (i : Int) = (i : Int) := by omega
      rw [e]
      exact .int _
theorem gi_range2 (h : EA G tr δ fun as δ1 => ∃ lo hi : Int, allD as = some [.int lo, .int hi] ∧ (-(2 ^ 62) ≤ lo ∧ lo < 2 ^ 62 ∧ -(2 ^ 62) ≤ hi ∧ hi < 2 ^ 62) ∧ QI (hi - lo).toNat (fun i => .int (lo + (i : Nat))) δ1) : GI G (iRng2 tr) δ QI := fun F σ H R I k =>
  h F σ H _ I fun as ws0 δ1 H1 ⟨lo, hi, e, jj, q⟩ J r0 => by
    have r2 := allD_ok e r0
    cases r2 with
    | cons r r4 => cases r4 with
      | cons r' r5 =>
        cases r5; cases r; cases r'
        refine ⟨lo, hi, rfl, jj, k _ _ δ1 H1 _ (fun _ => True) q J ⟨fun H H' g z => z, fun i H M hi z => hi, fun i H x H' M hi _ z y => ?_, fun H M z => Nat.le_refl _⟩ trivial⟩
        obtain ⟨rfl, rfl⟩ := y
        exact ⟨.inl rfl, .int _⟩
/-! ### a turn that changes nothing -/
def PInv (G : Gx) (F : Fx) (δ1 : DEnv) (vs : List Nat) (σ : L2.St) (Hd : Hp → Prop) (H : Hp) : Prop := EI G F (wipeD δ1 vs) (wipe σ vs) H ∧ Hd (del H (Sl F (wipeD δ1 vs) (wipe σ vs)))
/-- one turn's value is data that nobody changes -/
def StepOk (G : Gx) (g : TG) (te : TE) (vs : List Nat) (δ1 : DEnv) (n : Nat) (d val : Nat → PyData) : Prop :=
  ∀ i, i < n → ∀ Q' : PyData → DEnv → Prop, (∀ δ3, wipeD δ3 vs = wipeD δ1 vs → Q' (val i) δ3) → DG G g vs (d i) (wipeD δ1 vs) fun δ3 => ED G te δ3 Q'
theorem gen_core {g : TG} {J : It} {n : Nat} {vs : List Nat} {d val : Nat → PyData} {Hd : Hp → Prop} (hp : ∀ j ∈ G.pn, j ∉ vs) (ok : ItOk G.K J n d Hd) (st : StepOk G g te vs δ1 n d val) {i : Nat} (hi : i < n) (I : PInv G F δ1 vs σ Hd H) {post : V → Hp → Prop}
    (hpost : ∀ y H4 M, Rp G.K (del H4 M) (val i) y → PInv G F δ1 vs σ Hd H4 → post y H4) : J.go i H ∧ ∀ x H', J.yld i H x H' → g x (wipe σ vs) H' fun σ2 H3 => wipe σ2 vs = wipe σ vs ∧ te σ2 H3 post := by
  obtain ⟨J1, hd⟩ := I
  refine ⟨ok.jg i H _ hi hd, fun x H' y => ?_⟩
  have nM : ∀ T, H T = none → ¬ Sl F (wipeD δ1 vs) (wipe σ vs) T := fun T hT z => z.elim (J1.fresh hT).2.2.2 (J1.fresh hT).2.2.1
  obtain ⟨hH, rd⟩ := ok.jy i H x H' _ hi nM hd y
  have J2 : EI G F (wipeD δ1 vs) (wipe σ vs) H' ∧ Hd (del H' (Sl F (wipeD δ1 vs) (wipe σ vs))) := by
    rcases hH with rfl | ⟨T, us, hT, rfl⟩
    · exact ⟨J1, hd⟩
    · exact ⟨J1.laid hT (nt_tup us), ok.hg _ _ (gr_laid hT) hd⟩
  obtain ⟨J2, hd2⟩ := J2
  refine st i hi (fun z δ4 => z = val i ∧ wipeD δ4 vs = wipeD δ1 vs) (fun δ3 e3 => ⟨rfl, e3⟩) F (wipe σ vs) H' x _ J2 rd fun δ3 σ3 q3 J3 g3 l3 a3 m3 => ?_
  have we : wipe σ3 vs = wipe σ vs := (wipe_eq l3 a3).trans (wipe_eq (wipe_length σ vs) fun j hj => wipe_get hj)
  refine ⟨we, q3.go J3 fun z w δ4 H4 ⟨ez, e4⟩ s4 r4 => ?_⟩
  have J5 := s4.ei.wiped hp
  have mw : ∀ {a : Addr}, MA (wipeD δ4 vs) (wipe σ3 vs) a → MA δ4 σ3 a := fun {a} ⟨j, ys, h1, h2⟩ => ⟨j, ys, (wipeD_some h1).1, (wipe_get (wipeD_some h1).2) ▸ h2⟩
  have sub : Gr (del H4 (Sl F δ4 σ3)) (del H4 (Sl F (wipeD δ4 vs) (wipe σ3 vs))) := gr_del fun b u nt hb e => ⟨fun z => hb (z.imp mw id), e⟩
  have hd5 := ok.hg _ _ sub (ok.hg _ _ s4.gr (ok.hg _ _ g3 hd2))
  rw [we, e4] at J5 hd5
  subst ez
  exact hpost w H4 _ r4 ⟨J5, hd5⟩
theorem PInv.start {vs : List Nat} {Hd : Hp → Prop} {J : It} {n : Nat} {d : Nat → PyData} (hp : ∀ j ∈ G.pn, j ∉ vs) (ok : ItOk G.K J n d Hd) (I : EI G F δ1 σ H) (h : Hd (del H (Sl F δ1 σ))) : PInv G F δ1 vs σ Hd H := by
  have mw : ∀ {a : Addr}, MA (wipeD δ1 vs) (wipe σ vs) a → MA δ1 σ a := fun {a} ⟨j, ys, h1, h2⟩ => ⟨j, ys, (wipeD_some h1).1, (wipe_get (wipeD_some h1).2) ▸ h2⟩
  exact ⟨I.wiped hp, ok.hg _ _ (gr_del fun b u nt hb e => ⟨fun z => hb (z.imp mw id), e⟩) h⟩
/-- all(te for g in ..) -/
theorem ed_allI {g : TG} {vs : List Nat} {P : Addr} {wi : TI} (hP : P ∈ G.cs) (hp : ∀ j ∈ G.pn, j ∉ vs) (pb : Nat → Bool) (h : GI G wi δ fun n d δ1 => StepOk G g te vs δ1 n d (fun i => .bool (pb i)) ∧ Q (.bool ((List.range n).all pb)) (wipeD δ1 vs)) :
    ED G (tAllG P wi g te vs) δ Q := fun F σ H R I k =>
  h F σ H _ I fun n d δ1 H1 J Hd ⟨st, q⟩ I1 ok hd => by
    refine ⟨I1.tab P hP, fun H2 T => ?_⟩
    obtain ⟨I2, g2⟩ := I1.tabbed hP T
    have P0 := PInv.start hp ok I2 (ok.hg _ _ g2 hd)
    refine ⟨n, fun j H' => PInv G F δ1 vs σ Hd H' ∧ (List.range j).all pb = true, ⟨P0, rfl⟩, ⟨fun i H hi ⟨W, ha⟩ => ?_, fun H ⟨W, ha⟩ => ?_⟩⟩
    · refine gen_core hp ok st hi W fun y H4 M r W4 => ?_
      cases hb : pb i with
      | true =>
        rw [hb] at r
        cases r
        exact ⟨true, rfl, iteT ⟨W4, by rw [List.range_succ, List.all_append, ha]; simp [hb]⟩⟩
      | false =>
        rw [hb] at r
        cases r
        have e : (List.range n).all pb = false := List.all_eq_false.mpr ⟨i, List.mem_range.mpr hi, by simp [hb]⟩
        rw [e] at q
        exact ⟨false, rfl, iteF (k _ _ _ H4 q (W4.1.unwiped hp) (.bl _))⟩
    · rw [ha] at q
      exact ⟨ok.js H _ W.2, k _ _ _ H q (W.1.unwiped hp) (.bl _)⟩
/-- abs of an int -/
def rAbs : List V → Hp → VK → Prop := fun xs H Q => ∃ i, xs = [.int i] ∧ Q (.int (if i < 0 then -i else i)) H
theorem c_abs {X : Cx} : CallR X (.builtin "abs") rAbs := call_abs
theorem ed_abs (h : EA G tr δ fun as δ1 => ∃ i : Int, allD as = some [.int i] ∧ Q (.int (if i < 0 then -i else i)) δ1) : ED G (tCB rAbs tr) δ Q := fun F σ H R I k =>
  h F σ H _ I fun as vs δ1 H1 ⟨i, e, q⟩ J r => by
    have r2 := allD_ok e r
    cases r2 with
    | cons r3 r4 => cases r4; cases r3; exact ⟨i, rfl, k _ _ δ1 H1 q J (.int _)⟩
end
end DX


set_option Elab.async false
set_option linter.all false
set_option maxRecDepth 100000
set_option maxHeartbeats 1000000
namespace DX
open PySem PySem.Spec PyProof.Rows L2 GxR GA
open Classical
theorem scr_inv {K : PySem.W.Frag} {H : Hp} {xs : List PyData} {v : V} (h : Rp K H (.dict [(.none, .list xs)]) v) : ∃ a, ∃ ns : List Int, v = .ref a ∧ xs = ns.map PyData.int ∧ SqL K H a (ns.map V.int) := by
  cases h with
  | dk h o => cases o
  | scr h => exact ⟨_, _, rfl, rfl, h⟩
theorem ints_inj : ∀ {a b : List Int}, a.map PyData.int = b.map PyData.int → a = b
  | [], [], _ => rfl
  | [], _ :: _, h => by cases h
  | _ :: _, [], h => by cases h
  | x :: xs, y :: ys, h => by
    rw [List.map_cons, List.map_cons] at h
    injection h with h1 h2
    cases h1
    rw [ints_inj h2]
theorem scr_at {K : PySem.W.Frag} {H : Hp} {ns : List Int} {v : V} (h : Rp K H (scrD ns) v) : ∃ a, v = .ref a ∧ SqL K H a (ns.map V.int) := by
  obtain ⟨a, ms, h1, h2, h3⟩ := scr_inv h
  rw [← ints_inj h2] at h3
  exact ⟨a, h1, h3⟩
theorem Deck.mono {W : Addr → Prop} {H : Hp} {a : Addr} {n k : Nat} (h : Deck W H a n) (hk : n ≤ k) : Deck W H a k := by
  obtain ⟨p, c, qs, wa, wp, h1, h2, h3, h4, h5, h6⟩ := h
  refine ⟨p, c, qs, wa, wp, h1, h2, h3, h4, h5, fun q hq => ?_⟩
  obtain ⟨w, c0, c1, c2, g, g1, g2⟩ := h6 q hq
  exact ⟨w, c0, c1, c2, g, g1, by omega⟩
section
variable {G : Gx} {F : Fx} {δ δ' : DEnv} {σ σ' : L2.St} {H H' : Hp} {te : TE} {Q : PyData → DEnv → Prop} {QS : Out → Prop} {t : TS}
/-- a deck of which more was drawn than is known -/
theorem EI.kup {i n m : Nat} (I : EI G F δ σ H) (h : δ[i]? = some (some (E.k n))) (hm : n ≤ m) : EI G F (δ.set i (some (.k m))) σ H := by
  have old : ∀ {b}, MA (δ.set i (some (.k m))) σ b → MA δ σ b := fun {b} z => MA.set_1 (fun _ q => by cases q) z
  have gr : Gr (del H (Sl F δ σ)) (del H (Sl F (δ.set i (some (.k m))) σ)) := gr_del fun b u nt hb e => ⟨fun z => hb (z.imp old id), e⟩
  refine ⟨by rw [List.length_set]; exact I.len, fun j e h4 => ?_, fun j l zs us b e1 e2 e3 e4 => ?_, fun b hb => I.own b (old hb), I.keep, I.ex, I.pin, I.tab, I.tk, I.mt, fun j zs b e1 e2 hb => ?_, fun b w => ⟨(I.wl b w).1, fun z => (I.wl b w).2 (old z)⟩, I.k1.setK h⟩
  · rcases get_set h4 with ⟨e0, e1, hl⟩ | ⟨ne, e1⟩
    · subst e0
      cases e1
      obtain ⟨v, h1, a, h2, h3⟩ := I.slot j _ h
      exact ⟨v, h1, a, h2, h3.mono hm⟩
    · obtain ⟨w2, e2, e3⟩ := I.slot j e e1
      refine ⟨w2, e2, ?_⟩
      cases e with
      | d x => exact Rp.gr gr e3
      | err D => exact XR.gr gr e3
      | k m => exact e3
      | m zs =>
        obtain ⟨b, us, h4, h5, h6⟩ := e3
        exact ⟨b, us, h4, h5, RpL.gr gr h6⟩
  · rcases get_set e1 with ⟨_, e, _⟩ | ⟨_, e1⟩
    · cases e
    · rcases get_set e2 with ⟨_, e, _⟩ | ⟨_, e2⟩
      · cases e
      · exact I.nd j l zs us b e1 e2 e3 e4
  · rcases get_set e1 with ⟨_, e, _⟩ | ⟨_, e1⟩
    · cases e
    · exact I.mx j zs b e1 e2 hb
theorem sd_kup {i n m : Nat} (h : δ[i]? = some (some (E.k n))) (hm : n ≤ m) (s : SD G t (δ.set i (some (.k m))) QS) : SD G t δ QS := fun F σ H D I k => s F σ H D (I.kup h hm) k
theorem ed_kup {i n m : Nat} (h : δ[i]? = some (some (E.k n))) (hm : n ≤ m) (s : ED G te (δ.set i (some (.k m))) Q) : ED G te δ Q := fun F σ H D I k => s F σ H D (I.kup h hm) k
end
end DX


set_option Elab.async false
set_option linter.all false
set_option maxRecDepth 100000
set_option maxHeartbeats 2000000
/-! any(elt for target in iter), as all is done -/
namespace GN
open PySem PySem.Spec PyProof.Rows L2 GxR GA
section
variable {X : Cx} {pins : List (Addr × Obj)} {σ : L2.St} {H : Hp} {s : Shared}
/-! ### the generator's turns -/
/-- what is wanted of the invariant W: n turns, Q of the answer -/
structure Plan (J : It) (g : TG) (te : TE) (vs : List Nat) (σ : L2.St) (n : Nat) (W : Nat → Hp → Prop) (Q : Bool → Hp → Prop) : Prop where
  turn : ∀ i H, i < n → W i H → J.go i H ∧ ∀ x H', J.yld i H x H' → g x (wipe σ vs) H' fun σ2 H3 => wipe σ2 vs = wipe σ vs ∧ te σ2 H3 fun y H4 => ∃ b, y = .bl b ∧ if b = true then Q true H4 else W (i + 1) H4
  fin : ∀ H, W n H → J.stop n H ∧ Q false H

def EndG (X' : Cx) (pin : Addr × Obj) (τ : L2.St) (Q : Bool → Hp → Prop) : Nat → Shared → Shared → Prop := fun n _ s1 => n = 0 ∧ ∃ H', Inv X' [pin] τ H' s1 ∧ Q false H'
def YldG (X' : Cx) (pin : Addr × Obj) (τ : L2.St) (N : Nat) (W : Nat → Hp → Prop) (Q : Bool → Hp → Prop) : Protocol := fun m _ v s kap =>
  ∃ b H', v = .bool b ∧ Inv X' [pin] τ H' s ∧ ((b = true ∧ Q true H') ∨ (b = false ∧ W (N - m) H' ∧ ∀ t : Shared, t.heap = s.heap → t.os = s.os → AllBare t.gens → kap (.send .none) t))

theorem gen_loop {A : Around} {elt tg iter : Expr} {scope : Scope} {pos : Pos} {it a : Addr} {og : Obj} {fp : List Addr} {tn : Nat → Heap → Prop} {J : It} {g : TG} {te : TE} {vs : List Nat} {N : Nat} {W : Nat → Hp → Prop} {Q : Bool → Hp → Prop} {ce : Env} {s0 : Shared} {H0 : Hp}
    (hA : A.handled = none) (hc : X.calm = true) (hco : ce.scope.isCoroutine = false) (T : Turn X.prog X.w X.K tg J fp it tn) (P : Plan J g te vs σ N W Q)
    (pg : PG (gcx X s0 H0 ce (A.over (.compLoop (.GeneratorExp elt [⟨tg, iter, [], 0⟩] scope pos) 0 (.ref it) .none ce) []) fp) tg g)
    (pe : PE (gcx X s0 H0 ce (A.over (.compLoop (.GeneratorExp elt [⟨tg, iter, [], 0⟩] scope pos) 0 (.ref it) .none ce) []) fp) elt te) (hap : a ∉ fp) :
    ∀ (k i : Nat) (z0 s : Shared) (H : Hp), N - i = k → i ≤ N → Inv (gcx X s0 H0 ce (A.over (.compLoop (.GeneratorExp elt [⟨tg, iter, [], 0⟩] scope pos) 0 (.ref it) .none ce) []) fp) [(a, og)] (wipe σ vs) H s →
      tn i s.heap → (∀ b ∈ fp, H b = none) → W i H →
      Seg (model X.prog X.w) A (fun n z r z1 => r = .ok .next ∧ EndG (gcx X s0 H0 ce (A.over (.compLoop (.GeneratorExp elt [⟨tg, iter, [], 0⟩] scope pos) 0 (.ref it) .none ce) []) fp) (a, og) (wipe σ vs) Q n z z1)
        (YldG (gcx X s0 H0 ce (A.over (.compLoop (.GeneratorExp elt [⟨tg, iter, [], 0⟩] scope pos) 0 (.ref it) .none ce) []) fp) (a, og) (wipe σ vs) N W Q) k z0
        (.compLoop (.GeneratorExp elt [⟨tg, iter, [], 0⟩] scope pos) 0 (.ref it) .none ce)
        ((model X.prog X.w).den (.compLoop (.GeneratorExp elt [⟨tg, iter, [], 0⟩] scope pos) 0 (.ref it) .none ce)) [] s := by
  generalize hA' : A.over (.compLoop (.GeneratorExp elt [⟨tg, iter, [], 0⟩] scope pos) 0 (.ref it) .none ce) [] = A'
  rw [hA'] at pg pe
  have stat : ∀ {σ' : L2.St} {H' : Hp} {s' : Shared}, Inv (gcx X s0 H0 ce A' fp) [(a, og)] σ' H' s' → (∀ b ∈ fp, H' b = none) → ∀ b ∈ fp, FpOk (gcx X s0 H0 ce A' fp) [(a, og)] H' b := fun {σ' H' s'} I' hn b hb =>
    ⟨hn b hb, (I'.ok.exf b hb).1, I'.ok.exfs b hb, .inl hb, fun x c e => (I'.ok.exf b hb).2 x c e, fun p hp => by
      have hp : p ∈ ([] : List (Addr × Obj)) ++ [(a, og)] := hp
      have e : p = (a, og) := by simpa using hp
      rw [e]
      exact fun z => hap (by rw [show a = b from z]; exact hb)⟩
  intro k
  induction k with
  | zero =>
    intro i z0 s H hk hi I st n w
    have e : i = N := by omega
    subst e
    obtain ⟨stop, qq⟩ := P.fin H w
    show Seg _ A _ _ _ z0 _ ((compTurn (.GeneratorExp elt [⟨tg, iter, [], 0⟩] scope pos) 0 (.ref it) .none ce).onRaise (leaving ce)) [] s
    rw [compTurn_gen, Sem.onRaise_eq_wrap]
    refine seg_bind_wrap (wpAny_standAt ?_)
    have td := T.done (gcx X s0 H0 ce A' fp) rfl rfl rfl hc i [(a, og)] s _ H (fun _ _ => False) I (stat I n) st stop
    refine seg_bind_wrap ?_
    rw [hA']
    refine thnF td fun r s6 ⟨hr, I6⟩ => ?_
    subst hr
    exact seg_end (.ok .next) ⟨rfl, rfl, H, I6, qq⟩
  | succ k ih =>
    intro i z0 s H hk hi I st n w
    have hlt : i < N := by omega
    obtain ⟨go, step⟩ := P.turn i H hlt w
    show Seg _ A _ _ _ z0 _ ((compTurn (.GeneratorExp elt [⟨tg, iter, [], 0⟩] scope pos) 0 (.ref it) .none ce).onRaise (leaving ce)) [] s
    rw [compTurn_gen, Sem.onRaise_eq_wrap]
    refine seg_bind_wrap (wpAny_standAt ?_)
    have ti := T.item (gcx X s0 H0 ce A' fp) rfl rfl rfl hc i [(a, og)] s _ H (fun _ _ => False) I (stat I n) st go
    refine seg_bind_wrap ?_
    rw [hA']
    refine thnF ti fun r s6 ⟨u, hr, h6⟩ => ?_
    subst hr
    refine seg_bind_wrap ?_
    rw [hA']
    refine thnF h6 fun _ s7 ⟨x, H7, I7, r7, y7, st7, n7⟩ => ?_
    have I7' := I7.pinned (stat I7 n7) (T.obj _ _ st7)
    refine seg_bind_wrap ?_
    rw [hA']
    refine thnF (pg.run _ s7 _ H7 x u _ I7' r7 (step x H7 y7)) fun _ s8 ⟨σ8, H8, I8, hw8, q8⟩ => ?_
    refine seg_bind_wrap ?_
    rw [hA']
    refine wpAny_tests_nil ?_
    simp only [if_true]
    have hy : ∀ v, yieldOut ce v = yieldValue v := fun v => by simp only [yieldOut, hco, Bool.false_eq_true, if_false]
    simp only [hy]
    rw [Sem.bind_eq_wrap', Sem.bind_eq_wrap', Sem.wrap_wrap, Sem.wrap_wrap]
    refine seg_wrap ?_
    rw [hA']
    refine thnF (pe.run _ s8 σ8 H8 _ I8 q8) fun z s10 ⟨yv, H10, I10, r10, b, hyb, nx⟩ => ?_
    subst hyb
    obtain rfl : z = Value.bool b := r10
    have pin' : ∀ b ∈ fp, ∀ o, s7.heap.get? b = some o → s10.heap.get? b = some o ∧ H10 b = none := fun b hb o e =>
      let z := I10.pin (b, o) (List.mem_append_right _ (List.mem_append_right _ (mem_pinsAt hb e)))
      ⟨z.1, z.2.1⟩
    have hl : (wipe σ vs).length = σ8.length := by rw [← hw8, wipe_length]
    have I11 : Inv (gcx X s0 H0 ce A' fp) [(a, og)] (wipe σ vs) H10 s10 := (I10.unpinned (pins := [(a, og)])).weak hl (fun j v e => by
      rw [← hw8] at e
      exact (wipe_some e).1)
    refine seg_at (seg_yield rfl rfl rfl ⟨b, H10, rfl, I11, ?_⟩)
    cases b with
    | true => exact .inl ⟨rfl, nx⟩
    | false =>
      refine .inr ⟨rfl, ?_, fun t ht ho hb => ?_⟩
      · have e : N - k = i + 1 := by omega
        rw [e]
        exact nx
      · refine seg_again rfl (ih (i + 1) t t H10 (by omega) hlt (inv_same I11 ht ho hb) ?_ (fun b hb => ?_) nx)
        · rw [ht]
          exact T.keep _ _ _ st7 fun b hb o e => (pin' b hb o e).1
        · obtain ⟨o, e, _⟩ := T.obj _ _ st7 b hb
          exact (pin' b hb o e).2

/-! ### all's own loop over it -/
def AtG (X X' : Cx) (A : Around) (a : Addr) (og : Obj) (gn : Nat) (τ : L2.St) (N : Nat) (W : Nat → Hp → Prop) (Q : Bool → Hp → Prop) (k : Nat) (s : Shared) : Prop :=
  ∃ H, Inv X' [(a, og)] τ H s ∧ ∃ gs : GenState, s.gens[gn]? = some gs ∧ ∀ t : Shared, t.heap = s.heap → t.os = s.os → AllBare t.gens →
    gs.Goes (model X.prog X.w) A.in1 (fun n z r z1 => r = .ok .next ∧ EndG X' (a, og) τ Q n z z1) (YldG X' (a, og) τ N W Q) k (.send .none) t

theorem any_loop {X' : Cx} {a : Addr} {og : Obj} {gn : Nat} {τ : L2.St} {N : Nat} {W : Nat → Hp → Prop} {Q : Bool → Hp → Prop} {R : Result → Shared → Prop} (hd : X.A.handled = none) (hroom : X.A.depth < recursionLimit)
    (hgen : ∀ h : Heap, h.get? a = some og → h.IsGen a gn) (hback : ∀ H' s', Inv X' [(a, og)] τ H' s' → Inv X pins σ H' s') (hR : ∀ b H' s', Inv X pins σ H' s' → Q b H' → R (.ok (.ret (.bool b))) s') :
    ∀ (k : Nat) (s : Shared), k ≤ N → AtG X X' X.A.in1 a og gn τ N W Q k s → codeAny (model X.prog X.w) X.A (.builtin "any.loop" ⟨[.ref a], []⟩) R s := by
  intro k
  induction k with
  | zero =>
    rintro s hk ⟨H, I, gs, hgs, hgo⟩
    have hg : s.heap.IsGen a gn := hgen _ (I.pin (a, og) (List.mem_append_right _ (by simp))).1
    refine codeAny_builtin F.entry_any_loop ?_
    rw [Around.under_plainId F.plain_any_loop _]
    show wpAny _ X.A.in1 (pyNext (.ref a) >>= _) _ _ s
    refine wpAny_bind (wpAny_pyNext_genexpQ (P := EndG X' (a, og) τ Q) hd (hback _ _ I).nolimit hroom hg hgs (hgo _ rfl rfl (setGen_bare I.bare rfl)) (fun v s1 gs' hb hv => ?_) (fun s1 hp h' hk' => ?_))
    · obtain ⟨b, H', rfl, I1, ⟨_, q⟩ | ⟨_, _, q⟩⟩ := hv
      · subst b
        refine wpAny_bind (wpAny_holding (wpAny_truthy_bool ?_))
        refine wpAny_bind (wpAny_letGo ?_)
        simp only [if_true]
        refine wpAny_bind (wpAny_rule (wpAny_pure ?_))
        exact hR true H' _ (hback _ _ (inv_same I1 rfl rfl (setGen_bare I1.bare hb))) q
      · exact (q s1 rfl rfl I1.bare).elim
    · obtain ⟨_, H', I1, q⟩ := hp
      refine wpAny_bind (wpAny_rule (wpAny_pure ?_))
      have I2 : Inv X' [(a, og)] τ H' (s1.setGen gn .finished) := inv_same I1 rfl rfl (setGen_bare I1.bare rfl)
      exact hR false H' _ (hback _ _ (I2.kept (h' := h') (t' := s1.toks) hk')) q
  | succ k ih =>
    rintro s hk ⟨H, I, gs, hgs, hgo⟩
    have hlt : gn + 1 ≤ s.gens.size := by
      rcases Nat.lt_or_ge gn s.gens.size with z | z
      · exact z
      · rw [Array.getElem?_eq_none z] at hgs
        cases hgs
    have hg : s.heap.IsGen a gn := hgen _ (I.pin (a, og) (List.mem_append_right _ (by simp))).1
    refine codeAny_builtin F.entry_any_loop ?_
    rw [Around.under_plainId F.plain_any_loop _]
    show wpAny _ X.A.in1 (pyNext (.ref a) >>= _) _ _ s
    refine wpAny_bind (GenW.wpAny_gsz hlt ?_)
    refine wpAny_pyNext_genexpQ (P := EndG X' (a, og) τ Q) hd (hback _ _ I).nolimit hroom hg hgs (hgo _ rfl rfl (setGen_bare I.bare rfl)) (fun v s1 gs' hb hv => ?_) (fun s1 hp h' hk' => ?_)
    · intro hsz
      rw [GenW.setGen_size] at hsz
      obtain ⟨b, H', rfl, I1, ⟨_, q⟩ | ⟨_, w, q⟩⟩ := hv
      · subst b
        refine wpAny_bind (wpAny_holding (wpAny_truthy_bool ?_))
        refine wpAny_bind (wpAny_letGo ?_)
        simp only [if_true]
        refine wpAny_bind (wpAny_rule (wpAny_pure ?_))
        exact hR true H' _ (hback _ _ (inv_same I1 rfl rfl (setGen_bare I1.bare hb))) q
      · subst b
        refine wpAny_bind (wpAny_holding (wpAny_truthy_bool ?_))
        refine wpAny_bind (wpAny_letGo ?_)
        simp only [Bool.false_eq_true, if_false]
        refine wpAny_pure ⟨plainId_quiet F.plain_any_loop _, ih (s1.setGen gn gs') (by omega) ⟨H', inv_same I1 rfl rfl (setGen_bare I1.bare hb), gs', ?_, fun t ht ho hbt => q t ht ho hbt⟩⟩
        have hg1 : gn < s1.gens.size := hsz
        exact setGen_self (gs := s1.gens[gn]) (by rw [Array.getElem?_eq_getElem hg1])
    · exact absurd hp.1 (Nat.succ_ne_zero k)
end

/-! ### the rule -/
/-- all(elt for target in iter): the def's table at P may grow; then n turns by W -/
def tAnyG (P : Addr) (wi : TI) (g : TG) (te : TE) (vs : List Nat) : TE := fun σ H Q => wi σ H fun J H1 => TabG H1 P ∧ ∀ H2, Tabbed P H1 H2 → ∃ (n : Nat) (W : Nat → Hp → Prop), W 0 H2 ∧ Plan J g te vs σ n W (fun b H' => Q (.bl b) H')

section
variable {X : Cx}
theorem pe_anyG {c P : Addr} {elt iter tg : Expr} {p pos gpos : Pos} {scope : Scope} {own : List (Str × Nat)} {wi : TI} {g : TG} {te : TE} {k : Nat}
    (hr : Room (k + 1) X.A) (hcalm : X.calm = true) (hN : X.N.Nodup) (hgl : Gl X "any") (hm : X.mg "any" = none) (TB : TabB X.base X.mg c P) (hcode : X.env.code = .ref c)
    (hi : PI X tg iter wi) (ok : BlkOk X.N X.env.scope scope own) (hcell : ∀ y ∈ scope.names, y.2 ≠ .cell) (hdot : scope.names.lookup (".0" : Str) = some NameKind.local) (hco : scope.isCoroutine = false)
    (hg : ∀ (s : Shared) (H : Hp) (C : Addr) (cl : List (Str × Addr)) (code : Value) (A' : Around) (fp : List Addr), PG (gcx X s H (genEnv scope cl C code builtinsNs X.env) A' fp) tg g)
    (he : ∀ (s : Shared) (H : Hp) (C : Addr) (cl : List (Str × Addr)) (code : Value) (A' : Around) (fp : List Addr), Room k A' → PE (gcx X s H (genEnv scope cl C code builtinsNs X.env) A' fp) elt te)
    (hs : ∀ v, genFold iter X.env v = pure v) (hb : bootBuiltins "any" = some (.builtin "any"))
    (hst : starEach [.GeneratorExp elt [⟨tg, iter, [], 0⟩] scope gpos] X.env = (false, eval (.GeneratorExp elt [⟨tg, iter, [], 0⟩] scope gpos) X.env) :: starEach [] X.env := by rfl) :
    PE X (.Call (.Name "any" p) [.GeneratorExp elt [⟨tg, iter, [], 0⟩] scope gpos] [] pos) (tAnyG P wi g te (own.map (·.2))) := by
  refine ⟨fun pins s σ H Q I h => ?_⟩
  refine wpAny_Call_Name_kw (ld_blt I hgl hm hb ?_)
  refine PyProof.Rows.callWith_builtin1 ?_ hst (by rfl)
  rw [hst]
  show wpAny _ _ (spliced ((false, eval (.GeneratorExp elt [⟨tg, iter, [], 0⟩] scope gpos) X.env) :: backTo pos (starEach [] X.env))) _ _ s
  refine Calls.spliced_cons ?_
  have hfree : ∀ y ∈ scope.names, y.2 = .free → ∃ c, X.env.cells.lookup y.1 = some c := fun y hy e => by
    rcases ok.free y hy e with k | k
    · exact I.ok.has _ (.inl k)
    · exact I.ok.has _ (.inr k)
  refine wpAny_GeneratorExp_make hco (closure_ok hfree) hcell hdot ok.kind hr.depth ?_ hs
  refine thn (hi.run pins s σ H _ I h) fun xv s1 hx => thn hx fun itv s2 h2 => ?_
  obtain ⟨it, fp, tn, J, H2, e, I2, T, st2, f2, ⟨ps, hP, ht⟩, q⟩ := h2
  subst e
  refine ⟨I2.nolimit, ?_⟩
  have hPs : s2.heap.get? P = some { cls := .none, data := .fields ps } := I2.hok P _ hP
  have cd : PySem.W.CodeHd s2.heap c P := TB.code.keeps fun b u e => I2.bk b u e
  have nN : ∀ b, H2 b = none → b ≠ P := fun b e z => by
    rw [z, hP] at e
    cases e
  have sz2 : ∀ b ∈ fp, b < s2.heap.objs.size := fun b hb => by
    obtain ⟨o, e, _⟩ := T.obj _ _ st2 b hb
    exact Heap.lt_size e
  -- behind the table
  have cont : ∀ (code : Value) (s3 : Shared) (H3 : Hp), Inv X pins σ H3 s3 → Tabbed P H2 H3 → (∀ b o, b ≠ P → s2.heap.get? b = some o → s3.heap.get? b = some o) →
      wpAny (model X.prog X.w) X.A (builtinsFor X.env.globals X.env.builtins) (fun bi s4 =>
        ∀ h', h'.Ns s4.heap.objs.size (fun y => if y = (".0" : Str) then some (Value.ref it) else none) → Heap.SameBut s4.heap.objs.size (s4.heap.push { cls := .type "frame", data := .dict #[] }) h' →
          wpAny (model X.prog X.w) X.A (spliced (backTo pos (starEach [] X.env))) (fun vs s' => wpAny (model X.prog X.w) X.A (call (.builtin "any") (Value.ref h'.objs.size :: vs)) (EP X pins σ Q) X.xe s') X.xe { s4 with
            gens := s4.gens.push (.fresh (.compStart (.GeneratorExp elt [⟨tg, iter, [], 0⟩] scope gpos) 0 (.ref it) .none (genEnv scope (cloFrom X.env.cells scope.names []) s4.heap.objs.size code bi X.env))),
            toks := s4.toks + 1 + 1 + 1,
            heap := h'.push { cls := .type "generator", data := .fields #[.int s4.gens.size 0, .str "<genexpr>" (s4.toks + 1), .str (X.env.qual ++ "<genexpr>") (s4.toks + 1 + 1)] } }) X.xe s3 := by
    intro code s3 H3 I3 hT kp3
    obtain ⟨bm, ob, e1, e2, e3, e4, e5, e6, e7, e8⟩ := TB.bm
    refine wpAny_builtinsFor (m := X.mg) (by rw [I3.ok.glob]; exact I3.mod.glob.keeps I3.bk) e1 e2 (I3.bk _ _ e5) e6 e7 e8 ?_
    intro h' hns hsb
    refine Calls.spliced_nil ?_
    generalize hog : ({ cls := .type "generator", data := .fields #[.int s3.gens.size 0, .str "<genexpr>" (s3.toks + 1), .str (X.env.qual ++ "<genexpr>") (s3.toks + 1 + 1)] } : Obj) = og
    generalize hce : genEnv scope (cloFrom X.env.cells scope.names []) s3.heap.objs.size code builtinsNs X.env = ce
    generalize hgs : (GenState.fresh (.compStart (.GeneratorExp elt [⟨tg, iter, [], 0⟩] scope gpos) 0 (.ref it) .none ce)) = gs
    obtain ⟨n, W, w0, pl⟩ := q H3 hT
    have nfp : ∀ b ∈ fp, H3 b = none := fun b hb => (hT.2 b (nN b (f2 b hb).1)).trans (f2 b hb).1
    have f3 : ∀ b ∈ fp, FpOk X pins H3 b ∧ b < s3.heap.objs.size := fun b hb => by
      obtain ⟨o, e, _⟩ := T.obj _ _ st2 b hb
      exact ⟨⟨nfp b hb, (f2 b hb).2⟩, Heap.lt_size (kp3 b o (nN b (f2 b hb).1) e)⟩
    have st3 : tn 0 s3.heap := T.keep _ _ _ st2 fun b hb o e => kp3 b o (nN b (f2 b hb).1) e
    have hfrm : (X.A.in1.in1.over (.compLoop (.GeneratorExp elt [⟨tg, iter, [], 0⟩] scope gpos) 0 (.ref it) .none ce) []).frames = some (ce :: X.stack) := by
      show pushEnvs [ce] (pushEnvs (envsOf []) X.A.frames) = _
      rw [I3.ok.frames]
      rfl
    have hrm : Room k (X.A.in1.in1.over (.compLoop (.GeneratorExp elt [⟨tg, iter, [], 0⟩] scope gpos) 0 (.ref it) .none ce) []) := by
      refine ⟨hr.hd, ?_, ?_⟩
      · have z := hr.dp
        show X.A.depth + 0 + 1 + 3 * k + 5 < _
        omega
      · have z := hr.un
        show X.A.units + 1 + 1 + 0 + 3 + 16 * k + 200 < _
        omega
    have hsz : h'.objs.size = s3.heap.objs.size + 1 := by rw [hsb.1, Heap.size_push]
    have I4 := gen_start (og := og) (g' := s3.gens.push gs) (tk := s3.toks + 1 + 1 + 1) (fp := fp) (A' := X.A.in1.in1.over (.compLoop (.GeneratorExp elt [⟨tg, iter, [], 0⟩] scope gpos) 0 (.ref it) .none ce) []) I3 ok hN f3 hcell hce.symm hr.hd hfrm hns hsb (fun v z => by subst hog; cases z) (by subst hog; rfl) (I3.bare.push (by subst hgs; rfl))
    have st4 : tn 0 (h'.push og) := T.keep _ _ _ st3 fun b hb o e => Heap.get?_push_of_some _ (hsb.extBut b o (Nat.ne_of_lt (f3 b hb).2) (Heap.get?_push_of_some _ e))
    have hap : h'.objs.size ∉ fp := fun z => by
      have q1 : (h'.objs.size : Nat) < s3.heap.objs.size := (f3 _ z).2
      rw [hsz] at q1
      exact absurd q1 (Nat.not_lt.mpr (Nat.le_succ _))
    have pg := hg s3 H3 s3.heap.objs.size (cloFrom X.env.cells scope.names []) code (X.A.in1.in1.over (.compLoop (.GeneratorExp elt [⟨tg, iter, [], 0⟩] scope gpos) 0 (.ref it) .none ce) []) fp
    have pe := he s3 H3 s3.heap.objs.size (cloFrom X.env.cells scope.names []) code (X.A.in1.in1.over (.compLoop (.GeneratorExp elt [⟨tg, iter, [], 0⟩] scope gpos) 0 (.ref it) .none ce) []) fp hrm
    rw [hce] at pg pe
    have hcs : ce.scope = scope := by rw [← hce]; rfl
    have loop := fun (z0 t : Shared) (I : Inv _ _ _ _ t) (st : tn 0 t.heap) => gen_loop (A := X.A.in1.in1) (og := og) (a := h'.objs.size) (N := n) (pos := gpos) (iter := iter) (scope := scope) (it := it) hr.hd hcalm (by rw [hcs]; exact hco) T pl pg pe hap n 0 z0 t H3 rfl (Nat.zero_le _) I st nfp w0
    refine call_function_tree F.kind_any F.plain_any F.entry_any (F.args_any1 _) ?_
    unfold Builtin.«any»
    refine wpAny_bind (m := oneArg "any" _) (wpAny_pure ?_)
    have isG : ∀ h : Heap, h.get? h'.objs.size = some og → h.IsGen h'.objs.size s3.gens.size := fun h e => by
      subst hog
      exact ⟨_, _, _, e, rfl, rfl, rfl⟩
    refine wpAny_bind (wpAny_pyIter_gen (g := s3.gens.size) (isG _ (Heap.get?_push_size _ (by subst hog; rfl))) ?_)
    refine wpAny_pure ⟨plainId_quiet F.plain_any_loop _, ?_⟩
    refine any_loop (X' := gcx X s3 H3 ce (X.A.in1.in1.over (.compLoop (.GeneratorExp elt [⟨tg, iter, [], 0⟩] scope gpos) 0 (.ref it) .none ce) []) fp) (og := og) (gn := s3.gens.size) (τ := wipe σ (own.map (·.2))) (N := n) (W := W) (Q := fun b H' => Q (.bl b) H') hr.hd hr.depth isG (fun H' s' I' => ?_) (fun b H' s' I' q' => ⟨.bl b, H', I', rfl, q'⟩) n _ (Nat.le_refl _) ⟨H3, I4, gs, ?_, fun t ht ho hbt => ?_⟩
    · exact I3.call' (ch := fp) I'.os I'.base I'.hok I'.bare fun b hb => ⟨(f3 b hb).1.2.2.2.1, (f3 b hb).1.2.1, (f3 b hb).1.2.2.2.2.1, (f3 b hb).1.2.2.2.2.2⟩
    · exact Array.getElem?_push_size ..
    · have I5 := inv_same I4 ht ho hbt
      have st5 : tn 0 t.heap := by rw [ht]; exact st4
      subst hgs
      refine ⟨rfl, ?_⟩
      have lp := loop t t I5 st5
      show Seg _ _ _ _ _ _ _ ((compStart (.GeneratorExp elt [⟨tg, iter, [], 0⟩] scope gpos) 0 (.ref it) .none ce).onRaise (leaving ce)) [] t
      unfold compStart
      rw [Sem.onRaise_eq_wrap]
      show Seg _ _ _ _ _ _ _ ((ask >>= _).wrap _ _ _ _) [] t
      refine seg_bind_wrap (wpAny_askSetting ?_)
      split
      · exact seg_again rfl lp
      · refine seg_bind_wrap (wpAny_rule ?_)
        show Seg _ _ _ _ _ _ _ ((standAt iter.pos >>= _).wrap _ _ _ _) [] t
        exact seg_bind_wrap (wpAny_standAt (seg_bind_wrap (T.self _ 0 t _ _ st5 (seg_again rfl lp))))
  cases hf : codeAmong gpos ps.toList with
  | none =>
    refine wpAny_genexprCodeX hcode (cd.code hPs ht) (cd.tab hPs) hf fun c' h' tk hx hge hlt hco' _ htab' _ => ?_
    obtain ⟨o1, vs1, f1, tf, fl, tg1, inF, tx, tt, op, _, _, _, _, _, _, _, _, _, htr, _⟩ := hco'
    have J := inv_tab (more := #[rawInt gpos.line, rawInt gpos.col, .ref c']) (h' := h') (g' := s2.gens) (d' := s2.drawn) (t' := tk) I2 hP hx htab'.2 I2.bare
    exact cont _ _ _ J ⟨⟨_, upd_same, htr⟩, fun b hb => upd_ne hb⟩ hx
  | some cv =>
    refine wpAny_genexprCode_hit hcode (cd.code hPs ht) hf ?_
    exact cont cv s2 H2 I2 ⟨⟨ps, hP, ht⟩, fun _ _ => rfl⟩ fun b o _ e => e
end
end GN


set_option Elab.async false
set_option linter.all false
set_option maxRecDepth 100000
set_option maxHeartbeats 2000000
/-! sum(elt for target in iter), the elts ints -/
namespace GU
open PySem PySem.Spec PyProof.Rows L2 GxR GA
section
variable {X : Cx} {pins : List (Addr × Obj)} {σ : L2.St} {H : Hp} {s : Shared}
/-- what is wanted of the invariant W: n turns, each gives val i -/
structure Plan (J : It) (g : TG) (te : TE) (vs : List Nat) (σ : L2.St) (n : Nat) (val : Nat → Int) (W : Nat → Hp → Prop) (Q : Hp → Prop) : Prop where
  turn : ∀ i H, i < n → W i H → J.go i H ∧ ∀ x H', J.yld i H x H' → g x (wipe σ vs) H' fun σ2 H3 => wipe σ2 vs = wipe σ vs ∧ te σ2 H3 fun y H4 => y = .int (val i) ∧ W (i + 1) H4
  fin : ∀ H, W n H → J.stop n H ∧ Q H
/-- the running sum's list -/
def So (val : Nat → Int) (i : Nat) (o : Obj) : Prop := ∃ (t : Tok) (c : Nat), o = { cls := .type "list", dict := none, data := .seq #[.int (preSum val i) t] c, slots := #[] }
def EndS (X' : Cx) (pin : Addr × Obj) (S : Addr) (val : Nat → Int) (N : Nat) (τ : L2.St) (Q : Hp → Prop) : Nat → Shared → Shared → Prop := fun n _ s1 => n = 0 ∧ ∃ o H', So val N o ∧ Inv X' [pin, (S, o)] τ H' s1 ∧ Q H'
def YldS (X' : Cx) (pin : Addr × Obj) (S : Addr) (fp : List Addr) (τ : L2.St) (N : Nat) (val : Nat → Int) (W : Nat → Hp → Prop) : Protocol := fun m _ v s kap =>
  ∃ o H' tok, So val (N - m - 1) o ∧ v = .int (val (N - m - 1)) tok ∧ Inv X' [pin, (S, o)] τ H' s ∧ W (N - m) H' ∧
    ∀ (o2 : Obj) (t : Shared), So val (N - m) o2 → Inv X' [pin, (S, o2)] τ H' t → (∀ b ∈ fp, ∀ u, s.heap.get? b = some u → t.heap.get? b = some u) → kap (.send .none) t
theorem gen_loopS {A : Around} {elt tg iter : Expr} {scope : Scope} {pos : Pos} {it a S : Addr} {og : Obj} {fp : List Addr} {tn : Nat → Heap → Prop} {J : It} {g : TG} {te : TE} {vs : List Nat} {N : Nat} {val : Nat → Int} {W : Nat → Hp → Prop} {Q : Hp → Prop} {ce : Env} {s0 : Shared} {H0 : Hp}
    (hA : A.handled = none) (hc : X.calm = true) (hco : ce.scope.isCoroutine = false) (T : Turn X.prog X.w X.K tg J fp it tn) (P : Plan J g te vs σ N val W Q)
    (pg : PG (gcx X s0 H0 ce (A.over (.compLoop (.GeneratorExp elt [⟨tg, iter, [], 0⟩] scope pos) 0 (.ref it) .none ce) []) fp) tg g)
    (pe : PE (gcx X s0 H0 ce (A.over (.compLoop (.GeneratorExp elt [⟨tg, iter, [], 0⟩] scope pos) 0 (.ref it) .none ce) []) fp) elt te) (hap : a ∉ fp) (hSp : S ∉ fp) :
    ∀ (k i : Nat) (o : Obj) (z0 s : Shared) (H : Hp), N - i = k → i ≤ N → So val i o → Inv (gcx X s0 H0 ce (A.over (.compLoop (.GeneratorExp elt [⟨tg, iter, [], 0⟩] scope pos) 0 (.ref it) .none ce) []) fp) [(a, og), (S, o)] (wipe σ vs) H s →
      tn i s.heap → (∀ b ∈ fp, H b = none) → W i H →
      Seg (model X.prog X.w) A (fun n z r z1 => r = .ok .next ∧ EndS (gcx X s0 H0 ce (A.over (.compLoop (.GeneratorExp elt [⟨tg, iter, [], 0⟩] scope pos) 0 (.ref it) .none ce) []) fp) (a, og) S val N (wipe σ vs) Q n z z1)
        (YldS (gcx X s0 H0 ce (A.over (.compLoop (.GeneratorExp elt [⟨tg, iter, [], 0⟩] scope pos) 0 (.ref it) .none ce) []) fp) (a, og) S fp (wipe σ vs) N val W) k z0
        (.compLoop (.GeneratorExp elt [⟨tg, iter, [], 0⟩] scope pos) 0 (.ref it) .none ce)
        ((model X.prog X.w).den (.compLoop (.GeneratorExp elt [⟨tg, iter, [], 0⟩] scope pos) 0 (.ref it) .none ce)) [] s := by
  generalize hA' : A.over (.compLoop (.GeneratorExp elt [⟨tg, iter, [], 0⟩] scope pos) 0 (.ref it) .none ce) [] = A'
  rw [hA'] at pg pe
  have stat : ∀ {o : Obj} {σ' : L2.St} {H' : Hp} {s' : Shared}, Inv (gcx X s0 H0 ce A' fp) [(a, og), (S, o)] σ' H' s' → (∀ b ∈ fp, H' b = none) → ∀ b ∈ fp, FpOk (gcx X s0 H0 ce A' fp) [(a, og), (S, o)] H' b := fun {o σ' H' s'} I' hn b hb =>
    ⟨hn b hb, (I'.ok.exf b hb).1, I'.ok.exfs b hb, .inl hb, fun x c e => (I'.ok.exf b hb).2 x c e, fun p hp => by
      have hp : p ∈ ([] : List (Addr × Obj)) ++ [(a, og), (S, o)] := hp
      have e : p = (a, og) ∨ p = (S, o) := by simpa using hp
      rcases e with e | e
      · rw [e]
        exact fun z => hap (by rw [show a = b from z]; exact hb)
      · rw [e]
        exact fun z => hSp (by rw [show S = b from z]; exact hb)⟩
  intro k
  induction k with
  | zero =>
    intro i o z0 s H hk hi so I st n w
    have e : i = N := by omega
    subst e
    obtain ⟨stop, qq⟩ := P.fin H w
    show Seg _ A _ _ _ z0 _ ((compTurn (.GeneratorExp elt [⟨tg, iter, [], 0⟩] scope pos) 0 (.ref it) .none ce).onRaise (leaving ce)) [] s
    rw [compTurn_gen, Sem.onRaise_eq_wrap]
    refine seg_bind_wrap (wpAny_standAt ?_)
    have td := T.done (gcx X s0 H0 ce A' fp) rfl rfl rfl hc i [(a, og), (S, o)] s _ H (fun _ _ => False) I (stat I n) st stop
    refine seg_bind_wrap ?_
    rw [hA']
    refine thnF td fun r s6 ⟨hr, I6⟩ => ?_
    subst hr
    exact seg_end (.ok .next) ⟨rfl, rfl, o, H, so, I6, qq⟩
  | succ k ih =>
    intro i o z0 s H hk hi so I st n w
    have hlt : i < N := by omega
    obtain ⟨go, step⟩ := P.turn i H hlt w
    show Seg _ A _ _ _ z0 _ ((compTurn (.GeneratorExp elt [⟨tg, iter, [], 0⟩] scope pos) 0 (.ref it) .none ce).onRaise (leaving ce)) [] s
    rw [compTurn_gen, Sem.onRaise_eq_wrap]
    refine seg_bind_wrap (wpAny_standAt ?_)
    have ti := T.item (gcx X s0 H0 ce A' fp) rfl rfl rfl hc i [(a, og), (S, o)] s _ H (fun _ _ => False) I (stat I n) st go
    refine seg_bind_wrap ?_
    rw [hA']
    refine thnF ti fun r s6 ⟨u, hr, h6⟩ => ?_
    subst hr
    refine seg_bind_wrap ?_
    rw [hA']
    refine thnF h6 fun _ s7 ⟨x, H7, I7, r7, y7, st7, n7⟩ => ?_
    have I7' := I7.pinned (stat I7 n7) (T.obj _ _ st7)
    refine seg_bind_wrap ?_
    rw [hA']
    refine thnF (pg.run _ s7 _ H7 x u _ I7' r7 (step x H7 y7)) fun _ s8 ⟨σ8, H8, I8, hw8, q8⟩ => ?_
    refine seg_bind_wrap ?_
    rw [hA']
    refine wpAny_tests_nil ?_
    simp only [if_true]
    have hy : ∀ v, yieldOut ce v = yieldValue v := fun v => by simp only [yieldOut, hco, Bool.false_eq_true, if_false]
    simp only [hy]
    rw [Sem.bind_eq_wrap', Sem.bind_eq_wrap', Sem.wrap_wrap, Sem.wrap_wrap]
    refine seg_wrap ?_
    rw [hA']
    refine thnF (pe.run _ s8 σ8 H8 _ I8 q8) fun z s10 ⟨yv, H10, I10, r10, hyb, nx⟩ => ?_
    subst hyb
    obtain ⟨tok, rfl⟩ : ∃ t, z = Value.int (val i) t := r10
    have pin' : ∀ b ∈ fp, ∀ o, s7.heap.get? b = some o → s10.heap.get? b = some o ∧ H10 b = none := fun b hb o e =>
      let z := I10.pin (b, o) (List.mem_append_right _ (List.mem_append_right _ (mem_pinsAt hb e)))
      ⟨z.1, z.2.1⟩
    have hl : (wipe σ vs).length = σ8.length := by rw [← hw8, wipe_length]
    have I11 : Inv (gcx X s0 H0 ce A' fp) [(a, og), (S, o)] (wipe σ vs) H10 s10 := (I10.unpinned (pins := [(a, og), (S, o)])).weak hl (fun j v e => by
      rw [← hw8] at e
      exact (wipe_some e).1)
    have e1 : N - k - 1 = i := by omega
    have e2 : N - k = i + 1 := by omega
    refine seg_at (seg_yield rfl rfl rfl ⟨o, H10, tok, by rw [e1]; exact so, by rw [e1], I11, by rw [e2]; exact nx, fun o2 t so2 It hfp => ?_⟩)
    rw [e2] at so2
    refine seg_again rfl (ih (i + 1) o2 t t H10 (by omega) hlt so2 It ?_ (fun b hb => ?_) nx)
    · refine T.keep _ _ _ st7 fun b hb o e => ?_
      exact hfp b hb o (pin' b hb o e).1
    · obtain ⟨o, e, _⟩ := T.obj _ _ st7 b hb
      exact (pin' b hb o e).2
/-! ### sum's own loop over it -/
def AtS (X' : Cx) (A : Around) (a S : Addr) (og : Obj) (gn : Nat) (fp : List Addr) (τ : L2.St) (N : Nat) (val : Nat → Int) (W : Nat → Hp → Prop) (Q : Hp → Prop) (prog : Program) (w : World) (k : Nat) (s : Shared) : Prop :=
  ∃ H o, So val (N - k) o ∧ Inv X' [(a, og), (S, o)] τ H s ∧ ∃ gs : GenState, s.gens[gn]? = some gs ∧ ∀ t : Shared, t.heap = s.heap → t.os = s.os → AllBare t.gens →
    gs.Goes (model prog w) A.in1 (fun n z r z1 => r = .ok .next ∧ EndS X' (a, og) S val N τ Q n z z1) (YldS X' (a, og) S fp τ N val W) k (.send .none) t
theorem repin {X' : Cx} {a S : Addr} {og o o2 : Obj} {τ : L2.St} {H : Hp} {s : Shared} {h2 : Heap} {tk : Nat} (I : Inv X' [(a, og), (S, o)] τ H s) (fS : ∀ H : Hp, H S = none → FpOk X' [(a, og)] H S) (kp : ∀ b u, b ≠ S → s.heap.get? b = some u → h2.get? b = some u) (hS : h2.get? S = some o2) (nc : ∀ v, o2.data ≠ .cell v) :
    Inv X' [(a, og), (S, o2)] τ H { s with heap := h2, toks := tk } := by
  have pS := I.pin (S, o) (List.mem_append_right _ (by simp))
  have I1 : Inv X' [(a, og)] τ H s := Inv.unpinned (pins := [(a, og)]) (pl := [(S, o)]) I
  have I2 := I1.turnedL (h' := h2) (t' := tk) (ch := [S]) (fun b u hb e => kp b u (fun z => hb (by simp [z])) e) fun b hb => by rw [List.mem_singleton.mp hb]; exact fS H pS.2.1
  refine I2.pins_of fun p hp => ?_
  rcases List.mem_cons.mp hp with rfl | hp
  · exact I2.pin _ (List.mem_append_right _ (by simp))
  · rw [List.mem_singleton.mp hp]
    exact ⟨hS, pS.2.1, pS.2.2.1, pS.2.2.2.1, nc⟩
theorem sum_loop {X' : Cx} {a S : Addr} {og : Obj} {gn : Nat} {fp : List Addr} {τ : L2.St} {N : Nat} {val : Nat → Int} {W : Nat → Hp → Prop} {Q : Hp → Prop} {R : Result → Shared → Prop} (hd : X.A.handled = none) (hroom : X.A.depth < recursionLimit)
    (hgen : ∀ h : Heap, h.get? a = some og → h.IsGen a gn) (hback : ∀ o H' s', Inv X' [(a, og), (S, o)] τ H' s' → Inv X pins σ H' s') (fS : ∀ H : Hp, H S = none → FpOk X' [(a, og)] H S) (hSp : S ∉ fp) (hfit : ∀ j, j < N → InLong (val j) ∧ InLong (preSum val (j + 1)))
    (hR : ∀ t H' s', Inv X pins σ H' s' → Q H' → R (.ok (.ret (.int (preSum val N) t))) s') :
    ∀ (k : Nat) (s : Shared), k ≤ N → AtS X' X.A.in1 a S og gn fp τ N val W Q X.prog X.w k s → codeAny (model X.prog X.w) X.A (.builtin "sum.loop" ⟨[.ref a, .ref S, rawInt 0, rawInt 0], []⟩) R s := by
  intro k
  induction k with
  | zero =>
    rintro s hk ⟨H, o, so, I, gs, hgs, hgo⟩
    have hg : s.heap.IsGen a gn := hgen _ (I.pin (a, og) (List.mem_append_right _ (by simp))).1
    have hS := (I.pin (S, o) (List.mem_append_right _ (by simp))).1
    obtain ⟨tA, c, rfl⟩ := so
    refine codeAny_builtin F.entry_sum_loop ?_
    rw [Around.under_plainId F.plain_sum_loop _]
    show wpAny _ X.A.in1 (seqItems? (.ref S) >>= _) _ _ s
    refine wpAny_bind (wpAny_seqItems hS rfl ?_)
    show wpAny _ X.A.in1 (tryCatch (pyNext (.ref a)) _ >>= _) _ _ s
    refine wpAny_bind (wpAny_tryCatch ?_)
    refine wpAny_pyNext_genexpQ (P := EndS X' (a, og) S val N τ Q) hd (hback _ _ _ I).nolimit hroom hg hgs (hgo _ rfl rfl (setGen_bare I.bare rfl)) (fun v s1 gs' hb hv => ?_) (fun s1 hp h' hk' => ?_)
    · obtain ⟨o1, H', tok, so1, rfl, I1, _, q⟩ := hv
      have hS1 := (I1.pin (S, o1) (List.mem_append_right _ (by simp))).1
      obtain ⟨t1, c1, rfl⟩ := so1
      have I2 := repin (tk := s1.toks) I1 fS (fun b u hb e => (Heap.get?_update_other s1.heap (fun _ => { cls := .type "list", dict := none, data := .seq #[.int (preSum val N) 0] 0, slots := #[] }) (Ne.symm hb)).trans e) (Heap.get?_update_self (fun _ => { cls := .type "list", dict := none, data := .seq #[.int (preSum val N) 0] 0, slots := #[] }) hS1 rfl) (fun v z => by cases z)
      exact (q _ _ ⟨0, 0, rfl⟩ I2 (fun b hb u e => (Heap.get?_update_other s1.heap _ (fun z : S = b => hSp (by rw [z]; exact hb))).trans e)).elim
    · obtain ⟨_, o1, H', so1, I1, q⟩ := hp
      refine wpAny_pure ?_
      have I2 : Inv X' [(a, og), (S, o1)] τ H' (s1.setGen gn .finished) := inv_same I1 rfl rfl (setGen_bare I1.bare rfl)
      exact hR tA H' _ (hback _ _ _ (I2.kept (h' := h') (t' := s1.toks) hk')) q
  | succ k ih =>
    rintro s hk ⟨H, o, so, I, gs, hgs, hgo⟩
    have hlt : gn + 1 ≤ s.gens.size := by
      rcases Nat.lt_or_ge gn s.gens.size with z | z
      · exact z
      · rw [Array.getElem?_eq_none z] at hgs
        cases hgs
    have hg : s.heap.IsGen a gn := hgen _ (I.pin (a, og) (List.mem_append_right _ (by simp))).1
    have hS := (I.pin (S, o) (List.mem_append_right _ (by simp))).1
    obtain ⟨tA, c, rfl⟩ := so
    refine codeAny_builtin F.entry_sum_loop ?_
    rw [Around.under_plainId F.plain_sum_loop _]
    show wpAny _ X.A.in1 (seqItems? (.ref S) >>= _) _ _ s
    refine wpAny_bind (wpAny_seqItems hS rfl ?_)
    show wpAny _ X.A.in1 (tryCatch (pyNext (.ref a)) _ >>= _) _ _ s
    refine wpAny_bind (wpAny_tryCatch (GenW.wpAny_gsz hlt ?_))
    refine wpAny_pyNext_genexpQ (P := EndS X' (a, og) S val N τ Q) hd (hback _ _ _ I).nolimit hroom hg hgs (hgo _ rfl rfl (setGen_bare I.bare rfl)) (fun v s1 gs' hb hv => ?_) (fun s1 hp h' hk' => ?_)
    · intro hsz
      rw [GenW.setGen_size] at hsz
      have ei : N - (k + 1 - 1) - 1 = N - (k + 1) := by omega
      obtain ⟨o1, H', tok, so1, rfl, I1, w1, q⟩ := hv
      rw [ei] at so1 ⊢
      obtain ⟨t1, c1, rfl⟩ := so1
      have I2 : Inv X' _ τ H' (s1.setGen gn gs') := inv_same I1 rfl rfl (setGen_bare I1.bare hb)
      have hS1 : (s1.setGen gn gs').heap.get? S = some { cls := .type "list", dict := none, data := .seq #[.int (preSum val (N - (k + 1))) t1] c1, slots := #[] } := (I2.pin (S, { cls := .type "list", dict := none, data := .seq #[.int (preSum val (N - (k + 1))) t1] c1, slots := #[] }) (List.mem_append_right _ (by simp))).1
      obtain ⟨⟨f1, f2⟩, f3, f4⟩ := hfit (N - (k + 1)) (by omega)
      have es : preSum val (N - (k + 1) + 1) = preSum val (N - (k + 1)) + val (N - (k + 1)) := rfl
      have hc : ((decide (-(2 ^ 63) ≤ val (N - (k + 1))) && decide (val (N - (k + 1)) < 2 ^ 63)) && (decide (-(2 ^ 63) ≤ preSum val (N - (k + 1)) + val (N - (k + 1))) && decide (preSum val (N - (k + 1)) + val (N - (k + 1)) < 2 ^ 63))) = true := by
        rw [es] at f3 f4
        simp only [Bool.and_eq_true, decide_eq_true_eq]
        exact ⟨⟨f1, f2⟩, f3, f4⟩
      show wpAny _ X.A.in1 (if (_ : Bool) = true then (mkInt (preSum val (N - (k + 1)) + val (N - (k + 1))) >>= _) else _) _ _ _
      split
      · refine wpAny_bind (wpAny_mkInt ?_)
        show wpAny _ X.A.in1 (updateSeq S (fun _ => #[.int (preSum val (N - (k + 1)) + val (N - (k + 1))) _]) >>= _) _ _ _
        refine wpAny_bind ?_
        refine wpAny_updateSeq hS1 rfl (wpAny_pure ⟨plainId_quiet F.plain_sum_loop _, ih _ (by omega) ?_⟩)
        have en : N - k = N - (k + 1) + 1 := by omega
        refine ⟨H', { cls := .type "list", dict := none, data := .seq #[.int (preSum val (N - (k + 1)) + val (N - (k + 1))) _] _, slots := #[] }, ?so, repin (I2.tok ((s1.setGen gn gs').toks + 1)) fS (fun b u hb e => (Heap.get?_update_other _ _ (Ne.symm hb)).trans e) (Heap.get?_update_self _ hS1 rfl) (fun v z => by cases z), gs', ?_, fun t ht ho hbt => ?_⟩
        case so => exact ⟨_, _, by rw [en, es]⟩
        · have hg1 : gn < s1.gens.size := hsz
          exact setGen_self (gs := s1.gens[gn]) (by rw [Array.getElem?_eq_getElem hg1])
        · refine q { cls := .type "list", dict := none, data := .seq #[.int (preSum val (N - (k + 1)) + val (N - (k + 1))) _] _, slots := #[] } t ?so2 (inv_same (repin (I2.tok ((s1.setGen gn gs').toks + 1)) fS (fun b u hb e => (Heap.get?_update_other _ _ (Ne.symm hb)).trans e) (Heap.get?_update_self _ hS1 rfl) (fun v z => by cases z)) ht ho hbt) fun b hb u e => ?_
          case so2 => exact ⟨_, _, by rw [show N - (k + 1 - 1) = N - (k + 1) + 1 by omega, es]⟩
          rw [ht]
          exact (Heap.get?_update_other _ _ (fun z : S = b => hSp (by rw [z]; exact hb))).trans e
      · rename_i hneg
        exact absurd hc hneg
    · exact absurd hp.1 (Nat.succ_ne_zero k)
end
/-! ### the rule -/
/-- all(elt for target in iter): the def's table at P may grow; then n turns by W -/
def tSumG (P : Addr) (wi : TI) (g : TG) (te : TE) (vs : List Nat) : TE := fun σ H Q => wi σ H fun J H1 => TabG H1 P ∧ ∀ H2, Tabbed P H1 H2 → ∃ (n : Nat) (val : Nat → Int) (W : Nat → Hp → Prop), W 0 H2 ∧ (∀ j, j < n → InLong (val j) ∧ InLong (preSum val (j + 1))) ∧ Plan J g te vs σ n val W (fun H' => Q (.int (preSum val n)) H')

section
variable {X : Cx}
theorem pe_sumG {c P : Addr} {elt iter tg : Expr} {p pos gpos : Pos} {scope : Scope} {own : List (Str × Nat)} {wi : TI} {g : TG} {te : TE} {k : Nat}
    (hr : Room (k + 1) X.A) (hcalm : X.calm = true) (hN : X.N.Nodup) (hgl : Gl X "sum") (hm : X.mg "sum" = none) (TB : TabB X.base X.mg c P) (hcode : X.env.code = .ref c)
    (hi : PI X tg iter wi) (ok : BlkOk X.N X.env.scope scope own) (hcell : ∀ y ∈ scope.names, y.2 ≠ .cell) (hdot : scope.names.lookup (".0" : Str) = some NameKind.local) (hco : scope.isCoroutine = false)
    (hg : ∀ (s : Shared) (H : Hp) (C : Addr) (cl : List (Str × Addr)) (code : Value) (A' : Around) (fp : List Addr), PG (gcx X s H (genEnv scope cl C code builtinsNs X.env) A' fp) tg g)
    (he : ∀ (s : Shared) (H : Hp) (C : Addr) (cl : List (Str × Addr)) (code : Value) (A' : Around) (fp : List Addr), Room k A' → PE (gcx X s H (genEnv scope cl C code builtinsNs X.env) A' fp) elt te)
    (hs : ∀ v, genFold iter X.env v = pure v) (hb : bootBuiltins "sum" = some (.builtin "sum"))
    (hst : starEach [.GeneratorExp elt [⟨tg, iter, [], 0⟩] scope gpos] X.env = (false, eval (.GeneratorExp elt [⟨tg, iter, [], 0⟩] scope gpos) X.env) :: starEach [] X.env := by rfl) :
    PE X (.Call (.Name "sum" p) [.GeneratorExp elt [⟨tg, iter, [], 0⟩] scope gpos] [] pos) (tSumG P wi g te (own.map (·.2))) := by
  refine ⟨fun pins s σ H Q I h => ?_⟩
  refine wpAny_Call_Name_kw (ld_blt I hgl hm hb ?_)
  refine PyProof.Rows.callWith_builtin1 ?_ hst (by rfl)
  rw [hst]
  show wpAny _ _ (spliced ((false, eval (.GeneratorExp elt [⟨tg, iter, [], 0⟩] scope gpos) X.env) :: backTo pos (starEach [] X.env))) _ _ s
  refine Calls.spliced_cons ?_
  have hfree : ∀ y ∈ scope.names, y.2 = .free → ∃ c, X.env.cells.lookup y.1 = some c := fun y hy e => by
    rcases ok.free y hy e with k | k
    · exact I.ok.has _ (.inl k)
    · exact I.ok.has _ (.inr k)
  refine wpAny_GeneratorExp_make hco (closure_ok hfree) hcell hdot ok.kind hr.depth ?_ hs
  refine thn (hi.run pins s σ H _ I h) fun xv s1 hx => thn hx fun itv s2 h2 => ?_
  obtain ⟨it, fp, tn, J, H2, e, I2, T, st2, f2, ⟨ps, hP, ht⟩, q⟩ := h2
  subst e
  refine ⟨I2.nolimit, ?_⟩
  have hPs : s2.heap.get? P = some { cls := .none, data := .fields ps } := I2.hok P _ hP
  have cd : PySem.W.CodeHd s2.heap c P := TB.code.keeps fun b u e => I2.bk b u e
  have nN : ∀ b, H2 b = none → b ≠ P := fun b e z => by
    rw [z, hP] at e
    cases e
  have sz2 : ∀ b ∈ fp, b < s2.heap.objs.size := fun b hb => by
    obtain ⟨o, e, _⟩ := T.obj _ _ st2 b hb
    exact Heap.lt_size e
  -- behind the table
  have cont : ∀ (code : Value) (s3 : Shared) (H3 : Hp), Inv X pins σ H3 s3 → Tabbed P H2 H3 → (∀ b o, b ≠ P → s2.heap.get? b = some o → s3.heap.get? b = some o) →
      wpAny (model X.prog X.w) X.A (builtinsFor X.env.globals X.env.builtins) (fun bi s4 =>
        ∀ h', h'.Ns s4.heap.objs.size (fun y => if y = (".0" : Str) then some (Value.ref it) else none) → Heap.SameBut s4.heap.objs.size (s4.heap.push { cls := .type "frame", data := .dict #[] }) h' →
          wpAny (model X.prog X.w) X.A (spliced (backTo pos (starEach [] X.env))) (fun vs s' => wpAny (model X.prog X.w) X.A (call (.builtin "sum") (Value.ref h'.objs.size :: vs)) (EP X pins σ Q) X.xe s') X.xe { s4 with
            gens := s4.gens.push (.fresh (.compStart (.GeneratorExp elt [⟨tg, iter, [], 0⟩] scope gpos) 0 (.ref it) .none (genEnv scope (cloFrom X.env.cells scope.names []) s4.heap.objs.size code bi X.env))),
            toks := s4.toks + 1 + 1 + 1,
            heap := h'.push { cls := .type "generator", data := .fields #[.int s4.gens.size 0, .str "<genexpr>" (s4.toks + 1), .str (X.env.qual ++ "<genexpr>") (s4.toks + 1 + 1)] } }) X.xe s3 := by
    intro code s3 H3 I3 hT kp3
    obtain ⟨bm, ob, e1, e2, e3, e4, e5, e6, e7, e8⟩ := TB.bm
    refine wpAny_builtinsFor (m := X.mg) (by rw [I3.ok.glob]; exact I3.mod.glob.keeps I3.bk) e1 e2 (I3.bk _ _ e5) e6 e7 e8 ?_
    intro h' hns hsb
    refine Calls.spliced_nil ?_
    generalize hog : ({ cls := .type "generator", data := .fields #[.int s3.gens.size 0, .str "<genexpr>" (s3.toks + 1), .str (X.env.qual ++ "<genexpr>") (s3.toks + 1 + 1)] } : Obj) = og
    generalize hce : genEnv scope (cloFrom X.env.cells scope.names []) s3.heap.objs.size code builtinsNs X.env = ce
    generalize hgs : (GenState.fresh (.compStart (.GeneratorExp elt [⟨tg, iter, [], 0⟩] scope gpos) 0 (.ref it) .none ce)) = gs
    obtain ⟨n, val, W, w0, hfit, pl⟩ := q H3 hT
    have nfp : ∀ b ∈ fp, H3 b = none := fun b hb => (hT.2 b (nN b (f2 b hb).1)).trans (f2 b hb).1
    have f3 : ∀ b ∈ fp, FpOk X pins H3 b ∧ b < s3.heap.objs.size := fun b hb => by
      obtain ⟨o, e, _⟩ := T.obj _ _ st2 b hb
      exact ⟨⟨nfp b hb, (f2 b hb).2⟩, Heap.lt_size (kp3 b o (nN b (f2 b hb).1) e)⟩
    have st3 : tn 0 s3.heap := T.keep _ _ _ st2 fun b hb o e => kp3 b o (nN b (f2 b hb).1) e
    have hfrm : (X.A.in1.in1.over (.compLoop (.GeneratorExp elt [⟨tg, iter, [], 0⟩] scope gpos) 0 (.ref it) .none ce) []).frames = some (ce :: X.stack) := by
      show pushEnvs [ce] (pushEnvs (envsOf []) X.A.frames) = _
      rw [I3.ok.frames]
      rfl
    have hrm : Room k (X.A.in1.in1.over (.compLoop (.GeneratorExp elt [⟨tg, iter, [], 0⟩] scope gpos) 0 (.ref it) .none ce) []) := by
      refine ⟨hr.hd, ?_, ?_⟩
      · have z := hr.dp
        show X.A.depth + 0 + 1 + 3 * k + 5 < _
        omega
      · have z := hr.un
        show X.A.units + 1 + 1 + 0 + 3 + 16 * k + 200 < _
        omega
    have hsz : h'.objs.size = s3.heap.objs.size + 1 := by rw [hsb.1, Heap.size_push]
    have I4 := gen_start (og := og) (g' := s3.gens.push gs) (tk := s3.toks + 1 + 1 + 1) (fp := fp) (A' := X.A.in1.in1.over (.compLoop (.GeneratorExp elt [⟨tg, iter, [], 0⟩] scope gpos) 0 (.ref it) .none ce) []) I3 ok hN f3 hcell hce.symm hr.hd hfrm hns hsb (fun v z => by subst hog; cases z) (by subst hog; rfl) (I3.bare.push (by subst hgs; rfl))
    have st4 : tn 0 (h'.push og) := T.keep _ _ _ st3 fun b hb o e => Heap.get?_push_of_some _ (hsb.extBut b o (Nat.ne_of_lt (f3 b hb).2) (Heap.get?_push_of_some _ e))
    have hap : h'.objs.size ∉ fp := fun z => by
      have q1 : (h'.objs.size : Nat) < s3.heap.objs.size := (f3 _ z).2
      rw [hsz] at q1
      exact absurd q1 (Nat.not_lt.mpr (Nat.le_succ _))
    have pg := hg s3 H3 s3.heap.objs.size (cloFrom X.env.cells scope.names []) code (X.A.in1.in1.over (.compLoop (.GeneratorExp elt [⟨tg, iter, [], 0⟩] scope gpos) 0 (.ref it) .none ce) []) fp
    have pe := he s3 H3 s3.heap.objs.size (cloFrom X.env.cells scope.names []) code (X.A.in1.in1.over (.compLoop (.GeneratorExp elt [⟨tg, iter, [], 0⟩] scope gpos) 0 (.ref it) .none ce) []) fp hrm
    rw [hce] at pg pe
    have hcs : ce.scope = scope := by rw [← hce]; rfl
    have isG : ∀ h : Heap, h.get? h'.objs.size = some og → h.IsGen h'.objs.size s3.gens.size := fun h e => by
      subst hog
      exact ⟨_, _, _, e, rfl, rfl, rfl⟩
    refine call_function_tree F.kind_sum F.plain_sum F.entry_sum (F.args_sum1 _) ?_
    unfold Builtin.«sum»
    simp only [List.length_cons, List.length_nil]
    rw [if_neg (by decide)]
    refine wpAny_bind (wpAny_of_eq (show Builtin.Builtins.bindParams "sum" ["start"] 0 { } = pure [none] from rfl) ?_)
    refine wpAny_bind (wpAny_pyIter_gen (g := s3.gens.size) (isG _ (Heap.get?_push_size _ (by subst hog; rfl))) ?_)
    refine wpAny_bind (wpAny_mkInt ?_)
    refine wpAny_bind (wpAny_pure ?_)
    simp only [List.forIn_cons, List.forIn_nil]
    refine wpAny_bind (wpAny_bind (wpAny_bind (wpAny_isInstance (T := "int") (b := false) (typeIs_int _ _ _) PySem.sub_int_str ?_)))
    simp only [Bool.false_eq_true, if_false]
    refine wpAny_pure (wpAny_bind (wpAny_bind (wpAny_isInstance (T := "int") (b := false) (typeIs_int _ _ _) PySem.sub_int_bytes ?_)))
    simp only [Bool.false_eq_true, if_false]
    refine wpAny_pure (wpAny_bind (wpAny_bind (wpAny_isInstance (T := "int") (b := false) (typeIs_int _ _ _) PySem.sub_int_bytearray ?_)))
    simp only [Bool.false_eq_true, if_false]
    refine wpAny_pure (wpAny_pure ?_)
    refine wpAny_bind (wpAny_newObj_type ?_)
    have szp : (h'.push og).objs.size = h'.objs.size + 1 := Heap.size_push ..
    have hSp : (h'.push og).objs.size ∉ fp := fun z => by
      have q1 : ((h'.push og).objs.size : Nat) < s3.heap.objs.size := (f3 _ z).2
      rw [szp, hsz] at q1
      omega
    have fS : ∀ H : Hp, H (h'.push og).objs.size = none → FpOk (gcx X s3 H3 ce (X.A.in1.in1.over (.compLoop (.GeneratorExp elt [⟨tg, iter, [], 0⟩] scope gpos) 0 (.ref it) .none ce) []) fp) [(h'.objs.size, og)] H (h'.push og).objs.size := fun H hn => I4.fpOk (Nat.le_refl _) hn
    have nS : H3 (h'.push og).objs.size = none := I4.hok.fresh (Nat.le_refl _)
    generalize hoS : ({ cls := .type "list", data := .seq #[.int 0 (s3.toks + 1 + 1 + 1)] } : Obj) = oS
    have IS : Inv (gcx X s3 H3 ce (X.A.in1.in1.over (.compLoop (.GeneratorExp elt [⟨tg, iter, [], 0⟩] scope gpos) 0 (.ref it) .none ce) []) fp) [(h'.objs.size, og), ((h'.push og).objs.size, oS)] (wipe σ (own.map (·.2))) H3 { heap := (h'.push og).push oS, gens := s3.gens.push gs, drawn := s3.drawn, toks := s3.toks + 1 + 1 + 1 + 1, os := s3.os } := by
      have Ik := I4.kept (h' := (h'.push og).push oS) (t' := s3.toks + 1 + 1 + 1 + 1) fun b u e => Heap.get?_push_of_some _ e
      refine Ik.pins_of fun p hp => ?_
      rcases List.mem_cons.mp hp with rfl | hp
      · exact Ik.pin _ (List.mem_append_right _ (by simp))
      · rw [List.mem_singleton.mp hp]
        exact ⟨Heap.get?_push_size _ (by subst hoS; rfl), nS, (fS _ nS).2.1, (fS _ nS).2.2.1, fun v z => by subst hoS; cases z⟩
    have stS : tn 0 ((h'.push og).push oS) := T.keep _ _ _ st4 fun b hb o e => Heap.get?_push_of_some _ e
    have soS : So val 0 oS := ⟨_, _, hoS.symm⟩
    have loop := fun (z0 t : Shared) (I : Inv _ _ _ _ t) (st : tn 0 t.heap) => gen_loopS (A := X.A.in1.in1) (og := og) (a := h'.objs.size) (S := (h'.push og).objs.size) (N := n) (pos := gpos) (iter := iter) (scope := scope) (it := it) hr.hd hcalm (by rw [hcs]; exact hco) T pl pg pe hap hSp n 0 oS z0 t H3 rfl (Nat.zero_le _) soS I st nfp w0
    refine wpAny_pure ⟨plainId_quiet F.plain_sum_loop _, ?_⟩
    refine sum_loop (X' := (gcx X s3 H3 ce (X.A.in1.in1.over (.compLoop (.GeneratorExp elt [⟨tg, iter, [], 0⟩] scope gpos) 0 (.ref it) .none ce) []) fp)) (S := (h'.push og).objs.size) (og := og) (gn := s3.gens.size) (fp := fp) (τ := wipe σ (own.map (·.2))) (N := n) (val := val) (W := W) (Q := fun H' => Q (.int (preSum val n)) H') hr.hd hr.depth isG (fun o H' s' I' => ?_) fS hSp hfit (fun t H' s' I' q' => ⟨.int (preSum val n), H', I', ⟨_, rfl⟩, q'⟩) n _ (Nat.le_refl _) ⟨H3, oS, by rw [Nat.sub_self]; exact soS, IS, gs, ?_, fun t ht ho hbt => ?_⟩
    · exact I3.call' (ch := fp) I'.os I'.base I'.hok I'.bare fun b hb => ⟨(f3 b hb).1.2.2.2.1, (f3 b hb).1.2.1, (f3 b hb).1.2.2.2.2.1, (f3 b hb).1.2.2.2.2.2⟩
    · exact Array.getElem?_push_size ..
    · have I5 := inv_same IS ht ho hbt
      have st5 : tn 0 t.heap := by rw [ht]; exact stS
      subst hgs
      refine ⟨rfl, ?_⟩
      have lp := loop t t I5 st5
      show Seg _ _ _ _ _ _ _ ((compStart (.GeneratorExp elt [⟨tg, iter, [], 0⟩] scope gpos) 0 (.ref it) .none ce).onRaise (leaving ce)) [] t
      unfold compStart
      rw [Sem.onRaise_eq_wrap]
      show Seg _ _ _ _ _ _ _ ((ask >>= _).wrap _ _ _ _) [] t
      refine seg_bind_wrap (wpAny_askSetting ?_)
      split
      · exact seg_again rfl lp
      · refine seg_bind_wrap (wpAny_rule ?_)
        show Seg _ _ _ _ _ _ _ ((standAt iter.pos >>= _).wrap _ _ _ _) [] t
        exact seg_bind_wrap (wpAny_standAt (seg_bind_wrap (T.self _ 0 t _ _ st5 (seg_again rfl lp))))
  cases hf : codeAmong gpos ps.toList with
  | none =>
    refine wpAny_genexprCodeX hcode (cd.code hPs ht) (cd.tab hPs) hf fun c' h' tk hx hge hlt hco' _ htab' _ => ?_
    obtain ⟨o1, vs1, f1, tf, fl, tg1, inF, tx, tt, op, _, _, _, _, _, _, _, _, _, htr, _⟩ := hco'
    have J := inv_tab (more := #[rawInt gpos.line, rawInt gpos.col, .ref c']) (h' := h') (g' := s2.gens) (d' := s2.drawn) (t' := tk) I2 hP hx htab'.2 I2.bare
    exact cont _ _ _ J ⟨⟨_, upd_same, htr⟩, fun b hb => upd_ne hb⟩ hx
  | some cv =>
    refine wpAny_genexprCode_hit hcode (cd.code hPs ht) hf ?_
    exact cont cv s2 H2 I2 ⟨⟨ps, hP, ht⟩, fun _ _ => rfl⟩ fun b o _ e => e
end
end GU


set_option Elab.async false
set_option linter.all false
set_option maxRecDepth 100000
set_option maxHeartbeats 1000000
namespace DX
open PySem PySem.Spec PyProof.Rows L2 GxR GA
open Classical
/-! ### any, sum, lcm; comprehensions over what a generator walks -/
section
variable {G : Gx} {F : Fx} {δ δ' δ1 : DEnv} {σ σ' : L2.St} {H H' : Hp} {ta tb tc te tl : TE} {tr tk : TA} {tt : TT} {Q : PyData → DEnv → Prop} {QF : List PyData → DEnv → Prop}
/-- any(te for g in ..) -/
theorem ed_anyI {g : TG} {vs : List Nat} {P : Addr} {wi : TI} (hP : P ∈ G.cs) (hp : ∀ j ∈ G.pn, j ∉ vs) (pb : Nat → Bool) (h : GI G wi δ fun n d δ1 => StepOk G g te vs δ1 n d (fun i => .bool (pb i)) ∧ Q (.bool ((List.range n).any pb)) (wipeD δ1 vs)) :
    ED G (GN.tAnyG P wi g te vs) δ Q := fun F σ H R I k =>
  h F σ H _ I fun n d δ1 H1 J Hd ⟨st, q⟩ I1 ok hd => by
    refine ⟨I1.tab P hP, fun H2 T => ?_⟩
    obtain ⟨I2, g2⟩ := I1.tabbed hP T
    have P0 := PInv.start hp ok I2 (ok.hg _ _ g2 hd)
    refine ⟨n, fun j H' => PInv G F δ1 vs σ Hd H' ∧ (List.range j).any pb = false, ⟨P0, rfl⟩, ⟨fun i H hi ⟨W, ha⟩ => ?_, fun H ⟨W, ha⟩ => ?_⟩⟩
    · refine gen_core hp ok st hi W fun y H4 M r W4 => ?_
      cases hb : pb i with
      | false =>
        rw [hb] at r
        cases r
        exact ⟨false, rfl, iteF ⟨W4, by rw [List.range_succ, List.any_append, ha]; simp [hb]⟩⟩
      | true =>
        rw [hb] at r
        cases r
        have e : (List.range n).any pb = true := List.any_eq_true.mpr ⟨i, List.mem_range.mpr hi, hb⟩
        rw [e] at q
        exact ⟨true, rfl, iteT (k _ _ _ H4 q (W4.1.unwiped hp) (.bl _))⟩
    · rw [ha] at q
      exact ⟨ok.js H _ W.2, k _ _ _ H q (W.1.unwiped hp) (.bl _)⟩
/-- sum(te for g in ..) -/
theorem ed_sumI {g : TG} {vs : List Nat} {P : Addr} {wi : TI} (hP : P ∈ G.cs) (hp : ∀ j ∈ G.pn, j ∉ vs) (val : Nat → Int) (h : GI G wi δ fun n d δ1 => StepOk G g te vs δ1 n d (fun i => .int (val i)) ∧ (∀ j, j < n → PySem.InLong (val j) ∧ PySem.InLong (PySem.preSum val (j + 1))) ∧ Q (.int (PySem.preSum val n)) (wipeD δ1 vs)) :
    ED G (GU.tSumG P wi g te vs) δ Q := fun F σ H R I k =>
  h F σ H _ I fun n d δ1 H1 J Hd ⟨st, hf, q⟩ I1 ok hd => by
    refine ⟨I1.tab P hP, fun H2 T => ?_⟩
    obtain ⟨I2, g2⟩ := I1.tabbed hP T
    have P0 := PInv.start hp ok I2 (ok.hg _ _ g2 hd)
    refine ⟨n, val, fun j H' => PInv G F δ1 vs σ Hd H', P0, hf, ⟨fun i H hi W => ?_, fun H W => ?_⟩⟩
    · refine gen_core hp ok st hi W fun y H4 M r W4 => ?_
      cases r
      exact ⟨rfl, W4⟩
    · exact ⟨ok.js H _ W.2, k _ _ _ H q (W.1.unwiped hp) (.int _)⟩
/-- sum of a list of ints -/
theorem ed_sumL (h : EA G tr δ fun as δ1 => ∃ ns : List Int, allD as = some [.list (ns.map .int)] ∧ Q (.int ns.sum) δ1) : ED G (tCB (rSum G.K) tr) δ Q := fun F σ H R I k =>
  h F σ H _ I fun as vs δ1 H1 ⟨ns, e, q⟩ J r => by
    have r2 := allD_ok e r
    cases r2 with
    | cons r3 r4 =>
      cases r4
      cases r3 with
      | @lst a ws _ h1 r1 =>
        have ew : ∀ (ns : List Int) (ws : List V) (H : Hp), RpL G.K H (ns.map .int) ws → ws = ns.map V.int := by
          intro ns
          induction ns with
          | nil => intro ws H r; cases r; rfl
          | cons n ns ih =>
            intro ws H r
            cases r with
            | cons r r' => cases r; rw [ih _ _ r']; rfl
        have hw := ew _ _ _ r1
        subst hw
        exact ⟨a, ns, rfl, SqL.of (del_some.mp h1).2, k _ _ δ1 H1 q J (.int _)⟩
/-- math.lcm of two ints -/
def rLcm : List V → Hp → VK → Prop := fun vs H Q => ∃ a b : Int, vs = [.int a, .int b] ∧ (0 ≤ a ∧ a < 2 ^ 31) ∧ (0 ≤ b ∧ b < 2 ^ 31) ∧ Q (.int ((Nat.lcm a.toNat b.toNat : Nat) : Int)) H
theorem cr_lcm {X : Cx} : CallR X (.builtin "math.lcm") rLcm := by
  intro pins s σ H vs us Q I r h
  obtain ⟨a, b, rfl, ha, hb, q⟩ := h
  obtain ⟨t, u, rfl⟩ := Vals.int2 r
  have ea : a.toNat = a.natAbs := by omega
  have eb : b.toNat = b.natAbs := by omega
  rw [ea, eb] at q
  have h1 : (Nat.lcm 1 a.natAbs) = a.natAbs := Nat.lcm_one_left _
  refine PySem.W.mg_lcm (by omega) (by omega) ?_ ?_
  · rw [h1, Int.natAbs_natCast]
    have h2 : Nat.lcm a.natAbs b.natAbs ≤ a.natAbs * b.natAbs := by
      rcases Nat.eq_zero_or_pos (a.natAbs * b.natAbs) with z | z
      · rcases Nat.mul_eq_zero.mp z with z | z <;> simp [z]
      · exact Nat.le_of_dvd z (Nat.lcm_dvd_mul _ _)
    have h3 : a.natAbs * b.natAbs < 2 ^ 63 := Nat.lt_of_lt_of_le (Nat.mul_lt_mul'' (by omega : a.natAbs < 2 ^ 31) (by omega : b.natAbs < 2 ^ 31)) (by decide)
    exact Nat.lt_of_le_of_lt (PySem.W.mg_log (k := 63) (by omega)) (by decide)
  · rw [h1]
    exact ⟨.int _, H, I.tok _, ⟨_, rfl⟩, q⟩
theorem ed_lcm (h : EA G tr δ fun as δ1 => ∃ a b : Int, allD as = some [.int a, .int b] ∧ (0 ≤ a ∧ a < 2 ^ 31) ∧ (0 ≤ b ∧ b < 2 ^ 31) ∧ Q (.int ((Nat.lcm a.toNat b.toNat : Nat) : Int)) δ1) : ED G (tCB rLcm tr) δ Q := fun F σ H R I k =>
  h F σ H _ I fun as vs δ1 H1 ⟨a, b, e, ha, hb, q⟩ J r => by
    have r2 := allD_ok e r
    cases r2 with
    | cons r3 r4 =>
      cases r4 with
      | cons r5 r6 => cases r6; cases r3; cases r5; exact ⟨a, b, rfl, ha, hb, k _ _ δ1 H1 q J (.int _)⟩
/-- [te for g in .. if tt] that changes nothing, over all that a generator walks -/
theorem ef_lcI {g : TG} {vs : List Nat} {wi : TI} (hp : ∀ j ∈ G.pn, j ∉ vs) (b : Nat → Bool) (f : Nat → PyData) (h : GI G wi δ fun n d δ1 => n ≤ 10000 ∧
      (∀ i, i < n → ∀ Q' : PyData → DEnv → Prop, ∀ Q2 : DEnv → Prop, (∀ δ3, wipeD δ3 vs = wipeD δ1 vs → b i = true → Q' (f i) δ3) → (∀ δ3, wipeD δ3 vs = wipeD δ1 vs → b i = false → Q2 δ3) → DG G g vs (d i) (wipeD δ1 vs) fun δ3 => DT G tt δ3 fun c δ4 => if c = true then ED G te δ4 Q' else Q2 δ4) ∧
      QF (((List.range n).filter b).map f) (wipeD δ1 vs)) : EF G (tLc wi g tt te vs) δ QF := fun F σ H R I k =>
  h F σ H _ I fun n d δ1 H1 J Hd ⟨hn, st, q⟩ I1 ok hd D hD => by
    let IV : Nat → List PyData → DEnv → Prop := fun k acc δ2 => δ2 = wipeD δ1 vs ∧ acc = ((List.range k).filter b).map f
    refine ⟨fun i m H => m = n - i ∧ i ≤ n ∧ LcI G F σ vs D Hd (IV i) i H, ⟨n, by simp, Nat.zero_le _, LcI.start_ hp I1 hD ok.hg hd ⟨rfl, rfl⟩⟩, ?_⟩
    rintro i m H ⟨rfl, hi, L⟩
    by_cases hlt : i < n
    · refine .inr ⟨?_, fun H' => LcI G F σ vs D Hd (IV (i + 1)) (i + 1) H', fun H' p' => ⟨n - (i + 1), by omega, rfl, hlt, p'⟩, fun x H' y => ?_⟩
      · obtain ⟨_, _, _, _, _, hr⟩ := L.ex
        exact ok.jg i H _ hlt hr
      · have I3 : LcI G F σ vs D (fun H => Hd H ∧ Rp G.K H (d i) x) (IV i) i H' := by
          obtain ⟨acc, δ2, iv, hl', ⟨J0, nm, nx, n0, nM, nW, ws', hD', ra⟩, hr⟩ := L.ex
          have nM' : ∀ T, H T = none → ¬ Sl (F.own D) (wipeD δ2 vs) (wipe σ vs) T := fun T hT z => z.elim (J0.fresh hT).2.2.2 (J0.fresh hT).2.2.1
          obtain ⟨hH, rd⟩ := ok.jy i H x H' _ hlt nM' hr y
          rcases hH with rfl | ⟨T, us, hT, rfl⟩
          · exact ⟨acc, δ2, iv, hl', ⟨J0, nm, nx, n0, nM, nW, ws', hD', ra⟩, hr, rd⟩
          · have ne : D ≠ T := fun z => by rw [z, hT] at hD'; cases hD'
            exact ⟨acc, δ2, iv, hl', ⟨J0.laid hT (nt_tup _), nm, nx, n0, nM, nW, ws', by rw [upd_ne ne]; exact hD', RpL.gr (gr_laid hT) ra⟩, ok.hg _ _ (gr_laid hT) hr, rd⟩
        refine lc_turn (G := G) (F := F) (σ := σ) (g := g) (tt := tt) (te := te) (vs := vs) (D := D) (d := d i) (IV' := IV (i + 1)) (y := x) hp (Nat.lt_of_lt_of_le hlt (szq hn)) (fun acc δ2 ⟨e1, e2⟩ hl => ?_) (fun H H' g z => ⟨ok.hg H H' g z.1, Rp.gr g z.2⟩) (fun _ z => z.1) I3 fun M q => q.2
        rw [e1]
        refine st i hlt _ _ (fun δ3 e3 hb => ⟨e3, ?_⟩) fun δ3 e3 hb => ⟨e3, ?_⟩
        · rw [e2, List.range_succ, List.filter_append, List.map_append]
          simp [hb]
        · rw [e2, List.range_succ, List.filter_append, List.map_append]
          simp [hb]
    · have e : i = n := by omega
      subst e
      obtain ⟨acc, δ2, ⟨e1, e2⟩, hl, N⟩ := L.end_ hp
      rw [e1] at N
      rw [e2] at N
      refine .inl ⟨?_, k _ D _ H q N⟩
      obtain ⟨_, _, _, _, _, hr⟩ := L.ex
      exact ok.js H _ hr
/-- without a test -/
theorem ef_lcIp {g : TG} {vs : List Nat} {wi : TI} (hp : ∀ j ∈ G.pn, j ∉ vs) (f : Nat → PyData) (h : GI G wi δ fun n d δ1 => n ≤ 10000 ∧ StepOk G g te vs δ1 n d f ∧ QF ((List.range n).map f) (wipeD δ1 vs)) : EF G (tLc wi g tYes te vs) δ QF :=
  ef_lcI hp (fun _ => true) f fun F σ H R I k => h F σ H R I fun n d δ1 H1 J Hd ⟨hn, st, q⟩ I1 ok hd => k n d δ1 H1 J Hd ⟨hn, fun i hi Q' Q2 k1 k2 => by
      have z := st i hi Q' fun δ3 e3 => k1 δ3 e3 rfl
      exact fun F σ H v R I r k => z F σ H v R I r fun δ' σ' q => k δ' σ' (dt_yes (if_pos rfl ▸ q)), by
      rw [List.filter_eq_self.mpr fun _ _ => rfl]
      exact q⟩ I1 ok hd
/-- tuples -/
theorem gi_tup {QI : Nat → (Nat → PyData) → DEnv → Prop} (h : ED G tl δ fun x δ1 => ∃ xs, x = .tuple xs ∧ QI xs.length (fun i => xs.getD i .none) δ1) : GI G (iTup G.K tl) δ QI := fun F σ H R I k =>
  h F σ H _ I fun x v δ1 H1 ⟨xs, e, q⟩ J r => by
    subst e
    cases r with
    | @tup a ws _ h1 r1 =>
      refine ⟨a, rfl, ⟨ws, SqT.gr gr_out h1⟩, k _ _ δ1 H1 _ (fun H => SqT G.K H a ws ∧ RpL G.K H xs ws) q J ⟨fun H H' g z => ⟨SqT.gr g z.1, RpL.gr g z.2⟩, fun i H M hi z => ?_, fun i H x H' M hi _ z y => ?_, fun H M z => ?_⟩ ⟨h1, r1⟩⟩
      · have hw : i < ws.length := by rw [← r1.len]; exact hi
        exact ⟨ws, ws[i], SqT.gr gr_out z.1, by simp [hw]⟩
      · obtain ⟨rfl, hy⟩ := y
        refine ⟨.inl rfl, ?_⟩
        have hy := hy ws (SqT.gr gr_out z.1)
        obtain ⟨d, hd, rd⟩ := z.2.getV hy
        have e : xs.getD i .none = d := by rw [List.getD_eq_getElem?_getD, hd]; rfl
        show Rp G.K _ (xs.getD i .none) x
        rw [e]
        exact rd
      · exact ⟨ws, SqT.gr gr_out z.1, by rw [← r1.len]; exact Nat.le_refl _⟩
theorem ed_catA (h : ED G ta δ fun x δ1 => ED G tb δ1 fun y δ2 => ∃ xs ys, x = .tuple xs ∧ y = .tuple ys ∧ xs ≠ [] ∧ ys ≠ [] ∧ xs.length + ys.length ≤ sizeLine ∧ Q (.tuple (xs ++ ys)) δ2) : ED G (tOp (rCatA G.K) ta tb) δ Q := fun F σ H R I k =>
  h.go I fun x u δ1 H1 q1 s1 r1 => q1.go s1.ei fun y v δ2 H2 ⟨xs, ys, e1, e2, nx, ny, hl, q⟩ s2 r2 => by
    subst e1 e2
    have r1 := r1.gr s2.gr
    cases r1 with
    | tup h1 r3 => cases r2 with
      | tup h2 r4 =>
        refine ⟨_, _, _, _, rfl, rfl, SqT.gr gr_out h1, SqT.gr gr_out h2, by rw [← r3.len, ← r4.len]; exact hl, fun z => ?_, fun _ z => ?_, fun _ _ p hp => ?_⟩
        · subst z; cases r3; exact (nx rfl).elim
        · subst z; cases r4; exact (ny rfl).elim
        · obtain ⟨_, _, hX, hm⟩ := s2.ei.fresh hp
          exact k _ _ δ2 _ q (s2.ei.laid hp (nt_tup _)) (.tup (.inl (.inl (del_some.mpr ⟨fun z => z.elim hm hX, upd_same⟩))) (RpL.gr (gr_laid hp) (r3.app r4)))
end
/-! ### a comprehension in a comprehension -/
theorem lk_relabel {env : Env} {x : Str} : ∀ {names : List (Str × NameKind)}, (names.lookup x = some .cell ∨ names.lookup x = some .free) →
    let l := (names.map fun (n, k) => if (k == NameKind.free && env.scope.kind == .function && env.kindOf n == some .cell) then (n, NameKind.cell) else (n, k)); (l.lookup x = some .cell ∨ l.lookup x = some .free)
  | [], h => by simp at h
  | (n, k) :: r, h => by
    simp only [List.map_cons]
    by_cases e : x = n
    · subst e
      simp only [List.lookup_cons, beq_self_eq_true] at h
      have hk : k = .cell ∨ k = .free := by rcases h with h | h <;> simp at h <;> simp [h]
      split
      · left; simp [List.lookup_cons]
      · rcases hk with rfl | rfl
        · left; simp [List.lookup_cons]
        · right; simp [List.lookup_cons]
    · have e2 : (x == n) = false := by simpa using e
      have h' : r.lookup x = some .cell ∨ r.lookup x = some .free := by simpa [List.lookup_cons, e2] using h
      have z := lk_relabel (env := env) h'
      split <;> simpa [List.lookup_cons, e2] using z
theorem blkOk_rel {N : List Str} {sc scope : Scope} {env : Env} {own : List (Str × Nat)} (h : BlkOk N sc scope own) : BlkOk N (PySem.relabel sc env) scope own :=
  ⟨h.kind, h.uniq, h.ix, fun y hy e => lk_relabel (h.free y hy e), h.own⟩
end DX


set_option Elab.async false
set_option linter.all false
set_option maxRecDepth 100000
set_option maxHeartbeats 1000000
namespace DX
open PySem PySem.Spec PyProof.Rows L2 GxR GA
open Classical
/-! ### a list as a test -/
def tTruL (K : PySem.W.Frag) (t : TE) : TT := fun σ H Q => t σ H fun x H1 => ∃ a xs, x = .ref a ∧ SqL K H1 a xs ∧ Q (!xs.isEmpty) H1
theorem pt_lst {X : Cx} {e : Expr} {t : TE} (he : PE X e t) (hi : ∀ whole, isTrue e X.env whole = (do let v ← whole; standAt e.pos; holding [v] (truthy v)) := by intro _; rfl) : PT X e (tTruL X.K t) := by
  refine ⟨fun pins s σ H Q I h => ?_⟩
  refine isTrue_plain (thn (he.run pins s σ H _ I h) fun v s1 ⟨x, H1, I1, r1, a, xs, ex, hs, q⟩ => ?_) (hi _)
  subst ex
  obtain rfl : v = Value.ref a := r1
  obtain ⟨its, rv, hl, hz⟩ := I1.list hs
  have hlen := rv.length
  have hsz : (its.toArray.size : Int) < 2 ^ 63 := by
    have : xs.length ≤ sizeLine := hz
    rw [sizeLine_eq] at this
    simp only [List.size_toArray]
    omega
  refine wpAny_truthy_list hl.isList hsz ⟨H1, I1.tok _, ?_⟩
  have e : (!its.toArray.isEmpty) = (!xs.isEmpty) := by cases xs <;> cases its <;> first | rfl | (simp at hlen)
  rw [e]
  exact q
theorem dt_lst {G : Gx} {δ : DEnv} {ta : TE} {QT : Bool → DEnv → Prop} (h : ED G ta δ fun x δ1 => ∃ xs, x = .list xs ∧ QT (!xs.isEmpty) δ1) : DT G (tTruL G.K ta) δ QT := fun F σ H R I k =>
  h F σ H _ I fun x v δ1 H1 ⟨xs, e, q⟩ J r => by
    subst e
    cases r with
    | @lst a ws _ h1 r1 =>
      have e : ws.isEmpty = xs.isEmpty := by cases r1 <;> rfl
      exact ⟨a, ws, rfl, SqL.of (del_some.mp h1).2, by rw [e]; exact k _ δ1 H1 q J⟩
end DX


set_option Elab.async false
set_option linter.all false
set_option maxRecDepth 100000
set_option maxHeartbeats 1000000
/-! sets of goods: what they need, what they have -/
namespace So
open PySem PySem.Spec PyProof.Rows L2 GxR GA DX
def setD (ks : List Nat) : PyData := .list (ks.map fun k => PyData.int (k : Nat))
structure SetOk (n : Nat) (ks : List Nat) : Prop where
  ne : ks ≠ []
  up : ks.Pairwise (· < ·)
  lt : ∀ k ∈ ks, k < n
  len : ks.length ≤ n
def wantsB (b : Buyer) (k : Nat) : Bool := match b with
  | none => false
  | some ws => (ws.getD k none).isSome
def bottomOf (gs : List Good) : Nat := gs.foldl (fun b g => Nat.lcm b (g.1 + g.2.1).toNat) 1
def partOf (n : Nat) (B : Nat) (g : Good) : Int := g.2.1 * (n : Int) * ((B : Int) / (g.1 + g.2.1))
def partsOf (m : Mart) (B : Nat) : List Int := m.goods.map (partOf m.rounds.length B)
def needT (m : Mart) (ks : List Nat) : Int := (ks.map fun k => partOf m.rounds.length (bottomOf m.goods) (m.goods.getD k g0)).sum
def fracD (d w : Nat) : PyData := .tuple [.int ((d / Nat.gcd d w : Nat) : Int), .int ((w / Nat.gcd d w : Nat) : Int)]
def needD (m : Mart) (ks : List Nat) : PyData := fracD (needT m ks).toNat (bottomOf m.goods)
def hadN (m : Mart) (ks : List Nat) : Nat := (m.rounds.filter fun b => ks.any (wantsB b)).length
def lawOne (g : Good) : Int := g.2.1 * (840 / (g.1 + g.2.1))
def lawNeed (m : Mart) (ks : List Nat) : Int := (ks.map fun k => lawOne (m.goods.getD k g0)).sum * (m.rounds.length : Int)
def bitB (i k : Nat) : Bool := Builtin.bitAnd ((1 + ((i : Nat) : Int)) / 2 ^ ((k : Nat) : Int).toNat) 1 == 1
def setsOf (n : Nat) : List (List Nat) := (List.range (2 ^ n - 1)).map fun i => (List.range n).filter (bitB i)
def okSet (n : Nat) (ks : List Nat) : Bool := decide (ks ≠ []) && decide (ks.Pairwise (· < ·)) && ks.all (fun k => decide (k < n)) && decide (ks.length ≤ n)
theorem okSet_ok {n : Nat} {ks : List Nat} (h : okSet n ks = true) : SetOk n ks := by
  unfold okSet at h
  simp only [Bool.and_eq_true, decide_eq_true_eq, List.all_eq_true] at h
  exact ⟨h.1.1.1, h.1.1.2, h.1.2, h.2⟩
theorem sets_ok {n : Nat} (h1 : 1 ≤ n) (h4 : n ≤ 4) : ∀ ks ∈ setsOf n, SetOk n ks := by
  have h : (setsOf n).all (okSet n) = true := by
    have c : n = 1 ∨ n = 2 ∨ n = 3 ∨ n = 4 := by omega
    rcases c with rfl | rfl | rfl | rfl <;> decide +kernel
  intro ks hk
  exact okSet_ok (List.all_eq_true.mp h ks hk)
theorem sets_len {n : Nat} (h4 : n ≤ 4) : (setsOf n).length ≤ 15 := by
  unfold setsOf
  rw [List.length_map, List.length_range]
  have c : n = 0 ∨ n = 1 ∨ n = 2 ∨ n = 3 ∨ n = 4 := by omega
  rcases c with rfl | rfl | rfl | rfl | rfl <;> decide
/-! sums -/
theorem sum_snoc (l : List Int) (x : Int) : (l ++ [x]).sum = l.sum + x := by
  induction l with
  | nil => simp
  | cons y l ih => rw [List.cons_append, List.sum_cons, List.sum_cons, ih]; omega
theorem tk_snoc {α : Type} {l : List α} {k : Nat} {x : α} (h : l[k]? = some x) : l.take (k + 1) = l.take k ++ [x] := by rw [List.take_add_one, h]; rfl
theorem pre_sum {α : Type} (l : List α) (f : α → Int) (val : Nat → Int) (h : ∀ i x, l[i]? = some x → val i = f x) : ∀ j, j ≤ l.length → PySem.preSum val j = ((l.take j).map f).sum
  | 0, _ => rfl
  | j + 1, hj => by
    have hx : l[j]? = some l[j] := List.getElem?_eq_getElem (by omega)
    rw [tk_snoc hx, List.map_append]
    show PySem.preSum val j + val j = ((l.take j).map f ++ [f l[j]]).sum
    rw [sum_snoc, pre_sum l f val h j (by omega), h j _ hx]
theorem pre_bound {val : Nat → Int} {n : Nat} {M : Int} (hM : 0 ≤ M) (h : ∀ i, i < n → 0 ≤ val i ∧ val i ≤ M) : ∀ j : Nat, j ≤ n → 0 ≤ PySem.preSum val j ∧ PySem.preSum val j ≤ (j : Int) * M
  | 0, _ => ⟨Int.le_refl _, by show (0 : Int) ≤ _; simp⟩
  | j + 1, hj => by
    have a := pre_bound hM h j (by omega)
    have b := h j (by omega)
    have e : ((j + 1 : Nat) : Int) * M = (j : Int) * M + M := by rw [Int.natCast_add, Int.add_mul]; simp
    show 0 ≤ PySem.preSum val j + val j ∧ PySem.preSum val j + val j ≤ _
    rw [e]
    omega
theorem sum_bound {l : List Int} {M : Int} (h : ∀ x ∈ l, 0 ≤ x ∧ x ≤ M) : 0 ≤ l.sum ∧ l.sum ≤ (l.length : Int) * M := by
  induction l with
  | nil => simp
  | cons x l ih =>
    have a := ih fun y hy => h y (List.mem_cons_of_mem _ hy)
    have b := h x (by simp)
    have e : ((x :: l).length : Int) * M = (l.length : Int) * M + M := by rw [List.length_cons, Int.natCast_add, Int.add_mul]; simp
    rw [List.sum_cons, e]
    omega
theorem sum_mul {α : Type} (l : List α) (f g : α → Int) (D C : Int) (h : ∀ x ∈ l, f x * D = C * g x) : (l.map f).sum * D = C * (l.map g).sum := by
  induction l with
  | nil => simp
  | cons x l ih =>
    rw [List.map_cons, List.map_cons, List.sum_cons, List.sum_cons, Int.add_mul, Int.mul_add, ih fun y hy => h y (List.mem_cons_of_mem _ hy), h x (by simp)]
/-! the shared bottom -/
theorem sum840 {g : Good} (v : VGood g) : (g.1 + g.2.1).toNat ∣ 840 ∧ 2 ≤ g.1 + g.2.1 ∧ g.1 + g.2.1 ≤ 8 := by
  obtain ⟨⟨a1, a2⟩, ⟨b1, b2⟩, _⟩ := v
  refine ⟨?_, by omega, by omega⟩
  have c : g.1 + g.2.1 = 2 ∨ g.1 + g.2.1 = 3 ∨ g.1 + g.2.1 = 4 ∨ g.1 + g.2.1 = 5 ∨ g.1 + g.2.1 = 6 ∨ g.1 + g.2.1 = 7 ∨ g.1 + g.2.1 = 8 := by omega
  rcases c with e | e | e | e | e | e | e <;> rw [e] <;> decide
theorem bot_dvd : ∀ (gs : List Good) (b : Nat), b ∣ 840 → (∀ g ∈ gs, VGood g) → gs.foldl (fun b g => Nat.lcm b (g.1 + g.2.1).toNat) b ∣ 840
  | [], b, hb, _ => hb
  | g :: gs, b, hb, h => bot_dvd gs _ (Nat.lcm_dvd hb (sum840 (h g (by simp))).1) fun x hx => h x (List.mem_cons_of_mem _ hx)
theorem bot_mul : ∀ (gs : List Good) (b : Nat), b ∣ gs.foldl (fun b g => Nat.lcm b (g.1 + g.2.1).toNat) b ∧ ∀ g ∈ gs, (g.1 + g.2.1).toNat ∣ gs.foldl (fun b g => Nat.lcm b (g.1 + g.2.1).toNat) b
  | [], b => ⟨Nat.dvd_refl _, fun g hg => (by cases hg)⟩
  | g :: gs, b => by
    obtain ⟨h1, h2⟩ := bot_mul gs (Nat.lcm b (g.1 + g.2.1).toNat)
    refine ⟨Nat.dvd_trans (Nat.dvd_lcm_left _ _) h1, fun x hx => ?_⟩
    rcases List.mem_cons.mp hx with rfl | hx
    · exact Nat.dvd_trans (Nat.dvd_lcm_right _ _) h1
    · exact h2 x hx
theorem bottom_ok {gs : List Good} (V : ∀ g ∈ gs, VGood g) : bottomOf gs ∣ 840 ∧ 1 ≤ bottomOf gs ∧ bottomOf gs ≤ 840 := by
  have h := bot_dvd gs 1 (by decide) V
  exact ⟨h, Nat.pos_of_dvd_of_pos h (by decide), Nat.le_of_dvd (by decide) h⟩
theorem part_bound {n B : Nat} {g : Good} (v : VGood g) (hn : n ≤ 6) (hB : B ≤ 840) : 0 ≤ partOf n B g ∧ partOf n B g ≤ 20160 := by
  obtain ⟨_, s1, s2⟩ := sum840 v
  obtain ⟨_, ⟨b1, b2⟩, _⟩ := v
  unfold partOf
  have d0 : (0 : Int) ≤ (B : Int) / (g.1 + g.2.1) := Int.ediv_nonneg (by omega) (by omega)
  have d1 : (B : Int) / (g.1 + g.2.1) ≤ 840 := Int.le_trans (Int.ediv_le_self _ (by omega)) (by omega)
  have e0 : 0 ≤ g.2.1 * (n : Int) := Int.mul_nonneg (by omega) (by omega)
  have e1 : g.2.1 * (n : Int) ≤ 4 * 6 := Int.mul_le_mul (by omega) (by omega) (by omega) (by omega)
  exact ⟨Int.mul_nonneg e0 d0, Int.mul_le_mul (c := 24) (d := 840) e1 d1 d0 (by omega)⟩
theorem need_bound {m : Mart} (V : Valid m) {ks : List Nat} (S : SetOk m.goods.length ks) : 0 ≤ needT m ks ∧ needT m ks ≤ 4 * 20160 := by
  have b := bottom_ok V.gs
  have h := sum_bound (l := ks.map fun k => partOf m.rounds.length (bottomOf m.goods) (m.goods.getD k g0)) (M := 20160) fun x hx => by
    obtain ⟨k, hk, rfl⟩ := List.mem_map.mp hx
    exact part_bound (V.gs _ (gD_mem (S.lt k hk))) V.r6 b.2.2
  have l4 := S.len
  have g4 := V.g4
  rw [List.length_map] at h
  unfold needT
  exact ⟨h.1, Int.le_trans h.2 (Int.mul_le_mul_of_nonneg_right (by omega) (by decide))⟩
theorem need_eq {m : Mart} (V : Valid m) {ks : List Nat} (S : SetOk m.goods.length ks) : 0 ≤ lawNeed m ks ∧ lawNeed m ks ≤ 840 * (4 * 20160) ∧ fracD (lawNeed m ks).toNat 840 = needD m ks := by
  obtain ⟨b1, b2, b3⟩ := bottom_ok V.gs
  obtain ⟨c, hc⟩ := b1
  have bm := (bot_mul m.goods 1).2
  have e : lawNeed m ks = (c : Int) * needT m ks := by
    refine sum_mul ks _ _ _ _ fun k hk => ?_
    have hm := gD_mem (d := g0) (S.lt k hk)
    have v := V.gs _ hm
    obtain ⟨q, hq⟩ := bm _ hm
    generalize m.goods.getD k g0 = g at *
    obtain ⟨_, s1, s2⟩ := sum840 v
    have hq : bottomOf m.goods = (g.1 + g.2.1).toNat * q := hq
    unfold lawOne partOf
    have es : (((g.1 + g.2.1).toNat : Nat) : Int) = g.1 + g.2.1 := by omega
    have hB : ((bottomOf m.goods : Nat) : Int) = (g.1 + g.2.1) * (q : Int) := by rw [hq, Int.natCast_mul, es]
    have h8 : (840 : Int) = (g.1 + g.2.1) * ((q : Int) * (c : Int)) := by
      rw [← Int.mul_assoc, ← hB, ← Int.natCast_mul, ← hc]; rfl
    rw [hB, Int.mul_ediv_cancel_left _ (by omega), h8, Int.mul_ediv_cancel_left _ (by omega)]
    ac_rfl
  have n0 := need_bound V S
  have c1 : 1 ≤ c := by
    rcases Nat.eq_zero_or_pos c with z | z
    · rw [z] at hc; omega
    · exact z
  have c2 : c ≤ 840 := by
    have := Nat.le_mul_of_pos_left c b2
    omega
  have t0 : needT m ks = (((needT m ks).toNat : Nat) : Int) := by omega
  refine ⟨by rw [e]; exact Int.mul_nonneg (by omega) n0.1, by rw [e]; exact Int.mul_le_mul (by omega) n0.2 n0.1 (by decide), ?_⟩
  have et : (lawNeed m ks).toNat = c * (needT m ks).toNat := by
    rw [e, t0, ← Int.natCast_mul, Int.toNat_natCast, Int.toNat_natCast]
  unfold needD fracD
  rw [et, hc, Nat.mul_comm (bottomOf m.goods) c, Nat.gcd_mul_left, Nat.mul_div_mul_left _ _ c1, Nat.mul_div_mul_left _ _ c1]
/-! the greatest that divides both -/
theorem last_filter {b : Nat → Bool} {j : Nat} : ∀ {n : Nat}, j < n → b j = true → (∀ i, i < n → b i = true → i ≤ j) → ((List.range n).filter b).getLast? = some j
  | 0, hj, _, _ => absurd hj (by omega)
  | n + 1, hj, bj, mx => by
    rw [List.range_succ, List.filter_append]
    by_cases hb : b n = true
    · have e : n = j := by have := mx n (by omega) hb; omega
      subst e
      simp [hb]
    · have hn : j ≠ n := fun z => hb (z ▸ bj)
      have e : [n].filter b = [] := by simp [hb]
      rw [e, List.append_nil]
      exact last_filter (by omega) bj fun i hi hbi => mx i (by omega) hbi
theorem at_last {xs : List PyData} {x : PyData} (h : xs.getLast? = some x) : atI xs (-1) = some x := by
  rw [List.getLast?_eq_getElem?] at h
  have hl : 0 < xs.length := by
    rcases Nat.eq_zero_or_pos xs.length with z | z
    · rw [List.length_eq_zero_iff.mp z] at h; cases h
    · exact z
  unfold atI ixN
  rw [if_neg (by omega), if_pos (by omega)]
  have e : ((-1 : Int) + (xs.length : Nat)).toNat = xs.length - 1 := by omega
  show xs[((-1 : Int) + (xs.length : Nat)).toNat]? = some x
  rw [e]
  exact h
def bothB (t : Nat) (i : Nat) : Bool := ((t : Int) % (1 + (i : Nat)) == 0) && ((840 : Int) % (1 + (i : Nat)) == 0)
theorem both_last (t : Nat) : ((List.range 840).filter (bothB t)).getLast? = some (Nat.gcd t 840 - 1) := by
  have g1 : 1 ≤ Nat.gcd t 840 := Nat.gcd_pos_of_pos_right _ (by decide)
  have g2 : Nat.gcd t 840 ≤ 840 := Nat.gcd_le_right _ (by decide)
  have ez : ∀ i : Nat, (1 + (i : Nat) : Int) = (((1 + i : Nat)) : Int) := fun i => by omega
  refine last_filter (by omega) ?_ fun i hi hb => ?_
  · unfold bothB
    have e : 1 + (Nat.gcd t 840 - 1) = Nat.gcd t 840 := by omega
    rw [ez, e, Bool.and_eq_true]
    refine ⟨beq_iff_eq.mpr ?_, beq_iff_eq.mpr ?_⟩
    · exact Int.emod_eq_zero_of_dvd (Int.natCast_dvd_natCast.mpr (Nat.gcd_dvd_left _ _))
    · exact Int.emod_eq_zero_of_dvd (Int.natCast_dvd_natCast.mpr (Nat.gcd_dvd_right t 840))
  · unfold bothB at hb
    rw [ez, Bool.and_eq_true] at hb
    have h1 : 1 + i ∣ t := Int.natCast_dvd_natCast.mp (Int.dvd_of_emod_eq_zero (beq_iff_eq.mp hb.1))
    have h2 : 1 + i ∣ 840 := Int.natCast_dvd_natCast.mp (Int.dvd_of_emod_eq_zero (beq_iff_eq.mp hb.2))
    have := Nat.le_of_dvd g1 (Nat.dvd_gcd h1 h2)
    omega
/-! what each function promises -/
def C_is_number_of_good : CtP := fun xs P => ∃ x n, xs = [x, .int n] ∧ P (.bool (withinB x 0 (n - 1)))
def C_wants : CtP := fun xs P => ∃ b k, xs = [buyD b, .int (k : Nat)] ∧ (∀ ws, b = some ws → k < ws.length) ∧ P (.bool (wantsB b k))
def C_fraction_of : CtP := fun xs P => ∃ d w, xs = [.int (d : Nat), .int (w : Nat)] ∧ d < 2 ^ 40 ∧ 1 ≤ w ∧ w ≤ 840 ∧ P (fracD d w)
def C_is_set : CtP := fun xs P => ∃ ks n, xs = [setD ks, .int (n : Nat)] ∧ SetOk n ks ∧ n ≤ 4 ∧ P (.bool true)
def C_check_set : CtP := fun xs P => ∃ m ks, xs = [martD m, setD ks] ∧ Valid m ∧ SetOk m.goods.length ks ∧ P .none
def C_wants_one : CtP := fun xs P => ∃ b ks, xs = [buyD b, setD ks] ∧ (∀ ws, b = some ws → ∀ k ∈ ks, k < ws.length) ∧ ks.length ≤ 4 ∧ P (.bool (ks.any (wantsB b)))
def C_shared_bottom : CtP := fun xs P => ∃ m, xs = [martD m] ∧ Valid m ∧ P (.int ((bottomOf m.goods : Nat) : Int))
def C_parts_needed : CtF := fun xs P => ∃ m B, xs = [martD m, .int (B : Nat)] ∧ Valid m ∧ B ≤ 4000 ∧ P ((partsOf m B).map PyData.int)
def C_needs : CtP := fun xs P => ∃ m ks, xs = [martD m, setD ks] ∧ Valid m ∧ SetOk m.goods.length ks ∧ P (needD m ks)
def C_has : CtP := fun xs P => ∃ m ks, xs = [martD m, setD ks] ∧ Valid m ∧ SetOk m.goods.length ks ∧ P (.int ((hadN m ks : Nat) : Int))
def C_law_purse : CtF := fun xs P => ∃ ns k, xs = [scrD ns, .int (k : Nat)] ∧ k < 100 ∧ ∀ ts, Till 0 ts → P ts
def C_law_coin : CtT := fun ts xs P => ∃ n k, Till n ts ∧ n < 2 ^ 40 ∧ xs = [.int k] ∧ 0 < k ∧ k < 2 ^ 60 ∧ ∀ r ts', 0 ≤ r → r < k → Till (n + 1) ts' → P (.int r) ts'
def C_law_fair : CtT := fun ts xs P => ∃ n a b w, Till n ts ∧ n < 2 ^ 30 ∧ xs = [.int (a : Nat), .int (b : Nat), .int (w : Nat)] ∧ 1 ≤ a ∧ a ≤ 4 ∧ 1 ≤ b ∧ b ≤ 6 ∧ w ≤ 99 ∧ ∀ m ts', Valid m → m.goods.length ≤ a → m.rounds.length ≤ b → Till (n + 200) ts' → P (martD m) ts'
def C_law_sets : CtF := fun xs P => ∃ n, xs = [.int (n : Nat)] ∧ 1 ≤ n ∧ n ≤ 4 ∧ P ((setsOf n).map setD)
def C_law_needed : CtP := fun xs P => ∃ m ks, xs = [martD m, setD ks] ∧ Valid m ∧ SetOk m.goods.length ks ∧ P (.int (lawNeed m ks))
def C_law_had : CtP := fun xs P => ∃ m ks, xs = [martD m, setD ks] ∧ Valid m ∧ SetOk m.goods.length ks ∧ P (.int ((hadN m ks : Nat) : Int))
def C_law_whole : CtP := fun xs P => ∃ x, xs = [x] ∧ P (.bool (wholeB x))
def C_law_lowest : CtP := fun xs P => ∃ t, xs = [.int (t : Nat), .int 840] ∧ t < 2 ^ 40 ∧ P (fracD t 840)
end So


set_option Elab.async false
set_option linter.all false
set_option maxRecDepth 100000
set_option maxHeartbeats 1000000
namespace DX
open PySem PySem.Spec PyProof.Rows L2 GxR GA
open Classical
/-! ### in a list of lists, list(range(n)), max and min of a list -/
theorem u65 {k : Nat} {A : Around} (r : Room k A) : A.units + 65 < cLine := by have := u70 r; omega
section
variable {G : Gx} {F : Fx} {δ δ1 : DEnv} {σ : L2.St} {H : Hp} {ta tb : TE} {tr : TA} {Q : PyData → DEnv → Prop} {QF : List PyData → DEnv → Prop}
theorem ed_inD (h : ED G ta δ fun x δ1 => ED G tb δ1 fun y δ2 => ∃ ds, y = .list ds ∧ EqOk x ∧ EqOk (.list ds) ∧ Q (.bool (ds.any fun z => PyData.eqv z x)) δ2) : ED G (tOp (rInD G.K) ta tb) δ Q :=
  ed_two h fun F σ H R x y u v δ2 ⟨ds, e, o1, o2, q⟩ I r1 r2 k => by
    subst e
    exact ⟨x, ds, r1.full.dp o1.1, r2.full.dp o2.1, o1.2, o2.2, k _ _ δ2 H q I (.bl _)⟩
theorem ed_notInD (h : ED G ta δ fun x δ1 => ED G tb δ1 fun y δ2 => ∃ ds, y = .list ds ∧ EqOk x ∧ EqOk (.list ds) ∧ Q (.bool (!ds.any fun z => PyData.eqv z x)) δ2) : ED G (tOp (rNotInD G.K) ta tb) δ Q :=
  ed_two h fun F σ H R x y u v δ2 ⟨ds, e, o1, o2, q⟩ I r1 r2 k => by
    subst e
    exact ⟨x, ds, r1.full.dp o1.1, r2.full.dp o2.1, o1.2, o2.2, k _ _ δ2 H q I (.bl _)⟩
theorem rp_range {K : PySem.W.Frag} {H : Hp} (l : List Nat) : RpL K H (l.map fun i => PyData.int ((i : Nat) : Int)) (l.map fun i => V.int (0 + ((i : Nat) : Int))) := by
  induction l with
  | nil => exact .nil
  | cons i l ih =>
    refine .cons ?_ ih
    dsimp only
    rw [Int.zero_add]
    exact .int _
theorem ef_listRg (h : ED G ta δ fun x δ1 => ∃ n : Nat, x = .int n ∧ n ≤ 10000 ∧ QF ((List.range n).map fun i => .int ((i : Nat) : Int)) δ1) : EF G (tLstRg (tRg1 ta)) δ QF := fun F σ H R I k =>
  h F σ H _ I fun x v δ1 H1 ⟨n, e, hn, q⟩ J r => by
    subst e
    cases r
    refine ⟨(n : Int), rfl, .of_le (by decide) (by omega) (by decide) (by omega), fun p hp => ?_⟩
    have e2 : rgV 0 (n : Int) = (List.range n).map fun i => V.int (0 + ((i : Nat) : Int)) := by
      unfold rgV
      rw [Int.sub_zero, Int.toNat_natCast]
    rw [e2]
    exact k _ p δ1 _ q (New.mk_ J hp (rp_range _))
theorem rpl_ints {K : PySem.W.Frag} : ∀ {ns : List Int} {ws : List V} {H : Hp}, RpL K H (ns.map .int) ws → ws = ns.map V.int
  | [], _, _, r => by cases r; rfl
  | n :: ns, _, _, r => by
    cases r with
    | cons r r' => cases r; rw [rpl_ints r']; rfl
theorem ed_minL (h : EA G tr δ fun as δ1 => ∃ ns : List Int, allD as = some [.list (ns.map .int)] ∧ 0 < ns.length ∧ ∀ m, m ∈ ns → (∀ y, y ∈ ns → m ≤ y) → Q (.int m) δ1) : ED G (tCB (rMin G.K) tr) δ Q := fun F σ H R I k =>
  h F σ H _ I fun as vs δ1 H1 ⟨ns, e, hl, q⟩ J r => by
    have r2 := allD_ok e r
    cases r2 with
    | cons r3 r4 =>
      cases r4
      cases r3 with
      | @lst a ws _ h1 r1 =>
        have hw := rpl_ints r1
        subst hw
        exact ⟨a, ns, rfl, SqL.of (del_some.mp h1).2, hl, fun m hm hy => k _ _ δ1 H1 (q m hm hy) J (.int _)⟩
end
end DX


set_option Elab.async false
set_option linter.all false
set_option maxRecDepth 100000
set_option maxHeartbeats 1000000
namespace DX
open PySem PySem.Spec PyProof.Rows L2 GxR GA
/-! ### a def that asks repr, called where no repr is under way -/
structure FnG (P : Program) (w : World) (K : PySem.W.Frag) (mg : Str → Option Value) (base : Heap) (CX : CXT) (k : Nat) (f : Addr) (fd : FuncData) (ps : List Str) (sp : Sp) : Prop where
  many : ∀ vs H Q E, sp vs H Q E → vs.length = ps.length
  go : ∀ (A : Around) (outer : List Env) (z : Shared) (H : Hp) (args : Args) (us : List Value) (vs : List V) (Q : VK) (E : XK), A.guards = some [] → Room k A → Env0 P w K mg base A outer z H → BindsTo z fd args (ps.zip us) → Vals vs us →
    sp vs H Q E → codeAny (model P w) A (.call (.ref f) args) (CR CX outer P w H z Q E) z
theorem guards_in {A : Around} (h : A.guards = some []) (env : Env) : (A.deeper env).guards = some [] := h
section
variable {CX : CXT} {P : Program} {w : World} {K : PySem.W.Frag} {mg : Str → Option Value} {base : Heap} {nm qual : Str} {params : Arguments} {body : List Stmt} {scope : Scope} {dvs : List V} {kws : List (Str × V)} {f : Addr} {fd : FuncData}
theorem fnG_of {N ps : List Str} {k : Nat} {sp : Sp} (F : FunD K nm qual params body scope dvs kws f fd) (S : FnScope N ps scope) (many : ∀ vs H Q E, sp vs H Q E → vs.length = ps.length)
    (hb : ∀ (c : Value) (A : Around) (outer : List Env) (z : Shared) (H : Hp) (vs : List V) (Q : VK) (E : XK), A.guards = some [] → Room k (A.deeper (envOfC qual scope z.heap.objs.size f c)) → sp vs H Q E →
      ∃ t, PSs (cxOf CX P w K mg base N qual scope f c A outer z H E) body t ∧ t { nx := fun _ H' => Q .non H', rt := Q } (start N vs) H) : FnG P w K mg base CX (k + 1) f fd ps sp := by
  obtain ⟨oc, od, dV, kV, doc, pm, an, cdv, ct, osl, rfl, look, code, _, _⟩ := F.ex
  refine ⟨many, fun A outer z H args us vs Q E free0 room en bind rels hsp => ?_⟩
  have hl := many _ _ _ _ hsp
  have inK : K.In z.heap := en.mod.kin.keeps fun b o e => (en.bs b o e).1
  have free : z.heap.NoLimit := en.mod.nolimit.keeps fun b o e => (en.bs b o e).1
  have kinds : ∀ y ∈ ps.zip us, scope.names.lookup y.1 = some .local ∨ (scope.names.lookup y.1 = some .cell ∧ ((cellsFrom (z.heap.objs.size + 1) scope.names []).lookup y.1).isSome = true) := by
    rintro ⟨n, v⟩ hy
    rcases S.par n (List.of_mem_zip hy).1 with h | h
    · exact .inl h
    · exact .inr ⟨h, PySem.W.cellsFrom_some _ _ _ (.inl h)⟩
  refine codeAny_call_function room.depth (inK _ _ look) rfl S.co S.gen rfl (PySem.W.codeRec_of inK code) (bind _ _ _ _ ?_)
  refine wpAny_newFunctionEnv_cells (binds := ps.zip us) S.kind kinds fun env ee z1 inside => ?_
  subst ee
  refine ⟨free.keeps inside.toInCall.keep, codeAny_func ?_⟩
  obtain ⟨t, runs, wish⟩ := hb cdv A outer z H vs Q E free0 (room.deeper _) hsp
  have at0 : Inv (cxOf CX P w K mg base N qual scope f cdv A outer z H E) [] (start N vs) H z1 := inv_start S room.hd en hl rels inside
  refine wpAny_mono (runs.run [] z1 (start N vs) H _ at0 wish) (fun flow z2 ends => ?_) fun e z2 ends => ends
  have done : ∀ {τ : L2.St} {H' : Hp} {r : V} {q : Value}, Inv (cxOf CX P w K mg base N qual scope f cdv A outer z H E) [] τ H' z2 → RelV r q → Q r H' → CE outer P w H z Q q z2 :=
    fun {τ H' r q} J rr qq => ⟨r, H', J.os, J.bare, J.base, J.hok, rr, qq⟩
  cases flow with
  | ret q =>
    obtain ⟨r, τ, H', J, rr, qq⟩ := ends
    exact done J rr qq
  | next =>
    obtain ⟨τ, H', J, qq⟩ := ends
    exact done J (show RelV .non .none from rfl) qq
  | brk => exact (ends.elim fun _ h => h.elim fun _ h => h.2).elim
  | cont => exact (ends.elim fun _ h => h.elim fun _ h => h.2).elim
end
section
variable {X : Cx} {CX : CXT} {k : Nat} {f : Addr} {fd : FuncData} {ps : List Str} {sp : Sp} {dvs : List V} {ds : List Value} {E : XK} {x : Str} {p pos : Pos} {e : Expr} {es : List Expr} {t : TA}
theorem pe_callG (F : FnG X.prog X.w X.K X.mg X.base CX k f fd ps sp) (free0 : X.A.guards = some []) (room : Room k X.A) (hg : Gl X x) (hm : X.mg x = some (.ref f)) (hk : PySem.W.keepIn X.K (.ref f) = true) (bb : Binds X.K fd ps ds) (dv : Vals dvs ds) (pass : Passes CX X E)
    (args : PA X (e :: es) t) (hdb : (x == ("__debug__" : Str)) = false := by decide) (st : starEach (e :: es) X.env = (false, eval e X.env) :: starEach es X.env := by rfl) (pl : (backTo pos (starEach es X.env)).any (·.1) = false := by rfl) :
    PE X (.Call (.Name x p) (e :: es) [] pos) (tCall sp dvs E t) := by
  refine ⟨fun pins z σ H Q I h => wpAny_Call_Name_kw (ld_glob I hg hm ?_ hdb)⟩
  refine PySem.W.callWith_K (h₀ := X.base) I.ok.mod.kin hk (thn (args.run pos pins z σ H _ I h) fun us z1 ⟨vs, H1, I1, r, q⟩ => ⟨I1.kIn, ?_⟩) st pl
  have r2 : Vals (vs ++ dvs) (us ++ ds) := r.append dv
  have hl : (us ++ ds).length = ps.length := by
    rw [← r2.length]
    exact F.many _ _ _ _ q
  refine wpAny_call (codeAny_mono (F.go X.A X.stack z1 H1 ⟨us, []⟩ (us ++ ds) (vs ++ dvs) Q E free0 room I1.env0 (bb z1 us I1.kIn hl) r2 q) fun res z2 ends => ?_)
  match res, ends with
  | .error err, ends => exact pass pins σ H1 z1 err z2 I1 ends
  | .ok (.ret u), ends => exact I1.after ends
  | .ok .next, ends => exact False.elim ends
  | .ok .brk, ends => exact False.elim ends
  | .ok .cont, ends => exact False.elim ends
end
end DX


set_option Elab.async false
set_option linter.all false
set_option maxRecDepth 100000
set_option maxHeartbeats 1000000
namespace DX
open PySem PySem.Spec PyProof.Rows L2 GxR GA
open Classical
/-! ### xs.pop(i) of a slot's own list; len(set(xs)) of ints -/
theorem rpl_erase {K : PySem.W.Frag} {H : Hp} : ∀ {ds : List PyData} {vs : List V} (k : Nat), RpL K H ds vs → RpL K H (ds.eraseIdx k) (vs.eraseIdx k)
  | _, _, _, .nil => .nil
  | _, _, 0, .cons _ t => t
  | _, _, k + 1, .cons r t => .cons r (rpl_erase k t)
section
variable {G : Gx} {F : Fx} {δ : DEnv} {σ : L2.St} {H : Hp} {ta : TE} {Q : PyData → DEnv → Prop}
theorem write_gr {i : Nat} {xs ys : List PyData} {ws : List V} {a : Addr} (h : δ[i]? = some (some (E.m xs))) (h1 : σ[i]? = some (some (V.ref a))) :
    Gr (del H (Sl F δ σ)) (del (upd H a (.lst ws)) (Sl F (δ.set i (some (.m ys))) σ)) := by
  have hma : MA δ σ a := ⟨i, xs, h, h1⟩
  have old : ∀ {b}, MA (δ.set i (some (.m ys))) σ b → MA δ σ b := fun {b} ⟨j, zs, e1, e2⟩ => by
    rcases get_set e1 with ⟨e0, e, _⟩ | ⟨ne, e3⟩
    · subst e0
      exact ⟨j, xs, h, e2⟩
    · exact ⟨j, zs, e3, e2⟩
  exact gr_del fun b u n hb e => ⟨fun z => hb (z.imp old id), by
    have ne : b ≠ a := fun z => hb (.inl (z ▸ hma))
    rw [upd_ne ne]; exact e⟩
theorem ed_popAt {i : Nat} {xs0 : List PyData} (h0 : δ[i]? = some (some (E.m xs0))) (h : ED G ta δ fun y δ1 => ∃ xs j k d, δ1[i]? = some (some (E.m xs)) ∧ y = .int j ∧ -(2 ^ 63) ≤ j ∧ j < 2 ^ 63 ∧ seqIndex? j xs.length = some k ∧ xs[k]? = some d ∧
      Q d (δ1.set i (some (.m (xs.eraseIdx k))))) : ED G (tBM G.K "list" rPopAt (tVar i) (tCons ta tNil)) δ Q := fun F σ H R I kk => by
  obtain ⟨v, h1, a, vs, e, h2, h3⟩ := I.slot i _ h0
  subst e
  refine ⟨_, h1, .inl ⟨rfl, vs, SqL.of h2⟩, h.go I fun y w δ1 H1 ⟨xs, j, k, d, h4, e1, j1, j2, hk, hd, q⟩ s r => ?_⟩
  subst e1
  cases r
  obtain ⟨v, h1', b, ws, e, h5, h6⟩ := s.ei.slot i _ h4
  rw [h1] at h1'
  cases h1'
  cases e
  obtain ⟨u, hu, ru⟩ := h6.get hd
  refine ⟨a, ws, j, k, u, rfl, rfl, h5, j1, j2, by rw [← h6.len]; exact hk, hu, kk d u _ _ q (s.ei.write h4 h1 h5 (rpl_erase k h6)) (Rp.gr (write_gr h4 h1) ru)⟩
end
theorem met_short (f : Nat → Int) : ∀ n : Nat, (PyProof.Rows.firstMet f n).length ≤ n ∧ ((PyProof.Rows.firstMet f n).length = n → ∀ i j, i < j → j < n → f i ≠ f j) ∧ (∀ x, x ∈ PyProof.Rows.firstMet f n ↔ ∃ i, i < n ∧ f i = x)
  | 0 => ⟨Nat.le_refl _, fun _ i j _ hj => absurd hj (Nat.not_lt_zero j), fun x => ⟨fun h => (by cases h), fun ⟨i, hi, _⟩ => absurd hi (Nat.not_lt_zero i)⟩⟩
  | n + 1 => by
    obtain ⟨h1, h2, h3⟩ := met_short f n
    rw [PyProof.Rows.firstMet_succ]
    unfold PyProof.Rows.step_dedup
    by_cases c : (PyProof.Rows.firstMet f n).any (· == f n) = true
    · rw [if_pos c]
      obtain ⟨y, hy, ey⟩ := List.any_eq_true.mp c
      have ey : y = f n := beq_iff_eq.mp ey
      subst ey
      refine ⟨by omega, fun e => by omega, fun x => ?_⟩
      rw [h3]
      refine ⟨fun ⟨i, hi, e⟩ => ⟨i, by omega, e⟩, fun ⟨i, hi, e⟩ => ?_⟩
      by_cases z : i = n
      · subst z
        rw [e] at hy
        exact (h3 x).mp hy
      · exact ⟨i, by omega, e⟩
    · rw [if_neg c]
      refine ⟨by rw [List.length_append, List.length_singleton]; omega, fun e i j hij hj => ?_, fun x => ?_⟩
      · rw [List.length_append, List.length_singleton] at e
        by_cases z : j = n
        · subst z
          intro q
          refine c (List.any_eq_true.mpr ⟨f i, (h3 _).mpr ⟨i, hij, rfl⟩, ?_⟩)
          rw [q]
          exact beq_self_eq_true _
        · exact h2 (by omega) i j hij (by omega)
      · rw [List.mem_append, h3, List.mem_singleton]
        refine ⟨fun h => ?_, fun ⟨i, hi, e⟩ => ?_⟩
        · rcases h with ⟨i, hi, e⟩ | e
          · exact ⟨i, by omega, e⟩
          · exact ⟨n, by omega, e.symm⟩
        · by_cases z : i = n
          · subst z
            exact .inr e.symm
          · exact .inl ⟨i, by omega, e⟩
def tLenSetA (K : PySem.W.Frag) (ta : TE) : TE := fun σ H Q => ta σ H fun x H1 => ∃ (l : Addr) (ns : List Int), x = V.ref l ∧ SqL K H1 l (ns.map V.int) ∧ ns.length < 64 ∧ Q (.int (PyProof.Rows.firstMet (fun i => ns.getD i 0) ns.length).length) H1
theorem pe_lenSetA {X : Cx} {a : Expr} {ta : TE} {p p2 q pos : Pos} (hc : X.calm = true) (hg : Gl X "len") (hm : X.mg "len" = none) (hg2 : Gl X "set") (hm2 : X.mg "set" = none) (ha : PE X a ta)
    (one : starEach [a] X.env = (false, eval a X.env) :: starEach [] X.env := by rfl) : PE X (.Call (.Name "len" p) [.Call (.Name "set" p2) [a] [] q] [] pos) (tLenSetA X.K ta) := by
  refine ⟨fun pins z σ H Q I h => Call_ (ld_blt I hg hm PySem.boot_len (PyProof.Rows.callWith_builtin1 (PyProof.Rows.args_cons ?_ rfl) rfl rfl))⟩
  refine Call_ (ld_blt I hg2 hm2 PyProof.Rows.boot_set (PyProof.Rows.callWith_type1 (PyProof.Rows.args_cons (thn (ha.run pins z σ H _ I h) fun v z1 ⟨x, H1, I1, r1, w⟩ => PyProof.Rows.args_nil ?_) one) one rfl))
  obtain ⟨l, ns, rfl, hq, few, w⟩ := w
  cases r1
  obtain ⟨its, r, pl, hz⟩ := I1.list hq
  have len : its.toArray.size = ns.length := by rw [List.size_toArray, ← r.length, List.length_map]
  refine call_set_list (I1.ok.hd hc) pl.isList (ns := ns) (by simpa using r.ints) (by unfold scanBound; omega) fun h' tk hS hk => ?_
  rw [len] at hS
  refine PyProof.Rows.args_nil ?_
  obtain ⟨o, es, ep, t, ho, hex, hd, _, _, _, hf, hn⟩ := hS
  have short := (met_short (fun i => ns.getD i 0) ns.length).1
  have I2 : Inv X pins σ H1 { z1 with heap := h', toks := tk } := I1.kept fun b o e => hk b o (Heap.lt_size e) e
  exact call_len_set ho hex hd hf (by rw [hn]; omega) ⟨.int (PyProof.Rows.firstMet (fun i => ns.getD i 0) ns.length).length, H1, I2.tok _, ⟨_, by rw [hn]⟩, w⟩
section
variable {G : Gx} {δ : DEnv} {ta : TE} {Q : PyData → DEnv → Prop}
theorem ed_lenSet (h : ED G ta δ fun x δ1 => ∃ ns : List Int, x = .list (ns.map .int) ∧ ns.length < 64 ∧ Q (.int ((PyProof.Rows.firstMet (fun i => ns.getD i 0) ns.length).length : Nat)) δ1) : ED G (tLenSetA G.K ta) δ Q := fun F σ H R I k =>
  h F σ H _ I fun x v δ1 H1 ⟨ns, e, few, q⟩ J r => by
    subst e
    cases r with
    | @lst a ws _ h1 r1 =>
      have hw := rpl_ints r1
      subst hw
      exact ⟨a, ns, rfl, SqL.of (del_some.mp h1).2, few, k _ _ δ1 H1 q J (.int _)⟩
end
end DX


set_option Elab.async false
set_option linter.all false
set_option maxRecDepth 100000
set_option maxHeartbeats 1000000
namespace DX
open PySem PySem.Spec PyProof.Rows L2 GxR GA
open Classical
/-! ### range by steps; a comprehension with two fors that changes nothing -/
section
variable {G : Gx} {F : Fx} {δ δ1 : DEnv} {σ : L2.St} {H : Hp} {te : TE} {tr : TA} {QI : Nat → (Nat → PyData) → DEnv → Prop} {QF : List PyData → DEnv → Prop}
theorem gi_range3 (h : EA G tr δ fun as δ1 => ∃ (lo hi c : Int) (n : Nat), allD as = some [.int lo, .int hi, .int c] ∧ RgC lo hi c n ∧ QI n (fun i => .int (lo + (i : Nat) * c)) δ1) : GI G (iRng3 tr) δ QI := fun F σ H R I k =>
  h F σ H _ I fun as ws0 δ1 H1 ⟨lo, hi, c, n, e, rg, q⟩ J r0 => by
    have r2 := allD_ok e r0
    cases r2 with
    | cons r r4 =>
      cases r4 with
      | cons r' r5 =>
        cases r5 with
        | cons r'' r6 =>
          cases r6
          cases r
          cases r'
          cases r''
          refine ⟨lo, hi, c, n, rfl, rg, k _ _ δ1 H1 _ (fun _ => True) q J ⟨fun H H' g z => z, fun i H M hi z => hi, fun i H x H' M hi _ z y => ?_, fun H M z => Nat.le_refl _⟩ trivial⟩
          obtain ⟨rfl, rfl⟩ := y
          exact ⟨.inl rfl, .int _⟩
theorem wipeD_at (δ : DEnv) (vs : List Nat) (j : Nat) : (wipeD δ vs)[j]? = if j ∈ vs ∧ j < δ.length then some none else δ[j]? := by
  induction vs with
  | nil => simp [wipeD]
  | cons v vs ih =>
    show ((wipeD δ vs).set v none)[j]? = _
    by_cases e : v = j
    · subst e
      by_cases hl : v < δ.length
      · rw [List.getElem?_set_self (by rw [wipeD_length]; exact hl), if_pos ⟨List.mem_cons_self, hl⟩]
      · rw [List.getElem?_eq_none (by rw [List.length_set, wipeD_length]; omega), if_neg (fun z => hl z.2), List.getElem?_eq_none (by omega)]
    · rw [List.getElem?_set_ne e, ih]
      by_cases hm : j ∈ vs
      · by_cases hl : j < δ.length
        · rw [if_pos ⟨hm, hl⟩, if_pos ⟨List.mem_cons_of_mem _ hm, hl⟩]
        · rw [if_neg (fun z => hl z.2), if_neg (fun z => hl z.2)]
      · rw [if_neg (fun z => hm z.1), if_neg (fun z => (List.mem_cons.mp z.1).elim (fun q => e q.symm) hm)]
theorem wipeD_sub {vs vs1 : List Nat} (h : ∀ j ∈ vs1, j ∈ vs) (δ : DEnv) : wipeD (wipeD δ vs1) vs = wipeD δ vs := by
  refine List.ext_getElem? fun j => ?_
  rw [wipeD_at, wipeD_at, wipeD_at, wipeD_length]
  by_cases c : j ∈ vs ∧ j < δ.length
  · rw [if_pos c, if_pos c]
  · rw [if_neg c, if_neg c, if_neg fun z => c ⟨h j z.1, z.2⟩]
theorem wipe_sub {vs vs1 : List Nat} (h : ∀ j ∈ vs1, j ∈ vs) (σ : L2.St) : wipe (wipe σ vs1) vs = wipe σ vs :=
  wipe_eq (wipe_length σ vs1) fun j hj => wipe_get fun z => hj (h j z)
theorem New.wiped {D : Addr} {acc : List PyData} {vs : List Nat} (hp : ∀ i ∈ G.pn, i ∉ vs) (N : New G F δ σ H D acc) : New G F (wipeD δ vs) (wipe σ vs) H D acc := by
  obtain ⟨J, nm, nx, n0, nM, nW, ws, hD, ra⟩ := N
  have mw : ∀ {a : Addr}, MA (wipeD δ vs) (wipe σ vs) a → MA δ σ a := fun {a} ⟨i, xs, h1, h2⟩ => ⟨i, xs, (wipeD_some h1).1, (wipe_get (wipeD_some h1).2) ▸ h2⟩
  exact ⟨J.wiped hp, fun z => nm (mw z), nx, n0, nM, nW, ws, hD, RpL.gr (gr_del fun b u n hb e => ⟨fun z => hb (z.imp mw id), e⟩) ra⟩
theorem wiped_gr {vs : List Nat} : Gr (del H (Sl F δ σ)) (del H (Sl F (wipeD δ vs) (wipe σ vs))) :=
  gr_del fun b u n hb e => ⟨fun z => hb (z.imp (fun ⟨i, xs, h1, h2⟩ => ⟨i, xs, (wipeD_some h1).1, (wipe_get (wipeD_some h1).2) ▸ h2⟩) id), e⟩
/-- behind a yield -/
theorem lc_yield {vs : List Nat} {D : Addr} {J : It} {n i len : Nat} {d : Nat → PyData} {Hd Hx : Hp → Prop} {IV : List PyData → DEnv → Prop} {x : V} {H' : Hp} (ok : ItOk G.K J n d Hd) (hx : ∀ H H' : Hp, Gr H H' → Hx H → Hx H') (hlt : i < n) (L : LcI G F σ vs D (fun H => Hd H ∧ Hx H) IV len H) (y : J.yld i H x H') :
    LcI G F σ vs D (fun H => (Hd H ∧ Hx H) ∧ Rp G.K H (d i) x) IV len H' := by
  obtain ⟨acc, δ2, iv, hl', ⟨J0, nm, nx, n0, nM, nW, ws', hD', ra⟩, hr, hr2⟩ := L.ex
  have nM' : ∀ T, H T = none → ¬ Sl (F.own D) (wipeD δ2 vs) (wipe σ vs) T := fun T hT z => z.elim (J0.fresh hT).2.2.2 (J0.fresh hT).2.2.1
  obtain ⟨hH, rd⟩ := ok.jy i H x H' _ hlt nM' hr y
  rcases hH with rfl | ⟨T, us, hT, rfl⟩
  · exact ⟨acc, δ2, iv, hl', ⟨J0, nm, nx, n0, nM, nW, ws', hD', ra⟩, ⟨hr, hr2⟩, rd⟩
  · have ne : D ≠ T := fun z => by rw [z, hT] at hD'; cases hD'
    exact ⟨acc, δ2, iv, hl', ⟨J0.laid hT (nt_tup _), nm, nx, n0, nM, nW, ws', by rw [upd_ne ne]; exact hD', RpL.gr (gr_laid hT) ra⟩, ⟨ok.hg _ _ (gr_laid hT) hr, hx _ _ (gr_laid hT) hr2⟩, rd⟩
/-- the rows -/
def rowsF (m : Nat → Nat) (f : Nat → Nat → PyData) (i : Nat) : List PyData := ((List.range i).map fun i => (List.range (m i)).map (f i)).flatten
theorem rows_succ (m : Nat → Nat) (f : Nat → Nat → PyData) (i : Nat) : rowsF m f (i + 1) = rowsF m f i ++ (List.range (m i)).map (f i) := by
  unfold rowsF
  rw [List.range_succ, List.map_append, List.flatten_append]
  simp
theorem rows_le (m : Nat → Nat) (f : Nat → Nat → PyData) : ∀ {i n : Nat}, i ≤ n → (rowsF m f i).length ≤ (rowsF m f n).length := fun {i n} h => by
  induction n with
  | zero => rw [Nat.le_zero.mp h]; exact Nat.le_refl _
  | succ n ih =>
    by_cases e : i = n + 1
    · rw [e]; exact Nat.le_refl _
    · refine Nat.le_trans (ih (by omega)) ?_
      rw [rows_succ, List.length_append]
      omega
theorem ef_lc2 {g g1 : TG} {vs vs1 : List Nat} {wi wi1 : TI} (hp : ∀ j ∈ G.pn, j ∉ vs) (hs : ∀ j ∈ vs1, j ∈ vs) (m : Nat → Nat) (f : Nat → Nat → PyData)
    (h : GI G wi δ fun n d δ1 => (∀ i, i < n → DG G g vs (d i) (wipeD δ1 vs) fun δ3 => wipeD δ3 vs = wipeD δ1 vs ∧ GI G wi1 δ3 fun n1 d1 δ4 => δ4 = δ3 ∧ n1 = m i ∧
        ∀ j, j < n1 → ∀ Q' : PyData → DEnv → Prop, (∀ δ6, wipeD δ6 vs1 = wipeD δ3 vs1 → Q' (f i j) δ6) → DG G g1 vs1 (d1 j) (wipeD δ3 vs1) fun δ5 => ED G te δ5 Q') ∧
      (rowsF m f n).length ≤ 10000 ∧ QF (rowsF m f n) (wipeD δ1 vs)) : EF G (tLc2 wi g tYes wi1 g1 tYes te vs vs1) δ QF := fun F σ H R I k =>
  h F σ H _ I fun n d δ1 H1 J Hd ⟨st, hn, q⟩ I1 ok hd D hD => by
    have hp1 : ∀ j ∈ G.pn, j ∉ vs1 := fun j hj z => hp j hj (hs j z)
    let IV : Nat → List PyData → DEnv → Prop := fun k acc δ2 => δ2 = wipeD δ1 vs ∧ acc = rowsF m f k
    refine ⟨fun i k H => k = n - i ∧ i ≤ n ∧ LcI G F σ vs D (fun H => Hd H ∧ True) (IV i) (rowsF m f i).length H, ⟨n, by simp, Nat.zero_le _, LcI.start_ hp I1 hD (fun H H' g z => ⟨ok.hg H H' g z.1, trivial⟩) ⟨hd, trivial⟩ ⟨rfl, rfl⟩⟩, ?_⟩
    rintro i k0 H ⟨rfl, hi, L⟩
    by_cases hlt : i < n
    · refine .inr ⟨?_, fun H' => LcI G F σ vs D (fun H => Hd H ∧ True) (IV (i + 1)) (rowsF m f (i + 1)).length H', fun H' p' => ⟨n - (i + 1), by omega, rfl, hlt, p'⟩, fun x H' y => ?_⟩
      · obtain ⟨_, _, _, _, _, hr⟩ := L.ex
        exact ok.jg i H _ hlt hr.1
      · obtain ⟨acc, δ2, ⟨e1, e2⟩, hl, ⟨J0, nm, nx, n0, nM, nW, ws, hD', ra⟩, ⟨hr, _⟩, rd⟩ := (lc_yield ok (fun _ _ _ z => z) hlt L y).ex
        rw [e1] at J0 nm ra hr rd
        refine st i hlt (F.own D) (wipe σ vs) H' x _ J0 rd fun δ3 σ1 ⟨ew, q1⟩ J1 g1' l1 a1 m1 => ?_
        have we : wipe σ1 vs = wipe σ vs := (wipe_eq l1 a1).trans (wipe_eq (wipe_length σ vs) fun j hj => wipe_get hj)
        have nm1 : ¬ MA δ3 σ1 D := fun z => nm (m1 D z)
        refine ⟨we, ?_⟩
        dsimp only [tYes]
        rw [if_pos rfl]
        refine q1 ((F.own D).now δ3 σ1 H') σ1 H' _ J1.now fun n1 d1 δ4 H4 Jt Hd1 ⟨e4, en, st1⟩ I4 ok1 hd1 => ?_
        subst e4
        have S := J1.since I4
        have hD4 : H4 D = some (.lst ws) := S.kp D _ (nt_lst _) nm1 nW hD'
        have nm4 : ¬ MA δ4 σ1 D := nm1
        let IV1 : Nat → List PyData → DEnv → Prop := fun j acc δ' => δ' = wipeD δ4 vs1 ∧ acc = rowsF m f i ++ (List.range j).map (f i)
        have N4 : New G F δ4 σ1 H4 D acc := ⟨S.ei, nm4, nx, n0, nM, nW, ws, hD4, RpL.gr S.gr (RpL.gr g1' ra)⟩
        have hgx : ∀ H H' : Hp, Gr H H' → (Hd1 H ∧ Hd H) → (Hd1 H' ∧ Hd H') := fun H H' g z => ⟨ok1.hg H H' g z.1, ok.hg H H' g z.2⟩
        refine ⟨fun j k H => k = n1 - j ∧ j ≤ n1 ∧ LcI G F σ1 vs1 D (fun H => Hd1 H ∧ Hd H) (IV1 j) ((rowsF m f i).length + j) H, ⟨n1, by simp, Nat.zero_le _, acc, δ4, ⟨rfl, by simp [e2]⟩, by rw [e2]; exact Nat.le_refl _, N4.wiped hp1, hgx _ _ wiped_gr ⟨hd1, ok.hg _ _ S.gr (ok.hg _ _ g1' hr)⟩⟩, ?_⟩
        rintro j k1 H5 ⟨rfl, hj, L5⟩
        by_cases hlt1 : j < n1
        · refine .inr ⟨?_, fun H' => LcI G F σ1 vs1 D (fun H => Hd1 H ∧ Hd H) (IV1 (j + 1)) ((rowsF m f i).length + j + 1) H', fun H' p' => ⟨n1 - (j + 1), by omega, rfl, hlt1, p'⟩, fun x1 H6 y1 => ?_⟩
          · obtain ⟨_, _, _, _, _, hr⟩ := L5.ex
            exact ok1.jg j H5 _ hlt1 hr.1
          · have I6 := lc_yield ok1 ok.hg hlt1 L5 y1
            have small : (rowsF m f i).length + j < sizeLine := by
              have h1 := rows_le m f (i := i + 1) (n := n) hlt
              rw [rows_succ, List.length_append, List.length_map, List.length_range, ← en] at h1
              exact Nat.lt_of_lt_of_le (by omega : (rowsF m f i).length + j < 10001) (by decide)
            refine lc_turn (G := G) (F := F) (σ := σ1) (g := g1) (tt := tYes) (te := te) (vs := vs1) (D := D) (d := d1 j) (IV' := IV1 (j + 1)) (y := x1) hp1 small (fun acc δ' ⟨e5, e6⟩ _ => ?_) (fun H H' g z => ⟨hgx H H' g z.1, Rp.gr g z.2⟩) (fun _ z => z.1) I6 fun M q => q.2
            rw [e5]
            have z := st1 j hlt1 (fun z δ6 => IV1 (j + 1) (acc ++ [z]) (wipeD δ6 vs1)) fun δ6 e7 => ⟨e7, by rw [e6, List.range_succ, List.map_append, List.append_assoc]; rfl⟩
            exact fun F σ H v R I r k => z F σ H v R I r fun δ' σ' q => k δ' σ' (dt_yes (if_pos rfl ▸ q))
        · have e : j = n1 := by omega
          subst e
          obtain ⟨acc5, δ5, ⟨e5, e6⟩, hl5, N5, hr5⟩ := L5.ex
          refine .inl ⟨ok1.js H5 _ hr5.1, ?_⟩
          rw [e5] at N5 hr5
          have N6 := N5.wiped hp
          rw [wipeD_sub hs, wipe_sub hs, ew, we] at N6
          have g6 : Gr (del H5 (Sl (F.own D) (wipeD δ4 vs1) (wipe σ1 vs1))) (del H5 (Sl (F.own D) (wipeD (wipeD δ4 vs1) vs) (wipe (wipe σ1 vs1) vs))) := wiped_gr
          rw [wipeD_sub hs, wipe_sub hs, ew, we] at g6
          have e7 : acc5 = rowsF m f (i + 1) := by rw [e6, rows_succ, en]
          exact ⟨acc5, δ1, ⟨rfl, e7⟩, by rw [e7]; exact Nat.le_refl _, N6, ok.hg _ _ g6 hr5.2, trivial⟩
    · have e : i = n := by omega
      subst e
      obtain ⟨acc, δ2, ⟨e1, e2⟩, hl, N⟩ := L.end_ hp
      rw [e1] at N
      rw [e2] at N
      refine .inl ⟨?_, k _ D _ H q N⟩
      obtain ⟨_, _, _, _, _, hr⟩ := L.ex
      exact ok.js H _ hr.1
end
end DX


set_option Elab.async false
set_option linter.all false
set_option maxRecDepth 100000
set_option maxHeartbeats 1000000
/-! DX31: what raises for sure; try .. except X as e: suite, with isinstance of e -/
namespace DX
open PySem PySem.Spec PyProof.Rows L2 GxR GA
open Classical
/-- data in, the name of the class that is raised -/
abbrev CtX := List PyData → Str → Prop
def spX (K : PySem.W.Frag) (cs : List Addr) (A : Str → Addr) (C : CtX) : Sp := fun vs H _ E => ∃ (xs : List PyData) (c : Str) (X0 : Addr → Prop), C xs c ∧ RpL K (del H X0) xs vs ∧ (∀ a, X0 a → ∃ o, H a = some o ∧ NT o) ∧ (∀ p ∈ cs, TabG H p) ∧
  ∀ H', (∀ b o, NT o → H b = some o → H' b = some o) → (∀ b ps, H b = some (.tbl ps) → ∃ qs, H' b = some (.tbl qs)) → (∀ p ∈ cs, TabG H' p) → E (.ref (A c)) none H'
def SX (G : Gx) (A : Str → Addr) (t : WX → TS) (δ : DEnv) (Q : Str → DEnv → Prop) : Prop :=
  ∀ (F : Fx) (σ : L2.St) (H : Hp) (D : Ends) (W : WX), EI G F δ σ H → (∀ c δ' σ' H', Q c δ' → EI G F δ' σ' H' → W (.ref (A c)) none σ' H') → t W D σ H
def tRaiseX (A : Str → Addr) (c : Str) : WX → TS := fun W _ σ H => W (.ref (A c)) none σ H
section
variable {G : Gx} {A : Str → Addr} {F : Fx} {δ δ' : DEnv} {σ σ' : L2.St} {H H' : Hp} {Q : Str → DEnv → Prop} {QS : Out → Prop} {t u : WX → TS} {ta : TS} {tt : TT} {tr : TA} {c : Str}
theorem sx_raise (q : Q c δ) : SX G A (tRaiseX A c) δ Q := fun F σ H D W I k => k c δ σ H q I
theorem sx_seq (h : SD G ta δ fun o => ∃ δ1, o = .nx δ1 ∧ SX G A u δ1 Q) : SX G A (fun W => tSeq ta (u W)) δ Q := fun F σ H D W I k => h F σ H _ I fun o ⟨δ1, e, q⟩ => by
  subst e
  exact fun σ1 H1 J => q F σ1 H1 D W J k
theorem sx_first (h : SX G A t δ Q) : SX G A (fun W => tSeq (t W) (u W)) δ Q := fun F σ H D W I k => h F σ H _ W I k
theorem sx_if (h : DT G tt δ fun b δ1 => if b = true then SX G A t δ1 Q else SX G A u δ1 Q) : SX G A (fun W => tIfS tt (t W) (u W)) δ Q := fun F σ H D W I k =>
  h F σ H _ I fun b δ1 H1 q J => by
    cases b with
    | true => exact iteT (q F σ H1 D W J k)
    | false => exact iteF (q F σ H1 D W J k)
theorem sx_call {C : CtX} (h : EA G tr δ fun as δ1 => ∃ xs c, allD as = some xs ∧ C xs c ∧ Q c δ1) : SX G A (fun W => tDrop (tCallS (spX G.K G.cs A C) (WE W) tr)) δ Q := fun F σ H D W I k =>
  h F σ H _ I fun as vs δ1 H1 ⟨xs, c, e, hc, q⟩ J r => ⟨xs, c, Sl F δ1 σ, hc, allD_ok e r, fun a ha => by
    rcases ha with ⟨i, ys, h1, h2⟩ | ha
    · obtain ⟨v, h3, b, ws, h4, h5, _⟩ := J.slot i _ h1
      rw [h2] at h3
      cases h3
      cases h4
      exact ⟨_, h5, nt_lst _⟩
    · exact J.ex a ha, J.tab, fun H' kp tk tb => k c δ1 σ H' q (J.called kp tk tb)⟩
theorem body_X {K : PySem.W.Frag} {cs : List Addr} {C : CtX} {N : List Str} {vs : List V} {Q' : VK} {E' : XK} (hs : ∀ xs c, C xs c → xs.length ≤ N.length ∧ SX ⟨K, cs, []⟩ A t (envP N xs) (fun c' _ => c' = c)) (h : spX K cs A C vs H Q' E') :
    t (fun cls d _ H => E' cls d H) { nx := fun _ H' => Q' .non H', rt := Q' } (start N vs) H := by
  obtain ⟨xs, c, X0, hc, r, ex, tb, k⟩ := h
  obtain ⟨hl, sx⟩ := hs xs c hc
  have I := start_P (N := N) (cs := cs) r ex tb
  refine sx _ _ _ _ _ I fun c' δ' σ' H' e J => ?_
  subst e
  exact k H' (fun b o n e => J.keep b o n (fun z => z) (fun z => z) e) J.tk J.tab
theorem lenX {K : PySem.W.Frag} {cs : List Addr} {C : CtX} {n : Nat} (h : ∀ xs c, C xs c → xs.length = n) (vs : List V) (H : Hp) (Q : VK) (E : XK) (hs : spX K cs A C vs H Q E) : vs.length = n := by
  obtain ⟨xs, P, X0, c, r, _⟩ := hs
  rw [← r.len]
  exact h xs P c
/-! ### the suite: slot i holds the error at a -/
def SatE (G : Gx) (F : Fx) (i : Nat) (a : Addr) : Out → Ends → Prop
  | .nx δ, D => ∀ σ H, EI G F δ σ H → σ[i]? = some (some (V.ref a)) → D.nx σ H
  | o, D => Sat G F o D
def SE (G : Gx) (i : Nat) (a : Addr) (t : TS) (δ : DEnv) (Q : Out → Prop) : Prop :=
  ∀ (F : Fx) (σ : L2.St) (H : Hp) (D : Ends), EI G F δ σ H → σ[i]? = some (some (V.ref a)) → (∀ o, Q o → SatE G F i a o D) → t D σ H
def EDe (G : Gx) (i : Nat) (a : Addr) (t : TE) (δ : DEnv) (Q : PyData → DEnv → Prop) : Prop :=
  ∀ (F : Fx) (σ : L2.St) (H : Hp) (R : VK), EI G F δ σ H → σ[i]? = some (some (V.ref a)) → (∀ d v δ' H', Q d δ' → EI G F δ' σ H' → Rp G.K (del H' (Sl F δ' σ)) d v → R v H') → t σ H R
variable {i j : Nat} {a : Addr} {te tf : TE} {QD : PyData → DEnv → Prop} {ts tu : TS}
theorem ede_of (h : ED G te δ QD) : EDe G i a te δ QD := fun F σ H R I _ k => h F σ H R I k
/-- isinstance(e, c) -/
def rIsX (K : PySem.W.Frag) (cls : Value) (d : Option Addr) (a : Addr) : List V → Hp → VK → Prop := fun xs H Q => ∃ D : Addr, cls = .ref D ∧ d = none ∧ ExcC K D ∧ rIsE K D a xs H Q
def rIsXT (K : PySem.W.Frag) (cls : Value) (d : Option Addr) (a : Addr) : List V → Hp → VK → Prop := fun xs H Q => ∃ D : Addr, cls = .ref D ∧ d = none ∧ ExcC K D ∧
  ∃ (tp : Addr) (cs : List V) (us : List Value) (b : Bool), xs = [.ref a, .ref tp] ∧ H tp = some (.tup cs) ∧ Paired ClsV cs us ∧ PySem.W.kitAny K (.ref D) us = some b ∧ Q (.bl b) H
theorem call_isX {X : Cx} {a : Addr} {cls : Value} {d : Option Addr} {oe : Obj} {pn : List (Addr × Obj)} (hz : Zc cls d oe) (hf : ∃ vs, oe.data = .fields vs) : CallR (X.suite a ((a, oe) :: pn)) (.builtin "isinstance") (rIsX X.K cls d a) := by
  intro pins s σ H xs us Q I r h
  obtain ⟨D, rfl, rfl, C, h⟩ := h
  exact call_isE C hz hf pins s σ H xs us Q I r h
theorem call_isXT {X : Cx} {a : Addr} {cls : Value} {d : Option Addr} {oe : Obj} {pn : List (Addr × Obj)} (hz : Zc cls d oe) (hf : ∃ vs, oe.data = .fields vs) : CallR (X.suite a ((a, oe) :: pn)) (.builtin "isinstance") (rIsXT X.K cls d a) := by
  intro pins s σ H xs us Q I r h
  obtain ⟨D, rfl, rfl, C, tp, cs, ws, b, rfl, hT, k, e, q⟩ := h
  obtain ⟨u1, u2, rfl, r1, r2⟩ := vals2 r
  cases (show u1 = Value.ref a from r1)
  cases (show u2 = Value.ref tp from r2)
  obtain ⟨hget, _⟩ := I.pin (a, oe) (List.mem_append.mpr (.inl List.mem_cons_self))
  obtain ⟨vs, hv⟩ := hf
  have J : PySem.W.InstAt s.heap a oe D none := by
    obtain ⟨oc, od, oda, osl⟩ := oe
    obtain ⟨h1, h2⟩ := hz
    dsimp only at h1 h2 hv
    subst h1 h2 hv
    exact ⟨hget, rfl, rfl, trivial⟩
  obtain ⟨_, its, rv, o, h1, h2, n, h3⟩ := (show ObjOk X.prog X.w H s.heap tp (.tup cs) from I.hok tp _ hT)
  have e3 := ClsV.all k rv
  subst e3
  obtain ⟨oc, od, dt, sl⟩ := o
  simp only at h2 h3
  subst h2 h3
  exact PySem.W.kia_tup (PySem.W.handS_kitx_exc C.hg C.hk C.hs C.hd C.ha C.hn C.ht C.hm) I.kIn J h1 e (fun z => nomatch z) fun tk => ⟨.bl b, H, I.kept (t' := tk) fun _ _ z => z, rfl, q⟩
theorem ede_isX {D : Addr} {cv : V} {u : Value} {b : Bool} (C : ExcC G.K D) (hcv : ∀ x, RelV cv x → x = u) (e : PySem.W.kitOne G.K (.ref D) u = some b) (q : QD (.bool b) δ) : EDe G i a (tCB (rIsX G.K (.ref D) none a) (tCons (tVar i) (tCons (tC cv) tNil))) δ QD :=
  fun F σ H R I hs k => ⟨_, hs, D, rfl, rfl, C, cv, u, b, rfl, hcv, e, k _ _ δ H q I (.bl b)⟩
theorem ede_isXT {D : Addr} {cs : List V} {us : List Value} {b : Bool} (C : ExcC G.K D) (ht : ∀ (σ : L2.St) (H : Hp) (R : List V → Hp → Prop), R cs H → tr σ H R) (hl : cs.length ≤ sizeLine) (hp : Paired ClsV cs us) (e : PySem.W.kitAny G.K (.ref D) us = some b) (q : QD (.bool b) δ) :
    EDe G i a (tCB (rIsXT G.K (.ref D) none a) (tCons (tVar i) (tCons (tTup tr) tNil))) δ QD :=
  fun F σ H R I hs k => ⟨_, hs, ht _ _ _ ⟨hl, fun p hn => ⟨D, rfl, rfl, C, p, cs, us, b, rfl, upd_same, hp, e, k _ _ δ _ q (I.laid hn (nt_tup cs)) (.bl b)⟩⟩⟩
theorem ede_and (h : EDe G i a te δ fun x δ1 => ∃ b, x = .bool b ∧ if b = true then EDe G i a tf δ1 QD else QD (.bool false) δ1) : EDe G i a (tAndV te tf) δ QD := fun F σ H R I hs k =>
  h F σ H _ I hs fun x v δ1 H1 ⟨b, e, q⟩ J r => by
    subst e
    cases r
    refine ⟨b, rfl, ?_⟩
    cases b with
    | true => exact iteT (q F σ H1 R J hs k)
    | false => exact iteF (k _ _ δ1 H1 q J (.bl _))
theorem se_set (hp : j ∉ G.pn) (ne : j ≠ i) (h : EDe G i a te δ fun d δ1 => QS (.nx (δ1.set j (some (.d d))))) : SE G i a (tAsg te (gName j)) δ QS := fun F σ H D I hs k =>
  h F σ H _ I hs fun d v δ1 H1 q J r => k _ q _ H1 (J.set_d hp r) (by rw [List.getElem?_set_ne ne]; exact hs)
def ThenE (G : Gx) (i : Nat) (a : Addr) (u : TS) (Q : Out → Prop) : Out → Prop
  | .nx δ => SE G i a u δ Q
  | .rt d δ => Q (.rt d δ)
  | .bk δ => Q (.bk δ)
  | .ct δ => Q (.ct δ)
  | .rf xs δ => Q (.rf xs δ)
  | .rm i δ => Q (.rm i δ)
  | .r2 i j δ => Q (.r2 i j δ)
theorem se_seq (h : SE G i a ts δ (ThenE G i a tu QS)) : SE G i a (tSeq ts tu) δ QS := fun F σ H D I hs k => h F σ H _ I hs fun o q => by
  cases o with
  | nx δ1 => exact fun σ1 H1 J h1 => q F σ1 H1 D J h1 k
  | rt d δ1 => exact k _ q
  | bk δ1 => exact k _ q
  | ct δ1 => exact k _ q
  | rf xs δ1 => exact k _ q
  | rm i δ1 => exact k _ q
  | r2 i j δ1 => exact k _ q
/-- behind the suite the error's slot is empty -/
def QE (i : Nat) (Q : Out → Prop) : Out → Prop
  | .nx δ => Q (.nx (δ.set i none))
  | .bk δ => Q (.bk (δ.set i none))
  | .ct δ => Q (.ct (δ.set i none))
  | o => Q o
theorem sd_try {tb : WX → TS} {tx : Addr → Value → Option Addr → TS} {c0 : Value} (hp : i ∉ G.pn)
    (h : SX G A tb δ fun c δ1 => PySem.W.exmOne G.K (.ref (A c)) c0 = some true ∧ i < δ1.length ∧ ∀ a, SE G i a (tx a (.ref (A c)) none) (δ1.set i none) (QE i QS)) :
    SD G (fun D σ H => tb (wAs G.K c0 i tx (fun _ _ _ _ => False) D) D σ H) δ QS := fun F σ H D I k =>
  h F σ H D _ I fun c δ1 σ1 H1 ⟨e1, hl, q⟩ J => ⟨true, e1, fun _ a na => q a F _ H1 _ (J.set_n hp) (List.getElem?_set_self (by rw [← J.len]; exact hl)) fun o qo => by
    cases o with
    | nx δ2 => exact fun σ2 H2 J2 _ => k _ qo _ H2 (J2.set_n hp)
    | bk δ2 => exact fun σ2 H2 J2 => k _ qo _ H2 (J2.set_n hp)
    | ct δ2 => exact fun σ2 H2 J2 => k _ qo _ H2 (J2.set_n hp)
    | rt d δ2 => exact k (.rt d δ2) qo
    | rf xs δ2 => exact k (.rf xs δ2) qo
    | rm j δ2 => exact k (.rm j δ2) qo
    | r2 l j δ2 => exact k (.r2 l j δ2) qo, fun z => nomatch z⟩
end
end DX


set_option Elab.async false
set_option linter.all false
set_option maxRecDepth 100000
set_option maxHeartbeats 1000000
/-! DX32: the modules' own dict stands at its place: so repr may be asked of data with empty dicts in it -/
namespace EndG
open PySem PySem.Spec PyProof.Rows L2
def SysD (h : Heap) : Prop := ∃ (o : Obj) (es : Array DictEntry) (n : Nat), h.get? sysModules = some o ∧ o.cls = .type "dict" ∧ o.data = .dict es n
def sysB (g : Addr → Option Obj) : Bool := match g sysModules with
  | some ⟨c, _, .dict _ _, _⟩ => decide (c = .type "dict")
  | _ => false
theorem sysB_ok {h : Heap} (e : sysB h.get? = true) : SysD h := by
  unfold sysB at e
  split at e
  · rename_i c dd es n sl ho
    exact ⟨_, es, n, ho, of_decide_eq_true e, rfl⟩
  · cases e
theorem law_topS {P : Program} {w : World} {K : PySem.W.Frag} {mg mb : Str → Option Value} {CX : CXT} {fa a : Addr} {cs : List (Addr × Addr)} {fd : FuncData} {x : Str} {sp : Sp} {z : Shared} {vs : List Value} {ns : List Int}
    (inK : K.In z.heap) (glob : z.heap.Ns mainGlobals mg) (blt : z.heap.Ns builtinsNs mb) (boot : ∀ x : Str, x ≠ "__name__" → mb x = bootBuiltins x) (free : z.heap.NoLimit) (nogen : z.gens = #[])
    (empty : ∀ p ∈ cs, z.heap.get? p.2 = some { cls := .none, data := .fields #[] }) (outK : ∀ p ∈ cs, K.lookup p.2 = none) (heads : ∀ p ∈ cs, PySem.W.CodeHd z.heap p.1 p.2)
    (bmod : ∃ (bm : Addr) (ob : Obj), mg "__builtins__" = some (.ref bm) ∧ bm ≠ builtinsNs ∧ z.heap.get? bm = some ob ∧ ob.cls = .type "module" ∧ ob.dict = some builtinsNs ∧ ob.data = .plain)
    (ha : z.heap.get? a = some { cls := .type "list", data := .seq vs.toArray }) (nums : IntsAre vs ns) (small : ns.length ≤ sizeLine)
    (sys : SysD z.heap) (F : ∀ base : Heap, K.In base → base.Ns mainGlobals mg → (∀ p ∈ cs, LamX.TabB base mg p.1 p.2) → SysD base → RunG P w K mg base CX fa fd x sp) (bind : ∀ (s : Shared) (u : Value), BindsTo s fd ⟨[u], []⟩ [(x, u)])
    (wish : ∀ H : Hp, (∀ p ∈ cs, H p.2 = some (.tbl #[])) → SqL K H a (ns.map V.int) → sp [.ref a] H (fun v _ => v = .bl true) fun _ _ _ => False)
    (calm : ∀ H e s', CX [] H z (fun _ _ _ => False) e s' → False) :
    codeAny (model P w) callerA (.call (.ref fa) ⟨[.ref a], []⟩) (fun r s' => r = .ok (.ret (.bool true)) ∧ OldK z.heap s'.heap ∧ s'.os = z.os ∧ AllBare s'.gens) z := by
  have isTab : ∀ b ∈ cs.map (·.2), z.heap.get? b = some { cls := .none, data := .fields #[] } := by
    intro b hb
    obtain ⟨p, hp, rfl⟩ := List.mem_map.mp hb
    exact empty p hp
  have mem : ∀ p ∈ cs, p.2 ∈ cs.map (·.2) := fun p hp => List.mem_map.mpr ⟨p, hp, rfl⟩
  have na : a ∉ cs.map (·.2) := by
    intro hb
    have two := (isTab a hb).symm.trans ha
    have bad : Data.fields #[] = Data.seq vs.toArray _ := congrArg Obj.data (Option.some.inj two)
    cases bad
  obtain ⟨H, T⟩ := trk_ex (K := K) inK ha nums small na
  have hid : ∀ {b : Addr} {o : Obj}, z.heap.get? b = some o → (∀ us n, o.data ≠ .seq us n) → o.data ≠ .fields #[] → (hidT z.heap H).get? b = some o := by
    intro b o e n1 n2
    refine hidT_get e ?_
    cases q : H b with
    | none => rfl
    | some u =>
      rcases T.all b u q with ⟨hb, _⟩ | ⟨rfl, _, _⟩
      · have := (isTab b hb).symm.trans e
        cases this
        exact absurd rfl n2
      · have := ha.symm.trans e
        cases this
        exact absurd rfl (n1 _ _)
  have hns : ∀ {b : Addr} {m : Str → Option Value}, z.heap.Ns b m → (hidT z.heap H).Ns b m := by
    rintro b m ⟨o, es, ep, e, d, rest⟩
    exact ⟨o, es, ep, hid e (fun us n h => by rw [d] at h; cases h) (fun h => by rw [d] at h; cases h), d, rest⟩
  have inB : K.In (hidT z.heap H) := by
    intro b o e
    refine hidT_get (inK b o e) ?_
    cases q : H b with
    | none => rfl
    | some u =>
      rcases T.all b u q with ⟨hb, _⟩ | ⟨rfl, hn, _⟩
      · obtain ⟨p, hp, rfl⟩ := List.mem_map.mp hb
        rw [outK p hp] at e
        cases e
      · rw [hn] at e
        cases e
  have held : HOk P w H z.heap := by
    intro b u q
    rcases T.all b u q with ⟨hb, rfl⟩ | ⟨rfl, _, rfl⟩
    · exact isTab b hb
    · exact ⟨ha, by rw [List.length_map]; exact small, vs, _, vals_ints nums, ha⟩
  have tabs : ∀ p ∈ cs, LamX.TabB (hidT z.heap H) mg p.1 p.2 := by
    intro p hp
    have hT := empty p hp
    refine ⟨?_, ?_, ?_⟩
    · obtain ⟨o, us, fl, tf, fg, tg, iF, tx, tt, e1, r1, r2, r3, rest⟩ := heads p hp
      exact ⟨o, us, fl, tf, fg, tg, iF, tx, tt, hid e1 (fun _ _ h => by rw [r2] at h; cases h) (fun h => by rw [r2] at h; cases h; simp at r3), r1, r2, r3, rest⟩
    · obtain ⟨bm, ob, b1, b2, b3, b4, b5, b6⟩ := bmod
      refine ⟨bm, ob, b1, b2, fun q => ?_, fun q => ?_, hid b3 (fun _ _ h => by rw [b6] at h; cases h) (fun h => by rw [b6] at h; cases h), b4, b5, b6⟩
      · obtain ⟨o, es, ep, e, hd, _⟩ := glob
        rw [q, e] at b3
        cases b3
        rw [hd] at b6
        cases b6
      · rw [q, hT] at b3
        cases b3
        cases b6
    · intro q
      obtain ⟨o, es, ep, e, hd, _⟩ := glob
      rw [q, hT] at e
      cases e
      cases hd
  have sysB : SysD (hidT z.heap H) := by
    obtain ⟨o, es, n, e, hc, hd⟩ := sys
    exact ⟨o, es, n, hid e (fun us m h => by rw [hd] at h; cases h) (fun h => by rw [hd] at h; cases h), hc, hd⟩
  have entry : Env0 P w K mg (hidT z.heap H) callerA [] z H :=
    ⟨rfl, ⟨inB, hns glob, ⟨mb, hns blt, boot⟩, free.elim fun mc h => ⟨mc, hns h.1, h.2⟩⟩, fun b o e => of_hidT e, Nat.le_of_eq (hidT_size _ _), trivial, fun b hb => (List.not_mem_nil (show b ∈ [] from hb)).elim, held, .of_eq nogen⟩
  refine codeAny_mono (F _ inB (hns glob) tabs sysB z H (.ref a) (.ref a) _ _ entry (bind z (.ref a)) rfl (wish H (fun p hp => T.tab _ (mem p hp)) T.scr)) fun r z2 ends => ?_
  match r, ends with
  | .error e, ends => exact (calm H e z2 ends).elim
  | .ok .next, ends => exact False.elim ends
  | .ok .brk, ends => exact False.elim ends
  | .ok .cont, ends => exact False.elim ends
  | .ok (.ret q), ⟨v, H', os, bare, un, held2, rel, hv⟩ =>
    have hv : v = .bl true := hv
    subst hv
    obtain rfl : q = Value.bool true := rel
    have stay : ∀ b o, b ∉ cs.map (·.2) → z.heap.get? b = some o → z2.heap.get? b = some o := by
      intro b o nb e
      cases q : H b with
      | none => exact un.keep b o e q (List.not_mem_nil (a := b)) (by simp)
      | some u =>
        rcases T.all b u q with ⟨hb, _⟩ | ⟨rfl, _, rfl⟩
        · exact absurd hb nb
        · have := ha.symm.trans e
          cases this
          exact (held2 _ _ (un.frzs _ _ _ q)).1
    have more : ∀ p ∈ cs, ∃ ms : Array Value, z2.heap.get? p.2 = some { cls := .none, data := .fields ms } := by
      intro p hp
      obtain ⟨ms, q⟩ := un.tbls p.2 #[] (T.tab _ (mem p hp))
      exact ⟨_, held2 _ _ q⟩
    refine ⟨rfl, ⟨fun b o e => ?_, fun b o e => ?_⟩, os, bare⟩
    · by_cases hb : b ∈ cs.map (·.2)
      · obtain ⟨p, hp, rfl⟩ := List.mem_map.mp hb
        obtain ⟨ms, hm⟩ := more p hp
        have := (empty p hp).symm.trans e
        cases this
        exact .inr (.inl ⟨((heads p hp).tab (empty p hp)).isCodeTable, rfl, #[], ms, rfl, by simpa using hm⟩)
      · exact .inl (stay b o hb e)
    · by_cases hb : b ∈ cs.map (·.2)
      · obtain ⟨p, hp, rfl⟩ := List.mem_map.mp hb
        obtain ⟨ms, hm⟩ := more p hp
        exact ⟨_, hm⟩
      · exact ⟨o, stay b o hb e⟩
/-- the law, walked from the caller alone -/
def LawS (l : PySem.W.OpenLaw) (w : World) (K : PySem.W.Frag) (CX : CXT) (n : Nat) (x : Str) (mg : Str → Option Value) (fa : Addr) (h : Heap) : Prop :=
  ∃ (fd : FuncData) (cs : List (Addr × Addr)) (sp : Sp), (∀ p ∈ cs, h.get? p.2 = some { cls := .none, data := .fields #[] } ∧ K.lookup p.2 = none ∧ PySem.W.CodeHd h p.1 p.2) ∧ (∀ (s : Shared) (u : Value), BindsTo s fd ⟨[u], []⟩ [(x, u)]) ∧
    (∀ (H : Hp) (a : Addr) (ns : List Int), ns.length ≤ n → (∀ p ∈ cs, H p.2 = some (.tbl #[])) → SqL K H a (ns.map V.int) → sp [.ref a] H (fun v _ => v = .bl true) fun _ _ _ => False) ∧
    ∀ base : Heap, K.In base → base.Ns mainGlobals mg → (∀ p ∈ cs, LamX.TabB base mg p.1 p.2) → SysD base → RunG l.prog w K mg base CX fa fd x sp
theorem walkS {l : PySem.W.OpenLaw} {n : Nat} {q : Program} {loose : List Str} {XP : (Str → Option Value) → Heap → Prop} {YP : World → Heap → Prop} {d : DefRec} {CX : World → CXT} {x : Str}
    (most : l.most = some n) (few : n ≤ sizeLine) (plain : d.params.defaults = [])
    (F : ∀ (w : World) (mg : Str → Option Value) (fa : Addr) (h : Heap), YP w h → h.Ns mainGlobals mg → mg d.name = some (.ref fa) → SysD h ∧ ∃ K : PySem.W.Frag, K.In h ∧ LawS l w K (CX w) n x mg fa h)
    (calm : ∀ (w : World) (H : Hp) (s : Shared) (e : Value) (s' : Shared), CX w [] H s (fun _ _ _ => False) e s' → False) :
    PySem.W.WalkO q loose XP YP l.row.toRowW d [] (fun f vs => PySem.call f vs) := by
  refine Att.attach_callB most plain fun w _ z mg mb fa _ _ _ _ a us ns G Y _ _ _ named obj nums short _ nogen => ?_
  obtain ⟨sys, K, inK, fd, cs, sp, tab, bind, wish, runs⟩ := F w mg fa _ Y G.T.g named
  exact law_topS inK G.T.g G.T.b G.T.builtins G.T.nolimit nogen (fun p hp => (tab p hp).1) (fun p hp => (tab p hp).2.1) (fun p hp => (tab p hp).2.2) G.T.bmain obj nums (Nat.le_trans short few) sys runs bind (fun H hT hS => wish H a ns short hT hS) fun H e s' => calm w H z e s'
end EndG
namespace He
open PySem PySem.Spec PyProof.Rows L2
/-- the hook, with the modules' dict -/
def hookS (n : Nat) (fa : List Fa) (fn : List DefD) (ts : List Tab) (tf : List Defn) (ex : PySem.W.Frag → Bool) : PySem.W.Hook where
  α := AlX × Bool
  obs := fun s => (obsX n fa fn ts tf ex s.heap.get?, EndG.sysB s.heap.get?)
  val := fun w => (valX fn ts w, true)
  says := fun w h => EndG.SysD h ∧ ∃ K : PySem.W.Frag, K.In h ∧ SaysX fa fn ts tf ex w h K
  of := fun _ _ e => ⟨EndG.sysB_ok (congrArg (fun z : AlX × Bool => z.2) e), _, frT_in, saysX_of (congrArg (fun z : AlX × Bool => z.1) e)⟩
  keeps := fun _ _ _ ⟨⟨o, es, n, e, hc, hd⟩, K, hK, c⟩ k => ⟨⟨o, es, n, k _ _ e, hc, hd⟩, K, PySem.W.Frag.In.keeps hK k, ⟨c.t, c.more, c.hd, c.out, fun p hp => k _ _ (c.empty p hp)⟩⟩
theorem obsS_eq {n : Nat} {fa : List Fa} {fn : List DefD} {ts : List Tab} {tf : List Defn} {ex : PySem.W.Frag → Bool} {g : Addr → Option Obj} {s : Shared} (h : ∀ a, g a = s.heap.get? a) : (obsX n fa fn ts tf ex g, EndG.sysB g) = (hookS n fa fn ts tf ex).obs s := by
  have e : g = s.heap.get? := funext h
  rw [e] <;> rfl
end He
namespace DX
open PySem PySem.Spec PyProof.Rows L2 GxR GA
/-! ### repr of data with empty dicts -/
mutual
inductive Dq (K : PySem.W.Frag) (H : Hp) : V → PyData → Prop
  | non : Dq K H .non .none
  | bl (b : Bool) : Dq K H (.bl b) (.bool b)
  | int (i : Int) : Dq K H (.int i) (.int i)
  | str (x : Str) : Dq K H (.str x) (.str x)
  | lst {a : Addr} {xs : List V} {ds : List PyData} : SqL K H a xs → DqAll K H xs ds → Dq K H (.ref a) (.list ds)
  | tup {a : Addr} {xs : List V} {ds : List PyData} : SqT K H a xs → DqAll K H xs ds → Dq K H (.ref a) (.tuple ds)
  | dct {a : Addr} : H a = some (.dK []) → Dq K H (.ref a) (.dict [])
inductive DqAll (K : PySem.W.Frag) (H : Hp) : List V → List PyData → Prop
  | nil : DqAll K H [] []
  | cons {v : V} {vs : List V} {d : PyData} {ds : List PyData} : Dq K H v d → DqAll K H vs ds → DqAll K H (v :: vs) (d :: ds)
end
section
variable {X : Cx} {pins : List (Addr × Obj)} {σ : L2.St} {H : Hp} {s : Shared}
mutual
theorem Dq.reads (I : Inv X pins σ H s) (sy : EndG.SysD s.heap) : ∀ (d : PyData) (v : V) (u : Value), Dq X.K H v d → RelV v u → ∃ as, Reads s.heap u d as ∧ sysModules ∉ as
  | .none, _, _, h, r => by
    cases h
    cases r
    exact ⟨_, Reads.none, by simp⟩
  | .bool b, _, _, h, r => by
    cases h
    cases r
    exact ⟨_, Reads.bool b, by simp⟩
  | .int i, _, _, h, r => by
    cases h
    obtain ⟨t, rfl⟩ := r
    exact ⟨_, Reads.int i t, by simp⟩
  | .str x, _, _, h, r => by
    cases h
    obtain ⟨t, rfl⟩ := r
    exact ⟨_, Reads.str x t, by simp⟩
  | .list ds, _, _, h, r => by
    cases h with
    | lst hs ha =>
      cases r
      obtain ⟨its, rv, ⟨o, n, ho, hc, _, hd⟩, _⟩ := I.list hs
      obtain ⟨as, hr, hn⟩ := Dq.readsAll I sy ds _ its ha rv
      refine ⟨_, Reads.list ho hc hd hr, fun z => ?_⟩
      rcases List.mem_cons.mp z with z | z
      · obtain ⟨o2, es, n2, e2, c2, _⟩ := sy
        rw [z, ho] at e2
        cases e2
        rw [hc] at c2
        exact absurd (Value.type.inj c2) (by decide)
      · exact hn z
  | .tuple ds, _, _, h, r => by
    cases h with
    | tup hs ha =>
      cases r
      obtain ⟨its, rv, ⟨o, ho, hc, n, hd⟩, _⟩ := I.tuple hs
      obtain ⟨as, hr, hn⟩ := Dq.readsAll I sy ds _ its ha rv
      exact ⟨_, Reads.tuple ho hc hd hr, hn⟩
  | .dict kvs, _, _, h, r => by
    cases h with
    | @dct a e =>
      cases r
      obtain ⟨_, hsm, vs, kv, hd⟩ := dk_of I.hok e
      cases kv
      obtain ⟨o, es, ep, ho, hx, hdt, _, hp, _⟩ := hd
      have hl : es.toList = [] := by
        cases q : es.toList with
        | nil => rfl
        | cons x xs =>
          rw [q] at hp
          cases hp
      have hne : a ≠ sysModules := by simpa using hsm
      refine ⟨_, Reads.dict (as := []) (bs := []) ho hx.1 hdt ?_ ?_, by simp; exact fun z => hne z.symm⟩
      · rw [hl]; exact .nil
      · rw [hl]; exact .nil
theorem Dq.readsAll (I : Inv X pins σ H s) (sy : EndG.SysD s.heap) : ∀ (ds : List PyData) (vs : List V) (us : List Value), DqAll X.K H vs ds → Vals vs us → ∃ as, ReadsAll s.heap us ds as ∧ sysModules ∉ as
  | [], _, _, h, r => by
    cases h
    cases r
    exact ⟨_, ReadsAll.nil, by simp⟩
  | d :: ds, _, _, h, r => by
    cases h with
    | cons h1 h2 =>
      cases r with
      | cons r1 r2 =>
        obtain ⟨as, q1, n1⟩ := Dq.reads I sy d _ _ h1 r1
        obtain ⟨bs, q2, n2⟩ := Dq.readsAll I sy ds _ _ h2 r2
        exact ⟨_, ReadsAll.cons q1 q2, fun z => (List.mem_append.mp z).elim n1 n2⟩
end
end
def rReprE (K : PySem.W.Frag) : List V → Hp → VK → Prop := fun xs H Q => ∃ a d, xs = [.ref a] ∧ Dq K H (.ref a) d ∧ d.depth ≤ 64 ∧ d.showable = true ∧ d.shown.length ≤ sizeLine ∧ Q (.str d.shown) H
theorem c_reprE {X : Cx} (sy : EndG.SysD X.base) (hg : X.A.guards = some []) (hu : X.A.units + 70 < cLine) : CallR X (.builtin "repr") (rReprE X.K) := by
  intro pins s σ H xs us Q I r h
  obtain ⟨a, d, rfl, dp, hdep, sw, sz, q⟩ := h
  obtain ⟨u, rfl, ru⟩ := r.one
  cases ru
  obtain ⟨o, es, n, e, hc, hd⟩ := sy
  obtain ⟨as, rd, hn⟩ := Dq.reads I ⟨o, es, n, I.bk _ _ e, hc, hd⟩ d _ _ dp rfl
  exact PySem.repr_of_reads' rd sw (fun _ => hn) hg (by omega) (fun _ _ e => e) (fun h' u tk hk => ⟨.str d.shown, H, I.kept (t' := tk) hk, ⟨u, rfl⟩, q⟩) sz
mutual
/-- no dict but empty ones -/
def okD : PyData → Bool
  | .dict kvs => kvs.isEmpty
  | .list xs => okDL xs
  | .tuple xs => okDL xs
  | _ => true
def okDL : List PyData → Bool
  | [] => true
  | x :: xs => okD x && okDL xs
end
mutual
theorem Rp.dq {K : PySem.W.Frag} {H : Hp} : ∀ {d : PyData} {v : V}, Rp K H d v → okD d = true → Dq K H v d
  | _, _, .non, _ => .non
  | _, _, .bl b, _ => .bl b
  | _, _, .int b, _ => .int b
  | _, _, .str b, _ => .str b
  | _, _, .lst h r, n => .lst (SqL.of h) (RpL.dq r n)
  | _, _, .tup h r, n => .tup h (RpL.dq r n)
  | _, _, .dct h, n => .dct h
  | _, _, .dk (kvs := kvs) h o, n => by
    match kvs, o, n with
    | [], o, _ => exact absurd o (by simp [opq])
    | _ :: _, _, n => cases n
  | _, _, .scr h, n => by cases n
theorem RpL.dq {K : PySem.W.Frag} {H : Hp} : ∀ {ds : List PyData} {vs : List V}, RpL K H ds vs → okDL ds = true → DqAll K H vs ds
  | _, _, .nil, _ => .nil
  | _, _, .cons r t, n => by
    have n' : (okD _ && okDL _) = true := n
    rw [Bool.and_eq_true] at n'
    exact .cons (Rp.dq r n'.1) (RpL.dq t n'.2)
end
section
variable {G : Gx} {δ : DEnv} {tr : TA} {Q : PyData → DEnv → Prop}
theorem ed_reprE (h : EA G tr δ fun as δ1 => ∃ x, allD as = some [x] ∧ ((∃ ys, x = .list ys) ∨ ∃ ys, x = .tuple ys) ∧ okD x = true ∧ x.depth ≤ 64 ∧ x.showable = true ∧ x.shown.length ≤ sizeLine ∧ Q (.str x.shown) δ1) : ED G (tCB (rReprE G.K) tr) δ Q := fun F σ H R I k =>
  h F σ H _ I fun as vs δ1 H1 ⟨x, e, kind, ok, dp, sw, sz, q⟩ J r1 => by
    have r2 := allD_ok e r1
    cases r2 with
    | cons r3 r4 =>
      cases r4
      have dq := r3.full.dq ok
      rcases kind with ⟨ys, rfl⟩ | ⟨ys, rfl⟩
      · cases r3 with
        | lst _ _ => exact ⟨_, _, rfl, dq, dp, sw, sz, k _ _ δ1 H1 q J (.str _)⟩
      · cases r3 with
        | tup _ _ => exact ⟨_, _, rfl, dq, dp, sw, sz, k _ _ δ1 H1 q J (.str _)⟩
end
end DX


set_option Elab.async false
set_option linter.all false
set_option maxRecDepth 100000
set_option maxHeartbeats 1000000
/-! DX33: what may return or raise; a def that is called within an except suite with the error -/
namespace DX
open PySem PySem.Spec PyProof.Rows L2 GxR GA
open Classical
/-- returns as C says, or raises as Cx says -/
def spE (K : PySem.W.Frag) (cs : List Addr) (A : Str → Addr) (C : CtP) (Cx : CtX) : Sp := fun vs H Q E => spP K cs C vs H Q E ∨ spX K cs A Cx vs H Q E
theorem fok_or {P : Program} {w : World} {K : PySem.W.Frag} {mg : Str → Option Value} {base : Heap} {k : Nat} {f : Addr} {fd : FuncData} {ps : List Str} {cs : List Addr} {A : Str → Addr} {C : CtP} {Cx : CtX} {CX : CXT}
    (F1 : FnOk P w K mg base CX0 k f fd ps (spP K cs C)) (F2 : FnOk P w K mg base CX k f fd ps (spX K cs A Cx)) : FnOk P w K mg base CX k f fd ps (spE K cs A C Cx) :=
  ⟨fun vs H Q E h => h.elim (F1.len vs H Q E) (F2.len vs H Q E), fun A' outer s H args us vs Q E hr e0 b r h => by
    rcases h with h | h
    · refine codeAny_mono (F1.run A' outer s H args us vs Q E hr e0 b r h) fun res s' hq => ?_
      match res, hq with
      | .error e, hq => exact (show False from hq).elim
      | .ok (.ret u), hq => exact hq
      | .ok .next, hq => exact hq
      | .ok .brk, hq => exact hq
      | .ok .cont, hq => exact hq
    · exact F2.run A' outer s H args us vs Q E hr e0 b r h⟩
def SB (G : Gx) (A : Str → Addr) (t : WX → TS) (δ : DEnv) (QS : Out → Prop) (Q : Str → DEnv → Prop) : Prop :=
  ∀ (F : Fx) (σ : L2.St) (H : Hp) (D : Ends) (W : WX), EI G F δ σ H → (∀ o, QS o → Sat G F o D) → (∀ c δ' σ' H', Q c δ' → EI G F δ' σ' H' → W (.ref (A c)) none σ' H') → t W D σ H
section
variable {G : Gx} {A : Str → Addr} {F : Fx} {δ δ' : DEnv} {σ σ' : L2.St} {H H' : Hp} {Q : Str → DEnv → Prop} {QS : Out → Prop} {t u : WX → TS} {ta : TS} {tt : TT} {tr tk : TA} {c : Str} {C : CtP} {Cx : CtX}
theorem sb_of (h : SD G ta δ QS) : SB G A (fun _ => ta) δ QS Q := fun F σ H D W I k _ => h F σ H D I k
theorem sb_sx (h : SX G A t δ Q) : SB G A t δ QS Q := fun F σ H D W I _ k => h F σ H D W I k
theorem sb_if (h : DT G tt δ fun b δ1 => if b = true then SB G A t δ1 QS Q else SB G A u δ1 QS Q) : SB G A (fun W => tIfS tt (t W) (u W)) δ QS Q := fun F σ H D W I k kx =>
  h F σ H _ I fun b δ1 H1 q J => by
    cases b with
    | true => exact iteT (q F σ H1 D W J k kx)
    | false => exact iteF (q F σ H1 D W J k kx)
theorem run_E {vs : List V} {xs : List PyData} {R : VK} {E' : XK} {Qd : PyData → DEnv → Prop} (J : EI G F δ σ H) (r : RpL G.K (del H (Sl F δ σ)) xs vs) (hc : (C xs fun d => Qd d δ) ∨ ∃ c, Cx xs c ∧ Q c δ)
    (k : ∀ d v δ' H', Qd d δ' → EI G F δ' σ H' → R v H') (kx : ∀ c δ' H', Q c δ' → EI G F δ' σ H' → E' (.ref (A c)) none H') : spE G.K G.cs A C Cx vs H R E' := by
  rcases hc with hc | ⟨c, hc, q⟩
  · exact .inl (run_P J r hc fun d v δ' H' q J' _ => k d v δ' H' q J')
  · refine .inr ⟨xs, c, Sl F δ σ, hc, r, fun a ha => ?_, J.tab, fun H' kp tk tb => kx c δ H' q (J.called kp tk tb)⟩
    rcases ha with ⟨i, ys, h1, h2⟩ | ha
    · obtain ⟨v, h3, b, ws, h4, h5, _⟩ := J.slot i _ h1
      rw [h2] at h3
      cases h3
      cases h4
      exact ⟨_, h5, nt_lst _⟩
    · exact J.ex a ha
theorem sb_call (h : EA G tr δ fun as δ1 => ∃ xs, allD as = some xs ∧ ((C xs fun _ => QS (.nx δ1)) ∨ ∃ c, Cx xs c ∧ Q c δ1)) : SB G A (fun W => tDrop (tCallS (spE G.K G.cs A C Cx) (WE W) tr)) δ QS Q := fun F σ H D W I k kx =>
  h F σ H _ I fun as vs δ1 H1 ⟨xs, e, hc⟩ J r => run_E (C := C) (Cx := Cx) (Qd := fun _ δ' => QS (.nx δ')) (Q := Q) J (allD_ok e r) hc (fun d v δ' H' q J' => k _ q σ H' J') fun c δ' H' q J' => kx c δ' σ H' q J'
/-- with keywords -/
def tCallNS (n m : Nat) (sp : Sp) (gV : List V → List V → List V) (E : L2.St → XK) (t tk : TA) : TE := fun σ H Q => t σ H fun vs H1 => tk σ H1 fun zs H2 => vs.length = n ∧ zs.length = m ∧ sp (gV vs zs) H2 Q (E σ)
theorem sb_callN {n m : Nat} {is : List Nat} (h : EA G tr δ fun as δ1 => EA G tk δ1 fun bs δ2 => ∃ xs ys, allD as = some xs ∧ allD bs = some ys ∧ xs.length = n ∧ ys.length = m ∧ ((C (xs ++ perm is ys) fun _ => QS (.nx δ2)) ∨ ∃ c, Cx (xs ++ perm is ys) c ∧ Q c δ2)) :
    SB G A (fun W => tDrop (tCallNS n m (spE G.K G.cs A C Cx) (fun vs zs => vs ++ perm is zs) (WE W) tr tk)) δ QS Q := fun F σ H D W I k kx =>
  h.go I fun as vs δ1 H1 q1 s1 r1 => q1.go s1.ei fun bs zs δ2 H2 ⟨xs, ys, e1, e2, l1, l2, hc⟩ s2 r2 => by
    have a1 := (allD_ok e1 r1).gr s2.gr
    have a2 := allD_ok e2 r2
    exact ⟨by rw [← a1.len]; exact l1, by rw [← a2.len]; exact l2, run_E (C := C) (Cx := Cx) (Qd := fun _ δ' => QS (.nx δ')) (Q := Q) s2.ei (a1.app (rpL_perm a2 is)) hc (fun d v δ' H' q J' => k _ q σ H' J') fun c δ' H' q J' => kx c δ' σ H' q J'⟩
theorem sx_seqB (h : SB G A t δ (fun o => ∃ δ1, o = .nx δ1 ∧ SX G A u δ1 Q) Q) : SX G A (fun W => tSeq (t W) (u W)) δ Q := fun F σ H D W I k => h F σ H _ W I (fun o ⟨δ1, e, q⟩ => by
  subst e
  exact fun σ1 H1 J => q F σ1 H1 D W J k) k
variable {i j : Nat} {a : Addr}
theorem sd_tryB {tb : WX → TS} {tx : Addr → Value → Option Addr → TS} {c0 : Value} (hp : i ∉ G.pn)
    (h : SB G A tb δ QS fun c δ1 => PySem.W.exmOne G.K (.ref (A c)) c0 = some true ∧ i < δ1.length ∧ ∀ a, SE G i a (tx a (.ref (A c)) none) (δ1.set i none) (QE i QS)) :
    SD G (fun D σ H => tb (wAs G.K c0 i tx (fun _ _ _ _ => False) D) D σ H) δ QS := fun F σ H D I k =>
  h F σ H D _ I k fun c δ1 σ1 H1 ⟨e1, hl, q⟩ J => ⟨true, e1, fun _ a na => q a F _ H1 _ (J.set_n hp) (List.getElem?_set_self (by rw [← J.len]; exact hl)) fun o qo => by
    cases o with
    | nx δ2 => exact fun σ2 H2 J2 _ => k _ qo _ H2 (J2.set_n hp)
    | bk δ2 => exact fun σ2 H2 J2 => k _ qo _ H2 (J2.set_n hp)
    | ct δ2 => exact fun σ2 H2 J2 => k _ qo _ H2 (J2.set_n hp)
    | rt d δ2 => exact k (.rt d δ2) qo
    | rf xs δ2 => exact k (.rf xs δ2) qo
    | rm j δ2 => exact k (.rm j δ2) qo
    | r2 l j δ2 => exact k (.r2 l j δ2) qo, fun z => nomatch z⟩
/-! ### tests and ends in a suite -/
def DTe (G : Gx) (i : Nat) (a : Addr) (t : TT) (δ : DEnv) (Q : Bool → DEnv → Prop) : Prop :=
  ∀ (F : Fx) (σ : L2.St) (H : Hp) (R : Bool → Hp → Prop), EI G F δ σ H → σ[i]? = some (some (V.ref a)) → (∀ b δ' H', Q b δ' → EI G F δ' σ H' → R b H') → t σ H R
variable {te tf : TE} {ts tu : TS} {tv : TT} {QT : Bool → DEnv → Prop} {QD : PyData → DEnv → Prop}
theorem dte_of (h : DT G tt δ QT) : DTe G i a tt δ QT := fun F σ H R I _ k => h F σ H R I k
theorem dte_val (h : EDe G i a te δ fun x δ1 => ∃ b, x = .bool b ∧ QT b δ1) : DTe G i a (tB te) δ QT := fun F σ H R I hs k =>
  h F σ H _ I hs fun x v δ1 H1 ⟨b, e, q⟩ J r => by
    subst e
    cases r
    exact ⟨b, rfl, k b δ1 H1 q J⟩
theorem dte_not (h : DTe G i a tt δ fun b δ1 => QT (!b) δ1) : DTe G i a (tNot tt) δ QT := fun F σ H R I hs k => h F σ H _ I hs fun b δ1 H1 q J => k (!b) δ1 H1 q J
theorem dte_or (h : DTe G i a tt δ fun b δ1 => if b = true then QT true δ1 else DTe G i a tv δ1 QT) : DTe G i a (tOr tt tv) δ QT := fun F σ H R I hs k =>
  h F σ H _ I hs fun b δ1 H1 q J => by
    cases b with
    | true => exact iteT (k true δ1 H1 q J)
    | false => exact iteF (q F σ H1 R J hs k)
theorem se_if (h : DTe G i a tt δ fun b δ1 => if b = true then SE G i a ts δ1 QS else SE G i a tu δ1 QS) : SE G i a (tIfS tt ts tu) δ QS := fun F σ H D I hs k =>
  h F σ H _ I hs fun b δ1 H1 q J => by
    cases b with
    | true => exact iteT (q F σ H1 D J hs k)
    | false => exact iteF (q F σ H1 D J hs k)
theorem se_next (q : QS (.nx δ)) : SE G i a tNext δ QS := fun F σ H D I hs k => k _ q σ H I hs
theorem se_ret (h : EDe G i a te δ fun d δ1 => QS (.rt d δ1)) : SE G i a (tRet te) δ QS := fun F σ H D I hs k => h F σ H _ I hs fun d v δ1 H1 q J r => k (.rt d δ1) q σ H1 v J r
/-- arguments in a suite -/
def EAe (G : Gx) (i : Nat) (a : Addr) (t : TA) (δ : DEnv) (Q : List PyData → DEnv → Prop) : Prop :=
  ∀ (F : Fx) (σ : L2.St) (H : Hp) (R : List V → Hp → Prop), EI G F δ σ H → σ[i]? = some (some (V.ref a)) → (∀ xs vs δ' H', Q xs δ' → Since G F δ σ H δ' σ H' → RpL G.K (del H' (Sl F δ' σ)) xs vs → R vs H') → t σ H R
theorem EDe.go {R : VK} (h : EDe G i a te δ QD) (I : EI G F δ σ H) (hs : σ[i]? = some (some (V.ref a))) (k : ∀ d v δ' H', QD d δ' → Since G F δ σ H δ' σ H' → Rp G.K (del H' (Sl F δ' σ)) d v → R v H') : te σ H R :=
  h (F.now δ σ H) σ H R I.now hs fun d v δ' H' q J r => k d v δ' H' q (I.since J) r
theorem eae_nil {QA : List PyData → DEnv → Prop} (q : QA [] δ) : EAe G i a tNil δ QA := fun F σ H R I hs k => k [] [] δ H q I.here .nil
theorem eae_cons {QA : List PyData → DEnv → Prop} (h : EDe G i a te δ fun x δ1 => EAe G i a tr δ1 fun xs δ2 => QA (x :: xs) δ2) : EAe G i a (tCons te tr) δ QA := fun F σ H R I hs k =>
  h.go I hs fun x v δ1 H1 q1 s1 r1 => q1 F σ H1 _ s1.ei hs fun xs vs δ2 H2 q2 s2 r2 => k _ _ δ2 H2 q2 (s1.trans s2) (.cons (Rp.gr s2.gr r1) r2)
theorem ede_lst (h : EAe G i a tr δ fun xs δ1 => xs.length ≤ sizeLine ∧ QD (.list xs) δ1) : EDe G i a (tLst tr) δ QD := fun F σ H R I hs k =>
  h F σ H _ I hs fun xs vs δ1 H1 ⟨hl, q⟩ s r => ⟨by rw [← r.len]; exact hl, fun p hp => by
    have N := New.mk_ s.ei hp r
    exact k _ _ δ1 _ q N.give.1 N.give.2⟩
/-- xs + ys -/
theorem ede_cat (h : EDe G i a te δ fun x δ1 => EDe G i a tf δ1 fun y δ2 => ∃ xs ys, x = .list xs ∧ y = .list ys ∧ xs.length + ys.length ≤ sizeLine ∧ QD (.list (xs ++ ys)) δ2) : EDe G i a (tOp rCat te tf) δ QD := fun F σ H R I hs k =>
  h.go I hs fun x u δ1 H1 q1 s1 r1 => q1.go s1.ei hs fun y v δ2 H2 ⟨xs, ys, e1, e2, hl, q⟩ s2 r2 => by
    subst e1 e2
    have r1 := r1.gr s2.gr
    cases r1 with
    | lst h1 r3 => cases r2 with
      | lst h2 r4 => exact ⟨_, _, _, _, rfl, rfl, (del_some.mp h1).2, (del_some.mp h2).2, by rw [← r3.len, ← r4.len]; exact hl, fun p hp => by
          have N := New.mk_ s2.ei hp (r3.app r4)
          exact k _ _ δ2 _ q N.give.1 N.give.2⟩
end
/-! ### isinstance of an error that the context holds -/
section
variable {X : Cx} {a : Addr} {cls : Value} {d : Option Addr} {oe : Obj}
theorem call_isY (hp : (a, oe) ∈ X.pn) (hz : Zc cls d oe) (hf : ∃ vs, oe.data = .fields vs) : CallR X (.builtin "isinstance") (rIsX X.K cls d a) := by
  intro pins s σ H xs us Q I r h
  obtain ⟨D, rfl, rfl, C, c, cv, b, rfl, hcv, e, q⟩ := h
  obtain ⟨u1, u2, rfl, r1, r2⟩ := vals2 r
  cases (show u1 = Value.ref a from r1)
  have ec := hcv _ r2
  subst ec
  obtain ⟨hget, _⟩ := I.pin (a, oe) (List.mem_append_left _ hp)
  obtain ⟨vs, hv⟩ := hf
  have J : PySem.W.InstAt s.heap a oe D none := by
    obtain ⟨oc, od, oda, osl⟩ := oe
    obtain ⟨h1, h2⟩ := hz
    dsimp only at h1 h2 hv
    subst h1 h2 hv
    exact ⟨hget, rfl, rfl, trivial⟩
  exact PySem.W.kia_one (PySem.W.handS_kitx_exc C.hg C.hk C.hs C.hd C.ha C.hn C.ht C.hm) I.kIn J e (fun z => nomatch z) fun tk => ⟨.bl b, H, I.kept (t' := tk) fun _ _ z => z, rfl, q⟩
theorem call_isYT (hp : (a, oe) ∈ X.pn) (hz : Zc cls d oe) (hf : ∃ vs, oe.data = .fields vs) : CallR X (.builtin "isinstance") (rIsXT X.K cls d a) := by
  intro pins s σ H xs us Q I r h
  obtain ⟨D, rfl, rfl, C, tp, cs, ws, b, rfl, hT, k, e, q⟩ := h
  obtain ⟨u1, u2, rfl, r1, r2⟩ := vals2 r
  cases (show u1 = Value.ref a from r1)
  cases (show u2 = Value.ref tp from r2)
  obtain ⟨hget, _⟩ := I.pin (a, oe) (List.mem_append_left _ hp)
  obtain ⟨vs, hv⟩ := hf
  have J : PySem.W.InstAt s.heap a oe D none := by
    obtain ⟨oc, od, oda, osl⟩ := oe
    obtain ⟨h1, h2⟩ := hz
    dsimp only at h1 h2 hv
    subst h1 h2 hv
    exact ⟨hget, rfl, rfl, trivial⟩
  obtain ⟨_, its, rv, o, h1, h2, n, h3⟩ := (show ObjOk X.prog X.w H s.heap tp (.tup cs) from I.hok tp _ hT)
  have e3 := ClsV.all k rv
  subst e3
  obtain ⟨oc, od, dt, sl⟩ := o
  simp only at h2 h3
  subst h2 h3
  exact PySem.W.kia_tup (PySem.W.handS_kitx_exc C.hg C.hk C.hs C.hd C.ha C.hn C.ht C.hm) I.kIn J h1 e (fun z => nomatch z) fun tk => ⟨.bl b, H, I.kept (t' := tk) fun _ _ z => z, rfl, q⟩
end
end DX


set_option Elab.async false
set_option linter.all false
set_option maxRecDepth 100000
set_option maxHeartbeats 1000000
/-! DX34: a def that is called within an except suite with the error that the suite holds -/
namespace DX
open PySem PySem.Spec PyProof.Rows L2 L2H GxR GA
open Classical
structure FnE (P : Program) (w : World) (K : PySem.W.Frag) (mg : Str → Option Value) (base : Heap) (k : Nat) (f : Addr) (fd : FuncData) (ps : List Str) (sp : Addr → Value → Sp) : Prop where
  len : ∀ a cls vs H Q E, sp a cls vs H Q E → vs.length = ps.length
  run : ∀ (A : Around) (outer : List Env) (s : Shared) (H : Hp) (args : Args) (us : List Value) (vs : List V) (Q : VK) (E : XK) (a : Addr) (oe : Obj) (cls : Value), RoomH k A → Hot1 A (a, oe) → Zc cls none oe → PinOk outer H s (a, oe) → Env0 P w K mg base A outer s H → BindsTo s fd args (ps.zip us) → Vals vs us → sp a cls vs H Q E →
    codeAny (model P w) A (.call (.ref f) args) (CR CX0 outer P w H s Q E) s
theorem fnE_of {P : Program} {w : World} {K : PySem.W.Frag} {mg : Str → Option Value} {base : Heap} {x qual : Str} {params : Arguments} {body : List Stmt} {scope : Scope} {dvs : List V} {kws : List (Str × V)} {f : Addr} {fd : FuncData} {N ps : List Str} {k : Nat} {sp : Addr → Value → Sp}
    (F : FunD K x qual params body scope dvs kws f fd) (S : FnScope N ps scope) (len : ∀ a cls vs H Q E, sp a cls vs H Q E → vs.length = ps.length)
    (hbody : ∀ (cdv : Value) (A : Around) (outer : List Env) (s : Shared) (H : Hp) (vs : List V) (Q : VK) (E : XK) (a : Addr) (oe : Obj) (cls : Value), Hot1 A (a, oe) → Zc cls none oe → RoomH k (A.deeper (envOfC qual scope s.heap.objs.size f cdv)) → sp a cls vs H Q E →
      ∃ t, PSs (cxH CX0 P w K mg base N qual scope f cdv A outer s H E (a, oe)) body t ∧ t { nx := fun _ H' => Q .non H', rt := Q } (L2.start N vs) H) : FnE P w K mg base (k + 1) f fd ps sp := by
  obtain ⟨oc, od, dV, kV, doc, pm, an, cdv, ct, osl, rfl, lk, hcd, _, _⟩ := F.ex
  refine ⟨len, fun A outer s H args us vs Q E a oe cls hr hot hz hpin e0 hb r hsp => ?_⟩
  have hl := len _ _ _ _ _ _ hsp
  have KX : K.In s.heap := e0.mod.kin.keeps fun b o e => (e0.bs b o e).1
  have lim : s.heap.NoLimit := e0.mod.nolimit.keeps fun b o e => (e0.bs b o e).1
  have hkind : ∀ y ∈ ps.zip us, scope.names.lookup y.1 = some .local ∨ (scope.names.lookup y.1 = some .cell ∧ ((cellsFrom (s.heap.objs.size + 1) scope.names []).lookup y.1).isSome = true) := fun ⟨n, v⟩ hy => by
    rcases S.par n (List.of_mem_zip hy).1 with q | q
    · exact .inl q
    · exact .inr ⟨q, PySem.W.cellsFrom_some _ _ _ (.inl q)⟩
  refine codeAny_call_function hr.depth (KX _ _ lk) rfl S.co S.gen rfl (PySem.W.codeRec_of KX hcd) (hb _ _ _ _ ?_)
  refine wpAny_newFunctionEnv_cells S.kind hkind fun env he s1 x => ?_
  subst he
  refine ⟨lim.keeps x.toInCall.keep, codeAny_func ?_⟩
  obtain ⟨t, ht, hq⟩ := hbody cdv A outer s H vs Q E a oe cls hot hz (hr.deeper _) hsp
  have I : Inv (cxH CX0 P w K mg base N qual scope f cdv A outer s H E (a, oe)) [] (L2.start N vs) H s1 := inv_startH S hpin e0 hl r x
  refine wpAny_mono (ht.run [] s1 (L2.start N vs) H _ I hq) (fun fl s' hs => ?_) fun e s' hs => hs
  have fin : ∀ {σ' : L2.St} {H' : Hp} {v : V} {u : Value}, Inv (cxH CX0 P w K mg base N qual scope f cdv A outer s H E (a, oe)) [] σ' H' s' → RelV v u → Q v H' → CE outer P w H s Q u s' :=
    fun {σ' H' v u} J rv q => ⟨v, H', J.os, J.bare, J.base, J.hok, rv, q⟩
  cases fl with
  | ret u =>
    obtain ⟨v, σ', H', J, rv, q⟩ := hs
    exact fin J rv q
  | next =>
    obtain ⟨σ', H', J, q⟩ := hs
    exact fin (v := V.non) (u := Value.none) J rfl q
  | brk =>
    obtain ⟨_, _, _, q⟩ := hs
    exact False.elim q
  | cont =>
    obtain ⟨_, _, _, q⟩ := hs
    exact False.elim q
/-- f(e), in the suite -/
def tCallE (sp : Addr → Value → Sp) (a : Addr) (cls : Value) (d : Option Addr) (t : TA) : TE := fun σ H Q => t σ H fun vs H1 => d = none ∧ sp a cls vs H1 Q E0
section
variable {X : Cx} {k : Nat} {f a : Addr} {oe : Obj} {cls : Value} {d : Option Addr} {pn : List (Addr × Obj)} {fd : FuncData} {ps : List Str} {sp : Addr → Value → Sp} {x : Str} {q pos : Pos} {e : Expr} {es : List Expr} {t : TA}
theorem pe_callE (F : FnE X.prog X.w X.K X.mg X.base k f fd ps sp) (hr : Room k X.A) (hz : L2N.Zn cls d oe) (hf : ∃ vs, oe.data = .fields vs) (hg : Gl X x) (hm : X.mg x = some (.ref f)) (hk : PySem.W.keepIn X.K (.ref f) = true) (hb : Binds X.K fd ps [])
    (ha : PA (X.suite a ((a, oe) :: pn)) (e :: es) t) (hdb : (x == ("__debug__" : Str)) = false := by decide) (he : starEach (e :: es) X.env = (false, eval e X.env) :: starEach es X.env := by rfl) (hpl : (backTo pos (starEach es X.env)).any (·.1) = false := by rfl) :
    PE (X.suite a ((a, oe) :: pn)) (.Call (.Name x q) (e :: es) [] pos) (tCallE sp a cls d t) := by
  refine ⟨fun pins s σ H Q I h => ?_⟩
  refine wpAny_Call_Name_kw (ld_glob (X := X.suite a ((a, oe) :: pn)) I hg hm ?_ hdb)
  refine PySem.W.callWith_K (h₀ := X.base) I.ok.mod.kin hk (thn (ha.run pos pins s σ H _ I h) fun us s1 ⟨vs, H1, I1, r, q1⟩ => ⟨I1.kIn, ?_⟩) he hpl
  obtain ⟨hd, q1⟩ := q1
  subst hd
  obtain ⟨vs0, hv⟩ := hf
  have hot : Hot1 (X.suite a ((a, oe) :: pn)).A (a, oe) := ⟨rfl, vs0, hv, hz.2.2 vs0 hv⟩
  have P1 := I1.pin (a, oe) (List.mem_append_left _ List.mem_cons_self)
  have hpin : PinOk (X.suite a ((a, oe) :: pn)).stack H1 s1 (a, oe) := ⟨P1.1, P1.2.1, fun hm => (List.mem_cons.mp (I1.stkSub a hm)).elim P1.2.2.1 P1.2.2.2.1, P1.2.2.2.2⟩
  have hl : us.length = ps.length := by rw [← r.length]; exact F.len _ _ _ _ _ _ q1
  have b := hb s1 us I1.kIn (by rw [List.append_nil]; exact hl)
  rw [List.append_nil] at b
  have hrH : RoomH k (X.suite a ((a, oe) :: pn)).A := ⟨hr.dp, hr.un⟩
  refine wpAny_call (codeAny_mono (F.run _ _ s1 H1 ⟨us, []⟩ us vs Q E0 a oe cls hrH hot hz.zc hpin I1.env0 b r q1) fun res s' hq => ?_)
  match res, hq with
  | .error e, hq => exact (show False from hq).elim
  | .ok (.ret u), hq => exact I1.after hq
  | .ok .next, hq => exact False.elim hq
  | .ok .brk, hq => exact False.elim hq
  | .ok .cont, hq => exact False.elim hq
end
/-! ### its promise over data -/
abbrev CtH := Addr → (PyData → Prop) → Prop
def spH (K : PySem.W.Frag) (cs : List Addr) (C : CtH) : Addr → Value → Sp := fun a cls vs H Q _ => ∃ (D : Addr) (P : PyData → Prop) (X0 : Addr → Prop), cls = .ref D ∧ vs = [.ref a] ∧ C D P ∧ (∀ b, X0 b → ∃ o, H b = some o ∧ NT o) ∧ (∀ p ∈ cs, TabG H p) ∧
  ∀ d v H', P d → Rp K (del H' X0) d v → (∀ b o, NT o → H b = some o → H' b = some o) → (∀ b ps, H b = some (.tbl ps) → ∃ qs, H' b = some (.tbl qs)) → (∀ p ∈ cs, TabG H' p) → Q v H'
section
variable {G : Gx} {F : Fx} {δ δ' : DEnv} {σ σ' : L2.St} {H H' : Hp} {i : Nat} {a : Addr} {QD : PyData → DEnv → Prop}
theorem ede_callE {D : Addr} {C : CtH} (h : C D fun d => QD d δ) : EDe G i a (tCallE (spH G.K G.cs C) a (.ref D) none (tCons (tVar i) tNil)) δ QD := fun F σ H R I hs k =>
  ⟨_, hs, rfl, D, _, Sl F δ σ, rfl, rfl, h, fun b hb => by
    rcases hb with ⟨j, ys, h1, h2⟩ | hb
    · obtain ⟨v, h3, c, ws, h4, h5, _⟩ := I.slot j _ h1
      rw [h2] at h3
      cases h3
      cases h4
      exact ⟨_, h5, nt_lst _⟩
    · exact I.ex b hb, I.tab, fun d v H' p r kp tk tb => k d v δ H' p (I.called kp tk tb) r⟩
theorem lenH {K : PySem.W.Frag} {cs : List Addr} {C : CtH} (a : Addr) (cls : Value) (vs : List V) (H : Hp) (Q : VK) (E : XK) (hs : spH K cs C a cls vs H Q E) : vs.length = 1 := by
  obtain ⟨D, P, X0, _, rfl, _⟩ := hs
  rfl
theorem body_H {K : PySem.W.Frag} {cs : List Addr} {C : CtH} {t : Addr → Value → TS} {n : Nat} {N : List Str} {vs : List V} {Q : VK} {E' : XK} {cls : Value} (hN : N.length = n + 1) (hs : ∀ D P, C D P → SE ⟨K, cs, []⟩ 0 a (t a (.ref D)) (List.replicate (n + 1) none) (QP P)) (h : spH K cs C a cls vs H Q E') :
    t a cls { nx := fun _ H' => Q .non H', rt := Q } (L2.start N vs) H := by
  obtain ⟨D, P, X0, rfl, rfl, c, ex, tb, k⟩ := h
  have no : ∀ {j : Nat} {e : E}, (List.replicate (n + 1) (none : Option E))[j]? ≠ some (some e) := fun {j e} z => by
    rw [List.getElem?_replicate] at z
    split at z <;> cases z
  have hst : L2.start N [V.ref a] = some (V.ref a) :: List.replicate n none := by
    unfold L2.start
    rw [hN]
    rfl
  have I : EI ⟨K, cs, []⟩ ⟨H, fun _ => False, X0, L2.start N [V.ref a], fun _ => False⟩ (List.replicate (n + 1) none) (L2.start N [V.ref a]) H :=
    ⟨by rw [hst]; simp, fun j e z => absurd z no, fun j l xs ys b z => absurd z no, fun b ⟨j, xs, z, _⟩ => absurd z no, fun b o _ _ _ e => e, ex, fun j z => (by cases z), tb, fun b ps e => ⟨ps, e⟩, fun b z => z.elim, fun j xs b z => absurd z no, fun b z => z.elim, fun j l m m' z => absurd z no⟩
  have fin : ∀ {δ' : DEnv} {σ' : L2.St} {H' : Hp} {d : PyData} {v : V}, P d → EI ⟨K, cs, []⟩ ⟨H, fun _ => False, X0, L2.start N [V.ref a], fun _ => False⟩ δ' σ' H' → Rp K (del H' fun a => MA δ' σ' a ∨ X0 a) d v → Q v H' := fun {δ' σ' H' d v} p J r' =>
    k d v H' p (r'.gr (gr_del fun b u n hb e => ⟨fun z => hb (.inr z), e⟩)) (fun b o n e => J.keep b o n (fun z => z) (fun z => z) e) J.tk J.tab
  refine hs D P c _ _ _ _ I (by rw [hst]; rfl) fun o q => ?_
  cases o with
  | nx δ' => exact fun σ' H' J _ => fin q J .non
  | rt d δ' => exact fun σ' H' v J r' => fin q J r'
  | bk δ' => exact q.elim
  | r2 i j δ' => exact q.elim
  | ct δ' => exact q.elim
  | rf xs δ' => exact fun σ' H' p N => fin q N.give.1 N.give.2
  | rm i δ' =>
    obtain ⟨xs, hi, p⟩ := q
    exact fun σ' H' a J ha => have N := J.release hi ha (fun z => z); fin p N.give.1 N.give.2
end
end DX


set_option Elab.async false
set_option linter.all false
set_option maxRecDepth 100000
set_option maxHeartbeats 1000000
/-! DX35: functions that draw from a deck and hand back a new list -/
namespace DX
open PySem PySem.Spec PyProof.Rows L2 GxR GA
open Classical
abbrev CtKF := Nat → List PyData → (List PyData → Nat → Prop) → Prop
def spKF (K : PySem.W.Frag) (cs : List Addr) (C : CtKF) : Sp := fun vs H Q _ => ∃ (a : Addr) (vs' : List V) (n : Nat) (xs : List PyData) (P : List PyData → Nat → Prop) (X0 W : Addr → Prop), vs = .ref a :: vs' ∧ Deck W H a n ∧ (∀ b, W b → X0 b) ∧ RpL K (del H X0) xs vs' ∧ C n xs P ∧
  (∀ a, X0 a → ∃ o, H a = some o ∧ NT o) ∧ (∀ p ∈ cs, TabG H p) ∧
  ∀ ds D ws H' n', P ds n' → H D = none → H' D = some (.lst ws) → Deck W H' a n' → RpL K (del H' fun b => b = D ∨ X0 b) ds ws → (∀ b o, ¬ W b → NT o → H b = some o → H' b = some o) → (∀ b, W b → ∃ o, H' b = some o ∧ NT o) → (∀ b ps, H b = some (.tbl ps) → ∃ qs, H' b = some (.tbl qs)) → (∀ p ∈ cs, TabG H' p) → Q (.ref D) H'
section
variable {G : Gx} {F : Fx} {δ δ' : DEnv} {σ σ' : L2.St} {H H' : Hp} {ta tb tc : TE} {tr tk : TA} {QF : List PyData → DEnv → Prop}
theorem ef_callK {C : CtKF} {i n0 : Nat} (hi : δ[i]? = some (some (E.k n0))) (h : EA G tr δ fun as δ1 => ∃ xs n, allD as = some xs ∧ δ1[i]? = some (some (E.k n)) ∧ C n xs fun d n' => QF d (δ1.set i (some (.k n')))) :
    EF G (tCall (spKF G.K G.cs C) [] E0 (tCons (tVar i) tr)) δ QF := fun F σ H R I k => by
  obtain ⟨v, h1, _⟩ := I.slot i _ hi
  refine ⟨v, h1, h.go I fun as vs δ1 H1 ⟨xs, n, e, hi1, c⟩ s1 r1 => ?_⟩
  have J := s1.ei
  obtain ⟨v', h1', a, ev, dk⟩ := J.slot i _ hi1
  rw [h1] at h1'
  cases h1'
  subst ev
  show spKF G.K G.cs C (V.ref a :: vs ++ []) H1 R E0
  rw [List.append_nil]
  refine ⟨a, vs, n, xs, _, Sl F δ1 σ, F.W0, rfl, dk, fun b w => .inr (J.wl b w).1, allD_ok e r1, c, x_ex J, J.tab, fun d D ws H' n' p hD hD' dk' rd kp ex tkk tb => ?_⟩
  have old : ∀ {b}, MA (δ1.set i (some (.k n'))) σ b → MA δ1 σ b := fun {b} z => MA.set_1 (fun _ q => by cases q) z
  have gr : Gr (del H1 (Sl F δ1 σ)) (del H' (Sl (F.own D) (δ1.set i (some (.k n'))) σ)) := gr_del fun b u nt hb e => ⟨fun z => by
    rcases z with z | z | z
    · exact hb (.inl (old z))
    · rw [z, hD] at e; cases e
    · exact hb (.inr z), kp b u (fun w => hb (.inr (J.wl b w).1)) nt e⟩
  have sub : Gr (del H' fun b => b = D ∨ Sl F δ1 σ b) (del H' (Sl (F.own D) (δ1.set i (some (.k n'))) σ)) := gr_del fun b u nt hb e => ⟨fun z => by
    rcases z with z | z | z
    · exact hb (.inr (.inl (old z)))
    · exact hb (.inl z)
    · exact hb (.inr (.inr z)), e⟩
  obtain ⟨h0, hM, hX, hma⟩ := J.fresh hD
  refine k d D _ H' p ⟨⟨by rw [List.length_set]; exact J.len, fun j e h4 => ?_, fun j l zs us b e1 e2 e3 e4 => ?_, fun b hb => (J.own b (old hb)).imp id (fun ⟨z, zx⟩ => ⟨z, fun w => w.elim (fun q => hma (q ▸ old hb)) zx⟩), fun b u nt hb hw e => kp b u hw nt (J.keep b u nt hb hw e), fun b hb => ?_, J.pin, tb, fun b ps e => ?_, fun b hb => ?_, fun j zs b e1 e2 hb => ?_, fun b w => ⟨.inr (J.wl b w).1, fun z => (J.wl b w).2 (old z)⟩, J.k1.setK hi1⟩, fun z => hma (old z), hX, h0, hM, J.freshW hD, ws, hD', RpL.gr sub rd⟩
  · rcases get_set h4 with ⟨e0, e1, hl⟩ | ⟨ne, e1⟩
    · subst e0
      cases e1
      exact ⟨_, h1, a, rfl, dk'⟩
    · obtain ⟨w2, e2, e3⟩ := J.slot j e e1
      refine ⟨w2, e2, ?_⟩
      cases e with
      | d x => exact Rp.gr gr e3
      | err D => exact XR.gr gr e3
      | k m => exact absurd (J.k1 j i _ _ e1 hi1) ne
      | m zs =>
        obtain ⟨b, us, h4, h5, h6⟩ := e3
        subst h4
        exact ⟨b, us, rfl, kp _ _ (fun w => (J.wl b w).2 ⟨j, zs, e1, e2⟩) (nt_lst _) h5, RpL.gr gr h6⟩
  · rcases get_set e1 with ⟨_, e, _⟩ | ⟨_, e1⟩
    · cases e
    · rcases get_set e2 with ⟨_, e, _⟩ | ⟨_, e2⟩
      · cases e
      · exact J.nd j l zs us b e1 e2 e3 e4
  · rcases hb with hb | hb
    · rw [hb]
      exact ⟨_, hD', nt_lst _⟩
    by_cases hw : F.W0 b
    · exact ex b hw
    · obtain ⟨o, e, nt⟩ := J.ex b hb
      exact ⟨o, kp b o hw nt e, nt⟩
  · obtain ⟨qs, e1⟩ := J.tk b ps e
    exact tkk b qs e1
  · by_cases hw : F.W0 b
    · obtain ⟨o, e, _⟩ := ex b hw
      exact ⟨o, e⟩
    · obtain ⟨o, e⟩ := J.mt b hb
      by_cases hn : NT o
      · exact ⟨o, kp b o hw hn e⟩
      · obtain ⟨ps, rfl⟩ := tbl_of hn
        obtain ⟨qs, e⟩ := tkk b ps e
        exact ⟨_, e⟩
  · rcases get_set e1 with ⟨_, e, _⟩ | ⟨_, e1⟩
    · cases e
    · exact hb.elim (fun z => absurd ⟨j, zs, e1, z ▸ e2⟩ hma) (J.mx j zs b e1 e2)
end
def QKF (P : List PyData → Nat → Prop) : Out → Prop
  | .rf xs δ => ∃ n, δ[0]? = some (some (E.k n)) ∧ P xs n
  | .rm i δ => ∃ n xs, δ[0]? = some (some (E.k n)) ∧ δ[i]? = some (some (E.m xs)) ∧ P xs n
  | _ => False
theorem body_KF {K : PySem.W.Frag} {cs : List Addr} {C : CtKF} {t : TS} {N : List Str} {vs : List V} {H : Hp} {Q : VK} {E' : XK} (hs : ∀ n xs P, C n xs P → SD ⟨K, cs, [0]⟩ t (envK N n xs) (QKF P)) (h : spKF K cs C vs H Q E') :
    t { nx := fun _ H' => Q .non H', rt := Q } (L2.start N vs) H := by
  obtain ⟨a, vs', n, xs, P, X0, W, rfl, dk, hW, r, c, ex, tb, k⟩ := h
  have sd := hs n xs P c
  have len := r.len
  have noM : ∀ {i : Nat} {ys : List PyData}, (envK N n xs)[i]? ≠ some (some (E.m ys)) := fun {i ys} e => by
    unfold envK at e
    cases i with
    | zero => cases e
    | succ i =>
      rw [List.getElem?_cons_succ] at e
      by_cases hi : i < (xs.map fun x => some (E.d x)).length
      · rw [List.getElem?_append_left hi, List.getElem?_map] at e
        cases q : xs[i]? with
        | none => rw [q] at e; cases e
        | some x => rw [q] at e; cases e
      · rw [List.getElem?_append_right (by omega), List.getElem?_replicate] at e
        split at e <;> cases e
  have isK : ∀ {i m : Nat}, (envK N n xs)[i]? = some (some (E.k m)) → i = 0 ∧ m = n := fun {i m} e => by
    unfold envK at e
    cases i with
    | zero => cases e; exact ⟨rfl, rfl⟩
    | succ i =>
      rw [List.getElem?_cons_succ] at e
      by_cases hi : i < (xs.map fun x => some (E.d x)).length
      · rw [List.getElem?_append_left hi, List.getElem?_map] at e
        cases q : xs[i]? with
        | none => rw [q] at e; cases e
        | some x => rw [q] at e; cases e
      · rw [List.getElem?_append_right (by omega), List.getElem?_replicate] at e
        split at e <;> cases e
  have noE : ∀ {i : Nat} {m : Addr}, (envK N n xs)[i]? = some (some (E.err m)) → False := fun {i m} e => by
    unfold envK at e
    cases i with
    | zero => cases e
    | succ i =>
      rw [List.getElem?_cons_succ] at e
      by_cases hi : i < (xs.map fun x => some (E.d x)).length
      · rw [List.getElem?_append_left hi, List.getElem?_map] at e
        cases q : xs[i]? with
        | none => rw [q] at e; cases e
        | some x => rw [q] at e; cases e
      · rw [List.getElem?_append_right (by omega), List.getElem?_replicate] at e
        split at e <;> cases e
  have s0 : (L2.start N (V.ref a :: vs'))[0]? = some (some (V.ref a)) := rfl
  have g0 : Gr (del H X0) (del H fun b => MA (envK N n xs) (L2.start N (V.ref a :: vs')) b ∨ X0 b) := gr_del fun b u nt hb e => ⟨fun z => hb (z.elim (fun ⟨i, ys, h1, _⟩ => absurd h1 noM) id), e⟩
  have I : EI ⟨K, cs, [0]⟩ ⟨H, fun _ => False, X0, L2.start N (V.ref a :: vs'), W⟩ (envK N n xs) (L2.start N (V.ref a :: vs')) H := by
    refine ⟨?_, fun i e h => ?_, fun i j ys zs b h1 => absurd h1 noM, fun b ⟨i, ys, h1, _⟩ => absurd h1 noM, fun b o _ _ _ e => e, ex, fun i hi => rfl, tb, fun b ps e => ⟨ps, e⟩, fun b hb => hb.elim, fun i ys b h1 => absurd h1 noM, fun b w => ⟨hW b w, fun ⟨i, ys, h1, _⟩ => absurd h1 noM⟩, fun i j m l h1 h2 => by rw [(isK h1).1, (isK h2).1]⟩
    · unfold envK L2.start
      simp only [List.length_append, List.length_map, List.length_replicate, List.length_cons, len]
      omega
    · cases e with
      | m ys => exact absurd h noM
      | err D => exact (noE h).elim
      | k m =>
        obtain ⟨rfl, rfl⟩ := isK h
        exact ⟨_, s0, a, rfl, dk⟩
      | d x =>
        unfold envK at h
        cases i with
        | zero => cases h
        | succ i =>
          rw [List.getElem?_cons_succ] at h
          by_cases hi : i < (xs.map fun x => some (E.d x)).length
          · rw [List.getElem?_append_left hi, List.getElem?_map] at h
            cases q : xs[i]? with
            | none => rw [q] at h; cases h
            | some y =>
              rw [q] at h
              cases h
              obtain ⟨v, h1, h2⟩ := r.get q
              refine ⟨v, ?_, h2.gr g0⟩
              unfold L2.start
              have hi2 : i < vs'.length := (List.getElem?_eq_some_iff.mp h1).1
              rw [List.getElem?_append_left (by rw [List.length_map, List.length_cons]; omega), List.getElem?_map, List.getElem?_cons_succ, h1]
              rfl
          · rw [List.getElem?_append_right (by omega), List.getElem?_replicate] at h
            split at h <;> cases h
  have fin : ∀ {δ' : DEnv} {σ' : L2.St} {H' : Hp} {ds : List PyData} {D : Addr} {m : Nat}, δ'[0]? = some (some (E.k m)) → P ds m → New ⟨K, cs, [0]⟩ ⟨H, fun _ => False, X0, L2.start N (V.ref a :: vs'), W⟩ δ' σ' H' D ds → Q (.ref D) H' := fun {δ' σ' H' ds D m} h0 p N => by
    obtain ⟨J, nm, nx, n0, _, nW, ws, hD, rd⟩ := N
    obtain ⟨w, e1, b, e2, dk'⟩ := J.slot 0 _ h0
    have e5 : σ'[0]? = (L2.start N (V.ref a :: vs'))[0]? := J.pin 0 (by simp)
    rw [e1, s0] at e5
    cases e5
    cases e2
    exact k ds D ws H' m p n0 hD dk' (RpL.gr (gr_del fun b u n hb e => ⟨fun z => hb (z.elim (fun q => .inr (.inl q)) fun q => .inr (.inr q)), e⟩) rd) (fun b o hb n e => J.keep b o n (fun z => z) hb e) (fun b w => J.ex b (.inr (hW b w))) J.tk J.tab
  refine sd _ _ _ _ I fun o q => ?_
  cases o with
  | nx δ' => exact q.elim
  | rt d δ' => exact q.elim
  | bk δ' => exact q.elim
  | r2 i j δ' => exact q.elim
  | ct δ' => exact q.elim
  | rf xs δ' => obtain ⟨us, h0, p⟩ := q; exact fun σ' H' p' N => fin h0 p N
  | rm i δ' =>
    obtain ⟨us, xs, h0, hi, p⟩ := q
    intro σ' H' b J hb
    have hi0 : i ≠ 0 := fun z => by rw [z, h0] at hi; cases hi
    exact fin (by rw [List.getElem?_set_ne hi0]; exact h0) p (J.release hi hb (fun z => z))

end DX


set_option Elab.async false
set_option linter.all false
set_option maxRecDepth 100000
set_option maxHeartbeats 1000000
namespace DX
open PySem PySem.Spec PyProof.Rows L2 GxR GA
/-! ### xs[::-1]; nests that are small, by their weight -/
theorem rpl_rev {K : PySem.W.Frag} {H : Hp} : ∀ {xs : List PyData} {vs : List V}, RpL K H xs vs → RpL K H xs.reverse vs.reverse
  | _, _, .nil => .nil
  | _, _, .cons (x := x) (v := v) r rs => by
    rw [List.reverse_cons, List.reverse_cons]
    exact (rpl_rev rs).app (.cons r .nil)
section
variable {G : Gx} {δ : DEnv} {ta : TE} {QF : List PyData → DEnv → Prop}
theorem ef_rev (h : ED G ta δ fun x δ1 => ∃ xs, x = .list xs ∧ QF xs.reverse δ1) : EF G (tRevL G.K ta) δ QF := fun F σ H R I k =>
  h F σ H _ I fun x v δ1 H1 ⟨xs, e, q⟩ J r1 => by
    subst e
    cases r1 with
    | lst h1 r3 => exact ⟨_, _, rfl, SqL.of (del_some.mp h1).2, fun p hp => k _ p δ1 _ q (New.mk_ J hp (rpl_rev r3))⟩
end
/-- a nest: no dicts, at most n deep, of a weight below W, short leaves -/
structure Sml (W n : Nat) (x : PyData) : Prop where
  nd : noDct x = true
  lay : x.canLay0 = true
  dep : x.depth ≤ n
  sh : x.showable = true
  lv : x.leavesShort 13 = true
  wt : x.weight + 1 ≤ W
structure SmlAll (W n : Nat) (xs : List PyData) : Prop where
  nd : noDctL xs = true
  lay : PyData.canLayAll0 xs = true
  dep : PyData.depthAll xs ≤ n
  sh : PyData.showableAll xs = true
  lv : PyData.leavesShortAll 13 xs = true
  wt : PyData.weightAll xs ≤ xs.length * W
theorem smlAll_of {W n : Nat} : ∀ {xs : List PyData}, (∀ x ∈ xs, Sml W n x) → SmlAll W n xs
  | [], _ => ⟨rfl, rfl, Nat.zero_le _, rfl, rfl, Nat.zero_le _⟩
  | x :: xs, h => by
    have a := h x (by simp)
    have b := smlAll_of fun y hy => h y (List.mem_cons_of_mem _ hy)
    refine ⟨by simp [noDctL, a.nd, b.nd], by simp [PyData.canLayAll0, a.lay, b.lay], by have := a.dep; have := b.dep; simp [PyData.depthAll]; omega, by simp [PyData.showableAll, a.sh, b.sh], by simp [PyData.leavesShortAll, a.lv, b.lv], ?_⟩
    have h1 := a.wt
    have h2 := b.wt
    rw [PyData.weightAll, List.length_cons, Nat.succ_mul]
    omega
theorem sml_int {i : Int} (h : i.natAbs < 100000000000) : Sml 42 0 (.int i) := by
  have h2 : i.natAbs.log2 < 37 := PySem.Flt.log2_lt_of (by decide) (Nat.lt_of_lt_of_le h (by decide))
  have h3 : (PyData.shown (.int i)).length ≤ 13 := by
    have h1 := int_text_length_le10 (a := i) (k := 11) (by decide) h
    have e : (PyData.shown (.int i)).length = (toString i).length := by
      rw [PyData.shown]
      exact PySem.ofString_length _
    rw [e]
    omega
  refine ⟨rfl, rfl, by simp [PyData.depth], by simp [PyData.showable]; omega, by simp only [PyData.leavesShort]; exact decide_eq_true h3, ?_⟩
  simp only [PyData.weight]
  split <;> omega
theorem sml_none : Sml 42 0 .none := by
  refine ⟨rfl, rfl, by simp [PyData.depth], rfl, rfl, ?_⟩
  simp [PyData.weight]
theorem Sml.mono {W W' n n' : Nat} {x : PyData} (h : Sml W n x) (hw : W ≤ W') (hn : n ≤ n') : Sml W' n' x := ⟨h.nd, h.lay, Nat.le_trans h.dep hn, h.sh, h.lv, Nat.le_trans h.wt hw⟩
theorem sml_list {W n L : Nat} {xs : List PyData} (hl : xs.length ≤ L) (h : ∀ x ∈ xs, Sml W n x) : Sml (L * W + 1) (n + 1) (.list xs) := by
  have a := smlAll_of h
  have w : PyData.weightAll xs + 1 ≤ L * W + 1 := by
    have := a.wt
    have m : xs.length * W ≤ L * W := Nat.mul_le_mul_right _ hl
    omega
  have d := a.dep
  exact ⟨a.nd, by simpa [PyData.canLay0] using a.lay, by simp [PyData.depth]; omega, by simpa [PyData.showable] using a.sh, by simpa [PyData.leavesShort] using a.lv, by simpa [PyData.weight] using w⟩
theorem sml_tup {W n L : Nat} {xs : List PyData} (hl : xs.length ≤ L) (h : ∀ x ∈ xs, Sml W n x) : Sml (L * W + 1) (n + 1) (.tuple xs) := by
  have a := sml_list hl h
  exact ⟨a.nd, by simpa [PyData.canLay0] using a.lay, by simpa [PyData.depth] using a.dep, by simpa [PyData.showable] using a.sh, by simpa [PyData.leavesShort] using a.lv, by simpa [PyData.weight] using a.wt⟩
theorem Sml.eqOk {W n : Nat} {x : PyData} (h : Sml W n x) (hn : n ≤ 64) : EqOk x := ⟨h.nd, by
  unfold SeqAt.shaped
  rw [h.lay, decide_eq_true (Nat.le_trans h.dep hn)]
  rfl⟩
theorem Sml.fits {W n : Nat} {x : PyData} (h : Sml W n x) (hW : W ≤ 1048576) : x.shown.length ≤ sizeLine := by
  refine PyData.shown_fits (B := 13) (by decide) (by decide) h.lv ?_
  have := h.wt
  have e : 2 ^ 20 = 1048576 := by decide
  omega
end DX


set_option Elab.async false
set_option linter.all false
set_option maxRecDepth 100000
set_option maxHeartbeats 1000000
/-! DX36: tuple of a list; count and index of a list of truths; small data with empty dicts -/
namespace DX
open PySem PySem.Spec PyProof.Rows L2 GxR GA
open Classical
/-! ### tuple(xs) -/
def rTup1 (K : PySem.W.Frag) : List V → Hp → VK → Prop := fun xs H Q => ∃ p ys, xs = [.ref p] ∧ ((SqL K H p ys ∧ ∀ l, H l = none → Q (.ref l) (upd H l (.tup ys))) ∨ (SqT K H p ys ∧ Q (.ref p) H))
theorem c_tup1 {X : Cx} : CallR X (.type "tuple") (rTup1 X.K) := call_tuple_of
section
variable {G : Gx} {δ : DEnv} {tr : TA} {te tf : TE} {Q : PyData → DEnv → Prop}
theorem ed_tup1 (h : EA G tr δ fun as δ1 => ∃ xs, allD as = some [.list xs] ∧ Q (.tuple xs) δ1) : ED G (tCB (rTup1 G.K) tr) δ Q := fun F σ H R I k =>
  h F σ H _ I fun as vs δ1 H1 ⟨xs, e, q⟩ J r1 => by
    have r2 := allD_ok e r1
    cases r2 with
    | cons r3 r4 =>
      cases r4
      cases r3 with
      | lst h1 r5 =>
        rename_i ax ws
        refine ⟨_, _, rfl, .inl ⟨SqL.of (del_some.mp h1).2, fun l hl => ?_⟩⟩
        have J2 := J.laid hl (nt_tup ws)
        obtain ⟨_, _, hX, hm⟩ := J.fresh hl
        exact k _ _ δ1 _ q J2 (.tup (.inl (.inl (del_some.mpr ⟨fun z => z.elim hm hX, upd_same⟩))) (RpL.gr (gr_laid hl) r5))
end
/-! ### xs.count(x), xs.index(x), truths -/
def rCntF (K : PySem.W.Frag) : V → List V → Hp → VK → Prop := fun x xs H Q => ∃ (a : Addr) (ys : List V) (y : V), x = V.ref a ∧ xs = [y] ∧ SqL K H a ys ∧ flatV y = true ∧ ys.all flatV = true ∧ Q (.int (ys.countP fun z => eqV z y : Nat)) H
theorem countP_flat {y : V} : ∀ {ys : List V} {us : List Value}, Vals ys us → ys.all flatV = true → us.countP (eqU y) = ys.countP fun z => eqV z y
  | [], _, .nil, _ => rfl
  | z :: zs, _, .cons r t, f => by
    have f' : (flatV z && zs.all flatV) = true := f
    rw [Bool.and_eq_true] at f'
    rw [List.countP_cons, List.countP_cons, countP_flat t f'.2, eqU_of r f'.1]
theorem mt_countF {X : Cx} : MtR X "list.count" (rCntF X.K) := by
  intro pins s σ H x xs v us Q I rx rxs h
  obtain ⟨a, ys, y, rfl, rfl, hs, fy, fys, q⟩ := h
  cases rx
  obtain ⟨u, rfl, ry⟩ := rxs.one
  obtain ⟨its, rv, ⟨⟨cls, dd, data, sl⟩, n, ho, hc, hdn, hd⟩, hlen⟩ := I.list hs
  simp only at hc hd
  subst hc hd
  refine call_meets PySem.F.slot_list_count ⟨_, ho, rfl⟩ PySem.F.entry_list_count (PySem.F.args_list_count_2 _ _)
    (SeqAt.list_countAt a its.toArray n dd sl u (eqU y)) ⟨ho, fun u' hu' => mem_eqAt ry fy rv fys u' (by simpa using hu'), ?_⟩
  have ec : its.toArray.toList.countP (eqU y) = ys.countP fun z => eqV z y := countP_flat rv fys
  refine ⟨.int (ys.countP fun z => eqV z y : Nat), H, I.tok _, ⟨s.toks, ?_⟩, q⟩
  show Value.int ((its.toArray.toList.countP (eqU y) : Nat) : Int) s.toks = Value.int _ s.toks
  rw [ec]
section
variable {G : Gx} {δ : DEnv} {te tf : TE} {Q : PyData → DEnv → Prop}
theorem flat_bools (bs : List Bool) : (bs.map V.bl).all flatV = true := by
  rw [List.all_eq_true]
  intro x hx
  obtain ⟨b, _, rfl⟩ := List.mem_map.mp hx
  rfl
theorem eqV_bl (a b : Bool) : eqV (.bl a) (.bl b) = (a == b) := by cases a <;> cases b <;> rfl
theorem ed_cntB (h : ED G te δ fun x δ1 => ∃ bs : List Bool, x = .list (bs.map PyData.bool) ∧ Q (.int (bs.count true : Nat)) δ1) : ED G (tBM G.K "list" (rCntF G.K) te (tCons (tC (.bl true)) tNil)) δ Q := fun F σ H R I k =>
  h.go I fun x v δ1 H1 ⟨bs, e, q⟩ s r => by
    subst e
    cases r with
    | lst h1 r3 =>
      have e2 := rp_bools r3
      subst e2
      have hs : SqL G.K H1 _ (bs.map V.bl) := SqL.of (del_some.mp h1).2
      refine ⟨.inl ⟨rfl, _, hs⟩, ⟨_, _, _, rfl, rfl, hs, rfl, flat_bools bs, ?_⟩⟩
      have e3 : (bs.map V.bl).countP (fun z => eqV z (.bl true)) = bs.count true := by
        rw [List.countP_map]
        unfold List.count
        congr 1
      rw [e3]
      exact k _ _ δ1 H1 q s.ei (.int _)
theorem ed_idxB (h : ED G te δ fun x δ1 => ∃ (bs : List Bool) (j : Nat), x = .list (bs.map PyData.bool) ∧ bs[j]? = some true ∧ (∀ m, m < j → bs[m]? = some false) ∧ Q (.int (j : Nat)) δ1) : ED G (tBM G.K "list" (rIndex G.K) te (tCons (tC (.bl true)) tNil)) δ Q := fun F σ H R I k =>
  h.go I fun x v δ1 H1 ⟨bs, j, e, hj, hm, q⟩ s r => by
    subst e
    cases r with
    | lst h1 r3 =>
      have e2 := rp_bools r3
      subst e2
      have hs : SqL G.K H1 _ (bs.map V.bl) := SqL.of (del_some.mp h1).2
      refine ⟨.inl ⟨rfl, _, hs⟩, ⟨_, _, _, j, .bl true, rfl, rfl, hs, rfl, flat_bools bs, by rw [List.getElem?_map, hj]; rfl, rfl, fun m z hmj hz => ?_, k _ _ δ1 H1 q s.ei (.int _)⟩⟩
      rw [List.getElem?_map, hm m hmj] at hz
      cases hz
      rfl
end
/-! ### small data -/
structure Smk (W n : Nat) (x : PyData) : Prop where
  ok : okD x = true
  dep : x.depth ≤ n
  sh : x.showable = true
  lv : x.leavesShort 13 = true
  wt : x.weight + 1 ≤ W
structure SmkAll (W n : Nat) (xs : List PyData) : Prop where
  ok : okDL xs = true
  dep : PyData.depthAll xs ≤ n
  sh : PyData.showableAll xs = true
  lv : PyData.leavesShortAll 13 xs = true
  wt : PyData.weightAll xs ≤ xs.length * W
theorem smkAll_of {W n : Nat} : ∀ {xs : List PyData}, (∀ x ∈ xs, Smk W n x) → SmkAll W n xs
  | [], _ => ⟨rfl, Nat.zero_le _, rfl, rfl, Nat.zero_le _⟩
  | x :: xs, h => by
    have a := h x (by simp)
    have b := smkAll_of fun y hy => h y (List.mem_cons_of_mem _ hy)
    refine ⟨by simp [okDL, a.ok, b.ok], by have := a.dep; have := b.dep; simp [PyData.depthAll]; omega, by simp [PyData.showableAll, a.sh, b.sh], by simp [PyData.leavesShortAll, a.lv, b.lv], ?_⟩
    have h1 := a.wt
    have h2 := b.wt
    rw [PyData.weightAll, List.length_cons, Nat.succ_mul]
    omega
theorem smk_int {i : Int} (h : i.natAbs < 100000000000) : Smk 42 0 (.int i) := by
  have s := sml_int h
  exact ⟨rfl, s.dep, s.sh, s.lv, s.wt⟩
theorem smk_none : Smk 42 0 .none := by
  have s := sml_none
  exact ⟨rfl, s.dep, s.sh, s.lv, s.wt⟩
theorem smk_bool (b : Bool) : Smk 42 0 (.bool b) := by
  refine ⟨rfl, by simp [PyData.depth], rfl, ?_, ?_⟩
  · cases b <;> (simp only [PyData.leavesShort] <;> decide)
  · cases b <;> (simp only [PyData.weight] <;> decide)
theorem Smk.mono {W W' n n' : Nat} {x : PyData} (h : Smk W n x) (hw : W ≤ W') (hn : n ≤ n') : Smk W' n' x := ⟨h.ok, Nat.le_trans h.dep hn, h.sh, h.lv, Nat.le_trans h.wt hw⟩
theorem smk_list {W n L : Nat} {xs : List PyData} (hl : xs.length ≤ L) (h : ∀ x ∈ xs, Smk W n x) : Smk (L * W + 1) (n + 1) (.list xs) := by
  have a := smkAll_of h
  have w : PyData.weightAll xs + 1 ≤ L * W + 1 := by
    have := a.wt
    have m : xs.length * W ≤ L * W := Nat.mul_le_mul_right _ hl
    omega
  have d := a.dep
  exact ⟨by simpa [okD] using a.ok, by simp [PyData.depth]; omega, by simpa [PyData.showable] using a.sh, by simpa [PyData.leavesShort] using a.lv, by simpa [PyData.weight] using w⟩
theorem smk_tup {W n L : Nat} {xs : List PyData} (hl : xs.length ≤ L) (h : ∀ x ∈ xs, Smk W n x) : Smk (L * W + 1) (n + 1) (.tuple xs) := by
  have a := smk_list hl h
  exact ⟨by simpa [okD] using a.ok, by simpa [PyData.depth] using a.dep, by simpa [PyData.showable] using a.sh, by simpa [PyData.leavesShort] using a.lv, by simpa [PyData.weight] using a.wt⟩
theorem smk_dict : Smk 42 1 (.dict []) := by
  refine ⟨rfl, by simp [PyData.depth, PyData.depthKv], rfl, ?_, ?_⟩
  · simp [PyData.leavesShort, PyData.leavesShortKv]
  · simp [PyData.weight, PyData.weightKv]
theorem smk_str {x : Str} (h : (PyData.str x).leavesShort 13 = true) (h2 : (PyData.str x).weight + 1 ≤ 42) : Smk 42 0 (.str x) :=
  ⟨rfl, by simp [PyData.depth], rfl, h, h2⟩
theorem smk_market : Smk 42 0 (.str "market") := smk_str (by decide +kernel) (by decide +kernel)
theorem smk_prices : Smk 42 0 (.str "prices") := smk_str (by decide +kernel) (by decide +kernel)
theorem smk_0 : Smk 42 0 (.str "0") := smk_str (by decide +kernel) (by decide +kernel)
theorem smk_7 : Smk 42 0 (.str "7") := smk_str (by decide +kernel) (by decide +kernel)
theorem Smk.fits {W n : Nat} {x : PyData} (h : Smk W n x) (hW : W ≤ 1048576) : x.shown.length ≤ sizeLine := by
  refine PyData.shown_fits (B := 13) (by decide) (by decide) h.lv ?_
  have := h.wt
  have e : 2 ^ 20 = 1048576 := by decide
  omega
end DX
namespace DX
open PySem PySem.Spec PyProof.Rows L2 GxR GA
section
variable {G : Gx} {δ : DEnv} {Q : PyData → DEnv → Prop}
theorem ed_dnew (q : Q (.dict []) δ) : ED G tDNewK δ Q := fun F σ H R I k => fun p hp => by
  have J2 := I.laid hp (nt_dK [])
  obtain ⟨_, _, hX, hm⟩ := I.fresh hp
  exact k _ _ δ _ q J2 (.dct (del_some.mpr ⟨fun z => z.elim hm hX, upd_same⟩))
end
end DX


set_option Elab.async false
set_option linter.all false
set_option maxRecDepth 100000
set_option maxHeartbeats 1000000
/-! DX37: f(e, .., k = v, ..), where what is raised is wished for at the caller's slots -/
namespace DX
open PySem PySem.Spec PyProof.Rows L2 GxR GA
section
variable {X : Cx} {CX : CXT} {k n : Nat} {f : Addr} {fd : FuncData} {ps ks : List Str} {sp : Sp} {g : List Value → List Value → List Value} {gV : List V → List V → List V} {E : L2.St → XK} {x : Str} {p pos : Pos} {e : Expr} {es : List Expr} {kws : List Keyword} {t tk : TA}
theorem pe_callNS (F : FnOk X.prog X.w X.K X.mg X.base CX k f fd ps sp) (hr : Room k X.A) (hg : Gl X x) (hm : X.mg x = some (.ref f)) (hk : PySem.W.keepIn X.K (.ref f) = true) (hb : KBn X.K fd ps n ks g gV) (hx : ∀ σ, PassesAt CX X σ (E σ))
    (ha : PA X (e :: es) t) (hkw : PK X kws tk) (hall : (backToKw pos (keywordEach kws X.env)).all (·.1.isSome) = true := by rfl) (hks : (backToKw pos (keywordEach kws X.env)).filterMap (·.1) = ks := by rfl)
    (hdb : (x == ("__debug__" : Str)) = false := by decide) (he : starEach (e :: es) X.env = (false, eval e X.env) :: starEach es X.env := by rfl)
    (hpl : ((backTo pos (starEach (e :: es) X.env)).any (·.1) || (backToKw pos (keywordEach kws X.env)).any (·.1.isNone)) = false := by rfl) :
    PE X (.Call (.Name x p) (e :: es) kws pos) (tCallNS n ks.length sp gV E t tk) := by
  refine ⟨fun pins s σ H Q I h => ?_⟩
  refine wpAny_Call_Name_kw (ld_glob I hg hm ?_ hdb)
  refine PySem.W.callWith_KW (h₀ := X.base) I.ok.mod.kin hk hall (thn (ha.run pos pins s σ H _ I h) fun us s1 ⟨vs, H1, I1, r, q⟩ => ?_) hpl he
  refine thn (hkw.run pos pins s1 σ H1 _ I1 q) fun ws s2 ⟨zs, H2, I2, rz, l1, l2, q2⟩ => ⟨I2.kIn, ?_⟩
  rw [hks]
  have r2 := hb.rel r rz
  refine wpAny_call (codeAny_mono (F.run X.A X.stack s2 H2 ⟨us, ks.zip ws⟩ (g us ws) (gV vs zs) Q (E σ) hr I2.env0 (hb.to s2 us ws I2.kIn (r.length.symm.trans l1) (rz.length.symm.trans l2)) r2 q2) fun r s' hq => ?_)
  cases r with
  | error e => exact hx σ pins H2 s2 e s' I2 hq
  | ok fl =>
    cases fl with
    | ret u => exact I2.after hq
    | next => exact False.elim hq
    | brk => exact False.elim hq
    | cont => exact False.elim hq
end
end DX


set_option Elab.async false
set_option linter.all false
set_option maxRecDepth 100000
set_option maxHeartbeats 2000000
/-! sum(elt for target in iter), the elts ints -/
namespace GUT
open PySem PySem.Spec PyProof.Rows L2 GxR GA
open GU (So EndS repin)
section
variable {X : Cx} {pins : List (Addr × Obj)} {σ : L2.St} {H : Hp} {s : Shared}
/-- what is wanted of the invariant W: n turns, each gives val i -/
structure Plan (J : It) (g : TG) (tt : TT) (te : TE) (vs : List Nat) (σ : L2.St) (n : Nat) (b : Nat → Bool) (val : Nat → Int) (W : Nat → Hp → Prop) (Q : Hp → Prop) : Prop where
  turn : ∀ i H, i < n → W i H → J.go i H ∧ ∀ x H', J.yld i H x H' → g x (wipe σ vs) H' fun σ2 H3 => wipe σ2 vs = wipe σ vs ∧ tt σ2 H3 fun bb H4 => bb = b i ∧ if b i = true then te σ2 H4 fun y H5 => y = .int (val i) ∧ W (i + 1) H5 else W (i + 1) H4
  fin : ∀ H, W n H → J.stop n H ∧ Q H
/-- how many of the last k items pass -/
def cn (b : Nat → Bool) (N : Nat) : Nat → Nat
  | 0 => 0
  | k + 1 => cn b N k + if b (N - (k + 1)) = true then 1 else 0
theorem cn_mono {b : Nat → Bool} {N : Nat} : ∀ (d j : Nat), cn b N j ≤ cn b N (j + d)
  | 0, _ => Nat.le_refl _
  | d + 1, j => Nat.le_trans (cn_mono d j) (Nat.le_add_right _ _)
theorem cn_run {b : Nat → Bool} {val : Nat → Int} {N : Nat} (hz : ∀ i, i < N → b i = false → val i = 0) : ∀ (d j : Nat), j + d ≤ N → cn b N (j + d) = cn b N j → preSum val (N - (j + d)) = preSum val (N - j)
  | 0, _, _, _ => rfl
  | d + 1, j, hj, h => by
    have m : cn b N j ≤ cn b N (j + d) := cn_mono d j
    have h : cn b N (j + d) + (if b (N - (j + d + 1)) = true then 1 else 0) = cn b N j := h
    by_cases hb : b (N - (j + d + 1)) = true
    · rw [if_pos hb] at h; omega
    · rw [if_neg hb] at h
      have ih := cn_run hz d j (by omega) (by omega)
      have e : N - (j + d) = N - (j + (d + 1)) + 1 := by omega
      have z := hz (N - (j + (d + 1))) (by omega) (by rw [show N - (j + (d + 1)) = N - (j + d + 1) by omega]; simpa using hb)
      rw [← ih, e]
      show _ = preSum val (N - (j + (d + 1))) + val (N - (j + (d + 1)))
      rw [z, Int.add_zero]
def YldT (X' : Cx) (pin : Addr × Obj) (S : Addr) (fp : List Addr) (τ : L2.St) (N : Nat) (b : Nat → Bool) (val : Nat → Int) (W : Nat → Hp → Prop) : Protocol := fun m _ v s kap =>
  ∃ k, k < N ∧ cn b N k = m ∧ b (N - (k + 1)) = true ∧ ∃ o H' tok, So val (N - k - 1) o ∧ v = .int (val (N - k - 1)) tok ∧ Inv X' [pin, (S, o)] τ H' s ∧ W (N - k) H' ∧
    ∀ (o2 : Obj) (t : Shared), So val (N - k) o2 → Inv X' [pin, (S, o2)] τ H' t → (∀ b ∈ fp, ∀ u, s.heap.get? b = some u → t.heap.get? b = some u) → kap (.send .none) t
theorem gen_loopT {A : Around} {elt tg iter ts : Expr} {scope : Scope} {pos : Pos} {it a S : Addr} {og : Obj} {fp : List Addr} {tn : Nat → Heap → Prop} {J : It} {g : TG} {tt : TT} {te : TE} {vs : List Nat} {N : Nat} {b : Nat → Bool} {val : Nat → Int} {W : Nat → Hp → Prop} {Q : Hp → Prop} {ce : Env} {s0 : Shared} {H0 : Hp}
    (hA : A.handled = none) (hc : X.calm = true) (hco : ce.scope.isCoroutine = false) (T : Turn X.prog X.w X.K tg J fp it tn) (P : Plan J g tt te vs σ N b val W Q) (hz : ∀ i, i < N → b i = false → val i = 0)
    (pg : PG (gcx X s0 H0 ce (A.over (.compLoop (.GeneratorExp elt [⟨tg, iter, [ts], 0⟩] scope pos) 0 (.ref it) .none ce) []) fp) tg g)
    (pe : PE (gcx X s0 H0 ce (A.over (.compLoop (.GeneratorExp elt [⟨tg, iter, [ts], 0⟩] scope pos) 0 (.ref it) .none ce) []) fp) elt te)
    (pt : PT (gcx X s0 H0 ce (A.over (.compLoop (.GeneratorExp elt [⟨tg, iter, [ts], 0⟩] scope pos) 0 (.ref it) .none ce) []) fp) ts tt) (hap : a ∉ fp) (hSp : S ∉ fp) :
    ∀ (k i : Nat) (o : Obj) (z0 s : Shared) (H : Hp), N - i = k → i ≤ N → So val i o → Inv (gcx X s0 H0 ce (A.over (.compLoop (.GeneratorExp elt [⟨tg, iter, [ts], 0⟩] scope pos) 0 (.ref it) .none ce) []) fp) [(a, og), (S, o)] (wipe σ vs) H s →
      tn i s.heap → (∀ b ∈ fp, H b = none) → W i H →
      Seg (model X.prog X.w) A (fun n z r z1 => r = .ok .next ∧ EndS (gcx X s0 H0 ce (A.over (.compLoop (.GeneratorExp elt [⟨tg, iter, [ts], 0⟩] scope pos) 0 (.ref it) .none ce) []) fp) (a, og) S val N (wipe σ vs) Q n z z1)
        (YldT (gcx X s0 H0 ce (A.over (.compLoop (.GeneratorExp elt [⟨tg, iter, [ts], 0⟩] scope pos) 0 (.ref it) .none ce) []) fp) (a, og) S fp (wipe σ vs) N b val W) (cn b N k) z0
        (.compLoop (.GeneratorExp elt [⟨tg, iter, [ts], 0⟩] scope pos) 0 (.ref it) .none ce)
        ((model X.prog X.w).den (.compLoop (.GeneratorExp elt [⟨tg, iter, [ts], 0⟩] scope pos) 0 (.ref it) .none ce)) [] s := by
  generalize hA' : A.over (.compLoop (.GeneratorExp elt [⟨tg, iter, [ts], 0⟩] scope pos) 0 (.ref it) .none ce) [] = A'
  rw [hA'] at pg pe pt
  have stat : ∀ {o : Obj} {σ' : L2.St} {H' : Hp} {s' : Shared}, Inv (gcx X s0 H0 ce A' fp) [(a, og), (S, o)] σ' H' s' → (∀ b ∈ fp, H' b = none) → ∀ b ∈ fp, FpOk (gcx X s0 H0 ce A' fp) [(a, og), (S, o)] H' b := fun {o σ' H' s'} I' hn b hb =>
    ⟨hn b hb, (I'.ok.exf b hb).1, I'.ok.exfs b hb, .inl hb, fun x c e => (I'.ok.exf b hb).2 x c e, fun p hp => by
      have hp : p ∈ ([] : List (Addr × Obj)) ++ [(a, og), (S, o)] := hp
      have e : p = (a, og) ∨ p = (S, o) := by simpa using hp
      rcases e with e | e
      · rw [e]
        exact fun z => hap (by rw [show a = b from z]; exact hb)
      · rw [e]
        exact fun z => hSp (by rw [show S = b from z]; exact hb)⟩
  intro k
  induction k with
  | zero =>
    intro i o z0 s H hk hi so I st n w
    have e : i = N := by omega
    subst e
    obtain ⟨stop, qq⟩ := P.fin H w
    show Seg _ A _ _ _ z0 _ ((compTurn (.GeneratorExp elt [⟨tg, iter, [ts], 0⟩] scope pos) 0 (.ref it) .none ce).onRaise (leaving ce)) [] s
    rw [compTurn_gen, Sem.onRaise_eq_wrap]
    refine seg_bind_wrap (wpAny_standAt ?_)
    have td := T.done (gcx X s0 H0 ce A' fp) rfl rfl rfl hc i [(a, og), (S, o)] s _ H (fun _ _ => False) I (stat I n) st stop
    refine seg_bind_wrap ?_
    rw [hA']
    refine thnF td fun r s6 ⟨hr, I6⟩ => ?_
    subst hr
    exact seg_end (.ok .next) ⟨rfl, rfl, o, H, so, I6, qq⟩
  | succ k ih =>
    intro i o z0 s H hk hi so I st n w
    have hlt : i < N := by omega
    obtain ⟨go, step⟩ := P.turn i H hlt w
    show Seg _ A _ _ _ z0 _ ((compTurn (.GeneratorExp elt [⟨tg, iter, [ts], 0⟩] scope pos) 0 (.ref it) .none ce).onRaise (leaving ce)) [] s
    rw [compTurn_gen, Sem.onRaise_eq_wrap]
    refine seg_bind_wrap (wpAny_standAt ?_)
    have ti := T.item (gcx X s0 H0 ce A' fp) rfl rfl rfl hc i [(a, og), (S, o)] s _ H (fun _ _ => False) I (stat I n) st go
    refine seg_bind_wrap ?_
    rw [hA']
    refine thnF ti fun r s6 ⟨u, hr, h6⟩ => ?_
    subst hr
    refine seg_bind_wrap ?_
    rw [hA']
    refine thnF h6 fun _ s7 ⟨x, H7, I7, r7, y7, st7, n7⟩ => ?_
    have I7' := I7.pinned (stat I7 n7) (T.obj _ _ st7)
    refine seg_bind_wrap ?_
    rw [hA']
    refine thnF (pg.run _ s7 _ H7 x u _ I7' r7 (step x H7 y7)) fun _ s8 ⟨σ8, H8, I8, hw8, q8⟩ => ?_
    refine seg_bind_wrap ?_
    rw [hA']
    have ei : N - (k + 1) = i := by omega
    have hl : (wipe σ vs).length = σ8.length := by rw [← hw8, wipe_length]
    have ckk : cn b N (k + 1) = cn b N k + if b i = true then 1 else 0 := by rw [← ei]; rfl
    refine wpAny_tests_one (thnF (pt.run _ s8 σ8 H8 _ I8 q8) fun bb s9 ⟨H9, I9, ebb, nx9⟩ => ?_)
    subst ebb
    by_cases hb : b i = true
    · rw [hb]
      rw [if_pos hb] at nx9 ckk
      simp only [if_true]
      have hy : ∀ v, yieldOut ce v = yieldValue v := fun v => by simp only [yieldOut, hco, Bool.false_eq_true, if_false]
      simp only [hy]
      rw [Sem.bind_eq_wrap', Sem.bind_eq_wrap', Sem.wrap_wrap, Sem.wrap_wrap]
      refine seg_wrap ?_
      rw [hA']
      refine thnF (pe.run _ s9 σ8 H9 _ I9 nx9) fun z s10 ⟨yv, H10, I10, r10, hyb, nx⟩ => ?_
      subst hyb
      obtain ⟨tok, rfl⟩ : ∃ t, z = Value.int (val i) t := r10
      have pin' : ∀ b ∈ fp, ∀ o, s7.heap.get? b = some o → s10.heap.get? b = some o ∧ H10 b = none := fun b hb o e =>
        let z := I10.pin (b, o) (List.mem_append_right _ (List.mem_append_right _ (mem_pinsAt hb e)))
        ⟨z.1, z.2.1⟩
      have I11 : Inv (gcx X s0 H0 ce A' fp) [(a, og), (S, o)] (wipe σ vs) H10 s10 := (I10.unpinned (pins := [(a, og), (S, o)])).weak hl (fun j v e => by
        rw [← hw8] at e
        exact (wipe_some e).1)
      have e1 : N - k - 1 = i := by omega
      have e2 : N - k = i + 1 := by omega
      rw [ckk]
      refine seg_at (seg_yield rfl rfl rfl ⟨k, by omega, rfl, by rw [ei]; exact hb, o, H10, tok, by rw [e1]; exact so, by rw [e1], I11, by rw [e2]; exact nx, fun o2 t so2 It hfp => ?_⟩)
      rw [e2] at so2
      refine seg_again rfl (ih (i + 1) o2 t t H10 (by omega) hlt so2 It ?_ (fun b hb => ?_) nx)
      · refine T.keep _ _ _ st7 fun b hb o e => ?_
        exact hfp b hb o (pin' b hb o e).1
      · obtain ⟨o, e, _⟩ := T.obj _ _ st7 b hb
        exact (pin' b hb o e).2
    · have hbf : b i = false := by simpa using hb
      rw [hbf]
      rw [if_neg hb] at nx9 ckk
      simp only [Bool.false_eq_true, if_false]
      have pin' : ∀ b ∈ fp, ∀ o, s7.heap.get? b = some o → s9.heap.get? b = some o ∧ H9 b = none := fun b hb o e =>
        let z := I9.pin (b, o) (List.mem_append_right _ (List.mem_append_right _ (mem_pinsAt hb e)))
        ⟨z.1, z.2.1⟩
      have I11 : Inv (gcx X s0 H0 ce A' fp) [(a, og), (S, o)] (wipe σ vs) H9 s9 := (I9.unpinned (pins := [(a, og), (S, o)])).weak hl (fun j v e => by
        rw [← hw8] at e
        exact (wipe_some e).1)
      have so' : So val (i + 1) o := by
        obtain ⟨t, c, e⟩ := so
        refine ⟨t, c, e.trans ?_⟩
        show _ = ({ cls := .type "list", dict := none, data := .seq #[.int (preSum val i + val i) t] c, slots := #[] } : Obj)
        rw [hz i hlt hbf, Int.add_zero]
      rw [ckk, Nat.add_zero]
      refine seg_again rfl (ih (i + 1) o z0 s9 H9 (by omega) hlt so' I11 ?_ (fun b hb => ?_) nx9)
      · refine T.keep _ _ _ st7 fun b hb o e => ?_
        exact (pin' b hb o e).1
      · obtain ⟨o, e, _⟩ := T.obj _ _ st7 b hb
        exact (pin' b hb o e).2
/-! ### sum's own loop over it -/
def AtT (X' : Cx) (A : Around) (a S : Addr) (og : Obj) (gn : Nat) (fp : List Addr) (τ : L2.St) (N : Nat) (b : Nat → Bool) (val : Nat → Int) (W : Nat → Hp → Prop) (Q : Hp → Prop) (prog : Program) (w : World) (m : Nat) (s : Shared) : Prop :=
  ∃ k, k ≤ N ∧ cn b N k = m ∧ ∃ H o, So val (N - k) o ∧ Inv X' [(a, og), (S, o)] τ H s ∧ ∃ gs : GenState, s.gens[gn]? = some gs ∧ ∀ t : Shared, t.heap = s.heap → t.os = s.os → AllBare t.gens →
    gs.Goes (model prog w) A.in1 (fun n z r z1 => r = .ok .next ∧ EndS X' (a, og) S val N τ Q n z z1) (YldT X' (a, og) S fp τ N b val W) m (.send .none) t
theorem sum_loopT {X' : Cx} {a S : Addr} {og : Obj} {gn : Nat} {fp : List Addr} {τ : L2.St} {N : Nat} {b : Nat → Bool} {val : Nat → Int} {W : Nat → Hp → Prop} {Q : Hp → Prop} {R : Result → Shared → Prop} (hd : X.A.handled = none) (hroom : X.A.depth < recursionLimit)
    (hgen : ∀ h : Heap, h.get? a = some og → h.IsGen a gn) (hback : ∀ o H' s', Inv X' [(a, og), (S, o)] τ H' s' → Inv X pins σ H' s') (fS : ∀ H : Hp, H S = none → FpOk X' [(a, og)] H S) (hSp : S ∉ fp) (hfit : ∀ j, j < N → InLong (val j) ∧ InLong (preSum val (j + 1))) (hz : ∀ i, i < N → b i = false → val i = 0)
    (hR : ∀ t H' s', Inv X pins σ H' s' → Q H' → R (.ok (.ret (.int (preSum val N) t))) s') :
    ∀ (k : Nat) (s : Shared), AtT X' X.A.in1 a S og gn fp τ N b val W Q X.prog X.w k s → codeAny (model X.prog X.w) X.A (.builtin "sum.loop" ⟨[.ref a, .ref S, rawInt 0, rawInt 0], []⟩) R s := by
  intro k
  induction k with
  | zero =>
    rintro s ⟨k0, hk0, ck, H, o, so, I, gs, hgs, hgo⟩
    have eN : preSum val (N - k0) = preSum val N := by
      have := cn_run hz k0 0 (by omega) (by rw [Nat.zero_add]; exact ck)
      rw [Nat.zero_add, Nat.sub_zero] at this
      exact this
    have hg : s.heap.IsGen a gn := hgen _ (I.pin (a, og) (List.mem_append_right _ (by simp))).1
    have hS := (I.pin (S, o) (List.mem_append_right _ (by simp))).1
    obtain ⟨tA, c, rfl⟩ := so
    refine codeAny_builtin F.entry_sum_loop ?_
    rw [Around.under_plainId F.plain_sum_loop _]
    show wpAny _ X.A.in1 (seqItems? (.ref S) >>= _) _ _ s
    refine wpAny_bind (wpAny_seqItems hS rfl ?_)
    show wpAny _ X.A.in1 (tryCatch (pyNext (.ref a)) _ >>= _) _ _ s
    refine wpAny_bind (wpAny_tryCatch ?_)
    refine wpAny_pyNext_genexpQ (P := EndS X' (a, og) S val N τ Q) hd (hback _ _ _ I).nolimit hroom hg hgs (hgo _ rfl rfl (setGen_bare I.bare rfl)) (fun v s1 gs' hb hv => ?_) (fun s1 hp h' hk' => ?_)
    · obtain ⟨k', hk', ck', hb', o1, H', tok, so1, rfl, I1, _, q⟩ := hv
      have hS1 := (I1.pin (S, o1) (List.mem_append_right _ (by simp))).1
      obtain ⟨t1, c1, rfl⟩ := so1
      have I2 := repin (tk := s1.toks) I1 fS (fun b u hb e => (Heap.get?_update_other s1.heap (fun _ => { cls := .type "list", dict := none, data := .seq #[.int (preSum val (N - k')) 0] 0, slots := #[] }) (Ne.symm hb)).trans e) (Heap.get?_update_self (fun _ => { cls := .type "list", dict := none, data := .seq #[.int (preSum val (N - k')) 0] 0, slots := #[] }) hS1 rfl) (fun v z => by cases z)
      exact (q _ _ ⟨0, 0, rfl⟩ I2 (fun b hb u e => (Heap.get?_update_other s1.heap _ (fun z : S = b => hSp (by rw [z]; exact hb))).trans e)).elim
    · obtain ⟨_, o1, H', so1, I1, q⟩ := hp
      refine wpAny_pure ?_
      have I2 : Inv X' [(a, og), (S, o1)] τ H' (s1.setGen gn .finished) := inv_same I1 rfl rfl (setGen_bare I1.bare rfl)
      show R (.ok (.ret (.int (preSum val (N - k0)) tA))) _
      rw [eN]
      exact hR tA H' _ (hback _ _ _ (I2.kept (h' := h') (t' := s1.toks) hk')) q
  | succ k ih =>
    rintro s ⟨k0, hk0, ck, H, o, so, I, gs, hgs, hgo⟩
    have hlt : gn + 1 ≤ s.gens.size := by
      rcases Nat.lt_or_ge gn s.gens.size with z | z
      · exact z
      · rw [Array.getElem?_eq_none z] at hgs
        cases hgs
    have hg : s.heap.IsGen a gn := hgen _ (I.pin (a, og) (List.mem_append_right _ (by simp))).1
    have hS := (I.pin (S, o) (List.mem_append_right _ (by simp))).1
    obtain ⟨tA, c, rfl⟩ := so
    refine codeAny_builtin F.entry_sum_loop ?_
    rw [Around.under_plainId F.plain_sum_loop _]
    show wpAny _ X.A.in1 (seqItems? (.ref S) >>= _) _ _ s
    refine wpAny_bind (wpAny_seqItems hS rfl ?_)
    show wpAny _ X.A.in1 (tryCatch (pyNext (.ref a)) _ >>= _) _ _ s
    refine wpAny_bind (wpAny_tryCatch (GenW.wpAny_gsz hlt ?_))
    refine wpAny_pyNext_genexpQ (P := EndS X' (a, og) S val N τ Q) hd (hback _ _ _ I).nolimit hroom hg hgs (hgo _ rfl rfl (setGen_bare I.bare rfl)) (fun v s1 gs' hb hv => ?_) (fun s1 hp h' hk' => ?_)
    · intro hsz
      rw [GenW.setGen_size] at hsz
      obtain ⟨k', hk', ck', hb', o1, H', tok, so1, rfl, I1, w1, q⟩ := hv
      have ck' : cn b N k' = k := ck'
      have ei : N - k' - 1 = N - (k' + 1) := by omega
      have c1 : cn b N (k' + 1) = k + 1 := by
        show cn b N k' + (if b (N - (k' + 1)) = true then 1 else 0) = _
        rw [if_pos hb', ck']
      have hkk : k' + 1 ≤ k0 := by
        rcases Nat.lt_or_ge k' k0 with z | z
        · exact z
        · have m := cn_mono (b := b) (N := N) (k' - k0) k0
          rw [show k0 + (k' - k0) = k' by omega] at m
          omega
      have e0 : preSum val (N - k0) = preSum val (N - (k' + 1)) := by
        have := cn_run hz (k0 - (k' + 1)) (k' + 1) (by omega) (by rw [show k' + 1 + (k0 - (k' + 1)) = k0 by omega, c1, ck])
        rwa [show k' + 1 + (k0 - (k' + 1)) = k0 by omega] at this
      rw [ei] at so1 ⊢
      obtain ⟨t1, c1, rfl⟩ := so1
      have I2 : Inv X' _ τ H' (s1.setGen gn gs') := inv_same I1 rfl rfl (setGen_bare I1.bare hb)
      have hS1 : (s1.setGen gn gs').heap.get? S = some { cls := .type "list", dict := none, data := .seq #[.int (preSum val (N - (k' + 1))) t1] c1, slots := #[] } := (I2.pin (S, { cls := .type "list", dict := none, data := .seq #[.int (preSum val (N - (k' + 1))) t1] c1, slots := #[] }) (List.mem_append_right _ (by simp))).1
      obtain ⟨⟨f1, f2⟩, f3, f4⟩ := hfit (N - (k' + 1)) (by omega)
      have es : preSum val (N - (k' + 1) + 1) = preSum val (N - (k' + 1)) + val (N - (k' + 1)) := rfl
      have hc : ((decide (-(2 ^ 63) ≤ val (N - (k' + 1))) && decide (val (N - (k' + 1)) < 2 ^ 63)) && (decide (-(2 ^ 63) ≤ preSum val (N - (k' + 1)) + val (N - (k' + 1))) && decide (preSum val (N - (k' + 1)) + val (N - (k' + 1)) < 2 ^ 63))) = true := by
        rw [es] at f3 f4
        simp only [Bool.and_eq_true, decide_eq_true_eq]
        exact ⟨⟨f1, f2⟩, f3, f4⟩
      rw [e0]
      show wpAny _ X.A.in1 (if (_ : Bool) = true then (mkInt (preSum val (N - (k' + 1)) + val (N - (k' + 1))) >>= _) else _) _ _ _
      split
      · refine wpAny_bind (wpAny_mkInt ?_)
        show wpAny _ X.A.in1 (updateSeq S (fun _ => #[.int (preSum val (N - (k' + 1)) + val (N - (k' + 1))) _]) >>= _) _ _ _
        refine wpAny_bind ?_
        refine wpAny_updateSeq hS1 rfl (wpAny_pure ⟨plainId_quiet F.plain_sum_loop _, ih _ ?_⟩)
        have en : N - k' = N - (k' + 1) + 1 := by omega
        refine ⟨k', by omega, ck', H', { cls := .type "list", dict := none, data := .seq #[.int (preSum val (N - (k' + 1)) + val (N - (k' + 1))) _] _, slots := #[] }, ?so, repin (I2.tok ((s1.setGen gn gs').toks + 1)) fS (fun b u hb e => (Heap.get?_update_other _ _ (Ne.symm hb)).trans e) (Heap.get?_update_self _ hS1 rfl) (fun v z => by cases z), gs', ?_, fun t ht ho hbt => ?_⟩
        case so => exact ⟨_, _, by rw [en, es]⟩
        · have hg1 : gn < s1.gens.size := hsz
          exact setGen_self (gs := s1.gens[gn]) (by rw [Array.getElem?_eq_getElem hg1])
        · refine q { cls := .type "list", dict := none, data := .seq #[.int (preSum val (N - (k' + 1)) + val (N - (k' + 1))) _] _, slots := #[] } t ?so2 (inv_same (repin (I2.tok ((s1.setGen gn gs').toks + 1)) fS (fun b u hb e => (Heap.get?_update_other _ _ (Ne.symm hb)).trans e) (Heap.get?_update_self _ hS1 rfl) (fun v z => by cases z)) ht ho hbt) fun b hb u e => ?_
          case so2 => exact ⟨_, _, by rw [show N - k' = N - (k' + 1) + 1 by omega, es]⟩
          rw [ht]
          exact (Heap.get?_update_other _ _ (fun z : S = b => hSp (by rw [z]; exact hb))).trans e
      · rename_i hneg
        exact absurd hc hneg
    · exact absurd hp.1 (Nat.succ_ne_zero k)
end
/-! ### the rule -/
/-- all(elt for target in iter): the def's table at P may grow; then n turns by W -/
def tSumT (P : Addr) (wi : TI) (g : TG) (tt : TT) (te : TE) (vs : List Nat) : TE := fun σ H Q => wi σ H fun J H1 => TabG H1 P ∧ ∀ H2, Tabbed P H1 H2 → ∃ (n : Nat) (b : Nat → Bool) (val : Nat → Int) (W : Nat → Hp → Prop), W 0 H2 ∧ (∀ j, j < n → InLong (val j) ∧ InLong (preSum val (j + 1))) ∧ (∀ i, i < n → b i = false → val i = 0) ∧ Plan J g tt te vs σ n b val W (fun H' => Q (.int (preSum val n)) H')

section
variable {X : Cx}
theorem pe_sumT {c P : Addr} {elt iter tg ts : Expr} {p pos gpos : Pos} {scope : Scope} {own : List (Str × Nat)} {wi : TI} {g : TG} {tt : TT} {te : TE} {k : Nat}
    (hr : Room (k + 1) X.A) (hcalm : X.calm = true) (hN : X.N.Nodup) (hgl : Gl X "sum") (hm : X.mg "sum" = none) (TB : TabB X.base X.mg c P) (hcode : X.env.code = .ref c)
    (hi : PI X tg iter wi) (ok : BlkOk X.N X.env.scope scope own) (hcell : ∀ y ∈ scope.names, y.2 ≠ .cell) (hdot : scope.names.lookup (".0" : Str) = some NameKind.local) (hco : scope.isCoroutine = false)
    (hg : ∀ (s : Shared) (H : Hp) (C : Addr) (cl : List (Str × Addr)) (code : Value) (A' : Around) (fp : List Addr), PG (gcx X s H (genEnv scope cl C code builtinsNs X.env) A' fp) tg g)
    (he : ∀ (s : Shared) (H : Hp) (C : Addr) (cl : List (Str × Addr)) (code : Value) (A' : Around) (fp : List Addr), Room k A' → PE (gcx X s H (genEnv scope cl C code builtinsNs X.env) A' fp) elt te)
    (ht : ∀ (s : Shared) (H : Hp) (C : Addr) (cl : List (Str × Addr)) (code : Value) (A' : Around) (fp : List Addr), Room k A' → PT (gcx X s H (genEnv scope cl C code builtinsNs X.env) A' fp) ts tt)
    (hs : ∀ v, genFold iter X.env v = pure v) (hb : bootBuiltins "sum" = some (.builtin "sum"))
    (hst : starEach [.GeneratorExp elt [⟨tg, iter, [ts], 0⟩] scope gpos] X.env = (false, eval (.GeneratorExp elt [⟨tg, iter, [ts], 0⟩] scope gpos) X.env) :: starEach [] X.env := by rfl) :
    PE X (.Call (.Name "sum" p) [.GeneratorExp elt [⟨tg, iter, [ts], 0⟩] scope gpos] [] pos) (tSumT P wi g tt te (own.map (·.2))) := by
  refine ⟨fun pins s σ H Q I h => ?_⟩
  refine wpAny_Call_Name_kw (ld_blt I hgl hm hb ?_)
  refine PyProof.Rows.callWith_builtin1 ?_ hst (by rfl)
  rw [hst]
  show wpAny _ _ (spliced ((false, eval (.GeneratorExp elt [⟨tg, iter, [ts], 0⟩] scope gpos) X.env) :: backTo pos (starEach [] X.env))) _ _ s
  refine Calls.spliced_cons ?_
  have hfree : ∀ y ∈ scope.names, y.2 = .free → ∃ c, X.env.cells.lookup y.1 = some c := fun y hy e => by
    rcases ok.free y hy e with k | k
    · exact I.ok.has _ (.inl k)
    · exact I.ok.has _ (.inr k)
  refine wpAny_GeneratorExp_make hco (closure_ok hfree) hcell hdot ok.kind hr.depth ?_ hs
  refine thn (hi.run pins s σ H _ I h) fun xv s1 hx => thn hx fun itv s2 h2 => ?_
  obtain ⟨it, fp, tn, J, H2, e, I2, T, st2, f2, ⟨ps, hP, hta⟩, q⟩ := h2
  subst e
  refine ⟨I2.nolimit, ?_⟩
  have hPs : s2.heap.get? P = some { cls := .none, data := .fields ps } := I2.hok P _ hP
  have cd : PySem.W.CodeHd s2.heap c P := TB.code.keeps fun b u e => I2.bk b u e
  have nN : ∀ b, H2 b = none → b ≠ P := fun b e z => by
    rw [z, hP] at e
    cases e
  have sz2 : ∀ b ∈ fp, b < s2.heap.objs.size := fun b hb => by
    obtain ⟨o, e, _⟩ := T.obj _ _ st2 b hb
    exact Heap.lt_size e
  -- behind the table
  have cont : ∀ (code : Value) (s3 : Shared) (H3 : Hp), Inv X pins σ H3 s3 → Tabbed P H2 H3 → (∀ b o, b ≠ P → s2.heap.get? b = some o → s3.heap.get? b = some o) →
      wpAny (model X.prog X.w) X.A (builtinsFor X.env.globals X.env.builtins) (fun bi s4 =>
        ∀ h', h'.Ns s4.heap.objs.size (fun y => if y = (".0" : Str) then some (Value.ref it) else none) → Heap.SameBut s4.heap.objs.size (s4.heap.push { cls := .type "frame", data := .dict #[] }) h' →
          wpAny (model X.prog X.w) X.A (spliced (backTo pos (starEach [] X.env))) (fun vs s' => wpAny (model X.prog X.w) X.A (call (.builtin "sum") (Value.ref h'.objs.size :: vs)) (EP X pins σ Q) X.xe s') X.xe { s4 with
            gens := s4.gens.push (.fresh (.compStart (.GeneratorExp elt [⟨tg, iter, [ts], 0⟩] scope gpos) 0 (.ref it) .none (genEnv scope (cloFrom X.env.cells scope.names []) s4.heap.objs.size code bi X.env))),
            toks := s4.toks + 1 + 1 + 1,
            heap := h'.push { cls := .type "generator", data := .fields #[.int s4.gens.size 0, .str "<genexpr>" (s4.toks + 1), .str (X.env.qual ++ "<genexpr>") (s4.toks + 1 + 1)] } }) X.xe s3 := by
    intro code s3 H3 I3 hT kp3
    obtain ⟨bm, ob, e1, e2, e3, e4, e5, e6, e7, e8⟩ := TB.bm
    refine wpAny_builtinsFor (m := X.mg) (by rw [I3.ok.glob]; exact I3.mod.glob.keeps I3.bk) e1 e2 (I3.bk _ _ e5) e6 e7 e8 ?_
    intro h' hns hsb
    refine Calls.spliced_nil ?_
    generalize hog : ({ cls := .type "generator", data := .fields #[.int s3.gens.size 0, .str "<genexpr>" (s3.toks + 1), .str (X.env.qual ++ "<genexpr>") (s3.toks + 1 + 1)] } : Obj) = og
    generalize hce : genEnv scope (cloFrom X.env.cells scope.names []) s3.heap.objs.size code builtinsNs X.env = ce
    generalize hgs : (GenState.fresh (.compStart (.GeneratorExp elt [⟨tg, iter, [ts], 0⟩] scope gpos) 0 (.ref it) .none ce)) = gs
    obtain ⟨n, b, val, W, w0, hfit, hz, pl⟩ := q H3 hT
    have nfp : ∀ b ∈ fp, H3 b = none := fun b hb => (hT.2 b (nN b (f2 b hb).1)).trans (f2 b hb).1
    have f3 : ∀ b ∈ fp, FpOk X pins H3 b ∧ b < s3.heap.objs.size := fun b hb => by
      obtain ⟨o, e, _⟩ := T.obj _ _ st2 b hb
      exact ⟨⟨nfp b hb, (f2 b hb).2⟩, Heap.lt_size (kp3 b o (nN b (f2 b hb).1) e)⟩
    have st3 : tn 0 s3.heap := T.keep _ _ _ st2 fun b hb o e => kp3 b o (nN b (f2 b hb).1) e
    have hfrm : (X.A.in1.in1.over (.compLoop (.GeneratorExp elt [⟨tg, iter, [ts], 0⟩] scope gpos) 0 (.ref it) .none ce) []).frames = some (ce :: X.stack) := by
      show pushEnvs [ce] (pushEnvs (envsOf []) X.A.frames) = _
      rw [I3.ok.frames]
      rfl
    have hrm : Room k (X.A.in1.in1.over (.compLoop (.GeneratorExp elt [⟨tg, iter, [ts], 0⟩] scope gpos) 0 (.ref it) .none ce) []) := by
      refine ⟨hr.hd, ?_, ?_⟩
      · have z := hr.dp
        show X.A.depth + 0 + 1 + 3 * k + 5 < _
        omega
      · have z := hr.un
        show X.A.units + 1 + 1 + 0 + 3 + 16 * k + 200 < _
        omega
    have hsz : h'.objs.size = s3.heap.objs.size + 1 := by rw [hsb.1, Heap.size_push]
    have I4 := gen_start (og := og) (g' := s3.gens.push gs) (tk := s3.toks + 1 + 1 + 1) (fp := fp) (A' := X.A.in1.in1.over (.compLoop (.GeneratorExp elt [⟨tg, iter, [ts], 0⟩] scope gpos) 0 (.ref it) .none ce) []) I3 ok hN f3 hcell hce.symm hr.hd hfrm hns hsb (fun v z => by subst hog; cases z) (by subst hog; rfl) (I3.bare.push (by subst hgs; rfl))
    have st4 : tn 0 (h'.push og) := T.keep _ _ _ st3 fun b hb o e => Heap.get?_push_of_some _ (hsb.extBut b o (Nat.ne_of_lt (f3 b hb).2) (Heap.get?_push_of_some _ e))
    have hap : h'.objs.size ∉ fp := fun z => by
      have q1 : (h'.objs.size : Nat) < s3.heap.objs.size := (f3 _ z).2
      rw [hsz] at q1
      exact absurd q1 (Nat.not_lt.mpr (Nat.le_succ _))
    have pg := hg s3 H3 s3.heap.objs.size (cloFrom X.env.cells scope.names []) code (X.A.in1.in1.over (.compLoop (.GeneratorExp elt [⟨tg, iter, [ts], 0⟩] scope gpos) 0 (.ref it) .none ce) []) fp
    have pe := he s3 H3 s3.heap.objs.size (cloFrom X.env.cells scope.names []) code (X.A.in1.in1.over (.compLoop (.GeneratorExp elt [⟨tg, iter, [ts], 0⟩] scope gpos) 0 (.ref it) .none ce) []) fp hrm
    have ptt := ht s3 H3 s3.heap.objs.size (cloFrom X.env.cells scope.names []) code (X.A.in1.in1.over (.compLoop (.GeneratorExp elt [⟨tg, iter, [ts], 0⟩] scope gpos) 0 (.ref it) .none ce) []) fp hrm
    rw [hce] at pg pe ptt
    have hcs : ce.scope = scope := by rw [← hce]; rfl
    have isG : ∀ h : Heap, h.get? h'.objs.size = some og → h.IsGen h'.objs.size s3.gens.size := fun h e => by
      subst hog
      exact ⟨_, _, _, e, rfl, rfl, rfl⟩
    refine call_function_tree F.kind_sum F.plain_sum F.entry_sum (F.args_sum1 _) ?_
    unfold Builtin.«sum»
    simp only [List.length_cons, List.length_nil]
    rw [if_neg (by decide)]
    refine wpAny_bind (wpAny_of_eq (show Builtin.Builtins.bindParams "sum" ["start"] 0 { } = pure [none] from rfl) ?_)
    refine wpAny_bind (wpAny_pyIter_gen (g := s3.gens.size) (isG _ (Heap.get?_push_size _ (by subst hog; rfl))) ?_)
    refine wpAny_bind (wpAny_mkInt ?_)
    refine wpAny_bind (wpAny_pure ?_)
    simp only [List.forIn_cons, List.forIn_nil]
    refine wpAny_bind (wpAny_bind (wpAny_bind (wpAny_isInstance (T := "int") (b := false) (typeIs_int _ _ _) PySem.sub_int_str ?_)))
    simp only [Bool.false_eq_true, if_false]
    refine wpAny_pure (wpAny_bind (wpAny_bind (wpAny_isInstance (T := "int") (b := false) (typeIs_int _ _ _) PySem.sub_int_bytes ?_)))
    simp only [Bool.false_eq_true, if_false]
    refine wpAny_pure (wpAny_bind (wpAny_bind (wpAny_isInstance (T := "int") (b := false) (typeIs_int _ _ _) PySem.sub_int_bytearray ?_)))
    simp only [Bool.false_eq_true, if_false]
    refine wpAny_pure (wpAny_pure ?_)
    refine wpAny_bind (wpAny_newObj_type ?_)
    have szp : (h'.push og).objs.size = h'.objs.size + 1 := Heap.size_push ..
    have hSp : (h'.push og).objs.size ∉ fp := fun z => by
      have q1 : ((h'.push og).objs.size : Nat) < s3.heap.objs.size := (f3 _ z).2
      rw [szp, hsz] at q1
      omega
    have fS : ∀ H : Hp, H (h'.push og).objs.size = none → FpOk (gcx X s3 H3 ce (X.A.in1.in1.over (.compLoop (.GeneratorExp elt [⟨tg, iter, [ts], 0⟩] scope gpos) 0 (.ref it) .none ce) []) fp) [(h'.objs.size, og)] H (h'.push og).objs.size := fun H hn => I4.fpOk (Nat.le_refl _) hn
    have nS : H3 (h'.push og).objs.size = none := I4.hok.fresh (Nat.le_refl _)
    generalize hoS : ({ cls := .type "list", data := .seq #[.int 0 (s3.toks + 1 + 1 + 1)] } : Obj) = oS
    have IS : Inv (gcx X s3 H3 ce (X.A.in1.in1.over (.compLoop (.GeneratorExp elt [⟨tg, iter, [ts], 0⟩] scope gpos) 0 (.ref it) .none ce) []) fp) [(h'.objs.size, og), ((h'.push og).objs.size, oS)] (wipe σ (own.map (·.2))) H3 { heap := (h'.push og).push oS, gens := s3.gens.push gs, drawn := s3.drawn, toks := s3.toks + 1 + 1 + 1 + 1, os := s3.os } := by
      have Ik := I4.kept (h' := (h'.push og).push oS) (t' := s3.toks + 1 + 1 + 1 + 1) fun b u e => Heap.get?_push_of_some _ e
      refine Ik.pins_of fun p hp => ?_
      rcases List.mem_cons.mp hp with rfl | hp
      · exact Ik.pin _ (List.mem_append_right _ (by simp))
      · rw [List.mem_singleton.mp hp]
        exact ⟨Heap.get?_push_size _ (by subst hoS; rfl), nS, (fS _ nS).2.1, (fS _ nS).2.2.1, fun v z => by subst hoS; cases z⟩
    have stS : tn 0 ((h'.push og).push oS) := T.keep _ _ _ st4 fun b hb o e => Heap.get?_push_of_some _ e
    have soS : So val 0 oS := ⟨_, _, hoS.symm⟩
    have loop := fun (z0 t : Shared) (I : Inv _ _ _ _ t) (st : tn 0 t.heap) => gen_loopT (A := X.A.in1.in1) (og := og) (a := h'.objs.size) (S := (h'.push og).objs.size) (N := n) (pos := gpos) (iter := iter) (scope := scope) (it := it) hr.hd hcalm (by rw [hcs]; exact hco) T pl hz pg pe ptt hap hSp n 0 oS z0 t H3 rfl (Nat.zero_le _) soS I st nfp w0
    refine wpAny_pure ⟨plainId_quiet F.plain_sum_loop _, ?_⟩
    refine sum_loopT (X' := (gcx X s3 H3 ce (X.A.in1.in1.over (.compLoop (.GeneratorExp elt [⟨tg, iter, [ts], 0⟩] scope gpos) 0 (.ref it) .none ce) []) fp)) (S := (h'.push og).objs.size) (og := og) (gn := s3.gens.size) (fp := fp) (τ := wipe σ (own.map (·.2))) (N := n) (b := b) (val := val) (W := W) (Q := fun H' => Q (.int (preSum val n)) H') hr.hd hr.depth isG (fun o H' s' I' => ?_) fS hSp hfit hz (fun t H' s' I' q' => ⟨.int (preSum val n), H', I', ⟨_, rfl⟩, q'⟩) (cn b n n) _ ⟨n, Nat.le_refl _, rfl, H3, oS, by rw [Nat.sub_self]; exact soS, IS, gs, ?_, fun t ht ho hbt => ?_⟩
    · exact I3.call' (ch := fp) I'.os I'.base I'.hok I'.bare fun b hb => ⟨(f3 b hb).1.2.2.2.1, (f3 b hb).1.2.1, (f3 b hb).1.2.2.2.2.1, (f3 b hb).1.2.2.2.2.2⟩
    · exact Array.getElem?_push_size ..
    · have I5 := inv_same IS ht ho hbt
      have st5 : tn 0 t.heap := by rw [ht]; exact stS
      subst hgs
      refine ⟨rfl, ?_⟩
      have lp := loop t t I5 st5
      show Seg _ _ _ _ _ _ _ ((compStart (.GeneratorExp elt [⟨tg, iter, [ts], 0⟩] scope gpos) 0 (.ref it) .none ce).onRaise (leaving ce)) [] t
      unfold compStart
      rw [Sem.onRaise_eq_wrap]
      show Seg _ _ _ _ _ _ _ ((ask >>= _).wrap _ _ _ _) [] t
      refine seg_bind_wrap (wpAny_askSetting ?_)
      split
      · exact seg_again rfl lp
      · refine seg_bind_wrap (wpAny_rule ?_)
        show Seg _ _ _ _ _ _ _ ((standAt iter.pos >>= _).wrap _ _ _ _) [] t
        exact seg_bind_wrap (wpAny_standAt (seg_bind_wrap (T.self _ 0 t _ _ st5 (seg_again rfl lp))))
  cases hf : codeAmong gpos ps.toList with
  | none =>
    refine wpAny_genexprCodeX hcode (cd.code hPs hta) (cd.tab hPs) hf fun c' h' tk hx hge hlt hco' _ htab' _ => ?_
    obtain ⟨o1, vs1, f1, tf, fl, tg1, inF, tx, tt, op, _, _, _, _, _, _, _, _, _, htr, _⟩ := hco'
    have J := inv_tab (more := #[rawInt gpos.line, rawInt gpos.col, .ref c']) (h' := h') (g' := s2.gens) (d' := s2.drawn) (t' := tk) I2 hP hx htab'.2 I2.bare
    exact cont _ _ _ J ⟨⟨_, upd_same, htr⟩, fun b hb => upd_ne hb⟩ hx
  | some cv =>
    refine wpAny_genexprCode_hit hcode (cd.code hPs hta) hf ?_
    exact cont cv s2 H2 I2 ⟨⟨ps, hP, hta⟩, fun _ _ => rfl⟩ fun b o _ e => e
end
end GUT


set_option Elab.async false
set_option linter.all false
set_option maxRecDepth 100000
set_option maxHeartbeats 1000000
namespace DX
open PySem PySem.Spec PyProof.Rows L2 GxR GA
open Classical
/-! ### sum over a generator with a test; o[i] -= e; rows that change -/
section
variable {G : Gx} {F : Fx} {δ δ' δ1 : DEnv} {σ σ' : L2.St} {H H' : Hp} {ta tb tc te tl ti : TE} {tr tk : TA} {tt : TT} {Q : PyData → DEnv → Prop} {QF : List PyData → DEnv → Prop} {QS : Out → Prop}
/-- one turn: whether it passes, and its value -/
def StepT (G : Gx) (g : TG) (tt : TT) (te : TE) (vs : List Nat) (δ1 : DEnv) (n : Nat) (b : Nat → Bool) (d val : Nat → PyData) : Prop :=
  ∀ i, i < n → ∀ Q' : PyData → DEnv → Prop, (∀ δ3, wipeD δ3 vs = wipeD δ1 vs → Q' (val i) δ3) → DG G g vs (d i) (wipeD δ1 vs) fun δ3 => DT G tt δ3 fun c δ4 => c = b i ∧ if b i = true then ED G te δ4 Q' else wipeD δ4 vs = wipeD δ1 vs
theorem gen_coreT {g : TG} {J : It} {n : Nat} {vs : List Nat} {b : Nat → Bool} {d val : Nat → PyData} {Hd : Hp → Prop} (hp : ∀ j ∈ G.pn, j ∉ vs) (ok : ItOk G.K J n d Hd) (st : StepT G g tt te vs δ1 n b d val) {i : Nat} (hi : i < n) (I : PInv G F δ1 vs σ Hd H) {post : V → Hp → Prop} {post0 : Hp → Prop}
    (hpost : ∀ y H4 M, Rp G.K (del H4 M) (val i) y → PInv G F δ1 vs σ Hd H4 → post y H4) (h0 : ∀ H4, PInv G F δ1 vs σ Hd H4 → post0 H4) : J.go i H ∧ ∀ x H', J.yld i H x H' → g x (wipe σ vs) H' fun σ2 H3 => wipe σ2 vs = wipe σ vs ∧ tt σ2 H3 fun bb H4 => bb = b i ∧ if b i = true then te σ2 H4 post else post0 H4 := by
  obtain ⟨J1, hd⟩ := I
  refine ⟨ok.jg i H _ hi hd, fun x H' y => ?_⟩
  have nM : ∀ T, H T = none → ¬ Sl F (wipeD δ1 vs) (wipe σ vs) T := fun T hT z => z.elim (J1.fresh hT).2.2.2 (J1.fresh hT).2.2.1
  obtain ⟨hH, rd⟩ := ok.jy i H x H' _ hi nM hd y
  have J2 : EI G F (wipeD δ1 vs) (wipe σ vs) H' ∧ Hd (del H' (Sl F (wipeD δ1 vs) (wipe σ vs))) := by
    rcases hH with rfl | ⟨T, us, hT, rfl⟩
    · exact ⟨J1, hd⟩
    · exact ⟨J1.laid hT (nt_tup us), ok.hg _ _ (gr_laid hT) hd⟩
  obtain ⟨J2, hd2⟩ := J2
  refine st i hi (fun z δ4 => z = val i ∧ wipeD δ4 vs = wipeD δ1 vs) (fun δ3 e3 => ⟨rfl, e3⟩) F (wipe σ vs) H' x _ J2 rd fun δ3 σ3 q3 J3 g3 l3 a3 m3 => ?_
  have we : wipe σ3 vs = wipe σ vs := (wipe_eq l3 a3).trans (wipe_eq (wipe_length σ vs) fun j hj => wipe_get hj)
  have fin : ∀ {δ4 : DEnv} {H4 : Hp}, wipeD δ4 vs = wipeD δ1 vs → EI G F δ4 σ3 H4 → Hd (del H4 (Sl F δ4 σ3)) → PInv G F δ1 vs σ Hd H4 := fun {δ4 H4} e4 J4 hd4 => by
    have J5 := J4.wiped hp
    have mw : ∀ {a : Addr}, MA (wipeD δ4 vs) (wipe σ3 vs) a → MA δ4 σ3 a := fun {a} ⟨j, ys, h1, h2⟩ => ⟨j, ys, (wipeD_some h1).1, (wipe_get (wipeD_some h1).2) ▸ h2⟩
    have sub : Gr (del H4 (Sl F δ4 σ3)) (del H4 (Sl F (wipeD δ4 vs) (wipe σ3 vs))) := gr_del fun b u nt hb e => ⟨fun z => hb (z.imp mw id), e⟩
    have hd5 := ok.hg _ _ sub hd4
    rw [we, e4] at J5 hd5
    exact ⟨J5, hd5⟩
  refine ⟨we, q3.go J3 fun bb δ4 H4 ⟨eb, q4⟩ s4 => ⟨eb, ?_⟩⟩
  by_cases hb : b i = true
  · rw [if_pos hb] at q4 ⊢
    refine q4.go s4.ei fun z w δ5 H5 ⟨ez, e5⟩ s5 r5 => ?_
    subst ez
    exact hpost w H5 _ r5 (fin e5 s5.ei (ok.hg _ _ s5.gr (ok.hg _ _ s4.gr (ok.hg _ _ g3 hd2))))
  · rw [if_neg hb] at q4 ⊢
    exact h0 H4 (fin q4 s4.ei (ok.hg _ _ s4.gr (ok.hg _ _ g3 hd2)))
/-- sum(te for g in .. if tt) -/
theorem ed_sumT {g : TG} {vs : List Nat} {P : Addr} {wi : TI} (hP : P ∈ G.cs) (hp : ∀ j ∈ G.pn, j ∉ vs) (b : Nat → Bool) (val : Nat → Int) (h : GI G wi δ fun n d δ1 => StepT G g tt te vs δ1 n b d (fun i => .int (val i)) ∧ (∀ j, j < n → PySem.InLong (val j) ∧ PySem.InLong (PySem.preSum val (j + 1))) ∧ (∀ i, i < n → b i = false → val i = 0) ∧ Q (.int (PySem.preSum val n)) (wipeD δ1 vs)) :
    ED G (GUT.tSumT P wi g tt te vs) δ Q := fun F σ H R I k =>
  h F σ H _ I fun n d δ1 H1 J Hd ⟨st, hf, hz, q⟩ I1 ok hd => by
    refine ⟨I1.tab P hP, fun H2 T => ?_⟩
    obtain ⟨I2, g2⟩ := I1.tabbed hP T
    have P0 := PInv.start hp ok I2 (ok.hg _ _ g2 hd)
    refine ⟨n, b, val, fun j H' => PInv G F δ1 vs σ Hd H', P0, hf, hz, ⟨fun i H hi W => ?_, fun H W => ?_⟩⟩
    · refine gen_coreT hp ok st hi W (fun y H4 M r W4 => ?_) fun H4 W4 => W4
      cases r
      exact ⟨rfl, W4⟩
    · exact ⟨ok.js H _ W.2, k _ _ _ H q (W.1.unwiped hp) (.int _)⟩
/-! ### o[i] -= e -/
def rGetL (K : PySem.W.Frag) : V → V → Hp → VK → Prop := fun o i H Q => ∃ p xs k v, o = .ref p ∧ i = .int k ∧ SqL K H p xs ∧ 0 ≤ k ∧ xs[k.toNat]? = some v ∧ Q v H
theorem get_listG {X : Cx} : PGet X (rGetL X.K) := by
  intro pins s σ H x y v u Q I rx ry h
  obtain ⟨p, xs, i, z, rfl, rfl, hq, h0, he, q⟩ := h
  cases rx
  obtain ⟨t, rfl⟩ := ry
  obtain ⟨its, r, pl, hz⟩ := I.list hq
  obtain ⟨w, ew, rw'⟩ := r.get he
  have hn := line63
  have hl := (List.getElem?_eq_some_iff.mp he).1
  exact getItem_listL pl.isList h0 (by omega) ew ⟨z, H, I, rw', q⟩
theorem ixN_of {n j : Nat} (h : j < n) : ixN n (j : Nat) = some j := by
  unfold ixN
  rw [if_pos (by omega), if_pos (by omega)]
  rfl
theorem sd_subIx {i : Nat} (h0 : ∃ xs0, δ[i]? = some (some (E.m xs0))) (h : ED G ti δ fun y δ1 => ∃ (xs : List PyData) (j : Nat) (x : Int), y = .int (j : Nat) ∧ δ1[i]? = some (some (E.m xs)) ∧ xs[j]? = some (.int x) ∧
      ED G te δ1 fun d δ2 => ∃ z ys, d = .int z ∧ δ2[i]? = some (some (E.m ys)) ∧ j < ys.length ∧ QS (.nx (δ2.set i (some (.m (ys.set j (.int (x - z)))))))) :
    SD G (tAugS (tVar i) ti te (rGetL G.K) (ipI fun i j => i - j) rSetL) δ QS := fun F σ H D I k => by
  obtain ⟨xs0, h0⟩ := h0
  obtain ⟨v, g1, a, vs, e, g2, g3⟩ := I.slot i _ h0
  subst e
  refine ⟨_, g1, h.go I fun y z δ1 H1 ⟨xs, j, x, e1, h1, hx, q1⟩ s1 r1 => ?_⟩
  subst e1
  cases r1
  obtain ⟨v, g1', b, ws, e, h5, h6⟩ := s1.ei.slot i _ h1
  rw [g1] at g1'
  cases g1'
  cases e
  obtain ⟨w, hw, rw_⟩ := h6.get hx
  cases rw_
  refine ⟨a, ws, j, .int x, rfl, rfl, SqL.of h5, by omega, by simpa using hw, q1.go s1.ei fun d z δ2 H2 ⟨z', ys, e2, h2, hj, q⟩ s2 r2 => ?_⟩
  subst e2
  cases r2
  obtain ⟨v, g1', b, us, e, h7, h8⟩ := s2.ei.slot i _ h2
  rw [g1] at g1'
  cases g1'
  cases e
  exact ⟨x, z', rfl, rfl, a, us, j, j, rfl, rfl, h7, ixN_of (by rw [← h8.len]; exact hj), k _ q σ _ (s2.ei.write h2 g1 h7 (RpL.set (.int _) _ h8))⟩
/-! ### rows: a list of lists that all are the function's own; slot p holds it -/
def Fx.owns (F : Fx) (S : List Addr) : Fx := { F with X0 := fun a => a ∈ S ∨ F.X0 a }
abbrev Gx.pin (G : Gx) (p : Nat) : Gx := ⟨G.K, G.cs, [p]⟩
def intsV (xs : List Int) : List V := xs.map V.int
structure RI (G : Gx) (F : Fx) (p : Nat) (D : Addr) (rs : List Addr) (δ : DEnv) (xss : List (List Int)) (σ : L2.St) (H : Hp) : Prop where
  s0 : F.s0[p]? = some (some (V.ref D))
  ei : EI (G.pin p) (F.owns (D :: rs)) δ σ H
  nd : (D :: rs).Nodup
  fr : ∀ a ∈ D :: rs, F.H0 a = none ∧ ¬ F.M0 a ∧ ¬ F.W0 a ∧ ¬ F.X0 a
  ma : ∀ a ∈ D :: rs, ¬ MA δ σ a
  hd : H D = some (.lst (rs.map V.ref))
  len : rs.length = xss.length
  row : ∀ (i : Nat) (r : Addr) (xs : List Int), rs[i]? = some r → xss[i]? = some xs → H r = some (.lst (intsV xs))
theorem RI.has {p : Nat} {D : Addr} {rs : List Addr} {xss : List (List Int)} (I : RI G F p D rs δ xss σ H) {a : Addr} (ha : a ∈ D :: rs) : ∃ vs, H a = some (.lst vs) := by
  rcases List.mem_cons.mp ha with rfl | ha
  · exact ⟨_, I.hd⟩
  · obtain ⟨i, hi⟩ := List.getElem?_of_mem ha
    have hl := (List.getElem?_eq_some_iff.mp hi).1
    have hx : xss[i]? = some (xss[i]'(by rw [← I.len]; exact hl)) := List.getElem?_eq_getElem _
    exact ⟨_, I.row i a _ hi hx⟩
theorem RI.step {p : Nat} {D : Addr} {rs : List Addr} {xss : List (List Int)} (I : RI G F p D rs δ xss σ H) (s : Since (G.pin p) (F.owns (D :: rs)) δ σ H δ' σ' H') : RI G F p D rs δ' xss σ' H' := by
  have kp : ∀ a ∈ D :: rs, ∀ vs, H a = some (.lst vs) → H' a = some (.lst vs) := fun a ha vs e => s.kp a _ (nt_lst _) (I.ma a ha) (I.fr a ha).2.2.1 e
  refine ⟨I.s0, s.ei, I.nd, I.fr, fun a ha z => ?_, kp D (by simp) _ I.hd, I.len, fun i r xs h1 h2 => kp r (List.mem_cons_of_mem _ (List.mem_of_getElem? h1)) _ (I.row i r xs h1 h2)⟩
  rcases s.ma a z with z | z
  · exact I.ma a ha z
  · obtain ⟨vs, e⟩ := I.has ha
    rw [e] at z; cases z
def SR (G : Gx) (p : Nat) (t : TS) (δ : DEnv) (xss : List (List Int)) (Q : DEnv → List (List Int) → Prop) : Prop :=
  ∀ (F : Fx) (D : Addr) (rs : List Addr) (σ : L2.St) (H : Hp) (E : Ends), RI G F p D rs δ xss σ H →
    (∀ δ' xss' σ' H', Q δ' xss' → RI G F p D rs δ' xss' σ' H' → Gr (del H (Sl (F.owns (D :: rs)) δ σ)) (del H' (Sl (F.owns (D :: rs)) δ' σ')) → E.nx σ' H') → t E σ H
variable {p : Nat} {xss : List (List Int)} {QR : DEnv → List (List Int) → Prop} {t u : TS}
theorem sr_of (h : SD (G.pin p) t δ fun o => ∃ δ', o = .nx δ' ∧ QR δ' xss) : SR G p t δ xss QR := fun F D rs σ H E I k =>
  h _ σ H E I.ei.now fun o ⟨δ', e, q⟩ => by
    subst e
    exact fun σ' H' J => k δ' xss σ' H' q (I.step (I.ei.since J)) (I.ei.since J).gr
theorem sr_next (q : QR δ xss) : SR G p tNext δ xss QR := fun F D rs σ H E I k => k δ xss σ H q I (Gr.refl _)
theorem sr_seq (h : SR G p t δ xss fun δ1 x1 => SR G p u δ1 x1 QR) : SR G p (tSeq t u) δ xss QR := fun F D rs σ H E I k =>
  h F D rs σ H _ I fun δ1 x1 σ1 H1 q1 I1 g1 => q1 F D rs σ1 H1 E I1 fun δ' x' σ' H' q I' g => k δ' x' σ' H' q I' (g1.trans g)
theorem sr_if (h : DT (G.pin p) tt δ fun b δ1 => if b = true then SR G p t δ1 xss QR else SR G p u δ1 xss QR) : SR G p (tIfS tt t u) δ xss QR := fun F D rs σ H E I k =>
  h.go I.ei fun b δ1 H1 q s => by
    have I1 := I.step s
    cases b with
    | true => exact iteT ((show SR G p t δ1 xss QR by simpa using q) F D rs σ H1 E I1 fun δ' x' σ' H' q I' g => k δ' x' σ' H' q I' (s.gr.trans g))
    | false => exact iteF ((show SR G p u δ1 xss QR by simpa using q) F D rs σ H1 E I1 fun δ' x' σ' H' q I' g => k δ' x' σ' H' q I' (s.gr.trans g))
theorem RI.set_d {D : Addr} {rs : List Addr} {i : Nat} {d : PyData} {v : V} (I : RI G F p D rs δ xss σ H) (hi : i ≠ p) (r : Rp G.K (del H (Sl (F.owns (D :: rs)) δ σ)) d v) :
    RI G F p D rs (δ.set i (some (.d d))) xss (σ.set i (some v)) H ∧ Gr (del H (Sl (F.owns (D :: rs)) δ σ)) (del H (Sl (F.owns (D :: rs)) (δ.set i (some (.d d))) (σ.set i (some v)))) :=
  ⟨⟨I.s0, I.ei.set_d (fun z => hi (List.mem_singleton.mp z)) r, I.nd, I.fr, fun a ha z => I.ma a ha (MA.set_d (fun _ q => by cases q) z).1, I.hd, I.len, I.row⟩,
    gr_del fun b u nt hb e => ⟨fun z => hb (z.imp (fun z => (MA.set_d (fun _ q => by cases q) z).1) id), e⟩⟩
theorem sr_forR {i : Nat} (hp : i ≠ p) (h : EA (G.pin p) tr δ fun as δ1 => ∃ n : Nat, allD as = some [.int (n : Nat)] ∧ n ≤ 10000 ∧ ∃ IV : Nat → DEnv → List (List Int) → Prop, IV 0 δ1 xss ∧
      (∀ k δ2 x2, k < n → IV k δ2 x2 → SR G p t (δ2.set i (some (.d (.int (k : Nat))))) x2 (IV (k + 1))) ∧ ∀ δ2 x2, IV n δ2 x2 → QR δ2 x2) : SR G p (tFor (iRng1 tr) (gName i) t) δ xss QR := fun F D rs σ H E I k =>
  h.go I.ei fun as vs δ1 H1 ⟨n, e, hn, IV, i0, st, fin⟩ s r => by
    have r2 := allD_ok e r
    cases r2 with
    | cons r3 r4 =>
      cases r4; cases r3
      refine ⟨n, rfl, by omega, by omega, for_range (lo := 0) (n := n) (fun j σ' H' => ∃ δ2 x2, IV j δ2 x2 ∧ RI G F p D rs δ2 x2 σ' H' ∧ Gr (del H (Sl (F.owns (D :: rs)) δ σ)) (del H' (Sl (F.owns (D :: rs)) δ2 σ'))) ⟨δ1, xss, i0, I.step s, s.gr⟩ ?_ ?_⟩
      · rintro j σ2 H2 hj ⟨δ2, x2, iv, I2, g2⟩
        have ej : (0 : Int) + (j : Int) = (j : Int) := by omega
        show t _ (σ2.set i (some (.int (0 + (j : Int))))) H2
        rw [ej]
        obtain ⟨I3, g3⟩ := I2.set_d hp (.int (j : Int))
        exact st j δ2 x2 hj iv F D rs _ H2 _ I3 fun δ' x' σ' H' q I' g => ⟨δ', x', q, I', (g2.trans g3).trans g⟩
      · rintro σ2 H2 ⟨δ2, x2, iv, I2, g2⟩
        exact k δ2 x2 σ2 H2 (fin δ2 x2 iv) I2 g2
theorem sr_forE {g : TG} {vs : List Nat} (hv : p ∉ vs) (h : EA (G.pin p) tr δ fun as δ1 => ∃ xs, allD as = some [.list xs] ∧ ∃ IV : Nat → DEnv → List (List Int) → Prop, IV 0 δ1 xss ∧
      (∀ k δ2 x2 y, xs[k]? = some y → IV k δ2 x2 → DG (G.pin p) g vs (.tuple [.int (k : Nat), y]) δ2 fun δ3 => SR G p t δ3 x2 (IV (k + 1))) ∧ ∀ δ2 x2, IV xs.length δ2 x2 → QR δ2 x2) : SR G p (tFor (iEnum G.K tr) g t) δ xss QR := fun F D rs σ H E I k =>
  h.go I.ei fun as ws0 δ1 H1 ⟨xs, e, IV, i0, st, fin⟩ s r0 => by
    have r2 := allD_ok e r0
    cases r2 with
    | cons r r4 =>
      cases r4
      cases r with
      | @lst a ws _ h1 r1 =>
        have h2 := (del_some.mp h1).2
        refine ⟨a, ws, rfl, SqL.of h2, for_enum (xs := ws) (fun j σ' H' => ∃ δ2 x2, IV j δ2 x2 ∧ RI G F p D rs δ2 x2 σ' H' ∧ Gr (del H (Sl (F.owns (D :: rs)) δ σ)) (del H' (Sl (F.owns (D :: rs)) δ2 σ')) ∧ Gr (del H1 (Sl (F.owns (D :: rs)) δ1 σ)) (del H' (Sl (F.owns (D :: rs)) δ2 σ'))) ⟨δ1, xss, i0, I.step s, s.gr, Gr.refl _⟩ ?_ ?_ ?_⟩
        · rintro j σ2 H2 _ ⟨δ2, x2, iv, I2, _, g2⟩
          exact SqL.of (del_some.mp (g2 _ _ (nt_lst _) h1)).2
        · rintro j y σ2 H2 T hy ⟨δ2, x2, iv, I2, g0, g2⟩ hT
          obtain ⟨d, hd, rd⟩ := (RpL.gr g2 r1).getV hy
          have J3 := I2.ei.laid hT (nt_tup [.int (j : Nat), y])
          obtain ⟨_, _, hX, hm⟩ := I2.ei.fresh hT
          have g3 : Gr (del H2 (Sl (F.owns (D :: rs)) δ2 σ2)) (del (upd H2 T (.tup [.int (j : Nat), y])) (Sl (F.owns (D :: rs)) δ2 σ2)) := gr_laid hT
          have rd2 : Rp G.K (del (upd H2 T (.tup [.int (j : Nat), y])) (Sl (F.owns (D :: rs)) δ2 σ2)) (.tuple [.int (j : Nat), d]) (.ref T) :=
            .tup (.inl (.inl (del_some.mpr ⟨fun z => z.elim hm hX, upd_same⟩))) (.cons (.int _) (.cons (rd.gr (gr_laid hT)) .nil))
          refine st j δ2 x2 d hd iv _ σ2 _ _ _ J3 rd2 fun δ3 σ3 q3 J4 g4 l4 a4 m4 => ?_
          have ne : ∀ {b : Addr} {u : HO}, H2 b = some u → b ≠ T := fun {b u} e z => by rw [z, hT] at e; cases e
          have I4 : RI G F p D rs δ3 x2 σ3 (upd H2 T (.tup [.int (j : Nat), y])) := ⟨I2.s0, J4, I2.nd, I2.fr, fun a ha z => I2.ma a ha (m4 a z), by rw [upd_ne (ne I2.hd)]; exact I2.hd, I2.len, fun i r xs e1 e2 => by rw [upd_ne (ne (I2.row i r xs e1 e2))]; exact I2.row i r xs e1 e2⟩
          exact q3 F D rs σ3 _ _ I4 fun δ' x' σ' H' q I' g => ⟨δ', x', q, I', (g0.trans g3).trans (g4.trans g), (g2.trans g3).trans (g4.trans g)⟩
        · rintro σ2 H2 ⟨δ2, x2, iv, I2, g2, _⟩
          rw [← r1.len] at iv
          exact k δ2 x2 σ2 H2 (fin δ2 x2 iv) I2 g2
/-- rows[a][b] = v -/
theorem sr_setRow {i j l a b : Nat} {v : Int} {xs : List Int} (hi : δ[i]? = some (some (E.d (.int (a : Nat))))) (hj : δ[j]? = some (some (E.d (.int (b : Nat))))) (hl : δ[l]? = some (some (E.d (.int v)))) (ha : xss[a]? = some xs) (hb : b < xs.length) (q : QR δ (xss.set a (xs.set b v))) :
    SR G p (tAsg (tVar l) (gSub (tOp (rIx G.K) (tVar p) (tVar i)) (tVar j) rSetL)) δ xss QR := fun F D rs σ H E I k => by
  obtain ⟨w, e1, r1⟩ := I.ei.slot l _ hl
  obtain ⟨w2, e2, r2⟩ := I.ei.slot i _ hi
  obtain ⟨w3, e3, r3⟩ := I.ei.slot j _ hj
  cases r1; cases r2; cases r3
  have ep : σ[p]? = some (some (V.ref D)) := (I.ei.pin p (List.mem_singleton.mpr rfl)).trans I.s0
  have la : a < rs.length := by rw [I.len]; exact (List.getElem?_eq_some_iff.mp ha).1
  have hr : rs[a]? = some rs[a] := List.getElem?_eq_getElem la
  have row := I.row a _ xs hr ha
  have hm : rs[a] ∈ D :: rs := List.mem_cons_of_mem _ (List.mem_of_getElem? hr)
  have hat : atI (rs.map V.ref) ((a : Nat) : Int) = some (V.ref rs[a]) := by
    unfold atI
    rw [ixN_of (by rw [List.length_map]; exact la)]
    show (rs.map V.ref)[a]? = _
    rw [List.getElem?_map, hr]
    rfl
  refine ⟨_, e1, _, ep, _, e2, .inl ⟨D, _, _, V.ref rs[a], rfl, rfl, SqL.of I.hd, hat, ?_⟩⟩
  refine ⟨_, e3, rs[a], _, (b : Nat), b, rfl, rfl, row, ixN_of (by unfold intsV; rw [List.length_map]; exact hb), ?_⟩
  obtain ⟨f1, f2, f3, f4⟩ := I.fr _ hm
  obtain ⟨J, g⟩ := I.ei.poke (p := rs[a]) (ws := (intsV xs).set b (.int v)) (.inl hm) (I.ma _ hm) f1 f2 f3 row
  have es : (intsV xs).set b (V.int v) = intsV (xs.set b v) := by
    unfold intsV
    rw [List.map_set]
  rw [es] at J g ⊢
  have nd := List.nodup_cons.mp I.nd
  have neD : D ≠ rs[a] := fun z => nd.1 (by rw [z]; exact List.mem_of_getElem? hr)
  refine k δ _ σ _ q ⟨I.s0, J, I.nd, I.fr, I.ma, by rw [upd_ne neD]; exact I.hd, by rw [List.length_set]; exact I.len, fun i' r' xs' h1 h2 => ?_⟩ g
  by_cases e : a = i'
  · subst e
    rw [hr] at h1
    cases h1
    rw [List.getElem?_set_self (by rw [← I.len]; exact la)] at h2
    cases h2
    exact upd_same
  · rw [List.getElem?_set_ne e] at h2
    have ne : r' ≠ rs[a] := fun z => by
      exact e ((List.getElem?_inj la nd.2).mp (by rw [hr, h1, z]))
    rw [upd_ne ne]
    exact I.row i' r' xs' h1 h2
end
end DX


set_option Elab.async false
set_option linter.all false
set_option maxRecDepth 100000
set_option maxHeartbeats 1000000
namespace DX
open PySem PySem.Spec PyProof.Rows L2 GxR GA
open Classical
section
variable {G : Gx} {F : Fx} {δ δ' δ1 : DEnv} {σ σ' : L2.St} {H H' : Hp} {tl : TE} {QS : Out → Prop} {p : Nat} {xss : List (List Int)} {t : TS}
theorem Fx.owns_congr {S S' : List Addr} (h : ∀ a, a ∈ S ↔ a ∈ S') : F.owns S = F.owns S' := by
  unfold Fx.owns
  have e : (fun a => a ∈ S ∨ F.X0 a) = fun a => a ∈ S' ∨ F.X0 a := funext fun a => propext ⟨fun z => z.imp (h a).mp id, fun z => z.imp (h a).mpr id⟩
  rw [e]
theorem Fx.own_owns {S : List Addr} {q : Addr} : (F.owns S).own q = F.owns (q :: S) := by
  unfold Fx.owns Fx.own
  have e : (fun a => a = q ∨ (a ∈ S ∨ F.X0 a)) = fun a => a ∈ q :: S ∨ F.X0 a := funext fun a => propext ⟨fun z => z.elim (fun z => .inl (List.mem_cons.mpr (.inl z))) fun z => z.imp (List.mem_cons_of_mem _) id, fun z => z.elim (fun z => (List.mem_cons.mp z).imp id .inl) fun z => .inr (.inr z)⟩
  rw [e]
theorem Fx.own_one {q : Addr} : F.own q = F.owns [q] := by
  unfold Fx.owns Fx.own
  have e : (fun a => a = q ∨ F.X0 a) = fun a => a ∈ [q] ∨ F.X0 a := funext fun a => propext ⟨fun z => z.imp List.mem_singleton.mpr id, fun z => z.imp List.mem_singleton.mp id⟩
  rw [e]
theorem EI.repin (I : EI G F δ σ H) (hpn : G.pn = []) : EI (G.pin p) { F with s0 := σ } δ σ H :=
  ⟨I.len, I.slot, I.nd, I.own, I.keep, I.ex, fun i _ => rfl, I.tab, I.tk, I.mt, fun i xs a h1 h2 h3 => absurd (I.mx i xs a h1 h2 h3) (by rw [hpn]; simp), I.wl, I.k1⟩
theorem RI.out {σ1 : L2.St} {D : Addr} {rs : List Addr} (I : RI G { F with s0 := σ1 } p D rs δ xss σ H) (hpn : G.pn = []) : EI G F δ σ H := by
  have J := I.ei
  have sub : Gr (del H (Sl (Fx.owns { F with s0 := σ1 } (D :: rs)) δ σ)) (del H (Sl F δ σ)) := gr_del fun b u n hb e => ⟨fun z => hb (z.imp id .inr), e⟩
  refine ⟨J.len, fun i e h => ?_, J.nd, fun a ha => ?_, J.keep, fun a ha => J.ex a (.inr ha), fun i hi => ?_, J.tab, J.tk, J.mt, fun i xs a h1 h2 h3 => ?_, fun a w => ⟨((J.wl a w).1).resolve_left fun z => (I.fr a z).2.2.1 w, (J.wl a w).2⟩, J.k1⟩
  · obtain ⟨v, h1, h2⟩ := J.slot i e h
    refine ⟨v, h1, ?_⟩
    cases e with
    | d x => exact Rp.gr sub h2
    | err D => exact XR.gr sub h2
    | k n => exact h2
    | m ys =>
      obtain ⟨a, ws, h4, h5, h6⟩ := h2
      exact ⟨a, ws, h4, h5, RpL.gr sub h6⟩
  · rcases J.own a ha with z | ⟨z, zx⟩
    · exact .inl z
    · exact .inr ⟨z, fun w => zx (.inr w)⟩
  · rw [hpn] at hi; cases hi
  · have z := List.mem_singleton.mp (J.mx i xs a h1 h2 (.inr h3))
    subst z
    have ep := (J.pin i (List.mem_singleton.mpr rfl)).trans I.s0
    rw [h2] at ep
    cases ep
    exact absurd ⟨i, xs, h1, h2⟩ (I.ma D (by simp))
def rowsD (xss : List (List Int)) : PyData := .list (xss.map fun xs => .list (xs.map PyData.int))
/-- between two turns of the comprehension that makes the rows -/
structure MkI (G : Gx) (F : Fx) (D a : Addr) (ws : List V) (xs : List PyData) (n : Nat) (δ : DEnv) (σ : L2.St) (j : Nat) (H : Hp) : Prop where
  ex : ∃ rs : List Addr, rs.length = j ∧ EI G (F.owns (D :: rs)) δ σ H ∧ (D :: rs).Nodup ∧ (∀ b ∈ D :: rs, F.H0 b = none ∧ ¬ F.M0 b ∧ ¬ F.W0 b ∧ ¬ F.X0 b) ∧ (∀ b ∈ D :: rs, ¬ MA δ σ b) ∧
    H D = some (.lst (rs.map V.ref)) ∧ (∀ r ∈ rs, H r = some (.lst (intsV (List.replicate n 0)))) ∧ del H (Sl (F.owns (D :: rs)) δ σ) a = some (.lst ws) ∧ RpL G.K (del H (Sl (F.owns (D :: rs)) δ σ)) xs ws
theorem rep_one (n : Nat) (x : PyData) : (List.replicate n [x]).flatten = List.replicate n x := by
  induction n with
  | zero => rfl
  | succ n ih => rw [List.replicate_succ, List.flatten_cons, ih, List.replicate_succ]; rfl
theorem rp_ints0 {K : PySem.W.Frag} {Hd : Hp} : ∀ {ns : List Int} {vs : List V}, RpL K Hd (ns.map PyData.int) vs → vs = intsV ns
  | [], _, .nil => rfl
  | n :: ns, _, .cons r t => by
    cases r
    rw [rp_ints0 t]
    rfl
theorem rows_ok {K : PySem.W.Frag} {Hd : Hp} : ∀ {rs : List Addr} {xss : List (List Int)}, rs.length = xss.length → (∀ (i : Nat) (r : Addr) (xs : List Int), rs[i]? = some r → xss[i]? = some xs → Hd r = some (.lst (intsV xs))) → RpL K Hd (xss.map fun xs => .list (xs.map PyData.int)) (rs.map V.ref)
  | [], [], _, _ => .nil
  | r :: rs, xs :: xss, hl, h => .cons (.lst (h 0 r xs rfl rfl) (rp_of_ints xs)) (rows_ok (by simpa using hl) fun i r' xs' h1 h2 => h (i + 1) r' xs' (by simpa using h1) (by simpa using h2))
  | [], _ :: _, hl, _ => by cases hl
  | _ :: _, [], hl, _ => by cases hl
theorem tyes_go {f g : Hp → Prop} (h : f H) : tYes σ H fun b H3 => if b = true then f H3 else g H3 := by
  show (if true = true then f H else g H)
  rw [if_pos rfl]
  exact h
/-- p = [[0] * m for u in tl]; t; return (p, b) -/
theorem sd_rowsRet {u m b : Nat} (hpn : G.pn = []) (hum : m ≠ u) (h : ED G tl δ fun x δ1 => ∃ (xs : List PyData) (n : Nat), x = .list xs ∧ xs.length ≤ 10000 ∧ n ≤ 10000 ∧ δ1[m]? = some (some (E.d (.int (n : Nat)))) ∧ p < δ1.length ∧
      SR G p t ((wipeD δ1 [u]).set p none) (List.replicate xs.length (List.replicate n 0)) fun δ' xss => ∃ B : Int, δ'[b]? = some (some (E.d (.int B))) ∧ QS (.rt (.tuple [rowsD xss, .int B]) δ')) :
    SD G (tSeq (tAsg (tLc (iList G.K tl) (gName u) tYes (tOp rRep (tLst (tCons (tC (.int 0)) tNil)) (tVar m)) [u]) (gName p)) (tSeq t (tRet (tTup (tCons (tVar p) (tCons (tVar b) tNil)))))) δ QS := fun F σ H En I k =>
  h F σ H _ I fun x v δ1 H1 ⟨xs, n, e, hl, hn, hm, hp, sr⟩ J r => by
    subst e
    have hp' : ∀ i ∈ G.pn, i ∉ [u] := fun i hi => by rw [hpn] at hi; cases hi
    cases r with
    | @lst a ws _ h1 r1 =>
      obtain ⟨hno, h2⟩ := del_some.mp h1
      refine ⟨a, rfl, ⟨ws, SqL.of h2⟩, fun D hD => lc_list (K := G.K) (a := a) (xs := ws) (fun j H' => MkI G F D a ws xs n (wipeD δ1 [u]) (wipe σ [u]) j H') ?_ ?_ ?_ ?_⟩
      · have Jw := J.wiped hp'
        obtain ⟨f0, fM, fX, fm⟩ := Jw.fresh hD
        have N := New.mk_ (xs := []) Jw hD .nil
        have ma : ∀ b, MA (wipeD δ1 [u]) (wipe σ [u]) b → MA δ1 σ b := fun b ⟨i, ys, e1, e2⟩ => ⟨i, ys, (wipeD_some e1).1, (wipe_get (wipeD_some e1).2) ▸ e2⟩
        have g : Gr (del H1 (Sl F δ1 σ)) (del (upd H1 D (.lst [])) (Sl (F.owns [D]) (wipeD δ1 [u]) (wipe σ [u]))) := gr_del fun b o nt hb e => by
          have ne : b ≠ D := fun z => by rw [z, hD] at e; cases e
          exact ⟨fun z => z.elim (fun z => hb (.inl (ma b z))) fun z => z.elim (fun z => ne (List.mem_singleton.mp z)) fun z => hb (.inr z), by rw [upd_ne ne]; exact e⟩
        refine ⟨[], rfl, by rw [← Fx.own_one]; exact N.ei, by simp, fun b hb => ?_, fun b hb => ?_, upd_same, fun r hr => (by cases hr), g _ _ (nt_lst _) h1, RpL.gr g r1⟩
        · rw [List.mem_singleton.mp hb]
          exact ⟨f0, fM, N.w0, fX⟩
        · rw [List.mem_singleton.mp hb]
          exact fm
      · rintro j H2 _ ⟨rs, _, _, _, _, _, _, _, hw, _⟩
        exact SqL.of (del_some.mp hw).2
      · rintro j y H2 hy ⟨rs, hj, J2, nd, fr, nm, hD2, hrow, hw, rw_⟩
        have hjl : j < xs.length := by rw [r1.len]; exact (List.getElem?_eq_some_iff.mp hy).1
        have we : wipe ((wipe σ [u]).set u (some y)) [u] = wipe σ [u] := by
          show ((wipe σ [u]).set u (some y)).set u none = _
          rw [List.set_set]
          show (σ.set u none).set u none = σ.set u none
          rw [List.set_set]
        have wd : (wipeD δ1 [u]).set u none = wipeD δ1 [u] := by
          show (δ1.set u none).set u none = δ1.set u none
          rw [List.set_set]
        refine ⟨we, tyes_go ?_⟩
        have J3 := J2.set_n (i := u) (v := some y) (by rw [hpn]; simp)
        rw [wd] at J3
        have hm2 : (wipeD δ1 [u])[m]? = some (some (E.d (.int (n : Nat)))) := by
          show (δ1.set u none)[m]? = _
          rw [List.getElem?_set_ne (fun z => hum z.symm)]
          exact hm
        have ef : EF G (tOp rRep (tLst (tCons (tC (.int 0)) tNil)) (tVar m)) (wipeD δ1 [u]) fun ys δ2 => ys = (List.replicate n (0 : Int)).map PyData.int ∧ δ2 = wipeD δ1 [u] :=
          ef_rep (ef_lst (ea_cons (ed_int (ea_nil ⟨[.int 0], rfl, by decide, ed_var hm2 ⟨(n : Nat), rfl, by omega, by omega, by
            have := szq hn
            show 1 * (n : Int).toNat ≤ sizeLine
            rw [Int.toNat_natCast, Nat.one_mul]
            exact this, by rw [Int.toNat_natCast, rep_one, List.map_replicate], rfl⟩⟩))))
        refine EF.next ef J3 fun ys q δ2 H3 ⟨ey, ed⟩ N n1 kp g => ?_
        subst ed
        subst ey
        have J4 := N.ei
        have nq : q ∉ D :: rs ∧ ¬ F.X0 q := ⟨fun z => N.x0 (.inl z), fun z => N.x0 (.inr z)⟩
        have maw : ∀ {b : Addr}, MA (wipeD δ1 [u]) ((wipe σ [u]).set u (some y)) b → MA (wipeD δ1 [u]) (wipe σ [u]) b := fun {b} ⟨i, zs, e1, e2⟩ => ⟨i, zs, e1, by
          have ni : u ≠ i := fun z => (wipeD_some e1).2 (List.mem_singleton.mpr z.symm)
          rwa [List.getElem?_set_ne ni] at e2⟩
        have hD3 : H3 D = some (.lst (rs.map V.ref)) := kp D _ (nt_lst _) (fun z => nm D (by simp) (maw z)) (fr D (by simp)).2.2.1 hD2
        obtain ⟨us, hq, ru⟩ := N.at_
        have eus := rp_ints0 ru
        subst eus
        have neqD : q ≠ D := fun z => nq.1 (by rw [z]; simp)
        obtain ⟨fD0, fDM, fDW, fDX⟩ := fr D (by simp)
        obtain ⟨J5, g5⟩ := J4.poke (p := D) (ws := rs.map V.ref ++ [.ref q]) (.inr (.inl (by simp))) (fun z => nm D (by simp) (maw z)) fD0 fDM fDW hD3
        have J6 := J5.wiped hp'
        rw [we, wipeD_idem] at J6
        have memS : ∀ b, b ∈ q :: (D :: rs) ↔ b ∈ D :: (rs ++ [q]) := fun b => by
          simp only [List.mem_cons, List.mem_append, List.not_mem_nil, or_false]
          constructor
          · rintro (z | z | z)
            · exact .inr (.inr z)
            · exact .inl z
            · exact .inr (.inl z)
          · rintro (z | z | z)
            · exact .inr (.inl z)
            · exact .inr (.inr z)
            · exact .inl z
        have eF : (F.owns (D :: rs)).own q = F.owns (D :: (rs ++ [q])) := Fx.own_owns.trans (Fx.owns_congr memS)
        rw [eF] at J6
        have gg : Gr (del H2 (Sl (F.owns (D :: rs)) (wipeD δ1 [u]) (wipe σ [u]))) (del (upd H3 D (.lst (rs.map V.ref ++ [.ref q]))) (Sl (F.owns (D :: (rs ++ [q]))) (wipeD δ1 [u]) (wipe σ [u]))) := gr_del fun b o nt hb e => by
          have neD : b ≠ D := fun z => hb (.inr (.inl (by rw [z]; simp)))
          have neq : b ≠ q := fun z => by rw [z, n1] at e; cases e
          refine ⟨fun z => hb (z.imp id fun z => z.imp (fun z => (List.mem_cons.mp ((memS b).mpr z)).resolve_left neq) id), ?_⟩
          · rw [upd_ne neD]
            exact kp b o nt (fun z => hb (.inl (maw z))) (fun w => hb (.inr (.inr ((J2.wl b w).1.resolve_left fun z => (fr b z).2.2.1 w)))) e
        refine ⟨rs.map V.ref, hD3, by rw [List.length_map, hj]; exact Nat.lt_of_lt_of_le hjl (szq hl), rs ++ [q], by rw [List.length_append, hj]; rfl, J6, ?_, fun b hb => ?_, fun b hb => ?_, by rw [List.map_append]; exact upd_same, fun r hr => ?_, gg _ _ (nt_lst _) hw, RpL.gr gg rw_⟩
        · have nd1 := List.nodup_cons.mp nd
          refine List.nodup_cons.mpr ⟨fun z => ?_, List.nodup_append.mpr ⟨nd1.2, by simp, fun b hb c hc => ?_⟩⟩
          · rcases List.mem_append.mp z with z | z
            · exact nd1.1 z
            · exact neqD (List.mem_singleton.mp z).symm
          · rw [List.mem_singleton.mp hc]
            exact fun z => nq.1 (by rw [← z]; exact List.mem_cons_of_mem _ hb)
        · rcases List.mem_cons.mp ((memS b).mpr hb) with rfl | hb
          · exact ⟨N.h0, N.m0, N.w0, nq.2⟩
          · exact fr b hb
        · rcases List.mem_cons.mp ((memS b).mpr hb) with rfl | hb
          · intro z
            refine N.ma ?_
            obtain ⟨i, zs, e1, e2⟩ := z
            have ni : u ≠ i := fun z => (wipeD_some e1).2 (List.mem_singleton.mpr z.symm)
            exact ⟨i, zs, e1, by rw [List.getElem?_set_ne ni]; exact e2⟩
          · exact nm b hb
        · rcases List.mem_append.mp hr with hr | hr
          · have neD : r ≠ D := fun z => (List.nodup_cons.mp nd).1 (z ▸ hr)
            rw [upd_ne neD]
            exact kp r _ (nt_lst _) (fun z => nm r (List.mem_cons_of_mem _ hr) (maw z)) (fr r (List.mem_cons_of_mem _ hr)).2.2.1 (hrow r hr)
          · rw [List.mem_singleton.mp hr, upd_ne neqD]
            exact hq
      · rintro H2 ⟨rs, hj, J2, nd, fr, nm, hD2, hrow, hw, rw_⟩
        have J3 := J2.unwiped hp'
        have J4 := J3.set_n (i := p) (v := some (.ref D)) (by rw [hpn]; simp)
        have J5 := J4.repin (p := p) hpn
        have hps : p < σ.length := by rw [← J.len]; exact hp
        have R : RI G { F with s0 := σ.set p (some (.ref D)) } p D rs ((wipeD δ1 [u]).set p none) (List.replicate xs.length (List.replicate n 0)) (σ.set p (some (.ref D))) H2 := by
          refine ⟨by show (σ.set p (some (V.ref D)))[p]? = _; rw [List.getElem?_set_self hps], J5, nd, fr, fun b hb z => ?_, hD2, by rw [List.length_replicate, r1.len]; exact hj, fun i r ys e1 e2 => ?_⟩
          · obtain ⟨i, zs, e1, e2⟩ := z
            rcases get_set e1 with ⟨_, e, _⟩ | ⟨ne, e1⟩
            · cases e
            · rw [List.getElem?_set_ne (fun z => ne z.symm)] at e2
              exact nm b hb ⟨i, zs, e1, (wipe_get (wipeD_some e1).2).trans e2⟩
          · have := List.mem_of_getElem? e2
            rw [List.eq_of_mem_replicate this]
            exact hrow r (List.mem_of_getElem? e1)
        refine sr { F with s0 := σ.set p (some (.ref D)) } D rs _ H2 _ R fun δ2 x2 σ2 H3 ⟨B, hB, q⟩ I2 g2 => ?_
        have ep := (I2.ei.pin p (List.mem_singleton.mpr rfl)).trans I2.s0
        obtain ⟨w, e1, rB⟩ := I2.ei.slot b _ hB
        cases rB
        refine ⟨_, ep, _, e1, by show 2 ≤ sizeLine; decide, fun q0 h0 => ?_⟩
        have O := I2.out hpn
        have O2 := O.laid h0 (nt_tup [V.ref D, V.int B])
        obtain ⟨_, _, hX, hM⟩ := O.fresh h0
        have ne : ∀ {b : Addr} {u : HO}, H3 b = some u → b ≠ q0 := fun {b u} e z => by rw [z, h0] at e; cases e
        have vis : ∀ b ∈ D :: rs, ∀ vs, H3 b = some (.lst vs) → del (upd H3 q0 (.tup [V.ref D, V.int B])) (Sl F δ2 σ2) b = some (.lst vs) := fun b hb vs e => del_some.mpr ⟨fun z => z.elim (I2.ma b hb) (I2.fr b hb).2.2.2, by rw [upd_ne (ne e)]; exact e⟩
        exact k _ q σ2 _ _ O2 (.tup (.inl (.inl (del_some.mpr ⟨fun z => z.elim hM hX, upd_same⟩))) (.cons (.lst (vis D (by simp) _ I2.hd) (rows_ok I2.len fun i r ys h1 h2 => vis r (List.mem_cons_of_mem _ (List.mem_of_getElem? h1)) _ (I2.row i r ys h1 h2))) (.cons (.int _) .nil)))
end
end DX


set_option Elab.async false
set_option linter.all false
set_option maxRecDepth 100000
set_option maxHeartbeats 1000000
namespace DX
open PySem PySem.Spec PyProof.Rows L2 GxR GA
open Classical
/-! ### index of a text in a list of texts; sorted of ints -/
section
variable {G : Gx} {δ : DEnv} {te : TE} {tr : TA} {Q : PyData → DEnv → Prop} {QF : List PyData → DEnv → Prop}
theorem rp_strs {K : PySem.W.Frag} {H : Hp} : ∀ {ss : List Str} {vs : List V}, RpL K H (ss.map PyData.str) vs → vs = ss.map V.str
  | [], _, .nil => rfl
  | b :: bs, _, .cons r t => by
    cases r
    rw [rp_strs t]
    rfl
theorem flat_strs (ss : List Str) : (ss.map V.str).all flatV = true := by
  rw [List.all_eq_true]
  intro x hx
  obtain ⟨b, _, rfl⟩ := List.mem_map.mp hx
  rfl
theorem ed_idxS (h : ED G te δ fun x δ1 => ∃ ss : List Str, x = .list (ss.map PyData.str) ∧ EA G tr δ1 fun as δ2 => ∃ (s : Str) (j : Nat), allD as = some [.str s] ∧ ss[j]? = some s ∧ (∀ m, m < j → ss[m]? ≠ some s) ∧ Q (.int (j : Nat)) δ2) : ED G (tBM G.K "list" (rIndex G.K) te tr) δ Q := fun F σ H R I k =>
  h.go I fun x v δ1 H1 ⟨ss, e, q1⟩ s1 r1 => by
    subst e
    cases r1 with
    | @lst a ws _ h1 r1 =>
      have e2 := rp_strs r1
      subst e2
      refine ⟨.inl ⟨rfl, _, SqL.of (del_some.mp h1).2⟩, q1.go s1.ei fun as vs δ2 H2 ⟨s, j, e, hj, hm, q⟩ s2 r2 => ?_⟩
      have r3 := allD_ok e r2
      cases r3 with
      | cons r4 r5 =>
        cases r5; cases r4
        have hs : SqL G.K H2 a (ss.map V.str) := SqL.of (del_some.mp (s2.gr _ _ (nt_lst _) h1)).2
        refine ⟨a, _, .str s, j, .str s, rfl, rfl, hs, rfl, flat_strs ss, by rw [List.getElem?_map, hj]; rfl, by show (s == s) = true; simp, fun m z hmj hz => ?_, k _ _ δ2 H2 q s2.ei (.int _)⟩
        rw [List.getElem?_map] at hz
        cases hmm : ss[m]? with
        | none => rw [hmm] at hz; cases hz
        | some t =>
          rw [hmm] at hz
          cases hz
          show (t == s) = false
          rw [beq_eq_false_iff_ne]
          intro z
          exact hm m hmj (by rw [hmm, z])
theorem flat_intsV (ns : List Int) : (ns.map V.int).all flatV = true := by
  rw [List.all_eq_true]
  intro x hx
  obtain ⟨b, _, rfl⟩ := List.mem_map.mp hx
  rfl
theorem ed_inI {ta tb : TE} (h : ED G ta δ fun x δ1 => ED G tb δ1 fun y δ2 => ∃ (i : Int) (ns : List Int), x = .int i ∧ y = .list (ns.map PyData.int) ∧ Q (.bool (ns.any fun n => n == i)) δ2) : ED G (tOp (rIn G.K false) ta tb) δ Q :=
  ed_two h fun F σ H R x y u v δ2 ⟨i, ns, e1, e2, q⟩ I r1 r2 k => by
    subst e1 e2
    cases r1
    cases r2 with
    | lst h1 r3 =>
      have e3 := rp_ints r3
      subst e3
      refine ⟨_, ns.map V.int, rfl, .inl (SqL.of (del_some.mp h1).2), rfl, flat_intsV ns, ?_⟩
      have e4 : (if false = true then !inV (V.int i) (ns.map V.int) else inV (V.int i) (ns.map V.int)) = ns.any fun n => n == i := by
        rw [if_neg Bool.false_ne_true]
        unfold inV
        rw [List.any_map]
        rfl
      rw [e4]
      exact k _ _ δ2 H q I (.bl _)
theorem ed_ninI {ta tb : TE} (h : ED G ta δ fun x δ1 => ED G tb δ1 fun y δ2 => ∃ (i : Int) (ns : List Int), x = .int i ∧ y = .list (ns.map PyData.int) ∧ Q (.bool (!ns.any fun n => n == i)) δ2) : ED G (tOp (rIn G.K true) ta tb) δ Q :=
  ed_two h fun F σ H R x y u v δ2 ⟨i, ns, e1, e2, q⟩ I r1 r2 k => by
    subst e1 e2
    cases r1
    cases r2 with
    | lst h1 r3 =>
      have e3 := rp_ints r3
      subst e3
      refine ⟨_, ns.map V.int, rfl, .inl (SqL.of (del_some.mp h1).2), rfl, flat_intsV ns, ?_⟩
      have e4 : (if true = true then !inV (V.int i) (ns.map V.int) else inV (V.int i) (ns.map V.int)) = !ns.any fun n => n == i := by
        rw [if_pos rfl]
        unfold inV
        rw [List.any_map]
        rfl
      rw [e4]
      exact k _ _ δ2 H q I (.bl _)
theorem ef_sorted (h : EA G tr δ fun as δ1 => ∃ ns : List Int, allD as = some [.list (ns.map PyData.int)] ∧ ns.length < 64 ∧ ∀ ns' : List Int, ns'.Perm ns → ns'.Pairwise (· ≤ ·) → QF (ns'.map PyData.int) δ1) : EF G (tCB (rSorted G.K) tr) δ QF := fun F σ H R I k =>
  h F σ H _ I fun as vs δ1 H1 ⟨ns, e, hl, q⟩ J r => by
    have r2 := allD_ok e r
    cases r2 with
    | cons r3 r4 =>
      cases r4
      cases r3 with
      | @lst a ws _ h1 r1 =>
        have e2 := rp_ints r1
        subst e2
        exact ⟨a, ns, rfl, SqL.of (del_some.mp h1).2, hl, fun ns' p hp ho h0 => k _ p δ1 _ (q ns' hp ho) (New.mk_ J h0 (rp_of_ints ns'))⟩
end
end DX


set_option Elab.async false
set_option linter.all false
set_option maxRecDepth 100000
set_option maxHeartbeats 1000000
namespace DX
open PySem PySem.Spec PyProof.Rows L2 GxR GA
open Classical
/-! ### data without dicts, of some depth: may be asked for == whatever its length -/
structure Lay (n : Nat) (x : PyData) : Prop where
  nd : noDct x = true
  lay : x.canLay0 = true
  dep : x.depth ≤ n
structure LayAll (n : Nat) (xs : List PyData) : Prop where
  nd : noDctL xs = true
  lay : PyData.canLayAll0 xs = true
  dep : PyData.depthAll xs ≤ n
theorem layAll_of {n : Nat} : ∀ {xs : List PyData}, (∀ x ∈ xs, Lay n x) → LayAll n xs
  | [], _ => ⟨rfl, rfl, Nat.zero_le _⟩
  | x :: xs, h => by
    have a := h x (by simp)
    have b := layAll_of fun y hy => h y (List.mem_cons_of_mem _ hy)
    exact ⟨by simp [noDctL, a.nd, b.nd], by simp [PyData.canLayAll0, a.lay, b.lay], by have := a.dep; have := b.dep; simp [PyData.depthAll]; omega⟩
theorem lay_int (n : Nat) (i : Int) : Lay n (.int i) := ⟨rfl, rfl, by simp [PyData.depth]⟩
theorem lay_none (n : Nat) : Lay n .none := ⟨rfl, rfl, by simp [PyData.depth]⟩
theorem lay_bool (n : Nat) (b : Bool) : Lay n (.bool b) := ⟨rfl, rfl, by simp [PyData.depth]⟩
theorem lay_str (n : Nat) {b : Str} (h : (PyData.str b).canLay0 = true) : Lay n (.str b) := ⟨rfl, h, by simp [PyData.depth]⟩
theorem lay_list {n : Nat} {xs : List PyData} (h : ∀ x ∈ xs, Lay n x) : Lay (n + 1) (.list xs) := by
  have a := layAll_of h
  exact ⟨a.nd, by rw [PyData.canLay0]; exact a.lay, by have := a.dep; rw [PyData.depth]; omega⟩
theorem lay_tup {n : Nat} {xs : List PyData} (h : ∀ x ∈ xs, Lay n x) : Lay (n + 1) (.tuple xs) := by
  have a := layAll_of h
  exact ⟨a.nd, by rw [PyData.canLay0]; exact a.lay, by have := a.dep; rw [PyData.depth]; omega⟩
theorem Lay.eqOk {n : Nat} {x : PyData} (h : Lay n x) (hn : n ≤ 64) : EqOk x := ⟨h.nd, by
  unfold SeqAt.shaped
  rw [h.lay, decide_eq_true (Nat.le_trans h.dep hn)]
  rfl⟩
theorem eqv_nilL (xs : List PyData) : PyData.eqv (.list xs) (.list []) = xs.isEmpty := by
  cases xs with
  | nil => rfl
  | cons x xs => rfl
end DX


set_option Elab.async false
set_option linter.all false
set_option maxRecDepth 100000
set_option maxHeartbeats 1000000
namespace DX
open PySem PySem.Spec PyProof.Rows L2 GxR GA
/-! ### str of a number -/
def rStrI : List V → Hp → VK → Prop := fun xs H Q => ∃ i, xs = [.int i] ∧ i.natAbs.log2 < 1920 ∧ Q (.str (toString i)) H
theorem c_strI {X : Cx} : CallR X (.type "str") rStrI := call_str_int
section
variable {G : Gx} {δ : DEnv} {tr : TA} {Q : PyData → DEnv → Prop}
theorem ed_strI (h : EA G tr δ fun as δ1 => ∃ i, allD as = some [.int i] ∧ i.natAbs.log2 < 1920 ∧ Q (.str (toString i)) δ1) : ED G (tCB rStrI tr) δ Q := fun F σ H R I k =>
  h F σ H _ I fun as vs δ1 H1 ⟨i, e, hz, q⟩ J r1 => by
    have r2 := allD_ok e r1
    cases r2 with
    | cons r3 r4 =>
      cases r4
      cases r3
      exact ⟨_, rfl, hz, k _ _ δ1 _ q J (.str _)⟩
end
theorem smk_strI {i : Int} (h : i.natAbs < 100000000000) : Smk 42 0 (.str (toString i)) := by
  have h1 := int_text_length_le10 (a := i) (k := 11) (by decide) h
  have e : (Str.ofString (toString i)).length = (toString i).length := PySem.ofString_length _
  refine smk_str ?_ ?_
  · simp only [PyData.leavesShort]
    rw [List.all_eq_true]
    intro c hc
    have e : ((toString i : String) : Str).cps.toList = (toString i).toList.map fun c => c.toNat := by
      show (Str.ofString (toString i)).cps.toList = _
      rw [Str.ofString_eq_toList]
    rw [e] at hc
    obtain ⟨d, hd, rfl⟩ := List.mem_map.mp hc
    have := PySem.int_ascii i d hd
    exact decide_eq_true (Nat.lt_trans this (by decide))
  · have : (PyData.str (toString i)).weight = (Str.ofString (toString i)).length := by
      simp only [PyData.weight]
      rfl
    rw [this, e]
    omega
/-! ### repr of lists, tuples, numbers and None -/
def rReprA (K : PySem.W.Frag) : List V → Hp → VK → Prop := fun xs H Q => rReprE K xs H Q ∨ (∃ i, xs = [.int i] ∧ i.natAbs.log2 < 1920 ∧ Q (.str (toString i)) H) ∨ (xs = [.non] ∧ Q (.str "None") H)
theorem c_reprA {X : Cx} (sy : EndG.SysD X.base) (hg : X.A.guards = some []) (hu : X.A.units + 70 < cLine) : CallR X (.builtin "repr") (rReprA X.K) := by
  intro pins s σ H xs us Q I r h
  rcases h with h | ⟨i, rfl, hz, q⟩ | ⟨rfl, q⟩
  · exact c_reprE sy hg hu pins s σ H xs us Q I r h
  · obtain ⟨u, rfl, t, rfl⟩ := vals1 r
    exact PySem.P.repr_of_int hz ⟨.str _, H, I.tok _, ⟨_, rfl⟩, q⟩
  · obtain ⟨u, rfl, ru⟩ := r.one
    cases ru
    exact PySem.P.repr_of_none ⟨.str _, H, I.tok _, ⟨_, rfl⟩, q⟩
def kindA : PyData → Bool
  | .list _ | .tuple _ | .none => true
  | .int i => decide (i.natAbs.log2 < 1920)
  | _ => false
section
variable {G : Gx} {δ : DEnv} {tr : TA} {Q : PyData → DEnv → Prop}
theorem ed_reprA (h : EA G tr δ fun as δ1 => ∃ x, allD as = some [x] ∧ kindA x = true ∧ okD x = true ∧ x.depth ≤ 64 ∧ x.showable = true ∧ x.shown.length ≤ sizeLine ∧ Q (.str x.shown) δ1) : ED G (tCB (rReprA G.K) tr) δ Q := fun F σ H R I k =>
  h F σ H _ I fun as vs δ1 H1 ⟨x, e, kind, ok, dp, sw, sz, q⟩ J r1 => by
    have r2 := allD_ok e r1
    cases r2 with
    | cons r3 r4 =>
      cases r4
      have dq := r3.full.dq ok
      cases x with
      | list ys =>
        cases r3 with
        | lst _ _ => exact .inl ⟨_, _, rfl, dq, dp, sw, sz, k _ _ δ1 H1 q J (.str _)⟩
      | tuple ys =>
        cases r3 with
        | tup _ _ => exact .inl ⟨_, _, rfl, dq, dp, sw, sz, k _ _ δ1 H1 q J (.str _)⟩
      | none =>
        cases r3
        rw [PyData.shown_none] at q
        exact .inr (.inr ⟨rfl, k _ _ δ1 H1 q J (.str _)⟩)
      | int i =>
        cases r3
        rw [PyData.shown_int] at q
        exact .inr (.inl ⟨i, rfl, of_decide_eq_true kind, k _ _ δ1 H1 q J (.str _)⟩)
      | _ => cases kind
end
end DX


set_option Elab.async false
set_option linter.all false
set_option maxRecDepth 100000
set_option maxHeartbeats 1000000
/-! dicts whose keys are pairs of numbers and tuples of numbers -/
namespace NK
open PySem PySem.Spec PyProof.Rows L2
section
variable {prog : Program} {w : World} {A : Around} {E : Value → Shared → Prop} {s : Shared}
/-- a tuple whose parts are quiet is quiet -/
theorem quietTup (n : Nat) {a : Addr} {o : Obj} {items : Array Value} {m : Nat} {Q : Bool → Shared → Prop} (hT : s.TypeIs (.ref a) "tuple") (ho : s.heap.get? a = some o) (hd : o.data = .seq items m)
    (parts : ∀ v ∈ items.toList, ∀ Q' : Bool → Shared → Prop, Q' true s → wpAny (model prog w) A (eqIsQuiet n v) Q' E s) (h : Q true s) : wpAny (model prog w) A (eqIsQuiet (n + 1) (.ref a)) Q E s := by
  rw [eqIsQuiet]
  refine wpAny_bind (wpAny_specialOf hT F.slot_tuple_eq.lookup ?_)
  show wpAny _ _ (isInstance (.ref a) (.type "tuple") >>= _) _ _ s
  refine wpAny_bind (wpAny_isInstance hT isSubtype_tuple_tuple ?_)
  simp only [Bool.not_true, Bool.false_eq_true, if_false]
  refine wpAny_bind (wpAny_seqItems ho hd ?_)
  refine wpAny_bind ?_
  show wpAny _ _ (forIn items _ _) _ _ s
  rw [← Array.forIn_toList]
  generalize items.toList = l at parts
  refine wpAny_forIn_list _ (fun rest r s' => r.1 = none ∧ s' = s ∧ ∀ v ∈ rest, v ∈ l) _ (fun v rest r s' z => ?_) (fun r s' z => ?_) _ _ ⟨rfl, rfl, fun _ z => z⟩
  · obtain ⟨hr, rfl, hall⟩ := z
    refine wpAny_bind (parts v (hall v (by simp)) _ ?_)
    simp only [Bool.not_true, Bool.false_eq_true, if_false]
    exact wpAny_pure ⟨rfl, rfl, fun u hu' => hall u (List.mem_cons_of_mem _ hu')⟩
  · obtain ⟨r1, r2⟩ := r
    obtain ⟨hr, rfl, _⟩ := z
    simp only at hr
    subst hr
    exact wpAny_pure h
end
/-- what may be part of a pair -/
structure IK (prog : Program) (w : World) (K : Type) [DecidableEq K] where
  is : Heap → K → Value → Prop
  hash : K → Int
  draws : K → Nat
  inj : ∀ {h : Heap} {v : Value} {x y : K}, is h x v → is h y v → x = y
  keeps : ∀ {h h' : Heap} {k : K} {v : Value} {d : Addr} {o : Obj} {es ep}, is h k v → h.get? d = some o → o.data = .dict es ep → Heap.SameBut d h h' → is h' k v
  pyHash : ∀ {A : Around} {E : Value → Shared → Prop} {s : Shared} {k : K} {v : Value} {Q : Int → Shared → Prop}, A.units < cLine → is s.heap k v → Q (hash k) { s with toks := s.toks + draws k } → wpAny (model prog w) A (PySem.pyHash v) Q E s
  eqBool : ∀ {A : Around} {E : Value → Shared → Prop} {s : Shared} {x y : K} {u v : Value} {Q : Bool → Shared → Prop}, A.units < cLine → is s.heap x u → is s.heap y v → Q (decide (x = y)) s → wpAny (model prog w) A (PySem.eqBool u v) Q E s
  quiet : ∀ {A : Around} {E : Value → Shared → Prop} {s : Shared} {k : K} {v : Value} {Q : Bool → Shared → Prop}, is s.heap k v → Q true s → wpAny (model prog w) A (eqIsQuiet 7 v) Q E s
def ikInt (prog : Program) (w : World) : IK prog w Int where
  is := fun _ k v => (intKind prog w).is k v = true
  hash := (intKind prog w).hash
  draws := fun _ => 1
  inj := fun a b => (intKind prog w).inj _ _ _ a b
  keeps := fun a _ _ _ => a
  pyHash := fun _ a q => (intKind prog w).pyHash a q
  eqBool := fun _ a b q => (intKind prog w).eqBool a b q
  quiet := fun a q => by rw [eqIsQuiet_byValue _ ((intKind _ _).byValue _ _ a)]; exact wpAny_pure q
def ikTup (prog : Program) (w : World) : IK prog w (List Int) where
  is := fun h k v => ∃ a, v = .ref a ∧ IsTupleKey (intKind prog w) h k a
  hash := tupleKeyHash (intKind prog w)
  draws := fun ks => ks.length + 1
  inj := fun ⟨a, e, x⟩ ⟨b, e', y⟩ => by
    cases e.symm.trans e'
    exact x.inj y
  keeps := fun ⟨a, e, x⟩ ho hd hs => ⟨a, e, x.keeps ho hd hs⟩
  pyHash := fun hu ⟨a, e, x⟩ q => by subst e; exact wpAny_pyHash_tuple hu x q
  eqBool := fun hu ⟨a, e, x⟩ ⟨b, e', y⟩ q => by subst e e'; exact wpAny_eqBool_tuple hu x y q
  quiet := fun ⟨a, e, x⟩ q => by
    subst e
    have hT := x.typeIs
    obtain ⟨o, items, n, ho, _, hd, hi⟩ := x
    exact quietTup 6 hT ho hd (fun v hv Q' q' => by rw [eqIsQuiet_byValue _ (hi.byValue v hv)]; exact wpAny_pure q') q
section
variable {prog : Program} {w : World} {K1 K2 : Type} [DecidableEq K1] [DecidableEq K2] (k1 : IK prog w K1) (k2 : IK prog w K2)
def IsPair (h : Heap) (k : K1 × K2) (a : Addr) : Prop := ∃ o u v n, h.get? a = some o ∧ o.cls = .type "tuple" ∧ o.data = .seq #[u, v] n ∧ k1.is h k.1 u ∧ k2.is h k.2 v
def pairHash (k : K1 × K2) : Int := reduceHash (Builtin.Tuple.tupleHashOf [k1.hash k.1, k2.hash k.2])
variable {k1 k2} {A : Around} {E : Value → Shared → Prop} {s : Shared}
theorem IsPair.typeIs {k : K1 × K2} {a : Addr} (x : IsPair k1 k2 s.heap k a) : s.TypeIs (.ref a) "tuple" := by
  obtain ⟨o, u, v, n, ho, hc, _⟩ := x
  exact ⟨o, ho, hc⟩
theorem IsPair.inj {h : Heap} {a : Addr} {x y : K1 × K2} (hx : IsPair k1 k2 h x a) (hy : IsPair k1 k2 h y a) : x = y := by
  obtain ⟨o, u, v, n, ho, _, hd, h1, h2⟩ := hx
  obtain ⟨o', u', v', n', ho', _, hd', h1', h2'⟩ := hy
  obtain rfl : o = o' := Option.some.inj (ho.symm.trans ho')
  rw [hd] at hd'
  injection hd' with e _
  have e : #[u, v].toList = #[u', v'].toList := by rw [e]
  cases e
  exact Prod.ext (k1.inj h1 h1') (k2.inj h2 h2')
theorem IsPair.keeps {h h' : Heap} {k : K1 × K2} {a d : Addr} {o : Obj} {es ep} (x : IsPair k1 k2 h k a) (ho : h.get? d = some o) (hd : o.data = .dict es ep) (hs : Heap.SameBut d h h') : IsPair k1 k2 h' k a := by
  obtain ⟨o', u, v, n, ho', hc, hd', h1, h2⟩ := x
  have hne : a ≠ d := fun e => by
    subst e
    cases ho'.symm.trans ho
    rw [hd] at hd'
    cases hd'
  exact ⟨o', u, v, n, (hs.2 a hne).trans ho', hc, hd', k1.keeps h1 ho hd hs, k2.keeps h2 ho hd hs⟩
theorem pair_hash {k : K1 × K2} {a : Addr} {Q : Int → Shared → Prop} (hu : A.units + 1 < cLine) (hk : IsPair k1 k2 s.heap k a) (h : Q (pairHash k1 k2 k) { s with toks := s.toks + (k1.draws k.1 + k2.draws k.2 + 1) }) :
    wpAny (model prog w) A (pyHash (.ref a)) Q E s := by
  have hT := hk.typeIs
  obtain ⟨o, u, v, n, ho, _, hd, h1, h2⟩ := hk
  unfold pyHash
  first | unfold pyHashByItsType | skip
  first | refine wpAny_bind (wpAny_cRoomFor_or (.inr (by omega)) ?_) | skip
  refine wpAny_bind (wpAny_specialOf hT F.slot_tuple_hash.lookup ?_)
  show wpAny _ _ (if (some (Value.builtin "tuple.__hash__") == some Value.none) = true then _ else _) Q E s
  rw [if_neg (by rw [beq_builtin_none]; exact Bool.false_ne_true)]
  refine wpAny_bind (wpAny_specialOf hT F.slot_tuple_hash.lookup ?_)
  show wpAny _ _ (callSpecialIfBoundUnlessNone? (.ref a) "__hash__" _ >>= _) Q E s
  refine wpAny_bind (wpAny_callSpecialIfBoundUnlessNone?_slot hT F.slot_tuple_hash (wpAny_call_entry F.slot_tuple_hash hT F.entry_tuple_hash ?_ (F.args_tuple_hash_1 _)))
  show wpAny _ _ (Builtin.Tuple.tupleItemsOf (.ref a) >>= _) _ _ s
  refine wpAny_bind (wpAny_tupleItemsOf ho hd ?_)
  refine wpAny_bind ?_
  rw [← Array.forIn_toList]
  show wpAny _ _ (forIn [u, v] _ _) _ _ s
  have hu1 : A.in1.units < cLine := hu
  rw [List.forIn_cons]
  refine wpAny_bind (wpAny_bind (k1.pyHash hu1 h1 (wpAny_pure ?_)))
  show wpAny _ _ (forIn [v] _ _) _ _ _
  rw [List.forIn_cons]
  refine wpAny_bind (wpAny_bind (k2.pyHash hu1 h2 (wpAny_pure ?_)))
  show wpAny _ _ (forIn [] _ _) _ _ _
  rw [List.forIn_nil]
  refine wpAny_pure ?_
  show wpAny _ _ (retInt (Builtin.Tuple.tupleHashOf [k1.hash k.1, k2.hash k.2])) _ _ _
  refine wpAny_ret_mkInt ?_
  have e : s.toks + k1.draws k.1 + k2.draws k.2 + 1 = s.toks + (k1.draws k.1 + k2.draws k.2 + 1) := by omega
  show wpAny _ _ (if (decide (-(2 : Int) ^ 63 ≤ Builtin.Tuple.tupleHashOf [k1.hash k.1, k2.hash k.2]) && decide (Builtin.Tuple.tupleHashOf [k1.hash k.1, k2.hash k.2] < 2 ^ 63)) = true then _ else _) Q E _
  unfold pairHash reduceHash at h
  rw [← e] at h
  by_cases hr : (decide (-(2 : Int) ^ 63 ≤ Builtin.Tuple.tupleHashOf [k1.hash k.1, k2.hash k.2]) && decide (Builtin.Tuple.tupleHashOf [k1.hash k.1, k2.hash k.2] < 2 ^ 63)) = true
  · rw [if_pos hr] at h ⊢
    exact wpAny_pure h
  · rw [if_neg hr] at h ⊢
    exact wpAny_bind (wpAny_rule (wpAny_pure h))
theorem pair_eqTree {x y : K1 × K2} {a b : Addr} {P : Fin → Shared → Prop} (hu : A.units < cLine) (hx : IsPair k1 k2 s.heap x a) (hy : IsPair k1 k2 s.heap y b) (h : P (.done (.ret (.bool (decide (x = y))))) s) :
    wpAny (model prog w) A (Builtin.«tuple.__eq__» ⟨[.ref a, .ref b], []⟩) P E s := by
  have hTb := hy.typeIs
  obtain ⟨oa, u, v, na, hoa, _, hda, h1, h2⟩ := hx
  obtain ⟨ob, u', v', nb, hob, _, hdb, h1', h2'⟩ := hy
  show wpAny _ _ (isInstance (.ref b) (.type "tuple") >>= _) _ _ s
  refine wpAny_bind (wpAny_isInstance hTb isSubtype_tuple_tuple ?_)
  simp only [Bool.not_true, Bool.false_eq_true, if_false]
  refine wpAny_bind (wpAny_tupleItemsOf hoa hda ?_)
  refine wpAny_bind (wpAny_tupleItemsOf hob hdb ?_)
  refine wpAny_bind ?_
  show wpAny _ _ (forIn [(u, u'), (v, v')] _ _) _ _ s
  rw [List.forIn_cons]
  refine wpAny_bind (wpAny_bind (k1.eqBool hu h1 h1' ?_))
  by_cases e1 : x.1 = y.1
  · rw [decide_eq_true e1]
    simp only [Bool.not_true, Bool.false_eq_true, if_false]
    refine wpAny_pure ?_
    show wpAny _ _ (forIn [(v, v')] _ _) _ _ _
    rw [List.forIn_cons]
    refine wpAny_bind (wpAny_bind (k2.eqBool hu h2 h2' ?_))
    by_cases e2 : x.2 = y.2
    · rw [decide_eq_true e2]
      simp only [Bool.not_true, Bool.false_eq_true, if_false]
      refine wpAny_pure ?_
      show wpAny _ _ (forIn [] _ _) _ _ _
      rw [List.forIn_nil]
      refine wpAny_pure ?_
      rw [decide_eq_true (Prod.ext e1 e2)] at h
      exact wpAny_pure h
    · rw [decide_eq_false e2]
      simp only [Bool.not_false, if_true]
      rw [decide_eq_false fun z => e2 (congrArg Prod.snd z)] at h
      exact wpAny_bind (wpAny_pure (wpAny_pure (wpAny_pure (wpAny_pure h))))
  · rw [decide_eq_false e1]
    simp only [Bool.not_false, if_true]
    rw [decide_eq_false fun z => e1 (congrArg Prod.fst z)] at h
    exact wpAny_bind (wpAny_pure (wpAny_pure (wpAny_pure (wpAny_pure h))))
theorem pair_eqBool {x y : K1 × K2} {a b : Addr} {Q : Bool → Shared → Prop} (hu : A.units + 1 < cLine) (hx : IsPair k1 k2 s.heap x a) (hy : IsPair k1 k2 s.heap y b) (h : Q (decide (x = y)) s) :
    wpAny (model prog w) A (eqBool (.ref a) (.ref b)) Q E s := by
  unfold eqBool
  try with_reducible refine wpAny_holding ?_
  show wpAny _ _ (if (Value.ref a == Value.ref b) = true then _ else _) Q E s
  by_cases hab : (Value.ref a == Value.ref b) = true
  · rw [if_pos hab]
    have e : a = b := by have := eq_of_beq hab; injection this
    subst e
    have e := hx.inj hy
    subst e
    exact wpAny_bind (wpAny_rule (wpAny_pure (by simpa using h)))
  · rw [if_neg hab]
    exact wpAny_bind (wpAny_richCompare_same_room (op := .Eq) hx.typeIs hy.typeIs F.slot_tuple_eq
      (wpAny_call_entry F.slot_tuple_eq hx.typeIs F.entry_tuple_eq (pair_eqTree (by first | exact hu | (show A.in1.units < cLine; exact hu) | omega) hx hy ⟨_, rfl, (fun e => nomatch e), wpAny_truthy_bool h⟩) (F.args_tuple_eq_2 _ _)) (by omega))
theorem pair_quiet {k : K1 × K2} {a : Addr} {Q : Bool → Shared → Prop} (hk : IsPair k1 k2 s.heap k a) (h : Q true s) : wpAny (model prog w) A (eqIsQuiet 8 (.ref a)) Q E s := by
  have hT := hk.typeIs
  obtain ⟨o, u, v, n, ho, _, hd, h1, h2⟩ := hk
  refine quietTup 7 hT ho hd (fun z hz Q' q' => ?_) h
  rcases List.mem_cons.mp hz with rfl | hz
  · exact k1.quiet h1 q'
  · rcases List.mem_cons.mp hz with rfl | hz
    · exact k2.quiet h2 q'
    · cases hz
end
def pairKind {prog : Program} {w : World} {K1 K2 : Type} [DecidableEq K1] [DecidableEq K2] (k1 : IK prog w K1) (k2 : IK prog w K2) : HeapKind prog w (K1 × K2) where
  is := IsPair k1 k2
  hash := pairHash k1 k2
  draws := fun k => k1.draws k.1 + k2.draws k.2 + 1
  room := fun A => A.units + 1 < cLine
  inj := fun a b => a.inj b
  keeps := fun x ho hd hs => x.keeps ho hd hs
  pyHash := fun hu hk h => pair_hash hu hk h
  eqBool := fun hu hx hy h => pair_eqBool hu hx hy h
  quiet := fun hk h => pair_quiet hk h
end NK


set_option Elab.async false
set_option linter.all false
set_option maxRecDepth 100000
set_option maxHeartbeats 1000000
/-! such dicts as tracked things: in, d[k] = v, d[k] -/
namespace L2
open PySem PySem.Spec PyProof.Rows NK
/-- a form of key -/
structure Shp (K : Type) [DecidableEq K] where
  hash : K → Int
  at_ : PySem.W.Frag → Hp → K → Addr → Prop
  kind : ∀ (P : Program) (w : World), HeapKind P w K
  hk : ∀ P w k, (kind P w).hash k = hash k
  room : ∀ P w (A : Around), A.units + 2 < cLine → (kind P w).room A.in1
  real : ∀ {P w} {F : PySem.W.Frag} {H : Hp} {h : Heap} {k : K} {a : Addr}, HOk P w H h → F.In h → at_ F H k a → (kind P w).is h k a
theorem tupReal {P : Program} {w : World} {F : PySem.W.Frag} {H : Hp} {h : Heap} {a : Addr} {xs : List V} (ok : HOk P w H h) (KX : F.In h) (q : SqT F H a xs) : ∃ (its : List Value) (o : Obj) (n : Nat), Vals xs its ∧ h.get? a = some o ∧ o.cls = .type "tuple" ∧ o.data = .seq its.toArray n := by
  cases q with
  | inl z =>
    have ⟨_, its, r, o, e, hc, n, hd⟩ := (z.ok ok : ObjOk P w H h a (.tup xs))
    exact ⟨its, o, n, r, e, hc, hd⟩
  | inr z =>
    have ⟨o, its, n, e, hc, hd, _, r⟩ := z
    exact ⟨its.toList, o, n, r, KX a o e, hc, by rw [hd]⟩
theorem real_tup {P : Program} {w : World} {F : PySem.W.Frag} {H : Hp} {h : Heap} {ns : List Int} {a : Addr} (ok : HOk P w H h) (KX : F.In h) (e : SqT F H a (ns.map V.int)) : IsTupleKey (intKind P w) h ns a := by
  obtain ⟨its, o, n, r, h1, h2, h3⟩ := tupReal ok KX e
  refine ⟨o, its.toArray, n, h1, h2, h3, ?_⟩
  have key : ∀ {ns : List Int} {its : List Value}, Vals (ns.map V.int) its → ItemsAre (intKind P w) ns its := by
    intro ns
    induction ns with
    | nil => intro its r; cases r; exact .nil
    | cons n ns ih =>
      intro its r
      cases r with
      | cons h t =>
        obtain ⟨tk, rfl⟩ := h
        exact .cons (by simp [intKind, Value.isInt]) (ih t)
  simpa using key r
def hashT (ks : List Int) : Int := reduceHash (Builtin.Tuple.tupleHashOf (ks.map hashInt))
def atA (F : PySem.W.Frag) (H : Hp) (k : Int × List Int) (a : Addr) : Prop := ∃ c, SqT F H a [.int k.1, .ref c] ∧ SqT F H c (k.2.map V.int)
def atB (F : PySem.W.Frag) (H : Hp) (k : List Int × Int) (a : Addr) : Prop := ∃ c, SqT F H a [.ref c, .int k.2] ∧ SqT F H c (k.1.map V.int)
theorem real_two {P : Program} {w : World} {F : PySem.W.Frag} {H : Hp} {h : Heap} {x y : V} {a : Addr} (ok : HOk P w H h) (KX : F.In h) (e : SqT F H a [x, y]) : ∃ o u v n, h.get? a = some o ∧ o.cls = .type "tuple" ∧ o.data = .seq #[u, v] n ∧ RelV x u ∧ RelV y v := by
  obtain ⟨its, o, n, r, h1, h2, h3⟩ := tupReal ok KX e
  cases r with
  | cons r1 r =>
    cases r with
    | cons r2 r =>
      cases r
      exact ⟨o, _, _, n, h1, h2, h3, r1, r2⟩
def shpA : Shp (Int × List Int) where
  hash := fun k => reduceHash (Builtin.Tuple.tupleHashOf [hashInt k.1, hashT k.2])
  at_ := atA
  kind := fun P w => pairKind (ikInt P w) (ikTup P w)
  hk := fun _ _ _ => rfl
  room := fun _ _ A h => (show A.in1.units + 1 < cLine from h)
  real := fun ok KX ⟨c, e1, e2⟩ => by
    obtain ⟨o, u, v, n, h1, h2, h3, r1, r2⟩ := real_two ok KX e1
    obtain ⟨t, rfl⟩ := r1
    obtain rfl : v = Value.ref c := r2
    exact ⟨o, _, _, n, h1, h2, h3, by simp [ikInt, intKind, Value.isInt], c, rfl, real_tup ok KX e2⟩
def shpB : Shp (List Int × Int) where
  hash := fun k => reduceHash (Builtin.Tuple.tupleHashOf [hashT k.1, hashInt k.2])
  at_ := atB
  kind := fun P w => pairKind (ikTup P w) (ikInt P w)
  hk := fun _ _ _ => rfl
  room := fun _ _ A h => (show A.in1.units + 1 < cLine from h)
  real := fun ok KX ⟨c, e1, e2⟩ => by
    obtain ⟨o, u, v, n, h1, h2, h3, r1, r2⟩ := real_two ok KX e1
    obtain ⟨t, rfl⟩ := r2
    obtain rfl : u = Value.ref c := r1
    exact ⟨o, _, _, n, h1, h2, h3, ⟨c, rfl, real_tup ok KX e2⟩, by simp [ikInt, intKind, Value.isInt]⟩
section
variable {K : Type} [DecidableEq K]
abbrev PN (xs : List (K × Addr × Int)) (vs : List (K × Addr × Value)) : Prop := Paired (fun (p : K × Addr × Int) (q : K × Addr × Value) => p.1 = q.1 ∧ p.2.1 = q.2.1 ∧ RelV (.int p.2.2) q.2.2) xs vs
def valN (xs : List (K × Addr × Int)) (k : K) : Option Int := (xs.find? fun x => decide (x.1 = k)).map (·.2.2)
def phiN (S : Shp K) (a : Addr) (xs : List (K × Addr × Int)) (h : Heap) : Prop := (a == sysModules) = false ∧ xs.length ≤ sizeLine ∧ ∃ vs : List (K × Addr × Value), PN xs vs ∧ ∃ o es ep, h.get? a = some o ∧ o.ExactDict ∧ o.data = .dict es ep ∧
  es.toList = vs.map (fun x => (⟨S.hash x.1, .ref x.2.1, x.2.2⟩ : DictEntry)) ∧ (vs.map (·.1)).Nodup
def ndO (S : Shp K) (a : Addr) (xs : List (K × Addr × Int)) : HO := .ext (phiN S a xs)
theorem nd_ok {P : Program} {w : World} {H : Hp} {h : Heap} {S : Shp K} {a : Addr} {xs : List (K × Addr × Int)} (x : phiN S a xs h) : ObjOk P w H h a (ndO S a xs) := by
  refine ⟨x, ?_, fun h1 h2 p k => ?_⟩
  · obtain ⟨_, _, vs, _, o, es, ep, e, _⟩ := x
    exact ⟨o, e⟩
  · obtain ⟨z, l, vs, r, o, es, ep, e, c⟩ := p
    exact ⟨z, l, vs, r, o, es, ep, k o e, c⟩
def KTn (S : Shp K) (F : PySem.W.Frag) (H : Hp) (xs : List (K × Addr × Int)) : Prop := ∀ x ∈ xs, S.at_ F H x.1 x.2.1
theorem PN.get {xs : List (K × Addr × Int)} {vs : List (K × Addr × Value)} (r : PN xs vs) (k : K) : (valN xs k = none → atKey vs k = none) ∧ ∀ i, valN xs k = some i → ∃ p, atKey vs k = some p ∧ RelV (.int i) p.2 := by
  induction r with
  | nil => exact ⟨fun _ => rfl, fun i e => by cases e⟩
  | @cons p q ps qs h t ih =>
    obtain ⟨h1, _, h2⟩ := h
    by_cases e : p.1 = k
    · have e' : q.1 = k := h1.symm.trans e
      have b : atKey (q :: qs) k = some q.2 := by simp [atKey, List.find?_cons, e']
      have c : valN (p :: ps) k = some p.2.2 := by simp [valN, List.find?_cons, e]
      rw [b, c]
      exact ⟨fun z => (by cases z), fun i z => ⟨q.2, rfl, (by cases z; exact h2)⟩⟩
    · have e' : ¬ q.1 = k := fun z => e (h1.trans z)
      have b : atKey (q :: qs) k = atKey qs k := by simp [atKey, List.find?_cons, e']
      have c : valN (p :: ps) k = valN ps k := by simp [valN, List.find?_cons, e]
      rw [b, c]
      exact ih
theorem nd_keys {P : Program} {w : World} {F : PySem.W.Frag} {H : Hp} {h : Heap} {S : Shp K} (ok : HOk P w H h) (KX : F.In h) : ∀ {xs : List (K × Addr × Int)} {vs : List (K × Addr × Value)}, PN xs vs → KTn S F H xs → ∀ x ∈ vs, (S.kind P w).is h x.1 x.2.1
  | _, _, .nil, _, x, hx => by cases hx
  | p :: ps, q :: qs, .cons hq t, kt, x, hx => by
    rcases List.mem_cons.mp hx with rfl | hx
    · rw [← hq.1, ← hq.2.1]
      exact S.real ok KX (kt p (by simp))
    · exact nd_keys ok KX t (fun y hy => kt y (List.mem_cons_of_mem _ hy)) x hx
theorem nd_real {P : Program} {w : World} {F : PySem.W.Frag} {H : Hp} {h : Heap} {S : Shp K} {a : Addr} {xs : List (K × Addr × Int)} (ok : HOk P w H h) (KX : F.In h) (e : H a = some (ndO S a xs)) (kt : KTn S F H xs) :
    (a == sysModules) = false ∧ xs.length ≤ sizeLine ∧ ∃ vs : List (K × Addr × Value), PN xs vs ∧ h.DictOfH (S.kind P w) a vs := by
  obtain ⟨⟨z, l, vs, r, o, es, ep, e1, e2, e3, e4, e5⟩, _⟩ := (show ObjOk P w H h a (ndO S a xs) from ok a _ e)
  refine ⟨z, l, vs, r, o, es, ep, e1, e2, e3, ?_, fun x hx => ?_, e5⟩
  · rw [e4]
    refine List.map_congr_left fun x _ => ?_
    unfold entryOfKey
    rw [S.hk]
  · exact nd_keys ok KX r kt x hx
end
/-! ### readings -/
section
variable {K : Type} [DecidableEq K] (S : Shp K) (F : PySem.W.Frag)
/-- the dict that x is, its entries, the key at y -/
def NAt (H : Hp) (x y : V) (a : Addr) (xs : List (K × Addr × Int)) (b : Addr) (k : K) : Prop := x = .ref a ∧ y = .ref b ∧ H a = some (ndO S a xs) ∧ KTn S F H xs ∧ S.at_ F H k b
def tNGet (td ty : TE) : TE := fun σ H Q => td σ H fun x H1 => ty σ H1 fun y H2 => ∃ a xs b k i, NAt S F H2 x y a xs b k ∧ valN xs k = some i ∧ Q (.int i) H2
def tNIn (ty td : TE) : TE := fun σ H Q => ty σ H fun y H1 => td σ H1 fun x H2 => ∃ a xs b k, NAt S F H2 x y a xs b k ∧ Q (.bl (valN xs k).isSome) H2
def tNNotIn (ty td : TE) : TE := fun σ H Q => ty σ H fun y H1 => td σ H1 fun x H2 => ∃ a xs b k, NAt S F H2 x y a xs b k ∧ Q (.bl (!(valN xs k).isSome)) H2
/-- d[k] = v, a new key -/
def sNPut (td ty tv : TE) : TS := fun D σ H => tv σ H fun v H1 => td σ H1 fun x H2 => ty σ H2 fun y H3 => ∃ a xs b k i, NAt S F H3 x y a xs b k ∧ valN xs k = none ∧ v = .int i ∧ xs.length < sizeLine ∧ D.nx σ (upd H3 a (ndO S a (xs ++ [(k, b, i)])))
def tDNewN (S : Shp K) : TE := fun _ H Q => ∀ p, H p = none → Q (.ref p) (upd H p (ndO S p []))
variable {S} {F}
section
variable {X : Cx} {pins : List (Addr × Obj)} {σ : St} {H : Hp} {s : Shared} {x y : V} {a b : Addr} {xs : List (K × Addr × Int)} {k : K} {u r : Value} {A : Around} {E : Value → Shared → Prop}
theorem n_typeIs (I : Inv X pins σ H s) (g : NAt S X.K H x y a xs b k) : s.TypeIs (.ref a) "dict" := by
  obtain ⟨_, _, vs, _, dd⟩ := nd_real I.hok I.kIn g.2.2.1 g.2.2.2.1
  exact dd.typeIs
theorem n_get {Q : Value → Shared → Prop} {i : Int} (hu : A.units + 2 < cLine) (I : Inv X pins σ H s) (g : NAt S X.K H x y a xs b k) (e : valN xs k = some i) (h : ∀ w' s', Inv X pins σ H s' → RelV (.int i) w' → Q w' s') : wpAny (model X.prog X.w) A (getItem (.ref a) (.ref b)) Q E s := by
  obtain ⟨_, _, vs, r, dd⟩ := nd_real I.hok I.kIn g.2.2.1 g.2.2.2.1
  obtain ⟨p, hp, rp⟩ := (r.get k).2 i e
  exact wpAny_getItem_heap (S.room _ _ _ hu) (S.real I.hok I.kIn g.2.2.2.2) dd hp (h _ _ (I.tok _) rp)
theorem n_in {Q : Value → Shared → Prop} (hu : A.units + 2 < cLine) (I : Inv X pins σ H s) (g : NAt S X.K H x y a xs b k) (h : ∀ s', Inv X pins σ H s' → Q (.bool (valN xs k).isSome) s') : wpAny (model X.prog X.w) A (compareOp .In (.ref b) (.ref a)) Q E s := by
  obtain ⟨hd, _, vs, r, dd⟩ := nd_real I.hok I.kIn g.2.2.1 g.2.2.2.1
  refine wpAny_in_heap (S.room _ _ _ hu) (S.real I.hok I.kIn g.2.2.2.2) hd dd ?_
  have e : (atKey vs k).isSome = (valN xs k).isSome := by
    cases c : valN xs k with
    | none => rw [(r.get k).1 c]; rfl
    | some i => obtain ⟨p, hp, _⟩ := (r.get k).2 i c; rw [hp]; rfl
  rw [e]
  exact h _ (I.tok _)
theorem n_notIn {Q : Value → Shared → Prop} (hu : A.units + 2 < cLine) (I : Inv X pins σ H s) (g : NAt S X.K H x y a xs b k) (h : ∀ s', Inv X pins σ H s' → Q (.bool (!(valN xs k).isSome)) s') : wpAny (model X.prog X.w) A (compareOp .NotIn (.ref b) (.ref a)) Q E s := by
  obtain ⟨hd, _, vs, r, dd⟩ := nd_real I.hok I.kIn g.2.2.1 g.2.2.2.1
  refine wpAny_notIn_heap (S.room _ _ _ hu) (S.real I.hok I.kIn g.2.2.2.2) hd dd ?_
  have e : (atKey vs k).isSome = (valN xs k).isSome := by
    cases c : valN xs k with
    | none => rw [(r.get k).1 c]; rfl
    | some i => obtain ⟨p, hp, _⟩ := (r.get k).2 i c; rw [hp]; rfl
  rw [e]
  exact h _ (I.tok _)
theorem PN.snoc {ys : List (K × Addr × Int)} {vs : List (K × Addr × Value)} (r : PN ys vs) {i : Int} {u : Value} (ru : RelV (.int i) u) : PN (ys ++ [(k, b, i)]) (vs ++ [(k, b, u)]) := Paired.snoc r ⟨rfl, rfl, ru⟩
theorem n_set {Q : Unit → Shared → Prop} {i : Int} (hu : A.units + 2 < cLine) (I : Inv X pins σ H s) (g : NAt S X.K H x y a xs b k) (e : valN xs k = none) (ru : RelV (.int i) r) (hl : xs.length < sizeLine)
    (h : ∀ s', Inv X pins σ (upd H a (ndO S a (xs ++ [(k, b, i)]))) s' → Q () s') : wpAny (model X.prog X.w) A (setItem (.ref a) (.ref b) r) Q E s := by
  obtain ⟨hd, z, vs, r, dd⟩ := nd_real I.hok I.kIn g.2.2.1 g.2.2.2.1
  have hz : vs.length ≤ sizeLine := by rw [← Paired.length r]; exact z
  refine wpAny_setItem_heap (hsz := hz) (S.room _ _ _ hu) (S.real I.hok I.kIn g.2.2.2.2) dd fun h' dd' hs => h _ ?_
  rw [storedH_new ((r.get k).1 e)] at dd'
  obtain ⟨q, es, ep, hq, h2, h3, h4, _, h5⟩ := dd'
  refine d_write I (by rw [g.2.2.1]; exact True.intro) hs ⟨q, hq⟩ (nd_ok ⟨hd, by rw [List.length_append]; exact hl, _, r.snoc ru, q, es, ep, hq, h2, h3, ?_, h5⟩)
  rw [h4]
  refine List.map_congr_left fun x _ => ?_
  unfold entryOfKey
  rw [S.hk]
end
section
variable {X : Cx} {o i e value : Expr} {pos pos' tpos : Pos} {td ty tv : TE}
theorem pe_nget (hu : X.A.units + 2 < cLine) (ho : PE X o td) (hi : PE X i ty) (hs : NoSl i) : PE X (.Subscript o i pos) (tNGet S X.K td ty) := by
  refine ⟨fun pins s σ H Q I h => ?_⟩
  refine subD_of PySem.F.slot_dict_getitem.lookup hs (thn (ho.run pins s σ H _ I h) fun u s1 ⟨x, H1, I1, rx, q1⟩ => thn (hi.run pins s1 σ H1 _ I1 q1) fun iv s2 ⟨y, H2, I2, ry, a, xs, b, k, i, g, e, q2⟩ => ?_)
  obtain ⟨rfl, rfl, g'⟩ := g
  obtain rfl : u = Value.ref a := rx
  obtain rfl : iv = Value.ref b := ry
  exact ⟨n_typeIs I2 ⟨rfl, rfl, g'⟩, n_get hu I2 ⟨rfl, rfl, g'⟩ e fun w' s3 I3 rw' => ⟨.int i, H2, I3, rw', q2⟩⟩
theorem pc_nnotin (hu : X.A.units + 2 < cLine) (hi : PE X i ty) (ho : PE X o td) : PC X .NotIn i o (tNNotIn S X.K ty td) := by
  refine ⟨fun pins s σ H Q I h => ?_⟩
  refine thn (hi.run pins s σ H _ I h) fun iv s1 ⟨y, H1, I1, ry, q1⟩ => thn (ho.run pins s1 σ H1 _ I1 q1) fun u s2 ⟨x, H2, I2, rx, a, xs, b, k, g, q2⟩ => ?_
  obtain ⟨rfl, rfl, g'⟩ := g
  obtain rfl : u = Value.ref a := rx
  obtain rfl : iv = Value.ref b := ry
  exact n_notIn hu I2 ⟨rfl, rfl, g'⟩ fun s3 I3 => ⟨.bl (!(valN xs k).isSome), H2, I3, rfl, q2⟩
theorem ps_nput (hu : X.A.units + 2 < cLine) (ho : PE X o td) (hi : PE X i ty) (hv : PE X value tv) (hs : swapsWith value (some (.Subscript o i pos')) pos.line X.env = pure false) :
    PS X (.Assign [.Subscript o i pos'] value pos) (sNPut S X.K td ty tv) := by
  refine ⟨fun pins s σ H D I h => ?_⟩
  refine wpAny_Assign_Subscript (thn (hv.run pins s σ H _ I h) fun r s1 ⟨v, H1, I1, rv, q1⟩ => thn (ho.run pins s1 σ H1 _ I1 q1) fun u s2 ⟨x, H2, I2, rx, q2⟩ => thn (hi.run pins s2 σ H2 _ I2 q2) fun iv s3 ⟨y, H3, I3, ry, a, xs, b, k, i, g, e, ev, hl, q3⟩ => ?_) hs
  obtain ⟨rfl, rfl, g'⟩ := g
  subst ev
  obtain rfl : u = Value.ref a := rx
  obtain rfl : iv = Value.ref b := ry
  exact n_set hu I3 ⟨rfl, rfl, g'⟩ e rv hl fun s4 I4 => ⟨σ, _, I4, q3⟩
theorem pe_dnewN : PE X (.Dict [] [] pos) (tDNewN S) := ⟨fun pins s σ H Q I h =>
  wpAny_Dict_empty ⟨.ref s.heap.objs.size, _, I.laid (a := s.heap.objs.size) (o := ndO S s.heap.objs.size []) (t' := s.toks) (fun _ _ q => Heap.get?_push_of_some _ q) (Nat.le_refl _)
    (nd_ok ⟨beq_eq_false_iff_ne.mpr (Ne.symm (Nat.ne_of_lt I.big)), Nat.zero_le _, [], .nil, _, #[], 0, Heap.get?_push_size _ rfl, ⟨rfl, rfl, rfl⟩, rfl, rfl, List.nodup_nil⟩), rfl, h _ (I.hok.fresh (Nat.le_refl _))⟩⟩
end
end
end L2


set_option Elab.async false
set_option linter.all false
set_option maxRecDepth 100000
set_option maxHeartbeats 1000000
/-! a slot that holds a dict whose keys are pairs: the judgement DR, the slot pinned -/
namespace DX
open PySem PySem.Spec PyProof.Rows L2 GxR GA NK
section
variable {G : Gx} {F : Fx} {δ δ' δ1 : DEnv} {σ σ' : L2.St} {H H' : Hp}
theorem nt_ext (f : Heap → Prop) : NT (.ext f) := fun _ e => by cases e
/-- a new thing of the function's own -/
theorem EI.claim {p : Addr} {o : HO} (J : EI G F δ σ H) (hp : H p = none) (hn : NT o) : EI G (F.own p) δ σ (upd H p o) := by
  obtain ⟨h0, hM, hX, hm⟩ := J.fresh hp
  have J2 := J.laid hp hn
  have ne : ∀ {b : Addr} {u : HO}, H b = some u → b ≠ p := fun {b u} e z => by rw [z, hp] at e; cases e
  have gr : Gr (del H (Sl F δ σ)) (del (upd H p o) (Sl (F.own p) δ σ)) := gr_del fun b u n hb e =>
    ⟨fun z => z.elim (fun z => hb (.inl z)) fun z => z.elim (fun z => ne e z) fun z => hb (.inr z), by rw [upd_ne (ne e)]; exact e⟩
  refine ⟨J2.len, fun i e h => ?_, J2.nd, fun a ha => ?_, J2.keep, fun a ha => ?_, J2.pin, J2.tab, J2.tk, J2.mt, fun i ys a e1 e2 ha => ha.elim (fun z => absurd ⟨i, ys, e1, z ▸ e2⟩ hm) (J2.mx i ys a e1 e2), fun a w => ⟨.inr (J2.wl a w).1, (J2.wl a w).2⟩, J2.k1⟩
  · obtain ⟨v, h1, h2⟩ := J.slot i e h
    refine ⟨v, h1, ?_⟩
    cases e with
    | d x => exact Rp.gr gr h2
    | err D => exact XR.gr gr h2
    | k n =>
      obtain ⟨a, ea, h3⟩ := h2
      exact ⟨a, ea, h3.up fun b u w e => by rw [upd_ne (ne e)]; exact e⟩
    | m ys =>
      obtain ⟨a, ws, h3, h4, h5⟩ := h2
      exact ⟨a, ws, h3, by rw [upd_ne (ne h4)]; exact h4, RpL.gr gr h5⟩
  · rcases J.own a ha with z | ⟨z, zx⟩
    · exact .inl z
    · exact .inr ⟨z, fun w => w.elim (fun w => by subst w; exact hm ha) zx⟩
  · rcases ha with rfl | ha
    · exact ⟨_, upd_same, hn⟩
    · exact J2.ex a ha
/-- an owned thing that no slot knows is changed -/
theorem EI.pokeO {p : Addr} {o o' : HO} (I : EI G F δ σ H) (hx : F.X0 p) (hm : ¬ MA δ σ p) (h0 : F.H0 p = none) (hM : ¬ F.M0 p) (hW : ¬ F.W0 p) (hp : H p = some o) (ho : NT o) (hn : NT o') : EI G F δ σ (upd H p o') ∧ Gr (del H (Sl F δ σ)) (del (upd H p o') (Sl F δ σ)) := by
  have gr : Gr (del H (Sl F δ σ)) (del (upd H p o') (Sl F δ σ)) := gr_del fun b u n hb e => ⟨hb, by
    have ne : b ≠ p := fun z => hb (.inr (z ▸ hx))
    rw [upd_ne ne]; exact e⟩
  refine ⟨⟨I.len, fun i e h => ?_, I.nd, I.own, fun b u n hb hw e => ?_, fun a ha => ?_, I.pin, fun q hq => ?_, fun b ps e => ?_, fun a ha => ?_, I.mx, I.wl, I.k1⟩, gr⟩
  · obtain ⟨v, h1, h2⟩ := I.slot i e h
    refine ⟨v, h1, ?_⟩
    cases e with
    | d x => exact Rp.gr gr h2
    | err D => exact XR.gr gr h2
    | k n =>
      obtain ⟨b, eb, h3⟩ := h2
      exact ⟨b, eb, h3.up fun c u w e => by rw [upd_ne (show c ≠ p from fun z => hW (by rw [← z]; exact w))]; exact e⟩
    | m ys =>
      obtain ⟨a, us, h4, h5, h6⟩ := h2
      subst h4
      have ne : a ≠ p := fun z => hm ⟨i, ys, h, z ▸ h1⟩
      exact ⟨a, us, rfl, by rw [upd_ne ne]; exact h5, RpL.gr gr h6⟩
  · have ne : b ≠ p := fun z => by rw [z, h0] at e; cases e
    rw [upd_ne ne]; exact I.keep b u n hb hw e
  · by_cases e : a = p
    · rw [e]; exact ⟨_, upd_same, hn⟩
    · rw [upd_ne e]; exact I.ex a ha
  · obtain ⟨ps, e, t⟩ := I.tab q hq
    have ne : q ≠ p := fun z => by rw [z, hp] at e; cases e; exact ho _ rfl
    exact ⟨ps, by rw [upd_ne ne]; exact e, t⟩
  · obtain ⟨qs, e1⟩ := I.tk b ps e
    have ne : b ≠ p := fun z => by rw [z, hp] at e1; cases e1; exact ho _ rfl
    exact ⟨qs, by rw [upd_ne ne]; exact e1⟩
  · have ne : a ≠ p := fun z => hM (z ▸ ha)
    rw [upd_ne ne]; exact I.mt a ha
end
theorem u2 {A : Around} (h : A.units + 70 < cLine) : A.units + 2 < cLine := by omega
/-! ### keys as data -/
def kdA (k : Int × List Int) : PyData := .tuple [.int k.1, .tuple (k.2.map PyData.int)]
def kdB (k : List Int × Int) : PyData := .tuple [.tuple (k.1.map PyData.int), .int k.2]
structure KSh (K : Type) [DecidableEq K] extends Shp K where
  d : K → PyData
  dat : ∀ {Kf : PySem.W.Frag} {H : Hp} {k : K} {v : V}, Rp Kf H (d k) v → ∃ a, v = .ref a ∧ at_ Kf H k a
theorem rp_tints {Kf : PySem.W.Frag} {H : Hp} {ns : List Int} {v : V} (r : Rp Kf H (.tuple (ns.map PyData.int)) v) : ∃ c, v = .ref c ∧ SqT Kf H c (ns.map V.int) := by
  cases r with
  | tup h r =>
    have e := rp_ints0 r
    subst e
    exact ⟨_, rfl, h⟩
def kshA : KSh (Int × List Int) where
  toShp := shpA
  d := kdA
  dat := fun {Kf H k v} r => by
    cases r with
    | tup h r =>
      cases r with
      | cons r1 r =>
        cases r with
        | cons r2 r =>
          cases r
          cases r1
          obtain ⟨c, rfl, hc⟩ := rp_tints r2
          exact ⟨_, rfl, c, h, hc⟩
def kshB : KSh (List Int × Int) where
  toShp := shpB
  d := kdB
  dat := fun {Kf H k v} r => by
    cases r with
    | tup h r =>
      cases r with
      | cons r1 r =>
        cases r with
        | cons r2 r =>
          cases r
          cases r2
          obtain ⟨c, rfl, hc⟩ := rp_tints r1
          exact ⟨_, rfl, c, h, hc⟩
section
variable {K : Type} [DecidableEq K]
def unA (xs : List (K × Addr × Int)) : List (K × Int) := xs.map fun x => (x.1, x.2.2)
def valX (xs : List (K × Int)) (k : K) : Option Int := (xs.find? fun x => decide (x.1 = k)).map (·.2)
theorem valN_un (xs : List (K × Addr × Int)) (k : K) : valN xs k = valX (unA xs) k := by
  unfold valN valX unA
  induction xs with
  | nil => rfl
  | cons x xs ih =>
    rw [List.map_cons, List.find?_cons, List.find?_cons]
    by_cases e : x.1 = k
    · simp [e]
    · simpa [e] using ih
structure DI (S : KSh K) (G : Gx) (F : Fx) (p : Nat) (D : Addr) (δ : DEnv) (xs : List (K × Addr × Int)) (σ : L2.St) (H : Hp) : Prop where
  s0 : F.s0[p]? = some (some (V.ref D))
  ei : EI (G.pin p) (F.owns [D]) δ σ H
  fr : F.H0 D = none ∧ ¬ F.M0 D ∧ ¬ F.W0 D ∧ ¬ F.X0 D
  ma : ¬ MA δ σ D
  hd : H D = some (ndO S.toShp D xs)
  key : ∀ x ∈ xs, Rp G.K (del H (Sl (F.owns [D]) δ σ)) (S.d x.1) (V.ref x.2.1)
variable {S : KSh K} {G : Gx} {F : Fx} {δ δ' δ1 : DEnv} {σ σ' : L2.St} {H H' : Hp} {p : Nat} {D : Addr} {xs : List (K × Addr × Int)} {ys : List (K × Int)}
theorem DI.step (I : DI S G F p D δ xs σ H) (s : Since (G.pin p) (F.owns [D]) δ σ H δ' σ' H') : DI S G F p D δ' xs σ' H' := by
  refine ⟨I.s0, s.ei, I.fr, fun z => ?_, s.kp D _ (nt_ext _) I.ma I.fr.2.2.1 I.hd, fun x hx => (I.key x hx).gr s.gr⟩
  rcases s.ma D z with z | z
  · exact I.ma z
  · rw [I.hd] at z; cases z
theorem DI.slotp (I : DI S G F p D δ xs σ H) : σ[p]? = some (some (V.ref D)) := (I.ei.pin p (List.mem_singleton.mpr rfl)).trans I.s0
theorem DI.out (I : DI S G F p D δ xs σ H) (hpn : G.pn = []) : EI G F δ σ H := by
  have J := I.ei
  have sub : Gr (del H (Sl (F.owns [D]) δ σ)) (del H (Sl F δ σ)) := gr_del fun b u n hb e => ⟨fun z => hb (z.imp id .inr), e⟩
  refine ⟨J.len, fun i e h => ?_, J.nd, fun a ha => ?_, J.keep, fun a ha => J.ex a (.inr ha), fun i hi => ?_, J.tab, J.tk, J.mt, fun i zs a h1 h2 h3 => ?_, fun a w => ⟨((J.wl a w).1).resolve_left fun z => I.fr.2.2.1 (by rw [← List.mem_singleton.mp z]; exact w), (J.wl a w).2⟩, J.k1⟩
  · obtain ⟨v, h1, h2⟩ := J.slot i e h
    refine ⟨v, h1, ?_⟩
    cases e with
    | d x => exact Rp.gr sub h2
    | err D => exact XR.gr sub h2
    | k n => exact h2
    | m ys =>
      obtain ⟨a, ws, h4, h5, h6⟩ := h2
      exact ⟨a, ws, h4, h5, RpL.gr sub h6⟩
  · rcases J.own a ha with z | ⟨z, zx⟩
    · exact .inl z
    · exact .inr ⟨z, fun w => zx (.inr w)⟩
  · rw [hpn] at hi; cases hi
  · have z := List.mem_singleton.mp (J.mx i zs a h1 h2 (.inr h3))
    subst z
    have ep := I.slotp
    rw [h2] at ep
    cases ep
    exact absurd ⟨i, zs, h1, h2⟩ I.ma
theorem DI.sub (I : DI S G F p D δ xs σ H) : Gr (del H (Sl (F.owns [D]) δ σ)) (del H (Sl F δ σ)) := gr_del fun b u n hb e => ⟨fun z => hb (z.imp id .inr), e⟩
inductive DOut (K : Type) where
  | nx (δ : DEnv) (xs : List (K × Int))
  | rt (d : PyData) (δ : DEnv)
def DSat (S : KSh K) (G : Gx) (F : Fx) (p : Nat) (D : Addr) : DOut K → Ends → Prop
  | .nx δ ys, E => ∀ xs σ H, DI S G F p D δ xs σ H → unA xs = ys → E.nx σ H
  | .rt d δ, E => ∀ σ H v, EI G F δ σ H → Rp G.K (del H (Sl F δ σ)) d v → E.rt v H
def DR (S : KSh K) (G : Gx) (p : Nat) (t : TS) (δ : DEnv) (ys : List (K × Int)) (Q : DOut K → Prop) : Prop :=
  ∀ (F : Fx) (D : Addr) (xs : List (K × Addr × Int)) (σ : L2.St) (H : Hp) (E : Ends), DI S G F p D δ xs σ H → unA xs = ys → (∀ o, Q o → DSat S G F p D o E) → t E σ H
variable {Q : DOut K → Prop} {t u : TS} {tt : TT}
def QD (Q : DOut K → Prop) (ys : List (K × Int)) : Out → Prop
  | .nx δ => Q (.nx δ ys)
  | .rt d δ => Q (.rt d δ)
  | _ => False
theorem dr_of (hpn : G.pn = []) (h : SD (G.pin p) t δ (QD Q ys)) : DR S G p t δ ys Q := fun F D xs σ H E I e k =>
  h _ σ H E I.ei.now fun o q => by
    cases o with
    | nx δ' => exact fun σ' H' J => k _ q xs σ' H' (I.step (I.ei.since J)) e
    | rt d δ' =>
        refine fun σ' H' v J r => ?_
        have I2 := I.step (I.ei.since J)
        have r : Rp G.K (del H' (Sl (F.owns [D]) δ' σ')) d v := r
        exact k _ q σ' H' v (I2.out hpn) (r.gr I2.sub)
    | _ => exact q.elim
theorem dr_next (q : Q (.nx δ ys)) : DR S G p tNext δ ys Q := fun F D xs σ H E I e k => k _ q xs σ H I e
def ThenR (S : KSh K) (G : Gx) (p : Nat) (u : TS) (Q : DOut K → Prop) : DOut K → Prop
  | .nx δ ys => DR S G p u δ ys Q
  | .rt d δ => Q (.rt d δ)
theorem dr_seq (h : DR S G p t δ ys (ThenR S G p u Q)) : DR S G p (tSeq t u) δ ys Q := fun F D xs σ H E I e k =>
  h F D xs σ H _ I e fun o q => by
    cases o with
    | nx δ1 y1 => exact fun x1 σ1 H1 I1 e1 => q F D x1 σ1 H1 E I1 e1 k
    | rt d δ1 => exact k _ q
/-- a statement that the dict has no part in, and more -/
theorem dr_sd (hpn : G.pn = []) (h : SD (G.pin p) t δ fun o => match o with
    | .nx δ1 => DR S G p u δ1 ys Q
    | .rt d δ1 => Q (.rt d δ1)
    | _ => False) : DR S G p (tSeq t u) δ ys Q :=
  dr_seq (dr_of hpn (h.mono fun o q => by cases o <;> exact q))
theorem dr_freeze {i : Nat} {zs : List PyData} (hi : i ≠ p) (h : δ[i]? = some (some (E.m zs))) (s : DR S G p t (δ.set i (some (.d (.list zs)))) ys Q) : DR S G p t δ ys Q := fun F D xs σ H E I e k => by
  have J := I.ei.freeze h (fun z => hi (List.mem_singleton.mp z))
  have old : ∀ {b}, MA (δ.set i (some (.d (.list zs)))) σ b → MA δ σ b := fun {b} ⟨j, ws, e1, e2⟩ => by
    rcases get_set e1 with ⟨_, e, _⟩ | ⟨ne, e3⟩
    · cases e
    · exact ⟨j, ws, e3, e2⟩
  have gr : Gr (del H (Sl (F.owns [D]) δ σ)) (del H (Sl (F.owns [D]) (δ.set i (some (.d (.list zs)))) σ)) := gr_del fun b u n hb e => ⟨fun z => hb (z.imp old id), e⟩
  exact s F D xs σ H E ⟨I.s0, J, I.fr, fun z => I.ma (old z), I.hd, fun x hx => (I.key x hx).gr gr⟩ e k
theorem DI.at_ (I : DI S G F p D δ xs σ H) {i : Nat} {k : K} (hi : δ[i]? = some (some (E.d (S.d k)))) : ∃ b, σ[i]? = some (some (V.ref b)) ∧ Rp G.K (del H (Sl (F.owns [D]) δ σ)) (S.d k) (V.ref b) ∧ NAt S.toShp G.K H (V.ref D) (V.ref b) D xs b k := by
  obtain ⟨v, e1, r⟩ := I.ei.slot i _ hi
  have r : Rp G.K (del H (Sl (F.owns [D]) δ σ)) (S.d k) v := r
  obtain ⟨b, rfl, hb⟩ := S.dat (r.gr gr_out)
  refine ⟨b, e1, r, rfl, rfl, I.hd, fun x hx => ?_, hb⟩
  obtain ⟨c, ec, hc⟩ := S.dat ((I.key x hx).gr gr_out)
  cases ec
  exact hc
/-- p[i] = v, a new key -/
theorem dr_put {i : Nat} {k : K} {te : TE} (hi : δ[i]? = some (some (E.d (S.d k)))) (h : ED (G.pin p) te δ fun d δ1 => ∃ v : Int, d = .int v ∧ δ1[i]? = some (some (E.d (S.d k))) ∧ valX ys k = none ∧ ys.length < sizeLine ∧ Q (.nx δ1 (ys ++ [(k, v)]))) :
    DR S G p (sNPut S.toShp G.K (tVar p) (tVar i) te) δ ys Q := fun F D xs σ H E I e0 kk =>
  h.go I.ei fun d w δ1 H1 ⟨v, e, hi1, hn, hl, q⟩ s r => by
    subst e
    cases r
    have I1 := I.step s
    obtain ⟨b, e1, rb, na⟩ := I1.at_ hi1
    refine ⟨_, I1.slotp, _, e1, D, xs, b, k, v, na, by rw [valN_un, e0]; exact hn, rfl, by
      have : (unA xs).length = xs.length := List.length_map _
      rw [← this, e0]
      exact hl, ?_⟩
    obtain ⟨J, g⟩ := I1.ei.pokeO (p := D) (o' := ndO S.toShp D (xs ++ [(k, b, v)])) (.inl (by simp)) I1.ma I1.fr.1 I1.fr.2.1 I1.fr.2.2.1 I1.hd (nt_ext _) (nt_ext _)
    refine kk _ q (xs ++ [(k, b, v)]) σ _ ⟨I1.s0, J, I1.fr, I1.ma, upd_same, fun x hx => ?_⟩ (by unfold unA at e0 ⊢; rw [List.map_append, e0]; rfl)
    rcases List.mem_append.mp hx with hx | hx
    · exact (I1.key x hx).gr g
    · rw [List.mem_singleton.mp hx]
      exact rb.gr g
/-- while i not in p: t -/
theorem dr_while {i : Nat} (N : Nat) (IV : Nat → DEnv → List (K × Int) → Prop) (i0 : IV 0 δ ys)
    (st : ∀ j δ1 y1, IV j δ1 y1 → j ≤ N ∧ ∃ k, δ1[i]? = some (some (E.d (S.d k))) ∧ ((valX y1 k = none ∧ j < N ∧ DR S G p t δ1 y1 fun o => match o with
      | .nx δ2 y2 => IV (j + 1) δ2 y2
      | .rt d δ2 => Q (.rt d δ2)) ∨ ((valX y1 k).isSome = true ∧ Q (.nx δ1 y1)))) :
    DR S G p (tWhile (tB (tNNotIn S.toShp G.K (tVar i) (tVar p))) t) δ ys Q := fun F D xs σ H E I e0 kk => by
  refine ⟨fun m σ' H' => ∃ j δ1 y1 x1, m + j = N ∧ IV j δ1 y1 ∧ DI S G F p D δ1 x1 σ' H' ∧ unA x1 = y1, ⟨N, 0, δ, ys, xs, by omega, i0, I, e0⟩, ?_⟩
  rintro m σ1 H1 ⟨j, δ1, y1, x1, hm, iv, I1, e1⟩
  obtain ⟨hj, k, hk, c⟩ := st j δ1 y1 iv
  obtain ⟨b, e2, rb, na⟩ := I1.at_ hk
  refine ⟨_, e2, _, I1.slotp, D, x1, b, k, na, ?_⟩
  rw [valN_un, e1]
  rcases c with ⟨hn, hlt, d⟩ | ⟨hs, q⟩
  · rw [hn]
    refine ⟨true, rfl, iteT ⟨fun σ' H' => ∃ m', m' < m ∧ ∃ j δ1 y1 x1, m' + j = N ∧ IV j δ1 y1 ∧ DI S G F p D δ1 x1 σ' H' ∧ unA x1 = y1, fun σ' H' z => z, ?_⟩⟩
    refine d F D x1 σ1 H1 _ I1 e1 fun o q => ?_
    cases o with
    | nx δ2 y2 => exact fun x2 σ2 H2 I2 e2 => ⟨m - 1, by omega, j + 1, δ2, y2, x2, by omega, q, I2, e2⟩
    | rt d δ2 => exact kk _ q
  · rw [hs]
    exact ⟨false, rfl, iteF (kk _ q x1 σ1 H1 I1 e1)⟩
/-- return (p[i], a, b) -/
theorem dr_ret3 {i a b : Nat} {k : K} {v : Int} {x y : PyData} (hpn : G.pn = []) (hi : δ[i]? = some (some (E.d (S.d k)))) (hv : valX ys k = some v) (ha : δ[a]? = some (some (E.d x))) (hb : δ[b]? = some (some (E.d y))) (q : Q (.rt (.tuple [.int v, x, y]) δ)) :
    DR S G p (tRet (tTup (tCons (tNGet S.toShp G.K (tVar p) (tVar i)) (tCons (tVar a) (tCons (tVar b) tNil))))) δ ys Q := fun F D xs σ H E I e0 kk => by
  obtain ⟨c, e2, rc, na⟩ := I.at_ hi
  have O := I.out hpn
  obtain ⟨w1, f1, r1⟩ := O.slot a _ ha
  obtain ⟨w2, f2, r2⟩ := O.slot b _ hb
  refine ⟨_, I.slotp, _, e2, D, xs, c, k, v, na, by rw [valN_un, e0]; exact hv, _, f1, _, f2, by show 3 ≤ sizeLine; decide, fun q0 h0 => ?_⟩
  have O2 := O.laid h0 (nt_tup [V.int v, w1, w2])
  obtain ⟨_, _, hX, hM⟩ := O.fresh h0
  have g : Gr (del H (Sl F δ σ)) (del (upd H q0 (.tup [V.int v, w1, w2])) (Sl F δ σ)) := gr_laid h0
  have r1 : Rp G.K (del H (Sl F δ σ)) x w1 := r1
  have r2 : Rp G.K (del H (Sl F δ σ)) y w2 := r2
  exact kk _ q σ _ _ O2 (.tup (.inl (.inl (del_some.mpr ⟨fun z => z.elim hM hX, upd_same⟩))) (.cons (.int _) (.cons (r1.gr g) (.cons (r2.gr g) .nil))))
/-- p = {}; t -/
theorem sd_dict {QS : Out → Prop} (hpn : G.pn = []) (hp : p < δ.length) (h : DR S G p t (δ.set p none) [] fun o => match o with
    | .nx δ1 _ => QS (.nx δ1)
    | .rt d δ1 => QS (.rt d δ1)) : SD G (tSeq (tAsg (tDNewN S.toShp) (gName p)) t) δ QS := fun F σ H En I k => fun D hD => by
  obtain ⟨f0, fM, fX, fm⟩ := I.fresh hD
  have fW := I.freshW hD
  have J := I.claim hD (nt_ext (phiN S.toShp D []))
  have J2 := J.set_n (i := p) (v := some (.ref D)) (by rw [hpn]; simp)
  have J3 := J2.repin (p := p) hpn
  have hps : p < σ.length := by rw [← I.len]; exact hp
  rw [Fx.own_one] at J3
  refine h { F with s0 := σ.set p (some (.ref D)) } D [] (σ.set p (some (.ref D))) _ En ⟨by show (σ.set p (some (V.ref D)))[p]? = _; rw [List.getElem?_set_self hps], J3, ⟨f0, fM, fW, fX⟩, fun z => ?_, upd_same, fun x hx => by cases hx⟩ rfl fun o q => ?_
  · obtain ⟨i, zs, e1, e2⟩ := z
    rcases get_set e1 with ⟨_, e, _⟩ | ⟨ne, e1⟩
    · cases e
    · rw [List.getElem?_set_ne (fun z => ne z.symm)] at e2
      exact fm ⟨i, zs, e1, e2⟩
  · have unpin : ∀ {δ' : DEnv} {σ' : L2.St} {H' : Hp}, EI G { F with s0 := σ.set p (some (.ref D)) } δ' σ' H' → EI G F δ' σ' H' := fun J => ⟨J.len, J.slot, J.nd, J.own, J.keep, J.ex, fun i hi => (by rw [hpn] at hi; cases hi), J.tab, J.tk, J.mt, J.mx, J.wl, J.k1⟩
    cases o with
    | nx δ1 y1 => exact fun x1 σ1 H1 I1 _ => k _ q σ1 H1 (unpin (I1.out hpn))
    | rt d δ1 => exact fun σ1 H1 v J r => k _ q σ1 H1 v (unpin J) r
end
end DX


set_option Elab.async false
set_option linter.all false
set_option maxRecDepth 100000
set_option maxHeartbeats 1000000
namespace DX
open PySem PySem.Spec PyProof.Rows L2 GxR GA
section
variable {G : Gx} {δ : DEnv} {ta : TA} {QS : Out → Prop}
/-- a, b = (x, y) -/
theorem sd_par {i j : Nat} (hi : i ∉ G.pn) (hj : j ∉ G.pn) (h : EA G ta δ fun as δ1 => ∃ x y, allD as = some [x, y] ∧ QS (.nx ((δ1.set i (some (.d x))).set j (some (.d y))))) : SD G (tPar i j ta) δ QS := fun F σ H D I k =>
  h F σ H _ I fun as vs δ1 H1 ⟨x, y, e, q⟩ J r => by
    have r2 := allD_ok e r
    cases r2 with
    | cons r3 r4 =>
      cases r4 with
      | cons r5 r6 =>
        cases r6
        rename_i v w
        have g : Gr (del H1 (Sl F δ1 σ)) (del H1 (Sl F (δ1.set i (some (.d x))) (σ.set i (some v)))) := gr_del fun b u nt hb e => ⟨fun z => hb (z.imp (fun z => (MA.set_d (fun _ q => by cases q) z).1) id), e⟩
        exact ⟨v, w, rfl, k _ q _ _ ((J.set_d hi r3).set_d hj (r5.gr g))⟩
end
end DX


set_option Elab.async false
set_option linter.all false
set_option maxRecDepth 100000
set_option maxHeartbeats 2000000
/-! list(zip(a, b)): a new list of new pairs -/
namespace ZiL
open PySem PySem.Spec PyProof.Rows L2
theorem no_len : typeLookup (.type "zip") "__len__" = pure none := am_miss_of_fast (by decide +kernel)
theorem no_hint : typeLookup (.type "zip") "__length_hint__" = pure none := am_miss_of_fast (by decide +kernel)
structure Off (S z TI TO i1 i2 l1 l2 : Addr) : Prop where
  Sz : S ≠ z
  STI : S ≠ TI
  STO : S ≠ TO
  Si1 : S ≠ i1
  Si2 : S ≠ i2
  Sl1 : S ≠ l1
  Sl2 : S ≠ l2
def Zs (z TI TO i1 i2 l1 l2 S : Addr) (xs ys : Array Value) (i : Nat) (h : Heap) : Prop :=
  IsPair h TI (.ref i1) (.ref i2) ∧ h.IsListIter i1 l1 i ∧ h.IsListIter i2 l2 i ∧ h.IsList l1 xs ∧ h.IsList l2 ys ∧
    ((IsZip h z TI TO .none ∧ ∃ a b, IsPair h TO a b) ∨ ∃ T f o, IsZipHeld h z TI TO T f ∧ h.get? T = some o ∧ T ≠ z ∧ T ≠ i1 ∧ T ≠ i2 ∧ T ≠ S)
section
variable {prog : Program} {w : World} {A : Around} {E : Value → Shared → Prop} {s : Shared} {z TI TO i1 i2 l1 l2 S : Addr} {xs ys : Array Value} {i : Nat}
theorem Zs.keep {h h' : Heap} (O : Off S z TI TO i1 i2 l1 l2) (x : Zs z TI TO i1 i2 l1 l2 S xs ys i h) (k : ∀ b o, b ≠ S → h.get? b = some o → h'.get? b = some o) : Zs z TI TO i1 i2 l1 l2 S xs ys i h' := by
  obtain ⟨p, a, b, c, d, e⟩ := x
  refine ⟨k _ _ O.STI.symm p, a.at fun o q => k _ o O.Si1.symm q, b.at fun o q => k _ o O.Si2.symm q, c.at fun o q => k _ o O.Sl1.symm q, d.at fun o q => k _ o O.Sl2.symm q, ?_⟩
  rcases e with ⟨e, u, v, f⟩ | ⟨T, f, o, e, q, r1, r2, r3, r4⟩
  · exact .inl ⟨k _ _ O.Sz.symm e, u, v, k _ _ O.STO.symm f⟩
  · exact .inr ⟨T, f, o, k _ _ O.Sz.symm e, k _ _ r4 q, r1, r2, r3, r4⟩
theorem zs_item {x y : Value} {Q : Option Value → Shared → Prop} (D : ZipApart z TI TO i1 i2 l1 l2) (st : Zs z TI TO i1 i2 l1 l2 S xs ys i s.heap) (hS : S < s.heap.objs.size) (hx : xs[i]? = some x) (hy : ys[i]? = some y)
    (hQ : ∀ h', Zs z TI TO i1 i2 l1 l2 S xs ys (i + 1) h' → IsPair h' s.heap.objs.size x y → h'.objs.size = s.heap.objs.size + 1 → (∀ c o, c ≠ z → c ≠ TO → c ≠ i1 → c ≠ i2 → s.heap.get? c = some o → h'.get? c = some o) →
      Q (some (.ref s.heap.objs.size)) { s with heap := h' }) : wpAny (model prog w) A (pyNext (.ref z)) Q E s := by
  obtain ⟨p, a, b, c, d, e⟩ := st
  have lt : ∀ {c o}, s.heap.get? c = some o → s.heap.objs.size ≠ c := fun q => Nat.ne_of_gt (Heap.lt_size q)
  have n1 : s.heap.objs.size ≠ i1 := by obtain ⟨_, q, _⟩ := a; exact lt q
  have n2 : s.heap.objs.size ≠ i2 := by obtain ⟨_, q, _⟩ := b; exact lt q
  rcases e with ⟨e, u, v, f⟩ | ⟨T, f, o, e, q, r1, r2, r3, r4⟩
  · refine wpAny_pyNext_zip_item D e p f a b c d hx hy fun h' g1 g2 g3 g4 g5 g6 k => hQ h' ?_ g5 g6 k
    exact ⟨k _ _ D.TIz D.TITO D.TIi1 D.TIi2 p, g3, g4, c.at fun o q => k _ o D.l1z D.l1TO D.l1i1 D.l1i2 q, d.at fun o q => k _ o D.l2z D.l2TO D.l2i1 D.l2i2 q, .inr ⟨_, false, _, g1, g5, lt e, n1, n2, Nat.ne_of_gt hS⟩⟩
  · refine wpAny_pyNext_zip_item_held D e q p a b c d hx hy fun h' g1 g3 g4 g5 g6 k => hQ h' ?_ g5 g6 fun c o h1 _ h3 h4 => k c o h1 h3 h4
    exact ⟨k _ _ D.TIz D.TIi1 D.TIi2 p, g3, g4, c.at fun o q => k _ o D.l1z D.l1i1 D.l1i2 q, d.at fun o q => k _ o D.l2z D.l2i1 D.l2i2 q, .inr ⟨T, true, o, g1, k _ _ r1 r2 r3 q, r1, r2, r3, r4⟩⟩
theorem zs_done {Q : Option Value → Shared → Prop} (hh : A.handled = none) (D : ZipApart z TI TO i1 i2 l1 l2) (st : Zs z TI TO i1 i2 l1 l2 S xs ys i s.heap) (he : xs[i]? = none ∨ ys[i]? = none)
    (hQ : ∀ h', (∀ c o, c ≠ z → c ≠ TO → c ≠ i1 → c ≠ i2 → s.heap.get? c = some o → h'.get? c = some o) → Q none { s with heap := h' }) : wpAny (model prog w) A (pyNext (.ref z)) Q E s := by
  obtain ⟨p, a, b, c, d, e⟩ := st
  rcases e with ⟨e, u, v, f⟩ | ⟨T, f, o, e, q, r1, r2, r3, r4⟩
  · exact wpAny_pyNext_zip_end hh D e p f a b c d he hQ
  · exact wpAny_pyNext_zip_end_held hh D e q p a b c d he fun h' k => hQ h' fun c o h1 _ h3 h4 => k c o h1 h3 h4
/-- the pairs that were told, above lo -/
structure Zg (xs ys : Array Value) (lo : Addr) (h : Heap) (as : List Addr) : Prop where
  up : as.Pairwise (· < ·)
  lo : ∀ a ∈ as, lo < a
  is : ∀ (j : Nat) (a : Addr), as[j]? = some a → ∃ x y, xs[j]? = some x ∧ ys[j]? = some y ∧ IsPair h a x y
theorem Zg.old {lo : Addr} {h : Heap} {as : List Addr} (g : Zg xs ys lo h as) {a : Addr} (ha : a ∈ as) : a < h.objs.size := by
  obtain ⟨j, hj⟩ := List.mem_iff_getElem?.mp ha
  obtain ⟨_, _, _, _, e⟩ := g.is j a hj
  exact Heap.lt_size e
theorem Zg.go {lo : Addr} {h h' : Heap} {as : List Addr} (g : Zg xs ys lo h as) (k : ∀ b o, lo < b → h.get? b = some o → h'.get? b = some o) : Zg xs ys lo h' as := ⟨g.up, g.lo, fun j a hj => by
  obtain ⟨x, y, e1, e2, e3⟩ := g.is j a hj
  exact ⟨x, y, e1, e2, k _ _ (g.lo a (List.mem_of_getElem? hj)) e3⟩⟩
end
section
variable {prog : Program} {w : World} {A : Around} {s : Shared} {R : Result → Shared → Prop} {z TI TO i1 i2 l1 l2 S : Addr} {xs ys : Array Value}
theorem zl_loop (hh : A.handled = none) (D : ZipApart z TI TO i1 i2 l1 l2) (O : Off S z TI TO i1 i2 l1 l2) (low : z < S ∧ TO < S ∧ i1 < S ∧ i2 < S) (n : Nat) (hxn : xs.size = n) (hyn : ys.size = n) (hn : n ≤ sizeLine) (res : Value) {h₁ : Heap}
    (hR : ∀ h' tk acc c as, (∀ b o, b ≠ S → b ≠ z → b ≠ TO → b ≠ i1 → b ≠ i2 → h₁.get? b = some o → h'.get? b = some o) → h'.get? S = some { cls := .type "list", dict := none, data := .seq acc c, slots := #[] } → as.length = n → Zg xs ys S h' as →
      acc.toList = as.map Value.ref → R (.ok (.ret res)) { s with heap := h', toks := tk }) :
    ∀ (k i : Nat) (h : Heap) (tk c : Nat) (acc : Array Value) (as : List Addr), n - i = k → i ≤ n → Zs z TI TO i1 i2 l1 l2 S xs ys i h → (∀ b o, b ≠ S → b ≠ z → b ≠ TO → b ≠ i1 → b ≠ i2 → h₁.get? b = some o → h.get? b = some o) →
      h.get? S = some { cls := .type "list", dict := none, data := .seq acc c, slots := #[] } → acc.toList = as.map Value.ref → as.length = i → Zg xs ys S h as →
      codeAny (model prog w) A (.builtin "list.extend.loop" ⟨[.ref S, .ref z, res], []⟩) R { s with heap := h, toks := tk } := by
  intro k
  induction k with
  | zero =>
    intro i h tk c acc as hk hi st kp hS ha hl g
    refine codeAny_builtin PySem.F.entry_extend_loop ?_
    rw [Around.under_plainId PySem.F.plain_extend_loop _]
    refine wpAny_bind (m := pyNext (.ref z)) (zs_done (s := ⟨h, s.gens, s.drawn, tk, s.os⟩) (A := A.in1) hh D st (.inl (Array.getElem?_eq_none (by omega))) fun h' he => ?_)
    refine wpAny_pure (hR h' tk acc c as (fun b o b1 b2 b3 b4 b5 e => he b o b2 b3 b4 b5 (kp b o b1 b2 b3 b4 b5 e)) (he S _ O.Sz O.STO O.Si1 O.Si2 hS) (by omega) (g.go fun b o lb e => he b o ?_ ?_ ?_ ?_ e) ha)
    · intro q; rw [q] at lb; exact Nat.lt_asymm lb low.1
    · intro q; rw [q] at lb; exact Nat.lt_asymm lb low.2.1
    · intro q; rw [q] at lb; exact Nat.lt_asymm lb low.2.2.1
    · intro q; rw [q] at lb; exact Nat.lt_asymm lb low.2.2.2
  | succ k ih =>
    intro i h tk c acc as hk hi st kp hS ha hl g
    have hin : i < n := by omega
    have ex : xs[i]? = some xs[i] := Array.getElem?_eq_getElem (by omega)
    have ey : ys[i]? = some ys[i] := Array.getElem?_eq_getElem (by omega)
    have hsz : acc.size = i := by rw [← Array.length_toList, ha, List.length_map, hl]
    have hSl : S < h.objs.size := Heap.lt_size hS
    refine codeAny_builtin PySem.F.entry_extend_loop ?_
    rw [Around.under_plainId PySem.F.plain_extend_loop _]
    refine wpAny_bind (m := pyNext (.ref z)) (zs_item (s := ⟨h, s.gens, s.drawn, tk, s.os⟩) D st hSl ex ey fun h' st' ht hz hkp => ?_)
    dsimp only at ht hz hkp ⊢
    have hS' := hkp S _ O.Sz O.STO O.Si1 O.Si2 hS
    have up : ∀ b o, b ≠ S → h'.get? b = some o → (h'.update S (Obj.mapSeq (·.push (Value.ref h.objs.size)))).get? b = some o := fun b o hb e => (Heap.get?_update_other _ _ (Ne.symm hb)).trans e
    have far : ∀ b, S < b → b ≠ z ∧ b ≠ TO ∧ b ≠ i1 ∧ b ≠ i2 := fun b lb => ⟨fun q => Nat.lt_asymm (q ▸ lb) low.1, fun q => Nat.lt_asymm (q ▸ lb) low.2.1, fun q => Nat.lt_asymm (q ▸ lb) low.2.2.1, fun q => Nat.lt_asymm (q ▸ lb) low.2.2.2⟩
    refine wpAny_bind (m := updateSeq S (·.push (Value.ref h.objs.size))) ?_
    refine wpAny_updateSeq hS' rfl (wpAny_pure ⟨plainId_quiet PySem.F.plain_extend_loop _, ih (i + 1) _ tk _ (acc.push (Value.ref h.objs.size)) (as ++ [h.objs.size]) (by omega) hin (st'.keep O up)
      (fun b o b1 b2 b3 b4 b5 e => up b o b1 (hkp b o b2 b3 b4 b5 (kp b o b1 b2 b3 b4 b5 e))) (Heap.get?_update_self _ hS' rfl) (by rw [Array.toList_push, ha, List.map_append]; rfl) (by rw [List.length_append, hl]; rfl) ⟨?_, ?_, ?_⟩⟩) (by rw [hsz]; omega) (by show (acc.push (Value.ref h.objs.size)).size ≤ sizeLine + 1; rw [Array.size_push, hsz]; omega)
    · refine List.pairwise_append.mpr ⟨g.up, List.pairwise_singleton _ _, fun a hm b hb => ?_⟩
      rw [List.mem_singleton.mp hb]
      exact g.old hm
    · intro a hm
      rcases List.mem_append.mp hm with hm | hm
      · exact g.lo a hm
      · rw [List.mem_singleton.mp hm]; exact hSl
    · intro j b hj
      rcases Nat.lt_trichotomy j as.length with h1 | h1 | h1
      · rw [List.getElem?_append_left h1] at hj
        obtain ⟨x, y, e1, e2, e3⟩ := g.is j b hj
        have hb := g.lo b (List.mem_of_getElem? hj)
        obtain ⟨f1, f2, f3, f4⟩ := far b hb
        exact ⟨x, y, e1, e2, up b _ (Nat.ne_of_gt hb) (hkp b _ f1 f2 f3 f4 e3)⟩
      · subst h1
        have hb : h.objs.size = b := by simpa using hj
        subst hb
        exact ⟨_, _, by rw [hl]; exact ex, by rw [hl]; exact ey, up _ _ (Nat.ne_of_gt hSl) ht⟩
      · rw [List.getElem?_eq_none (by rw [List.length_append, List.length_singleton]; omega)] at hj
        cases hj
theorem zl_extend (hh : A.handled = none) (D : ZipApart z TI TO i1 i2 l1 l2) (O : Off S z TI TO i1 i2 l1 l2) (low : z < S ∧ TO < S ∧ i1 < S ∧ i2 < S) (n : Nat) (hxn : xs.size = n) (hyn : ys.size = n) (hn : n ≤ sizeLine) (res : Value)
    (st : Zs z TI TO i1 i2 l1 l2 S xs ys 0 s.heap) (hz : IsZip s.heap z TI TO .none) (c₀ : Nat) (hS : s.heap.get? S = some { cls := .type "list", data := .seq #[] c₀ })
    (hR : ∀ h' tk acc c as, (∀ b o, b ≠ S → b ≠ z → b ≠ TO → b ≠ i1 → b ≠ i2 → s.heap.get? b = some o → h'.get? b = some o) → h'.get? S = some { cls := .type "list", dict := none, data := .seq acc c, slots := #[] } → as.length = n → Zg xs ys S h' as →
      acc.toList = as.map Value.ref → R (.ok (.ret res)) { s with heap := h', toks := tk }) :
    wpAny (model prog w) A.in1 (Builtin.List.listExtendWith (.ref S) (.ref z) res)
      (fun fin s' => match fin with | .done f => R (.ok f) s' | .again c' => c'.quiet = true ∧ codeAny (model prog w) A c' R s') (fun e s' => R (.error e) s') s := by
  have hT : s.TypeIs (.ref z) "zip" := ⟨_, hz, rfl⟩
  have key : ∀ (h : Heap) (c₁ tk : Nat), (∀ b o, b ≠ S → s.heap.get? b = some o → h.get? b = some o) → h.get? S = some { cls := .type "list", data := .seq #[] c₁ } → codeAny (model prog w) A (.builtin "list.extend.loop" ⟨[.ref S, .ref z, res], []⟩) R { s with heap := h, toks := tk } := fun h c₁ tk k h1 =>
    zl_loop (s := s) (h₁ := s.heap) hh D O low n hxn hyn hn res hR n 0 h tk c₁ #[] [] (Nat.sub_zero _) (Nat.zero_le _) (st.keep O k) (fun b o b1 _ _ _ _ e => k b o b1 e) h1 rfl rfl ⟨List.Pairwise.nil, (fun _ hm => nomatch hm), (fun j a hj => by simp at hj)⟩
  unfold Builtin.List.listExtendWith
  refine wpAny_bind (wpAny_typeOf hT ?_)
  have e1 : Builtin.List.listSameRef (.ref S) (.ref z) = false := by simp [Builtin.List.listSameRef, O.Sz]
  have e2 : (Value.type "zip" == Value.type "list") = false ∧ (Value.type "zip" == Value.type "tuple") = false := ⟨by decide, by decide⟩
  simp only [e1, e2.1, e2.2, Bool.or_false, Bool.false_eq_true, if_false]
  refine wpAny_bind (wpAny_pyIter_zip hz ?_)
  refine wpAny_bind (wpAny_holding ?_)
  unfold Builtin.List.listLengthHint
  refine wpAny_bind (wpAny_specialOf hT no_len ?_)
  refine wpAny_bind (m := specialOf (Value.ref z) (Str.ofString "__length_hint__")) (wpAny_specialOf hT no_hint ?_)
  refine wpAny_pure ?_
  refine wpAny_bind (m := rule "list.extend.makes-room") (wpAny_rule ?_)
  refine wpAny_bind (m := Builtin.List.listTouch (.ref S)) ?_
  refine wpAny_bind (m := updateSeq S (·.push .none)) (wpAny_updateSeq hS rfl ?_)
  have h2 := Heap.get?_update_self (Obj.mapSeq (·.push Value.none)) hS rfl
  refine wpAny_updateSeq (hz := by seq_fits) h2 rfl ?_
  refine wpAny_pure ⟨plainId_quiet PySem.F.plain_extend_loop _, key _ _ _ (fun b o hb e => ?_) (Heap.get?_update_self (Obj.mapSeq (·.pop)) h2 rfl)⟩
  exact (Heap.get?_update_other _ _ (Ne.symm hb)).trans ((Heap.get?_update_other _ _ (Ne.symm hb)).trans e)
theorem zl_init (hh : A.handled = none) (D : ZipApart z TI TO i1 i2 l1 l2) (O : Off S z TI TO i1 i2 l1 l2) (low : z < S ∧ TO < S ∧ i1 < S ∧ i2 < S) (n : Nat) (hxn : xs.size = n) (hyn : ys.size = n) (hn : n ≤ sizeLine)
    (st : Zs z TI TO i1 i2 l1 l2 S xs ys 0 s.heap) (hz : IsZip s.heap z TI TO .none) (hS : s.heap.get? S = some { cls := .type "list", data := .seq #[] })
    (hR : ∀ h' tk acc c as, (∀ b o, b ≠ S → b ≠ z → b ≠ TO → b ≠ i1 → b ≠ i2 → s.heap.get? b = some o → h'.get? b = some o) → h'.get? S = some { cls := .type "list", dict := none, data := .seq acc c, slots := #[] } → as.length = n → Zg xs ys S h' as →
      acc.toList = as.map Value.ref → R (.ok (.ret .none)) { s with heap := h', toks := tk }) :
    wpAny (model prog w) A.in1 (Builtin.«list.__init__» ⟨[.ref S, .ref z], []⟩)
      (fun fin s' => match fin with | .done f => R (.ok f) s' | .again c' => c'.quiet = true ∧ codeAny (model prog w) A c' R s') (fun e s' => R (.error e) s') s := by
  refine wpAny_bind (m := Builtin.List.listItems (.ref S)) ?_
  unfold Builtin.List.listItems
  refine wpAny_bind (wpAny_seqItems hS rfl (wpAny_pure ?_))
  refine wpAny_bind (m := updateSeq S (fun _ => #[])) (wpAny_updateSeq hS rfl ?_)
  have h2 := Heap.get?_update_self (Obj.mapSeq (fun _ => (#[] : Array Value))) hS rfl
  have kp : ∀ b o, b ≠ S → s.heap.get? b = some o → (s.heap.update S (Obj.mapSeq (fun _ => (#[] : Array Value)))).get? b = some o := fun b o hb e => (Heap.get?_update_other _ _ (Ne.symm hb)).trans e
  refine wpAny_bind (wpAny_letGo ?_)
  exact zl_extend hh D O low n hxn hyn hn .none (st.keep O kp) (kp _ _ O.Sz.symm hz) _ h2 fun h' tk acc c as k q1 q2 q3 q4 => hR h' tk acc c as (fun b o b1 b2 b3 b4 b5 e => k b o b1 b2 b3 b4 b5 (kp b o b1 e)) q1 q2 q3 q4
end
section
variable {prog : Program} {w : World} {A : Around} {E : Value → Shared → Prop} {s : Shared} {z TI TO i1 i2 l1 l2 : Addr} {xs ys : Array Value}
theorem zl_call {Q : Value → Shared → Prop} (hh : A.handled = none) (D : ZipApart z TI TO i1 i2 l1 l2) (n : Nat) (hxn : xs.size = n) (hyn : ys.size = n) (hn : n ≤ sizeLine)
    (hz : IsZip s.heap z TI TO .none) (hTI : IsPair s.heap TI (.ref i1) (.ref i2)) (hTO : IsPair s.heap TO .none .none) (h1 : s.heap.IsListIter i1 l1 0) (h2 : s.heap.IsListIter i2 l2 0) (hl1 : s.heap.IsList l1 xs) (hl2 : s.heap.IsList l2 ys)
    (hQ : ∀ h' tk acc c as, (∀ b o, b ≠ z → b ≠ TO → b ≠ i1 → b ≠ i2 → s.heap.get? b = some o → h'.get? b = some o) → h'.get? s.heap.objs.size = some { cls := .type "list", dict := none, data := .seq acc c, slots := #[] } → as.length = n → Zg xs ys s.heap.objs.size h' as →
      acc.toList = as.map Value.ref → Q (.ref s.heap.objs.size) { s with heap := h', toks := tk }) :
    wpAny (model prog w) A (call (.type "list") [.ref z]) Q E s := by
  have lt : ∀ {c o}, s.heap.get? c = some o → c < s.heap.objs.size := fun q => Heap.lt_size q
  have a1 : i1 < s.heap.objs.size := by obtain ⟨_, q, _⟩ := h1; exact lt q
  have a2 : i2 < s.heap.objs.size := by obtain ⟨_, q, _⟩ := h2; exact lt q
  have a3 : l1 < s.heap.objs.size := by obtain ⟨_, q, _⟩ := hl1; exact lt q
  have a4 : l2 < s.heap.objs.size := by obtain ⟨_, q, _⟩ := hl2; exact lt q
  have O : Off s.heap.objs.size z TI TO i1 i2 l1 l2 := ⟨Nat.ne_of_gt (lt hz), Nat.ne_of_gt (lt hTI), Nat.ne_of_gt (lt hTO), Nat.ne_of_gt a1, Nat.ne_of_gt a2, Nat.ne_of_gt a3, Nat.ne_of_gt a4⟩
  refine callType_codes (Q₁ := fun r t => r = .ref s.heap.objs.size ∧ t = { s with heap := s.heap.push { cls := .type "list", data := .seq #[] } }) F.called_list (F.typeCall_list_1 _) F.entry_list_init (code_list_new _ ⟨rfl, rfl⟩) fun r t ht => ?_
  obtain ⟨rfl, rfl⟩ := ht
  have kp : ∀ b o, s.heap.get? b = some o → (s.heap.push { cls := .type "list", data := .seq #[] }).get? b = some o := fun b o e => Heap.get?_push_of_some _ e
  have hS : (s.heap.push { cls := .type "list", data := .seq #[] }).get? s.heap.objs.size = some { cls := .type "list", data := .seq #[] } := Heap.get?_push_size _ rfl
  refine ⟨⟨_, hS, rfl⟩, F.args_list_init_2 _ _, zl_init (A := A.in1) (s := { s with heap := s.heap.push { cls := .type "list", data := .seq #[] } }) hh D O ⟨lt hz, lt hTO, a1, a2⟩ n hxn hyn hn ?_ (kp _ _ hz) hS fun h' tk acc c as k q1 q2 q3 q4 => ?_⟩
  · exact ⟨kp _ _ hTI, h1.at fun o e => kp _ o e, h2.at fun o e => kp _ o e, hl1.at fun o e => kp _ o e, hl2.at fun o e => kp _ o e, .inl ⟨kp _ _ hz, _, _, kp _ _ hTO⟩⟩
  · exact ⟨rfl, hQ h' tk acc c as (fun b o b2 b3 b4 b5 e => k b o (Nat.ne_of_lt (lt e)) b2 b3 b4 b5 (kp b o e)) q1 q2 q3 q4⟩
end
/-- pairs tracked at their addresses -/
def putP : Hp → List Addr → List (V × V) → Hp
  | H, a :: as, p :: ps => putP (upd H a (.tup [p.1, p.2])) as ps
  | H, _, _ => H
theorem putP_off {b : Addr} : ∀ (as : List Addr) (ps : List (V × V)) (H : Hp), b ∉ as → putP H as ps b = H b
  | [], _, _, _ => rfl
  | _ :: _, [], _, _ => rfl
  | a :: as, p :: ps, H, h => by
    show putP (upd H a (.tup [p.1, p.2])) as ps b = H b
    rw [putP_off as ps _ fun q => h (List.mem_cons_of_mem _ q), upd_ne fun q => h (by rw [q]; exact List.mem_cons_self)]
theorem putP_at : ∀ (as : List Addr) (ps : List (V × V)) (H : Hp), as.length = ps.length → as.Nodup → Paired (fun (t : Addr) (p : V × V) => putP H as ps t = some (.tup [p.1, p.2])) as ps
  | [], [], _, _, _ => .nil
  | [], _ :: _, _, h, _ => by cases h
  | _ :: _, [], _, h, _ => by cases h
  | a :: as, p :: ps, H, h, hn => by
    have n := List.nodup_cons.mp hn
    have ih := putP_at as ps (upd H a (.tup [p.1, p.2])) (Nat.succ.inj h) n.2
    refine .cons ?_ ih
    show putP (upd H a (.tup [p.1, p.2])) as ps a = _
    rw [putP_off as ps _ n.1, upd_same]
section
variable {X : Cx}
theorem pairs_laid {pins : List (Addr × Obj)} {σ : L2.St} {H : Hp} {s : Shared} {h' : Heap} {tk : Nat} {vx vy : List V} {ux uy : List Value} {acc : Array Value} {c : Nat} {as : List Addr} {n : Nat} (I : Inv X pins σ H s) (hz : n ≤ sizeLine) (lx : vx.length = n) (ly : vy.length = n) (rx : Vals vx ux) (ry : Vals vy uy)
    (hk : ∀ b o, s.heap.get? b = some o → h'.get? b = some o) {S : Addr} (hSs : s.heap.objs.size ≤ S) (hS : h'.get? S = some { cls := .type "list", dict := none, data := .seq acc c, slots := #[] }) (hl : as.length = n) (g : Zg ux.toArray uy.toArray S h' as) (ha : acc.toList = as.map Value.ref) :
    ∃ H' : Hp, (∀ b o, H b = some o → H' b = some o) ∧ H S = none ∧ (∀ t ∈ as, H t = none) ∧ S ∉ as ∧ H' S = some (.lst (as.map V.ref)) ∧ Paired (fun (t : Addr) (q : V × V) => H' t = some (.tup [q.1, q.2])) as (vx.zip vy) ∧ Inv X pins σ H' { s with heap := h', toks := tk } := by
  have lz : as.length = (vx.zip vy).length := by rw [List.length_zip]; omega
  have nS : S ∉ as := fun q => Nat.lt_irrefl _ (g.lo _ q)
  have nd : as.Nodup := List.Pairwise.imp (fun {a b} (h : a < b) => Nat.ne_of_lt h) g.up
  have new : ∀ t ∈ as, H t = none := fun t ht => I.hok.fresh (Nat.le_of_lt (Nat.lt_of_le_of_lt hSs (g.lo t ht)))
  have newS : H S = none := I.hok.fresh hSs
  have atP := putP_at as (vx.zip vy) (upd H S (.lst (as.map V.ref))) lz nd
  have off : ∀ b, b ∉ as → b ≠ S → putP (upd H S (.lst (as.map V.ref))) as (vx.zip vy) b = H b := fun b h1 h2 => by rw [putP_off as _ _ h1, upd_ne h2]
  have low : ∀ b o, s.heap.get? b = some o → b ∉ as ∧ b ≠ S := fun b o e => ⟨fun q => absurd (Heap.lt_size e) (Nat.not_lt.mpr (Nat.le_of_lt (Nat.lt_of_le_of_lt hSs (g.lo b q)))), Nat.ne_of_lt (Nat.lt_of_lt_of_le (Heap.lt_size e) hSs)⟩
  have kp : ∀ b u, H b = some u → putP (upd H S (.lst (as.map V.ref))) as (vx.zip vy) b = some u := fun b u e => by
    rw [off b (fun q => by rw [new b q] at e; cases e) (fun q => by rw [q, newS] at e; cases e)]
    exact e
  have eS : putP (upd H S (.lst (as.map V.ref))) as (vx.zip vy) S = some (.lst (as.map V.ref)) := by rw [putP_off as _ _ nS, upd_same]
  refine ⟨_, kp, newS, new, nS, eS, atP, ?_⟩
  refine I.call' (ch := []) rfl ⟨fun b o q _ _ _ => hk b o q, fun b o q _ _ _ => ⟨o.slots, hk b o q⟩, fun b o q e _ => ?_, fun b o q _ => ⟨o, hk b o q⟩, fun b xs q => kp b _ q, fun b o u q => kp b _ q, fun b ps q => ⟨#[], by rw [kp b _ q]; simp⟩⟩ (fun b u q => ?_) I.bare fun b q => by simp at q
  · obtain ⟨q1, q2⟩ := low b o q
    rw [off b q1 q2]
    exact e
  · by_cases hb : b ∈ as
    · obtain ⟨j, p, e1, e2, e3⟩ := LiI.paired_ix atP hb
      rw [e3] at q
      cases q
      obtain ⟨x, y, f1, f2, f3⟩ := g.is j b e1
      have zz := List.getElem?_zip_eq_some.mp (show (vx.zip vy)[j]? = some (p.1, p.2) from e2)
      obtain ⟨u1, g1, r1⟩ := rx.get zz.1
      obtain ⟨u2, g2, r2⟩ := ry.get zz.2
      have f1 : ux[j]? = some x := by simpa using f1
      have f2 : uy[j]? = some y := by simpa using f2
      rw [g1] at f1
      rw [g2] at f2
      cases f1
      cases f2
      exact ⟨by show 2 ≤ sizeLine; decide, [x, y], .cons r1 (.cons r2 .nil), ⟨_, f3, rfl, _, rfl⟩⟩
    · by_cases hb2 : b = S
      · rw [hb2] at q ⊢
        rw [eS] at q
        cases q
        refine ⟨by rw [List.length_map]; omega, acc.toList, c, by rw [ha]; exact LiI.vals_refs as, ?_⟩
        rw [Array.toArray_toList]
        exact hS
      · rw [off b hb hb2] at q
        exact (I.hok b u q).stay (fun d v _ y => hk d v y) (fun d y => kp d _ y) fun d xs y => kp d _ y
def rZipL (K : PySem.W.Frag) : List V → Hp → VK → Prop := fun vs H Q => ∃ a b vx vy, vs = [.ref a, .ref b] ∧ SqL K H a vx ∧ SqL K H b vy ∧ vx.length = vy.length ∧
  ∀ (H' : Hp) (p : Addr) (ts : List Addr), (∀ b o, H b = some o → H' b = some o) → H p = none → (∀ t ∈ ts, H t = none) → p ∉ ts → H' p = some (.lst (ts.map V.ref)) → Paired (fun (t : Addr) (q : V × V) => H' t = some (.tup [q.1, q.2])) ts (vx.zip vy) → Q (.ref p) H'
def tListZip (K : PySem.W.Frag) (ta : TA) : TE := fun σ H Q => ta σ H fun vs H1 => rZipL K vs H1 Q
theorem pe_listZip {e e2 : Expr} {ta : TA} {p p2 pos pos2 : Pos} (hc : X.calm = true) (hg : Gl X "list") (hm : X.mg "list" = none) (hv : bootBuiltins "list" = some (.type "list")) (hg2 : Gl X "zip") (hm2 : X.mg "zip" = none) (ha : PA X [e, e2] ta)
    (hs : starEach [.Call (.Name "zip" p2) [e, e2] [] pos2] X.env = (false, eval (.Call (.Name "zip" p2) [e, e2] [] pos2) X.env) :: starEach [] X.env := by rfl)
    (hs2 : starEach [e, e2] X.env = (false, eval e X.env) :: starEach [e2] X.env := by rfl) (hpl : (backTo pos2 (starEach [e2] X.env)).any (·.1) = false := by rfl) :
    PE X (.Call (.Name "list" p) [.Call (.Name "zip" p2) [e, e2] [] pos2] [] pos) (tListZip X.K ta) := by
  refine ⟨fun pins s σ H Q I hq => ?_⟩
  refine wpAny_Call_Name_kw (ld_blt I hg hm hv ?_)
  refine PyProof.Rows.callWith_type1 ?_ hs rfl
  rw [hs]
  show wpAny _ _ (spliced ((false, eval (.Call (.Name "zip" p2) [e, e2] [] pos2) X.env) :: backTo pos (starEach [] X.env))) _ _ s
  refine Calls.spliced_cons ?_
  refine Call_ (ld_blt I hg2 hm2 PyProof.Rows.boot_zip (PyProof.Rows.callWith_type1 (thn (ha.run pos2 pins s σ H _ I hq) fun us s1 ⟨vs, H1, I1, r1, q1⟩ => ?_) hs2 hpl))
  obtain ⟨a, b, vx, vy, ex, hqx, hqy, hl, q⟩ := q1
  subst ex
  cases r1 with
  | cons r rr =>
    cases rr with
    | cons r' rr =>
      cases rr
      cases r
      cases r'
      obtain ⟨ux, rx, px, hzx⟩ := I1.list hqx
      obtain ⟨uy, ry, py, _⟩ := I1.list hqy
      have la : a < s1.heap.objs.size := px.lt
      have lb : b < s1.heap.objs.size := py.lt
      refine call_zip_2 px.isList py.isList fun h5 g1 g2 g3 g4 g5 g6 k5 => ?_
      refine Calls.spliced_nil ?_
      refine zl_call (s := { s1 with heap := h5 }) (I1.ok.hd hc) (PySem.W.ktu_apart s1.heap.objs.size a b la lb) vx.length (by simp [rx.length]) (by simp [hl, ry.length]) (by have := hzx; have := rx.length; omega) g1 g2 g3 g4 g5 (px.isList.at fun o e => k5 _ o e) (py.isList.at fun o e => k5 _ o e) fun h' tk acc c as k' q1 q2 q3 q4 => ?_
      have hk : ∀ b o, s1.heap.get? b = some o → h'.get? b = some o := fun b o e => by
        have := Heap.lt_size e
        exact k' b o (Nat.ne_of_lt (Nat.lt_of_lt_of_le this (Nat.le_add_right _ _))) (Nat.ne_of_lt (Nat.lt_of_lt_of_le this (Nat.le_add_right _ _))) (Nat.ne_of_lt this) (Nat.ne_of_lt (Nat.lt_of_lt_of_le this (Nat.le_add_right _ _))) (k5 b o e)
      obtain ⟨H', k1, k2, k3, k4, e5, e6, J⟩ := pairs_laid (tk := tk) I1 (n := vx.length) (by have := hzx; have := rx.length; omega) rfl hl.symm rx ry hk (S := h5.objs.size) (by rw [g6]; exact Nat.le_add_right _ _) q1 q2 q3 q4
      exact ⟨.ref _, H', J, rfl, q H' _ as k1 k2 k3 k4 e5 e6⟩
end
end ZiL


set_option Elab.async false
set_option linter.all false
set_option maxRecDepth 100000
set_option maxHeartbeats 1000000
namespace DX
open PySem PySem.Spec PyProof.Rows L2 GxR GA
section
variable {G : Gx} {δ : DEnv} {ta tb : TE} {Q : PyData → DEnv → Prop} {i : Nat} {xs : List PyData}
/-- own list != y -/
theorem ed_neDM (hi : δ[i]? = some (some (E.m xs))) (h : ED G tb δ fun y δ2 => δ2 = δ ∧ EqOk (.list xs) ∧ EqOk y ∧ Q (.bool (!PyData.eqv (.list xs) y)) δ) : ED G (tOp (rNeD G.K) (tVar i) tb) δ Q := fun F σ H R I k => by
  obtain ⟨v, h1, _⟩ := I.slot i _ hi
  refine ⟨v, h1, h.go I fun y w δ2 H2 ⟨e0, o1, o2, q⟩ s2 r2 => ?_⟩
  subst e0
  obtain ⟨v', h1', a, vs, e, h2, h3⟩ := s2.ei.slot i _ hi
  rw [h1] at h1'
  cases h1'
  subst e
  have r1 : Rp G.K H2 (.list xs) (V.ref a) := .lst h2 (RpL.gr gr_out h3)
  exact ⟨.list xs, y, r1.dp o1.1, r2.full.dp o2.1, o1.2, o2.2, k _ _ _ H2 q s2.ei (.bl _)⟩
/-- own list == y -/
theorem ed_eqDM (hi : δ[i]? = some (some (E.m xs))) (h : ED G tb δ fun y δ2 => δ2 = δ ∧ EqOk (.list xs) ∧ EqOk y ∧ Q (.bool (PyData.eqv (.list xs) y)) δ) : ED G (tOp (rEqD G.K) (tVar i) tb) δ Q := fun F σ H R I k => by
  obtain ⟨v, h1, _⟩ := I.slot i _ hi
  refine ⟨v, h1, h.go I fun y w δ2 H2 ⟨e0, o1, o2, q⟩ s2 r2 => ?_⟩
  subst e0
  obtain ⟨v', h1', a, vs, e, h2, h3⟩ := s2.ei.slot i _ hi
  rw [h1] at h1'
  cases h1'
  subst e
  have r1 : Rp G.K H2 (.list xs) (V.ref a) := .lst h2 (RpL.gr gr_out h3)
  exact ⟨.list xs, y, r1.dp o1.1, r2.full.dp o2.1, o1.2, o2.2, k _ _ _ H2 q s2.ei (.bl _)⟩
theorem rp_tyF {K : PySem.W.Frag} {H : Hp} {x : PyData} {v : V} (r : Rp K H x v) : TyX K H v (.type (tyD x)) := by
  have e : del H (fun _ => False) = H := by
    funext b
    unfold del
    exact if_neg id
  have r' : Rp K (del H fun _ => False) x v := by rw [e]; exact r
  exact rp_ty r'
/-- isinstance of an own list -/
theorem ed_isiM {T : String} (hT : T ∈ ["int", "bool", "str", "list", "tuple", "dict"]) (hi : δ[i]? = some (some (E.m xs))) (q : Q (.bool (isD T (.list xs))) δ) : ED G (tCB (rIsi G.K) (tCons (tVar i) (tCons (tC (.ty T)) tNil))) δ Q := fun F σ H R I k => by
  obtain ⟨v, h1, a, vs, e, h2, h3⟩ := I.slot i _ hi
  subst e
  have r1 : Rp G.K H (.list xs) (V.ref a) := .lst h2 (RpL.gr gr_out h3)
  exact ⟨_, h1, V.ref a, .ty T, _, _, _, rfl, .ty T, rp_tyF r1, kit_is hT (.list xs), k _ _ _ H q I.here.ei (.bl _)⟩
end
end DX


set_option Elab.async false
set_option linter.all false
set_option maxRecDepth 100000
set_option maxHeartbeats 1000000
namespace DX
open PySem PySem.Spec PyProof.Rows L2 GxR GA
section
variable {G : Gx} {F : Fx} {δ : DEnv} {σ : L2.St} {H H' : Hp} {tt : TT} {QT : Bool → DEnv → Prop} {i : Nat} {xs : List PyData}
/-- the only own list, lent as data and taken back -/
theorem EI.thaw (I : EI G F δ σ H) (hi : δ[i]? = some (some (E.m xs))) (only : ∀ (j : Nat) (ys : List PyData), δ[j]? = some (some (E.m ys)) → j = i) (s : Since G F (δ.set i (some (.d (.list xs)))) σ H (δ.set i (some (.d (.list xs)))) σ H') : EI G F δ σ H' := by
  have noM : ∀ b, ¬ MA (δ.set i (some (.d (.list xs)))) σ b := fun b ⟨j, ys, e1, e2⟩ => by
    rcases get_set e1 with ⟨_, e, _⟩ | ⟨ne, e3⟩
    · cases e
    · exact ne (only j ys e3)
  have gr : Gr (del H (Sl F δ σ)) (del H' (Sl F δ σ)) := gr_del fun b u n hb e => ⟨hb, s.kp b u n (noM b) (fun w => hb (.inr (I.wl b w).1)) e⟩
  refine ⟨I.len, fun j e h => ?_, I.nd, I.own, s.ei.keep, s.ei.ex, I.pin, s.ei.tab, s.ei.tk, s.ei.mt, I.mx, I.wl, I.k1⟩
  obtain ⟨v, h1, h2⟩ := I.slot j e h
  refine ⟨v, h1, ?_⟩
  cases e with
  | d x => exact Rp.gr gr h2
  | err D => exact XR.gr gr h2
  | k n =>
    have ne : i ≠ j := fun z => by
      subst z
      rw [hi] at h
      cases h
    obtain ⟨v', h1', h2'⟩ := s.ei.slot j (.k n) (by rw [List.getElem?_set_ne ne]; exact h)
    rw [h1] at h1'
    cases h1'
    exact h2'
  | m ys =>
    obtain ⟨a, vs, e, h3, h4⟩ := h2
    subst e
    exact ⟨a, vs, rfl, s.kp a _ (nt_lst _) (noM a) (fun w => (I.wl a w).2 ⟨j, ys, h, h1⟩) h3, RpL.gr gr h4⟩
/-- a test over the only own list -/
theorem dt_lend (hi : δ[i]? = some (some (E.m xs))) (hp : i ∉ G.pn) (only : ∀ (j : Nat) (ys : List PyData), δ[j]? = some (some (E.m ys)) → j = i) (h : DT G tt (δ.set i (some (.d (.list xs)))) fun b δ1 => δ1 = δ.set i (some (.d (.list xs))) ∧ QT b δ) : DT G tt δ QT := fun F σ H R I k =>
  h.go (I.freeze hi hp) fun b δ1 H1 ⟨e, q⟩ s => by
    subst e
    exact k b δ H1 q (I.thaw hi only s)
end
end DX


set_option Elab.async false
set_option linter.all false
set_option maxRecDepth 100000
set_option maxHeartbeats 1000000
namespace DX
open PySem PySem.Spec PyProof.Rows L2 GxR GA
section
variable {G : Gx} {δ : DEnv} {ta : TE} {tl th : TO} {Q : PyData → DEnv → Prop}
/-- a part of a tuple -/
theorem ed_slA (h : ED G ta δ fun x δ1 => DO G tl δ1 fun lo δ2 => DO G th δ2 fun hi δ3 => ∃ xs, x = .tuple xs ∧ Q (.tuple (cutD xs lo hi)) δ3) : ED G (tSl (rSlA G.K) ta tl th) δ Q := fun F σ H R I k =>
  h.go I fun x v δ1 H1 q1 s1 r1 => q1 F σ H1 _ s1.ei fun lo δ2 H2 q2 s2 => q2 F σ H2 _ s2.ei fun hi δ3 H3 ⟨xs, e, q3⟩ s3 => by
    subst e
    have r2 := (r1.gr s2.gr).gr s3.gr
    cases r2 with
    | @tup a ws _ h1 r3 =>
      have hl := r3.len
      refine ⟨_, _, rfl, SqT.gr gr_out h1, fun z => ?_, fun _ p hp => ?_⟩
      · have e : cutD xs lo hi = xs := by
          unfold cutD
          rw [hl, z.1, z.2, List.drop_zero, Nat.sub_zero, ← hl, List.take_length]
        rw [e] at q3
        exact k _ _ δ3 _ q3 s3.ei (.tup h1 r3)
      · obtain ⟨_, _, hX, hm⟩ := s3.ei.fresh hp
        exact k _ _ δ3 _ q3 (s3.ei.laid hp (nt_tup _)) (.tup (.inl (.inl (del_some.mpr ⟨fun z => z.elim hm hX, upd_same⟩))) (RpL.gr (gr_laid hp) (cut_rp r3)))
end
end DX


set_option Elab.async false
set_option linter.all false
set_option maxRecDepth 100000
set_option maxHeartbeats 1000000
namespace DX
open PySem PySem.Spec PyProof.Rows L2 GxR GA
open Classical
/-! ### list(zip(a, b)); o[i] += e -/
section
variable {G : Gx} {F : Fx} {δ δ' δ1 : DEnv} {σ σ' : L2.St} {H H' : Hp} {ta tb tc te tl ti : TE} {tr tk : TA} {tt : TT} {Q : PyData → DEnv → Prop} {QF : List PyData → DEnv → Prop} {QS : Out → Prop}
/-- a new list is handed back at H' -/
theorem new_back {R : VK} (J : EI G F δ σ H) (k : ∀ d p δ' H', QF d δ' → New G F δ' σ H' p d → R (.ref p) H') {d : List PyData} {q : Addr} {ws : List V} (p : QF d δ) (hq : H q = none) (hq' : H' q = some (.lst ws)) (rd : RpL G.K (del H' fun a => a = q ∨ Sl F δ σ a) d ws)
    (kp : ∀ b o, NT o → H b = some o → H' b = some o) (tk : ∀ b ps, H b = some (.tbl ps) → ∃ qs, H' b = some (.tbl qs)) (tb : ∀ p ∈ G.cs, TabG H' p) : R (.ref q) H' := by
  obtain ⟨f0, fM, fX, fm⟩ := J.fresh hq
  have J2 := J.called kp tk tb
  have ne : ∀ {b : Addr} {u : HO}, H b = some u → b ≠ q := fun {b u} e z => by rw [z, hq] at e; cases e
  have gr : Gr (del H (Sl F δ σ)) (del H' (Sl (F.own q) δ σ)) := gr_del fun b u n hb e => ⟨fun z => by
    rcases z with z | z | z
    · exact hb (.inl z)
    · exact ne e z
    · exact hb (.inr z), kp b u n e⟩
  have sub : Gr (del H' fun a => a = q ∨ Sl F δ σ a) (del H' (Sl (F.own q) δ σ)) := gr_del fun b u n hb e => ⟨fun z => hb (by
    rcases z with z | z | z
    · exact .inr (.inl z)
    · exact .inl z
    · exact .inr (.inr z)), e⟩
  refine k d q δ H' p ⟨⟨J2.len, fun i e h => ?_, J2.nd, fun a ha => ?_, J2.keep, fun a ha => ?_, J2.pin, J2.tab, J2.tk, J2.mt, fun i ys a e1 e2 ha => ha.elim (fun z => absurd ⟨i, ys, e1, z ▸ e2⟩ fm) (J2.mx i ys a e1 e2), fun a w => ⟨.inr (J2.wl a w).1, (J2.wl a w).2⟩, J2.k1⟩, fm, fX, f0, fM, J.freshW hq, ws, hq', RpL.gr sub rd⟩
  · obtain ⟨v, h1, h2⟩ := J.slot i e h
    refine ⟨v, h1, ?_⟩
    cases e with
    | d x => exact Rp.gr gr h2
    | err D => exact XR.gr gr h2
    | k n =>
      obtain ⟨b, eb, h3⟩ := h2
      exact ⟨b, eb, h3.up fun c u w e => kp _ _ (nt_lst _) e⟩
    | m ys =>
      obtain ⟨a, us, h4, h5, h6⟩ := h2
      exact ⟨a, us, h4, kp _ _ (nt_lst _) h5, RpL.gr gr h6⟩
  · rcases J.own a ha with z | ⟨z, zx⟩
    · exact .inl z
    · refine .inr ⟨z, fun w => ?_⟩
      rcases w with w | w
      · exact fm (by rw [← w]; exact ha)
      · exact zx w
  · rcases ha with rfl | ha
    · exact ⟨_, hq', nt_lst _⟩
    · exact J2.ex a ha
theorem ef_zipL (h : EA G tr δ fun as δ1 => ∃ xs zs, allD as = some [.list xs, .list zs] ∧ xs.length = zs.length ∧ QF (List.zipWith (fun x y => .tuple [x, y]) xs zs) δ1) : EF G (ZiL.tListZip G.K tr) δ QF := fun F σ H R I k =>
  h F σ H _ I fun as vs δ1 H1 ⟨xs, zs, e, hl, q⟩ J r1 => by
    have r := allD_ok e r1
    cases r with
    | cons ra rr =>
      cases rr with
      | cons rb rr =>
        cases rr
        cases ra with
        | @lst a vx _ h1 rx =>
          cases rb with
          | @lst b vy _ h2 ry =>
            refine ⟨a, b, vx, vy, rfl, SqL.of (del_some.mp h1).2, SqL.of (del_some.mp h2).2, by rw [← rx.len, ← ry.len, hl], fun H' p ts kp hp ht hpt hp' pr => ?_⟩
            obtain ⟨f0, fM, fX, fm⟩ := J.fresh hp
            have kq : ∀ c o, NT o → H1 c = some o → H' c = some o := fun c o _ e => kp c o e
            have gr : Gr (del H1 (Sl F δ1 σ)) (del H' fun c => c = p ∨ Sl F δ1 σ c) := gr_del fun c u n hb e => ⟨fun z => by
              rcases z with z | z
              · rw [z, hp] at e; cases e
              · exact hb z, kp c u e⟩
            refine new_back J k q hp hp' ?_ kq (fun c ps e => ⟨ps, kp c _ e⟩) fun c hc => ?_
            · have rx2 := RpL.gr gr rx
              have ry2 := RpL.gr gr ry
              have nt : ∀ t ∈ ts, ¬ (t = p ∨ Sl F δ1 σ t) := fun t h z => by
                rcases z with z | z
                · exact hpt (z ▸ h)
                · obtain ⟨_, _, gX, gm⟩ := J.fresh (ht t h)
                  rcases z with z | z
                  · exact gm z
                  · exact gX z
              clear h1 h2 rx ry e r1 gr k q hp' J
              generalize hM : (fun c => c = p ∨ Sl F δ1 σ c) = M at rx2 ry2 ⊢
              have nu : ∀ t ∈ ts, ¬ M t := fun t h => by rw [← hM]; exact nt t h
              clear hM ht hpt nt
              induction xs generalizing zs vx vy ts with
              | nil =>
                cases zs with
                | cons _ _ => cases hl
                | nil =>
                  cases rx2
                  cases pr
                  exact .nil
              | cons x xs ih =>
                cases zs with
                | nil => cases hl
                | cons z zs =>
                  cases rx2 with
                  | @cons _ _ v vs r r2 =>
                    cases ry2 with
                    | @cons _ _ u us q q2 =>
                      cases pr with
                      | @cons t _ ts _ g gs =>
                        exact .cons (.tup (SqT.of (del_some.mpr ⟨nu _ List.mem_cons_self, g⟩)) (.cons r (.cons q .nil))) (ih (zs := zs) (Nat.succ.inj hl) (vx := vs) (vy := us) (ts := ts) (pr := gs) (rx2 := r2) (ry2 := q2) fun t h => nu t (List.mem_cons_of_mem _ h))
            · obtain ⟨es, z, hz⟩ := J.tab c hc
              exact ⟨es, kp c _ z, hz⟩
theorem sd_addIx {i : Nat} (h0 : ∃ xs0, δ[i]? = some (some (E.m xs0))) (h : ED G ti δ fun y δ1 => ∃ (xs : List PyData) (j : Nat) (x : Int), y = .int (j : Nat) ∧ δ1[i]? = some (some (E.m xs)) ∧ xs[j]? = some (.int x) ∧
      ED G te δ1 fun d δ2 => ∃ z ys, d = .int z ∧ δ2[i]? = some (some (E.m ys)) ∧ j < ys.length ∧ QS (.nx (δ2.set i (some (.m (ys.set j (.int (x + z)))))))) :
    SD G (tAugS (tVar i) ti te (rGetL G.K) (ipI fun i j => i + j) rSetL) δ QS := fun F σ H D I k => by
  obtain ⟨xs0, h0⟩ := h0
  obtain ⟨v, g1, a, vs, e, g2, g3⟩ := I.slot i _ h0
  subst e
  refine ⟨_, g1, h.go I fun y z δ1 H1 ⟨xs, j, x, e1, h1, hx, q1⟩ s1 r1 => ?_⟩
  subst e1
  cases r1
  obtain ⟨v, g1', b, ws, e, h5, h6⟩ := s1.ei.slot i _ h1
  rw [g1] at g1'
  cases g1'
  cases e
  obtain ⟨w, hw, rw_⟩ := h6.get hx
  cases rw_
  refine ⟨a, ws, j, .int x, rfl, rfl, SqL.of h5, by omega, by simpa using hw, q1.go s1.ei fun d z δ2 H2 ⟨z', ys, e2, h2, hj, q⟩ s2 r2 => ?_⟩
  subst e2
  cases r2
  obtain ⟨v, g1', b, us, e, h7, h8⟩ := s2.ei.slot i _ h2
  rw [g1] at g1'
  cases g1'
  cases e
  exact ⟨x, z', rfl, rfl, a, us, j, j, rfl, rfl, h7, ixN_of (by rw [← h8.len]; exact hj), k _ q σ _ (s2.ei.write h2 g1 h7 (RpL.set (.int _) _ h8))⟩
end
end DX


set_option Elab.async false
set_option linter.all false
set_option maxRecDepth 100000
set_option maxHeartbeats 1000000
namespace DX
open PySem PySem.Spec PyProof.Rows L2 GxR GA
section
variable {G : Gx} {F : Fx} {δ : DEnv} {σ : L2.St} {H H' : Hp} {tt : TT} {te : TE} {Q : PyData → DEnv → Prop} {QT : Bool → DEnv → Prop} {i : Nat} {xs : List PyData}
theorem rpl_scal {K : PySem.W.Frag} {H1 H2 : Hp} : ∀ {ds : List PyData} {us : List V}, ds.all scalD = true → RpL K H1 ds us → RpL K H2 ds us
  | _, _, _, .nil => .nil
  | _, _, h, .cons r1 r2 => by
    rw [List.all_cons, Bool.and_eq_true] at h
    exact .cons (rp_scal h.1 r1) (rpl_scal h.2 r2)
/-- an own list, lent as data and taken back, beside own lists of scalars -/
theorem EI.thawS (I : EI G F δ σ H) (hi : δ[i]? = some (some (E.m xs))) (only : ∀ (j : Nat) (ys : List PyData), δ[j]? = some (some (E.m ys)) → j = i ∨ ys.all scalD = true) (s : Since G F (δ.set i (some (.d (.list xs)))) σ H (δ.set i (some (.d (.list xs)))) σ H') : EI G F δ σ H' := by
  have less : ∀ b, MA (δ.set i (some (.d (.list xs)))) σ b → ∃ (j : Nat) (ys : List PyData), i ≠ j ∧ δ[j]? = some (some (E.m ys)) ∧ σ[j]? = some (some (V.ref b)) := fun b ⟨j, ys, e1, e2⟩ => by
    rcases get_set e1 with ⟨_, e, _⟩ | ⟨ne, e3⟩
    · cases e
    · exact ⟨j, ys, fun z => ne z.symm, e3, e2⟩
  have gr : Gr (del H (Sl F δ σ)) (del H' (Sl F δ σ)) := gr_del fun b u n hb e => ⟨hb, s.kp b u n (fun z => by
    obtain ⟨j, ys, _, e3, e4⟩ := less b z
    exact hb (.inl ⟨j, ys, e3, e4⟩)) (fun w => hb (.inr (I.wl b w).1)) e⟩
  refine ⟨I.len, fun j e h => ?_, I.nd, I.own, s.ei.keep, s.ei.ex, I.pin, s.ei.tab, s.ei.tk, s.ei.mt, I.mx, I.wl, I.k1⟩
  obtain ⟨v, h1, h2⟩ := I.slot j e h
  refine ⟨v, h1, ?_⟩
  cases e with
  | d x => exact Rp.gr gr h2
  | err D => exact XR.gr gr h2
  | k n =>
    have ne : i ≠ j := fun z => by
      subst z
      rw [hi] at h
      cases h
    obtain ⟨v', h1', h2'⟩ := s.ei.slot j (.k n) (by rw [List.getElem?_set_ne ne]; exact h)
    rw [h1] at h1'
    cases h1'
    exact h2'
  | m ys =>
    by_cases ne : i = j
    · subst ne
      obtain ⟨a, vs, e, h3, h4⟩ := h2
      subst e
      refine ⟨a, vs, rfl, s.kp a _ (nt_lst _) (fun z => ?_) (fun w => (I.wl a w).2 ⟨i, ys, h, h1⟩) h3, RpL.gr gr h4⟩
      obtain ⟨j, zs, nj, e3, e4⟩ := less a z
      exact nj (I.nd i j ys zs a h e3 h1 e4)
    · obtain ⟨v', h1', h2'⟩ := s.ei.slot j (.m ys) (by rw [List.getElem?_set_ne ne]; exact h)
      rw [h1] at h1'
      cases h1'
      obtain ⟨a, vs, e, h3, h4⟩ := h2'
      have sc : ys.all scalD = true := (only j ys h).resolve_left fun z => ne z.symm
      exact ⟨a, vs, e, h3, rpl_scal sc h4⟩
theorem dt_lendS (hi : δ[i]? = some (some (E.m xs))) (hp : i ∉ G.pn) (only : ∀ (j : Nat) (ys : List PyData), δ[j]? = some (some (E.m ys)) → j = i ∨ ys.all scalD = true) (h : DT G tt (δ.set i (some (.d (.list xs)))) fun b δ1 => δ1 = δ.set i (some (.d (.list xs))) ∧ QT b δ) : DT G tt δ QT := fun F σ H R I k =>
  h.go (I.freeze hi hp) fun b δ1 H1 ⟨e, q⟩ s => by
    subst e
    exact k b δ H1 q (I.thawS hi only s)
theorem ed_lendS (hi : δ[i]? = some (some (E.m xs))) (hp : i ∉ G.pn) (only : ∀ (j : Nat) (ys : List PyData), δ[j]? = some (some (E.m ys)) → j = i ∨ ys.all scalD = true) (h : ED G te (δ.set i (some (.d (.list xs)))) fun d δ1 => δ1 = δ.set i (some (.d (.list xs))) ∧ scalD d = true ∧ Q d δ) : ED G te δ Q := fun F σ H R I k =>
  h.go (I.freeze hi hp) fun d v δ1 H1 ⟨e, sc, q⟩ s r => by
    subst e
    exact k d v δ H1 q (I.thawS hi only s) (rp_scal sc r)
end
end DX


set_option Elab.async false
set_option linter.all false
set_option maxRecDepth 100000
set_option maxHeartbeats 1000000
namespace DX
open PySem PySem.Spec PyProof.Rows L2 GxR GA
section
variable {G : Gx} {F : Fx} {δ : DEnv} {σ : L2.St} {H H' : Hp} {t : TS} {tr : TA} {QS : Out → Prop}
/-- for i in range(lo, hi) -/
theorem sd_forR2 {i : Nat} (hp : i ∉ G.pn) (h : EA G tr δ fun as δ1 => ∃ lo hi : Int, allD as = some [.int lo, .int hi] ∧ (-(2 ^ 62) ≤ lo ∧ lo < 2 ^ 62 ∧ -(2 ^ 62) ≤ hi ∧ hi < 2 ^ 62) ∧ ∃ IV : Nat → DEnv → Prop, IV 0 δ1 ∧
      (∀ k δ2, k < (hi - lo).toNat → IV k δ2 → SD G t (δ2.set i (some (.d (.int (lo + (k : Int)))))) (Lp QS (IV (k + 1)))) ∧ ∀ δ2, IV (hi - lo).toNat δ2 → QS (.nx δ2)) : SD G (tFor (iRng2 tr) (gName i) t) δ QS := fun F σ H D I k =>
  h F σ H _ I fun as vs δ1 H1 ⟨lo, hi, e, jj, IV, i0, st, fin⟩ J r => by
    have r2 := allD_ok e r
    cases r2 with
    | cons r3 r4 => cases r4 with
      | cons r5 r6 =>
        cases r6; cases r3; cases r5
        refine ⟨lo, hi, rfl, jj, for_range (lo := lo) (n := (hi - lo).toNat) (fun j σ' H' => ∃ δ2, IV j δ2 ∧ EI G F δ2 σ' H') ⟨δ1, i0, J⟩ ?_ ?_⟩
        · rintro j σ2 H2 hj ⟨δ2, iv, J2⟩
          exact st j δ2 hj iv F _ H2 _ (J2.set_d hp (.int _)) (loop_ends k fun δ3 σ3 H3 iv3 J3 => ⟨δ3, iv3, J3⟩)
        · rintro σ2 H2 ⟨δ2, iv, J2⟩
          exact k _ (fin δ2 iv) σ2 H2 J2
end
end DX


set_option Elab.async false
set_option linter.all false
set_option maxRecDepth 100000
set_option maxHeartbeats 4000000
/-! tuple * 1 is the tuple -/
namespace TuO
open PySem PySem.Spec PyProof.Rows L2
theorem mul_one (l : Addr) (items : Array Value) (n : Nat) (dd : Option Addr) (sl : Array (Option Value)) (u : Tok) :
    Meets (Builtin.«tuple.__mul__» ⟨[.ref l, .int 1 u], []⟩) (fun _ R s => s.heap.get? l = some { cls := .type "tuple", dict := dd, data := .seq items n, slots := sl } ∧ R (.ok (.ret (Value.ref l))) s) :=
  .of_wp fun prog w A R s h => by
    obtain ⟨hp, g, d, tk, os⟩ := s
    obtain ⟨hl, h⟩ := h
    have f1 := AutoSeq1.idx_int
    have c1 : (items.isEmpty || (1 : Int) == 1) = true := by simp
    wp_walk using wpAny_loadPart' hl
    repeat (first
      | (refine wpAny_ite_true (decide_eq_true (by rw [c1])) ?_; wp_walk using wpAny_loadPart' hl)
      | (refine wpAny_ite_true (decide_eq_true c1) ?_; wp_walk using wpAny_loadPart' hl)
      | (rw [if_pos c1]; wp_walk using wpAny_loadPart' hl))
    exact ⟨_, rfl, h⟩
def rRep1 (K : PySem.W.Frag) : R2 := fun x y H Q => ∃ l xs, x = .ref l ∧ y = .int 1 ∧ SqT K H l xs ∧ Q (.ref l) H
def rRepA (K : PySem.W.Frag) : R2 := fun x y H Q => rRepT K x y H Q ∨ rRep1 K x y H Q
section
variable {X : Cx}
theorem op_rep1 : OpR X (binaryOp .Mult) (rRep1 X.K) := by
  intro pins s σ H x y v u Q I rx ry h
  obtain ⟨l, xs, rfl, rfl, hT, q⟩ := h
  cases rx
  obtain ⟨t, rfl⟩ := ry
  obtain ⟨its, r, ⟨⟨cls, dd, data, sl⟩, ho, hc, n, hd⟩, hs⟩ := I.tuple hT
  simp only at hc hd
  subst hc hd
  refine wpAny_binaryOp_repeat_ref (T := "tuple") (U := "int") (by decide) ⟨_, ho, rfl⟩ (fun s' => typeIs_int s' 1 t) noFill_tuple_mul F.fills_int_mul F.slot_int_rmul repeat_tuple F.slot_int_index.lookup
    (call_meets F.slot_int_rmul (typeIs_int s 1 t) F.entry_int_rmul (F.args_int_rmul_2 _ _) (int_rmul_tuple 1 t l its.toArray n dd sl) ⟨ho, rfl, ⟨_, ho, rfl⟩, call_meets F.slot_tuple_mul ⟨_, ho, rfl⟩ F.entry_tuple_mul (F.args_tuple_mul_2 _ _) (mul_one l its.toArray n dd sl t) ⟨ho, ?_⟩⟩)
  exact ⟨.ref l, H, I, rfl, q⟩
theorem op_repA : OpR X (binaryOp .Mult) (rRepA X.K) := fun pins s σ H x y v u Q I rx ry h => h.elim (fun z => op_repT pins s σ H x y v u Q I rx ry z) fun z => op_rep1 pins s σ H x y v u Q I rx ry z
end
end TuO


set_option Elab.async false
set_option linter.all false
set_option maxRecDepth 100000
set_option maxHeartbeats 1000000
namespace DX
open PySem PySem.Spec PyProof.Rows L2 GxR GA
section
variable {G : Gx} {F : Fx} {δ : DEnv} {σ : L2.St} {H H' : Hp} {ta tb : TE} {Q : PyData → DEnv → Prop}
/-- tuple * number -/
theorem ed_repA (h : ED G ta δ fun x δ1 => ED G tb δ1 fun y δ2 => ∃ (xs : List PyData) (k : Nat), x = .tuple xs ∧ y = .int (k : Nat) ∧ xs ≠ [] ∧ 1 ≤ k ∧ k ≤ 1000 ∧ xs.length ≤ 1000 ∧ Q (.tuple (List.replicate k xs).flatten) δ2) : ED G (tOp (TuO.rRepA G.K) ta tb) δ Q := fun F σ H R I k =>
  h.go I fun x u δ1 H1 q1 s1 r1 => q1.go s1.ei fun y v δ2 H2 ⟨xs, n, e1, e2, nx, n1, n2, hl, q⟩ s2 r2 => by
    subst e1 e2
    have r1 := r1.gr s2.gr
    cases r2
    cases r1 with
    | @tup a ws _ h1 r3 =>
      by_cases c : n = 1
      · subst c
        refine .inr ⟨a, ws, rfl, rfl, SqT.gr gr_out h1, k _ _ δ2 _ q s2.ei ?_⟩
        have e : (List.replicate 1 xs).flatten = xs := by simp
        rw [e]
        exact .tup h1 r3
      · refine .inl ⟨a, (n : Nat), ws, rfl, rfl, SqT.gr gr_out h1, fun z => ?_, by omega, by omega, by rw [← r3.len]; exact hl, fun p hp => ?_⟩
        · subst z; cases r3; exact nx rfl
        · obtain ⟨_, _, hX, hm⟩ := s2.ei.fresh hp
          rw [Int.toNat_natCast]
          exact k _ _ δ2 _ q (s2.ei.laid hp (nt_tup _)) (.tup (.inl (.inl (del_some.mpr ⟨fun z => z.elim hm hX, upd_same⟩))) (RpL.gr (gr_laid hp) (rpL_rep r3 n)))
end
end DX


set_option Elab.async false
set_option linter.all false
set_option maxRecDepth 100000
set_option maxHeartbeats 2000000
/-! a list comprehension over a list, while an exception is handled -/
namespace HoL
open PySem PySem.Spec PyProof.Rows L2 HotX L2H
section
variable {prog : Program} {w : World} {A : Around} {E : Value → Shared → Prop} {s : Shared}
theorem lst_end {it l x1 : Addr} {i : Nat} {items : Array Value} {Q : Option Value → Shared → Prop} (hot : HotAt A x1 s.heap) (hit : s.heap.IsListIter it l i) (hl : s.heap.IsList l items) (hx : items[i]? = none)
    (hQ : ∀ h', (∀ b o, b ≠ it → s.heap.get? b = some o → h'.get? b = some o) → Q none { s with heap := h' }) : wpAny (model prog w) A (pyNext (.ref it)) Q E s := by
  obtain ⟨hh, o1, vs1, h1, d1, c1⟩ := hot
  obtain ⟨o, ho, hc, hd⟩ := id hit
  obtain ⟨ol, hol, _, nl, hdl⟩ := hl
  have ne : x1 ≠ it := fun z => by
    subst z
    rw [ho] at h1
    cases h1
    rw [hd] at d1
    cases d1
    cases c1
  unfold pyNext
  refine wpAny_bind (wpAny_attempt (wpAny_callSpecial?_slot (name := Str.ofString "__next__") hit.typeIs slot_listiter_next (wpAny_call_entry slot_listiter_next hit.typeIs entry_listiter_next ?_ (args_listiter_next _))))
  refine wpAny_bind (m := field (.ref it) 0) (wpAny_field ho hd (x := .ref l) rfl ?_)
  rw [if_neg (show ¬ ((Value.ref l == Value.none) = true) from Bool.false_ne_true)]
  refine wpAny_bind (m := field (.ref it) 1) (wpAny_field ho hd (x := .int i 0) rfl ?_)
  refine wpAny_bind (m := seqItems? (.ref l)) (wpAny_seqItems hol hdl ?_)
  simp only [Int.toNat_natCast, hx]
  refine wpAny_bind (wpAny_rule (wpAny_bind (wpAny_setField ho hd (by simp) ?_)))
  refine wpAny_bind (m := newExc (.type "StopIteration") []) ?_
  simp only [newExc, newTuple]
  refine wpAny_bind (wpAny_newObj_type ?_ (by size_fits))
  refine wpAny_bind (m := firstArgMember _ _) (wpAny_of_eq (a := Value.none) (by first | rfl | (simp only [firstArgMember]; rfl)) ?_)
  refine wpAny_newObj_type ?_ (by size_fits)
  have k0 : ∀ (f : Obj → Obj) b u, b ≠ it → s.heap.get? b = some u → (s.heap.update it f).get? b = some u := fun f b u hb e => (Heap.get?_update_other _ _ (Ne.symm hb)).trans e
  refine raiseNew_hot ⟨hh, o1, vs1, Heap.get?_push_of_some _ (Heap.get?_push_of_some _ (k0 _ _ _ ne h1)), d1, c1⟩ (Nat.ne_of_lt (Heap.lt_size (Heap.get?_push_of_some _ (k0 _ _ _ ne h1)))) (Heap.get?_push_size _ rfl) rfl (by first | (simp; done) | (simp; omega) | (simp only [Array.size_append]; simp; omega)) ?_
  refine wpAny_bind (wpAny_isInstance (T := "StopIteration") (b := true) ⟨_, Heap.get?_update_self _ (Heap.get?_push_size _ rfl) rfl, rfl⟩ isSubtype_stop ?_)
  refine wpAny_pure (hQ _ fun b u hb e => ?_)
  rw [Heap.get?_update_other _ _ (Nat.ne_of_gt (Heap.lt_size (Heap.get?_push_of_some _ (k0 _ _ _ hb e))))]
  exact Heap.get?_push_of_some _ (Heap.get?_push_of_some _ (k0 _ _ _ hb e))
theorem tup_end {it l x1 : Addr} {i : Nat} {items : Array Value} {Q : Option Value → Shared → Prop} (hot : HotAt A x1 s.heap) (hit : IsTupIter s.heap it l i) (hl : IsTup s.heap l items) (hx : items[i]? = none)
    (hQ : ∀ h', Heap.ExtBut it s.heap h' → Q none { s with heap := h' }) : wpAny (model prog w) A (pyNext (.ref it)) Q E s := by
  obtain ⟨hh, o1, vs1, h1, d1, c1⟩ := hot
  obtain ⟨o, ho, hc, hd⟩ := id hit
  obtain ⟨ol, hol, _, nl, hdl⟩ := hl
  have ne : x1 ≠ it := fun z => by
    subst z
    rw [ho] at h1
    cases h1
    rw [hd] at d1
    cases d1
    cases c1
  unfold pyNext
  refine wpAny_bind (wpAny_attempt (wpAny_callSpecial?_slot (name := Str.ofString "__next__") hit.typeIs slot_tupleiter_next (wpAny_call_entry slot_tupleiter_next hit.typeIs entry_tupleiter_next ?_ (args_tupleiter_next _))))
  refine wpAny_bind (m := field (.ref it) 0) (wpAny_field ho hd (x := .ref l) rfl ?_)
  rw [if_neg (show ¬ ((Value.ref l == Value.none) = true) from Bool.false_ne_true)]
  refine wpAny_bind (m := field (.ref it) 1) (wpAny_field ho hd (x := .int i 0) rfl ?_)
  refine wpAny_bind (m := seqItems? (.ref l)) (wpAny_seqItems hol hdl ?_)
  simp only [Int.toNat_natCast, hx]
  refine wpAny_bind (wpAny_rule (wpAny_bind (wpAny_setField ho hd (by simp) ?_)))
  refine wpAny_bind (m := newExc (.type "StopIteration") []) ?_
  simp only [newExc, newTuple]
  refine wpAny_bind (wpAny_newObj_type ?_ (by size_fits))
  refine wpAny_bind (m := firstArgMember _ _) (wpAny_of_eq (a := Value.none) (by first | rfl | (simp only [firstArgMember]; rfl)) ?_)
  refine wpAny_newObj_type ?_ (by size_fits)
  have k0 : ∀ (f : Obj → Obj) b u, b ≠ it → s.heap.get? b = some u → (s.heap.update it f).get? b = some u := fun f b u hb e => (Heap.get?_update_other _ _ (Ne.symm hb)).trans e
  refine raiseNew_hot ⟨hh, o1, vs1, Heap.get?_push_of_some _ (Heap.get?_push_of_some _ (k0 _ _ _ ne h1)), d1, c1⟩ (Nat.ne_of_lt (Heap.lt_size (Heap.get?_push_of_some _ (k0 _ _ _ ne h1)))) (Heap.get?_push_size _ rfl) rfl (by first | (simp; done) | (simp; omega) | (simp only [Array.size_append]; simp; omega)) ?_
  refine wpAny_bind (wpAny_isInstance (T := "StopIteration") (b := true) ⟨_, Heap.get?_update_self _ (Heap.get?_push_size _ rfl) rfl, rfl⟩ isSubtype_stop ?_)
  refine wpAny_pure (hQ _ fun b u hb e => ?_)
  rw [Heap.get?_update_other _ _ (Nat.ne_of_gt (Heap.lt_size (Heap.get?_push_of_some _ (k0 _ _ _ hb e))))]
  exact Heap.get?_push_of_some _ (Heap.get?_push_of_some _ (k0 _ _ _ hb e))
theorem asg_tup {env : Env} {elts : List Expr} {x1 : Nat} {pos : Pos} {t ax : Addr} {items : Array Value} {Q : Unit → Shared → Prop} (hot : HotAt A ax s.heap) (ht : IsTup s.heap t items)
    (hn : (assignEach elts env).length = items.size) (hstar : (assignEach elts env).findIdx? (·.1) = none)
    (h : ∀ h', Heap.ExtBut s.heap.objs.size s.heap h' → wpAny (model prog w) A (assignInOrder ((assignEach elts env).map (·.2)) items.toList) Q E { s with heap := h' }) :
    wpAny (model prog w) A (assign (.Tuple elts x1 pos) env (.ref t)) Q E s := by
  rw [assign_Tuple]
  refine wpAny_bind (wpAny_standAt ?_)
  unfold unpack
  rw [hn, hstar]
  refine wpAny_bind (wpAny_holding ?_)
  have hlt : t ≠ s.heap.objs.size := by obtain ⟨o, ho, _⟩ := ht; exact Nat.ne_of_lt (Heap.lt_size ho)
  unfold unpackItems
  refine wpAny_bind ?_
  unfold notIterableAtAll
  refine wpAny_bind (wpAny_specialOf ht.typeIs slot_tuple_iter.lookup ?_)
  refine wpAny_pure ?_
  simp only [Bool.false_eq_true, if_false]
  refine wpAny_bind (wpAny_holding (iter_tuple ht ?_))
  refine wpAny_bind (wpAny_holding (draw_tuple hlt items.size 0 _ _ ⟨_, Heap.get?_push_size _ rfl, rfl, rfl⟩ (ht.push _) (by omega) fun h₁ hit₁ hs₁ => ?_))
  have hall : List.take items.size (List.drop 0 items.toList) = items.toList := by
    rw [List.drop_zero]; exact List.take_of_length_le (by simp)
  rw [hall]
  rw [if_neg (by simp)]
  have ht₁ : IsTup h₁ t items := (ht.push _).extBut hs₁.extBut hlt
  have hot₁ : HotAt A ax h₁ := by
    obtain ⟨hh, o1, vs1, h1, d1, c1⟩ := hot
    exact ⟨hh, o1, vs1, hs₁.extBut ax o1 (Nat.ne_of_lt (Heap.lt_size h1)) (Heap.get?_push_of_some _ h1), d1, c1⟩
  refine wpAny_bind (wpAny_holding (tup_end hot₁ hit₁ ht₁ (by simp) fun h₂ he₂ => ?_))
  simp only [Option.isSome_none, Bool.false_eq_true, if_false]
  refine wpAny_pure (h h₂ (fun b o hb e => he₂ b o hb (hs₁.extBut b o hb (Heap.get?_push_of_some _ e))))
end
section
variable {X : Cx}
theorem pg_tupH {es : List Expr} {k : Nat} {t : TGs} {n : Nat} {pos : Pos} (hc : HotC X) (h : PGs X es t)
    (hn : (assignEach es X.env).length = n := by rfl) (hst : (assignEach es X.env).findIdx? (·.1) = none := by rfl) : PG X (.Tuple es k pos) (gTup X.K n t) := by
  refine ⟨fun pins s σ H v u Q I r hw => ?_⟩
  obtain ⟨a, xs, e1, hq, hl, hw⟩ := hw
  subst e1
  cases r
  obtain ⟨its, rv, ht, hz⟩ := I.tuple hq
  obtain ⟨x1, hot⟩ := hc.at I
  refine asg_tup hot ht (by simp [hn, ← hl, rv.length]) hst fun h' hx => ?_
  have I1 : Inv X pins σ H { s with heap := h' } := I.kept (t' := s.toks) fun b o e => hx b o (Nat.ne_of_lt (Heap.lt_size e)) e
  exact h.run pins _ σ H xs _ Q I1 (by simpa using rv) hw
abbrev blkH (X : Cx) (p : Addr × Obj) (s : Shared) (H : Hp) (scope : Scope) (cenv : Env) (fp : List Addr) : Cx := { X.blk s H scope cenv fp with pn := [p] }
theorem blkH_hot {X : Cx} {p : Addr × Obj} {s : Shared} {H : Hp} {scope : Scope} {cenv : Env} {fp : List Addr} (h : Hot1 X.A p) : HotC (blkH X p s H scope cenv fp) := ⟨p, h, List.mem_singleton.mpr rfl⟩
theorem lc_coreH {pins : List (Addr × Obj)} {s : Shared} {σ : L2.St} {H : Hp} {Q : VK} {elt tg iter : Expr} {ifs : List Expr} {scope : Scope} {own : List (Str × Nat)} {pos pos' : Pos} {tl : TE} {g : TG} {tt : TT} {te : TE} {use : Option (Value → Sem Unit)} {Qf : Value → Shared → Prop}
    (hc : HotC X) (hN : X.N.Nodup) (I : Inv X pins σ H s) (hi : PE X iter tl) (ok : BlkOk X.N X.env.scope scope own)
    (hg : ∀ (p : Addr × Obj) (_ : Hot1 X.A p) (s : Shared) (H : Hp) (C : Addr) (cl : List (Str × Addr)) (fp : List Addr), PG (blkH X p s H scope (compEnvC scope cl C X.env) fp) tg g)
    (ht : ∀ (p : Addr × Obj) (s : Shared) (H : Hp) (C : Addr) (cl : List (Str × Addr)) (fp : List Addr), PTs (blkH X p s H scope (compEnvC scope cl C X.env) fp) ifs tt)
    (he : ∀ (p : Addr × Obj) (s : Shared) (H : Hp) (C : Addr) (cl : List (Str × Addr)) (fp : List Addr), PE (blkH X p s H scope (compEnvC scope cl C X.env) fp) elt te) (hs : ∀ x, foldedSetIterable iter X.env x = pure x)
    (h : tLc (iList X.K tl) g tt te (own.map (·.2)) σ H Q)
    (hRR : ∀ D C s' m H', Inv X pins σ H' s' → Q (.ref D) H' → s'.heap.Ns C m → FpOk X pins H' C → compPost (model X.prog X.w) X.A X.xe use Qf (.ref D) C (.ok .next) s') :
    wpAny (model X.prog X.w) X.A (comprehension (.ListComp elt [⟨tg, iter, ifs, 0⟩] scope pos) scope X.env pos' (newList []) false (eval iter X.env) use) Qf X.xe s := by
  have hfree : ∀ y ∈ scope.names, y.2 = .free → ∃ c, X.env.cells.lookup y.1 = some c := fun y hy e => by
    rcases ok.free y hy e with k | k
    · exact I.ok.has _ (.inl k)
    · exact I.ok.has _ (.inr k)
  refine wpAny_comprehension_free (use := use) rfl hs (closure_ok hfree) ok.kind (fun y hy e => by rw [ok.uniq y hy, e]) (thn (hi.run pins s σ H _ I h) fun xv s1 hx => ?_)
  obtain ⟨xl, H1, I1, rx, a, ex, ⟨ys, hq⟩, q⟩ := hx
  subst ex
  cases rx
  obtain ⟨its1, rv1, p1, hz1⟩ := I1.list hq
  refine wpAny_pyIter_list p1.isList ?_
  generalize hit : s1.heap.objs.size = it
  generalize hs2 : ({ s1 with heap := s1.heap.push { cls := .type "list_iterator", data := .fields #[.ref a, .int 0 0] } } : Shared) = s2
  have I2 : Inv X pins σ H1 s2 := by
    rw [← hs2]
    exact I1.kept (t' := s1.toks) fun b o e => Heap.get?_push_of_some _ e
  have st2 : s2.heap.IsListIter it a 0 := by
    rw [← hs2, ← hit]
    exact ⟨_, Heap.get?_push_size _ rfl, rfl, rfl⟩
  have f2 : FpOk X pins H1 it := I1.fpOk (Nat.le_of_eq hit) (I1.hok.fresh (Nat.le_of_eq hit))
  refine wpAny_newObj_type (newEnv_comp ?_) (by show 0 ≤ sizeLine; decide)
  generalize hD : s2.heap.objs.size = D
  have hDn : H1 D = none := I2.hok.fresh (Nat.le_of_eq hD)
  obtain ⟨W, ⟨m0, w0⟩, turn⟩ := q D hDn
  generalize hs3 : ({ s2 with heap := s2.heap.push { cls := .type "list", data := .seq ([] : List Value).toArray } } : Shared) = s3
  have h3 : s3.heap = s2.heap.push { cls := .type "list", data := .seq ([] : List Value).toArray } := by rw [← hs3]
  have I3 : Inv X pins σ (upd H1 D (.lst [])) s3 := by
    rw [← hs3]
    refine I2.laid (t' := s2.toks) (fun b o e => Heap.get?_push_of_some _ e) (Nat.le_of_eq hD) ⟨Nat.zero_le _, [], 0, .nil, ?_⟩
    rw [← hD]
    exact Heap.get?_push_size _ rfl
  have itl : it < s2.heap.objs.size := by obtain ⟨_, e, _⟩ := st2; exact Heap.lt_size e
  have f3 : FpOk X pins (upd H1 D (.lst [])) it ∧ it < s3.heap.objs.size := by
    refine ⟨⟨?_, f2.2⟩, by rw [h3, Heap.size_push]; exact Nat.lt_succ_of_lt itl⟩
    rw [upd_ne (by rw [← hD]; exact Nat.ne_of_lt itl)]
    exact f2.1
  have st3 : s3.heap.IsListIter it a 0 := st2.at fun o e => by rw [h3]; exact Heap.get?_push_of_some _ e
  have I4 := block_start (fp := [it]) I3 ok hN fun b hb => by rw [List.mem_singleton.mp hb]; exact f3
  -- the exception that is handled stands outside of the block, and is pinned there
  obtain ⟨px, hot1, hpx⟩ := hc
  obtain ⟨hh, vs1, d1, c1⟩ := id hot1
  obtain ⟨g1, g2, g3, g4, g5⟩ := I3.pin px (List.mem_append_left _ hpx)
  have nst : px.1 ∉ frs X.stack := fun z => (List.mem_cons.mp (I3.stkSub _ z)).elim g3 g4
  have nit : px.1 ≠ it := f2.2.2.2.2.2 px (List.mem_append_left _ hpx)
  have pg := hg px hot1 s3 (upd H1 D (.lst [])) s3.heap.objs.size (cellsFrom (s3.heap.objs.size + 1) scope.names (cloFrom X.env.cells scope.names [])) [it]
  have pt := ht px s3 (upd H1 D (.lst [])) s3.heap.objs.size (cellsFrom (s3.heap.objs.size + 1) scope.names (cloFrom X.env.cells scope.names [])) [it]
  have pe := he px s3 (upd H1 D (.lst [])) s3.heap.objs.size (cellsFrom (s3.heap.objs.size + 1) scope.names (cloFrom X.env.cells scope.names [])) [it]
  show codeAny _ _ (.compStart (.ListComp elt [⟨tg, iter, ifs, 0⟩] scope pos) 0 (.ref it) (.ref D) (compEnvC scope (cellsFrom (s3.heap.objs.size + 1) scope.names (cloFrom X.env.cells scope.names [])) s3.heap.objs.size X.env)) (compPost (model X.prog X.w) X.A X.xe use Qf (.ref D) s3.heap.objs.size) { s3 with heap := pushCells (s3.heap.push { cls := .type "dict", data := .dict #[] }) scope.names }
  generalize hce : compEnvC scope (cellsFrom (s3.heap.objs.size + 1) scope.names (cloFrom X.env.cells scope.names [])) s3.heap.objs.size X.env = ce at I4 pg pt pe ⊢
  have cL : ce.locals = s3.heap.objs.size := by subst hce; rfl
  generalize hH3 : upd H1 D (.lst []) = H3 at I3 I4 pg pt pe w0 f3 g2
  have x4 : (pushCells (s3.heap.push { cls := .type "dict", data := .dict #[] }) scope.names).get? px.1 = some px.2 := pushCells_keeps _ _ _ _ (Heap.get?_push_of_some _ g1)
  have I4 : Inv (blkH X px s3 H3 scope ce [it]) [] (wipe σ (own.map (·.2))) H3 { s3 with heap := pushCells (s3.heap.push { cls := .type "dict", data := .dict #[] }) scope.names } :=
    { ok := ⟨I4.ok.mod, I4.ok.kind, I4.ok.glob, I4.ok.blt, I4.ok.above, I4.ok.inj, I4.ok.has, I4.ok.cab, I4.ok.hd, I4.ok.frames, I4.ok.stk, I4.ok.exf, I4.ok.bs, I4.ok.bsz, I4.ok.noex, I4.ok.exfs, I4.ok.funs, I4.ok.frf⟩
      os := I4.os, bare := I4.bare, base := I4.base, loc := I4.loc, cell := I4.cell, free := I4.free, freeC := I4.freeC, hok := I4.hok, len := I4.len
      pin := fun p hp => by
        have e : p = px := by simpa using hp
        subst e
        exact ⟨x4, g2, by show p.1 ≠ ce.locals; rw [cL]; exact Nat.ne_of_lt (Heap.lt_size g1), nst, g5⟩ }
  generalize hs4 : ({ s3 with heap := pushCells (s3.heap.push { cls := .type "dict", data := .dict #[] }) scope.names } : Shared) = s4 at I4 ⊢
  have st4 : s4.heap.IsListIter it a 0 := st3.at fun o e => by rw [← hs4]; exact pushCells_keeps _ _ _ _ (Heap.get?_push_of_some _ e)
  have stat : ∀ {σ' : L2.St} {H' : Hp} {s' : Shared}, Inv (blkH X px s3 H3 scope ce [it]) [] σ' H' s' → H' it = none → FpOk (blkH X px s3 H3 scope ce [it]) [] H' it := fun {σ' H' s'} I' hn =>
    ⟨hn, (I'.ok.exf it (List.mem_singleton.mpr rfl)).1, I'.ok.exfs it (List.mem_singleton.mpr rfl), .inl (List.mem_singleton.mpr rfl), fun x c e => (I'.ok.exf it (List.mem_singleton.mpr rfl)).2 x c e, fun p hp => by
    have e : p = px := by simpa using hp
    subst e
    exact nit⟩
  have loop : codeAny (model X.prog X.w) X.A (.compLoop (.ListComp elt [⟨tg, iter, ifs, 0⟩] scope pos) 0 (.ref it) (.ref D) ce) (compPost (model X.prog X.w) X.A X.xe use Qf (.ref D) s3.heap.objs.size) s4 := by
    refine compLoop_any (fun n s' => ∃ i H', Inv (blkH X px s3 H3 scope ce [it]) [] (wipe σ (own.map (·.2))) H' s' ∧ s'.heap.IsListIter it a i ∧ H' it = none ∧ W i n H') ?_ m0 ⟨0, H3, I4, st4, f3.1.1, w0⟩
    rintro n s5 ⟨i, H5, I5, st5, n5, w5⟩
    obtain ⟨f0, fa, fb, fc, fd, fe⟩ := stat I5 n5
    rcases turn i n H5 w5 with ⟨stop, qq⟩ | ⟨go, Nx, hNx, step⟩
    · obtain ⟨zs, hzs, hle⟩ := stop
      obtain ⟨its, rv, pl, hzl⟩ := I5.list hzs
      have hl := rv.length
      have x5 : s5.heap.get? px.1 = some px.2 := I5.base.keep px.1 px.2 g1 g2 nst fun z => nit (List.mem_singleton.mp z)
      refine lst_end (x1 := px.1) ⟨hh, px.2, vs1, x5, d1, c1⟩ st5 pl.isList (by simp; omega) fun h' kp => ?_
      have I6 : Inv (blkH X px s3 H3 scope ce [it]) [] (wipe σ (own.map (·.2))) H5 { s5 with heap := h' } := I5.turned (t' := s5.toks) (fun b o hb e => kp b o hb e) f0 fa fc fd fe
      have I7 : Inv X pins σ H5 { s5 with heap := h' } := I3.call' (ch := [it]) I6.os I6.base I6.hok I6.bare fun b hb => by
        rw [List.mem_singleton.mp hb]
        exact ⟨f3.1.2.2.2.1, f3.1.2.1, f3.1.2.2.2.2.1, f3.1.2.2.2.2.2⟩
      have nC : H5 s3.heap.objs.size = none := by
        have z : H5 ce.locals = none := I6.free
        rw [cL] at z
        exact z
      obtain ⟨m, hn, _⟩ := I6.loc
      have hn : h'.Ns ce.locals m := hn
      rw [cL] at hn
      exact hRR D s3.heap.objs.size _ m H5 I7 qq hn (I3.fpOk (Nat.le_refl _) nC)
    · obtain ⟨zs, x, hzs, hx⟩ := go
      obtain ⟨its, rv, pl, hzl⟩ := I5.list hzs
      obtain ⟨u, hu, ru⟩ := rv.get hx
      refine wpAny_pyNext_list_item st5 pl.isList (x := u) (by simpa using hu) fun h6 st6 sb => ?_
      have I6 : Inv (blkH X px s3 H3 scope ce [it]) [] (wipe σ (own.map (·.2))) H5 { s5 with heap := h6 } := I5.turned (t' := s5.toks) (fun b o hb e => (sb.2 b hb).trans e) f0 fa fc fd fe
      obtain ⟨oi, ei, ci, di⟩ := id st6
      refine go_of (s := { s5 with heap := h6 }) ei ci di (by decide) ?_
      have ho : ∀ b ∈ [it], ∃ o, ({ s5 with heap := h6 } : Shared).heap.get? b = some o ∧ ∀ v, o.data ≠ .cell v := fun b hb => by
        rw [List.mem_singleton.mp hb]
        exact ⟨oi, ei, fun v z => by rw [di] at z; cases z⟩
      have I6' := I6.pinned (fp := [it]) (fun b hb => by rw [List.mem_singleton.mp hb]; exact stat I6 n5) ho
      refine thnF (pg.run _ _ _ H5 x u _ I6' ru (step x H5 ⟨rfl, fun ys hy => by rw [I5.list_inj hy hzs]; exact hx⟩)) fun _ s8 ⟨σ8, H8, I8, hw8, q8⟩ => ?_
      refine thnF (pt.run _ s8 σ8 H8 _ I8 q8) fun b s9 ⟨H9, I9, q9⟩ => ?_
      have fin : ∀ {s' : Shared} {H' : Hp}, Inv (blkH X px s3 H3 scope ce [it]) ([] ++ pinsAt [it] h6) σ8 H' s' → Nx H' → ∃ m, m < n ∧ ∃ i H', Inv (blkH X px s3 H3 scope ce [it]) [] (wipe σ (own.map (·.2))) H' s' ∧ s'.heap.IsListIter it a i ∧ H' it = none ∧ W i m H' := fun {s' H'} I' nx => by
        obtain ⟨m', hm, w'⟩ := hNx H' nx
        have z := I'.pin (it, oi) (List.mem_append_right _ (List.mem_append_right _ (mem_pinsAt (List.mem_singleton.mpr rfl) ei)))
        have hl : (wipe σ (own.map (·.2))).length = σ8.length := by rw [← hw8, wipe_length]
        refine ⟨m', hm, i + 1, H', (I'.unpinned (pins := [])).weak hl (fun j v e => ?_), ⟨oi, z.1, ci, di⟩, z.2.1, w'⟩
        rw [← hw8] at e
        exact (wipe_some e).1
      cases b with
      | false =>
        simp only [Bool.false_eq_true, if_false] at q9 ⊢
        exact fin I9 q9
      | true =>
        simp only [if_true] at q9 ⊢
        refine thnF (pe.run _ s9 σ8 H9 _ I9 q9) fun z s10 ⟨yv, H10, I10, r10, acc, hD10, hz10, nx⟩ => ?_
        exact app_ok (X := blkH X px s3 H3 scope ce [it]) I10 hD10 hz10 r10 fun s11 I11 => fin I11 nx
  exact codeAny_compStart_list loop (wpAny_pyIter_listiter st4 loop)
theorem pe_lcH {elt tg iter : Expr} {ifs : List Expr} {scope : Scope} {own : List (Str × Nat)} {pos : Pos} {tl : TE} {g : TG} {tt : TT} {te : TE} (hc : HotC X) (hN : X.N.Nodup) (hi : PE X iter tl) (ok : BlkOk X.N X.env.scope scope own)
    (hg : ∀ (p : Addr × Obj) (_ : Hot1 X.A p) (s : Shared) (H : Hp) (C : Addr) (cl : List (Str × Addr)) (fp : List Addr), PG (blkH X p s H scope (compEnvC scope cl C X.env) fp) tg g)
    (ht : ∀ (p : Addr × Obj) (s : Shared) (H : Hp) (C : Addr) (cl : List (Str × Addr)) (fp : List Addr), PTs (blkH X p s H scope (compEnvC scope cl C X.env) fp) ifs tt)
    (he : ∀ (p : Addr × Obj) (s : Shared) (H : Hp) (C : Addr) (cl : List (Str × Addr)) (fp : List Addr), PE (blkH X p s H scope (compEnvC scope cl C X.env) fp) elt te) (hs : ∀ x, foldedSetIterable iter X.env x = pure x := by intro _; rfl) :
    PE X (.ListComp elt [⟨tg, iter, ifs, 0⟩] scope pos) (tLc (iList X.K tl) g tt te (own.map (·.2))) := by
  refine ⟨fun pins s σ H Q I h => ?_⟩
  rw [eval_ListComp]
  refine lc_coreH hc hN I hi ok hg ht he hs h fun D C s' m H' I' q hn ⟨f0, f1, f2, f3, f4, f5⟩ => ⟨m, hn, fun h'' sb => ?_⟩
  exact ⟨.ref D, H', I'.turned (t' := s'.toks) (fun b o hb e => (sb.2 b hb).trans e) f0 f1 f3 f4 f5, rfl, q⟩
theorem ps_setLcH {i : Nat} {y : Str} {py : Pos} {elt tg iter : Expr} {ifs : List Expr} {scope : Scope} {own : List (Str × Nat)} {pos spos : Pos} {tl : TE} {g : TG} {tt : TT} {te : TE} (hc : HotC X) (hN : X.N.Nodup) (hy : X.N[i]? = some y) (hyl : X.env.scope.names.lookup y = some .local)
    (hsw : swapsWith (.ListComp elt [⟨tg, iter, ifs, 0⟩] scope pos) (some (.Name y py)) spos.line X.env = pure true) (hi : PE X iter tl) (ok : BlkOk X.N X.env.scope scope own)
    (hg : ∀ (p : Addr × Obj) (_ : Hot1 X.A p) (s : Shared) (H : Hp) (C : Addr) (cl : List (Str × Addr)) (fp : List Addr), PG (blkH X p s H scope (compEnvC scope cl C X.env) fp) tg g)
    (ht : ∀ (p : Addr × Obj) (s : Shared) (H : Hp) (C : Addr) (cl : List (Str × Addr)) (fp : List Addr), PTs (blkH X p s H scope (compEnvC scope cl C X.env) fp) ifs tt)
    (he : ∀ (p : Addr × Obj) (s : Shared) (H : Hp) (C : Addr) (cl : List (Str × Addr)) (fp : List Addr), PE (blkH X p s H scope (compEnvC scope cl C X.env) fp) elt te) (hs : ∀ x, foldedSetIterable iter X.env x = pure x := by intro _; rfl) :
    PS X (.Assign [.Name y py] (.ListComp elt [⟨tg, iter, ifs, 0⟩] scope pos) spos) (tAsg (tLc (iList X.K tl) g tt te (own.map (·.2))) (gName i)) := by
  refine ⟨fun pins s σ H D I h => ?_⟩
  rw [exec_Assign_Name_used _ _ _ _ hsw]
  refine wpAny_bind (wpAny_standAt (wpAny_bind ?_))
  have h : tLc (iList X.K tl) g tt te (own.map (·.2)) σ H (fun x H1 => gName i x σ H1 D.nx) := h
  refine wpAny_bind (m := comprehension (.ListComp elt [⟨tg, iter, ifs, 0⟩] scope pos) scope X.env (firstIterPos [⟨tg, iter, ifs, 0⟩] pos) (newList []) false (eval iter X.env) (some (assign (.Name y py) X.env)))
    (thn (lc_coreH (Qf := fun _ s' => SP X pins D .next s') hc hN I hi ok hg ht he hs h fun L C s' m H' I' q hn ⟨f0, f1, f2, f3, f4, f5⟩ => ?_) fun _ s' hq => wpAny_pure (wpAny_pure hq))
  refine wpAny_assign_Name (store_ok2 (v := V.ref L) I' hN hy (.inl hyl) rfl (fun s2 I2 ⟨a, sb, ha⟩ => ?_) (.inr hyl))
  have ne : C ≠ a := by
    rcases ha with z | z
    · rw [z]; exact f1
    · exact fun e => f4 y a z e.symm
  exact ⟨m, hn.sameBut sb ne, fun h3 sb3 => ⟨_, H', I2.turned (t' := s2.toks) (fun b o hb e => (sb3.2 b hb).trans e) f0 f1 f3 f4 f5, q⟩⟩
end
end HoL


set_option Elab.async false
set_option linter.all false
set_option maxRecDepth 100000
set_option maxHeartbeats 1000000
namespace DX
open PySem PySem.Spec PyProof.Rows L2 GxR GA
open Classical
section
variable {G : Gx} {F : Fx} {δ : DEnv} {σ : L2.St} {H H' : Hp} {i j : Nat} {a : Addr} {te tf tu : TE} {tt tv : TT} {tr : TA} {QD : PyData → DEnv → Prop} {QT : Bool → DEnv → Prop}
theorem ede_tup (h : EAe G i a tr δ fun xs δ1 => xs.length ≤ sizeLine ∧ QD (.tuple xs) δ1) : EDe G i a (tTup tr) δ QD := fun F σ H R I hs k =>
  h F σ H _ I hs fun xs vs δ1 H1 ⟨hl, q⟩ s r => by
    refine ⟨by rw [← r.len]; exact hl, fun p hp => ?_⟩
    have J2 := s.ei.laid hp (nt_tup vs)
    obtain ⟨_, _, hX, hm⟩ := s.ei.fresh hp
    exact k _ _ δ1 _ q J2 (.tup (.inl (.inl (del_some.mpr ⟨fun z => z.elim hm hX, upd_same⟩))) (RpL.gr (gr_laid hp) r))
theorem ede_if (h : DTe G i a tt δ fun b δ1 => if b = true then EDe G i a te δ1 QD else EDe G i a tf δ1 QD) : EDe G i a (tIf tt te tf) δ QD := fun F σ H R I hs k =>
  h F σ H _ I hs fun b δ1 H1 q J => by
    cases b with
    | true => exact iteT (q F σ H1 R J hs k)
    | false => exact iteF (q F σ H1 R J hs k)
theorem dte_and (h : DTe G i a tt δ fun b δ1 => if b = true then DTe G i a tv δ1 QT else QT false δ1) : DTe G i a (tAnd tt tv) δ QT := fun F σ H R I hs k =>
  h F σ H _ I hs fun b δ1 H1 q J => by
    cases b with
    | true => exact iteT (q F σ H1 R J hs k)
    | false => exact iteF (k false δ1 H1 q J)
end
end DX


set_option Elab.async false
set_option linter.all false
set_option maxRecDepth 100000
set_option maxHeartbeats 1000000
namespace DX
open PySem PySem.Spec PyProof.Rows L2 GxR GA
section
variable {G : Gx} {F : Fx} {δ : DEnv} {σ : L2.St} {H H' : Hp} {ta tb : TE} {QF : List PyData → DEnv → Prop}
/-- xs * n of any list -/
theorem ef_repD (h : ED G ta δ fun x δ1 => ∃ xs, x = .list xs ∧ ED G tb δ1 fun y δ2 => ∃ k : Int, y = .int k ∧ -(2 ^ 63) ≤ k ∧ k < 2 ^ 63 ∧ xs.length * k.toNat ≤ sizeLine ∧ QF (List.replicate k.toNat xs).flatten δ2) : EF G (tOp rRep ta tb) δ QF := fun F σ H R I k =>
  h.go I fun x u δ1 H1 ⟨xs, e, q1⟩ s1 r1 => by
    subst e
    cases r1 with
    | @lst a ws _ h1 r1 =>
      refine q1.go s1.ei fun y w δ2 H2 ⟨k', e, k1, k2, k3, q2⟩ s2 r2 => ?_
      subst e
      cases r2
      have r3 := RpL.gr s2.gr r1
      exact ⟨a, k', ws, rfl, rfl, (del_some.mp (s2.gr _ _ (nt_lst _) h1)).2, k1, k2, by rw [← r1.len]; exact k3, fun p hp => k _ p δ2 _ q2 (New.mk_ s2.ei hp (rpL_rep r3 _))⟩
end
end DX


set_option Elab.async false
set_option linter.all false
set_option maxRecDepth 100000
set_option maxHeartbeats 1000000
/-! {k: v} of plain ones, as data of which nothing is asked -/
namespace DX
open PySem PySem.Spec PyProof.Rows L2 GxR GA
section
variable {G : Gx} {δ : DEnv} {Q : PyData → DEnv → Prop}
theorem upd_upd {H : Hp} {p : Addr} {a b : HO} : upd (upd H p a) p b = upd H p b := by
  funext x
  by_cases h : x = p
  · subst h; rw [upd_same, upd_same]
  · rw [upd_ne h, upd_ne h, upd_ne h]
theorem ed_disp1 {i j : Int} (q : Q (.dict [(.int i, .int j)]) δ) : ED G (tDisp [(tC (.int i), tC (.int j))]) δ Q := fun F σ H R I k => fun p hp => by
  obtain ⟨_, _, hX, hm⟩ := I.fresh hp
  refine ⟨upd_same, [(.inl i, .int j)], rfl, by show 1 ≤ 15; decide, ?_⟩
  rw [upd_upd]
  exact k _ _ δ _ q (I.laid hp (nt_dK _)) (.dk (del_some.mpr ⟨fun z => z.elim hm hX, upd_same⟩) rfl)
end
end DX


set_option Elab.async false
set_option linter.all false
set_option maxRecDepth 100000
set_option maxHeartbeats 1000000
/-! calls that raise, wherever their answer would go -/
namespace DX
open PySem PySem.Spec PyProof.Rows L2 GxR GA
section
variable {G : Gx} {A : Str → Addr} {δ : DEnv} {Q : Str → DEnv → Prop}
def XE (G : Gx) (A : Str → Addr) (t : WX → TE) (δ : DEnv) (Q : Str → DEnv → Prop) : Prop :=
  ∀ (F : Fx) (σ : L2.St) (H : Hp) (QV : VK) (W : WX), EI G F δ σ H → (∀ c δ1 σ' H', Q c δ1 → EI G F δ1 σ' H' → W (.ref (A c)) none σ' H') → t W σ H QV
theorem xe_call {C : CtX} {tr : TA} (h : EA G tr δ fun as δ1 => ∃ xs c, allD as = some xs ∧ C xs c ∧ Q c δ1) : XE G A (fun W => tCallS (spX G.K G.cs A C) (WE W) tr) δ Q := fun F σ H QV W I k =>
  h F σ H _ I fun as vs δ1 H1 ⟨xs, c, e, hc, q⟩ J r => ⟨xs, c, Sl F δ1 σ, hc, allD_ok e r, fun a ha => by
    rcases ha with ⟨i, ys, h1, h2⟩ | ha
    · obtain ⟨v, h3, b, ws, h4, h5, _⟩ := J.slot i _ h1
      rw [h2] at h3
      cases h3
      cases h4
      exact ⟨_, h5, nt_lst _⟩
    · exact J.ex a ha, J.tab, fun H' kp tk tb => k c δ1 σ H' q (J.called kp tk tb)⟩
theorem xe_if {c : TT} {t u : WX → TE} (h : DT G c δ fun b δ1 => if b = true then XE G A t δ1 Q else XE G A u δ1 Q) : XE G A (fun W => tIf c (t W) (u W)) δ Q := fun F σ H QV W I k =>
  h F σ H _ I fun b δ1 H1 q J => by
    cases b with
    | true => exact q F σ H1 QV W J k
    | false => exact q F σ H1 QV W J k
theorem sx_asg {t : WX → TE} {g : TG} (h : XE G A t δ Q) : SX G A (fun W => tAsg (t W) g) δ Q := fun F σ H D W I k => h F σ H _ W I k
theorem sx_drop {t : WX → TE} (h : XE G A t δ Q) : SX G A (fun W => tDrop (t W)) δ Q := fun F σ H D W I k => h F σ H _ W I k
theorem sx_ret {t : WX → TE} (h : XE G A t δ Q) : SX G A (fun W => tRet (t W)) δ Q := fun F σ H D W I k => h F σ H _ W I k
end
section
variable {G : Gx} {δ : DEnv} {ta tb : TE} {Q : PyData → DEnv → Prop}
/-- a whole number in a tuple of such -/
theorem ed_inT (h : ED G ta δ fun x δ1 => ED G tb δ1 fun y δ2 => ∃ (i : Int) (ns : List Int), x = .int i ∧ y = .tuple (ns.map PyData.int) ∧ Q (.bool (ns.any fun n => n == i)) δ2) : ED G (tOp (rIn G.K false) ta tb) δ Q :=
  ed_two h fun F σ H R x y u v δ2 ⟨i, ns, e1, e2, q⟩ I r1 r2 k => by
    subst e1 e2
    cases r1
    obtain ⟨c, rfl, hq⟩ := rp_tints r2.full
    have e : inV (.int i) (ns.map V.int) = ns.any fun n => n == i := by
      unfold inV
      rw [List.any_map]
      rfl
    refine ⟨c, ns.map V.int, rfl, .inr hq, rfl, by rw [List.all_map]; exact List.all_eq_true.mpr fun _ _ => rfl, ?_⟩
    rw [if_neg (by decide), e]
    exact k _ _ δ2 H q I (.bl _)
end
end DX


set_option Elab.async false
set_option linter.all false
set_option maxRecDepth 100000
set_option maxHeartbeats 1000000
/-! an error that is kept behind its clause, asked and handed on -/
namespace DX
open PySem PySem.Spec PyProof.Rows L2 GxR GA
section
variable {G : Gx} {F : Fx} {δ δ' : DEnv} {σ σ' : L2.St} {H H' : Hp} {A : Str → Addr} {Q : PyData → DEnv → Prop} {QS : Out → Prop} {i j : Nat} {D : Addr}
theorem EI.set_err {v : V} (I : EI G F δ σ H) (hp : i ∉ G.pn) (r : XR (del H (Sl F δ σ)) D v) : EI G F (δ.set i (some (.err D))) (σ.set i (some v)) H := by
  have no : ∀ {ys : List PyData}, some (E.err D) ≠ some (E.m ys) := fun {ys} q => by cases q
  have old : ∀ b, MA (δ.set i (some (.err D))) (σ.set i (some v)) b → MA δ σ b := fun b z => (MA.set_d (fun _ q => no q) z).1
  have gr : Gr (del H (Sl F δ σ)) (del H (Sl F (δ.set i (some (.err D))) (σ.set i (some v)))) := gr_del fun b u n hb e => ⟨fun z => hb (z.imp (old b) id), e⟩
  have back : ∀ {l : Nat} {ys : List PyData}, (δ.set i (some (E.err D)))[l]? = some (some (E.m ys)) → l ≠ i ∧ δ[l]? = some (some (E.m ys)) := fun {l ys} e => by
    rcases get_set e with ⟨_, z, _⟩ | ⟨ne, h1⟩
    · exact (no z.symm).elim
    · exact ⟨ne, h1⟩
  have st : ∀ {l : Nat} {w : Option (Option V)}, l ≠ i → (σ.set i (some v))[l]? = w → σ[l]? = w := fun {l w} ne e => by rw [List.getElem?_set_ne (Ne.symm ne)] at e; exact e
  refine { len := by rw [List.length_set, List.length_set]; exact I.len, slot := fun l e h => ?_, nd := fun l m xs ys a h1 h2 h3 h4 => ?_, own := fun a ha => I.own a (old a ha), keep := I.keep, ex := I.ex, pin := fun l hl => ?_, tab := I.tab, tk := I.tk, mt := I.mt, mx := fun l ys a e1 e2 ha => I.mx l ys a (back e1).2 (st (back e1).1 e2) ha, wl := fun a w => ⟨(I.wl a w).1, fun z => (I.wl a w).2 (old a z)⟩, k1 := I.k1.set (fun _ q => by cases q) }
  · rcases get_set h with ⟨rfl, e1, hl⟩ | ⟨ne, h1⟩
    · cases e1
      exact ⟨v, by rw [List.getElem?_set_self (by rw [← I.len]; exact hl)], XR.gr gr r⟩
    · obtain ⟨w, h2, h3⟩ := I.slot l e h1
      refine ⟨w, by rw [List.getElem?_set_ne (Ne.symm ne)]; exact h2, ?_⟩
      cases e with
      | d x => exact Rp.gr gr h3
      | err D => exact XR.gr gr h3
      | k n => exact h3
      | m ys => exact let ⟨a, ws, h4, h5, h6⟩ := h3; ⟨a, ws, h4, h5, RpL.gr gr h6⟩
  · exact I.nd l m xs ys a (back h1).2 (back h2).2 (st (back h1).1 h3) (st (back h2).1 h4)
  · rw [List.getElem?_set_ne (fun z : i = l => hp (by rw [z]; exact hl))]
    exact I.pin l hl
/-- try: .. except c0 as e: caught = e -/
theorem sd_keep {tb : WX → TS} {c0 : Value} (hp : i ∉ G.pn) (hj : j ∉ G.pn) (h : SB G A tb δ QS fun c δ1 => PySem.W.exmOne G.K (.ref (A c)) c0 = some true ∧ i < δ1.length ∧ QS (.nx (((δ1.set i none).set j (some (.err (A c)))).set i none))) :
    SD G (fun Dn σ H => tb (KeE.wKeep G.K c0 i (fun _ _ _ => tAsg (tVar i) (gName j)) (fun _ _ _ _ => False) Dn) Dn σ H) δ QS := fun F σ H Dn I k =>
  h F σ H Dn _ I k fun c δ1 σ1 H1 ⟨e1, hl, q⟩ J => ⟨true, e1, (fun z => nomatch z), fun _ a na => by
    refine ⟨V.ref a, List.getElem?_set_self (by rw [← J.len]; exact hl), fun na => ?_⟩
    have J1 := J.set_n (v := some (V.ref a)) hp
    have J2 := J1.laid (o := KeE.ExK (.ref (A c)) none a) na (nt_exk _ _ _)
    obtain ⟨_, _, hX, hm⟩ := J1.fresh na
    have J3 := J2.set_err hj (D := A c) (v := V.ref a) ⟨a, rfl, del_some.mpr ⟨fun z => z.elim hm hX, upd_same⟩⟩
    exact k _ q _ _ (J3.set_n hp)⟩
/-! ### what is asked of it -/
def rIsK (K : PySem.W.Frag) : List V → Hp → VK → Prop := fun xs H Q => ∃ (a D : Addr) (c : V) (cv : Value) (b : Bool), xs = [.ref a, c] ∧ H a = some (KeE.ExK (.ref D) none a) ∧ ExcC K D ∧ (∀ u, RelV c u → u = cv) ∧ PySem.W.kitOne K (.ref D) cv = some b ∧ Q (.bl b) H
def rIsKT (K : PySem.W.Frag) : List V → Hp → VK → Prop := fun xs H Q => ∃ (a D tp : Addr) (cs : List V) (us : List Value) (b : Bool), xs = [.ref a, .ref tp] ∧ H a = some (KeE.ExK (.ref D) none a) ∧ ExcC K D ∧
  H tp = some (.tup cs) ∧ Paired ClsV cs us ∧ PySem.W.kitAny K (.ref D) us = some b ∧ Q (.bl b) H
theorem inst_at {P : Program} {w : World} {H : Hp} {h : Heap} {a D : Addr} (ok : ObjOk P w H h a (KeE.ExK (.ref D) none a)) : ∃ oe, PySem.W.InstAt h a oe D none := by
  obtain ⟨⟨oe, vs, g, z, hv⟩, _⟩ := ok
  obtain ⟨oc, od, oda, osl⟩ := oe
  obtain ⟨h1, h2⟩ := z
  dsimp only at h1 h2 hv
  subst h1 h2 hv
  exact ⟨_, g, rfl, rfl, trivial⟩
section
variable {X : Cx}
theorem call_isK : CallR X (.builtin "isinstance") (rIsK X.K) := by
  intro pins s σ H xs us Q I r h
  obtain ⟨a, D, c, cv, b, rfl, ha, C, hcv, e, q⟩ := h
  obtain ⟨u1, u2, rfl, r1, r2⟩ := vals2 r
  cases (show u1 = Value.ref a from r1)
  cases hcv _ r2
  obtain ⟨oe, J⟩ := inst_at (I.hok a _ ha)
  exact PySem.W.kia_one (PySem.W.handS_kitx_exc C.hg C.hk C.hs C.hd C.ha C.hn C.ht C.hm) I.kIn J e (fun z => nomatch z) fun tk => ⟨.bl b, H, I.kept (t' := tk) fun _ _ z => z, rfl, q⟩
theorem call_isKT : CallR X (.builtin "isinstance") (rIsKT X.K) := by
  intro pins s σ H xs us Q I r h
  obtain ⟨a, D, tp, cs, ws, b, rfl, ha, C, hT, k, e, q⟩ := h
  obtain ⟨u1, u2, rfl, r1, r2⟩ := vals2 r
  cases (show u1 = Value.ref a from r1)
  cases (show u2 = Value.ref tp from r2)
  obtain ⟨oe, J⟩ := inst_at (I.hok a _ ha)
  obtain ⟨_, its, rv, o, h1, h2, n, h3⟩ := (show ObjOk X.prog X.w H s.heap tp (.tup cs) from I.hok tp _ hT)
  cases ClsV.all k rv
  obtain ⟨oc, od, dt, sl⟩ := o
  simp only at h2 h3
  subst h2 h3
  exact PySem.W.kia_tup (PySem.W.handS_kitx_exc C.hg C.hk C.hs C.hd C.ha C.hn C.ht C.hm) I.kIn J h1 e (fun z => nomatch z) fun tk => ⟨.bl b, H, I.kept (t' := tk) fun _ _ z => z, rfl, q⟩
end
theorem ed_isK {cv : V} {u : Value} {b : Bool} (hi : δ[i]? = some (some (E.err D))) (C : ExcC G.K D) (hcv : ∀ x, RelV cv x → x = u) (e : PySem.W.kitOne G.K (.ref D) u = some b) (q : Q (.bool b) δ) : ED G (tCB (rIsK G.K) (tCons (tVar i) (tCons (tC cv) tNil))) δ Q := fun F σ H R I k => by
  obtain ⟨v, h1, a, rfl, h2⟩ := I.slot i _ hi
  exact ⟨_, h1, a, D, cv, u, b, rfl, (del_some.mp h2).2, C, hcv, e, k _ _ δ H q I (.bl b)⟩
theorem ed_isKT {cs : List V} {us : List Value} {b : Bool} {tr : TA} (hi : δ[i]? = some (some (E.err D))) (C : ExcC G.K D) (ht : ∀ (σ : L2.St) (H : Hp) (R : List V → Hp → Prop), R cs H → tr σ H R) (hl : cs.length ≤ sizeLine) (hp : Paired ClsV cs us) (e : PySem.W.kitAny G.K (.ref D) us = some b) (q : Q (.bool b) δ) :
    ED G (tCB (rIsKT G.K) (tCons (tVar i) (tCons (tTup tr) tNil))) δ Q := fun F σ H R I k => by
  obtain ⟨v, h1, a, rfl, h2⟩ := I.slot i _ hi
  have h2 := (del_some.mp h2).2
  exact ⟨_, h1, ht _ _ _ ⟨hl, fun p hn => ⟨a, D, p, cs, us, b, rfl, by rw [upd_ne (fun z => by rw [z, hn] at h2; cases h2)]; exact h2, C, upd_same, hp, e, k _ _ δ _ q (I.laid hn (nt_tup cs)) (.bl b)⟩⟩⟩
theorem ed_isNk (hi : δ[i]? = some (some (E.err D))) (q : Q (.bool false) δ) : ED G (tOp rIsN (tVar i) (tC .non)) δ Q := fun F σ H R I k => by
  obtain ⟨v, h1, a, rfl, h2⟩ := I.slot i _ hi
  refine ⟨_, h1, rfl, ?_⟩
  have e : decide (V.ref a = V.non) = false := decide_eq_false (fun z => by cases z)
  rw [e]
  exact k _ _ δ H q I (.bl _)
/-! ### it is handed on -/
def spZ (K : PySem.W.Frag) (cs : List Addr) (C : CtH) : Sp := fun vs H Q _ => ∃ (a D : Addr) (P : PyData → Prop) (X0 : Addr → Prop), vs = [.ref a] ∧ XR (del H X0) D (.ref a) ∧ C D P ∧ (∀ b, X0 b → ∃ o, H b = some o ∧ NT o) ∧ (∀ p ∈ cs, TabG H p) ∧
  ∀ d v H', P d → Rp K (del H' X0) d v → (∀ b o, NT o → H b = some o → H' b = some o) → (∀ b ps, H b = some (.tbl ps) → ∃ qs, H' b = some (.tbl qs)) → (∀ p ∈ cs, TabG H' p) → Q v H'
theorem lenZ {K : PySem.W.Frag} {cs : List Addr} {C : CtH} (vs : List V) (H : Hp) (Q : VK) (E : XK) (hs : spZ K cs C vs H Q E) : vs.length = 1 := by
  obtain ⟨a, D, P, X0, rfl, _⟩ := hs
  rfl
theorem ed_callZ {C : CtH} (hi : δ[i]? = some (some (E.err D))) (h : C D fun d => Q d δ) : ED G (tCall (spZ G.K G.cs C) [] E0 (tCons (tVar i) tNil)) δ Q := fun F σ H R I k => by
  obtain ⟨v, h1, a, rfl, h2⟩ := I.slot i _ hi
  refine ⟨_, h1, ?_⟩
  show spZ G.K G.cs C ([V.ref a] ++ []) H R E0
  rw [List.append_nil]
  refine ⟨a, D, _, Sl F δ σ, rfl, ⟨a, rfl, h2⟩, h, fun b hb => ?_, I.tab, fun d v H' p r kp tk tb => k d v δ H' p (I.called kp tk tb) r⟩
  rcases hb with ⟨l, ys, e1, e2⟩ | hb
  · obtain ⟨w, e3, c, ws, e4, e5, _⟩ := I.slot l _ e1
    rw [e2] at e3
    cases e3
    cases e4
    exact ⟨_, e5, nt_lst _⟩
  · exact I.ex b hb
theorem body_Z {K : PySem.W.Frag} {cs : List Addr} {C : CtH} {t : TS} {n : Nat} {N : List Str} {vs : List V} {R : VK} {E' : XK} (hN : N.length = n + 1) (hs : ∀ D P, C D P → SD ⟨K, cs, []⟩ t (some (.err D) :: List.replicate n none) (QP P)) (h : spZ K cs C vs H R E') :
    t { nx := fun _ H' => R .non H', rt := R } (L2.start N vs) H := by
  obtain ⟨a, D, P, X0, rfl, xr, c, ex, tb, k⟩ := h
  have no : ∀ {l : Nat} {e : E}, (some (E.err D) :: List.replicate n (none : Option E))[l]? = some (some e) → l = 0 ∧ e = E.err D := fun {l e} z => by
    cases l with
    | zero => exact ⟨rfl, (Option.some.inj (Option.some.inj z)).symm⟩
    | succ l =>
      rw [List.getElem?_cons_succ, List.getElem?_replicate] at z
      split at z <;> cases z
  have noM : ∀ {l : Nat} {xs : List PyData}, (some (E.err D) :: List.replicate n (none : Option E))[l]? ≠ some (some (E.m xs)) := fun {l xs} z => E.noConfusion (no z).2
  have hst : L2.start N [V.ref a] = some (V.ref a) :: List.replicate n none := by
    unfold L2.start
    rw [hN]
    rfl
  have g0 : Gr (del H X0) (del H fun b => MA (some (E.err D) :: List.replicate n none) (L2.start N [V.ref a]) b ∨ X0 b) := gr_del fun b u nt hb e => ⟨fun z => hb (z.resolve_left fun ⟨l, ys, h1, _⟩ => noM h1), e⟩
  have I : EI ⟨K, cs, []⟩ ⟨H, fun _ => False, X0, L2.start N [V.ref a], fun _ => False⟩ (some (E.err D) :: List.replicate n none) (L2.start N [V.ref a]) H :=
    { len := by rw [hst]; simp
      slot := fun l e z => by
        obtain ⟨rfl, rfl⟩ := no z
        exact ⟨V.ref a, by rw [hst]; rfl, XR.gr g0 xr⟩
      nd := fun l m xs ys b z => absurd z noM
      own := fun b ⟨l, xs, z, _⟩ => absurd z noM
      keep := fun b o _ _ _ e => e
      ex := ex
      pin := fun l z => nomatch z
      tab := tb
      tk := fun b ps e => ⟨ps, e⟩
      mt := fun b z => z.elim
      mx := fun l xs b z => absurd z noM
      wl := fun b z => z.elim
      k1 := fun l m x y z => E.noConfusion (no z).2 }
  have fin : ∀ {δ' : DEnv} {σ' : L2.St} {H' : Hp} {d : PyData} {v : V}, P d → EI ⟨K, cs, []⟩ ⟨H, fun _ => False, X0, L2.start N [V.ref a], fun _ => False⟩ δ' σ' H' → Rp K (del H' fun b => MA δ' σ' b ∨ X0 b) d v → R v H' := fun {δ' σ' H' d v} p J r' =>
    k d v H' p (r'.gr (gr_del fun b u nt hb e => ⟨fun z => hb (.inr z), e⟩)) (fun b o nt e => J.keep b o nt (fun z => z) (fun z => z) e) J.tk J.tab
  refine hs D P c _ _ _ _ I fun o q => ?_
  cases o with
  | nx δ' => exact fun σ' H' J => fin q J .non
  | rt d δ' => exact fun σ' H' v J r' => fin q J r'
  | bk δ' => exact q.elim
  | r2 l m δ' => exact q.elim
  | ct δ' => exact q.elim
  | rf xs δ' => exact fun σ' H' p N => fin q N.give.1 N.give.2
  | rm l δ' =>
    obtain ⟨xs, hi, p⟩ := q
    exact fun σ' H' b J hb => have N := J.release hi hb (fun z => z); fin p N.give.1 N.give.2
end
end DX


set_option Elab.async false
set_option linter.all false
set_option maxRecDepth 100000
set_option maxHeartbeats 1000000
namespace DX
open PySem PySem.Spec PyProof.Rows L2 GxR GA
section
variable {G : Gx} {δ : DEnv} {te : TE} {QS : Out → Prop}
/-- xs.extend(e) of a slot's own list -/
theorem sd_extend {i : Nat} {xs0 : List PyData} (h0 : δ[i]? = some (some (E.m xs0))) (h : ED G te δ fun d δ1 => ∃ xs ys, d = .list ys ∧ δ1[i]? = some (some (E.m xs)) ∧ xs.length + ys.length ≤ sizeLine ∧ QS (.nx (δ1.set i (some (.m (xs ++ ys)))))) :
    SD G (tDrop (tBM G.K "list" rExtend (tVar i) (tCons te tNil))) δ QS := fun F σ H D I k => by
  obtain ⟨v, g, a, vs, e, h2, h3⟩ := I.slot i _ h0
  subst e
  refine ⟨_, g, .inl ⟨rfl, vs, SqL.of h2⟩, h.go I fun d w δ1 H1 ⟨xs, ys, e0, h4, hl, q⟩ s r => ?_⟩
  subst e0
  obtain ⟨v, g', b, ws, e, h5, h6⟩ := s.ei.slot i _ h4
  rw [g] at g'
  cases g'
  cases e
  cases r with
  | lst hb rb =>
    exact ⟨a, _, ws, _, rfl, rfl, h5, (del_some.mp hb).2, by rw [← h6.len, ← rb.len]; exact hl, k _ q σ _ (s.ei.write h4 g h5 (h6.app rb))⟩
end
end DX


set_option Elab.async false
set_option linter.all false
set_option maxRecDepth 100000
set_option maxHeartbeats 1000000
/-! a list of anything is held against an empty one -/
namespace DX
open PySem PySem.Spec PyProof.Rows L2 GxR GA
def rEqNil (K : PySem.W.Frag) : R2 := fun x y H Q => ∃ a b xs, x = .ref a ∧ y = .ref b ∧ SqL K H a xs ∧ SqL K H b [] ∧ Q (.bl xs.isEmpty) H
def rNeNil (K : PySem.W.Frag) : R2 := fun x y H Q => ∃ a b xs, x = .ref a ∧ y = .ref b ∧ SqL K H a xs ∧ SqL K H b [] ∧ Q (.bl (!xs.isEmpty)) H
section
variable {X : Cx}
theorem op_eqNil (hu : X.A.units + 64 < cLine) : OpR X (compareOp .Eq) (rEqNil X.K) := by
  intro pins s σ H x y v u Q I rx ry h
  obtain ⟨a, b, xs, rfl, rfl, ha, hb, q⟩ := h
  cases (show v = Value.ref a from rx)
  cases (show u = Value.ref b from ry)
  obtain ⟨its, rv, pl, _⟩ := I.list ha
  obtain ⟨its2, rv2, pl2, _⟩ := I.list hb
  cases rv2
  cases rv with
  | nil => exact SeqAt.eq_listAt (e := fun _ => true) pl.isList pl2.isList rfl (by omega) (fun j h1 h2 => absurd h1 (by simp)) ⟨.bl true, H, I, rfl, q⟩
  | cons r t => exact SeqAt.eq_list_lengthsAt pl.isList pl2.isList (by simp) (by omega) ⟨.bl false, H, I, rfl, q⟩
theorem op_neNil (hu : X.A.units + 64 < cLine) : OpR X (compareOp .NotEq) (rNeNil X.K) := by
  intro pins s σ H x y v u Q I rx ry h
  obtain ⟨a, b, xs, rfl, rfl, ha, hb, q⟩ := h
  cases (show v = Value.ref a from rx)
  cases (show u = Value.ref b from ry)
  obtain ⟨its, rv, pl, _⟩ := I.list ha
  obtain ⟨its2, rv2, pl2, _⟩ := I.list hb
  cases rv2
  cases rv with
  | nil => exact SeqAt.RcNeAt.lists (e := fun _ => true) pl.isList pl2.isList rfl (by omega) (fun j h1 h2 => absurd h1 (by simp)) _ _ _ _ ⟨.bl false, H, I, rfl, q⟩
  | cons r t => exact SeqAt.RcNeAt.lists_lengths pl.isList pl2.isList (by simp) (by omega) _ _ _ _ ⟨.bl true, H, I, rfl, q⟩
end
section
variable {G : Gx} {δ : DEnv} {ta tb : TE} {Q : PyData → DEnv → Prop}
theorem ed_eqNil (h : ED G ta δ fun x δ1 => ED G tb δ1 fun y δ2 => ∃ xs, x = .list xs ∧ y = .list [] ∧ Q (.bool xs.isEmpty) δ2) : ED G (tOp (rEqNil G.K) ta tb) δ Q :=
  ed_two h fun F σ H R x y u v δ2 ⟨xs, e1, e2, q⟩ I r1 r2 k => by
    subst e1 e2
    cases r1 with
    | @lst _ vs _ h1 t1 =>
      cases r2 with
      | lst h2 t2 =>
        cases t2
        have e : xs.isEmpty = vs.isEmpty := by cases t1 <;> rfl
        exact ⟨_, _, _, rfl, rfl, SqL.of (del_some.mp h1).2, SqL.of (del_some.mp h2).2, by rw [← e]; exact k _ _ δ2 H q I (.bl _)⟩
theorem ed_neNil (h : ED G ta δ fun x δ1 => ED G tb δ1 fun y δ2 => ∃ xs, x = .list xs ∧ y = .list [] ∧ Q (.bool (!xs.isEmpty)) δ2) : ED G (tOp (rNeNil G.K) ta tb) δ Q :=
  ed_two h fun F σ H R x y u v δ2 ⟨xs, e1, e2, q⟩ I r1 r2 k => by
    subst e1 e2
    cases r1 with
    | @lst _ vs _ h1 t1 =>
      cases r2 with
      | lst h2 t2 =>
        cases t2
        have e : xs.isEmpty = vs.isEmpty := by cases t1 <;> rfl
        exact ⟨_, _, _, rfl, rfl, SqL.of (del_some.mp h1).2, SqL.of (del_some.mp h2).2, by rw [← e]; exact k _ _ δ2 H q I (.bl _)⟩
end
end DX


set_option Elab.async false
set_option linter.all false
set_option maxRecDepth 100000
set_option maxHeartbeats 1000000
/-! rows of any data that are the function's own, beside pinned slots: `w = [[], [], []]; t; u`, where t lets the rows grow -/
namespace DX
open PySem PySem.Spec PyProof.Rows L2 GxR GA
open Classical
abbrev Gx.pins (G : Gx) (p : Nat) : Gx := ⟨G.K, G.cs, p :: G.pn⟩
section
variable {G : Gx} {F : Fx} {δ δ' δ1 : DEnv} {σ σ' : L2.St} {H H' : Hp} {ta tb te ti : TE} {tr : TA} {tt : TT} {QS : Out → Prop}
structure RD (G : Gx) (F : Fx) (p : Nat) (D : Addr) (rs : List Addr) (δ : DEnv) (xss : List (List PyData)) (σ : L2.St) (H : Hp) : Prop where
  s0 : F.s0[p]? = some (some (V.ref D))
  ei : EI (G.pins p) (F.owns (D :: rs)) δ σ H
  nd : (D :: rs).Nodup
  fr : ∀ a ∈ D :: rs, F.H0 a = none ∧ ¬ F.M0 a ∧ ¬ F.W0 a ∧ ¬ F.X0 a
  ma : ∀ a ∈ D :: rs, ¬ MA δ σ a
  hd : H D = some (.lst (rs.map V.ref))
  len : rs.length = xss.length
  row : ∀ (i : Nat) (r : Addr) (xs : List PyData), rs[i]? = some r → xss[i]? = some xs → ∃ vs, H r = some (.lst vs) ∧ RpL G.K (del H (Sl (F.owns (D :: rs)) δ σ)) xs vs
variable {p : Nat} {xss : List (List PyData)} {D : Addr} {rs : List Addr}
theorem RD.has (I : RD G F p D rs δ xss σ H) {a : Addr} (ha : a ∈ D :: rs) : ∃ vs, H a = some (.lst vs) := by
  rcases List.mem_cons.mp ha with rfl | ha
  · exact ⟨_, I.hd⟩
  · obtain ⟨i, hi⟩ := List.getElem?_of_mem ha
    have hl := (List.getElem?_eq_some_iff.mp hi).1
    have hx : xss[i]? = some (xss[i]'(by rw [← I.len]; exact hl)) := List.getElem?_eq_getElem _
    obtain ⟨vs, e, _⟩ := I.row i a _ hi hx
    exact ⟨vs, e⟩
theorem RD.step (I : RD G F p D rs δ xss σ H) (s : Since (G.pins p) (F.owns (D :: rs)) δ σ H δ' σ' H') : RD G F p D rs δ' xss σ' H' := by
  have kp : ∀ a ∈ D :: rs, ∀ vs, H a = some (.lst vs) → H' a = some (.lst vs) := fun a ha vs e => s.kp a _ (nt_lst _) (I.ma a ha) (I.fr a ha).2.2.1 e
  refine ⟨I.s0, s.ei, I.nd, I.fr, fun a ha z => ?_, kp D (by simp) _ I.hd, I.len, fun i r xs h1 h2 => ?_⟩
  · rcases s.ma a z with z | z
    · exact I.ma a ha z
    · obtain ⟨vs, e⟩ := I.has ha
      rw [e] at z; cases z
  · obtain ⟨vs, e, r2⟩ := I.row i r xs h1 h2
    exact ⟨vs, kp r (List.mem_cons_of_mem _ (List.mem_of_getElem? h1)) _ e, RpL.gr s.gr r2⟩
def SRD (G : Gx) (p : Nat) (t : TS) (δ : DEnv) (xss : List (List PyData)) (Q : DEnv → List (List PyData) → Prop) : Prop :=
  ∀ (F : Fx) (D : Addr) (rs : List Addr) (σ : L2.St) (H : Hp) (E : Ends), RD G F p D rs δ xss σ H →
    (∀ δ' xss' σ' H', Q δ' xss' → RD G F p D rs δ' xss' σ' H' → E.nx σ' H') → t E σ H
variable {QR : DEnv → List (List PyData) → Prop} {t u : TS}
theorem srd_of (h : SD (G.pins p) t δ fun o => ∃ δ', o = .nx δ' ∧ QR δ' xss) : SRD G p t δ xss QR := fun F D rs σ H E I k =>
  h _ σ H E I.ei.now fun o ⟨δ', e, q⟩ => by
    subst e
    exact fun σ' H' J => k δ' xss σ' H' q (I.step (I.ei.since J))
theorem srd_next (q : QR δ xss) : SRD G p tNext δ xss QR := fun F D rs σ H E I k => k δ xss σ H q I
theorem srd_seq (h : SRD G p t δ xss fun δ1 x1 => SRD G p u δ1 x1 QR) : SRD G p (tSeq t u) δ xss QR := fun F D rs σ H E I k =>
  h F D rs σ H _ I fun δ1 x1 σ1 H1 q1 I1 => q1 F D rs σ1 H1 E I1 k
theorem srd_if (h : DT (G.pins p) tt δ fun b δ1 => if b = true then SRD G p t δ1 xss QR else SRD G p u δ1 xss QR) : SRD G p (tIfS tt t u) δ xss QR := fun F D rs σ H E I k =>
  h.go I.ei fun b δ1 H1 q s => by
    have I1 := I.step s
    cases b with
    | true => exact iteT ((show SRD G p t δ1 xss QR by simpa using q) F D rs σ H1 E I1 k)
    | false => exact iteF ((show SRD G p u δ1 xss QR by simpa using q) F D rs σ H1 E I1 k)
theorem RD.set_d {i : Nat} {d : PyData} {v : V} (I : RD G F p D rs δ xss σ H) (hi : i ∉ p :: G.pn) (r : Rp G.K (del H (Sl (F.owns (D :: rs)) δ σ)) d v) :
    RD G F p D rs (δ.set i (some (.d d))) xss (σ.set i (some v)) H := by
  have sub : Gr (del H (Sl (F.owns (D :: rs)) δ σ)) (del H (Sl (F.owns (D :: rs)) (δ.set i (some (.d d))) (σ.set i (some v)))) :=
    gr_del fun b u nt hb e => ⟨fun z => hb (z.imp (fun z => (MA.set_d (fun _ q => by cases q) z).1) id), e⟩
  refine ⟨I.s0, I.ei.set_d hi r, I.nd, I.fr, fun a ha z => I.ma a ha (MA.set_d (fun _ q => by cases q) z).1, I.hd, I.len, fun j r2 xs h1 h2 => ?_⟩
  obtain ⟨vs, e, r3⟩ := I.row j r2 xs h1 h2
  exact ⟨vs, e, RpL.gr sub r3⟩
theorem RD.set_n {i : Nat} {v : Option V} (I : RD G F p D rs δ xss σ H) (hi : i ∉ p :: G.pn) : RD G F p D rs (δ.set i none) xss (σ.set i v) H := by
  have sub : Gr (del H (Sl (F.owns (D :: rs)) δ σ)) (del H (Sl (F.owns (D :: rs)) (δ.set i none) (σ.set i v))) :=
    gr_del fun b u nt hb e => ⟨fun z => hb (z.imp (fun z => (MA.set_d (fun _ q => by cases q) z).1) id), e⟩
  refine ⟨I.s0, I.ei.set_n hi, I.nd, I.fr, fun a ha z => I.ma a ha (MA.set_d (fun _ q => by cases q) z).1, I.hd, I.len, fun j r2 xs h1 h2 => ?_⟩
  obtain ⟨vs, e, r3⟩ := I.row j r2 xs h1 h2
  exact ⟨vs, e, RpL.gr sub r3⟩
theorem srd_forR {i : Nat} (hp : i ∉ p :: G.pn) (h : EA (G.pins p) tr δ fun as δ1 => ∃ n : Nat, allD as = some [.int (n : Nat)] ∧ n ≤ 10000 ∧ ∃ IV : Nat → DEnv → List (List PyData) → Prop, IV 0 δ1 xss ∧
      (∀ k δ2 x2, k < n → IV k δ2 x2 → SRD G p t (δ2.set i (some (.d (.int (k : Nat))))) x2 (IV (k + 1))) ∧ ∀ δ2 x2, IV n δ2 x2 → QR δ2 x2) : SRD G p (tFor (iRng1 tr) (gName i) t) δ xss QR := fun F D rs σ H E I k =>
  h.go I.ei fun as vs δ1 H1 ⟨n, e, hn, IV, i0, st, fin⟩ s r => by
    have r2 := allD_ok e r
    cases r2 with
    | cons r3 r4 =>
      cases r4; cases r3
      refine ⟨n, rfl, by omega, by omega, for_range (lo := 0) (n := n) (fun j σ' H' => ∃ δ2 x2, IV j δ2 x2 ∧ RD G F p D rs δ2 x2 σ' H') ⟨δ1, xss, i0, I.step s⟩ ?_ ?_⟩
      · rintro j σ2 H2 hj ⟨δ2, x2, iv, I2⟩
        have ej : (0 : Int) + (j : Int) = (j : Int) := by omega
        show t _ (σ2.set i (some (.int (0 + (j : Int))))) H2
        rw [ej]
        exact st j δ2 x2 hj iv F D rs _ H2 _ (I2.set_d hp (.int (j : Int))) fun δ' x' σ' H' q I' => ⟨δ', x', q, I'⟩
      · rintro σ2 H2 ⟨δ2, x2, iv, I2⟩
        exact k δ2 x2 σ2 H2 (fin δ2 x2 iv) I2
/-- one more at the end of a row -/
theorem RD.push {i : Nat} {r : Addr} {xs : List PyData} {y : PyData} {w : V} {vs : List V} (I : RD G F p D rs δ xss σ H) (hr : rs[i]? = some r) (hx : xss[i]? = some xs) (hv : H r = some (.lst vs)) (ry : Rp G.K (del H (Sl (F.owns (D :: rs)) δ σ)) y w) :
    RD G F p D rs δ (xss.set i (xs ++ [y])) σ (upd H r (.lst (vs ++ [w]))) ∧ Gr (del H (Sl (F.owns (D :: rs)) δ σ)) (del (upd H r (.lst (vs ++ [w]))) (Sl (F.owns (D :: rs)) δ σ)) := by
  have hm : r ∈ D :: rs := List.mem_cons_of_mem _ (List.mem_of_getElem? hr)
  have la := (List.getElem?_eq_some_iff.mp hr).1
  obtain ⟨f1, f2, f3, f4⟩ := I.fr _ hm
  obtain ⟨J, g⟩ := I.ei.poke (p := r) (ws := vs ++ [w]) (.inl hm) (I.ma _ hm) f1 f2 f3 hv
  have nd := List.nodup_cons.mp I.nd
  have neD : D ≠ r := fun z => nd.1 (by rw [z]; exact List.mem_of_getElem? hr)
  refine ⟨⟨I.s0, J, I.nd, I.fr, I.ma, by rw [upd_ne neD]; exact I.hd, by rw [List.length_set]; exact I.len, fun i' r' xs' h1 h2 => ?_⟩, g⟩
  by_cases e : i = i'
  · subst e
    rw [hr] at h1
    cases h1
    rw [List.getElem?_set_self (by rw [← I.len]; exact la)] at h2
    cases h2
    obtain ⟨us, e2, r2⟩ := I.row i r xs hr hx
    rw [hv] at e2
    cases e2
    refine ⟨_, upd_same, RpL.gr g ?_⟩
    exact RpL.app r2 (.cons ry .nil)
  · rw [List.getElem?_set_ne e] at h2
    have ne : r' ≠ r := fun z => e ((List.getElem?_inj la nd.2).mp (by rw [hr, h1, z]))
    obtain ⟨us, e2, r2⟩ := I.row i' r' xs' h1 h2
    exact ⟨us, by rw [upd_ne ne]; exact e2, RpL.gr g r2⟩
/-- `for a, b in zip(rows, here): a.append(b)` -/
theorem srd_zipPush {a b h : Nat} {ys : List PyData} (na : a ∉ p :: G.pn) (nb : b ∉ p :: G.pn) (ab : a ≠ b) (la : a < δ.length) (lb : b < δ.length) (ha : a ≠ h) (hb : b ≠ h) (hh : δ[h]? = some (some (E.d (.list ys)))) (hl : ys.length = xss.length) (few : ∀ xs ∈ xss, xs.length < sizeLine)
    (q : QR ((δ.set a none).set b none) (List.zipWith (fun xs y => xs ++ [y]) xss ys)) :
    SRD G p (tFor (iZip G.K (tCons (tVar p) (tCons (tVar h) tNil))) (gTup G.K 2 (gCons (gName a) (gCons (gName b) gNil))) (tDrop (tBM G.K "list" rAppend (tVar a) (tCons (tVar b) tNil)))) δ xss QR := fun F D rs σ H E I k => by
  obtain ⟨v, eh, rh⟩ := I.ei.slot h _ hh
  have ep : σ[p]? = some (some (V.ref D)) := (I.ei.pin p List.mem_cons_self).trans I.s0
  cases rh with
  | @lst c ws _ hc rw0 =>
    obtain ⟨nc, hc2⟩ := del_some.mp hc
    have lw := rw0.len
    have lr := I.len
    -- the first j rows are longer by one
    let grown : Nat → List (List PyData) := fun j => List.zipWith (fun xs y => xs ++ [y]) (xss.take j) (ys.take j) ++ xss.drop j
    let Pv : Nat → L2.St → Hp → Prop := fun j σ2 H2 => j ≤ xss.length ∧ ∃ δ2, ((δ2.set a none).set b none = (δ.set a none).set b none) ∧ RD G F p D rs δ2 (grown j) σ2 H2 ∧ del H2 (Sl (F.owns (D :: rs)) δ2 σ2) c = some (.lst ws) ∧ RpL G.K (del H2 (Sl (F.owns (D :: rs)) δ2 σ2)) ys ws
    have g0 : grown 0 = xss := by
      show List.zipWith _ (xss.take 0) (ys.take 0) ++ xss.drop 0 = xss
      rw [List.take_zero, List.drop_zero]
      rfl
    have gl : ∀ j, j ≤ xss.length → (grown j).length = xss.length := fun j hj => by
      show (List.zipWith _ (xss.take j) (ys.take j) ++ xss.drop j).length = _
      rw [List.length_append, List.length_zipWith, List.length_take, List.length_take, List.length_drop]
      omega
    have gat : ∀ j, j < xss.length → (grown j)[j]? = xss[j]? := fun j hj => by
      show (List.zipWith _ (xss.take j) (ys.take j) ++ xss.drop j)[j]? = _
      have l1 : (List.zipWith (fun (xs : List PyData) y => xs ++ [y]) (xss.take j) (ys.take j)).length = j := by
        rw [List.length_zipWith, List.length_take, List.length_take]; omega
      rw [List.getElem?_append_right (by omega), l1, Nat.sub_self, List.getElem?_drop, Nat.add_zero]
    have gnext : ∀ j xs y, xss[j]? = some xs → ys[j]? = some y → (grown j).set j (xs ++ [y]) = grown (j + 1) := fun j xs y hx hy => by
      have hj := (List.getElem?_eq_some_iff.mp hx).1
      have l1 : (List.zipWith (fun (xs : List PyData) y => xs ++ [y]) (xss.take j) (ys.take j)).length = j := by
        rw [List.length_zipWith, List.length_take, List.length_take]; omega
      show (List.zipWith _ (xss.take j) (ys.take j) ++ xss.drop j).set j (xs ++ [y]) = List.zipWith _ (xss.take (j + 1)) (ys.take (j + 1)) ++ xss.drop (j + 1)
      rw [List.set_append_right _ _ (by omega), l1, Nat.sub_self, List.take_add_one, List.take_add_one, hx, hy]
      have ed : xss.drop j = xs :: xss.drop (j + 1) := by
        rw [List.drop_eq_getElem_cons hj, (List.getElem?_eq_some_iff.mp hx).2]
      rw [ed, List.set_cons_zero]
      show _ = List.zipWith _ (xss.take j ++ [xs]) (ys.take j ++ [y]) ++ _
      rw [List.zipWith_append (by rw [List.length_take, List.length_take]; omega), List.append_assoc]
      rfl
    refine ⟨_, ep, _, eh, D, c, rs.map V.ref, ws, rfl, SqL.of I.hd, SqL.of hc2, RZ.for_zipL (xs := rs.map V.ref) (ys := ws) (by rw [List.length_map, lr, ← hl, lw]) Pv ⟨Nat.zero_le _, δ, rfl, by rw [g0]; exact I, hc, rw0⟩ ?_ ?_ ?_⟩
    · rintro j σ2 H2 ⟨_, δ2, _, I2, hc', _⟩
      exact ⟨SqL.of I2.hd, SqL.of (del_some.mp hc').2⟩
    · rintro j x y T σ2 H2 hx hy ⟨hj, δ2, ed, I2, hc', rw'⟩ hT
      rw [List.getElem?_map] at hx
      obtain ⟨r, hr, rfl⟩ := Option.map_eq_some_iff.mp hx
      obtain ⟨d, hd, rd⟩ := rw'.getV hy
      have jl : j < xss.length := by have := (List.getElem?_eq_some_iff.mp hr).1; omega
      obtain ⟨xs, hxs⟩ : ∃ xs, xss[j]? = some xs := ⟨_, List.getElem?_eq_getElem jl⟩
      have hg : (grown j)[j]? = some xs := by rw [gat j jl, hxs]
      obtain ⟨vs, hv, rv⟩ := I2.row j r xs hr hg
      -- the pair, then both names
      have gT : Gr (del H2 (Sl (F.owns (D :: rs)) δ2 σ2)) (del (upd H2 T (.tup [V.ref r, y])) (Sl (F.owns (D :: rs)) δ2 σ2)) := gr_laid hT
      have ne : ∀ {b : Addr} {u : HO}, H2 b = some u → b ≠ T := fun {b u} e z => by rw [z, hT] at e; cases e
      have I3 : RD G F p D rs δ2 (grown j) σ2 (upd H2 T (.tup [V.ref r, y])) := ⟨I2.s0, I2.ei.laid hT (nt_tup _), I2.nd, I2.fr, I2.ma, by rw [upd_ne (ne I2.hd)]; exact I2.hd, I2.len, fun i' r' xs' e1 e2 => by
        obtain ⟨us, e3, r3⟩ := I2.row i' r' xs' e1 e2
        exact ⟨us, by rw [upd_ne (ne e3)]; exact e3, RpL.gr gT r3⟩⟩
      have I4 := (I3.set_n (i := a) (v := some (V.ref r)) na).set_n (i := b) (v := some y) nb
      have sub : Gr (del (upd H2 T (.tup [V.ref r, y])) (Sl (F.owns (D :: rs)) δ2 σ2)) (del (upd H2 T (.tup [V.ref r, y])) (Sl (F.owns (D :: rs)) ((δ2.set a none).set b none) ((σ2.set a (some (V.ref r))).set b (some y)))) :=
        gr_del fun b u nt hb e => ⟨fun z => hb (z.imp (fun z => (MA.set_d (fun _ q => by cases q) ((MA.set_d (fun _ q => by cases q) z).1)).1) id), e⟩
      have hv4 : (upd H2 T (.tup [V.ref r, y])) r = some (.lst vs) := by rw [upd_ne (ne hv)]; exact hv
      obtain ⟨I5, g5⟩ := I4.push hr hg hv4 ((rd.gr gT).gr sub)
      have all := (gT.trans sub).trans g5
      have ls : σ2.length = δ2.length := I2.ei.len.symm
      have ld : δ2.length = δ.length := by
        have := congrArg List.length ed
        simpa using this
      have ga : ((σ2.set a (some (V.ref r))).set b (some y))[a]? = some (some (V.ref r)) := by
        rw [List.getElem?_set_ne (fun z => ab z.symm), List.getElem?_set_self (by omega)]
      have gb : ((σ2.set a (some (V.ref r))).set b (some y))[b]? = some (some y) := List.getElem?_set_self (by rw [List.length_set]; omega)
      refine ⟨T, [V.ref r, y], rfl, SqT.of upd_same, rfl, V.ref r, [y], rfl, y, [], rfl, rfl, ?_⟩
      refine ⟨V.ref r, ga, (.inl ⟨rfl, vs, SqL.of hv4⟩), y, gb, r, vs, y, rfl, rfl, hv4, ?_, ?_⟩
      · rw [← rv.len]
        exact few xs (List.mem_of_getElem? hxs)
      · refine ⟨by omega, _, ?_, ?_, all _ _ (nt_lst _) hc', RpL.gr all rw'⟩
        · show (((((δ2.set a none).set b none)).set a none).set b none) = _
          rw [← ed]
          refine List.ext_getElem? fun i => ?_
          by_cases e1 : b = i
          · subst e1
            by_cases l : b < δ2.length
            · rw [List.getElem?_set_self (by simpa using l), List.getElem?_set_self (by simpa using l)]
            · rw [List.getElem?_eq_none (by simp; omega), List.getElem?_eq_none (by simp; omega)]
          · rw [List.getElem?_set_ne e1, List.getElem?_set_ne e1]
            by_cases e2 : a = i
            · subst e2
              by_cases l : a < δ2.length
              · rw [List.getElem?_set_self (by simpa using l), List.getElem?_set_self (by simpa using l)]
              · rw [List.getElem?_eq_none (by simp; omega), List.getElem?_eq_none (by simp; omega)]
            · rw [List.getElem?_set_ne e2, List.getElem?_set_ne e2, List.getElem?_set_ne e1, List.getElem?_set_ne e2]
        · rw [← gnext j xs d hxs hd]
          exact I5
    · rintro σ2 H2 ⟨hj, δ2, ed, I2, _, _⟩
      rw [List.length_map, lr] at I2
      have eg : grown xss.length = List.zipWith (fun xs y => xs ++ [y]) xss ys := by
        show List.zipWith _ (xss.take xss.length) (ys.take xss.length) ++ xss.drop xss.length = _
        rw [List.take_length, ← hl, List.take_length, hl, List.drop_length, List.append_nil]
      rw [eg] at I2
      -- the names may hold what they will
      have I3 := (I2.set_n (i := a) (v := (σ2[a]?).join) na).set_n (i := b) (v := (σ2[b]?).join) nb
      have es : (σ2.set a (σ2[a]?).join).set b (σ2[b]?).join = σ2 := by
        refine List.ext_getElem? fun i => ?_
        by_cases e1 : b = i
        · subst e1
          by_cases l : b < σ2.length
          · rw [List.getElem?_set_self (by simpa using l), List.getElem?_eq_getElem l]; rfl
          · rw [List.getElem?_eq_none (by simp; omega), List.getElem?_eq_none (by omega)]
        · rw [List.getElem?_set_ne e1]
          by_cases e2 : a = i
          · subst e2
            by_cases l : a < σ2.length
            · rw [List.getElem?_set_self (by simpa using l), List.getElem?_eq_getElem l]; rfl
            · rw [List.getElem?_eq_none (by simp; omega), List.getElem?_eq_none (by omega)]
          · rw [List.getElem?_set_ne e2]
      rw [es, ed] at I3
      exact k _ _ σ2 H2 q I3
theorem rpl_of {K : PySem.W.Frag} {Hd : Hp} : ∀ {ds : List PyData} {vs : List V}, ds.length = vs.length → (∀ (i : Nat) (d : PyData) (v : V), ds[i]? = some d → vs[i]? = some v → Rp K Hd d v) → RpL K Hd ds vs
  | [], [], _, _ => .nil
  | d :: ds, v :: vs, h, k => .cons (k 0 d v rfl rfl) (rpl_of (by simpa using h) fun i d' v' h1 h2 => k (i + 1) d' v' (by simpa using h1) (by simpa using h2))
/-- the rows stand for good -/
theorem RD.out {σ1 : L2.St} (J0 : EI G F δ1 σ H') (hs : ∀ i ∈ G.pn, σ1[i]? = σ[i]?) (hp : p ∉ G.pn) (I : RD G { F with s0 := σ1 } p D rs δ xss σ' H) : EI G F (δ.set p (some (.d (.list (xss.map PyData.list))))) σ' H := by
  have J := I.ei
  have ep : σ'[p]? = some (some (V.ref D)) := (J.pin p List.mem_cons_self).trans I.s0
  have lp : p < δ.length := by rw [J.len]; exact (List.getElem?_eq_some_iff.mp ep).1
  have mas : ∀ {a : Addr}, MA (δ.set p (some (.d (.list (xss.map PyData.list))))) σ' a → MA δ σ' a := fun {a} z => MA.set_1 (fun _ q => by cases q) z
  have sub : Gr (del H (Sl (Fx.owns { F with s0 := σ1 } (D :: rs)) δ σ')) (del H (Sl F (δ.set p (some (.d (.list (xss.map PyData.list))))) σ')) := gr_del fun b u n hb e => ⟨fun z => hb (z.imp mas .inr), e⟩
  have free : ∀ a ∈ D :: rs, ¬ Sl F (δ.set p (some (.d (.list (xss.map PyData.list))))) σ' a := fun a ha z => z.elim (fun z => I.ma a ha (mas z)) (I.fr a ha).2.2.2
  have old : ∀ {i : Nat} {e : E}, (δ.set p (some (.d (.list (xss.map PyData.list)))))[i]? = some (some e) → (i = p ∧ e = .d (.list (xss.map PyData.list))) ∨ (i ≠ p ∧ δ[i]? = some (some e)) := fun {i e} h => by
    by_cases z : p = i
    · subst z
      rw [List.getElem?_set_self lp] at h
      cases h
      exact .inl ⟨rfl, rfl⟩
    · rw [List.getElem?_set_ne z] at h
      exact .inr ⟨fun q => z q.symm, h⟩
  refine ⟨by rw [List.length_set]; exact J.len, fun i e h => ?_, fun i j xs ys a h1 h2 => ?_, fun a ha => ?_, J.keep, fun a ha => J.ex a (.inr ha), fun i hi => ?_, J.tab, J.tk, J.mt, fun i xs a h1 h2 h3 => ?_, fun a w => ⟨(J0.wl a w).1, fun z => (J.wl a w).2 (mas z)⟩, K1.set J.k1 (fun n q => by cases q)⟩
  · rcases old h with ⟨rfl, rfl⟩ | ⟨_, h⟩
    · refine ⟨_, ep, ?_⟩
      refine .lst (vs := rs.map V.ref) (del_some.mpr ⟨free D (by simp), I.hd⟩) ?_
      refine rpl_of (by rw [List.length_map, List.length_map, I.len]) fun i d v h1 h2 => ?_
      rw [List.getElem?_map] at h1 h2
      obtain ⟨xs, hx, rfl⟩ := Option.map_eq_some_iff.mp h1
      obtain ⟨r, hr, rfl⟩ := Option.map_eq_some_iff.mp h2
      obtain ⟨vs, hv, rv⟩ := I.row i r xs hr hx
      exact .lst (del_some.mpr ⟨free r (List.mem_cons_of_mem _ (List.mem_of_getElem? hr)), hv⟩) (RpL.gr sub rv)
    · obtain ⟨v, h1, h2⟩ := J.slot i e h
      refine ⟨v, h1, ?_⟩
      cases e with
      | d x => exact Rp.gr sub h2
      | err D => exact XR.gr sub h2
      | k n => exact h2
      | m ys =>
        obtain ⟨a, ws, h4, h5, h6⟩ := h2
        exact ⟨a, ws, h4, h5, RpL.gr sub h6⟩
  · rcases old h1 with ⟨_, q⟩ | ⟨_, h1⟩
    · cases q
    rcases old h2 with ⟨_, q⟩ | ⟨_, h2⟩
    · cases q
    exact J.nd i j xs ys a h1 h2
  · rcases J.own a (mas ha) with z | ⟨z, zx⟩
    · exact .inl z
    · exact .inr ⟨z, fun w => zx (.inr w)⟩
  · have a := J.pin i (List.mem_cons_of_mem _ hi)
    have b := J0.pin i hi
    rw [a, ← b]
    exact hs i hi
  · rcases old h1 with ⟨_, q⟩ | ⟨ne, h1⟩
    · cases q
    exact (List.mem_cons.mp (J.mx i xs a h1 h2 (.inr h3))).resolve_left ne
/-- `w = [[], [], []]; t; u` -/
theorem sd_weeks (hp : p ∉ G.pn) (lp : p < δ.length) (h : SRD G p t (δ.set p none) [[], [], []] fun δ' xs => SD G u (δ'.set p (some (.d (.list (xs.map PyData.list))))) QS) :
    SD G (tSeq (tAsg (tLst (tCons (tLst tNil) (tCons (tLst tNil) (tCons (tLst tNil) tNil)))) (gName p)) (tSeq t u)) δ QS := fun F σ H En I k => by
  refine ⟨by decide, fun r0 h0 => ⟨by decide, fun r1 h1 => ⟨by decide, fun r2 h2 => ⟨by show 3 ≤ sizeLine; decide, fun D hD => ?_⟩⟩⟩⟩
  show t { En with nx := u En } (σ.set p (some (V.ref D))) _
  have N0 := New.mk_ (xs := []) I h0 .nil
  have N1 := New.mk_ (xs := []) N0.ei h1 .nil
  have N2 := New.mk_ (xs := []) N1.ei h2 .nil
  have N3 := New.mk_ (xs := []) N2.ei hD .nil
  have e0 : F.own r0 = F.owns [r0] := Fx.own_one
  have e1 : (F.own r0).own r1 = F.owns [r1, r0] := by rw [e0]; exact Fx.own_owns
  have e2 : ((F.own r0).own r1).own r2 = F.owns [r2, r1, r0] := by rw [e1]; exact Fx.own_owns
  have e3 : (((F.own r0).own r1).own r2).own D = F.owns (D :: [r0, r1, r2]) := by
    rw [e2, Fx.own_owns]
    refine Fx.owns_congr fun a => ?_
    simp only [List.mem_cons, List.not_mem_nil, or_false]
    constructor
    · rintro (z | z | z | z)
      · exact .inl z
      · exact .inr (.inr (.inr z))
      · exact .inr (.inr (.inl z))
      · exact .inr (.inl z)
    · rintro (z | z | z | z)
      · exact .inl z
      · exact .inr (.inr (.inr z))
      · exact .inr (.inr (.inl z))
      · exact .inr (.inl z)
  have J3 := N3.ei
  rw [e3] at J3
  have x1 : ¬ (r1 = r0 ∨ F.X0 r1) := N1.x0
  have x2 : ¬ (r2 = r1 ∨ (r2 = r0 ∨ F.X0 r2)) := N2.x0
  have x3 : ¬ (D = r2 ∨ (D = r1 ∨ (D = r0 ∨ F.X0 D))) := N3.x0
  have nd : (D :: [r0, r1, r2]).Nodup := by
    simp only [List.nodup_cons, List.mem_cons, List.not_mem_nil, or_false, not_or, not_false_eq_true, List.nodup_nil, and_true]
    exact ⟨⟨fun z => x3 (.inr (.inr (.inl z))), fun z => x3 (.inr (.inl z)), fun z => x3 (.inl z)⟩, ⟨fun z => x1 (.inl z.symm), fun z => x2 (.inr (.inl z.symm))⟩, fun z => x2 (.inl z.symm)⟩
  obtain ⟨J4, _⟩ := J3.poke (p := D) (ws := [V.ref r0, V.ref r1, V.ref r2]) (.inl (by simp)) N3.ma N3.h0 N3.m0 N3.w0 upd_same
  have ed : ∀ {H1 : Hp} {a b : HO}, upd (upd H1 D a) D b = upd H1 D b := fun {H1 a b} => by
    funext z
    by_cases q : z = D
    · rw [q, upd_same, upd_same]
    · rw [upd_ne q, upd_ne q, upd_ne q]
  rw [ed] at J4
  have J5 := J4.set_n (i := p) (v := some (V.ref D)) hp
  have ls : p < σ.length := by rw [← I.len]; exact lp
  have mas : ∀ {a : Addr}, MA (δ.set p none) (σ.set p (some (V.ref D))) a → MA δ σ a := fun {a} z => (MA.set_d (fun _ q => by cases q) z).1
  let F1 : Fx := { F with s0 := σ.set p (some (V.ref D)) }
  have J6 : EI (G.pins p) (F1.owns (D :: [r0, r1, r2])) (δ.set p none) (σ.set p (some (V.ref D))) (upd (upd (upd (upd H r0 (.lst [])) r1 (.lst [])) r2 (.lst [])) D (.lst [V.ref r0, V.ref r1, V.ref r2])) :=
    ⟨J5.len, J5.slot, J5.nd, J5.own, J5.keep, J5.ex, fun i _ => rfl, J5.tab, J5.tk, J5.mt, fun i xs a h1 h2 h3 => List.mem_cons_of_mem _ (J5.mx i xs a h1 h2 h3), J5.wl, J5.k1⟩
  have fresh : ∀ a ∈ D :: [r0, r1, r2], F.H0 a = none ∧ ¬ F.M0 a ∧ ¬ F.W0 a ∧ ¬ F.X0 a := fun a ha => by
    simp only [List.mem_cons, List.not_mem_nil, or_false] at ha
    rcases ha with rfl | rfl | rfl | rfl
    · exact ⟨N3.h0, N3.m0, N3.w0, fun z => x3 (.inr (.inr (.inr z)))⟩
    · exact ⟨N0.h0, N0.m0, N0.w0, N0.x0⟩
    · exact ⟨N1.h0, N1.m0, N1.w0, fun z => x1 (.inr z)⟩
    · exact ⟨N2.h0, N2.m0, N2.w0, fun z => x2 (.inr (.inr z))⟩
  have noma : ∀ a ∈ D :: [r0, r1, r2], ¬ MA (δ.set p none) (σ.set p (some (V.ref D))) a := fun a ha z => by
    have q := mas z
    simp only [List.mem_cons, List.not_mem_nil, or_false] at ha
    rcases ha with e | e | e | e
    · rw [e] at q; exact N3.ma q
    · rw [e] at q; exact N0.ma q
    · rw [e] at q; exact N1.ma q
    · rw [e] at q; exact N2.ma q
  have nD0 : r0 ≠ D := fun z => x3 (.inr (.inr (.inl z.symm)))
  have nD1 : r1 ≠ D := fun z => x3 (.inr (.inl z.symm))
  have nD2 : r2 ≠ D := fun z => x3 (.inl z.symm)
  have n01 : r0 ≠ r1 := fun z => x1 (.inl z.symm)
  have n02 : r0 ≠ r2 := fun z => x2 (.inr (.inl z.symm))
  have n12 : r1 ≠ r2 := fun z => x2 (.inl z.symm)
  have R : RD G F1 p D [r0, r1, r2] (δ.set p none) [[], [], []] (σ.set p (some (V.ref D))) (upd (upd (upd (upd H r0 (.lst [])) r1 (.lst [])) r2 (.lst [])) D (.lst [V.ref r0, V.ref r1, V.ref r2])) := by
    refine ⟨List.getElem?_set_self ls, J6, nd, fresh, noma, upd_same, rfl, fun i r xs h3 h4 => ?_⟩
    match i, h3, h4 with
    | 0, h3, h4 =>
      cases h3; cases h4
      exact ⟨[], by rw [upd_ne nD0, upd_ne n02, upd_ne n01]; exact upd_same, .nil⟩
    | 1, h3, h4 =>
      cases h3; cases h4
      exact ⟨[], by rw [upd_ne nD1, upd_ne n12]; exact upd_same, .nil⟩
    | 2, h3, h4 =>
      cases h3; cases h4
      exact ⟨[], by rw [upd_ne nD2]; exact upd_same, .nil⟩
    | i + 3, h3, h4 => cases h3
  refine h F1 D [r0, r1, r2] _ _ _ R fun δ' xs σ' H' q I' => ?_
  have J7 := RD.out (F := F) (σ1 := σ.set p (some (V.ref D))) I (fun i hi => List.getElem?_set_ne (fun z => hp (by rw [z]; exact hi))) hp I'
  exact q F σ' H' En J7 k
end
end DX


set_option Elab.async false
set_option linter.all false
set_option maxRecDepth 100000
set_option maxHeartbeats 1000000
/-! zip of a list and a shorter one; a text in a list of texts -/
namespace DX
open PySem PySem.Spec PyProof.Rows L2 GxR GA
open Classical
theorem lc_zipM {K : PySem.W.Frag} {a b : Addr} {xs ys : List V} {g : TG} {tt : TT} {te : TE} {vs : List Nat} {σ : L2.St} {H1 : Hp} {D : Addr} {Qd : Hp → Prop} (hl : ys.length ≤ xs.length) (Pv : Nat → Hp → Prop) (h0 : Pv 0 (upd H1 D (.lst []))) (hq : ∀ i H, i ≤ ys.length → Pv i H → SqL K H a xs ∧ SqL K H b ys)
    (hs : ∀ i x y T H, xs[i]? = some x → ys[i]? = some y → Pv i H → H T = none → g (.ref T) (wipe σ vs) (upd H T (.tup [x, y])) fun σ2 H2 => wipe σ2 vs = wipe σ vs ∧ tt σ2 H2 fun b H3 =>
      if b = true then te σ2 H3 fun y H4 => ∃ acc, H4 D = some (.lst acc) ∧ acc.length < sizeLine ∧ Pv (i + 1) (upd H4 D (.lst (acc ++ [y]))) else Pv (i + 1) H3) (hd : ∀ H, Pv ys.length H → Qd H) :
    ∃ W : Nat → Nat → Hp → Prop, (∃ m, W 0 m (upd H1 D (.lst []))) ∧ ∀ i m H, W i m H →
      ((Itz K a b).stop i H ∧ Qd H) ∨ ((Itz K a b).go i H ∧ ∃ Nx : Hp → Prop, (∀ H', Nx H' → ∃ m', m' < m ∧ W (i + 1) m' H') ∧ ∀ x H', (Itz K a b).yld i H x H' → g x (wipe σ vs) H' fun σ2 H2 => wipe σ2 vs = wipe σ vs ∧ tt σ2 H2 fun b H3 =>
        if b = true then te σ2 H3 fun y H4 => ∃ acc, H4 D = some (.lst acc) ∧ acc.length < sizeLine ∧ Nx (upd H4 D (.lst (acc ++ [y]))) else Nx H3) := by
  refine ⟨fun i m H => m = ys.length - i ∧ i ≤ ys.length ∧ Pv i H, ⟨ys.length, by simp, Nat.zero_le _, h0⟩, ?_⟩
  rintro i m H ⟨rfl, hi, p⟩
  obtain ⟨qx, qy⟩ := hq i H hi p
  by_cases hlt : i < ys.length
  · have hlt2 : i < xs.length := by omega
    refine .inr ⟨⟨xs, ys, xs[i], ys[i], qx, qy, by simp [hlt2], by simp [hlt]⟩, Pv (i + 1), fun H' p' => ⟨ys.length - (i + 1), by omega, rfl, hlt, p'⟩, fun x H' y => ?_⟩
    obtain ⟨T, x', y', rfl, hT, rfl, f1, f2⟩ := y
    exact hs i x' y' T H (f1 xs qx) (f2 ys qy) p hT
  · have e : i = ys.length := by omega
    subst e
    exact .inl ⟨⟨xs, ys, qx, qy, .inr (Nat.le_refl _)⟩, hd H p⟩
theorem for_zipM {K : PySem.W.Frag} {a b : Addr} {xs ys : List V} {g : TG} {tb : TS} {D : Ends} {σ : L2.St} {H : Hp} (hl : ys.length ≤ xs.length) (Pv : Nat → L2.St → Hp → Prop) (h0 : Pv 0 σ H) (hq : ∀ i σ H, Pv i σ H → SqL K H a xs ∧ SqL K H b ys)
    (turn : ∀ (i : Nat) (x y : V) (T : Addr) (σ : L2.St) (H : Hp), xs[i]? = some x → ys[i]? = some y → Pv i σ H → H T = none → g (.ref T) σ (upd H T (.tup [x, y])) fun s2 h2 => tb { D with nx := Pv (i + 1), ct := Pv (i + 1), bk := D.nx } s2 h2) (last : ∀ σ H, Pv ys.length σ H → D.nx σ H) :
    ∃ W : Nat → Nat → L2.St → Hp → Prop, (∃ m, W 0 m σ H) ∧ ∀ i m σ H, W i m σ H →
      ((Itz K a b).stop i H ∧ D.nx σ H) ∨ ((Itz K a b).go i H ∧ ∃ N : L2.St → Hp → Prop, (∀ s' h', N s' h' → ∃ m', m' < m ∧ W (i + 1) m' s' h') ∧ ∀ v h', (Itz K a b).yld i H v h' → g v σ h' fun s2 h2 => tb { D with nx := N, ct := N, bk := D.nx } s2 h2) := by
  refine ⟨fun i m s h => m = ys.length - i ∧ i ≤ ys.length ∧ Pv i s h, ⟨ys.length, rfl, Nat.zero_le _, h0⟩, ?_⟩
  rintro i m s h ⟨rfl, le, pv⟩
  obtain ⟨q1, q2⟩ := hq i s h pv
  by_cases lt : i < ys.length
  · have lt2 : i < xs.length := by omega
    refine .inr ⟨⟨xs, ys, _, _, q1, q2, List.getElem?_eq_getElem lt2, List.getElem?_eq_getElem lt⟩, Pv (i + 1), fun s' h' w => ⟨_, by omega, rfl, lt, w⟩, fun v h' y => ?_⟩
    obtain ⟨T, x', y', rfl, no, rfl, f1, f2⟩ := y
    exact turn i x' y' T s h (f1 xs q1) (f2 ys q2) pv no
  · obtain rfl : i = ys.length := by omega
    exact .inl ⟨⟨xs, ys, q1, q2, .inr (Nat.le_refl _)⟩, last s h pv⟩
section
variable {G : Gx} {F : Fx} {δ δ' : DEnv} {σ σ' : L2.St} {H H' : Hp} {ta tb tc te tl : TE} {tr tk : TA} {Q : PyData → DEnv → Prop} {QF : List PyData → DEnv → Prop} {QS : Out → Prop} {tt : TT} {t : TS}
theorem sd_forZM {g : TG} {vs : List Nat} (h : EA G tr δ fun as δ1 => ∃ xs zs, allD as = some [.list xs, .list zs] ∧ zs.length ≤ xs.length ∧ ∃ IV : Nat → DEnv → Prop, IV 0 δ1 ∧
      (∀ k δ2 y z, xs[k]? = some y → zs[k]? = some z → IV k δ2 → DG G g vs (.tuple [y, z]) δ2 fun δ3 => SD G t δ3 (Lp QS (IV (k + 1)))) ∧ ∀ δ2, IV zs.length δ2 → QS (.nx δ2)) : SD G (tFor (iZip G.K tr) g t) δ QS := fun F σ H D I k =>
  h F σ H _ I fun as ws0 δ1 H1 ⟨xs, zs, e, hl, IV, i0, st, fin⟩ J r0 => by
    have r2 := allD_ok e r0
    cases r2 with
    | cons r r4 =>
      cases r4 with
      | cons r' r5 =>
        cases r5
        cases r with
        | @lst a ws _ h1 r1 =>
          cases r' with
          | @lst b us _ h1' r1' =>
            obtain ⟨hno, h2⟩ := del_some.mp h1
            obtain ⟨hno', h2'⟩ := del_some.mp h1'
            have stay : ∀ {δ2 : DEnv} {σ2 : L2.St} {H2 : Hp}, EI G (F.now δ1 σ H1) δ2 σ2 H2 → (H2 a = some (.lst ws) ∧ RpL G.K (del H2 (Sl (F.now δ1 σ H1) δ2 σ2)) xs ws) ∧ (H2 b = some (.lst us) ∧ RpL G.K (del H2 (Sl (F.now δ1 σ H1) δ2 σ2)) zs us) := fun {δ2 σ2 H2} J2 => by
              have s := J.since J2
              exact ⟨⟨s.kp a _ (nt_lst _) (fun z => hno (.inl z)) (fun w => hno (.inr (J.wl a w).1)) h2, RpL.gr s.gr r1⟩, s.kp b _ (nt_lst _) (fun z => hno' (.inl z)) (fun w => hno' (.inr (J.wl b w).1)) h2', RpL.gr s.gr r1'⟩
            refine ⟨a, b, ws, us, rfl, SqL.of h2, SqL.of h2', for_zipM (xs := ws) (ys := us) (by rw [← r1.len, ← r1'.len]; exact hl) (fun j σ' H' => ∃ δ2, IV j δ2 ∧ EI G (F.now δ1 σ H1) δ2 σ' H') ⟨δ1, i0, J.now⟩ ?_ ?_ ?_⟩
            · rintro j σ2 H2 ⟨δ2, iv, J2⟩
              exact ⟨SqL.of (stay J2).1.1, SqL.of (stay J2).2.1⟩
            · rintro j y z T σ2 H2 hy hz ⟨δ2, iv, J2⟩ hT
              obtain ⟨d, hd, rd⟩ := (stay J2).1.2.getV hy
              obtain ⟨d', hd', rd'⟩ := (stay J2).2.2.getV hz
              have J3 := J2.laid hT (nt_tup [y, z])
              obtain ⟨_, _, hX, hm⟩ := J2.fresh hT
              have rd2 : Rp G.K (del (upd H2 T (.tup [y, z])) (Sl (F.now δ1 σ H1) δ2 σ2)) (.tuple [d, d']) (.ref T) :=
                .tup (.inl (.inl (del_some.mpr ⟨fun z => z.elim hm hX, upd_same⟩))) (.cons (rd.gr (gr_laid hT)) (.cons (rd'.gr (gr_laid hT)) .nil))
              exact st j δ2 d d' hd hd' iv _ σ2 _ _ _ J3 rd2 fun δ3 σ3 q3 J3 _ _ _ _ => q3 _ σ3 _ _ J3 (loop_ends (fun o q => sat_back J (k o q)) fun δ4 σ4 H4 iv4 J4 => ⟨δ4, iv4, J4⟩)
            · rintro σ2 H2 ⟨δ2, iv, J2⟩
              rw [← r1'.len] at iv
              exact k _ (fin δ2 iv) σ2 H2 (J.back J2)
theorem ef_lcZM {g : TG} {vs : List Nat} (hp : ∀ j ∈ G.pn, j ∉ vs) (h : EA G tr δ fun as δ1 => ∃ xs zs, allD as = some [.list xs, .list zs] ∧ zs.length ≤ xs.length ∧ xs.length ≤ sizeLine ∧ ∃ IV : Nat → List PyData → DEnv → Prop, IV 0 [] (wipeD δ1 vs) ∧
      (∀ k acc δ2 y z, xs[k]? = some y → zs[k]? = some z → IV k acc (wipeD δ2 vs) → acc.length ≤ k → DG G g vs (.tuple [y, z]) (wipeD δ2 vs) fun δ3 => DT G tt δ3 fun b δ4 => if b = true then ED G te δ4 fun w δ5 => IV (k + 1) (acc ++ [w]) (wipeD δ5 vs) else IV (k + 1) acc (wipeD δ4 vs)) ∧
      ∀ acc δ2, IV zs.length acc (wipeD δ2 vs) → acc.length ≤ zs.length → QF acc (wipeD δ2 vs)) : EF G (tLc (iZip G.K tr) g tt te vs) δ QF := fun F σ H R I k =>
  h F σ H _ I fun as ws0 δ1 H1 ⟨xs, zs, e, hl, hs, IV, i0, st, fin⟩ J r0 => by
    have r2 := allD_ok e r0
    cases r2 with
    | cons r r4 =>
      cases r4 with
      | cons r' r5 =>
        cases r5
        cases r with
        | @lst a ws _ h1 r1 =>
          cases r' with
          | @lst b us _ h1' r1' =>
            obtain ⟨hno, h2⟩ := del_some.mp h1
            obtain ⟨hno', h2'⟩ := del_some.mp h1'
            have hg : ∀ H H' : Hp, Gr H H' → ((H a = some (.lst ws) ∧ RpL G.K H xs ws) ∧ (H b = some (.lst us) ∧ RpL G.K H zs us)) → ((H' a = some (.lst ws) ∧ RpL G.K H' xs ws) ∧ (H' b = some (.lst us) ∧ RpL G.K H' zs us)) := fun H H' g z => ⟨⟨g _ _ (nt_lst _) z.1.1, RpL.gr g z.1.2⟩, g _ _ (nt_lst _) z.2.1, RpL.gr g z.2.2⟩
            refine ⟨a, b, ws, us, rfl, SqL.of h2, SqL.of h2', fun D hD => lc_zipM (K := G.K) (a := a) (b := b) (xs := ws) (ys := us) (by rw [← r1.len, ← r1'.len]; exact hl) (fun j H' => LcI G F σ vs D (fun H => (H a = some (.lst ws) ∧ RpL G.K H xs ws) ∧ (H b = some (.lst us) ∧ RpL G.K H zs us)) (IV j) j H') (LcI.start_ hp J hD hg ⟨⟨h1, r1⟩, h1', r1'⟩ i0) ?_ ?_ ?_⟩
            · rintro j H' _ I'
              obtain ⟨_, _, _, _, _, q⟩ := I'.ex
              exact ⟨SqL.of (del_some.mp q.1.1).2, SqL.of (del_some.mp q.2.1).2⟩
            · rintro j y z T H' hy hz I' hT
              obtain ⟨d, hd, _⟩ := r1.getV hy
              obtain ⟨d', hd', _⟩ := r1'.getV hz
              have hj : j < xs.length := (List.getElem?_eq_some_iff.mp hd).1
              have I2 := I'.laid (o := .tup [y, z]) (nt_tup _) hg hT
              have tT : Rp G.K (del (upd H' T (.tup [y, z])) (Sl (F.own D) (wipeD I'.ex.choose_spec.choose vs) (wipe σ vs))) (.tuple [d, d']) (.ref T) := by
                obtain ⟨iv, hl', N, q⟩ := I'.ex.choose_spec.choose_spec
                obtain ⟨_, _, hX, hm⟩ := N.ei.fresh hT
                obtain ⟨e1, he1, r3⟩ := q.1.2.getV hy
                obtain ⟨e2, he2, r4⟩ := q.2.2.getV hz
                rw [hd] at he1
                rw [hd'] at he2
                cases he1
                cases he2
                exact .tup (.inl (.inl (del_some.mpr ⟨fun z => z.elim hm hX, upd_same⟩))) (.cons (r3.gr (gr_laid hT)) (.cons (r4.gr (gr_laid hT)) .nil))
              have I3 : LcI G F σ vs D (fun H => ((H a = some (.lst ws) ∧ RpL G.K H xs ws) ∧ (H b = some (.lst us) ∧ RpL G.K H zs us)) ∧ Rp G.K H (.tuple [d, d']) (.ref T)) (IV j) j (upd H' T (.tup [y, z])) := by
                obtain ⟨iv, hl', N, q⟩ := I'.ex.choose_spec.choose_spec
                have ne : D ≠ T := fun z => by
                  obtain ⟨_, hD', _⟩ := N.at_
                  rw [z, hT] at hD'; cases hD'
                obtain ⟨J, nm, nx, n0, nM, nW, ws', hD', ra⟩ := N
                exact ⟨_, _, iv, hl', ⟨J.laid hT (nt_tup _), nm, nx, n0, nM, nW, ws', by rw [upd_ne ne]; exact hD', RpL.gr (gr_laid hT) ra⟩, hg _ _ (gr_laid hT) q, tT⟩
              have key := lc_turn (G := G) (F := F) (σ := σ) (g := g) (tt := tt) (te := te) (vs := vs) (D := D) (d := .tuple [d, d']) (IV' := IV (j + 1)) (y := .ref T) hp (by omega) (fun acc δ2 iv hl => st j acc δ2 d d' hd hd' iv hl) (fun H H' g z => ⟨hg H H' g z.1, Rp.gr g z.2⟩) (fun _ z => z.1) I3 fun M q => q.2
              exact key
            · rintro H' I'
              rw [← r1'.len] at I'
              obtain ⟨acc, δ2, iv, hl, N⟩ := I'.end_ hp
              exact k acc D _ H' (fin acc δ2 iv hl) N
theorem ed_inS (h : ED G ta δ fun x δ1 => ED G tb δ1 fun y δ2 => ∃ (i : Str) (ns : List Str), x = .str i ∧ y = .list (ns.map PyData.str) ∧ Q (.bool (ns.any fun n => n == i)) δ2) : ED G (tOp (rIn G.K false) ta tb) δ Q :=
  ed_two h fun F σ H R x y u v δ2 ⟨i, ns, e1, e2, q⟩ I r1 r2 k => by
    subst e1 e2
    cases r1
    cases r2 with
    | lst h1 r3 =>
      have e3 := rp_strs r3
      subst e3
      refine ⟨_, ns.map V.str, rfl, .inl (SqL.of (del_some.mp h1).2), rfl, flat_strs ns, ?_⟩
      have e4 : (if false = true then !inV (V.str i) (ns.map V.str) else inV (V.str i) (ns.map V.str)) = ns.any fun n => n == i := by
        rw [if_neg Bool.false_ne_true]
        unfold inV
        rw [List.any_map]
        rfl
      rw [e4]
      exact k _ _ δ2 H q I (.bl _)
end
end DX


set_option Elab.async false
set_option linter.all false
set_option maxRecDepth 100000
set_option maxHeartbeats 1000000
/-! own errors made as values, with the fields that their __init__ keeps -/
namespace OxE
open PySem PySem.Spec PyProof.Rows L2 DX
/-- C(e, ..), an own error: its __init__ keeps sp -/
def tOx (C : Addr) (sp : Sp) (dvs : List V) (ta : TA) : TE := fun σ H Q => ta σ H fun vs H1 => vs.length ≤ 1000 ∧ ∀ a, H1 a = none → sp (.ref a :: (vs ++ dvs)) (upd H1 a (exo a C none)) (fun v H2 => v = .non ∧ Q (.ref a) H2) E0
/-- what the class, its __init__ must be -/
structure OxC (P : Program) (w : World) (K : PySem.W.Frag) (mg : Str → Option Value) (base : Heap) (k : Nat) (x : Str) (C : Addr) (sp : Sp) (dvs : List V) : Prop where
  oc : OexC K C
  mgC : mg x = some (.ref C)
  ex : ∃ (f : Addr) (fd : FuncData) (ps : List Str) (ds : List Value), PySem.W.findIn K (.ref C) "__init__" = some (some (.ref f)) ∧ PySem.W.typeIn K (.ref f) = some (.type "function") ∧ FnOk P w K mg base CX0 k f fd ps sp ∧ Binds K fd ps ds ∧ Vals dvs ds
section
variable {X : Cx} {k j : Nat} {C : Addr} {x n : Str} {sp : Sp} {dvs : List V} {ta : TA} {te : TE} {e : Expr} {es : List Expr} {p p1 p2 pos : Pos}
theorem run_ox {pins : List (Addr × Obj)} {σ : L2.St} {H : Hp} {s : Shared} {Q : VK} {us : List Value} {vs : List V} (c : OxC X.prog X.w X.K X.mg X.base k x C sp dvs) (hr : Room (k + 1) X.A) (I : Inv X pins σ H s) (r : Vals vs us) (hz : vs.length ≤ 1000)
    (h : ∀ a, H a = none → sp (.ref a :: (vs ++ dvs)) (upd H a (exo a C none)) (fun v H2 => v = .non ∧ Q (.ref a) H2) E0) : wpAny (model X.prog X.w) X.A (call (.ref C) us) (EP X pins σ Q) X.xe s := by
  obtain ⟨f, fd, ps, ds, iC, tI, F, hb, hd⟩ := c.ex
  obtain ⟨nm, q, N, bs, bm, sn, sub, ab, col, dd, k0, k1, k2, k3, k5, hC, hbm⟩ := c.oc.cls
  obtain ⟨hp, g, dr, tk, os⟩ := s
  have hsz : hp.objs.size ≤ hp.objs.size + 1 := Nat.le_succ _
  have hq := h _ (I.hok.fresh hsz)
  have hget : ((hp.push (PySem.W.kdv_tup us)).push (PySem.HandSPX.excO C hp.objs.size)).get? (hp.objs.size + 1) = some (PySem.HandSPX.excO C hp.objs.size) := by heap_get
  have I2 : Inv X pins σ (upd H (hp.objs.size + 1) (exo (hp.objs.size + 1) C none)) ⟨(hp.push (PySem.W.kdv_tup us)).push (PySem.HandSPX.excO C hp.objs.size), g, dr, tk, os⟩ :=
    I.laid (t' := tk) (a := hp.objs.size + 1) (o := exo (hp.objs.size + 1) C none) (h' := (hp.push (PySem.W.kdv_tup us)).push (PySem.HandSPX.excO C hp.objs.size)) (fun b o z => Heap.get?_push_of_some _ (Heap.get?_push_of_some _ z)) hsz (exo_ok hget)
  have r2 : Vals (V.ref (hp.objs.size + 1) :: (vs ++ dvs)) (Value.ref (hp.objs.size + 1) :: (us ++ ds)) := .cons rfl (r.append hd)
  have hl : (Value.ref (hp.objs.size + 1) :: us ++ ds).length = ps.length := by
    have z := r2.length
    rw [F.len _ _ _ _ hq] at z
    exact z.symm
  have hus : us.length ≤ sizeLine := by
    rw [← Paired.length r, sizeLine_eq]
    omega
  refine wpAny_call (PySem.HandSPX.call_own PySem.F.excBase_ValueError (fun Y => PySem.HandSPX.refsVE_contains Y bm hbm) (I.kIn _ _ hC) (PySem.W.looks_findIn I.kIn iC) (fun self => PySem.W.bind_fn I.kIn self tI) hus
    (codeAny_mono (F.run _ X.stack _ _ ⟨Value.ref (hp.objs.size + 1) :: us, []⟩ (Value.ref (hp.objs.size + 1) :: (us ++ ds)) _ _ E0 (hr.make C us []) (I2.env0.make C us []) (hb _ (Value.ref (hp.objs.size + 1) :: us) I2.kIn hl) r2 hq) fun r s' hq' => ?_))
  cases r with
  | error er => exact False.elim hq'
  | ok fl =>
    cases fl with
    | ret u =>
      obtain ⟨v, H', I3, rv, ev, q3⟩ := I2.after hq'
      subst ev
      exact ⟨rv, ⟨V.ref (hp.objs.size + 1), H', I3, rfl, q3⟩⟩
    | next => exact False.elim hq'
    | brk => exact False.elim hq'
    | cont => exact False.elim hq'
theorem pe_ox (c : OxC X.prog X.w X.K X.mg X.base k x C sp dvs) (hr : Room (k + 1) X.A) (hg : Gl X x) (kC : PySem.W.keepIn X.K (.ref C) = true) (ha : PA X (e :: es) ta)
    (hdb : (x == ("__debug__" : Str)) = false := by decide) (he : starEach (e :: es) X.env = (false, eval e X.env) :: starEach es X.env := by rfl) (hpl : (backTo pos (starEach es X.env)).any (·.1) = false := by rfl) :
    PE X (.Call (.Name x p) (e :: es) [] pos) (tOx C sp dvs ta) := by
  refine ⟨fun pins s σ H Q I h => wpAny_Call_Name_kw (ld_glob I hg c.mgC ?_ hdb)⟩
  exact PySem.W.callWith_K (h₀ := X.base) I.ok.mod.kin kC (thn (ha.run pos pins s σ H _ I h) fun us s1 ⟨vs, H1, I1, r1, hz, q1⟩ => ⟨I1.kIn, run_ox c hr I1 r1 hz q1⟩) he hpl
theorem pe_ox0 (c : OxC X.prog X.w X.K X.mg X.base k x C sp dvs) (hr : Room (k + 1) X.A) (hg : Gl X x) (kC : PySem.W.keepIn X.K (.ref C) = true)
    (hdb : (x == ("__debug__" : Str)) = false := by decide) : PE X (.Call (.Name x p) [] [] pos) (tOx C sp dvs tNil) := by
  refine ⟨fun pins s σ H Q I h => wpAny_Call_Name_kw (ld_glob I hg c.mgC ?_ hdb)⟩
  exact PySem.W.callWith_K0 I.kIn kC (run_ox (us := []) c hr I .nil h.1 h.2)
/-- e.f of such an error -/
def tOxf (K : PySem.W.Frag) (f : Str) (te : TE) : TE := fun σ H Q => te σ H fun x H1 => ∃ (a C dd : Addr) (fs : List (Str × V)) (v : V), x = .ref a ∧ XfC K C ∧ PySem.W.findIn K (.ref C) f = some none ∧ H1 a = some (exo a C (some dd)) ∧ H1 dd = some (exd dd fs) ∧ fs.lookup f = some v ∧ Q v H1
/-- such an error as the heap has it -/
theorem oxe_at {P : Program} {w : World} {H : Hp} {h : Heap} {a C dd : Addr} {fs : List (Str × V)} (ok : HOk P w H h) (ea : H a = some (exo a C (some dd))) (ed : H dd = some (exd dd fs)) :
    ∃ (oe od : Obj) (mA : Str → Option Value), PySem.W.InstAt h a oe C (some od) ∧ h.Ns1 dd mA ∧ (∀ f, RelO (fs.lookup f) (mA f)) ∧ h.get? dd = some od ∧ ∀ f, PySem.W.lookIn f od = some (mA f) := by
  obtain ⟨t1, ha⟩ := exo_at ok ea
  obtain ⟨mA, hns, hr⟩ := exd_at ok ed
  obtain ⟨od, ho, hl⟩ := lookIn_ns hns
  exact ⟨_, od, mA, ⟨ha, rfl, rfl, ho⟩, hns, hr, ho, hl⟩
theorem pe_oxf (he : PE X e te) (hb : attributeBase e n X.env (eval e X.env) = eval e X.env := by rfl) : PE X (.Attribute e n pos) (tOxf X.K n te) := by
  refine ⟨fun pins s σ H Q I h => attr_of hb (thn (he.run pins s σ H _ I h) fun u s1 hh => ?_)⟩
  obtain ⟨x, H1, I1, rx, a, C, dd, fs, v, rfl, T, hno, ea, ed, l, q⟩ := hh
  obtain rfl : u = Value.ref a := rx
  obtain ⟨oe, od, mA, J, hns, hr, ho, hl⟩ := oxe_at I1.hok ea ed
  obtain ⟨u, hu, ru⟩ := RelO.some_of (v := v) (o := mA n) (by rw [← l]; exact hr n)
  exact HandSPX.exc_get I1.kIn J T.ga T.gg T.exC (PySem.W.findObj_own T.hdC hno rfl (by rw [hl, hu])) (handed_of ru) ⟨v, H1, I1.tok _, ru, q⟩
/-- S.__init__(self, ..), S an own class whose __init__ is ValueError's -/
theorem pe_clsI {S : Addr} {pl : Sem Bool} (hg : Gl X x) (hm : X.mg x = some (.ref S)) (sg : PySem.W.specialIn X.K (.ref S) "__getattribute__" = some (some (.builtin "type.__getattribute__"))) (rd : PySem.W.readsIn X.K S (.type "type") = true)
    (fc : PySem.W.findCls X.K (.ref S) (.type "type") "__init__" = some (.val (.builtin "ValueError.__init__"))) (ha : PA X (e :: es) ta) (hdb : (x == ("__debug__" : Str)) = false := by decide)
    (hc : eval (.Call (.Attribute (.Name x p1) "__init__" p2) (e :: es) [] pos) X.env = (do
      let ov ← eval (.Name x p1) X.env
      standAt p2.atName
      let (f, first) ← holding [ov] (getMethod ov "__init__" pl)
      callWith pos f first (backTo pos (starEach (e :: es) X.env)) (backToKw pos (keywordEach [] X.env))) := by rfl)
    (he : starEach (e :: es) X.env = (false, eval e X.env) :: starEach es X.env := by rfl) (hpl : (backTo pos (starEach es X.env)).any (·.1) = false := by rfl) :
    PE X (.Call (.Attribute (.Name x p1) "__init__" p2) (e :: es) [] pos) (tVeI X.K ta) := by
  refine ⟨fun pins s σ H Q I h => PySem.W.methodCall_KW (ld_glob I hg hm ?_ hdb) hc⟩
  refine PySem.W.method_cls I.kIn sg (PySem.W.cls_value I.kIn rd fc (by decide +kernel) ?_)
  show wpAny _ _ (callWith pos (Value.builtin "ValueError.__init__") [] (backTo pos (starEach (e :: es) X.env)) []) _ _ _
  refine PyProof.Rows.callWith_method1 (thn (ha.run pos pins _ σ H _ (I.tok _) h) fun us s1 ⟨vs, H1, I1, r1, a, C, ws, ev, hl, T, ea, q⟩ => ?_) he hpl
  subst ev
  cases r1 with
  | @cons _ u0 _ ur ra rw' =>
    obtain rfl : u0 = Value.ref a := ra
    have hlen : ur.length ≤ sizeLine := by
      rw [← Paired.length rw', sizeLine_eq]
      omega
    exact oinit_ok T I1 ea hlen fun s' J => ⟨.non, H1, J, rfl, q⟩
/-! ### isinstance of such an error -/
def rIsO (K : PySem.W.Frag) : List V → Hp → VK → Prop := fun xs H Q => ∃ (a D dd : Addr) (fs : List (Str × V)) (c : V) (cv : Value) (b : Bool), xs = [.ref a, c] ∧ H a = some (exo a D (some dd)) ∧ H dd = some (exd dd fs) ∧ ExcC K D ∧ (∀ u, RelV c u → u = cv) ∧ PySem.W.kitOne K (.ref D) cv = some b ∧ Q (.bl b) H
def rIsOT (K : PySem.W.Frag) : List V → Hp → VK → Prop := fun xs H Q => ∃ (a D dd tp : Addr) (fs : List (Str × V)) (cs : List V) (us : List Value) (b : Bool), xs = [.ref a, .ref tp] ∧ H a = some (exo a D (some dd)) ∧ H dd = some (exd dd fs) ∧ ExcC K D ∧
  H tp = some (.tup cs) ∧ Paired ClsV cs us ∧ PySem.W.kitAny K (.ref D) us = some b ∧ Q (.bl b) H
theorem clsS {K : PySem.W.Frag} {D : Addr} (h : PySem.W.hasDictIn K D = true) : (PySem.W.clsIn K D).isSome = true := by
  obtain ⟨cd, hc, _⟩ := PySem.W.any_some h
  rw [hc]
  rfl
theorem call_isO : CallR X (.builtin "isinstance") (rIsO X.K) := by
  intro pins s σ H xs us Q I r h
  obtain ⟨a, D, dd, fs, c, cv, b, rfl, ha, hd, C, hcv, e, q⟩ := h
  obtain ⟨u1, u2, rfl, r1, r2⟩ := vals2 r
  cases (show u1 = Value.ref a from r1)
  cases hcv _ r2
  obtain ⟨oe, od, _, J, _⟩ := oxe_at I.hok ha hd
  exact PySem.W.kia_one (PySem.W.kitx_exc (clsS C.hd) C.hg C.hk C.hs C.ha C.hn C.ht C.hm) I.kIn J e (fun z => nomatch z) fun tk => ⟨.bl b, H, I.kept (t' := tk) fun _ _ z => z, rfl, q⟩
theorem call_isOT : CallR X (.builtin "isinstance") (rIsOT X.K) := by
  intro pins s σ H xs us Q I r h
  obtain ⟨a, D, dd, tp, fs, cs, ws, b, rfl, ha, hd, C, hT, k, e, q⟩ := h
  obtain ⟨u1, u2, rfl, r1, r2⟩ := vals2 r
  cases (show u1 = Value.ref a from r1)
  cases (show u2 = Value.ref tp from r2)
  obtain ⟨oe, od, _, J, _⟩ := oxe_at I.hok ha hd
  obtain ⟨_, its, rv, o, h1, h2, n, h3⟩ := (show ObjOk X.prog X.w H s.heap tp (.tup cs) from I.hok tp _ hT)
  cases ClsV.all k rv
  obtain ⟨oc, od, dt, sl⟩ := o
  simp only at h2 h3
  subst h2 h3
  exact PySem.W.kia_tup (PySem.W.kitx_exc (clsS C.hd) C.hg C.hk C.hs C.ha C.hn C.ht C.hm) I.kIn J h1 e (fun z => nomatch z) fun tk => ⟨.bl b, H, I.kept (t' := tk) fun _ _ z => z, rfl, q⟩
end
end OxE


set_option Elab.async false
set_option linter.all false
set_option maxRecDepth 100000
set_option maxHeartbeats 1000000
/-! own errors with fields, above the heap: what their fields hold is data -/
namespace OxE
open PySem PySem.Spec PyProof.Rows L2 GxR GA DX
theorem nt_exo (a C : Addr) (d : Option Addr) : NT (exo a C d) := fun _ e => exo_tbl e
theorem nt_exd (d : Addr) (fs : List (Str × V)) : NT (exd d fs) := fun ps z => by
  have z' : HO.ext _ = HO.tbl ps := z
  cases z'
theorem upd_over {H : Hp} {a dx : Addr} {o o' d : HO} (h : dx ≠ a) : upd (upd (upd H a o) dx d) a o' = upd (upd H dx d) a o' := by
  funext b
  by_cases hb : b = a
  · subst hb
    rw [upd_same, upd_same]
  · rw [upd_ne hb, upd_ne hb]
    by_cases hd : b = dx
    · subst hd
      rw [upd_same, upd_same]
    · rw [upd_ne hd, upd_ne hd, upd_ne hb]
theorem upd_swap {H : Hp} {a p : Addr} {o l : HO} (h : p ≠ a) : upd (upd H a o) p l = upd (upd H p l) a o := by
  funext b
  by_cases hb : b = p
  · subst hb
    rw [upd_same, upd_ne h, upd_same]
  · rw [upd_ne hb]
    by_cases ha : b = a
    · subst ha
      rw [upd_same, upd_same]
    · rw [upd_ne ha, upd_ne ha, upd_ne hb]
/-- an __init__ that keeps what it is given in the field f -/
def spKeep (f : Str) (C : Addr) : Sp := fun vs H Q _ => ∃ (a : Addr) (v : V), vs = [.ref a, v] ∧ H a = some (exo a C none) ∧ ∀ dx, H dx = none → dx ≠ a → Q .non (upd (upd H dx (exd dx [(f, v)])) a (exo a C (some dx)))
/-- the same; of a list a list of its own -/
def spKeepL (K : PySem.W.Frag) (f : Str) (C : Addr) : Sp := fun vs H Q _ => ∃ (a : Addr) (v : V), vs = [.ref a, v] ∧ H a = some (exo a C none) ∧
  ((v = .non ∧ ∀ dx, H dx = none → dx ≠ a → Q .non (upd (upd H dx (exd dx [(f, v)])) a (exo a C (some dx)))) ∨
    ∃ (b : Addr) (xs : List V), v = .ref b ∧ H b = some (.lst xs) ∧ xs.length ≤ sizeLine ∧ ∀ p, H p = none → p ≠ a → ∀ dx, upd H p (.lst xs) dx = none → dx ≠ a → Q .non (upd (upd (upd H p (.lst xs)) dx (exd dx [(f, .ref p)])) a (exo a C (some dx))))
/-- what gives a new error of the class C whose field f holds data -/
def EO (G : Gx) (t : TE) (C : Addr) (f : Str) (δ : DEnv) (Q : PyData → DEnv → Prop) : Prop :=
  ∀ (F : Fx) (σ : L2.St) (H : Hp) (R : VK), EI G F δ σ H → (∀ d v a dd δ' H', Q d δ' → EI G F δ' σ H' → H' a = some (exo a C (some dd)) → H' dd = some (exd dd [(f, v)]) → ¬ MA δ' σ a → ¬ MA δ' σ dd → ¬ F.W0 a → ¬ F.W0 dd → Rp G.K (del H' (Sl F δ' σ)) d v → R (.ref a) H') → t σ H R
section
variable {G : Gx} {F : Fx} {δ δ' : DEnv} {σ σ' : L2.St} {H H' : Hp} {t t1 t2 : TE} {ta : TA} {C : Addr} {f : Str} {Q : PyData → DEnv → Prop} {QS : Out → Prop} {i : Nat}
theorem made {a dx : Addr} {d : HO} (J : EI G F δ σ H) (ha : H a = none) (hd : upd H a (exo a C none) dx = none) (ne : dx ≠ a) (nt : NT d) : ∃ H', H' = upd (upd (upd H a (exo a C none)) dx d) a (exo a C (some dx)) ∧
    EI G F δ σ H' ∧ H' a = some (exo a C (some dx)) ∧ H' dx = some d ∧ ¬ MA δ σ a ∧ ¬ MA δ σ dx ∧ ¬ F.W0 a ∧ ¬ F.W0 dx ∧ Gr (del H (Sl F δ σ)) (del H' (Sl F δ σ)) := by
  have hd0 : H dx = none := by rw [upd_ne ne] at hd; exact hd
  have ha1 : upd H dx d a = none := by rw [upd_ne (Ne.symm ne)]; exact ha
  refine ⟨_, rfl, ?_⟩
  rw [upd_over ne]
  exact ⟨(J.laid hd0 nt).laid ha1 (nt_exo _ _ _), upd_same, by rw [upd_ne ne, upd_same], (J.fresh ha).2.2.2, (J.fresh hd0).2.2.2, J.freshW ha, J.freshW hd0, (gr_laid hd0).trans (gr_laid ha1)⟩
theorem eo_keep (h : EA G ta δ fun as δ1 => ∃ d, as = [.d d] ∧ Q d δ1) : EO G (tOx C (spKeep f C) [] ta) C f δ Q := fun F σ H R I k =>
  h F σ H _ I fun as vs δ1 H1 ⟨d, e, q⟩ J r => by
    subst e
    cases r with
    | @cons _ v _ vr ra rr =>
      cases rr
      refine ⟨by show 1 ≤ 1000; decide, fun a ha => ⟨a, v, rfl, upd_same, fun dx hd ne => ⟨rfl, ?_⟩⟩⟩
      obtain ⟨H', e, J2, e1, e2, m1, m2, w1, w2, g⟩ := made (C := C) (d := exd dx [(f, v)]) J ha hd ne (nt_exd _ _)
      rw [← e]
      exact k d v a dx δ1 H' q J2 e1 e2 m1 m2 w1 w2 (Rp.gr g ra)
theorem eo_keep0 (q : Q .none δ) : EO G (tOx C (spKeep f C) [.non] tNil) C f δ Q := fun F σ H R I k => by
  refine ⟨by show 0 ≤ 1000; decide, fun a ha => ⟨a, .non, rfl, upd_same, fun dx hd ne => ⟨rfl, ?_⟩⟩⟩
  obtain ⟨H', e, J2, e1, e2, m1, m2, w1, w2, g⟩ := made (C := C) (d := exd dx [(f, V.non)]) I ha hd ne (nt_exd _ _)
  rw [← e]
  exact k .none .non a dx δ H' q J2 e1 e2 m1 m2 w1 w2 .non
theorem eo_keepL0 (q : Q .none δ) : EO G (tOx C (spKeepL G.K f C) [.non] tNil) C f δ Q := fun F σ H R I k => by
  refine ⟨by show 0 ≤ 1000; decide, fun a ha => ⟨a, .non, rfl, upd_same, .inl ⟨rfl, fun dx hd ne => ⟨rfl, ?_⟩⟩⟩⟩
  obtain ⟨H', e, J2, e1, e2, m1, m2, w1, w2, g⟩ := made (C := C) (d := exd dx [(f, V.non)]) I ha hd ne (nt_exd _ _)
  rw [← e]
  exact k .none .non a dx δ H' q J2 e1 e2 m1 m2 w1 w2 .non
theorem eo_keepLn (h : EA G ta δ fun as δ1 => as = [.d .none] ∧ Q .none δ1) : EO G (tOx C (spKeepL G.K f C) [] ta) C f δ Q := fun F σ H R I k =>
  h F σ H _ I fun as vs δ1 H1 ⟨e, q⟩ J r => by
    subst e
    cases r with
    | @cons _ v _ vr ra rr =>
      cases rr
      cases (show Rp G.K _ .none v from ra)
      refine ⟨by show 1 ≤ 1000; decide, fun a ha => ⟨a, .non, rfl, upd_same, .inl ⟨rfl, fun dx hd ne => ⟨rfl, ?_⟩⟩⟩⟩
      obtain ⟨H', e, J2, e1, e2, m1, m2, w1, w2, g⟩ := made (C := C) (d := exd dx [(f, V.non)]) J ha hd ne (nt_exd _ _)
      rw [← e]
      exact k .none .non a dx δ1 H' q J2 e1 e2 m1 m2 w1 w2 .non
theorem eo_keepL (h : EA G ta δ fun as δ1 => ∃ xs, as = [.d (.list xs)] ∧ xs.length ≤ sizeLine ∧ Q (.list xs) δ1) : EO G (tOx C (spKeepL G.K f C) [] ta) C f δ Q := fun F σ H R I k =>
  h F σ H _ I fun as vs δ1 H1 ⟨xs, e, hl, q⟩ J r => by
    subst e
    cases r with
    | @cons _ v _ vr ra rr =>
      cases rr
      cases (show Rp G.K _ (.list xs) v from ra) with
      | @lst b ws _ hb rl =>
        obtain ⟨nb, hb1⟩ := del_some.mp hb
        refine ⟨by show 1 ≤ 1000; decide, fun a ha => ?_⟩
        have nab : b ≠ a := fun z => by rw [z, ha] at hb1; cases hb1
        refine ⟨a, .ref b, rfl, upd_same, .inr ⟨b, ws, rfl, by rw [upd_ne nab]; exact hb1, by rw [← rl.len]; exact hl, fun p hp npa dx hd ne => ⟨rfl, ?_⟩⟩⟩
        have hp0 : H1 p = none := by rw [upd_ne npa] at hp; exact hp
        have J1 := J.laid hp0 (nt_lst ws)
        have g1 : Gr (del H1 (Sl F δ1 σ)) (del (upd H1 p (.lst ws)) (Sl F δ1 σ)) := gr_laid hp0
        rw [upd_swap npa] at hd ⊢
        have ha1 : upd H1 p (.lst ws) a = none := by rw [upd_ne (Ne.symm npa)]; exact ha
        obtain ⟨H', e, J2, e1, e2, m1, m2, w1, w2, g⟩ := made (C := C) (d := exd dx [(f, V.ref p)]) J1 ha1 hd ne (nt_exd _ _)
        rw [← e]
        refine k (.list xs) (.ref p) a dx δ1 H' q J2 e1 e2 m1 m2 w1 w2 (Rp.gr g (.lst (del_some.mpr ⟨fun z => ?_, upd_same⟩) (RpL.gr g1 rl)))
        rcases z with z | z
        · exact (J.fresh hp0).2.2.2 z
        · exact (J.fresh hp0).2.2.1 z
/-- e.f -/
theorem ed_oxf (T : XfC G.K C) (hno : PySem.W.findIn G.K (.ref C) f = some none) (h : EO G t C f δ Q) : ED G (tOxf G.K f t) δ Q := fun F σ H R I k =>
  h F σ H _ I fun d v a dd δ1 H1 q J e1 e2 _ _ _ _ r => ⟨a, C, dd, _, v, rfl, T, hno, e1, e2, by rw [lookup_put, if_pos rfl], k d v δ1 H1 q J r⟩
/-! ### such an error handed on -/
/-- all that stands stays -/
structure Up (cs : List Addr) (H H' : Hp) : Prop where
  kp : ∀ b o, NT o → H b = some o → H' b = some o
  tk : ∀ b ps, H b = some (.tbl ps) → ∃ qs, H' b = some (.tbl qs)
  tab : ∀ p ∈ cs, TabG H' p
theorem Up.refl {cs : List Addr} {H : Hp} (h : ∀ p ∈ cs, TabG H p) : Up cs H H := ⟨fun _ _ _ e => e, fun _ ps e => ⟨ps, e⟩, h⟩
theorem Up.laid {cs : List Addr} {H H' : Hp} {p : Addr} {o : HO} (u : Up cs H H') (h : H' p = none) : Up cs H (upd H' p o) := by
  have ne : ∀ {b : Addr} {x : HO}, H' b = some x → b ≠ p := fun {b x} e z => by rw [z, h] at e; cases e
  refine ⟨fun b x n e => ?_, fun b ps e => ?_, fun q hq => ?_⟩
  · have z := u.kp b x n e
    rw [upd_ne (ne z)]; exact z
  · obtain ⟨qs, z⟩ := u.tk b ps e
    exact ⟨qs, by rw [upd_ne (ne z)]; exact z⟩
  · obtain ⟨ps, e, t⟩ := u.tab q hq
    exact ⟨ps, by rw [upd_ne (ne e)]; exact e, t⟩
/-- a def that is asked of an error of a class D, with a number k: True -/
def spYes (cs : List Addr) (ok : Addr → Int → Prop) : Sp := fun vs H Q _ => ∃ (a D dd : Addr) (fs : List (Str × V)) (k : Int), vs = [.ref a, .int k] ∧ ok D k ∧ H a = some (exo a D (some dd)) ∧ H dd = some (exd dd fs) ∧ (∀ p ∈ cs, TabG H p) ∧ ∀ H', Up cs H H' → Q (.bl true) H'
theorem lenYes {cs : List Addr} {ok : Addr → Int → Prop} (vs : List V) (H : Hp) (Q : VK) (E : XK) (h : spYes cs ok vs H Q E) : vs.length = 2 := by
  obtain ⟨a, D, dd, fs, k, rfl, _⟩ := h
  rfl
/-- for x in [C(..), C(..)]: if not f(x, k): return False -/
theorem sd_forYes {ok : Addr → Int → Prop} {k : Int} (hp : i ∉ G.pn) (hk : ok C k) (hi : δ[i]? = some none) (h1 : EO G t1 C f δ fun _ δ1 => δ1 = δ ∧ EO G t2 C f δ fun _ δ2 => δ2 = δ ∧ QS (.nx δ)) :
    SD G (tFor (iList G.K (tLst (tCons t1 (tCons t2 tNil)))) (gName i) (tIfS (tNot (tB (tCall (spYes G.cs ok) [] E0 (tCons (tVar i) (tCons (tC (.int k)) tNil))))) (tRet (tC (.bl false))) tNext)) δ QS := fun F σ H D I kk => by
  refine h1 (F.now δ σ H) σ H _ I.now fun d1 v1 a1 dd1 δ1 H1 ⟨e1, h2⟩ J1 x1 y1 m1 n1 w1 z1 _ => ?_
  subst e1
  have I1 := I.back J1
  refine h2 (F.now δ1 σ H1) σ H1 _ I1.now fun d2 v2 a2 dd2 δ2 H2 ⟨e2, q⟩ J2 x2 y2 m2 n2 w2 z2 _ => ?_
  subst e2
  have I2 := I1.back J2
  have S2 := I1.since J2
  have x1 := S2.kp _ _ (nt_exo _ _ _) m1 w1 x1
  have y1 := S2.kp _ _ (nt_exd _ _) n1 z1 y1
  refine ⟨by show 2 ≤ sizeLine; decide, fun l hl => ⟨l, rfl, ⟨_, .inl (.inl upd_same)⟩, ?_⟩⟩
  have I3 := I2.laid hl (nt_lst [V.ref a1, V.ref a2])
  have ne : ∀ {b : Addr} {x : HO}, H2 b = some x → b ≠ l := fun {b x} e z => by rw [z, hl] at e; cases e
  have len : i < δ2.length := (List.getElem?_eq_some_iff.mp hi).1
  have same : δ2.set i none = δ2 := by
    refine List.ext_getElem? fun j => ?_
    by_cases hj : i = j
    · subst hj
      rw [List.getElem?_set_self len, hi]
    · rw [List.getElem?_set_ne hj]
  let P : Nat → L2.St → Hp → Prop := fun _ σ' H' => EI G F δ2 σ' H' ∧ Up G.cs (upd H2 l (.lst [V.ref a1, V.ref a2])) H'
  refine for_list (xs := [V.ref a1, V.ref a2]) P ⟨I3, Up.refl I3.tab⟩ (fun j σ' H' _ p => .inl (.inl (p.2.kp _ _ (nt_lst _) upd_same))) (fun j x σ' H' hx p => ?_) fun σ' H' p => kk _ q σ' H' p.1
  obtain ⟨J, u⟩ := p
  have fin : ∀ (a dd : Addr) (v : V), x = V.ref a → H2 a = some (exo a C (some dd)) → H2 dd = some (exd dd [(f, v)]) → (gName i) x σ' H' fun σ2 H3 => (tIfS (tNot (tB (tCall (spYes G.cs ok) [] E0 (tCons (tVar i) (tCons (tC (.int k)) tNil))))) (tRet (tC (.bl false))) tNext) { D with nx := P (j + 1), ct := P (j + 1), bk := D.nx } σ2 H3 := fun a dd v ex ea ed => by
    subst ex
    have Js := J.set_n (v := some (V.ref a)) hp
    rw [same] at Js
    have gi : (σ'.set i (some (V.ref a)))[i]? = some (some (V.ref a)) := List.getElem?_set_self (by rw [← J.len]; exact len)
    refine ⟨V.ref a, gi, ?_⟩
    refine ⟨a, C, dd, [(f, v)], k, rfl, hk, u.kp _ _ (nt_exo _ _ _) (by rw [upd_ne (ne ea)]; exact ea), u.kp _ _ (nt_exd _ _) (by rw [upd_ne (ne ed)]; exact ed), J.tab, fun H4 u4 => ⟨true, rfl, ?_⟩⟩
    show (if (!true) = true then _ else _)
    refine iteF ⟨Js.called (fun b o n e => u4.kp b o n e) u4.tk u4.tab, ⟨fun b o n e => u4.kp b o n (u.kp b o n e), fun b ps e => ?_, u4.tab⟩⟩
    obtain ⟨qs, e⟩ := u.tk b ps e
    exact u4.tk b qs e
  match j, hx with
  | 0, hx => exact fin a1 dd1 v1 (by simpa using hx.symm) x1 y1
  | 1, hx => exact fin a2 dd2 v2 (by simpa using hx.symm) x2 y2
  | j + 2, hx => simp at hx
end
end OxE


set_option Elab.async false
set_option linter.all false
set_option maxRecDepth 100000
set_option maxHeartbeats 1000000
namespace K23
open PySem PySem.Spec PyProof.Rows L2 GxR GA DX So
/-- the class that a number stands for -/
def okA (A : Str → Addr) : Addr → Int → Prop := fun D k => (D = A "NoText" ∧ k = 0) ∨ (D = A "NoWorths" ∧ k = 1)
/-- what the law rests on: the fields of the two classes -/
structure HK23 (K : PySem.W.Frag) (A : Str → Addr) : Prop where
  xT : XfC K (A "NoText")
  xW : XfC K (A "NoWorths")
  nT : PySem.W.findIn K (.ref (A "NoText")) "at" = some none
  nW : PySem.W.findIn K (.ref (A "NoWorths")) "days" = some none
end K23


set_option Elab.async false
set_option linter.all false
set_option maxRecDepth 100000
set_option maxHeartbeats 1000000
namespace K23
open PySem PySem.Spec PyProof.Rows L2 GxR GA DX
def top (i : Nat) : Stmt := PySem.Challenge.pw_soldrises_k23_refusals_with_fields.main.body.getD i (.Pass ⟨0, 0, 0, 0⟩)
abbrev s_law_till : Stmt := top 20
abbrev s_law_pull : Stmt := top 21
abbrev s_law_alone : Stmt := top 22
abbrev s_law : Stmt := top 23
theorem sc_law_till : FnScope ["script", "k", "cell"] ["script", "k"] (defScope s_law_till) := ⟨rfl, rfl, rfl, by decide +kernel, rfl, by decide +kernel, by decide +kernel⟩
theorem sc_law_pull : FnScope ["till", "many", "found", "stirred"] ["till", "many"] (defScope s_law_pull) := ⟨rfl, rfl, rfl, by decide +kernel, rfl, by decide +kernel, by decide +kernel⟩
theorem sc_law_alone : FnScope ["e", "k"] ["e", "k"] (defScope s_law_alone) := ⟨rfl, rfl, rfl, by decide +kernel, rfl, by decide +kernel, by decide +kernel⟩
theorem sc_law : FnScope ["script", "k", "till", "rows", "turn", "at", "odd"] ["script"] (defScope s_law) := ⟨rfl, rfl, rfl, by decide +kernel, rfl, by decide +kernel, by decide +kernel⟩

end K23


set_option Elab.async false
set_option linter.all false
set_option maxRecDepth 100000
set_option maxHeartbeats 1000000
namespace K23
open PySem PySem.Spec PyProof.Rows L2 GxR GA DX So
def t_law_till (K : PySem.W.Frag) (cs : List Addr) (Pt : Str → Addr) : TS := (tSeq (tAsg (tIf (tTest (tOp (rI0 fun i j => .bl (decide (i < j))) (tVar 1) (tCB (rLenS K) (tCons (tVar 0) tNil)))) (tOp (rIx K) (tVar 0) (tVar 1)) (tC (.int 0))) (gName 2))
    (tRet (tLst (tCons (tCB rMax2 (tCons (tC (.int 0)) (tCons (tOp (rI0 fun i j => .int (i - j)) (tVar 2) (tOp (rI CPowW fun i j => .int (i ^ j.toNat)) (tC (.int 10)) (tC (.int 18)))) tNil))) (tCons (tOp (rI0 fun i j => .int (i + j)) (tOp (rI (fun _ j => 0 < j) fun i j => .int (i % j)) (tVar 2) (tOp (rI0 fun i j => .int (i + j)) (tOp (rI CPowW fun i j => .int (i ^ j.toNat)) (tC (.int 10)) (tC (.int 43))) (tC (.int 57)))) (tOp (rI CMulW fun i j => .int (i * j)) (tOp (rI CPowW fun i j => .int (i ^ j.toNat)) (tC (.int 10)) (tC (.int 12))) (tOp (rI0 fun i j => .int (i + j)) (tVar 1) (tC (.int 1))))) (tCons (tC (.int 0)) tNil))))))
def t_law_pull (K : PySem.W.Frag) (cs : List Addr) (Pt : Str → Addr) : TS := (tSeq (tIfS (tTest (tOp (rI0 fun i j => .bl (decide (j < i))) (tOp (rIx K) (tVar 0) (tC (.int 0))) (tC (.int 0))))
      (tSeq (tAsg (tOp (rI (fun _ j => 0 < j) fun i j => .int (i % j)) (tOp (rIx K) (tVar 0) (tC (.int 0))) (tVar 1)) (gName 2))
    (tSeq (tAsg (tOp (rI CDivW fun i j => .int (i / j)) (tOp (rIx K) (tVar 0) (tC (.int 0))) (tVar 1)) (gSub (tVar 0) (tC (.int 0)) rSetL))
    (tRet (tVar 2))))
      tNext)
    (tSeq (tAsg (tOp (rI0 fun i j => .int (i + j)) (tOp (rIx K) (tVar 0) (tC (.int 2))) (tC (.int 1))) (gSub (tVar 0) (tC (.int 2)) rSetL))
    (tSeq (tAsg (tOp (rI (fun _ j => 0 < j) fun i j => .int (i % j)) (tOp (rI CPowW fun i j => .int (i ^ j.toNat)) (tOp (rI0 fun i j => .int (i + j)) (tOp (rIx K) (tVar 0) (tC (.int 1))) (tOp (rI CMulW fun i j => .int (i * j)) (tC (.int 15485867)) (tOp (rI CPowW fun i j => .int (i ^ j.toNat)) (tOp (rIx K) (tVar 0) (tC (.int 2))) (tC (.int 2))))) (tC (.int 3))) (tOp (rI0 fun i j => .int (i + j)) (tOp (rI CPowW fun i j => .int (i ^ j.toNat)) (tC (.int 10)) (tC (.int 37))) (tC (.int 43)))) (gName 3))
    (tSeq (tAsg (tOp (rI (fun _ j => 0 < j) fun i j => .int (i % j)) (tOp (rI CPowW fun i j => .int (i ^ j.toNat)) (tOp (rI0 fun i j => .int (i + j)) (tVar 3) (tOp (rI CMulW fun i j => .int (i * j)) (tC (.int 32416190071)) (tOp (rIx K) (tVar 0) (tC (.int 2))))) (tC (.int 5))) (tOp (rI0 fun i j => .int (i + j)) (tOp (rI CPowW fun i j => .int (i ^ j.toNat)) (tC (.int 10)) (tC (.int 34))) (tC (.int 193)))) (gName 3))
    (tRet (tOp (rI (fun _ j => 0 < j) fun i j => .int (i % j)) (tOp (rI CDivW fun i j => .int (i / j)) (tVar 3) (tC (.int 999983))) (tVar 1)))))))
def t_law (A : Str → Addr) (K : PySem.W.Frag) (cs : List Addr) (Pt : Str → Addr) : TS := (tSeq (tFor (iRng1 (tCons (tCB rMax2 (tCons (tC (.int 1)) (tCons (tCB rMin2 (tCons (tC (.int 12)) (tCons (tCB (rLenS K) (tCons (tVar 0) tNil)) tNil))) tNil))) tNil)) (gName 1)
      (tSeq (tAsg (tCall (spF K cs C_law_till) [] E0 (tCons (tVar 0) (tCons (tVar 1) tNil))) (gName 2))
    (tSeq (tAsg (tLc (iRng1 (tCons (tCall (spT K cs C_law_pull) [] E0 (tCons (tVar 2) (tCons (tC (.int 7)) tNil))) tNil)) (gName 4) tYes (tCall (spT K cs C_law_pull) [] E0 (tCons (tVar 2) (tCons (tC (.int 300)) tNil))) [4]) (gName 3))
    (tSeq (tAsg (tCall (spT K cs C_law_pull) [] E0 (tCons (tVar 2) (tCons (tC (.int 40)) tNil))) (gName 5))
    (tSeq (tIfS (tOr (tTest (tOp rNe (OxE.tOxf K "at" (OxE.tOx (A "NoText") (OxE.spKeep "at" (A "NoText")) [] (tCons (tVar 5) tNil))) (tVar 5))) (tOr (tTest (tOp rNotN (OxE.tOxf K "at" (OxE.tOx (A "NoText") (OxE.spKeep "at" (A "NoText")) [.non] tNil)) (tC .non))) (tTest (tOp rNotN (OxE.tOxf K "at" (OxE.tOx (A "NoText") (OxE.spKeep "at" (A "NoText")) [] (tCons (tC .non) tNil))) (tC .non)))))
      (tRet (tC (.bl false)))
      tNext)
    (tSeq (tIfS (tOr (tTest (tOp (rNeD K) (OxE.tOxf K "days" (OxE.tOx (A "NoWorths") (OxE.spKeepL K "days" (A "NoWorths")) [] (tCons (tVar 3) tNil))) (tVar 3))) (tOr (tTest (tOp rNotN (OxE.tOxf K "days" (OxE.tOx (A "NoWorths") (OxE.spKeepL K "days" (A "NoWorths")) [.non] tNil)) (tC .non))) (tTest (tOp rNotN (OxE.tOxf K "days" (OxE.tOx (A "NoWorths") (OxE.spKeepL K "days" (A "NoWorths")) [] (tCons (tC .non) tNil))) (tC .non)))))
      (tRet (tC (.bl false)))
      tNext)
    (tSeq (tFor (iList K (tLst (tCons (OxE.tOx (A "NoText") (OxE.spKeep "at" (A "NoText")) [] (tCons (tVar 5) tNil)) (tCons (OxE.tOx (A "NoText") (OxE.spKeep "at" (A "NoText")) [.non] tNil) tNil)))) (gName 6)
      (tIfS (tNot (tB (tCall (OxE.spYes cs (okA A)) [] E0 (tCons (tVar 6) (tCons (tC (.int 0)) tNil)))))
      (tRet (tC (.bl false)))
      tNext))
    (tFor (iList K (tLst (tCons (OxE.tOx (A "NoWorths") (OxE.spKeepL K "days" (A "NoWorths")) [] (tCons (tVar 3) tNil)) (tCons (OxE.tOx (A "NoWorths") (OxE.spKeepL K "days" (A "NoWorths")) [.non] tNil) tNil)))) (gName 6)
      (tIfS (tNot (tB (tCall (OxE.spYes cs (okA A)) [] E0 (tCons (tVar 6) (tCons (tC (.int 1)) tNil)))))
      (tRet (tC (.bl false)))
      tNext)))))))))
    (tRet (tC (.bl true))))
def t_law_alone (A : Str → Addr) (K : PySem.W.Frag) : TS := (tSeq (tIfS (tB (tCB (OxE.rIsOT K) (tCons (tVar 0) (tCons (tTup (tCons (tC (.ref (A "NoBuyer"))) (tCons (tC (.ref (A "NoDay"))) (tCons (tC (.ref (A "NoGood"))) (tCons (tC (.ref (A "NoGoods"))) (tCons (tC (.ref (A "NoLength"))) (tCons (tC (.ref (A "NoMarket"))) (tCons (tC (.ref (A "NoName"))) (tCons (tC (.ref (A "NoOrder"))) (tCons (tC (.ref (A "NoPrices"))) (tCons (tC (.ref (A "NoRest"))) tNil))))))))))) tNil))))
      (tRet (tC (.bl false)))
      tNext)
    (tSeq (tIfS (tB (tCB (OxE.rIsOT K) (tCons (tVar 0) (tCons (tTup (tCons (tC (.ref (A "NoRow"))) (tCons (tC (.ref (A "NoSales"))) (tCons (tC (.ref (A "NoStep"))) (tCons (tC (.ref (A "NotHeld"))) (tCons (tC (.ref (A "TooMany"))) tNil)))))) tNil))))
      (tRet (tC (.bl false)))
      tNext)
    (tSeq (tIfS (tTest (tOp (rNeD K) (tLst (tCons (tCB (OxE.rIsO K) (tCons (tVar 0) (tCons (tC (.ref (A "NoText"))) tNil))) (tCons (tCB (OxE.rIsO K) (tCons (tVar 0) (tCons (tC (.ref (A "NoWorths"))) tNil))) tNil))) (tLst (tCons (tOp rEq (tVar 1) (tC (.int 0))) (tCons (tOp rEq (tVar 1) (tC (.int 1))) tNil)))))
      (tRet (tC (.bl false)))
      tNext)
    (tRet (tAndV (tCB (OxE.rIsO K) (tCons (tVar 0) (tCons (tC (.ref (A "SoldError"))) tNil))) (tCB (OxE.rIsO K) (tCons (tVar 0) (tCons (tC (.ty "ValueError")) tNil))))))))
end K23


set_option Elab.async false
set_option linter.all false
set_option maxRecDepth 100000
set_option maxHeartbeats 1000000
namespace K23
open PySem PySem.Spec PyProof.Rows L2 GxR GA DX So
variable {K : PySem.W.Frag} {cs : List Addr} {Pt : Str → Addr}
theorem dict_is {T : String} {kvs : List (PyData × PyData)} (h : T ≠ "list" ∧ T ≠ "dict") : isD T (.dict kvs) = false := by
  have e : tyD (.dict kvs) = "list" ∨ tyD (.dict kvs) = "dict" := by
    unfold tyD
    split <;> simp_all
  unfold isD
  rcases e with e | e <;> rw [e] <;> simp [Ne.symm h.1, Ne.symm h.2]
theorem whole_int (x : PyData) : wholeB x = true → ∃ i, x = .int i := by
  intro h
  unfold wholeB at h
  cases x with
  | int i => exact ⟨i, rfl⟩
  | dict kvs => rw [show isD "int" (.dict kvs) = false from dict_is (by decide)] at h; cases h
  | bool b => cases h
  | none => cases h
  | str b => cases h
  | list b => cases h
  | tuple b => cases h
theorem whole_no (x : PyData) (a b : Int) : wholeB x = false → withinB x a b = false := by
  intro h
  cases x <;> simp [wholeB, isD, tyD, withinB] at h ⊢
theorem tup_of {x : PyData} (h : isD "tuple" x = true) : ∃ xs, x = .tuple xs := by
  cases x with
  | tuple i => exact ⟨i, rfl⟩
  | dict kvs => rw [show isD "tuple" (.dict kvs) = false from dict_is (by decide)] at h; cases h
  | bool b => cases h
  | none => cases h
  | str b => cases h
  | list b => cases h
  | int b => cases h
theorem lst_of {x : PyData} (hn : noDct x = true) (h : isD "list" x = true) : ∃ xs, x = .list xs := by
  cases x <;> simp [isD, tyD] at h
  · exact ⟨_, rfl⟩
  · cases hn
end K23


set_option Elab.async false
set_option linter.all false
set_option maxRecDepth 100000
set_option maxHeartbeats 1000000
namespace K23
open PySem PySem.Spec PyProof.Rows L2 GxR GA DX So
variable {K : PySem.W.Frag} {cs : List Addr} {Pt : Str → Addr}
theorem dt_yes {G : Gx} {δ : DEnv} {Q : Bool → DEnv → Prop} (q : Q true δ) : DT G tYes δ Q := fun F σ H R I k => k true δ H q I
theorem noD_mem : ∀ {ys : List PyData}, noDctL ys = true → ∀ y ∈ ys, noDct y = true
  | [], _, y, hy => by cases hy
  | x :: xs, h, y, hy => by
    have h' : (noDct x && noDctL xs) = true := h
    rw [Bool.and_eq_true] at h'
    rcases List.mem_cons.mp hy with rfl | hy
    · exact h'.1
    · exact noD_mem h'.2 y hy
end K23


set_option Elab.async false
set_option linter.all false
set_option maxRecDepth 100000
set_option maxHeartbeats 1000000
namespace K23
open PySem PySem.Spec PyProof.Rows L2 GxR GA DX So
variable {K : PySem.W.Frag} {cs : List Addr} {Pt : Str → Addr}
theorem sz {n : Nat} (h : n ≤ 10000) : n ≤ sizeLine := Nat.le_trans h (by decide)
theorem noD_ints : ∀ ns : List Int, noDctL (ns.map PyData.int) = true
  | [] => rfl
  | n :: ns => by simp [noDctL, noDct, noD_ints ns]
theorem noD_os : ∀ ns : List (Option Int), noDctL (ns.map oD) = true
  | [] => rfl
  | none :: ns => by simp [noDctL, noDct, oD, noD_os ns]
  | some i :: ns => by simp [noDctL, noDct, oD, noD_os ns]
theorem noD_goods : ∀ gs : List Good, noDctL (gs.map goodD) = true
  | [] => rfl
  | n :: ns => by simp [noDctL, noDct, goodD, noD_goods ns]
theorem noD_rounds : ∀ bs : List Buyer, noDctL (bs.map buyD) = true
  | [] => rfl
  | none :: ns => by simp [noDctL, noDct, buyD, noD_rounds ns]
  | some ws :: ns => by simp [noDctL, noDct, buyD, noD_rounds ns, noD_os]
theorem noD_mart (m : Mart) : noDct (martD m) = true := by
  simp [martD, noDct, noDctL, goodsD, roundsD, noD_goods, noD_rounds]
theorem worth_o {w : Option Int} (h : VW w) : (DX.isNon (oD w) || worthB (oD w)) = true := by
  cases w with
  | none => rfl
  | some i =>
    have := h i rfl
    simp [oD, DX.isNon, worthB, withinB]
    omega
theorem buyer_ok {n : Nat} {b : Buyer} (h : VBuyer n b) : (DX.isNon (buyD b) || buyerB n (buyD b)) = true := by
  cases b with
  | none => rfl
  | some ws =>
    obtain ⟨h1, h2⟩ := h ws rfl
    have e : (ws.map oD).all (fun x => DX.isNon x || worthB x) = true := by
      rw [List.all_eq_true]
      intro x hx
      obtain ⟨w, hw, rfl⟩ := List.mem_map.mp hx
      exact worth_o (h2 w hw)
    show (isNon (.list (ws.map oD)) || (decide (((ws.map oD).length : Int) = n) && (ws.map oD).all fun x => DX.isNon x || worthB x)) = true
    rw [e]
    simp [h1]
theorem good_ok {g : Good} (h : VGood g) : goodB (goodD g) = true := by
  obtain ⟨⟨a, b⟩, ⟨c, d⟩, e, f⟩ := h
  simp [goodD, goodB, stepB, worthB, withinB]
  omega
theorem market_ok {m : Mart} (V : Valid m) : marketB (martD m) = true := by
  have e1 : (m.goods.map goodD).all goodB = true := by
    rw [List.all_eq_true]
    intro x hx
    obtain ⟨g, hg, rfl⟩ := List.mem_map.mp hx
    exact good_ok (V.gs g hg)
  have e2 : (m.rounds.map buyD).all (fun x => DX.isNon x || buyerB (m.goods.map goodD).length x) = true := by
    rw [List.all_eq_true]
    intro x hx
    obtain ⟨g, hg, rfl⟩ := List.mem_map.mp hx
    rw [List.length_map]
    exact buyer_ok (V.rs g hg)
  show ((decide (1 ≤ (m.goods.map goodD).length) && decide ((m.goods.map goodD).length ≤ 4) && (m.goods.map goodD).all goodB) && (decide (1 ≤ (m.rounds.map buyD).length) && decide ((m.rounds.map buyD).length ≤ 6) && (m.rounds.map buyD).all fun x => DX.isNon x || buyerB (m.goods.map goodD).length x)) = true
  rw [e1, e2]
  have := V.g1; have := V.g4; have := V.r1; have := V.r6
  simp
  omega
theorem atI_nat {α : Type} {xs : List α} {k : Nat} {x : α} (h : xs[k]? = some x) : atI xs (k : Int) = some x := by
  have hl := (List.getElem?_eq_some_iff.mp h).1
  unfold atI ixN
  rw [if_pos (by omega), if_pos (by omega)]
  exact h
theorem at_ints {ns : List Int} {k : Nat} (h : k < ns.length) : atI (ns.map PyData.int) (k : Int) = some (.int (ns.getD k 0)) := atI_nat (by
  rw [List.getElem?_map, List.getElem?_eq_getElem h, gD_lt _ _ h]
  rfl)
theorem take_snoc {α β : Type} (f : α → β) {l : List α} {k : Nat} {x : α} (h : l[k]? = some x) : (l.take (k + 1)).map f = (l.take k).map f ++ [f x] := by
  rw [List.take_succ, h]
  simp
end K23


set_option Elab.async false
set_option linter.all false
set_option maxRecDepth 100000
set_option maxHeartbeats 1000000
namespace K23
open PySem PySem.Spec PyProof.Rows L2 GxR GA DX So
variable {K : PySem.W.Frag} {cs : List Addr} {Pt : Str → Addr}
theorem start_len (m : Mart) : m.starts.length = m.goods.length := by simp [Mart.starts]
theorem run_l1 (m : Mart) (d : Nat) : (m.run d).1.length = d := run_len _ _ _ d
theorem run_l2 (m : Mart) (d : Nat) : (m.run d).2.length = m.goods.length := run_len2 _ _ _ (start_len m) d
theorem run_succ (m : Mart) (d : Nat) : m.run (d + 1) = ((m.run d).1 ++ [taken (m.bs d) (m.run d).2], moved m.goods (m.run d).2 (taken (m.bs d) (m.run d).2)) := rfl
end K23


set_option Elab.async false
set_option linter.all false
set_option maxRecDepth 100000
set_option maxHeartbeats 1000000
namespace K23
open PySem PySem.Spec PyProof.Rows L2 GxR GA DX So
variable {K : PySem.W.Frag} {cs : List Addr} {Pt : Str → Addr}
theorem pow_ok {i j : Int} (a : Nat) (h : i.natAbs < 2 ^ a) (h0 : 0 < a) (hj : 0 ≤ j) (hb : a * j.toNat ≤ 100000) : CPowW i j := by
  have := PySem.Flt.log2_lt_of h0 h
  refine ⟨hj, Nat.le_trans (Nat.mul_le_mul_right _ ?_) hb⟩
  omega
theorem sd_law_till (xs : List PyData) (P : List PyData → Prop) (h : C_law_till xs P) : xs.length ≤ 3 ∧ SD ⟨K, cs, []⟩ (t_law_till K cs Pt) (envP ["script", "k", "cell"] xs) (QFr P) := by
  obtain ⟨ns, k, rfl, hk, hP⟩ := h
  refine ⟨by simp, sd_seq (sd_set (by simp) (ed_if (dt_of (ed_b0 (ed_var rfl (ed_len (ea_cons (ed_var rfl (ea_nil ⟨_, rfl, _, (ns.map PyData.int).length, rfl, rfl, _, _, rfl, rfl, _, rfl, ?_⟩)))))))))⟩
  have key : ∀ cell : Int, SD ⟨K, cs, []⟩ (tRet (tLst (tCons (tCB rMax2 (tCons (tC (.int 0)) (tCons (tOp (rI0 fun i j => .int (i - j)) (tVar 2) (tOp (rI CPowW fun i j => .int (i ^ j.toNat)) (tC (.int 10)) (tC (.int 18)))) tNil))) (tCons (tOp (rI0 fun i j => .int (i + j)) (tOp (rI (fun _ j => 0 < j) fun i j => .int (i % j)) (tVar 2) (tOp (rI0 fun i j => .int (i + j)) (tOp (rI CPowW fun i j => .int (i ^ j.toNat)) (tC (.int 10)) (tC (.int 43))) (tC (.int 57)))) (tOp (rI CMulW fun i j => .int (i * j)) (tOp (rI CPowW fun i j => .int (i ^ j.toNat)) (tC (.int 10)) (tC (.int 12))) (tOp (rI0 fun i j => .int (i + j)) (tVar 1) (tC (.int 1))))) (tCons (tC (.int 0)) tNil)))))
      [some (.d (scrD ns)), some (.d (.int (k : Nat))), some (.d (.int cell))] (QFr P) := fun cell => by
    refine sd_retF (ef_lst (ea_cons (ed_max2 (ea_cons (ed_int (ea_cons (ed_i0 (ed_var rfl (ed_ic (ed_int (ed_int ⟨_, _, rfl, rfl, pow_ok 4 (by decide) (by decide) (by decide) (by decide), _, _, rfl, rfl, ?_⟩)))))))))))
    refine ea_nil ⟨_, rfl, _, _, rfl, ?_⟩
    refine ea_cons (ed_i0 (ed_ic (ed_var rfl (ed_i0 (ed_ic (ed_int (ed_int ⟨_, _, rfl, rfl, pow_ok 4 (by decide) (by decide) (by decide) (by decide), ed_int ⟨_, _, rfl, rfl, _, _, rfl, rfl, by decide, ?_⟩⟩)))))))
    refine ed_ic (ed_ic (ed_int (ed_int ⟨_, _, rfl, rfl, pow_ok 4 (by decide) (by decide) (by decide) (by decide), ed_i0 (ed_var rfl (ed_int ⟨_, _, rfl, rfl, _, _, rfl, rfl, wide_mul (a := 50) (b := 10) (by decide) (by omega) (by decide) (by decide) (by decide), _, _, rfl, rfl, ?_⟩))⟩)))
    refine ea_cons (ed_int (ea_nil ⟨_, rfl, by show 3 ≤ sizeLine; decide, hP _ ⟨_, _, _, rfl, ?_, ?_, ?_, by decide, by decide⟩⟩))
    · split <;> omega
    · have : (0 : Int) ≤ cell % (10 ^ (43 : Int).toNat + 57) := Int.emod_nonneg _ (by decide)
      have e : (10 : Int) ^ (12 : Int).toNat = 1000000000000 := by decide
      rw [e]
      omega
    · have h1 : cell % (10 ^ (43 : Int).toNat + 57) < 10 ^ (43 : Int).toNat + 57 := Int.emod_lt_of_pos _ (by decide)
      have e : (10 : Int) ^ (12 : Int).toNat = 1000000000000 := by decide
      have e2 : (10 : Int) ^ (43 : Int).toNat + 57 = 10000000000000000000000000000000000000000057 := by decide
      rw [e2] at h1 ⊢
      rw [e]
      have e3 : (2 : Int) ^ 160 = 1461501637330902918203684832716283019655932542976 := by decide
      rw [e3]
      omega
  by_cases hlt : (k : Int) < (ns.map PyData.int).length
  · rw [decide_eq_true hlt]
    have hk2 : k < ns.length := by rw [List.length_map] at hlt; omega
    exact iteT (ed_ix (ed_var rfl (ed_var rfl ⟨_, _, .int (ns.getD k 0), rfl, rfl, at_ints hk2, key _⟩)))
  · rw [decide_eq_false hlt]
    exact iteF (ed_int (key _))
theorem sd_law_pull (ts xs : List PyData) (P : PyData → List PyData → Prop) (h : C_law_pull ts xs P) : SD ⟨K, cs, [0]⟩ (t_law_pull K cs Pt) (envT ["till", "many", "found", "stirred"] ts xs) (QT P) := by
  obtain ⟨n, k, ⟨c0, c1, c2, rfl, h0, h1, h1', h2, h2'⟩, hn, rfl, k0, k1, hP⟩ := h
  refine sd_seq (sd_if (dt_of (ed_b0 (ed_ixM rfl (ed_int ⟨rfl, _, _, rfl, rfl, ed_int ⟨_, _, rfl, rfl, _, rfl, ?_⟩⟩)))))
  by_cases hc : 0 < c0
  · rw [decide_eq_true hc]
    refine iteT (sd_seq (sd_set (by simp) (ed_ic (ed_ixM rfl (ed_int ⟨rfl, _, _, rfl, rfl, ed_var rfl ⟨_, _, rfl, rfl, k0, ?_⟩⟩)))))
    refine sd_seq (sd_setIx (xs0 := []) (ed_ic (ed_ixM rfl (ed_int ⟨rfl, _, _, rfl, rfl, ed_var rfl ⟨_, _, rfl, rfl, wide_div (b := 60) k0 (by omega) (by decide) (by decide), ⟨_, rfl⟩, ed_int ⟨_, _, _, rfl, rfl, rfl, ?_⟩⟩⟩))))
    refine sd_ret (ed_var rfl ⟨_, rfl, hP _ _ (Int.emod_nonneg _ (by omega)) (Int.emod_lt_of_pos _ k0) ⟨_, _, _, rfl, Int.ediv_nonneg h0 (by omega), h1, h1', h2, by omega⟩⟩)
  · rw [decide_eq_false hc]
    refine iteF (sd_next ?_)
    have a1 : (c2 + 1).natAbs < 2 ^ 41 := by omega
    have e2 : (c2 + 1) ^ (2 : Int).toNat = (c2 + 1) * (c2 + 1) := by
      show (c2 + 1) ^ 2 = _
      rw [Int.pow_succ, Int.pow_succ, Int.pow_zero, Int.one_mul]
    have a2 : ((c2 + 1) ^ (2 : Int).toNat).natAbs < 2 ^ (41 + 41) := by rw [e2]; exact wide_lt a1 a1
    have a2' : (0 : Int) ≤ (c2 + 1) ^ (2 : Int).toNat := by rw [e2]; exact Int.mul_nonneg (by omega) (by omega)
    have a3 : (c1 + 15485867 * (c2 + 1) ^ (2 : Int).toNat).natAbs < 2 ^ 161 := by omega
    refine sd_seq (sd_setIx (xs0 := []) (ed_i0 (ed_ixM rfl (ed_int ⟨rfl, _, _, rfl, rfl, ed_int ⟨_, _, rfl, rfl, ⟨_, rfl⟩, ed_int ⟨_, _, _, rfl, rfl, rfl, ?_⟩⟩⟩))))
    refine sd_seq (sd_set (by simp) (ed_ic (ed_ic (ed_i0 (ed_ixM rfl (ed_int ⟨rfl, _, _, rfl, rfl, ed_ic (ed_int (ed_ic (ed_ixM rfl (ed_int ⟨rfl, _, _, rfl, rfl, ed_int ⟨_, _, rfl, rfl, pow_ok 41 a1 (by decide) (by decide) (by decide), _, _, rfl, rfl, wide_mul (a := 24) (b := 82) (by decide) a2 (by decide) (by decide) (by decide), _, _, rfl, rfl, ?_⟩⟩))))⟩))))))
    refine ed_int ⟨_, _, rfl, rfl, pow_ok 161 a3 (by decide) (by decide) (by decide), ed_i0 (ed_ic (ed_int (ed_int ⟨_, _, rfl, rfl, pow_ok 4 (by decide) (by decide) (by decide) (by decide), ed_int ⟨_, _, rfl, rfl, _, _, rfl, rfl, by decide, ?_⟩⟩)))⟩
    have b1 : (0 : Int) ≤ (c1 + 15485867 * (c2 + 1) ^ (2 : Int).toNat) ^ (3 : Int).toNat % (10 ^ (37 : Int).toNat + 43) := Int.emod_nonneg _ (by decide)
    have b2 : (c1 + 15485867 * (c2 + 1) ^ (2 : Int).toNat) ^ (3 : Int).toNat % (10 ^ (37 : Int).toNat + 43) < 10 ^ (37 : Int).toNat + 43 := Int.emod_lt_of_pos _ (by decide)
    generalize (c1 + 15485867 * (c2 + 1) ^ (2 : Int).toNat) ^ (3 : Int).toNat % (10 ^ (37 : Int).toNat + 43) = st at b1 b2 ⊢
    have e3 : (10 : Int) ^ (37 : Int).toNat + 43 = 10000000000000000000000000000000000043 := by decide
    rw [e3] at b2
    have a4 : (st + 32416190071 * (c2 + 1)).natAbs < 2 ^ 125 := by omega
    refine sd_seq (sd_set (by simp) (ed_ic (ed_ic (ed_i0 (ed_var rfl (ed_ic (ed_int (ed_ixM rfl (ed_int ⟨rfl, _, _, rfl, rfl, _, _, rfl, rfl, wide_mul (a := 36) (b := 41) (by decide) a1 (by decide) (by decide) (by decide), _, _, rfl, rfl, ?_⟩)))))))))
    refine ed_int ⟨_, _, rfl, rfl, pow_ok 125 a4 (by decide) (by decide) (by decide), ed_i0 (ed_ic (ed_int (ed_int ⟨_, _, rfl, rfl, pow_ok 4 (by decide) (by decide) (by decide) (by decide), ed_int ⟨_, _, rfl, rfl, _, _, rfl, rfl, by decide, ?_⟩⟩)))⟩
    refine sd_ret (ed_ic (ed_ic (ed_var rfl (ed_int ⟨_, _, rfl, rfl, wide_div (b := 20) (by decide) (by decide) (by decide) (by decide), ed_var rfl ⟨_, _, rfl, rfl, k0, _, rfl, ?_⟩⟩))))
    exact hP _ _ (Int.emod_nonneg _ (by omega)) (Int.emod_lt_of_pos _ k0) ⟨_, _, _, rfl, h0, h1, h1', by omega, by omega⟩
end K23


set_option Elab.async false
set_option linter.all false
set_option maxRecDepth 100000
set_option maxHeartbeats 1000000
namespace K23
open PySem PySem.Spec PyProof.Rows L2 GxR GA DX So
variable {K : PySem.W.Frag} {cs : List Addr} {Pt : Str → Addr}
theorem pull {n : Nat} {k : Int} {ts : List PyData} {P : PyData → List PyData → Prop} (h : Till n ts) (hn : n < 2 ^ 40) (k0 : 0 < k) (k1 : k < 2 ^ 60) (q : ∀ r ts', 0 ≤ r → r < k → Till (n + 1) ts' → P (.int r) ts') : C_law_pull ts [.int k] P := ⟨n, k, h, hn, rfl, k0, k1, q⟩
/-- one of two, by a truth -/
theorem at_two (a b : PyData) (c : Bool) : atI [a, b] (if c then (1 : Int) else 0) = some (if c then b else a) := by cases c <;> rfl
end K23


set_option Elab.async false
set_option linter.all false
set_option maxRecDepth 100000
set_option maxHeartbeats 1000000
namespace K23
open PySem PySem.Spec PyProof.Rows L2 GxR GA DX So
variable {K : PySem.W.Frag} {cs : List Addr} {Pt : Str → Addr}
theorem turnsB (n N : Nat) (hN : 1 ≤ N) : ∃ M : Int, M = (if (if (N : Int) < (n : Int) then (N : Int) else (n : Int)) > 1 then (if (N : Int) < (n : Int) then (N : Int) else (n : Int)) else 1) ∧ M ≤ N ∧ 1 ≤ M := ⟨_, rfl, by split <;> split <;> omega, by split <;> split <;> omega⟩
end K23


set_option Elab.async false
set_option linter.all false
set_option maxRecDepth 100000
set_option maxHeartbeats 1000000
namespace K23
open PySem PySem.Spec PyProof.Rows L2 GxR GA DX So OxE
variable {K : PySem.W.Frag} {cs : List Addr} {Pt : Str → Addr} {A : Str → Addr}
theorem pull23 {n : Nat} {k : Int} {ts : List PyData} {P : PyData → List PyData → Prop} (h : Till n ts) (hn : n < 2 ^ 40) (k0 : 0 < k) (k1 : k < 2 ^ 60) (q : ∀ r ts', 0 ≤ r → r < k → Till (n + 1) ts' → P (.int r) ts') : C_law_pull ts [.int k] P := ⟨n, k, h, hn, rfl, k0, k1, q⟩
theorem sd_law (T : HK23 K A) (xs : List PyData) (P : PyData → Prop) (h : C_law xs P) : xs.length ≤ 7 ∧ SD ⟨K, cs, []⟩ (t_law A K cs Pt) (envP ["script", "k", "till", "rows", "turn", "at", "odd"] xs) (QP P) := by
  obtain ⟨ns, rfl, hl, hP⟩ := h
  refine ⟨by simp, ?_⟩
  refine sd_seq (sd_forR (by simp) (ea_cons (ed_max2 (ea_cons (ed_int (ea_cons (ed_min2 (ea_cons (ed_int (ea_cons (ed_len (ea_cons (ed_var rfl (ea_nil ⟨_, rfl, _, ns.length, rfl, len_map _ _, ea_nil ⟨_, rfl, _, _, rfl, ea_nil ⟨_, rfl, _, _, rfl, ?_⟩⟩⟩))))))))))))))
  obtain ⟨M, hM, hM1, hM2⟩ := turns ns.length 12 (by decide)
  have hM : M = (if (if (ns.length : Int) < 12 then (ns.length : Int) else 12) > 1 then (if (ns.length : Int) < 12 then (ns.length : Int) else 12) else 1) := hM
  rw [← hM]
  refine ea_nil ⟨_, rfl, by omega, by omega, ?_⟩
  refine ⟨fun k δ => ∃ a1 a2 a3 a4 a5 : Option E, δ = [some (.d (scrD ns)), a1, a2, a3, a4, a5, none], ⟨none, none, none, none, none, rfl⟩, ?_, ?_⟩
  · rintro k δ2 hk ⟨_, a2, a3, a4, a5, rfl⟩
    refine sd_seq (sd_setM (by simp) (by show 2 < 7; decide) (ef_callF (ea_cons (ed_var rfl (ea_cons (ed_var rfl (ea_nil ⟨_, rfl, ns, k, rfl, by omega, fun ts hT => ?_⟩)))))))
    refine sd_seq (sd_set (by simp) (ed_ef (ef_lcR (by simp) (ea_cons (ed_callT rfl (ea_cons (ed_int (ea_nil ⟨_, _, rfl, rfl, pull23 hT (by decide) (by decide) (by decide) fun r ts1 r0 r1 hT1 => ea_nil ⟨r, rfl, by omega, by omega, ?_, ?_⟩⟩))))))))
    · rw [sizeLine_eq]
      omega
    refine ⟨fun j acc δ => ∃ (us : List PyData) (xs : List Int), Till (1 + j) us ∧ xs.length = j ∧ (∀ x ∈ xs, x.natAbs < 100000000) ∧ acc = xs.map PyData.int ∧ δ = [some (.d (scrD ns)), some (.d (.int (k : Nat))), some (.m us), a3, none, a5, none], ⟨ts1, [], hT1, rfl, fun x hx => (by cases hx), rfl, rfl⟩, ?_, ?_⟩
    · rintro j acc δ3 hj ⟨us, xs, hU, hx, hb, rfl, e⟩ _
      rw [e]
      refine ed_callT rfl (ea_cons (ed_int (ea_nil ⟨_, _, rfl, rfl, pull23 hU (by omega) (by decide) (by decide) fun q us2 q0 q1 hU2 => ⟨us2, xs ++ [q], hU2, by rw [List.length_append, hx]; rfl, fun x hx => ?_, by rw [List.map_append]; rfl, rfl⟩⟩)))
      rcases List.mem_append.mp hx with z | z
      · exact hb x z
      · rw [List.mem_singleton.mp z]
        omega
    · rintro acc δ3 ⟨us, xs, hU, hx, hb, rfl, e⟩ _
      rw [e]
      have l6 : xs.length ≤ 6 := by omega
      have okX : EqOk (.list (xs.map PyData.int)) := eqOkI l6 hb
      have lS : (xs.map PyData.int).length ≤ sizeLine := by
        rw [List.length_map, sizeLine_eq]
        omega
      refine sd_seq (sd_set (by simp) (ed_callT rfl (ea_cons (ed_int (ea_nil ⟨_, _, rfl, rfl, pull23 hU (by omega) (by decide) (by decide) fun q us2 q0 q1 hU2 => ?_⟩)))))
      show SD _ _ [some (.d (scrD ns)), some (.d (.int (k : Nat))), some (.m us2), some (.d (.list (xs.map PyData.int))), none, some (.d (.int q)), none] _
      refine sd_seq (sd_if (dt_or (dt_of (ed_neS (ed_oxf T.xT T.nT (eo_keep (ea_cons (ed_var rfl (ea_nil ⟨_, rfl, ed_var rfl ⟨true, by simp [sclD], _, rfl, iteF ?_⟩⟩)))))))))
      refine dt_or (dt_of (ed_notN (ed_oxf T.xT T.nT (eo_keep0 ⟨_, rfl, iteF ?_⟩))))
      refine dt_of (ed_notN (ed_oxf T.xT T.nT (eo_keep (ea_cons (ed_non (ea_nil ⟨_, rfl, _, rfl, iteF (sd_next ?_)⟩))))))
      refine sd_seq (sd_if (dt_or (dt_of (ed_ne1 (ed_oxf T.xW T.nW (eo_keepL (ea_cons (ed_var rfl (ea_nil ⟨_, rfl, lS, ed_var rfl ⟨rfl, okX, _, rfl, iteF ?_⟩⟩)))))))))
      refine dt_or (dt_of (ed_notN (ed_oxf T.xW T.nW (eo_keepL0 ⟨_, rfl, iteF ?_⟩))))
      refine dt_of (ed_notN (ed_oxf T.xW T.nW (eo_keepLn (ea_cons (ed_non (ea_nil ⟨rfl, _, rfl, iteF (sd_next ?_)⟩))))))
      refine sd_seq (sd_forYes (by simp) (.inl ⟨rfl, rfl⟩) rfl (eo_keep (ea_cons (ed_var rfl (ea_nil ⟨_, rfl, rfl, eo_keep0 ⟨rfl, ?_⟩⟩)))))
      exact sd_forYes (by simp) (.inr ⟨rfl, rfl⟩) rfl (eo_keepL (ea_cons (ed_var rfl (ea_nil ⟨_, rfl, lS, rfl, eo_keepL0 ⟨rfl, _, _, _, _, _, rfl⟩⟩))))
  · rintro δ2 ⟨a1, a2, a3, a4, a5, rfl⟩
    exact sd_ret (ed_bl hP)
end K23


set_option Elab.async false
set_option linter.all false
set_option maxRecDepth 100000
set_option maxHeartbeats 1000000
namespace K23
open PySem PySem.Spec PyProof.Rows L2 GxR GA DX So OxE
variable {K : PySem.W.Frag} {cs : List Addr} {Pt : Str → Addr} {A : Str → Addr}
def o23a : List Str := ["NoBuyer", "NoDay", "NoGood", "NoGoods", "NoLength", "NoMarket", "NoName", "NoOrder", "NoPrices", "NoRest"]
def o23b : List Str := ["NoRow", "NoSales", "NoStep", "NotHeld", "TooMany"]
def two23 : List Str := ["NoText", "NoWorths"]
/-- what isinstance says of the two -/
structure CK23 (K : PySem.W.Frag) (A : Str → Addr) : Prop where
  ec : ∀ c ∈ two23, ExcC K (A c)
  oa : ∀ c ∈ two23, PySem.W.kitAny K (.ref (A c)) (o23a.map fun b => .ref (A b)) = some false
  ob : ∀ c ∈ two23, PySem.W.kitAny K (.ref (A c)) (o23b.map fun b => .ref (A b)) = some false
  one : ∀ c ∈ two23, ∀ b ∈ two23, PySem.W.kitOne K (.ref (A c)) (.ref (A b)) = some (decide (c = b))
  so : ∀ c ∈ two23, PySem.W.kitOne K (.ref (A c)) (.ref (A "SoldError")) = some true
  ve : ∀ c ∈ two23, PySem.W.kitOne K (.ref (A c)) (.type "ValueError") = some true
theorem pairA (A : Str → Addr) : ∀ l : List Str, Paired ClsV (l.map fun c => V.ref (A c)) (l.map fun c => Value.ref (A c)) := fun l => by
  induction l with
  | nil => exact .nil
  | cons x l ih => exact .cons (.own _) ih
theorem run_alone (T : CK23 K A) {vs : List V} {H : Hp} {R : VK} {E : XK} (h : spYes cs (okA A) vs H R E) : t_law_alone A K { nx := fun _ H' => R .non H', rt := R } (L2.start ["e", "k"] vs) H := by
  obtain ⟨a, D, dd, fs, k, rfl, ok, ea, ed, tb, q⟩ := h
  obtain ⟨c, b0, b1, hc, rfl, e0, e1, f0, f1⟩ : ∃ (c : Str) (b0 b1 : Bool), c ∈ two23 ∧ D = A c ∧ decide (c = "NoText") = b0 ∧ decide (c = "NoWorths") = b1 ∧ decide (V.int k = V.int 0) = b0 ∧ decide (V.int k = V.int 1) = b1 := by
    rcases ok with ⟨rfl, rfl⟩ | ⟨rfl, rfl⟩
    · exact ⟨"NoText", true, false, by decide, rfl, by decide, by decide, by decide, by decide⟩
    · exact ⟨"NoWorths", false, true, by decide, rfl, by decide, by decide, by decide, by decide⟩
  have ne : ∀ {G : Hp} {b p : Addr} {x : HO}, G p = none → G b = some x → b ≠ p := fun {G b p x} n e z => by rw [z, n] at e; cases e
  have U0 : Up cs H H := Up.refl tb
  refine ⟨_, rfl, ⟨by show 10 ≤ sizeLine; decide, fun p hp => ?_⟩⟩
  have U1 := U0.laid (o := HO.tup (o23a.map fun b => V.ref (A b))) hp
  refine ⟨a, A c, dd, p, fs, _, o23a.map fun b => Value.ref (A b), false, rfl, U1.kp _ _ (nt_exo _ _ _) ea, U1.kp _ _ (nt_exd _ _) ed, T.ec c hc, upd_same, pairA A o23a, T.oa c hc, false, rfl, iteF ?_⟩
  refine ⟨_, rfl, ⟨by show 5 ≤ sizeLine; decide, fun p2 hp2 => ?_⟩⟩
  have U2 := U1.laid (o := HO.tup (o23b.map fun b => V.ref (A b))) hp2
  refine ⟨a, A c, dd, p2, fs, _, o23b.map fun b => Value.ref (A b), false, rfl, U2.kp _ _ (nt_exo _ _ _) ea, U2.kp _ _ (nt_exd _ _) ed, T.ec c hc, upd_same, pairA A o23b, T.ob c hc, false, rfl, iteF ?_⟩
  refine ⟨_, rfl, ⟨a, A c, dd, fs, _, _, b0, rfl, U2.kp _ _ (nt_exo _ _ _) ea, U2.kp _ _ (nt_exd _ _) ed, T.ec c hc, fun _ r => r, (T.one c hc "NoText" (by decide)).trans (by rw [e0]), ?_⟩⟩
  refine ⟨_, rfl, ⟨a, A c, dd, fs, _, _, b1, rfl, U2.kp _ _ (nt_exo _ _ _) ea, U2.kp _ _ (nt_exd _ _) ed, T.ec c hc, fun _ r => r, (T.one c hc "NoWorths" (by decide)).trans (by rw [e1]), ?_⟩⟩
  refine ⟨by show 2 ≤ sizeLine; decide, fun p3 hp3 => ?_⟩
  have U3 := U2.laid (o := HO.lst [V.bl b0, V.bl b1]) hp3
  refine ⟨_, rfl, rfl, ?_⟩
  rw [f0]
  refine ⟨_, rfl, rfl, ?_⟩
  rw [f1]
  refine ⟨by show 2 ≤ sizeLine; decide, fun p4 hp4 => ?_⟩
  have U4 := U3.laid (o := HO.lst [V.bl b0, V.bl b1]) hp4
  refine ⟨.list [.bool b0, .bool b1], .list [.bool b0, .bool b1], ?_, ?_, ?_, ?_, _, rfl, ?_⟩
  · exact (Rp.lst (K := K) (by rw [upd_ne (ne hp4 upd_same)]; exact upd_same) (.cons (.bl _) (.cons (.bl _) .nil))).dp rfl
  · exact (Rp.lst (K := K) upd_same (.cons (.bl _) (.cons (.bl _) .nil))).dp rfl
  · rfl
  · rfl
  have eq : (!PyData.eqv (.list [.bool b0, .bool b1]) (.list [.bool b0, .bool b1])) = false := by cases b0 <;> cases b1 <;> rfl
  rw [eq]
  refine iteF ?_
  refine ⟨_, rfl, ⟨a, A c, dd, fs, _, _, true, rfl, U4.kp _ _ (nt_exo _ _ _) ea, U4.kp _ _ (nt_exd _ _) ed, T.ec c hc, fun _ r => r, T.so c hc, ?_⟩⟩
  refine ⟨true, rfl, iteT ?_⟩
  refine ⟨_, rfl, ⟨a, A c, dd, fs, _, _, true, rfl, U4.kp _ _ (nt_exo _ _ _) ea, U4.kp _ _ (nt_exd _ _) ed, T.ec c hc, fun _ r => r, T.ve c hc, ?_⟩⟩
  exact q _ U4
end K23


set_option Elab.async false
set_option linter.all false
set_option maxRecDepth 100000
set_option maxHeartbeats 1000000
namespace K23
open PySem PySem.Spec PyProof.Rows L2 GxR GA DX So OxE
variable {K : PySem.W.Frag} {cs : List Addr} {A : Str → Addr} {C : Addr}
def t_iT (K : PySem.W.Frag) : TS := tSeq (tDrop (tVeI K (tCons (tVar 0) (tCons (tC (.str "this writes no market")) tNil)))) (tOst K "at" (tVar 0) (tVar 1))
def t_iW (K : PySem.W.Frag) : TS := tSeq (tDrop (tVeI K (tCons (tVar 0) (tCons (tC (.str "no worths let the row be")) tNil))))
  (tOst K "days" (tVar 0) (tIf (tB (tCB (rIsi K) (tCons (tVar 1) (tCons (tC (.ty "list")) tNil)))) (tCB (rList1 K) (tCons (tVar 1) tNil)) (tVar 1)))
theorem run_iT (oc : OexC K C) (no : PySem.W.findIn K (.ref C) "at" = some none) {vs : List V} {H : Hp} {R : VK} {E : XK} (h : spKeep "at" C vs H R E) : t_iT K { nx := fun _ H' => R .non H', rt := R } (L2.start ["self", "at"] vs) H := by
  obtain ⟨a, v, rfl, ea, q⟩ := h
  refine ⟨_, rfl, a, C, _, rfl, by show 1 ≤ 1000; decide, oc, ea, ?_⟩
  exact ⟨_, rfl, _, rfl, a, C, rfl, oc, no, .inl ⟨ea, q⟩⟩
theorem run_iW (oc : OexC K C) (no : PySem.W.findIn K (.ref C) "days" = some none) {vs : List V} {H : Hp} {R : VK} {E : XK} (h : spKeepL K "days" C vs H R E) : t_iW K { nx := fun _ H' => R .non H', rt := R } (L2.start ["self", "days"] vs) H := by
  obtain ⟨a, v, rfl, ea, q⟩ := h
  refine ⟨_, rfl, a, C, _, rfl, by show 1 ≤ 1000; decide, oc, ea, ?_⟩
  rcases q with ⟨rfl, q⟩ | ⟨b, xs, rfl, hb, hl, q⟩
  · refine ⟨_, rfl, .non, .ty "list", _, _, false, rfl, .ty "list", (.base .non : TyX K H .non (.type "NoneType")), rfl, false, rfl, iteF ?_⟩
    exact ⟨_, rfl, _, rfl, a, C, rfl, oc, no, .inl ⟨ea, q⟩⟩
  · refine ⟨_, rfl, .ref b, .ty "list", .type "list", _, true, rfl, .ty "list", (.base (.lst hb) : TyX K H (.ref b) (.type "list")), rfl, true, rfl, iteT ?_⟩
    refine ⟨_, rfl, b, xs, rfl, .inl (.inl (.inl hb)), fun p hp => ?_⟩
    have npa : p ≠ a := fun z => by rw [z, ea] at hp; cases hp
    exact ⟨_, rfl, a, C, rfl, oc, no, .inl ⟨by rw [upd_ne (Ne.symm npa)]; exact ea, fun dx h1 h2 => q p hp npa dx h1 h2⟩⟩
end K23


set_option Elab.async false
set_option linter.all false
set_option maxRecDepth 100000
set_option maxHeartbeats 1000000
/-! own errors with fields: what the head says of their classes -/
namespace OxE
open PySem PySem.Spec PyProof.Rows L2 DX
def ocB (K : PySem.W.Frag) (C : Addr) : Bool := match K.lookup C with
  | some ⟨.type "type", _, .cls cd, sl⟩ => (match cd.mro, sl.toList with
    | .ref D :: bm, [_, _, _, _, some (.builtin n), _] => decide (D = C) && (decide (n = "ValueError.__new__") && (!cd.hasDel && (cd.hasDict && PySem.HandSPX.refsVE bm)))
    | _, _ => false)
  | _ => false
theorem ocB_ok {K : PySem.W.Frag} {C : Addr} (h : ocB K C = true) : ∃ nm q N bs bm sn sub ab col dd k0 k1 k2 k3 k5, K.lookup C = some (excClassObj nm q C N bs bm true sn sub ab col dd k0 k1 k2 k3 k5 "ValueError.__new__") ∧ PySem.HandSPX.refsVE bm = true := by
  unfold ocB at h
  split at h
  · rename_i dd cd sl ho
    split at h
    · rename_i D bm k0 k1 k2 k3 n k5 hm hs
      obtain ⟨h1, h⟩ := He.ba h
      obtain ⟨h2, h⟩ := He.ba h
      obtain ⟨h3, h⟩ := He.ba h
      obtain ⟨h4, h5⟩ := He.ba h
      have e1 : D = C := of_decide_eq_true h1
      have e2 : n = "ValueError.__new__" := of_decide_eq_true h2
      subst e1 e2
      obtain ⟨nm, bs, mro, ns, qn, hd, sn, sub, ab, col, del⟩ := cd
      dsimp only at hm h3 h4
      subst hm h4
      have e3 : del = false := by cases del <;> first | rfl | cases h3
      subst e3
      have hsl : sl = #[k0, k1, k2, k3, some (.builtin "ValueError.__new__"), k5] := by
        obtain ⟨l⟩ := sl
        simp only at hs
        rw [hs]
      subst hsl
      exact ⟨nm, qn, ns, bs, bm, sn, sub, ab, col, dd, k0, k1, k2, k3, k5, ho, h5⟩
    · cases h
  · cases h
def oxB (K : PySem.W.Frag) (C : Addr) : Bool := ocB K C && (decide (PySem.W.findIn K (.ref C) "__setattr__" = some (some (.builtin "object.__setattr__"))) && (decide (PySem.W.subIn K (.ref C) (.type "BaseException") = some true) && (decide (PySem.W.typeIn K (.ref C) = some (.type "type")) && PySem.W.keepIn K (.ref C))))
theorem oxB_ok {K : PySem.W.Frag} {C : Addr} (h : oxB K C = true) : OexC K C := by
  obtain ⟨h1, h⟩ := He.ba h
  obtain ⟨h2, h⟩ := He.ba h
  obtain ⟨h3, h⟩ := He.ba h
  obtain ⟨h4, h5⟩ := He.ba h
  exact ⟨ocB_ok h1, of_decide_eq_true h2, of_decide_eq_true h3, of_decide_eq_true h4, h5⟩
/-- the class S.__init__ is read of -/
structure SuC (K : PySem.W.Frag) (S : Addr) : Prop where
  sg : PySem.W.specialIn K (.ref S) "__getattribute__" = some (some (.builtin "type.__getattribute__"))
  rd : PySem.W.readsIn K S (.type "type") = true
  fc : PySem.W.findCls K (.ref S) (.type "type") "__init__" = some (.val (.builtin "ValueError.__init__"))
def suB (K : PySem.W.Frag) (S : Addr) : Bool := decide (PySem.W.specialIn K (.ref S) "__getattribute__" = some (some (.builtin "type.__getattribute__"))) && (PySem.W.readsIn K S (.type "type") && (match PySem.W.findCls K (.ref S) (.type "type") "__init__" with
  | some (.val (.builtin n)) => decide (n = "ValueError.__init__")
  | _ => false))
theorem suB_ok {K : PySem.W.Frag} {S : Addr} (h : suB K S = true) : SuC K S := by
  obtain ⟨h1, h⟩ := He.ba h
  obtain ⟨h2, h3⟩ := He.ba h
  refine ⟨of_decide_eq_true h1, h2, ?_⟩
  split at h3
  · rename_i n e
    rw [e, of_decide_eq_true h3]
  · cases h3
end OxE


set_option Elab.async false
set_option linter.all false
set_option maxRecDepth 100000
set_option maxHeartbeats 1000000
namespace K23
open PySem PySem.Spec PyProof.Rows L2 GxR GA DX So
def inner (st : Stmt) : Stmt := match st with
  | .ClassDef _ _ _ body _ _ _ _ _ _ _ => body.getD 0 (.Pass ⟨0, 0, 0, 0⟩)
  | _ => .Pass ⟨0, 0, 0, 0⟩
abbrev s_iW : Stmt := inner (top 17)
abbrev s_iT : Stmt := inner (top 18)
theorem sc_iT : FnScope ["self", "at"] ["self", "at"] (defScope s_iT) := ⟨rfl, rfl, rfl, by decide +kernel, rfl, by decide +kernel, by decide +kernel⟩
theorem sc_iW : FnScope ["self", "days"] ["self", "days"] (defScope s_iW) := ⟨rfl, rfl, rfl, by decide +kernel, rfl, by decide +kernel, by decide +kernel⟩
abbrev FnP (K : PySem.W.Frag) (x : Str) (st : Stmt) (kws : List (Str × V)) (f : Addr) (fd : FuncData) : Prop := FunD K x x (defArgs st) (defBody st) (defScope st) [] kws f fd
structure Fc (K : PySem.W.Frag) (mg : Str → Option Value) (base : Heap) (A : Str → Addr) (D : Str → FuncData) (Pt Ct : Str → Addr) (tk : Str → Tok) (cs : List Addr) : Prop where
  ValueError_ : mg "ValueError" = none
  enumerate_ : mg "enumerate" = none
  isinstance_ : mg "isinstance" = none
  len_ : mg "len" = none
  list_ : mg "list" = none
  max_ : mg "max" = none
  min_ : mg "min" = none
  range_ : mg "range" = none
  d_law_till : FnP K "_law_till" s_law_till [] (A "_law_till") (D "_law_till") ∧ mg "_law_till" = some (.ref (A "_law_till"))
  d_law_pull : FnP K "_law_pull" s_law_pull [] (A "_law_pull") (D "_law_pull") ∧ mg "_law_pull" = some (.ref (A "_law_pull"))
  d_law_alone : FnP K "_law_alone" s_law_alone [] (A "_law_alone") (D "_law_alone") ∧ mg "_law_alone" = some (.ref (A "_law_alone"))
  d_law : FnP K "law" s_law [] (A "law") (D "law") ∧ mg "law" = some (.ref (A "law"))
  x_NoBuyer : mg "NoBuyer" = some (.ref (A "NoBuyer"))
  x_NoDay : mg "NoDay" = some (.ref (A "NoDay"))
  x_NoGood : mg "NoGood" = some (.ref (A "NoGood"))
  x_NoGoods : mg "NoGoods" = some (.ref (A "NoGoods"))
  x_NoLength : mg "NoLength" = some (.ref (A "NoLength"))
  x_NoMarket : mg "NoMarket" = some (.ref (A "NoMarket"))
  x_NoName : mg "NoName" = some (.ref (A "NoName"))
  x_NoOrder : mg "NoOrder" = some (.ref (A "NoOrder"))
  x_NoPrices : mg "NoPrices" = some (.ref (A "NoPrices"))
  x_NoRest : mg "NoRest" = some (.ref (A "NoRest"))
  x_NoRow : mg "NoRow" = some (.ref (A "NoRow"))
  x_NoSales : mg "NoSales" = some (.ref (A "NoSales"))
  x_NoStep : mg "NoStep" = some (.ref (A "NoStep"))
  x_NotHeld : mg "NotHeld" = some (.ref (A "NotHeld"))
  x_TooMany : mg "TooMany" = some (.ref (A "TooMany"))
  x_NoText : mg "NoText" = some (.ref (A "NoText"))
  x_NoWorths : mg "NoWorths" = some (.ref (A "NoWorths"))
  x_SoldError : mg "SoldError" = some (.ref (A "SoldError"))
  oc_NoText : OexC K (A "NoText")
  kp_NoText : PySem.W.keepIn K (.ref (A "NoText")) = true
  i_NoText : ∃ (f : Addr) (fd : FuncData), PySem.W.findIn K (.ref (A "NoText")) "__init__" = some (some (.ref f)) ∧ PySem.W.typeIn K (.ref f) = some (.type "function") ∧ FunD K "__init__" "NoText.__init__" (defArgs s_iT) (defBody s_iT) (defScope s_iT) [.non] [] f fd
  oc_NoWorths : OexC K (A "NoWorths")
  kp_NoWorths : PySem.W.keepIn K (.ref (A "NoWorths")) = true
  i_NoWorths : ∃ (f : Addr) (fd : FuncData), PySem.W.findIn K (.ref (A "NoWorths")) "__init__" = some (some (.ref f)) ∧ PySem.W.typeIn K (.ref f) = some (.type "function") ∧ FunD K "__init__" "NoWorths.__init__" (defArgs s_iW) (defBody s_iW) (defScope s_iW) [.non] [] f fd
  hk : HK23 K A
  ck : CK23 K A
  su : OxE.SuC K (A "SoldError")
  cd_law : (D "law").code = .ref (Ct "law")
section
variable {CX : CXT} {P : Program} {w : World} {K : PySem.W.Frag} {mg : Str → Option Value} {base : Heap} {x qual : Str} {params : Arguments} {body : List Stmt} {scope : Scope} {dvs : List V} {kws : List (Str × V)} {f : Addr} {fd : FuncData}
theorem okC {N ps : List Str} {k : Nat} {sp : Sp} {c : Addr} (F : FunD K x qual params body scope dvs kws f fd) (S : FnScope N ps scope) (hc : fd.code = .ref c) (len : ∀ vs H Q E, sp vs H Q E → vs.length = ps.length)
    (hbody : ∀ (A : Around) (outer : List Env) (s : Shared) (H : Hp) (vs : List V) (Q : VK) (E : XK), Room k (A.deeper (envOfC qual scope s.heap.objs.size f (.ref c))) → sp vs H Q E →
      ∃ t, PSs (cxOf CX P w K mg base N qual scope f (.ref c) A outer s H E) body t ∧ t { nx := fun _ H' => Q .non H', rt := Q } (start N vs) H) : FnOk P w K mg base CX (k + 1) f fd ps sp := by
  obtain ⟨oc, od, dV, kV, doc, pm, an, cdv, ct, osl, rfl, lk, hcd, _, _⟩ := F.ex
  have hc : cdv = .ref c := hc
  subst hc
  exact fn_of lk hcd S len hbody
theorem lenP {K : PySem.W.Frag} {cs : List Addr} {C : CtP} {n : Nat} (h : ∀ xs P, C xs P → xs.length = n) (vs : List V) (H : Hp) (Q : VK) (E : XK) (hs : spP K cs C vs H Q E) : vs.length = n := by
  obtain ⟨xs, P, X0, c, r, _⟩ := hs
  rw [← r.len]
  exact h xs P c
theorem lenF {K : PySem.W.Frag} {cs : List Addr} {C : CtF} {n : Nat} (h : ∀ xs P, C xs P → xs.length = n) (vs : List V) (H : Hp) (Q : VK) (E : XK) (hs : spF K cs C vs H Q E) : vs.length = n := by
  obtain ⟨xs, P, X0, c, r, _⟩ := hs
  rw [← r.len]
  exact h xs P c
theorem lenT {K : PySem.W.Frag} {cs : List Addr} {C : CtT} {n : Nat} (h : ∀ ts xs P, C ts xs P → xs.length + 1 = n) (vs : List V) (H : Hp) (Q : VK) (E : XK) (hs : spT K cs C vs H Q E) : vs.length = n := by
  obtain ⟨a, vs', ws, ts, xs, P, X0, rfl, _, _, _, r, c, _⟩ := hs
  rw [List.length_cons, ← r.len]
  exact h ts xs P c
theorem fok_never {cs : List Addr} {k : Nat} {ps : List Str} : FnOk P w K mg base CX k f fd ps (spP K cs C_never) := ⟨fun vs H Q E h => by
  obtain ⟨_, _, _, c, _⟩ := h
  exact c.elim, fun A outer s H args us vs Q E _ _ _ _ h => by
  obtain ⟨_, _, _, c, _⟩ := h
  exact c.elim⟩
end
section
variable {P : Program} {w : World} {K : PySem.W.Frag} {mg : Str → Option Value} {base : Heap} {A : Str → Addr} {D : Str → FuncData} {Pt Ct : Str → Addr} {tk : Str → Tok} {cs : List Addr}
theorem bd_law_till (T : Fc K mg base A D Pt Ct tk cs) : Binds K (D "_law_till") ["script", "k"] [] := T.d_law_till.1.bindsN fun _ _ _ _ _ _ us hl => match us, hl with | [_, _], _ => rfl
theorem fok_law_till (T : Fc K mg base A D Pt Ct tk cs) : FnOk P w K mg base CX0 1 (A "_law_till") (D "_law_till") ["script", "k"] (spF K cs C_law_till) := by
  refine T.d_law_till.1.ok sc_law_till (lenF fun xs P h => by obtain ⟨_, _, rfl, _⟩ := h; rfl) (fun cdv A0 outer s H vs Q E hr h => ⟨t_law_till K cs Pt, PSs.nox ?_, body_F (fun xs P h => sd_law_till xs P h) h⟩)
  exact (pss_cons (ps_set (i := 2) sc_law_till.nd rfl (by first | exact Or.inl rfl | exact Or.inr rfl) (pe_ifExp (pt_cmpR op_lt (pv 1) (pe_callB c_len (by rfl) T.len_ (by decide +kernel) (pa_cons (pv 0) pa_nil)) (nomark _)) (pe_ix ix_seq (pv 0) (pv 1) (fun _ _ => rfl)) pe_int))
    (pss_one (ps_ret (pe_lst (pa_cons (pe_callB (c_max2 rfl) (by rfl) T.max_ (by decide +kernel) (pa_cons pe_int (pa_cons (pe_op op_sub (pv 2) (pe_op op_powW pe_int pe_int)) pa_nil))) (pa_cons (pe_op op_add (pe_op op_mod (pv 2) (pe_op op_add (pe_op op_powW pe_int pe_int) pe_int)) (pe_op op_mulW (pe_op op_powW pe_int pe_int) (pe_op op_add (pv 1) pe_int))) (pa_cons pe_int pa_nil)))))))
theorem bd_law_pull (T : Fc K mg base A D Pt Ct tk cs) : Binds K (D "_law_pull") ["till", "many"] [] := T.d_law_pull.1.bindsN fun _ _ _ _ _ _ us hl => match us, hl with | [_, _], _ => rfl
theorem fok_law_pull (T : Fc K mg base A D Pt Ct tk cs) : FnOk P w K mg base CX0 1 (A "_law_pull") (D "_law_pull") ["till", "many"] (spT K cs C_law_pull) := by
  refine T.d_law_pull.1.ok sc_law_pull (lenT fun ts xs P h => by obtain ⟨_, _, _, _, rfl, _⟩ := h; rfl) (fun cdv A0 outer s H vs Q E hr h => ⟨t_law_pull K cs Pt, PSs.nox ?_, body_T (fun ts xs P h => sd_law_pull ts xs P h) h⟩)
  exact (pss_cons (ps_if (pt_cmpR op_gt (pe_ix ix_seq (pv 0) pe_int (fun _ _ => rfl)) pe_int (nomark _))
      (pss_cons (ps_set (i := 2) sc_law_pull.nd rfl (by first | exact Or.inl rfl | exact Or.inr rfl) (pe_op op_mod (pe_ix ix_seq (pv 0) pe_int (fun _ _ => rfl)) (pv 1)))
    (pss_cons (ps_asg (pe_op op_fdivW (pe_ix ix_seq (pv 0) pe_int (fun _ _ => rfl)) (pv 1)) (pg_sub (pv 0) pe_int set_list))
    (pss_one (ps_ret (pv 2)))))
      pss_nil)
    (pss_cons (ps_asg (pe_op op_add (pe_ix ix_seq (pv 0) pe_int (fun _ _ => rfl)) pe_int) (pg_sub (pv 0) pe_int set_list))
    (pss_cons (ps_set (i := 3) sc_law_pull.nd rfl (by first | exact Or.inl rfl | exact Or.inr rfl) (pe_op op_mod (pe_op op_powW (pe_op op_add (pe_ix ix_seq (pv 0) pe_int (fun _ _ => rfl)) (pe_op op_mulW pe_int (pe_op op_powW (pe_ix ix_seq (pv 0) pe_int (fun _ _ => rfl)) pe_int))) pe_int) (pe_op op_add (pe_op op_powW pe_int pe_int) pe_int)))
    (pss_cons (ps_set (i := 3) sc_law_pull.nd rfl (by first | exact Or.inl rfl | exact Or.inr rfl) (pe_op op_mod (pe_op op_powW (pe_op op_add (pv 3) (pe_op op_mulW pe_int (pe_ix ix_seq (pv 0) pe_int (fun _ _ => rfl)))) pe_int) (pe_op op_add (pe_op op_powW pe_int pe_int) pe_int)))
    (pss_one (ps_ret (pe_op op_mod (pe_op op_fdivW (pv 3) pe_int) (pv 1))))))))
theorem bd_law_alone (T : Fc K mg base A D Pt Ct tk cs) : Binds K (D "_law_alone") ["e", "k"] [] := T.d_law_alone.1.bindsN fun _ _ _ _ _ _ us hl => match us, hl with | [_, _], _ => rfl
theorem fok_law_alone (T : Fc K mg base A D Pt Ct tk cs) : FnOk P w K mg base CX0 1 (A "_law_alone") (D "_law_alone") ["e", "k"] (OxE.spYes cs (okA A)) := by
  refine T.d_law_alone.1.ok sc_law_alone (fun vs H Q E h => OxE.lenYes vs H Q E h) (fun cdv A0 outer s H vs Q E hr h => ⟨t_law_alone A K, PSs.nox ?_, run_alone T.ck h⟩)
  exact (pss_cons (ps_if (pt_val (pe_callB OxE.call_isOT (by rfl) T.isinstance_ (by decide +kernel) (pa_cons (pv 0) (pa_cons (pe_tup (pa_cons (pe_glob (v := .ref (A "NoBuyer")) rfl T.x_NoBuyer rfl) (pa_cons (pe_glob (v := .ref (A "NoDay")) rfl T.x_NoDay rfl) (pa_cons (pe_glob (v := .ref (A "NoGood")) rfl T.x_NoGood rfl) (pa_cons (pe_glob (v := .ref (A "NoGoods")) rfl T.x_NoGoods rfl) (pa_cons (pe_glob (v := .ref (A "NoLength")) rfl T.x_NoLength rfl) (pa_cons (pe_glob (v := .ref (A "NoMarket")) rfl T.x_NoMarket rfl) (pa_cons (pe_glob (v := .ref (A "NoName")) rfl T.x_NoName rfl) (pa_cons (pe_glob (v := .ref (A "NoOrder")) rfl T.x_NoOrder rfl) (pa_cons (pe_glob (v := .ref (A "NoPrices")) rfl T.x_NoPrices rfl) (pa_cons (pe_glob (v := .ref (A "NoRest")) rfl T.x_NoRest rfl) pa_nil))))))))))) pa_nil))))
      (pss_one (ps_ret pe_bl))
      pss_nil)
    (pss_cons (ps_if (pt_val (pe_callB OxE.call_isOT (by rfl) T.isinstance_ (by decide +kernel) (pa_cons (pv 0) (pa_cons (pe_tup (pa_cons (pe_glob (v := .ref (A "NoRow")) rfl T.x_NoRow rfl) (pa_cons (pe_glob (v := .ref (A "NoSales")) rfl T.x_NoSales rfl) (pa_cons (pe_glob (v := .ref (A "NoStep")) rfl T.x_NoStep rfl) (pa_cons (pe_glob (v := .ref (A "NotHeld")) rfl T.x_NotHeld rfl) (pa_cons (pe_glob (v := .ref (A "TooMany")) rfl T.x_TooMany rfl) pa_nil)))))) pa_nil))))
      (pss_one (ps_ret pe_bl))
      pss_nil)
    (pss_cons (ps_if (pt_cmpR (op_neD hr.units) (pe_lst (pa_cons (pe_callB OxE.call_isO (by rfl) T.isinstance_ (by decide +kernel) (pa_cons (pv 0) (pa_cons (pe_glob (v := .ref (A "NoText")) rfl T.x_NoText rfl) pa_nil))) (pa_cons (pe_callB OxE.call_isO (by rfl) T.isinstance_ (by decide +kernel) (pa_cons (pv 0) (pa_cons (pe_glob (v := .ref (A "NoWorths")) rfl T.x_NoWorths rfl) pa_nil))) pa_nil))) (pe_lst (pa_cons (pe_cmpR op_eq (pv 1) pe_int (nomark _)) (pa_cons (pe_cmpR op_eq (pv 1) pe_int (nomark _)) pa_nil))) (nomark _))
      (pss_one (ps_ret pe_bl))
      pss_nil)
    (pss_one (ps_ret (pe_and (pe_callB OxE.call_isO (by rfl) T.isinstance_ (by decide +kernel) (pa_cons (pv 0) (pa_cons (pe_glob (v := .ref (A "SoldError")) rfl T.x_SoldError rfl) pa_nil))) (pe_one (pe_callB OxE.call_isO (by rfl) T.isinstance_ (by decide +kernel) (pa_cons (pv 0) (pa_cons (pe_bltn (v := .ty "ValueError") (u := .type "ValueError") (by rfl) T.ValueError_ (by decide +kernel) (by rfl)) pa_nil))))))))))
theorem fok_iT (T : Fc K mg base A D Pt Ct tk cs) {f : Addr} {fd : FuncData} (F : FunD K "__init__" "NoText.__init__" (defArgs s_iT) (defBody s_iT) (defScope s_iT) [.non] [] f fd) : FnOk P w K mg base CX0 1 f fd ["self", "at"] (OxE.spKeep "at" (A "NoText")) := by
  refine F.ok sc_iT (fun vs H Q E h => by obtain ⟨a, v, rfl, _⟩ := h; rfl) (fun cdv A0 outer s H vs Q E hr h => ⟨t_iT K, PSs.nox ?_, run_iT T.oc_NoText T.hk.nT h⟩)
  exact (pss_cons (ps_expr (OxE.pe_clsI rfl T.x_SoldError T.su.sg T.su.rd T.su.fc (pa_cons (pv 0) (pa_cons pe_str pa_nil)))) (pss_one (ps_ost (pv 0) (pv 1))))
theorem ox_NoText (T : Fc K mg base A D Pt Ct tk cs) : OxE.OxC P w K mg base 1 "NoText" (A "NoText") (OxE.spKeep "at" (A "NoText")) [] := by
  obtain ⟨f, fd, h1, h2, F⟩ := T.i_NoText
  obtain ⟨ds, v, b⟩ := F.binds1 (ps := ["self", "at"]) 2 1 (by simp) rfl fun _ _ _ _ _ _ _ us its l1 l2 => match us, its, l1, l2 with | [_, _], [_], _, _ => ⟨_, rfl, rfl⟩
  exact ⟨T.oc_NoText, T.x_NoText, f, fd, _, ds, h1, h2, fok_iT T F, b, v⟩
theorem ox0_NoText (T : Fc K mg base A D Pt Ct tk cs) : OxE.OxC P w K mg base 1 "NoText" (A "NoText") (OxE.spKeep "at" (A "NoText")) [.non] := by
  obtain ⟨f, fd, h1, h2, F⟩ := T.i_NoText
  obtain ⟨ds, v, b⟩ := F.binds1 (ps := ["self", "at"]) 1 0 (by simp) rfl fun _ _ _ _ _ _ _ us its l1 l2 => match us, its, l1, l2 with | [_], [_], _, _ => ⟨_, rfl, rfl⟩
  exact ⟨T.oc_NoText, T.x_NoText, f, fd, _, ds, h1, h2, fok_iT T F, b, v⟩
theorem fok_iW (T : Fc K mg base A D Pt Ct tk cs) {f : Addr} {fd : FuncData} (F : FunD K "__init__" "NoWorths.__init__" (defArgs s_iW) (defBody s_iW) (defScope s_iW) [.non] [] f fd) : FnOk P w K mg base CX0 1 f fd ["self", "days"] (OxE.spKeepL K "days" (A "NoWorths")) := by
  refine F.ok sc_iW (fun vs H Q E h => by obtain ⟨a, v, rfl, _⟩ := h; rfl) (fun cdv A0 outer s H vs Q E hr h => ⟨t_iW K, PSs.nox ?_, run_iW T.oc_NoWorths T.hk.nW h⟩)
  exact (pss_cons (ps_expr (OxE.pe_clsI rfl T.x_SoldError T.su.sg T.su.rd T.su.fc (pa_cons (pv 0) (pa_cons pe_str pa_nil)))) (pss_one (ps_ost (pv 0) (pe_ifExp (pt_val (pe_callB call_isi (by rfl) T.isinstance_ (by decide +kernel) (pa_cons (pv 1) (pa_cons (pe_bltn (v := .ty "list") (u := .type "list") (by rfl) T.list_ (by decide +kernel) (by rfl)) pa_nil)))) (pe_callTy c_list1 (by rfl) T.list_ (by decide +kernel) (pa_cons (pv 1) pa_nil)) (pv 1)))))
theorem ox_NoWorths (T : Fc K mg base A D Pt Ct tk cs) : OxE.OxC P w K mg base 1 "NoWorths" (A "NoWorths") (OxE.spKeepL K "days" (A "NoWorths")) [] := by
  obtain ⟨f, fd, h1, h2, F⟩ := T.i_NoWorths
  obtain ⟨ds, v, b⟩ := F.binds1 (ps := ["self", "days"]) 2 1 (by simp) rfl fun _ _ _ _ _ _ _ us its l1 l2 => match us, its, l1, l2 with | [_, _], [_], _, _ => ⟨_, rfl, rfl⟩
  exact ⟨T.oc_NoWorths, T.x_NoWorths, f, fd, _, ds, h1, h2, fok_iW T F, b, v⟩
theorem ox0_NoWorths (T : Fc K mg base A D Pt Ct tk cs) : OxE.OxC P w K mg base 1 "NoWorths" (A "NoWorths") (OxE.spKeepL K "days" (A "NoWorths")) [.non] := by
  obtain ⟨f, fd, h1, h2, F⟩ := T.i_NoWorths
  obtain ⟨ds, v, b⟩ := F.binds1 (ps := ["self", "days"]) 1 0 (by simp) rfl fun _ _ _ _ _ _ _ us its l1 l2 => match us, its, l1, l2 with | [_], [_], _, _ => ⟨_, rfl, rfl⟩
  exact ⟨T.oc_NoWorths, T.x_NoWorths, f, fd, _, ds, h1, h2, fok_iW T F, b, v⟩
theorem bd_law (T : Fc K mg base A D Pt Ct tk cs) : Binds K (D "law") ["script"] [] := T.d_law.1.bindsN fun _ _ _ _ _ _ us hl => match us, hl with | [_], _ => rfl
theorem run_law (T : Fc K mg base A D Pt Ct tk cs) : EndG.RunG P w K mg base CX0 (A "law") (D "law") "script" (spP K cs C_law) := by
  refine EndG.runG_of (k := 2) T.d_law.1 sc_law T.cd_law ⟨rfl, by decide, by decide⟩ (fun z H v Q E hr h => ⟨t_law A K cs Pt, PSs.nox ?_, body_P (fun xs P h => sd_law T.hk xs P h) h⟩)
  exact (pss_cons (ps_for PassesOwn.never rfl (pi_range1 rfl T.range_ (pa_cons (pe_callB (c_max2 rfl) (by rfl) T.max_ (by decide +kernel) (pa_cons pe_int (pa_cons (pe_callB (c_min2 rfl) (by rfl) T.min_ (by decide +kernel) (pa_cons pe_int (pa_cons (pe_callB c_len (by rfl) T.len_ (by decide +kernel) (pa_cons (pv 0) pa_nil)) pa_nil))) pa_nil))) pa_nil)) (pg_name (i := 1) sc_law.nd rfl (by first | exact Or.inl rfl | exact Or.inr rfl))
      (pss_cons (ps_set (i := 2) sc_law.nd rfl (Or.inr rfl) (pe_call (fok_law_till T) (hr.mono (by decide)) rfl T.d_law_till.2 T.d_law_till.1.kp (bd_law_till T) .nil pass0 (pa_cons (pv 0) (pa_cons (pv 1) pa_nil))))
    (pss_cons (ps_setLc (i := 3) (own := [("turn", 4)]) rfl sc_law.nd rfl rfl (sw_true rfl rfl rfl (by decide +kernel)) (pi_range1 rfl T.range_ (pa_cons (pe_call (fok_law_pull T) (hr.mono (by decide)) rfl T.d_law_pull.2 T.d_law_pull.1.kp (bd_law_pull T) .nil pass0 (pa_cons (pv 2) (pa_cons pe_int pa_nil))) pa_nil)) (blkOk_by (own := [("turn", 4)]) (N := ["script", "k", "till", "rows", "turn", "at", "odd"]) (sc := defScope s_law) (by decide +kernel)) (fun _ _ _ _ _ => (pg_name (i := 4) sc_law.nd rfl (by first | exact Or.inl rfl | exact Or.inr rfl))) (fun _ _ _ _ _ => pts_nil) (fun _ _ _ _ _ => (pe_call (fok_law_pull T) (hr.mono (by decide)) rfl T.d_law_pull.2 T.d_law_pull.1.kp (bd_law_pull T) .nil pass0 (pa_cons (pv 2) (pa_cons pe_int pa_nil)))))
    (pss_cons (ps_set (i := 5) sc_law.nd rfl (by first | exact Or.inl rfl | exact Or.inr rfl) (pe_call (fok_law_pull T) (hr.mono (by decide)) rfl T.d_law_pull.2 T.d_law_pull.1.kp (bd_law_pull T) .nil pass0 (pa_cons (pv 2) (pa_cons pe_int pa_nil))))
    (pss_cons (ps_if (PW.pt (pw_or (pt_cmpR op_ne (OxE.pe_oxf (OxE.pe_ox (ox_NoText T) (hr.mono (by decide)) rfl T.kp_NoText (pa_cons (pv 5) pa_nil))) (pv 5) (nomark _)) (pw_or (pt_cmpR op_notN (OxE.pe_oxf (OxE.pe_ox0 (ox0_NoText T) (hr.mono (by decide)) rfl T.kp_NoText)) pe_non (nomark _)) (pw_or1 (pt_cmpR op_notN (OxE.pe_oxf (OxE.pe_ox (ox_NoText T) (hr.mono (by decide)) rfl T.kp_NoText (pa_cons pe_non pa_nil))) pe_non (nomark _))))))
      (pss_one (ps_ret pe_bl))
      pss_nil)
    (pss_cons (ps_if (PW.pt (pw_or (pt_cmpR (op_neD hr.units) (OxE.pe_oxf (OxE.pe_ox (ox_NoWorths T) (hr.mono (by decide)) rfl T.kp_NoWorths (pa_cons (pv 3) pa_nil))) (pv 3) (nomark _)) (pw_or (pt_cmpR op_notN (OxE.pe_oxf (OxE.pe_ox0 (ox0_NoWorths T) (hr.mono (by decide)) rfl T.kp_NoWorths)) pe_non (nomark _)) (pw_or1 (pt_cmpR op_notN (OxE.pe_oxf (OxE.pe_ox (ox_NoWorths T) (hr.mono (by decide)) rfl T.kp_NoWorths (pa_cons pe_non pa_nil))) pe_non (nomark _))))))
      (pss_one (ps_ret pe_bl))
      pss_nil)
    (pss_cons (ps_for PassesOwn.never rfl (pi_list (pe_lst (pa_cons (OxE.pe_ox (ox_NoText T) (hr.mono (by decide)) rfl T.kp_NoText (pa_cons (pv 5) pa_nil)) (pa_cons (OxE.pe_ox0 (ox0_NoText T) (hr.mono (by decide)) rfl T.kp_NoText) pa_nil)))) (pg_name (i := 6) sc_law.nd rfl (by first | exact Or.inl rfl | exact Or.inr rfl))
      (pss_one (ps_if (pt_not (pt_val (pe_call (fok_law_alone T) (hr.mono (by decide)) rfl T.d_law_alone.2 T.d_law_alone.1.kp (bd_law_alone T) .nil pass0 (pa_cons (pv 6) (pa_cons pe_int pa_nil)))))
      (pss_one (ps_ret pe_bl))
      pss_nil)))
    (pss_one (ps_for PassesOwn.never rfl (pi_list (pe_lst (pa_cons (OxE.pe_ox (ox_NoWorths T) (hr.mono (by decide)) rfl T.kp_NoWorths (pa_cons (pv 3) pa_nil)) (pa_cons (OxE.pe_ox0 (ox0_NoWorths T) (hr.mono (by decide)) rfl T.kp_NoWorths) pa_nil)))) (pg_name (i := 6) sc_law.nd rfl (by first | exact Or.inl rfl | exact Or.inr rfl))
      (pss_one (ps_if (pt_not (pt_val (pe_call (fok_law_alone T) (hr.mono (by decide)) rfl T.d_law_alone.2 T.d_law_alone.1.kp (bd_law_alone T) .nil pass0 (pa_cons (pv 6) (pa_cons pe_int pa_nil)))))
      (pss_one (ps_ret pe_bl))
      pss_nil)))))))))))
    (pss_one (ps_ret pe_bl)))
end
end K23


set_option Elab.async false
set_option linter.all false
set_option maxRecDepth 100000
set_option maxHeartbeats 1000000
/-! the head's look with the interpreter's statics in it: attributes of classes are read there -/
namespace OxE
open PySem PySem.Spec PyProof.Rows L2 He
def asC (g : Addr → Option Obj) (n : Nat) : List Addr := asD g n ++ [cStatics]
def lookC (as : List Addr) (fa : List Fa) (fn : List DefD) (ts : List Tab) (tf : List Defn) (ex : PySem.W.Frag → Bool) (g : Addr → Option Obj) : AlX := (obsT fa fn ts (frT g as), ex (frT g as) && tabsB g tf (frT g as))
theorem says_of {as : List Addr} {fa : List Fa} {fn : List DefD} {ts : List Tab} {tf : List Defn} {ex : PySem.W.Frag → Bool} {w : World} {h : Heap} (e : lookC as fa fn ts tf ex h.get? = valX fn ts w) : SaysX fa fn ts tf ex w h (frT h.get? as) := by
  have e1 : obsT fa fn ts (frT h.get? as) = valT fn ts w := congrArg (·.1) e
  obtain ⟨m, t⟩ := ba (show (ex (frT h.get? as) && tabsB h.get? tf (frT h.get? as)) = true from congrArg (·.2) e)
  have each : ∀ p ∈ tf, PySem.W.codeHdIn (frT h.get? as) (cT (frT h.get? as) p).1 (cT (frT h.get? as) p).2 = true ∧ (frT h.get? as).lookup (cT (frT h.get? as) p).2 = none ∧ h.get? (cT (frT h.get? as) p).2 = some { cls := .none, data := .fields #[] } := fun p hp => by
    obtain ⟨c, z⟩ := ba (List.all_eq_true.mp t p hp)
    cases q : h.get? (cT (frT h.get? as) p).2 with
    | none => rw [q] at z; cases z
    | some o =>
      rw [q] at z
      exact ⟨c, frT_none q z, congrArg some (emptyTab_eq z)⟩
  exact ⟨e1, m, fun p hp => (each p hp).1, fun p hp => (each p hp).2.1, fun p hp => (each p hp).2.2⟩
def hookC (n : Nat) (fa : List Fa) (fn : List DefD) (ts : List Tab) (tf : List Defn) (ex : PySem.W.Frag → Bool) : PySem.W.Hook where
  α := AlX
  obs := fun s => lookC (asC s.heap.get? n) fa fn ts tf ex s.heap.get?
  val := fun w => valX fn ts w
  says := fun w h => ∃ K : PySem.W.Frag, K.In h ∧ SaysX fa fn ts tf ex w h K
  of := fun _ _ e => ⟨_, frT_in, says_of e⟩
  keeps := fun _ _ _ ⟨K, hK, c⟩ k => ⟨K, PySem.W.Frag.In.keeps hK k, ⟨c.t, c.more, c.hd, c.out, fun p hp => k _ _ (c.empty p hp)⟩⟩
end OxE


set_option Elab.async false
set_option linter.all false
set_option maxRecDepth 100000
set_option maxHeartbeats 0
namespace K23
open PySem PySem.Spec PyProof.Rows L2 DX So
def mkD (x : Str) (st : Stmt) (kws : List (Str × He.Dv)) : He.DefD := ⟨(x, none), x, x, defArgs st, defBody st, defScope st, [], kws⟩
def mkI (c : Str) (q : Str) (st : Stmt) : He.DefD := ⟨(c, some "__init__"), "__init__", q, defArgs st, defBody st, defScope st, [.non], []⟩
def fnL : List He.DefD := [mkD "_law_till" s_law_till [], mkD "_law_pull" s_law_pull [], mkD "_law_alone" s_law_alone [], mkD "law" s_law [], mkI "NoText" "NoText.__init__" s_iT, mkI "NoWorths" "NoWorths.__init__" s_iW]
def faA : List He.Fa := [.glo "_law_till", .glo "_law_pull", .glo "_law_alone", .glo "law"]
def faB : List He.Fa := [.free "ValueError", .free "enumerate", .free "isinstance", .free "len", .free "list", .free "max", .free "min", .free "range", .glo "NoBuyer", .glo "NoDay", .glo "NoGood", .glo "NoGoods", .glo "NoLength", .glo "NoMarket", .glo "NoName", .glo "NoOrder", .glo "NoPrices", .glo "NoRest", .glo "NoRow", .glo "NoSales", .glo "NoStep", .glo "NotHeld", .glo "TooMany", .glo "NoText", .glo "NoWorths", .glo "SoldError", .meth "NoText" "__init__", .meth "NoWorths" "__init__", .noat "NoText" "at", .noat "NoWorths" "days"]
def faL : List He.Fa := faA ++ faB
def tfL : List He.Defn := []
def vis : List Nat := [1, 2, 3, 4, 5, 6, 7, 8, 9, 10, 11, 12, 13, 14, 15, 16, 20, 21, 22, 23]
def exOne (K : PySem.W.Frag) (c : Str) : Bool := He.eqO (PySem.W.findIn K (.ref (He.ga K c)) "__class__") (some (some (.builtin "object.__class__"))) && (He.eqO (PySem.W.specialIn K (.builtin "object.__class__") "__get__") (some (some (.builtin "getset_descriptor.__get__"))) && (decide (PySem.W.takesIn K (.builtin "object.__class__") = some true) && (decide (PySem.W.mroIn K (He.ga K c) (.type "object") = some true) &&
  (decide (PySem.W.kitAny K (.ref (He.ga K c)) (o23a.map fun b => .ref (He.ga K b)) = some false) && (decide (PySem.W.kitAny K (.ref (He.ga K c)) (o23b.map fun b => .ref (He.ga K b)) = some false) && ((two23.all fun b => decide (PySem.W.kitOne K (.ref (He.ga K c)) (.ref (He.ga K b)) = some (decide (c = b)))) &&
  (decide (PySem.W.kitOne K (.ref (He.ga K c)) (.ref (He.ga K "SoldError")) = some true) && (decide (PySem.W.kitOne K (.ref (He.ga K c)) (.type "ValueError") = some true) && (OxE.oxB K (He.ga K c) && xfB K (He.ga K c))))))))))
def exX (K : PySem.W.Frag) : Bool := exOne K "NoText" && (exOne K "NoWorths" && OxE.suB K (He.ga K "SoldError"))
structure One23 (K : PySem.W.Frag) (c : Str) : Prop where
  oc : OexC K (He.ga K c)
  xf : XfC K (He.ga K c)
  ec : ExcC K (He.ga K c)
  oa : PySem.W.kitAny K (.ref (He.ga K c)) (o23a.map fun b => .ref (He.ga K b)) = some false
  ob : PySem.W.kitAny K (.ref (He.ga K c)) (o23b.map fun b => .ref (He.ga K b)) = some false
  one : ∀ b ∈ two23, PySem.W.kitOne K (.ref (He.ga K c)) (.ref (He.ga K b)) = some (decide (c = b))
  so : PySem.W.kitOne K (.ref (He.ga K c)) (.ref (He.ga K "SoldError")) = some true
  ve : PySem.W.kitOne K (.ref (He.ga K c)) (.type "ValueError") = some true
theorem exOne_ok {K : PySem.W.Frag} {c : Str} (h : exOne K c = true) : One23 K c := by
  obtain ⟨a1, h⟩ := He.ba h
  obtain ⟨a2, h⟩ := He.ba h
  obtain ⟨a3, h⟩ := He.ba h
  obtain ⟨a4, h⟩ := He.ba h
  obtain ⟨a5, h⟩ := He.ba h
  obtain ⟨a6, h⟩ := He.ba h
  obtain ⟨a7, h⟩ := He.ba h
  obtain ⟨a8, h⟩ := He.ba h
  obtain ⟨a9, h⟩ := He.ba h
  obtain ⟨b1, b2⟩ := He.ba h
  have X := xfB_ok b2
  exact ⟨OxE.oxB_ok b1, X, ⟨X.ga, X.gg, X.exC, X.hdC, He.eqO_ok a1, He.eqO_ok a2, of_decide_eq_true a3, of_decide_eq_true a4⟩, of_decide_eq_true a5, of_decide_eq_true a6, fun b hb => of_decide_eq_true (List.all_eq_true.mp a7 b hb), of_decide_eq_true a8, of_decide_eq_true a9⟩
theorem ck_of {K : PySem.W.Frag} (t : One23 K "NoText") (w : One23 K "NoWorths") : CK23 K (He.ga K) := by
  have key : ∀ c ∈ two23, One23 K c := fun c hc => by
    simp only [two23, List.mem_cons, List.not_mem_nil, or_false] at hc
    rcases hc with rfl | rfl
    · exact t
    · exact w
  exact ⟨fun c hc => (key c hc).ec, fun c hc => (key c hc).oa, fun c hc => (key c hc).ob, fun c hc => (key c hc).one, fun c hc => (key c hc).so, fun c hc => (key c hc).ve⟩
abbrev RR : PySem.W.OpenRow := PySem.W.OpenLaw.row PySem.Challenge.rw_soldrises_k23_refusals_with_fields
abbrev hkX : PySem.W.Hook := OxE.hookC 4 faL fnL [] tfL exX
def obX (s : PySem.W.SharedT) : He.AlX := OxE.lookC (OxE.asC (HandSHeadRun.getT s) 4) faL fnL [] tfL exX (HandSHeadRun.getT s)
def dOf (K : PySem.W.Frag) (x : Str) : FuncData := match K.lookup (He.ga K x) with
  | some ⟨_, _, .func fd, _⟩ => fd
  | _ => default
def tkOf (mg : Str → Option Value) (x : Str) : Tok := match mg x with
  | some (.int _ t) => t
  | _ => 0
theorem dOf_eq {K : PySem.W.Frag} {x qual : Str} {params : Arguments} {body : List Stmt} {scope : Scope} {dvs : List V} {kws : List (Str × V)} {fd : FuncData} (F : FunD K x qual params body scope dvs kws (He.ga K x) fd) : FunD K x qual params body scope dvs kws (He.ga K x) (dOf K x) := by
  have F2 := F
  obtain ⟨oc, od, dV, kV, doc, pm, an, cdv, ct, osl, e, lk, hcd, h1, h2⟩ := F.ex
  have e2 : dOf K x = fd := by
    unfold dOf
    rw [lk]
  rw [e2]
  exact F2
theorem code_eq {K : PySem.W.Frag} {x qual : Str} {params : Arguments} {body : List Stmt} {scope : Scope} {dvs : List V} {kws : List (Str × V)} {fd : FuncData} (F : FunD K x qual params body scope dvs kws (He.ga K x) fd) : (dOf K x).code = .ref (He.codeOf K (x, none)) := by
  obtain ⟨oc, od, dV, kV, doc, pm, an, cdv, ct, osl, e, lk, hcd, h1, h2⟩ := F.ex
  have e2 : dOf K x = fd := by
    unfold dOf
    rw [lk]
  have hcd2 : PySem.W.codeIn K fd.code qual = true := by rw [e]; exact hcd
  obtain ⟨c, hc⟩ := He.codeIn_ref hcd2
  rw [e2, hc, He.codeOf_eq (p := (x, none)) lk hc]
theorem tk_eq {mg : Str → Option Value} {x : Str} {i : Int} (h : ∃ t, mg x = some (.int i t)) : mg x = some (.int i (tkOf mg x)) := by
  obtain ⟨t, h⟩ := h
  have e : tkOf mg x = t := by
    unfold tkOf
    rw [h]
  rw [e]
  exact h
def csL (K : PySem.W.Frag) : List (Addr × Addr) := tfL.map (He.cT K)
theorem facts {w : World} {K : PySem.W.Frag} {h h0 base : Heap} {mg : Str → Option Value} (X : K.In h) (G : h.Ns mainGlobals mg) (c : He.SaysX faL fnL [] tfL exX w h0 K) (tb : ∀ p ∈ csL K, LamX.TabB base mg p.1 p.2) :
    Fc K mg base (He.ga K) (dOf K) (fun x => (He.cT K (x, none)).2) (fun x => He.codeOf K (x, none)) (tkOf mg) ((csL K).map (·.2)) := by
  have cd := c.t.d
  have T : ∀ q ∈ tfL, GxR.TabB base mg (He.cT K q).1 (He.cT K q).2 := fun q hq => by
    have t := tb _ (List.mem_map.mpr ⟨q, hq, rfl⟩)
    exact ⟨t.code, t.bm, t.gP⟩
  have M : ∀ q ∈ tfL, (He.cT K q).2 ∈ (csL K).map (·.2) := fun q hq => List.mem_map.mpr ⟨_, List.mem_map.mpr ⟨q, hq, rfl⟩, rfl⟩
  obtain ⟨f_law_till, D_law_till⟩ := cd.def_ 0 (d := mkD "_law_till" s_law_till []) rfl
  obtain ⟨f_law_pull, D_law_pull⟩ := cd.def_ 1 (d := mkD "_law_pull" s_law_pull []) rfl
  obtain ⟨f_law_alone, D_law_alone⟩ := cd.def_ 2 (d := mkD "_law_alone" s_law_alone []) rfl
  obtain ⟨f_law, D_law⟩ := cd.def_ 3 (d := mkD "law" s_law []) rfl
  have oT := exOne_ok (He.ba c.more).1
  have oW := exOne_ok (He.ba (He.ba c.more).2).1
  have mT := He.meth_ok (cd.fact 30 (f := .meth "NoText" "__init__") rfl)
  have mW := He.meth_ok (cd.fact 31 (f := .meth "NoWorths" "__init__") rfl)
  obtain ⟨f_iT, D_iT⟩ := cd.def_ 4 (d := mkI "NoText" "NoText.__init__" s_iT) rfl
  obtain ⟨f_iW, D_iW⟩ := cd.def_ 5 (d := mkI "NoWorths" "NoWorths.__init__" s_iW) rfl
  exact {
    ValueError_ := He.free_ok X G (cd.fact 4 (f := .free "ValueError") rfl)
    enumerate_ := He.free_ok X G (cd.fact 5 (f := .free "enumerate") rfl)
    isinstance_ := He.free_ok X G (cd.fact 6 (f := .free "isinstance") rfl)
    len_ := He.free_ok X G (cd.fact 7 (f := .free "len") rfl)
    list_ := He.free_ok X G (cd.fact 8 (f := .free "list") rfl)
    max_ := He.free_ok X G (cd.fact 9 (f := .free "max") rfl)
    min_ := He.free_ok X G (cd.fact 10 (f := .free "min") rfl)
    range_ := He.free_ok X G (cd.fact 11 (f := .free "range") rfl)
    d_law_till := ⟨dOf_eq D_law_till, He.glo_ok X G (cd.fact 0 (f := .glo "_law_till") rfl)⟩
    d_law_pull := ⟨dOf_eq D_law_pull, He.glo_ok X G (cd.fact 1 (f := .glo "_law_pull") rfl)⟩
    d_law_alone := ⟨dOf_eq D_law_alone, He.glo_ok X G (cd.fact 2 (f := .glo "_law_alone") rfl)⟩
    d_law := ⟨dOf_eq D_law, He.glo_ok X G (cd.fact 3 (f := .glo "law") rfl)⟩
    x_NoBuyer := He.glo_ok X G (cd.fact 12 (f := .glo "NoBuyer") rfl)
    x_NoDay := He.glo_ok X G (cd.fact 13 (f := .glo "NoDay") rfl)
    x_NoGood := He.glo_ok X G (cd.fact 14 (f := .glo "NoGood") rfl)
    x_NoGoods := He.glo_ok X G (cd.fact 15 (f := .glo "NoGoods") rfl)
    x_NoLength := He.glo_ok X G (cd.fact 16 (f := .glo "NoLength") rfl)
    x_NoMarket := He.glo_ok X G (cd.fact 17 (f := .glo "NoMarket") rfl)
    x_NoName := He.glo_ok X G (cd.fact 18 (f := .glo "NoName") rfl)
    x_NoOrder := He.glo_ok X G (cd.fact 19 (f := .glo "NoOrder") rfl)
    x_NoPrices := He.glo_ok X G (cd.fact 20 (f := .glo "NoPrices") rfl)
    x_NoRest := He.glo_ok X G (cd.fact 21 (f := .glo "NoRest") rfl)
    x_NoRow := He.glo_ok X G (cd.fact 22 (f := .glo "NoRow") rfl)
    x_NoSales := He.glo_ok X G (cd.fact 23 (f := .glo "NoSales") rfl)
    x_NoStep := He.glo_ok X G (cd.fact 24 (f := .glo "NoStep") rfl)
    x_NotHeld := He.glo_ok X G (cd.fact 25 (f := .glo "NotHeld") rfl)
    x_TooMany := He.glo_ok X G (cd.fact 26 (f := .glo "TooMany") rfl)
    x_NoText := He.glo_ok X G (cd.fact 27 (f := .glo "NoText") rfl)
    x_NoWorths := He.glo_ok X G (cd.fact 28 (f := .glo "NoWorths") rfl)
    x_SoldError := He.glo_ok X G (cd.fact 29 (f := .glo "SoldError") rfl)
    oc_NoText := oT.oc
    kp_NoText := oT.oc.kC
    i_NoText := ⟨_, _, mT.at_, beq_iff_eq.mp mT.fn, D_iT⟩
    oc_NoWorths := oW.oc
    kp_NoWorths := oW.oc.kC
    i_NoWorths := ⟨_, _, mW.at_, beq_iff_eq.mp mW.fn, D_iW⟩
    hk := ⟨oT.xf, oW.xf, He.noat_ok (cd.fact 32 (f := .noat "NoText" "at") rfl), He.noat_ok (cd.fact 33 (f := .noat "NoWorths" "days") rfl)⟩
    ck := ck_of oT oW
    su := OxE.suB_ok (He.ba (He.ba c.more).2).2
    cd_law := code_eq D_law }
theorem lawAt {w : World} {K : PySem.W.Frag} {h : Heap} {mg : Str → Option Value} {fa : Addr} (X : K.In h) (G : h.Ns mainGlobals mg) (hfa : mg ("law" : Str) = some (.ref fa)) (c : He.SaysX faL fnL [] tfL exX w h K) :
    EndG.LawG PySem.Challenge.rw_soldrises_k23_refusals_with_fields w K CX0 63 "script" mg fa h := by
  have cd := c.t.d
  obtain ⟨fd, F⟩ := cd.def_ 3 (d := mkD "law" s_law []) rfl
  have g : mg ("law" : Str) = some (.ref (He.ga K "law")) := He.glo_ok X G (cd.fact 3 (f := .glo "law") rfl)
  have e : fa = He.ga K "law" := by
    rw [hfa] at g
    exact Value.ref.inj (Option.some.inj g)
  have b := FunD.bindsA (ps := ["script"]) (dOf_eq F) fun _ _ _ _ _ _ us hl => match us, hl with | [_], _ => rfl
  refine ⟨dOf K "law", csL K, spP K ((csL K).map (·.2)) C_law, fun p hp => ?_, fun s v => b s [v] rfl, fun H a ns hl hT hS => ?_, fun base KB GB tb => ?_⟩
  · obtain ⟨q, hq, rfl⟩ := List.mem_map.mp hp
    exact ⟨c.empty q hq, c.out q hq, PySem.W.codeHd_of_K X (c.hd q hq)⟩
  · refine ⟨[scrD ns], fun d => d = .bool true, fun _ => False, ⟨ns, rfl, hl, rfl⟩, .cons (.scr (SqL.gr (fun b o _ e => del_some.mpr ⟨fun z => z, e⟩) hS)) .nil, fun a z => z.elim, fun p hp => ?_, fun d v H' e r _ _ _ => ?_⟩
    · obtain ⟨q, hq, rfl⟩ := List.mem_map.mp hp
      exact ⟨#[], hT q hq, trivial⟩
    · subst e
      cases r
      rfl
  · rw [e]
    exact run_law (facts KB GB c tb)
end K23
open PySem PySem.W PySem.Calls PyProof.Rows
theorem PySem.Challenge.cw_soldrises_k23_refusals_with_fields_holds : PySem.Challenge.rw_soldrises_k23_refusals_with_fields.Holds := by
  w_on; o_law
  o_head K23.hkX
  case hw => w_witness2
  case hc =>
    refine EndG.walkG (l := PySem.Challenge.rw_soldrises_k23_refusals_with_fields) (n := 63) (x := "script") (CX := fun _ => L2.CX0) rfl (by decide) (by kernel_rfl) ?F (fun _ _ _ _ _ z => z)
    intro w mg fa h Y G hmg0
    obtain ⟨K, KX, c⟩ := Y
    exact ⟨K, KX, K23.lawAt KX G hmg0 c⟩


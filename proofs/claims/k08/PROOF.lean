import PyProof.Rows.All
import Wide.All
import OpenK.AllK
import Wide.FinOn
import HandS.ForMost
import HandS.Defaults
import HandS.Wide
import HandS.IsInst
import HandS.EndTab
import HandS.Gcd
import HandS.AnyAll
import HandS.GenOver
import HandS.SetFor
import HandS.NoneIn
import HandS.HeadWalk
import KE.KStateDown
import HandS.Head0
import HandS.Head1
import HandS.Head2
import HandS.HeadEnd
import HandS.HeadHook1
import HandS.HeadHook2
import HandS.HeadHook3
import HandS.HeadHook4
import HandS.NestedK
import PySem.Challenge.RW_soldrises_k08_whole_runs_in_parts

set_option Elab.async false
set_option linter.all false
set_option maxRecDepth 100000
set_option maxHeartbeats 2000000
/-! all(elt for target in iter), elt anything that the layer knows: the generator's own frame as a context of its own -/
namespace GA
open PySem PySem.Spec PyProof.Rows L2 GxR

/-- the context of the generator's frame -/
abbrev gcx (X : Cx) (s : Shared) (H : Hp) (ce : Env) (A : Around) (fp : List Addr) : Cx :=
  { X with A := A, s_0 := s, H_0 := H, env := ce, outer := X.stack, stack := ce :: X.stack, ex := fp, fn := fun _ => false, pn := [], xe := fun _ _ => False }

theorem inv_same {X : Cx} {pins : List (Addr × Obj)} {σ : L2.St} {H : Hp} {s t : Shared} (I : Inv X pins σ H s) (hh : t.heap = s.heap) (ho : t.os = s.os) (hb : AllBare t.gens) : Inv X pins σ H t := by
  obtain ⟨h, g, d, k, o⟩ := t
  have e1 : h = s.heap := hh
  have e2 : o = s.os := ho
  subst e1 e2
  exact ⟨I.ok, I.os, hb, I.base, I.loc, I.cell, I.free, I.freeC, I.pin, I.hok, I.len⟩

section
variable {X : Cx} {pins : List (Addr × Obj)} {σ : L2.St} {H : Hp} {s : Shared}
theorem gen_start {scope : Scope} {own : List (Str × Nat)} {fp : List Addr} {code : Value} {A' : Around} {ce : Env} {h' : Heap} {og : Obj} {g' : Array GenState} {tk : Nat} {m : Str → Option Value}
    (I : Inv X pins σ H s) (ok : BlkOk X.N X.env.scope scope own) (hN : X.N.Nodup) (hfp : ∀ b ∈ fp, FpOk X pins H b ∧ b < s.heap.objs.size) (hcell : ∀ y ∈ scope.names, y.2 ≠ .cell)
    (hce : ce = genEnv scope (cloFrom X.env.cells scope.names []) s.heap.objs.size code builtinsNs X.env) (hA : A'.handled = none) (hfr : A'.frames = some (ce :: X.stack))
    (hns : h'.Ns s.heap.objs.size m) (hsb : Heap.SameBut s.heap.objs.size (s.heap.push { cls := .type "frame", data := .dict #[] }) h') (hog : ∀ v, og.data ≠ .cell v) (hof : og.isFreed = false) (hb : AllBare g') :
    Inv (gcx X s H ce A' fp) [(h'.objs.size, og)] (wipe σ (own.map (·.2))) H { s with heap := h'.push og, gens := g', toks := tk } := by
  have hsz : h'.objs.size = s.heap.objs.size + 1 := by rw [hsb.1, Heap.size_push]
  have kp : ∀ b o, s.heap.get? b = some o → (h'.push og).get? b = some o := fun b o e =>
    Heap.get?_push_of_some _ (hsb.extBut b o (Nat.ne_of_lt (Heap.lt_size e)) (Heap.get?_push_of_some _ e))
  have hL : ce.locals = s.heap.objs.size := by rw [hce]; rfl
  have hcl : ce.cells = cloFrom X.env.cells scope.names [] := by rw [hce]; rfl
  have hsc : ce.scope = scope := by rw [hce]; rfl
  have hfree : ∀ y ∈ scope.names, y.2 = .free → ∃ c, X.env.cells.lookup y.1 = some c := fun y hy e => by
    rcases ok.free y hy e with k | k
    · exact I.ok.has _ (.inl k)
    · exact I.ok.has _ (.inr k)
  have cm : ∀ {y c}, ce.cells.lookup y = some c → X.env.cells.lookup y = some c ∧ c < s.heap.objs.size := fun {y c} hm => by
    rw [hcl] at hm
    rcases cloFrom_mem (PySem.mem_of_lookup hm) with hm | ⟨h1, rfl⟩
    · cases hm
    · obtain ⟨c, hc⟩ := hfree _ h1 rfl
      rw [hc]
      obtain ⟨w, z⟩ := I.cell _ _ hc
      exact ⟨rfl, z.lt⟩
  have look : ∀ {y}, scope.names.lookup y = some .free → ∃ c, ce.cells.lookup y = some c := fun {y} hl => by
    have hy : (y, NameKind.free) ∈ scope.names := PySem.mem_of_lookup hl
    obtain ⟨c', e'⟩ := mem_lookup (cloFrom_has (cells := X.env.cells) (acc := []) hy)
    exact ⟨c', by rw [hcl]; exact e'⟩
  have okB : (gcx X s H ce A' fp).Ok := by
    refine ⟨I.ok.mod, by show ce.scope.kind = _; rw [hsc]; exact ok.kind, by show ce.globals = _; rw [hce]; exact I.ok.glob, by show ce.builtins = _; rw [hce]; rfl, by show s.heap.objs.size ≤ ce.locals; rw [hL]; exact Nat.le_refl _,
      fun y z c e1 e2 => I.ok.inj y z c (cm e1).1 (cm e2).1, fun y hy => ?_, fun y c z e => ?_, fun _ => hA, hfr, .inr ⟨rfl, by show ce.frame = some ce.locals; rw [hce]; rfl⟩, fun b hb => ⟨?_, fun y c e z => ?_⟩, I.bs, Nat.le_trans I.ok.bsz I.sz, fun b o e hb => ?_, fun b hb z => ?_, I.stack, I.stkFree⟩
    · have key : ∀ k, scope.names.lookup y = some k → (k = .cell ∨ k = .free) → ∃ c, ce.cells.lookup y = some c := fun k hk hk' => by
        rcases hk' with rfl | rfl
        · exact absurd rfl (hcell _ (PySem.mem_of_lookup hk))
        · exact look hk
      have hk1 : ce.kindOf y = scope.names.lookup y := by show ce.scope.names.lookup y = _; rw [hsc]
      rcases hy with hy | hy
      · exact key _ (hk1.symm.trans hy) (.inl rfl)
      · exact key _ (hk1.symm.trans hy) (.inr rfl)
    · cases z
    · show b ≠ ce.locals
      rw [hL]; exact Nat.ne_of_lt (hfp b hb).2
    · exact (hfp b hb).1.2.2.2.2.1 y c (cm e).1 z
    · rcases (hfp b hb).1.2.2.2.1 with z | z
      · exact I.ok.noex b o e z
      · exact absurd (Nat.lt_of_lt_of_le (Heap.lt_size e) (Nat.le_trans I.ok.bsz z)) (Nat.lt_irrefl _)
    · rcases List.mem_cons.mp (I.stkSub b z) with z | z
      · exact (hfp b hb).1.2.1 z
      · exact (hfp b hb).1.2.2.1 z
  have hsa : s.heap.objs.size ≤ h'.objs.size := by rw [hsz]; exact Nat.le_succ _
  refine ⟨okB, rfl, hb, Un.kept kp, ⟨m, ?_, fun i y av e1 e2 e3 => ?_⟩, fun y c e => ?_, ?_, fun y c e => ?_, fun p hp => ?_, I.hok.kept kp, by rw [wipe_length]; exact I.len⟩
  · show Heap.Ns _ ce.locals _
    rw [hL]
    exact hns.push _
  · obtain ⟨e2, hne⟩ := wipe_some e2
    have e3 : Vis ce.scope y := e3
    rw [hsc] at e3
    have no : ¬ (scope.names.lookup y = some .local ∨ scope.names.lookup y = some .cell) := fun hh => by
      have : ∃ k, scope.names.lookup y = some k ∧ (k = .local ∨ k = .cell) := by
        rcases hh with z | z
        · exact ⟨_, z, .inl rfl⟩
        · exact ⟨_, z, .inr rfl⟩
      obtain ⟨k, hk, hkk⟩ := this
      rcases ok.own _ (PySem.mem_of_lookup hk) hkk with e' | e'
      · obtain ⟨p, hp, hpy⟩ := List.mem_map.mp e'
        have e4 := ok.ix p hp
        have : p.1 = y := hpy
        rw [this] at e4
        exact hne (List.mem_map.mpr ⟨p, hp, nodup_ix hN e4 e1⟩)
      · exact e' (List.mem_of_getElem? e1)
    have hf : scope.names.lookup y = some .free := by
      rcases e3 with z | z | z
      · exact absurd (.inl z) no
      · exact absurd (.inr z) no
      · exact z
    obtain ⟨m0, hn, hl⟩ := I.loc
    have hvis : Vis X.env.scope y := (ok.free _ (PySem.mem_of_lookup hf) rfl).elim (fun k => .inr (.inl k)) (fun k => .inr (.inr k))
    obtain ⟨w, r, q⟩ := hl i y av e1 e2 hvis
    obtain ⟨c, h1⟩ := look hf
    refine ⟨w, r, .inr ⟨.inr (by show ce.scope.names.lookup y = _; rw [hsc]; exact hf), c, h1, ?_⟩⟩
    have h2 := (cm h1).1
    rcases q with ⟨k, _⟩ | ⟨_, c', e', z⟩
    · have k : X.env.scope.names.lookup y = some .local := k
      rcases ok.free _ (PySem.mem_of_lookup hf) rfl with k' | k' <;> rw [show X.env.scope.names.lookup y = _ from k'] at k <;> cases k
    · rw [h2] at e'; cases e'
      exact z.keeps kp
  · obtain ⟨w, z⟩ := I.cell y c (cm e).1
    exact ⟨w, z.keeps kp⟩
  · show H ce.locals = none
    rw [hL]; exact I.hok.fresh (Nat.le_refl _)
  · exact I.freeC y c (cm e).1
  · have e : p = (h'.objs.size, og) := by
      have hp : p ∈ ([] : List (Addr × Obj)) ++ [(h'.objs.size, og)] := hp
      simpa using hp
    subst e
    refine ⟨Heap.get?_push_size _ hof, I.hok.fresh hsa, ?_, fun z => ?_, hog⟩
    · show h'.objs.size ≠ ce.locals
      rw [hL, hsz]; exact Nat.succ_ne_self _
    · rcases List.mem_cons.mp (I.stkSub _ z) with z | z
      · exact absurd (Nat.lt_of_lt_of_le I.lt hsa) (by have z : h'.objs.size = X.env.locals := z; rw [← z]; exact Nat.lt_irrefl _)
      · exact I.nofs hsa z

/-! ### the generator's turns -/
/-- what is wanted of the invariant W: n turns, Q of the answer -/
structure Plan (J : It) (g : TG) (te : TE) (vs : List Nat) (σ : L2.St) (n : Nat) (W : Nat → Hp → Prop) (Q : Bool → Hp → Prop) : Prop where
  turn : ∀ i H, i < n → W i H → J.go i H ∧ ∀ x H', J.yld i H x H' → g x (wipe σ vs) H' fun σ2 H3 => wipe σ2 vs = wipe σ vs ∧ te σ2 H3 fun y H4 => ∃ b, y = .bl b ∧ if b = true then W (i + 1) H4 else Q false H4
  fin : ∀ H, W n H → J.stop n H ∧ Q true H

def EndG (X' : Cx) (pin : Addr × Obj) (τ : L2.St) (Q : Bool → Hp → Prop) : Nat → Shared → Shared → Prop := fun n _ s1 => n = 0 ∧ ∃ H', Inv X' [pin] τ H' s1 ∧ Q true H'
def YldG (X' : Cx) (pin : Addr × Obj) (τ : L2.St) (N : Nat) (W : Nat → Hp → Prop) (Q : Bool → Hp → Prop) : Protocol := fun m _ v s kap =>
  ∃ b H', v = .bool b ∧ Inv X' [pin] τ H' s ∧ ((b = false ∧ Q false H') ∨ (b = true ∧ W (N - m) H' ∧ ∀ t : Shared, t.heap = s.heap → t.os = s.os → AllBare t.gens → kap (.send .none) t))

theorem gen_loop {A : Around} {elt tg iter : Expr} {scope : Scope} {pos : Pos} {it a : Addr} {og : Obj} {fp : List Addr} {tn : Nat → Heap → Prop} {J : It} {g : TG} {te : TE} {vs : List Nat} {N : Nat} {W : Nat → Hp → Prop} {Q : Bool → Hp → Prop} {ce : Env} {s0 : Shared} {H0 : Hp}
    (hA : A.handled = none) (hc : X.calm = true) (hco : ce.scope.isCoroutine = false) (T : Turn X.prog X.w X.K tg J fp it tn) (P : Plan J g te vs σ N W Q)
    (pg : PG (gcx X s0 H0 ce (A.over (.compLoop (.GeneratorExp elt [⟨tg, iter, [], 0⟩] scope pos) 0 (.ref it) .none ce) []) fp) tg g)
    (pe : PE (gcx X s0 H0 ce (A.over (.compLoop (.GeneratorExp elt [⟨tg, iter, [], 0⟩] scope pos) 0 (.ref it) .none ce) []) fp) elt te) (hap : a ∉ fp) :
    ∀ (k i : Nat) (z0 s : Shared) (H : Hp), N - i = k → i ≤ N → Inv (gcx X s0 H0 ce (A.over (.compLoop (.GeneratorExp elt [⟨tg, iter, [], 0⟩] scope pos) 0 (.ref it) .none ce) []) fp) [(a, og)] (wipe σ vs) H s →
      tn i s.heap → (∀ b ∈ fp, H b = none) → W i H →
      Seg (model X.prog X.w) A (fun n z r z1 => r = .ok .next ∧ EndG (gcx X s0 H0 ce (A.over (.compLoop (.GeneratorExp elt [⟨tg, iter, [], 0⟩] scope pos) 0 (.ref it) .none ce) []) fp) (a, og) (wipe σ vs) Q n z z1)
        (YldG (gcx X s0 H0 ce (A.over (.compLoop (.GeneratorExp elt [⟨tg, iter, [], 0⟩] scope pos) 0 (.ref it) .none ce) []) fp) (a, og) (wipe σ vs) N W Q) k z0
        (.compLoop (.GeneratorExp elt [⟨tg, iter, [], 0⟩] scope pos) 0 (.ref it) .none ce)
        ((model X.prog X.w).den (.compLoop (.GeneratorExp elt [⟨tg, iter, [], 0⟩] scope pos) 0 (.ref it) .none ce)) [] s := by
  generalize hA' : A.over (.compLoop (.GeneratorExp elt [⟨tg, iter, [], 0⟩] scope pos) 0 (.ref it) .none ce) [] = A'
  rw [hA'] at pg pe
  have stat : ∀ {σ' : L2.St} {H' : Hp} {s' : Shared}, Inv (gcx X s0 H0 ce A' fp) [(a, og)] σ' H' s' → (∀ b ∈ fp, H' b = none) → ∀ b ∈ fp, FpOk (gcx X s0 H0 ce A' fp) [(a, og)] H' b := fun {σ' H' s'} I' hn b hb =>
    ⟨hn b hb, (I'.ok.exf b hb).1, I'.ok.exfs b hb, .inl hb, fun x c e => (I'.ok.exf b hb).2 x c e, fun p hp => by
      have hp : p ∈ ([] : List (Addr × Obj)) ++ [(a, og)] := hp
      have e : p = (a, og) := by simpa using hp
      rw [e]
      exact fun z => hap (by rw [show a = b from z]; exact hb)⟩
  intro k
  induction k with
  | zero =>
    intro i z0 s H hk hi I st n w
    have e : i = N := by omega
    subst e
    obtain ⟨stop, qq⟩ := P.fin H w
    show Seg _ A _ _ _ z0 _ ((compTurn (.GeneratorExp elt [⟨tg, iter, [], 0⟩] scope pos) 0 (.ref it) .none ce).onRaise (leaving ce)) [] s
    rw [compTurn_gen, Sem.onRaise_eq_wrap]
    refine seg_bind_wrap (wpAny_standAt ?_)
    have td := T.done (gcx X s0 H0 ce A' fp) rfl rfl rfl hc i [(a, og)] s _ H (fun _ _ => False) I (stat I n) st stop
    refine seg_bind_wrap ?_
    rw [hA']
    refine thnF td fun r s6 ⟨hr, I6⟩ => ?_
    subst hr
    exact seg_end (.ok .next) ⟨rfl, rfl, H, I6, qq⟩
  | succ k ih =>
    intro i z0 s H hk hi I st n w
    have hlt : i < N := by omega
    obtain ⟨go, step⟩ := P.turn i H hlt w
    show Seg _ A _ _ _ z0 _ ((compTurn (.GeneratorExp elt [⟨tg, iter, [], 0⟩] scope pos) 0 (.ref it) .none ce).onRaise (leaving ce)) [] s
    rw [compTurn_gen, Sem.onRaise_eq_wrap]
    refine seg_bind_wrap (wpAny_standAt ?_)
    have ti := T.item (gcx X s0 H0 ce A' fp) rfl rfl rfl hc i [(a, og)] s _ H (fun _ _ => False) I (stat I n) st go
    refine seg_bind_wrap ?_
    rw [hA']
    refine thnF ti fun r s6 ⟨u, hr, h6⟩ => ?_
    subst hr
    refine seg_bind_wrap ?_
    rw [hA']
    refine thnF h6 fun _ s7 ⟨x, H7, I7, r7, y7, st7, n7⟩ => ?_
    have I7' := I7.pinned (stat I7 n7) (T.obj _ _ st7)
    refine seg_bind_wrap ?_
    rw [hA']
    refine thnF (pg.run _ s7 _ H7 x u _ I7' r7 (step x H7 y7)) fun _ s8 ⟨σ8, H8, I8, hw8, q8⟩ => ?_
    refine seg_bind_wrap ?_
    rw [hA']
    refine wpAny_tests_nil ?_
    simp only [if_true]
    have hy : ∀ v, yieldOut ce v = yieldValue v := fun v => by simp only [yieldOut, hco, Bool.false_eq_true, if_false]
    simp only [hy]
    rw [Sem.bind_eq_wrap', Sem.bind_eq_wrap', Sem.wrap_wrap, Sem.wrap_wrap]
    refine seg_wrap ?_
    rw [hA']
    refine thnF (pe.run _ s8 σ8 H8 _ I8 q8) fun z s10 ⟨yv, H10, I10, r10, b, hyb, nx⟩ => ?_
    subst hyb
    obtain rfl : z = Value.bool b := r10
    have pin' : ∀ b ∈ fp, ∀ o, s7.heap.get? b = some o → s10.heap.get? b = some o ∧ H10 b = none := fun b hb o e =>
      let z := I10.pin (b, o) (List.mem_append_right _ (List.mem_append_right _ (mem_pinsAt hb e)))
      ⟨z.1, z.2.1⟩
    have hl : (wipe σ vs).length = σ8.length := by rw [← hw8, wipe_length]
    have I11 : Inv (gcx X s0 H0 ce A' fp) [(a, og)] (wipe σ vs) H10 s10 := (I10.unpinned (pins := [(a, og)])).weak hl (fun j v e => by
      rw [← hw8] at e
      exact (wipe_some e).1)
    refine seg_at (seg_yield rfl rfl rfl ⟨b, H10, rfl, I11, ?_⟩)
    cases b with
    | false => exact .inl ⟨rfl, nx⟩
    | true =>
      refine .inr ⟨rfl, ?_, fun t ht ho hb => ?_⟩
      · have e : N - k = i + 1 := by omega
        rw [e]
        exact nx
      · refine seg_again rfl (ih (i + 1) t t H10 (by omega) hlt (inv_same I11 ht ho hb) ?_ (fun b hb => ?_) nx)
        · rw [ht]
          exact T.keep _ _ _ st7 fun b hb o e => (pin' b hb o e).1
        · obtain ⟨o, e, _⟩ := T.obj _ _ st7 b hb
          exact (pin' b hb o e).2

/-! ### all's own loop over it -/
def AtG (X X' : Cx) (A : Around) (a : Addr) (og : Obj) (gn : Nat) (τ : L2.St) (N : Nat) (W : Nat → Hp → Prop) (Q : Bool → Hp → Prop) (k : Nat) (s : Shared) : Prop :=
  ∃ H, Inv X' [(a, og)] τ H s ∧ ∃ gs : GenState, s.gens[gn]? = some gs ∧ ∀ t : Shared, t.heap = s.heap → t.os = s.os → AllBare t.gens →
    gs.Goes (model X.prog X.w) A.in1 (fun n z r z1 => r = .ok .next ∧ EndG X' (a, og) τ Q n z z1) (YldG X' (a, og) τ N W Q) k (.send .none) t

theorem setGen_bare {s : Shared} {g : Nat} {x : GenState} (h : AllBare s.gens) (hx : x.bare = true) : AllBare (s.setGen g x).gens := by
  have hm : GenOnlyQ g s.gens (s.setGen g x).gens := by
    by_cases hg : g < s.gens.size
    · exact GenOnlyQ.of (GenOnly.setGen s g x) (setGen_self (gs := s.gens[g]) (by rw [Array.getElem?_eq_getElem hg])) hx
    · refine .inl ?_
      simp [Shared.setGen, Array.setIfInBounds, hg]
  exact h.moved hm

theorem all_loop {X' : Cx} {a : Addr} {og : Obj} {gn : Nat} {τ : L2.St} {N : Nat} {W : Nat → Hp → Prop} {Q : Bool → Hp → Prop} {R : Result → Shared → Prop} (hd : X.A.handled = none) (hroom : X.A.depth < recursionLimit)
    (hgen : ∀ h : Heap, h.get? a = some og → h.IsGen a gn) (hback : ∀ H' s', Inv X' [(a, og)] τ H' s' → Inv X pins σ H' s') (hR : ∀ b H' s', Inv X pins σ H' s' → Q b H' → R (.ok (.ret (.bool b))) s') :
    ∀ (k : Nat) (s : Shared), k ≤ N → AtG X X' X.A.in1 a og gn τ N W Q k s → codeAny (model X.prog X.w) X.A (.builtin "all.loop" ⟨[.ref a], []⟩) R s := by
  intro k
  induction k with
  | zero =>
    rintro s hk ⟨H, I, gs, hgs, hgo⟩
    have hg : s.heap.IsGen a gn := hgen _ (I.pin (a, og) (List.mem_append_right _ (by simp))).1
    refine codeAny_builtin F.entry_all_loop ?_
    rw [Around.under_plainId F.plain_all_loop _]
    show wpAny _ X.A.in1 (pyNext (.ref a) >>= _) _ _ s
    refine wpAny_bind (wpAny_pyNext_genexpQ (P := EndG X' (a, og) τ Q) hd (hback _ _ I).nolimit hroom hg hgs (hgo _ rfl rfl (setGen_bare I.bare rfl)) (fun v s1 gs' hb hv => ?_) (fun s1 hp h' hk' => ?_))
    · obtain ⟨b, H', rfl, I1, ⟨_, q⟩ | ⟨_, _, q⟩⟩ := hv
      · subst b
        refine wpAny_bind (wpAny_holding (wpAny_truthy_bool ?_))
        refine wpAny_bind (wpAny_letGo ?_)
        simp only [Bool.false_eq_true, if_false]
        refine wpAny_bind (wpAny_rule (wpAny_pure ?_))
        exact hR false H' _ (hback _ _ (inv_same I1 rfl rfl (setGen_bare I1.bare hb))) q
      · exact (q s1 rfl rfl I1.bare).elim
    · obtain ⟨_, H', I1, q⟩ := hp
      refine wpAny_bind (wpAny_rule (wpAny_pure ?_))
      have I2 : Inv X' [(a, og)] τ H' (s1.setGen gn .finished) := inv_same I1 rfl rfl (setGen_bare I1.bare rfl)
      exact hR true H' _ (hback _ _ (I2.kept (h' := h') (t' := s1.toks) hk')) q
  | succ k ih =>
    rintro s hk ⟨H, I, gs, hgs, hgo⟩
    have hlt : gn + 1 ≤ s.gens.size := by
      rcases Nat.lt_or_ge gn s.gens.size with z | z
      · exact z
      · rw [Array.getElem?_eq_none z] at hgs
        cases hgs
    have hg : s.heap.IsGen a gn := hgen _ (I.pin (a, og) (List.mem_append_right _ (by simp))).1
    refine codeAny_builtin F.entry_all_loop ?_
    rw [Around.under_plainId F.plain_all_loop _]
    show wpAny _ X.A.in1 (pyNext (.ref a) >>= _) _ _ s
    refine wpAny_bind (GenW.wpAny_gsz hlt ?_)
    refine wpAny_pyNext_genexpQ (P := EndG X' (a, og) τ Q) hd (hback _ _ I).nolimit hroom hg hgs (hgo _ rfl rfl (setGen_bare I.bare rfl)) (fun v s1 gs' hb hv => ?_) (fun s1 hp h' hk' => ?_)
    · intro hsz
      rw [GenW.setGen_size] at hsz
      obtain ⟨b, H', rfl, I1, ⟨_, q⟩ | ⟨_, w, q⟩⟩ := hv
      · subst b
        refine wpAny_bind (wpAny_holding (wpAny_truthy_bool ?_))
        refine wpAny_bind (wpAny_letGo ?_)
        simp only [Bool.false_eq_true, if_false]
        refine wpAny_bind (wpAny_rule (wpAny_pure ?_))
        exact hR false H' _ (hback _ _ (inv_same I1 rfl rfl (setGen_bare I1.bare hb))) q
      · subst b
        refine wpAny_bind (wpAny_holding (wpAny_truthy_bool ?_))
        refine wpAny_bind (wpAny_letGo ?_)
        simp only [if_true]
        refine wpAny_pure ⟨plainId_quiet F.plain_all_loop _, ih (s1.setGen gn gs') (by omega) ⟨H', inv_same I1 rfl rfl (setGen_bare I1.bare hb), gs', ?_, fun t ht ho hbt => q t ht ho hbt⟩⟩
        have hg1 : gn < s1.gens.size := hsz
        exact setGen_self (gs := s1.gens[gn]) (by rw [Array.getElem?_eq_getElem hg1])
    · exact absurd hp.1 (Nat.succ_ne_zero k)
end

/-! ### the rule -/
/-- all(elt for target in iter): the def's table at P may grow; then n turns by W -/
def tAllG (P : Addr) (wi : TI) (g : TG) (te : TE) (vs : List Nat) : TE := fun σ H Q => wi σ H fun J H1 => TabG H1 P ∧ ∀ H2, Tabbed P H1 H2 → ∃ (n : Nat) (W : Nat → Hp → Prop), W 0 H2 ∧ Plan J g te vs σ n W (fun b H' => Q (.bl b) H')

section
variable {X : Cx}
theorem pe_allG {c P : Addr} {elt iter tg : Expr} {p pos gpos : Pos} {scope : Scope} {own : List (Str × Nat)} {wi : TI} {g : TG} {te : TE} {k : Nat}
    (hr : Room (k + 1) X.A) (hcalm : X.calm = true) (hN : X.N.Nodup) (hgl : Gl X "all") (hm : X.mg "all" = none) (TB : TabB X.base X.mg c P) (hcode : X.env.code = .ref c)
    (hi : PI X tg iter wi) (ok : BlkOk X.N X.env.scope scope own) (hcell : ∀ y ∈ scope.names, y.2 ≠ .cell) (hdot : scope.names.lookup (".0" : Str) = some NameKind.local) (hco : scope.isCoroutine = false)
    (hg : ∀ (s : Shared) (H : Hp) (C : Addr) (cl : List (Str × Addr)) (code : Value) (A' : Around) (fp : List Addr), PG (gcx X s H (genEnv scope cl C code builtinsNs X.env) A' fp) tg g)
    (he : ∀ (s : Shared) (H : Hp) (C : Addr) (cl : List (Str × Addr)) (code : Value) (A' : Around) (fp : List Addr), Room k A' → PE (gcx X s H (genEnv scope cl C code builtinsNs X.env) A' fp) elt te)
    (hs : ∀ v, genFold iter X.env v = pure v) (hb : bootBuiltins "all" = some (.builtin "all"))
    (hst : starEach [.GeneratorExp elt [⟨tg, iter, [], 0⟩] scope gpos] X.env = (false, eval (.GeneratorExp elt [⟨tg, iter, [], 0⟩] scope gpos) X.env) :: starEach [] X.env := by rfl) :
    PE X (.Call (.Name "all" p) [.GeneratorExp elt [⟨tg, iter, [], 0⟩] scope gpos] [] pos) (tAllG P wi g te (own.map (·.2))) := by
  refine ⟨fun pins s σ H Q I h => ?_⟩
  refine wpAny_Call_Name_kw (ld_blt I hgl hm hb ?_)
  refine PyProof.Rows.callWith_builtin1 ?_ hst (by rfl)
  rw [hst]
  show wpAny _ _ (spliced ((false, eval (.GeneratorExp elt [⟨tg, iter, [], 0⟩] scope gpos) X.env) :: backTo pos (starEach [] X.env))) _ _ s
  refine Calls.spliced_cons ?_
  have hfree : ∀ y ∈ scope.names, y.2 = .free → ∃ c, X.env.cells.lookup y.1 = some c := fun y hy e => by
    rcases ok.free y hy e with k | k
    · exact I.ok.has _ (.inl k)
    · exact I.ok.has _ (.inr k)
  refine wpAny_GeneratorExp_make hco (closure_ok hfree) hcell hdot ok.kind hr.depth ?_ hs
  refine thn (hi.run pins s σ H _ I h) fun xv s1 hx => thn hx fun itv s2 h2 => ?_
  obtain ⟨it, fp, tn, J, H2, e, I2, T, st2, f2, ⟨ps, hP, ht⟩, q⟩ := h2
  subst e
  refine ⟨I2.nolimit, ?_⟩
  have hPs : s2.heap.get? P = some { cls := .none, data := .fields ps } := I2.hok P _ hP
  have cd : PySem.W.CodeHd s2.heap c P := TB.code.keeps fun b u e => I2.bk b u e
  have nN : ∀ b, H2 b = none → b ≠ P := fun b e z => by
    rw [z, hP] at e
    cases e
  have sz2 : ∀ b ∈ fp, b < s2.heap.objs.size := fun b hb => by
    obtain ⟨o, e, _⟩ := T.obj _ _ st2 b hb
    exact Heap.lt_size e
  -- behind the table
  have cont : ∀ (code : Value) (s3 : Shared) (H3 : Hp), Inv X pins σ H3 s3 → Tabbed P H2 H3 → (∀ b o, b ≠ P → s2.heap.get? b = some o → s3.heap.get? b = some o) →
      wpAny (model X.prog X.w) X.A (builtinsFor X.env.globals X.env.builtins) (fun bi s4 =>
        ∀ h', h'.Ns s4.heap.objs.size (fun y => if y = (".0" : Str) then some (Value.ref it) else none) → Heap.SameBut s4.heap.objs.size (s4.heap.push { cls := .type "frame", data := .dict #[] }) h' →
          wpAny (model X.prog X.w) X.A (spliced (backTo pos (starEach [] X.env))) (fun vs s' => wpAny (model X.prog X.w) X.A (call (.builtin "all") (Value.ref h'.objs.size :: vs)) (EP X pins σ Q) X.xe s') X.xe { s4 with
            gens := s4.gens.push (.fresh (.compStart (.GeneratorExp elt [⟨tg, iter, [], 0⟩] scope gpos) 0 (.ref it) .none (genEnv scope (cloFrom X.env.cells scope.names []) s4.heap.objs.size code bi X.env))),
            toks := s4.toks + 1 + 1 + 1,
            heap := h'.push { cls := .type "generator", data := .fields #[.int s4.gens.size 0, .str "<genexpr>" (s4.toks + 1), .str (X.env.qual ++ "<genexpr>") (s4.toks + 1 + 1)] } }) X.xe s3 := by
    intro code s3 H3 I3 hT kp3
    obtain ⟨bm, ob, e1, e2, e3, e4, e5, e6, e7, e8⟩ := TB.bm
    refine wpAny_builtinsFor (m := X.mg) (by rw [I3.ok.glob]; exact I3.mod.glob.keeps I3.bk) e1 e2 (I3.bk _ _ e5) e6 e7 e8 ?_
    intro h' hns hsb
    refine Calls.spliced_nil ?_
    generalize hog : ({ cls := .type "generator", data := .fields #[.int s3.gens.size 0, .str "<genexpr>" (s3.toks + 1), .str (X.env.qual ++ "<genexpr>") (s3.toks + 1 + 1)] } : Obj) = og
    generalize hce : genEnv scope (cloFrom X.env.cells scope.names []) s3.heap.objs.size code builtinsNs X.env = ce
    generalize hgs : (GenState.fresh (.compStart (.GeneratorExp elt [⟨tg, iter, [], 0⟩] scope gpos) 0 (.ref it) .none ce)) = gs
    obtain ⟨n, W, w0, pl⟩ := q H3 hT
    have nfp : ∀ b ∈ fp, H3 b = none := fun b hb => (hT.2 b (nN b (f2 b hb).1)).trans (f2 b hb).1
    have f3 : ∀ b ∈ fp, FpOk X pins H3 b ∧ b < s3.heap.objs.size := fun b hb => by
      obtain ⟨o, e, _⟩ := T.obj _ _ st2 b hb
      exact ⟨⟨nfp b hb, (f2 b hb).2⟩, Heap.lt_size (kp3 b o (nN b (f2 b hb).1) e)⟩
    have st3 : tn 0 s3.heap := T.keep _ _ _ st2 fun b hb o e => kp3 b o (nN b (f2 b hb).1) e
    have hfrm : (X.A.in1.in1.over (.compLoop (.GeneratorExp elt [⟨tg, iter, [], 0⟩] scope gpos) 0 (.ref it) .none ce) []).frames = some (ce :: X.stack) := by
      show pushEnvs [ce] (pushEnvs (envsOf []) X.A.frames) = _
      rw [I3.ok.frames]
      rfl
    have hrm : Room k (X.A.in1.in1.over (.compLoop (.GeneratorExp elt [⟨tg, iter, [], 0⟩] scope gpos) 0 (.ref it) .none ce) []) := by
      refine ⟨hr.hd, ?_, ?_⟩
      · have z := hr.dp
        show X.A.depth + 0 + 1 + 3 * k + 5 < _
        omega
      · have z := hr.un
        show X.A.units + 1 + 1 + 0 + 3 + 16 * k + 200 < _
        omega
    have hsz : h'.objs.size = s3.heap.objs.size + 1 := by rw [hsb.1, Heap.size_push]
    have I4 := gen_start (og := og) (g' := s3.gens.push gs) (tk := s3.toks + 1 + 1 + 1) (fp := fp) (A' := X.A.in1.in1.over (.compLoop (.GeneratorExp elt [⟨tg, iter, [], 0⟩] scope gpos) 0 (.ref it) .none ce) []) I3 ok hN f3 hcell hce.symm hr.hd hfrm hns hsb (fun v z => by subst hog; cases z) (by subst hog; rfl) (I3.bare.push (by subst hgs; rfl))
    have st4 : tn 0 (h'.push og) := T.keep _ _ _ st3 fun b hb o e => Heap.get?_push_of_some _ (hsb.extBut b o (Nat.ne_of_lt (f3 b hb).2) (Heap.get?_push_of_some _ e))
    have hap : h'.objs.size ∉ fp := fun z => by
      have q1 : (h'.objs.size : Nat) < s3.heap.objs.size := (f3 _ z).2
      rw [hsz] at q1
      exact absurd q1 (Nat.not_lt.mpr (Nat.le_succ _))
    have pg := hg s3 H3 s3.heap.objs.size (cloFrom X.env.cells scope.names []) code (X.A.in1.in1.over (.compLoop (.GeneratorExp elt [⟨tg, iter, [], 0⟩] scope gpos) 0 (.ref it) .none ce) []) fp
    have pe := he s3 H3 s3.heap.objs.size (cloFrom X.env.cells scope.names []) code (X.A.in1.in1.over (.compLoop (.GeneratorExp elt [⟨tg, iter, [], 0⟩] scope gpos) 0 (.ref it) .none ce) []) fp hrm
    rw [hce] at pg pe
    have hcs : ce.scope = scope := by rw [← hce]; rfl
    have loop := fun (z0 t : Shared) (I : Inv _ _ _ _ t) (st : tn 0 t.heap) => gen_loop (A := X.A.in1.in1) (og := og) (a := h'.objs.size) (N := n) (pos := gpos) (iter := iter) (scope := scope) (it := it) hr.hd hcalm (by rw [hcs]; exact hco) T pl pg pe hap n 0 z0 t H3 rfl (Nat.zero_le _) I st nfp w0
    refine call_function_tree F.kind_all F.plain_all F.entry_all (F.args_all1 _) ?_
    unfold Builtin.«all»
    refine wpAny_bind (m := oneArg "all" _) (wpAny_pure ?_)
    have isG : ∀ h : Heap, h.get? h'.objs.size = some og → h.IsGen h'.objs.size s3.gens.size := fun h e => by
      subst hog
      exact ⟨_, _, _, e, rfl, rfl, rfl⟩
    refine wpAny_bind (wpAny_pyIter_gen (g := s3.gens.size) (isG _ (Heap.get?_push_size _ (by subst hog; rfl))) ?_)
    refine wpAny_pure ⟨plainId_quiet F.plain_all_loop _, ?_⟩
    refine all_loop (X' := gcx X s3 H3 ce (X.A.in1.in1.over (.compLoop (.GeneratorExp elt [⟨tg, iter, [], 0⟩] scope gpos) 0 (.ref it) .none ce) []) fp) (og := og) (gn := s3.gens.size) (τ := wipe σ (own.map (·.2))) (N := n) (W := W) (Q := fun b H' => Q (.bl b) H') hr.hd hr.depth isG (fun H' s' I' => ?_) (fun b H' s' I' q' => ⟨.bl b, H', I', rfl, q'⟩) n _ (Nat.le_refl _) ⟨H3, I4, gs, ?_, fun t ht ho hbt => ?_⟩
    · exact I3.call' (ch := fp) I'.os I'.base I'.hok I'.bare fun b hb => ⟨(f3 b hb).1.2.2.2.1, (f3 b hb).1.2.1, (f3 b hb).1.2.2.2.2.1, (f3 b hb).1.2.2.2.2.2⟩
    · exact Array.getElem?_push_size ..
    · have I5 := inv_same I4 ht ho hbt
      have st5 : tn 0 t.heap := by rw [ht]; exact st4
      subst hgs
      refine ⟨rfl, ?_⟩
      have lp := loop t t I5 st5
      show Seg _ _ _ _ _ _ _ ((compStart (.GeneratorExp elt [⟨tg, iter, [], 0⟩] scope gpos) 0 (.ref it) .none ce).onRaise (leaving ce)) [] t
      unfold compStart
      rw [Sem.onRaise_eq_wrap]
      show Seg _ _ _ _ _ _ _ ((ask >>= _).wrap _ _ _ _) [] t
      refine seg_bind_wrap (wpAny_askSetting ?_)
      split
      · exact seg_again rfl lp
      · refine seg_bind_wrap (wpAny_rule ?_)
        show Seg _ _ _ _ _ _ _ ((standAt iter.pos >>= _).wrap _ _ _ _) [] t
        exact seg_bind_wrap (wpAny_standAt (seg_bind_wrap (T.self _ 0 t _ _ st5 (seg_again rfl lp))))
  cases hf : codeAmong gpos ps.toList with
  | none =>
    refine wpAny_genexprCodeX hcode (cd.code hPs ht) (cd.tab hPs) hf fun c' h' tk hx hge hlt hco' _ htab' _ => ?_
    obtain ⟨o1, vs1, f1, tf, fl, tg1, inF, tx, tt, op, _, _, _, _, _, _, _, _, _, htr, _⟩ := hco'
    have J := inv_tab (more := #[rawInt gpos.line, rawInt gpos.col, .ref c']) (h' := h') (g' := s2.gens) (d' := s2.drawn) (t' := tk) I2 hP hx htab'.2 I2.bare
    exact cont _ _ _ J ⟨⟨_, upd_same, htr⟩, fun b hb => upd_ne hb⟩ hx
  | some cv =>
    refine wpAny_genexprCode_hit hcode (cd.code hPs ht) hf ?_
    exact cont cv s2 H2 I2 ⟨⟨ps, hP, ht⟩, fun _ _ => rfl⟩ fun b o _ e => e
end
end GA


set_option Elab.async false
set_option linter.all false
set_option maxRecDepth 100000
set_option maxHeartbeats 1000000
/-! the layer above the heap: what stands in the slots is data; some slots own a list that changes -/
namespace DX
open PySem PySem.Spec PyProof.Rows L2 GxR GA
open Classical

/-! ### data in a heap -/
mutual
inductive Rp (K : PySem.W.Frag) (H : Hp) : PyData → V → Prop
  | non : Rp K H .none .non
  | bl (b : Bool) : Rp K H (.bool b) (.bl b)
  | int (i : Int) : Rp K H (.int i) (.int i)
  | str (x : Str) : Rp K H (.str x) (.str x)
  | lst {a : Addr} {vs : List V} {xs : List PyData} : H a = some (.lst vs) → RpL K H xs vs → Rp K H (.list xs) (.ref a)
  | tup {a : Addr} {vs : List V} {xs : List PyData} : SqT K H a vs → RpL K H xs vs → Rp K H (.tuple xs) (.ref a)
  | dct {a : Addr} : H a = some (.dK []) → Rp K H (.dict []) (.ref a)
  | scr {a : Addr} {ns : List Int} : SqL K H a (ns.map V.int) → Rp K H (.dict [(.none, .list (ns.map PyData.int))]) (.ref a)
inductive RpL (K : PySem.W.Frag) (H : Hp) : List PyData → List V → Prop
  | nil : RpL K H [] []
  | cons {x : PyData} {xs : List PyData} {v : V} {vs : List V} : Rp K H x v → RpL K H xs vs → RpL K H (x :: xs) (v :: vs)
end

/-- not a table -/
def NT (o : HO) : Prop := ∀ ps, o ≠ .tbl ps
/-- all that stands stays, but tables -/
def Gr (H H' : Hp) : Prop := ∀ b o, NT o → H b = some o → H' b = some o
theorem Gr.refl (H : Hp) : Gr H H := fun _ _ _ e => e
theorem Gr.trans {H H1 H2 : Hp} (a : Gr H H1) (b : Gr H1 H2) : Gr H H2 := fun c o n e => b c o n (a c o n e)
theorem nt_lst (xs : List V) : NT (.lst xs) := fun _ e => by cases e
theorem nt_tup (xs : List V) : NT (.tup xs) := fun _ e => by cases e
theorem nt_frz (o : Obj) (u : HO) : NT (.frz o u) := fun _ e => by cases e
theorem nt_dK (u : List (Key × V)) : NT (.dK u) := fun _ e => by cases e
theorem SqL.gr {K : PySem.W.Frag} {H H' : Hp} {a : Addr} {xs : List V} (g : Gr H H') (h : SqL K H a xs) : SqL K H' a xs := by
  rcases h with (h | ⟨o, h⟩) | h
  · exact .inl (.inl (g _ _ (nt_lst _) h))
  · exact .inl (.inr ⟨o, g _ _ (nt_frz _ _) h⟩)
  · exact .inr h
theorem SqT.gr {K : PySem.W.Frag} {H H' : Hp} {a : Addr} {xs : List V} (g : Gr H H') (h : SqT K H a xs) : SqT K H' a xs := by
  rcases h with (h | ⟨o, h⟩) | h
  · exact .inl (.inl (g _ _ (nt_tup _) h))
  · exact .inl (.inr ⟨o, g _ _ (nt_frz _ _) h⟩)
  · exact .inr h
mutual
theorem Rp.gr {K : PySem.W.Frag} {H H' : Hp} (g : Gr H H') : ∀ {d : PyData} {v : V}, Rp K H d v → Rp K H' d v
  | _, _, .non => .non
  | _, _, .bl b => .bl b
  | _, _, .int i => .int i
  | _, _, .str x => .str x
  | _, _, .lst h r => .lst (g _ _ (nt_lst _) h) (RpL.gr g r)
  | _, _, .tup h r => .tup (SqT.gr g h) (RpL.gr g r)
  | _, _, .dct h => .dct (g _ _ (nt_dK _) h)
  | _, _, .scr h => .scr (SqL.gr g h)
theorem RpL.gr {K : PySem.W.Frag} {H H' : Hp} (g : Gr H H') : ∀ {ds : List PyData} {vs : List V}, RpL K H ds vs → RpL K H' ds vs
  | _, _, .nil => .nil
  | _, _, .cons r t => .cons (Rp.gr g r) (RpL.gr g t)
end
theorem RpL.len {K : PySem.W.Frag} {H : Hp} : ∀ {ds : List PyData} {vs : List V}, RpL K H ds vs → ds.length = vs.length
  | _, _, .nil => rfl
  | _, _, .cons _ t => congrArg Nat.succ (RpL.len t)
theorem RpL.get {K : PySem.W.Frag} {H : Hp} : ∀ {ds : List PyData} {vs : List V} {i : Nat} {d : PyData}, RpL K H ds vs → ds[i]? = some d → ∃ v, vs[i]? = some v ∧ Rp K H d v
  | _, _, _, _, .nil, e => by simp at e
  | _, _, 0, _, .cons r _, e => by simp at e; subst e; exact ⟨_, rfl, r⟩
  | _, _, i + 1, _, .cons _ t, e => by
    obtain ⟨v, h1, h2⟩ := RpL.get (i := i) t (by simpa using e)
    exact ⟨v, by simpa using h1, h2⟩
theorem RpL.getV {K : PySem.W.Frag} {H : Hp} {ds : List PyData} {vs : List V} {i : Nat} {v : V} (r : RpL K H ds vs) (e : vs[i]? = some v) : ∃ d, ds[i]? = some d ∧ Rp K H d v := by
  have hl := r.len
  have hi := (List.getElem?_eq_some_iff.mp e).1
  obtain ⟨w, h1, h2⟩ := r.get (i := i) (d := ds[i]'(by omega)) (by simp)
  rw [e] at h1
  cases h1
  exact ⟨_, by simp, h2⟩
theorem RpL.app {K : PySem.W.Frag} {H : Hp} : ∀ {ds es : List PyData} {vs ws : List V}, RpL K H ds vs → RpL K H es ws → RpL K H (ds ++ es) (vs ++ ws)
  | _, _, _, _, .nil, s => s
  | _, _, _, _, .cons r t, s => .cons r (RpL.app t s)
theorem RpL.set {K : PySem.W.Frag} {H : Hp} {d : PyData} {v : V} (r : Rp K H d v) : ∀ {ds : List PyData} {vs : List V} (i : Nat), RpL K H ds vs → RpL K H (ds.set i d) (vs.set i v)
  | _, _, _, .nil => .nil
  | _, _, 0, .cons _ t => .cons r t
  | _, _, i + 1, .cons q t => .cons q (RpL.set r i t)
theorem RpL.one {K : PySem.W.Frag} {H : Hp} {d : PyData} {v : V} (r : Rp K H d v) : RpL K H [d] [v] := .cons r .nil
theorem RpL.take {K : PySem.W.Frag} {H : Hp} : ∀ {ds : List PyData} {vs : List V} (n : Nat), RpL K H ds vs → RpL K H (ds.take n) (vs.take n)
  | _, _, 0, _ => .nil
  | _, _, _ + 1, .nil => .nil
  | _, _, n + 1, .cons r t => .cons r (RpL.take n t)
theorem RpL.drop {K : PySem.W.Frag} {H : Hp} : ∀ {ds : List PyData} {vs : List V} (n : Nat), RpL K H ds vs → RpL K H (ds.drop n) (vs.drop n)
  | _, _, 0, r => r
  | _, _, _ + 1, .nil => .nil
  | _, _, n + 1, .cons _ t => RpL.drop n t

/-- the script, as data -/
def scrD (ns : List Int) : PyData := .dict [(.none, .list (ns.map PyData.int))]
theorem rp_of_ints {K : PySem.W.Frag} {H : Hp} : ∀ ns : List Int, RpL K H (ns.map PyData.int) (ns.map V.int)
  | [] => .nil
  | n :: ns => .cons (.int n) (rp_of_ints ns)
/-! ### a heap without some addresses -/
noncomputable def del (H : Hp) (M : Addr → Prop) : Hp := fun b => if M b then none else H b
theorem del_some {H : Hp} {M : Addr → Prop} {b : Addr} {o : HO} : del H M b = some o ↔ ¬ M b ∧ H b = some o := by
  unfold del
  by_cases h : M b
  · simp [h]
  · simp [h]
theorem gr_del {H H' : Hp} {M M' : Addr → Prop} (h : ∀ b o, NT o → ¬ M b → H b = some o → ¬ M' b ∧ H' b = some o) : Gr (del H M) (del H' M') := fun b o n e => by
  obtain ⟨e1, e2⟩ := del_some.mp e
  exact del_some.mpr (h b o n e1 e2)
theorem gr_out {H : Hp} {M : Addr → Prop} : Gr (del H M) H := fun b o _ e => (del_some.mp e).2

/-! ### slots -/
inductive E where
  | d (x : PyData)
  | m (xs : List PyData)
  | k (n : Nat)
abbrev DEnv := List (Option E)
/-- at most one deck -/
def K1 (δ : DEnv) : Prop := ∀ (i j n m : Nat), δ[i]? = some (some (E.k n)) → δ[j]? = some (some (E.k m)) → i = j
theorem K1.set {δ : DEnv} {i : Nat} {x : Option E} (h : K1 δ) (hx : ∀ n, x ≠ some (E.k n)) : K1 (δ.set i x) := by
  have key : ∀ {j n : Nat}, (δ.set i x)[j]? = some (some (E.k n)) → δ[j]? = some (some (E.k n)) := fun {j n} e => by
    by_cases hij : i = j
    · subst hij
      by_cases hl : i < δ.length
      · rw [List.getElem?_set_self hl] at e
        exact absurd (Option.some.inj e) (hx n)
      · rw [List.getElem?_eq_none (by rw [List.length_set]; omega)] at e
        cases e
    · rw [List.getElem?_set_ne hij] at e
      exact e
  exact fun a b n m h1 h2 => h a b n m (key h1) (key h2)
theorem K1.setK {δ : DEnv} {i n n' : Nat} (h : K1 δ) (hi : δ[i]? = some (some (E.k n))) : K1 (δ.set i (some (.k n'))) := by
  have key : ∀ {j m : Nat}, (δ.set i (some (.k n')))[j]? = some (some (E.k m)) → ∃ m', δ[j]? = some (some (E.k m')) := fun {j m} e => by
    by_cases hij : i = j
    · subst hij
      exact ⟨n, hi⟩
    · rw [List.getElem?_set_ne hij] at e
      exact ⟨m, e⟩
  intro a b n m h1 h2
  obtain ⟨_, h1⟩ := key h1
  obtain ⟨_, h2⟩ := key h2
  exact h a b _ _ h1 h2
/-- a slot owns the list at a -/
def MA (δ : DEnv) (σ : L2.St) (a : Addr) : Prop := ∃ (i : Nat) (xs : List PyData), δ[i]? = some (some (E.m xs)) ∧ σ[i]? = some (some (V.ref a))
/-- one pool: three numbers -/
def Pool (H : Hp) (q : Addr) (n : Nat) : Prop := ∃ c0 c1 c2 : Int, H q = some (.lst [.int c0, .int c1, .int c2]) ∧ 0 ≤ c2 ∧ c2 ≤ 3000 + n
/-- pools and which one is next, all at wild addresses -/
def Deck (W : Addr → Prop) (H : Hp) (a : Addr) (n : Nat) : Prop := ∃ (p : Addr) (c : Int) (qs : List Addr), W a ∧ W p ∧ H a = some (.lst [.ref p, .int c]) ∧ 0 ≤ c ∧ H p = some (.lst (qs.map V.ref)) ∧ 0 < qs.length ∧ qs.length ≤ 63 ∧ ∀ q ∈ qs, W q ∧ Pool H q n
theorem Deck.up {W : Addr → Prop} {H H' : Hp} {a : Addr} {n : Nat} (kp : ∀ b vs, W b → H b = some (.lst vs) → H' b = some (.lst vs)) (h : Deck W H a n) : Deck W H' a n := by
  obtain ⟨p, c, qs, wa, wp, h1, h2, h3, h4, h5, h6⟩ := h
  refine ⟨p, c, qs, wa, wp, kp _ _ wa h1, h2, kp _ _ wp h3, h4, h5, fun q hq => ?_⟩
  obtain ⟨w, c0, c1, c2, g, g2⟩ := h6 q hq
  exact ⟨w, c0, c1, c2, kp _ _ w g, g2⟩
def SlotOk (K : PySem.W.Frag) (W : Addr → Prop) (Hd H : Hp) : E → V → Prop
  | .d x, v => Rp K Hd x v
  | .k n, v => ∃ a, v = .ref a ∧ Deck W H a n
  | .m xs, v => ∃ a vs, v = .ref a ∧ H a = some (.lst vs) ∧ RpL K Hd xs vs
/-- fixed for a law: the written part, the tables, the slots that are not stored to -/
structure Gx where
  K : PySem.W.Frag
  cs : List Addr
  pn : List Nat
/-- fixed for a run: the heap at the start, who may change, who is others', the slots at the start -/
structure Fx where
  H0 : Hp
  M0 : Addr → Prop
  X0 : Addr → Prop
  s0 : L2.St
  W0 : Addr → Prop
structure EI (G : Gx) (F : Fx) (δ : DEnv) (σ : L2.St) (H : Hp) : Prop where
  len : δ.length = σ.length
  slot : ∀ (i : Nat) (e : E), δ[i]? = some (some e) → ∃ v, σ[i]? = some (some v) ∧ SlotOk G.K F.W0 (del H fun a => MA δ σ a ∨ F.X0 a) H e v
  nd : ∀ (i j : Nat) (xs ys : List PyData) (a : Addr), δ[i]? = some (some (E.m xs)) → δ[j]? = some (some (E.m ys)) → σ[i]? = some (some (V.ref a)) → σ[j]? = some (some (V.ref a)) → i = j
  own : ∀ a, MA δ σ a → F.M0 a ∨ (F.H0 a = none ∧ ¬ F.X0 a)
  keep : ∀ b o, NT o → ¬ F.M0 b → ¬ F.W0 b → F.H0 b = some o → H b = some o
  ex : ∀ a, F.X0 a → ∃ o, H a = some o ∧ NT o
  pin : ∀ i ∈ G.pn, σ[i]? = F.s0[i]?
  tab : ∀ p ∈ G.cs, TabG H p
  tk : ∀ b ps, F.H0 b = some (.tbl ps) → ∃ qs, H b = some (.tbl qs)
  mt : ∀ a, F.M0 a → ∃ o, H a = some o
  mx : ∀ (i : Nat) (xs : List PyData) (a : Addr), δ[i]? = some (some (E.m xs)) → σ[i]? = some (some (V.ref a)) → F.X0 a → i ∈ G.pn
  wl : ∀ a, F.W0 a → F.X0 a ∧ ¬ MA δ σ a
  k1 : K1 δ
/-- the run from here on -/
def Fx.now (F : Fx) (δ : DEnv) (σ : L2.St) (H : Hp) : Fx := { F with H0 := H, M0 := MA δ σ }
section
variable {G : Gx} {F : Fx} {δ δ' : DEnv} {σ σ' : L2.St} {H H' : Hp}
theorem EI.now (I : EI G F δ σ H) : EI G (F.now δ σ H) δ σ H := ⟨I.len, I.slot, I.nd, fun a h => .inl h, fun b o _ _ _ e => e, I.ex, I.pin, I.tab, fun b ps e => ⟨ps, e⟩, fun a ⟨i, xs, h1, h2⟩ => by
  obtain ⟨v, e1, b, vs, rfl, hb, _⟩ := I.slot i _ h1
  rw [h2] at e1; cases e1
  exact ⟨_, hb⟩, I.mx, I.wl, I.k1⟩
theorem EI.back (I : EI G F δ σ H) (J : EI G (F.now δ σ H) δ' σ' H') : EI G F δ' σ' H' := by
  refine ⟨J.len, J.slot, J.nd, fun a h => ?_, fun b o n hb hw e => ?_, J.ex, J.pin, J.tab, fun b ps e => ?_, fun a ha => ?_, J.mx, J.wl, J.k1⟩
  · rcases J.own a h with z | ⟨z, zx⟩
    · exact I.own a z
    · by_cases hm : F.M0 a
      · exact .inl hm
      · refine .inr ⟨?_, zx⟩
        have z : H a = none := z
        have zx : ¬ F.X0 a := zx
        cases q : F.H0 a with
        | none => rfl
        | some o =>
          by_cases hn : NT o
          · rw [I.keep a o hn hm (fun w => zx (I.wl a w).1) q] at z; cases z
          · have : ∃ ps, o = .tbl ps := Classical.byContradiction fun w => hn fun ps e => w ⟨ps, e⟩
            obtain ⟨ps, rfl⟩ := this
            obtain ⟨qs, e⟩ := I.tk a ps q
            rw [e] at z; cases z
  · have e1 := I.keep b o n hb hw e
    refine J.keep b o n (fun z => ?_) hw e1
    rcases I.own b z with z | ⟨z, _⟩
    · exact hb z
    · rw [z] at e; cases e
  · obtain ⟨qs, e1⟩ := I.tk b ps e
    exact J.tk b qs e1
  · obtain ⟨o, e⟩ := I.mt a ha
    by_cases hm : MA δ σ a
    · exact J.mt a hm
    · by_cases hw : F.W0 a
      · obtain ⟨o', e', _⟩ := J.ex a (I.wl a hw).1
        exact ⟨o', e'⟩
      · by_cases hn : NT o
        · exact ⟨o, J.keep a o hn hm hw e⟩
        · have : ∃ ps, o = .tbl ps := Classical.byContradiction fun w => hn fun ps e => w ⟨ps, e⟩
          obtain ⟨ps, rfl⟩ := this
          obtain ⟨qs, e⟩ := J.tk a ps e
          exact ⟨_, e⟩
theorem EI.fresh {p : Addr} (I : EI G F δ σ H) (h : H p = none) : F.H0 p = none ∧ ¬ F.M0 p ∧ ¬ F.X0 p ∧ ¬ MA δ σ p := by
  have h1 : ¬ F.M0 p := fun z => by
    obtain ⟨o, e⟩ := I.mt p z
    rw [h] at e; cases e
  have h2 : ¬ F.X0 p := fun z => by
    obtain ⟨o, e, _⟩ := I.ex p z
    rw [h] at e; cases e
  refine ⟨?_, h1, h2, fun ⟨i, xs, e1, e2⟩ => ?_⟩
  · cases q : F.H0 p with
    | none => rfl
    | some o =>
      by_cases hn : NT o
      · rw [I.keep p o hn h1 (fun w => h2 (I.wl p w).1) q] at h; cases h
      · have : ∃ ps, o = .tbl ps := Classical.byContradiction fun w => hn fun ps e => w ⟨ps, e⟩
        obtain ⟨ps, rfl⟩ := this
        obtain ⟨qs, e⟩ := I.tk p ps q
        rw [e] at h; cases h
  · obtain ⟨v, e3, b, vs, rfl, hb, _⟩ := I.slot i _ e1
    rw [e2] at e3; cases e3
    rw [h] at hb; cases hb
theorem EI.freshW {p : Addr} (I : EI G F δ σ H) (h : H p = none) : ¬ F.W0 p := fun w => (I.fresh h).2.2.1 (I.wl p w).1
end
end DX


set_option Elab.async false
set_option linter.all false
set_option maxRecDepth 100000
set_option maxHeartbeats 1000000
namespace DX
open PySem PySem.Spec PyProof.Rows L2 GxR GA
open Classical
/-! ### judgements -/
abbrev Sl (F : Fx) (δ : DEnv) (σ : L2.St) : Addr → Prop := fun a => MA δ σ a ∨ F.X0 a
def ED (G : Gx) (t : TE) (δ : DEnv) (Q : PyData → DEnv → Prop) : Prop :=
  ∀ (F : Fx) (σ : L2.St) (H : Hp) (R : VK), EI G F δ σ H → (∀ d v δ' H', Q d δ' → EI G F δ' σ H' → Rp G.K (del H' (Sl F δ' σ)) d v → R v H') → t σ H R
def DT (G : Gx) (t : TT) (δ : DEnv) (Q : Bool → DEnv → Prop) : Prop :=
  ∀ (F : Fx) (σ : L2.St) (H : Hp) (R : Bool → Hp → Prop), EI G F δ σ H → (∀ b δ' H', Q b δ' → EI G F δ' σ H' → R b H') → t σ H R
/-- an argument: data, or the list of a slot -/
inductive Ar where
  | d (x : PyData)
  | s (i : Nat)
def ArOk (K : PySem.W.Frag) (Hd : Hp) (δ : DEnv) (σ : L2.St) : Ar → V → Prop
  | .d x, v => Rp K Hd x v
  | .s i, v => σ[i]? = some (some v) ∧ ∃ xs, δ[i]? = some (some (E.m xs))
def EA (G : Gx) (t : TA) (δ : DEnv) (Q : List Ar → DEnv → Prop) : Prop :=
  ∀ (F : Fx) (σ : L2.St) (H : Hp) (R : List V → Hp → Prop), EI G F δ σ H → (∀ as vs δ' H', Q as δ' → EI G F δ' σ H' → Paired (ArOk G.K (del H' (Sl F δ' σ)) δ' σ) as vs → R vs H') → t σ H R
/-- a new list -/
def Fx.own (F : Fx) (p : Addr) : Fx := { F with X0 := fun a => a = p ∨ F.X0 a }
structure New (G : Gx) (F : Fx) (δ : DEnv) (σ : L2.St) (H : Hp) (p : Addr) (xs : List PyData) : Prop where
  ei : EI G (F.own p) δ σ H
  ma : ¬ MA δ σ p
  x0 : ¬ F.X0 p
  h0 : F.H0 p = none
  m0 : ¬ F.M0 p
  w0 : ¬ F.W0 p
  at_ : ∃ vs, H p = some (.lst vs) ∧ RpL G.K (del H (Sl (F.own p) δ σ)) xs vs
def EF (G : Gx) (t : TE) (δ : DEnv) (Q : List PyData → DEnv → Prop) : Prop :=
  ∀ (F : Fx) (σ : L2.St) (H : Hp) (R : VK), EI G F δ σ H → (∀ xs p δ' H', Q xs δ' → New G F δ' σ H' p xs → R (.ref p) H') → t σ H R
inductive Out where
  | nx (δ : DEnv)
  | rt (d : PyData) (δ : DEnv)
  | bk (δ : DEnv)
  | ct (δ : DEnv)
  | rf (xs : List PyData) (δ : DEnv)
  | rm (i : Nat) (δ : DEnv)
  | r2 (i j : Nat) (δ : DEnv)
def Sat (G : Gx) (F : Fx) : Out → Ends → Prop
  | .nx δ, D => ∀ σ H, EI G F δ σ H → D.nx σ H
  | .rt d δ, D => ∀ σ H v, EI G F δ σ H → Rp G.K (del H (Sl F δ σ)) d v → D.rt v H
  | .bk δ, D => ∀ σ H, EI G F δ σ H → D.bk σ H
  | .ct δ, D => ∀ σ H, EI G F δ σ H → D.ct σ H
  | .rf xs δ, D => ∀ σ H p, New G F δ σ H p xs → D.rt (.ref p) H
  | .rm i δ, D => ∀ σ H a, EI G F δ σ H → σ[i]? = some (some (V.ref a)) → D.rt (.ref a) H
  | .r2 i j δ, D => ∀ σ H p a b, EI G F δ σ H → H p = none → σ[i]? = some (some (V.ref a)) → σ[j]? = some (some (V.ref b)) → D.rt (.ref p) (upd H p (.tup [.ref a, .ref b]))
def SD (G : Gx) (t : TS) (δ : DEnv) (Q : Out → Prop) : Prop :=
  ∀ (F : Fx) (σ : L2.St) (H : Hp) (D : Ends), EI G F δ σ H → (∀ o, Q o → Sat G F o D) → t D σ H

section
variable {G : Gx} {F : Fx} {δ δ' : DEnv} {σ σ' : L2.St} {H H' : Hp}
/-- what has happened since -/
structure Since (G : Gx) (F : Fx) (δ : DEnv) (σ : L2.St) (H : Hp) (δ' : DEnv) (σ' : L2.St) (H' : Hp) : Prop where
  ei : EI G F δ' σ' H'
  gr : Gr (del H (Sl F δ σ)) (del H' (Sl F δ' σ'))
  kp : ∀ b o, NT o → ¬ MA δ σ b → ¬ F.W0 b → H b = some o → H' b = some o
  ma : ∀ a, MA δ' σ' a → MA δ σ a ∨ H a = none
  tk : ∀ b ps, H b = some (.tbl ps) → ∃ qs, H' b = some (.tbl qs)
theorem EI.since (I : EI G F δ σ H) (J : EI G (F.now δ σ H) δ' σ' H') : Since G F δ σ H δ' σ' H' := by
  have ma : ∀ a, MA δ' σ' a → MA δ σ a ∨ H a = none := fun a h => by
    rcases J.own a h with z | ⟨z, _⟩
    · exact .inl z
    · exact .inr z
  refine ⟨I.back J, gr_del fun b o n hb e => ⟨fun z => ?_, J.keep b o n (fun z => hb (.inl z)) (fun w => hb (.inr (I.wl b w).1)) e⟩, J.keep, ma, J.tk⟩
  rcases z with z | z
  · rcases ma b z with z | z
    · exact hb (.inl z)
    · rw [z] at e; cases e
  · exact hb (.inr z)
theorem ED.go {t : TE} {Q : PyData → DEnv → Prop} {R : VK} (h : ED G t δ Q) (I : EI G F δ σ H) (k : ∀ d v δ' H', Q d δ' → Since G F δ σ H δ' σ H' → Rp G.K (del H' (Sl F δ' σ)) d v → R v H') : t σ H R :=
  h (F.now δ σ H) σ H R I.now fun d v δ' H' q J r => k d v δ' H' q (I.since J) r
theorem DT.go {t : TT} {Q : Bool → DEnv → Prop} {R : Bool → Hp → Prop} (h : DT G t δ Q) (I : EI G F δ σ H) (k : ∀ b δ' H', Q b δ' → Since G F δ σ H δ' σ H' → R b H') : t σ H R :=
  h (F.now δ σ H) σ H R I.now fun d δ' H' q J => k d δ' H' q (I.since J)
theorem EA.go {t : TA} {Q : List Ar → DEnv → Prop} {R : List V → Hp → Prop} (h : EA G t δ Q) (I : EI G F δ σ H) (k : ∀ as vs δ' H', Q as δ' → Since G F δ σ H δ' σ H' → Paired (ArOk G.K (del H' (Sl F δ' σ)) δ' σ) as vs → R vs H') : t σ H R :=
  h (F.now δ σ H) σ H R I.now fun d v δ' H' q J r => k d v δ' H' q (I.since J) r
theorem Since.trans {δ1 : DEnv} {H1 : Hp} (a : Since G F δ σ H δ1 σ' H1) {σ2 : L2.St} (b : Since G F δ1 σ' H1 δ' σ2 H') : Since G F δ σ H δ' σ2 H' := by
  refine ⟨b.ei, a.gr.trans b.gr, fun c o n hc hw e => b.kp c o n (fun z => ?_) hw (a.kp c o n hc hw e), fun c hc => ?_, fun c ps e => ?_⟩
  · rcases a.ma c z with z | z
    · exact hc z
    · rw [z] at e; cases e
  · rcases b.ma c hc with z | z
    · exact a.ma c z
    · by_cases hm : MA δ σ c
      · exact .inl hm
      · refine .inr ?_
        cases q : H c with
        | none => rfl
        | some o =>
          by_cases hn : NT o
          · rw [a.kp c o hn hm (fun w => (b.ei.wl c w).2 hc) q] at z; cases z
          · have : ∃ ps, o = .tbl ps := Classical.byContradiction fun w => hn fun ps e => w ⟨ps, e⟩
            obtain ⟨ps, rfl⟩ := this
            obtain ⟨qs, e⟩ := a.tk c ps q
            rw [e] at z; cases z
  · obtain ⟨qs, e1⟩ := a.tk c ps e
    exact b.tk c qs e1

/-! ### a heap with one new object -/
theorem EI.laid {p : Addr} {o : HO} (I : EI G F δ σ H) (hp : H p = none) (hn : NT o) : EI G F δ σ (upd H p o) := by
  obtain ⟨h0, hM, hX, hma⟩ := I.fresh hp
  have ne : ∀ {b : Addr} {u : HO}, H b = some u → b ≠ p := fun {b u} e z => by rw [z, hp] at e; cases e
  have gr : Gr (del H fun a => MA δ σ a ∨ F.X0 a) (del (upd H p o) fun a => MA δ σ a ∨ F.X0 a) := gr_del fun b u n hb e => ⟨hb, by rw [upd_ne (ne e)]; exact e⟩
  refine ⟨I.len, fun i e h => ?_, I.nd, I.own, fun b u n hb hw e => ?_, fun a ha => ?_, I.pin, fun q hq => ?_, fun b ps e => ?_, fun a ha => ?_, I.mx, I.wl, I.k1⟩
  · obtain ⟨v, h1, h2⟩ := I.slot i e h
    refine ⟨v, h1, ?_⟩
    cases e with
    | d x => exact Rp.gr gr h2
    | k n =>
      obtain ⟨a, ea, h3⟩ := h2
      exact ⟨a, ea, h3.up fun b u w e => by rw [upd_ne (ne e)]; exact e⟩
    | m xs =>
      obtain ⟨a, vs, h3, h4, h5⟩ := h2
      exact ⟨a, vs, h3, by rw [upd_ne (ne h4)]; exact h4, RpL.gr gr h5⟩
  · have := I.keep b u n hb hw e
    rw [upd_ne (ne this)]; exact this
  · obtain ⟨u, e, n⟩ := I.ex a ha
    exact ⟨u, by rw [upd_ne (ne e)]; exact e, n⟩
  · obtain ⟨ps, e, t⟩ := I.tab q hq
    exact ⟨ps, by rw [upd_ne (ne e)]; exact e, t⟩
  · obtain ⟨qs, e1⟩ := I.tk b ps e
    exact ⟨qs, by rw [upd_ne (ne e1)]; exact e1⟩
  · obtain ⟨u, e⟩ := I.mt a ha
    exact ⟨u, by rw [upd_ne (ne e)]; exact e⟩
theorem gr_laid {p : Addr} {o : HO} {M : Addr → Prop} (hp : H p = none) : Gr (del H M) (del (upd H p o) M) := gr_del fun b u n hb e => ⟨hb, by
  have ne : b ≠ p := fun z => by rw [z, hp] at e; cases e
  rw [upd_ne ne]; exact e⟩
end
end DX


set_option Elab.async false
set_option linter.all false
set_option maxRecDepth 100000
set_option maxHeartbeats 1000000
namespace DX
open PySem PySem.Spec PyProof.Rows L2 GxR GA
open Classical
section
variable {G : Gx} {F : Fx} {δ δ' : DEnv} {σ σ' : L2.St} {H H' : Hp} {ta tb tc : TE} {Q : PyData → DEnv → Prop}
theorem ED.mono {Q' : PyData → DEnv → Prop} (h : ED G ta δ Q) (hq : ∀ d δ', Q d δ' → Q' d δ') : ED G ta δ Q' := fun F σ H R I k => h F σ H R I fun d v δ' H' q => k d v δ' H' (hq d δ' q)
/-! ### names, constants -/
theorem ed_var {i : Nat} {x : PyData} (h : δ[i]? = some (some (E.d x))) (q : Q x δ) : ED G (tVar i) δ Q := fun F σ H R I k => by
  obtain ⟨v, h1, h2⟩ := I.slot i _ h
  exact ⟨v, h1, k x v δ H q I h2⟩
theorem ed_int {n : Int} (q : Q (.int n) δ) : ED G (tC (.int n)) δ Q := fun F σ H R I k => k _ _ δ H q I (.int n)
theorem ed_bl {n : Bool} (q : Q (.bool n) δ) : ED G (tC (.bl n)) δ Q := fun F σ H R I k => k _ _ δ H q I (.bl n)
theorem ed_str {n : Str} (q : Q (.str n) δ) : ED G (tC (.str n)) δ Q := fun F σ H R I k => k _ _ δ H q I (.str n)
theorem ed_non (q : Q .none δ) : ED G (tC .non) δ Q := fun F σ H R I k => k _ _ δ H q I .non
/-! ### operators on ints -/
/-- the two operands -/
theorem ed_two {r : R2} {P : PyData → PyData → DEnv → Prop} (h : ED G ta δ fun x δ1 => ED G tb δ1 fun y δ2 => P x y δ2)
    (hr : ∀ (F : Fx) (σ : L2.St) (H : Hp) (R : VK) (x y : PyData) (u v : V) (δ2 : DEnv), P x y δ2 → EI G F δ2 σ H → Rp G.K (del H (Sl F δ2 σ)) x u → Rp G.K (del H (Sl F δ2 σ)) y v →
      (∀ d w δ' H', Q d δ' → EI G F δ' σ H' → Rp G.K (del H' (Sl F δ' σ)) d w → R w H') → r u v H R) : ED G (tOp r ta tb) δ Q := fun F σ H R I k =>
  h.go I fun x u δ1 H1 q1 s1 r1 => q1.go s1.ei fun y v δ2 H2 q2 s2 r2 => hr F σ H2 R x y u v δ2 q2 s2.ei (Rp.gr s2.gr r1) r2 k
theorem ed_i0 {g : Int → Int → Int} (h : ED G ta δ fun x δ1 => ED G tb δ1 fun y δ2 => ∃ i j, x = .int i ∧ y = .int j ∧ Q (.int (g i j)) δ2) : ED G (tOp (rI0 fun i j => .int (g i j)) ta tb) δ Q :=
  ed_two h fun F σ H R x y u v δ2 ⟨i, j, e1, e2, q⟩ I r1 r2 k => by
    subst e1 e2
    cases r1; cases r2
    exact ⟨i, j, rfl, rfl, k _ _ δ2 H q I (.int _)⟩
theorem ed_b0 {g : Int → Int → Bool} (h : ED G ta δ fun x δ1 => ED G tb δ1 fun y δ2 => ∃ i j, x = .int i ∧ y = .int j ∧ Q (.bool (g i j)) δ2) : ED G (tOp (rI0 fun i j => .bl (g i j)) ta tb) δ Q :=
  ed_two h fun F σ H R x y u v δ2 ⟨i, j, e1, e2, q⟩ I r1 r2 k => by
    subst e1 e2
    cases r1; cases r2
    exact ⟨i, j, rfl, rfl, k _ _ δ2 H q I (.bl _)⟩
theorem ed_ic {C : Int → Int → Prop} {g : Int → Int → Int} (h : ED G ta δ fun x δ1 => ED G tb δ1 fun y δ2 => ∃ i j, x = .int i ∧ y = .int j ∧ C i j ∧ Q (.int (g i j)) δ2) : ED G (tOp (rI C fun i j => .int (g i j)) ta tb) δ Q :=
  ed_two h fun F σ H R x y u v δ2 ⟨i, j, e1, e2, c, q⟩ I r1 r2 k => by
    subst e1 e2
    cases r1; cases r2
    exact ⟨i, j, rfl, rfl, c, k _ _ δ2 H q I (.int _)⟩
theorem ed_neg (h : ED G ta δ fun x δ1 => ∃ i, x = .int i ∧ Q (.int (-i)) δ1) : ED G (tUn (rU fun i => .int (-i)) ta) δ Q := fun F σ H R I k =>
  h.go I fun x u δ1 H1 ⟨i, e, q⟩ s1 r1 => by
    subst e
    cases r1
    exact ⟨i, rfl, k _ _ δ1 H1 q s1.ei (.int _)⟩
/-- is None -/
def isNon : PyData → Bool
  | .none => true
  | _ => false
theorem rp_non {K : PySem.W.Frag} {x : PyData} {v : V} (r : Rp K H x v) : decide (v = V.non) = isNon x := by
  cases r <;> rfl
abbrev rIsN : R2 := fun x y H Q => y = .non ∧ Q (.bl (decide (x = .non))) H
abbrev rNotN : R2 := fun x y H Q => y = .non ∧ Q (.bl (!decide (x = .non))) H
theorem ed_isN (h : ED G ta δ fun x δ1 => Q (.bool (isNon x)) δ1) : ED G (tOp rIsN ta (tC .non)) δ Q := fun F σ H R I k =>
  h.go I fun x u δ1 H1 q s1 r1 => by
    refine ⟨rfl, ?_⟩
    rw [rp_non r1]
    exact k _ _ δ1 H1 q s1.ei (.bl _)
theorem ed_notN (h : ED G ta δ fun x δ1 => Q (.bool (!isNon x)) δ1) : ED G (tOp rNotN ta (tC .non)) δ Q := fun F σ H R I k =>
  h.go I fun x u δ1 H1 q s1 r1 => by
    refine ⟨rfl, ?_⟩
    rw [rp_non r1]
    exact k _ _ δ1 H1 q s1.ei (.bl _)
/-! ### == of data -/
end
mutual
def noDct : PyData → Bool
  | .dict _ => false
  | .list xs => noDctL xs
  | .tuple xs => noDctL xs
  | _ => true
def noDctL : List PyData → Bool
  | [] => true
  | x :: xs => noDct x && noDctL xs
end
mutual
theorem Rp.dp {K : PySem.W.Frag} {H : Hp} : ∀ {d : PyData} {v : V}, Rp K H d v → noDct d = true → Dp K H v d
  | _, _, .non, _ => .non
  | _, _, .bl b, _ => .bl b
  | _, _, .int b, _ => .int b
  | _, _, .str b, _ => .str b
  | _, _, .lst h r, n => .lst (SqL.of h) (RpL.dp r n)
  | _, _, .tup h r, n => .tup h (RpL.dp r n)
  | _, _, .dct h, n => by cases n
  | _, _, .scr h, n => by cases n
theorem RpL.dp {K : PySem.W.Frag} {H : Hp} : ∀ {ds : List PyData} {vs : List V}, RpL K H ds vs → noDctL ds = true → DpAll K H vs ds
  | _, _, .nil, _ => .nil
  | _, _, .cons r t, n => by
    have n' : (noDct _ && noDctL _) = true := n
    rw [Bool.and_eq_true] at n'
    exact .cons (Rp.dp r n'.1) (RpL.dp t n'.2)
end
/-- what == may be asked of -/
def EqOk (x : PyData) : Prop := noDct x = true ∧ SeqAt.shaped x = true
section
variable {G : Gx} {F : Fx} {δ δ' : DEnv} {σ σ' : L2.St} {H H' : Hp} {ta tb tc : TE} {Q : PyData → DEnv → Prop}
theorem Rp.full {K : PySem.W.Frag} {M : Addr → Prop} {d : PyData} {v : V} (r : Rp K (del H M) d v) : Rp K H d v := r.gr gr_out
theorem ed_eqD (h : ED G ta δ fun x δ1 => ED G tb δ1 fun y δ2 => EqOk x ∧ EqOk y ∧ Q (.bool (PyData.eqv x y)) δ2) : ED G (tOp (rEqD G.K) ta tb) δ Q :=
  ed_two h fun F σ H R x y u v δ2 ⟨o1, o2, q⟩ I r1 r2 k => ⟨x, y, r1.full.dp o1.1, r2.full.dp o2.1, o1.2, o2.2, k _ _ δ2 H q I (.bl _)⟩
theorem ed_neD (h : ED G ta δ fun x δ1 => ED G tb δ1 fun y δ2 => EqOk x ∧ EqOk y ∧ Q (.bool (!PyData.eqv x y)) δ2) : ED G (tOp (rNeD G.K) ta tb) δ Q :=
  ed_two h fun F σ H R x y u v δ2 ⟨o1, o2, q⟩ I r1 r2 k => ⟨x, y, r1.full.dp o1.1, r2.full.dp o2.1, o1.2, o2.2, k _ _ δ2 H q I (.bl _)⟩
/-- == of two numbers, texts or truths -/
def sclD : PyData → PyData → Option Bool
  | .int i, .int j => some (i == j)
  | .bool i, .bool j => some (i == j)
  | .str i, .str j => some (i == j)
  | .none, .none => some true
  | .none, .int _ => some false
  | .int _, .none => some false
  | _, _ => none
theorem scl_ok {K : PySem.W.Frag} {x y : PyData} {u v : V} {b : Bool} (e : sclD x y = some b) (r1 : Rp K H x u) (r2 : Rp K H y v) : scal u v = true ∧ decide (u = v) = b := by
  cases r1 <;> cases r2 <;> first
    | (cases e; exact ⟨rfl, rfl⟩)
    | (cases e; exact ⟨rfl, dec_int⟩)
    | (cases e; exact ⟨rfl, dec_bl⟩)
    | (cases e; exact ⟨rfl, dec_str⟩)
    | (cases e)
theorem ed_eqS (h : ED G ta δ fun x δ1 => ED G tb δ1 fun y δ2 => ∃ b, sclD x y = some b ∧ Q (.bool b) δ2) : ED G (tOp rEq ta tb) δ Q :=
  ed_two h fun F σ H R x y u v δ2 ⟨b, e, q⟩ I r1 r2 k => by
    obtain ⟨h1, h2⟩ := scl_ok e r1 r2
    refine ⟨h1, ?_⟩
    rw [h2]
    exact k _ _ δ2 H q I (.bl _)
theorem ed_neS (h : ED G ta δ fun x δ1 => ED G tb δ1 fun y δ2 => ∃ b, sclD x y = some b ∧ Q (.bool (!b)) δ2) : ED G (tOp rNe ta tb) δ Q :=
  ed_two h fun F σ H R x y u v δ2 ⟨b, e, q⟩ I r1 r2 k => by
    obtain ⟨h1, h2⟩ := scl_ok e r1 r2
    refine ⟨h1, ?_⟩
    rw [h2]
    exact k _ _ δ2 H q I (.bl _)
/-! ### tests -/
variable {t u : TT} {QT : Bool → DEnv → Prop}
theorem dt_of (h : ED G ta δ fun x δ1 => ∃ b, x = .bool b ∧ QT b δ1) : DT G (tTest ta) δ QT := fun F σ H R I k =>
  h F σ H _ I fun x v δ1 H1 ⟨b, e, q⟩ J r => by
    subst e
    cases r
    exact ⟨b, rfl, k b δ1 H1 q J⟩
theorem dt_ofB (h : ED G ta δ fun x δ1 => ∃ b, x = .bool b ∧ QT b δ1) : DT G (tB ta) δ QT := fun F σ H R I k =>
  h F σ H _ I fun x v δ1 H1 ⟨b, e, q⟩ J r => by
    subst e
    cases r
    exact ⟨b, rfl, k b δ1 H1 q J⟩
theorem dt_and (h : DT G t δ fun b δ1 => if b = true then DT G u δ1 QT else QT false δ1) : DT G (tAnd t u) δ QT := fun F σ H R I k =>
  h F σ H _ I fun b δ1 H1 q J => by
    cases b with
    | true => exact iteT (q F σ H1 R J k)
    | false => exact iteF (k false δ1 H1 q J)
theorem dt_or (h : DT G t δ fun b δ1 => if b = true then QT true δ1 else DT G u δ1 QT) : DT G (tOr t u) δ QT := fun F σ H R I k =>
  h F σ H _ I fun b δ1 H1 q J => by
    cases b with
    | true => exact iteT (k true δ1 H1 q J)
    | false => exact iteF (q F σ H1 R J k)
theorem dt_not (h : DT G t δ fun b δ1 => QT (!b) δ1) : DT G (tNot t) δ QT := fun F σ H R I k => h F σ H _ I fun b δ1 H1 q J => k (!b) δ1 H1 q J
theorem ed_and (h : ED G ta δ fun x δ1 => ∃ b, x = .bool b ∧ if b = true then ED G tb δ1 Q else Q (.bool false) δ1) : ED G (tAndV ta tb) δ Q := fun F σ H R I k =>
  h F σ H _ I fun x v δ1 H1 ⟨b, e, q⟩ J r => by
    subst e
    cases r
    refine ⟨b, rfl, ?_⟩
    cases b with
    | true => exact iteT (q F σ H1 R J k)
    | false => exact iteF (k _ _ δ1 H1 q J (.bl _))
theorem ed_or (h : ED G ta δ fun x δ1 => ∃ b, x = .bool b ∧ if b = true then Q (.bool true) δ1 else ED G tb δ1 Q) : ED G (tOrV ta tb) δ Q := fun F σ H R I k =>
  h F σ H _ I fun x v δ1 H1 ⟨b, e, q⟩ J r => by
    subst e
    cases r
    refine ⟨b, rfl, ?_⟩
    cases b with
    | true => exact iteT (k _ _ δ1 H1 q J (.bl _))
    | false => exact iteF (q F σ H1 R J k)
theorem ed_not (h : ED G ta δ fun x δ1 => ∃ b, x = .bool b ∧ Q (.bool (!b)) δ1) : ED G (tNotV ta) δ Q := fun F σ H R I k =>
  h F σ H _ I fun x v δ1 H1 ⟨b, e, q⟩ J r => by
    subst e
    cases r
    exact ⟨b, rfl, k _ _ δ1 H1 q J (.bl _)⟩
theorem ed_if (h : DT G t δ fun b δ1 => if b = true then ED G ta δ1 Q else ED G tb δ1 Q) : ED G (tIf t ta tb) δ Q := fun F σ H R I k =>
  h F σ H _ I fun b δ1 H1 q J => by
    cases b with
    | true => exact iteT (q F σ H1 R J k)
    | false => exact iteF (q F σ H1 R J k)
/-- a op b op' c, numbers -/
theorem ed_chain {g g' : Int → Int → Bool} (h : ED G ta δ fun x δ1 => ED G tb δ1 fun y δ2 => ∃ i j, x = .int i ∧ y = .int j ∧ if g i j = true then ED G tc δ2 fun z δ3 => ∃ k, z = .int k ∧ Q (.bool (g' j k)) δ3 else Q (.bool false) δ2) :
    ED G (tChain (rI0 fun i j => .bl (g i j)) (rI0 fun i j => .bl (g' i j)) ta tb tc) δ Q := fun F σ H R I k =>
  h.go I fun x u δ1 H1 q1 s1 r1 => q1.go s1.ei fun y v δ2 H2 ⟨i, j, e1, e2, q⟩ s2 r2 => by
    subst e1 e2
    cases r1; cases r2
    refine ⟨i, j, rfl, rfl, g i j, rfl, ?_⟩
    cases hb : g i j with
    | true =>
      rw [hb] at q
      have q' : ED G tc δ2 (fun z δ3 => ∃ k, z = .int k ∧ Q (.bool (g' j k)) δ3) := by simpa using q
      refine iteT (q'.go s2.ei fun z w δ3 H3 ⟨l, e3, q3⟩ s3 r3 => ?_)
      subst e3
      cases r3
      exact ⟨j, l, rfl, rfl, k _ _ δ3 H3 q3 s3.ei (.bl _)⟩
    | false =>
      rw [hb] at q
      exact iteF (k _ _ δ2 H2 (by simpa using q) s2.ei (.bl _))
/-! ### arguments -/
variable {tr : TA} {QA : List Ar → DEnv → Prop}
theorem ea_nil (q : QA [] δ) : EA G tNil δ QA := fun F σ H R I k => k [] [] δ H q I .nil
theorem ArOk.gr {K : PySem.W.Frag} {Hd Hd' : Hp} {a : Ar} {v : V} (g : Gr Hd Hd') (h : ArOk K Hd δ σ a v) (hs : ∀ i, a = .s i → (∃ xs, δ[i]? = some (some (E.m xs))) → ∃ xs, δ'[i]? = some (some (E.m xs))) : ArOk K Hd' δ' σ a v := by
  cases a with
  | d x => exact Rp.gr g h
  | s i => exact ⟨h.1, hs i rfl h.2⟩
theorem ea_cons (h : ED G ta δ fun x δ1 => EA G tr δ1 fun as δ2 => QA (.d x :: as) δ2) : EA G (tCons ta tr) δ QA := fun F σ H R I k =>
  h.go I fun x v δ1 H1 q1 s1 r1 => q1.go s1.ei fun as vs δ2 H2 q2 s2 r2 => k _ _ δ2 H2 q2 s2.ei (.cons (Rp.gr s2.gr r1) r2)
theorem ea_slot {i : Nat} {xs : List PyData} (hi : δ[i]? = some (some (E.m xs))) (h : EA G tr δ fun as δ2 => (∃ ys, δ2[i]? = some (some (E.m ys))) ∧ QA (.s i :: as) δ2) : EA G (tCons (tVar i) tr) δ QA := fun F σ H R I k => by
  obtain ⟨v, h1, _⟩ := I.slot i _ hi
  exact ⟨v, h1, h.go I fun as vs δ2 H2 ⟨q1, q2⟩ s2 r2 => k _ _ δ2 H2 q2 s2.ei (.cons ⟨h1, q1⟩ r2)⟩
/-! ### displays -/
/-- all arguments are data -/
def allD : List Ar → Option (List PyData)
  | [] => some []
  | .d x :: r => (allD r).map (x :: ·)
  | .s _ :: _ => none
theorem allD_ok {K : PySem.W.Frag} {Hd : Hp} : ∀ {as : List Ar} {vs : List V} {xs : List PyData}, allD as = some xs → Paired (ArOk K Hd δ σ) as vs → RpL K Hd xs vs
  | [], _, _, e, .nil => by cases e; exact .nil
  | .d x :: r, _, _, e, .cons h t => by
    cases q : allD r with
    | none => simp [allD, q] at e
    | some ys =>
      simp [allD, q] at e
      subst e
      exact .cons h (allD_ok q t)
  | .s i :: r, _, _, e, .cons h t => by simp [allD] at e
theorem ed_tup (h : EA G tr δ fun as δ1 => ∃ xs, allD as = some xs ∧ xs.length ≤ sizeLine ∧ Q (.tuple xs) δ1) : ED G (tTup tr) δ Q := fun F σ H R I k =>
  h F σ H _ I fun as vs δ1 H1 ⟨xs, e, hl, q⟩ J r => by
    have r2 := allD_ok e r
    refine ⟨by rw [← r2.len]; exact hl, fun p hp => ?_⟩
    have J2 := J.laid hp (nt_tup vs)
    obtain ⟨_, _, hX, hm⟩ := J.fresh hp
    exact k _ _ δ1 _ q J2 (.tup (.inl (.inl (del_some.mpr ⟨fun z => z.elim hm hX, upd_same⟩))) (RpL.gr (gr_laid hp) r2))
/-- a new object that the slots don't know yet -/
theorem New.mk_ {p : Addr} {vs : List V} {xs : List PyData} (J : EI G F δ σ H) (hp : H p = none) (r : RpL G.K (del H (Sl F δ σ)) xs vs) : New G F δ σ (upd H p (.lst vs)) p xs := by
  obtain ⟨h0, hM, hX, hm⟩ := J.fresh hp
  have J2 := J.laid hp (nt_lst vs)
  have ne : ∀ {b : Addr} {u : HO}, H b = some u → b ≠ p := fun {b u} e z => by rw [z, hp] at e; cases e
  have gr : Gr (del H (Sl F δ σ)) (del (upd H p (.lst vs)) (Sl (F.own p) δ σ)) := gr_del fun b u n hb e => ⟨fun z => by
    rcases z with z | z | z
    · exact hb (.inl z)
    · exact ne e z
    · exact hb (.inr z), by rw [upd_ne (ne e)]; exact e⟩
  refine ⟨⟨J2.len, fun i e h => ?_, J2.nd, fun a ha => ?_, J2.keep, fun a ha => ?_, J2.pin, J2.tab, J2.tk, J2.mt, fun i ys a e1 e2 ha => ha.elim (fun z => absurd ⟨i, ys, e1, z ▸ e2⟩ hm) (J2.mx i ys a e1 e2), fun a w => ⟨.inr (J2.wl a w).1, (J2.wl a w).2⟩, J2.k1⟩, hm, hX, h0, hM, J.freshW hp, vs, upd_same, RpL.gr gr r⟩
  · obtain ⟨v, h1, h2⟩ := J.slot i e h
    refine ⟨v, h1, ?_⟩
    cases e with
    | d x => exact Rp.gr gr h2
    | k n =>
      obtain ⟨a, ea, h3⟩ := h2
      exact ⟨a, ea, h3.up fun b u w e => by rw [upd_ne (ne e)]; exact e⟩
    | m ys =>
      obtain ⟨a, ws, h3, h4, h5⟩ := h2
      exact ⟨a, ws, h3, by rw [upd_ne (ne h4)]; exact h4, RpL.gr gr h5⟩
  · rcases J.own a ha with z | ⟨z, zx⟩
    · exact .inl z
    · refine .inr ⟨z, fun w => ?_⟩
      rcases w with w | w
      · subst w; exact hm ha
      · exact zx w
  · rcases ha with rfl | ha
    · exact ⟨_, upd_same, nt_lst vs⟩
    · exact J2.ex a ha
theorem ef_lst (h : EA G tr δ fun as δ1 => ∃ xs, allD as = some xs ∧ xs.length ≤ sizeLine ∧ QF xs δ1) : EF G (tLst tr) δ QF := fun F σ H R I k =>
  h F σ H _ I fun as vs δ1 H1 ⟨xs, e, hl, q⟩ J r => by
    have r2 := allD_ok e r
    exact ⟨by rw [← r2.len]; exact hl, fun p hp => k xs p δ1 _ q (New.mk_ J hp r2)⟩
/-- a new list as data -/
theorem New.give {p : Addr} {xs : List PyData} (N : New G F δ σ H p xs) : EI G F δ σ H ∧ Rp G.K (del H (Sl F δ σ)) (.list xs) (.ref p) := by
  obtain ⟨J, hm, hX, h0, _, wn, vs, hp, r⟩ := N
  have gr : Gr (del H (Sl (F.own p) δ σ)) (del H (Sl F δ σ)) := gr_del fun b u n hb e => ⟨fun z => hb (by
    rcases z with z | z
    · exact .inl z
    · exact .inr (.inr z)), e⟩
  refine ⟨⟨J.len, fun i e h => ?_, J.nd, fun a ha => ?_, J.keep, fun a ha => J.ex a (.inr ha), J.pin, J.tab, J.tk, J.mt, fun i ys a e1 e2 ha => J.mx i ys a e1 e2 (.inr ha), fun a w => ⟨((J.wl a w).1).resolve_left (fun z => wn (z ▸ w)), (J.wl a w).2⟩, J.k1⟩, .lst (del_some.mpr ⟨fun z => z.elim hm hX, hp⟩) (RpL.gr gr r)⟩
  · obtain ⟨v, h1, h2⟩ := J.slot i e h
    refine ⟨v, h1, ?_⟩
    cases e with
    | d x => exact Rp.gr gr h2
    | k n => exact h2
    | m ys =>
      obtain ⟨a, ws, h3, h4, h5⟩ := h2
      exact ⟨a, ws, h3, h4, RpL.gr gr h5⟩
  · rcases J.own a ha with z | ⟨z, zx⟩
    · exact .inl z
    · exact .inr ⟨z, fun w => zx (.inr w)⟩
theorem ed_ef (h : EF G ta δ fun xs δ1 => Q (.list xs) δ1) : ED G ta δ Q := fun F σ H R I k => h F σ H R I fun xs p δ1 H1 q N => k _ _ δ1 H1 q N.give.1 N.give.2
end
end DX


set_option Elab.async false
set_option linter.all false
set_option maxRecDepth 100000
set_option maxHeartbeats 1000000
namespace DX
open PySem PySem.Spec PyProof.Rows L2 GxR GA
open Classical
section
variable {G : Gx} {F : Fx} {δ δ' : DEnv} {σ σ' : L2.St} {H H' : Hp} {ta tb tc : TE} {tr : TA} {Q : PyData → DEnv → Prop}
/-! ### built-ins by their arguments as data -/
theorem ed_cb {r : List V → Hp → VK → Prop} {P : List PyData → DEnv → Prop} (h : EA G tr δ fun as δ1 => ∃ xs, allD as = some xs ∧ P xs δ1)
    (hr : ∀ (F : Fx) (σ : L2.St) (H : Hp) (R : VK) (xs : List PyData) (vs : List V) (δ2 : DEnv), P xs δ2 → EI G F δ2 σ H → RpL G.K (del H (Sl F δ2 σ)) xs vs →
      (∀ d w δ' H', Q d δ' → EI G F δ' σ H' → Rp G.K (del H' (Sl F δ' σ)) d w → R w H') → r vs H R) : ED G (tCB r tr) δ Q := fun F σ H R I k =>
  h F σ H _ I fun as vs δ1 H1 ⟨xs, e, q⟩ J r1 => hr F σ H1 R xs vs δ1 q J (allD_ok e r1) k
def rLenS (K : PySem.W.Frag) : List V → Hp → VK → Prop := fun xs H Q => ∃ p ys, xs = [.ref p] ∧ (SqL K H p ys ∨ SqT K H p ys) ∧ Q (.int ys.length) H
theorem c_len {X : Cx} : CallR X (.builtin "len") (rLenS X.K) := call_len_seq
def seqD : PyData → Option (List PyData)
  | .list xs => some xs
  | .tuple xs => some xs
  | .dict [(.none, .list xs)] => some xs
  | _ => none
theorem rp_seq {K : PySem.W.Frag} {M : Addr → Prop} {x : PyData} {xs : List PyData} {v : V} (e : seqD x = some xs) (r : Rp K (del H M) x v) : ∃ p ys, v = .ref p ∧ (SqL K H p ys ∨ SqT K H p ys) ∧ RpL K (del H M) xs ys := by
  cases r with
  | lst h1 r3 =>
    cases e
    exact ⟨_, _, rfl, .inl (SqL.of (del_some.mp h1).2), r3⟩
  | tup h1 r3 =>
    cases e
    exact ⟨_, _, rfl, .inr (SqT.gr gr_out h1), r3⟩
  | scr h1 =>
    cases e
    exact ⟨_, _, rfl, .inl (SqL.gr gr_out h1), rp_of_ints _⟩
  | _ => cases e
def lenD (x : PyData) : Option Nat := (seqD x).map List.length
theorem ed_len (h : EA G tr δ fun as δ1 => ∃ xs, allD as = some xs ∧ ∃ x n, xs = [x] ∧ lenD x = some n ∧ Q (.int n) δ1) : ED G (tCB (rLenS G.K) tr) δ Q :=
  ed_cb h fun F σ H R xs vs δ2 ⟨x, n, e1, e2, q⟩ I r k => by
    subst e1
    obtain ⟨r1, r2⟩ := r
    rename_i r1 r2
    cases r2
    unfold lenD at e2
    cases e : seqD x with
    | none => rw [e] at e2; cases e2
    | some ys =>
      rw [e] at e2
      cases e2
      obtain ⟨p, zs, rfl, h1, h2⟩ := rp_seq e r1
      refine ⟨p, zs, rfl, h1, ?_⟩
      rw [← h2.len]
      exact k _ _ δ2 H q I (.int _)
/-- the length of a slot's own list -/
theorem ed_lenM {i : Nat} {xs : List PyData} (hi : δ[i]? = some (some (E.m xs))) (q : Q (.int xs.length) δ) : ED G (tCB (rLenS G.K) (tCons (tVar i) tNil)) δ Q := fun F σ H R I k => by
  obtain ⟨v, h1, a, vs, e, h2, h3⟩ := I.slot i _ hi
  subst e
  refine ⟨_, h1, a, vs, rfl, .inl (SqL.of h2), ?_⟩
  rw [← h3.len]
  exact k _ _ δ H q I (.int _)
def rMax2 : List V → Hp → VK → Prop := fun xs H Q => ∃ i j, xs = [.int i, .int j] ∧ Q (.int (if j > i then j else i)) H
def rMin2 : List V → Hp → VK → Prop := fun xs H Q => ∃ i j, xs = [.int i, .int j] ∧ Q (.int (if j < i then j else i)) H
theorem c_max2 {X : Cx} (hc : X.calm = true) : CallR X (.builtin "max") rMax2 := call_max2 hc
theorem c_min2 {X : Cx} (hc : X.calm = true) : CallR X (.builtin "min") rMin2 := call_min2 hc
theorem ed_max2 (h : EA G tr δ fun as δ1 => ∃ xs, allD as = some xs ∧ ∃ i j, xs = [.int i, .int j] ∧ Q (.int (if j > i then j else i)) δ1) : ED G (tCB rMax2 tr) δ Q :=
  ed_cb h fun F σ H R xs vs δ2 ⟨i, j, e1, q⟩ I r k => by
    subst e1
    cases r with
    | cons r1 r => cases r with
      | cons r2 r => cases r; cases r1; cases r2; exact ⟨i, j, rfl, k _ _ δ2 H q I (.int _)⟩
theorem ed_min2 (h : EA G tr δ fun as δ1 => ∃ xs, allD as = some xs ∧ ∃ i j, xs = [.int i, .int j] ∧ Q (.int (if j < i then j else i)) δ1) : ED G (tCB rMin2 tr) δ Q :=
  ed_cb h fun F σ H R xs vs δ2 ⟨i, j, e1, q⟩ I r k => by
    subst e1
    cases r with
    | cons r1 r => cases r with
      | cons r2 r => cases r; cases r1; cases r2; exact ⟨i, j, rfl, k _ _ δ2 H q I (.int _)⟩
def rInt1 : List V → Hp → VK → Prop := fun xs H Q => (∃ i, xs = [.int i] ∧ Q (.int i) H) ∨ ∃ k, xs = [.bl k] ∧ Q (.int (if k then 1 else 0)) H
theorem c_int1 {X : Cx} : CallR X (.type "int") rInt1 := call_int1
theorem ed_intB (h : EA G tr δ fun as δ1 => ∃ xs, allD as = some xs ∧ ∃ b, xs = [.bool b] ∧ Q (.int (if b then 1 else 0)) δ1) : ED G (tCB rInt1 tr) δ Q :=
  ed_cb h fun F σ H R xs vs δ2 ⟨b, e1, q⟩ I r k => by
    subst e1
    cases r with
    | cons r1 r => cases r; cases r1; exact .inr ⟨b, rfl, k _ _ δ2 H q I (.int _)⟩
def rList1 (K : PySem.W.Frag) : List V → Hp → VK → Prop := fun xs H Q => ∃ p ys, xs = [.ref p] ∧ (SqL K H p ys ∨ SqT K H p ys) ∧ ∀ l, H l = none → Q (.ref l) (upd H l (.lst ys))
theorem c_list1 {X : Cx} : CallR X (.type "list") (rList1 X.K) := call_list_of
theorem ef_list1 {QF : List PyData → DEnv → Prop} (h : EA G tr δ fun as δ1 => ∃ x xs, allD as = some [x] ∧ seqD x = some xs ∧ QF xs δ1) : EF G (tCB (rList1 G.K) tr) δ QF := fun F σ H R I k =>
  h F σ H _ I fun as vs δ1 H1 ⟨x, xs, e, e2, q⟩ J r1 => by
    have r2 := allD_ok e r1
    cases r2 with
    | cons r3 r4 =>
      cases r4
      obtain ⟨p, ys, rfl, h1, h2⟩ := rp_seq e2 r3
      exact ⟨p, ys, rfl, h1, fun l hl => k xs l δ1 _ q (New.mk_ J hl h2)⟩
def rAllL (K : PySem.W.Frag) : List V → Hp → VK → Prop := rAll K
theorem rp_bools {K : PySem.W.Frag} : ∀ {bs : List Bool} {vs : List V}, RpL K H (bs.map PyData.bool) vs → vs = bs.map V.bl
  | [], _, .nil => rfl
  | b :: bs, _, .cons r t => by
    cases r
    rw [rp_bools t]
    rfl
theorem rp_ints {K : PySem.W.Frag} : ∀ {ns : List Int} {vs : List V}, RpL K H (ns.map PyData.int) vs → vs = ns.map V.int
  | [], _, .nil => rfl
  | b :: bs, _, .cons r t => by
    cases r
    rw [rp_ints t]
    rfl
theorem ed_all (h : EA G tr δ fun as δ1 => ∃ bs : List Bool, allD as = some [.list (bs.map PyData.bool)] ∧ Q (.bool (bs.all id)) δ1) : ED G (tCB (rAll G.K) tr) δ Q := fun F σ H R I k =>
  h F σ H _ I fun as vs δ1 H1 ⟨bs, e, q⟩ J r1 => by
    have r2 := allD_ok e r1
    cases r2 with
    | cons r3 r4 =>
      cases r4
      cases r3 with
      | lst h1 r5 => exact ⟨_, bs, rfl, by rw [← rp_bools r5]; exact SqL.of (del_some.mp h1).2, k _ _ δ1 H1 q J (.bl _)⟩
theorem ed_maxL (h : EA G tr δ fun as δ1 => ∃ ns : List Int, allD as = some [.list (ns.map PyData.int)] ∧ 0 < ns.length ∧ ∀ m ∈ ns, (∀ y ∈ ns, y ≤ m) → Q (.int m) δ1) : ED G (tCB (rMax G.K) tr) δ Q := fun F σ H R I k =>
  h F σ H _ I fun as vs δ1 H1 ⟨bs, e, hl, q⟩ J r1 => by
    have r2 := allD_ok e r1
    cases r2 with
    | cons r3 r4 =>
      cases r4
      cases r3 with
      | lst h1 r5 => exact ⟨_, bs, rfl, by rw [← rp_ints r5]; exact SqL.of (del_some.mp h1).2, hl, fun m hm hle => k _ _ δ1 H1 (q m hm hle) J (.int _)⟩
/-! ### isinstance -/
def tyD : PyData → String
  | .none => "NoneType"
  | .bool _ => "bool"
  | .int _ => "int"
  | .str _ => "str"
  | .list _ => "list"
  | .tuple _ => "tuple"
  | .dict [(.none, .list _)] => "list"
  | .dict _ => "dict"
theorem rp_ty {K : PySem.W.Frag} {M : Addr → Prop} {x : PyData} {v : V} (r : Rp K (del H M) x v) : TyX K H v (.type (tyD x)) := by
  cases r with
  | non => exact .base .non
  | bl b => exact .base (.bl b)
  | int b => exact .base (.int b)
  | str b => exact .base (.str b)
  | lst h _ => exact .base (.lst (del_some.mp h).2)
  | tup h _ =>
    rcases SqT.gr gr_out h with (h | ⟨o, h⟩) | ⟨o, its, n, h, hc, _⟩
    · exact .base (.tup h)
    · exact .fTuple h
    · exact .kTuple h hc
  | dct h => exact .base (.dK (del_some.mp h).2)
  | scr h =>
    rcases SqL.gr gr_out h with (h | ⟨o, h⟩) | ⟨o, its, n, h, hc, _⟩
    · exact .base (.lst h)
    · exact .base (.frz h)
    · exact .kList h hc
theorem tyD_all (x : PyData) : tyD x = "NoneType" ∨ tyD x = "bool" ∨ tyD x = "int" ∨ tyD x = "str" ∨ tyD x = "list" ∨ tyD x = "tuple" ∨ tyD x = "dict" := by
  unfold tyD
  split <;> simp
/-- isinstance of a built-in class -/
def isD (T : String) (x : PyData) : Bool := tyD x == T || (T == "int" && tyD x == "bool")
theorem kit_is {K : PySem.W.Frag} {T : String} (hT : T ∈ ["int", "bool", "str", "list", "tuple", "dict"]) (x : PyData) : PySem.W.kitOne K (.type (tyD x)) (.type T) = some (isD T x) := by
  simp only [List.mem_cons, List.not_mem_nil, or_false] at hT
  rcases hT with rfl | rfl | rfl | rfl | rfl | rfl <;> rcases tyD_all x with e | e | e | e | e | e | e <;> (unfold isD; rw [e]; rfl)
theorem ed_isi {T : String} (hT : T ∈ ["int", "bool", "str", "list", "tuple", "dict"]) (h : ED G ta δ fun x δ1 => Q (.bool (isD T x)) δ1) : ED G (tCB (rIsi G.K) (tCons ta (tCons (tC (.ty T)) tNil))) δ Q := fun F σ H R I k =>
  h F σ H _ I fun x v δ1 H1 q J r => ⟨v, .ty T, _, _, _, rfl, .ty T, rp_ty r, kit_is hT x, k _ _ δ1 H1 q J (.bl _)⟩
theorem kit_any {K : PySem.W.Frag} (x : PyData) : PySem.W.kitAny K (.type (tyD x)) [.type "list", .type "tuple"] = some (isD "list" x || isD "tuple" x) := by
  rcases tyD_all x with e | e | e | e | e | e | e <;> (unfold isD; rw [e]; rfl)
theorem ed_isiLT (h : ED G ta δ fun x δ1 => Q (.bool (isD "list" x || isD "tuple" x)) δ1) : ED G (tCB (rIsiT G.K) (tCons ta (tCons (tTup (tCons (tC (.ty "list")) (tCons (tC (.ty "tuple")) tNil))) tNil))) δ Q := fun F σ H R I k =>
  h F σ H _ I fun x v δ1 H1 q J r => by
    refine ⟨by show 2 ≤ sizeLine; decide, fun p hp => ?_⟩
    have J2 := J.laid hp (nt_tup [.ty "list", .ty "tuple"])
    have r2 := r.gr (gr_laid (o := .tup [.ty "list", .ty "tuple"]) hp)
    exact ⟨v, p, _, _, _, _, rfl, upd_same, .cons (.ty _) (.cons (.ty _) .nil), rp_ty r2, kit_any x, k _ _ δ1 _ q J2 (.bl _)⟩
/-! ### subscripts -/
theorem atI_rp {K : PySem.W.Frag} {xs : List PyData} {vs : List V} {i : Int} {x : PyData} (r : RpL K H xs vs) (h : atI xs i = some x) : ∃ v, atI vs i = some v ∧ Rp K H x v := by
  unfold atI at h ⊢
  rw [← r.len]
  cases e : ixN xs.length i with
  | none => rw [e] at h; cases h
  | some j =>
    rw [e] at h
    exact r.get h
theorem ed_ix (h : ED G ta δ fun x δ1 => ED G tb δ1 fun y δ2 => ∃ xs i d, seqD x = some xs ∧ y = .int i ∧ atI xs i = some d ∧ Q d δ2) : ED G (tOp (rIx G.K) ta tb) δ Q :=
  ed_two h fun F σ H R x y u v δ2 ⟨xs, i, d, e1, e2, e3, q⟩ I r1 r2 k => by
    subst e2
    cases r2
    obtain ⟨p, ys, rfl, h1, h2⟩ := rp_seq e1 r1
    obtain ⟨w, h3, h4⟩ := atI_rp h2 e3
    rcases h1 with h1 | h1
    · exact .inl ⟨p, ys, i, w, rfl, rfl, h1, h3, k _ _ δ2 H q I h4⟩
    · exact .inr (.inl ⟨p, ys, i, w, rfl, rfl, h1, h3, k _ _ δ2 H q I h4⟩)
/-- of a slot's own list -/
theorem ed_ixM {i : Nat} {xs : List PyData} (hi : δ[i]? = some (some (E.m xs))) (h : ED G tb δ fun y δ2 => δ2 = δ ∧ ∃ j d, y = .int j ∧ atI xs j = some d ∧ Q d δ) : ED G (tOp (rIx G.K) (tVar i) tb) δ Q := fun F σ H R I k => by
  obtain ⟨v, h1, _⟩ := I.slot i _ hi
  refine ⟨v, h1, h.go I fun y w δ2 H2 ⟨e0, j, d, e1, e2, q⟩ s2 r2 => ?_⟩
  subst e0 e1
  cases r2
  obtain ⟨v', h1', a, vs, e, h2, h3⟩ := s2.ei.slot i _ hi
  rw [h1] at h1'
  cases h1'
  subst e
  obtain ⟨u, h4, h5⟩ := atI_rp h3 e2
  exact .inl ⟨a, vs, j, u, rfl, rfl, SqL.of h2, h4, k _ _ _ H2 q s2.ei h5⟩
/-! ### slices -/
def DO (G : Gx) (t : TO) (δ : DEnv) (Q : Option Int → DEnv → Prop) : Prop :=
  ∀ (F : Fx) (σ : L2.St) (H : Hp) (R : Option Int → Hp → Prop), EI G F δ σ H → (∀ o δ' H', Q o δ' → Since G F δ σ H δ' σ H' → R o H') → t σ H R
theorem EI.here (I : EI G F δ σ H) : Since G F δ σ H δ σ H := I.since I.now
theorem do_none {QO : Option Int → DEnv → Prop} (q : QO none δ) : DO G tNoPart δ QO := fun F σ H R I k => k none δ H q I.here
theorem do_some {QO : Option Int → DEnv → Prop} (h : ED G ta δ fun x δ1 => ∃ i, x = .int i ∧ QO (some i) δ1) : DO G (tPart ta) δ QO := fun F σ H R I k =>
  h.go I fun x v δ1 H1 ⟨i, e, q⟩ s1 r => by
    subst e
    cases r
    exact ⟨i, rfl, k _ δ1 H1 q s1⟩
def cutD (xs : List PyData) (lo hi : Option Int) : List PyData := (xs.drop (HT.sIx xs.length 0 lo)).take (HT.sIx xs.length xs.length hi - HT.sIx xs.length 0 lo)
theorem cut_rp {K : PySem.W.Frag} {xs : List PyData} {vs : List V} {lo hi : Option Int} (r : RpL K H xs vs) : RpL K H (cutD xs lo hi) (cutV vs lo hi) := by
  unfold cutD cutV
  rw [← r.len]
  exact (r.drop _).take _
theorem ef_slice {tl th : TO} {QF : List PyData → DEnv → Prop} (h : ED G ta δ fun x δ1 => DO G tl δ1 fun lo δ2 => DO G th δ2 fun hi δ3 => ∃ xs, x = .list xs ∧ QF (cutD xs lo hi) δ3) : EF G (tSl (rSlL G.K) ta tl th) δ QF := fun F σ H R I k =>
  h.go I fun x v δ1 H1 q1 s1 r1 => q1 F σ H1 _ s1.ei fun lo δ2 H2 q2 s2 => q2 F σ H2 _ s2.ei fun hi δ3 H3 ⟨xs, e, q3⟩ s3 => by
    subst e
    have r2 := (r1.gr s2.gr).gr s3.gr
    cases r2 with
    | lst h1 r3 => exact ⟨_, _, rfl, SqL.of (del_some.mp h1).2, fun p hp => k _ p δ3 _ q3 (New.mk_ s3.ei hp (cut_rp r3))⟩
/-! ### + and * of lists -/
theorem ef_cat {QF : List PyData → DEnv → Prop} (h : ED G ta δ fun x δ1 => ED G tb δ1 fun y δ2 => ∃ xs ys, x = .list xs ∧ y = .list ys ∧ xs.length + ys.length ≤ sizeLine ∧ QF (xs ++ ys) δ2) : EF G (tOp rCat ta tb) δ QF := fun F σ H R I k =>
  h.go I fun x u δ1 H1 q1 s1 r1 => q1.go s1.ei fun y v δ2 H2 ⟨xs, ys, e1, e2, hl, q⟩ s2 r2 => by
    subst e1 e2
    have r1 := r1.gr s2.gr
    cases r1 with
    | lst h1 r3 => cases r2 with
      | lst h2 r4 => exact ⟨_, _, _, _, rfl, rfl, (del_some.mp h1).2, (del_some.mp h2).2, by rw [← r3.len, ← r4.len]; exact hl, fun p hp => k _ p δ2 _ q (New.mk_ s2.ei hp (r3.app r4))⟩
end
end DX


set_option Elab.async false
set_option linter.all false
set_option maxRecDepth 100000
set_option maxHeartbeats 1000000
namespace DX
open PySem PySem.Spec PyProof.Rows L2 GxR GA
open Classical
/-! ### storing to slots -/
section
variable {G : Gx} {F : Fx} {δ δ' : DEnv} {σ σ' : L2.St} {H H' : Hp} {ta tb tc : TE} {tr : TA} {Q : PyData → DEnv → Prop}
theorem get_set {α : Type} {l : List α} {i j : Nat} {a b : α} (h : (l.set i a)[j]? = some b) : (j = i ∧ b = a ∧ i < l.length) ∨ (j ≠ i ∧ l[j]? = some b) := by
  by_cases e : i = j
  · subst e
    by_cases hl : i < l.length
    · rw [List.getElem?_set_self hl] at h
      cases h
      exact .inl ⟨rfl, rfl, hl⟩
    · rw [List.getElem?_eq_none (by rw [List.length_set]; omega)] at h
      cases h
  · rw [List.getElem?_set_ne e] at h
    exact .inr ⟨fun z => e z.symm, h⟩
/-- a store of data: who owned a list there gives it up -/
theorem MA.set_d {i : Nat} {x : Option E} {v : Option V} (hx : ∀ xs, x ≠ some (E.m xs)) {a : Addr} (h : MA (δ.set i x) (σ.set i v) a) : MA δ σ a ∧ ∃ j xs, j ≠ i ∧ δ[j]? = some (some (E.m xs)) ∧ σ[j]? = some (some (V.ref a)) := by
  obtain ⟨j, xs, h1, h2⟩ := h
  rcases get_set h1 with ⟨_, e, _⟩ | ⟨ne, h3⟩
  · exact absurd e.symm (hx xs)
  · rw [List.getElem?_set_ne (fun z => ne z.symm)] at h2
    exact ⟨⟨j, xs, h3, h2⟩, j, xs, ne, h3, h2⟩
theorem EI.set_d {i : Nat} {d : PyData} {v : V} (I : EI G F δ σ H) (hp : i ∉ G.pn) (r : Rp G.K (del H (Sl F δ σ)) d v) : EI G F (δ.set i (some (.d d))) (σ.set i (some v)) H := by
  have gr : Gr (del H (Sl F δ σ)) (del H (Sl F (δ.set i (some (.d d))) (σ.set i (some v)))) := gr_del fun b u n hb e => ⟨fun z => hb (z.imp (fun z => (MA.set_d (fun _ q => by cases q) z).1) id), e⟩
  refine ⟨by rw [List.length_set, List.length_set]; exact I.len, fun j e h => ?_, fun j k xs ys a h1 h2 h3 h4 => ?_, fun a ha => I.own a (MA.set_d (fun _ q => by cases q) ha).1, I.keep, I.ex, fun j hj => ?_, I.tab, I.tk, I.mt, fun j ys a e1 e2 ha => by
    rcases get_set e1 with ⟨_, e, _⟩ | ⟨ne, h1⟩
    · cases e
    · rw [List.getElem?_set_ne (fun z => ne z.symm)] at e2
      exact I.mx j ys a h1 e2 ha, fun a w => ⟨(I.wl a w).1, fun z => (I.wl a w).2 (MA.set_d (fun _ q => by cases q) z).1⟩, I.k1.set (fun _ q => by cases q)⟩
  · rcases get_set h with ⟨rfl, e1, hl⟩ | ⟨ne, h1⟩
    · cases e1
      exact ⟨v, by rw [List.getElem?_set_self (by rw [← I.len]; exact hl)], r.gr gr⟩
    · obtain ⟨w, h2, h3⟩ := I.slot j e h1
      refine ⟨w, by rw [List.getElem?_set_ne (fun z => ne z.symm)]; exact h2, ?_⟩
      cases e with
      | d x => exact Rp.gr gr h3
      | k n => exact h3
      | m ys =>
        obtain ⟨a, ws, h4, h5, h6⟩ := h3
        exact ⟨a, ws, h4, h5, RpL.gr gr h6⟩
  · rcases get_set h1 with ⟨_, e, _⟩ | ⟨n1, h1⟩
    · cases e
    · rcases get_set h2 with ⟨_, e, _⟩ | ⟨n2, h2⟩
      · cases e
      · rw [List.getElem?_set_ne (fun z => n1 z.symm)] at h3
        rw [List.getElem?_set_ne (fun z => n2 z.symm)] at h4
        exact I.nd j k xs ys a h1 h2 h3 h4
  · rw [List.getElem?_set_ne (fun z : i = j => hp (by rw [z]; exact hj))]
    exact I.pin j hj
/-- forgetting a slot -/
theorem EI.set_n {i : Nat} {v : Option V} (I : EI G F δ σ H) (hp : i ∉ G.pn) : EI G F (δ.set i none) (σ.set i v) H := by
  have gr : Gr (del H (Sl F δ σ)) (del H (Sl F (δ.set i none) (σ.set i v))) := gr_del fun b u n hb e => ⟨fun z => hb (z.imp (fun z => (MA.set_d (fun _ q => by cases q) z).1) id), e⟩
  refine ⟨by rw [List.length_set, List.length_set]; exact I.len, fun j e h => ?_, fun j k xs ys a h1 h2 h3 h4 => ?_, fun a ha => I.own a (MA.set_d (fun _ q => by cases q) ha).1, I.keep, I.ex, fun j hj => ?_, I.tab, I.tk, I.mt, fun j ys a e1 e2 ha => by
    rcases get_set e1 with ⟨_, e, _⟩ | ⟨ne, h1⟩
    · cases e
    · rw [List.getElem?_set_ne (fun z => ne z.symm)] at e2
      exact I.mx j ys a h1 e2 ha, fun a w => ⟨(I.wl a w).1, fun z => (I.wl a w).2 (MA.set_d (fun _ q => by cases q) z).1⟩, I.k1.set (fun _ q => by cases q)⟩
  · rcases get_set h with ⟨rfl, e1, hl⟩ | ⟨ne, h1⟩
    · cases e1
    · obtain ⟨w, h2, h3⟩ := I.slot j e h1
      refine ⟨w, by rw [List.getElem?_set_ne (fun z => ne z.symm)]; exact h2, ?_⟩
      cases e with
      | d x => exact Rp.gr gr h3
      | k n => exact h3
      | m ys =>
        obtain ⟨a, ws, h4, h5, h6⟩ := h3
        exact ⟨a, ws, h4, h5, RpL.gr gr h6⟩
  · rcases get_set h1 with ⟨_, e, _⟩ | ⟨n1, h1⟩
    · cases e
    · rcases get_set h2 with ⟨_, e, _⟩ | ⟨n2, h2⟩
      · cases e
      · rw [List.getElem?_set_ne (fun z => n1 z.symm)] at h3
        rw [List.getElem?_set_ne (fun z => n2 z.symm)] at h4
        exact I.nd j k xs ys a h1 h2 h3 h4
  · rw [List.getElem?_set_ne (fun z : i = j => hp (by rw [z]; exact hj))]
    exact I.pin j hj
/-- a new list becomes a slot's own -/
theorem New.take {i : Nat} {xs : List PyData} {p : Addr} (N : New G F δ σ H p xs) (hi : i < δ.length) (hp : i ∉ G.pn) : EI G F (δ.set i (some (.m xs))) (σ.set i (some (.ref p))) H := by
  obtain ⟨J, hm, hX, h0, _, wn, vs, hq, r⟩ := N
  have old : ∀ {a}, MA (δ.set i (some (.m xs))) (σ.set i (some (.ref p))) a → a = p ∨ MA δ σ a := fun {a} ⟨j, ys, h1, h2⟩ => by
    rcases get_set h1 with ⟨e, _, _⟩ | ⟨ne, h3⟩
    · subst e
      rw [List.getElem?_set_self (by rw [← J.len]; exact hi)] at h2
      cases h2
      exact .inl rfl
    · rw [List.getElem?_set_ne (fun z => ne z.symm)] at h2
      exact .inr ⟨j, ys, h3, h2⟩
  have gr : Gr (del H (Sl (F.own p) δ σ)) (del H (Sl F (δ.set i (some (.m xs))) (σ.set i (some (.ref p))))) := gr_del fun b u n hb e => ⟨fun z => hb (by
    rcases z with z | z
    · rcases old z with z | z
      · exact .inr (.inl z)
      · exact .inl z
    · exact .inr (.inr z)), e⟩
  refine ⟨by rw [List.length_set, List.length_set]; exact J.len, fun j e h => ?_, fun j k ys zs a h1 h2 h3 h4 => ?_, fun a ha => ?_, J.keep, fun a ha => J.ex a (.inr ha), fun j hj => ?_, J.tab, J.tk, J.mt, fun j ys a e1 e2 ha => by
    rcases get_set e1 with ⟨e, _, _⟩ | ⟨ne, h1⟩
    · rw [e, List.getElem?_set_self (by rw [← J.len]; exact hi)] at e2
      cases e2
      exact absurd ha hX
    · rw [List.getElem?_set_ne (fun z => ne z.symm)] at e2
      exact J.mx j ys a h1 e2 (.inr ha), fun a w => ⟨((J.wl a w).1).resolve_left (fun z => wn (z ▸ w)), fun z => (old z).elim (fun z => wn (z ▸ w)) (J.wl a w).2⟩, J.k1.set (fun _ q => by cases q)⟩
  · rcases get_set h with ⟨rfl, e1, hl⟩ | ⟨ne, h1⟩
    · cases e1
      exact ⟨.ref p, by rw [List.getElem?_set_self (by rw [← J.len]; exact hl)], p, vs, rfl, hq, RpL.gr gr r⟩
    · obtain ⟨w, h2, h3⟩ := J.slot j e h1
      refine ⟨w, by rw [List.getElem?_set_ne (fun z => ne z.symm)]; exact h2, ?_⟩
      cases e with
      | d x => exact Rp.gr gr h3
      | k n => exact h3
      | m ys =>
        obtain ⟨a, ws, h4, h5, h6⟩ := h3
        exact ⟨a, ws, h4, h5, RpL.gr gr h6⟩
  · have pm : ∀ {j : Nat} {ys : List PyData} {a : Addr}, δ[j]? = some (some (E.m ys)) → (σ.set i (some (V.ref p)))[j]? = some (some (V.ref a)) → j ≠ i → a ≠ p := fun {j ys a} e1 e2 ne z => by
      rw [List.getElem?_set_ne (fun z => ne z.symm)] at e2
      subst z
      exact hm ⟨j, ys, e1, e2⟩
    have me : ∀ {a : Addr}, (σ.set i (some (V.ref p)))[i]? = some (some (V.ref a)) → a = p := fun {a} e => by
      rw [List.getElem?_set_self (by rw [← J.len]; exact hi)] at e
      cases e; rfl
    rcases get_set h1 with ⟨e1, _, _⟩ | ⟨n1, g1⟩
    · rcases get_set h2 with ⟨e2, _, _⟩ | ⟨n2, g2⟩
      · rw [e1, e2]
      · rw [e1] at h3
        exact absurd (me h3) (pm g2 h4 n2)
    · rcases get_set h2 with ⟨e2, _, _⟩ | ⟨n2, g2⟩
      · rw [e2] at h4
        exact absurd (me h4) (pm g1 h3 n1)
      · rw [List.getElem?_set_ne (fun z => n1 z.symm)] at h3
        rw [List.getElem?_set_ne (fun z => n2 z.symm)] at h4
        exact J.nd j k ys zs a g1 g2 h3 h4
  · rcases old ha with rfl | ha
    · exact .inr ⟨h0, hX⟩
    · rcases J.own a ha with z | ⟨z, zx⟩
      · exact .inl z
      · exact .inr ⟨z, fun w => zx (.inr w)⟩
  · rw [List.getElem?_set_ne (fun z : i = j => hp (by rw [z]; exact hj))]
    exact J.pin j hj
/-- a slot's own list becomes data -/
theorem EI.freeze {i : Nat} {xs : List PyData} (I : EI G F δ σ H) (h : δ[i]? = some (some (E.m xs))) (hp : i ∉ G.pn) : EI G F (δ.set i (some (.d (.list xs)))) σ H := by
  obtain ⟨v, h1, a, vs, e, h2, h3⟩ := I.slot i _ h
  subst e
  have old : ∀ {b}, MA (δ.set i (some (.d (.list xs)))) σ b → MA δ σ b ∧ b ≠ a := fun {b} ⟨j, ys, e1, e2⟩ => by
    rcases get_set e1 with ⟨_, e, _⟩ | ⟨ne, e3⟩
    · cases e
    · exact ⟨⟨j, ys, e3, e2⟩, fun z => ne (I.nd j i ys xs a e3 h (z ▸ e2) h1)⟩
  have hX : ¬ F.X0 a := fun z => hp (I.mx i xs a h h1 z)
  have gr : Gr (del H (Sl F δ σ)) (del H (Sl F (δ.set i (some (.d (.list xs)))) σ)) := gr_del fun b u n hb e => ⟨fun z => hb (z.imp (fun z => (old z).1) id), e⟩
  refine ⟨by rw [List.length_set]; exact I.len, fun j e h4 => ?_, fun j k ys zs b e1 e2 e3 e4 => ?_, fun b hb => I.own b (old hb).1, I.keep, I.ex, I.pin, I.tab, I.tk, I.mt, fun j ys b e1 e2 ha => by
    rcases get_set e1 with ⟨_, e, _⟩ | ⟨ne, h1⟩
    · cases e
    · exact I.mx j ys b h1 e2 ha, fun a w => ⟨(I.wl a w).1, fun z => (I.wl a w).2 (old z).1⟩, I.k1.set (fun _ q => by cases q)⟩
  · rcases get_set h4 with ⟨rfl, e1, hl⟩ | ⟨ne, e1⟩
    · cases e1
      exact ⟨_, h1, .lst (del_some.mpr ⟨fun z => z.elim (fun z => (old z).2 rfl) hX, h2⟩) (RpL.gr gr h3)⟩
    · obtain ⟨w, e2, e3⟩ := I.slot j e e1
      refine ⟨w, e2, ?_⟩
      cases e with
      | d x => exact Rp.gr gr e3
      | k n => exact e3
      | m ys =>
        obtain ⟨b, ws, h4, h5, h6⟩ := e3
        exact ⟨b, ws, h4, h5, RpL.gr gr h6⟩
  · rcases get_set e1 with ⟨_, e, _⟩ | ⟨n1, e1⟩
    · cases e
    · rcases get_set e2 with ⟨_, e, _⟩ | ⟨n2, e2⟩
      · cases e
      · exact I.nd j k ys zs b e1 e2 e3 e4
/-- a slot gives its own list away -/
theorem EI.release {i : Nat} {xs : List PyData} {a : Addr} (I : EI G F δ σ H) (h : δ[i]? = some (some (E.m xs))) (h1 : σ[i]? = some (some (V.ref a))) (hM : ¬ F.M0 a) : New G F (δ.set i none) σ H a xs := by
  obtain ⟨v, e1, b, vs, e, h2, h3⟩ := I.slot i _ h
  subst e
  rw [h1] at e1
  cases e1
  have hma : MA δ σ a := ⟨i, xs, h, h1⟩
  have old : ∀ {b}, MA (δ.set i none) σ b → MA δ σ b ∧ b ≠ a := fun {b} ⟨j, ys, e1, e2⟩ => by
    rcases get_set e1 with ⟨_, e, _⟩ | ⟨ne, e3⟩
    · cases e
    · exact ⟨⟨j, ys, e3, e2⟩, fun z => ne (I.nd j i ys xs a e3 h (z ▸ e2) h1)⟩
  obtain ⟨h0, hX⟩ := (I.own a hma).resolve_left hM
  have gr : Gr (del H (Sl F δ σ)) (del H (Sl (F.own a) (δ.set i none) σ)) := gr_del fun b u n hb e => ⟨fun z => hb (by
    rcases z with z | z | z
    · exact .inl (old z).1
    · exact .inl (z ▸ hma)
    · exact .inr z), e⟩
  refine ⟨⟨by rw [List.length_set]; exact I.len, fun j e h4 => ?_, fun j k ys zs b e1 e2 e3 e4 => ?_, fun b hb => ?_, I.keep, fun b hb => ?_, I.pin, I.tab, I.tk, I.mt, fun j ys b e1 e2 hb => by
    rcases hb with hb | hb
    · exact absurd hb (old ⟨j, ys, e1, e2⟩).2
    · rcases get_set e1 with ⟨_, e, _⟩ | ⟨ne, h1⟩
      · cases e
      · exact I.mx j ys b h1 e2 hb, fun b w => ⟨.inr (I.wl b w).1, fun z => (I.wl b w).2 (old z).1⟩, I.k1.set (fun _ q => by cases q)⟩, fun z => (old z).2 rfl, hX, h0, hM, fun w => (I.wl a w).2 hma, vs, h2, RpL.gr gr h3⟩
  · rcases get_set h4 with ⟨_, e1, _⟩ | ⟨ne, e1⟩
    · cases e1
    · obtain ⟨w, e2, e3⟩ := I.slot j e e1
      refine ⟨w, e2, ?_⟩
      cases e with
      | d x => exact Rp.gr gr e3
      | k n => exact e3
      | m ys =>
        obtain ⟨b, ws, h4, h5, h6⟩ := e3
        exact ⟨b, ws, h4, h5, RpL.gr gr h6⟩
  · rcases get_set e1 with ⟨_, e, _⟩ | ⟨n1, e1⟩
    · cases e
    · rcases get_set e2 with ⟨_, e, _⟩ | ⟨n2, e2⟩
      · cases e
      · exact I.nd j k ys zs b e1 e2 e3 e4
  · rcases I.own b (old hb).1 with z | ⟨z, zx⟩
    · exact .inl z
    · refine .inr ⟨z, fun w => ?_⟩
      rcases w with w | w
      · exact (old hb).2 w
      · exact zx w
  · rcases hb with hb | hb
    · exact ⟨_, (congrArg H hb).trans h2, nt_lst _⟩
    · exact I.ex b hb
/-- a slot's own list is changed -/
theorem EI.write {i : Nat} {xs ys : List PyData} {vs ws : List V} {a : Addr} (I : EI G F δ σ H) (h : δ[i]? = some (some (E.m xs))) (h1 : σ[i]? = some (some (V.ref a))) (h2 : H a = some (.lst vs)) (r : RpL G.K (del H (Sl F δ σ)) ys ws) :
    EI G F (δ.set i (some (.m ys))) σ (upd H a (.lst ws)) := by
  have hma : MA δ σ a := ⟨i, xs, h, h1⟩
  have old : ∀ {b}, MA (δ.set i (some (.m ys))) σ b → MA δ σ b := fun {b} ⟨j, zs, e1, e2⟩ => by
    rcases get_set e1 with ⟨e0, e, _⟩ | ⟨ne, e3⟩
    · subst e0
      exact ⟨j, xs, h, e2⟩
    · exact ⟨j, zs, e3, e2⟩
  have gr : Gr (del H (Sl F δ σ)) (del (upd H a (.lst ws)) (Sl F (δ.set i (some (.m ys))) σ)) := gr_del fun b u n hb e => ⟨fun z => hb (z.imp old id), by
    have ne : b ≠ a := fun z => hb (.inl (z ▸ hma))
    rw [upd_ne ne]; exact e⟩
  refine ⟨by rw [List.length_set]; exact I.len, fun j e h4 => ?_, fun j k zs us b e1 e2 e3 e4 => ?_, fun b hb => I.own b (old hb), fun b u n hb hw e => ?_, fun b hb => ?_, I.pin, fun p hp => ?_, fun b ps e => ?_, fun b hb => ?_, fun j zs b e1 e2 hb => by
    rcases get_set e1 with ⟨e0, _, _⟩ | ⟨ne, g1⟩
    · subst e0
      exact I.mx j xs b h e2 hb
    · exact I.mx j zs b g1 e2 hb, fun b w => ⟨(I.wl b w).1, fun z => (I.wl b w).2 (old z)⟩, I.k1.set (fun _ q => by cases q)⟩
  · rcases get_set h4 with ⟨rfl, e1, hl⟩ | ⟨ne, e1⟩
    · cases e1
      exact ⟨_, h1, a, ws, rfl, upd_same, RpL.gr gr r⟩
    · obtain ⟨w, e2, e3⟩ := I.slot j e e1
      refine ⟨w, e2, ?_⟩
      cases e with
      | d x => exact Rp.gr gr e3
      | k n =>
        obtain ⟨b, eb, h3⟩ := e3
        exact ⟨b, eb, h3.up fun c u w e => by rw [upd_ne (show c ≠ a from fun z => (I.wl c w).2 (by rw [z]; exact hma))]; exact e⟩
      | m zs =>
        obtain ⟨b, us, h4, h5, h6⟩ := e3
        subst h4
        have nb : b ≠ a := fun z => ne (I.nd j i zs xs a e1 h (z ▸ e2) h1)
        exact ⟨b, us, rfl, by rw [upd_ne nb]; exact h5, RpL.gr gr h6⟩
  · have b1 : ∃ z, δ[j]? = some (some (E.m z)) := by
      rcases get_set e1 with ⟨e0, e, _⟩ | ⟨_, e1⟩
      · subst e0; exact ⟨_, h⟩
      · exact ⟨_, e1⟩
    have b2 : ∃ z, δ[k]? = some (some (E.m z)) := by
      rcases get_set e2 with ⟨e0, e, _⟩ | ⟨_, e1⟩
      · subst e0; exact ⟨_, h⟩
      · exact ⟨_, e1⟩
    obtain ⟨z1, b1⟩ := b1
    obtain ⟨z2, b2⟩ := b2
    exact I.nd j k z1 z2 b b1 b2 e3 e4
  · have e1 := I.keep b u n hb hw e
    by_cases hba : b = a
    · subst hba
      rcases I.own b hma with z | ⟨z, _⟩
      · exact absurd z hb
      · rw [z] at e; cases e
    · rw [upd_ne hba]; exact e1
  · by_cases hba : b = a
    · subst hba; exact ⟨_, upd_same, nt_lst _⟩
    · rw [upd_ne hba]; exact I.ex b hb
  · obtain ⟨ps, e, t⟩ := I.tab p hp
    have ne : p ≠ a := fun z => by rw [z, h2] at e; cases e
    exact ⟨ps, by rw [upd_ne ne]; exact e, t⟩
  · obtain ⟨qs, e1⟩ := I.tk b ps e
    have ne : b ≠ a := fun z => by rw [z, h2] at e1; cases e1
    exact ⟨qs, by rw [upd_ne ne]; exact e1⟩
  · by_cases hba : b = a
    · subst hba; exact ⟨_, upd_same⟩
    · rw [upd_ne hba]; exact I.mt b hb
end
end DX


set_option Elab.async false
set_option linter.all false
set_option maxRecDepth 100000
set_option maxHeartbeats 1000000
namespace DX
open PySem PySem.Spec PyProof.Rows L2 GxR GA
open Classical
/-! ### what a def promises, over data -/
abbrev CtP := List PyData → (PyData → Prop) → Prop
abbrev CtT := List PyData → List PyData → (PyData → List PyData → Prop) → Prop
/-- all data in, data out; what stood stands -/
def spP (K : PySem.W.Frag) (cs : List Addr) (C : CtP) : Sp := fun vs H Q _ => ∃ (xs : List PyData) (P : PyData → Prop) (X0 : Addr → Prop), C xs P ∧ RpL K (del H X0) xs vs ∧ (∀ a, X0 a → ∃ o, H a = some o ∧ NT o) ∧ (∀ p ∈ cs, TabG H p) ∧
  ∀ d v H', P d → Rp K (del H' X0) d v → (∀ b o, NT o → H b = some o → H' b = some o) → (∀ b ps, H b = some (.tbl ps) → ∃ qs, H' b = some (.tbl qs)) → (∀ p ∈ cs, TabG H' p) → Q v H'
/-- the first argument a list that changes -/
def spT (K : PySem.W.Frag) (cs : List Addr) (C : CtT) : Sp := fun vs H Q _ => ∃ (a : Addr) (vs' ws : List V) (ts xs : List PyData) (P : PyData → List PyData → Prop) (X0 : Addr → Prop), vs = .ref a :: vs' ∧ H a = some (.lst ws) ∧ RpL K (del H X0) ts ws ∧ X0 a ∧ RpL K (del H X0) xs vs' ∧ C ts xs P ∧
  (∀ a, X0 a → ∃ o, H a = some o ∧ NT o) ∧ (∀ p ∈ cs, TabG H p) ∧
  ∀ d v H' ts' ws', P d ts' → H' a = some (.lst ws') → RpL K (del H' X0) ts' ws' → Rp K (del H' X0) d v → (∀ b o, b ≠ a → NT o → H b = some o → H' b = some o) → (∀ b ps, H b = some (.tbl ps) → ∃ qs, H' b = some (.tbl qs)) → (∀ p ∈ cs, TabG H' p) → Q v H'

section
variable {G : Gx} {F : Fx} {δ δ' : DEnv} {σ σ' : L2.St} {H H' : Hp} {ta tb tc : TE} {tr tk : TA} {Q : PyData → DEnv → Prop}
/-- behind a call that leaves all as it stood -/
theorem EI.called (I : EI G F δ σ H) (kp : ∀ b o, NT o → H b = some o → H' b = some o) (tk : ∀ b ps, H b = some (.tbl ps) → ∃ qs, H' b = some (.tbl qs)) (tb : ∀ p ∈ G.cs, TabG H' p) : EI G F δ σ H' := by
  have gr : Gr (del H (Sl F δ σ)) (del H' (Sl F δ σ)) := gr_del fun b u n hb e => ⟨hb, kp b u n e⟩
  refine ⟨I.len, fun i e h => ?_, I.nd, I.own, fun b o n hb hw e => kp b o n (I.keep b o n hb hw e), fun a ha => ?_, I.pin, tb, fun b ps e => ?_, fun a ha => ?_, I.mx, I.wl, I.k1⟩
  · obtain ⟨v, h1, h2⟩ := I.slot i e h
    refine ⟨v, h1, ?_⟩
    cases e with
    | d x => exact Rp.gr gr h2
    | k n =>
      obtain ⟨b, eb, h3⟩ := h2
      exact ⟨b, eb, h3.up fun c u w e => kp _ _ (nt_lst _) e⟩
    | m ys =>
      obtain ⟨a, ws, h4, h5, h6⟩ := h2
      exact ⟨a, ws, h4, kp _ _ (nt_lst _) h5, RpL.gr gr h6⟩
  · obtain ⟨o, e, n⟩ := I.ex a ha
    exact ⟨o, kp a o n e, n⟩
  · obtain ⟨qs, e1⟩ := I.tk b ps e
    exact tk b qs e1
  · obtain ⟨o, e⟩ := I.mt a ha
    by_cases hn : NT o
    · exact ⟨o, kp a o hn e⟩
    · have : ∃ ps, o = .tbl ps := Classical.byContradiction fun w => hn fun ps e => w ⟨ps, e⟩
      obtain ⟨ps, rfl⟩ := this
      obtain ⟨qs, e⟩ := tk a ps e
      exact ⟨_, e⟩
theorem run_P {C : CtP} {vs : List V} {xs : List PyData} {R : VK} {E' : XK} (J : EI G F δ σ H) (r : RpL G.K (del H (Sl F δ σ)) xs vs) (c : C xs fun d => Q d δ)
    (k : ∀ d v δ' H', Q d δ' → EI G F δ' σ H' → Rp G.K (del H' (Sl F δ' σ)) d v → R v H') : spP G.K G.cs C vs H R E' :=
  ⟨xs, _, Sl F δ σ, c, r, fun a ha => by
    rcases ha with ⟨i, ys, h1, h2⟩ | ha
    · obtain ⟨v, h3, b, ws, h4, h5, _⟩ := J.slot i _ h1
      rw [h2] at h3
      cases h3
      cases h4
      exact ⟨_, h5, nt_lst _⟩
    · exact J.ex a ha, J.tab, fun d v H' p r kp tk tb => k d v δ H' p (J.called kp tk tb) r⟩
theorem ed_callP {C : CtP} (h : EA G tr δ fun as δ1 => ∃ xs, allD as = some xs ∧ C xs fun d => Q d δ1) : ED G (tCall (spP G.K G.cs C) [] E0 tr) δ Q := fun F σ H R I k =>
  h F σ H _ I fun as vs δ1 H1 ⟨xs, e, c⟩ J r1 => by
    show spP G.K G.cs C (vs ++ []) H1 R E0
    rw [List.append_nil]
    exact run_P J (allD_ok e r1) c k
/-- with defaults -/
theorem ed_callPd {C : CtP} {ds : List PyData} {dvs : List V} (hd : ∀ H, RpL G.K H ds dvs) (h : EA G tr δ fun as δ1 => ∃ xs, allD as = some xs ∧ C (xs ++ ds) fun d => Q d δ1) : ED G (tCall (spP G.K G.cs C) dvs E0 tr) δ Q := fun F σ H R I k =>
  h F σ H _ I fun as vs δ1 H1 ⟨xs, e, c⟩ J r1 => run_P J ((allD_ok e r1).app (hd _)) c k
/-- with keywords -/
theorem ed_callPk {C : CtP} {n m : Nat} {gV : List V → List V → List V} {gD : List PyData → List PyData → List PyData} (hg : ∀ {K H xs ys vs ws}, RpL K H xs vs → RpL K H ys ws → RpL K H (gD xs ys) (gV vs ws))
    (h : EA G tr δ fun as δ1 => EA G tk δ1 fun bs δ2 => ∃ xs ys, allD as = some xs ∧ allD bs = some ys ∧ xs.length = n ∧ ys.length = m ∧ C (gD xs ys) fun d => Q d δ2) : ED G (tCallN n m (spP G.K G.cs C) gV E0 tr tk) δ Q := fun F σ H R I k =>
  h.go I fun as vs δ1 H1 q s1 r1 => q.go s1.ei fun bs ws δ2 H2 ⟨xs, ys, e1, e2, l1, l2, c⟩ s2 r2 => by
    have hx := RpL.gr s2.gr (allD_ok e1 r1)
    have hy := allD_ok e2 r2
    exact ⟨hx.len.symm.trans l1, hy.len.symm.trans l2, run_P s2.ei (hg hx hy) c k⟩
/-- the first argument a slot's own list -/
theorem ed_callT {C : CtT} {i : Nat} {ts0 : List PyData} (hi : δ[i]? = some (some (E.m ts0))) (h : EA G tr δ fun as δ1 => ∃ xs ts, allD as = some xs ∧ δ1[i]? = some (some (E.m ts)) ∧ C ts xs fun d ts' => Q d (δ1.set i (some (.m ts')))) :
    ED G (tCall (spT G.K G.cs C) [] E0 (tCons (tVar i) tr)) δ Q := fun F σ H R I k => by
  obtain ⟨v, h1, _⟩ := I.slot i _ hi
  refine ⟨v, h1, h.go I fun as vs δ1 H1 ⟨xs, ts, e, hi1, c⟩ s1 r1 => ?_⟩
  have J := s1.ei
  obtain ⟨v', h1', a, ws, ev, h2, h3⟩ := J.slot i _ hi1
  rw [h1] at h1'
  cases h1'
  subst ev
  show spT G.K G.cs C (V.ref a :: vs ++ []) H1 R E0
  rw [List.append_nil]
  refine ⟨a, vs, ws, ts, xs, _, Sl F δ1 σ, rfl, h2, h3, .inl ⟨i, ts, hi1, h1⟩, allD_ok e r1, c, fun b hb => ?_, J.tab, fun d w H' ts' ws' p ha rt rd kp tkk tb => ?_⟩
  · rcases hb with ⟨j, ys, h4, h5⟩ | hb
    · obtain ⟨v, h6, b', us, h7, h8, _⟩ := J.slot j _ h4
      rw [h5] at h6
      cases h6
      cases h7
      exact ⟨_, h8, nt_lst _⟩
    · exact J.ex b hb
  · have hma : MA δ1 σ a := ⟨i, ts, hi1, h1⟩
    have hit : i < δ1.length := (List.getElem?_eq_some_iff.mp hi1).1
    have old : ∀ {b}, MA (δ1.set i (some (.m ts'))) σ b → MA δ1 σ b := fun {b} ⟨j, zs, e1, e2⟩ => by
      rcases get_set e1 with ⟨e0, e, _⟩ | ⟨ne, e3⟩
      · subst e0
        exact ⟨j, ts, hi1, e2⟩
      · exact ⟨j, zs, e3, e2⟩
    have sub : Gr (del H' (Sl F δ1 σ)) (del H' (Sl F (δ1.set i (some (.m ts'))) σ)) := gr_del fun b u n hb e => ⟨fun z => hb (z.imp old id), e⟩
    have gr : Gr (del H1 (Sl F δ1 σ)) (del H' (Sl F (δ1.set i (some (.m ts'))) σ)) := gr_del fun b u n hb e => ⟨fun z => hb (z.imp old id), kp b u (fun z => hb (.inl (z ▸ hma))) n e⟩
    refine k d w _ H' p ⟨by rw [List.length_set]; exact J.len, fun j e h4 => ?_, fun j l zs us b e1 e2 e3 e4 => ?_, fun b hb => J.own b (old hb), fun b u n hb hw e => ?_, fun b hb => ?_, J.pin, tb, fun b ps e => ?_, fun b hb => ?_, fun j zs b e1 e2 hb => by
      rcases get_set e1 with ⟨e0, _, _⟩ | ⟨ne, g1⟩
      · subst e0
        exact J.mx j ts b hi1 e2 hb
      · exact J.mx j zs b g1 e2 hb, fun b w => ⟨(J.wl b w).1, fun z => (J.wl b w).2 (old z)⟩, J.k1.set (fun _ q => by cases q)⟩ (rd.gr sub)
    · rcases get_set h4 with ⟨e0, e1, hl⟩ | ⟨ne, e1⟩
      · subst e0
        cases e1
        exact ⟨_, h1, a, ws', rfl, ha, RpL.gr sub rt⟩
      · obtain ⟨w2, e2, e3⟩ := J.slot j e e1
        refine ⟨w2, e2, ?_⟩
        cases e with
        | d x => exact Rp.gr gr e3
        | k n =>
          obtain ⟨b, eb, h3⟩ := e3
          exact ⟨b, eb, h3.up fun c u w e => kp _ _ (show c ≠ a from fun z => (J.wl c w).2 (by rw [z]; exact hma)) (nt_lst _) e⟩
        | m zs =>
          obtain ⟨b, us, h4, h5, h6⟩ := e3
          subst h4
          have nb : b ≠ a := fun z => ne (J.nd j i zs ts a e1 hi1 (z ▸ e2) h1)
          exact ⟨b, us, rfl, kp _ _ nb (nt_lst _) h5, RpL.gr gr h6⟩
    · have b1 : ∃ z, δ1[j]? = some (some (E.m z)) := by
        rcases get_set e1 with ⟨e0, e, _⟩ | ⟨_, e1⟩
        · rw [e0]; exact ⟨_, hi1⟩
        · exact ⟨_, e1⟩
      have b2 : ∃ z, δ1[l]? = some (some (E.m z)) := by
        rcases get_set e2 with ⟨e0, e, _⟩ | ⟨_, e1⟩
        · rw [e0]; exact ⟨_, hi1⟩
        · exact ⟨_, e1⟩
      obtain ⟨z1, b1⟩ := b1
      obtain ⟨z2, b2⟩ := b2
      exact J.nd j l z1 z2 b b1 b2 e3 e4
    · have e1 := J.keep b u n hb hw e
      refine kp b u (fun z => ?_) n e1
      rcases J.own b (z ▸ hma) with z | ⟨z, _⟩
      · exact hb z
      · rw [z] at e; cases e
    · by_cases hba : b = a
      · rw [hba]; exact ⟨_, ha, nt_lst _⟩
      · obtain ⟨o, e, n⟩ := J.ex b hb
        exact ⟨o, kp b o hba n e, n⟩
    · obtain ⟨qs, e1⟩ := J.tk b ps e
      exact tkk b qs e1
    · by_cases hba : b = a
      · rw [hba]; exact ⟨_, ha⟩
      · obtain ⟨o, e⟩ := J.mt b hb
        by_cases hn : NT o
        · exact ⟨o, kp b o hba hn e⟩
        · have : ∃ ps, o = .tbl ps := Classical.byContradiction fun w => hn fun ps e => w ⟨ps, e⟩
          obtain ⟨ps, rfl⟩ := this
          obtain ⟨qs, e⟩ := tkk b ps e
          exact ⟨_, e⟩
end
/-! ### a def's body -/
def envP (N : List Str) (xs : List PyData) : DEnv := xs.map (fun x => some (E.d x)) ++ List.replicate (N.length - xs.length) none
def QP (P : PyData → Prop) : Out → Prop
  | .rt d _ => P d
  | .rf xs _ => P (.list xs)
  | .rm i δ => ∃ xs, δ[i]? = some (some (E.m xs)) ∧ P (.list xs)
  | .nx _ => P .none
  | _ => False
theorem start_P {K : PySem.W.Frag} {cs : List Addr} {N : List Str} {vs : List V} {xs : List PyData} {H : Hp} {X0 : Addr → Prop} (r : RpL K (del H X0) xs vs) (ex : ∀ a, X0 a → ∃ o, H a = some o ∧ NT o) (tb : ∀ p ∈ cs, TabG H p) :
    EI ⟨K, cs, []⟩ ⟨H, fun _ => False, X0, L2.start N vs, fun _ => False⟩ (envP N xs) (L2.start N vs) H := by
  have len := r.len
  have noM : ∀ {i : Nat} {ys : List PyData}, (envP N xs)[i]? ≠ some (some (E.m ys)) := fun {i ys} e => by
    unfold envP at e
    by_cases hi : i < (xs.map fun x => some (E.d x)).length
    · rw [List.getElem?_append_left hi, List.getElem?_map] at e
      cases q : xs[i]? with
      | none => rw [q] at e; cases e
      | some x => rw [q] at e; cases e
    · rw [List.getElem?_append_right (by omega), List.getElem?_replicate] at e
      split at e <;> cases e
  have noK : ∀ {i n : Nat}, (envP N xs)[i]? ≠ some (some (E.k n)) := fun {i ys} e => by
    unfold envP at e
    by_cases hi : i < (xs.map fun x => some (E.d x)).length
    · rw [List.getElem?_append_left hi, List.getElem?_map] at e
      cases q : xs[i]? with
      | none => rw [q] at e; cases e
      | some x => rw [q] at e; cases e
    · rw [List.getElem?_append_right (by omega), List.getElem?_replicate] at e
      split at e <;> cases e
  have g0 : Gr (del H X0) (del H fun a => MA (envP N xs) (start N vs) a ∨ X0 a) := gr_del fun b u n hb e => ⟨fun z => hb (z.resolve_left fun ⟨i, ys, h1, _⟩ => noM h1), e⟩
  refine ⟨?_, fun i e h => ?_, fun i j ys zs a h1 => absurd h1 noM, fun a ⟨i, ys, h1, _⟩ => absurd h1 noM, fun b o _ _ _ e => e, ex, fun i hi => rfl, tb, fun b ps e => ⟨ps, e⟩, fun a ha => ha.elim, fun i ys a h1 => absurd h1 noM, fun a w => w.elim, fun i j n m h => absurd h noK⟩
  · unfold envP L2.start
    simp only [List.length_append, List.length_map, List.length_replicate, len]
  · cases e with
    | m ys => exact absurd h noM
    | k n => exact absurd h noK
    | d x =>
      unfold envP at h
      by_cases hi : i < (xs.map fun x => some (E.d x)).length
      · rw [List.getElem?_append_left hi, List.getElem?_map] at h
        cases q : xs[i]? with
        | none => rw [q] at h; cases h
        | some y =>
          rw [q] at h
          cases h
          obtain ⟨v, h1, h2⟩ := r.get q
          refine ⟨v, ?_, h2.gr g0⟩
          unfold L2.start
          have hi2 : i < vs.length := (List.getElem?_eq_some_iff.mp h1).1
          rw [List.getElem?_append_left (by rw [List.length_map]; exact hi2), List.getElem?_map, h1]
          rfl
      · rw [List.getElem?_append_right (by omega), List.getElem?_replicate] at h
        split at h <;> cases h
theorem body_P {K : PySem.W.Frag} {cs : List Addr} {C : CtP} {t : TS} {N : List Str} {vs : List V} {H : Hp} {Q : VK} {E' : XK} (hs : ∀ xs P, C xs P → xs.length ≤ N.length ∧ SD ⟨K, cs, []⟩ t (envP N xs) (QP P)) (h : spP K cs C vs H Q E') :
    t { nx := fun _ H' => Q .non H', rt := Q } (start N vs) H := by
  obtain ⟨xs, P, X0, c, r, ex, tb, k⟩ := h
  obtain ⟨hl, sd⟩ := hs xs P c
  have I := start_P (N := N) (cs := cs) r ex tb
  have fin : ∀ {δ' : DEnv} {σ' : L2.St} {H' : Hp} {d : PyData} {v : V}, P d → EI ⟨K, cs, []⟩ ⟨H, fun _ => False, X0, start N vs, fun _ => False⟩ δ' σ' H' → Rp K (del H' fun a => MA δ' σ' a ∨ X0 a) d v → Q v H' := fun {δ' σ' H' d v} p J r' =>
    k d v H' p (r'.gr (gr_del fun b u n hb e => ⟨fun z => hb (.inr z), e⟩)) (fun b o n e => J.keep b o n (fun z => z) (fun z => z) e) J.tk J.tab
  refine sd _ _ _ _ I fun o q => ?_
  cases o with
  | nx δ' => exact fun σ' H' J => fin q J .non
  | rt d δ' => exact fun σ' H' v J r' => fin q J r'
  | bk δ' => exact q.elim
  | r2 i j δ' => exact q.elim
  | ct δ' => exact q.elim
  | rf xs δ' => exact fun σ' H' p N => fin q N.give.1 N.give.2
  | rm i δ' =>
    obtain ⟨xs, hi, p⟩ := q
    exact fun σ' H' a J ha => have N := J.release hi ha (fun z => z); fin p N.give.1 N.give.2
def envT (N : List Str) (ts xs : List PyData) : DEnv := some (.m ts) :: (xs.map (fun x => some (E.d x)) ++ List.replicate (N.length - (xs.length + 1)) none)
def QT (P : PyData → List PyData → Prop) : Out → Prop
  | .rf xs δ => ∃ ts, δ[0]? = some (some (E.m ts)) ∧ P (.list xs) ts
  | .rm i δ => i ≠ 0 ∧ ∃ ts xs, δ[0]? = some (some (E.m ts)) ∧ δ[i]? = some (some (E.m xs)) ∧ P (.list xs) ts
  | .rt d δ => ∃ ts, δ[0]? = some (some (E.m ts)) ∧ P d ts
  | .nx δ => ∃ ts, δ[0]? = some (some (E.m ts)) ∧ P .none ts
  | _ => False
theorem body_T {K : PySem.W.Frag} {cs : List Addr} {C : CtT} {t : TS} {N : List Str} {vs : List V} {H : Hp} {Q : VK} {E' : XK} (hs : ∀ ts xs P, C ts xs P → SD ⟨K, cs, [0]⟩ t (envT N ts xs) (QT P)) (h : spT K cs C vs H Q E') :
    t { nx := fun _ H' => Q .non H', rt := Q } (start N vs) H := by
  obtain ⟨a, vs', ws, ts, xs, P, X0, rfl, ha, rt, xa, r, c, ex, tb, k⟩ := h
  have sd := hs ts xs P c
  have len := r.len
  have isM : ∀ {i : Nat} {ys : List PyData}, (envT N ts xs)[i]? = some (some (E.m ys)) → i = 0 ∧ ys = ts := fun {i ys} e => by
    unfold envT at e
    cases i with
    | zero => cases e; exact ⟨rfl, rfl⟩
    | succ i =>
      rw [List.getElem?_cons_succ] at e
      by_cases hi : i < (xs.map fun x => some (E.d x)).length
      · rw [List.getElem?_append_left hi, List.getElem?_map] at e
        cases q : xs[i]? with
        | none => rw [q] at e; cases e
        | some x => rw [q] at e; cases e
      · rw [List.getElem?_append_right (by omega), List.getElem?_replicate] at e
        split at e <;> cases e
  have noK : ∀ {i n : Nat}, (envT N ts xs)[i]? ≠ some (some (E.k n)) := fun {i n} e => by
    unfold envT at e
    cases i with
    | zero => cases e
    | succ i =>
      rw [List.getElem?_cons_succ] at e
      by_cases hi : i < (xs.map fun x => some (E.d x)).length
      · rw [List.getElem?_append_left hi, List.getElem?_map] at e
        cases q : xs[i]? with
        | none => rw [q] at e; cases e
        | some x => rw [q] at e; cases e
      · rw [List.getElem?_append_right (by omega), List.getElem?_replicate] at e
        split at e <;> cases e
  have s0 : (start N (V.ref a :: vs'))[0]? = some (some (V.ref a)) := rfl
  have isA : ∀ {b}, MA (envT N ts xs) (start N (V.ref a :: vs')) b → b = a := fun {b} ⟨i, ys, h1, h2⟩ => by
    obtain ⟨rfl, _⟩ := isM h1
    rw [s0] at h2
    cases h2; rfl
  have g0 : Gr (del H X0) (del H fun b => MA (envT N ts xs) (start N (V.ref a :: vs')) b ∨ X0 b) := gr_del fun b u n hb e => ⟨fun z => hb (z.elim (fun z => isA z ▸ xa) id), e⟩
  have I : EI ⟨K, cs, [0]⟩ ⟨H, fun b => b = a, X0, start N (V.ref a :: vs'), fun _ => False⟩ (envT N ts xs) (start N (V.ref a :: vs')) H := by
    refine ⟨?_, fun i e h => ?_, fun i j ys zs b h1 h2 _ _ => by rw [(isM h1).1, (isM h2).1], fun b hb => .inl (isA hb), fun b o _ _ _ e => e, ex, fun i hi => rfl, tb, fun b ps e => ⟨ps, e⟩, fun b hb => ⟨.lst ws, (congrArg H (show b = a from hb)).trans ha⟩, fun i ys b h1 _ _ => by rw [(isM h1).1]; simp, fun a w => w.elim, fun i j n m h => absurd h noK⟩
    · unfold envT L2.start
      simp only [List.length_append, List.length_map, List.length_replicate, List.length_cons, len]
      omega
    · cases e with
      | k n => exact absurd h noK
      | m ys =>
        obtain ⟨rfl, rfl⟩ := isM h
        exact ⟨_, s0, a, ws, rfl, ha, RpL.gr g0 rt⟩
      | d x =>
        unfold envT at h
        cases i with
        | zero => cases h
        | succ i =>
          rw [List.getElem?_cons_succ] at h
          by_cases hi : i < (xs.map fun x => some (E.d x)).length
          · rw [List.getElem?_append_left hi, List.getElem?_map] at h
            cases q : xs[i]? with
            | none => rw [q] at h; cases h
            | some y =>
              rw [q] at h
              cases h
              obtain ⟨v, h1, h2⟩ := r.get q
              refine ⟨v, ?_, h2.gr g0⟩
              unfold L2.start
              have hi2 : i < vs'.length := (List.getElem?_eq_some_iff.mp h1).1
              rw [List.getElem?_append_left (by rw [List.length_map, List.length_cons]; omega), List.getElem?_map, List.getElem?_cons_succ, h1]
              rfl
          · rw [List.getElem?_append_right (by omega), List.getElem?_replicate] at h
            split at h <;> cases h
  have fin : ∀ {δ' : DEnv} {σ' : L2.St} {H' : Hp} {d : PyData} {v : V} {us : List PyData}, δ'[0]? = some (some (E.m us)) → P d us → EI ⟨K, cs, [0]⟩ ⟨H, fun b => b = a, X0, start N (V.ref a :: vs'), fun _ => False⟩ δ' σ' H' → Rp K (del H' fun a => MA δ' σ' a ∨ X0 a) d v → Q v H' := fun {δ' σ' H' d v us} h0 p J r' => by
    obtain ⟨w, e1, b, zs, e2, e3, e4⟩ := J.slot 0 _ h0
    have e5 : σ'[0]? = (start N (V.ref a :: vs'))[0]? := J.pin 0 (by simp)
    rw [e1, s0] at e5
    cases e5
    cases e2
    have sub : Gr (del H' fun a => MA δ' σ' a ∨ X0 a) (del H' X0) := gr_del fun b u n hb e => ⟨fun z => hb (.inr z), e⟩
    exact k d v H' us zs p e3 (RpL.gr sub e4) (r'.gr sub) (fun b o hb n e => J.keep b o n hb (fun z => z) e) J.tk J.tab
  refine sd _ _ _ _ I fun o q => ?_
  cases o with
  | nx δ' => obtain ⟨us, h0, p⟩ := q; exact fun σ' H' J => fin h0 p J .non
  | rt d δ' => obtain ⟨us, h0, p⟩ := q; exact fun σ' H' v J r' => fin h0 p J r'
  | bk δ' => exact q.elim
  | r2 i j δ' => exact q.elim
  | ct δ' => exact q.elim
  | rf xs δ' => obtain ⟨us, h0, p⟩ := q; exact fun σ' H' p' N => fin h0 p N.give.1 N.give.2
  | rm i δ' =>
    obtain ⟨hi0, us, xs, h0, hi, p⟩ := q
    intro σ' H' b J hb
    obtain ⟨w, e1, b', zs, e2, e3, e4⟩ := J.slot 0 _ h0
    have e5 : σ'[0]? = (L2.start N (V.ref a :: vs'))[0]? := J.pin 0 (by simp)
    rw [e1, s0] at e5
    cases e5
    have N := J.release hi hb (fun z => hi0 (J.nd i 0 xs us b hi h0 hb (by rw [e1, show b = a from z])))
    exact fin (by rw [List.getElem?_set_ne hi0]; exact h0) p N.give.1 N.give.2
/-! ### a def that hands back a new list -/
abbrev CtF := List PyData → (List PyData → Prop) → Prop
def spF (K : PySem.W.Frag) (cs : List Addr) (C : CtF) : Sp := fun vs H Q _ => ∃ (xs : List PyData) (P : List PyData → Prop) (X0 : Addr → Prop), C xs P ∧ RpL K (del H X0) xs vs ∧ (∀ a, X0 a → ∃ o, H a = some o ∧ NT o) ∧ (∀ p ∈ cs, TabG H p) ∧
  ∀ ys q ws H', P ys → H q = none → H' q = some (.lst ws) → RpL K (del H' fun a => a = q ∨ X0 a) ys ws → (∀ b o, NT o → H b = some o → H' b = some o) → (∀ b ps, H b = some (.tbl ps) → ∃ qs, H' b = some (.tbl qs)) → (∀ p ∈ cs, TabG H' p) → Q (.ref q) H'
section
variable {G : Gx} {F : Fx} {δ δ' : DEnv} {σ σ' : L2.St} {H H' : Hp} {tr tk : TA} {QF : List PyData → DEnv → Prop}
theorem run_F {C : CtF} {vs : List V} {xs : List PyData} {R : VK} {E' : XK} (J : EI G F δ σ H) (r : RpL G.K (del H (Sl F δ σ)) xs vs) (c : C xs fun d => QF d δ)
    (k : ∀ d p δ' H', QF d δ' → New G F δ' σ H' p d → R (.ref p) H') : spF G.K G.cs C vs H R E' :=
  ⟨xs, _, Sl F δ σ, c, r, fun a ha => by
    rcases ha with ⟨i, ys, h1, h2⟩ | ha
    · obtain ⟨v, h3, b, ws, h4, h5, _⟩ := J.slot i _ h1
      rw [h2] at h3
      cases h3
      cases h4
      exact ⟨_, h5, nt_lst _⟩
    · exact J.ex a ha, J.tab, fun d q ws H' p hq hq' rd kp tk tb => by
    obtain ⟨f0, fM, fX, fm⟩ := J.fresh hq
    have J2 := J.called kp tk tb
    have ne : ∀ {b : Addr} {u : HO}, H b = some u → b ≠ q := fun {b u} e z => by rw [z, hq] at e; cases e
    have gr : Gr (del H (Sl F δ σ)) (del H' (Sl (F.own q) δ σ)) := gr_del fun b u n hb e => ⟨fun z => by
      rcases z with z | z | z
      · exact hb (.inl z)
      · exact ne e z
      · exact hb (.inr z), kp b u n e⟩
    have sub : Gr (del H' fun a => a = q ∨ Sl F δ σ a) (del H' (Sl (F.own q) δ σ)) := gr_del fun b u n hb e => ⟨fun z => hb (by
      rcases z with z | z | z
      · exact .inr (.inl z)
      · exact .inl z
      · exact .inr (.inr z)), e⟩
    refine k d q δ H' p ⟨⟨J2.len, fun i e h => ?_, J2.nd, fun a ha => ?_, J2.keep, fun a ha => ?_, J2.pin, J2.tab, J2.tk, J2.mt, fun i ys a e1 e2 ha => ha.elim (fun z => absurd ⟨i, ys, e1, z ▸ e2⟩ fm) (J2.mx i ys a e1 e2), fun a w => ⟨.inr (J2.wl a w).1, (J2.wl a w).2⟩, J2.k1⟩, fm, fX, f0, fM, J.freshW hq, ws, hq', RpL.gr sub rd⟩
    · obtain ⟨v, h1, h2⟩ := J.slot i e h
      refine ⟨v, h1, ?_⟩
      cases e with
      | d x => exact Rp.gr gr h2
      | k n =>
        obtain ⟨b, eb, h3⟩ := h2
        exact ⟨b, eb, h3.up fun c u w e => kp _ _ (nt_lst _) e⟩
      | m ys =>
        obtain ⟨a, us, h4, h5, h6⟩ := h2
        exact ⟨a, us, h4, kp _ _ (nt_lst _) h5, RpL.gr gr h6⟩
    · rcases J.own a ha with z | ⟨z, zx⟩
      · exact .inl z
      · refine .inr ⟨z, fun w => ?_⟩
        rcases w with w | w
        · exact fm (by rw [← w]; exact ha)
        · exact zx w
    · rcases ha with rfl | ha
      · exact ⟨_, hq', nt_lst _⟩
      · exact J2.ex a ha⟩
theorem ef_callF {C : CtF} (h : EA G tr δ fun as δ1 => ∃ xs, allD as = some xs ∧ C xs fun d => QF d δ1) : EF G (tCall (spF G.K G.cs C) [] E0 tr) δ QF := fun F σ H R I k =>
  h F σ H _ I fun as vs δ1 H1 ⟨xs, e, c⟩ J r1 => by
    show spF G.K G.cs C (vs ++ []) H1 R E0
    rw [List.append_nil]
    exact run_F J (allD_ok e r1) c k
theorem ef_callFd {C : CtF} {ds : List PyData} {dvs : List V} (hd : ∀ H, RpL G.K H ds dvs) (h : EA G tr δ fun as δ1 => ∃ xs, allD as = some xs ∧ C (xs ++ ds) fun d => QF d δ1) : EF G (tCall (spF G.K G.cs C) dvs E0 tr) δ QF := fun F σ H R I k =>
  h F σ H _ I fun as vs δ1 H1 ⟨xs, e, c⟩ J r1 => run_F J ((allD_ok e r1).app (hd _)) c k
theorem ef_callFk {C : CtF} {n m : Nat} {gV : List V → List V → List V} {gD : List PyData → List PyData → List PyData} (hg : ∀ {K H xs ys vs ws}, RpL K H xs vs → RpL K H ys ws → RpL K H (gD xs ys) (gV vs ws))
    (h : EA G tr δ fun as δ1 => EA G tk δ1 fun bs δ2 => ∃ xs ys, allD as = some xs ∧ allD bs = some ys ∧ xs.length = n ∧ ys.length = m ∧ C (gD xs ys) fun d => QF d δ2) : EF G (tCallN n m (spF G.K G.cs C) gV E0 tr tk) δ QF := fun F σ H R I k =>
  h.go I fun as vs δ1 H1 q s1 r1 => q.go s1.ei fun bs ws δ2 H2 ⟨xs, ys, e1, e2, l1, l2, c⟩ s2 r2 => by
    have hx := RpL.gr s2.gr (allD_ok e1 r1)
    have hy := allD_ok e2 r2
    exact ⟨hx.len.symm.trans l1, hy.len.symm.trans l2, run_F s2.ei (hg hx hy) c k⟩
end
def QFr (P : List PyData → Prop) : Out → Prop
  | .rf xs _ => P xs
  | .rm i δ => ∃ xs, δ[i]? = some (some (E.m xs)) ∧ P xs
  | _ => False
theorem body_F {K : PySem.W.Frag} {cs : List Addr} {C : CtF} {t : TS} {N : List Str} {vs : List V} {H : Hp} {Q : VK} {E' : XK} (hs : ∀ xs P, C xs P → xs.length ≤ N.length ∧ SD ⟨K, cs, []⟩ t (envP N xs) (QFr P)) (h : spF K cs C vs H Q E') :
    t { nx := fun _ H' => Q .non H', rt := Q } (L2.start N vs) H := by
  obtain ⟨xs, P, X0, c, r, ex, tb, k⟩ := h
  have I := start_P (N := N) (cs := cs) r ex tb
  obtain ⟨hl, sd⟩ := hs xs P c
  have fin : ∀ {δ' : DEnv} {σ' : L2.St} {H' : Hp} {ys : List PyData} {p : Addr}, P ys → New ⟨K, cs, []⟩ ⟨H, fun _ => False, X0, L2.start N vs, fun _ => False⟩ δ' σ' H' p ys → Q (.ref p) H' := fun {δ' σ' H' ys p} pq N => by
    obtain ⟨J, hm, hX, h0, hM, _, ws, hq, rr⟩ := N
    exact k ys p ws H' pq h0 hq (RpL.gr (gr_del fun b u n hb e => ⟨fun z => hb (by
      rcases z with z | z
      · exact .inr (.inl z)
      · exact .inr (.inr z)), e⟩) rr) (fun b o n e => J.keep b o n (fun z => z) (fun z => z) e) J.tk J.tab
  refine sd _ _ _ _ I fun o q => ?_
  cases o with
  | nx δ' => exact q.elim
  | rt d δ' => exact q.elim
  | bk δ' => exact q.elim
  | r2 i j δ' => exact q.elim
  | ct δ' => exact q.elim
  | rf ys δ' => exact fun σ' H' p N => fin q N
  | rm i δ' =>
    obtain ⟨ys, hi, p⟩ := q
    exact fun σ' H' a J ha => fin p (J.release hi ha (fun z => z))
end DX


set_option Elab.async false
set_option linter.all false
set_option maxRecDepth 100000
set_option maxHeartbeats 1000000
namespace DX
open PySem PySem.Spec PyProof.Rows L2 GxR GA
open Classical
section
variable {G : Gx} {F : Fx} {δ δ' : DEnv} {σ σ' : L2.St} {H H' : Hp} {ta tb tc te : TE} {tr tk : TA} {Q : PyData → DEnv → Prop} {QS : Out → Prop} {t u : TS} {tt : TT}
/-! ### statements -/
theorem N0_ei {p : Addr} (wn : ¬ F.W0 p) (J : EI G (F.own p) δ σ H) : EI G F δ σ H := by
  have gr : Gr (del H (Sl (F.own p) δ σ)) (del H (Sl F δ σ)) := gr_del fun b u n hb e => ⟨fun z => hb (by
    rcases z with z | z
    · exact .inl z
    · exact .inr (.inr z)), e⟩
  refine ⟨J.len, fun i e h => ?_, J.nd, fun a ha => ?_, J.keep, fun a ha => J.ex a (.inr ha), J.pin, J.tab, J.tk, J.mt, fun i ys a e1 e2 ha => J.mx i ys a e1 e2 (.inr ha), fun a w => ⟨((J.wl a w).1).resolve_left (fun z => wn (z ▸ w)), (J.wl a w).2⟩, J.k1⟩
  · obtain ⟨v, h1, h2⟩ := J.slot i e h
    refine ⟨v, h1, ?_⟩
    cases e with
    | d x => exact Rp.gr gr h2
    | k n => exact h2
    | m ys =>
      obtain ⟨a, ws, h3, h4, h5⟩ := h2
      exact ⟨a, ws, h3, h4, RpL.gr gr h5⟩
  · rcases J.own a ha with z | ⟨z, zx⟩
    · exact .inl z
    · exact .inr ⟨z, fun w => zx (.inr w)⟩
theorem SD.mono {Q' : Out → Prop} (h : SD G t δ QS) (hq : ∀ o, QS o → Q' o) : SD G t δ Q' := fun F σ H D I k => h F σ H D I fun o q => k o (hq o q)
def Then (G : Gx) (u : TS) (Q : Out → Prop) : Out → Prop
  | .nx δ => SD G u δ Q
  | .rt d δ => Q (.rt d δ)
  | .bk δ => Q (.bk δ)
  | .ct δ => Q (.ct δ)
  | .rf xs δ => Q (.rf xs δ)
  | .rm i δ => Q (.rm i δ)
  | .r2 i j δ => Q (.r2 i j δ)
theorem sd_seq (h : SD G t δ (Then G u QS)) : SD G (tSeq t u) δ QS := fun F σ H D I k => h F σ H _ I fun o q => by
  cases o with
  | nx δ1 => exact fun σ1 H1 J => q F σ1 H1 D J k
  | rt d δ1 => exact k _ q
  | bk δ1 => exact k _ q
  | ct δ1 => exact k _ q
  | rf xs δ1 => exact k _ q
  | rm i δ1 => exact k _ q
  | r2 i j δ1 => exact k _ q
theorem sd_next (q : QS (.nx δ)) : SD G tNext δ QS := fun F σ H D I k => k _ q σ H I
theorem sd_break (q : QS (.bk δ)) : SD G tBreak δ QS := fun F σ H D I k => k _ q σ H I
theorem sd_cont (q : QS (.ct δ)) : SD G tCont δ QS := fun F σ H D I k => k _ q σ H I
theorem sd_retM {i : Nat} (q : QS (.rm i δ)) (h : ∃ xs, δ[i]? = some (some (E.m xs))) : SD G (tRet (tVar i)) δ QS := fun F σ H D I k => by
  obtain ⟨xs, h⟩ := h
  obtain ⟨v, h1, a, vs, e, h2, h3⟩ := I.slot i _ h
  subst e
  exact ⟨_, h1, k _ q σ H a I h1⟩
theorem sd_retF (h : EF G te δ fun xs δ1 => QS (.rf xs δ1)) : SD G (tRet te) δ QS := fun F σ H D I k => h F σ H _ I fun xs p δ1 H1 q N => k _ q σ H1 p N
theorem sd_ret (h : ED G te δ fun d δ1 => QS (.rt d δ1)) : SD G (tRet te) δ QS := fun F σ H D I k => h F σ H _ I fun d v δ1 H1 q J r => k _ q σ H1 v J r
theorem sd_retN (q : QS (.rt .none δ)) : SD G tRetN δ QS := fun F σ H D I k => k _ q σ H _ I .non
theorem sd_if (h : DT G tt δ fun b δ1 => if b = true then SD G t δ1 QS else SD G u δ1 QS) : SD G (tIfS tt t u) δ QS := fun F σ H D I k =>
  h F σ H _ I fun b δ1 H1 q J => by
    cases b with
    | true => exact iteT (q F σ H1 D J k)
    | false => exact iteF (q F σ H1 D J k)
theorem sd_drop (h : ED G te δ fun d δ1 => QS (.nx δ1)) : SD G (tDrop te) δ QS := fun F σ H D I k => h F σ H _ I fun d v δ1 H1 q J r => k _ q σ H1 J
theorem sd_set {i : Nat} (hp : i ∉ G.pn) (h : ED G te δ fun d δ1 => QS (.nx (δ1.set i (some (.d d))))) : SD G (tAsg te (gName i)) δ QS := fun F σ H D I k =>
  h F σ H _ I fun d v δ1 H1 q J r => k _ q _ H1 (J.set_d hp r)
/-- a slot that owns its list -/
theorem sd_setM {i : Nat} (hp : i ∉ G.pn) (hi : i < δ.length) (h : EF G te δ fun xs δ1 => QS (.nx (δ1.set i (some (.m xs))))) : SD G (tAsg te (gName i)) δ QS := fun F σ H D I k =>
  h F σ H _ I fun xs p δ1 H1 q N => k _ q _ H1 (N.take (by rw [N.ei.len, ← I.len]; exact hi) hp)
/-- xs.append(e) of a slot's own list -/
theorem sd_append {i : Nat} {xs0 : List PyData} (h0 : δ[i]? = some (some (E.m xs0))) (h : ED G te δ fun d δ1 => ∃ xs, δ1[i]? = some (some (E.m xs)) ∧ xs.length < sizeLine ∧ QS (.nx (δ1.set i (some (.m (xs ++ [d])))))) :
    SD G (tDrop (tBM G.K "list" rAppend (tVar i) (tCons te tNil))) δ QS := fun F σ H D I k => by
  obtain ⟨v, h1, a, vs, e, h2, h3⟩ := I.slot i _ h0
  subst e
  refine ⟨_, h1, .inl ⟨rfl, vs, SqL.of h2⟩, h.go I fun d w δ1 H1 ⟨xs, h4, hl, q⟩ s r => ?_⟩
  obtain ⟨v, h1', b, ws, e, h5, h6⟩ := s.ei.slot i _ h4
  rw [h1] at h1'
  cases h1'
  cases e
  exact ⟨a, ws, w, rfl, rfl, h5, by rw [← h6.len]; exact hl, k _ q σ _ (s.ei.write h4 h1 h5 (h6.app (.one r)))⟩
/-- xs[j] = e of a slot's own list -/
theorem sd_setIx {i : Nat} {xs0 : List PyData} {ti : TE} (h : ED G te δ fun d δ1 => (∃ xs1, δ1[i]? = some (some (E.m xs1))) ∧ ED G ti δ1 fun y δ2 => ∃ xs j k, δ2[i]? = some (some (E.m xs)) ∧ y = .int j ∧ ixN xs.length j = some k ∧ QS (.nx (δ2.set i (some (.m (xs.set k d)))))) :
    SD G (tAsg te (gSub (tVar i) ti rSetL)) δ QS := fun F σ H D I k =>
  h.go I fun d w δ1 H1 ⟨⟨xs1, h1⟩, q1⟩ s1 r1 => by
    obtain ⟨v, g1, a, vs, e, g2, g3⟩ := s1.ei.slot i _ h1
    subst e
    refine ⟨_, g1, q1.go s1.ei fun y z δ2 H2 ⟨xs, j, l, h4, e1, e2, q⟩ s2 r2 => ?_⟩
    subst e1
    cases r2
    obtain ⟨v, h1', b, ws, e, h5, h6⟩ := s2.ei.slot i _ h4
    rw [g1] at h1'
    cases h1'
    cases e
    refine ⟨a, ws, j, l, rfl, rfl, h5, by rw [← h6.len]; exact e2, k _ q σ _ (s2.ei.write h4 g1 h5 (RpL.set (r1.gr s2.gr) l h6))⟩
theorem sd_freeze {i : Nat} {xs : List PyData} (h : δ[i]? = some (some (E.m xs))) (hp : i ∉ G.pn) (s : SD G t (δ.set i (some (.d (.list xs)))) QS) : SD G t δ QS := fun F σ H D I k =>
  s F σ H D (I.freeze h hp) k
/-! ### targets -/
def DG (G : Gx) (g : TG) (vs : List Nat) (d : PyData) (δ : DEnv) (Q : DEnv → Prop) : Prop :=
  ∀ (F : Fx) (σ : L2.St) (H : Hp) (v : V) (R : L2.St → Hp → Prop), EI G F δ σ H → Rp G.K (del H (Sl F δ σ)) d v →
    (∀ δ' σ', Q δ' → EI G F δ' σ' H → Gr (del H (Sl F δ σ)) (del H (Sl F δ' σ')) → σ'.length = σ.length → (∀ j, j ∉ vs → σ'[j]? = σ[j]?) → (∀ a, MA δ' σ' a → MA δ σ a) → R σ' H) → g v σ H R
def DGs (G : Gx) (g : TGs) (vs : List Nat) (ds : List PyData) (δ : DEnv) (Q : DEnv → Prop) : Prop :=
  ∀ (F : Fx) (σ : L2.St) (H : Hp) (ws : List V) (R : L2.St → Hp → Prop), EI G F δ σ H → RpL G.K (del H (Sl F δ σ)) ds ws →
    (∀ δ' σ', Q δ' → EI G F δ' σ' H → Gr (del H (Sl F δ σ)) (del H (Sl F δ' σ')) → σ'.length = σ.length → (∀ j, j ∉ vs → σ'[j]? = σ[j]?) → (∀ a, MA δ' σ' a → MA δ σ a) → R σ' H) → g ws σ H R
theorem dg_name {i : Nat} {vs : List Nat} {d : PyData} {QD : DEnv → Prop} (hi : i ∈ vs) (hp : i ∉ G.pn) (q : QD (δ.set i (some (.d d)))) : DG G (gName i) vs d δ QD := fun F σ H v R I r k => by
  refine k _ _ q (I.set_d hp r) (gr_del fun b u n hb e => ⟨fun z => hb (z.imp (fun z => (MA.set_d (fun _ q => by cases q) z).1) id), e⟩) (List.length_set ..) (fun j hj => ?_) (fun a ha => (MA.set_d (fun _ q => by cases q) ha).1)
  rw [List.getElem?_set_ne (fun z : i = j => hj (by rw [← z]; exact hi))]
theorem dg_nil {vs : List Nat} {QD : DEnv → Prop} (q : QD δ) : DGs G gNil vs [] δ QD := fun F σ H ws R I r k => by
  cases r
  exact ⟨rfl, k δ σ q I (Gr.refl _) rfl (fun _ _ => rfl) fun _ z => z⟩
theorem dg_cons {g : TG} {gs : TGs} {vs : List Nat} {d : PyData} {ds : List PyData} {QD : DEnv → Prop} (h : DG G g vs d δ fun δ1 => DGs G gs vs ds δ1 QD) : DGs G (gCons g gs) vs (d :: ds) δ QD := fun F σ H ws R I r k => by
  cases r with
  | cons r1 r2 =>
    exact ⟨_, _, rfl, h F σ H _ _ I r1 fun δ1 σ1 q1 J1 g1 l1 a1 m1 => q1 F σ1 H _ _ J1 (RpL.gr g1 r2) fun δ2 σ2 q2 J2 g2 l2 a2 m2 =>
      k δ2 σ2 q2 J2 (g1.trans g2) (l2.trans l1) (fun j hj => (a2 j hj).trans (a1 j hj)) fun a z => m1 a (m2 a z)⟩
theorem dg_tup {gs : TGs} {vs : List Nat} {ds : List PyData} {n : Nat} {QD : DEnv → Prop} (hn : ds.length = n) (h : DGs G gs vs ds δ QD) : DG G (gTup G.K n gs) vs (.tuple ds) δ QD := fun F σ H v R I r k => by
  cases r with
  | tup h1 r2 => exact ⟨_, _, rfl, SqT.gr gr_out h1, by rw [← r2.len]; exact hn, h F σ H _ R I r2 k⟩
/-- a, b = e -/
theorem sd_asgT {g : TG} {vs : List Nat} (h : ED G te δ fun d δ1 => DG G g vs d δ1 fun δ2 => QS (.nx δ2)) : SD G (tAsg te g) δ QS := fun F σ H D I k =>
  h F σ H _ I fun d v δ1 H1 q J r => q F σ H1 v D.nx J r fun δ2 σ2 q2 J2 _ _ _ _ => k _ q2 σ2 H1 J2
/-! ### loops -/
def Lp (Q : Out → Prop) (I : DEnv → Prop) : Out → Prop
  | .nx δ => I δ
  | .ct δ => I δ
  | .bk δ => Q (.nx δ)
  | .rt d δ => Q (.rt d δ)
  | .rf xs δ => Q (.rf xs δ)
  | .rm i δ => Q (.rm i δ)
  | .r2 i j δ => Q (.r2 i j δ)
theorem loop_ends {P : L2.St → Hp → Prop} {IV : DEnv → Prop} {D : Ends} (hk : ∀ o, QS o → Sat G F o D) (hP : ∀ δ' σ' H', IV δ' → EI G F δ' σ' H' → P σ' H') : ∀ o, Lp QS IV o → Sat G F o { D with nx := P, ct := P, bk := D.nx } := fun o q => by
  cases o with
  | nx δ1 => exact fun σ1 H1 J => hP δ1 σ1 H1 q J
  | ct δ1 => exact fun σ1 H1 J => hP δ1 σ1 H1 q J
  | bk δ1 => exact hk _ q
  | rt d δ1 => exact hk _ q
  | rf xs δ1 => exact hk _ q
  | rm i δ1 => exact hk _ q
  | r2 i j δ1 => exact hk _ q
theorem New.back {p : Addr} {xs : List PyData} {δ0 : DEnv} {σ0 : L2.St} {H0 : Hp} (N : New G (F.now δ0 σ0 H0) δ σ H p xs) (I : EI G F δ0 σ0 H0) : New G F δ σ H p xs := by
  obtain ⟨J, hm, hX, h0, hM, wn, at_⟩ := N
  have h0 : H0 p = none := h0
  obtain ⟨f0, fM, _, _⟩ := I.fresh h0
  have J1 := I.back (δ' := δ) (σ' := σ) (H' := H) (N0_ei wn J)
  refine ⟨⟨J.len, J.slot, J.nd, fun a ha => ?_, J1.keep, J.ex, J.pin, J.tab, J1.tk, J1.mt, J.mx, J.wl, J.k1⟩, hm, hX, f0, fM, wn, at_⟩
  rcases J1.own a ha with z | ⟨z, zx⟩
  · exact .inl z
  · refine .inr ⟨z, fun w => ?_⟩
    rcases w with w | w
    · exact hm (by rw [← w]; exact ha)
    · exact zx w
theorem sat_back (I : EI G F δ σ H) {o : Out} {D : Ends} (h : Sat G F o D) : Sat G (F.now δ σ H) o D := by
  cases o with
  | nx δ1 => exact fun σ1 H1 J => h σ1 H1 (I.back J)
  | ct δ1 => exact fun σ1 H1 J => h σ1 H1 (I.back J)
  | bk δ1 => exact fun σ1 H1 J => h σ1 H1 (I.back J)
  | rt d δ1 => exact fun σ1 H1 v J r => h σ1 H1 v (I.back J) r
  | rf xs δ1 => exact fun σ1 H1 p N => h σ1 H1 p (N.back I)
  | rm i δ1 => exact fun σ1 H1 a J ha => h σ1 H1 a (I.back J) ha
  | r2 i j δ1 => exact fun σ1 H1 p a b J hp ha hb => h σ1 H1 p a b (I.back J) hp ha hb
theorem sd_forR {i : Nat} (hp : i ∉ G.pn) (h : EA G tr δ fun as δ1 => ∃ n : Int, allD as = some [.int n] ∧ -(2 ^ 62) ≤ n ∧ n < 2 ^ 62 ∧ ∃ IV : Nat → DEnv → Prop, IV 0 δ1 ∧
      (∀ k δ2, k < n.toNat → IV k δ2 → SD G t (δ2.set i (some (.d (.int k)))) (Lp QS (IV (k + 1)))) ∧ ∀ δ2, IV n.toNat δ2 → QS (.nx δ2)) : SD G (tFor (iRng1 tr) (gName i) t) δ QS := fun F σ H D I k =>
  h F σ H _ I fun as vs δ1 H1 ⟨n, e, n1, n2, IV, i0, st, fin⟩ J r => by
    have r2 := allD_ok e r
    cases r2 with
    | cons r3 r4 =>
      cases r4; cases r3
      refine ⟨n, rfl, n1, n2, for_range (lo := 0) (n := n.toNat) (fun j σ' H' => ∃ δ2, IV j δ2 ∧ EI G F δ2 σ' H') ⟨δ1, i0, J⟩ ?_ ?_⟩
      · rintro j σ2 H2 hj ⟨δ2, iv, J2⟩
        have ej : (0 : Int) + (j : Int) = (j : Int) := by omega
        show t _ (σ2.set i (some (.int (0 + (j : Int))))) H2
        rw [ej]
        exact st j δ2 hj iv F _ H2 _ (J2.set_d hp (.int _)) (loop_ends k fun δ3 σ3 H3 iv3 J3 => ⟨δ3, iv3, J3⟩)
      · rintro σ2 H2 ⟨δ2, iv, J2⟩
        exact k _ (fin δ2 iv) σ2 H2 J2
theorem sd_forL {g : TG} {vs : List Nat} (h : ED G te δ fun x δ1 => ∃ xs, x = .list xs ∧ ∃ IV : Nat → DEnv → Prop, IV 0 δ1 ∧
      (∀ k δ2 y, xs[k]? = some y → IV k δ2 → DG G g vs y δ2 fun δ3 => SD G t δ3 (Lp QS (IV (k + 1)))) ∧ ∀ δ2, IV xs.length δ2 → QS (.nx δ2)) : SD G (tFor (iList G.K te) g t) δ QS := fun F σ H D I k =>
  h F σ H _ I fun x v δ1 H1 ⟨xs, e, IV, i0, st, fin⟩ J r => by
    subst e
    cases r with
    | @lst a ws _ h1 r1 =>
      obtain ⟨hno, h2⟩ := del_some.mp h1
      have stay : ∀ {δ2 : DEnv} {σ2 : L2.St} {H2 : Hp}, EI G (F.now δ1 σ H1) δ2 σ2 H2 → H2 a = some (.lst ws) ∧ RpL G.K (del H2 (Sl (F.now δ1 σ H1) δ2 σ2)) xs ws := fun {δ2 σ2 H2} J2 => by
        have s := J.since J2
        exact ⟨s.kp a _ (nt_lst _) (fun z => hno (.inl z)) (fun w => hno (.inr (J.wl a w).1)) h2, RpL.gr s.gr r1⟩
      refine ⟨a, rfl, ⟨ws, SqL.of h2⟩, for_list (xs := ws) (fun j σ' H' => ∃ δ2, IV j δ2 ∧ EI G (F.now δ1 σ H1) δ2 σ' H') ⟨δ1, i0, J.now⟩ ?_ ?_ ?_⟩
      · rintro j σ2 H2 _ ⟨δ2, iv, J2⟩
        exact SqL.of (stay J2).1
      · rintro j y σ2 H2 hy ⟨δ2, iv, J2⟩
        obtain ⟨d, hd, rd⟩ := (stay J2).2.getV hy
        exact st j δ2 d hd iv _ σ2 H2 y _ J2 rd fun δ3 σ3 q3 J3 _ _ _ _ => q3 _ σ3 H2 _ J3 (loop_ends (fun o q => sat_back J (k o q)) fun δ4 σ4 H4 iv4 J4 => ⟨δ4, iv4, J4⟩)
      · rintro σ2 H2 ⟨δ2, iv, J2⟩
        rw [← r1.len] at iv
        exact k _ (fin δ2 iv) σ2 H2 (J.back J2)
theorem sd_while (IV : Nat → DEnv → Prop) (i0 : ∃ m, IV m δ) (h : ∀ m δ2, IV m δ2 → DT G tt δ2 fun b δ3 => if b = true then SD G t δ3 (Lp QS fun δ4 => ∃ m', m' < m ∧ IV m' δ4) else QS (.nx δ3)) : SD G (tWhile tt t) δ QS := fun F σ H D I k => by
  obtain ⟨m0, i0⟩ := i0
  refine ⟨fun m σ' H' => ∃ δ2, IV m δ2 ∧ EI G F δ2 σ' H', ⟨m0, δ, i0, I⟩, ?_⟩
  rintro m σ2 H2 ⟨δ2, iv, J⟩
  refine h m δ2 iv F σ2 H2 _ J fun b δ3 H3 q J3 => ?_
  cases b with
  | true =>
    refine iteT ⟨fun σ' H' => ∃ m', m' < m ∧ ∃ δ2, IV m' δ2 ∧ EI G F δ2 σ' H', fun σ' H' z => z, ?_⟩
    exact q F σ2 H3 _ J3 (loop_ends k fun δ4 σ4 H4 ⟨m', hm, iv4⟩ J4 => ⟨m', hm, δ4, iv4, J4⟩)
  | false => exact iteF (k _ q σ2 H3 J3)
end
end DX


set_option Elab.async false
set_option linter.all false
set_option maxRecDepth 100000
set_option maxHeartbeats 1000000
namespace DX
open PySem PySem.Spec PyProof.Rows L2 GxR GA
open Classical
section
variable {G : Gx} {F : Fx} {δ δ' : DEnv} {σ σ' : L2.St} {H H' : Hp} {ta tb tc te tl : TE} {tr tk : TA} {Q : PyData → DEnv → Prop} {QF : List PyData → DEnv → Prop} {tt : TT}
/-! ### slots forgotten -/
def wipeD (δ : DEnv) : List Nat → DEnv
  | [] => δ
  | v :: vs => (wipeD δ vs).set v none
theorem wipeD_length (δ : DEnv) : ∀ vs, (wipeD δ vs).length = δ.length
  | [] => rfl
  | v :: vs => by unfold wipeD; rw [List.length_set, wipeD_length δ vs]
theorem wipeD_some {i : Nat} {x : E} : ∀ {vs : List Nat}, (wipeD δ vs)[i]? = some (some x) → δ[i]? = some (some x) ∧ i ∉ vs
  | [], h => ⟨h, by simp⟩
  | v :: vs, h => by
    unfold wipeD at h
    rcases get_set h with ⟨_, e, _⟩ | ⟨ne, h2⟩
    · cases e
    · obtain ⟨h3, h4⟩ := wipeD_some h2
      exact ⟨h3, by simp only [List.mem_cons, not_or]; exact ⟨ne, h4⟩⟩
theorem wipe_get {j : Nat} : ∀ {vs : List Nat}, j ∉ vs → (wipe σ vs)[j]? = σ[j]?
  | [], _ => rfl
  | v :: vs, h => by
    unfold wipe
    rw [List.getElem?_set_ne (fun z : v = j => h (by rw [z]; exact List.mem_cons_self)), wipe_get (fun z => h (List.mem_cons_of_mem _ z))]
theorem wipe_in {j : Nat} : ∀ {vs : List Nat}, j ∈ vs → j < σ.length → (wipe σ vs)[j]? = some none
  | v :: vs, h, hl => by
    unfold wipe
    by_cases e : v = j
    · subst e
      rw [List.getElem?_set_self (by rw [wipe_length]; exact hl)]
    · rw [List.getElem?_set_ne e]
      exact wipe_in ((List.mem_cons.mp h).resolve_left fun z => e z.symm) hl
theorem wipe_eq {vs : List Nat} (hl : σ'.length = σ.length) (h : ∀ j, j ∉ vs → σ'[j]? = σ[j]?) : wipe σ' vs = wipe σ vs := by
  refine List.ext_getElem? fun j => ?_
  by_cases hj : j ∈ vs
  · by_cases hlt : j < σ.length
    · rw [wipe_in hj hlt, wipe_in hj (by omega)]
    · rw [List.getElem?_eq_none (by rw [wipe_length]; omega), List.getElem?_eq_none (by rw [wipe_length]; omega)]
  · rw [wipe_get hj, wipe_get hj, h j hj]
/-- the same slots where something is known -/
theorem EI.agree (I : EI G F δ σ H) (hl : σ'.length = σ.length) (hs : ∀ (i : Nat) (e : E), δ[i]? = some (some e) → σ'[i]? = σ[i]?) (hp : ∀ i ∈ G.pn, σ'[i]? = σ[i]?) : EI G F δ σ' H := by
  have ma : ∀ a, MA δ σ' a → MA δ σ a := fun a ⟨i, xs, h1, h2⟩ => ⟨i, xs, h1, (hs i _ h1) ▸ h2⟩
  have gr : Gr (del H (Sl F δ σ)) (del H (Sl F δ σ')) := gr_del fun b u n hb e => ⟨fun z => hb (z.imp (ma b) id), e⟩
  refine ⟨I.len.trans hl.symm, fun i e h => ?_, fun i j xs ys a h1 h2 h3 h4 => I.nd i j xs ys a h1 h2 ((hs i _ h1) ▸ h3) ((hs j _ h2) ▸ h4), fun a ha => I.own a (ma a ha), I.keep, I.ex, fun i hi => (hp i hi).trans (I.pin i hi), I.tab, I.tk, I.mt, fun i xs a e1 e2 ha => I.mx i xs a e1 ((hs i _ e1) ▸ e2) ha, fun a w => ⟨(I.wl a w).1, fun z => (I.wl a w).2 (ma a z)⟩, I.k1⟩
  obtain ⟨v, h1, h2⟩ := I.slot i e h
  refine ⟨v, (hs i e h).trans h1, ?_⟩
  cases e with
  | d x => exact Rp.gr gr h2
  | k n => exact h2
  | m ys =>
    obtain ⟨a, ws, h4, h5, h6⟩ := h2
    exact ⟨a, ws, h4, h5, RpL.gr gr h6⟩
/-- fewer slots known -/
theorem EI.less (I : EI G F δ σ H) (hl : δ'.length = δ.length) (hs : ∀ (i : Nat) (e : E), δ'[i]? = some (some e) → δ[i]? = some (some e)) : EI G F δ' σ H := by
  have ma : ∀ a, MA δ' σ a → MA δ σ a := fun a ⟨i, xs, h1, h2⟩ => ⟨i, xs, hs _ _ h1, h2⟩
  have gr : Gr (del H (Sl F δ σ)) (del H (Sl F δ' σ)) := gr_del fun b u n hb e => ⟨fun z => hb (z.imp (ma b) id), e⟩
  refine ⟨hl.trans I.len, fun i e h => ?_, fun i j xs ys a h1 h2 h3 h4 => I.nd i j xs ys a (hs _ _ h1) (hs _ _ h2) h3 h4, fun a ha => I.own a (ma a ha), I.keep, I.ex, I.pin, I.tab, I.tk, I.mt, fun i xs a e1 e2 ha => I.mx i xs a (hs _ _ e1) e2 ha, fun a w => ⟨(I.wl a w).1, fun z => (I.wl a w).2 (ma a z)⟩, fun i j n m h1 h2 => I.k1 i j n m (hs _ _ h1) (hs _ _ h2)⟩
  obtain ⟨v, h1, h2⟩ := I.slot i e (hs i e h)
  refine ⟨v, h1, ?_⟩
  cases e with
  | d x => exact Rp.gr gr h2
  | k n => exact h2
  | m ys =>
    obtain ⟨a, ws, h4, h5, h6⟩ := h2
    exact ⟨a, ws, h4, h5, RpL.gr gr h6⟩
theorem EI.wiped {vs : List Nat} (I : EI G F δ σ H) (hp : ∀ i ∈ G.pn, i ∉ vs) : EI G F (wipeD δ vs) (wipe σ vs) H :=
  (I.less (wipeD_length δ vs) fun i e h => (wipeD_some h).1).agree (wipe_length σ vs) (fun i e h => wipe_get (wipeD_some h).2) fun i hi => wipe_get (hp i hi)
theorem EI.unwiped {vs : List Nat} (I : EI G F (wipeD δ vs) (wipe σ vs) H) (hp : ∀ i ∈ G.pn, i ∉ vs) : EI G F (wipeD δ vs) σ H :=
  I.agree (wipe_length σ vs).symm (fun i e h => (wipe_get (wipeD_some h).2).symm) fun i hi => (wipe_get (hp i hi)).symm
theorem wipeD_idem {vs : List Nat} : wipeD (wipeD δ vs) vs = wipeD δ vs := by
  refine List.ext_getElem? fun j => ?_
  have key : ∀ (δ : DEnv) (vs : List Nat) (j : Nat), (wipeD δ vs)[j]? = if j ∈ vs ∧ j < δ.length then some none else δ[j]? := fun δ vs => by
    induction vs with
    | nil => intro j; simp [wipeD]
    | cons v vs ih =>
      intro j
      unfold wipeD
      by_cases e : v = j
      · subst e
        by_cases hl : v < δ.length
        · rw [List.getElem?_set_self (by rw [wipeD_length]; exact hl)]
          simp [hl]
        · rw [List.getElem?_eq_none (by rw [List.length_set, wipeD_length]; omega)]
          simp [hl]
      · rw [List.getElem?_set_ne e, ih j]
        have : (j ∈ v :: vs) ↔ j ∈ vs := ⟨fun z => (List.mem_cons.mp z).resolve_left fun z => e z.symm, List.mem_cons_of_mem _⟩
        simp only [this]
  rw [key, key, wipeD_length]
  split <;> rfl
/-- an owned list that no slot knows is changed -/
theorem EI.poke {p : Addr} {vs ws : List V} (I : EI G F δ σ H) (hx : F.X0 p) (hm : ¬ MA δ σ p) (h0 : F.H0 p = none) (hM : ¬ F.M0 p) (hW : ¬ F.W0 p) (hp : H p = some (.lst vs)) : EI G F δ σ (upd H p (.lst ws)) ∧ Gr (del H (Sl F δ σ)) (del (upd H p (.lst ws)) (Sl F δ σ)) := by
  have gr : Gr (del H (Sl F δ σ)) (del (upd H p (.lst ws)) (Sl F δ σ)) := gr_del fun b u n hb e => ⟨hb, by
    have ne : b ≠ p := fun z => hb (.inr (z ▸ hx))
    rw [upd_ne ne]; exact e⟩
  refine ⟨⟨I.len, fun i e h => ?_, I.nd, I.own, fun b u n hb hw e => ?_, fun a ha => ?_, I.pin, fun q hq => ?_, fun b ps e => ?_, fun a ha => ?_, I.mx, I.wl, I.k1⟩, gr⟩
  · obtain ⟨v, h1, h2⟩ := I.slot i e h
    refine ⟨v, h1, ?_⟩
    cases e with
    | d x => exact Rp.gr gr h2
    | k n =>
      obtain ⟨b, eb, h3⟩ := h2
      exact ⟨b, eb, h3.up fun c u w e => by rw [upd_ne (show c ≠ p from fun z => hW (by rw [← z]; exact w))]; exact e⟩
    | m ys =>
      obtain ⟨a, us, h4, h5, h6⟩ := h2
      subst h4
      have ne : a ≠ p := fun z => hm ⟨i, ys, h, z ▸ h1⟩
      exact ⟨a, us, rfl, by rw [upd_ne ne]; exact h5, RpL.gr gr h6⟩
  · have ne : b ≠ p := fun z => by rw [z, h0] at e; cases e
    rw [upd_ne ne]; exact I.keep b u n hb hw e
  · by_cases e : a = p
    · rw [e]; exact ⟨_, upd_same, nt_lst _⟩
    · rw [upd_ne e]; exact I.ex a ha
  · obtain ⟨ps, e, t⟩ := I.tab q hq
    have ne : q ≠ p := fun z => by rw [z, hp] at e; cases e
    exact ⟨ps, by rw [upd_ne ne]; exact e, t⟩
  · obtain ⟨qs, e1⟩ := I.tk b ps e
    have ne : b ≠ p := fun z => by rw [z, hp] at e1; cases e1
    exact ⟨qs, by rw [upd_ne ne]; exact e1⟩
  · have ne : a ≠ p := fun z => hM (z ▸ ha)
    rw [upd_ne ne]; exact I.mt a ha

/-! ### list comprehensions -/
/-- between two turns: acc is in the new list at D; what is walked stands -/
structure LcI (G : Gx) (F : Fx) (σ : L2.St) (vs : List Nat) (D : Addr) (Hd : Hp → Prop) (IV : List PyData → DEnv → Prop) (len : Nat) (H : Hp) : Prop where
  ex : ∃ acc δ, IV acc (wipeD δ vs) ∧ acc.length ≤ len ∧ New G F (wipeD δ vs) (wipe σ vs) H D acc ∧ Hd (del H (Sl (F.own D) (wipeD δ vs) (wipe σ vs)))
theorem LcI.end_ {vs : List Nat} {D : Addr} {Hd : Hp → Prop} {IV : List PyData → DEnv → Prop} {len : Nat} (hp : ∀ i ∈ G.pn, i ∉ vs) (h : LcI G F σ vs D Hd IV len H) : ∃ acc δ, IV acc (wipeD δ vs) ∧ acc.length ≤ len ∧ New G F (wipeD δ vs) σ H D acc := by
  obtain ⟨acc, δ, iv, hl, N, _⟩ := h.ex
  have ma : ∀ a, MA (wipeD δ vs) σ a → MA (wipeD δ vs) (wipe σ vs) a := fun a ⟨i, xs, h1, h2⟩ => ⟨i, xs, h1, (wipe_get (wipeD_some h1).2).trans h2⟩
  have J := N.ei.unwiped hp
  obtain ⟨ws, h1, r1⟩ := N.at_
  exact ⟨acc, δ, iv, hl, J, fun z => N.ma (ma _ z), N.x0, N.h0, N.m0, N.w0, ws, h1, RpL.gr (gr_del fun b u n hb e => ⟨fun z => hb (z.imp (ma b) id), e⟩) r1⟩
theorem LcI.start_ {vs : List Nat} {D : Addr} {Hd : Hp → Prop} {IV : List PyData → DEnv → Prop} (hp : ∀ i ∈ G.pn, i ∉ vs) (I : EI G F δ σ H) (hD : H D = none) (hg : ∀ H H', Gr H H' → Hd H → Hd H') (r : Hd (del H (Sl F δ σ))) (i0 : IV [] (wipeD δ vs)) : LcI G F σ vs D Hd IV 0 (upd H D (.lst [])) := by
  have J := I.wiped hp
  have ma : ∀ a, MA (wipeD δ vs) (wipe σ vs) a → MA δ σ a := fun a ⟨i, xs, h1, h2⟩ => ⟨i, xs, (wipeD_some h1).1, (wipe_get (wipeD_some h1).2) ▸ h2⟩
  refine ⟨[], δ, i0, Nat.le_refl _, New.mk_ J hD .nil, hg _ _ (gr_del fun b u n hb e => ⟨fun z => ?_, ?_⟩) r⟩
  · rcases z with z | z | z
    · exact hb (.inl (ma b z))
    · rw [z, hD] at e; cases e
    · exact hb (.inr z)
  · have ne : b ≠ D := fun z => by rw [z, hD] at e; cases e
    rw [upd_ne ne]; exact e
/-- one turn -/
theorem lc_turn {g : TG} {vs : List Nat} {D : Addr} {Hd Hd2 : Hp → Prop} {IV IV' : List PyData → DEnv → Prop} {len : Nat} {y : V} {d : PyData} (hp : ∀ i ∈ G.pn, i ∉ vs) (hlen : len < sizeLine)
    (st : ∀ acc δ, IV acc (wipeD δ vs) → acc.length ≤ len → DG G g vs d (wipeD δ vs) fun δ1 => DT G tt δ1 fun b δ2 => if b = true then ED G te δ2 fun z δ3 => IV' (acc ++ [z]) (wipeD δ3 vs) else IV' acc (wipeD δ2 vs))
    (hg : ∀ H H', Gr H H' → Hd H → Hd H') (hw : ∀ H, Hd H → Hd2 H) (I : LcI G F σ vs D Hd IV len H) (ry : ∀ M, Hd (del H M) → Rp G.K (del H M) d y) :
    g y (wipe σ vs) H fun σ2 H2 => wipe σ2 vs = wipe σ vs ∧ tt σ2 H2 fun b H3 =>
      if b = true then te σ2 H3 fun y H4 => ∃ acc, H4 D = some (.lst acc) ∧ acc.length < sizeLine ∧ LcI G F σ vs D Hd2 IV' (len + 1) (upd H4 D (.lst (acc ++ [y]))) else LcI G F σ vs D Hd2 IV' (len + 1) H3 := by
  obtain ⟨acc, δ, iv, hl, ⟨J, nm, nx, n0, nM, nW, ws, hD, ra⟩, hr⟩ := I.ex
  refine st acc δ iv hl (F.own D) (wipe σ vs) H y _ J (ry _ hr) fun δ1 σ1 q1 J1 g1 l1 a1 m1 => ?_
  have we : wipe σ1 vs = wipe σ vs := (wipe_eq l1 a1).trans (wipe_eq (wipe_length σ vs) fun j hj => wipe_get hj)
  have nm1 : ¬ MA δ1 σ1 D := fun z => nm (m1 D z)
  have mw : ∀ {δ' : DEnv} {a : Addr}, MA (wipeD δ' vs) (wipe σ vs) a → MA δ' σ1 a := fun {δ' a} ⟨i, xs, h1, h2⟩ => ⟨i, xs, (wipeD_some h1).1, by
    rw [← we] at h2
    exact (wipe_get (wipeD_some h1).2) ▸ h2⟩
  refine ⟨we, q1.go J1 fun b δ2 H2 q2 s2 => ?_⟩
  have nm2 : ¬ MA δ2 σ1 D := fun z => (s2.ma D z).elim nm1 fun z => by rw [hD] at z; cases z
  have hD2 : H2 D = some (.lst ws) := s2.kp D _ (nt_lst _) nm1 nW hD
  cases b with
  | false =>
    refine iteF ⟨acc, δ2, (by simpa using q2), Nat.le_succ_of_le hl, ?_⟩
    have J2 := s2.ei.wiped hp
    rw [we] at J2
    have sub : Gr (del H2 (Sl (F.own D) δ2 σ1)) (del H2 (Sl (F.own D) (wipeD δ2 vs) (wipe σ vs))) := gr_del fun b u n hb e => ⟨fun z => hb (z.imp mw id), e⟩
    exact ⟨⟨J2, fun z => nm2 (mw z), nx, n0, nM, nW, ws, hD2, RpL.gr sub (RpL.gr s2.gr (RpL.gr g1 ra))⟩, hw _ (hg _ _ sub (hg _ _ s2.gr (hg _ _ g1 hr)))⟩
  | true =>
    have q3 : ED G te δ2 fun z δ3 => IV' (acc ++ [z]) (wipeD δ3 vs) := by simpa using q2
    refine iteT (q3.go s2.ei fun z w δ3 H3 q4 s3 r3 => ?_)
    have nm3 : ¬ MA δ3 σ1 D := fun z => (s3.ma D z).elim nm2 fun z => by rw [hD2] at z; cases z
    have hD3 : H3 D = some (.lst ws) := s3.kp D _ (nt_lst _) nm2 nW hD2
    have J3 := s3.ei.wiped hp
    rw [we] at J3
    have sub : Gr (del H3 (Sl (F.own D) δ3 σ1)) (del H3 (Sl (F.own D) (wipeD δ3 vs) (wipe σ vs))) := gr_del fun b u n hb e => ⟨fun z => hb (z.imp mw id), e⟩
    have rl := RpL.len ra
    obtain ⟨J4, g4⟩ := J3.poke (p := D) (ws := ws ++ [w]) (.inl rfl) (fun z => nm3 (mw z)) n0 nM nW hD3
    refine ⟨ws, hD3, by rw [← rl]; omega, acc ++ [z], δ3, q4, by rw [List.length_append, List.length_singleton]; omega, ⟨J4, fun z => nm3 (mw z), nx, n0, nM, nW, ws ++ [w], upd_same, ?_⟩, ?_⟩
    · exact RpL.gr g4 (RpL.gr sub ((RpL.gr s3.gr (RpL.gr s2.gr (RpL.gr g1 ra))).app (.one r3)))
    · exact hw _ (hg _ _ g4 (hg _ _ sub (hg _ _ s3.gr (hg _ _ s2.gr (hg _ _ g1 hr)))))
/-- [te for i in range(n)] -/
theorem ef_lcR {i : Nat} (hp : i ∉ G.pn) (h : EA G tr δ fun as δ1 => ∃ n : Int, allD as = some [.int n] ∧ -(2 ^ 62) ≤ n ∧ n < 2 ^ 62 ∧ n.toNat ≤ sizeLine ∧ ∃ IV : Nat → List PyData → DEnv → Prop, IV 0 [] (wipeD δ1 [i]) ∧
      (∀ k acc δ2, k < n.toNat → IV k acc (wipeD δ2 [i]) → acc.length ≤ k → ED G te ((wipeD δ2 [i]).set i (some (.d (.int k)))) fun z δ3 => IV (k + 1) (acc ++ [z]) (wipeD δ3 [i])) ∧ ∀ acc δ2, IV n.toNat acc (wipeD δ2 [i]) → acc.length ≤ n.toNat → QF acc (wipeD δ2 [i])) :
    EF G (tLc (iRng1 tr) (gName i) tYes te [i]) δ QF := fun F σ H R I k =>
  h F σ H _ I fun as vs δ1 H1 ⟨n, e, n1, n2, n3, IV, i0, st, fin⟩ J r => by
    have hp' : ∀ j ∈ G.pn, j ∉ [i] := fun j hj z => hp (by rw [← List.mem_singleton.mp z]; exact hj)
    have r2 := allD_ok e r
    cases r2 with
    | cons r3 r4 =>
      cases r4; cases r3
      refine ⟨n, rfl, n1, n2, fun D hD => lc_range (lo := 0) (n := n.toNat) (fun j H' => LcI G F σ [i] D (fun _ => True) (IV j) j H') (LcI.start_ hp' J hD (fun _ _ _ z => z) trivial i0) ?_ ?_⟩
      · intro j H' hj I'
        have ej : (0 : Int) + (j : Int) = (j : Int) := by omega
        rw [ej]
        refine lc_turn (d := .int j) hp' (by omega) (fun acc δ2 iv hl => dg_name (by simp) hp ?_) (fun _ _ _ z => z) (fun _ z => z) I' fun M _ => .int _
        intro F2 σ2 H2 R2 I2 k2
        exact k2 true _ H2 (by simpa using st j acc δ2 hj iv hl) I2
      · intro H' I'
        obtain ⟨acc, δ2, iv, hl, N⟩ := I'.end_ hp'
        exact k acc D _ H' (fin acc δ2 iv hl) N
/-- [te for g in xs if tt] -/
theorem ef_lcL {g : TG} {vs : List Nat} (hp : ∀ j ∈ G.pn, j ∉ vs) (h : ED G tl δ fun x δ1 => ∃ xs, x = .list xs ∧ xs.length ≤ sizeLine ∧ ∃ IV : Nat → List PyData → DEnv → Prop, IV 0 [] (wipeD δ1 vs) ∧
      (∀ k acc δ2 y, xs[k]? = some y → IV k acc (wipeD δ2 vs) → acc.length ≤ k → DG G g vs y (wipeD δ2 vs) fun δ3 => DT G tt δ3 fun b δ4 => if b = true then ED G te δ4 fun z δ5 => IV (k + 1) (acc ++ [z]) (wipeD δ5 vs) else IV (k + 1) acc (wipeD δ4 vs)) ∧
      ∀ acc δ2, IV xs.length acc (wipeD δ2 vs) → acc.length ≤ xs.length → QF acc (wipeD δ2 vs)) : EF G (tLc (iList G.K tl) g tt te vs) δ QF := fun F σ H R I k =>
  h F σ H _ I fun x v δ1 H1 ⟨xs, e, hs, IV, i0, st, fin⟩ J r => by
    subst e
    cases r with
    | @lst a ws _ h1 r1 =>
      obtain ⟨hno, h2⟩ := del_some.mp h1
      have hg : ∀ H H' : Hp, Gr H H' → (H a = some (.lst ws) ∧ RpL G.K H xs ws) → (H' a = some (.lst ws) ∧ RpL G.K H' xs ws) := fun H H' g z => ⟨g _ _ (nt_lst _) z.1, RpL.gr g z.2⟩
      refine ⟨a, rfl, ⟨ws, SqL.of h2⟩, fun D hD => lc_list (K := G.K) (a := a) (xs := ws) (fun j H' => LcI G F σ vs D (fun H => H a = some (.lst ws) ∧ RpL G.K H xs ws) (IV j) j H') (LcI.start_ hp J hD hg ⟨h1, r1⟩ i0) ?_ ?_ ?_⟩
      · rintro j H' _ I'
        obtain ⟨_, _, _, _, _, q⟩ := I'.ex
        exact SqL.of (del_some.mp q.1).2
      · rintro j y H' hy I'
        obtain ⟨d, hd, _⟩ := r1.getV hy
        have hj : j < xs.length := (List.getElem?_eq_some_iff.mp hd).1
        refine lc_turn (d := d) hp (by omega) (fun acc δ2 iv hl => st j acc δ2 d hd iv hl) hg (fun _ z => z) I' fun M q => ?_
        obtain ⟨d', hd', rd⟩ := q.2.getV hy
        rw [hd] at hd'
        cases hd'
        exact rd
      · rintro H' I'
        rw [← r1.len] at I'
        obtain ⟨acc, δ2, iv, hl, N⟩ := I'.end_ hp
        exact k acc D _ H' (fin acc δ2 iv hl) N
end
end DX


set_option Elab.async false
set_option linter.all false
set_option maxRecDepth 100000
set_option maxHeartbeats 1000000
namespace DX
open PySem PySem.Spec PyProof.Rows L2 GxR GA
open Classical
section
variable {G : Gx} {F : Fx} {δ δ' : DEnv} {σ σ' : L2.St} {H H' : Hp} {ta tb tc te tl : TE} {tr tk : TA} {Q : PyData → DEnv → Prop} {QF : List PyData → DEnv → Prop} {tt : TT}
theorem EI.tabbed {P : Addr} (I : EI G F δ σ H) (hP : P ∈ G.cs) (T : Tabbed P H H') : EI G F δ σ H' ∧ Gr (del H (Sl F δ σ)) (del H' (Sl F δ σ)) := by
  obtain ⟨ps, h0, _⟩ := I.tab P hP
  have kp : ∀ b o, NT o → H b = some o → H' b = some o := fun b o n e => by
    have ne : b ≠ P := fun z => by rw [z, h0] at e; cases e; exact n _ rfl
    rw [T.2 b ne]; exact e
  refine ⟨I.called kp (fun b qs e => ?_) fun p hp => ?_, gr_del fun b u n hb e => ⟨hb, kp b u n e⟩⟩
  · by_cases hb : b = P
    · obtain ⟨rs, e1, _⟩ := T.1
      exact ⟨rs, by rw [hb]; exact e1⟩
    · exact ⟨qs, by rw [T.2 b hb]; exact e⟩
  · by_cases hb : p = P
    · rw [hb]; exact T.1
    · obtain ⟨qs, e, t⟩ := I.tab p hp
      exact ⟨qs, by rw [T.2 p hb]; exact e, t⟩
/-- all(te for i in xs) -/
theorem ed_allG {i : Nat} {P : Addr} (hP : P ∈ G.cs) (hp : i ∉ G.pn) (h : ED G tl δ fun x δ1 => ∃ xs, x = .list xs ∧ ∃ IV : Nat → DEnv → Prop, IV 0 (wipeD δ1 [i]) ∧
      (∀ k δ2 y, xs[k]? = some y → IV k (wipeD δ2 [i]) → ED G te ((wipeD δ2 [i]).set i (some (.d y))) fun z δ3 => ∃ b, z = .bool b ∧ if b = true then IV (k + 1) (wipeD δ3 [i]) else Q (.bool false) (wipeD δ3 [i])) ∧
      ∀ δ2, IV xs.length (wipeD δ2 [i]) → Q (.bool true) (wipeD δ2 [i])) : ED G (tAllG P (iList G.K tl) (gName i) te [i]) δ Q := fun F σ H R I k =>
  h F σ H _ I fun x v δ1 H1 ⟨xs, e, IV, i0, st, fin⟩ J r => by
    subst e
    have hp' : ∀ j ∈ G.pn, j ∉ [i] := fun j hj z => hp (by rw [← List.mem_singleton.mp z]; exact hj)
    cases r with
    | @lst a ws _ h1 r1 =>
      obtain ⟨hno, h2⟩ := del_some.mp h1
      refine ⟨a, rfl, ⟨ws, SqL.of h2⟩, J.tab P hP, fun H2 T => ?_⟩
      obtain ⟨J2, g2⟩ := J.tabbed hP T
      have w1 : ∀ {δ' : DEnv} {b : Addr}, MA (wipeD δ' [i]) (wipe σ [i]) b → MA δ' σ b := fun {δ' b} ⟨j, ys, e1, e2⟩ => ⟨j, ys, (wipeD_some e1).1, (wipe_get (wipeD_some e1).2) ▸ e2⟩
      have sub : ∀ {δ' : DEnv} {H' : Hp}, Gr (del H' (Sl F δ' σ)) (del H' (Sl F (wipeD δ' [i]) (wipe σ [i]))) := fun {δ' H'} => gr_del fun b u n hb e => ⟨fun z => hb (z.imp w1 id), e⟩
      refine ⟨xs.length, fun j H' => ∃ δ2, IV j (wipeD δ2 [i]) ∧ EI G F (wipeD δ2 [i]) (wipe σ [i]) H' ∧ (del H' (Sl F (wipeD δ2 [i]) (wipe σ [i]))) a = some (.lst ws) ∧ RpL G.K (del H' (Sl F (wipeD δ2 [i]) (wipe σ [i]))) xs ws,
        ⟨δ1, i0, J2.wiped hp', sub _ _ (nt_lst _) (g2 _ _ (nt_lst _) h1), RpL.gr sub (RpL.gr g2 r1)⟩, ⟨?_, ?_⟩⟩
      · rintro j H' hj ⟨δ2, iv, J3, ha, rl⟩
        have hw : j < ws.length := by rw [← r1.len]; exact hj
        refine ⟨⟨ws, ws[j], SqL.of (del_some.mp ha).2, by simp [hw]⟩, ?_⟩
        rintro y H'' ⟨rfl, hy⟩
        have hy := hy ws (SqL.of (del_some.mp ha).2)
        obtain ⟨d, hd, rd⟩ := rl.getV hy
        have J4 := J3.set_d (i := i) hp rd
        have we : wipe ((wipe σ [i]).set i (some y)) [i] = wipe σ [i] := wipe_eq (by rw [List.length_set, wipe_length]) fun j hj => by
          have : i ≠ j := fun z => hj (by rw [← z]; exact List.mem_singleton.mpr rfl)
          rw [List.getElem?_set_ne this, wipe_get hj]
        refine ⟨we, ?_⟩
        have g4 : Gr (del H'' (Sl F (wipeD δ2 [i]) (wipe σ [i]))) (del H'' (Sl F ((wipeD δ2 [i]).set i (some (.d d))) ((wipe σ [i]).set i (some y)))) := gr_del fun b u n hb e => ⟨fun z => hb (z.imp (fun z => (MA.set_d (fun _ q => by cases q) z).1) id), e⟩
        refine (st j δ2 d hd iv).go J4 fun z w δ3 H3 ⟨b, eb, q⟩ s3 r3 => ?_
        subst eb
        cases r3
        have J5 := s3.ei.wiped hp'
        rw [we] at J5
        have w2 : ∀ {b : Addr}, MA (wipeD δ3 [i]) (wipe σ [i]) b → MA δ3 ((wipe σ [i]).set i (some y)) b := fun {b} ⟨j, ys, e1, e2⟩ => ⟨j, ys, (wipeD_some e1).1, by
          rw [← we] at e2
          exact (wipe_get (wipeD_some e1).2) ▸ e2⟩
        have sub2 : Gr (del H3 (Sl F δ3 ((wipe σ [i]).set i (some y)))) (del H3 (Sl F (wipeD δ3 [i]) (wipe σ [i]))) := gr_del fun b u n hb e => ⟨fun z => hb (z.imp w2 id), e⟩
        refine ⟨b, rfl, ?_⟩
        cases b with
        | true =>
          refine iteT ⟨δ3, (by simpa using q), J5, sub2 _ _ (nt_lst _) (s3.gr _ _ (nt_lst _) (g4 _ _ (nt_lst _) ha)), RpL.gr sub2 (RpL.gr s3.gr (RpL.gr g4 rl))⟩
        | false => exact iteF (k _ _ _ H3 (by simpa using q) (J5.unwiped hp') (.bl _))
      · rintro H' ⟨δ2, iv, J3, ha, rl⟩
        refine ⟨⟨ws, SqL.of (del_some.mp ha).2, by rw [← r1.len]; exact Nat.le_refl _⟩, ?_⟩
        exact k _ _ _ H' (fin δ2 iv) (J3.unwiped hp') (.bl _)
/-- .. where the test is a plain one -/
theorem ed_allP {i : Nat} {P : Addr} (hP : P ∈ G.cs) (hp : i ∉ G.pn) (pb : PyData → Bool) (h : ED G tl δ fun x δ1 => ∃ xs, x = .list xs ∧
      (∀ y ∈ xs, ∀ Q' : PyData → DEnv → Prop, (∀ δ3, wipeD δ3 [i] = wipeD δ1 [i] → Q' (.bool (pb y)) δ3) → ED G te ((wipeD δ1 [i]).set i (some (.d y))) Q') ∧ Q (.bool (xs.all pb)) (wipeD δ1 [i])) : ED G (tAllG P (iList G.K tl) (gName i) te [i]) δ Q :=
  ed_allG hP hp (h.mono fun x δ1 ⟨xs, e, ht, q⟩ => by
    refine ⟨xs, e, fun k δ2 => δ2 = wipeD δ1 [i] ∧ (xs.take k).all pb = true, ⟨rfl, rfl⟩, ?_, ?_⟩
    · rintro k δ2 y hy ⟨e1, hb⟩
      rw [e1]
      refine ht y (List.mem_of_getElem? hy) _ fun δ3 e3 => ⟨pb y, rfl, ?_⟩
      have hk : k < xs.length := (List.getElem?_eq_some_iff.mp hy).1
      have ek : xs[k] = y := (List.getElem?_eq_some_iff.mp hy).2
      cases hpb : pb y with
      | true =>
        refine iteT ⟨e3, ?_⟩
        rw [List.take_succ_eq_append_getElem hk, List.all_append, hb, ek]
        simp [hpb]
      | false =>
        refine iteF ?_
        rw [e3]
        have : xs.all pb = false := by
          rw [List.all_eq_false]
          exact ⟨y, List.mem_of_getElem? hy, by simp [hpb]⟩
        rw [this] at q
        exact q
    · rintro δ2 ⟨e1, hb⟩
      rw [e1]
      rw [List.take_length] at hb
      rw [hb] at q
      exact q)
end
/-! ### powers of great numbers -/
def CPowW (i j : Int) : Prop := 0 ≤ j ∧ (i.natAbs.log2 + 1 : Nat) * j.toNat ≤ 100000
theorem op_powW {X : Cx} : OpR X (binaryOp .Pow) (rI CPowW fun i j => .int (i ^ j.toNat)) := opI fun i j _ _ _ _ _ hc q => by
  obtain ⟨h0, h1⟩ := hc
  refine pow_int h0 ?_ q
  have b : Builtin.Int.intBits i ≤ i.natAbs.log2 + 1 := by
    unfold Builtin.Int.intBits
    split <;> omega
  have e : ((Builtin.Int.intBits i : Nat) : Int) * j = ((Builtin.Int.intBits i * j.toNat : Nat) : Int) := by
    rw [Int.natCast_mul, Int.toNat_of_nonneg h0]
  rw [e]
  have h2 : Builtin.Int.intBits i * j.toNat ≤ 100000 := Nat.le_trans (Nat.mul_le_mul_right _ b) h1
  have h3 : ((Builtin.Int.intBits i * j.toNat : Nat) : Int) ≤ ((100000 : Nat) : Int) := Int.ofNat_le.mpr h2
  exact Int.le_trans h3 (by decide)
end DX


set_option Elab.async false
set_option linter.all false
set_option maxRecDepth 100000
set_option maxHeartbeats 1000000
namespace DX
open PySem PySem.Spec PyProof.Rows L2 GxR GA
open Classical
section
variable {G : Gx} {F : Fx} {δ δ' : DEnv} {σ σ' : L2.St} {H H' : Hp} {ta tb tc te tl : TE} {tr tk : TA} {Q : PyData → DEnv → Prop} {QF : List PyData → DEnv → Prop} {tt : TT} {QS : Out → Prop} {t : TS}
/-! ### for over enumerate -/
theorem for_enum {K : PySem.W.Frag} {a : Addr} {xs : List V} {g : TG} {tb : TS} {D : Ends} {σ : L2.St} {H : Hp} (Pv : Nat → L2.St → Hp → Prop) (h0 : Pv 0 σ H) (hl : ∀ i σ H, i ≤ xs.length → Pv i σ H → SqL K H a xs)
    (hs : ∀ i x σ H T, xs[i]? = some x → Pv i σ H → H T = none → g (.ref T) σ (upd H T (.tup [.int (i : Nat), x])) fun σ2 H2 => tb { D with nx := Pv (i + 1), ct := Pv (i + 1), bk := D.nx } σ2 H2) (hd : ∀ σ H, Pv xs.length σ H → D.nx σ H) :
    ∃ W : Nat → Nat → L2.St → Hp → Prop, (∃ m, W 0 m σ H) ∧ ∀ i m σ H, W i m σ H →
      ((Ite K a).stop i H ∧ D.nx σ H) ∨ ((Ite K a).go i H ∧ ∃ N : L2.St → Hp → Prop, (∀ σ' H', N σ' H' → ∃ m', m' < m ∧ W (i + 1) m' σ' H') ∧ ∀ x H', (Ite K a).yld i H x H' → g x σ H' fun σ2 H2 => tb { D with nx := N, ct := N, bk := D.nx } σ2 H2) := by
  refine ⟨fun i m σ H => m = xs.length - i ∧ i ≤ xs.length ∧ Pv i σ H, ⟨xs.length, by simp, Nat.zero_le _, h0⟩, ?_⟩
  rintro i m σ H ⟨rfl, hi, p⟩
  have q := hl i σ H hi p
  by_cases hlt : i < xs.length
  · refine .inr ⟨⟨xs, xs[i], q, by simp [hlt]⟩, Pv (i + 1), fun σ' H' p' => ⟨xs.length - (i + 1), by omega, rfl, hlt, p'⟩, fun x H' y => ?_⟩
    obtain ⟨T, z, rfl, hT, rfl, y⟩ := y
    exact hs i z σ H T (y xs q) p hT
  · have e : i = xs.length := by omega
    subst e
    exact .inl ⟨⟨xs, q, Nat.le_refl _⟩, hd σ H p⟩
theorem sd_forE {g : TG} {vs : List Nat} (h : EA G tr δ fun as δ1 => ∃ xs, allD as = some [.list xs] ∧ ∃ IV : Nat → DEnv → Prop, IV 0 δ1 ∧
      (∀ k δ2 y, xs[k]? = some y → IV k δ2 → DG G g vs (.tuple [.int (k : Nat), y]) δ2 fun δ3 => SD G t δ3 (Lp QS (IV (k + 1)))) ∧ ∀ δ2, IV xs.length δ2 → QS (.nx δ2)) : SD G (tFor (iEnum G.K tr) g t) δ QS := fun F σ H D I k =>
  h F σ H _ I fun as ws0 δ1 H1 ⟨xs, e, IV, i0, st, fin⟩ J r0 => by
    have r2 := allD_ok e r0
    cases r2 with
    | cons r r4 =>
      cases r4
      cases r with
      | @lst a ws _ h1 r1 =>
        obtain ⟨hno, h2⟩ := del_some.mp h1
        have stay : ∀ {δ2 : DEnv} {σ2 : L2.St} {H2 : Hp}, EI G (F.now δ1 σ H1) δ2 σ2 H2 → H2 a = some (.lst ws) ∧ RpL G.K (del H2 (Sl (F.now δ1 σ H1) δ2 σ2)) xs ws := fun {δ2 σ2 H2} J2 => by
          have s := J.since J2
          exact ⟨s.kp a _ (nt_lst _) (fun z => hno (.inl z)) (fun w => hno (.inr (J.wl a w).1)) h2, RpL.gr s.gr r1⟩
        refine ⟨a, ws, rfl, SqL.of h2, for_enum (xs := ws) (fun j σ' H' => ∃ δ2, IV j δ2 ∧ EI G (F.now δ1 σ H1) δ2 σ' H') ⟨δ1, i0, J.now⟩ ?_ ?_ ?_⟩
        · rintro j σ2 H2 _ ⟨δ2, iv, J2⟩
          exact SqL.of (stay J2).1
        · rintro j y σ2 H2 T hy ⟨δ2, iv, J2⟩ hT
          obtain ⟨d, hd, rd⟩ := (stay J2).2.getV hy
          have J3 := J2.laid hT (nt_tup [.int (j : Nat), y])
          obtain ⟨_, _, hX, hm⟩ := J2.fresh hT
          have rd2 : Rp G.K (del (upd H2 T (.tup [.int (j : Nat), y])) (Sl (F.now δ1 σ H1) δ2 σ2)) (.tuple [.int (j : Nat), d]) (.ref T) :=
            .tup (.inl (.inl (del_some.mpr ⟨fun z => z.elim hm hX, upd_same⟩))) (.cons (.int _) (.cons (rd.gr (gr_laid hT)) .nil))
          exact st j δ2 d hd iv _ σ2 _ _ _ J3 rd2 fun δ3 σ3 q3 J3 _ _ _ _ => q3 _ σ3 _ _ J3 (loop_ends (fun o q => sat_back J (k o q)) fun δ4 σ4 H4 iv4 J4 => ⟨δ4, iv4, J4⟩)
        · rintro σ2 H2 ⟨δ2, iv, J2⟩
          rw [← r1.len] at iv
          exact k _ (fin δ2 iv) σ2 H2 (J.back J2)
/-! ### list.count of an int among ints and None -/
def okC : V → Bool
  | .non => true
  | .int _ => true
  | _ => false
def cntV (k : Int) (vs : List V) : Nat := vs.countP fun v => match v with
  | .int i => i == k
  | _ => false
def rCntM (K : PySem.W.Frag) : V → List V → Hp → VK → Prop := fun x xs H Q => ∃ (p : Addr) (ws : List V) (k : Int), x = .ref p ∧ xs = [.int k] ∧ SqL K H p ws ∧ ws.all okC = true ∧ Q (.int (cntV k ws : Nat)) H
theorem cntV_vals {k : Int} : ∀ {vs : List V} {us : List Value}, vs.all okC = true → Vals vs us → us.countP (eqk k) = cntV k vs ∧ ∀ (A : Around) (s : Shared) (t : Tok), ∀ y ∈ us, SeqAt.EqAt A s y (.int k t) (eqk k y)
  | [], _, _, .nil => ⟨rfl, fun _ _ _ y hy => by cases hy⟩
  | v :: vs, _, h, .cons r t => by
    have h' : (okC v && vs.all okC) = true := h
    rw [Bool.and_eq_true] at h'
    obtain ⟨ih1, ih2⟩ := cntV_vals (k := k) h'.2 t
    cases v with
    | non =>
      cases r
      refine ⟨?_, fun A s tk y hy => ?_⟩
      · unfold cntV at ih1 ⊢
        rw [List.countP_cons, List.countP_cons, ih1]
        rfl
      · rcases List.mem_cons.mp hy with rfl | hy
        · exact SeqAt.EqAt.none_int k tk
        · exact ih2 A s tk y hy
    | int i =>
      obtain ⟨t', rfl⟩ := r
      refine ⟨?_, fun A s tk y hy => ?_⟩
      · unfold cntV at ih1 ⊢
        rw [List.countP_cons, List.countP_cons, ih1]
        rfl
      · rcases List.mem_cons.mp hy with rfl | hy
        · exact SeqAt.EqAt.int_int i t' k tk
        · exact ih2 A s tk y hy
    | _ => cases h'.1
theorem mt_cntM {X : Cx} : MtR X "list.count" (rCntM X.K) := by
  intro pins s σ H x xs v us Q I rx rxs h
  obtain ⟨p, ws, k, rfl, rfl, hs, hok, q⟩ := h
  cases rx
  obtain ⟨u, rfl, ru⟩ := rxs.one
  obtain ⟨t, rfl⟩ := ru
  obtain ⟨its, rv, ⟨⟨cls, dd, data, sl⟩, n, ho, hc, hdn, hd⟩, hlen⟩ := I.list hs
  simp only at hc hd
  subst hc hd
  obtain ⟨ec, he⟩ := cntV_vals (k := k) hok rv
  refine call_meets PySem.F.slot_list_count ⟨_, ho, rfl⟩ PySem.F.entry_list_count (PySem.F.args_list_count_2 _ _)
    (SeqAt.list_countAt p its.toArray n dd sl (.int k t) (eqk k)) ⟨ho, fun y hy => he _ _ t y (by simpa using hy), ?_⟩
  refine ⟨.int (cntV k ws : Nat), H, I.tok _, ⟨s.toks, ?_⟩, q⟩
  show Value.int ((its.toArray.toList.countP (eqk k) : Nat) : Int) s.toks = Value.int ((cntV k ws : Nat) : Int) s.toks
  rw [← ec]
def oD : Option Int → PyData
  | none => .none
  | some i => .int i
def oV : Option Int → V
  | none => .non
  | some i => .int i
theorem rp_os {K : PySem.W.Frag} : ∀ {ns : List (Option Int)} {vs : List V}, RpL K H (ns.map oD) vs → vs = ns.map oV
  | [], _, .nil => rfl
  | none :: bs, _, .cons r t => by
    cases r
    rw [rp_os t]
    rfl
  | some i :: bs, _, .cons r t => by
    cases r
    rw [rp_os t]
    rfl
theorem cnt_os (k : Int) : ∀ ns : List (Option Int), cntV k (ns.map oV) = ns.count (some k)
  | [] => rfl
  | x :: ns => by
    have ih := cnt_os k ns
    unfold cntV at ih ⊢
    rw [List.map_cons, List.countP_cons, List.count_cons, ih]
    cases x with
    | none => rfl
    | some i => rfl
theorem ok_os : ∀ ns : List (Option Int), (ns.map oV).all okC = true
  | [] => rfl
  | none :: ns => by simp [oV, okC, ok_os ns]
  | some i :: ns => by simp [oV, okC, ok_os ns]
theorem ed_cnt (h : ED G ta δ fun x δ1 => ∃ ns : List (Option Int), x = .list (ns.map oD) ∧ EA G tr δ1 fun as δ2 => ∃ (k : Int), allD as = some [.int k] ∧ Q (.int (ns.count (some k) : Nat)) δ2) : ED G (tBM G.K "list" (rCntM G.K) ta tr) δ Q := fun F σ H R I k =>
  h.go I fun x u δ1 H1 ⟨ns, e, q1⟩ s1 r1 => by
    subst e
    cases r1 with
    | @lst a ws _ h1 r1 =>
      refine ⟨.inl ⟨rfl, ws, SqL.of (del_some.mp h1).2⟩, q1.go s1.ei fun as vs δ2 H2 ⟨k', e, q2⟩ s2 r2 => ?_⟩
      have r3 := allD_ok e r2
      cases r3 with
      | cons r4 r5 =>
        cases r5; cases r4
        have e1 := rp_os r1
        refine ⟨a, ws, k', rfl, rfl, SqL.of (del_some.mp (s2.gr _ _ (nt_lst _) h1)).2, by rw [e1]; exact ok_os ns, ?_⟩
        rw [e1, cnt_os]
        exact k _ _ δ2 H2 q2 s2.ei (.int _)
/-! ### a list many times -/
theorem rpL_rep {K : PySem.W.Frag} {xs : List PyData} {vs : List V} (r : RpL K H xs vs) : ∀ n : Nat, RpL K H (List.replicate n xs).flatten (List.replicate n vs).flatten
  | 0 => .nil
  | n + 1 => by
    rw [List.replicate_succ, List.replicate_succ, List.flatten_cons, List.flatten_cons]
    exact r.app (rpL_rep r n)
theorem ef_rep (h : EF G ta δ fun xs δ1 => ED G tb δ1 fun y δ2 => ∃ k : Int, y = .int k ∧ -(2 ^ 63) ≤ k ∧ k < 2 ^ 63 ∧ xs.length * k.toNat ≤ sizeLine ∧ QF (List.replicate k.toNat xs).flatten δ2) : EF G (tOp rRep ta tb) δ QF := fun F σ H R I k =>
  (ed_ef (Q := fun x δ1 => ∃ xs, x = .list xs ∧ ED G tb δ1 fun y δ2 => ∃ k : Int, y = .int k ∧ -(2 ^ 63) ≤ k ∧ k < 2 ^ 63 ∧ xs.length * k.toNat ≤ sizeLine ∧ QF (List.replicate k.toNat xs).flatten δ2) (fun F σ H R I k => h F σ H R I fun xs p δ1 H1 q N => k xs p δ1 H1 ⟨xs, rfl, q⟩ N)).go I
    fun x u δ1 H1 ⟨xs, e, q1⟩ s1 r1 => by
      subst e
      cases r1 with
      | @lst a ws _ h1 r1 =>
        refine q1.go s1.ei fun y w δ2 H2 ⟨k', e, k1, k2, k3, q2⟩ s2 r2 => ?_
        subst e
        cases r2
        have r3 := RpL.gr s2.gr r1
        exact ⟨a, k', ws, rfl, rfl, (del_some.mp (s2.gr _ _ (nt_lst _) h1)).2, k1, k2, by rw [← r1.len]; exact k3, fun p hp => k _ p δ2 _ q2 (New.mk_ s2.ei hp (rpL_rep r3 _))⟩
/-! ### unpacking a list -/
theorem dg_unl {gs : TGs} {vs : List Nat} {ds : List PyData} {n : Nat} {QD : DEnv → Prop} (hn : ds.length = n) (h : DGs G gs vs ds δ QD) : DG G (gUnl G.K n gs) vs (.list ds) δ QD := fun F σ H v R I r k => by
  cases r with
  | @lst a ws _ h1 r2 => exact ⟨a, ws, rfl, SqL.of (del_some.mp h1).2, by rw [← r2.len]; exact hn, h F σ H _ R I r2 k⟩
end
end DX


set_option Elab.async false
set_option linter.all false
set_option maxRecDepth 100000
set_option maxHeartbeats 1000000
/-! the end for a law that asks repr: its own def is entered from the caller alone, where no repr is under way -/
namespace EndG
open PySem PySem.Spec PyProof.Rows L2
/-- the law's def, entered from the caller -/
def RunG (P : Program) (w : World) (K : PySem.W.Frag) (mg : Str → Option Value) (base : Heap) (CX : CXT) (f : Addr) (fd : FuncData) (x : Str) (sp : Sp) : Prop :=
  ∀ (z : Shared) (H : Hp) (u : Value) (v : V) (Q : VK) (E : XK), Env0 P w K mg base callerA [] z H → BindsTo z fd ⟨[u], []⟩ [(x, u)] → RelV v u → sp [v] H Q E →
    codeAny (model P w) callerA (.call (.ref f) ⟨[u], []⟩) (CR CX [] P w H z Q E) z
section
variable {CX : CXT} {P : Program} {w : World} {K : PySem.W.Frag} {mg : Str → Option Value} {base : Heap} {nm qual : Str} {params : Arguments} {body : List Stmt} {scope : Scope} {dvs : List V} {kws : List (Str × V)} {f : Addr} {fd : FuncData}
theorem runG_of {N : List Str} {x : Str} {k : Nat} {sp : Sp} {c : Addr} (F : FunD K nm qual params body scope dvs kws f fd) (S : FnScope N [x] scope) (hc : fd.code = .ref c) (room : Room (k + 1) callerA)
    (hb : ∀ (z : Shared) (H : Hp) (v : V) (Q : VK) (E : XK), Room k (callerA.deeper (envOfC qual scope z.heap.objs.size f (.ref c))) → sp [v] H Q E →
      ∃ t, PSs (cxOf CX P w K mg base N qual scope f (.ref c) callerA [] z H E) body t ∧ t { nx := fun _ H' => Q .non H', rt := Q } (start N [v]) H) : RunG P w K mg base CX f fd x sp := by
  obtain ⟨oc, od, dV, kV, doc, pm, an, cdv, ct, osl, rfl, look, code, _, _⟩ := F.ex
  obtain rfl : cdv = .ref c := hc
  intro z H u v Q E en bind rel hsp
  have rels : Vals [v] [u] := .cons rel .nil
  have inK : K.In z.heap := en.mod.kin.keeps fun b o e => (en.bs b o e).1
  have free : z.heap.NoLimit := en.mod.nolimit.keeps fun b o e => (en.bs b o e).1
  have kinds : ∀ y ∈ [x].zip [u], scope.names.lookup y.1 = some .local ∨ (scope.names.lookup y.1 = some .cell ∧ ((cellsFrom (z.heap.objs.size + 1) scope.names []).lookup y.1).isSome = true) := by
    intro y hy
    have ey : y.1 = x := by
      have hy' : y ∈ [(x, u)] := hy
      rw [List.mem_singleton.mp hy']
    rcases S.par x (List.mem_singleton.mpr rfl) with h | h
    · exact .inl (ey ▸ h)
    · exact .inr ⟨ey ▸ h, PySem.W.cellsFrom_some _ _ _ (.inl (ey ▸ h))⟩
  refine codeAny_call_function room.depth (inK _ _ look) rfl S.co S.gen rfl (PySem.W.codeRec_of inK code) (bind _ _ _ _ ?_)
  refine wpAny_newFunctionEnv_cells (binds := [x].zip [u]) S.kind kinds fun env ee z1 inside => ?_
  subst ee
  refine ⟨free.keeps inside.toInCall.keep, codeAny_func ?_⟩
  obtain ⟨t, runs, wish⟩ := hb z H v Q E (room.deeper _) hsp
  have at0 : Inv (cxOf CX P w K mg base N qual scope f (.ref c) callerA [] z H E) [] (start N [v]) H z1 := inv_start S room.hd en rfl rels inside
  refine wpAny_mono (runs.run [] z1 (start N [v]) H _ at0 wish) (fun flow z2 ends => ?_) fun e z2 ends => ends
  have done : ∀ {τ : L2.St} {H' : Hp} {r : V} {q : Value}, Inv (cxOf CX P w K mg base N qual scope f (.ref c) callerA [] z H E) [] τ H' z2 → RelV r q → Q r H' → CE [] P w H z Q q z2 :=
    fun {τ H' r q} J rr qq => ⟨r, H', J.os, J.bare, J.base, J.hok, rr, qq⟩
  cases flow with
  | ret q =>
    obtain ⟨r, τ, H', J, rr, qq⟩ := ends
    exact done J rr qq
  | next =>
    obtain ⟨τ, H', J, qq⟩ := ends
    exact done J (show RelV .non .none from rfl) qq
  | brk => exact (ends.elim fun _ h => h.elim fun _ h => h.2).elim
  | cont => exact (ends.elim fun _ h => h.elim fun _ h => h.2).elim
end
/-- what is tracked at the law's call: the tables, the script where K doesn't hold it -/
structure Trk (K : PySem.W.Frag) (H : Hp) (a : Addr) (ob : Obj) (ns : List Int) (tabs : List Addr) : Prop where
  tab : ∀ b ∈ tabs, H b = some (.tbl #[])
  all : ∀ b u, H b = some u → (b ∈ tabs ∧ u = .tbl #[]) ∨ (b = a ∧ K.lookup a = none ∧ u = .frz ob (.lst (ns.map V.int)))
  scr : SqL K H a (ns.map V.int)
theorem trk_ex {K : PySem.W.Frag} {h : Heap} {a : Addr} {vs : List Value} {ns : List Int} {tabs : List Addr} (inK : K.In h) (ha : h.get? a = some { cls := .type "list", data := .seq vs.toArray }) (nums : IntsAre vs ns) (small : ns.length ≤ sizeLine) (na : a ∉ tabs) :
    ∃ H, Trk K H a { cls := .type "list", data := .seq vs.toArray } ns tabs := by
  have lv := nums.length
  cases look : K.lookup a with
  | some o =>
    have same := inK a o look
    rw [ha] at same
    cases same
    refine ⟨fun b => if b ∈ tabs then some (.tbl #[]) else none, fun b hb => if_pos hb, fun b u hu => ?_, .inr ⟨_, vs.toArray, _, look, rfl, rfl, rfl, by rw [List.size_toArray, lv]; exact small, by simpa using vals_ints nums⟩⟩
    by_cases hb : b ∈ tabs
    · have hu' : some (HO.tbl #[]) = some u := (if_pos hb).symm.trans hu
      exact .inl ⟨hb, (Option.some.inj hu').symm⟩
    · have hu' : (none : Option HO) = some u := (if_neg hb).symm.trans hu
      cases hu'
  | none =>
    refine ⟨fun b => if b ∈ tabs then some (.tbl #[]) else if b = a then some (.frz { cls := .type "list", data := .seq vs.toArray } (.lst (ns.map V.int))) else none, fun b hb => if_pos hb, fun b u hu => ?_, .inl (.inr ⟨_, (if_neg na).trans (if_pos rfl)⟩)⟩
    by_cases hb : b ∈ tabs
    · have hu' : some (HO.tbl #[]) = some u := (if_pos hb).symm.trans hu
      exact .inl ⟨hb, (Option.some.inj hu').symm⟩
    · have h1 := (if_neg hb).symm.trans hu
      by_cases e : b = a
      · have hu' := (if_pos e).symm.trans h1
        exact .inr ⟨e, look, (Option.some.inj hu').symm⟩
      · have hu' := (if_neg e).symm.trans h1
        cases hu'
theorem law_top {P : Program} {w : World} {K : PySem.W.Frag} {mg mb : Str → Option Value} {CX : CXT} {fa a : Addr} {cs : List (Addr × Addr)} {fd : FuncData} {x : Str} {sp : Sp} {z : Shared} {vs : List Value} {ns : List Int}
    (inK : K.In z.heap) (glob : z.heap.Ns mainGlobals mg) (blt : z.heap.Ns builtinsNs mb) (boot : ∀ x : Str, x ≠ "__name__" → mb x = bootBuiltins x) (free : z.heap.NoLimit) (nogen : z.gens = #[])
    (empty : ∀ p ∈ cs, z.heap.get? p.2 = some { cls := .none, data := .fields #[] }) (outK : ∀ p ∈ cs, K.lookup p.2 = none) (heads : ∀ p ∈ cs, PySem.W.CodeHd z.heap p.1 p.2)
    (bmod : ∃ (bm : Addr) (ob : Obj), mg "__builtins__" = some (.ref bm) ∧ bm ≠ builtinsNs ∧ z.heap.get? bm = some ob ∧ ob.cls = .type "module" ∧ ob.dict = some builtinsNs ∧ ob.data = .plain)
    (ha : z.heap.get? a = some { cls := .type "list", data := .seq vs.toArray }) (nums : IntsAre vs ns) (small : ns.length ≤ sizeLine)
    (F : ∀ base : Heap, K.In base → base.Ns mainGlobals mg → (∀ p ∈ cs, LamX.TabB base mg p.1 p.2) → RunG P w K mg base CX fa fd x sp) (bind : ∀ (s : Shared) (u : Value), BindsTo s fd ⟨[u], []⟩ [(x, u)])
    (wish : ∀ H : Hp, (∀ p ∈ cs, H p.2 = some (.tbl #[])) → SqL K H a (ns.map V.int) → sp [.ref a] H (fun v _ => v = .bl true) fun _ _ _ => False)
    (calm : ∀ H e s', CX [] H z (fun _ _ _ => False) e s' → False) :
    codeAny (model P w) callerA (.call (.ref fa) ⟨[.ref a], []⟩) (fun r s' => r = .ok (.ret (.bool true)) ∧ OldK z.heap s'.heap ∧ s'.os = z.os ∧ AllBare s'.gens) z := by
  have isTab : ∀ b ∈ cs.map (·.2), z.heap.get? b = some { cls := .none, data := .fields #[] } := by
    intro b hb
    obtain ⟨p, hp, rfl⟩ := List.mem_map.mp hb
    exact empty p hp
  have mem : ∀ p ∈ cs, p.2 ∈ cs.map (·.2) := fun p hp => List.mem_map.mpr ⟨p, hp, rfl⟩
  have na : a ∉ cs.map (·.2) := by
    intro hb
    have two := (isTab a hb).symm.trans ha
    have bad : Data.fields #[] = Data.seq vs.toArray _ := congrArg Obj.data (Option.some.inj two)
    cases bad
  obtain ⟨H, T⟩ := trk_ex (K := K) inK ha nums small na
  have hid : ∀ {b : Addr} {o : Obj}, z.heap.get? b = some o → (∀ us n, o.data ≠ .seq us n) → o.data ≠ .fields #[] → (hidT z.heap H).get? b = some o := by
    intro b o e n1 n2
    refine hidT_get e ?_
    cases q : H b with
    | none => rfl
    | some u =>
      rcases T.all b u q with ⟨hb, _⟩ | ⟨rfl, _, _⟩
      · have := (isTab b hb).symm.trans e
        cases this
        exact absurd rfl n2
      · have := ha.symm.trans e
        cases this
        exact absurd rfl (n1 _ _)
  have hns : ∀ {b : Addr} {m : Str → Option Value}, z.heap.Ns b m → (hidT z.heap H).Ns b m := by
    rintro b m ⟨o, es, ep, e, d, rest⟩
    exact ⟨o, es, ep, hid e (fun us n h => by rw [d] at h; cases h) (fun h => by rw [d] at h; cases h), d, rest⟩
  have inB : K.In (hidT z.heap H) := by
    intro b o e
    refine hidT_get (inK b o e) ?_
    cases q : H b with
    | none => rfl
    | some u =>
      rcases T.all b u q with ⟨hb, _⟩ | ⟨rfl, hn, _⟩
      · obtain ⟨p, hp, rfl⟩ := List.mem_map.mp hb
        rw [outK p hp] at e
        cases e
      · rw [hn] at e
        cases e
  have held : HOk P w H z.heap := by
    intro b u q
    rcases T.all b u q with ⟨hb, rfl⟩ | ⟨rfl, _, rfl⟩
    · exact isTab b hb
    · exact ⟨ha, by rw [List.length_map]; exact small, vs, _, vals_ints nums, ha⟩
  have tabs : ∀ p ∈ cs, LamX.TabB (hidT z.heap H) mg p.1 p.2 := by
    intro p hp
    have hT := empty p hp
    refine ⟨?_, ?_, ?_⟩
    · obtain ⟨o, us, fl, tf, fg, tg, iF, tx, tt, e1, r1, r2, r3, rest⟩ := heads p hp
      exact ⟨o, us, fl, tf, fg, tg, iF, tx, tt, hid e1 (fun _ _ h => by rw [r2] at h; cases h) (fun h => by rw [r2] at h; cases h; simp at r3), r1, r2, r3, rest⟩
    · obtain ⟨bm, ob, b1, b2, b3, b4, b5, b6⟩ := bmod
      refine ⟨bm, ob, b1, b2, fun q => ?_, fun q => ?_, hid b3 (fun _ _ h => by rw [b6] at h; cases h) (fun h => by rw [b6] at h; cases h), b4, b5, b6⟩
      · obtain ⟨o, es, ep, e, hd, _⟩ := glob
        rw [q, e] at b3
        cases b3
        rw [hd] at b6
        cases b6
      · rw [q, hT] at b3
        cases b3
        cases b6
    · intro q
      obtain ⟨o, es, ep, e, hd, _⟩ := glob
      rw [q, hT] at e
      cases e
      cases hd
  have entry : Env0 P w K mg (hidT z.heap H) callerA [] z H :=
    ⟨rfl, ⟨inB, hns glob, ⟨mb, hns blt, boot⟩, free.elim fun mc h => ⟨mc, hns h.1, h.2⟩⟩, fun b o e => of_hidT e, Nat.le_of_eq (hidT_size _ _), trivial, fun b hb => (List.not_mem_nil (show b ∈ [] from hb)).elim, held, .of_eq nogen⟩
  refine codeAny_mono (F _ inB (hns glob) tabs z H (.ref a) (.ref a) _ _ entry (bind z (.ref a)) rfl (wish H (fun p hp => T.tab _ (mem p hp)) T.scr)) fun r z2 ends => ?_
  match r, ends with
  | .error e, ends => exact (calm H e z2 ends).elim
  | .ok .next, ends => exact False.elim ends
  | .ok .brk, ends => exact False.elim ends
  | .ok .cont, ends => exact False.elim ends
  | .ok (.ret q), ⟨v, H', os, bare, un, held2, rel, hv⟩ =>
    have hv : v = .bl true := hv
    subst hv
    obtain rfl : q = Value.bool true := rel
    have stay : ∀ b o, b ∉ cs.map (·.2) → z.heap.get? b = some o → z2.heap.get? b = some o := by
      intro b o nb e
      cases q : H b with
      | none => exact un.keep b o e q (List.not_mem_nil (a := b)) (by simp)
      | some u =>
        rcases T.all b u q with ⟨hb, _⟩ | ⟨rfl, _, rfl⟩
        · exact absurd hb nb
        · have := ha.symm.trans e
          cases this
          exact (held2 _ _ (un.frzs _ _ _ q)).1
    have more : ∀ p ∈ cs, ∃ ms : Array Value, z2.heap.get? p.2 = some { cls := .none, data := .fields ms } := by
      intro p hp
      obtain ⟨ms, q⟩ := un.tbls p.2 #[] (T.tab _ (mem p hp))
      exact ⟨_, held2 _ _ q⟩
    refine ⟨rfl, ⟨fun b o e => ?_, fun b o e => ?_⟩, os, bare⟩
    · by_cases hb : b ∈ cs.map (·.2)
      · obtain ⟨p, hp, rfl⟩ := List.mem_map.mp hb
        obtain ⟨ms, hm⟩ := more p hp
        have := (empty p hp).symm.trans e
        cases this
        exact .inr (.inl ⟨((heads p hp).tab (empty p hp)).isCodeTable, rfl, #[], ms, rfl, by simpa using hm⟩)
      · exact .inl (stay b o hb e)
    · by_cases hb : b ∈ cs.map (·.2)
      · obtain ⟨p, hp, rfl⟩ := List.mem_map.mp hb
        obtain ⟨ms, hm⟩ := more p hp
        exact ⟨_, hm⟩
      · exact ⟨o, stay b o hb e⟩
end EndG


set_option Elab.async false
set_option linter.all false
set_option maxRecDepth 100000
set_option maxHeartbeats 1000000
/-! the market, its run, as plain functions -/
namespace So
theorem gD_lt {α : Type} (l : List α) (d : α) {k : Nat} (h : k < l.length) : l.getD k d = l[k] := by
  rw [List.getD_eq_getElem?_getD, List.getElem?_eq_getElem h]; rfl
theorem gD_ge {α : Type} (l : List α) (d : α) {k : Nat} (h : l.length ≤ k) : l.getD k d = d := by
  rw [List.getD_eq_getElem?_getD, List.getElem?_eq_none h]; rfl
abbrev Good := Int × Int × Int
abbrev Buyer := Option (List (Option Int))
structure Mart where
  goods : List Good
  rounds : List Buyer
def g0 : Good := (0, 0, 0)
def tkn (ws : List (Option Int)) (ps : List Int) : Nat → Option Int × Int
  | 0 => (none, -1)
  | k + 1 => match ws.getD k none with
    | none => tkn ws ps k
    | some w => if (tkn ws ps k).2 < w - ps.getD k 0 then (some (k : Nat), w - ps.getD k 0) else tkn ws ps k
def taken (b : Buyer) (ps : List Int) : Option Int := match b with
  | none => none
  | some ws => (tkn ws ps ws.length).1
def mvd (gs : List Good) (ps : List Int) (t : Option Int) (k : Nat) : Int := if t = some (k : Int) then ps.getD k 0 + (gs.getD k g0).1 else ps.getD k 0 - (gs.getD k g0).2.1
def moved (gs : List Good) (ps : List Int) (t : Option Int) : List Int := (List.range gs.length).map (mvd gs ps t)
def run (gs : List Good) (bs : Nat → Buyer) (ps : List Int) : Nat → List (Option Int) × List Int
  | 0 => ([], ps)
  | d + 1 => ((run gs bs ps d).1 ++ [taken (bs d) (run gs bs ps d).2], moved gs (run gs bs ps d).2 (taken (bs d) (run gs bs ps d).2))
def Mart.bs (m : Mart) (d : Nat) : Buyer := m.rounds.getD (d % m.rounds.length) none
def Mart.starts (m : Mart) : List Int := m.goods.map (·.2.2)
def Mart.run (m : Mart) (d : Nat) : List (Option Int) × List Int := So.run m.goods m.bs m.starts d
def VGood (g : Good) : Prop := (1 ≤ g.1 ∧ g.1 ≤ 4) ∧ (1 ≤ g.2.1 ∧ g.2.1 ≤ 4) ∧ (-99 ≤ g.2.2 ∧ g.2.2 ≤ 99)
def VW (o : Option Int) : Prop := ∀ x, o = some x → -99 ≤ x ∧ x ≤ 99
def VBuyer (n : Nat) (b : Buyer) : Prop := ∀ ws, b = some ws → ws.length = n ∧ ∀ w ∈ ws, VW w
structure Valid (m : Mart) : Prop where
  g1 : 1 ≤ m.goods.length
  g4 : m.goods.length ≤ 4
  gs : ∀ g ∈ m.goods, VGood g
  r1 : 1 ≤ m.rounds.length
  r6 : m.rounds.length ≤ 6
  rs : ∀ b ∈ m.rounds, VBuyer m.goods.length b
theorem moved_len (gs : List Good) (ps : List Int) (t : Option Int) : (moved gs ps t).length = gs.length := by simp [moved]
theorem run_len (gs : List Good) (bs : Nat → Buyer) (ps : List Int) : ∀ d, (run gs bs ps d).1.length = d
  | 0 => rfl
  | d + 1 => by simp [run, run_len gs bs ps d]
theorem run_len2 (gs : List Good) (bs : Nat → Buyer) (ps : List Int) (h : ps.length = gs.length) : ∀ d, (run gs bs ps d).2.length = gs.length
  | 0 => h
  | d + 1 => by simp [run, moved_len]
theorem run_add (gs : List Good) (bs : Nat → Buyer) (ps : List Int) (a : Nat) : ∀ b, run gs bs ps (a + b) = ((run gs bs ps a).1 ++ (run gs (fun d => bs (a + d)) (run gs bs ps a).2 b).1, (run gs (fun d => bs (a + d)) (run gs bs ps a).2 b).2)
  | 0 => by simp [run]
  | b + 1 => by
    have ih := run_add gs bs ps a b
    show run gs bs ps ((a + b) + 1) = _
    simp only [run]
    rw [ih]
    simp only [List.append_assoc]
theorem run_congr {gs gs' : List Good} {bs bs' : Nat → Buyer} (hl : gs.length = gs'.length) (hg : ∀ k, (gs.getD k g0).1 = (gs'.getD k g0).1 ∧ (gs.getD k g0).2.1 = (gs'.getD k g0).2.1) (ps : List Int) (hb : ∀ d ps, taken (bs d) ps = taken (bs' d) ps) :
    ∀ d, run gs bs ps d = run gs' bs' ps d
  | 0 => rfl
  | d + 1 => by
    have ih := run_congr hl hg ps hb d
    simp only [run]
    rw [ih, hb]
    have e : ∀ ps t, moved gs ps t = moved gs' ps t := fun ps t => by
      unfold moved
      rw [hl]
      refine List.map_congr_left fun k _ => ?_
      unfold mvd
      rw [(hg k).1, (hg k).2]
    rw [e]
theorem bs_mem {m : Mart} (h : 1 ≤ m.rounds.length) (d : Nat) : m.bs d ∈ m.rounds := by
  unfold Mart.bs
  have hl : d % m.rounds.length < m.rounds.length := Nat.mod_lt _ (by omega)
  rw [gD_lt _ _ hl]
  exact List.getElem_mem hl
/-! what is taken is a good's number -/
theorem tkn_rng (ws : List (Option Int)) (ps : List Int) : ∀ k i, (tkn ws ps k).1 = some i → 0 ≤ i ∧ i < k
  | 0, i, h => by cases h
  | k + 1, i, h => by
    have ih := tkn_rng ws ps k i
    unfold tkn at h
    split at h
    · have := ih h; omega
    · split at h
      · cases h; omega
      · have := ih h; omega
/-! ### the round begun later -/
def later (m : Mart) (a : Nat) : Mart := ⟨(List.range m.goods.length).map fun k => ((m.goods.getD k g0).1, (m.goods.getD k g0).2.1, (m.run a).2.getD k 0), m.rounds.drop (a % m.rounds.length) ++ m.rounds.take (a % m.rounds.length)⟩
theorem getD_range_map {α : Type} (f : Nat → α) (n k : Nat) (d : α) : ((List.range n).map f).getD k d = if k < n then f k else d := by
  by_cases h : k < n
  · rw [if_pos h, gD_lt _ _ (by simpa using h)]
    simp
  · rw [if_neg h, gD_ge _ _ (by simpa using h)]
theorem mod_rot (a d n : Nat) (h : 0 < n) : (a + d) % n = if d % n < n - a % n then a % n + d % n else d % n - (n - a % n) := by
  have h1 : a % n < n := Nat.mod_lt _ h
  have h2 : d % n < n := Nat.mod_lt _ h
  rw [Nat.add_mod]
  split
  · rw [Nat.mod_eq_of_lt (by omega)]
  · rw [Nat.mod_eq_sub_mod (by omega), Nat.mod_eq_of_lt (by omega)]
    omega
theorem later_bs (m : Mart) (h : 1 ≤ m.rounds.length) (a d : Nat) : (later m a).bs d = m.bs (a + d) := by
  have h0 : 0 < m.rounds.length := h
  have h1 : a % m.rounds.length < m.rounds.length := Nat.mod_lt _ h0
  have hl : (later m a).rounds.length = m.rounds.length := by
    simp [later]
    omega
  unfold Mart.bs
  rw [hl, mod_rot a d _ h0]
  have h2 : d % m.rounds.length < m.rounds.length := Nat.mod_lt _ h0
  unfold later
  simp only []
  generalize d % m.rounds.length = j at *
  generalize a % m.rounds.length = i at *
  rw [List.getD_eq_getElem?_getD, List.getD_eq_getElem?_getD]
  congr 1
  by_cases hj : j < m.rounds.length - i
  · rw [if_pos hj, List.getElem?_append_left (by simp; omega), List.getElem?_drop]
  · rw [if_neg hj, List.getElem?_append_right (by simp; omega), List.length_drop, List.getElem?_take_of_lt (by omega)]
theorem later_starts (m : Mart) (a : Nat) : (later m a).starts = (m.run a).2 := by
  have hl : (m.run a).2.length = m.goods.length := run_len2 _ _ _ (by simp [Mart.starts]) a
  unfold Mart.starts later
  refine List.ext_getElem (by simp [hl]) fun k h1 h2 => ?_
  have h2' : k < (m.run a).2.length := h2
  simp [List.getElem?_eq_getElem h2']
theorem later_run (m : Mart) (h : 1 ≤ m.rounds.length) (a b : Nat) : m.run (a + b) = ((m.run a).1 ++ ((later m a).run b).1, ((later m a).run b).2) := by
  have e : (later m a).run b = run m.goods (fun d => m.bs (a + d)) (m.run a).2 b := by
    unfold Mart.run
    have e1 : (later m a).starts = (run m.goods m.bs m.starts a).2 := later_starts m a
    rw [e1]
    refine run_congr (by simp [later]) (fun k => ?_) _ (fun d ps => by rw [later_bs m h]) b
    unfold later
    simp only [getD_range_map]
    by_cases hk : k < m.goods.length
    · rw [if_pos hk]
      exact ⟨rfl, rfl⟩
    · rw [if_neg hk, gD_ge _ _ (by omega)]
      exact ⟨rfl, rfl⟩
  rw [e]
  exact run_add m.goods m.bs m.starts a b
theorem later_valid {m : Mart} (V : Valid m) (a : Nat) (hs : ∀ x ∈ (m.run a).2, -99 ≤ x ∧ x ≤ 99) : Valid (later m a) := by
  have hl : (later m a).goods.length = m.goods.length := by simp [later]
  have hl2 : (m.run a).2.length = m.goods.length := run_len2 _ _ _ (by simp [Mart.starts]) a
  have h1 : a % m.rounds.length < m.rounds.length := Nat.mod_lt _ V.r1
  have hr : (later m a).rounds.length = m.rounds.length := by simp [later]; omega
  refine ⟨by rw [hl]; exact V.g1, by rw [hl]; exact V.g4, fun g hg => ?_, by rw [hr]; exact V.r1, by rw [hr]; exact V.r6, fun b hb => ?_⟩
  · unfold later at hg
    simp only [List.mem_map, List.mem_range] at hg
    obtain ⟨k, hk, rfl⟩ := hg
    have hm : m.goods.getD k g0 ∈ m.goods := by
      rw [gD_lt _ _ hk]
      exact List.getElem_mem hk
    have hv := V.gs _ hm
    refine ⟨hv.1, hv.2.1, hs _ ?_⟩
    show (m.run a).2.getD k 0 ∈ _
    rw [gD_lt _ _ (by omega)]
    exact List.getElem_mem _
  · rw [hl]
    unfold later at hb
    rcases List.mem_append.mp hb with hb | hb
    · exact V.rs b (List.mem_of_mem_drop hb)
    · exact V.rs b (List.mem_of_mem_take hb)
/-! ### nobody for one who wants nothing -/
def nobody (n : Nat) (b : Buyer) : Buyer := match b with
  | none => some (List.replicate n none)
  | some ws => if ws = List.replicate n none then none else some ws
def nobodies (m : Mart) : Mart := ⟨m.goods, m.rounds.map (nobody m.goods.length)⟩
theorem tkn_rep (n : Nat) (ps : List Int) : ∀ k, tkn (List.replicate n none) ps k = (none, -1)
  | 0 => rfl
  | k + 1 => by
    unfold tkn
    have e : (List.replicate n (none : Option Int)).getD k none = none := by
      rw [List.getD_eq_getElem?_getD, List.getElem?_replicate]
      split <;> rfl
    rw [e]
    exact tkn_rep n ps k
theorem taken_nobody (n : Nat) (b : Buyer) (ps : List Int) : taken (nobody n b) ps = taken b ps := by
  unfold nobody
  cases b with
  | none => simp [taken, tkn_rep]
  | some ws =>
    simp only []
    split
    · rename_i h
      simp [taken, h, tkn_rep]
    · rfl
theorem nobodies_run (m : Mart) (h : 1 ≤ m.rounds.length) (d : Nat) : (nobodies m).run d = m.run d := by
  unfold Mart.run
  have e : (nobodies m).starts = m.starts := rfl
  rw [e]
  refine run_congr rfl (fun k => ⟨rfl, rfl⟩) _ (fun d ps => ?_) d
  have h1 : d % m.rounds.length < m.rounds.length := Nat.mod_lt _ h
  have e2 : (nobodies m).bs d = nobody m.goods.length (m.bs d) := by
    unfold Mart.bs nobodies
    simp only [List.length_map]
    rw [gD_lt _ _ (by simpa using h1), gD_lt _ _ h1, List.getElem_map]
  rw [e2, taken_nobody]
theorem nobodies_valid {m : Mart} (V : Valid m) : Valid (nobodies m) := by
  refine ⟨V.g1, V.g4, V.gs, by simpa [nobodies] using V.r1, by simpa [nobodies] using V.r6, fun b hb => ?_⟩
  unfold nobodies at hb
  obtain ⟨c, hc, rfl⟩ := List.mem_map.mp hb
  intro ws e
  show ws.length = m.goods.length ∧ _
  unfold nobody at e
  cases c with
  | none =>
    cases e
    exact ⟨by simp, fun w hw x ex => by rw [List.eq_of_mem_replicate hw] at ex; cases ex⟩
  | some us =>
    simp only [] at e
    split at e
    · cases e
    · exact V.rs _ hc _ e
/-! ### the round told twice -/
def twice (m : Mart) : Mart := ⟨m.goods, m.rounds ++ m.rounds⟩
theorem twice_run (m : Mart) (h : 1 ≤ m.rounds.length) (d : Nat) : (twice m).run d = m.run d := by
  unfold Mart.run
  refine run_congr rfl (fun k => ⟨rfl, rfl⟩) _ (fun d ps => ?_) d
  have e2 : (twice m).bs d = m.bs d := by
    unfold Mart.bs twice
    simp only [List.length_append]
    rw [List.getD_eq_getElem?_getD, List.getD_eq_getElem?_getD]
    congr 1
    have h1 : d % m.rounds.length < m.rounds.length := Nat.mod_lt _ h
    have h3 : d % (m.rounds.length + m.rounds.length) < m.rounds.length + m.rounds.length := Nat.mod_lt _ (by omega)
    have h4 : d % (m.rounds.length + m.rounds.length) % m.rounds.length = d % m.rounds.length := Nat.mod_mod_of_dvd _ ⟨2, by omega⟩
    by_cases hj : d % (m.rounds.length + m.rounds.length) < m.rounds.length
    · rw [List.getElem?_append_left hj]
      rw [Nat.mod_eq_of_lt hj] at h4
      rw [h4]
    · rw [List.getElem?_append_right (by omega)]
      rw [Nat.mod_eq_sub_mod (by omega), Nat.mod_eq_of_lt (by omega)] at h4
      rw [h4]
  rw [e2]
theorem twice_valid {m : Mart} (V : Valid m) (h : m.rounds.length < 4) : Valid (twice m) := by
  refine ⟨V.g1, V.g4, V.gs, ?_, ?_, fun b hb => ?_⟩
  · have := V.r1; simp [twice]; omega
  · simp [twice]; omega
  · exact V.rs b (by simpa [twice] using hb)
end So


set_option Elab.async false
set_option linter.all false
set_option maxRecDepth 100000
set_option maxHeartbeats 1000000
/-! a good more that nobody wants -/
namespace So
def ins {α : Type} (at_ : Nat) (x : α) (l : List α) : List α := l.take at_ ++ [x] ++ l.drop at_
theorem ins_len {α : Type} {a : Nat} {x : α} {l : List α} (h : a ≤ l.length) : (ins a x l).length = l.length + 1 := by
  simp [ins]; omega
theorem ins_get {α : Type} {a : Nat} {x d : α} {l : List α} (h : a ≤ l.length) (k : Nat) : (ins a x l).getD k d = if k < a then l.getD k d else if k = a then x else l.getD (k - 1) d := by
  unfold ins
  simp only [List.getD_eq_getElem?_getD]
  by_cases h1 : k < a
  · rw [if_pos h1, List.append_assoc, List.getElem?_append_left (by simp; omega), List.getElem?_take_of_lt h1]
  · rw [if_neg h1, List.append_assoc, List.getElem?_append_right (by simp; omega), List.length_take, Nat.min_eq_left h]
    by_cases h2 : k = a
    · rw [if_pos h2]
      have e : k - a = 0 := by omega
      rw [e]
      rfl
    · rw [if_neg h2, List.getElem?_append_right (by simp; omega), List.getElem?_drop]
      have e : a + (k - a - [x].length) = k - 1 := by simp; omega
      rw [e]
theorem ins_cut {α : Type} {a : Nat} {x : α} {l : List α} (h : a ≤ l.length) : (ins a x l).take a ++ (ins a x l).drop (a + 1) = l := by
  unfold ins
  rw [List.append_assoc, List.take_append_of_le_length (by simp; omega), List.take_take, Nat.min_self]
  have e : (l.take a ++ ([x] ++ l.drop a)).drop (a + 1) = l.drop a := by
    rw [← List.drop_drop, List.drop_append_of_le_length (by simp; omega)]
    have e2 : (l.take a).drop a = [] := by simp
    rw [e2]
    rfl
  rw [e, List.take_append_drop]
/-- the goods' numbers behind the place -/
def sh (a : Nat) : Option Int → Option Int
  | none => none
  | some i => some (if i < a then i else i + 1)
def unsh (a : Nat) : Option Int → Option Int
  | none => none
  | some i => if i < a then some i else some (i - 1)
theorem unsh_sh (a : Nat) (t : Option Int) : unsh a (sh a t) = t := by
  cases t with
  | none => rfl
  | some i =>
    unfold sh unsh
    simp only []
    by_cases h : i < a
    · rw [if_pos h, if_pos h]
    · rw [if_neg h, if_neg (by omega)]
      congr 1; omega
theorem sh_ne (a : Nat) (t : Option Int) : sh a t ≠ some (a : Int) := by
  cases t with
  | none => simp [sh]
  | some i =>
    unfold sh
    intro h
    have h := Option.some.inj h
    split at h <;> omega
theorem tkn_ins {a : Nat} {ws : List (Option Int)} {ps : List Int} {p : Int} (h1 : a ≤ ws.length) (h2 : a ≤ ps.length) :
    (∀ k, k ≤ a → tkn (ins a none ws) (ins a p ps) k = tkn ws ps k) ∧ ∀ k, a ≤ k → tkn (ins a none ws) (ins a p ps) (k + 1) = (sh a (tkn ws ps k).1, (tkn ws ps k).2) := by
  have A : ∀ k, k ≤ a → tkn (ins a none ws) (ins a p ps) k = tkn ws ps k := by
    intro k
    induction k with
    | zero => intro _; rfl
    | succ k ih =>
      intro hk
      have ih := ih (by omega)
      unfold tkn
      rw [ih, ins_get h1, ins_get h2, if_pos (show k < a by omega), if_pos (show k < a by omega)]
  refine ⟨A, fun k => ?_⟩
  induction k with
  | zero =>
    intro hk
    have ha : a = 0 := by omega
    subst ha
    have e0 : (ins 0 none ws).getD 0 none = none := by rw [ins_get h1]; rfl
    rw [tkn.eq_2 (ins 0 none ws) (ins 0 p ps) 0, e0]
    rfl
  | succ k ih =>
    intro hk
    by_cases hk2 : a = k + 1
    · have e0 : (ins a none ws).getD (k + 1) none = none := by rw [ins_get h1, if_neg (by omega), if_pos hk2.symm]
      rw [tkn.eq_2 (ins a none ws) (ins a p ps) (k + 1), e0]
      show tkn (ins a none ws) (ins a p ps) (k + 1) = _
      rw [A (k + 1) (by omega)]
      have r := tkn_rng ws ps (k + 1)
      generalize tkn ws ps (k + 1) = z at r
      obtain ⟨z1, z2⟩ := z
      cases z1 with
      | none => rfl
      | some i =>
        have r := r i rfl
        unfold sh
        simp only []
        rw [if_pos (by omega)]
    · have ih := ih (by omega)
      have e1 : (ins a none ws).getD (k + 1) none = ws.getD k none := by
        rw [ins_get h1, if_neg (by omega), if_neg (by omega)]; rfl
      have e2 : (ins a p ps).getD (k + 1) 0 = ps.getD k 0 := by
        rw [ins_get h2, if_neg (by omega), if_neg (by omega)]; rfl
      show (match (ins a none ws).getD (k + 1) none with
        | none => tkn (ins a none ws) (ins a p ps) (k + 1)
        | some w => if (tkn (ins a none ws) (ins a p ps) (k + 1)).2 < w - (ins a p ps).getD (k + 1) 0 then (some ((k + 1 : Nat) : Int), w - (ins a p ps).getD (k + 1) 0) else tkn (ins a none ws) (ins a p ps) (k + 1)) = (sh a (match ws.getD k none with
        | none => tkn ws ps k
        | some w => if (tkn ws ps k).2 < w - ps.getD k 0 then (some (k : Int), w - ps.getD k 0) else tkn ws ps k).1, (match ws.getD k none with
        | none => tkn ws ps k
        | some w => if (tkn ws ps k).2 < w - ps.getD k 0 then (some (k : Int), w - ps.getD k 0) else tkn ws ps k).2)
      rw [e1, e2, ih]
      cases ws.getD k none with
      | none => rfl
      | some w =>
        simp only []
        split
        · unfold sh
          simp only []
          rw [if_neg (by omega)]
          congr 2
        · rfl
theorem taken_ins {a : Nat} {b : Buyer} {ps : List Int} {p : Int} (h1 : ∀ ws, b = some ws → a ≤ ws.length) (h2 : a ≤ ps.length) : taken (b.map (ins a none)) (ins a p ps) = sh a (taken b ps) := by
  cases b with
  | none => rfl
  | some ws =>
    have h1 := h1 ws rfl
    show (tkn (ins a none ws) (ins a p ps) (ins a none ws).length).1 = _
    rw [ins_len h1, (tkn_ins h1 h2).2 _ h1]
    rfl
theorem moved_ins {a : Nat} {gs : List Good} {ps : List Int} {g : Good} {p : Int} (h1 : a ≤ gs.length) (h2 : gs.length = ps.length) (t : Option Int) (ht : ∀ i, t = some i → 0 ≤ i) :
    moved (ins a g gs) (ins a p ps) (sh a t) = ins a (p - g.2.1) (moved gs ps t) := by
  have hm : (moved gs ps t).length = gs.length := moved_len _ _ _
  refine List.ext_getElem? fun k => ?_
  have key : ∀ k, k < gs.length + 1 → (moved (ins a g gs) (ins a p ps) (sh a t)).getD k 0 = (ins a (p - g.2.1) (moved gs ps t)).getD k 0 := fun k hk => by
    rw [ins_get (by omega)]
    unfold moved
    rw [ins_len h1, getD_range_map, if_pos hk]
    unfold mvd
    rw [ins_get (by omega), ins_get h1]
    by_cases c1 : k < a
    · rw [if_pos c1, if_pos c1, if_pos c1, getD_range_map, if_pos (show k < gs.length by omega)]
      show _ = mvd gs ps t k
      unfold mvd
      cases t with
      | none => rfl
      | some i =>
        unfold sh
        simp only [Option.some.injEq]
        by_cases ci : i < a
        · rw [if_pos ci]
        · rw [if_neg ci, if_neg (by omega), if_neg (by omega)]
    · rw [if_neg c1, if_neg c1, if_neg c1]
      by_cases c2 : k = a
      · subst c2
        rw [if_pos rfl, if_pos rfl, if_pos rfl, if_neg (sh_ne _ t)]
      · rw [if_neg c2, if_neg c2, if_neg c2, getD_range_map, if_pos (show k - 1 < gs.length by omega)]
        show _ = mvd gs ps t (k - 1)
        unfold mvd
        cases t with
        | none => rfl
        | some i =>
          unfold sh
          simp only [Option.some.injEq]
          have e : (k : Int) = ((k - 1 : Nat) : Int) + 1 := by omega
          by_cases ci : i < a
          · rw [if_pos ci, if_neg (by omega), if_neg (by omega)]
          · rw [if_neg ci]
            by_cases c3 : i = ((k - 1 : Nat) : Int)
            · rw [if_pos c3, if_pos (by omega)]
            · rw [if_neg c3, if_neg (by omega)]
  have l1 : (moved (ins a g gs) (ins a p ps) (sh a t)).length = gs.length + 1 := by rw [moved_len, ins_len h1]
  have l2 : (ins a (p - g.2.1) (moved gs ps t)).length = gs.length + 1 := by rw [ins_len (by omega), hm]
  by_cases hk : k < gs.length + 1
  · have e := key k hk
    rw [gD_lt _ _ (by omega), gD_lt _ _ (by omega)] at e
    rw [List.getElem?_eq_getElem (by omega), List.getElem?_eq_getElem (by omega), e]
  · rw [List.getElem?_eq_none (by omega), List.getElem?_eq_none (by omega)]
theorem run_ins {a : Nat} {gs : List Good} {g : Good} {p : Int} (bs : Nat → Buyer) (ps : List Int) (h1 : a ≤ gs.length) (h2 : gs.length = ps.length) (hb : ∀ d ws, bs d = some ws → ws.length = gs.length) :
    ∀ d, run (ins a g gs) (fun d => (bs d).map (ins a none)) (ins a p ps) d = ((run gs bs ps d).1.map (sh a), ins a (p - g.2.1 * d) (run gs bs ps d).2)
  | 0 => by simp [run]
  | d + 1 => by
    have ih := run_ins (g := g) (p := p) bs ps h1 h2 hb d
    have hl := run_len2 gs bs ps h2.symm d
    have tt : taken ((bs d).map (ins a none)) (ins a (p - g.2.1 * d) (run gs bs ps d).2) = sh a (taken (bs d) (run gs bs ps d).2) := taken_ins (fun ws e => by rw [hb d ws e]; exact h1) (by omega)
    simp only [run]
    rw [ih]
    simp only [tt]
    rw [moved_ins h1 (by omega) _ (fun i e => ?_)]
    · simp only [List.map_append, List.map_cons, List.map_nil]
      congr 2
      push_cast
      rw [Int.mul_add]
      omega
    · cases hbd : bs d with
      | none => rw [hbd] at e; cases e
      | some ws =>
        rw [hbd] at e
        exact (tkn_rng _ _ _ _ e).1
def wide (m : Mart) (a : Nat) (g : Good) : Mart := ⟨ins a g m.goods, m.rounds.map fun b => b.map (ins a none)⟩
theorem wide_run {m : Mart} (V : Valid m) {a : Nat} {g : Good} (h : a ≤ m.goods.length) (d : Nat) : (wide m a g).run d = ((m.run d).1.map (sh a), ins a (g.2.2 - g.2.1 * d) (m.run d).2) := by
  have e1 : (wide m a g).starts = ins a g.2.2 m.starts := by
    unfold Mart.starts wide ins
    simp
  have e2 : (wide m a g).bs = fun d => (m.bs d).map (ins a none) := by
    funext d
    unfold Mart.bs wide
    have h1 : d % m.rounds.length < m.rounds.length := Nat.mod_lt _ V.r1
    simp only [List.length_map]
    rw [gD_lt _ _ (by simpa using h1), gD_lt _ _ h1, List.getElem_map]
  unfold Mart.run
  rw [e1, e2]
  exact run_ins m.bs m.starts h (by simp [Mart.starts]) (fun d ws e => (V.rs _ (bs_mem V.r1 d) ws e).1) d
theorem mem_ins {α : Type} {a : Nat} {x y : α} {l : List α} (h : y ∈ ins a x l) : y = x ∨ y ∈ l := by
  unfold ins at h
  simp only [List.mem_append, List.mem_singleton] at h
  rcases h with (h | h) | h
  · exact .inr (List.mem_of_mem_take h)
  · exact .inl h
  · exact .inr (List.mem_of_mem_drop h)
theorem wide_valid {m : Mart} (V : Valid m) {a : Nat} {g : Good} (h : a ≤ m.goods.length) (h4 : m.goods.length ≠ 4) (hg : VGood g) : Valid (wide m a g) := by
  have hl : (wide m a g).goods.length = m.goods.length + 1 := ins_len h
  have := V.g4
  refine ⟨by omega, by omega, fun x hx => ?_, by simpa [wide] using V.r1, by simpa [wide] using V.r6, fun b hb => ?_⟩
  · rcases mem_ins hx with rfl | hx
    · exact hg
    · exact V.gs x hx
  · rw [hl]
    obtain ⟨c, hc, rfl⟩ := List.mem_map.mp (show b ∈ m.rounds.map fun b => b.map (ins a none) from hb)
    intro ws e
    cases c with
    | none => cases e
    | some us =>
      cases e
      obtain ⟨l1, l2⟩ := V.rs _ hc us rfl
      refine ⟨by rw [ins_len (by omega), l1], fun w hw => ?_⟩
      rcases mem_ins hw with rfl | hw
      · intro x ex; cases ex
      · exact l2 w hw
theorem count_sh (a : Nat) (ts : List (Option Int)) : (ts.map (sh a)).count (some (a : Int)) = 0 := by
  rw [List.count_eq_zero]
  intro h
  obtain ⟨t, _, e⟩ := List.mem_map.mp h
  exact sh_ne a t e
theorem unsh_map (a : Nat) (ts : List (Option Int)) : (ts.map (sh a)).map (unsh a) = ts := by
  rw [List.map_map]
  have : (unsh a ∘ sh a) = id := by funext t; exact unsh_sh a t
  rw [this, List.map_id]
end So


set_option Elab.async false
set_option linter.all false
set_option maxRecDepth 100000
set_option maxHeartbeats 1000000
/-! what each function promises -/
namespace So
open PySem PySem.Spec PyProof.Rows L2 GxR GA DX
def goodD (g : Good) : PyData := .tuple [.int g.1, .int g.2.1, .int g.2.2]
def buyD : Buyer → PyData
  | none => .none
  | some ws => .list (ws.map oD)
def goodsD (gs : List Good) : PyData := .list (gs.map goodD)
def roundsD (bs : List Buyer) : PyData := .list (bs.map buyD)
def martD (m : Mart) : PyData := .tuple [goodsD m.goods, roundsD m.rounds]
def intsD (ns : List Int) : PyData := .list (ns.map PyData.int)
def takesD (ns : List (Option Int)) : PyData := .list (ns.map oD)
/-! tests -/
def withinB (x : PyData) (a b : Int) : Bool := match x with
  | .int i => decide (a ≤ i) && decide (i ≤ b)
  | _ => false
def stepB (x : PyData) : Bool := withinB x 1 4
def worthB (x : PyData) : Bool := withinB x (-99) 99
def goodB : PyData → Bool
  | .tuple [a, b, c] => stepB a && stepB b && worthB c
  | _ => false
def goodsB : PyData → Bool
  | .list xs => decide (1 ≤ xs.length) && decide (xs.length ≤ 4) && xs.all goodB
  | _ => false
def buyerB (n : Int) : PyData → Bool
  | .list xs => decide ((xs.length : Int) = n) && xs.all fun x => isNon x || worthB x
  | _ => false
def roundB (n : Int) : PyData → Bool
  | .list xs => decide (1 ≤ xs.length) && decide (xs.length ≤ 6) && xs.all fun x => isNon x || buyerB n x
  | _ => false
def marketB : PyData → Bool
  | .tuple [g, r] => goodsB g && (match g with
    | .list xs => roundB xs.length r
    | _ => false)
  | _ => false
def wholeB (x : PyData) : Bool := isD "int" x && !isD "bool" x
def C_is_whole : CtP := fun xs P => ∃ x, xs = [x] ∧ P (.bool (wholeB x))
def C_is_within : CtP := fun xs P => ∃ x a b, xs = [x, .int a, .int b] ∧ P (.bool (withinB x a b))
def C_is_step : CtP := fun xs P => ∃ x, xs = [x] ∧ P (.bool (stepB x))
def C_is_worth : CtP := fun xs P => ∃ x, xs = [x] ∧ P (.bool (worthB x))
def C_is_good : CtP := fun xs P => ∃ x, xs = [x] ∧ P (.bool (goodB x))
def C_is_list_of_goods : CtP := fun xs P => ∃ x, xs = [x] ∧ noDct x = true ∧ P (.bool (goodsB x))
def C_is_buyer : CtP := fun xs P => ∃ x n, xs = [x, .int n] ∧ noDct x = true ∧ P (.bool (buyerB n x))
def C_is_round : CtP := fun xs P => ∃ x n, xs = [x, .int n] ∧ noDct x = true ∧ P (.bool (roundB n x))
def C_is_market : CtP := fun xs P => ∃ x, xs = [x] ∧ noDct x = true ∧ P (.bool (marketB x))
def C_check_market : CtP := fun xs P => ∃ x, xs = [x] ∧ noDct x = true ∧ marketB x = true ∧ P .none
def C_starts_of : CtP := fun xs P => ∃ m, xs = [martD m] ∧ Valid m ∧ P (intsD m.starts)
def C_buyer_at : CtP := fun xs P => ∃ m d, xs = [martD m, .int (d : Nat)] ∧ Valid m ∧ P (buyD (m.bs d))
def C_taken_by : CtP := fun xs P => ∃ b ps, xs = [buyD b, intsD ps] ∧ (∀ ws, b = some ws → ws.length = ps.length) ∧ P (oD (taken b ps))
def C_moved : CtP := fun xs P => ∃ gs ps t, xs = [goodsD gs, intsD ps, oD t] ∧ gs.length = ps.length ∧ gs.length ≤ 4 ∧ P (intsD (moved gs ps t))
def C_check_days : CtP := fun xs P => ∃ d : Int, xs = [.int d] ∧ 0 ≤ d ∧ d ≤ 4000 ∧ P .none
def C_run_of : CtP := fun xs P => ∃ m d, xs = [martD m, .int (d : Nat)] ∧ Valid m ∧ d ≤ 4000 ∧ P (.tuple [takesD (m.run d).1, intsD (m.run d).2])
def C_takes : CtP := fun xs P => ∃ m d, xs = [martD m, .int (d : Nat)] ∧ Valid m ∧ d ≤ 4000 ∧ P (takesD (m.run d).1)
def C_prices_at : CtP := fun xs P => ∃ m d, xs = [martD m, .int (d : Nat)] ∧ Valid m ∧ d ≤ 4000 ∧ P (intsD (m.run d).2)
def Mart.sold (m : Mart) (d : Nat) : List Int := (List.range m.goods.length).map fun (k : Nat) => (((m.run d).1.count (some (k : Int)) : Nat) : Int)
def C_sold : CtP := fun xs P => ∃ m d, xs = [martD m, .int (d : Nat)] ∧ Valid m ∧ d ≤ 4000 ∧ P (intsD (m.sold d))
/-! draws -/
def Till (n : Nat) (ts : List PyData) : Prop := ∃ c0 c1 c2 : Int, ts = [.int c0, .int c1, .int c2] ∧ 0 ≤ c0 ∧ 0 ≤ c1 ∧ c1 < 2 ^ 160 ∧ 0 ≤ c2 ∧ c2 ≤ n
theorem Till.mono {n k : Nat} {ts : List PyData} (h : Till n ts) (hk : n ≤ k) : Till k ts := by
  obtain ⟨c0, c1, c2, e, h0, h1, h2, h3, h4⟩ := h
  exact ⟨c0, c1, c2, e, h0, h1, h2, h3, by omega⟩
def C_law_till : CtF := fun xs P => ∃ ns k, xs = [scrD ns, .int (k : Nat)] ∧ k < 100 ∧ ∀ ts, Till 0 ts → P ts
def C_law_pull : CtT := fun ts xs P => ∃ n k, Till n ts ∧ n < 2 ^ 40 ∧ xs = [.int k] ∧ 0 < k ∧ k < 2 ^ 60 ∧ ∀ r ts', 0 ≤ r → r < k → Till (n + 1) ts' → P (.int r) ts'
def C_law_near : CtT := fun ts xs P => ∃ n, Till n ts ∧ n < 2 ^ 39 ∧ xs = [] ∧ ∀ r ts', -99 ≤ r → r ≤ 99 → Till (n + 3) ts' → P (.int r) ts'
def C_law_buyer : CtT := fun ts xs P => ∃ n k, Till n ts ∧ n < 2 ^ 38 ∧ xs = [.int (k : Nat)] ∧ k ≤ 4 ∧ ∀ b ts', VBuyer k b → Till (n + 20) ts' → P (buyD b) ts'
def C_law_market : CtT := fun ts xs P => ∃ n, Till n ts ∧ n < 2 ^ 30 ∧ xs = [] ∧ ∀ m ts', Valid m → Till (n + 200) ts' → P (martD m) ts'
def C_law_calm : CtT := fun ts xs P => ∃ n m, Till n ts ∧ n < 2 ^ 39 ∧ xs = [martD m] ∧ Valid m ∧ ∀ m' ts', Valid m' → Till (n + 1) ts' → P (martD m') ts'
def C_law_goes_on : CtP := fun xs P => ∃ m a b, xs = [martD m, .int (a : Nat), .int (b : Nat)] ∧ Valid m ∧ a + b ≤ 4000 ∧ P (.bool true)
def C_law_runs_alike : CtP := fun xs P => ∃ m m' d, xs = [martD m, martD m', .int (d : Nat)] ∧ Valid m ∧ Valid m' ∧ d ≤ 4000 ∧ m.run d = m'.run d ∧ P (.bool true)
def C_law_nobodies : CtP := fun xs P => ∃ m, xs = [martD m] ∧ Valid m ∧ P (martD (nobodies m))
def C_law_one_more_right : CtT := fun ts xs P => ∃ n m d, Till n ts ∧ n < 2 ^ 39 ∧ xs = [martD m, .int (d : Nat)] ∧ Valid m ∧ d ≤ 4000 ∧ ∀ ts', Till (n + 4) ts' → P (.bool true) ts'
def C_law : CtP := fun xs P => ∃ ns : List Int, xs = [scrD ns] ∧ ns.length ≤ 63 ∧ P (.bool true)
end So


set_option Elab.async false
set_option linter.all false
set_option maxRecDepth 100000
set_option maxHeartbeats 1000000
namespace K8
open PySem PySem.Spec PyProof.Rows L2 GxR GA DX
def top (i : Nat) : Stmt := PySem.Challenge.pw_soldrises_k08_whole_runs_in_parts.main.body.getD i (.Pass ⟨0, 0, 0, 0⟩)
abbrev s_is_whole : Stmt := top 9
abbrev s_is_within : Stmt := top 10
abbrev s_is_step : Stmt := top 11
abbrev s_is_worth : Stmt := top 12
abbrev s_is_good : Stmt := top 13
abbrev s_is_list_of_goods : Stmt := top 14
abbrev s_is_buyer : Stmt := top 15
abbrev s_is_round : Stmt := top 16
abbrev s_is_market : Stmt := top 17
abbrev s_check_market : Stmt := top 18
abbrev s_starts_of : Stmt := top 19
abbrev s_buyer_at : Stmt := top 20
abbrev s_taken_by : Stmt := top 21
abbrev s_moved : Stmt := top 22
abbrev s_check_days : Stmt := top 25
abbrev s_run_of : Stmt := top 26
abbrev s_takes : Stmt := top 27
abbrev s_prices_at : Stmt := top 28
abbrev s_sold : Stmt := top 29
abbrev s_law_till : Stmt := top 31
abbrev s_law_pull : Stmt := top 32
abbrev s_law_near : Stmt := top 33
abbrev s_law_buyer : Stmt := top 34
abbrev s_law_market : Stmt := top 35
abbrev s_law_calm : Stmt := top 36
abbrev s_law_goes_on : Stmt := top 37
abbrev s_law_runs_alike : Stmt := top 38
abbrev s_law_nobodies : Stmt := top 39
abbrev s_law_one_more_right : Stmt := top 40
abbrev s_law : Stmt := top 41
theorem sc_is_whole : FnScope ["thing"] ["thing"] (defScope s_is_whole) := ⟨rfl, rfl, rfl, by decide +kernel, rfl, by decide +kernel, by decide +kernel⟩
theorem sc_is_within : FnScope ["thing", "least", "most"] ["thing", "least", "most"] (defScope s_is_within) := ⟨rfl, rfl, rfl, by decide +kernel, rfl, by decide +kernel, by decide +kernel⟩
theorem sc_is_step : FnScope ["thing"] ["thing"] (defScope s_is_step) := ⟨rfl, rfl, rfl, by decide +kernel, rfl, by decide +kernel, by decide +kernel⟩
theorem sc_is_worth : FnScope ["thing"] ["thing"] (defScope s_is_worth) := ⟨rfl, rfl, rfl, by decide +kernel, rfl, by decide +kernel, by decide +kernel⟩
theorem sc_is_good : FnScope ["thing"] ["thing"] (defScope s_is_good) := ⟨rfl, rfl, rfl, by decide +kernel, rfl, by decide +kernel, by decide +kernel⟩
theorem sc_is_list_of_goods : FnScope ["thing", "good"] ["thing"] (defScope s_is_list_of_goods) := ⟨rfl, rfl, rfl, by decide +kernel, rfl, by decide +kernel, by decide +kernel⟩
theorem sc_is_buyer : FnScope ["thing", "many", "worth"] ["thing", "many"] (defScope s_is_buyer) := ⟨rfl, rfl, rfl, by decide +kernel, rfl, by decide +kernel, by decide +kernel⟩
theorem sc_is_round : FnScope ["thing", "many", "buyer"] ["thing", "many"] (defScope s_is_round) := ⟨rfl, rfl, rfl, by decide +kernel, rfl, by decide +kernel, by decide +kernel⟩
theorem sc_is_market : FnScope ["thing"] ["thing"] (defScope s_is_market) := ⟨rfl, rfl, rfl, by decide +kernel, rfl, by decide +kernel, by decide +kernel⟩
theorem sc_check_market : FnScope ["market"] ["market"] (defScope s_check_market) := ⟨rfl, rfl, rfl, by decide +kernel, rfl, by decide +kernel, by decide +kernel⟩
theorem sc_starts_of : FnScope ["market", "_", "start"] ["market"] (defScope s_starts_of) := ⟨rfl, rfl, rfl, by decide +kernel, rfl, by decide +kernel, by decide +kernel⟩
theorem sc_buyer_at : FnScope ["market", "day"] ["market", "day"] (defScope s_buyer_at) := ⟨rfl, rfl, rfl, by decide +kernel, rfl, by decide +kernel, by decide +kernel⟩
theorem sc_taken_by : FnScope ["buyer", "prices", "take", "most", "good", "worth"] ["buyer", "prices"] (defScope s_taken_by) := ⟨rfl, rfl, rfl, by decide +kernel, rfl, by decide +kernel, by decide +kernel⟩
theorem sc_moved : FnScope ["goods", "prices", "take", "behind", "good", "up", "down", "_"] ["goods", "prices", "take"] (defScope s_moved) := ⟨rfl, rfl, rfl, by decide +kernel, rfl, by decide +kernel, by decide +kernel⟩
theorem sc_check_days : FnScope ["days"] ["days"] (defScope s_check_days) := ⟨rfl, rfl, rfl, by decide +kernel, rfl, by decide +kernel, by decide +kernel⟩
theorem sc_run_of : FnScope ["market", "days", "prices", "told", "day", "take"] ["market", "days"] (defScope s_run_of) := ⟨rfl, rfl, rfl, by decide +kernel, rfl, by decide +kernel, by decide +kernel⟩
theorem sc_takes : FnScope ["market", "days", "told", "_"] ["market", "days"] (defScope s_takes) := ⟨rfl, rfl, rfl, by decide +kernel, rfl, by decide +kernel, by decide +kernel⟩
theorem sc_prices_at : FnScope ["market", "days", "_", "prices"] ["market", "days"] (defScope s_prices_at) := ⟨rfl, rfl, rfl, by decide +kernel, rfl, by decide +kernel, by decide +kernel⟩
theorem sc_sold : FnScope ["market", "days", "told", "_", "good"] ["market", "days"] (defScope s_sold) := ⟨rfl, rfl, rfl, by decide +kernel, rfl, by decide +kernel, by decide +kernel⟩
theorem sc_law_till : FnScope ["script", "k", "cell"] ["script", "k"] (defScope s_law_till) := ⟨rfl, rfl, rfl, by decide +kernel, rfl, by decide +kernel, by decide +kernel⟩
theorem sc_law_pull : FnScope ["till", "many", "found", "stirred"] ["till", "many"] (defScope s_law_pull) := ⟨rfl, rfl, rfl, by decide +kernel, rfl, by decide +kernel, by decide +kernel⟩
theorem sc_law_near : FnScope ["till", "about"] ["till"] (defScope s_law_near) := ⟨rfl, rfl, rfl, by decide +kernel, rfl, by decide +kernel, by decide +kernel⟩
theorem sc_law_buyer : FnScope ["till", "many", "worths", "ware"] ["till", "many"] (defScope s_law_buyer) := ⟨rfl, rfl, rfl, by decide +kernel, rfl, by decide +kernel, by decide +kernel⟩
theorem sc_law_market : FnScope ["till", "full", "goods", "ware", "turn"] ["till"] (defScope s_law_market) := ⟨rfl, rfl, rfl, by decide +kernel, rfl, by decide +kernel, by decide +kernel⟩
theorem sc_law_calm : FnScope ["till", "mart", "goods", "up", "down", "start", "rounds", "buyer", "worth"] ["till", "mart"] (defScope s_law_calm) := ⟨rfl, rfl, rfl, by decide +kernel, rfl, by decide +kernel, by decide +kernel⟩
theorem sc_law_goes_on : FnScope ["mart", "first", "more", "goods", "rounds", "now", "tag", "at", "later", "k", "one", "other"] ["mart", "first", "more"] (defScope s_law_goes_on) := ⟨rfl, rfl, rfl, by decide +kernel, rfl, by decide +kernel, by decide +kernel⟩
theorem sc_law_runs_alike : FnScope ["mart", "other", "many"] ["mart", "other", "many"] (defScope s_law_runs_alike) := ⟨rfl, rfl, rfl, by decide +kernel, rfl, by decide +kernel, by decide +kernel⟩
theorem sc_law_nobodies : FnScope ["mart", "none", "rounds", "buyer"] ["mart"] (defScope s_law_nobodies) := ⟨rfl, rfl, rfl, by decide +kernel, rfl, by decide +kernel, by decide +kernel⟩
theorem sc_law_one_more_right : FnScope ["till", "mart", "many", "goods", "rounds", "at", "ware", "wider", "buyer", "wide", "tags", "found", "take"] ["till", "mart", "many"] (defScope s_law_one_more_right) := ⟨rfl, rfl, rfl, by decide +kernel, rfl, by decide +kernel, by decide +kernel⟩
theorem sc_law : FnScope ["script", "k", "till", "mart", "first", "more", "twice"] ["script"] (defScope s_law) := ⟨rfl, rfl, rfl, by decide +kernel, rfl, by decide +kernel, by decide +kernel⟩

end K8


set_option Elab.async false
set_option linter.all false
set_option maxRecDepth 100000
set_option maxHeartbeats 1000000
namespace K8
open PySem PySem.Spec PyProof.Rows L2 GxR GA DX So
def t_is_whole (K : PySem.W.Frag) (cs : List Addr) (Pt : Str → Addr) : TS := (tRet (tAndV (tCB (rIsi K) (tCons (tVar 0) (tCons (tC (.ty "int")) tNil))) (tNotV (tCB (rIsi K) (tCons (tVar 0) (tCons (tC (.ty "bool")) tNil))))))
def t_is_within (K : PySem.W.Frag) (cs : List Addr) (Pt : Str → Addr) : TS := (tRet (tAndV (tCall (spP K cs C_is_whole) [] E0 (tCons (tVar 0) tNil)) (tChain (rI0 fun i j => .bl (decide (i ≤ j))) (rI0 fun i j => .bl (decide (i ≤ j))) (tVar 1) (tVar 0) (tVar 2))))
def t_is_step (K : PySem.W.Frag) (cs : List Addr) (Pt : Str → Addr) : TS := (tRet (tCall (spP K cs C_is_within) [] E0 (tCons (tVar 0) (tCons (tC (.int 1)) (tCons (tC (.int 4)) tNil)))))
def t_is_worth (K : PySem.W.Frag) (cs : List Addr) (Pt : Str → Addr) : TS := (tRet (tCall (spP K cs C_is_within) [] E0 (tCons (tVar 0) (tCons (tUn (rU fun i => .int (-i)) (tC (.int 99))) (tCons (tC (.int 99)) tNil)))))
def t_is_good (K : PySem.W.Frag) (cs : List Addr) (Pt : Str → Addr) : TS := (tSeq (tIfS (tOr (tNot (tB (tCB (rIsi K) (tCons (tVar 0) (tCons (tC (.ty "tuple")) tNil))))) (tTest (tOp rNe (tCB (rLenS K) (tCons (tVar 0) tNil)) (tC (.int 3)))))
      (tRet (tC (.bl false)))
      tNext)
    (tRet (tAndV (tCall (spP K cs C_is_step) [] E0 (tCons (tOp (rIx K) (tVar 0) (tC (.int 0))) tNil)) (tAndV (tCall (spP K cs C_is_step) [] E0 (tCons (tOp (rIx K) (tVar 0) (tC (.int 1))) tNil)) (tCall (spP K cs C_is_worth) [] E0 (tCons (tOp (rIx K) (tVar 0) (tC (.int 2))) tNil))))))
def t_is_list_of_goods (K : PySem.W.Frag) (cs : List Addr) (Pt : Str → Addr) : TS := (tSeq (tIfS (tOr (tNot (tB (tCB (rIsi K) (tCons (tVar 0) (tCons (tC (.ty "list")) tNil))))) (tNot (tTest (tChain (rI0 fun i j => .bl (decide (i ≤ j))) (rI0 fun i j => .bl (decide (i ≤ j))) (tC (.int 1)) (tCB (rLenS K) (tCons (tVar 0) tNil)) (tC (.int 4))))))
      (tRet (tC (.bl false)))
      tNext)
    (tRet (tAllG (Pt "is_list_of_goods") (iList K (tVar 0)) (gName 1) (tCall (spP K cs C_is_good) [] E0 (tCons (tVar 1) tNil)) [1])))
def t_is_buyer (K : PySem.W.Frag) (cs : List Addr) (Pt : Str → Addr) : TS := (tSeq (tIfS (tOr (tNot (tB (tCB (rIsi K) (tCons (tVar 0) (tCons (tC (.ty "list")) tNil))))) (tTest (tOp rNe (tCB (rLenS K) (tCons (tVar 0) tNil)) (tVar 1))))
      (tRet (tC (.bl false)))
      tNext)
    (tRet (tAllG (Pt "is_buyer") (iList K (tVar 0)) (gName 2) (tOrV (tOp rIsN (tVar 2) (tC .non)) (tCall (spP K cs C_is_worth) [] E0 (tCons (tVar 2) tNil))) [2])))
def t_is_round (K : PySem.W.Frag) (cs : List Addr) (Pt : Str → Addr) : TS := (tSeq (tIfS (tOr (tNot (tB (tCB (rIsi K) (tCons (tVar 0) (tCons (tC (.ty "list")) tNil))))) (tNot (tTest (tChain (rI0 fun i j => .bl (decide (i ≤ j))) (rI0 fun i j => .bl (decide (i ≤ j))) (tC (.int 1)) (tCB (rLenS K) (tCons (tVar 0) tNil)) (tC (.int 6))))))
      (tRet (tC (.bl false)))
      tNext)
    (tRet (tAllG (Pt "is_round") (iList K (tVar 0)) (gName 2) (tOrV (tOp rIsN (tVar 2) (tC .non)) (tCall (spP K cs C_is_buyer) [] E0 (tCons (tVar 2) (tCons (tVar 1) tNil)))) [2])))
def t_is_market (K : PySem.W.Frag) (cs : List Addr) (Pt : Str → Addr) : TS := (tSeq (tIfS (tOr (tNot (tB (tCB (rIsi K) (tCons (tVar 0) (tCons (tC (.ty "tuple")) tNil))))) (tTest (tOp rNe (tCB (rLenS K) (tCons (tVar 0) tNil)) (tC (.int 2)))))
      (tRet (tC (.bl false)))
      tNext)
    (tRet (tAndV (tCall (spP K cs C_is_list_of_goods) [] E0 (tCons (tOp (rIx K) (tVar 0) (tC (.int 0))) tNil)) (tCall (spP K cs C_is_round) [] E0 (tCons (tOp (rIx K) (tVar 0) (tC (.int 1))) (tCons (tCB (rLenS K) (tCons (tOp (rIx K) (tVar 0) (tC (.int 0))) tNil)) tNil))))))
def t_check_market (K : PySem.W.Frag) (cs : List Addr) (Pt : Str → Addr) : TS := (tIfS (tNot (tB (tCall (spP K cs C_is_market) [] E0 (tCons (tVar 0) tNil))))
      tNever
      tNext)
def t_starts_of (K : PySem.W.Frag) (cs : List Addr) (Pt : Str → Addr) : TS := (tRet (tLc (iList K (tOp (rIx K) (tVar 0) (tC (.int 0)))) (gTup K 3 (gCons (gName 1) (gCons (gName 1) (gCons (gName 2) gNil)))) tYes (tVar 2) [1, 2]))
def t_buyer_at (K : PySem.W.Frag) (cs : List Addr) (Pt : Str → Addr) : TS := (tRet (tOp (rIx K) (tOp (rIx K) (tVar 0) (tC (.int 1))) (tOp (rI (fun _ j => 0 < j) fun i j => .int (i % j)) (tVar 1) (tCB (rLenS K) (tCons (tOp (rIx K) (tVar 0) (tC (.int 1))) tNil)))))
def t_taken_by (K : PySem.W.Frag) (cs : List Addr) (Pt : Str → Addr) : TS := (tSeq (tIfS (tTest (tOp rIsN (tVar 0) (tC .non)))
      (tRet (tC .non))
      tNext)
    (tSeq (tAsg (tC .non) (gName 2))
    (tSeq (tAsg (tUn (rU fun i => .int (-i)) (tC (.int 1))) (gName 3))
    (tSeq (tFor (iEnum K (tCons (tVar 0) tNil)) (gTup K 2 (gCons (gName 4) (gCons (gName 5) gNil)))
      (tIfS (tAnd (tTest (tOp rNotN (tVar 5) (tC .non))) (tTest (tOp (rI0 fun i j => .bl (decide (j < i))) (tOp (rI0 fun i j => .int (i - j)) (tVar 5) (tOp (rIx K) (tVar 1) (tVar 4))) (tVar 3))))
      (tSeq (tAsg (tVar 4) (gName 2))
    (tAsg (tOp (rI0 fun i j => .int (i - j)) (tVar 5) (tOp (rIx K) (tVar 1) (tVar 4))) (gName 3)))
      tNext))
    (tRet (tVar 2))))))
def t_moved (K : PySem.W.Frag) (cs : List Addr) (Pt : Str → Addr) : TS := (tSeq (tAsg (tLst tNil) (gName 3))
    (tSeq (tFor (iEnum K (tCons (tVar 0) tNil)) (gTup K 2 (gCons (gName 4) (gCons (gTup K 3 (gCons (gName 5) (gCons (gName 6) (gCons (gName 7) gNil)))) gNil)))
      (tDrop (tBM K "list" rAppend (tVar 3) (tCons (tIf (tTest (tOp rEq (tVar 4) (tVar 2))) (tOp (rI0 fun i j => .int (i + j)) (tOp (rIx K) (tVar 1) (tVar 4)) (tVar 5)) (tOp (rI0 fun i j => .int (i - j)) (tOp (rIx K) (tVar 1) (tVar 4)) (tVar 6))) tNil))))
    (tRet (tVar 3))))
def t_check_days (K : PySem.W.Frag) (cs : List Addr) (Pt : Str → Addr) : TS := (tIfS (tNot (tB (tCall (spP K cs C_is_within) [] E0 (tCons (tVar 0) (tCons (tC (.int 0)) (tCons (tC (.int 4000)) tNil))))))
      tNever
      tNext)
def t_run_of (K : PySem.W.Frag) (cs : List Addr) (Pt : Str → Addr) : TS := (tSeq (tDrop (tCall (spP K cs C_check_market) [] E0 (tCons (tVar 0) tNil)))
    (tSeq (tDrop (tCall (spP K cs C_check_days) [] E0 (tCons (tVar 1) tNil)))
    (tSeq (tAsg (tCall (spP K cs C_starts_of) [] E0 (tCons (tVar 0) tNil)) (gName 2))
    (tSeq (tAsg (tLst tNil) (gName 3))
    (tSeq (tFor (iRng1 (tCons (tVar 1) tNil)) (gName 4)
      (tSeq (tAsg (tCall (spP K cs C_taken_by) [] E0 (tCons (tCall (spP K cs C_buyer_at) [] E0 (tCons (tVar 0) (tCons (tVar 4) tNil))) (tCons (tVar 2) tNil))) (gName 5))
    (tSeq (tDrop (tBM K "list" rAppend (tVar 3) (tCons (tVar 5) tNil)))
    (tAsg (tCall (spP K cs C_moved) [] E0 (tCons (tOp (rIx K) (tVar 0) (tC (.int 0))) (tCons (tVar 2) (tCons (tVar 5) tNil)))) (gName 2)))))
    (tRet (tTup (tCons (tVar 3) (tCons (tVar 2) tNil)))))))))
def t_takes (K : PySem.W.Frag) (cs : List Addr) (Pt : Str → Addr) : TS := (tSeq (tAsg (tCall (spP K cs C_run_of) [] E0 (tCons (tVar 0) (tCons (tVar 1) tNil))) (gTup K 2 (gCons (gName 2) (gCons (gName 3) gNil))))
    (tRet (tVar 2)))
def t_prices_at (K : PySem.W.Frag) (cs : List Addr) (Pt : Str → Addr) : TS := (tSeq (tAsg (tCall (spP K cs C_run_of) [] E0 (tCons (tVar 0) (tCons (tVar 1) tNil))) (gTup K 2 (gCons (gName 2) (gCons (gName 3) gNil))))
    (tRet (tVar 3)))
def t_sold (K : PySem.W.Frag) (cs : List Addr) (Pt : Str → Addr) : TS := (tSeq (tAsg (tCall (spP K cs C_run_of) [] E0 (tCons (tVar 0) (tCons (tVar 1) tNil))) (gTup K 2 (gCons (gName 2) (gCons (gName 3) gNil))))
    (tRet (tLc (iRng1 (tCons (tCB (rLenS K) (tCons (tOp (rIx K) (tVar 0) (tC (.int 0))) tNil)) tNil)) (gName 4) tYes (tBM K "list" (rCntM K) (tVar 2) (tCons (tVar 4) tNil)) [4])))
def t_law_till (K : PySem.W.Frag) (cs : List Addr) (Pt : Str → Addr) : TS := (tSeq (tAsg (tIf (tTest (tOp (rI0 fun i j => .bl (decide (i < j))) (tVar 1) (tCB (rLenS K) (tCons (tVar 0) tNil)))) (tOp (rIx K) (tVar 0) (tVar 1)) (tC (.int 0))) (gName 2))
    (tRet (tLst (tCons (tCB rMax2 (tCons (tC (.int 0)) (tCons (tOp (rI0 fun i j => .int (i - j)) (tVar 2) (tOp (rI CPowW fun i j => .int (i ^ j.toNat)) (tC (.int 10)) (tC (.int 18)))) tNil))) (tCons (tOp (rI0 fun i j => .int (i + j)) (tOp (rI (fun _ j => 0 < j) fun i j => .int (i % j)) (tVar 2) (tOp (rI0 fun i j => .int (i + j)) (tOp (rI CPowW fun i j => .int (i ^ j.toNat)) (tC (.int 10)) (tC (.int 43))) (tC (.int 57)))) (tOp (rI CMulW fun i j => .int (i * j)) (tOp (rI CPowW fun i j => .int (i ^ j.toNat)) (tC (.int 10)) (tC (.int 12))) (tOp (rI0 fun i j => .int (i + j)) (tVar 1) (tC (.int 1))))) (tCons (tC (.int 0)) tNil))))))
def t_law_pull (K : PySem.W.Frag) (cs : List Addr) (Pt : Str → Addr) : TS := (tSeq (tIfS (tTest (tOp (rI0 fun i j => .bl (decide (j < i))) (tOp (rIx K) (tVar 0) (tC (.int 0))) (tC (.int 0))))
      (tSeq (tAsg (tOp (rI (fun _ j => 0 < j) fun i j => .int (i % j)) (tOp (rIx K) (tVar 0) (tC (.int 0))) (tVar 1)) (gName 2))
    (tSeq (tAsg (tOp (rI CDivW fun i j => .int (i / j)) (tOp (rIx K) (tVar 0) (tC (.int 0))) (tVar 1)) (gSub (tVar 0) (tC (.int 0)) rSetL))
    (tRet (tVar 2))))
      tNext)
    (tSeq (tAsg (tOp (rI0 fun i j => .int (i + j)) (tOp (rIx K) (tVar 0) (tC (.int 2))) (tC (.int 1))) (gSub (tVar 0) (tC (.int 2)) rSetL))
    (tSeq (tAsg (tOp (rI (fun _ j => 0 < j) fun i j => .int (i % j)) (tOp (rI CPowW fun i j => .int (i ^ j.toNat)) (tOp (rI0 fun i j => .int (i + j)) (tOp (rIx K) (tVar 0) (tC (.int 1))) (tOp (rI CMulW fun i j => .int (i * j)) (tC (.int 15485867)) (tOp (rI CPowW fun i j => .int (i ^ j.toNat)) (tOp (rIx K) (tVar 0) (tC (.int 2))) (tC (.int 2))))) (tC (.int 3))) (tOp (rI0 fun i j => .int (i + j)) (tOp (rI CPowW fun i j => .int (i ^ j.toNat)) (tC (.int 10)) (tC (.int 37))) (tC (.int 43)))) (gName 3))
    (tSeq (tAsg (tOp (rI (fun _ j => 0 < j) fun i j => .int (i % j)) (tOp (rI CPowW fun i j => .int (i ^ j.toNat)) (tOp (rI0 fun i j => .int (i + j)) (tVar 3) (tOp (rI CMulW fun i j => .int (i * j)) (tC (.int 32416190071)) (tOp (rIx K) (tVar 0) (tC (.int 2))))) (tC (.int 5))) (tOp (rI0 fun i j => .int (i + j)) (tOp (rI CPowW fun i j => .int (i ^ j.toNat)) (tC (.int 10)) (tC (.int 34))) (tC (.int 193)))) (gName 3))
    (tRet (tOp (rI (fun _ j => 0 < j) fun i j => .int (i % j)) (tOp (rI CDivW fun i j => .int (i / j)) (tVar 3) (tC (.int 999983))) (tVar 1)))))))
def t_law_near (K : PySem.W.Frag) (cs : List Addr) (Pt : Str → Addr) : TS := (tSeq (tAsg (tOp (rI0 fun i j => .int (i - j)) (tCall (spT K cs C_law_pull) [] E0 (tCons (tVar 0) (tCons (tC (.int 13)) tNil))) (tC (.int 6))) (gName 1))
    (tRet (tOp (rIx K) (tLst (tCons (tVar 1) (tCons (tVar 1) (tCons (tOp (rI0 fun i j => .int (i - j)) (tCall (spT K cs C_law_pull) [] E0 (tCons (tVar 0) (tCons (tC (.int 199)) tNil))) (tC (.int 99))) (tCons (tC (.int 99)) (tCons (tUn (rU fun i => .int (-i)) (tC (.int 99))) tNil)))))) (tCall (spT K cs C_law_pull) [] E0 (tCons (tVar 0) (tCons (tC (.int 5)) tNil))))))
def t_law_buyer (K : PySem.W.Frag) (cs : List Addr) (Pt : Str → Addr) : TS := (tSeq (tAsg (tLc (iRng1 (tCons (tVar 1) tNil)) (gName 3) tYes (tOp (rIx K) (tLst (tCons (tCall (spT K cs C_law_near) [] E0 (tCons (tVar 0) tNil)) (tCons (tC .non) tNil))) (tCB rInt1 (tCons (tOp rEq (tCall (spT K cs C_law_pull) [] E0 (tCons (tVar 0) (tCons (tC (.int 4)) tNil))) (tC (.int 0))) tNil))) [3]) (gName 2))
    (tRet (tIf (tTest (tOp (rI0 fun i j => .bl (decide (j < i))) (tCall (spT K cs C_law_pull) [] E0 (tCons (tVar 0) (tCons (tC (.int 7)) tNil))) (tC (.int 0)))) (tVar 2) (tC .non))))
def t_law_market (K : PySem.W.Frag) (cs : List Addr) (Pt : Str → Addr) : TS := (tSeq (tAsg (tCB rInt1 (tCons (tOp rEq (tCall (spT K cs C_law_pull) [] E0 (tCons (tVar 0) (tCons (tC (.int 8)) tNil))) (tC (.int 0))) tNil)) (gName 1))
    (tSeq (tAsg (tLst tNil) (gName 2))
    (tSeq (tFor (iRng1 (tCons (tOp (rIx K) (tLst (tCons (tOp (rI0 fun i j => .int (i + j)) (tC (.int 1)) (tCall (spT K cs C_law_pull) [] E0 (tCons (tVar 0) (tCons (tC (.int 4)) tNil)))) (tCons (tC (.int 4)) tNil))) (tVar 1)) tNil)) (gName 3)
      (tDrop (tBM K "list" rAppend (tVar 2) (tCons (tTup (tCons (tOp (rI0 fun i j => .int (i + j)) (tC (.int 1)) (tCall (spT K cs C_law_pull) [] E0 (tCons (tVar 0) (tCons (tC (.int 4)) tNil)))) (tCons (tOp (rI0 fun i j => .int (i + j)) (tC (.int 1)) (tCall (spT K cs C_law_pull) [] E0 (tCons (tVar 0) (tCons (tC (.int 4)) tNil)))) (tCons (tCall (spT K cs C_law_near) [] E0 (tCons (tVar 0) tNil)) tNil)))) tNil))))
    (tRet (tTup (tCons (tVar 2) (tCons (tLc (iRng1 (tCons (tOp (rIx K) (tLst (tCons (tOp (rI0 fun i j => .int (i + j)) (tC (.int 1)) (tCall (spT K cs C_law_pull) [] E0 (tCons (tVar 0) (tCons (tC (.int 6)) tNil)))) (tCons (tC (.int 6)) tNil))) (tVar 1)) tNil)) (gName 4) tYes (tCall (spT K cs C_law_buyer) [] E0 (tCons (tVar 0) (tCons (tCB (rLenS K) (tCons (tVar 2) tNil)) tNil))) [4]) tNil)))))))
def t_law_calm (K : PySem.W.Frag) (cs : List Addr) (Pt : Str → Addr) : TS := (tSeq (tIfS (tTest (tOp rEq (tCall (spT K cs C_law_pull) [] E0 (tCons (tVar 0) (tCons (tC (.int 2)) tNil))) (tC (.int 0))))
      (tRet (tVar 1))
      tNext)
    (tSeq (tAsg (tLc (iList K (tOp (rIx K) (tVar 1) (tC (.int 0)))) (gTup K 3 (gCons (gName 3) (gCons (gName 4) (gCons (gName 5) gNil)))) tYes (tTup (tCons (tVar 3) (tCons (tVar 4) (tCons (tOp (rI (fun _ j => 0 < j) fun i j => .int (i % j)) (tVar 5) (tC (.int 20))) tNil)))) [3, 4, 5]) (gName 2))
    (tSeq (tAsg (tLst tNil) (gName 6))
    (tSeq (tFor (iList K (tOp (rIx K) (tVar 1) (tC (.int 1)))) (gName 7)
      (tDrop (tBM K "list" rAppend (tVar 6) (tCons (tIf (tTest (tOp rIsN (tVar 7) (tC .non))) (tC .non) (tLc (iList K (tVar 7)) (gName 8) tYes (tIf (tTest (tOp rIsN (tVar 8) (tC .non))) (tC .non) (tOp (rI (fun _ j => 0 < j) fun i j => .int (i % j)) (tVar 8) (tC (.int 30)))) [8])) tNil))))
    (tRet (tTup (tCons (tVar 2) (tCons (tVar 6) tNil))))))))
def t_law_goes_on (K : PySem.W.Frag) (cs : List Addr) (Pt : Str → Addr) : TS := (tSeq (tAsg (tVar 0) (gTup K 2 (gCons (gName 3) (gCons (gName 4) gNil))))
    (tSeq (tAsg (tCall (spP K cs C_prices_at) [] E0 (tCons (tVar 0) (tCons (tVar 1) tNil))) (gName 5))
    (tSeq (tIfS (tTest (tOp (rNeD K) (tLc (iList K (tVar 5)) (gName 6) (tOr (tTest (tOp (rI0 fun i j => .bl (decide (i < j))) (tVar 6) (tUn (rU fun i => .int (-i)) (tC (.int 99))))) (tTest (tOp (rI0 fun i j => .bl (decide (j < i))) (tVar 6) (tC (.int 99))))) (tVar 6) [6]) (tLst tNil)))
      (tRet (tC (.bl true)))
      tNext)
    (tSeq (tAsg (tOp (rI (fun _ j => 0 < j) fun i j => .int (i % j)) (tVar 1) (tCB (rLenS K) (tCons (tVar 4) tNil))) (gName 7))
    (tSeq (tAsg (tTup (tCons (tLc (iRng1 (tCons (tCB (rLenS K) (tCons (tVar 3) tNil)) tNil)) (gName 9) tYes (tTup (tCons (tOp (rIx K) (tOp (rIx K) (tVar 3) (tVar 9)) (tC (.int 0))) (tCons (tOp (rIx K) (tOp (rIx K) (tVar 3) (tVar 9)) (tC (.int 1))) (tCons (tOp (rIx K) (tVar 5) (tVar 9)) tNil)))) [9]) (tCons (tOp rCat (tSl (rSlL K) (tVar 4) (tPart (tVar 7)) tNoPart) (tSl (rSlL K) (tVar 4) tNoPart (tPart (tVar 7)))) tNil))) (gName 8))
    (tSeq (tIfS (tTest (tOp (rNeD K) (tCall (spP K cs C_takes) [] E0 (tCons (tVar 8) (tCons (tVar 2) tNil))) (tSl (rSlL K) (tCall (spP K cs C_takes) [] E0 (tCons (tVar 0) (tCons (tOp (rI0 fun i j => .int (i + j)) (tVar 1) (tVar 2)) tNil))) (tPart (tVar 1)) tNoPart)))
      (tRet (tC (.bl false)))
      tNext)
    (tSeq (tIfS (tTest (tOp (rNeD K) (tCall (spP K cs C_prices_at) [] E0 (tCons (tVar 8) (tCons (tVar 2) tNil))) (tCall (spP K cs C_prices_at) [] E0 (tCons (tVar 0) (tCons (tOp (rI0 fun i j => .int (i + j)) (tVar 1) (tVar 2)) tNil)))))
      (tRet (tC (.bl false)))
      tNext)
    (tSeq (tAsg (tLst (tCons (tCall (spP K cs C_sold) [] E0 (tCons (tVar 0) (tCons (tVar 1) tNil))) (tCons (tCall (spP K cs C_sold) [] E0 (tCons (tVar 8) (tCons (tVar 2) tNil))) tNil))) (gUnl K 2 (gCons (gName 10) (gCons (gName 11) gNil))))
    (tRet (tOp (rEqD K) (tLc (iRng1 (tCons (tCB (rLenS K) (tCons (tVar 3) tNil)) tNil)) (gName 9) tYes (tOp (rI0 fun i j => .int (i + j)) (tOp (rIx K) (tVar 10) (tVar 9)) (tOp (rIx K) (tVar 11) (tVar 9))) [9]) (tCall (spP K cs C_sold) [] E0 (tCons (tVar 0) (tCons (tOp (rI0 fun i j => .int (i + j)) (tVar 1) (tVar 2)) tNil)))))))))))))
def t_law_runs_alike (K : PySem.W.Frag) (cs : List Addr) (Pt : Str → Addr) : TS := (tRet (tAndV (tOp (rEqD K) (tCall (spP K cs C_takes) [] E0 (tCons (tVar 0) (tCons (tVar 2) tNil))) (tCall (spP K cs C_takes) [] E0 (tCons (tVar 1) (tCons (tVar 2) tNil)))) (tOp (rEqD K) (tCall (spP K cs C_prices_at) [] E0 (tCons (tVar 0) (tCons (tVar 2) tNil))) (tCall (spP K cs C_prices_at) [] E0 (tCons (tVar 1) (tCons (tVar 2) tNil))))))
def t_law_nobodies (K : PySem.W.Frag) (cs : List Addr) (Pt : Str → Addr) : TS := (tSeq (tAsg (tOp rRep (tLst (tCons (tC .non) tNil)) (tCB (rLenS K) (tCons (tOp (rIx K) (tVar 0) (tC (.int 0))) tNil))) (gName 1))
    (tSeq (tAsg (tLst tNil) (gName 2))
    (tSeq (tFor (iList K (tOp (rIx K) (tVar 0) (tC (.int 1)))) (gName 3)
      (tDrop (tBM K "list" rAppend (tVar 2) (tCons (tIf (tTest (tOp rIsN (tVar 3) (tC .non))) (tSl (rSlL K) (tVar 1) tNoPart tNoPart) (tIf (tTest (tOp (rEqD K) (tVar 3) (tVar 1))) (tC .non) (tVar 3))) tNil))))
    (tRet (tTup (tCons (tOp (rIx K) (tVar 0) (tC (.int 0))) (tCons (tVar 2) tNil)))))))
def t_law_one_more_right (K : PySem.W.Frag) (cs : List Addr) (Pt : Str → Addr) : TS := (tSeq (tAsg (tVar 1) (gTup K 2 (gCons (gName 3) (gCons (gName 4) gNil))))
    (tSeq (tIfS (tTest (tOp rEq (tCB (rLenS K) (tCons (tVar 3) tNil)) (tC (.int 4))))
      (tRet (tC (.bl true)))
      tNext)
    (tSeq (tAsg (tCall (spT K cs C_law_pull) [] E0 (tCons (tVar 0) (tCons (tOp (rI0 fun i j => .int (i + j)) (tCB (rLenS K) (tCons (tVar 3) tNil)) (tC (.int 1))) tNil))) (gName 5))
    (tSeq (tAsg (tTup (tCons (tOp (rI0 fun i j => .int (i + j)) (tC (.int 1)) (tCall (spT K cs C_law_pull) [] E0 (tCons (tVar 0) (tCons (tC (.int 4)) tNil)))) (tCons (tOp (rI0 fun i j => .int (i + j)) (tC (.int 1)) (tCall (spT K cs C_law_pull) [] E0 (tCons (tVar 0) (tCons (tC (.int 4)) tNil)))) (tCons (tOp (rI0 fun i j => .int (i - j)) (tCall (spT K cs C_law_pull) [] E0 (tCons (tVar 0) (tCons (tC (.int 199)) tNil))) (tC (.int 99))) tNil)))) (gName 6))
    (tSeq (tAsg (tLc (iList K (tVar 4)) (gName 8) tYes (tIf (tTest (tOp rIsN (tVar 8) (tC .non))) (tC .non) (tOp rCat (tOp rCat (tSl (rSlL K) (tVar 8) tNoPart (tPart (tVar 5))) (tLst (tCons (tC .non) tNil))) (tSl (rSlL K) (tVar 8) (tPart (tVar 5)) tNoPart))) [8]) (gName 7))
    (tSeq (tAsg (tTup (tCons (tOp rCat (tOp rCat (tSl (rSlL K) (tVar 3) tNoPart (tPart (tVar 5))) (tLst (tCons (tVar 6) tNil))) (tSl (rSlL K) (tVar 3) (tPart (tVar 5)) tNoPart)) (tCons (tVar 7) tNil))) (gName 9))
    (tSeq (tAsg (tCall (spP K cs C_prices_at) [] E0 (tCons (tVar 9) (tCons (tVar 2) tNil))) (gName 10))
    (tSeq (tAsg (tLc (iList K (tCall (spP K cs C_takes) [] E0 (tCons (tVar 9) (tCons (tVar 2) tNil)))) (gName 12) tYes (tIf (tOr (tTest (tOp rIsN (tVar 12) (tC .non))) (tTest (tOp (rI0 fun i j => .bl (decide (i < j))) (tVar 12) (tVar 5)))) (tVar 12) (tOp (rI0 fun i j => .int (i - j)) (tVar 12) (tC (.int 1)))) [12]) (gName 11))
    (tSeq (tIfS (tOr (tTest (tOp rNe (tOp (rIx K) (tCall (spP K cs C_sold) [] E0 (tCons (tVar 9) (tCons (tVar 2) tNil))) (tVar 5)) (tC (.int 0)))) (tTest (tOp (rNeD K) (tVar 11) (tCall (spP K cs C_takes) [] E0 (tCons (tVar 1) (tCons (tVar 2) tNil))))))
      (tRet (tC (.bl false)))
      tNext)
    (tRet (tAndV (tOp rEq (tOp (rIx K) (tVar 10) (tVar 5)) (tOp (rI0 fun i j => .int (i - j)) (tOp (rIx K) (tVar 6) (tC (.int 2))) (tOp (rI CMulW fun i j => .int (i * j)) (tOp (rIx K) (tVar 6) (tC (.int 1))) (tVar 2)))) (tOp (rEqD K) (tOp rCat (tSl (rSlL K) (tVar 10) tNoPart (tPart (tVar 5))) (tSl (rSlL K) (tVar 10) (tPart (tOp (rI0 fun i j => .int (i + j)) (tVar 5) (tC (.int 1)))) tNoPart)) (tCall (spP K cs C_prices_at) [] E0 (tCons (tVar 1) (tCons (tVar 2) tNil)))))))))))))))
def t_law (K : PySem.W.Frag) (cs : List Addr) (Pt : Str → Addr) : TS := (tSeq (tFor (iRng1 (tCons (tCB rMax2 (tCons (tC (.int 1)) (tCons (tCB rMin2 (tCons (tC (.int 4)) (tCons (tCB (rLenS K) (tCons (tVar 0) tNil)) tNil))) tNil))) tNil)) (gName 1)
      (tSeq (tAsg (tCall (spF K cs C_law_till) [] E0 (tCons (tVar 0) (tCons (tVar 1) tNil))) (gName 2))
    (tSeq (tAsg (tCall (spT K cs C_law_calm) [] E0 (tCons (tVar 2) (tCons (tCall (spT K cs C_law_market) [] E0 (tCons (tVar 2) tNil)) tNil))) (gName 3))
    (tSeq (tAsg (tCall (spT K cs C_law_pull) [] E0 (tCons (tVar 2) (tCons (tC (.int 41)) tNil))) (gName 4))
    (tSeq (tAsg (tCall (spT K cs C_law_pull) [] E0 (tCons (tVar 2) (tCons (tC (.int 41)) tNil))) (gName 5))
    (tSeq (tIfS (tOr (tTest (tOp (rNeD K) (tCall (spP K cs C_takes) [] E0 (tCons (tVar 3) (tCons (tVar 4) tNil))) (tSl (rSlL K) (tCall (spP K cs C_takes) [] E0 (tCons (tVar 3) (tCons (tOp (rI0 fun i j => .int (i + j)) (tVar 4) (tVar 5)) tNil))) tNoPart (tPart (tVar 4))))) (tNot (tB (tCall (spP K cs C_law_goes_on) [] E0 (tCons (tVar 3) (tCons (tVar 4) (tCons (tVar 5) tNil)))))))
      (tRet (tC (.bl false)))
      tNext)
    (tSeq (tIfS (tNot (tB (tCall (spP K cs C_law_runs_alike) [] E0 (tCons (tVar 3) (tCons (tCall (spP K cs C_law_nobodies) [] E0 (tCons (tVar 3) tNil)) (tCons (tOp (rI0 fun i j => .int (i + j)) (tVar 4) (tVar 5)) tNil))))))
      (tRet (tC (.bl false)))
      tNext)
    (tSeq (tAsg (tTup (tCons (tOp (rIx K) (tVar 3) (tC (.int 0))) (tCons (tOp rCat (tOp (rIx K) (tVar 3) (tC (.int 1))) (tOp (rIx K) (tVar 3) (tC (.int 1)))) tNil))) (gName 6))
    (tSeq (tIfS (tAnd (tTest (tOp (rI0 fun i j => .bl (decide (i < j))) (tCB (rLenS K) (tCons (tOp (rIx K) (tVar 3) (tC (.int 1))) tNil)) (tC (.int 4)))) (tNot (tB (tCall (spP K cs C_law_runs_alike) [] E0 (tCons (tVar 3) (tCons (tVar 6) (tCons (tOp (rI0 fun i j => .int (i + j)) (tVar 4) (tVar 5)) tNil)))))))
      (tRet (tC (.bl false)))
      tNext)
    (tIfS (tNot (tB (tCall (spT K cs C_law_one_more_right) [] E0 (tCons (tVar 2) (tCons (tVar 3) (tCons (tOp (rI0 fun i j => .int (i + j)) (tVar 4) (tVar 5)) tNil))))))
      (tRet (tC (.bl false)))
      tNext))))))))))
    (tRet (tC (.bl true))))
end K8


set_option Elab.async false
set_option linter.all false
set_option maxRecDepth 100000
set_option maxHeartbeats 1000000
namespace K8
open PySem PySem.Spec PyProof.Rows L2 GxR GA DX So
variable {K : PySem.W.Frag} {cs : List Addr} {Pt : Str → Addr}
theorem dict_is {T : String} {kvs : List (PyData × PyData)} (h : T ≠ "list" ∧ T ≠ "dict") : isD T (.dict kvs) = false := by
  have e : tyD (.dict kvs) = "list" ∨ tyD (.dict kvs) = "dict" := by
    unfold tyD
    split <;> simp_all
  unfold isD
  rcases e with e | e <;> rw [e] <;> simp [Ne.symm h.1, Ne.symm h.2]
theorem whole_int (x : PyData) : wholeB x = true → ∃ i, x = .int i := by
  intro h
  unfold wholeB at h
  cases x with
  | int i => exact ⟨i, rfl⟩
  | dict kvs => rw [show isD "int" (.dict kvs) = false from dict_is (by decide)] at h; cases h
  | bool b => cases h
  | none => cases h
  | str b => cases h
  | list b => cases h
  | tuple b => cases h
theorem whole_no (x : PyData) (a b : Int) : wholeB x = false → withinB x a b = false := by
  intro h
  cases x <;> simp [wholeB, isD, tyD, withinB] at h ⊢
theorem sd_is_whole (xs : List PyData) (P : PyData → Prop) (h : C_is_whole xs P) : xs.length ≤ 1 ∧ SD ⟨K, cs, []⟩ (t_is_whole K cs Pt) (envP ["thing"] xs) (QP P) := by
  obtain ⟨x, rfl, hP⟩ := h
  refine ⟨by simp, sd_ret (ed_and (ed_isi (by decide) (ed_var rfl ⟨_, rfl, ?_⟩)))⟩
  cases h : isD "int" x
  · have e : wholeB x = false := by simp [wholeB, h]
    rw [e] at hP
    exact iteF hP
  · have e : wholeB x = !isD "bool" x := by simp [wholeB, h]
    rw [e] at hP
    exact iteT (ed_not (ed_isi (by decide) (ed_var rfl ⟨_, rfl, hP⟩)))
theorem sd_is_within (xs : List PyData) (P : PyData → Prop) (h : C_is_within xs P) : xs.length ≤ 3 ∧ SD ⟨K, cs, []⟩ (t_is_within K cs Pt) (envP ["thing", "least", "most"] xs) (QP P) := by
  obtain ⟨x, a, b, rfl, hP⟩ := h
  refine ⟨by simp, sd_ret (ed_and (ed_callP (ea_cons (ed_var rfl (ea_nil ⟨_, rfl, _, rfl, _, rfl, ?_⟩)))))⟩
  cases h : wholeB x
  · rw [whole_no x a b h] at hP
    exact iteF hP
  · obtain ⟨i, rfl⟩ := whole_int x h
    refine iteT (ed_chain (ed_var rfl (ed_var rfl ⟨_, _, rfl, rfl, ?_⟩)))
    cases h2 : decide (a ≤ i)
    · refine iteF ?_
      have e : withinB (.int i) a b = false := by simp [withinB, h2]
      rw [e] at hP
      exact hP
    · refine iteT (ed_var rfl ⟨_, rfl, ?_⟩)
      have e : withinB (.int i) a b = decide (i ≤ b) := by simp [withinB, h2]
      rw [e] at hP
      exact hP
theorem sd_is_step (xs : List PyData) (P : PyData → Prop) (h : C_is_step xs P) : xs.length ≤ 1 ∧ SD ⟨K, cs, []⟩ (t_is_step K cs Pt) (envP ["thing"] xs) (QP P) := by
  obtain ⟨x, rfl, hP⟩ := h
  exact ⟨by simp, sd_ret (ed_callP (ea_cons (ed_var rfl (ea_cons (ed_int (ea_cons (ed_int (ea_nil ⟨_, rfl, _, _, _, rfl, hP⟩))))))))⟩
theorem sd_is_worth (xs : List PyData) (P : PyData → Prop) (h : C_is_worth xs P) : xs.length ≤ 1 ∧ SD ⟨K, cs, []⟩ (t_is_worth K cs Pt) (envP ["thing"] xs) (QP P) := by
  obtain ⟨x, rfl, hP⟩ := h
  exact ⟨by simp, sd_ret (ed_callP (ea_cons (ed_var rfl (ea_cons (ed_neg (ed_int ⟨_, rfl, (ea_cons (ed_int (ea_nil ⟨_, rfl, _, _, _, rfl, hP⟩)))⟩))))))⟩
theorem tup_of {x : PyData} (h : isD "tuple" x = true) : ∃ xs, x = .tuple xs := by
  cases x with
  | tuple i => exact ⟨i, rfl⟩
  | dict kvs => rw [show isD "tuple" (.dict kvs) = false from dict_is (by decide)] at h; cases h
  | bool b => cases h
  | none => cases h
  | str b => cases h
  | list b => cases h
  | int b => cases h
theorem lst_of {x : PyData} (hn : noDct x = true) (h : isD "list" x = true) : ∃ xs, x = .list xs := by
  cases x <;> simp [isD, tyD] at h
  · exact ⟨_, rfl⟩
  · cases hn
theorem sd_is_good (xs : List PyData) (P : PyData → Prop) (h : C_is_good xs P) : xs.length ≤ 1 ∧ SD ⟨K, cs, []⟩ (t_is_good K cs Pt) (envP ["thing"] xs) (QP P) := by
  obtain ⟨x, rfl, hP⟩ := h
  refine ⟨by simp, sd_seq (sd_if (dt_or (dt_not (dt_ofB (ed_isi (by decide) (ed_var rfl ⟨_, rfl, ?_⟩))))))⟩
  cases h : isD "tuple" x
  · refine iteT (iteT (sd_ret (ed_bl ?_)))
    have e : goodB x = false := by
      cases x <;> first | rfl | (simp [isD, tyD] at h)
    rw [e] at hP
    exact hP
  · obtain ⟨ys, rfl⟩ := tup_of h
    refine iteF (dt_of (ed_neS (ed_len (ea_cons (ed_var rfl (ea_nil ⟨_, rfl, _, ys.length, rfl, rfl, ed_int ⟨_, rfl, _, rfl, ?_⟩⟩))))))
    have l : ((ys.length : Int) == 3) = decide (ys.length = 3) := by
      rw [Bool.eq_iff_iff]; simp; omega
    rw [l]
    by_cases hl : ys.length = 3
    · obtain ⟨a, b, c, rfl⟩ : ∃ a b c, ys = [a, b, c] := match ys, hl with | [a, b, c], _ => ⟨a, b, c, rfl⟩
      refine iteF (sd_next ?_)
      refine sd_ret (ed_and (ed_callP (ea_cons (ed_ix (ed_var rfl (ed_int ⟨_, _, a, rfl, rfl, rfl, ea_nil ⟨_, rfl, _, rfl, _, rfl, ?_⟩⟩))))))
      cases h1 : stepB a
      · have e : goodB (.tuple [a, b, c]) = false := by simp [goodB, h1]
        rw [e] at hP
        exact iteF hP
      · refine iteT (ed_and (ed_callP (ea_cons (ed_ix (ed_var rfl (ed_int ⟨_, _, b, rfl, rfl, rfl, ea_nil ⟨_, rfl, _, rfl, _, rfl, ?_⟩⟩))))))
        cases h2 : stepB b
        · have e : goodB (.tuple [a, b, c]) = false := by simp [goodB, h2]
          rw [e] at hP
          exact iteF hP
        · refine iteT (ed_callP (ea_cons (ed_ix (ed_var rfl (ed_int ⟨_, _, c, rfl, rfl, rfl, ea_nil ⟨_, rfl, _, rfl, ?_⟩⟩)))))
          have e : goodB (.tuple [a, b, c]) = worthB c := by simp [goodB, h1, h2]
          rw [e] at hP
          exact hP
    · have e : goodB (.tuple ys) = false := by
        match ys, hl with
        | [], _ => rfl
        | [_], _ => rfl
        | [_, _], _ => rfl
        | [_, _, _], h => exact absurd rfl h
        | _ :: _ :: _ :: _ :: _, _ => rfl
      rw [e] at hP
      have d : decide (ys.length = 3) = false := by simp [hl]
      rw [d]
      exact iteT (sd_ret (ed_bl hP))
end K8


set_option Elab.async false
set_option linter.all false
set_option maxRecDepth 100000
set_option maxHeartbeats 1000000
namespace K8
open PySem PySem.Spec PyProof.Rows L2 GxR GA DX So
variable {K : PySem.W.Frag} {cs : List Addr} {Pt : Str → Addr}
theorem dt_yes {G : Gx} {δ : DEnv} {Q : Bool → DEnv → Prop} (q : Q true δ) : DT G tYes δ Q := fun F σ H R I k => k true δ H q I
theorem sd_is_list_of_goods (hc : Pt "is_list_of_goods" ∈ cs) (xs : List PyData) (P : PyData → Prop) (h : C_is_list_of_goods xs P) : xs.length ≤ 2 ∧ SD ⟨K, cs, []⟩ (t_is_list_of_goods K cs Pt) (envP ["thing", "good"] xs) (QP P) := by
  obtain ⟨x, rfl, hn, hP⟩ := h
  refine ⟨by simp, sd_seq (sd_if (dt_or (dt_not (dt_ofB (ed_isi (by decide) (ed_var rfl ⟨_, rfl, ?_⟩))))))⟩
  cases h : isD "list" x
  · have e : goodsB x = false := by cases x <;> first | rfl | (simp [isD, tyD] at h)
    rw [e] at hP
    exact iteT (iteT (sd_ret (ed_bl hP)))
  · obtain ⟨ys, rfl⟩ := lst_of hn h
    refine iteF (dt_not (dt_of (ed_chain (ed_int (ed_len (ea_cons (ed_var rfl (ea_nil ⟨_, rfl, _, ys.length, rfl, rfl, _, _, rfl, rfl, ?_⟩))))))))
    by_cases h1 : (1 : Int) ≤ ys.length
    · rw [decide_eq_true h1]
      refine iteT (ed_int ⟨_, rfl, _, rfl, ?_⟩)
      by_cases h2 : (ys.length : Int) ≤ 4
      · rw [decide_eq_true h2]
        refine iteF (sd_next ?_)
        refine sd_ret (ed_allP hc (by simp) goodB (ed_var rfl ⟨ys, rfl, fun y hy Q' k => ed_callP (ea_cons (ed_var rfl (ea_nil ⟨_, rfl, _, rfl, k _ rfl⟩))), ?_⟩))
        have e : goodsB (.list ys) = ys.all goodB := by simp [goodsB]; omega
        rw [e] at hP
        exact hP
      · rw [decide_eq_false h2]
        have e : goodsB (.list ys) = false := by simp [goodsB]; omega
        rw [e] at hP
        exact iteT (sd_ret (ed_bl hP))
    · rw [decide_eq_false h1]
      have e : goodsB (.list ys) = false := by simp [goodsB]; omega
      rw [e] at hP
      exact iteF ⟨_, rfl, iteT (sd_ret (ed_bl hP))⟩
theorem sd_is_buyer (hc : Pt "is_buyer" ∈ cs) (xs : List PyData) (P : PyData → Prop) (h : C_is_buyer xs P) : xs.length ≤ 3 ∧ SD ⟨K, cs, []⟩ (t_is_buyer K cs Pt) (envP ["thing", "many", "worth"] xs) (QP P) := by
  obtain ⟨x, n, rfl, hn, hP⟩ := h
  refine ⟨by simp, sd_seq (sd_if (dt_or (dt_not (dt_ofB (ed_isi (by decide) (ed_var rfl ⟨_, rfl, ?_⟩))))))⟩
  cases h : isD "list" x
  · have e : buyerB n x = false := by cases x <;> first | rfl | (simp [isD, tyD] at h)
    rw [e] at hP
    exact iteT (iteT (sd_ret (ed_bl hP)))
  · obtain ⟨ys, rfl⟩ := lst_of hn h
    refine iteF (dt_of (ed_neS (ed_len (ea_cons (ed_var rfl (ea_nil ⟨_, rfl, _, ys.length, rfl, rfl, ed_var rfl ⟨_, rfl, _, rfl, ?_⟩⟩))))))
    by_cases h1 : (ys.length : Int) = n
    · have e0 : ((ys.length : Int) == n) = true := by simp [h1]
      rw [e0]
      refine iteF (sd_next ?_)
      refine sd_ret (ed_allP hc (by simp) (fun x => isNon x || worthB x) (ed_var rfl ⟨ys, rfl, fun y hy Q' k => ed_or (ed_isN (ed_var rfl ⟨_, rfl, ?_⟩)), ?_⟩))
      · have k := k
        cases hy : isNon y
        · refine iteF (ed_callP (ea_cons (ed_var rfl (ea_nil ⟨_, rfl, _, rfl, ?_⟩))))
          have k := k (envP ["thing", "many", "worth"] [.list ys, .int n] |>.set 2 (some (.d y))) rfl
          simp only [hy, Bool.false_or] at k
          exact k
        · refine iteT ?_
          have k := k (envP ["thing", "many", "worth"] [.list ys, .int n] |>.set 2 (some (.d y))) rfl
          simp only [hy, Bool.true_or] at k
          exact k
      · have e : buyerB n (.list ys) = ys.all fun x => isNon x || worthB x := by simp [buyerB, h1]
        rw [e] at hP
        exact hP
    · have e0 : ((ys.length : Int) == n) = false := by simp [h1]
      rw [e0]
      have e : buyerB n (.list ys) = false := by simp [buyerB, h1]
      rw [e] at hP
      exact iteT (sd_ret (ed_bl hP))
theorem noD_mem : ∀ {ys : List PyData}, noDctL ys = true → ∀ y ∈ ys, noDct y = true
  | [], _, y, hy => by cases hy
  | x :: xs, h, y, hy => by
    have h' : (noDct x && noDctL xs) = true := h
    rw [Bool.and_eq_true] at h'
    rcases List.mem_cons.mp hy with rfl | hy
    · exact h'.1
    · exact noD_mem h'.2 y hy
theorem sd_is_round (hc : Pt "is_round" ∈ cs) (xs : List PyData) (P : PyData → Prop) (h : C_is_round xs P) : xs.length ≤ 3 ∧ SD ⟨K, cs, []⟩ (t_is_round K cs Pt) (envP ["thing", "many", "buyer"] xs) (QP P) := by
  obtain ⟨x, n, rfl, hn, hP⟩ := h
  refine ⟨by simp, sd_seq (sd_if (dt_or (dt_not (dt_ofB (ed_isi (by decide) (ed_var rfl ⟨_, rfl, ?_⟩))))))⟩
  cases h : isD "list" x
  · have e : roundB n x = false := by cases x <;> first | rfl | (simp [isD, tyD] at h)
    rw [e] at hP
    exact iteT (iteT (sd_ret (ed_bl hP)))
  · obtain ⟨ys, rfl⟩ := lst_of hn h
    refine iteF (dt_not (dt_of (ed_chain (ed_int (ed_len (ea_cons (ed_var rfl (ea_nil ⟨_, rfl, _, ys.length, rfl, rfl, _, _, rfl, rfl, ?_⟩))))))))
    by_cases h1 : (1 : Int) ≤ ys.length
    · rw [decide_eq_true h1]
      refine iteT (ed_int ⟨_, rfl, _, rfl, ?_⟩)
      by_cases h2 : (ys.length : Int) ≤ 6
      · rw [decide_eq_true h2]
        refine iteF (sd_next ?_)
        refine sd_ret (ed_allP hc (by simp) (fun x => isNon x || buyerB n x) (ed_var rfl ⟨ys, rfl, fun y hy Q' k => ed_or (ed_isN (ed_var rfl ⟨_, rfl, ?_⟩)), ?_⟩))
        · have k := k (envP ["thing", "many", "buyer"] [.list ys, .int n] |>.set 2 (some (.d y))) rfl
          cases hyn : isNon y
          · refine iteF (ed_callP (ea_cons (ed_var rfl (ea_cons (ed_var rfl (ea_nil ⟨_, rfl, _, _, rfl, noD_mem hn y hy, ?_⟩))))))
            simp only [hyn, Bool.false_or] at k
            exact k
          · refine iteT ?_
            simp only [hyn, Bool.true_or] at k
            exact k
        · have e : roundB n (.list ys) = ys.all fun x => isNon x || buyerB n x := by simp [roundB]; omega
          rw [e] at hP
          exact hP
      · rw [decide_eq_false h2]
        have e : roundB n (.list ys) = false := by simp [roundB]; omega
        rw [e] at hP
        exact iteT (sd_ret (ed_bl hP))
    · rw [decide_eq_false h1]
      have e : roundB n (.list ys) = false := by simp [roundB]; omega
      rw [e] at hP
      exact iteF ⟨_, rfl, iteT (sd_ret (ed_bl hP))⟩
theorem sd_is_market (xs : List PyData) (P : PyData → Prop) (h : C_is_market xs P) : xs.length ≤ 1 ∧ SD ⟨K, cs, []⟩ (t_is_market K cs Pt) (envP ["thing"] xs) (QP P) := by
  obtain ⟨x, rfl, hn, hP⟩ := h
  refine ⟨by simp, sd_seq (sd_if (dt_or (dt_not (dt_ofB (ed_isi (by decide) (ed_var rfl ⟨_, rfl, ?_⟩))))))⟩
  cases h : isD "tuple" x
  · have e : marketB x = false := by cases x <;> first | rfl | (simp [isD, tyD] at h)
    rw [e] at hP
    exact iteT (iteT (sd_ret (ed_bl hP)))
  · obtain ⟨ys, rfl⟩ := tup_of h
    refine iteF (dt_of (ed_neS (ed_len (ea_cons (ed_var rfl (ea_nil ⟨_, rfl, _, ys.length, rfl, rfl, ed_int ⟨_, rfl, _, rfl, ?_⟩⟩))))))
    have l : ((ys.length : Int) == 2) = decide (ys.length = 2) := by
      rw [Bool.eq_iff_iff]; simp; omega
    rw [l]
    by_cases hl : ys.length = 2
    · obtain ⟨a, b, rfl⟩ : ∃ a b, ys = [a, b] := match ys, hl with | [a, b], _ => ⟨a, b, rfl⟩
      have na := noD_mem (ys := [a, b]) hn a (by simp)
      have nb := noD_mem (ys := [a, b]) hn b (by simp)
      refine iteF (sd_next ?_)
      refine sd_ret (ed_and (ed_callP (ea_cons (ed_ix (ed_var rfl (ed_int ⟨_, _, a, rfl, rfl, rfl, ea_nil ⟨_, rfl, _, rfl, na, _, rfl, ?_⟩⟩))))))
      cases h1 : goodsB a
      · have e : marketB (.tuple [a, b]) = false := by simp [marketB, h1]
        rw [e] at hP
        exact iteF hP
      · obtain ⟨us, rfl⟩ : ∃ us, a = .list us := by
          cases a <;> first | exact ⟨_, rfl⟩ | (cases h1)
        refine iteT (ed_callP (ea_cons (ed_ix (ed_var rfl (ed_int ⟨_, _, b, rfl, rfl, rfl, ea_cons (ed_len (ea_cons (ed_ix (ed_var rfl (ed_int ⟨_, _, .list us, rfl, rfl, rfl, ea_nil ⟨_, rfl, _, us.length, rfl, rfl, ea_nil ⟨_, rfl, _, _, rfl, nb, ?_⟩⟩⟩)))))⟩)))))
        have e : marketB (.tuple [.list us, b]) = roundB us.length b := by simp [marketB, h1]
        rw [e] at hP
        exact hP
    · have e : marketB (.tuple ys) = false := by
        match ys, hl with
        | [], _ => rfl
        | [_], _ => rfl
        | [_, _], h => exact absurd rfl h
        | _ :: _ :: _ :: _, _ => rfl
      rw [e] at hP
      have d : decide (ys.length = 2) = false := by simp [hl]
      rw [d]
      exact iteT (sd_ret (ed_bl hP))
theorem sd_check_market (xs : List PyData) (P : PyData → Prop) (h : C_check_market xs P) : xs.length ≤ 1 ∧ SD ⟨K, cs, []⟩ (t_check_market K cs Pt) (envP ["market"] xs) (QP P) := by
  obtain ⟨x, rfl, hn, hm, hP⟩ := h
  refine ⟨by simp, sd_if (dt_not (dt_ofB (ed_callP (ea_cons (ed_var rfl (ea_nil ⟨_, rfl, _, rfl, hn, _, rfl, ?_⟩))))))⟩
  rw [hm]
  exact iteF (sd_next hP)
theorem sd_check_days (xs : List PyData) (P : PyData → Prop) (h : C_check_days xs P) : xs.length ≤ 1 ∧ SD ⟨K, cs, []⟩ (t_check_days K cs Pt) (envP ["days"] xs) (QP P) := by
  obtain ⟨d, rfl, h0, h1, hP⟩ := h
  refine ⟨by simp, sd_if (dt_not (dt_ofB (ed_callP (ea_cons (ed_var rfl (ea_cons (ed_int (ea_cons (ed_int (ea_nil ⟨_, rfl, _, _, _, rfl, _, rfl, ?_⟩))))))))))⟩
  have e : withinB (.int d) 0 4000 = true := by simp [withinB, h0, h1]
  rw [e]
  exact iteF (sd_next hP)
end K8


set_option Elab.async false
set_option linter.all false
set_option maxRecDepth 100000
set_option maxHeartbeats 1000000
namespace K8
open PySem PySem.Spec PyProof.Rows L2 GxR GA DX So
variable {K : PySem.W.Frag} {cs : List Addr} {Pt : Str → Addr}
theorem sz {n : Nat} (h : n ≤ 10000) : n ≤ sizeLine := Nat.le_trans h (by decide)
theorem noD_ints : ∀ ns : List Int, noDctL (ns.map PyData.int) = true
  | [] => rfl
  | n :: ns => by simp [noDctL, noDct, noD_ints ns]
theorem noD_os : ∀ ns : List (Option Int), noDctL (ns.map oD) = true
  | [] => rfl
  | none :: ns => by simp [noDctL, noDct, oD, noD_os ns]
  | some i :: ns => by simp [noDctL, noDct, oD, noD_os ns]
theorem noD_goods : ∀ gs : List Good, noDctL (gs.map goodD) = true
  | [] => rfl
  | n :: ns => by simp [noDctL, noDct, goodD, noD_goods ns]
theorem noD_rounds : ∀ bs : List Buyer, noDctL (bs.map buyD) = true
  | [] => rfl
  | none :: ns => by simp [noDctL, noDct, buyD, noD_rounds ns]
  | some ws :: ns => by simp [noDctL, noDct, buyD, noD_rounds ns, noD_os]
theorem noD_mart (m : Mart) : noDct (martD m) = true := by
  simp [martD, noDct, noDctL, goodsD, roundsD, noD_goods, noD_rounds]
theorem worth_o {w : Option Int} (h : VW w) : (DX.isNon (oD w) || worthB (oD w)) = true := by
  cases w with
  | none => rfl
  | some i =>
    have := h i rfl
    simp [oD, DX.isNon, worthB, withinB]
    omega
theorem buyer_ok {n : Nat} {b : Buyer} (h : VBuyer n b) : (DX.isNon (buyD b) || buyerB n (buyD b)) = true := by
  cases b with
  | none => rfl
  | some ws =>
    obtain ⟨h1, h2⟩ := h ws rfl
    have e : (ws.map oD).all (fun x => DX.isNon x || worthB x) = true := by
      rw [List.all_eq_true]
      intro x hx
      obtain ⟨w, hw, rfl⟩ := List.mem_map.mp hx
      exact worth_o (h2 w hw)
    show (isNon (.list (ws.map oD)) || (decide (((ws.map oD).length : Int) = n) && (ws.map oD).all fun x => DX.isNon x || worthB x)) = true
    rw [e]
    simp [h1]
theorem good_ok {g : Good} (h : VGood g) : goodB (goodD g) = true := by
  obtain ⟨⟨a, b⟩, ⟨c, d⟩, e, f⟩ := h
  simp [goodD, goodB, stepB, worthB, withinB]
  omega
theorem market_ok {m : Mart} (V : Valid m) : marketB (martD m) = true := by
  have e1 : (m.goods.map goodD).all goodB = true := by
    rw [List.all_eq_true]
    intro x hx
    obtain ⟨g, hg, rfl⟩ := List.mem_map.mp hx
    exact good_ok (V.gs g hg)
  have e2 : (m.rounds.map buyD).all (fun x => DX.isNon x || buyerB (m.goods.map goodD).length x) = true := by
    rw [List.all_eq_true]
    intro x hx
    obtain ⟨g, hg, rfl⟩ := List.mem_map.mp hx
    rw [List.length_map]
    exact buyer_ok (V.rs g hg)
  show ((decide (1 ≤ (m.goods.map goodD).length) && decide ((m.goods.map goodD).length ≤ 4) && (m.goods.map goodD).all goodB) && (decide (1 ≤ (m.rounds.map buyD).length) && decide ((m.rounds.map buyD).length ≤ 6) && (m.rounds.map buyD).all fun x => DX.isNon x || buyerB (m.goods.map goodD).length x)) = true
  rw [e1, e2]
  have := V.g1; have := V.g4; have := V.r1; have := V.r6
  simp
  omega
theorem atI_nat {α : Type} {xs : List α} {k : Nat} {x : α} (h : xs[k]? = some x) : atI xs (k : Int) = some x := by
  have hl := (List.getElem?_eq_some_iff.mp h).1
  unfold atI ixN
  rw [if_pos (by omega), if_pos (by omega)]
  exact h
theorem at_ints {ns : List Int} {k : Nat} (h : k < ns.length) : atI (ns.map PyData.int) (k : Int) = some (.int (ns.getD k 0)) := atI_nat (by
  rw [List.getElem?_map, List.getElem?_eq_getElem h, gD_lt _ _ h]
  rfl)
theorem take_snoc {α β : Type} (f : α → β) {l : List α} {k : Nat} {x : α} (h : l[k]? = some x) : (l.take (k + 1)).map f = (l.take k).map f ++ [f x] := by
  rw [List.take_succ, h]
  simp
theorem sd_starts_of (xs : List PyData) (P : PyData → Prop) (h : C_starts_of xs P) : xs.length ≤ 3 ∧ SD ⟨K, cs, []⟩ (t_starts_of K cs Pt) (envP ["market", "_", "start"] xs) (QP P) := by
  obtain ⟨m, rfl, V, hP⟩ := h
  have := V.g4
  refine ⟨by simp, sd_retF (ef_lcL (by simp) (ed_ix (ed_var rfl (ed_int ⟨_, _, _, rfl, rfl, rfl, m.goods.map goodD, rfl, sz (by simp; omega),
    fun k acc δ => δ = [some (.d (martD m)), none, none] ∧ acc = (m.goods.take k).map fun g => PyData.int g.2.2, ⟨rfl, rfl⟩, ?_, ?_⟩))))⟩
  · rintro k acc δ2 y hy ⟨e1, e2⟩ hl
    rw [List.getElem?_map] at hy
    obtain ⟨g, hg, rfl⟩ := Option.map_eq_some_iff.mp hy
    rw [e1]
    refine dg_tup rfl (dg_cons (dg_name (by simp) (by simp) (dg_cons (dg_name (by simp) (by simp) (dg_cons (dg_name (by simp) (by simp) (dg_nil ?_)))))))
    refine dt_yes (iteT (ed_var rfl ⟨rfl, ?_⟩))
    rw [e2, take_snoc _ hg]
  · rintro acc δ2 ⟨e1, e2⟩ hl
    have e : acc = m.starts.map PyData.int := by
      rw [e2]
      simp [Mart.starts]
    show P (.list acc)
    rw [e]
    exact hP
theorem sd_buyer_at (xs : List PyData) (P : PyData → Prop) (h : C_buyer_at xs P) : xs.length ≤ 2 ∧ SD ⟨K, cs, []⟩ (t_buyer_at K cs Pt) (envP ["market", "day"] xs) (QP P) := by
  obtain ⟨m, d, rfl, V, hP⟩ := h
  have h1 : d % m.rounds.length < m.rounds.length := Nat.mod_lt _ V.r1
  have h2 : (m.rounds.map buyD)[d % m.rounds.length]? = some (buyD (m.bs d)) := by
    rw [List.getElem?_map, List.getElem?_eq_getElem h1]
    unfold Mart.bs
    rw [gD_lt _ _ h1]
    rfl
  have e : (d : Int) % ((m.rounds.map buyD).length : Nat) = ((d % m.rounds.length : Nat) : Int) := by
    rw [List.length_map]; omega
  refine ⟨by simp, sd_ret (ed_ix (ed_ix (ed_var rfl (ed_int ⟨_, _, _, rfl, rfl, rfl, ed_ic (ed_var rfl (ed_len (ea_cons (ed_ix (ed_var rfl (ed_int ⟨_, _, _, rfl, rfl, rfl, ea_nil ⟨_, rfl, _, (m.rounds.map buyD).length, rfl, rfl, _, _, rfl, rfl, ?_, m.rounds.map buyD, _, buyD (m.bs d), rfl, rfl, ?_, hP⟩⟩))))))⟩))))⟩
  · have := V.r1; rw [List.length_map]; omega
  · rw [e]
    exact atI_nat h2
theorem sd_taken_by (xs : List PyData) (P : PyData → Prop) (h : C_taken_by xs P) : xs.length ≤ 6 ∧ SD ⟨K, cs, []⟩ (t_taken_by K cs Pt) (envP ["buyer", "prices", "take", "most", "good", "worth"] xs) (QP P) := by
  obtain ⟨b, ps, rfl, hl, hP⟩ := h
  refine ⟨by simp, sd_seq (sd_if (dt_of (ed_isN (ed_var rfl ⟨_, rfl, ?_⟩))))⟩
  cases b with
  | none => exact iteT (sd_ret (ed_non hP))
  | some ws =>
    have hl := hl ws rfl
    refine iteF (sd_next (sd_seq (sd_set (by simp) (ed_non ?_))))
    refine sd_seq (sd_set (by simp) (ed_neg (ed_int ⟨_, rfl, ?_⟩)))
    refine sd_seq (sd_forE (vs := [4, 5]) (ea_cons (ed_var rfl (ea_nil ⟨ws.map oD, rfl,
      fun k δ => ∃ a c, δ = [some (.d (buyD (some ws))), some (.d (intsD ps)), some (.d (oD (tkn ws ps k).1)), some (.d (.int (tkn ws ps k).2)), a, c], ⟨none, none, rfl⟩, ?_, ?_⟩))))
    · rintro k δ2 y hy ⟨a, c, rfl⟩
      rw [List.getElem?_map] at hy
      obtain ⟨w, hw, rfl⟩ := Option.map_eq_some_iff.mp hy
      have hk : k < ws.length := (List.getElem?_eq_some_iff.mp hw).1
      have ew : ws.getD k none = w := by rw [List.getD_eq_getElem?_getD, hw]; rfl
      refine dg_tup rfl (dg_cons (dg_name (vs := [4, 5]) (by simp) (by simp) (dg_cons (dg_name (by simp) (by simp) (dg_nil ?_)))))
      refine sd_if (dt_and (dt_of (ed_notN (ed_var rfl ⟨_, rfl, ?_⟩))))
      cases w with
      | none =>
        refine iteF (iteF (sd_next ⟨some (.d (.int (k : Nat))), some (.d (oD none)), ?_⟩))
        rw [tkn.eq_2, ew]
        rfl
      | some w =>
        refine iteT (dt_of (ed_b0 (ed_i0 (ed_var rfl (ed_ix (ed_var rfl (ed_var rfl ⟨_, _, .int (ps.getD k 0), rfl, rfl, at_ints (by omega), _, _, rfl, rfl, ed_var rfl ⟨_, _, rfl, rfl, _, rfl, ?_⟩⟩)))))))
        by_cases hc : (tkn ws ps k).2 < w - ps.getD k 0
        · rw [decide_eq_true hc]
          refine iteT (sd_seq (sd_set (by simp) (ed_var rfl (sd_set (by simp) (ed_i0 (ed_var rfl (ed_ix (ed_var rfl (ed_var rfl ⟨_, _, .int (ps.getD k 0), rfl, rfl, at_ints (by omega), _, _, rfl, rfl, some (.d (.int (k : Nat))), some (.d (oD (some w))), ?_⟩)))))))))
          rw [tkn.eq_2, ew]
          simp only []
          rw [if_pos hc]
          rfl
        · rw [decide_eq_false hc]
          refine iteF (sd_next ⟨some (.d (.int (k : Nat))), some (.d (oD (some w))), ?_⟩)
          rw [tkn.eq_2, ew]
          simp only []
          rw [if_neg hc]
          rfl
    · rintro δ2 ⟨a, c, rfl⟩
      refine sd_ret (ed_var rfl ?_)
      rw [List.length_map]
      exact hP
theorem sd_moved (xs : List PyData) (P : PyData → Prop) (h : C_moved xs P) : xs.length ≤ 8 ∧ SD ⟨K, cs, []⟩ (t_moved K cs Pt) (envP ["goods", "prices", "take", "behind", "good", "up", "down", "_"] xs) (QP P) := by
  obtain ⟨gs, ps, t, rfl, hl, h4, hP⟩ := h
  refine ⟨by simp, sd_seq (sd_setM (by simp) (by show 3 < 8; decide) (ef_lst (ea_nil ⟨_, rfl, by decide, ?_⟩)))⟩
  refine sd_seq (sd_forE (vs := [4, 5, 6, 7]) (ea_cons (ed_var rfl (ea_nil ⟨gs.map goodD, rfl,
      fun k δ => ∃ a b c e, δ = [some (.d (goodsD gs)), some (.d (intsD ps)), some (.d (oD t)), some (.m ((List.range k).map fun j => PyData.int (mvd gs ps t j))), a, b, c, e], ⟨none, none, none, none, rfl⟩, ?_, ?_⟩))))
  · rintro k δ2 y hy ⟨a, b, c, e, rfl⟩
    rw [List.getElem?_map] at hy
    obtain ⟨g, hg, rfl⟩ := Option.map_eq_some_iff.mp hy
    have hk : k < gs.length := (List.getElem?_eq_some_iff.mp hg).1
    have eg : gs.getD k g0 = g := by rw [List.getD_eq_getElem?_getD, hg]; rfl
    refine dg_tup rfl (dg_cons (dg_name (vs := [4, 5, 6, 7]) (by simp) (by simp) (dg_cons (dg_tup rfl (dg_cons ?_)))))
    refine dg_name (by simp) (by simp) (dg_cons (dg_name (by simp) (by simp) (dg_cons (dg_name (by simp) (by simp) (dg_nil (dg_nil ?_))))))
    have fin : ∀ z, z = mvd gs ps t k → (List.range k).map (fun j => PyData.int (mvd gs ps t j)) ++ [PyData.int z] = (List.range (k + 1)).map fun j => PyData.int (mvd gs ps t j) := fun z e => by
      rw [e, List.range_succ, List.map_append]
      rfl
    refine sd_append rfl (ed_if (dt_of (ed_eqS (ed_var rfl (ed_var rfl ⟨decide (t = some (k : Int)), ?_, _, rfl, ?_⟩)))))
    · cases t with
      | none => rfl
      | some i =>
        show some ((k : Int) == i) = _
        congr 1
        rw [Bool.eq_iff_iff]
        simp
        exact eq_comm
    · by_cases ht : t = some (k : Int)
      · rw [decide_eq_true ht]
        refine iteT (ed_i0 (ed_ix (ed_var rfl (ed_var rfl ⟨_, _, .int (ps.getD k 0), rfl, rfl, at_ints (by omega), ed_var rfl ⟨_, _, rfl, rfl, _, rfl, ?_, some (.d (.int (k : Nat))), some (.d (.int g.1)), some (.d (.int g.2.1)), some (.d (.int g.2.2)), ?_⟩⟩))))
        · simp; exact Nat.lt_of_le_of_lt (show k ≤ 4 by omega) (by decide)
        · rw [fin _ (by unfold mvd; rw [if_pos ht, eg])]
          rfl
      · rw [decide_eq_false ht]
        refine iteF (ed_i0 (ed_ix (ed_var rfl (ed_var rfl ⟨_, _, .int (ps.getD k 0), rfl, rfl, at_ints (by omega), ed_var rfl ⟨_, _, rfl, rfl, _, rfl, ?_, some (.d (.int (k : Nat))), some (.d (.int g.1)), some (.d (.int g.2.1)), some (.d (.int g.2.2)), ?_⟩⟩))))
        · simp; exact Nat.lt_of_le_of_lt (show k ≤ 4 by omega) (by decide)
        · rw [fin _ (by unfold mvd; rw [if_neg ht, eg])]
          rfl
  · rintro δ2 ⟨a, b, c, e, rfl⟩
    refine sd_retM ⟨_, rfl, ?_⟩ ⟨_, rfl⟩
    have e : (List.range (gs.map goodD).length).map (fun j => PyData.int (mvd gs ps t j)) = (moved gs ps t).map PyData.int := by simp [moved]
    rw [e]
    exact hP
end K8


set_option Elab.async false
set_option linter.all false
set_option maxRecDepth 100000
set_option maxHeartbeats 1000000
namespace K8
open PySem PySem.Spec PyProof.Rows L2 GxR GA DX So
variable {K : PySem.W.Frag} {cs : List Addr} {Pt : Str → Addr}
theorem start_len (m : Mart) : m.starts.length = m.goods.length := by simp [Mart.starts]
theorem run_l1 (m : Mart) (d : Nat) : (m.run d).1.length = d := run_len _ _ _ d
theorem run_l2 (m : Mart) (d : Nat) : (m.run d).2.length = m.goods.length := run_len2 _ _ _ (start_len m) d
theorem run_succ (m : Mart) (d : Nat) : m.run (d + 1) = ((m.run d).1 ++ [taken (m.bs d) (m.run d).2], moved m.goods (m.run d).2 (taken (m.bs d) (m.run d).2)) := rfl
theorem sd_run_of (xs : List PyData) (P : PyData → Prop) (h : C_run_of xs P) : xs.length ≤ 6 ∧ SD ⟨K, cs, []⟩ (t_run_of K cs Pt) (envP ["market", "days", "prices", "told", "day", "take"] xs) (QP P) := by
  obtain ⟨m, n, rfl, V, hn, hP⟩ := h
  have h4 := V.g4
  refine ⟨by simp, sd_seq (sd_drop (ed_callP (ea_cons (ed_var rfl (ea_nil ⟨_, rfl, _, rfl, noD_mart m, market_ok V, ?_⟩)))))⟩
  refine sd_seq (sd_drop (ed_callP (ea_cons (ed_var rfl (ea_nil ⟨_, rfl, _, rfl, by omega, by omega, ?_⟩)))))
  refine sd_seq (sd_set (by simp) (ed_callP (ea_cons (ed_var rfl (ea_nil ⟨_, rfl, _, rfl, V, ?_⟩)))))
  refine sd_seq (sd_setM (by simp) (by show 3 < 6; decide) (ef_lst (ea_nil ⟨_, rfl, by decide, ?_⟩)))
  refine sd_seq (sd_forR (by simp) (ea_cons (ed_var rfl (ea_nil ⟨_, rfl, by omega, by omega, fun k δ => ∃ a b, δ = [some (.d (martD m)), some (.d (.int (n : Nat))), some (.d (intsD (m.run k).2)), some (.m ((m.run k).1.map oD)), a, b], ⟨none, none, rfl⟩, ?_, ?_⟩))))
  · rintro k δ2 hk ⟨a, b, rfl⟩
    have hk' : k < n := by simpa using hk
    refine sd_seq (sd_set (by simp) (ed_callP (ea_cons (ed_callP (ea_cons (ed_var rfl (ea_cons (ed_var rfl (ea_nil ⟨_, rfl, _, _, rfl, V, ?_⟩)))))))))
    refine ea_cons (ed_var rfl (ea_nil ⟨_, rfl, m.bs k, (m.run k).2, rfl, fun ws e => ?_, ?_⟩))
    · rw [run_l2]
      exact (V.rs _ (bs_mem V.r1 k) ws e).1
    · refine sd_seq (sd_append rfl (ed_var rfl ⟨_, rfl, ?_, ?_⟩))
      · rw [List.length_map, run_l1]
        exact Nat.lt_of_lt_of_le (show k < 10000 by omega) (by decide)
      · refine sd_set (by simp) (ed_callP (ea_cons (ed_ix (ed_var rfl (ed_int ⟨_, _, _, rfl, rfl, rfl, ea_cons (ed_var rfl (ea_cons (ed_var rfl (ea_nil ⟨_, rfl, m.goods, (m.run k).2, taken (m.bs k) (m.run k).2, rfl, (run_l2 m k).symm, h4, some (.d (.int (k : Nat))), some (.d (oD (taken (m.bs k) (m.run k).2))), ?_⟩))))⟩)))))
        rw [run_succ]
        simp only [List.map_append]
        rfl
  · rintro δ2 ⟨a, b, rfl⟩
    have e : ((n : Int)).toNat = n := by omega
    rw [e]
    refine sd_freeze (i := 3) rfl (by simp) (sd_ret (ed_tup (ea_cons (ed_var rfl (ea_cons (ed_var rfl (ea_nil ⟨_, rfl, ?_, hP⟩)))))))
    show 2 ≤ sizeLine
    decide
theorem sd_takes (xs : List PyData) (P : PyData → Prop) (h : C_takes xs P) : xs.length ≤ 4 ∧ SD ⟨K, cs, []⟩ (t_takes K cs Pt) (envP ["market", "days", "told", "_"] xs) (QP P) := by
  obtain ⟨m, n, rfl, V, hn, hP⟩ := h
  refine ⟨by simp, sd_seq (sd_asgT (vs := [2, 3]) (ed_callP (ea_cons (ed_var rfl (ea_cons (ed_var rfl (ea_nil ⟨_, rfl, _, _, rfl, V, hn, ?_⟩)))))))⟩
  exact dg_tup rfl (dg_cons (dg_name (by simp) (by simp) (dg_cons (dg_name (by simp) (by simp) (dg_nil (sd_ret (ed_var rfl hP)))))))
theorem sd_prices_at (xs : List PyData) (P : PyData → Prop) (h : C_prices_at xs P) : xs.length ≤ 4 ∧ SD ⟨K, cs, []⟩ (t_prices_at K cs Pt) (envP ["market", "days", "_", "prices"] xs) (QP P) := by
  obtain ⟨m, n, rfl, V, hn, hP⟩ := h
  refine ⟨by simp, sd_seq (sd_asgT (vs := [2, 3]) (ed_callP (ea_cons (ed_var rfl (ea_cons (ed_var rfl (ea_nil ⟨_, rfl, _, _, rfl, V, hn, ?_⟩)))))))⟩
  exact dg_tup rfl (dg_cons (dg_name (by simp) (by simp) (dg_cons (dg_name (by simp) (by simp) (dg_nil (sd_ret (ed_var rfl hP)))))))
theorem sd_sold (xs : List PyData) (P : PyData → Prop) (h : C_sold xs P) : xs.length ≤ 5 ∧ SD ⟨K, cs, []⟩ (t_sold K cs Pt) (envP ["market", "days", "told", "_", "good"] xs) (QP P) := by
  obtain ⟨m, n, rfl, V, hn, hP⟩ := h
  have h4 := V.g4
  refine ⟨by simp, sd_seq (sd_asgT (vs := [2, 3]) (ed_callP (ea_cons (ed_var rfl (ea_cons (ed_var rfl (ea_nil ⟨_, rfl, _, _, rfl, V, hn, ?_⟩)))))))⟩
  refine dg_tup rfl (dg_cons (dg_name (by simp) (by simp) (dg_cons (dg_name (by simp) (by simp) (dg_nil ?_)))))
  refine sd_retF (ef_lcR (by simp) (ea_cons (ed_len (ea_cons (ed_ix (ed_var rfl (ed_int ⟨_, _, _, rfl, rfl, rfl, ea_nil ⟨_, rfl, _, m.goods.length, rfl, ?_, ?_⟩⟩)))))))
  · show some (m.goods.map goodD).length = _
    rw [List.length_map]
  refine ea_nil ⟨_, rfl, by omega, by omega, sz (by omega),
    fun k acc δ => δ = [some (.d (martD m)), some (.d (.int (n : Nat))), some (.d (takesD (m.run n).1)), some (.d (intsD (m.run n).2)), none] ∧ acc = (List.range k).map fun (j : Nat) => PyData.int ((m.run n).1.count (some (j : Int)) : Nat), ⟨rfl, rfl⟩, ?_, ?_⟩
  · rintro k acc δ2 hk ⟨e1, e2⟩ hl
    rw [e1]
    refine ed_cnt (ed_var rfl ⟨(m.run n).1, rfl, ea_cons (ed_var rfl (ea_nil ⟨_, rfl, rfl, ?_⟩))⟩)
    rw [e2, List.range_succ, List.map_append]
    rfl
  · rintro acc δ2 ⟨e1, e2⟩ hl
    have e : acc = (m.sold n).map PyData.int := by
      rw [e2]
      simp [Mart.sold]
    show P (.list acc)
    rw [e]
    exact hP
end K8


set_option Elab.async false
set_option linter.all false
set_option maxRecDepth 100000
set_option maxHeartbeats 1000000
namespace K8
open PySem PySem.Spec PyProof.Rows L2 GxR GA DX So
variable {K : PySem.W.Frag} {cs : List Addr} {Pt : Str → Addr}
theorem pow_ok {i j : Int} (a : Nat) (h : i.natAbs < 2 ^ a) (h0 : 0 < a) (hj : 0 ≤ j) (hb : a * j.toNat ≤ 100000) : CPowW i j := by
  have := PySem.Flt.log2_lt_of h0 h
  refine ⟨hj, Nat.le_trans (Nat.mul_le_mul_right _ ?_) hb⟩
  omega
theorem sd_law_till (xs : List PyData) (P : List PyData → Prop) (h : C_law_till xs P) : xs.length ≤ 3 ∧ SD ⟨K, cs, []⟩ (t_law_till K cs Pt) (envP ["script", "k", "cell"] xs) (QFr P) := by
  obtain ⟨ns, k, rfl, hk, hP⟩ := h
  refine ⟨by simp, sd_seq (sd_set (by simp) (ed_if (dt_of (ed_b0 (ed_var rfl (ed_len (ea_cons (ed_var rfl (ea_nil ⟨_, rfl, _, (ns.map PyData.int).length, rfl, rfl, _, _, rfl, rfl, _, rfl, ?_⟩)))))))))⟩
  have key : ∀ cell : Int, SD ⟨K, cs, []⟩ (tRet (tLst (tCons (tCB rMax2 (tCons (tC (.int 0)) (tCons (tOp (rI0 fun i j => .int (i - j)) (tVar 2) (tOp (rI CPowW fun i j => .int (i ^ j.toNat)) (tC (.int 10)) (tC (.int 18)))) tNil))) (tCons (tOp (rI0 fun i j => .int (i + j)) (tOp (rI (fun _ j => 0 < j) fun i j => .int (i % j)) (tVar 2) (tOp (rI0 fun i j => .int (i + j)) (tOp (rI CPowW fun i j => .int (i ^ j.toNat)) (tC (.int 10)) (tC (.int 43))) (tC (.int 57)))) (tOp (rI CMulW fun i j => .int (i * j)) (tOp (rI CPowW fun i j => .int (i ^ j.toNat)) (tC (.int 10)) (tC (.int 12))) (tOp (rI0 fun i j => .int (i + j)) (tVar 1) (tC (.int 1))))) (tCons (tC (.int 0)) tNil)))))
      [some (.d (scrD ns)), some (.d (.int (k : Nat))), some (.d (.int cell))] (QFr P) := fun cell => by
    refine sd_retF (ef_lst (ea_cons (ed_max2 (ea_cons (ed_int (ea_cons (ed_i0 (ed_var rfl (ed_ic (ed_int (ed_int ⟨_, _, rfl, rfl, pow_ok 4 (by decide) (by decide) (by decide) (by decide), _, _, rfl, rfl, ?_⟩)))))))))))
    refine ea_nil ⟨_, rfl, _, _, rfl, ?_⟩
    refine ea_cons (ed_i0 (ed_ic (ed_var rfl (ed_i0 (ed_ic (ed_int (ed_int ⟨_, _, rfl, rfl, pow_ok 4 (by decide) (by decide) (by decide) (by decide), ed_int ⟨_, _, rfl, rfl, _, _, rfl, rfl, by decide, ?_⟩⟩)))))))
    refine ed_ic (ed_ic (ed_int (ed_int ⟨_, _, rfl, rfl, pow_ok 4 (by decide) (by decide) (by decide) (by decide), ed_i0 (ed_var rfl (ed_int ⟨_, _, rfl, rfl, _, _, rfl, rfl, wide_mul (a := 50) (b := 10) (by decide) (by omega) (by decide) (by decide) (by decide), _, _, rfl, rfl, ?_⟩))⟩)))
    refine ea_cons (ed_int (ea_nil ⟨_, rfl, by show 3 ≤ sizeLine; decide, hP _ ⟨_, _, _, rfl, ?_, ?_, ?_, by decide, by decide⟩⟩))
    · split <;> omega
    · have : (0 : Int) ≤ cell % (10 ^ (43 : Int).toNat + 57) := Int.emod_nonneg _ (by decide)
      have e : (10 : Int) ^ (12 : Int).toNat = 1000000000000 := by decide
      rw [e]
      omega
    · have h1 : cell % (10 ^ (43 : Int).toNat + 57) < 10 ^ (43 : Int).toNat + 57 := Int.emod_lt_of_pos _ (by decide)
      have e : (10 : Int) ^ (12 : Int).toNat = 1000000000000 := by decide
      have e2 : (10 : Int) ^ (43 : Int).toNat + 57 = 10000000000000000000000000000000000000000057 := by decide
      rw [e2] at h1 ⊢
      rw [e]
      have e3 : (2 : Int) ^ 160 = 1461501637330902918203684832716283019655932542976 := by decide
      rw [e3]
      omega
  by_cases hlt : (k : Int) < (ns.map PyData.int).length
  · rw [decide_eq_true hlt]
    have hk2 : k < ns.length := by rw [List.length_map] at hlt; omega
    exact iteT (ed_ix (ed_var rfl (ed_var rfl ⟨_, _, .int (ns.getD k 0), rfl, rfl, at_ints hk2, key _⟩)))
  · rw [decide_eq_false hlt]
    exact iteF (ed_int (key _))
theorem sd_law_pull (ts xs : List PyData) (P : PyData → List PyData → Prop) (h : C_law_pull ts xs P) : SD ⟨K, cs, [0]⟩ (t_law_pull K cs Pt) (envT ["till", "many", "found", "stirred"] ts xs) (QT P) := by
  obtain ⟨n, k, ⟨c0, c1, c2, rfl, h0, h1, h1', h2, h2'⟩, hn, rfl, k0, k1, hP⟩ := h
  refine sd_seq (sd_if (dt_of (ed_b0 (ed_ixM rfl (ed_int ⟨rfl, _, _, rfl, rfl, ed_int ⟨_, _, rfl, rfl, _, rfl, ?_⟩⟩)))))
  by_cases hc : 0 < c0
  · rw [decide_eq_true hc]
    refine iteT (sd_seq (sd_set (by simp) (ed_ic (ed_ixM rfl (ed_int ⟨rfl, _, _, rfl, rfl, ed_var rfl ⟨_, _, rfl, rfl, k0, ?_⟩⟩)))))
    refine sd_seq (sd_setIx (xs0 := []) (ed_ic (ed_ixM rfl (ed_int ⟨rfl, _, _, rfl, rfl, ed_var rfl ⟨_, _, rfl, rfl, wide_div (b := 60) k0 (by omega) (by decide) (by decide), ⟨_, rfl⟩, ed_int ⟨_, _, _, rfl, rfl, rfl, ?_⟩⟩⟩))))
    refine sd_ret (ed_var rfl ⟨_, rfl, hP _ _ (Int.emod_nonneg _ (by omega)) (Int.emod_lt_of_pos _ k0) ⟨_, _, _, rfl, Int.ediv_nonneg h0 (by omega), h1, h1', h2, by omega⟩⟩)
  · rw [decide_eq_false hc]
    refine iteF (sd_next ?_)
    have a1 : (c2 + 1).natAbs < 2 ^ 41 := by omega
    have e2 : (c2 + 1) ^ (2 : Int).toNat = (c2 + 1) * (c2 + 1) := by
      show (c2 + 1) ^ 2 = _
      rw [Int.pow_succ, Int.pow_succ, Int.pow_zero, Int.one_mul]
    have a2 : ((c2 + 1) ^ (2 : Int).toNat).natAbs < 2 ^ (41 + 41) := by rw [e2]; exact wide_lt a1 a1
    have a2' : (0 : Int) ≤ (c2 + 1) ^ (2 : Int).toNat := by rw [e2]; exact Int.mul_nonneg (by omega) (by omega)
    have a3 : (c1 + 15485867 * (c2 + 1) ^ (2 : Int).toNat).natAbs < 2 ^ 161 := by omega
    refine sd_seq (sd_setIx (xs0 := []) (ed_i0 (ed_ixM rfl (ed_int ⟨rfl, _, _, rfl, rfl, ed_int ⟨_, _, rfl, rfl, ⟨_, rfl⟩, ed_int ⟨_, _, _, rfl, rfl, rfl, ?_⟩⟩⟩))))
    refine sd_seq (sd_set (by simp) (ed_ic (ed_ic (ed_i0 (ed_ixM rfl (ed_int ⟨rfl, _, _, rfl, rfl, ed_ic (ed_int (ed_ic (ed_ixM rfl (ed_int ⟨rfl, _, _, rfl, rfl, ed_int ⟨_, _, rfl, rfl, pow_ok 41 a1 (by decide) (by decide) (by decide), _, _, rfl, rfl, wide_mul (a := 24) (b := 82) (by decide) a2 (by decide) (by decide) (by decide), _, _, rfl, rfl, ?_⟩⟩))))⟩))))))
    refine ed_int ⟨_, _, rfl, rfl, pow_ok 161 a3 (by decide) (by decide) (by decide), ed_i0 (ed_ic (ed_int (ed_int ⟨_, _, rfl, rfl, pow_ok 4 (by decide) (by decide) (by decide) (by decide), ed_int ⟨_, _, rfl, rfl, _, _, rfl, rfl, by decide, ?_⟩⟩)))⟩
    have b1 : (0 : Int) ≤ (c1 + 15485867 * (c2 + 1) ^ (2 : Int).toNat) ^ (3 : Int).toNat % (10 ^ (37 : Int).toNat + 43) := Int.emod_nonneg _ (by decide)
    have b2 : (c1 + 15485867 * (c2 + 1) ^ (2 : Int).toNat) ^ (3 : Int).toNat % (10 ^ (37 : Int).toNat + 43) < 10 ^ (37 : Int).toNat + 43 := Int.emod_lt_of_pos _ (by decide)
    generalize (c1 + 15485867 * (c2 + 1) ^ (2 : Int).toNat) ^ (3 : Int).toNat % (10 ^ (37 : Int).toNat + 43) = st at b1 b2 ⊢
    have e3 : (10 : Int) ^ (37 : Int).toNat + 43 = 10000000000000000000000000000000000043 := by decide
    rw [e3] at b2
    have a4 : (st + 32416190071 * (c2 + 1)).natAbs < 2 ^ 125 := by omega
    refine sd_seq (sd_set (by simp) (ed_ic (ed_ic (ed_i0 (ed_var rfl (ed_ic (ed_int (ed_ixM rfl (ed_int ⟨rfl, _, _, rfl, rfl, _, _, rfl, rfl, wide_mul (a := 36) (b := 41) (by decide) a1 (by decide) (by decide) (by decide), _, _, rfl, rfl, ?_⟩)))))))))
    refine ed_int ⟨_, _, rfl, rfl, pow_ok 125 a4 (by decide) (by decide) (by decide), ed_i0 (ed_ic (ed_int (ed_int ⟨_, _, rfl, rfl, pow_ok 4 (by decide) (by decide) (by decide) (by decide), ed_int ⟨_, _, rfl, rfl, _, _, rfl, rfl, by decide, ?_⟩⟩)))⟩
    refine sd_ret (ed_ic (ed_ic (ed_var rfl (ed_int ⟨_, _, rfl, rfl, wide_div (b := 20) (by decide) (by decide) (by decide) (by decide), ed_var rfl ⟨_, _, rfl, rfl, k0, _, rfl, ?_⟩⟩))))
    exact hP _ _ (Int.emod_nonneg _ (by omega)) (Int.emod_lt_of_pos _ k0) ⟨_, _, _, rfl, h0, h1, h1', by omega, by omega⟩
end K8


set_option Elab.async false
set_option linter.all false
set_option maxRecDepth 100000
set_option maxHeartbeats 1000000
namespace K8
open PySem PySem.Spec PyProof.Rows L2 GxR GA DX So
variable {K : PySem.W.Frag} {cs : List Addr} {Pt : Str → Addr}
theorem pull {n : Nat} {k : Int} {ts : List PyData} {P : PyData → List PyData → Prop} (h : Till n ts) (hn : n < 2 ^ 40) (k0 : 0 < k) (k1 : k < 2 ^ 60) (q : ∀ r ts', 0 ≤ r → r < k → Till (n + 1) ts' → P (.int r) ts') : C_law_pull ts [.int k] P := ⟨n, k, h, hn, rfl, k0, k1, q⟩
theorem sd_law_near (ts xs : List PyData) (P : PyData → List PyData → Prop) (h : C_law_near ts xs P) : SD ⟨K, cs, [0]⟩ (t_law_near K cs Pt) (envT ["till", "about"] ts xs) (QT P) := by
  obtain ⟨n, hT, hn, rfl, hP⟩ := h
  refine sd_seq (sd_set (by simp) (ed_i0 (ed_callT rfl (ea_cons (ed_int (ea_nil ⟨_, _, rfl, rfl, pull hT (by omega) (by decide) (by decide) fun r ts' r0 r1 hT1 => ed_int ⟨_, _, rfl, rfl, ?_⟩⟩))))))
  refine sd_ret (ed_ix (ed_ef (ef_lst (ea_cons (ed_var rfl (ea_cons (ed_var rfl (ea_cons (ed_i0 (ed_callT rfl (ea_cons (ed_int (ea_nil ⟨_, _, rfl, rfl, pull hT1 (by omega) (by decide) (by decide) fun r2 ts2 r20 r21 hT2 => ed_int ⟨_, _, rfl, rfl, ?_⟩⟩)))))))))))))
  refine ea_cons (ed_int (ea_cons (ed_neg (ed_int ⟨_, rfl, ea_nil ⟨_, rfl, by show 5 ≤ sizeLine; decide, ?_⟩⟩))))
  refine ed_callT rfl (ea_cons (ed_int (ea_nil ⟨_, _, rfl, rfl, pull hT2 (by omega) (by decide) (by decide) fun r3 ts3 r30 r31 hT3 => ?_⟩)))
  have fin : ∀ z : Int, -99 ≤ z → z ≤ 99 → atI [PyData.int (r - 6), .int (r - 6), .int (r2 - 99), .int 99, .int (-99)] r3 = some (.int z) → ∃ xs i d, seqD (.list [PyData.int (r - 6), .int (r - 6), .int (r2 - 99), .int 99, .int (-99)]) = some xs ∧ PyData.int r3 = .int i ∧ atI xs i = some d ∧ QT P (.rt d (List.set (List.set (List.set (List.set (envT ["till", "about"] ts []) 0 (some (.m ts'))) 1 (some (.d (.int (r - 6))))) 0 (some (.m ts2))) 0 (some (.m ts3)))) := fun z z0 z1 e => ⟨_, r3, .int z, rfl, rfl, e, ts3, rfl, hP _ _ z0 z1 hT3⟩
  have c : r3 = 0 ∨ r3 = 1 ∨ r3 = 2 ∨ r3 = 3 ∨ r3 = 4 := by omega
  rcases c with rfl | rfl | rfl | rfl | rfl
  · exact fin _ (by omega) (by omega) rfl
  · exact fin _ (by omega) (by omega) rfl
  · exact fin _ (by omega) (by omega) rfl
  · exact fin _ (by omega) (by omega) rfl
  · exact fin _ (by omega) (by omega) rfl
/-- one of two, by a truth -/
theorem at_two (a b : PyData) (c : Bool) : atI [a, b] (if c then (1 : Int) else 0) = some (if c then b else a) := by cases c <;> rfl
theorem sd_law_buyer (ts xs : List PyData) (P : PyData → List PyData → Prop) (h : C_law_buyer ts xs P) : SD ⟨K, cs, [0]⟩ (t_law_buyer K cs Pt) (envT ["till", "many", "worths", "ware"] ts xs) (QT P) := by
  obtain ⟨n, k, hT, hn, rfl, hk, hP⟩ := h
  refine sd_seq (sd_set (by simp) (ed_ef (ef_lcR (by simp) (ea_cons (ed_var rfl (ea_nil ⟨_, rfl, by omega, by omega, sz (by omega),
    fun j acc δ => ∃ ts ws, Till (n + 4 * j) ts ∧ ws.length = j ∧ (∀ w ∈ ws, VW w) ∧ acc = ws.map oD ∧ δ = [some (.m ts), some (.d (.int (k : Nat))), none, none], ⟨ts, [], hT, rfl, fun w hw => (by cases hw), rfl, rfl⟩, ?_, ?_⟩))))))
  · rintro j acc δ2 hj ⟨ts, ws, hT, hl, hw, e1, e2⟩ _
    have hj : j < k := by simpa using hj
    rw [e2]
    refine ed_ix (ed_ef (ef_lst (ea_cons (ed_callT rfl (ea_nil ⟨_, _, rfl, rfl, _, hT, by omega, rfl, fun r ts1 r0 r1 hT1 => ?_⟩)))))
    refine ea_cons (ed_non (ea_nil ⟨_, rfl, by show 2 ≤ sizeLine; decide, ?_⟩))
    refine ed_intB (ea_cons (ed_eqS (ed_callT rfl (ea_cons (ed_int (ea_nil ⟨_, _, rfl, rfl, pull hT1 (by omega) (by decide) (by decide) fun r2 ts2 r20 r21 hT2 => ed_int ⟨_, rfl, ea_nil ⟨_, rfl, _, rfl, _, _, _, rfl, rfl, at_two _ _ _, ?_⟩⟩⟩))))))
    cases (r2 == 0)
    · refine ⟨ts2, ws ++ [some r], hT2.mono (by omega), by simp [hl], fun w hw' => ?_, ?_, rfl⟩
      · rcases List.mem_append.mp hw' with h | h
        · exact hw w h
        · cases List.mem_singleton.mp h
          intro x ex
          cases ex
          exact ⟨r0, r1⟩
      · rw [e1, List.map_append]; rfl
    · refine ⟨ts2, ws ++ [none], hT2.mono (by omega), by simp [hl], fun w hw' => ?_, ?_, rfl⟩
      · rcases List.mem_append.mp hw' with h | h
        · exact hw w h
        · cases List.mem_singleton.mp h
          intro x ex
          cases ex
      · rw [e1, List.map_append]; rfl
  · rintro acc δ2 ⟨ts, ws, hT, hl, hw, e1, e2⟩ _
    have hl : ws.length = k := by rw [hl]; omega
    rw [e2, e1]
    refine sd_ret (ed_if (dt_of (ed_b0 (ed_callT rfl (ea_cons (ed_int (ea_nil ⟨_, _, rfl, rfl, pull hT (by omega) (by decide) (by decide) fun r2 ts2 r20 r21 hT2 => ed_int ⟨_, _, rfl, rfl, _, rfl, ?_⟩⟩)))))))
    by_cases hc : 0 < r2
    · rw [decide_eq_true hc]
      exact iteT (ed_var rfl ⟨_, rfl, hP (some ws) _ (fun us e => by cases e; exact ⟨hl, hw⟩) (hT2.mono (by omega))⟩)
    · rw [decide_eq_false hc]
      exact iteF (ed_non ⟨_, rfl, hP none _ (fun us e => by cases e) (hT2.mono (by omega))⟩)
theorem sd_law_market (ts xs : List PyData) (P : PyData → List PyData → Prop) (h : C_law_market ts xs P) : SD ⟨K, cs, [0]⟩ (t_law_market K cs Pt) (envT ["till", "full", "goods", "ware", "turn"] ts xs) (QT P) := by
  obtain ⟨n, hT, hn, rfl, hP⟩ := h
  refine sd_seq (sd_set (by simp) (ed_intB (ea_cons (ed_eqS (ed_callT rfl (ea_cons (ed_int (ea_nil ⟨_, _, rfl, rfl, pull hT (by omega) (by decide) (by decide) fun r ts1 r0 r1 hT1 => ed_int ⟨_, rfl, ea_nil ⟨_, rfl, _, rfl, ?_⟩⟩⟩))))))))
  generalize (r == 0) = full
  refine sd_seq (sd_setM (by simp) (by show 2 < 5; decide) (ef_lst (ea_nil ⟨_, rfl, by decide, ?_⟩)))
  refine sd_seq (sd_forR (by simp) (ea_cons (ed_ix (ed_ef (ef_lst (ea_cons (ed_i0 (ed_int (ed_callT rfl (ea_cons (ed_int (ea_nil ⟨_, _, rfl, rfl, pull hT1 (by omega) (by decide) (by decide) fun r2 ts2 r20 r21 hT2 => ⟨_, _, rfl, rfl, ?_⟩⟩))))))))))))
  refine ea_cons (ed_int (ea_nil ⟨_, rfl, by show 2 ≤ sizeLine; decide, ed_var rfl ⟨_, _, _, rfl, rfl, at_two _ _ _, ?_⟩⟩))
  have hN : ∃ N : Nat, (if full then PyData.int 4 else .int (1 + r2)) = .int (N : Nat) ∧ 1 ≤ N ∧ N ≤ 4 := by
    cases full
    · exact ⟨(1 + r2).toNat, by simp; omega, by omega, by omega⟩
    · exact ⟨4, rfl, by decide, by decide⟩
  obtain ⟨N, eN, n1, n4⟩ := hN
  rw [eN]
  refine ea_nil ⟨_, rfl, by omega, by omega, fun j δ => ∃ ts gs a b, Till (n + 2 + 5 * j) ts ∧ gs.length = j ∧ (∀ g ∈ gs, VGood g) ∧ δ = [some (.m ts), some (.d (.int (if full then 1 else 0))), some (.m (gs.map goodD)), a, b], ⟨ts2, [], none, none, hT2, rfl, fun w hw => (by cases hw), rfl⟩, ?_, ?_⟩
  · rintro j δ2 hj ⟨ts, gs, a, b, hT, hl, hg, rfl⟩
    have hj : j < N := by simpa using hj
    refine sd_append rfl (ed_tup (ea_cons (ed_i0 (ed_int (ed_callT rfl (ea_cons (ed_int (ea_nil ⟨_, _, rfl, rfl, pull hT (by omega) (by decide) (by decide) fun u1 ts1 u10 u11 hT1 => ⟨_, _, rfl, rfl, ?_⟩⟩))))))))
    refine ea_cons (ed_i0 (ed_int (ed_callT rfl (ea_cons (ed_int (ea_nil ⟨_, _, rfl, rfl, pull hT1 (by omega) (by decide) (by decide) fun u2 ts2 u20 u21 hT2 => ⟨_, _, rfl, rfl, ?_⟩⟩))))))
    refine ea_cons (ed_callT rfl (ea_nil ⟨_, _, rfl, rfl, _, hT2, by omega, rfl, fun u3 ts3 u30 u31 hT3 => ea_nil ⟨_, rfl, by show 3 ≤ sizeLine; decide, _, rfl, ?_, ts3, gs ++ [(1 + u1, 1 + u2, u3)], some (.d (.int (j : Nat))), b, hT3.mono (by omega), by simp [hl], fun g hg' => ?_, ?_⟩⟩))
    · rw [List.length_map, hl]
      exact Nat.lt_of_lt_of_le (show j < 10000 by omega) (by decide)
    · rcases List.mem_append.mp hg' with h | h
      · exact hg g h
      · cases List.mem_singleton.mp h
        exact ⟨⟨by show 1 ≤ 1 + u1; omega, by show 1 + u1 ≤ 4; omega⟩, ⟨by show 1 ≤ 1 + u2; omega, by show 1 + u2 ≤ 4; omega⟩, u30, u31⟩
    · rw [List.map_append]; rfl
  · rintro δ2 ⟨ts, gs, a, b, hT, hl, hg, rfl⟩
    have hl : gs.length = N := by rw [hl]; omega
    refine sd_freeze (i := 2) rfl (by simp) ?_
    refine sd_ret (ed_tup (ea_cons (ed_var rfl (ea_cons (ed_ef (ef_lcR (by simp) ?_))))))
    refine ea_cons (ed_ix (ed_ef (ef_lst (ea_cons (ed_i0 (ed_int (ed_callT rfl ?_)))))))
    refine ea_cons (ed_int (ea_nil ⟨_, _, rfl, rfl, pull hT (by omega) (by decide) (by decide) fun r2 ts2 r20 r21 hT2 => ⟨_, _, rfl, rfl, ?_⟩⟩))
    refine ea_cons (ed_int (ea_nil ⟨_, rfl, by show 2 ≤ sizeLine; decide, ed_var rfl ⟨_, _, _, rfl, rfl, at_two _ _ _, ?_⟩⟩))
    have hR : ∃ R : Nat, (if full then PyData.int 6 else .int (1 + r2)) = .int (R : Nat) ∧ 1 ≤ R ∧ R ≤ 6 := by
      cases full
      · exact ⟨(1 + r2).toNat, by simp; omega, by omega, by omega⟩
      · exact ⟨6, rfl, by decide, by decide⟩
    obtain ⟨R, eR, m1, m6⟩ := hR
    rw [eR]
    refine ea_nil ⟨_, rfl, by omega, by omega, sz (by omega), fun j acc δ => ∃ ts bs, Till (n + 30 + 20 * j) ts ∧ bs.length = j ∧ (∀ x ∈ bs, VBuyer N x) ∧ acc = bs.map buyD ∧ δ = [some (.m ts), some (.d (.int (if full then 1 else 0))), some (.d (goodsD gs)), a, none], ⟨ts2, [], hT2.mono (by omega), rfl, fun w hw => (by cases hw), rfl, rfl⟩, ?_, ?_⟩
    · rintro j acc δ2 hj ⟨ts, bs, hT, hl2, hb, e1, e2⟩ _
      have hj : j < R := by simpa using hj
      rw [e2]
      refine ed_callT rfl (ea_cons (ed_len (ea_cons (ed_var rfl (ea_nil ⟨_, rfl, _, N, rfl, ?_, ea_nil ⟨_, _, rfl, rfl, _, N, hT, by omega, rfl, n4, fun c ts' hc hT' => ⟨ts', bs ++ [c], hT'.mono (by omega), by simp [hl2], fun x hx => ?_, ?_, rfl⟩⟩⟩)))))
      · show some (gs.map goodD).length = some N
        rw [List.length_map, hl]
      · rcases List.mem_append.mp hx with h | h
        · exact hb x h
        · cases List.mem_singleton.mp h
          exact hc
      · rw [e1, List.map_append]; rfl
    · rintro acc δ2 ⟨ts, bs, hT, hl2, hb, e1, e2⟩ _
      have hl2 : bs.length = R := by rw [hl2]; omega
      rw [e2, e1]
      exact ea_nil ⟨_, rfl, by show 2 ≤ sizeLine; decide, ts, rfl, hP ⟨gs, bs⟩ _ ⟨by show 1 ≤ gs.length; omega, by show gs.length ≤ 4; omega, hg, by show 1 ≤ bs.length; omega, by show bs.length ≤ 6; omega, by show ∀ b ∈ bs, VBuyer gs.length b; rw [hl]; exact hb⟩ (hT.mono (by omega))⟩
end K8


set_option Elab.async false
set_option linter.all false
set_option maxRecDepth 100000
set_option maxHeartbeats 1000000
namespace K8
open PySem PySem.Spec PyProof.Rows L2 GxR GA DX So
variable {K : PySem.W.Frag} {cs : List Addr} {Pt : Str → Addr}
def calmW : Option Int → Option Int
  | none => none
  | some i => some (i % 30)
def calmB : Buyer → Buyer
  | none => none
  | some ws => some (ws.map calmW)
def calmG (g : So.Good) : So.Good := (g.1, g.2.1, g.2.2 % 20)
def calmM (m : Mart) : Mart := ⟨m.goods.map calmG, m.rounds.map calmB⟩
theorem calm_valid {m : Mart} (V : Valid m) : Valid (calmM m) := by
  refine ⟨by simpa [calmM] using V.g1, by simpa [calmM] using V.g4, fun g hg => ?_, by simpa [calmM] using V.r1, by simpa [calmM] using V.r6, fun b hb => ?_⟩
  · obtain ⟨c, hc, rfl⟩ := List.mem_map.mp (show g ∈ m.goods.map calmG from hg)
    obtain ⟨h1, h2, h3, h4⟩ := V.gs c hc
    exact ⟨h1, h2, by show -99 ≤ c.2.2 % 20; omega, by show c.2.2 % 20 ≤ 99; omega⟩
  · obtain ⟨c, hc, rfl⟩ := List.mem_map.mp (show b ∈ m.rounds.map calmB from hb)
    intro ws e
    cases c with
    | none => cases e
    | some us =>
      cases e
      obtain ⟨l1, l2⟩ := V.rs _ hc us rfl
      refine ⟨by simp [calmM, l1], fun w hw x ex => ?_⟩
      obtain ⟨u, hu, rfl⟩ := List.mem_map.mp hw
      cases u with
      | none => cases ex
      | some i =>
        cases ex
        omega
theorem sd_law_calm (ts xs : List PyData) (P : PyData → List PyData → Prop) (h : C_law_calm ts xs P) : SD ⟨K, cs, [0]⟩ (t_law_calm K cs Pt) (envT ["till", "mart", "goods", "up", "down", "start", "rounds", "buyer", "worth"] ts xs) (QT P) := by
  obtain ⟨n, m, hT, hn, rfl, V, hP⟩ := h
  have h4 := V.g4
  refine sd_seq (sd_if (dt_of (ed_eqS (ed_callT rfl (ea_cons (ed_int (ea_nil ⟨_, _, rfl, rfl, pull hT (by omega) (by decide) (by decide) fun r ts1 r0 r1 hT1 => ed_int ⟨_, rfl, _, rfl, ?_⟩⟩)))))))
  cases hc : (r == 0)
  · refine iteF (sd_next ?_)
    refine sd_seq (sd_set (by simp) (ed_ef (ef_lcL (by simp) (ed_ix (ed_var rfl (ed_int ⟨_, _, _, rfl, rfl, rfl, m.goods.map goodD, rfl, sz (by simp; omega),
      fun k acc δ => δ = [some (.m ts1), some (.d (martD m)), none, none, none, none, none, none, none] ∧ acc = (m.goods.take k).map fun g => goodD (calmG g), ⟨rfl, rfl⟩, ?_, ?_⟩))))))
    · rintro k acc δ2 y hy ⟨e1, e2⟩ hl
      rw [List.getElem?_map] at hy
      obtain ⟨g, hg, rfl⟩ := Option.map_eq_some_iff.mp hy
      rw [e1]
      refine dg_tup rfl (dg_cons (dg_name (by simp) (by simp) (dg_cons (dg_name (by simp) (by simp) (dg_cons (dg_name (by simp) (by simp) (dg_nil ?_)))))))
      refine dt_yes (iteT (ed_tup (ea_cons (ed_var rfl (ea_cons (ed_var rfl (ea_cons (ed_ic (ed_var rfl (ed_int ⟨_, _, rfl, rfl, by decide, ea_nil ⟨_, rfl, by show 3 ≤ sizeLine; decide, rfl, ?_⟩⟩))))))))))
      rw [e2, take_snoc _ hg]
      rfl
    · rintro acc δ2 ⟨e1, e2⟩ hl
      have e : acc = (calmM m).goods.map goodD := by
        rw [e2]
        simp [calmM]
      rw [e1, e]
      refine sd_seq (sd_setM (by simp) (by show 6 < 9; decide) (ef_lst (ea_nil ⟨_, rfl, by decide, ?_⟩)))
      refine sd_seq (sd_forL (vs := [7]) (ed_ix (ed_var rfl (ed_int ⟨_, _, _, rfl, rfl, rfl, m.rounds.map buyD, rfl,
        fun k δ => ∃ a b, δ = [some (.m ts1), some (.d (martD m)), some (.d (goodsD (calmM m).goods)), none, none, none, some (.m ((m.rounds.take k).map fun b => buyD (calmB b))), a, b], ⟨none, none, rfl⟩, ?_, ?_⟩))))
      · rintro k δ2 y hy ⟨a, b, rfl⟩
        rw [List.getElem?_map] at hy
        obtain ⟨c, hg, rfl⟩ := Option.map_eq_some_iff.mp hy
        have hk : k < m.rounds.length := (List.getElem?_eq_some_iff.mp hg).1
        have hr := V.r6
        refine dg_name (by simp) (by simp) ?_
        have fin : (m.rounds.take k).map (fun b => buyD (calmB b)) ++ [buyD (calmB c)] = (m.rounds.take (k + 1)).map fun b => buyD (calmB b) := (take_snoc _ hg).symm
        refine sd_append rfl (ed_if (dt_of (ed_isN (ed_var rfl ⟨_, rfl, ?_⟩))))
        cases c with
        | none =>
          refine iteT (ed_non ⟨_, rfl, ?_, some (.d .none), b, ?_⟩)
          · simp; exact Nat.lt_of_le_of_lt (show min k _ ≤ 6 by omega) (by decide)
          · rw [← fin]; rfl
        | some ws =>
          have hw := (V.rs _ (List.mem_of_getElem? hg) ws rfl).1
          refine iteF (ed_ef (ef_lcL (by simp) (ed_var rfl ⟨ws.map oD, rfl, sz (by simp; omega),
            fun j acc δ => δ = [some (.m ts1), some (.d (martD m)), some (.d (goodsD (calmM m).goods)), none, none, none, some (.m ((m.rounds.take k).map fun b => buyD (calmB b))), some (.d (buyD (some ws))), none] ∧ acc = (ws.take j).map fun w => oD (calmW w), ⟨rfl, rfl⟩, ?_, ?_⟩)))
          · rintro j acc δ2 y hy ⟨e1, e2⟩ hl
            rw [List.getElem?_map] at hy
            obtain ⟨w, hw, rfl⟩ := Option.map_eq_some_iff.mp hy
            rw [e1]
            refine dg_name (by simp) (by simp) (dt_yes (iteT (ed_if (dt_of (ed_isN (ed_var rfl ⟨_, rfl, ?_⟩))))))
            cases w with
            | none => exact iteT (ed_non ⟨rfl, by rw [e2, take_snoc _ hw]; rfl⟩)
            | some i => exact iteF (ed_ic (ed_var rfl (ed_int ⟨_, _, rfl, rfl, by decide, rfl, by rw [e2, take_snoc _ hw]; rfl⟩)))
          · rintro acc δ2 ⟨e1, e2⟩ hl
            rw [e1]
            refine ⟨_, rfl, ?_, some (.d (buyD (some ws))), none, ?_⟩
            · simp; exact Nat.lt_of_le_of_lt (show min k _ ≤ 6 by omega) (by decide)
            · have e3 : PyData.list acc = buyD (calmB (some ws)) := by
                rw [e2]
                simp [buyD, calmB]
              rw [← fin, e3]
              rfl
      · rintro δ2 ⟨a, b, rfl⟩
        refine sd_freeze (i := 6) rfl (by simp) ?_
        refine sd_ret (ed_tup (ea_cons (ed_var rfl (ea_cons (ed_var rfl (ea_nil ⟨_, rfl, by show 2 ≤ sizeLine; decide, ts1, rfl, ?_⟩))))))
        have e4 : (m.rounds.take (m.rounds.map buyD).length).map (fun b => buyD (calmB b)) = (calmM m).rounds.map buyD := by simp [calmM]
        rw [e4]
        exact hP (calmM m) _ (calm_valid V) hT1
  · exact iteT (sd_ret (ed_var rfl ⟨_, rfl, hP m _ V hT1⟩))
end K8


set_option Elab.async false
set_option linter.all false
set_option maxRecDepth 100000
set_option maxHeartbeats 1000000
namespace K8
open PySem PySem.Spec PyProof.Rows L2 GxR GA DX So
variable {K : PySem.W.Frag} {cs : List Addr} {Pt : Str → Addr}
theorem lay_ints : ∀ ns : List Int, PyData.canLayAll0 (ns.map PyData.int) = true ∧ PyData.depthAll (ns.map PyData.int) = 0
  | [] => ⟨rfl, rfl⟩
  | n :: ns => by
    obtain ⟨h1, h2⟩ := lay_ints ns
    simp [PyData.canLayAll0, PyData.canLay0, PyData.depthAll, PyData.depth, h1, h2]
theorem lay_os : ∀ ns : List (Option Int), PyData.canLayAll0 (ns.map oD) = true ∧ PyData.depthAll (ns.map oD) = 0
  | [] => ⟨rfl, rfl⟩
  | none :: ns => by
    obtain ⟨h1, h2⟩ := lay_os ns
    simp [PyData.canLayAll0, PyData.canLay0, PyData.depthAll, PyData.depth, h1, h2, oD]
  | some n :: ns => by
    obtain ⟨h1, h2⟩ := lay_os ns
    simp [PyData.canLayAll0, PyData.canLay0, PyData.depthAll, PyData.depth, h1, h2, oD]
theorem ok_ints (ns : List Int) : EqOk (.list (ns.map PyData.int)) := by
  obtain ⟨h1, h2⟩ := lay_ints ns
  refine ⟨noD_ints ns, ?_⟩
  simp [SeqAt.shaped, PyData.canLay0, PyData.depth, h1, h2]
theorem ok_takes (ns : List (Option Int)) : EqOk (.list (ns.map oD)) := by
  obtain ⟨h1, h2⟩ := lay_os ns
  refine ⟨noD_os ns, ?_⟩
  simp [SeqAt.shaped, PyData.canLay0, PyData.depth, h1, h2]
theorem eq_self {x : PyData} (h : EqOk x) : PyData.eqv x x = true := SeqAt.eqv_refl x (SeqAt.canLay_of_shaped h.2)
theorem cut_from {xs : List PyData} {a : Nat} : DX.cutD xs (some (a : Int)) none = xs.drop a := by
  unfold DX.cutD
  rw [HT.sIx_nat, HT.sIx_none]
  by_cases h : a ≤ xs.length
  · rw [Nat.min_eq_left h, List.take_of_length_le (by simp)]
  · rw [Nat.min_eq_right (by omega), List.drop_eq_nil_of_le (Nat.le_refl _), List.drop_eq_nil_of_le (by omega)]
    simp
theorem cut_to {xs : List PyData} {a : Nat} : DX.cutD xs none (some (a : Int)) = xs.take a := by
  unfold DX.cutD
  rw [HT.sIx_nat, HT.sIx_none]
  by_cases h : a ≤ xs.length
  · rw [Nat.min_eq_left h]; simp
  · rw [Nat.min_eq_right (by omega), List.take_of_length_le (by simp), List.take_of_length_le (by omega)]
    simp
theorem cut_all {xs : List PyData} : DX.cutD xs none none = xs := by
  unfold DX.cutD
  rw [HT.sIx_none, HT.sIx_none]
  simp
theorem at_goods {gs : List So.Good} {k : Nat} (h : k < gs.length) : atI (gs.map goodD) (k : Int) = some (goodD (gs.getD k g0)) := atI_nat (by
  rw [List.getElem?_map, List.getElem?_eq_getElem h, gD_lt _ _ h]
  rfl)
def farB (x : Int) : Bool := decide (x < -99) || decide (99 < x)
theorem filter_take (ps : List Int) (k : Nat) (x : Int) (h : ps[k]? = some x) : (ps.take (k + 1)).filter farB = (ps.take k).filter farB ++ (if farB x = true then [x] else []) := by
  rw [List.take_succ, h, List.filter_append]
  cases hx : farB x <;> simp [hx]
theorem sold_add {m : Mart} (V : Valid m) (a b : Nat) : (List.range m.goods.length).map (fun k => (m.sold a).getD k 0 + ((later m a).sold b).getD k 0) = m.sold (a + b) := by
  have hl : (later m a).goods.length = m.goods.length := by simp [later]
  unfold Mart.sold
  refine List.map_congr_left fun k hk => ?_
  have hk : k < m.goods.length := by simpa using hk
  rw [getD_range_map, getD_range_map, if_pos hk, if_pos (by omega), later_run m V.r1, List.count_append]
  simp
theorem sd_law_goes_on (xs : List PyData) (P : PyData → Prop) (h : C_law_goes_on xs P) : xs.length ≤ 12 ∧ SD ⟨K, cs, []⟩ (t_law_goes_on K cs Pt) (envP ["mart", "first", "more", "goods", "rounds", "now", "tag", "at", "later", "k", "one", "other"] xs) (QP P) := by
  obtain ⟨m, a, b, rfl, V, hab, hP⟩ := h
  have h4 := V.g4
  have h6 := V.r6
  have hr1 := V.r1
  refine ⟨by simp, sd_seq (sd_asgT (vs := [3, 4]) (ed_var rfl (dg_tup rfl (dg_cons (dg_name (by simp) (by simp) (dg_cons (dg_name (by simp) (by simp) (dg_nil ?_))))))))⟩
  refine sd_seq (sd_set (by simp) (ed_callP (ea_cons (ed_var rfl (ea_cons (ed_var rfl (ea_nil ⟨_, rfl, m, a, rfl, V, by omega, ?_⟩)))))))
  refine sd_seq (sd_if (dt_of (ed_neD (ed_ef (ef_lcL (by simp) (ed_var rfl ⟨(m.run a).2.map PyData.int, rfl, sz (by rw [List.length_map, run_l2]; omega),
    fun k acc δ => δ = [some (.d (martD m)), some (.d (.int (a : Nat))), some (.d (.int (b : Nat))), some (.d (goodsD m.goods)), some (.d (roundsD m.rounds)), some (.d (intsD (m.run a).2)), none, none, none, none, none, none] ∧ acc = (((m.run a).2.take k).filter farB).map PyData.int, ⟨rfl, rfl⟩, ?_, ?_⟩))))))
  · rintro k acc δ2 y hy ⟨e1, e2⟩ hl
    rw [List.getElem?_map] at hy
    obtain ⟨x, hx, rfl⟩ := Option.map_eq_some_iff.mp hy
    have ft := filter_take _ k x hx
    rw [e1]
    refine dg_name (by simp) (by simp) (dt_or (dt_of (ed_b0 (ed_var rfl (ed_neg (ed_int ⟨_, rfl, _, _, rfl, rfl, _, rfl, ?_⟩))))))
    cases h1 : decide (x < -99)
    · refine iteF (dt_of (ed_b0 (ed_var rfl (ed_int ⟨_, _, rfl, rfl, _, rfl, ?_⟩))))
      cases h2 : decide (99 < x)
      · refine iteF ⟨rfl, ?_⟩
        rw [e2, ft, if_neg (by simp [farB, h1, h2])]
        simp
      · refine iteT (ed_var rfl ⟨rfl, ?_⟩)
        rw [e2, ft, if_pos (by simp [farB, h2])]
        simp
    · refine iteT (iteT (ed_var rfl ⟨rfl, ?_⟩))
      rw [e2, ft, if_pos (by simp [farB, h1])]
      simp
  · rintro acc δ2 ⟨e1, e2⟩ hl
    rw [e1]
    have e3 : ((m.run a).2.take ((m.run a).2.map PyData.int).length) = (m.run a).2 := by simp
    rw [e3] at e2
    refine ed_ef (ef_lst (ea_nil ⟨_, rfl, by decide, by rw [e2]; exact ok_ints _, ok_ints [], _, rfl, ?_⟩))
    rw [e2]
    by_cases hf : (m.run a).2.filter farB = []
    · rw [hf]
      refine iteF (sd_next ?_)
      have V2 : Valid (later m a) := later_valid V a fun x hx => by
        have := List.filter_eq_nil_iff.mp hf x hx
        simp [farB] at this
        omega
      refine sd_seq (sd_set (by simp) (ed_ic (ed_var rfl (ed_len (ea_cons (ed_var rfl (ea_nil ⟨_, rfl, _, m.rounds.length, rfl, ?_, _, _, rfl, rfl, by omega, ?_⟩)))))))
      · show some (m.rounds.map buyD).length = _
        rw [List.length_map]
      have em : (a : Int) % (m.rounds.length : Nat) = ((a % m.rounds.length : Nat) : Int) := by omega
      rw [em]
      have hmod : a % m.rounds.length < m.rounds.length := Nat.mod_lt _ hr1
      refine sd_seq (sd_set (by simp) (ed_tup (ea_cons (ed_ef (ef_lcR (by simp) ?_)))))
      refine ea_cons (ed_len (ea_cons (ed_var rfl (ea_nil ⟨_, rfl, _, m.goods.length, rfl, ?_, ?_⟩))))
      · show some (m.goods.map goodD).length = _
        rw [List.length_map]
      refine ea_nil ⟨_, rfl, by omega, by omega, sz (by omega),
        fun k acc δ => δ = [some (.d (martD m)), some (.d (.int (a : Nat))), some (.d (.int (b : Nat))), some (.d (goodsD m.goods)), some (.d (roundsD m.rounds)), some (.d (intsD (m.run a).2)), none, some (.d (.int ((a % m.rounds.length : Nat) : Int))), none, none, none, none] ∧ acc = (List.range k).map fun k => goodD ((m.goods.getD k g0).1, (m.goods.getD k g0).2.1, (m.run a).2.getD k 0), ⟨rfl, rfl⟩, ?_, ?_⟩
      · rintro k acc δ2 hk ⟨e1, e2⟩ hl
        have hk : k < m.goods.length := by simpa using hk
        rw [e1]
        refine ed_tup (ea_cons (ed_ix (ed_ix (ed_var rfl (ed_var rfl ⟨_, _, _, rfl, rfl, at_goods hk, ed_int ⟨_, _, _, rfl, rfl, rfl, ?_⟩⟩)))))
        refine ea_cons (ed_ix (ed_ix (ed_var rfl (ed_var rfl ⟨_, _, _, rfl, rfl, at_goods hk, ed_int ⟨_, _, _, rfl, rfl, rfl, ?_⟩⟩))))
        refine ea_cons (ed_ix (ed_var rfl (ed_var rfl ⟨_, _, _, rfl, rfl, at_ints (by rw [run_l2]; exact hk), ea_nil ⟨_, rfl, by show 3 ≤ sizeLine; decide, rfl, ?_⟩⟩)))
        rw [e2, List.range_succ, List.map_append]
        rfl
      · rintro acc δ2 ⟨e1, e2⟩ hl
        rw [e1]
        refine ea_cons (ed_ef (ef_cat (ed_ef (ef_slice (ed_var rfl (do_some (ed_var rfl ⟨_, rfl, do_none ⟨_, rfl, ?_⟩⟩)))))))
        rw [cut_from]
        refine ed_ef (ef_slice (ed_var rfl (do_none (do_some (ed_var rfl ⟨_, rfl, _, rfl, ?_⟩)))))
        rw [cut_to]
        refine ⟨_, _, rfl, rfl, sz ?_, ?_⟩
        · simp; omega
        have eL : PyData.tuple [.list acc, .list ((m.rounds.map buyD).drop (a % m.rounds.length) ++ (m.rounds.map buyD).take (a % m.rounds.length))] = martD (later m a) := by
          rw [e2]
          simp [martD, goodsD, roundsD, later]
        refine ea_nil ⟨_, rfl, by show 2 ≤ sizeLine; decide, ?_⟩
        rw [eL]
        have R := later_run m V.r1 a b
        refine sd_seq (sd_if (dt_of (ed_neD (ed_callP (ea_cons (ed_var rfl (ea_cons (ed_var rfl (ea_nil ⟨_, rfl, later m a, b, rfl, V2, by omega, ?_⟩)))))))))
        refine ed_ef (ef_slice (ed_callP (ea_cons (ed_var rfl (ea_cons (ed_i0 (ed_var rfl (ed_var rfl ⟨_, _, rfl, rfl, ea_nil ⟨_, rfl, m, a + b, by rfl, V, by omega, do_some (ed_var rfl ⟨_, rfl, do_none ⟨_, rfl, ok_takes _, ?_, _, rfl, ?_⟩⟩)⟩⟩))))))))
        · rw [cut_from, ← List.map_drop]
          exact ok_takes _
        have d1 : (m.run (a + b)).1.drop a = ((later m a).run b).1 := by
          rw [R]
          show ((m.run a).1 ++ ((later m a).run b).1).drop a = _
          rw [List.drop_append_of_le_length (by rw [run_l1]; omega), List.drop_eq_nil_of_le (by rw [run_l1]; omega)]
          rfl
        have d2 : (m.run (a + b)).2 = ((later m a).run b).2 := by rw [R]
        rw [cut_from, ← List.map_drop, d1]
        have q1 : PyData.eqv (.list (((later m a).run b).1.map oD)) (.list (((later m a).run b).1.map oD)) = true := eq_self (ok_takes _)
        show if (!PyData.eqv (.list (((later m a).run b).1.map oD)) (.list (((later m a).run b).1.map oD))) = true then _ else _
        rw [q1]
        refine iteF (sd_next ?_)
        refine sd_seq (sd_if (dt_of (ed_neD (ed_callP (ea_cons (ed_var rfl (ea_cons (ed_var rfl (ea_nil ⟨_, rfl, later m a, b, rfl, V2, by omega, ?_⟩)))))))))
        refine ed_callP (ea_cons (ed_var rfl (ea_cons (ed_i0 (ed_var rfl (ed_var rfl ⟨_, _, rfl, rfl, ea_nil ⟨_, rfl, m, a + b, by rfl, V, by omega, ok_ints _, ok_ints _, _, rfl, ?_⟩⟩))))))
        rw [d2]
        have q2 : PyData.eqv (intsD ((later m a).run b).2) (intsD ((later m a).run b).2) = true := eq_self (ok_ints _)
        rw [q2]
        refine iteF (sd_next ?_)
        refine sd_seq (sd_asgT (vs := [10, 11]) (ed_ef (ef_lst (ea_cons (ed_callP (ea_cons (ed_var rfl (ea_cons (ed_var rfl (ea_nil ⟨_, rfl, m, a, rfl, V, by omega, ?_⟩))))))))))
        refine ea_cons (ed_callP (ea_cons (ed_var rfl (ea_cons (ed_var rfl (ea_nil ⟨_, rfl, later m a, b, rfl, V2, by omega, ea_nil ⟨_, rfl, by show 2 ≤ sizeLine; decide, ?_⟩⟩))))))
        refine dg_unl rfl (dg_cons (dg_name (by simp) (by simp) (dg_cons (dg_name (by simp) (by simp) (dg_nil ?_)))))
        refine sd_ret (ed_eqD (ed_ef (ef_lcR (by simp) ?_)))
        refine ea_cons (ed_len (ea_cons (ed_var rfl (ea_nil ⟨_, rfl, _, m.goods.length, rfl, ?_, ?_⟩))))
        · show some (m.goods.map goodD).length = _
          rw [List.length_map]
        refine ea_nil ⟨_, rfl, by omega, by omega, sz (by omega),
          fun k acc δ => δ = [some (.d (martD m)), some (.d (.int (a : Nat))), some (.d (.int (b : Nat))), some (.d (goodsD m.goods)), some (.d (roundsD m.rounds)), some (.d (intsD (m.run a).2)), none, some (.d (.int ((a % m.rounds.length : Nat) : Int))), some (.d (martD (later m a))), none, some (.d (intsD (m.sold a))), some (.d (intsD ((later m a).sold b)))] ∧ acc = (List.range k).map fun k => PyData.int ((m.sold a).getD k 0 + ((later m a).sold b).getD k 0), ⟨rfl, rfl⟩, ?_, ?_⟩
        · rintro k acc δ2 hk ⟨e1, e2⟩ hl
          have hk : k < m.goods.length := by simpa using hk
          rw [e1]
          refine ed_i0 (ed_ix (ed_var rfl (ed_var rfl ⟨_, _, _, rfl, rfl, at_ints (by simpa [Mart.sold] using hk), ed_ix (ed_var rfl (ed_var rfl ⟨_, _, _, rfl, rfl, at_ints (by simpa [Mart.sold, later] using hk), _, _, rfl, rfl, rfl, ?_⟩))⟩)))
          rw [e2, List.range_succ, List.map_append]
          rfl
        · rintro acc δ2 ⟨e1, e2⟩ hl
          have e3 : acc = (m.sold (a + b)).map PyData.int := by
            rw [e2, ← sold_add V a b]
            simp
          rw [e1, e3]
          refine ed_callP (ea_cons (ed_var rfl (ea_cons (ed_i0 (ed_var rfl (ed_var rfl ⟨_, _, rfl, rfl, ea_nil ⟨_, rfl, m, a + b, by rfl, V, by omega, ok_ints _, ok_ints _, ?_⟩⟩))))))
          have q3 : PyData.eqv (.list ((m.sold (a + b)).map PyData.int)) (intsD (m.sold (a + b))) = true := eq_self (ok_ints _)
          rw [q3]
          exact hP
    · have e4 : PyData.eqv (.list (((m.run a).2.filter farB).map PyData.int)) (.list []) = false := by
        cases hq : (m.run a).2.filter farB with
        | nil => exact absurd hq hf
        | cons x xs => simp [PyData.eqv, PyData.eqvAll]
      have e5 : PyData.eqv (.list (((m.run a).2.filter farB).map PyData.int)) (.list (([] : List Int).map PyData.int)) = false := e4
      rw [show (!PyData.eqv (.list (((m.run a).2.filter farB).map PyData.int)) (.list [])) = true by rw [e4]; rfl]
      exact iteT (sd_ret (ed_bl hP))
end K8


set_option Elab.async false
set_option linter.all false
set_option maxRecDepth 100000
set_option maxHeartbeats 1000000
namespace K8
open PySem PySem.Spec PyProof.Rows L2 GxR GA DX So
variable {K : PySem.W.Frag} {cs : List Addr} {Pt : Str → Addr}
theorem sd_law_runs_alike (xs : List PyData) (P : PyData → Prop) (h : C_law_runs_alike xs P) : xs.length ≤ 3 ∧ SD ⟨K, cs, []⟩ (t_law_runs_alike K cs Pt) (envP ["mart", "other", "many"] xs) (QP P) := by
  obtain ⟨m, m', d, rfl, V, V', hd, e, hP⟩ := h
  refine ⟨by simp, sd_ret (ed_and (ed_eqD (ed_callP (ea_cons (ed_var rfl (ea_cons (ed_var rfl (ea_nil ⟨_, rfl, m, d, rfl, V, hd, ?_⟩))))))))⟩
  refine ed_callP (ea_cons (ed_var rfl (ea_cons (ed_var rfl (ea_nil ⟨_, rfl, m', d, rfl, V', hd, ok_takes _, ok_takes _, _, rfl, ?_⟩)))))
  rw [← e]
  have q1 : PyData.eqv (takesD (m.run d).1) (takesD (m.run d).1) = true := eq_self (ok_takes _)
  rw [q1]
  refine iteT (ed_eqD (ed_callP (ea_cons (ed_var rfl (ea_cons (ed_var rfl (ea_nil ⟨_, rfl, m, d, rfl, V, hd, ?_⟩)))))))
  refine ed_callP (ea_cons (ed_var rfl (ea_cons (ed_var rfl (ea_nil ⟨_, rfl, m', d, rfl, V', hd, ok_ints _, ok_ints _, ?_⟩)))))
  rw [← e]
  have q2 : PyData.eqv (intsD (m.run d).2) (intsD (m.run d).2) = true := eq_self (ok_ints _)
  rw [q2]
  exact hP
/-- == of two lists of numbers and None -/
theorem eqv_os : ∀ us ws : List (Option Int), PyData.eqvAll (us.map oD) (ws.map oD) = decide (us = ws)
  | [], [] => rfl
  | [], w :: ws => by simp [PyData.eqvAll]
  | u :: us, [] => by simp [PyData.eqvAll]
  | u :: us, w :: ws => by
    have ih := eqv_os us ws
    cases u <;> cases w <;> simp [PyData.eqvAll, PyData.eqv, oD, ih]
    rw [Bool.eq_iff_iff]
    simp
theorem eqv_os1 (us ws : List (Option Int)) : PyData.eqv (.list (us.map oD)) (.list (ws.map oD)) = decide (us = ws) := by
  rw [PyData.eqv]
  exact eqv_os us ws
theorem sd_law_nobodies (xs : List PyData) (P : PyData → Prop) (h : C_law_nobodies xs P) : xs.length ≤ 4 ∧ SD ⟨K, cs, []⟩ (t_law_nobodies K cs Pt) (envP ["mart", "none", "rounds", "buyer"] xs) (QP P) := by
  obtain ⟨m, rfl, V, hP⟩ := h
  have h4 := V.g4
  have h6 := V.r6
  refine ⟨by simp, sd_seq (sd_set (by simp) (ed_ef (ef_rep (ef_lst (ea_cons (ed_non (ea_nil ⟨_, rfl, by decide, ?_⟩)))))))⟩
  refine ed_len (ea_cons (ed_ix (ed_var rfl (ed_int ⟨_, _, _, rfl, rfl, rfl, ea_nil ⟨_, rfl, _, m.goods.length, rfl, ?_, _, rfl, by omega, by omega, sz (by simp; omega), ?_⟩⟩))))
  · show some (m.goods.map goodD).length = _
    rw [List.length_map]
  have er : (List.replicate (m.goods.length : Int).toNat [PyData.none]).flatten = (List.replicate m.goods.length (none : Option Int)).map oD := by
    rw [Int.toNat_natCast]
    induction m.goods.length with
    | zero => rfl
    | succ n ih => rw [List.replicate_succ, List.flatten_cons, ih]; rfl
  rw [er]
  refine sd_seq (sd_setM (by simp) (by show 2 < 4; decide) (ef_lst (ea_nil ⟨_, rfl, by decide, ?_⟩)))
  refine sd_seq (sd_forL (vs := [3]) (ed_ix (ed_var rfl (ed_int ⟨_, _, _, rfl, rfl, rfl, m.rounds.map buyD, rfl,
    fun k δ => ∃ a, δ = [some (.d (martD m)), some (.d (.list ((List.replicate m.goods.length (none : Option Int)).map oD))), some (.m ((m.rounds.take k).map fun b => buyD (nobody m.goods.length b))), a], ⟨none, rfl⟩, ?_, ?_⟩))))
  · rintro k δ2 y hy ⟨a, rfl⟩
    rw [List.getElem?_map] at hy
    obtain ⟨c, hg, rfl⟩ := Option.map_eq_some_iff.mp hy
    have hk : k < m.rounds.length := (List.getElem?_eq_some_iff.mp hg).1
    refine dg_name (by simp) (by simp) ?_
    have fin : (m.rounds.take k).map (fun b => buyD (nobody m.goods.length b)) ++ [buyD (nobody m.goods.length c)] = (m.rounds.take (k + 1)).map fun b => buyD (nobody m.goods.length b) := (take_snoc _ hg).symm
    have hsz : ((m.rounds.take k).map fun b => buyD (nobody m.goods.length b)).length < sizeLine := by
      simp; exact Nat.lt_of_le_of_lt (show min k _ ≤ 6 by omega) (by decide)
    refine sd_append rfl (ed_if (dt_of (ed_isN (ed_var rfl ⟨_, rfl, ?_⟩))))
    cases c with
    | none =>
      refine iteT (ed_ef (ef_slice (ed_var rfl (do_none (do_none ⟨_, rfl, _, rfl, hsz, some (.d .none), ?_⟩)))))
      rw [cut_all, ← fin]
      rfl
    | some ws =>
      refine iteF (ed_if (dt_of (ed_eqD (ed_var rfl (ed_var rfl ⟨ok_takes ws, ok_takes _, _, rfl, ?_⟩)))))
      rw [show PyData.eqv (buyD (some ws)) (.list ((List.replicate m.goods.length (none : Option Int)).map oD)) = decide (ws = List.replicate m.goods.length none) from eqv_os1 _ _]
      by_cases hw : ws = List.replicate m.goods.length none
      · rw [decide_eq_true hw]
        refine iteT (ed_non ⟨_, rfl, hsz, some (.d (buyD (some ws))), ?_⟩)
        rw [← fin, show nobody m.goods.length (some ws) = none from if_pos hw]
        rfl
      · rw [decide_eq_false hw]
        refine iteF (ed_var rfl ⟨_, rfl, hsz, some (.d (buyD (some ws))), ?_⟩)
        rw [← fin, show nobody m.goods.length (some ws) = some ws from if_neg hw]
        rfl
  · rintro δ2 ⟨a, rfl⟩
    refine sd_freeze (i := 2) rfl (by simp) ?_
    refine sd_ret (ed_tup (ea_cons (ed_ix (ed_var rfl (ed_int ⟨_, _, _, rfl, rfl, rfl, ea_cons (ed_var rfl (ea_nil ⟨_, rfl, by show 2 ≤ sizeLine; decide, ?_⟩))⟩)))))
    have e4 : (m.rounds.take (m.rounds.map buyD).length).map (fun b => buyD (nobody m.goods.length b)) = (nobodies m).rounds.map buyD := by simp [nobodies]
    rw [e4]
    exact hP
theorem ins_map {α β : Type} (f : α → β) (a : Nat) (x : α) (l : List α) : (ins a x l).map f = (l.map f).take a ++ [f x] ++ (l.map f).drop a := by
  simp [ins]
theorem sd_law_one_more_right (ts xs : List PyData) (P : PyData → List PyData → Prop) (h : C_law_one_more_right ts xs P) : SD ⟨K, cs, [0]⟩ (t_law_one_more_right K cs Pt) (envT ["till", "mart", "many", "goods", "rounds", "at", "ware", "wider", "buyer", "wide", "tags", "found", "take"] ts xs) (QT P) := by
  obtain ⟨n, m, d, hT, hn, rfl, V, hd, hP⟩ := h
  have h4 := V.g4
  have h6 := V.r6
  have g1 := V.g1
  refine sd_seq (sd_asgT (vs := [3, 4]) (ed_var rfl (dg_tup rfl (dg_cons (dg_name (by simp) (by simp) (dg_cons (dg_name (by simp) (by simp) (dg_nil ?_))))))))
  refine sd_seq (sd_if (dt_of (ed_eqS (ed_len (ea_cons (ed_var rfl (ea_nil ⟨_, rfl, _, m.goods.length, rfl, ?_, ed_int ⟨_, rfl, _, rfl, ?_⟩⟩)))))))
  · show some (m.goods.map goodD).length = _
    rw [List.length_map]
  by_cases c4 : m.goods.length = 4
  · have e : ((m.goods.length : Int) == 4) = true := by simp; omega
    rw [e]
    exact iteT (sd_ret (ed_bl ⟨_, rfl, hP _ (hT.mono (by omega))⟩))
  have e : ((m.goods.length : Int) == 4) = false := by simp; omega
  rw [e]
  refine iteF (sd_next ?_)
  refine sd_seq (sd_set (by simp) (ed_callT rfl (ea_cons (ed_i0 (ed_len (ea_cons (ed_var rfl (ea_nil ⟨_, rfl, _, m.goods.length, rfl, ?_, ed_int ⟨_, _, rfl, rfl, ea_nil ⟨_, _, rfl, rfl, pull hT (by omega) (by omega) (by omega) fun r ts1 r0 r1 hT1 => ?_⟩⟩⟩))))))))
  · show some (m.goods.map goodD).length = _
    rw [List.length_map]
  obtain ⟨a, rfl⟩ : ∃ a : Nat, r = (a : Nat) := ⟨r.toNat, by omega⟩
  have ha : a ≤ m.goods.length := by omega
  refine sd_seq (sd_set (by simp) (ed_tup (ea_cons (ed_i0 (ed_int (ed_callT rfl (ea_cons (ed_int (ea_nil ⟨_, _, rfl, rfl, pull hT1 (by omega) (by decide) (by decide) fun u1 ts2 u10 u11 hT2 => ⟨_, _, rfl, rfl, ?_⟩⟩)))))))))
  refine ea_cons (ed_i0 (ed_int (ed_callT rfl (ea_cons (ed_int (ea_nil ⟨_, _, rfl, rfl, pull hT2 (by omega) (by decide) (by decide) fun u2 ts3 u20 u21 hT3 => ⟨_, _, rfl, rfl, ?_⟩⟩))))))
  refine ea_cons (ed_i0 (ed_callT rfl (ea_cons (ed_int (ea_nil ⟨_, _, rfl, rfl, pull hT3 (by omega) (by decide) (by decide) fun u3 ts4 u30 u31 hT4 => ed_int ⟨_, _, rfl, rfl, ea_nil ⟨_, rfl, by show 3 ≤ sizeLine; decide, ?_⟩⟩⟩)))))
  have hfin := hP ts4 (hT4.mono (by omega))
  obtain ⟨g, hg⟩ : ∃ g : So.Good, g = (1 + u1, 1 + u2, u3 - 99) := ⟨_, rfl⟩
  have hgv : VGood g := by
    rw [hg]
    exact ⟨⟨by show 1 ≤ 1 + u1; omega, by show 1 + u1 ≤ 4; omega⟩, ⟨by show 1 ≤ 1 + u2; omega, by show 1 + u2 ≤ 4; omega⟩, by show -99 ≤ u3 - 99; omega, by show u3 - 99 ≤ 99; omega⟩
  have eg : PyData.tuple ((fun x => PyData.int (1 + u1) :: x) ((fun x => PyData.int (1 + u2) :: x) ((fun x => PyData.int (u3 - 99) :: x) []))) = goodD g := by rw [hg]; rfl
  rw [eg]
  have W := wide_valid V ha c4 hgv
  have WR := wide_run V (g := g) ha d
  refine sd_seq (sd_set (by simp) (ed_ef (ef_lcL (by simp) (ed_var rfl ⟨m.rounds.map buyD, rfl, sz (by simp; omega),
    fun k acc δ => δ = [some (.m ts4), some (.d (martD m)), some (.d (.int (d : Nat))), some (.d (goodsD m.goods)), some (.d (roundsD m.rounds)), some (.d (.int (a : Nat))), some (.d (goodD g)), none, none, none, none, none, none] ∧ acc = (m.rounds.take k).map fun b => buyD (b.map (ins a none)), ⟨rfl, rfl⟩, ?_, ?_⟩))))
  · rintro k acc δ2 y hy ⟨e1, e2⟩ hl
    rw [List.getElem?_map] at hy
    obtain ⟨c, hc, rfl⟩ := Option.map_eq_some_iff.mp hy
    rw [e1]
    refine dg_name (by simp) (by simp) (dt_yes (iteT (ed_if (dt_of (ed_isN (ed_var rfl ⟨_, rfl, ?_⟩))))))
    cases c with
    | none => exact iteT (ed_non ⟨rfl, by rw [e2, take_snoc _ hc]; rfl⟩)
    | some ws =>
      have hw := (V.rs _ (List.mem_of_getElem? hc) ws rfl).1
      refine iteF (ed_ef (ef_cat (ed_ef (ef_cat (ed_ef (ef_slice (ed_var rfl (do_none (do_some (ed_var rfl ⟨_, rfl, _, rfl, ?_⟩))))))))))
      refine ed_ef (ef_lst (ea_cons (ed_non (ea_nil ⟨_, rfl, by decide, _, _, rfl, rfl, sz ?_, ?_⟩))))
      · rw [cut_to]; simp; omega
      refine ed_ef (ef_slice (ed_var rfl (do_some (ed_var rfl ⟨_, rfl, do_none ⟨_, rfl, _, _, rfl, rfl, sz ?_, rfl, ?_⟩⟩))))
      · rw [cut_to, cut_from]; simp; omega
      · rw [e2, take_snoc _ hc, cut_to, cut_from]
        show _ = _ ++ [PyData.list ((ins a none ws).map oD)]
        rw [ins_map]
        rfl
  · rintro acc δ2 ⟨e1, e2⟩ hl
    rw [e1]
    have e3 : acc = (wide m a g).rounds.map buyD := by
      rw [e2]
      simp [wide]
    rw [e3]
    refine sd_seq (sd_set (by simp) (ed_tup (ea_cons (ed_ef (ef_cat (ed_ef (ef_cat (ed_ef (ef_slice (ed_var rfl (do_none (do_some (ed_var rfl ⟨_, rfl, _, rfl, ?_⟩)))))))))))))
    refine ed_ef (ef_lst (ea_cons (ed_var rfl (ea_nil ⟨_, rfl, by show 1 ≤ sizeLine; decide, _, _, rfl, rfl, sz ?_, ?_⟩))))
    · rw [cut_to]; simp; omega
    refine ed_ef (ef_slice (ed_var rfl (do_some (ed_var rfl ⟨_, rfl, do_none ⟨_, rfl, _, _, rfl, rfl, sz ?_, ?_⟩⟩))))
    · rw [cut_to, cut_from]; simp; omega
    refine ea_cons (ed_var rfl (ea_nil ⟨_, rfl, by show 2 ≤ sizeLine; decide, ?_⟩))
    have eW : PyData.tuple [.list (DX.cutD (m.goods.map goodD) none (some (a : Int)) ++ [goodD g] ++ DX.cutD (m.goods.map goodD) (some (a : Int)) none), .list ((wide m a g).rounds.map buyD)] = martD (wide m a g) := by
      rw [cut_to, cut_from, ← ins_map]
      rfl
    rw [eW]
    refine sd_seq (sd_set (by simp) (ed_callP (ea_cons (ed_var rfl (ea_cons (ed_var rfl (ea_nil ⟨_, rfl, wide m a g, d, rfl, W, hd, ?_⟩)))))))
    refine sd_seq (sd_set (by simp) (ed_ef (ef_lcL (by simp) (ed_callP (ea_cons (ed_var rfl (ea_cons (ed_var rfl (ea_nil ⟨_, rfl, wide m a g, d, rfl, W, hd, ((wide m a g).run d).1.map oD, rfl, sz (by rw [List.length_map, run_l1]; omega),
      fun k acc δ => δ = [some (.m ts4), some (.d (martD m)), some (.d (.int (d : Nat))), some (.d (goodsD m.goods)), some (.d (roundsD m.rounds)), some (.d (.int (a : Nat))), some (.d (goodD g)), some (.d (.list ((wide m a g).rounds.map buyD))), none, some (.d (martD (wide m a g))), some (.d (intsD ((wide m a g).run d).2)), none, none] ∧ acc = (((wide m a g).run d).1.take k).map fun t => oD (unsh a t), ⟨rfl, rfl⟩, ?_, ?_⟩)))))))))
    · rintro k acc δ2 y hy ⟨e1, e2⟩ hl
      rw [List.getElem?_map] at hy
      obtain ⟨c, hc, rfl⟩ := Option.map_eq_some_iff.mp hy
      rw [e1]
      refine dg_name (by simp) (by simp) (dt_yes (iteT (ed_if (dt_or (dt_of (ed_isN (ed_var rfl ⟨_, rfl, ?_⟩)))))))
      cases c with
      | none => exact iteT (iteT (ed_var rfl ⟨rfl, by rw [e2, take_snoc _ hc]; rfl⟩))
      | some i =>
        refine iteF (dt_of (ed_b0 (ed_var rfl (ed_var rfl ⟨_, _, rfl, rfl, _, rfl, ?_⟩))))
        by_cases hi : i < (a : Int)
        · rw [decide_eq_true hi]
          exact iteT (ed_var rfl ⟨rfl, by rw [e2, take_snoc _ hc, show unsh a (some i) = some i from if_pos hi]⟩)
        · rw [decide_eq_false hi]
          exact iteF (ed_i0 (ed_var rfl (ed_int ⟨_, _, rfl, rfl, rfl, by rw [e2, take_snoc _ hc, show unsh a (some i) = some (i - 1) from if_neg hi]; rfl⟩)))
    · rintro acc δ2 ⟨e1, e2⟩ hl
      rw [e1]
      have e5 : acc = (m.run d).1.map oD := by
        rw [e2, WR]
        show (((m.run d).1.map (sh a)).take (((m.run d).1.map (sh a)).map oD).length).map (fun t => oD (unsh a t)) = _
        rw [List.length_map, List.take_length, List.map_map]
        refine List.map_congr_left fun t _ => ?_
        show oD (unsh a (sh a t)) = _
        rw [unsh_sh]
      rw [e5]
      have hsold : ((wide m a g).sold d)[a]? = some 0 := by
        unfold Mart.sold
        have hla : a < (wide m a g).goods.length := by
          have : (wide m a g).goods.length = m.goods.length + 1 := ins_len ha
          omega
        rw [List.getElem?_map, List.getElem?_range hla, WR]
        show some (((((m.run d).1.map (sh a)).count (some (a : Int)) : Nat) : Int)) = _
        rw [count_sh]
        rfl
      refine sd_seq (sd_if (dt_or (dt_of (ed_neS (ed_ix (ed_callP (ea_cons (ed_var rfl (ea_cons (ed_var rfl (ea_nil ⟨_, rfl, wide m a g, d, rfl, W, hd, ?_⟩)))))))))))
      refine ed_var rfl ⟨_, _, .int 0, rfl, rfl, atI_nat (by rw [List.getElem?_map, hsold]; rfl), ed_int ⟨_, rfl, _, rfl, iteF ?_⟩⟩
      refine dt_of (ed_neD (ed_var rfl (ed_callP (ea_cons (ed_var rfl (ea_cons (ed_var rfl (ea_nil ⟨_, rfl, m, d, rfl, V, hd, ok_takes _, ok_takes _, _, rfl, ?_⟩))))))))
      have q1 : PyData.eqv (.list ((m.run d).1.map oD)) (takesD (m.run d).1) = true := eq_self (ok_takes _)
      rw [q1]
      refine iteF (sd_next ?_)
      have e6 : ((wide m a g).run d).2 = ins a (g.2.2 - g.2.1 * d) (m.run d).2 := by rw [WR]
      rw [e6]
      have l2 := run_l2 m d
      refine sd_ret (ed_and (ed_eqS (ed_ix (ed_var rfl (ed_var rfl ⟨_, _, .int (g.2.2 - g.2.1 * d), rfl, rfl, ?_, ?_⟩)))))
      · refine atI_nat ?_
        rw [List.getElem?_map]
        have := ins_get (a := a) (x := g.2.2 - g.2.1 * d) (d := 0) (l := (m.run d).2) (by omega) a
        rw [if_neg (by omega), if_pos rfl] at this
        have hlt : a < (ins a (g.2.2 - g.2.1 * d) (m.run d).2).length := by rw [ins_len (by omega)]; omega
        rw [gD_lt _ _ hlt] at this
        rw [List.getElem?_eq_getElem hlt, this]
        rfl
      refine ed_i0 (ed_ix (ed_var rfl (ed_int ⟨_, _, _, rfl, rfl, rfl, ed_ic (ed_ix (ed_var rfl (ed_int ⟨_, _, _, rfl, rfl, rfl, ed_var rfl ⟨_, _, rfl, rfl, wide_mul (a := 10) (b := 20) ?_ ?_ (by decide) (by decide) (by decide), _, _, rfl, rfl, _, rfl, _, rfl, ?_⟩⟩)))⟩)))
      · have := hgv.2.1
        omega
      · omega
      have q7 : ((g.2.2 - g.2.1 * d == g.2.2 - g.2.1 * (d : Int)) : Bool) = true := by simp
      rw [q7]
      refine iteT (ed_eqD (ed_ef (ef_cat (ed_ef (ef_slice (ed_var rfl (do_none (do_some (ed_var rfl ⟨_, rfl, _, rfl, ?_⟩)))))))))
      refine ed_ef (ef_slice (ed_var rfl (do_some (ed_i0 (ed_var rfl (ed_int ⟨_, _, rfl, rfl, _, rfl, do_none ⟨_, rfl, _, _, rfl, rfl, sz ?_, ?_⟩⟩))))))
      · rw [cut_to, show ((a : Int) + 1) = ((a + 1 : Nat) : Int) by omega, cut_from]
        simp [ins_len (show a ≤ (m.run d).2.length by omega)]
        omega
      have e8 : DX.cutD ((ins a (g.2.2 - g.2.1 * d) (m.run d).2).map PyData.int) none (some (a : Int)) ++ DX.cutD ((ins a (g.2.2 - g.2.1 * d) (m.run d).2).map PyData.int) (some ((a : Int) + 1)) none = (m.run d).2.map PyData.int := by
        rw [cut_to, show ((a : Int) + 1) = ((a + 1 : Nat) : Int) by omega, cut_from, ← List.map_take, ← List.map_drop, ← List.map_append, ins_cut (by omega)]
      rw [e8]
      refine ed_callP (ea_cons (ed_var rfl (ea_cons (ed_var rfl (ea_nil ⟨_, rfl, m, d, rfl, V, hd, ok_ints _, ok_ints _, ts4, rfl, ?_⟩)))))
      have q9 : PyData.eqv (.list ((m.run d).2.map PyData.int)) (intsD (m.run d).2) = true := eq_self (ok_ints _)
      rw [q9]
      exact hfin
end K8


set_option Elab.async false
set_option linter.all false
set_option maxRecDepth 100000
set_option maxHeartbeats 1000000
namespace K8
open PySem PySem.Spec PyProof.Rows L2 GxR GA DX So
variable {K : PySem.W.Frag} {cs : List Addr} {Pt : Str → Addr}
theorem sd_law (xs : List PyData) (P : PyData → Prop) (h : C_law xs P) : xs.length ≤ 7 ∧ SD ⟨K, cs, []⟩ (t_law K cs Pt) (envP ["script", "k", "till", "mart", "first", "more", "twice"] xs) (QP P) := by
  obtain ⟨ns, rfl, hl, hP⟩ := h
  refine ⟨by simp, sd_seq (sd_forR (by simp) (ea_cons (ed_max2 (ea_cons (ed_int (ea_cons (ed_min2 (ea_cons (ed_int (ea_cons (ed_len (ea_cons (ed_var rfl (ea_nil ⟨_, rfl, _, (ns.map PyData.int).length, rfl, rfl, ?_⟩))))))))))))))⟩
  refine ea_nil ⟨_, rfl, _, _, rfl, ea_nil ⟨_, rfl, _, _, rfl, ?_⟩⟩
  obtain ⟨N, hN, hN4⟩ : ∃ N : Int, N = (if (if ((ns.map PyData.int).length : Int) < 4 then ((ns.map PyData.int).length : Int) else 4) > 1 then (if ((ns.map PyData.int).length : Int) < 4 then ((ns.map PyData.int).length : Int) else 4) else 1) ∧ N ≤ 4 ∧ 1 ≤ N := ⟨_, rfl, by split <;> split <;> omega, by split <;> split <;> omega⟩
  rw [← hN]
  refine ea_nil ⟨_, rfl, by omega, by omega, fun k δ => ∃ a b c d e f, δ = [some (.d (scrD ns)), a, b, c, d, e, f], ⟨none, none, none, none, none, none, rfl⟩, ?_, ?_⟩
  · rintro k δ2 hk ⟨_, b, c, d, e, f, rfl⟩
    refine sd_seq (sd_setM (by simp) (by show 2 < 7; decide) (ef_callF (ea_cons (ed_var rfl (ea_cons (ed_var rfl (ea_nil ⟨_, rfl, ns, k, rfl, by omega, fun ts hT => ?_⟩)))))))
    refine sd_seq (sd_set (by simp) (ed_callT rfl (ea_cons (ed_callT rfl (ea_nil ⟨_, _, rfl, rfl, 0, hT, by decide, rfl, fun m0 ts1 V0 hT1 => ea_nil ⟨_, _, rfl, rfl, _, m0, hT1, by decide, rfl, V0, fun m ts2 V hT2 => ?_⟩⟩)))))
    refine sd_seq (sd_set (by simp) (ed_callT rfl (ea_cons (ed_int (ea_nil ⟨_, _, rfl, rfl, pull hT2 (by decide) (by decide) (by decide) fun r ts3 r0 r1 hT3 => ?_⟩)))))
    obtain ⟨a, rfl⟩ : ∃ a : Nat, r = (a : Nat) := ⟨r.toNat, by omega⟩
    refine sd_seq (sd_set (by simp) (ed_callT rfl (ea_cons (ed_int (ea_nil ⟨_, _, rfl, rfl, pull hT3 (by decide) (by decide) (by decide) fun r ts4 r0 r1 hT4 => ?_⟩)))))
    obtain ⟨b, rfl⟩ : ∃ b : Nat, r = (b : Nat) := ⟨r.toNat, by omega⟩
    have R := later_run m V.r1 a b
    refine sd_seq (sd_if (dt_or (dt_of (ed_neD (ed_callP (ea_cons (ed_var rfl (ea_cons (ed_var rfl (ea_nil ⟨_, rfl, m, a, rfl, V, by omega, ?_⟩))))))))))
    refine ed_ef (ef_slice (ed_callP (ea_cons (ed_var rfl (ea_cons (ed_i0 (ed_var rfl (ed_var rfl ⟨_, _, rfl, rfl, ea_nil ⟨_, rfl, m, a + b, by rfl, V, by omega, do_none (do_some (ed_var rfl ⟨_, rfl, _, rfl, ok_takes _, ?_, _, rfl, ?_⟩))⟩⟩))))))))
    · rw [cut_to, ← List.map_take]
      exact ok_takes _
    have d1 : (m.run (a + b)).1.take a = (m.run a).1 := by
      rw [R]
      show ((m.run a).1 ++ ((later m a).run b).1).take a = _
      rw [List.take_append_of_le_length (by rw [run_l1]; omega), List.take_of_length_le (by rw [run_l1]; omega)]
    rw [cut_to, ← List.map_take, d1]
    have q1 : PyData.eqv (takesD (m.run a).1) (.list ((m.run a).1.map oD)) = true := eq_self (ok_takes _)
    rw [q1]
    refine iteF (dt_not (dt_ofB (ed_callP (ea_cons (ed_var rfl (ea_cons (ed_var rfl (ea_cons (ed_var rfl (ea_nil ⟨_, rfl, m, a, b, rfl, V, by omega, _, rfl, iteF (sd_next ?_)⟩))))))))))
    refine sd_seq (sd_if (dt_not (dt_ofB (ed_callP (ea_cons (ed_var rfl (ea_cons (ed_callP (ea_cons (ed_var rfl (ea_nil ⟨_, rfl, m, rfl, V, ?_⟩)))))))))))
    refine ea_cons (ed_i0 (ed_var rfl (ed_var rfl ⟨_, _, rfl, rfl, ea_nil ⟨_, rfl, m, nobodies m, a + b, by rfl, V, nobodies_valid V, by omega, (nobodies_run m V.r1 _).symm, _, rfl, iteF (sd_next ?_)⟩⟩)))
    refine sd_seq (sd_set (by simp) (ed_tup (ea_cons (ed_ix (ed_var rfl (ed_int ⟨_, _, _, rfl, rfl, rfl, ?_⟩))))))
    refine ea_cons (ed_ef (ef_cat (ed_ix (ed_var rfl (ed_int ⟨_, _, _, rfl, rfl, rfl, ed_ix (ed_var rfl (ed_int ⟨_, _, _, rfl, rfl, rfl, _, _, rfl, rfl, sz ?_, ea_nil ⟨_, rfl, by show 2 ≤ sizeLine; decide, ?_⟩⟩))⟩)))))
    · have := V.r6; simp; omega
    have eT : PyData.tuple [goodsD m.goods, .list (m.rounds.map buyD ++ m.rounds.map buyD)] = martD (twice m) := by
      simp [martD, So.twice, roundsD]
    rw [eT]
    have fin : SD ⟨K, cs, []⟩ (tIfS (tNot (tB (tCall (spT K cs C_law_one_more_right) [] E0 (tCons (tVar 2) (tCons (tVar 3) (tCons (tOp (rI0 fun i j => .int (i + j)) (tVar 4) (tVar 5)) tNil)))))) (tRet (tC (.bl false))) tNext)
        [some (.d (scrD ns)), some (.d (.int (k : Nat))), some (.m ts4), some (.d (martD m)), some (.d (.int (a : Nat))), some (.d (.int (b : Nat))), some (.d (martD (twice m)))]
        (Lp (Then ⟨K, cs, []⟩ (tRet (tC (.bl true))) (QP P)) fun δ => ∃ a b c d e f, δ = [some (.d (scrD ns)), a, b, c, d, e, f]) := by
      refine sd_if (dt_not (dt_ofB (ed_callT rfl (ea_cons (ed_var rfl (ea_cons (ed_i0 (ed_var rfl (ed_var rfl ⟨_, _, rfl, rfl, ea_nil ⟨_, _, rfl, rfl, _, m, a + b, hT4, by decide, by rfl, V, by omega, fun ts' hT' => ⟨_, rfl, iteF (sd_next ⟨some (.d (.int (k : Nat))), some (.m ts'), some (.d (martD m)), some (.d (.int (a : Nat))), some (.d (.int (b : Nat))), some (.d (martD (twice m))), rfl⟩)⟩⟩⟩)))))))))
    refine sd_seq (sd_if (dt_and (dt_of (ed_b0 (ed_len (ea_cons (ed_ix (ed_var rfl (ed_int ⟨_, _, _, rfl, rfl, rfl, ea_nil ⟨_, rfl, _, m.rounds.length, rfl, ?_, ed_int ⟨_, _, rfl, rfl, _, rfl, ?_⟩⟩⟩)))))))))
    · show some (m.rounds.map buyD).length = _
      rw [List.length_map]
    by_cases hc : (m.rounds.length : Int) < 4
    · rw [decide_eq_true hc]
      refine iteT (dt_not (dt_ofB (ed_callP (ea_cons (ed_var rfl (ea_cons (ed_var rfl (ea_cons (ed_i0 (ed_var rfl (ed_var rfl ⟨_, _, rfl, rfl, ea_nil ⟨_, rfl, m, twice m, a + b, by rfl, V, twice_valid V (by omega), by omega, (twice_run m V.r1 _).symm, _, rfl, iteF (sd_next fin)⟩⟩)))))))))))
    · rw [decide_eq_false hc]
      exact iteF (iteF (sd_next fin))
  · rintro δ2 ⟨a, b, c, d, e, f, rfl⟩
    exact sd_ret (ed_bl hP)
end K8


set_option Elab.async false
set_option linter.all false
set_option maxRecDepth 100000
set_option maxHeartbeats 1000000
namespace K8
open PySem PySem.Spec PyProof.Rows L2 GxR GA DX So
abbrev FnP (K : PySem.W.Frag) (x : Str) (st : Stmt) (f : Addr) (fd : FuncData) : Prop := FunD K x x (defArgs st) (defBody st) (defScope st) [] [] f fd
structure Fc (K : PySem.W.Frag) (mg : Str → Option Value) (base : Heap) (A : Str → Addr) (D : Str → FuncData) (Pt Ct : Str → Addr) (tk : Str → Tok) (cs : List Addr) : Prop where
  all_ : mg "all" = none
  bool_ : mg "bool" = none
  enumerate_ : mg "enumerate" = none
  int_ : mg "int" = none
  isinstance_ : mg "isinstance" = none
  len_ : mg "len" = none
  list_ : mg "list" = none
  max_ : mg "max" = none
  min_ : mg "min" = none
  range_ : mg "range" = none
  tuple_ : mg "tuple" = none
  g_MOST_GOODS : mg "MOST_GOODS" = some (.int 4 (tk "MOST_GOODS"))
  g_MOST_DAYS_OF_ROUND : mg "MOST_DAYS_OF_ROUND" = some (.int 6 (tk "MOST_DAYS_OF_ROUND"))
  g_MOST_STEP : mg "MOST_STEP" = some (.int 4 (tk "MOST_STEP"))
  g_MOST_WORTH : mg "MOST_WORTH" = some (.int 99 (tk "MOST_WORTH"))
  g_MOST_DAYS : mg "MOST_DAYS" = some (.int 4000 (tk "MOST_DAYS"))
  d_is_whole : FnP K "is_whole" s_is_whole (A "is_whole") (D "is_whole") ∧ mg "is_whole" = some (.ref (A "is_whole"))
  d_is_within : FnP K "is_within" s_is_within (A "is_within") (D "is_within") ∧ mg "is_within" = some (.ref (A "is_within"))
  d_is_step : FnP K "is_step" s_is_step (A "is_step") (D "is_step") ∧ mg "is_step" = some (.ref (A "is_step"))
  d_is_worth : FnP K "is_worth" s_is_worth (A "is_worth") (D "is_worth") ∧ mg "is_worth" = some (.ref (A "is_worth"))
  d_is_good : FnP K "is_good" s_is_good (A "is_good") (D "is_good") ∧ mg "is_good" = some (.ref (A "is_good"))
  d_is_list_of_goods : FnP K "is_list_of_goods" s_is_list_of_goods (A "is_list_of_goods") (D "is_list_of_goods") ∧ mg "is_list_of_goods" = some (.ref (A "is_list_of_goods"))
  d_is_buyer : FnP K "is_buyer" s_is_buyer (A "is_buyer") (D "is_buyer") ∧ mg "is_buyer" = some (.ref (A "is_buyer"))
  d_is_round : FnP K "is_round" s_is_round (A "is_round") (D "is_round") ∧ mg "is_round" = some (.ref (A "is_round"))
  d_is_market : FnP K "is_market" s_is_market (A "is_market") (D "is_market") ∧ mg "is_market" = some (.ref (A "is_market"))
  d_check_market : FnP K "check_market" s_check_market (A "check_market") (D "check_market") ∧ mg "check_market" = some (.ref (A "check_market"))
  d_starts_of : FnP K "starts_of" s_starts_of (A "starts_of") (D "starts_of") ∧ mg "starts_of" = some (.ref (A "starts_of"))
  d_buyer_at : FnP K "buyer_at" s_buyer_at (A "buyer_at") (D "buyer_at") ∧ mg "buyer_at" = some (.ref (A "buyer_at"))
  d_taken_by : FnP K "taken_by" s_taken_by (A "taken_by") (D "taken_by") ∧ mg "taken_by" = some (.ref (A "taken_by"))
  d_moved : FnP K "moved" s_moved (A "moved") (D "moved") ∧ mg "moved" = some (.ref (A "moved"))
  d_check_days : FnP K "check_days" s_check_days (A "check_days") (D "check_days") ∧ mg "check_days" = some (.ref (A "check_days"))
  d_run_of : FnP K "run_of" s_run_of (A "run_of") (D "run_of") ∧ mg "run_of" = some (.ref (A "run_of"))
  d_takes : FnP K "takes" s_takes (A "takes") (D "takes") ∧ mg "takes" = some (.ref (A "takes"))
  d_prices_at : FnP K "prices_at" s_prices_at (A "prices_at") (D "prices_at") ∧ mg "prices_at" = some (.ref (A "prices_at"))
  d_sold : FnP K "sold" s_sold (A "sold") (D "sold") ∧ mg "sold" = some (.ref (A "sold"))
  d_law_till : FnP K "_law_till" s_law_till (A "_law_till") (D "_law_till") ∧ mg "_law_till" = some (.ref (A "_law_till"))
  d_law_pull : FnP K "_law_pull" s_law_pull (A "_law_pull") (D "_law_pull") ∧ mg "_law_pull" = some (.ref (A "_law_pull"))
  d_law_near : FnP K "_law_near" s_law_near (A "_law_near") (D "_law_near") ∧ mg "_law_near" = some (.ref (A "_law_near"))
  d_law_buyer : FnP K "_law_buyer" s_law_buyer (A "_law_buyer") (D "_law_buyer") ∧ mg "_law_buyer" = some (.ref (A "_law_buyer"))
  d_law_market : FnP K "_law_market" s_law_market (A "_law_market") (D "_law_market") ∧ mg "_law_market" = some (.ref (A "_law_market"))
  d_law_calm : FnP K "_law_calm" s_law_calm (A "_law_calm") (D "_law_calm") ∧ mg "_law_calm" = some (.ref (A "_law_calm"))
  d_law_goes_on : FnP K "_law_goes_on" s_law_goes_on (A "_law_goes_on") (D "_law_goes_on") ∧ mg "_law_goes_on" = some (.ref (A "_law_goes_on"))
  d_law_runs_alike : FnP K "_law_runs_alike" s_law_runs_alike (A "_law_runs_alike") (D "_law_runs_alike") ∧ mg "_law_runs_alike" = some (.ref (A "_law_runs_alike"))
  d_law_nobodies : FnP K "_law_nobodies" s_law_nobodies (A "_law_nobodies") (D "_law_nobodies") ∧ mg "_law_nobodies" = some (.ref (A "_law_nobodies"))
  d_law_one_more_right : FnP K "_law_one_more_right" s_law_one_more_right (A "_law_one_more_right") (D "_law_one_more_right") ∧ mg "_law_one_more_right" = some (.ref (A "_law_one_more_right"))
  d_law : FnP K "law" s_law (A "law") (D "law") ∧ mg "law" = some (.ref (A "law"))
  tb_is_list_of_goods : (D "is_list_of_goods").code = .ref (Ct "is_list_of_goods") ∧ TabB base mg (Ct "is_list_of_goods") (Pt "is_list_of_goods") ∧ Pt "is_list_of_goods" ∈ cs
  tb_is_buyer : (D "is_buyer").code = .ref (Ct "is_buyer") ∧ TabB base mg (Ct "is_buyer") (Pt "is_buyer") ∧ Pt "is_buyer" ∈ cs
  tb_is_round : (D "is_round").code = .ref (Ct "is_round") ∧ TabB base mg (Ct "is_round") (Pt "is_round") ∧ Pt "is_round" ∈ cs
section
variable {CX : CXT} {P : Program} {w : World} {K : PySem.W.Frag} {mg : Str → Option Value} {base : Heap} {x qual : Str} {params : Arguments} {body : List Stmt} {scope : Scope} {dvs : List V} {kws : List (Str × V)} {f : Addr} {fd : FuncData}
theorem okC {N ps : List Str} {k : Nat} {sp : Sp} {c : Addr} (F : FunD K x qual params body scope dvs kws f fd) (S : FnScope N ps scope) (hc : fd.code = .ref c) (len : ∀ vs H Q E, sp vs H Q E → vs.length = ps.length)
    (hbody : ∀ (A : Around) (outer : List Env) (s : Shared) (H : Hp) (vs : List V) (Q : VK) (E : XK), Room k (A.deeper (envOfC qual scope s.heap.objs.size f (.ref c))) → sp vs H Q E →
      ∃ t, PSs (cxOf CX P w K mg base N qual scope f (.ref c) A outer s H E) body t ∧ t { nx := fun _ H' => Q .non H', rt := Q } (start N vs) H) : FnOk P w K mg base CX (k + 1) f fd ps sp := by
  obtain ⟨oc, od, dV, kV, doc, pm, an, cdv, ct, osl, rfl, lk, hcd, _, _⟩ := F.ex
  have hc : cdv = .ref c := hc
  subst hc
  exact fn_of lk hcd S len hbody
theorem lenP {K : PySem.W.Frag} {cs : List Addr} {C : CtP} {n : Nat} (h : ∀ xs P, C xs P → xs.length = n) (vs : List V) (H : Hp) (Q : VK) (E : XK) (hs : spP K cs C vs H Q E) : vs.length = n := by
  obtain ⟨xs, P, X0, c, r, _⟩ := hs
  rw [← r.len]
  exact h xs P c
theorem lenF {K : PySem.W.Frag} {cs : List Addr} {C : CtF} {n : Nat} (h : ∀ xs P, C xs P → xs.length = n) (vs : List V) (H : Hp) (Q : VK) (E : XK) (hs : spF K cs C vs H Q E) : vs.length = n := by
  obtain ⟨xs, P, X0, c, r, _⟩ := hs
  rw [← r.len]
  exact h xs P c
theorem lenT {K : PySem.W.Frag} {cs : List Addr} {C : CtT} {n : Nat} (h : ∀ ts xs P, C ts xs P → xs.length + 1 = n) (vs : List V) (H : Hp) (Q : VK) (E : XK) (hs : spT K cs C vs H Q E) : vs.length = n := by
  obtain ⟨a, vs', ws, ts, xs, P, X0, rfl, _, _, _, r, c, _⟩ := hs
  rw [List.length_cons, ← r.len]
  exact h ts xs P c
end
section
variable {P : Program} {w : World} {K : PySem.W.Frag} {mg : Str → Option Value} {base : Heap} {A : Str → Addr} {D : Str → FuncData} {Pt Ct : Str → Addr} {tk : Str → Tok} {cs : List Addr}
theorem bd_is_whole (T : Fc K mg base A D Pt Ct tk cs) : Binds K (D "is_whole") ["thing"] [] := T.d_is_whole.1.bindsN fun _ _ _ _ _ _ us hl => match us, hl with | [_], _ => rfl
theorem fok_is_whole (T : Fc K mg base A D Pt Ct tk cs) : FnOk P w K mg base CX0 1 (A "is_whole") (D "is_whole") ["thing"] (spP K cs C_is_whole) := by
  refine T.d_is_whole.1.ok sc_is_whole (lenP fun xs P h => by obtain ⟨_, rfl, _⟩ := h; rfl) (fun cdv A0 outer s H vs Q E hr h => ⟨t_is_whole K cs Pt, PSs.nox ?_, body_P (fun xs P h => sd_is_whole xs P h) h⟩)
  exact (pss_one (ps_ret (pe_and (pe_callB call_isi (by rfl) T.isinstance_ (by decide +kernel) (pa_cons (pv 0) (pa_cons (pe_bltn (v := .ty "int") (u := .type "int") (by rfl) T.int_ (by decide +kernel) (by rfl)) pa_nil))) (pe_one (pe_not (pe_callB call_isi (by rfl) T.isinstance_ (by decide +kernel) (pa_cons (pv 0) (pa_cons (pe_bltn (v := .ty "bool") (u := .type "bool") (by rfl) T.bool_ (by decide +kernel) (by rfl)) pa_nil))))))))
theorem bd_starts_of (T : Fc K mg base A D Pt Ct tk cs) : Binds K (D "starts_of") ["market"] [] := T.d_starts_of.1.bindsN fun _ _ _ _ _ _ us hl => match us, hl with | [_], _ => rfl
theorem fok_starts_of (T : Fc K mg base A D Pt Ct tk cs) : FnOk P w K mg base CX0 1 (A "starts_of") (D "starts_of") ["market"] (spP K cs C_starts_of) := by
  refine T.d_starts_of.1.ok sc_starts_of (lenP fun xs P h => by obtain ⟨_, rfl, _⟩ := h; rfl) (fun cdv A0 outer s H vs Q E hr h => ⟨t_starts_of K cs Pt, PSs.nox ?_, body_P (fun xs P h => sd_starts_of xs P h) h⟩)
  exact (pss_one (ps_ret (pe_lc (own := [("_", 1), ("start", 2)]) rfl sc_starts_of.nd (pi_list (pe_ix ix_seq (pv 0) pe_int (fun _ _ => rfl))) (blkOk_by (own := [("_", 1), ("start", 2)]) (N := ["market", "_", "start"]) (sc := defScope s_starts_of) (by decide +kernel)) (fun _ _ _ _ _ => (pg_tup rfl (pgs_cons (pg_name (i := 1) sc_starts_of.nd rfl (by first | exact Or.inl rfl | exact Or.inr rfl)) (pgs_cons (pg_name (i := 1) sc_starts_of.nd rfl (by first | exact Or.inl rfl | exact Or.inr rfl)) (pgs_cons (pg_name (i := 2) sc_starts_of.nd rfl (by first | exact Or.inl rfl | exact Or.inr rfl)) pgs_nil))))) (fun _ _ _ _ _ => pts_nil) (fun _ _ _ _ _ => (pv 2)))))
theorem bd_buyer_at (T : Fc K mg base A D Pt Ct tk cs) : Binds K (D "buyer_at") ["market", "day"] [] := T.d_buyer_at.1.bindsN fun _ _ _ _ _ _ us hl => match us, hl with | [_, _], _ => rfl
theorem fok_buyer_at (T : Fc K mg base A D Pt Ct tk cs) : FnOk P w K mg base CX0 1 (A "buyer_at") (D "buyer_at") ["market", "day"] (spP K cs C_buyer_at) := by
  refine T.d_buyer_at.1.ok sc_buyer_at (lenP fun xs P h => by obtain ⟨_, _, rfl, _⟩ := h; rfl) (fun cdv A0 outer s H vs Q E hr h => ⟨t_buyer_at K cs Pt, PSs.nox ?_, body_P (fun xs P h => sd_buyer_at xs P h) h⟩)
  exact (pss_one (ps_ret (pe_ix ix_seq (pe_ix ix_seq (pv 0) pe_int (fun _ _ => rfl)) (pe_op op_mod (pv 1) (pe_callB c_len (by rfl) T.len_ (by decide +kernel) (pa_cons (pe_ix ix_seq (pv 0) pe_int (fun _ _ => rfl)) pa_nil))) (fun _ _ => rfl))))
theorem bd_taken_by (T : Fc K mg base A D Pt Ct tk cs) : Binds K (D "taken_by") ["buyer", "prices"] [] := T.d_taken_by.1.bindsN fun _ _ _ _ _ _ us hl => match us, hl with | [_, _], _ => rfl
theorem fok_taken_by (T : Fc K mg base A D Pt Ct tk cs) : FnOk P w K mg base CX0 1 (A "taken_by") (D "taken_by") ["buyer", "prices"] (spP K cs C_taken_by) := by
  refine T.d_taken_by.1.ok sc_taken_by (lenP fun xs P h => by obtain ⟨_, _, rfl, _⟩ := h; rfl) (fun cdv A0 outer s H vs Q E hr h => ⟨t_taken_by K cs Pt, PSs.nox ?_, body_P (fun xs P h => sd_taken_by xs P h) h⟩)
  exact (pss_cons (ps_if (pt_cmpR op_isN (pv 0) pe_non (nomark _))
      (pss_one (ps_ret pe_non))
      pss_nil)
    (pss_cons (ps_set (i := 2) sc_taken_by.nd rfl (by first | exact Or.inl rfl | exact Or.inr rfl) pe_non)
    (pss_cons (ps_set (i := 3) sc_taken_by.nd rfl (by first | exact Or.inl rfl | exact Or.inr rfl) (pe_un un_neg pe_int))
    (pss_cons (ps_for PassesOwn.never rfl (pi_enum (by rfl) T.enumerate_ (pa_cons (pv 0) pa_nil)) (pg_tup rfl (pgs_cons (pg_name (i := 4) sc_taken_by.nd rfl (by first | exact Or.inl rfl | exact Or.inr rfl)) (pgs_cons (pg_name (i := 5) sc_taken_by.nd rfl (by first | exact Or.inl rfl | exact Or.inr rfl)) pgs_nil)))
      (pss_one (ps_if (PW.pt (pw_and (pt_cmpR op_notN (pv 5) pe_non (nomark _)) (pw_and1 (pt_cmpR op_gt (pe_op op_sub (pv 5) (pe_ix ix_seq (pv 1) (pv 4) (fun _ _ => rfl))) (pv 3) (nomark _)))))
      (pss_cons (ps_set (i := 2) sc_taken_by.nd rfl (by first | exact Or.inl rfl | exact Or.inr rfl) (pv 4))
    (pss_one (ps_set (i := 3) sc_taken_by.nd rfl (by first | exact Or.inl rfl | exact Or.inr rfl) (pe_op op_sub (pv 5) (pe_ix ix_seq (pv 1) (pv 4) (fun _ _ => rfl))))))
      pss_nil)))
    (pss_one (ps_ret (pv 2)))))))
theorem bd_moved (T : Fc K mg base A D Pt Ct tk cs) : Binds K (D "moved") ["goods", "prices", "take"] [] := T.d_moved.1.bindsN fun _ _ _ _ _ _ us hl => match us, hl with | [_, _, _], _ => rfl
theorem fok_moved (T : Fc K mg base A D Pt Ct tk cs) : FnOk P w K mg base CX0 1 (A "moved") (D "moved") ["goods", "prices", "take"] (spP K cs C_moved) := by
  refine T.d_moved.1.ok sc_moved (lenP fun xs P h => by obtain ⟨_, _, _, rfl, _⟩ := h; rfl) (fun cdv A0 outer s H vs Q E hr h => ⟨t_moved K cs Pt, PSs.nox ?_, body_P (fun xs P h => sd_moved xs P h) h⟩)
  exact (pss_cons (ps_set (i := 3) sc_moved.nd rfl (by first | exact Or.inl rfl | exact Or.inr rfl) (pe_lst pa_nil))
    (pss_cons (ps_for PassesOwn.never rfl (pi_enum (by rfl) T.enumerate_ (pa_cons (pv 0) pa_nil)) (pg_tup rfl (pgs_cons (pg_name (i := 4) sc_moved.nd rfl (by first | exact Or.inl rfl | exact Or.inr rfl)) (pgs_cons (pg_tup rfl (pgs_cons (pg_name (i := 5) sc_moved.nd rfl (by first | exact Or.inl rfl | exact Or.inr rfl)) (pgs_cons (pg_name (i := 6) sc_moved.nd rfl (by first | exact Or.inl rfl | exact Or.inr rfl)) (pgs_cons (pg_name (i := 7) sc_moved.nd rfl (by first | exact Or.inl rfl | exact Or.inr rfl)) pgs_nil)))) pgs_nil)))
      (pss_one (ps_expr (pe_bm PySem.F.plainAttrs_list PySem.F.slot_list_append PySem.F.type_list_append mt_append (pv 3) (pa_cons (pe_ifExp (pt_cmpR op_eq (pv 4) (pv 2) (nomark _)) (pe_op op_add (pe_ix ix_seq (pv 1) (pv 4) (fun _ _ => rfl)) (pv 5)) (pe_op op_sub (pe_ix ix_seq (pv 1) (pv 4) (fun _ _ => rfl)) (pv 6))) pa_nil)))))
    (pss_one (ps_ret (pv 3)))))
theorem bd_law_till (T : Fc K mg base A D Pt Ct tk cs) : Binds K (D "_law_till") ["script", "k"] [] := T.d_law_till.1.bindsN fun _ _ _ _ _ _ us hl => match us, hl with | [_, _], _ => rfl
theorem fok_law_till (T : Fc K mg base A D Pt Ct tk cs) : FnOk P w K mg base CX0 1 (A "_law_till") (D "_law_till") ["script", "k"] (spF K cs C_law_till) := by
  refine T.d_law_till.1.ok sc_law_till (lenF fun xs P h => by obtain ⟨_, _, rfl, _⟩ := h; rfl) (fun cdv A0 outer s H vs Q E hr h => ⟨t_law_till K cs Pt, PSs.nox ?_, body_F (fun xs P h => sd_law_till xs P h) h⟩)
  exact (pss_cons (ps_set (i := 2) sc_law_till.nd rfl (by first | exact Or.inl rfl | exact Or.inr rfl) (pe_ifExp (pt_cmpR op_lt (pv 1) (pe_callB c_len (by rfl) T.len_ (by decide +kernel) (pa_cons (pv 0) pa_nil)) (nomark _)) (pe_ix ix_seq (pv 0) (pv 1) (fun _ _ => rfl)) pe_int))
    (pss_one (ps_ret (pe_lst (pa_cons (pe_callB (c_max2 rfl) (by rfl) T.max_ (by decide +kernel) (pa_cons pe_int (pa_cons (pe_op op_sub (pv 2) (pe_op op_powW pe_int pe_int)) pa_nil))) (pa_cons (pe_op op_add (pe_op op_mod (pv 2) (pe_op op_add (pe_op op_powW pe_int pe_int) pe_int)) (pe_op op_mulW (pe_op op_powW pe_int pe_int) (pe_op op_add (pv 1) pe_int))) (pa_cons pe_int pa_nil)))))))
theorem bd_law_pull (T : Fc K mg base A D Pt Ct tk cs) : Binds K (D "_law_pull") ["till", "many"] [] := T.d_law_pull.1.bindsN fun _ _ _ _ _ _ us hl => match us, hl with | [_, _], _ => rfl
theorem fok_law_pull (T : Fc K mg base A D Pt Ct tk cs) : FnOk P w K mg base CX0 1 (A "_law_pull") (D "_law_pull") ["till", "many"] (spT K cs C_law_pull) := by
  refine T.d_law_pull.1.ok sc_law_pull (lenT fun ts xs P h => by obtain ⟨_, _, _, _, rfl, _⟩ := h; rfl) (fun cdv A0 outer s H vs Q E hr h => ⟨t_law_pull K cs Pt, PSs.nox ?_, body_T (fun ts xs P h => sd_law_pull ts xs P h) h⟩)
  exact (pss_cons (ps_if (pt_cmpR op_gt (pe_ix ix_seq (pv 0) pe_int (fun _ _ => rfl)) pe_int (nomark _))
      (pss_cons (ps_set (i := 2) sc_law_pull.nd rfl (by first | exact Or.inl rfl | exact Or.inr rfl) (pe_op op_mod (pe_ix ix_seq (pv 0) pe_int (fun _ _ => rfl)) (pv 1)))
    (pss_cons (ps_asg (pe_op op_fdivW (pe_ix ix_seq (pv 0) pe_int (fun _ _ => rfl)) (pv 1)) (pg_sub (pv 0) pe_int set_list))
    (pss_one (ps_ret (pv 2)))))
      pss_nil)
    (pss_cons (ps_asg (pe_op op_add (pe_ix ix_seq (pv 0) pe_int (fun _ _ => rfl)) pe_int) (pg_sub (pv 0) pe_int set_list))
    (pss_cons (ps_set (i := 3) sc_law_pull.nd rfl (by first | exact Or.inl rfl | exact Or.inr rfl) (pe_op op_mod (pe_op op_powW (pe_op op_add (pe_ix ix_seq (pv 0) pe_int (fun _ _ => rfl)) (pe_op op_mulW pe_int (pe_op op_powW (pe_ix ix_seq (pv 0) pe_int (fun _ _ => rfl)) pe_int))) pe_int) (pe_op op_add (pe_op op_powW pe_int pe_int) pe_int)))
    (pss_cons (ps_set (i := 3) sc_law_pull.nd rfl (by first | exact Or.inl rfl | exact Or.inr rfl) (pe_op op_mod (pe_op op_powW (pe_op op_add (pv 3) (pe_op op_mulW pe_int (pe_ix ix_seq (pv 0) pe_int (fun _ _ => rfl)))) pe_int) (pe_op op_add (pe_op op_powW pe_int pe_int) pe_int)))
    (pss_one (ps_ret (pe_op op_mod (pe_op op_fdivW (pv 3) pe_int) (pv 1))))))))
theorem bd_law_nobodies (T : Fc K mg base A D Pt Ct tk cs) : Binds K (D "_law_nobodies") ["mart"] [] := T.d_law_nobodies.1.bindsN fun _ _ _ _ _ _ us hl => match us, hl with | [_], _ => rfl
theorem fok_law_nobodies (T : Fc K mg base A D Pt Ct tk cs) : FnOk P w K mg base CX0 1 (A "_law_nobodies") (D "_law_nobodies") ["mart"] (spP K cs C_law_nobodies) := by
  refine T.d_law_nobodies.1.ok sc_law_nobodies (lenP fun xs P h => by obtain ⟨_, rfl, _⟩ := h; rfl) (fun cdv A0 outer s H vs Q E hr h => ⟨t_law_nobodies K cs Pt, PSs.nox ?_, body_P (fun xs P h => sd_law_nobodies xs P h) h⟩)
  exact (pss_cons (ps_set (i := 1) sc_law_nobodies.nd rfl (by first | exact Or.inl rfl | exact Or.inr rfl) (pe_op op_rep (pe_lst (pa_cons pe_non pa_nil)) (pe_callB c_len (by rfl) T.len_ (by decide +kernel) (pa_cons (pe_ix ix_seq (pv 0) pe_int (fun _ _ => rfl)) pa_nil))))
    (pss_cons (ps_set (i := 2) sc_law_nobodies.nd rfl (by first | exact Or.inl rfl | exact Or.inr rfl) (pe_lst pa_nil))
    (pss_cons (ps_for PassesOwn.never rfl (pi_list (pe_ix ix_seq (pv 0) pe_int (fun _ _ => rfl))) (pg_name (i := 3) sc_law_nobodies.nd rfl (by first | exact Or.inl rfl | exact Or.inr rfl))
      (pss_one (ps_expr (pe_bm PySem.F.plainAttrs_list PySem.F.slot_list_append PySem.F.type_list_append mt_append (pv 2) (pa_cons (pe_ifExp (pt_cmpR op_isN (pv 3) pe_non (nomark _)) (pe_slice sl_list (pv 1) po_none po_none) (pe_ifExp (pt_cmpR (op_eqD hr.units) (pv 3) (pv 1) (nomark _)) pe_non (pv 3))) pa_nil)))))
    (pss_one (ps_ret (pe_tup (pa_cons (pe_ix ix_seq (pv 0) pe_int (fun _ _ => rfl)) (pa_cons (pv 2) pa_nil))))))))
theorem bd_is_within (T : Fc K mg base A D Pt Ct tk cs) : Binds K (D "is_within") ["thing", "least", "most"] [] := T.d_is_within.1.bindsN fun _ _ _ _ _ _ us hl => match us, hl with | [_, _, _], _ => rfl
theorem fok_is_within (T : Fc K mg base A D Pt Ct tk cs) : FnOk P w K mg base CX0 2 (A "is_within") (D "is_within") ["thing", "least", "most"] (spP K cs C_is_within) := by
  refine T.d_is_within.1.ok sc_is_within (lenP fun xs P h => by obtain ⟨_, _, _, rfl, _⟩ := h; rfl) (fun cdv A0 outer s H vs Q E hr h => ⟨t_is_within K cs Pt, PSs.nox ?_, body_P (fun xs P h => sd_is_within xs P h) h⟩)
  exact (pss_one (ps_ret (pe_and (pe_call (fok_is_whole T) (hr.mono (by decide)) rfl T.d_is_whole.2 T.d_is_whole.1.kp (bd_is_whole T) .nil pass0 (pa_cons (pv 0) pa_nil)) (pe_one (pe_chain op_le op_le (pv 1) (pv 0) (pv 2))))))
theorem bd_law_near (T : Fc K mg base A D Pt Ct tk cs) : Binds K (D "_law_near") ["till"] [] := T.d_law_near.1.bindsN fun _ _ _ _ _ _ us hl => match us, hl with | [_], _ => rfl
theorem fok_law_near (T : Fc K mg base A D Pt Ct tk cs) : FnOk P w K mg base CX0 2 (A "_law_near") (D "_law_near") ["till"] (spT K cs C_law_near) := by
  refine T.d_law_near.1.ok sc_law_near (lenT fun ts xs P h => by obtain ⟨_, _, _, rfl, _⟩ := h; rfl) (fun cdv A0 outer s H vs Q E hr h => ⟨t_law_near K cs Pt, PSs.nox ?_, body_T (fun ts xs P h => sd_law_near ts xs P h) h⟩)
  exact (pss_cons (ps_set (i := 1) sc_law_near.nd rfl (by first | exact Or.inl rfl | exact Or.inr rfl) (pe_op op_sub (pe_call (fok_law_pull T) (hr.mono (by decide)) rfl T.d_law_pull.2 T.d_law_pull.1.kp (bd_law_pull T) .nil pass0 (pa_cons (pv 0) (pa_cons pe_int pa_nil))) pe_int))
    (pss_one (ps_ret (pe_ix ix_seq (pe_lst (pa_cons (pv 1) (pa_cons (pv 1) (pa_cons (pe_op op_sub (pe_call (fok_law_pull T) (hr.mono (by decide)) rfl T.d_law_pull.2 T.d_law_pull.1.kp (bd_law_pull T) .nil pass0 (pa_cons (pv 0) (pa_cons pe_int pa_nil))) pe_int) (pa_cons pe_int (pa_cons (pe_un un_neg pe_int) pa_nil)))))) (pe_call (fok_law_pull T) (hr.mono (by decide)) rfl T.d_law_pull.2 T.d_law_pull.1.kp (bd_law_pull T) .nil pass0 (pa_cons (pv 0) (pa_cons pe_int pa_nil))) (fun _ _ => rfl)))))
theorem bd_law_calm (T : Fc K mg base A D Pt Ct tk cs) : Binds K (D "_law_calm") ["till", "mart"] [] := T.d_law_calm.1.bindsN fun _ _ _ _ _ _ us hl => match us, hl with | [_, _], _ => rfl
theorem fok_law_calm (T : Fc K mg base A D Pt Ct tk cs) : FnOk P w K mg base CX0 2 (A "_law_calm") (D "_law_calm") ["till", "mart"] (spT K cs C_law_calm) := by
  refine T.d_law_calm.1.ok sc_law_calm (lenT fun ts xs P h => by obtain ⟨_, _, _, _, rfl, _⟩ := h; rfl) (fun cdv A0 outer s H vs Q E hr h => ⟨t_law_calm K cs Pt, PSs.nox ?_, body_T (fun ts xs P h => sd_law_calm ts xs P h) h⟩)
  exact (pss_cons (ps_if (pt_cmpR op_eq (pe_call (fok_law_pull T) (hr.mono (by decide)) rfl T.d_law_pull.2 T.d_law_pull.1.kp (bd_law_pull T) .nil pass0 (pa_cons (pv 0) (pa_cons pe_int pa_nil))) pe_int (nomark _))
      (pss_one (ps_ret (pv 1)))
      pss_nil)
    (pss_cons (ps_setLc (i := 2) (own := [("up", 3), ("down", 4), ("start", 5)]) rfl sc_law_calm.nd rfl rfl (sw_true rfl rfl rfl (by decide +kernel)) (pi_list (pe_ix ix_seq (pv 1) pe_int (fun _ _ => rfl))) (blkOk_by (own := [("up", 3), ("down", 4), ("start", 5)]) (N := ["till", "mart", "goods", "up", "down", "start", "rounds", "buyer", "worth"]) (sc := defScope s_law_calm) (by decide +kernel)) (fun _ _ _ _ _ => (pg_tup rfl (pgs_cons (pg_name (i := 3) sc_law_calm.nd rfl (by first | exact Or.inl rfl | exact Or.inr rfl)) (pgs_cons (pg_name (i := 4) sc_law_calm.nd rfl (by first | exact Or.inl rfl | exact Or.inr rfl)) (pgs_cons (pg_name (i := 5) sc_law_calm.nd rfl (by first | exact Or.inl rfl | exact Or.inr rfl)) pgs_nil))))) (fun _ _ _ _ _ => pts_nil) (fun _ _ _ _ _ => (pe_tup (pa_cons (pv 3) (pa_cons (pv 4) (pa_cons (pe_op op_mod (pv 5) pe_int) pa_nil))))))
    (pss_cons (ps_set (i := 6) sc_law_calm.nd rfl (by first | exact Or.inl rfl | exact Or.inr rfl) (pe_lst pa_nil))
    (pss_cons (ps_for PassesOwn.never rfl (pi_list (pe_ix ix_seq (pv 1) pe_int (fun _ _ => rfl))) (pg_name (i := 7) sc_law_calm.nd rfl (by first | exact Or.inl rfl | exact Or.inr rfl))
      (pss_one (ps_expr (pe_bm PySem.F.plainAttrs_list PySem.F.slot_list_append PySem.F.type_list_append mt_append (pv 6) (pa_cons (pe_ifExp (pt_cmpR op_isN (pv 7) pe_non (nomark _)) pe_non (pe_lc (own := [("worth", 8)]) rfl sc_law_calm.nd (pi_list (pv 7)) (blkOk_by (own := [("worth", 8)]) (N := ["till", "mart", "goods", "up", "down", "start", "rounds", "buyer", "worth"]) (sc := defScope s_law_calm) (by decide +kernel)) (fun _ _ _ _ _ => (pg_name (i := 8) sc_law_calm.nd rfl (by first | exact Or.inl rfl | exact Or.inr rfl))) (fun _ _ _ _ _ => pts_nil) (fun _ _ _ _ _ => (pe_ifExp (pt_cmpR op_isN (pv 8) pe_non (nomark _)) pe_non (pe_op op_mod (pv 8) pe_int))))) pa_nil)))))
    (pss_one (ps_ret (pe_tup (pa_cons (pv 2) (pa_cons (pv 6) pa_nil)))))))))
theorem bd_is_step (T : Fc K mg base A D Pt Ct tk cs) : Binds K (D "is_step") ["thing"] [] := T.d_is_step.1.bindsN fun _ _ _ _ _ _ us hl => match us, hl with | [_], _ => rfl
theorem fok_is_step (T : Fc K mg base A D Pt Ct tk cs) : FnOk P w K mg base CX0 3 (A "is_step") (D "is_step") ["thing"] (spP K cs C_is_step) := by
  refine T.d_is_step.1.ok sc_is_step (lenP fun xs P h => by obtain ⟨_, rfl, _⟩ := h; rfl) (fun cdv A0 outer s H vs Q E hr h => ⟨t_is_step K cs Pt, PSs.nox ?_, body_P (fun xs P h => sd_is_step xs P h) h⟩)
  exact (pss_one (ps_ret (pe_call (fok_is_within T) (hr.mono (by decide)) rfl T.d_is_within.2 T.d_is_within.1.kp (bd_is_within T) .nil pass0 (pa_cons (pv 0) (pa_cons pe_int (pa_cons (pe_glob rfl T.g_MOST_STEP ⟨_, rfl⟩) pa_nil))))))
theorem bd_is_worth (T : Fc K mg base A D Pt Ct tk cs) : Binds K (D "is_worth") ["thing"] [] := T.d_is_worth.1.bindsN fun _ _ _ _ _ _ us hl => match us, hl with | [_], _ => rfl
theorem fok_is_worth (T : Fc K mg base A D Pt Ct tk cs) : FnOk P w K mg base CX0 3 (A "is_worth") (D "is_worth") ["thing"] (spP K cs C_is_worth) := by
  refine T.d_is_worth.1.ok sc_is_worth (lenP fun xs P h => by obtain ⟨_, rfl, _⟩ := h; rfl) (fun cdv A0 outer s H vs Q E hr h => ⟨t_is_worth K cs Pt, PSs.nox ?_, body_P (fun xs P h => sd_is_worth xs P h) h⟩)
  exact (pss_one (ps_ret (pe_call (fok_is_within T) (hr.mono (by decide)) rfl T.d_is_within.2 T.d_is_within.1.kp (bd_is_within T) .nil pass0 (pa_cons (pv 0) (pa_cons (pe_un un_neg (pe_glob rfl T.g_MOST_WORTH ⟨_, rfl⟩)) (pa_cons (pe_glob rfl T.g_MOST_WORTH ⟨_, rfl⟩) pa_nil))))))
theorem bd_check_days (T : Fc K mg base A D Pt Ct tk cs) : Binds K (D "check_days") ["days"] [] := T.d_check_days.1.bindsN fun _ _ _ _ _ _ us hl => match us, hl with | [_], _ => rfl
theorem fok_check_days (T : Fc K mg base A D Pt Ct tk cs) : FnOk P w K mg base CX0 3 (A "check_days") (D "check_days") ["days"] (spP K cs C_check_days) := by
  refine T.d_check_days.1.ok sc_check_days (lenP fun xs P h => by obtain ⟨_, rfl, _⟩ := h; rfl) (fun cdv A0 outer s H vs Q E hr h => ⟨t_check_days K cs Pt, PSs.nox ?_, body_P (fun xs P h => sd_check_days xs P h) h⟩)
  exact (pss_one (ps_if (pt_not (pt_val (pe_call (fok_is_within T) (hr.mono (by decide)) rfl T.d_is_within.2 T.d_is_within.1.kp (bd_is_within T) .nil pass0 (pa_cons (pv 0) (pa_cons pe_int (pa_cons (pe_glob rfl T.g_MOST_DAYS ⟨_, rfl⟩) pa_nil))))))
      (pss_one ps_never)
      pss_nil))
theorem bd_law_buyer (T : Fc K mg base A D Pt Ct tk cs) : Binds K (D "_law_buyer") ["till", "many"] [] := T.d_law_buyer.1.bindsN fun _ _ _ _ _ _ us hl => match us, hl with | [_, _], _ => rfl
theorem fok_law_buyer (T : Fc K mg base A D Pt Ct tk cs) : FnOk P w K mg base CX0 3 (A "_law_buyer") (D "_law_buyer") ["till", "many"] (spT K cs C_law_buyer) := by
  refine T.d_law_buyer.1.ok sc_law_buyer (lenT fun ts xs P h => by obtain ⟨_, _, _, _, rfl, _⟩ := h; rfl) (fun cdv A0 outer s H vs Q E hr h => ⟨t_law_buyer K cs Pt, PSs.nox ?_, body_T (fun ts xs P h => sd_law_buyer ts xs P h) h⟩)
  exact (pss_cons (ps_setLc (i := 2) (own := [("ware", 3)]) rfl sc_law_buyer.nd rfl rfl (sw_true rfl rfl rfl (by decide +kernel)) (pi_range1 rfl T.range_ (pa_cons (pv 1) pa_nil)) (blkOk_by (own := [("ware", 3)]) (N := ["till", "many", "worths", "ware"]) (sc := defScope s_law_buyer) (by decide +kernel)) (fun _ _ _ _ _ => (pg_name (i := 3) sc_law_buyer.nd rfl (by first | exact Or.inl rfl | exact Or.inr rfl))) (fun _ _ _ _ _ => pts_nil) (fun _ _ _ _ _ => (pe_ix ix_seq (pe_lst (pa_cons (pe_call (fok_law_near T) (hr.mono (by decide)) rfl T.d_law_near.2 T.d_law_near.1.kp (bd_law_near T) .nil pass0 (pa_cons (pv 0) pa_nil)) (pa_cons pe_non pa_nil))) (pe_callTy c_int1 (by rfl) T.int_ (by decide +kernel) (pa_cons (pe_cmpR op_eq (pe_call (fok_law_pull T) (hr.mono (by decide)) rfl T.d_law_pull.2 T.d_law_pull.1.kp (bd_law_pull T) .nil pass0 (pa_cons (pv 0) (pa_cons pe_int pa_nil))) pe_int (nomark _)) pa_nil)) (fun _ _ => rfl))))
    (pss_one (ps_ret (pe_ifExp (pt_cmpR op_gt (pe_call (fok_law_pull T) (hr.mono (by decide)) rfl T.d_law_pull.2 T.d_law_pull.1.kp (bd_law_pull T) .nil pass0 (pa_cons (pv 0) (pa_cons pe_int pa_nil))) pe_int (nomark _)) (pv 2) pe_non))))
theorem bd_is_good (T : Fc K mg base A D Pt Ct tk cs) : Binds K (D "is_good") ["thing"] [] := T.d_is_good.1.bindsN fun _ _ _ _ _ _ us hl => match us, hl with | [_], _ => rfl
theorem fok_is_good (T : Fc K mg base A D Pt Ct tk cs) : FnOk P w K mg base CX0 4 (A "is_good") (D "is_good") ["thing"] (spP K cs C_is_good) := by
  refine T.d_is_good.1.ok sc_is_good (lenP fun xs P h => by obtain ⟨_, rfl, _⟩ := h; rfl) (fun cdv A0 outer s H vs Q E hr h => ⟨t_is_good K cs Pt, PSs.nox ?_, body_P (fun xs P h => sd_is_good xs P h) h⟩)
  exact (pss_cons (ps_if (PW.pt (pw_or (pt_not (pt_val (pe_callB call_isi (by rfl) T.isinstance_ (by decide +kernel) (pa_cons (pv 0) (pa_cons (pe_bltn (v := .ty "tuple") (u := .type "tuple") (by rfl) T.tuple_ (by decide +kernel) (by rfl)) pa_nil))))) (pw_or1 (pt_cmpR op_ne (pe_callB c_len (by rfl) T.len_ (by decide +kernel) (pa_cons (pv 0) pa_nil)) pe_int (nomark _)))))
      (pss_one (ps_ret pe_bl))
      pss_nil)
    (pss_one (ps_ret (pe_and (pe_call (fok_is_step T) (hr.mono (by decide)) rfl T.d_is_step.2 T.d_is_step.1.kp (bd_is_step T) .nil pass0 (pa_cons (pe_ix ix_seq (pv 0) pe_int (fun _ _ => rfl)) pa_nil)) (pe_and (pe_call (fok_is_step T) (hr.mono (by decide)) rfl T.d_is_step.2 T.d_is_step.1.kp (bd_is_step T) .nil pass0 (pa_cons (pe_ix ix_seq (pv 0) pe_int (fun _ _ => rfl)) pa_nil)) (pe_one (pe_call (fok_is_worth T) (hr.mono (by decide)) rfl T.d_is_worth.2 T.d_is_worth.1.kp (bd_is_worth T) .nil pass0 (pa_cons (pe_ix ix_seq (pv 0) pe_int (fun _ _ => rfl)) pa_nil))))))))
theorem bd_law_market (T : Fc K mg base A D Pt Ct tk cs) : Binds K (D "_law_market") ["till"] [] := T.d_law_market.1.bindsN fun _ _ _ _ _ _ us hl => match us, hl with | [_], _ => rfl
theorem fok_law_market (T : Fc K mg base A D Pt Ct tk cs) : FnOk P w K mg base CX0 4 (A "_law_market") (D "_law_market") ["till"] (spT K cs C_law_market) := by
  refine T.d_law_market.1.ok sc_law_market (lenT fun ts xs P h => by obtain ⟨_, _, _, rfl, _⟩ := h; rfl) (fun cdv A0 outer s H vs Q E hr h => ⟨t_law_market K cs Pt, PSs.nox ?_, body_T (fun ts xs P h => sd_law_market ts xs P h) h⟩)
  exact (pss_cons (ps_set (i := 1) sc_law_market.nd rfl (by first | exact Or.inl rfl | exact Or.inr rfl) (pe_callTy c_int1 (by rfl) T.int_ (by decide +kernel) (pa_cons (pe_cmpR op_eq (pe_call (fok_law_pull T) (hr.mono (by decide)) rfl T.d_law_pull.2 T.d_law_pull.1.kp (bd_law_pull T) .nil pass0 (pa_cons (pv 0) (pa_cons pe_int pa_nil))) pe_int (nomark _)) pa_nil)))
    (pss_cons (ps_set (i := 2) sc_law_market.nd rfl (by first | exact Or.inl rfl | exact Or.inr rfl) (pe_lst pa_nil))
    (pss_cons (ps_for PassesOwn.never rfl (pi_range1 rfl T.range_ (pa_cons (pe_ix ix_seq (pe_lst (pa_cons (pe_op op_add pe_int (pe_call (fok_law_pull T) (hr.mono (by decide)) rfl T.d_law_pull.2 T.d_law_pull.1.kp (bd_law_pull T) .nil pass0 (pa_cons (pv 0) (pa_cons pe_int pa_nil)))) (pa_cons pe_int pa_nil))) (pv 1) (fun _ _ => rfl)) pa_nil)) (pg_name (i := 3) sc_law_market.nd rfl (by first | exact Or.inl rfl | exact Or.inr rfl))
      (pss_one (ps_expr (pe_bm PySem.F.plainAttrs_list PySem.F.slot_list_append PySem.F.type_list_append mt_append (pv 2) (pa_cons (pe_tup (pa_cons (pe_op op_add pe_int (pe_call (fok_law_pull T) (hr.mono (by decide)) rfl T.d_law_pull.2 T.d_law_pull.1.kp (bd_law_pull T) .nil pass0 (pa_cons (pv 0) (pa_cons pe_int pa_nil)))) (pa_cons (pe_op op_add pe_int (pe_call (fok_law_pull T) (hr.mono (by decide)) rfl T.d_law_pull.2 T.d_law_pull.1.kp (bd_law_pull T) .nil pass0 (pa_cons (pv 0) (pa_cons pe_int pa_nil)))) (pa_cons (pe_call (fok_law_near T) (hr.mono (by decide)) rfl T.d_law_near.2 T.d_law_near.1.kp (bd_law_near T) .nil pass0 (pa_cons (pv 0) pa_nil)) pa_nil)))) pa_nil)))))
    (pss_one (ps_ret (pe_tup (pa_cons (pv 2) (pa_cons (pe_lc (own := [("turn", 4)]) rfl sc_law_market.nd (pi_range1 rfl T.range_ (pa_cons (pe_ix ix_seq (pe_lst (pa_cons (pe_op op_add pe_int (pe_call (fok_law_pull T) (hr.mono (by decide)) rfl T.d_law_pull.2 T.d_law_pull.1.kp (bd_law_pull T) .nil pass0 (pa_cons (pv 0) (pa_cons pe_int pa_nil)))) (pa_cons pe_int pa_nil))) (pv 1) (fun _ _ => rfl)) pa_nil)) (blkOk_by (own := [("turn", 4)]) (N := ["till", "full", "goods", "ware", "turn"]) (sc := defScope s_law_market) (by decide +kernel)) (fun _ _ _ _ _ => (pg_name (i := 4) sc_law_market.nd rfl (by first | exact Or.inl rfl | exact Or.inr rfl))) (fun _ _ _ _ _ => pts_nil) (fun _ _ _ _ _ => (pe_call (fok_law_buyer T) (hr.mono (by decide)) rfl T.d_law_buyer.2 T.d_law_buyer.1.kp (bd_law_buyer T) .nil pass0 (pa_cons (pv 0) (pa_cons (pe_callB c_len (by rfl) T.len_ (by decide +kernel) (pa_cons (pv 2) pa_nil)) pa_nil))))) pa_nil))))))))
theorem bd_is_buyer (T : Fc K mg base A D Pt Ct tk cs) : Binds K (D "is_buyer") ["thing", "many"] [] := T.d_is_buyer.1.bindsN fun _ _ _ _ _ _ us hl => match us, hl with | [_, _], _ => rfl
theorem fok_is_buyer (T : Fc K mg base A D Pt Ct tk cs) : FnOk P w K mg base CX0 5 (A "is_buyer") (D "is_buyer") ["thing", "many"] (spP K cs C_is_buyer) := by
  refine okC T.d_is_buyer.1 sc_is_buyer T.tb_is_buyer.1 (lenP fun xs P h => by obtain ⟨_, _, rfl, _⟩ := h; rfl) (fun A0 outer s H vs Q E hr h => ⟨t_is_buyer K cs Pt, PSs.nox ?_, body_P (fun xs P h => sd_is_buyer T.tb_is_buyer.2.2 xs P h) h⟩)
  exact (pss_cons (ps_if (PW.pt (pw_or (pt_not (pt_val (pe_callB call_isi (by rfl) T.isinstance_ (by decide +kernel) (pa_cons (pv 0) (pa_cons (pe_bltn (v := .ty "list") (u := .type "list") (by rfl) T.list_ (by decide +kernel) (by rfl)) pa_nil))))) (pw_or1 (pt_cmpR op_ne (pe_callB c_len (by rfl) T.len_ (by decide +kernel) (pa_cons (pv 0) pa_nil)) (pv 1) (nomark _)))))
      (pss_one (ps_ret pe_bl))
      pss_nil)
    (pss_one (ps_ret (pe_allG (own := [("worth", 2)]) (k := 3) (hr.mono (by decide)) rfl sc_is_buyer.nd (by rfl) T.all_ T.tb_is_buyer.2.1 rfl (pi_list (pv 0)) (blkOk_by (own := [("worth", 2)]) (N := ["thing", "many", "worth"]) (sc := defScope s_is_buyer) (by decide +kernel)) (by decide +kernel) (by decide +kernel) rfl (fun _ _ _ _ _ _ _ => (pg_name (i := 2) sc_is_buyer.nd rfl (by first | exact Or.inl rfl | exact Or.inr rfl))) (fun _ _ _ _ _ _ _ hr' => (pe_or (pe_cmpR op_isN (pv 2) pe_non (nomark _)) (pe_one (pe_call (fok_is_worth T) (hr'.mono (by decide)) rfl T.d_is_worth.2 T.d_is_worth.1.kp (bd_is_worth T) .nil pass0 (pa_cons (pv 2) pa_nil))))) (fun _ => rfl) (by decide +kernel)))))
theorem bd_is_list_of_goods (T : Fc K mg base A D Pt Ct tk cs) : Binds K (D "is_list_of_goods") ["thing"] [] := T.d_is_list_of_goods.1.bindsN fun _ _ _ _ _ _ us hl => match us, hl with | [_], _ => rfl
theorem fok_is_list_of_goods (T : Fc K mg base A D Pt Ct tk cs) : FnOk P w K mg base CX0 6 (A "is_list_of_goods") (D "is_list_of_goods") ["thing"] (spP K cs C_is_list_of_goods) := by
  refine okC T.d_is_list_of_goods.1 sc_is_list_of_goods T.tb_is_list_of_goods.1 (lenP fun xs P h => by obtain ⟨_, rfl, _⟩ := h; rfl) (fun A0 outer s H vs Q E hr h => ⟨t_is_list_of_goods K cs Pt, PSs.nox ?_, body_P (fun xs P h => sd_is_list_of_goods T.tb_is_list_of_goods.2.2 xs P h) h⟩)
  exact (pss_cons (ps_if (PW.pt (pw_or (pt_not (pt_val (pe_callB call_isi (by rfl) T.isinstance_ (by decide +kernel) (pa_cons (pv 0) (pa_cons (pe_bltn (v := .ty "list") (u := .type "list") (by rfl) T.list_ (by decide +kernel) (by rfl)) pa_nil))))) (pw_or1 (pt_not (pt_chain op_le op_le pe_int (pe_callB c_len (by rfl) T.len_ (by decide +kernel) (pa_cons (pv 0) pa_nil)) (pe_glob rfl T.g_MOST_GOODS ⟨_, rfl⟩))))))
      (pss_one (ps_ret pe_bl))
      pss_nil)
    (pss_one (ps_ret (pe_allG (own := [("good", 1)]) (k := 4) (hr.mono (by decide)) rfl sc_is_list_of_goods.nd (by rfl) T.all_ T.tb_is_list_of_goods.2.1 rfl (pi_list (pv 0)) (blkOk_by (own := [("good", 1)]) (N := ["thing", "good"]) (sc := defScope s_is_list_of_goods) (by decide +kernel)) (by decide +kernel) (by decide +kernel) rfl (fun _ _ _ _ _ _ _ => (pg_name (i := 1) sc_is_list_of_goods.nd rfl (by first | exact Or.inl rfl | exact Or.inr rfl))) (fun _ _ _ _ _ _ _ hr' => (pe_call (fok_is_good T) (hr'.mono (by decide)) rfl T.d_is_good.2 T.d_is_good.1.kp (bd_is_good T) .nil pass0 (pa_cons (pv 1) pa_nil))) (fun _ => rfl) (by decide +kernel)))))
theorem bd_is_round (T : Fc K mg base A D Pt Ct tk cs) : Binds K (D "is_round") ["thing", "many"] [] := T.d_is_round.1.bindsN fun _ _ _ _ _ _ us hl => match us, hl with | [_, _], _ => rfl
theorem fok_is_round (T : Fc K mg base A D Pt Ct tk cs) : FnOk P w K mg base CX0 7 (A "is_round") (D "is_round") ["thing", "many"] (spP K cs C_is_round) := by
  refine okC T.d_is_round.1 sc_is_round T.tb_is_round.1 (lenP fun xs P h => by obtain ⟨_, _, rfl, _⟩ := h; rfl) (fun A0 outer s H vs Q E hr h => ⟨t_is_round K cs Pt, PSs.nox ?_, body_P (fun xs P h => sd_is_round T.tb_is_round.2.2 xs P h) h⟩)
  exact (pss_cons (ps_if (PW.pt (pw_or (pt_not (pt_val (pe_callB call_isi (by rfl) T.isinstance_ (by decide +kernel) (pa_cons (pv 0) (pa_cons (pe_bltn (v := .ty "list") (u := .type "list") (by rfl) T.list_ (by decide +kernel) (by rfl)) pa_nil))))) (pw_or1 (pt_not (pt_chain op_le op_le pe_int (pe_callB c_len (by rfl) T.len_ (by decide +kernel) (pa_cons (pv 0) pa_nil)) (pe_glob rfl T.g_MOST_DAYS_OF_ROUND ⟨_, rfl⟩))))))
      (pss_one (ps_ret pe_bl))
      pss_nil)
    (pss_one (ps_ret (pe_allG (own := [("buyer", 2)]) (k := 5) (hr.mono (by decide)) rfl sc_is_round.nd (by rfl) T.all_ T.tb_is_round.2.1 rfl (pi_list (pv 0)) (blkOk_by (own := [("buyer", 2)]) (N := ["thing", "many", "buyer"]) (sc := defScope s_is_round) (by decide +kernel)) (by decide +kernel) (by decide +kernel) rfl (fun _ _ _ _ _ _ _ => (pg_name (i := 2) sc_is_round.nd rfl (by first | exact Or.inl rfl | exact Or.inr rfl))) (fun _ _ _ _ _ _ _ hr' => (pe_or (pe_cmpR op_isN (pv 2) pe_non (nomark _)) (pe_one (pe_call (fok_is_buyer T) (hr'.mono (by decide)) rfl T.d_is_buyer.2 T.d_is_buyer.1.kp (bd_is_buyer T) .nil pass0 (pa_cons (pv 2) (pa_cons (pv 1) pa_nil)))))) (fun _ => rfl) (by decide +kernel)))))
theorem bd_is_market (T : Fc K mg base A D Pt Ct tk cs) : Binds K (D "is_market") ["thing"] [] := T.d_is_market.1.bindsN fun _ _ _ _ _ _ us hl => match us, hl with | [_], _ => rfl
theorem fok_is_market (T : Fc K mg base A D Pt Ct tk cs) : FnOk P w K mg base CX0 8 (A "is_market") (D "is_market") ["thing"] (spP K cs C_is_market) := by
  refine T.d_is_market.1.ok sc_is_market (lenP fun xs P h => by obtain ⟨_, rfl, _⟩ := h; rfl) (fun cdv A0 outer s H vs Q E hr h => ⟨t_is_market K cs Pt, PSs.nox ?_, body_P (fun xs P h => sd_is_market xs P h) h⟩)
  exact (pss_cons (ps_if (PW.pt (pw_or (pt_not (pt_val (pe_callB call_isi (by rfl) T.isinstance_ (by decide +kernel) (pa_cons (pv 0) (pa_cons (pe_bltn (v := .ty "tuple") (u := .type "tuple") (by rfl) T.tuple_ (by decide +kernel) (by rfl)) pa_nil))))) (pw_or1 (pt_cmpR op_ne (pe_callB c_len (by rfl) T.len_ (by decide +kernel) (pa_cons (pv 0) pa_nil)) pe_int (nomark _)))))
      (pss_one (ps_ret pe_bl))
      pss_nil)
    (pss_one (ps_ret (pe_and (pe_call (fok_is_list_of_goods T) (hr.mono (by decide)) rfl T.d_is_list_of_goods.2 T.d_is_list_of_goods.1.kp (bd_is_list_of_goods T) .nil pass0 (pa_cons (pe_ix ix_seq (pv 0) pe_int (fun _ _ => rfl)) pa_nil)) (pe_one (pe_call (fok_is_round T) (hr.mono (by decide)) rfl T.d_is_round.2 T.d_is_round.1.kp (bd_is_round T) .nil pass0 (pa_cons (pe_ix ix_seq (pv 0) pe_int (fun _ _ => rfl)) (pa_cons (pe_callB c_len (by rfl) T.len_ (by decide +kernel) (pa_cons (pe_ix ix_seq (pv 0) pe_int (fun _ _ => rfl)) pa_nil)) pa_nil))))))))
theorem bd_check_market (T : Fc K mg base A D Pt Ct tk cs) : Binds K (D "check_market") ["market"] [] := T.d_check_market.1.bindsN fun _ _ _ _ _ _ us hl => match us, hl with | [_], _ => rfl
theorem fok_check_market (T : Fc K mg base A D Pt Ct tk cs) : FnOk P w K mg base CX0 9 (A "check_market") (D "check_market") ["market"] (spP K cs C_check_market) := by
  refine T.d_check_market.1.ok sc_check_market (lenP fun xs P h => by obtain ⟨_, rfl, _⟩ := h; rfl) (fun cdv A0 outer s H vs Q E hr h => ⟨t_check_market K cs Pt, PSs.nox ?_, body_P (fun xs P h => sd_check_market xs P h) h⟩)
  exact (pss_one (ps_if (pt_not (pt_val (pe_call (fok_is_market T) (hr.mono (by decide)) rfl T.d_is_market.2 T.d_is_market.1.kp (bd_is_market T) .nil pass0 (pa_cons (pv 0) pa_nil))))
      (pss_one ps_never)
      pss_nil))
theorem bd_run_of (T : Fc K mg base A D Pt Ct tk cs) : Binds K (D "run_of") ["market", "days"] [] := T.d_run_of.1.bindsN fun _ _ _ _ _ _ us hl => match us, hl with | [_, _], _ => rfl
theorem fok_run_of (T : Fc K mg base A D Pt Ct tk cs) : FnOk P w K mg base CX0 10 (A "run_of") (D "run_of") ["market", "days"] (spP K cs C_run_of) := by
  refine T.d_run_of.1.ok sc_run_of (lenP fun xs P h => by obtain ⟨_, _, rfl, _⟩ := h; rfl) (fun cdv A0 outer s H vs Q E hr h => ⟨t_run_of K cs Pt, PSs.nox ?_, body_P (fun xs P h => sd_run_of xs P h) h⟩)
  exact (pss_cons (ps_expr (pe_call (fok_check_market T) (hr.mono (by decide)) rfl T.d_check_market.2 T.d_check_market.1.kp (bd_check_market T) .nil pass0 (pa_cons (pv 0) pa_nil)))
    (pss_cons (ps_expr (pe_call (fok_check_days T) (hr.mono (by decide)) rfl T.d_check_days.2 T.d_check_days.1.kp (bd_check_days T) .nil pass0 (pa_cons (pv 1) pa_nil)))
    (pss_cons (ps_set (i := 2) sc_run_of.nd rfl (by first | exact Or.inl rfl | exact Or.inr rfl) (pe_call (fok_starts_of T) (hr.mono (by decide)) rfl T.d_starts_of.2 T.d_starts_of.1.kp (bd_starts_of T) .nil pass0 (pa_cons (pv 0) pa_nil)))
    (pss_cons (ps_set (i := 3) sc_run_of.nd rfl (by first | exact Or.inl rfl | exact Or.inr rfl) (pe_lst pa_nil))
    (pss_cons (ps_for PassesOwn.never rfl (pi_range1 rfl T.range_ (pa_cons (pv 1) pa_nil)) (pg_name (i := 4) sc_run_of.nd rfl (by first | exact Or.inl rfl | exact Or.inr rfl))
      (pss_cons (ps_set (i := 5) sc_run_of.nd rfl (by first | exact Or.inl rfl | exact Or.inr rfl) (pe_call (fok_taken_by T) (hr.mono (by decide)) rfl T.d_taken_by.2 T.d_taken_by.1.kp (bd_taken_by T) .nil pass0 (pa_cons (pe_call (fok_buyer_at T) (hr.mono (by decide)) rfl T.d_buyer_at.2 T.d_buyer_at.1.kp (bd_buyer_at T) .nil pass0 (pa_cons (pv 0) (pa_cons (pv 4) pa_nil))) (pa_cons (pv 2) pa_nil))))
    (pss_cons (ps_expr (pe_bm PySem.F.plainAttrs_list PySem.F.slot_list_append PySem.F.type_list_append mt_append (pv 3) (pa_cons (pv 5) pa_nil)))
    (pss_one (ps_set (i := 2) sc_run_of.nd rfl (by first | exact Or.inl rfl | exact Or.inr rfl) (pe_call (fok_moved T) (hr.mono (by decide)) rfl T.d_moved.2 T.d_moved.1.kp (bd_moved T) .nil pass0 (pa_cons (pe_ix ix_seq (pv 0) pe_int (fun _ _ => rfl)) (pa_cons (pv 2) (pa_cons (pv 5) pa_nil)))))))))
    (pss_one (ps_ret (pe_tup (pa_cons (pv 3) (pa_cons (pv 2) pa_nil))))))))))
theorem bd_takes (T : Fc K mg base A D Pt Ct tk cs) : Binds K (D "takes") ["market", "days"] [] := T.d_takes.1.bindsN fun _ _ _ _ _ _ us hl => match us, hl with | [_, _], _ => rfl
theorem fok_takes (T : Fc K mg base A D Pt Ct tk cs) : FnOk P w K mg base CX0 11 (A "takes") (D "takes") ["market", "days"] (spP K cs C_takes) := by
  refine T.d_takes.1.ok sc_takes (lenP fun xs P h => by obtain ⟨_, _, rfl, _⟩ := h; rfl) (fun cdv A0 outer s H vs Q E hr h => ⟨t_takes K cs Pt, PSs.nox ?_, body_P (fun xs P h => sd_takes xs P h) h⟩)
  exact (pss_cons (ps_asg (pe_call (fok_run_of T) (hr.mono (by decide)) rfl T.d_run_of.2 T.d_run_of.1.kp (bd_run_of T) .nil pass0 (pa_cons (pv 0) (pa_cons (pv 1) pa_nil))) (pg_tup rfl (pgs_cons (pg_name (i := 2) sc_takes.nd rfl (by first | exact Or.inl rfl | exact Or.inr rfl)) (pgs_cons (pg_name (i := 3) sc_takes.nd rfl (by first | exact Or.inl rfl | exact Or.inr rfl)) pgs_nil))))
    (pss_one (ps_ret (pv 2))))
theorem bd_prices_at (T : Fc K mg base A D Pt Ct tk cs) : Binds K (D "prices_at") ["market", "days"] [] := T.d_prices_at.1.bindsN fun _ _ _ _ _ _ us hl => match us, hl with | [_, _], _ => rfl
theorem fok_prices_at (T : Fc K mg base A D Pt Ct tk cs) : FnOk P w K mg base CX0 11 (A "prices_at") (D "prices_at") ["market", "days"] (spP K cs C_prices_at) := by
  refine T.d_prices_at.1.ok sc_prices_at (lenP fun xs P h => by obtain ⟨_, _, rfl, _⟩ := h; rfl) (fun cdv A0 outer s H vs Q E hr h => ⟨t_prices_at K cs Pt, PSs.nox ?_, body_P (fun xs P h => sd_prices_at xs P h) h⟩)
  exact (pss_cons (ps_asg (pe_call (fok_run_of T) (hr.mono (by decide)) rfl T.d_run_of.2 T.d_run_of.1.kp (bd_run_of T) .nil pass0 (pa_cons (pv 0) (pa_cons (pv 1) pa_nil))) (pg_tup rfl (pgs_cons (pg_name (i := 2) sc_prices_at.nd rfl (by first | exact Or.inl rfl | exact Or.inr rfl)) (pgs_cons (pg_name (i := 3) sc_prices_at.nd rfl (by first | exact Or.inl rfl | exact Or.inr rfl)) pgs_nil))))
    (pss_one (ps_ret (pv 3))))
theorem bd_sold (T : Fc K mg base A D Pt Ct tk cs) : Binds K (D "sold") ["market", "days"] [] := T.d_sold.1.bindsN fun _ _ _ _ _ _ us hl => match us, hl with | [_, _], _ => rfl
theorem fok_sold (T : Fc K mg base A D Pt Ct tk cs) : FnOk P w K mg base CX0 11 (A "sold") (D "sold") ["market", "days"] (spP K cs C_sold) := by
  refine T.d_sold.1.ok sc_sold (lenP fun xs P h => by obtain ⟨_, _, rfl, _⟩ := h; rfl) (fun cdv A0 outer s H vs Q E hr h => ⟨t_sold K cs Pt, PSs.nox ?_, body_P (fun xs P h => sd_sold xs P h) h⟩)
  exact (pss_cons (ps_asg (pe_call (fok_run_of T) (hr.mono (by decide)) rfl T.d_run_of.2 T.d_run_of.1.kp (bd_run_of T) .nil pass0 (pa_cons (pv 0) (pa_cons (pv 1) pa_nil))) (pg_tup rfl (pgs_cons (pg_name (i := 2) sc_sold.nd rfl (by first | exact Or.inl rfl | exact Or.inr rfl)) (pgs_cons (pg_name (i := 3) sc_sold.nd rfl (by first | exact Or.inl rfl | exact Or.inr rfl)) pgs_nil))))
    (pss_one (ps_ret (pe_lc (own := [("good", 4)]) rfl sc_sold.nd (pi_range1 rfl T.range_ (pa_cons (pe_callB c_len (by rfl) T.len_ (by decide +kernel) (pa_cons (pe_ix ix_seq (pv 0) pe_int (fun _ _ => rfl)) pa_nil)) pa_nil)) (blkOk_by (own := [("good", 4)]) (N := ["market", "days", "told", "_", "good"]) (sc := defScope s_sold) (by decide +kernel)) (fun _ _ _ _ _ => (pg_name (i := 4) sc_sold.nd rfl (by first | exact Or.inl rfl | exact Or.inr rfl))) (fun _ _ _ _ _ => pts_nil) (fun _ _ _ _ _ => (pe_bm PySem.F.plainAttrs_list PySem.F.slot_list_count PySem.F.type_list_count mt_cntM (pv 2) (pa_cons (pv 4) pa_nil)))))))
theorem bd_law_goes_on (T : Fc K mg base A D Pt Ct tk cs) : Binds K (D "_law_goes_on") ["mart", "first", "more"] [] := T.d_law_goes_on.1.bindsN fun _ _ _ _ _ _ us hl => match us, hl with | [_, _, _], _ => rfl
theorem fok_law_goes_on (T : Fc K mg base A D Pt Ct tk cs) : FnOk P w K mg base CX0 12 (A "_law_goes_on") (D "_law_goes_on") ["mart", "first", "more"] (spP K cs C_law_goes_on) := by
  refine T.d_law_goes_on.1.ok sc_law_goes_on (lenP fun xs P h => by obtain ⟨_, _, _, rfl, _⟩ := h; rfl) (fun cdv A0 outer s H vs Q E hr h => ⟨t_law_goes_on K cs Pt, PSs.nox ?_, body_P (fun xs P h => sd_law_goes_on xs P h) h⟩)
  exact (pss_cons (ps_asg (pv 0) (pg_tup rfl (pgs_cons (pg_name (i := 3) sc_law_goes_on.nd rfl (by first | exact Or.inl rfl | exact Or.inr rfl)) (pgs_cons (pg_name (i := 4) sc_law_goes_on.nd rfl (by first | exact Or.inl rfl | exact Or.inr rfl)) pgs_nil))))
    (pss_cons (ps_set (i := 5) sc_law_goes_on.nd rfl (by first | exact Or.inl rfl | exact Or.inr rfl) (pe_call (fok_prices_at T) (hr.mono (by decide)) rfl T.d_prices_at.2 T.d_prices_at.1.kp (bd_prices_at T) .nil pass0 (pa_cons (pv 0) (pa_cons (pv 1) pa_nil))))
    (pss_cons (ps_if (pt_cmpR (op_neD hr.units) (pe_lc (own := [("tag", 6)]) rfl sc_law_goes_on.nd (pi_list (pv 5)) (blkOk_by (own := [("tag", 6)]) (N := ["mart", "first", "more", "goods", "rounds", "now", "tag", "at", "later", "k", "one", "other"]) (sc := defScope s_law_goes_on) (by decide +kernel)) (fun _ _ _ _ _ => (pg_name (i := 6) sc_law_goes_on.nd rfl (by first | exact Or.inl rfl | exact Or.inr rfl))) (fun _ _ _ _ _ => (pts_one (PW.pt (pw_or (pt_cmpR op_lt (pv 6) (pe_un un_neg pe_int) (nomark _)) (pw_or1 (pt_cmpR op_gt (pv 6) pe_int (nomark _))))))) (fun _ _ _ _ _ => (pv 6))) (pe_lst pa_nil) (nomark _))
      (pss_one (ps_ret pe_bl))
      pss_nil)
    (pss_cons (ps_set (i := 7) sc_law_goes_on.nd rfl (by first | exact Or.inl rfl | exact Or.inr rfl) (pe_op op_mod (pv 1) (pe_callB c_len (by rfl) T.len_ (by decide +kernel) (pa_cons (pv 4) pa_nil))))
    (pss_cons (ps_set (i := 8) sc_law_goes_on.nd rfl (by first | exact Or.inl rfl | exact Or.inr rfl) (pe_tup (pa_cons (pe_lc (own := [("k", 9)]) rfl sc_law_goes_on.nd (pi_range1 rfl T.range_ (pa_cons (pe_callB c_len (by rfl) T.len_ (by decide +kernel) (pa_cons (pv 3) pa_nil)) pa_nil)) (blkOk_by (own := [("k", 9)]) (N := ["mart", "first", "more", "goods", "rounds", "now", "tag", "at", "later", "k", "one", "other"]) (sc := defScope s_law_goes_on) (by decide +kernel)) (fun _ _ _ _ _ => (pg_name (i := 9) sc_law_goes_on.nd rfl (by first | exact Or.inl rfl | exact Or.inr rfl))) (fun _ _ _ _ _ => pts_nil) (fun _ _ _ _ _ => (pe_tup (pa_cons (pe_ix ix_seq (pe_ix ix_seq (pv 3) (pv 9) (fun _ _ => rfl)) pe_int (fun _ _ => rfl)) (pa_cons (pe_ix ix_seq (pe_ix ix_seq (pv 3) (pv 9) (fun _ _ => rfl)) pe_int (fun _ _ => rfl)) (pa_cons (pe_ix ix_seq (pv 5) (pv 9) (fun _ _ => rfl)) pa_nil)))))) (pa_cons (pe_op op_cat (pe_slice sl_list (pv 4) (po_some (pv 7)) po_none) (pe_slice sl_list (pv 4) po_none (po_some (pv 7)))) pa_nil))))
    (pss_cons (ps_if (pt_cmpR (op_neD hr.units) (pe_call (fok_takes T) (hr.mono (by decide)) rfl T.d_takes.2 T.d_takes.1.kp (bd_takes T) .nil pass0 (pa_cons (pv 8) (pa_cons (pv 2) pa_nil))) (pe_slice sl_list (pe_call (fok_takes T) (hr.mono (by decide)) rfl T.d_takes.2 T.d_takes.1.kp (bd_takes T) .nil pass0 (pa_cons (pv 0) (pa_cons (pe_op op_add (pv 1) (pv 2)) pa_nil))) (po_some (pv 1)) po_none) (nomark _))
      (pss_one (ps_ret pe_bl))
      pss_nil)
    (pss_cons (ps_if (pt_cmpR (op_neD hr.units) (pe_call (fok_prices_at T) (hr.mono (by decide)) rfl T.d_prices_at.2 T.d_prices_at.1.kp (bd_prices_at T) .nil pass0 (pa_cons (pv 8) (pa_cons (pv 2) pa_nil))) (pe_call (fok_prices_at T) (hr.mono (by decide)) rfl T.d_prices_at.2 T.d_prices_at.1.kp (bd_prices_at T) .nil pass0 (pa_cons (pv 0) (pa_cons (pe_op op_add (pv 1) (pv 2)) pa_nil))) (nomark _))
      (pss_one (ps_ret pe_bl))
      pss_nil)
    (pss_cons (ps_asg (pe_lst (pa_cons (pe_call (fok_sold T) (hr.mono (by decide)) rfl T.d_sold.2 T.d_sold.1.kp (bd_sold T) .nil pass0 (pa_cons (pv 0) (pa_cons (pv 1) pa_nil))) (pa_cons (pe_call (fok_sold T) (hr.mono (by decide)) rfl T.d_sold.2 T.d_sold.1.kp (bd_sold T) .nil pass0 (pa_cons (pv 8) (pa_cons (pv 2) pa_nil))) pa_nil))) (pg_unl rfl (pgs_cons (pg_name (i := 10) sc_law_goes_on.nd rfl (by first | exact Or.inl rfl | exact Or.inr rfl)) (pgs_cons (pg_name (i := 11) sc_law_goes_on.nd rfl (by first | exact Or.inl rfl | exact Or.inr rfl)) pgs_nil))))
    (pss_one (ps_ret (pe_cmpR (op_eqD hr.units) (pe_lc (own := [("k", 9)]) rfl sc_law_goes_on.nd (pi_range1 rfl T.range_ (pa_cons (pe_callB c_len (by rfl) T.len_ (by decide +kernel) (pa_cons (pv 3) pa_nil)) pa_nil)) (blkOk_by (own := [("k", 9)]) (N := ["mart", "first", "more", "goods", "rounds", "now", "tag", "at", "later", "k", "one", "other"]) (sc := defScope s_law_goes_on) (by decide +kernel)) (fun _ _ _ _ _ => (pg_name (i := 9) sc_law_goes_on.nd rfl (by first | exact Or.inl rfl | exact Or.inr rfl))) (fun _ _ _ _ _ => pts_nil) (fun _ _ _ _ _ => (pe_op op_add (pe_ix ix_seq (pv 10) (pv 9) (fun _ _ => rfl)) (pe_ix ix_seq (pv 11) (pv 9) (fun _ _ => rfl))))) (pe_call (fok_sold T) (hr.mono (by decide)) rfl T.d_sold.2 T.d_sold.1.kp (bd_sold T) .nil pass0 (pa_cons (pv 0) (pa_cons (pe_op op_add (pv 1) (pv 2)) pa_nil))) (nomark _))))))))))))
theorem bd_law_runs_alike (T : Fc K mg base A D Pt Ct tk cs) : Binds K (D "_law_runs_alike") ["mart", "other", "many"] [] := T.d_law_runs_alike.1.bindsN fun _ _ _ _ _ _ us hl => match us, hl with | [_, _, _], _ => rfl
theorem fok_law_runs_alike (T : Fc K mg base A D Pt Ct tk cs) : FnOk P w K mg base CX0 12 (A "_law_runs_alike") (D "_law_runs_alike") ["mart", "other", "many"] (spP K cs C_law_runs_alike) := by
  refine T.d_law_runs_alike.1.ok sc_law_runs_alike (lenP fun xs P h => by obtain ⟨_, _, _, rfl, _⟩ := h; rfl) (fun cdv A0 outer s H vs Q E hr h => ⟨t_law_runs_alike K cs Pt, PSs.nox ?_, body_P (fun xs P h => sd_law_runs_alike xs P h) h⟩)
  exact (pss_one (ps_ret (pe_and (pe_cmpR (op_eqD hr.units) (pe_call (fok_takes T) (hr.mono (by decide)) rfl T.d_takes.2 T.d_takes.1.kp (bd_takes T) .nil pass0 (pa_cons (pv 0) (pa_cons (pv 2) pa_nil))) (pe_call (fok_takes T) (hr.mono (by decide)) rfl T.d_takes.2 T.d_takes.1.kp (bd_takes T) .nil pass0 (pa_cons (pv 1) (pa_cons (pv 2) pa_nil))) (nomark _)) (pe_one (pe_cmpR (op_eqD hr.units) (pe_call (fok_prices_at T) (hr.mono (by decide)) rfl T.d_prices_at.2 T.d_prices_at.1.kp (bd_prices_at T) .nil pass0 (pa_cons (pv 0) (pa_cons (pv 2) pa_nil))) (pe_call (fok_prices_at T) (hr.mono (by decide)) rfl T.d_prices_at.2 T.d_prices_at.1.kp (bd_prices_at T) .nil pass0 (pa_cons (pv 1) (pa_cons (pv 2) pa_nil))) (nomark _))))))
theorem bd_law_one_more_right (T : Fc K mg base A D Pt Ct tk cs) : Binds K (D "_law_one_more_right") ["till", "mart", "many"] [] := T.d_law_one_more_right.1.bindsN fun _ _ _ _ _ _ us hl => match us, hl with | [_, _, _], _ => rfl
theorem fok_law_one_more_right (T : Fc K mg base A D Pt Ct tk cs) : FnOk P w K mg base CX0 12 (A "_law_one_more_right") (D "_law_one_more_right") ["till", "mart", "many"] (spT K cs C_law_one_more_right) := by
  refine T.d_law_one_more_right.1.ok sc_law_one_more_right (lenT fun ts xs P h => by obtain ⟨_, _, _, _, _, rfl, _⟩ := h; rfl) (fun cdv A0 outer s H vs Q E hr h => ⟨t_law_one_more_right K cs Pt, PSs.nox ?_, body_T (fun ts xs P h => sd_law_one_more_right ts xs P h) h⟩)
  exact (pss_cons (ps_asg (pv 1) (pg_tup rfl (pgs_cons (pg_name (i := 3) sc_law_one_more_right.nd rfl (by first | exact Or.inl rfl | exact Or.inr rfl)) (pgs_cons (pg_name (i := 4) sc_law_one_more_right.nd rfl (by first | exact Or.inl rfl | exact Or.inr rfl)) pgs_nil))))
    (pss_cons (ps_if (pt_cmpR op_eq (pe_callB c_len (by rfl) T.len_ (by decide +kernel) (pa_cons (pv 3) pa_nil)) pe_int (nomark _))
      (pss_one (ps_ret pe_bl))
      pss_nil)
    (pss_cons (ps_set (i := 5) sc_law_one_more_right.nd rfl (by first | exact Or.inl rfl | exact Or.inr rfl) (pe_call (fok_law_pull T) (hr.mono (by decide)) rfl T.d_law_pull.2 T.d_law_pull.1.kp (bd_law_pull T) .nil pass0 (pa_cons (pv 0) (pa_cons (pe_op op_add (pe_callB c_len (by rfl) T.len_ (by decide +kernel) (pa_cons (pv 3) pa_nil)) pe_int) pa_nil))))
    (pss_cons (ps_set (i := 6) sc_law_one_more_right.nd rfl (by first | exact Or.inl rfl | exact Or.inr rfl) (pe_tup (pa_cons (pe_op op_add pe_int (pe_call (fok_law_pull T) (hr.mono (by decide)) rfl T.d_law_pull.2 T.d_law_pull.1.kp (bd_law_pull T) .nil pass0 (pa_cons (pv 0) (pa_cons pe_int pa_nil)))) (pa_cons (pe_op op_add pe_int (pe_call (fok_law_pull T) (hr.mono (by decide)) rfl T.d_law_pull.2 T.d_law_pull.1.kp (bd_law_pull T) .nil pass0 (pa_cons (pv 0) (pa_cons pe_int pa_nil)))) (pa_cons (pe_op op_sub (pe_call (fok_law_pull T) (hr.mono (by decide)) rfl T.d_law_pull.2 T.d_law_pull.1.kp (bd_law_pull T) .nil pass0 (pa_cons (pv 0) (pa_cons pe_int pa_nil))) pe_int) pa_nil)))))
    (pss_cons (ps_setLc (i := 7) (own := [("buyer", 8)]) rfl sc_law_one_more_right.nd rfl rfl (sw_true rfl rfl rfl (by decide +kernel)) (pi_list (pv 4)) (blkOk_by (own := [("buyer", 8)]) (N := ["till", "mart", "many", "goods", "rounds", "at", "ware", "wider", "buyer", "wide", "tags", "found", "take"]) (sc := defScope s_law_one_more_right) (by decide +kernel)) (fun _ _ _ _ _ => (pg_name (i := 8) sc_law_one_more_right.nd rfl (by first | exact Or.inl rfl | exact Or.inr rfl))) (fun _ _ _ _ _ => pts_nil) (fun _ _ _ _ _ => (pe_ifExp (pt_cmpR op_isN (pv 8) pe_non (nomark _)) pe_non (pe_op op_cat (pe_op op_cat (pe_slice sl_list (pv 8) po_none (po_some (pv 5))) (pe_lst (pa_cons pe_non pa_nil))) (pe_slice sl_list (pv 8) (po_some (pv 5)) po_none)))))
    (pss_cons (ps_set (i := 9) sc_law_one_more_right.nd rfl (by first | exact Or.inl rfl | exact Or.inr rfl) (pe_tup (pa_cons (pe_op op_cat (pe_op op_cat (pe_slice sl_list (pv 3) po_none (po_some (pv 5))) (pe_lst (pa_cons (pv 6) pa_nil))) (pe_slice sl_list (pv 3) (po_some (pv 5)) po_none)) (pa_cons (pv 7) pa_nil))))
    (pss_cons (ps_set (i := 10) sc_law_one_more_right.nd rfl (by first | exact Or.inl rfl | exact Or.inr rfl) (pe_call (fok_prices_at T) (hr.mono (by decide)) rfl T.d_prices_at.2 T.d_prices_at.1.kp (bd_prices_at T) .nil pass0 (pa_cons (pv 9) (pa_cons (pv 2) pa_nil))))
    (pss_cons (ps_setLc (i := 11) (own := [("take", 12)]) rfl sc_law_one_more_right.nd rfl rfl (sw_true rfl rfl rfl (by decide +kernel)) (pi_list (pe_call (fok_takes T) (hr.mono (by decide)) rfl T.d_takes.2 T.d_takes.1.kp (bd_takes T) .nil pass0 (pa_cons (pv 9) (pa_cons (pv 2) pa_nil)))) (blkOk_by (own := [("take", 12)]) (N := ["till", "mart", "many", "goods", "rounds", "at", "ware", "wider", "buyer", "wide", "tags", "found", "take"]) (sc := defScope s_law_one_more_right) (by decide +kernel)) (fun _ _ _ _ _ => (pg_name (i := 12) sc_law_one_more_right.nd rfl (by first | exact Or.inl rfl | exact Or.inr rfl))) (fun _ _ _ _ _ => pts_nil) (fun _ _ _ _ _ => (pe_ifExp (PW.pt (pw_or (pt_cmpR op_isN (pv 12) pe_non (nomark _)) (pw_or1 (pt_cmpR op_lt (pv 12) (pv 5) (nomark _))))) (pv 12) (pe_op op_sub (pv 12) pe_int))))
    (pss_cons (ps_if (PW.pt (pw_or (pt_cmpR op_ne (pe_ix ix_seq (pe_call (fok_sold T) (hr.mono (by decide)) rfl T.d_sold.2 T.d_sold.1.kp (bd_sold T) .nil pass0 (pa_cons (pv 9) (pa_cons (pv 2) pa_nil))) (pv 5) (fun _ _ => rfl)) pe_int (nomark _)) (pw_or1 (pt_cmpR (op_neD hr.units) (pv 11) (pe_call (fok_takes T) (hr.mono (by decide)) rfl T.d_takes.2 T.d_takes.1.kp (bd_takes T) .nil pass0 (pa_cons (pv 1) (pa_cons (pv 2) pa_nil))) (nomark _)))))
      (pss_one (ps_ret pe_bl))
      pss_nil)
    (pss_one (ps_ret (pe_and (pe_cmpR op_eq (pe_ix ix_seq (pv 10) (pv 5) (fun _ _ => rfl)) (pe_op op_sub (pe_ix ix_seq (pv 6) pe_int (fun _ _ => rfl)) (pe_op op_mulW (pe_ix ix_seq (pv 6) pe_int (fun _ _ => rfl)) (pv 2))) (nomark _)) (pe_one (pe_cmpR (op_eqD hr.units) (pe_op op_cat (pe_slice sl_list (pv 10) po_none (po_some (pv 5))) (pe_slice sl_list (pv 10) (po_some (pe_op op_add (pv 5) pe_int)) po_none)) (pe_call (fok_prices_at T) (hr.mono (by decide)) rfl T.d_prices_at.2 T.d_prices_at.1.kp (bd_prices_at T) .nil pass0 (pa_cons (pv 1) (pa_cons (pv 2) pa_nil))) (nomark _)))))))))))))))
theorem bd_law (T : Fc K mg base A D Pt Ct tk cs) : Binds K (D "law") ["script"] [] := T.d_law.1.bindsN fun _ _ _ _ _ _ us hl => match us, hl with | [_], _ => rfl
theorem fok_law (T : Fc K mg base A D Pt Ct tk cs) : FnOk P w K mg base CX0 13 (A "law") (D "law") ["script"] (spP K cs C_law) := by
  refine T.d_law.1.ok sc_law (lenP fun xs P h => by obtain ⟨_, rfl, _⟩ := h; rfl) (fun cdv A0 outer s H vs Q E hr h => ⟨t_law K cs Pt, PSs.nox ?_, body_P (fun xs P h => sd_law xs P h) h⟩)
  exact (pss_cons (ps_for PassesOwn.never rfl (pi_range1 rfl T.range_ (pa_cons (pe_callB (c_max2 rfl) (by rfl) T.max_ (by decide +kernel) (pa_cons pe_int (pa_cons (pe_callB (c_min2 rfl) (by rfl) T.min_ (by decide +kernel) (pa_cons pe_int (pa_cons (pe_callB c_len (by rfl) T.len_ (by decide +kernel) (pa_cons (pv 0) pa_nil)) pa_nil))) pa_nil))) pa_nil)) (pg_name (i := 1) sc_law.nd rfl (by first | exact Or.inl rfl | exact Or.inr rfl))
      (pss_cons (ps_set (i := 2) sc_law.nd rfl (by first | exact Or.inl rfl | exact Or.inr rfl) (pe_call (fok_law_till T) (hr.mono (by decide)) rfl T.d_law_till.2 T.d_law_till.1.kp (bd_law_till T) .nil pass0 (pa_cons (pv 0) (pa_cons (pv 1) pa_nil))))
    (pss_cons (ps_set (i := 3) sc_law.nd rfl (by first | exact Or.inl rfl | exact Or.inr rfl) (pe_call (fok_law_calm T) (hr.mono (by decide)) rfl T.d_law_calm.2 T.d_law_calm.1.kp (bd_law_calm T) .nil pass0 (pa_cons (pv 2) (pa_cons (pe_call (fok_law_market T) (hr.mono (by decide)) rfl T.d_law_market.2 T.d_law_market.1.kp (bd_law_market T) .nil pass0 (pa_cons (pv 2) pa_nil)) pa_nil))))
    (pss_cons (ps_set (i := 4) sc_law.nd rfl (by first | exact Or.inl rfl | exact Or.inr rfl) (pe_call (fok_law_pull T) (hr.mono (by decide)) rfl T.d_law_pull.2 T.d_law_pull.1.kp (bd_law_pull T) .nil pass0 (pa_cons (pv 2) (pa_cons pe_int pa_nil))))
    (pss_cons (ps_set (i := 5) sc_law.nd rfl (by first | exact Or.inl rfl | exact Or.inr rfl) (pe_call (fok_law_pull T) (hr.mono (by decide)) rfl T.d_law_pull.2 T.d_law_pull.1.kp (bd_law_pull T) .nil pass0 (pa_cons (pv 2) (pa_cons pe_int pa_nil))))
    (pss_cons (ps_if (PW.pt (pw_or (pt_cmpR (op_neD hr.units) (pe_call (fok_takes T) (hr.mono (by decide)) rfl T.d_takes.2 T.d_takes.1.kp (bd_takes T) .nil pass0 (pa_cons (pv 3) (pa_cons (pv 4) pa_nil))) (pe_slice sl_list (pe_call (fok_takes T) (hr.mono (by decide)) rfl T.d_takes.2 T.d_takes.1.kp (bd_takes T) .nil pass0 (pa_cons (pv 3) (pa_cons (pe_op op_add (pv 4) (pv 5)) pa_nil))) po_none (po_some (pv 4))) (nomark _)) (pw_or1 (pt_not (pt_val (pe_call (fok_law_goes_on T) (hr.mono (by decide)) rfl T.d_law_goes_on.2 T.d_law_goes_on.1.kp (bd_law_goes_on T) .nil pass0 (pa_cons (pv 3) (pa_cons (pv 4) (pa_cons (pv 5) pa_nil)))))))))
      (pss_one (ps_ret pe_bl))
      pss_nil)
    (pss_cons (ps_if (pt_not (pt_val (pe_call (fok_law_runs_alike T) (hr.mono (by decide)) rfl T.d_law_runs_alike.2 T.d_law_runs_alike.1.kp (bd_law_runs_alike T) .nil pass0 (pa_cons (pv 3) (pa_cons (pe_call (fok_law_nobodies T) (hr.mono (by decide)) rfl T.d_law_nobodies.2 T.d_law_nobodies.1.kp (bd_law_nobodies T) .nil pass0 (pa_cons (pv 3) pa_nil)) (pa_cons (pe_op op_add (pv 4) (pv 5)) pa_nil))))))
      (pss_one (ps_ret pe_bl))
      pss_nil)
    (pss_cons (ps_set (i := 6) sc_law.nd rfl (by first | exact Or.inl rfl | exact Or.inr rfl) (pe_tup (pa_cons (pe_ix ix_seq (pv 3) pe_int (fun _ _ => rfl)) (pa_cons (pe_op op_cat (pe_ix ix_seq (pv 3) pe_int (fun _ _ => rfl)) (pe_ix ix_seq (pv 3) pe_int (fun _ _ => rfl))) pa_nil))))
    (pss_cons (ps_if (PW.pt (pw_and (pt_cmpR op_lt (pe_callB c_len (by rfl) T.len_ (by decide +kernel) (pa_cons (pe_ix ix_seq (pv 3) pe_int (fun _ _ => rfl)) pa_nil)) pe_int (nomark _)) (pw_and1 (pt_not (pt_val (pe_call (fok_law_runs_alike T) (hr.mono (by decide)) rfl T.d_law_runs_alike.2 T.d_law_runs_alike.1.kp (bd_law_runs_alike T) .nil pass0 (pa_cons (pv 3) (pa_cons (pv 6) (pa_cons (pe_op op_add (pv 4) (pv 5)) pa_nil)))))))))
      (pss_one (ps_ret pe_bl))
      pss_nil)
    (pss_one (ps_if (pt_not (pt_val (pe_call (fok_law_one_more_right T) (hr.mono (by decide)) rfl T.d_law_one_more_right.2 T.d_law_one_more_right.1.kp (bd_law_one_more_right T) .nil pass0 (pa_cons (pv 2) (pa_cons (pv 3) (pa_cons (pe_op op_add (pv 4) (pv 5)) pa_nil))))))
      (pss_one (ps_ret pe_bl))
      pss_nil)))))))))))
    (pss_one (ps_ret pe_bl)))
end
end K8


set_option Elab.async false
set_option linter.all false
set_option maxRecDepth 100000
set_option maxHeartbeats 0
namespace K8
open PySem PySem.Spec PyProof.Rows L2 DX So
def mkD (x : Str) (st : Stmt) : He.DefD := ⟨(x, none), x, x, defArgs st, defBody st, defScope st, [], []⟩
def fnL : List He.DefD := [mkD "is_whole" s_is_whole, mkD "is_within" s_is_within, mkD "is_step" s_is_step, mkD "is_worth" s_is_worth, mkD "is_good" s_is_good, mkD "is_list_of_goods" s_is_list_of_goods, mkD "is_buyer" s_is_buyer, mkD "is_round" s_is_round, mkD "is_market" s_is_market, mkD "check_market" s_check_market, mkD "starts_of" s_starts_of, mkD "buyer_at" s_buyer_at, mkD "taken_by" s_taken_by, mkD "moved" s_moved, mkD "check_days" s_check_days, mkD "run_of" s_run_of, mkD "takes" s_takes, mkD "prices_at" s_prices_at, mkD "sold" s_sold, mkD "_law_till" s_law_till, mkD "_law_pull" s_law_pull, mkD "_law_near" s_law_near, mkD "_law_buyer" s_law_buyer, mkD "_law_market" s_law_market, mkD "_law_calm" s_law_calm, mkD "_law_goes_on" s_law_goes_on, mkD "_law_runs_alike" s_law_runs_alike, mkD "_law_nobodies" s_law_nobodies, mkD "_law_one_more_right" s_law_one_more_right, mkD "law" s_law]
def faA : List He.Fa := [.glo "is_whole", .glo "is_within", .glo "is_step", .glo "is_worth", .glo "is_good", .glo "is_list_of_goods", .glo "is_buyer", .glo "is_round", .glo "is_market", .glo "check_market", .glo "starts_of", .glo "buyer_at", .glo "taken_by", .glo "moved", .glo "check_days", .glo "run_of", .glo "takes", .glo "prices_at", .glo "sold", .glo "_law_till", .glo "_law_pull", .glo "_law_near", .glo "_law_buyer", .glo "_law_market", .glo "_law_calm", .glo "_law_goes_on", .glo "_law_runs_alike", .glo "_law_nobodies", .glo "_law_one_more_right", .glo "law"]
def faB : List He.Fa := [.free "all", .free "bool", .free "enumerate", .free "int", .free "isinstance", .free "len", .free "list", .free "max", .free "min", .free "range", .free "tuple", .int "MOST_GOODS" 4, .int "MOST_DAYS_OF_ROUND" 6, .int "MOST_STEP" 4, .int "MOST_WORTH" 99, .int "MOST_DAYS" 4000]
def faL : List He.Fa := faA ++ faB
def tfL : List He.Defn := [("is_list_of_goods", none), ("is_buyer", none), ("is_round", none)]
def vis : List Nat := [1, 2, 3, 5, 6, 7, 8, 9, 10, 11, 12, 13, 14, 15, 16, 17, 18, 19, 20, 21, 22, 24, 25, 26, 27, 28, 29, 31, 32, 33, 34, 35, 36, 37, 38, 39, 40, 41]
abbrev RR : PySem.W.OpenRow := PySem.W.OpenLaw.row PySem.Challenge.rw_soldrises_k08_whole_runs_in_parts
abbrev hkX : PySem.W.Hook := He.hookX 4 faL fnL [] tfL (fun _ => true)
def obX (s : PySem.W.SharedT) : He.AlX := He.obsX 4 faL fnL [] tfL (fun _ => true) (HandSHeadRun.getT s)
theorem obX_eq (s : PySem.W.SharedT) : obX s = hkX.obs s.abs := He.obsX_eq (HandSHeadRun.getT_eq s)
theorem runX (w : World) : HandSHeadRun.RunEq RR (PySem.W.view RR.prog vis) hkX obX 1800 [] w := by
  intro os
  kernel_rfl
def dOf (K : PySem.W.Frag) (x : Str) : FuncData := match K.lookup (He.ga K x) with
  | some ⟨_, _, .func fd, _⟩ => fd
  | _ => default
def tkOf (mg : Str → Option Value) (x : Str) : Tok := match mg x with
  | some (.int _ t) => t
  | _ => 0
theorem dOf_eq {K : PySem.W.Frag} {x qual : Str} {params : Arguments} {body : List Stmt} {scope : Scope} {dvs : List V} {kws : List (Str × V)} {fd : FuncData} (F : FunD K x qual params body scope dvs kws (He.ga K x) fd) : FunD K x qual params body scope dvs kws (He.ga K x) (dOf K x) := by
  have F2 := F
  obtain ⟨oc, od, dV, kV, doc, pm, an, cdv, ct, osl, e, lk, hcd, h1, h2⟩ := F.ex
  have e2 : dOf K x = fd := by
    unfold dOf
    rw [lk]
  rw [e2]
  exact F2
theorem code_eq {K : PySem.W.Frag} {x qual : Str} {params : Arguments} {body : List Stmt} {scope : Scope} {dvs : List V} {kws : List (Str × V)} {fd : FuncData} (F : FunD K x qual params body scope dvs kws (He.ga K x) fd) : (dOf K x).code = .ref (He.codeOf K (x, none)) := by
  obtain ⟨oc, od, dV, kV, doc, pm, an, cdv, ct, osl, e, lk, hcd, h1, h2⟩ := F.ex
  have e2 : dOf K x = fd := by
    unfold dOf
    rw [lk]
  have hcd2 : PySem.W.codeIn K fd.code qual = true := by rw [e]; exact hcd
  obtain ⟨c, hc⟩ := He.codeIn_ref hcd2
  rw [e2, hc, He.codeOf_eq (p := (x, none)) lk hc]
theorem tk_eq {mg : Str → Option Value} {x : Str} {i : Int} (h : ∃ t, mg x = some (.int i t)) : mg x = some (.int i (tkOf mg x)) := by
  obtain ⟨t, h⟩ := h
  have e : tkOf mg x = t := by
    unfold tkOf
    rw [h]
  rw [e]
  exact h
def csL (K : PySem.W.Frag) : List (Addr × Addr) := tfL.map (He.cT K)
theorem facts {w : World} {K : PySem.W.Frag} {h h0 base : Heap} {mg : Str → Option Value} (X : K.In h) (G : h.Ns mainGlobals mg) (c : He.SaysX faL fnL [] tfL (fun _ => true) w h0 K) (tb : ∀ p ∈ csL K, LamX.TabB base mg p.1 p.2) :
    Fc K mg base (He.ga K) (dOf K) (fun x => (He.cT K (x, none)).2) (fun x => He.codeOf K (x, none)) (tkOf mg) ((csL K).map (·.2)) := by
  have cd := c.t.d
  have T : ∀ q ∈ tfL, GxR.TabB base mg (He.cT K q).1 (He.cT K q).2 := fun q hq => by
    have t := tb _ (List.mem_map.mpr ⟨q, hq, rfl⟩)
    exact ⟨t.code, t.bm, t.gP⟩
  have M : ∀ q ∈ tfL, (He.cT K q).2 ∈ (csL K).map (·.2) := fun q hq => List.mem_map.mpr ⟨_, List.mem_map.mpr ⟨q, hq, rfl⟩, rfl⟩
  obtain ⟨f_is_whole, D_is_whole⟩ := cd.def_ 0 (d := mkD "is_whole" s_is_whole) rfl
  obtain ⟨f_is_within, D_is_within⟩ := cd.def_ 1 (d := mkD "is_within" s_is_within) rfl
  obtain ⟨f_is_step, D_is_step⟩ := cd.def_ 2 (d := mkD "is_step" s_is_step) rfl
  obtain ⟨f_is_worth, D_is_worth⟩ := cd.def_ 3 (d := mkD "is_worth" s_is_worth) rfl
  obtain ⟨f_is_good, D_is_good⟩ := cd.def_ 4 (d := mkD "is_good" s_is_good) rfl
  obtain ⟨f_is_list_of_goods, D_is_list_of_goods⟩ := cd.def_ 5 (d := mkD "is_list_of_goods" s_is_list_of_goods) rfl
  obtain ⟨f_is_buyer, D_is_buyer⟩ := cd.def_ 6 (d := mkD "is_buyer" s_is_buyer) rfl
  obtain ⟨f_is_round, D_is_round⟩ := cd.def_ 7 (d := mkD "is_round" s_is_round) rfl
  obtain ⟨f_is_market, D_is_market⟩ := cd.def_ 8 (d := mkD "is_market" s_is_market) rfl
  obtain ⟨f_check_market, D_check_market⟩ := cd.def_ 9 (d := mkD "check_market" s_check_market) rfl
  obtain ⟨f_starts_of, D_starts_of⟩ := cd.def_ 10 (d := mkD "starts_of" s_starts_of) rfl
  obtain ⟨f_buyer_at, D_buyer_at⟩ := cd.def_ 11 (d := mkD "buyer_at" s_buyer_at) rfl
  obtain ⟨f_taken_by, D_taken_by⟩ := cd.def_ 12 (d := mkD "taken_by" s_taken_by) rfl
  obtain ⟨f_moved, D_moved⟩ := cd.def_ 13 (d := mkD "moved" s_moved) rfl
  obtain ⟨f_check_days, D_check_days⟩ := cd.def_ 14 (d := mkD "check_days" s_check_days) rfl
  obtain ⟨f_run_of, D_run_of⟩ := cd.def_ 15 (d := mkD "run_of" s_run_of) rfl
  obtain ⟨f_takes, D_takes⟩ := cd.def_ 16 (d := mkD "takes" s_takes) rfl
  obtain ⟨f_prices_at, D_prices_at⟩ := cd.def_ 17 (d := mkD "prices_at" s_prices_at) rfl
  obtain ⟨f_sold, D_sold⟩ := cd.def_ 18 (d := mkD "sold" s_sold) rfl
  obtain ⟨f_law_till, D_law_till⟩ := cd.def_ 19 (d := mkD "_law_till" s_law_till) rfl
  obtain ⟨f_law_pull, D_law_pull⟩ := cd.def_ 20 (d := mkD "_law_pull" s_law_pull) rfl
  obtain ⟨f_law_near, D_law_near⟩ := cd.def_ 21 (d := mkD "_law_near" s_law_near) rfl
  obtain ⟨f_law_buyer, D_law_buyer⟩ := cd.def_ 22 (d := mkD "_law_buyer" s_law_buyer) rfl
  obtain ⟨f_law_market, D_law_market⟩ := cd.def_ 23 (d := mkD "_law_market" s_law_market) rfl
  obtain ⟨f_law_calm, D_law_calm⟩ := cd.def_ 24 (d := mkD "_law_calm" s_law_calm) rfl
  obtain ⟨f_law_goes_on, D_law_goes_on⟩ := cd.def_ 25 (d := mkD "_law_goes_on" s_law_goes_on) rfl
  obtain ⟨f_law_runs_alike, D_law_runs_alike⟩ := cd.def_ 26 (d := mkD "_law_runs_alike" s_law_runs_alike) rfl
  obtain ⟨f_law_nobodies, D_law_nobodies⟩ := cd.def_ 27 (d := mkD "_law_nobodies" s_law_nobodies) rfl
  obtain ⟨f_law_one_more_right, D_law_one_more_right⟩ := cd.def_ 28 (d := mkD "_law_one_more_right" s_law_one_more_right) rfl
  obtain ⟨f_law, D_law⟩ := cd.def_ 29 (d := mkD "law" s_law) rfl
  exact {
    all_ := He.free_ok X G (cd.fact 30 (f := .free "all") rfl)
    bool_ := He.free_ok X G (cd.fact 31 (f := .free "bool") rfl)
    enumerate_ := He.free_ok X G (cd.fact 32 (f := .free "enumerate") rfl)
    int_ := He.free_ok X G (cd.fact 33 (f := .free "int") rfl)
    isinstance_ := He.free_ok X G (cd.fact 34 (f := .free "isinstance") rfl)
    len_ := He.free_ok X G (cd.fact 35 (f := .free "len") rfl)
    list_ := He.free_ok X G (cd.fact 36 (f := .free "list") rfl)
    max_ := He.free_ok X G (cd.fact 37 (f := .free "max") rfl)
    min_ := He.free_ok X G (cd.fact 38 (f := .free "min") rfl)
    range_ := He.free_ok X G (cd.fact 39 (f := .free "range") rfl)
    tuple_ := He.free_ok X G (cd.fact 40 (f := .free "tuple") rfl)
    g_MOST_GOODS := tk_eq (He.int_ok X G (cd.fact 41 (f := .int "MOST_GOODS" 4) rfl))
    g_MOST_DAYS_OF_ROUND := tk_eq (He.int_ok X G (cd.fact 42 (f := .int "MOST_DAYS_OF_ROUND" 6) rfl))
    g_MOST_STEP := tk_eq (He.int_ok X G (cd.fact 43 (f := .int "MOST_STEP" 4) rfl))
    g_MOST_WORTH := tk_eq (He.int_ok X G (cd.fact 44 (f := .int "MOST_WORTH" 99) rfl))
    g_MOST_DAYS := tk_eq (He.int_ok X G (cd.fact 45 (f := .int "MOST_DAYS" 4000) rfl))
    d_is_whole := ⟨dOf_eq D_is_whole, He.glo_ok X G (cd.fact 0 (f := .glo "is_whole") rfl)⟩
    d_is_within := ⟨dOf_eq D_is_within, He.glo_ok X G (cd.fact 1 (f := .glo "is_within") rfl)⟩
    d_is_step := ⟨dOf_eq D_is_step, He.glo_ok X G (cd.fact 2 (f := .glo "is_step") rfl)⟩
    d_is_worth := ⟨dOf_eq D_is_worth, He.glo_ok X G (cd.fact 3 (f := .glo "is_worth") rfl)⟩
    d_is_good := ⟨dOf_eq D_is_good, He.glo_ok X G (cd.fact 4 (f := .glo "is_good") rfl)⟩
    d_is_list_of_goods := ⟨dOf_eq D_is_list_of_goods, He.glo_ok X G (cd.fact 5 (f := .glo "is_list_of_goods") rfl)⟩
    d_is_buyer := ⟨dOf_eq D_is_buyer, He.glo_ok X G (cd.fact 6 (f := .glo "is_buyer") rfl)⟩
    d_is_round := ⟨dOf_eq D_is_round, He.glo_ok X G (cd.fact 7 (f := .glo "is_round") rfl)⟩
    d_is_market := ⟨dOf_eq D_is_market, He.glo_ok X G (cd.fact 8 (f := .glo "is_market") rfl)⟩
    d_check_market := ⟨dOf_eq D_check_market, He.glo_ok X G (cd.fact 9 (f := .glo "check_market") rfl)⟩
    d_starts_of := ⟨dOf_eq D_starts_of, He.glo_ok X G (cd.fact 10 (f := .glo "starts_of") rfl)⟩
    d_buyer_at := ⟨dOf_eq D_buyer_at, He.glo_ok X G (cd.fact 11 (f := .glo "buyer_at") rfl)⟩
    d_taken_by := ⟨dOf_eq D_taken_by, He.glo_ok X G (cd.fact 12 (f := .glo "taken_by") rfl)⟩
    d_moved := ⟨dOf_eq D_moved, He.glo_ok X G (cd.fact 13 (f := .glo "moved") rfl)⟩
    d_check_days := ⟨dOf_eq D_check_days, He.glo_ok X G (cd.fact 14 (f := .glo "check_days") rfl)⟩
    d_run_of := ⟨dOf_eq D_run_of, He.glo_ok X G (cd.fact 15 (f := .glo "run_of") rfl)⟩
    d_takes := ⟨dOf_eq D_takes, He.glo_ok X G (cd.fact 16 (f := .glo "takes") rfl)⟩
    d_prices_at := ⟨dOf_eq D_prices_at, He.glo_ok X G (cd.fact 17 (f := .glo "prices_at") rfl)⟩
    d_sold := ⟨dOf_eq D_sold, He.glo_ok X G (cd.fact 18 (f := .glo "sold") rfl)⟩
    d_law_till := ⟨dOf_eq D_law_till, He.glo_ok X G (cd.fact 19 (f := .glo "_law_till") rfl)⟩
    d_law_pull := ⟨dOf_eq D_law_pull, He.glo_ok X G (cd.fact 20 (f := .glo "_law_pull") rfl)⟩
    d_law_near := ⟨dOf_eq D_law_near, He.glo_ok X G (cd.fact 21 (f := .glo "_law_near") rfl)⟩
    d_law_buyer := ⟨dOf_eq D_law_buyer, He.glo_ok X G (cd.fact 22 (f := .glo "_law_buyer") rfl)⟩
    d_law_market := ⟨dOf_eq D_law_market, He.glo_ok X G (cd.fact 23 (f := .glo "_law_market") rfl)⟩
    d_law_calm := ⟨dOf_eq D_law_calm, He.glo_ok X G (cd.fact 24 (f := .glo "_law_calm") rfl)⟩
    d_law_goes_on := ⟨dOf_eq D_law_goes_on, He.glo_ok X G (cd.fact 25 (f := .glo "_law_goes_on") rfl)⟩
    d_law_runs_alike := ⟨dOf_eq D_law_runs_alike, He.glo_ok X G (cd.fact 26 (f := .glo "_law_runs_alike") rfl)⟩
    d_law_nobodies := ⟨dOf_eq D_law_nobodies, He.glo_ok X G (cd.fact 27 (f := .glo "_law_nobodies") rfl)⟩
    d_law_one_more_right := ⟨dOf_eq D_law_one_more_right, He.glo_ok X G (cd.fact 28 (f := .glo "_law_one_more_right") rfl)⟩
    d_law := ⟨dOf_eq D_law, He.glo_ok X G (cd.fact 29 (f := .glo "law") rfl)⟩
    tb_is_list_of_goods := ⟨code_eq D_is_list_of_goods, T ("is_list_of_goods", none) (by simp [tfL]), M ("is_list_of_goods", none) (by simp [tfL])⟩
    tb_is_buyer := ⟨code_eq D_is_buyer, T ("is_buyer", none) (by simp [tfL]), M ("is_buyer", none) (by simp [tfL])⟩
    tb_is_round := ⟨code_eq D_is_round, T ("is_round", none) (by simp [tfL]), M ("is_round", none) (by simp [tfL])⟩ }
end K8


set_option Elab.async false
set_option linter.all false
set_option maxRecDepth 100000
set_option maxHeartbeats 0
namespace K8
open PySem PySem.Spec PyProof.Rows L2 DX So
theorem lawAt {w : World} {K : PySem.W.Frag} {h : Heap} {mg : Str → Option Value} {fa : Addr} (X : K.In h) (G : h.Ns mainGlobals mg) (hfa : mg ("law" : Str) = some (.ref fa)) (c : He.SaysX faL fnL [] tfL (fun _ => true) w h K) :
    LamX.LawAtS PySem.Challenge.rw_soldrises_k08_whole_runs_in_parts w K CX0 13 63 "script" mg fa h := by
  have cd := c.t.d
  obtain ⟨fd, F⟩ := cd.def_ 29 (d := mkD "law" s_law) rfl
  have g : mg ("law" : Str) = some (.ref (He.ga K "law")) := He.glo_ok X G (cd.fact 29 (f := .glo "law") rfl)
  have e : fa = He.ga K "law" := by
    rw [hfa] at g
    exact Value.ref.inj (Option.some.inj g)
  have F' := dOf_eq F
  have b := FunD.bindsA (ps := ["script"]) F' fun _ _ _ _ _ _ us hl => match us, hl with | [_], _ => rfl
  refine ⟨dOf K "law", csL K, spP K ((csL K).map (·.2)) C_law, fun p hp => ?_, fun p hp => ?_, fun p hp => ?_, fun s v => b s [v] rfl, fun H a ns hl hb hT hS => ?_, fun base KB GB tb => ?_⟩
  · obtain ⟨q, hq, rfl⟩ := List.mem_map.mp hp
    exact c.empty q hq
  · obtain ⟨q, hq, rfl⟩ := List.mem_map.mp hp
    exact c.out q hq
  · obtain ⟨q, hq, rfl⟩ := List.mem_map.mp hp
    exact PySem.W.codeHd_of_K X (c.hd q hq)
  · refine ⟨[scrD ns], fun d => d = .bool true, fun _ => False, ⟨ns, rfl, hl, rfl⟩, .cons (.scr (SqL.gr (fun b o _ e => del_some.mpr ⟨fun z => z, e⟩) hS)) .nil, fun a z => z.elim, fun p hp => ?_, fun d v H' e r _ _ _ => ?_⟩
    · obtain ⟨q, hq, rfl⟩ := List.mem_map.mp hp
      exact ⟨#[], hT q hq, trivial⟩
    · subst e
      cases r
      rfl
  · rw [e]
    exact fok_law (facts KB GB c tb)
end K8
open PySem PySem.W PySem.Calls PyProof.Rows
theorem PySem.Challenge.cw_soldrises_k08_whole_runs_in_parts_holds : PySem.Challenge.rw_soldrises_k08_whole_runs_in_parts.Holds := by
  w_on; o_law
  refine HandSHeadRun.head_any (r := OpenLaw.row PySem.Challenge.rw_soldrises_k08_whole_runs_in_parts) (q := view (OpenLaw.row PySem.Challenge.rw_soldrises_k08_whole_runs_in_parts).prog K8.vis) (H := K8.hkX) (ob := K8.obX) (M := 1800) (loose := []) (d := HandSHeadRun.topDef (OpenLaw.row PySem.Challenge.rw_soldrises_k08_whole_runs_in_parts).prog 41) (kwd := []) K8.obX_eq
    (by kernel_rfl) (fun s => by kernel_rfl) K8.runX (by kernel_rfl) (by kernel_rfl) (by kernel_rfl) (by rfl) (by first | assumption | decide +kernel) (by decide +kernel) ⟨rfl, rfl, rfl, rfl, rfl, by decide +kernel⟩ ?hw ?hc
  case hw => w_witness2
  case hc =>
    refine LamX.walk_ofTsE (l := PySem.Challenge.rw_soldrises_k08_whole_runs_in_parts) (n := 63) (k := 13) (x := "script") (CX := fun _ => L2.CX0) rfl (by decide) (by kernel_rfl) ⟨rfl, by decide, by decide⟩ ?F (fun _ _ _ _ _ z => z)
    intro w mg fa h Y G hmg0
    obtain ⟨K, KX, c⟩ := Y
    have hmg : mg ("law" : PySem.Str) = some (.ref fa) := by
      have e : (HandSHeadRun.topDef (OpenLaw.row PySem.Challenge.rw_soldrises_k08_whole_runs_in_parts).prog 41).name = ("law" : PySem.Str) := by kernel_rfl
      rw [← e]
      exact hmg0
    exact ⟨K, KX, K8.lawAt KX G hmg c⟩


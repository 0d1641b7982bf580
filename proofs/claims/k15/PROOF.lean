import PyProof.Rows.All
import Wide.All
import OpenK.AllK
import Wide.FinOn
import HandS.ForMost
import HandS.AnyAll
import HandS.GenOver
import HandS.EndTab
import HandS.Walk
import HandS.HeadHook4
import HandS.HeadWalk
import HandS.Head2
import HandS.Defaults
import HandS.IsInst
import HandS.Wide
import HandS.Flow
import HandS.StrMore
import PyProof.ReprRoads
import HandS.ExcInit
import HandS.Nested
import KE.KExcSuper
import KE.KSuperObj
import PyProof.Rows.NameDeclared
import HandS.ExcCtx
import HandS.HotCalls
import HandS.FStr
import HandS.ExcField
import HandS.ExcValue
import HandS.ExcInitHot
import KE.KExcIs
import PyProof.ReprBulk
import HandS.ExcIs
import HandS.WideBits
import HandS.Style
import HandS.HeadEnd
import PySem.Challenge.RW_halfmade_k15_refusals_made
set_option Elab.async false
set_option linter.all false
set_option maxRecDepth 100000
set_option maxHeartbeats 4000000
namespace GxA
open PySem PySem.Spec PyProof.Rows L2 GxR

/-- the frame of a generator expression that captures nothing -/
def genCx (X : Cx) (N : List Str) (A' : Around) (s4 : Shared) (H4 : Hp) (cenv : Env) (fp : List Addr) : Cx :=
  { X with A := A', N := N, s_0 := s4, H_0 := H4, env := cenv, outer := X.stack, stack := cenv :: X.stack, ex := fp, fn := fun _ => false, calm := true, pn := [], xe := fun _ _ => False }

/-- the generator's own scope: no cells, nothing captured -/
structure GenN (scope : Scope) : Prop where
  kind : scope.kind = .function
  co : scope.isCoroutine = false
  cell : ∀ y ∈ scope.names, y.2 ≠ .cell
  free : ∀ y ∈ scope.names, y.2 ≠ .free
  dot : scope.names.lookup (".0" : Str) = some NameKind.local

theorem clo_nil (cells : List (Str × Addr)) : ∀ (l : List (Str × NameKind)) (acc : List (Str × Addr)), (∀ y ∈ l, y.2 ≠ .free) → cloFrom cells l acc = acc
  | [], _, _ => rfl
  | (n, k) :: r, acc, h => by
    have hk : (k == NameKind.free) = false := by
      have := h (n, k) List.mem_cons_self
      cases k <;> first | rfl | exact absurd rfl this
    unfold cloFrom
    rw [hk]
    exact clo_nil cells r acc fun y hy => h y (List.mem_cons_of_mem _ hy)

theorem lookup_mem {α : Type} : ∀ {l : List (Str × α)} {n : Str} {c : α}, l.lookup n = some c → ∃ n', (n', c) ∈ l
  | (k, v) :: r, n, c, h => by
    rw [List.lookup_cons] at h
    cases hb : n == k with
    | true =>
      rw [hb] at h
      cases h
      exact ⟨k, List.mem_cons_self⟩
    | false =>
      rw [hb] at h
      obtain ⟨n', hn⟩ := lookup_mem h
      exact ⟨n', List.mem_cons_of_mem _ hn⟩

section
variable {X : Cx} {pins : List (Addr × Obj)} {σ : L2.St} {H : Hp} {s : Shared}
/-- only the generators' table has changed -/
theorem inv_gens {s' : Shared} (I : Inv X pins σ H s) (hh : s'.heap = s.heap) (ho : s'.os = s.os) (hb : AllBare s'.gens) : Inv X pins σ H s' := by
  obtain ⟨h, g, d, t, o⟩ := s
  obtain ⟨h', g', d', t', o'⟩ := s'
  dsimp only at hh ho hb
  subst hh
  subst ho
  exact ⟨I.ok, I.os, hb, I.base, I.loc, I.cell, I.free, I.freeC, I.pin, I.hok, I.len⟩
/-- slots may be forgotten -/
theorem inv_wipe (I : Inv X pins σ H s) (n : Nat) (hn : X.N.length = n) : Inv X pins (List.replicate n none) H s := by
  obtain ⟨m, hm, _⟩ := I.loc
  refine ⟨I.ok, I.os, I.bare, I.base, ⟨m, hm, fun i x v _ e _ => ?_⟩, I.cell, I.free, I.freeC, I.pin, I.hok, by rw [List.length_replicate, hn]⟩
  rw [List.getElem?_replicate] at e
  split at e <;> cases e
end

section
variable {X : Cx} {pins : List (Addr × Obj)} {σ : L2.St} {H : Hp} {s : Shared}
theorem stk_lt (I : Inv X pins σ H s) {b : Addr} (hb : b ∈ frs X.stack) : b < s.heap.objs.size := by
  rcases List.mem_cons.mp (I.stkSub b hb) with e | e
  · rw [e]
    exact I.lt
  · refine Nat.lt_of_not_le fun h => I.nofs h e
theorem genCx_ok {N : List Str} {A' : Around} {scope : Scope} {code : Value} {fp : List Addr} (I : Inv X pins σ H s) (S : GenN scope)
    (hA : A'.frames = some (genEnv scope [] s.heap.objs.size code builtinsNs X.env :: X.stack)) (hAh : A'.handled = none) (hfp : ∀ b ∈ fp, FpOk X pins H b) (hlt : ∀ b ∈ fp, b < s.heap.objs.size) :
    (genCx X N A' s H (genEnv scope [] s.heap.objs.size code builtinsNs X.env) fp).Ok where
  mod := I.ok.mod
  kind := S.kind
  glob := I.ok.glob
  blt := rfl
  above := Nat.le_refl _
  inj := fun x y c e => nomatch (show (none : Option Addr) = some c from e)
  has := fun x h => by
    rcases h with h | h
    · obtain ⟨n', hm⟩ := lookup_mem (show scope.names.lookup x = some .cell from h)
      exact absurd rfl (S.cell _ hm)
    · obtain ⟨n', hm⟩ := lookup_mem (show scope.names.lookup x = some .free from h)
      exact absurd rfl (S.free _ hm)
  cab := fun x c e _ => nomatch (show false = true from e)
  hd := fun _ => hAh
  frames := hA
  stk := .inr ⟨rfl, rfl⟩
  exf := fun b hb => ⟨Nat.ne_of_lt (hlt b hb), fun x c e => nomatch (show (none : Option Addr) = some c from e)⟩
  bs := I.bs
  bsz := Nat.le_trans I.ok.bsz I.sz
  noex := fun b o e hb => by
    rcases (hfp b hb).2.2.2.1 with z | z
    · exact I.ok.noex b o e z
    · exact absurd (Nat.lt_of_lt_of_le (Heap.lt_size (I.ok.bs b o e).1) z) (Nat.lt_irrefl _)
  exfs := fun b hb hs => by
    rcases List.mem_cons.mp (I.stkSub b hs) with z | z
    · exact (hfp b hb).2.1 z
    · exact (hfp b hb).2.2.1 z
  funs := I.stack
  frf := I.stkFree
theorem genCx_inv {N : List Str} {A' : Around} {scope : Scope} {code : Value} {fp : List Addr} {h5 : Heap} {gs : Array GenState} {tk : Nat} {m : Str → Option Value} {a : Addr} {go : Obj} (I : Inv X pins σ H s)
    (hok : (genCx X N A' s H (genEnv scope [] s.heap.objs.size code builtinsNs X.env) fp).Ok) (k5 : ∀ b o, s.heap.get? b = some o → h5.get? b = some o) (hn : h5.Ns s.heap.objs.size m) (ha : h5.get? a = some go) (hac : s.heap.objs.size < a)
    (hgo : ∀ v, go.data ≠ .cell v) (hgb : AllBare gs) :
    Inv (genCx X N A' s H (genEnv scope [] s.heap.objs.size code builtinsNs X.env) fp) [(a, go)] (List.replicate N.length none) H { s with gens := gs, toks := tk, heap := h5 } where
  ok := hok
  os := rfl
  bare := hgb
  base := Un.kept k5
  loc := ⟨m, hn, fun i x v _ e _ => by
    rw [List.getElem?_replicate] at e
    split at e <;> cases e⟩
  cell := fun x c e => nomatch (show (none : Option Addr) = some c from e)
  free := I.hok.fresh (Nat.le_refl _)
  freeC := fun x c e => nomatch (show (none : Option Addr) = some c from e)
  pin := fun p hp => by
    have e : p = (a, go) := by
      rcases List.mem_append.mp hp with z | z
      · cases z
      · exact List.mem_singleton.mp z
    subst e
    refine ⟨ha, I.hok.fresh (Nat.le_of_lt hac), Nat.ne_of_gt hac, fun hb => ?_, hgo⟩
    exact absurd (Nat.lt_trans (stk_lt I hb) hac) (Nat.lt_irrefl _)
  hok := (I.kept (t' := tk) k5).hok
  len := List.length_replicate
end

/-! ### the loop of the generator -/
section
variable {X : Cx} {tg elt iter : Expr} {scope : Scope} {pos : Pos} {it : Addr} {B : Around} {J : It} {fp : List Addr} {tn : Nat → Heap → Prop} {g : TG} {te : TE} {pn0 : List (Addr × Obj)} {Q : VK}
/-- what the generator's end leaves -/
def GRz (X : Cx) (pn0 : List (Addr × Obj)) (Q : VK) : Nat → Shared → Shared → Prop := fun _ _ s => ∃ σ H, Inv X pn0 σ H s ∧ Q (.bl true) H
/-- what it hands out: True, and it may go on; or False, and it is left -/
def GYz (X : Cx) (pn0 : List (Addr × Obj)) (Q : VK) : Protocol := fun _ _ v s kap => ∃ b σ H, v = .bool b ∧ Inv X pn0 σ H s ∧
  if b = true then ∀ s', s'.heap = s.heap → s'.os = s.os → AllBare s'.gens → kap (.send .none) s' else Q (.bl false) H
/-- the turns -/
def GTurn (J : It) (g : TG) (te : TE) (k : Nat) (Q : VK) (W : Nat → Nat → Hp → Prop) : Prop := ∀ i m H, W i m H →
  (J.stop i H ∧ Q (.bl true) H) ∨ (J.go i H ∧ ∃ Nx : Hp → Prop, (∀ H', Nx H' → ∃ m', m' < m ∧ W (i + 1) m' H') ∧
    ∀ x H', J.yld i H x H' → g x (List.replicate k none) H' fun σ2 H2 => te σ2 H2 fun v H3 => ∃ b, v = .bl b ∧ if b = true then Nx H3 else Q (.bl false) H3)
theorem seg_all {W : Nat → Nat → Hp → Prop} (hA : B.over (.compLoop (.GeneratorExp elt [⟨tg, iter, [], 0⟩] scope pos) 0 (.ref it) .none X.env) [] = X.A) (hxe : X.xe = fun _ _ => False) (hcalm : X.calm = true) (hco : X.env.scope.isCoroutine = false)
    (T : Turn X.prog X.w X.K tg J fp it tn) (hf : ∀ b ∈ fp, b ≠ X.env.locals ∧ b ∉ X.fs ∧ (b ∈ X.ex ∨ X.s_0.heap.objs.size ≤ b) ∧ (∀ x c, X.env.cells.lookup x = some c → c ≠ b) ∧ ∀ p ∈ X.pn ++ pn0, p.1 ≠ b)
    (hg : PG X tg g) (he : PE X elt te) (turn : GTurn J g te X.N.length Q W) :
    ∀ (m n : Nat), m < n → ∀ (i : Nat) (s₀ s : Shared) (σ : L2.St) (H : Hp), Inv X pn0 σ H s → tn i s.heap → (∀ b ∈ fp, H b = none) → W i m H →
      Seg (model X.prog X.w) B (fun n s₀ r s₁ => r = .ok .next ∧ GRz X pn0 Q n s₀ s₁) (GYz X pn0 Q) n s₀ (.compLoop (.GeneratorExp elt [⟨tg, iter, [], 0⟩] scope pos) 0 (.ref it) .none X.env)
        ((model X.prog X.w).den (.compLoop (.GeneratorExp elt [⟨tg, iter, [], 0⟩] scope pos) 0 (.ref it) .none X.env)) [] s := by
  intro m
  induction m using Nat.strongRecOn with
  | _ m ih =>
  intro n hmn i s₀ s σ H I st fr w
  have I' := inv_wipe I X.N.length rfl
  have noX : ∀ (e : Value) (s' : Shared), X.xe e s' → False := fun e s' h => by
    rw [hxe] at h
    exact h
  have stat : ∀ {H' : Hp}, (∀ b ∈ fp, H' b = none) → ∀ b ∈ fp, FpOk X pn0 H' b := fun hn b hb => ⟨hn b hb, hf b hb⟩
  show Seg _ B _ _ _ s₀ _ ((compTurn (.GeneratorExp elt [⟨tg, iter, [], 0⟩] scope pos) 0 (.ref it) .none X.env).onRaise (leaving X.env)) [] s
  rw [compTurn_gen, Sem.onRaise_eq_wrap]
  refine seg_bind_wrap (wpAny_standAt ?_)
  rcases turn i m H w with ⟨stop, q⟩ | ⟨go, Nx, hN, step⟩
  · refine seg_bind_wrap ?_
    rw [hA]
    refine wpAny_mono (T.done X rfl rfl rfl hcalm i pn0 s _ H X.xe I' (stat fr) st stop) (fun r s1 h1 => ?_) fun e s' h => (noX e s' h).elim
    obtain ⟨rfl, I1⟩ := h1
    exact seg_end (.ok .next) ⟨rfl, _, H, I1, q⟩
  · refine seg_bind_wrap ?_
    rw [hA]
    refine wpAny_mono (T.item X rfl rfl rfl hcalm i pn0 s _ H X.xe I' (stat fr) st go) (fun r s1 h1 => ?_) fun e s' h => (noX e s' h).elim
    obtain ⟨u, rfl, h1⟩ := h1
    refine seg_bind_wrap ?_
    rw [hA]
    refine wpAny_mono h1 (fun _ s2 h2 => ?_) fun e s' h => (noX e s' h).elim
    obtain ⟨x, H2, I2, r2, y2, st2, fr2⟩ := h2
    have I2' := I2.pinned (stat fr2) (T.obj _ _ st2)
    refine seg_bind_wrap ?_
    rw [hA]
    refine wpAny_mono (hg.run _ s2 _ H2 x u _ I2' r2 (step x H2 y2)) (fun _ s3 h3 => ?_) fun e s' h => (noX e s' h).elim
    obtain ⟨σ3, H3, I3, q3⟩ := h3
    have hy : ∀ v, yieldOut X.env v = yieldValue v := fun v => by simp only [yieldOut, hco, Bool.false_eq_true, if_false]
    simp only [hy]
    refine seg_bind_wrap ?_
    refine (wpAny_of_eq (a := true) (by rfl) ?_)
    simp only [if_true]
    rw [Sem.bind_eq_wrap', Sem.bind_eq_wrap', Sem.wrap_wrap, Sem.wrap_wrap]
    refine seg_wrap ?_
    rw [hA]
    refine wpAny_mono (he.run _ s3 σ3 H3 _ I3 q3) (fun y s4 h4 => ?_) fun e s' h => (noX e s' h).elim
    obtain ⟨v, H4, I4, r4, b, rfl, q4⟩ := h4
    obtain rfl : y = Value.bool b := r4
    have I5 := I4.unpinned
    have st4 : tn (i + 1) s4.heap := T.keep _ _ _ st2 fun b hb o e => (I4.pin (b, o) (List.mem_append_right _ (List.mem_append_right _ (mem_pinsAt hb e)))).1
    have fr4 : ∀ b ∈ fp, H4 b = none := fun b hb => by
      obtain ⟨o, e, d⟩ := T.obj _ _ st2 b hb
      exact (I4.pin (b, o) (List.mem_append_right _ (List.mem_append_right _ (mem_pinsAt hb e)))).2.1
    obtain ⟨n', rfl⟩ : ∃ n', n = n' + 1 := ⟨n - 1, by omega⟩
    refine seg_at (seg_yield rfl rfl rfl ⟨b, σ3, H4, rfl, I5, ?_⟩)
    cases b with
    | false => exact q4
    | true =>
      obtain ⟨m', hm', w'⟩ := hN H4 q4
      rw [if_pos rfl]
      intro s' e1 e2 e3
      exact seg_again rfl (ih m' hm' n' (by omega) (i + 1) s' s' σ3 H4 (inv_gens I5 e1 e2 e3) (by rw [e1]; exact st4) fr4 w')
/-- its start -/
theorem seg_start {W : Nat → Nat → Hp → Prop} (hA : B.over (.compLoop (.GeneratorExp elt [⟨tg, iter, [], 0⟩] scope pos) 0 (.ref it) .none X.env) [] = X.A) (hxe : X.xe = fun _ _ => False) (hcalm : X.calm = true) (hco : X.env.scope.isCoroutine = false)
    (T : Turn X.prog X.w X.K tg J fp it tn) (hf : ∀ b ∈ fp, b ≠ X.env.locals ∧ b ∉ X.fs ∧ (b ∈ X.ex ∨ X.s_0.heap.objs.size ≤ b) ∧ (∀ x c, X.env.cells.lookup x = some c → c ≠ b) ∧ ∀ p ∈ X.pn ++ pn0, p.1 ≠ b)
    (hg : PG X tg g) (he : PE X elt te) (turn : GTurn J g te X.N.length Q W) (m : Nat) (s₀ s : Shared) (σ : L2.St) (H : Hp) (I : Inv X pn0 σ H s) (st : tn 0 s.heap) (fr : ∀ b ∈ fp, H b = none) (w0 : W 0 m H) :
      Seg (model X.prog X.w) B (fun n s₀ r s₁ => r = .ok .next ∧ GRz X pn0 Q n s₀ s₁) (GYz X pn0 Q) (m + 1) s₀ (.compStart (.GeneratorExp elt [⟨tg, iter, [], 0⟩] scope pos) 0 (.ref it) .none X.env)
        ((model X.prog X.w).den (.compStart (.GeneratorExp elt [⟨tg, iter, [], 0⟩] scope pos) 0 (.ref it) .none X.env)) [] s := by
  have loop := seg_all (iter := iter) (scope := scope) (pos := pos) hA hxe hcalm hco T hf hg he turn m (m + 1) (Nat.lt_succ_self _) 0 s₀ s σ H I st fr w0
  show Seg _ B _ _ _ s₀ _ ((compStart (.GeneratorExp elt [⟨tg, iter, [], 0⟩] scope pos) 0 (.ref it) .none X.env).onRaise (leaving X.env)) [] s
  unfold compStart
  rw [Sem.onRaise_eq_wrap]
  show Seg _ B _ _ _ s₀ _ ((ask >>= _).wrap _ _ _ _) [] s
  refine seg_bind_wrap (wpAny_askSetting ?_)
  split
  · exact seg_again rfl loop
  · first
      | exact seg_bind_wrap (wpAny_rule (seg_bind_wrap (wpAny_standAt (seg_bind_wrap (T.self _ 0 s _ _ st (seg_again rfl loop))))))
      | (refine seg_bind_wrap (wpAny_rule ?_); show Seg _ B _ _ _ s₀ _ ((standAt iter.pos >>= _).wrap _ _ _ _) [] s; exact seg_bind_wrap (wpAny_standAt (seg_bind_wrap (T.self _ 0 s _ _ st (seg_again rfl loop)))))
end
/-! ### all(..) -/
section
variable {X : Cx} {A : Around} {a : Addr} {g : Nat} {go : Obj} {pn0 : List (Addr × Obj)} {Q : VK} {R : Result → Shared → Prop}
theorem gens_set {s : Shared} {n : Nat} {x : GenState} (h : n < s.gens.size) : (s.setGen n x).gens[n]? = some x := by
  simp [Shared.setGen, h]
theorem bare_set {s : Shared} {n : Nat} {x : GenState} (h : AllBare s.gens) (hx : x.bare = true) : AllBare (s.setGen n x).gens := by
  intro y hy
  rcases Array.mem_or_eq_of_mem_setIfInBounds (show y ∈ s.gens.setIfInBounds n x from hy) with z | z
  · exact h y z
  · rw [z]
    exact hx
theorem all_loop (hh : A.handled = none) (hroom : A.depth < recursionLimit) (hgo : go.cls = .type "generator" ∧ (∃ nm qn, go.data = .fields #[.int g 0, nm, qn]) ∧ go.slots = #[]) (hpn : (a, go) ∈ pn0)
    (hR : ∀ b s σ H, Inv X pn0 σ H s → Q (.bl b) H → R (.ok (.ret (.bool b))) s) :
    ∀ (n : Nat) (s : Shared) (gs : GenState) (σ : L2.St) (H : Hp), Inv X pn0 σ H s → s.gens[g]? = some gs →
      gs.Goes (model X.prog X.w) A.in1.in1 (fun n s₀ r s₁ => r = .ok .next ∧ GRz X pn0 Q n s₀ s₁) (GYz X pn0 Q) n (.send .none) (s.setGen g .running) →
      codeAny (model X.prog X.w) A (.builtin "all.loop" ⟨[.ref a], []⟩) R s := by
  have step : ∀ n : Nat, (∀ m, n = m + 1 → ∀ (s : Shared) (gs : GenState) (σ : L2.St) (H : Hp), Inv X pn0 σ H s → s.gens[g]? = some gs →
      gs.Goes (model X.prog X.w) A.in1.in1 (fun n s₀ r s₁ => r = .ok .next ∧ GRz X pn0 Q n s₀ s₁) (GYz X pn0 Q) m (.send .none) (s.setGen g .running) →
      codeAny (model X.prog X.w) A (.builtin "all.loop" ⟨[.ref a], []⟩) R s) → ∀ (s : Shared) (gs : GenState) (σ : L2.St) (H : Hp), Inv X pn0 σ H s → s.gens[g]? = some gs →
      gs.Goes (model X.prog X.w) A.in1.in1 (fun n s₀ r s₁ => r = .ok .next ∧ GRz X pn0 Q n s₀ s₁) (GYz X pn0 Q) n (.send .none) (s.setGen g .running) →
      codeAny (model X.prog X.w) A (.builtin "all.loop" ⟨[.ref a], []⟩) R s := by
    intro n ih s gs σ H I hgs hgoes
    refine codeAny_builtin F.entry_all_loop ?_
    rw [Around.under_plainId F.plain_all_loop _]
    show wpAny _ A.in1 (pyNext (.ref a) >>= _) _ _ s
    have hlt : g < s.gens.size := by
      rcases Nat.lt_or_ge g s.gens.size with h | h
      · exact h
      · rw [Array.getElem?_eq_none h] at hgs
        cases hgs
    have hgen : s.heap.IsGen a g := by
      obtain ⟨h1, ⟨nm, qn, h2⟩, h3⟩ := hgo
      exact ⟨go, nm, qn, (I.pin (a, go) (List.mem_append_right _ hpn)).1, h1, h2, h3⟩
    refine wpAny_bind (GenW.wpAny_gsz (n := g + 1) hlt ?_)
    refine wpAny_pyNext_genexpQ (A := A.in1) (P := GRz X pn0 Q) hh I.nolimit hroom hgen hgs hgoes (fun v s₁ gs' hb hv hsz => ?_) (fun s₁ hp h' hk hsz => ?_)
    · obtain ⟨b, σ1, H1, rfl, I1, q1⟩ := hv
      have hsz1 : g < s₁.gens.size := by
        have : g + 1 ≤ (s₁.setGen g gs').gens.size := hsz
        rw [GenW.setGen_size] at this
        exact this
      have J1 : Inv X pn0 σ1 H1 (s₁.setGen g gs') := inv_gens I1 rfl rfl (bare_set I1.bare hb)
      refine wpAny_bind (wpAny_holding (wpAny_truthy_bool ?_))
      refine wpAny_bind (wpAny_letGo ?_)
      cases b with
      | true =>
        rw [if_pos rfl] at q1
        simp only [if_true]
        have q2 := q1 ((s₁.setGen g gs').setGen g .running) rfl rfl (bare_set J1.bare rfl)
        cases n with
        | zero => exact q2.elim
        | succ m => exact wpAny_pure ⟨plainId_quiet F.plain_all_loop _, ih m rfl _ gs' σ1 H1 J1 (gens_set hsz1) q2⟩
      | false =>
        simp only [Bool.false_eq_true, if_false]
        exact wpAny_bind (wpAny_rule (wpAny_pure (hR false _ σ1 H1 J1 q1)))
    · obtain ⟨σ1, H1, I1, q1⟩ := hp
      have J1 : Inv X pn0 σ1 H1 (s₁.setGen g .finished) := inv_gens I1 rfl rfl (bare_set I1.bare rfl)
      exact wpAny_bind (wpAny_rule (wpAny_pure (hR true _ σ1 H1 (J1.kept (t' := s₁.toks) hk) q1)))
  intro n
  induction n with
  | zero => exact step 0 fun m e => by cases e
  | succ n ih =>
    refine step (n + 1) fun m e => ?_
    cases e
    exact ih
end

/-! ### the rule -/
/-- all(elt for tg in iter), nothing captured; k: how many names the generator's frame has (those of the target) -/
def tAllG (P : Addr) (wi : TI) (g : TG) (te : TE) (k : Nat) : TE := fun σ H Q => wi σ H fun J H1 => TabG H1 P ∧ ∀ H2, Tabbed P H1 H2 → ∃ W : Nat → Nat → Hp → Prop, (∃ m, W 0 m H2) ∧ GTurn J g te k Q W
section
variable {X : Cx} {c P : Addr} {tg elt iter : Expr} {p pos gpos : Pos} {scope : Scope} {wi : TI} {g : TG} {te : TE} {N : List Str} {k : Nat}
theorem pe_allG (hr : Room (k + 1) X.A) (hgl : Gl X "all") (hm : X.mg "all" = none) (TB : TabB X.base X.mg c P) (hcode : X.env.code = .ref c) (S : GenN scope) (hi : PI X tg iter wi)
    (hg : ∀ A' s4 H4 cenv fp, cenv.scope = scope → PG (genCx X N A' s4 H4 cenv fp) tg g) (he : ∀ A' s4 H4 cenv fp, cenv.scope = scope → Room k A' → PE (genCx X N A' s4 H4 cenv fp) elt te)
    (hs : ∀ v, genFold iter X.env v = pure v)
    (hst : starEach [.GeneratorExp elt [⟨tg, iter, [], 0⟩] scope gpos] X.env = (false, eval (.GeneratorExp elt [⟨tg, iter, [], 0⟩] scope gpos) X.env) :: starEach [] X.env := by rfl) (hb : bootBuiltins "all" = some (.builtin "all") := by decide +kernel) :
    PE X (.Call (.Name "all" p) [.GeneratorExp elt [⟨tg, iter, [], 0⟩] scope gpos] [] pos) (tAllG P wi g te N.length) := by
  refine ⟨fun pins s σ H Q I h => ?_⟩
  refine wpAny_Call_Name_kw (ld_blt I hgl hm hb ?_)
  refine PyProof.Rows.callWith_builtin1 ?_ hst (by rfl)
  rw [hst]
  show wpAny _ _ (spliced ((false, eval (.GeneratorExp elt [⟨tg, iter, [], 0⟩] scope gpos) X.env) :: backTo pos (starEach [] X.env))) _ _ s
  refine Calls.spliced_cons ?_
  have hclos : closureFor scope X.env = pure [] := by
    rw [closure_ok (fun y hy e => absurd e (S.free y hy)), clo_nil _ _ _ S.free]
  refine wpAny_GeneratorExp_make S.co hclos S.cell S.dot S.kind (by have := hr.dp; omega) ?_ hs
  refine thn (hi.run pins s σ H _ I h) fun xv s1 h1 => thn h1 fun itv s2 h2 => ?_
  obtain ⟨it, fp, tn, J, H1, rfl, I1, T, st1, f1, ⟨ps, hP, ht⟩, hW⟩ := h2
  refine ⟨I1.nolimit, ?_⟩
  have hPs : s2.heap.get? P = some { cls := .none, data := .fields ps } := I1.hok P _ hP
  have cd : PySem.W.CodeHd s2.heap c P := TB.code.keeps fun b u e => I1.bk b u e
  have hlt1 : ∀ b ∈ fp, b < s2.heap.objs.size := fun b hb => by
    obtain ⟨o, e, _⟩ := T.obj _ _ st1 b hb
    exact Heap.lt_size e
  have cont : ∀ (code : Value) (h3 : Heap) (tk : Nat) (more : Array Value), Heap.ExtBut P s2.heap h3 → s2.heap.objs.size ≤ h3.objs.size → h3.get? P = some { cls := .none, data := .fields (ps ++ more) } → TriplesOk (ps ++ more).toList →
      wpAny (model X.prog X.w) X.A (builtinsFor X.env.globals X.env.builtins) (fun bi s₄ =>
        ∀ h', h'.Ns s₄.heap.objs.size (fun y => if y = ".0" then some (.ref it) else none) → Heap.SameBut s₄.heap.objs.size (s₄.heap.push { cls := .type "frame", data := .dict #[] }) h' →
          wpAny (model X.prog X.w) X.A (spliced (backTo pos (starEach [] X.env))) (fun vs s' => wpAny (model X.prog X.w) X.A (call (.builtin "all") (.ref h'.objs.size :: vs)) (EP X pins σ Q) X.xe s') X.xe { s₄ with
            gens := s₄.gens.push (.fresh (.compStart (.GeneratorExp elt [⟨tg, iter, [], 0⟩] scope gpos) 0 (.ref it) .none (genEnv scope [] s₄.heap.objs.size code bi X.env))),
            toks := s₄.toks + 1 + 1 + 1,
            heap := h'.push { cls := .type "generator", data := .fields #[.int s₄.gens.size 0, .str "<genexpr>" (s₄.toks + 1), .str (X.env.qual ++ "<genexpr>") (s₄.toks + 1 + 1)] } }) X.xe { s2 with heap := h3, toks := tk } := by
    intro code h3 tk more hx hsz hP3 ht3
    obtain ⟨bm, ob, e1, e2, e3, e4, e5, e6, e7, e8⟩ := TB.bm
    have keep3 : ∀ b u, b ≠ P → s2.heap.get? b = some u → h3.get? b = some u := fun b u hb e => hx b u hb e
    refine wpAny_builtinsFor (m := X.mg) (by rw [I1.ok.glob]; exact (I1.mod.glob.keeps I1.bk).extBut hx TB.gP) e1 e2 (keep3 _ _ e4 (I1.bk _ _ e5)) e6 e7 e8 ?_
    intro h' hn' hs'
    have I3 : Inv X pins σ (upd H1 P (.tbl (ps ++ more))) { s2 with heap := h3, toks := tk } := inv_tab (more := more) (h' := h3) (g' := s2.gens) (d' := s2.drawn) (t' := tk) I1 hP keep3 hP3 I1.bare
    obtain ⟨W, ⟨m0, w0⟩, turn⟩ := hW _ ⟨⟨ps ++ more, upd_same, ht3⟩, fun b hb => upd_ne hb⟩
    have nP : ∀ b ∈ fp, b ≠ P := fun b hb z => by
      have := (f1 b hb).1
      rw [z, hP] at this
      cases this
    have fr3 : ∀ b ∈ fp, upd H1 P (.tbl (ps ++ more)) b = none := fun b hb => by
      rw [upd_ne (nP b hb)]
      exact (f1 b hb).1
    have f3 : ∀ b ∈ fp, FpOk X pins (upd H1 P (.tbl (ps ++ more))) b := fun b hb => ⟨fr3 b hb, (f1 b hb).2⟩
    have st3 : tn 0 h3 := T.keep _ _ _ st1 fun b hb o e => keep3 b o (nP b hb) e
    have hlt3 : ∀ b ∈ fp, b < h3.objs.size := fun b hb => Nat.lt_of_lt_of_le (hlt1 b hb) hsz
    obtain ⟨cenv, hcenv⟩ : ∃ cenv, genEnv scope [] h3.objs.size code builtinsNs X.env = cenv := ⟨_, rfl⟩
    have sz' : h'.objs.size = h3.objs.size + 1 := by rw [hs'.1, Heap.size_push]
    have keep' : ∀ b o, h3.get? b = some o → h'.get? b = some o := fun b o e => hs'.extBut b o (Nat.ne_of_lt (Heap.lt_size e)) (Heap.get?_push_of_some _ e)
    have Ok' : (genCx X N ((X.A.in1.in1).over (.compLoop (.GeneratorExp elt [⟨tg, iter, [], 0⟩] scope gpos) 0 (.ref it) .none cenv) []) { s2 with heap := h3, toks := tk } (upd H1 P (.tbl (ps ++ more))) cenv fp).Ok := by
      rw [← hcenv]
      refine genCx_ok I3 S ?_ hr.hd f3 hlt3
      show pushEnvs [_] (pushEnvs [] X.A.frames) = _
      rw [I1.ok.frames]
      rfl
    have hRoom : Room k ((X.A.in1.in1).over (.compLoop (.GeneratorExp elt [⟨tg, iter, [], 0⟩] scope gpos) 0 (.ref it) .none cenv) []) := by
      refine ⟨hr.hd, ?_, ?_⟩
      · have := hr.dp
        show X.A.depth + 0 + 1 + 3 * k + 5 < _
        omega
      · have := hr.un
        show X.A.units + 1 + 1 + 0 + 3 + 16 * k + 200 < _
        omega
    have hsc : cenv.scope = scope := by
      rw [← hcenv]
      rfl
    have hloc : cenv.locals = h3.objs.size := by
      rw [← hcenv]
      rfl
    have hcel : cenv.cells = [] := by
      rw [← hcenv]
      rfl
    obtain ⟨go, hgo⟩ : ∃ go : Obj, { cls := .type "generator", data := .fields #[.int s2.gens.size 0, .str "<genexpr>" (tk + 1), .str (X.env.qual ++ "<genexpr>") (tk + 1 + 1)] } = go := ⟨_, rfl⟩
    have keep5 : ∀ b o, h3.get? b = some o → (h'.push go).get? b = some o := fun b o e => Heap.get?_push_of_some _ (keep' b o e)
    have bare5 : AllBare (s2.gens.push (.fresh (.compStart (.GeneratorExp elt [⟨tg, iter, [], 0⟩] scope gpos) 0 (.ref it) .none cenv))) := I1.bare.push rfl
    have I5 : Inv (genCx X N ((X.A.in1.in1).over (.compLoop (.GeneratorExp elt [⟨tg, iter, [], 0⟩] scope gpos) 0 (.ref it) .none cenv) []) { s2 with heap := h3, toks := tk } (upd H1 P (.tbl (ps ++ more))) cenv fp) [(h'.objs.size, go)] (List.replicate N.length none)
        (upd H1 P (.tbl (ps ++ more))) { s2 with gens := s2.gens.push (.fresh (.compStart (.GeneratorExp elt [⟨tg, iter, [], 0⟩] scope gpos) 0 (.ref it) .none cenv)), toks := tk + 1 + 1 + 1, heap := h'.push go } := by
      subst hcenv
      refine genCx_inv (m := fun y => if y = ".0" then some (.ref it) else none) I3 Ok' keep5 (hn'.push _) (Heap.get?_push_size _ (by rw [← hgo]; rfl)) (by show h3.objs.size < h'.objs.size; omega) (fun v z => ?_) bare5
      rw [← hgo] at z
      cases z
    have hf5 : ∀ b ∈ fp, b ≠ cenv.locals ∧ b ∉ frs X.stack ∧ (b ∈ fp ∨ h3.objs.size ≤ b) ∧ (∀ x c, cenv.cells.lookup x = some c → c ≠ b) ∧ ∀ p ∈ [] ++ [(h'.objs.size, go)], p.1 ≠ b := fun b hb => by
      refine ⟨?_, fun z => ?_, .inl hb, fun x c e => ?_, fun p hp => ?_⟩
      · rw [hloc]
        exact Nat.ne_of_lt (hlt3 b hb)
      · rcases List.mem_cons.mp (I1.stkSub b z) with q | q
        · exact (f1 b hb).2.1 q
        · exact (f1 b hb).2.2.1 q
      · rw [hcel] at e
        cases e
      · have e : p = (h'.objs.size, go) := List.mem_singleton.mp hp
        subst e
        exact Nat.ne_of_gt (Nat.lt_trans (hlt3 b hb) (by rw [sz']; exact Nat.lt_succ_self _))
    have loop := seg_start (X := genCx X N ((X.A.in1.in1).over (.compLoop (.GeneratorExp elt [⟨tg, iter, [], 0⟩] scope gpos) 0 (.ref it) .none cenv) []) { s2 with heap := h3, toks := tk } (upd H1 P (.tbl (ps ++ more))) cenv fp)
      (B := X.A.in1.in1) (iter := iter) (scope := scope) (pos := gpos) (tn := tn) (pn0 := [(h'.objs.size, go)]) (W := W) rfl rfl rfl (by show cenv.scope.isCoroutine = false; rw [hsc]; exact S.co) T hf5 (hg _ _ _ _ _ hsc) (he _ _ _ _ _ hsc hRoom) turn m0
    refine Calls.spliced_nil ?_
    refine call_function_tree F.kind_all F.plain_all F.entry_all (F.args_all1 _) ?_
    unfold Builtin.«all»
    refine wpAny_bind (m := oneArg "all" _) (wpAny_pure ?_)
    have hgen : (h'.push go).IsGen h'.objs.size s2.gens.size := ⟨go, _, _, Heap.get?_push_size _ (by rw [← hgo]; rfl), by rw [← hgo], by rw [← hgo], by rw [← hgo]⟩
    subst hcenv
    subst hgo
    refine wpAny_bind (wpAny_pyIter_gen hgen ?_)
    refine wpAny_pure ⟨plainId_quiet F.plain_all_loop _, ?_⟩
    refine all_loop (X := (genCx X N ((X.A.in1.in1).over (.compLoop (.GeneratorExp elt [⟨tg, iter, [], 0⟩] scope gpos) 0 (.ref it) .none (genEnv scope [] h3.objs.size code builtinsNs X.env)) []) { s2 with heap := h3, toks := tk } (upd H1 P (.tbl (ps ++ more))) (genEnv scope [] h3.objs.size code builtinsNs X.env) fp)) (Q := Q) (A := X.A)
      (go := { cls := .type "generator", data := .fields #[.int s2.gens.size 0, .str "<genexpr>" (tk + 1), .str (X.env.qual ++ "<genexpr>") (tk + 1 + 1)] }) (pn0 := [(h'.objs.size, _)]) hr.hd (by have := hr.dp; omega) ⟨rfl, ⟨_, _, rfl⟩, rfl⟩ (List.mem_singleton.mpr rfl)
      (fun b s' σ' H' J q => ?_) (m0 + 1) _ _ _ _ I5 (Array.getElem?_push_size ..) ⟨rfl, ?_⟩
    · obtain ⟨hh, gg, dd, tt, oo⟩ := s'
      obtain rfl : oo = s2.os := J.os
      have I7 := I3.call (h' := hh) (g' := gg) (d' := dd) (t' := tt) (ch := fp) J.base J.hok J.bare fun b hb => ⟨(f1 b hb).2.2.2.1, (f1 b hb).2.1, (f1 b hb).2.2.2.2.1, (f1 b hb).2.2.2.2.2⟩
      exact ⟨.bl b, H', I7, rfl, q⟩
    · have I6 := inv_gens (s' := ({ s2 with gens := s2.gens.push (.fresh (.compStart (.GeneratorExp elt [⟨tg, iter, [], 0⟩] scope gpos) 0 (.ref it) .none (genEnv scope [] h3.objs.size code builtinsNs X.env))), toks := tk + 1 + 1 + 1, heap := h'.push { cls := .type "generator", data := .fields #[.int s2.gens.size 0, .str "<genexpr>" (tk + 1), .str (X.env.qual ++ "<genexpr>") (tk + 1 + 1)] } } : Shared).setGen s2.gens.size .running) I5 rfl rfl (bare_set I5.bare rfl)
      exact loop _ _ _ _ I6 (T.keep _ _ _ st3 fun b _ o e => keep5 b o e) fr3 w0
  cases hf : codeAmong gpos ps.toList with
  | none =>
    refine wpAny_genexprCodeX hcode (cd.code hPs ht) (cd.tab hPs) hf fun c' h' tk hx hge hlt hco' _ htab' _ => ?_
    obtain ⟨o1, vs, f1, tf, fl, tg, inF, tx, tt, op, _, _, _, _, _, _, _, _, _, htr, _⟩ := hco'
    exact cont _ h' tk _ hx (Nat.le_trans hge (Nat.le_of_lt hlt)) htab'.2 htr
  | some cv =>
    refine wpAny_genexprCode_hit hcode (cd.code hPs ht) hf ?_
    exact cont cv s2.heap s2.toks #[] (Heap.ExtBut.refl _ _) (Nat.le_refl _) (by simpa using hPs) (by simpa using ht)
end
/-! ### the turns, over a walk -/
theorem all_it {J : It} {n : Nat} {G : Hp → Prop} {Y : Nat → Hp → V → Hp → Prop} (wk : Walk J n G Y) {g : TG} {te : TE} {k : Nat} {Q : VK} {H2 : Hp} (Pv : Nat → Hp → Prop) (h0 : Pv 0 H2) (hG : ∀ i H, i ≤ n → Pv i H → G H)
    (hs : ∀ i x H H', i < n → Pv i H → Y i H x H' → g x (List.replicate k none) H' fun σ2 H2 => te σ2 H2 fun v H3 => ∃ b, v = .bl b ∧ if b = true then Pv (i + 1) H3 else Q (.bl false) H3) (hd : ∀ H, Pv n H → Q (.bl true) H) :
    ∃ W : Nat → Nat → Hp → Prop, (∃ m, W 0 m H2) ∧ GTurn J g te k Q W := by
  refine ⟨fun i m H => m = n - i ∧ i ≤ n ∧ Pv i H, ⟨n, by simp, Nat.zero_le _, h0⟩, fun i m H hw => ?_⟩
  obtain ⟨rfl, hi, p⟩ := hw
  by_cases hlt : i < n
  · exact .inr ⟨wk.goes i H hlt (hG i H hi p), Pv (i + 1), fun H' p' => ⟨n - (i + 1), by omega, rfl, hlt, p'⟩, fun x H' y => hs i x H H' hlt p (wk.yields i H x H' hlt (hG i H hi p) y)⟩
  · obtain rfl : i = n := by omega
    exact .inl ⟨wk.stops H (hG i H hi p), hd H p⟩
end GxA
set_option maxHeartbeats 4000000
namespace HM
open PySem PySem.Spec PyProof.Rows L2

/-! ### a promise of a def that is called where no repr is under way -/
structure FnG (P : Program) (w : World) (K : PySem.W.Frag) (mg : Str → Option Value) (base : Heap) (CX : CXT) (k : Nat) (f : Addr) (fd : FuncData) (ps : List Str) (sp : Sp) : Prop where
  len : ∀ vs H Q E, sp vs H Q E → vs.length = ps.length
  run : ∀ (A : Around) (outer : List Env) (s : Shared) (H : Hp) (args : Args) (us : List Value) (vs : List V) (Q : VK) (E : XK), Room k A → A.guards = some [] → Env0 P w K mg base A outer s H → BindsTo s fd args (ps.zip us) → Vals vs us →
    sp vs H Q E → codeAny (model P w) A (.call (.ref f) args) (CR CX outer P w H s Q E) s
section
variable {P : Program} {w : World} {K : PySem.W.Frag} {mg : Str → Option Value} {base : Heap} {CX : CXT} {k : Nat} {f : Addr} {fd : FuncData} {ps : List Str} {sp : Sp}
theorem FnG.of (F : FnOk P w K mg base CX k f fd ps sp) : FnG P w K mg base CX k f fd ps sp := ⟨F.len, fun A o s H a us vs Q E hr _ => F.run A o s H a us vs Q E hr⟩
theorem FnG.mono {j : Nat} (F : FnG P w K mg base CX k f fd ps sp) (h : k ≤ j) : FnG P w K mg base CX j f fd ps sp := ⟨F.len, fun A o s H a us vs Q E hr => F.run A o s H a us vs Q E (hr.mono h)⟩
variable {x qual : Str} {params : Arguments} {body : List Stmt} {scope : Scope} {dvs : List V} {kws : List (Str × V)} {N : List Str}
/-- the def's code object, by its place -/
def CodeAt (K : PySem.W.Frag) (f : Addr) (cdv : Value) : Prop := ∀ p, f = He.fAd K p → cdv = .ref (He.codeOf K p)
theorem codeAt_of {oc : Value} {od : Option Addr} {osl : Array (Option Value)} (lk : K.lookup f = some ⟨oc, od, .func fd, osl⟩) (hc : PySem.W.codeIn K fd.code qual = true) : CodeAt K f fd.code := fun p e => by
  obtain ⟨c, hc⟩ := He.codeIn_ref hc
  rw [e] at lk
  rw [He.codeOf_eq lk hc]
  exact hc
/-- a def by its body, the code object told -/
theorem ok_code (F : FunD K x qual params body scope dvs kws f fd) (S : FnScope N ps scope) (len : ∀ vs H Q E, sp vs H Q E → vs.length = ps.length)
    (hbody : ∀ (cdv : Value) (A : Around) (outer : List Env) (s : Shared) (H : Hp) (vs : List V) (Q : VK) (E : XK), CodeAt K f cdv → Room k (A.deeper (envOfC qual scope s.heap.objs.size f cdv)) → sp vs H Q E →
      ∃ t, PSs (cxOf CX0 P w K mg base N qual scope f cdv A outer s H E).nox body t ∧ t { nx := fun _ H' => Q .non H', rt := Q } (start N vs) H) : FnOk P w K mg base CX0 (k + 1) f fd ps sp := by
  obtain ⟨oc, od, dV, kV, doc, pm, an, cdv, ct, osl, rfl, lk, hcd, _, _⟩ := F.ex
  refine fn_of lk hcd S len fun A outer s H vs Q E hr hsp => ?_
  obtain ⟨t, h, q⟩ := hbody cdv A outer s H vs Q E (codeAt_of lk hcd) hr hsp
  exact ⟨t, h.nox, q⟩
theorem okG (F : FunD K x qual params body scope dvs kws f fd) (S : FnScope N ps scope) (len : ∀ vs H Q E, sp vs H Q E → vs.length = ps.length)
    (hbody : ∀ (cdv : Value) (A : Around) (outer : List Env) (s : Shared) (H : Hp) (vs : List V) (Q : VK) (E : XK), CodeAt K f cdv → Room k (A.deeper (envOfC qual scope s.heap.objs.size f cdv)) → (A.deeper (envOfC qual scope s.heap.objs.size f cdv)).guards = some [] → sp vs H Q E →
      ∃ t, PSs (cxOf CX P w K mg base N qual scope f cdv A outer s H E) body t ∧ t { nx := fun _ H' => Q .non H', rt := Q } (start N vs) H) : FnG P w K mg base CX (k + 1) f fd ps sp := by
  obtain ⟨oc, od, dV, kV, doc, pm, an, cdv, ct, osl, rfl, lk, hcd, _, _⟩ := F.ex
  refine ⟨len, fun A outer s H args us vs Q E hr hgd e0 hb r hsp => ?_⟩
  have hK : K.In s.heap := e0.mod.kin.keeps fun b o e => (e0.bs b o e).1
  have hL : s.heap.NoLimit := e0.mod.nolimit.keeps fun b o e => (e0.bs b o e).1
  refine codeAny_call_function hr.depth (hK _ _ lk) rfl S.co S.gen rfl (PySem.W.codeRec_of hK hcd) (hb _ _ _ _ ?_)
  refine wpAny_newFunctionEnv_cells S.kind (fun ⟨n, v⟩ hy => (S.par n (List.of_mem_zip hy).1).elim .inl fun q => .inr ⟨q, PySem.W.cellsFrom_some _ _ _ (.inl q)⟩) fun env he s1 hx => ?_
  subst he
  refine ⟨hL.keeps hx.toInCall.keep, codeAny_func ?_⟩
  obtain ⟨t, ht, hq⟩ := hbody cdv A outer s H vs Q E (codeAt_of lk hcd) (hr.deeper _) (by first | exact hgd | (rw [← hgd]; rfl)) hsp
  refine wpAny_mono (ht.run [] s1 (start N vs) H _ (inv_start S hr.hd e0 (len _ _ _ _ hsp) r hx) hq) (fun fl s' hs => ?_) fun e s' hs => hs
  have fin : ∀ {σ' : L2.St} {H' : Hp} {v : V} {u : Value}, Inv (cxOf CX P w K mg base N qual scope f cdv A outer s H E) [] σ' H' s' → RelV v u → Q v H' → CE outer P w H s Q u s' := fun {_ H' v _} J rv q => ⟨v, H', J.os, J.bare, J.base, J.hok, rv, q⟩
  match fl, hs with
  | .ret u, ⟨v, σ', H', J, rv, q⟩ => exact fin J rv q
  | .next, ⟨σ', H', J, q⟩ => exact fin (v := V.non) (u := Value.none) J rfl q
  | .brk, ⟨_, _, _, q⟩ => exact q.elim
  | .cont, ⟨_, _, _, q⟩ => exact q.elim
end
section
variable {X : Cx} {CX : CXT} {k : Nat} {f : Addr} {fd : FuncData} {ps : List Str} {sp : Sp} {dvs : List V} {ds : List Value} {E : XK} {x : Str} {p pos : Pos} {e : Expr} {es : List Expr} {t : TA}
theorem run_G {pins : List (Addr × Obj)} {σ : L2.St} {H : Hp} {s : Shared} {Q : VK} {us : List Value} {vs : List V} (F : FnG X.prog X.w X.K X.mg X.base CX k f fd ps sp) (hr : Room k X.A) (hg : X.A.guards = some []) (hb : Binds X.K fd ps ds) (hd : Vals dvs ds) (hx : Passes CX X E)
    (I : Inv X pins σ H s) (r : Vals vs us) (h : sp (vs ++ dvs) H Q E) : wpAny (model X.prog X.w) X.A (call (.ref f) us) (EP X pins σ Q) X.xe s := by
  have r2 : Vals (vs ++ dvs) (us ++ ds) := r.append hd
  refine wpAny_call (codeAny_mono (F.run X.A X.stack s H ⟨us, []⟩ (us ++ ds) (vs ++ dvs) Q E hr hg I.env0 (hb s us I.kIn (by rw [← r2.length]; exact F.len _ _ _ _ h)) r2 h) fun r s' hq => ?_)
  match r, hq with
  | .error e, hq => exact hx pins σ H s e s' I hq
  | .ok (.ret u), hq => exact I.after hq
theorem pe_callG (F : FnG X.prog X.w X.K X.mg X.base CX k f fd ps sp) (hr : Room k X.A) (hgd : X.A.guards = some []) (hg : Gl X x) (hm : X.mg x = some (.ref f)) (hk : PySem.W.keepIn X.K (.ref f) = true) (hb : Binds X.K fd ps ds) (hd : Vals dvs ds) (hx : Passes CX X E)
    (ha : PA X (e :: es) t) (hdb : (x == ("__debug__" : Str)) = false := by decide) (he : starEach (e :: es) X.env = (false, eval e X.env) :: starEach es X.env := by rfl) (hpl : (backTo pos (starEach es X.env)).any (·.1) = false := by rfl) :
    PE X (.Call (.Name x p) (e :: es) [] pos) (tCall sp dvs E t) :=
  ⟨fun pins s σ H Q I h => wpAny_Call_Name_kw (ld_glob I hg hm (PySem.W.callWith_K (h₀ := X.base) I.ok.mod.kin hk (thn (ha.run pos pins s σ H _ I h) fun us s1 ⟨vs, H1, I1, r, q⟩ => ⟨I1.kIn, run_G F hr hgd hb hd hx I1 r q⟩) he hpl) hdb)⟩
theorem pe_callG0 (F : FnG X.prog X.w X.K X.mg X.base CX k f fd ps sp) (hr : Room k X.A) (hgd : X.A.guards = some []) (hg : Gl X x) (hm : X.mg x = some (.ref f)) (hk : PySem.W.keepIn X.K (.ref f) = true) (hb : Binds X.K fd ps ds) (hd : Vals dvs ds) (hx : Passes CX X E)
    (hdb : (x == ("__debug__" : Str)) = false := by decide) : PE X (.Call (.Name x p) [] [] pos) (tCall sp dvs E tNil) :=
  ⟨fun pins s σ H Q I h => wpAny_Call_Name_kw (ld_glob I hg hm (PySem.W.callWith_K0 I.kIn hk (run_G (us := []) F hr hgd hb hd hx I .nil h)) hdb)⟩
end

/-! ### the law's own call, by a promise that asks that no repr is under way -/
section
variable {P : Program} {w : World} {K : PySem.W.Frag} {mg mb : Str → Option Value} {CX : CXT} {k : Nat} {fa a : Addr} {cs : List (Addr × Addr)} {fd : FuncData} {x : Str} {sp : Sp} {s₁ : Shared} {vs : List Value} {ns : List Int}
abbrev emptyT : Obj := { cls := .none, data := .fields #[] }
abbrev scriptO (vs : List Value) : Obj := { cls := .type "list", data := .seq vs.toArray }
open Classical in
/-- what is tracked when the law is called: the tables and the script -/
noncomputable def H0 (K : PySem.W.Frag) (cs : List (Addr × Addr)) (a : Addr) (vs : List Value) (ns : List Int) : Hp := fun b =>
  if b ∈ cs.map (·.2) then some (.tbl #[]) else if b = a ∧ K.lookup a = none then some (.frz (scriptO vs) (.lst (ns.map V.int))) else none
theorem H0_tab {b : Addr} (h : b ∈ cs.map (·.2)) : H0 K cs a vs ns b = some (.tbl #[]) := if_pos h
theorem H0_script (h : a ∉ cs.map (·.2)) (hk : K.lookup a = none) : H0 K cs a vs ns a = some (.frz (scriptO vs) (.lst (ns.map V.int))) := (if_neg h).trans (if_pos ⟨rfl, hk⟩)
theorem H0_some {b : Addr} {u : HO} (h : H0 K cs a vs ns b = some u) : (b ∈ cs.map (·.2) ∧ u = .tbl #[]) ∨ (b = a ∧ K.lookup a = none ∧ u = .frz (scriptO vs) (.lst (ns.map V.int))) := by
  by_cases h1 : b ∈ cs.map (·.2)
  · rw [H0_tab h1] at h
    exact .inl ⟨h1, (Option.some.inj h).symm⟩
  · by_cases h2 : b = a ∧ K.lookup a = none
    · have e : H0 K cs a vs ns b = some (.frz (scriptO vs) (.lst (ns.map V.int))) := (if_neg h1).trans (if_pos h2)
      rw [e] at h
      exact .inr ⟨h2.1, h2.2, (Option.some.inj h).symm⟩
    · have e : H0 K cs a vs ns b = none := (if_neg h1).trans (if_neg h2)
      rw [e] at h
      cases h
theorem law_callG (KX : K.In s₁.heap) (hns : s₁.heap.Ns mainGlobals mg) (hb : s₁.heap.Ns builtinsNs mb) (hbb : ∀ x : Str, x ≠ "__name__" → mb x = bootBuiltins x) (hlim : s₁.heap.NoLimit) (hg : s₁.gens = #[])
    (hT : ∀ p ∈ cs, s₁.heap.get? p.2 = some emptyT) (nT : ∀ p ∈ cs, K.lookup p.2 = none) (C : ∀ p ∈ cs, PySem.W.CodeHd s₁.heap p.1 p.2)
    (hbm : ∃ (bm : Addr) (ob : Obj), mg "__builtins__" = some (.ref bm) ∧ bm ≠ builtinsNs ∧ s₁.heap.get? bm = some ob ∧ ob.cls = .type "module" ∧ ob.dict = some builtinsNs ∧ ob.data = .plain)
    (ha : s₁.heap.get? a = some (scriptO vs)) (hi : IntsAre vs ns) (hl : ns.length ≤ sizeLine) (hr : Room k callerA)
    (F : ∀ base : Heap, K.In base → base.Ns mainGlobals mg → (∀ p ∈ cs, GxR.TabB base mg p.1 p.2) → FnG P w K mg base CX k fa fd [x] sp) (hbind : ∀ (s : Shared) (u : Value), BindsTo s fd ⟨[u], []⟩ [(x, u)])
    (hsp : ∀ H : Hp, (∀ p ∈ cs, H p.2 = some (.tbl #[])) → SqL K H a (ns.map V.int) → sp [.ref a] H (fun v _ => v = .bl true) fun _ _ _ => False)
    (hCX : ∀ H e s', CX [] H s₁ (fun _ _ _ => False) e s' → False) :
    codeAny (model P w) callerA (.call (.ref fa) ⟨[.ref a], []⟩) (fun r s' => r = .ok (.ret (.bool true)) ∧ OldK s₁.heap s'.heap ∧ s'.os = s₁.os ∧ AllBare s'.gens) s₁ := by
  have tabO : ∀ b ∈ cs.map (·.2), s₁.heap.get? b = some emptyT := fun b hb => by
    obtain ⟨p, hp, rfl⟩ := List.mem_map.mp hb
    exact hT p hp
  have aT : a ∉ cs.map (·.2) := fun z => by
    have q := (tabO a z).symm.trans ha
    cases q
  have rv := vals_ints hi
  have hlen : vs.length = ns.length := hi.length
  have sq : SqL K (H0 K cs a vs ns) a (ns.map V.int) := by
    cases q : K.lookup a with
    | none => exact .inl (.inr ⟨_, H0_script aT q⟩)
    | some o =>
      have e := (KX a o q).symm.trans ha
      cases e
      refine .inr ⟨_, vs.toArray, _, q, rfl, rfl, rfl, ?_, by simpa using rv⟩
      rw [List.size_toArray, hlen]
      exact hl
  have ok : HOk P w (H0 K cs a vs ns) s₁.heap := fun b u e => by
    rcases H0_some e with ⟨h1, rfl⟩ | ⟨rfl, _, rfl⟩
    · exact tabO b h1
    · exact ⟨ha, by rw [List.length_map]; exact hl, vs, _, rv, ha⟩
  -- what is neither a list nor an empty table is not tracked
  have free : ∀ {b : Addr} {o : Obj}, s₁.heap.get? b = some o → (∀ q n, o.data ≠ .seq q n) → o.data ≠ .fields #[] → H0 K cs a vs ns b = none := fun {b o} e h1 h2 => by
    cases q : H0 K cs a vs ns b with
    | none => rfl
    | some u =>
      rcases H0_some q with ⟨z, _⟩ | ⟨z, _⟩
      · rw [tabO b z] at e
        cases e
        exact absurd rfl h2
      · rw [z, ha] at e
        cases e
        exact absurd rfl (h1 _ _)
  have dict : ∀ {b : Addr} {o : Obj} {es : Array DictEntry} {ep : Nat}, s₁.heap.get? b = some o → o.data = .dict es ep → H0 K cs a vs ns b = none := fun {b o es ep} e d => free e (fun q n z => by rw [d] at z; cases z) fun z => by rw [d] at z; cases z
  have nsK : ∀ {b : Addr} {m : Str → Option Value}, s₁.heap.Ns b m → (hidT s₁.heap (H0 K cs a vs ns)).Ns b m := fun {b m} ⟨o, es, ep, e, d, r⟩ => ⟨o, es, ep, hidT_get e (dict e d), d, r⟩
  have kin : K.In (hidT s₁.heap (H0 K cs a vs ns)) := fun b o e => hidT_get (KX b o e) (by
    cases q : H0 K cs a vs ns b with
    | none => rfl
    | some u =>
      rcases H0_some q with ⟨z, _⟩ | ⟨rfl, z, _⟩
      · obtain ⟨p, hp, rfl⟩ := List.mem_map.mp z
        rw [nT p hp] at e
        cases e
      · rw [z] at e
        cases e)
  have mod : L2.Mod K mg (hidT s₁.heap (H0 K cs a vs ns)) := by
    obtain ⟨mc, l1, l2⟩ := hlim
    exact ⟨kin, nsK hns, ⟨mb, nsK hb, hbb⟩, mc, nsK l1, l2⟩
  have tb : ∀ p ∈ cs, GxR.TabB (hidT s₁.heap (H0 K cs a vs ns)) mg p.1 p.2 := fun p hp => by
    obtain ⟨og, eg, pg, g1, g2, _⟩ := hns
    obtain ⟨bm, ob, b1, b2, b3, b4, b5, b6⟩ := hbm
    obtain ⟨oc, us, file, tf, fl, tg, inF, tx, tt, c1, c2, c3, c4, c5, c6, c7, c8, c9, c10⟩ := C p hp
    have keepB : H0 K cs a vs ns bm = none := free b3 (fun q n z => by rw [b6] at z; cases z) fun z => by rw [b6] at z; cases z
    have keepC : H0 K cs a vs ns p.1 = none := free c1 (fun q n z => by rw [c3] at z; cases z) fun z => by
      rw [c3] at z
      cases z
      simp at c4
    refine ⟨⟨oc, us, file, tf, fl, tg, inF, tx, tt, hidT_get c1 keepC, c2, c3, c4, c5, c6, c7, c8, c9, c10⟩, ⟨bm, ob, b1, b2, fun z => ?_, fun z => ?_, hidT_get b3 keepB, b4, b5, b6⟩, fun z => ?_⟩
    · rw [z, g1] at b3
      cases b3
      rw [g2] at b6
      cases b6
    · rw [z, hT p hp] at b3
      cases b3
      cases b6
    · rw [z, hT p hp] at g1
      cases g1
      cases g2
  have e0 : Env0 P w K mg (hidT s₁.heap (H0 K cs a vs ns)) callerA [] s₁ (H0 K cs a vs ns) :=
    ⟨rfl, mod, fun b o e => of_hidT e, Nat.le_of_eq (hidT_size _ _), trivial, fun b hb => absurd (show b ∈ ([] : List Addr) from hb) (by simp), ok, .of_eq hg⟩
  refine codeAny_mono ((F _ kin (nsK hns) tb).run callerA [] s₁ (H0 K cs a vs ns) ⟨[.ref a], []⟩ [.ref a] [.ref a] _ _ hr rfl e0 (hbind s₁ (.ref a)) (.cons rfl .nil) (hsp _ (fun p hp => H0_tab (List.mem_map.mpr ⟨p, hp, rfl⟩)) sq)) fun r s' h => ?_
  match r, h with
  | .error e, h => exact (hCX _ e s' h).elim
  | .ok (.ret u), ⟨v, H', os, bare, un, ok', rr, q⟩ =>
    obtain rfl : v = .bl true := q
    obtain rfl : u = Value.bool true := rr
    have same : ∀ b o, b ∉ cs.map (·.2) → s₁.heap.get? b = some o → s'.heap.get? b = some o := fun b o nb e => by
      cases q : H0 K cs a vs ns b with
      | none => exact un.keep b o e q (by intro z; exact absurd (show b ∈ ([] : List Addr) from z) (by simp)) (by simp)
      | some u =>
        rcases H0_some q with ⟨z, _⟩ | ⟨rfl, _, rfl⟩
        · exact absurd z nb
        · obtain ⟨e1, _⟩ := ok' _ _ (un.frzs _ _ _ q)
          rw [ha] at e
          cases e
          exact e1
    have grown : ∀ p ∈ cs, ∃ more : Array Value, s'.heap.get? p.2 = some { cls := .none, data := .fields more } := fun p hp => by
      obtain ⟨more, z⟩ := un.tbls p.2 #[] (H0_tab (List.mem_map.mpr ⟨p, hp, rfl⟩))
      exact ⟨_, ok' p.2 _ z⟩
    refine ⟨rfl, ⟨fun b o e => ?_, fun b o e => ?_⟩, os, bare⟩
    · by_cases hb : b ∈ cs.map (·.2)
      · obtain ⟨p, hp, rfl⟩ := List.mem_map.mp hb
        obtain ⟨more, hm⟩ := grown p hp
        rw [hT p hp] at e
        cases e
        exact .inr (.inl ⟨((C p hp).tab (hT p hp)).isCodeTable, rfl, #[], more, rfl, by rw [Array.empty_append]; exact hm⟩)
      · exact .inl (same b o hb e)
    · by_cases hb : b ∈ cs.map (·.2)
      · obtain ⟨p, hp, rfl⟩ := List.mem_map.mp hb
        exact (grown p hp).elim fun more hm => ⟨_, hm⟩
      · exact ⟨o, same b o hb e⟩
end
/-- what the head's heap h must tell of the law -/
def LawG (l : PySem.W.OpenLaw) (w : World) (K : PySem.W.Frag) (CX : CXT) (k n : Nat) (x : Str) (mg : Str → Option Value) (fa : Addr) (h : Heap) : Prop :=
  ∃ (fd : FuncData) (cs : List (Addr × Addr)) (sp : Sp), (∀ p ∈ cs, h.get? p.2 = some emptyT) ∧ (∀ p ∈ cs, K.lookup p.2 = none) ∧ (∀ p ∈ cs, PySem.W.CodeHd h p.1 p.2) ∧ (∀ (s : Shared) (u : Value), BindsTo s fd ⟨[u], []⟩ [(x, u)]) ∧
    (∀ (H : Hp) (a : Addr) (ns : List Int), ns.length ≤ n → (∀ z ∈ ns, Builtin.Int.intBits z ≤ 1048576) → (∀ p ∈ cs, H p.2 = some (.tbl #[])) → SqL K H a (ns.map V.int) → sp [.ref a] H (fun v _ => v = .bl true) fun _ _ _ => False) ∧
    ∀ base : Heap, K.In base → base.Ns mainGlobals mg → (∀ p ∈ cs, GxR.TabB base mg p.1 p.2) → FnG l.prog w K mg base CX k fa fd [x] sp
theorem walkG {l : PySem.W.OpenLaw} {n k : Nat} {q : Program} {loose : List Str} {XP : (Str → Option Value) → Heap → Prop} {YP : World → Heap → Prop} {d : DefRec} {CX : World → CXT} {x : Str}
    (hn : l.most = some n) (hn2 : n ≤ sizeLine) (hdf : d.params.defaults = []) (hr : Room k callerA)
    (F : ∀ (w : World) (mg : Str → Option Value) (fa : Addr) (h : Heap), YP w h → h.Ns mainGlobals mg → mg d.name = some (.ref fa) → ∃ K : PySem.W.Frag, K.In h ∧ LawG l w K (CX w) k n x mg fa h)
    (hCX : ∀ (w : World) (H : Hp) (s : Shared) (e : Value) (s' : Shared), CX w [] H s (fun _ _ _ => False) e s' → False) :
    PySem.W.WalkO q loose XP YP l.row.toRowW d [] (fun f vs => PySem.call f vs) := by
  refine Att.attach_callB hn hdf fun w s₀ s₁ mg mb fa o pm cd doc a vs ns G Y ho hd hcd hmg hobj hints hlen hbits hg => ?_
  obtain ⟨K, KX, fd, cs, sp, h1, h2, h3, h4, h5, h6⟩ := F w mg fa _ Y G.T.g hmg
  exact law_callG KX G.T.g G.T.b G.T.builtins G.T.nolimit hg h1 h2 h3 G.T.bmain hobj hints (Nat.le_trans hlen hn2) hr h6 h4 (fun H hH hS => h5 H a ns hlen hbits hH hS) fun H e s' => hCX w H s₁ e s'

/-! ### tables of code objects, in the abstract heap -/
def TabsOk (Ps : List Addr) (H : Hp) : Prop := ∀ P ∈ Ps, GxR.TabG H P
/-- what is no table is as it was -/
def Sm (H H' : Hp) : Prop := ∀ b o, H b = some o → (∀ ps, o ≠ .tbl ps) → H' b = some o
theorem Sm.refl (H : Hp) : Sm H H := fun _ _ e _ => e
theorem Sm.trans {H H1 H2 : Hp} (a : Sm H H1) (b : Sm H1 H2) : Sm H H2 := fun c o e n => b c o (a c o e n) n
theorem Sm.new {H : Hp} {p : Addr} {o : HO} (h : H p = none) : Sm H (upd H p o) := fun b u e _ => by
  rw [upd_ne (ne_of_none e h)]
  exact e
theorem Sm.over {H H1 : Hp} {p : Addr} {o : HO} (a : Sm H H1) (h : H p = none) : Sm H (upd H1 p o) := fun b u e n => by
  rw [upd_ne (ne_of_none e h)]
  exact a b u e n
theorem Sm.lst {H H1 : Hp} {p : Addr} {xs : List V} (a : Sm H H1) (h : H p = some (.lst xs)) : H1 p = some (.lst xs) := a p _ h fun _ z => by cases z
theorem Sm.tup {H H1 : Hp} {p : Addr} {xs : List V} (a : Sm H H1) (h : H p = some (.tup xs)) : H1 p = some (.tup xs) := a p _ h fun _ z => by cases z
theorem Sm.seq {K : PySem.W.Frag} {H H1 : Hp} {p : Addr} {xs : List V} (a : Sm H H1) (h : SqL K H p xs) : SqL K H1 p xs := by
  rcases h with (h | ⟨o, h⟩) | h
  · exact .inl (.inl (a.lst h))
  · exact .inl (.inr ⟨o, a _ _ h fun _ z => by cases z⟩)
  · exact .inr h
theorem TabsOk.new {Ps : List Addr} {H : Hp} {p : Addr} {o : HO} (t : TabsOk Ps H) (h : H p = none) : TabsOk Ps (upd H p o) := fun P hP => by
  obtain ⟨ps, e, k⟩ := t P hP
  exact ⟨ps, by rw [upd_ne (ne_of_none e h)]; exact e, k⟩
theorem TabsOk.ne {Ps : List Addr} {H : Hp} {P p : Addr} {u : HO} (t : TabsOk Ps H) (hP : P ∈ Ps) (e : H p = some u) (n : ∀ ps, u ≠ .tbl ps) : p ≠ P := fun z => by
  obtain ⟨ps, e2, _⟩ := t P hP
  rw [z, e2] at e
  exact n ps (Option.some.inj e).symm
theorem TabsOk.put {Ps : List Addr} {H : Hp} {p : Addr} {o u : HO} (t : TabsOk Ps H) (e : H p = some u) (n : ∀ ps, u ≠ .tbl ps) : TabsOk Ps (upd H p o) := fun P hP => by
  have np := t.ne hP e n
  obtain ⟨ps, e2, k⟩ := t P hP
  exact ⟨ps, by rw [upd_ne (Ne.symm np)]; exact e2, k⟩
theorem TabsOk.tabbed {Ps : List Addr} {H H' : Hp} {P : Addr} (t : TabsOk Ps H) (h : GxR.Tabbed P H H') : TabsOk Ps H' := fun R hR => by
  by_cases e : R = P
  · rw [e]
    exact h.1
  · obtain ⟨ps, e2, k⟩ := t R hR
    exact ⟨ps, by rw [h.2 R e]; exact e2, k⟩
theorem sm_tabbed {H H' : Hp} {P : Addr} (t : GxR.TabG H P) (h : GxR.Tabbed P H H') : Sm H H' := fun b o e n => by
  by_cases z : b = P
  · obtain ⟨ps, e2, _⟩ := t
    rw [z, e2] at e
    exact absurd (Option.some.inj e).symm (n ps)
  · rw [h.2 b z]
    exact e
/-! ### repr of data -/
/-- repr(x), x a list or a tuple of data -/
def rReprD (K : PySem.W.Frag) : List V → Hp → VK → Prop := fun xs H Q => ∃ (a : Addr) (d : PyData), xs = [.ref a] ∧ Dp K H (.ref a) d ∧ d.showable = true ∧ d.hasDict = false ∧ d.depth ≤ 60 ∧ d.shown.length ≤ sizeLine ∧ Q (.str d.shown) H
theorem call_reprD {X : Cx} {k : Nat} (hr : Room k X.A) (hg : X.A.guards = some []) : CallR X (.builtin "repr") (rReprD X.K) := by
  intro pins s σ H xs us Q I r h
  obtain ⟨a, d, rfl, hd, hs, hn, hp, hl, q⟩ := h
  match us, r with
  | [_], .cons r1 .nil =>
    obtain ⟨as, rd⟩ := Dp.reads I d _ _ hd r1
    cases r1
    have := hr.un
    exact repr_of_reads' rd hs (fun z => by rw [hn] at z; cases z) hg (by omega) (fun _ _ e => e) (fun h' u tk kp => ⟨.str d.shown, H, I.kept kp, ⟨u, rfl⟩, q⟩) hl
/-- repr of a truth -/
def rReprB : List V → Hp → VK → Prop := fun xs H Q => ∃ b, xs = [.bl b] ∧ Q (.str (if b then "True" else "False")) H
end HM
set_option maxHeartbeats 4000000
namespace XS
open PySem PySem.Spec PyProof.Rows L2 HM NdefX
/-- what the class at C says, so that super().__init__ in it is ValueError's -/
structure SupC (K : PySem.W.Frag) (C : Addr) : Prop where
  oex : OexC K C
  opq : PySem.W.nsIn K cStatics "thirdparty.any" = some none
  sup : PySem.W.ks_superIn K C C "__init__" = some (some (.builtin "ValueError.__init__"))
  ve : PySem.W.subIn K (.ref C) (.type "ValueError") = some true
  slf : PySem.W.subIn K (.ref C) (.ref C) = some true
/-- the written __init__ of the class at C: a function with the one captured cell -/
structure SupF (K : PySem.W.Frag) (prog : Program) (C f : Addr) (F : NF) (fd : FuncData) : Prop where
  ex : ∃ (oc : Value) (od : Option Addr) (osl : Array (Option Value)) (doc pm ctv : Value), fd = F.fd doc pm ctv ∧ K.lookup f = some ⟨oc, od, .func fd, osl⟩
  cd : PySem.W.codeIn K (.ref F.c) F.qual = true
  cl : ∃ (c : Addr) (ob : Obj), F.cl = [((("__class__" : Str)), c)] ∧ K.lookup c = some ob ∧ ob.data = .cell (some (.ref C))
  fil : ∃ (ob : Obj) (vs : Array Value) (file : Str) (tf : Tok), K.lookup F.c = some ob ∧ ob.data = .fields vs ∧ vs[2]? = some (.str file tf) ∧ ((prog.main.file : Str) == file) = true
  kp : PySem.W.keepIn K (.ref f) = true
section
variable {X : Cx} {C a u : Addr} {pins : List (Addr × Obj)} {σ : L2.St} {H : Hp} {A : Around} {E : Value → Shared → Prop} {s : Shared}
/-- the bound ValueError.__init__ called: the exception's args are laid anew -/
theorem wrap_ok {us : List Value} {Q : Value → Shared → Prop} (T : OexC X.K C) (I : Inv X pins σ H s) (e : H a = some (exo a C none)) (hu : s.heap.get? u = some (PySem.W.kxs_mw "ValueError.__init__" a)) (hl : us.length ≤ sizeLine) (h : ∀ s', Inv X pins σ H s' → Q .none s') :
    wpAny (model X.prog X.w) A (call (.ref u) us) Q E s := by
  obtain ⟨nm, q, N, bs, bm, sn, sub, ab, col, dd, k0, k1, k2, k3, k5, hC, hbm⟩ := T.cls
  obtain ⟨t1, ho⟩ := exo_at I.hok e
  obtain ⟨hp, g, d, t, os⟩ := s
  refine wpAny_call (codeAny_of_tree ?_)
  show wpAny _ A.in1 (callAny (.ref u) ⟨us, []⟩) _ _ _
  simp only [callAny]
  refine wpAny_bind (wpAny_load hu ?_)
  simp only [PySem.W.kxs_mw, show (Value.type "method-wrapper" == Value.type "method" || Value.type "method-wrapper" == Value.type "builtin_function_or_method" || Value.type "method-wrapper" == Value.type "method-wrapper") = true by decide, if_true]
  refine PySem.W.KFB.if_so (by decide) ?_
  refine wpAny_bind (PySem.W.check_bound_init F.excBase_ValueError.toExcCallFacts (I.kIn _ _ hC) ho rfl ?_)
  refine wpAny_bind (wpAny_pure (wpAny_pure ?_))
  refine ⟨plainId_quiet F.excBase_ValueError.init.plain _, codeAny_builtin F.excBase_ValueError.initEntry ?_⟩
  refine PySem.W.exc_init_tree (cls := .ref C) (t0 := t1) (dv := none) (c2 := .none) (c3 := .none) (b4 := .bool false) ho hl fun h' k e' _ => ?_
  have J := I.write (t' := t) (x := a) (e := a) (o := exo a C none) (by rw [e]; exact True.intro) (.inl rfl) k ⟨_, e'⟩ (exo_ok e')
  have eu : upd H a (exo a C none) = H := by
    funext b
    by_cases hb : b = a
    · rw [hb, upd_same, e]
    · rw [upd_ne hb]
  rw [eu] at J
  exact h _ J
end
section
variable {P : Program} {w : World} {K : PySem.W.Frag} {mg : Str → Option Value} {base : Heap} {CX : CXT} {k : Nat} {C f : Addr} {F : NF} {fd : FuncData} {ps px : List Str} {sp : Sp} {N : List Str}
/-- THE RULE for a written __init__ that begins with super().__init__(e) -/
theorem okSup {e : Expr} {rest : List Stmt} {p0 p1 p2 p3 p4 : Pos} {ar : Arg} (T : SupC K C) (FF : SupF K P C f F fd) (hps : ps = ("self" : Str) :: px) (S : NScope N ps ["__class__"] F.scope)
    (hbd : F.body = .Expr (.Call (.Attribute (.Call (.Name "super" p0) [] [] p1) "__init__" p2) [e] [] p3) p4 :: rest) (hpar : (F.params.posonlyargs ++ F.params.args).head? = some ar) (har : ar.arg = ("self" : Str))
    (hsu : F.scope.names.lookup ("super" : Str) = some .globalImplicit) (msu : mg "super" = none) (htop : (P.main.scope.names.lookup ("super" : Str)).isSome = false) (len : ∀ vs H Q E, sp vs H Q E → vs.length = ps.length)
    (hcall : ∀ L : Addr, ∃ pl : Sem Bool, eval (.Call (.Attribute (.Call (.Name "super" p0) [] [] p1) "__init__" p2) [e] [] p3) (envF F f L) = (do
      let ov ← attributeBase (.Call (.Name "super" p0) [] [] p1) "__init__" (envF F f L) (eval (.Call (.Name "super" p0) [] [] p1) (envF F f L))
      standAt p2.atName
      let (g, fst) ← holding [ov] (getMethod ov "__init__" pl)
      callWith p3 g fst (backTo p3 (starEach [e] (envF F f L))) []))
    (he : ∀ env : Env, starEach [e] env = (false, eval e env) :: starEach [] env) (hi : ∀ L : Addr, interactive (envF F f L) = false) (hsw : ∀ L : Addr, swapsWith (.Call (.Attribute (.Call (.Name "super" p0) [] [] p1) "__init__" p2) [e] [] p3) none p4.line (envF F f L) = pure false)
    (hbody : ∀ (A : Around) (outer : List Env) (s : Shared) (H : Hp) (vs : List V) (Q : VK) (E : XK), Room k (A.deeper (envF F f s.heap.objs.size)) → (A.deeper (envF F f s.heap.objs.size)).guards = some [] → sp vs H Q E →
      ∃ (a : Addr) (vr : List V) (te : TE) (t : TS), vs = .ref a :: vr ∧ PE (ncx CX P w K mg base N F f A outer s H E) e te ∧ PSs (ncx CX P w K mg base N F f A outer s H E) rest t ∧ H a = some (exo a C none) ∧
        te (startF N vs [none]) H fun _ H1 => H1 a = some (exo a C none) ∧ t { nx := fun _ H' => Q .non H', rt := Q } (startF N vs [none]) H1) :
    FnG P w K mg base CX (k + 1) f fd ps sp := by
  obtain ⟨oc, od, osl, doc, pm, ctv, rfl, lk⟩ := FF.ex
  obtain ⟨cc, ob, hcl, lcc, dcc⟩ := FF.cl
  obtain ⟨oco, vs2, file, tf, lco, dco, v2, hfile⟩ := FF.fil
  refine ⟨len, fun A outer s H args us vs Q E hr hgd e0 hb r hsp => ?_⟩
  have hK : K.In s.heap := e0.mod.kin.keeps fun b o e => (e0.bs b o e).1
  have hL : s.heap.NoLimit := e0.mod.nolimit.keeps fun b o e => (e0.bs b o e).1
  obtain ⟨a, vr, te, t, hvs, hpe, hpt, ha, hte⟩ := hbody A outer s H vs Q E (hr.deeper _) (by first | exact hgd | (rw [← hgd]; rfl)) hsp
  have Ce : CellsAt F.cl ["__class__"] [none] s.heap H := by
    refine ⟨rfl, fun y c e => ?_, fun x y c e1 e2 => ?_, fun i y hy => ?_⟩
    · rw [hcl] at e
      have e2 := PySem.mem_of_lookup e
      rw [List.mem_singleton] at e2
      cases e2
      refine ⟨(e0.bs _ _ (e0.mod.kin _ _ lcc)).2, _, ob, hK _ _ lcc, dcc⟩
    · rw [hcl] at e1 e2
      have e3 := PySem.mem_of_lookup e1
      have e4 := PySem.mem_of_lookup e2
      rw [List.mem_singleton] at e3 e4
      cases e3
      cases e4
      rfl
    · have e5 := List.mem_of_getElem? hy
      rw [List.mem_singleton] at e5
      subst e5
      refine ⟨cc, by rw [hcl]; rfl, fun v hv => ?_⟩
      have hi0 : i = 0 := by
        have := (List.getElem?_eq_some_iff.mp hy).1
        simpa using this
      subst hi0
      cases hv
  refine codeAny_call_function hr.depth (hK _ _ lk) rfl S.co S.gen rfl (PySem.W.codeRec_of hK FF.cd) (hb _ _ _ _ ?_)
  refine wpAny_newFunctionEnv S.nocell (fun ⟨n, _⟩ hy => S.par n (List.of_mem_zip hy).1) (fun h₁ hns hsb => ⟨hL.fresh _ hsb, ?_⟩) S.kind
  show codeAny _ _ (.func F.body (envF F f s.heap.objs.size)) _ _
  have kp : ∀ b o, s.heap.get? b = some o → h₁.get? b = some o := fun b o e => hsb.extBut b o (Nat.ne_of_lt (Heap.lt_size e)) (Heap.get?_push_of_some _ e)
  have I : Inv (ncx CX P w K mg base N F f A outer s H E) [] (startF N vs [none]) H { s with heap := h₁, toks := s.toks + (ps.zip us).length } := inv_startN S hr.hd e0 (len _ _ _ _ hsp) r Ce hns kp
  refine ks_codeAny_funcAt ?_
  rw [hbd]
  obtain ⟨pl, hcl2⟩ := hcall s.heap.objs.size
  obtain ⟨nm, q, N', bs, bm, sn, sub, ab, col, dd, k0, k1, k2, k3, k5, hC, hbm⟩ := T.oex.cls
  have nC : a ≠ C := fun z => by
    have e1 := (e0.bs _ _ (e0.mod.kin _ _ hC)).2
    rw [← z, ha] at e1
    cases e1
  obtain ⟨ur, rfl⟩ : ∃ ur, us = .ref a :: ur := by
    rw [hvs] at r
    cases r with
    | cons r1 r2 =>
      cases r1
      exact ⟨_, rfl⟩
  obtain ⟨mb, hb1, hb2⟩ := I.mod.blt
  have hx0 : h₁.get? a = some _ := (exo_at I.hok ha).choose_spec
  have hD0 : h₁.get? C = some _ := kp _ _ (hK _ _ hC)
  have hK1 : K.In h₁ := fun b o z => kp _ _ (hK b o z)
  refine ks_wpAt_execs_cons (ks_wpAt_Expr_any (ks_wpAt_MethodCall (pl := pl) ?_ hcl2) (hi _) (hsw _))
  have hsf : h₁.get? f = some _ := kp _ _ (hK _ _ lk)
  refine ks_wpAt_super_base hsu (S.frk "__class__" (by simp)) (by decide) rfl hsf rfl hpar rfl (kp _ _ (hK _ _ lco)) dco v2 hfile htop ?_
  rw [loadName_read (env := envF F f s.heap.objs.size) S.kind hsu]
  refine Calls.loadGlobal_builtin (I.mod.glob.keeps I.bk) msu (hb1.keeps I.bk) ((hb2 "super" (by decide)).trans (show bootBuiltins "super" = some (.type "super") by decide +kernel)) ⟨rfl, ?_⟩
  refine wpAny_loadName_free S.kind (S.frk "__class__" (by simp)) (c := cc) (by show F.cl.lookup _ = _; rw [hcl]; rfl) ⟨ob, kp _ _ (hK _ _ lcc), dcc⟩ ?_
  rw [har]
  have ndp : ps.Nodup := by
    have z := S.nd.sublist (List.take_sublist (ps.length + 1) N)
    have z2 : N.take (ps.length + 1) = ps ++ [("__class__" : Str)] := S.pre
    rw [z2] at z
    exact (List.nodup_append.mp z).1
  refine wpAny_loadName_local S.kind (S.par "self" (by rw [hps]; exact List.mem_cons_self)) hns (v := .ref a) (zip_look (i := 0) ndp (by rw [hps]; rfl) rfl) ?_
  refine ks_wpAny_isType_cls hD0 rfl ⟨rfl, ?_⟩
  refine ks_wpAny_call_super hD0 rfl hx0 rfl (fun c z => by cases z) (PySem.W.looks_subIn hK1 T.slf) fun h2 hso kk2 => ?_
  have hK2 : K.In h2 := fun b o z => kk2 _ _ (hK1 b o z)
  obtain ⟨cdC, hcd⟩ : ∃ cd, PySem.W.clsIn K C = some cd := ⟨_, by
    unfold PySem.W.clsIn
    rw [hC]⟩
  have hm := T.sup
  unfold PySem.W.ks_superIn at hm
  rw [hcd] at hm
  have inst : PySem.W.InstAt h2 a _ C none := ⟨kk2 _ _ hx0, rfl, rfl, trivial⟩
  refine PySem.W.kxs_getMethod PySem.W.kxs_ValueError hso (PySem.W.looks_opaque hK2 T.opq) (l₀ := _) (fun A Q E s k q => wpAny_bind ((PySem.W.looks_clsIn hK2 hcd) A _ E s k (wpAny_pure q))) rfl hK2 hm (inst.type.andThen (PySem.W.looks_subIn hK2 T.ve)) nC (by decide) ?_
  have I2 := (I.kept (t' := s.toks + (ps.zip (Value.ref a :: ur)).length) kk2).kept (t' := s.toks + (ps.zip (Value.ref a :: ur)).length + 1) (h' := h2.push (PySem.W.kxs_mw "ValueError.__init__" a)) fun b o z => Heap.get?_push_of_some _ z
  have hu : (h2.push (PySem.W.kxs_mw "ValueError.__init__" a)).get? h2.objs.size = some (PySem.W.kxs_mw "ValueError.__init__" a) := Heap.get?_push_at rfl rfl
  have hl1 : h₁.objs.size ≤ h2.objs.size := Nat.le_of_lt (Heap.lt_size hso)
  have I3 : Inv (ncx CX P w K mg base N F f A outer s H E) [(h2.objs.size, PySem.W.kxs_mw "ValueError.__init__" a)] (startF N vs [none]) H ⟨h2.push (PySem.W.kxs_mw "ValueError.__init__" a), s.gens, s.drawn, s.toks + (ps.zip (Value.ref a :: ur)).length + 1, s.os⟩ := by
    refine I2.pins_of fun p hp => ?_
    rw [List.mem_singleton] at hp
    subst hp
    refine ⟨hu, ?_, ?_, ?_, fun v z => by cases z⟩
    · exact (I.kept (t' := 0) kk2).hok.fresh (Nat.le_refl _)
    · exact Nat.ne_of_gt (I.kept (t' := 0) kk2).lt
    · exact (I.kept (t' := 0) kk2).nofs (Nat.le_refl _)
  show wpAny _ _ (callWith p3 (.ref h2.objs.size) [] (backTo p3 (starEach [e] (envF F f s.heap.objs.size))) []) _ _ _
  rw [he]
  refine PySem.W.kxs_callWith (i := "ValueError.__init__") (x := a) rfl (PySem.Calls.evalArgs_plain ?_)
  refine Calls.spliced_cons (thn (hpe.run _ _ _ H _ I3 hte) fun u1 s5 ⟨y, H5, I5, r5, ea, q5⟩ => ?_)
  have pu := (I5.pin (h2.objs.size, PySem.W.kxs_mw "ValueError.__init__" a) (List.mem_append.mpr (.inr List.mem_cons_self))).1
  refine Calls.spliced_nil ⟨pu, ?_⟩
  refine wrap_ok (us := [u1]) T.oex I5 ea pu (by show 1 ≤ sizeLine; decide) fun s6 I6 => ?_
  show PySem.wpAt _ _ _ (execs rest (envF F f s.heap.objs.size)) _ _ _
  refine PySem.wpAt_of_wpAny (wpAny_mono (hpt.run [] s6 _ H5 _ (I6.pins_of fun p hp => nomatch hp) q5) (fun fl s' hs => ?_) fun er s' hs => hs)
  have fin : ∀ {σ' : L2.St} {H' : Hp} {v : V} {u : Value}, Inv (ncx CX P w K mg base N F f A outer s H E) [] σ' H' s' → RelV v u → Q v H' → CE outer P w H s Q u s' := fun {_ H' v _} J rv q => ⟨v, H', J.os, J.bare, J.base, J.hok, rv, q⟩
  match fl, hs with
  | .ret u, ⟨v, σ', H', J, rv, q⟩ => exact fin J rv q
  | .next, ⟨σ', H', J, q⟩ => exact fin (v := V.non) (u := Value.none) J rfl q
  | .brk, ⟨_, _, _, q⟩ => exact q.elim
  | .cont, ⟨_, _, _, q⟩ => exact q.elim
end
end XS
set_option maxHeartbeats 4000000
namespace XT
open PySem PySem.Spec PyProof.Rows L2 HM
open L2N (Zn)
/-! ### try with clauses of both forms, with and without a name -/
/-- the exception at a, caught: noted in our frame, out of what is tracked -/
structure Grd (X : Cx) (pins : List (Addr × Obj)) (a : Addr) (cls : Value) (d : Option Addr) (σ : L2.St) (H : Hp) (B : Heap) (sI s : Shared) : Prop where
  inv : Inv X pins σ H sI
  nb : ∀ b o, sI.heap.get? b = some o → b ∉ frs X.stack → B.get? b = some o
  fl : HandSPX.FlyingZ B (X.env :: X.outer) a (Zn cls d) s.heap
  up : sI.heap.UpToSlots s.heap
  na : H a = none
  os : s.os = sI.os
  ag : AllBare s.gens
section
variable {X : Cx} {pins : List (Addr × Obj)} {a : Addr} {cls : Value} {d : Option Addr} {σ : L2.St} {H : Hp} {B : Heap} {sI s : Shared}
theorem Grd.now (g : Grd X pins a cls d σ H B sI s) : Inv X pins σ H s := g.inv.landed g.nb g.fl.1 g.up g.os g.ag
theorem Grd.on {h : Heap} (g : Grd X pins a cls d σ H B sI s) (f : HandSPX.FlyingZ B (X.env :: X.outer) a (Zn cls d) h) (u : s.heap.UpToSlots h) : Grd X pins a cls d σ H B sI { s with heap := h } :=
  ⟨g.inv, g.nb, f, g.up.trans u, g.na, g.os, g.ag⟩
/-- its object, and that it is no frame of ours -/
theorem Grd.ob (g : Grd X pins a cls d σ H B sI s) (hf : X.env.frame = some X.env.locals) : ∃ (oe : Obj) (vs : Array Value), s.heap.get? a = some oe ∧ Zn cls d oe ∧ oe.data = .fields vs ∧ a ≠ X.env.locals ∧ a ∉ X.fs := by
  obtain ⟨oe, vs, he, hz, hd⟩ := g.fl.there
  have out : a ∉ frs (X.env :: X.outer) := fun hm => by
    obtain ⟨_, o2, e2, no⟩ := g.fl.2.2.1.mem hm
    rw [he] at e2
    cases e2
    exact no _ hd
  refine ⟨oe, vs, he, hz, hd, fun z => out ?_, fun hm => out ?_⟩
  · exact List.mem_filterMap.mpr ⟨X.env, .head _, by rw [hf, z]⟩
  · obtain ⟨e, he2, q⟩ := List.mem_filterMap.mp hm
    exact List.mem_filterMap.mpr ⟨e, .tail _ he2, q⟩
theorem grd_of {W : WX} {xe E₁ : Value → Shared → Prop} {u : Value} {s' : Shared} {Q : Unit → Shared → Prop} (ok : X.Ok) (hs : X.stack = X.env :: X.outer) (hf : X.env.frame = some X.env.locals) (x : L2N.XE (X.tr (X.pn ++ pins) xe) W u s')
    (hq : ∀ a cls d σ H B sI s3, u = .ref a → Grd X pins a cls d σ H B sI s3 → W cls d σ H → Q () s3) :
    wpAny (model X.prog X.w) X.A (noteFrame u X.env) (fun _ s₂ => wpAny (model X.prog X.w) X.A (setFlight u none) Q E₁ s₂) E₁ s' := by
  obtain ⟨a, B, sI, p2, σ, H, cls, d, rfl, J, nb, up, sky, na, os, ag, w⟩ := x
  have sk : Sky B (X.env :: X.outer) a (Zn cls d) X.env.locals s'.heap := by
    rw [← hs]
    exact sky
  exact L2N.Sky.land Zn.steady (by rw [ok.frames, hs]) hf sk fun h fl up2 => hq a cls d σ H B sI _ rfl ⟨J.ofTry ok, nb, fl, up.trans up2, na, os, ag⟩ w
/-- no clause took it: it goes on -/
theorem clause_none {Wout : WX} {D : Ends} (g : Grd X pins a cls d σ H B sI s) (hs : X.stack = X.env :: X.outer) (hf : X.env.frame = some X.env.locals) (tk : L2N.Takes X Wout) (w : Wout cls d σ H) :
    wpAny (model X.prog X.w) X.A (handleBy (.ref a) X.env []) (SP X pins D) X.xe s := by
  refine wpAny_handleBy_nil ?_
  obtain ⟨_, _, _, oe, vs, T, oT, ts, he, hz, hd, h1, _⟩ := id g.fl
  unfold PySem.passOn
  refine wpAny_bind (wpAny_field he hd h1 ?_)
  rw [if_neg (show ¬ (Value.ref T == Value.none) = true by simp)]
  have goes : wpAny (model X.prog X.w) X.A (setFlight (.ref a) X.env.frame) (fun _ s4 => wpAny (model X.prog X.w) X.A (throw (.ref a) : Sem Flow) (SP X pins D) X.xe s4) X.xe s := by
    rw [hf]
    refine HandSPX.setFlight_upZ g.fl fun h4 held up4 => wpAny_throw (tk _ _ ⟨a, B, sI, pins, σ, H, cls, d, rfl, g.inv, g.nb, g.up.trans up4, .inr (.inr ?_), g.na, g.os, g.ag, w⟩)
    rw [hs]
    exact held
  first | exact wpAny_bind (wpAny_pure (wpAny_bind goes)) | exact wpAny_bind goes
variable {x : Str} {c : Value} {b : Bool} {b₀ : Stmt} {suite : List Stmt} {hds : List ExceptHandler} {np pos' : Pos} {Q : Flow → Shared → Prop} {E : Value → Shared → Prop} {nm : Option Str}
/-- the clause's class is asked -/
theorem clause_ask (g : Grd X pins a cls d σ H B sI s) (hf : X.env.frame = some X.env.locals) (hc : Names X x c) (hb : PySem.W.exmOne X.K cls c = some b) {Q2 : Bool → Shared → Prop} {E2 E3 : Value → Shared → Prop} (h : Q2 b s) :
    wpAny (model X.prog X.w) (X.A.mark (some (.ref a))) (eval (.Name x np) X.env) (fun v s₁ => wpAny (model X.prog X.w) (X.A.mark (some (.ref a))) (excMatches (.ref a) v) Q2 E2 s₁) E3 s := by
  obtain ⟨oe, vs, he, hz, hd, n1, n2⟩ := g.ob hf
  have S := g.now.suite he hd g.na n1 n2
  have L1 : PySem.W.Looks (model X.prog X.w) s.heap (typeOf (.ref a)) cls := fun A Q E s k q => wpAny_typeOf_ref (k _ _ he) (by rw [hz.1]; exact q)
  have L2' := (PySem.W.exm_one (M := model X.prog X.w) g.now.kIn L1 hb).here (A := X.A.mark (some (.ref a))) (E := E2) h
  obtain ⟨hg, hdb, hm | ⟨hm, hv, hn⟩⟩ := hc
  · exact ld_glob (X := X.suite a ((a, oe) :: (X.pn ++ pins))) S hg hm L2' hdb
  · exact ld_blt (X := X.suite a ((a, oe) :: (X.pn ++ pins))) S hg hm hv L2' hn hdb
end
/-- what is wished of an exception of the body, clause by clause: (class, slot of the name, the suite's reading) -/
abbrev Cls3 := Value × Option Nat × (Addr → Value → Option Addr → TS)
/-- behind a suite with a name the name is gone -/
def unset (i : Nat) (D : Ends) : Ends := { nx := fun σ H => D.nx (σ.set i none) H, rt := D.rt, bk := fun σ H => D.bk (σ.set i none) H, ct := fun σ H => D.ct (σ.set i none) H }
def wCl (K : PySem.W.Frag) (Wout : WX) (D : Ends) : List Cls3 → WX
  | [] => Wout
  | (c, o, ts) :: r => fun cls d σ H => ∃ b, PySem.W.exmOne K cls c = some b ∧ (b = false → wCl K Wout D r cls d σ H) ∧ (b = true → ∀ a, H a = none → match o with
    | none => ts a cls d D σ H
    | some i => ts a cls d (unset i D) (σ.set i (some (.ref a))) H)
inductive ClOk (X : Cx) : List ExceptHandler → List Cls3 → Prop
  | nil : ClOk X [] []
  | plain {x : Str} {c : Value} {ts : Addr → Value → Option Addr → TS} {b₀ : Stmt} {suite : List Stmt} {np pos' : Pos} {hds : List ExceptHandler} {l : List Cls3} (hc : Names X x c)
      (hsu : ∀ (a : Addr) (oe : Obj) (cls : Value) (d : Option Addr) (pn : List (Addr × Obj)), Zn cls d oe → (∃ vs, oe.data = .fields vs) → PSs (X.suite a ((a, oe) :: pn)) (b₀ :: suite) (ts a cls d)) (r : ClOk X hds l) :
      ClOk X (.ExceptHandler (some (.Name x np)) none (b₀ :: suite) pos' :: hds) ((c, none, ts) :: l)
  | named {x n : Str} {i : Nat} {c : Value} {ts : Addr → Value → Option Addr → TS} {b₀ : Stmt} {suite : List Stmt} {np pos' : Pos} {hds : List ExceptHandler} {l : List Cls3} (hc : Names X x c) (hi : X.N[i]? = some n) (hln : X.env.kindOf n = some .local)
      (hsu : ∀ (a : Addr) (oe : Obj) (cls : Value) (d : Option Addr) (pn : List (Addr × Obj)), Zn cls d oe → (∃ vs, oe.data = .fields vs) → PSs (X.suite a ((a, oe) :: pn)) (b₀ :: suite) (ts a cls d)) (r : ClOk X hds l) :
      ClOk X (.ExceptHandler (some (.Name x np)) (some n) (b₀ :: suite) pos' :: hds) ((c, some i, ts) :: l)
section
variable {X : Cx} {pins : List (Addr × Obj)}
theorem clauses {Wout : WX} {D : Ends} {a : Addr} {cls : Value} {d : Option Addr} {σ : L2.St} {H : Hp} {B : Heap} {sI s : Shared} {hds : List ExceptHandler} {l : List Cls3} (ok : X.Ok) (hN : X.N.Nodup) (g : Grd X pins a cls d σ H B sI s) (hs : X.stack = X.env :: X.outer) (hf : X.env.frame = some X.env.locals)
    (tk : L2N.Takes X Wout) (hk : ClOk X hds l) : wCl X.K Wout D l cls d σ H → wpAny (model X.prog X.w) X.A (handleBy (.ref a) X.env hds) (SP X pins D) X.xe s := by
  induction hk with
  | nil => exact fun w => clause_none g hs hf tk w
  | plain hc hsu r ih =>
    rintro ⟨b, hb, hno, hyes⟩
    refine wpAny_handleBy_cons (codeAny_handlers_test (clause_ask g hf hc hb ?_)) (by intro z; cases z)
    cases b with
    | false => exact ih (hno rfl)
    | true =>
      refine codeAny_handlers_suite (HandSPX.lands_againZ g.fl fun h4 fl4 up4 => ?_)
      have g4 := g.on fl4 up4
      obtain ⟨oe, vs, he, hz, hd, n1, n2⟩ := g4.ob hf
      refine wpAny_mono ((hsu a oe cls d (X.pn ++ pins) hz ⟨_, hd⟩).run [] _ _ H _ (g4.now.suite he hd g.na n1 n2) (hyes rfl a g.na)) (fun f s6 q => ?_) fun _ _ z => False.elim z
      match f, q with
      | .next, ⟨_, _, S, q⟩ => exact ⟨_, _, S.unsuite ok, q⟩
      | .brk, ⟨_, _, S, q⟩ => exact ⟨_, _, S.unsuite ok, q⟩
      | .cont, ⟨_, _, S, q⟩ => exact ⟨_, _, S.unsuite ok, q⟩
      | .ret _, ⟨_, _, _, S, r6, q⟩ => exact ⟨_, _, _, S.unsuite ok, r6, q⟩
  | @named x n i c ts b₀ suite np pos' hds2 l2 hc hi hln hsu r ih =>
    rintro ⟨b, hb, hno, hyes⟩
    refine wpAny_handleBy_cons (codeAny_handlers_test (clause_ask g hf hc hb ?_)) (by intro z; cases z)
    cases b with
    | false => exact ih (hno rfl)
    | true =>
      refine codeAny_handlers_suite_as (HandSPX.lands_againZ g.fl fun h4 fl4 up4 => ?_)
      have g4 := g.on fl4 up4
      obtain ⟨oe, vs, he, hz, hd, n1, n2⟩ := g4.ob hf
      refine store_ok (X := X.suite a ((a, oe) :: (X.pn ++ pins))) (v := .ref a) (g4.now.suite he hd g.na n1 n2) hN hi (.inl hln) rfl (fun s5 S5 => ?_) (.inr hln)
      refine wpAny_mono ((hsu a oe cls d (X.pn ++ pins) hz ⟨_, hd⟩).run [] s5 _ H _ S5 (hyes rfl a g.na)) (fun f s6 q => ?_) fun _ _ z => False.elim z
      have goes : ∀ {σ6 : L2.St} {H6 : Hp} {P : Shared → Prop}, Inv (X.suite a ((a, oe) :: (X.pn ++ pins))) [] σ6 H6 s6 → (∀ s7, Inv X pins (σ6.set i none) H6 s7 → P s7) → wpAny (model X.prog X.w) X.A (do bindName X.env n .none; unbindBehindTheSuite X.env n pos') (fun _ s7 => P s7) X.xe s6 :=
        fun S6 hq => gone_ok (S6.unsuite ok) hN hi hln hq
      match f, q with
      | .next, ⟨_, _, S, q⟩ => exact goes S fun s7 J => ⟨_, _, J, q⟩
      | .brk, ⟨_, _, S, q⟩ => exact goes S fun s7 J => ⟨_, _, J, q⟩
      | .cont, ⟨_, _, S, q⟩ => exact goes S fun s7 J => ⟨_, _, J, q⟩
      | .ret _, ⟨_, _, _, S, r6, q⟩ => exact goes S fun s7 J => ⟨_, _, _, J, r6, q⟩
variable {body : List Stmt} {h₀ : ExceptHandler} {hds : List ExceptHandler} {l : List Cls3} {pos : Pos} {tb : WX → TS} {Wout : WX}
/-- THE RULE -/
theorem ps_tryC (hs : X.stack = X.env :: X.outer) (hf : X.env.frame = some X.env.locals) (hN : X.N.Nodup) (tk : L2N.Takes X Wout)
    (hb : ∀ (W : WX) (pn : List (Addr × Obj)) (xe : Value → Shared → Prop), (∀ q ∈ X.pn, q ∈ pn) → L2N.Takes (X.tr pn xe) W → PassesOwn (model X.prog X.w) X.A X.env xe → PSs (X.tr pn xe) body (tb W))
    (hh : ClOk X (h₀ :: hds) l) : PS X (.Try body (h₀ :: hds) [] [] pos) (fun D σ H => tb (wCl X.K Wout D l) D σ H) := by
  refine ⟨fun pins s σ H D I h => wpAny_Try_except ?_⟩
  have ok := I.ok
  refine wpAny_mono ((hb (wCl X.K Wout D l) (X.pn ++ pins) _ (fun q hq => List.mem_append_left _ hq) (fun u s2 xx => ?_) PassesOwn.looking).run [] s σ H D (I.toTry _) h) (fun f s1 q => ?_) fun e s1 he => he
  · exact grd_of ok hs hf xx fun a cls d σ2 H2 B sI s3 e g w => by
      subst e
      exact clauses ok hN g hs hf tk hh w
  · match f, q with
    | .next, ⟨_, _, J, q⟩ => exact wpAny_execs_nil ⟨_, _, J.ofTry ok, q⟩
    | .brk, ⟨_, _, J, q⟩ => exact ⟨_, _, J.ofTry ok, q⟩
    | .cont, ⟨_, _, J, q⟩ => exact ⟨_, _, J.ofTry ok, q⟩
    | .ret _, ⟨_, _, _, J, r, q⟩ => exact ⟨_, _, _, J.ofTry ok, r, q⟩
end
theorem takes_no {X : Cx} : L2N.Takes X (fun _ _ _ _ => False) := fun _ _ ⟨_, _, _, _, _, _, _, _, _, _, _, _, _, _, _, _, w⟩ => w.elim
end XT
set_option maxHeartbeats 4000000
namespace XV
open PySem PySem.Spec PyProof.Rows L2 HM XS
open L2N (Zn)
/-! ### small data: what repr can show -/
structure SmD (n : Nat) (d : PyData) : Prop where
  sh : d.showable = true
  nd : d.hasDict = false
  dp : d.depth ≤ 60
  lv : d.leavesShort 100 = true
  bk : d.bulk ≤ n
theorem SmD.len {n : Nat} {d : PyData} (s : SmD n d) : d.shown.length ≤ 102 * n + 100 := by
  have h := PyData.shown_le_bulk 100 (by decide) d s.lv
  have h2 := Nat.mul_le_mul_left 102 s.bk
  omega
section
variable {X : Cx}
/-- {x!r}, x a list or a tuple of data -/
def tFmtD (K : PySem.W.Frag) (te : TE) : TE := fun σ H Q => te σ H fun x H1 => ∃ (a : Addr) (d : PyData), x = .ref a ∧ Dp K H1 (.ref a) d ∧ SmD 10000 d ∧ Q (.str d.shown) H1
theorem pe_fmtD {e : Expr} {te : TE} {pos : Pos} {k : Nat} (hr : Room k X.A) (hg : X.A.guards = some []) (he : PE X e te) : PE X (.FormattedValue e 114 none pos) (tFmtD X.K te) := by
  refine ⟨fun pins s σ H Q I h => wpAny_FormattedValue_repr (thn (he.run pins s σ H _ I h) fun v s1 hv => ?_)⟩
  obtain ⟨x, H1, I1, r1, a, d, rfl, hd, sm, q⟩ := hv
  obtain ⟨as, rd⟩ := Dp.reads I1 d _ _ hd r1
  cases r1
  have := hr.un
  have := sm.dp
  have hl : d.shown.length ≤ sizeLine := Nat.le_trans sm.len (by decide)
  refine pyReprObj_of_reads rd sm.sh (fun z => by rw [sm.nd] at z; cases z) hg (by omega) (fun _ _ e => e) (fun h' u tk kp => ?_) hl
  exact wpAny_formatField_str ⟨.str d.shown, H1, (I1.kept (t' := 0) kp).tok _, ⟨_, rfl⟩, q⟩ ⟨.str d.shown, H1, (I1.kept (t' := 0) kp).tok _, ⟨_, rfl⟩, q⟩ hl
end
/-! ### an own exception with a written __init__, made -/
theorem guards_make {A : Around} {C : Addr} {us : List Value} {kw : List (Str × Value)} (h : A.guards = some []) : (A.under (.builtin "type.__call__" ⟨.ref C :: us, kw⟩)).guards = some [] := by
  rw [← h]
  rfl
section
variable {X : Cx} {CX : CXT} {x : Str} {C fI : Addr} {k : Nat} {fd : FuncData} {ps : List Str} {sp : Sp} {e : Expr} {es : List Expr} {ta : TA} {p pos : Pos}
/-- C(e, ..): the call, told before its value is put to use -/
theorem mk_run {pins : List (Addr × Obj)} {σ : L2.St} {H1 : Hp} {vs : List V} {us : List Value} {R : Value → Shared → Prop} {s1 : Shared} {Q : Addr → Hp → Prop} (T : OexC X.K C) (iC : PySem.W.findIn X.K (.ref C) "__init__" = some (some (.ref fI))) (tI : PySem.W.typeIn X.K (.ref fI) = some (.type "function"))
    (F1 : FnG X.prog X.w X.K X.mg X.base CX k fI fd ps sp) (hr : Room (k + 1) X.A) (hg : X.A.guards = some []) (hb : Binds X.K fd ps []) (hx : Passes CX X (fun _ _ _ => False)) (I1 : Inv X pins σ H1 s1) (r1 : Vals vs us) (hz : vs.length ≤ 1000)
    (hsp : ∀ a, H1 a = none → sp (.ref a :: vs) (upd H1 a (exo a C none)) (fun v H2 => v = .non ∧ Q a H2) fun _ _ _ => False)
    (fin : ∀ (a : Addr) (hp2 : Heap) (s2 : Shared) (H2 : Hp), s1.heap.objs.size ≤ a → H1 a = none → (∀ b o, s1.heap.get? b = some o → hp2.get? b = some o) → Inv X pins σ (upd H1 a (exo a C none)) { s1 with heap := hp2 } → s2.os = s1.os → AllBare s2.gens →
      Un (frs X.stack) [] (upd H1 a (exo a C none)) H2 hp2 s2.heap → HOk X.prog X.w H2 s2.heap → Q a H2 → R (.ref a) s2) : wpAny (model X.prog X.w) X.A (call (.ref C) us) R X.xe s1 := by
  obtain ⟨nm, q, N, bs, bm, sn, sub, ab, col, dd, k0, k1, k2, k3, k5, hC, hbm⟩ := T.cls
  obtain ⟨hp, g, dr, tk, os⟩ := s1
  have hn : H1 (hp.objs.size + 1) = none := I1.hok.fresh (Nat.le_succ _)
  have hq := hsp (hp.objs.size + 1) hn
  have kk : ∀ b o, hp.get? b = some o → ((hp.push (PySem.W.kdv_tup us)).push (PySem.HandSPX.excO C hp.objs.size)).get? b = some o := fun b o e => Heap.get?_push_of_some _ (Heap.get?_push_of_some _ e)
  have hget : ((hp.push (PySem.W.kdv_tup us)).push (PySem.HandSPX.excO C hp.objs.size)).get? (hp.objs.size + 1) = some (PySem.HandSPX.excO C hp.objs.size) := by heap_get
  have I2 := I1.laid (t' := tk) (a := hp.objs.size + 1) (o := exo (hp.objs.size + 1) C none) (h' := (hp.push (PySem.W.kdv_tup us)).push (PySem.HandSPX.excO C hp.objs.size)) kk (Nat.le_succ _) (exo_ok hget)
  have r2 : Vals (V.ref (hp.objs.size + 1) :: vs) (Value.ref (hp.objs.size + 1) :: us) := .cons rfl r1
  have hl : (Value.ref (hp.objs.size + 1) :: us ++ []).length = ps.length := by
    rw [List.append_nil, ← r2.length]
    exact F1.len _ _ _ _ hq
  have b2 := hb _ (Value.ref (hp.objs.size + 1) :: us) I2.kIn hl
  rw [List.append_nil] at b2
  have hus : us.length ≤ sizeLine := by
    rw [← Paired.length r1, sizeLine_eq]
    omega
  have run := F1.run _ X.stack _ _ ⟨Value.ref (hp.objs.size + 1) :: us, []⟩ _ _ _ (fun _ _ _ => False) (hr.make C us []) (guards_make hg) (I2.env0.make C us []) b2 r2 hq
  refine wpAny_call (PySem.HandSPX.call_own F.excBase_ValueError (fun Y => PySem.HandSPX.refsVE_contains Y bm hbm) (I1.kIn _ _ hC) (PySem.W.looks_findIn I1.kIn iC) (fun self => PySem.W.bind_fn I1.kIn self tI) hus (codeAny_mono run fun r s' h => ?_))
  match r, h with
  | .error er, h => exact hx pins σ _ _ er s' I2 h
  | .ok (.ret u), ⟨v, H2, os2, bare2, un2, hok2, rv, ev, q2⟩ =>
    subst ev
    exact ⟨rv, fin _ _ s' H2 (Nat.le_succ _) hn kk I2 os2 bare2 un2 hok2 q2⟩
/-- C(e, ..) as a value -/
def tMkV (C : Addr) (sp : Sp) (ta : TA) : TE := fun σ H Q => ta σ H fun vs H1 => vs.length ≤ 1000 ∧ ∀ a, H1 a = none → sp (.ref a :: vs) (upd H1 a (exo a C none)) (fun v H2 => v = .non ∧ Q (.ref a) H2) fun _ _ _ => False
theorem pe_mkV (T : OexC X.K C) (iC : PySem.W.findIn X.K (.ref C) "__init__" = some (some (.ref fI))) (tI : PySem.W.typeIn X.K (.ref fI) = some (.type "function"))
    (F1 : FnG X.prog X.w X.K X.mg X.base CX k fI fd ps sp) (hr : Room (k + 1) X.A) (hgd : X.A.guards = some []) (hb : Binds X.K fd ps []) (hx : Passes CX X (fun _ _ _ => False)) (hg : Gl X x) (hm : X.mg x = some (.ref C)) (ha : PA X (e :: es) ta)
    (hdb : (x == ("__debug__" : Str)) = false := by decide) (he : starEach (e :: es) X.env = (false, eval e X.env) :: starEach es X.env := by rfl) (hpl : (backTo pos (starEach es X.env)).any (·.1) = false := by rfl) :
    PE X (.Call (.Name x p) (e :: es) [] pos) (tMkV C sp ta) := by
  refine ⟨fun pins s σ H Q I h => wpAny_Call_Name_kw (ld_glob I hg hm ?_ hdb)⟩
  refine PySem.W.callWith_K (h₀ := X.base) I.ok.mod.kin T.kC (thn (ha.run pos pins s σ H _ I h) fun us s1 ⟨vs, H1, I1, r1, hz, q1⟩ => ⟨I1.kIn, ?_⟩) he hpl
  refine mk_run (Q := fun a H2 => Q (.ref a) H2) T iC tI F1 hr hgd hb hx I1 r1 hz q1 fun a hp2 s2 H2 _ _ _ I2 os2 bare2 un2 hok2 q2 => ?_
  obtain ⟨h2, g2, d2, t2, os'⟩ := s2
  obtain rfl : os' = s1.os := os2
  have J := I2.call (h' := h2) (g' := g2) (d' := d2) (t' := t2) (ch := []) un2 hok2 bare2 (fun b z => absurd z (by simp))
  exact ⟨.ref a, H2, J, rfl, q2⟩
/-- C(e, ..), to be raised -/
def tMkR (C : Addr) (sp : Sp) (ta : TA) : L2.St → Hp → XK → Prop := fun σ H Q => ta σ H fun vs H1 => vs.length ≤ 1000 ∧ ∀ a, H1 a = none → sp (.ref a :: vs) (upd H1 a (exo a C none))
  (fun v H2 => v = .non ∧ ∃ (d : Addr) (fs : List (Str × V)), H2 a = some (exo a C (some d)) ∧ H2 d = some (exd d fs) ∧ H1 d = none ∧ Q (.ref C) (some d) (upd (del H2 a) d (.xd fs))) fun _ _ _ => False
theorem pmk_mkR (T : OexC X.K C) (iC : PySem.W.findIn X.K (.ref C) "__init__" = some (some (.ref fI))) (tI : PySem.W.typeIn X.K (.ref fI) = some (.type "function"))
    (F1 : FnG X.prog X.w X.K X.mg X.base CX k fI fd ps sp) (hr : Room (k + 1) X.A) (hgd : X.A.guards = some []) (hb : Binds X.K fd ps []) (hx : Passes CX X (fun _ _ _ => False)) (hg : Gl X x) (hm : X.mg x = some (.ref C)) (ha : PA X (e :: es) ta)
    (hdb : (x == ("__debug__" : Str)) = false := by decide) (he : starEach (e :: es) X.env = (false, eval e X.env) :: starEach es X.env := by rfl) (hpl : (backTo pos (starEach es X.env)).any (·.1) = false := by rfl) :
    L2N.PMk X (.Call (.Name x p) (e :: es) [] pos) (tMkR C sp ta) := by
  intro pins s σ H Q I h
  refine wpAny_Call_Name_kw (ld_glob I hg hm ?_ hdb)
  refine PySem.W.callWith_K (h₀ := X.base) I.ok.mod.kin T.kC (thn (ha.run pos pins s σ H _ I h) fun us s1 ⟨vs, H1, I1, r1, hz, q1⟩ => ⟨I1.kIn, ?_⟩) he hpl
  refine mk_run (Q := fun a H2 => ∃ (d : Addr) (fs : List (Str × V)), H2 a = some (exo a C (some d)) ∧ H2 d = some (exd d fs) ∧ H1 d = none ∧ Q (.ref C) (some d) (upd (del H2 a) d (.xd fs))) T iC tI F1 hr hgd hb hx I1 r1 hz q1 fun a hp2 s2 H2 sz _ kk I2 os2 bare2 un2 hok2 q2 => ?_
  obtain ⟨d, fs, ea, ed, hd1, q3⟩ := q2
  obtain ⟨h2, g2, d2, t2, os'⟩ := s2
  obtain ⟨hp, g, dr, tk, os⟩ := s1
  obtain ⟨t0, G, J, kG, ge, hoe, na⟩ := mk_end0 (d2 := d2) (t2 := t2) I1 sz kk un2 hok2 os2 bare2 ea ed hd1
  exact ⟨a, _, _, ⟨G, g2, d2, t2, os'⟩, _, .ref C, some d, rfl, J, kG, ge, hoe, ⟨rfl, rfl, fun vs hv => by cases hv; rfl⟩, rfl, rfl, na, rfl, bare2, raises_own T.exC T.tyC, q3⟩
end
end XV
set_option maxHeartbeats 4000000
namespace XV
open PySem PySem.Spec PyProof.Rows L2 HM XS L2H
open L2N (Zn)
/-! ### isinstance of an exception -/
/-- an exception of the class at D stands at a, tracked: without a dict, or with one -/
def ExAt (H : Hp) (a D : Addr) : Prop := H a = some (ExO (.ref D) a) ∨ ∃ (dx : Addr) (fs : List (Str × V)), H a = some (exo a D (some dx)) ∧ H dx = some (exd dx fs)
section
variable {X : Cx} {pins : List (Addr × Obj)} {σ : L2.St} {H : Hp} {s : Shared}
theorem exd_obj {P : Program} {w : World} {h : Heap} {dx : Addr} {fs : List (Str × V)} (hok : HOk P w H h) (e : H dx = some (exd dx fs)) : ∃ o, h.get? dx = some o := by
  obtain ⟨mA, ⟨o, _, _, ho, _⟩, _⟩ := exd_at hok e
  exact ⟨o, ho⟩
theorem inst_of (I : Inv X pins σ H s) {a D : Addr} (h : ExAt H a D) : ∃ (ox : Obj) (od : Option Obj), PySem.W.InstAt s.heap a ox D od := by
  rcases h with h | ⟨dx, fs, h, hd⟩
  · obtain ⟨⟨oe, vs, e, z, d, _⟩, _, _⟩ := I.hok a _ h
    refine ⟨oe, none, e, z.1, by unfold PySem.W.notCls; rw [d], ?_⟩
    rw [z.2]
    exact True.intro
  · obtain ⟨t1, e⟩ := exo_at I.hok h
    obtain ⟨o, ho⟩ := exd_obj I.hok hd
    exact ⟨_, some o, e, rfl, rfl, ho⟩
def rIsX (K : PySem.W.Frag) : List V → Hp → VK → Prop := fun xs H Q => ∃ (a D : Addr) (c : V) (u : Value) (b : Bool), xs = [.ref a, c] ∧ ExAt H a D ∧ ExcC K D ∧ ClsV c u ∧ PySem.W.kitOne K (.ref D) u = some b ∧ Q (.bl b) H
theorem isX_run {a D : Addr} {ox : Obj} {od : Option Obj} {u : Value} {b : Bool} {Q : VK} (I : Inv X pins σ H s) (J : PySem.W.InstAt s.heap a ox D od) (C : ExcC X.K D) (e : PySem.W.kitOne X.K (.ref D) u = some b) (q : Q (.bl b) H) :
    wpAny (model X.prog X.w) X.A (call (.builtin "isinstance") [.ref a, u]) (EP X pins σ Q) X.xe s := by
  have hcl : (PySem.W.clsIn X.K D).isSome = true := by
    obtain ⟨cd, hc, _⟩ := PySem.W.any_some C.hd
    rw [hc]
    rfl
  exact PySem.W.kia_one (PySem.W.kitx_exc hcl C.hg C.hk C.hs C.ha C.hn C.ht C.hm) I.kIn J e (fun z => nomatch z) fun tk => ⟨.bl b, H, I.tok tk, rfl, q⟩
theorem call_isX : CallR X (.builtin "isinstance") (rIsX X.K) := by
  intro pins s σ H xs us Q I r h
  obtain ⟨a, D, c, u, b, rfl, hx, C, hc, e, q⟩ := h
  match us, r with
  | [_, _], .cons r1 (.cons r2 .nil) =>
    cases r1
    have := hc.eq r2
    subst this
    obtain ⟨ox, od, J⟩ := inst_of I hx
    exact isX_run I J C e q
/-- the exception p that is handled: its class, its dict -/
structure PnC (X : Cx) (p : Addr × Obj) (D : Addr) (d : Option Addr) : Prop where
  hot : Hot1 X.A p
  mem : p ∈ X.pn
  z : Zn (.ref D) d p.2
  f : ∃ vs, p.2.data = .fields vs
/-- its dict, where it has one, is tracked -/
def DiOk (H : Hp) (d : Option Addr) : Prop := d = none ∨ ∃ (dd : Addr) (fs : List (Str × V)), d = some dd ∧ H dd = some (.xd fs)
theorem pn_inst {p : Addr × Obj} {D : Addr} {d : Option Addr} (c : PnC X p D d) (I : Inv X pins σ H s) (h : DiOk H d) : ∃ od, PySem.W.InstAt s.heap p.1 p.2 D od := by
  have e := (I.pin p (List.mem_append_left _ c.mem)).1
  obtain ⟨vs, hv⟩ := c.f
  have no : PySem.W.notCls p.2 = true := by
    unfold PySem.W.notCls
    rw [hv]
  rcases h with h | ⟨dd, fs, h, hd⟩
  · refine ⟨none, e, c.z.1, no, ?_⟩
    rw [c.z.2.1, h]
    exact True.intro
  · have hx : ObjOk X.prog X.w H s.heap dd (.xd fs) := I.hok dd _ hd
    obtain ⟨mA, ⟨o, _, _, ho, _⟩, _⟩ := hx
    refine ⟨some o, e, c.z.1, no, ?_⟩
    rw [c.z.2.1, h]
    exact ho
def rIsP (K : PySem.W.Frag) (p : Addr × Obj) (D : Addr) (d : Option Addr) : List V → Hp → VK → Prop := fun xs H Q => ∃ (c : V) (u : Value) (b : Bool), xs = [.ref p.1, c] ∧ DiOk H d ∧ ClsV c u ∧ PySem.W.kitOne K (.ref D) u = some b ∧ Q (.bl b) H
theorem call_isP {p : Addr × Obj} {D : Addr} {d : Option Addr} (c : PnC X p D d) (C : ExcC X.K D) : CallR X (.builtin "isinstance") (rIsP X.K p D d) := by
  intro pins s σ H xs us Q I r h
  obtain ⟨cv, u, b, rfl, hd, hc, e, q⟩ := h
  match us, r with
  | [_, _], .cons r1 (.cons r2 .nil) =>
    cases r1
    have := hc.eq r2
    subst this
    obtain ⟨od, J⟩ := pn_inst c I hd
    exact isX_run I J C e q
/-! ### e.f, e a tracked exception -/
def tXg (K : PySem.W.Frag) (n : Str) (te : TE) : TE := fun σ H Q => te σ H fun x H1 => ∃ (a D dx : Addr) (fs : List (Str × V)) (v : V), x = .ref a ∧ XfC K D ∧ PySem.W.findIn K (.ref D) n = some none ∧ H1 a = some (exo a D (some dx)) ∧ H1 dx = some (exd dx fs) ∧ fs.lookup n = some v ∧ Q v H1
theorem pe_xg {e : Expr} {te : TE} {pos : Pos} {n : Str} (he : PE X e te) (hb : attributeBase e n X.env (eval e X.env) = eval e X.env := by rfl) : PE X (.Attribute e n pos) (tXg X.K n te) := by
  refine ⟨fun pins s σ H Q I h => attr_of hb (thn (he.run pins s σ H _ I h) fun u s1 hh => ?_)⟩
  obtain ⟨x, H1, I1, rx, a, D, dx, fs, v, rfl, T, hno, ha, hd, l, q⟩ := hh
  cases rx
  obtain ⟨t1, e1⟩ := exo_at I1.hok ha
  obtain ⟨mA, hns, hr⟩ := exd_at I1.hok hd
  obtain ⟨od, ho, hl⟩ := lookIn_ns hns
  obtain ⟨u, hu, ru⟩ := RelO.some_of (v := v) (o := mA n) (by rw [← l]; exact hr n)
  have J : PySem.W.InstAt s1.heap a _ D (some od) := ⟨e1, rfl, rfl, ho⟩
  exact HandSPX.exc_get I1.kIn J T.ga T.gg T.exC (PySem.W.findObj_own T.hdC hno rfl (by rw [hl, hu])) (handed_of ru) ⟨v, H1, I1.tok _, ru, q⟩
/-- [..].count(True) -/
def rCntB (K : PySem.W.Frag) : V → List V → Hp → VK → Prop := fun x xs H Q => ∃ (p : Addr) (bs : List Bool) (b : Bool), x = .ref p ∧ xs = [.bl b] ∧ SqL K H p (bs.map V.bl) ∧ Q (.int (bs.count b : Nat)) H
theorem bools_of : ∀ {bs : List Bool} {us : List Value}, Vals (bs.map V.bl) us → us = bs.map Value.bool
  | [], _, .nil => rfl
  | b :: bs, _, .cons r t => by
    rw [bools_of t]
    cases r
    rfl
def eqb (b : Bool) : Value → Bool
  | .bool c => c == b
  | _ => false
theorem eqb_count (b : Bool) : ∀ bs : List Bool, (bs.map Value.bool).countP (eqb b) = bs.count b
  | [] => rfl
  | c :: bs => by
    rw [List.map_cons, List.countP_cons, List.count_cons, eqb_count b bs]
    rfl
theorem mt_countB : MtR X "list.count" (rCntB X.K) := by
  intro pins s σ H x xs v us Q I rx rxs h
  obtain ⟨p, bs, b, rfl, rfl, hs, q⟩ := h
  cases rx
  obtain ⟨u, rfl, ru⟩ := rxs.one
  cases ru
  obtain ⟨its, rv, ⟨⟨cls, dd, data, sl⟩, n, ho, hc, hdn, hd⟩, hlen⟩ := I.list hs
  simp only at hc hd
  subst hc hd
  have hi := bools_of rv
  subst hi
  refine call_meets PySem.F.slot_list_count ⟨_, ho, rfl⟩ PySem.F.entry_list_count (PySem.F.args_list_count_2 _ _) (SeqAt.list_countAt p _ n dd sl (.bool b) (eqb b)) ⟨ho, fun y hy => ?_, ?_⟩
  · have hy2 : y ∈ bs.map Value.bool := by simpa using hy
    obtain ⟨c, _, rfl⟩ := List.mem_map.mp hy2
    exact SeqAt.EqAt.bool_bool c b
  · refine ⟨.int (bs.count b : Nat), H, I.tok _, ⟨s.toks, ?_⟩, q⟩
    show Value.int (((bs.map Value.bool).toArray.toList.countP (eqb b) : Nat) : Int) s.toks = _
    rw [show (bs.map Value.bool).toArray.toList = bs.map Value.bool from rfl, eqb_count]
end
/-! ### calls while an exception is handled, of which the callee is told -/
structure FnQ (P : Program) (w : World) (K : PySem.W.Frag) (mg : Str → Option Value) (base : Heap) (k : Nat) (f : Addr) (fd : FuncData) (ps : List Str) (sp : Addr × Obj → Sp) : Prop where
  len : ∀ p vs H Q E, sp p vs H Q E → vs.length = ps.length
  run : ∀ (A : Around) (outer : List Env) (s : Shared) (H : Hp) (args : Args) (us : List Value) (vs : List V) (Q : VK) (E : XK) (p : Addr × Obj), RoomH k A → Hot1 A p → PinOk outer H s p → Env0 P w K mg base A outer s H → BindsTo s fd args (ps.zip us) → Vals vs us → sp p vs H Q E →
    codeAny (model P w) A (.call (.ref f) args) (CR CX0 outer P w H s Q E) s
section
variable {P : Program} {w : World} {K : PySem.W.Frag} {mg : Str → Option Value} {base : Heap} {k : Nat} {f : Addr} {fd : FuncData} {ps N : List Str} {sp : Addr × Obj → Sp} {x qual : Str} {params : Arguments} {body : List Stmt} {scope : Scope} {dvs : List V} {kws : List (Str × V)}
theorem okQ (F : FunD K x qual params body scope dvs kws f fd) (S : FnScope N ps scope) (len : ∀ p vs H Q E, sp p vs H Q E → vs.length = ps.length)
    (hbody : ∀ (cdv : Value) (A : Around) (outer : List Env) (s : Shared) (H : Hp) (vs : List V) (Q : VK) (E : XK) (p : Addr × Obj), Hot1 A p → RoomH k (A.deeper (envOfC qual scope s.heap.objs.size f cdv)) → sp p vs H Q E →
      ∃ t, PSs (cxH CX0 P w K mg base N qual scope f cdv A outer s H E p).nox body t ∧ t { nx := fun _ H' => Q .non H', rt := Q } (start N vs) H) : FnQ P w K mg base (k + 1) f fd ps sp := by
  obtain ⟨oc, od, dV, kV, doc, pm, an, cdv, ct, osl, rfl, lk, hcd, _, _⟩ := F.ex
  refine ⟨len, fun A outer s H args us vs Q E p hr hot hpin e0 hb r hsp => ?_⟩
  have hK : K.In s.heap := e0.mod.kin.keeps fun b o e => (e0.bs b o e).1
  have hL : s.heap.NoLimit := e0.mod.nolimit.keeps fun b o e => (e0.bs b o e).1
  refine codeAny_call_function hr.depth (hK _ _ lk) rfl S.co S.gen rfl (PySem.W.codeRec_of hK hcd) (hb _ _ _ _ ?_)
  refine wpAny_newFunctionEnv_cells S.kind (fun ⟨n, v⟩ hy => (S.par n (List.of_mem_zip hy).1).elim .inl fun q => .inr ⟨q, PySem.W.cellsFrom_some _ _ _ (.inl q)⟩) fun env he s1 hx => ?_
  subst he
  refine ⟨hL.keeps hx.toInCall.keep, codeAny_func ?_⟩
  obtain ⟨t, ht, hq⟩ := hbody cdv A outer s H vs Q E p hot (hr.deeper _) hsp
  refine wpAny_mono (ht.nox.run [] s1 (start N vs) H _ (inv_startH S hpin e0 (len _ _ _ _ _ hsp) r hx) hq) (fun fl s' hs => ?_) fun e s' hs => hs
  have fin : ∀ {σ' : L2.St} {H' : Hp} {v : V} {u : Value}, Inv (cxH CX0 P w K mg base N qual scope f cdv A outer s H E p) [] σ' H' s' → RelV v u → Q v H' → CE outer P w H s Q u s' := fun {_ H' v _} J rv q => ⟨v, H', J.os, J.bare, J.base, J.hok, rv, q⟩
  match fl, hs with
  | .ret u, ⟨v, σ', H', J, rv, q⟩ => exact fin J rv q
  | .next, ⟨σ', H', J, q⟩ => exact fin (v := V.non) (u := Value.none) J rfl q
  | .brk, ⟨_, _, _, q⟩ => exact q.elim
  | .cont, ⟨_, _, _, q⟩ => exact q.elim
end
section
variable {X : Cx} {k : Nat} {f : Addr} {fd : FuncData} {ps : List Str} {sp : Addr × Obj → Sp} {x : Str} {p : Addr × Obj} {q pos : Pos} {e : Expr} {es : List Expr} {t : TA}
theorem pe_callQ (F : FnQ X.prog X.w X.K X.mg X.base k f fd ps sp) (hr : RoomH k X.A) (hot : Hot1 X.A p) (hp : p ∈ X.pn) (hg : Gl X x) (hm : X.mg x = some (.ref f)) (hk : PySem.W.keepIn X.K (.ref f) = true) (hb : Binds X.K fd ps [])
    (ha : PA X (e :: es) t) (hdb : (x == ("__debug__" : Str)) = false := by decide) (he : starEach (e :: es) X.env = (false, eval e X.env) :: starEach es X.env := by rfl) (hpl : (backTo pos (starEach es X.env)).any (·.1) = false := by rfl) :
    PE X (.Call (.Name x q) (e :: es) [] pos) (tCall (sp p) [] E0 t) := by
  refine ⟨fun pins s σ H Q I h => wpAny_Call_Name_kw (ld_glob I hg hm ?_ hdb)⟩
  refine PySem.W.callWith_K (h₀ := X.base) I.ok.mod.kin hk (thn (ha.run pos pins s σ H _ I h) fun us s1 ⟨vs, H1, I1, r, hsp⟩ => ⟨I1.kIn, ?_⟩) he hpl
  have hsp : sp p (vs ++ []) H1 Q E0 := hsp
  rw [List.append_nil] at hsp
  have b := hb s1 us I1.kIn (by rw [List.append_nil, ← r.length]; exact F.len _ _ _ _ _ hsp)
  rw [List.append_nil] at b
  have P1 := I1.pin p (List.mem_append_left _ hp)
  have hpin : PinOk X.stack H1 s1 p := ⟨P1.1, P1.2.1, fun hm => (List.mem_cons.mp (I1.stkSub p.1 hm)).elim P1.2.2.1 P1.2.2.2.1, P1.2.2.2.2⟩
  refine wpAny_call (codeAny_mono (F.run X.A X.stack s1 H1 ⟨us, []⟩ us vs Q E0 p hr hot hpin I1.env0 b r hsp) fun r s' hq => ?_)
  match r, hq with
  | .error e, hq => exact hq.elim
  | .ok (.ret u), hq => exact I1.after hq
end
end XV
set_option maxHeartbeats 4000000
namespace XH
open PySem PySem.Spec PyProof.Rows L2 HM XS NdefX He
/-! ### what the head tells of classes with a written __init__ that says super().__init__ -/
/-- such an __init__: its class's name, its qualified name, what it is made of -/
structure SupD where
  cls : Str
  qual : Str
  params : Arguments
  body : List Stmt
  scope : Scope
abbrev FnZ : Type := Option (Str × Str × Arguments × FuncBody × Scope × Addr × Addr)
def SupD.f (K : PySem.W.Frag) (s : SupD) : Addr := ma K (ga K s.cls) "__init__"
def fnZ (K : PySem.W.Frag) (f : Addr) : FnZ := match K.lookup f with
  | some ⟨_, _, .func fd, _⟩ => some (fd.name, fd.qualname, fd.params, fd.body, fd.scope, fd.globals, fd.builtins)
  | _ => none
def SupD.val (s : SupD) : FnZ := some (("__init__" : Str), s.qual, s.params, FuncBody.stmts s.body, s.scope, mainGlobals, builtinsNs)
def cellB (K : PySem.W.Frag) (c C : Addr) : Bool := match K.lookup c with
  | some ⟨_, _, .cell (some (.ref D)), _⟩ => decide (D = C)
  | _ => false
theorem cellB_ok {K : PySem.W.Frag} {c C : Addr} (h : cellB K c C = true) : ∃ ob, K.lookup c = some ob ∧ ob.data = .cell (some (.ref C)) := by
  unfold cellB at h
  split at h
  · rename_i oc od D osl e
    have : D = C := of_decide_eq_true h
    subst this
    exact ⟨_, e, rfl⟩
  · cases h
def fileB (K : PySem.W.Frag) (c : Addr) (file : Str) : Bool := match K.lookup c with
  | some ⟨_, _, .fields vs, _⟩ => (match (vs[2]? : Option Value) with
    | some (.str fl _) => file == fl
    | _ => false)
  | _ => false
theorem fileB_ok {K : PySem.W.Frag} {c : Addr} {file : Str} (h : fileB K c file = true) : ∃ (ob : Obj) (vs : Array Value) (fl : Str) (tf : Tok), K.lookup c = some ob ∧ ob.data = .fields vs ∧ vs[2]? = some (.str fl tf) ∧ (file == fl) = true := by
  unfold fileB at h
  split at h
  · rename_i oc od vs osl e
    split at h
    · rename_i fl tf e2
      exact ⟨_, vs, fl, tf, e, rfl, e2, h⟩
    · cases h
  · cases h
def supB (K : PySem.W.Frag) (file : Str) (s : SupD) : Bool := PySem.W.keepIn K (.ref (s.f K)) && match K.lookup (s.f K) with
  | some ⟨_, _, .func fd, _⟩ => (match fd.closure, fd.defaults, fd.kwdefaults, fd.annotations, fd.code with
    | [(y, c)], .none, .none, none, .ref cc => decide (y = "__class__") && (cellB K c (ga K s.cls) && (PySem.W.codeIn K (.ref cc) s.qual && fileB K cc file))
    | _, _, _, _, _ => false)
  | _ => false
theorem supF_of {K : PySem.W.Frag} {prog : Program} {s : SupD} (h : supB K prog.main.file s = true) (e : fnZ K (s.f K) = s.val) :
    ∃ (cl : List (Str × Addr)) (c : Addr) (fd : FuncData), SupF K prog (ga K s.cls) (s.f K) ⟨"__init__", s.qual, s.params, s.body, s.scope, cl, c⟩ fd := by
  unfold supB at h
  obtain ⟨kp, h⟩ := ba h
  unfold fnZ at e
  split at h
  · rename_i oc od fd osl hk
    rw [hk] at e
    split at h
    · rename_i y c cc h1 h2 h3 h4 h5
      obtain ⟨hy, h⟩ := ba h
      obtain ⟨hc, h⟩ := ba h
      obtain ⟨hq, hf⟩ := ba h
      have hy2 : y = "__class__" := of_decide_eq_true hy
      subst hy2
      obtain ⟨n1, n2, n3, n4, n5, n6, n7, n8, n9, n10, n11, n12, n13, n14, n15⟩ := fd
      dsimp only at h1 h2 h3 h4 h5
      subst h1 h2 h3 h4 h5
      have e2 : (some (n1, n2, n3, n4, n5, n6, n15) : FnZ) = some (("__init__" : Str), s.qual, s.params, FuncBody.stmts s.body, s.scope, mainGlobals, builtinsNs) := e
      simp only [Option.some.injEq, Prod.mk.injEq] at e2
      obtain ⟨z1, z2, z3, z4, z5, z6, z7⟩ := e2
      subst z1 z2 z3 z4 z5 z6 z7
      obtain ⟨ob, k1, k2⟩ := cellB_ok hc
      exact ⟨_, cc, _, ⟨oc, od, osl, n10, n11, n14, rfl, hk⟩, hq, ⟨c, ob, rfl, k1, k2⟩, fileB_ok hf, kp⟩
    · cases h
  · cases h
/-- an exception class over ValueError -/
def oexB (K : PySem.W.Frag) (C : Addr) : Bool := (match K.lookup C with
  | some ⟨.type t, _, .cls cd, sl⟩ => (match cd.mro, sl.toList with
    | .ref D :: bm, [_, _, _, _, some (.builtin n), _] => decide (t = "type") && (decide (D = C) && (decide (n = "ValueError.__new__") && (!cd.hasDel && (cd.hasDict && HandSPX.refsVE bm))))
    | _, _ => false)
  | _ => false) && (eqO (PySem.W.findIn K (.ref C) "__setattr__") (some (some (.builtin "object.__setattr__"))) && (decide (PySem.W.subIn K (.ref C) (.type "BaseException") = some true) && (decide (PySem.W.typeIn K (.ref C) = some (.type "type")) && PySem.W.keepIn K (.ref C))))
theorem oexB_ok {K : PySem.W.Frag} {C : Addr} (h : oexB K C = true) : OexC K C := by
  obtain ⟨h, h2⟩ := ba h
  obtain ⟨k1, h2⟩ := ba h2
  obtain ⟨k2, h2⟩ := ba h2
  obtain ⟨k3, k4⟩ := ba h2
  refine ⟨?_, eqO_ok k1, of_decide_eq_true k2, of_decide_eq_true k3, k4⟩
  split at h
  · rename_i t dd cd sl hk
    split at h
    · rename_i D bm s0 s1 s2 s3 n s5 hm hs
      obtain ⟨q1, h⟩ := ba h
      obtain ⟨q2, h⟩ := ba h
      obtain ⟨q3, h⟩ := ba h
      obtain ⟨q4, h⟩ := ba h
      obtain ⟨q5, q6⟩ := ba h
      have e1 : t = "type" := of_decide_eq_true q1
      have e2 : D = C := of_decide_eq_true q2
      have e3 : n = "ValueError.__new__" := of_decide_eq_true q3
      subst e1 e2 e3
      obtain ⟨c1, c2, c3, c4, c5, c6, c7, c8, c9, c10, c11⟩ := cd
      dsimp only at hm q4 q5
      have e4 : c11 = false := by simpa using q4
      subst hm e4 q5
      have hsl : sl = #[s0, s1, s2, s3, some (.builtin "ValueError.__new__"), s5] := by
        apply Array.ext'
        rw [hs]
      subst hsl
      exact ⟨_, _, _, _, bm, _, _, _, _, _, s0, s1, s2, s3, s5, hk, q6⟩
    · cases h
  · cases h
def supCB (K : PySem.W.Frag) (C : Addr) : Bool := oexB K C && (eqO (PySem.W.nsIn K cStatics "thirdparty.any") (some none) && (eqO (PySem.W.ks_superIn K C C "__init__") (some (some (.builtin "ValueError.__init__"))) && (decide (PySem.W.subIn K (.ref C) (.type "ValueError") = some true) && decide (PySem.W.subIn K (.ref C) (.ref C) = some true))))
theorem supCB_ok {K : PySem.W.Frag} {C : Addr} (h : supCB K C = true) : SupC K C := by
  obtain ⟨h1, h⟩ := ba h
  obtain ⟨h2, h⟩ := ba h
  obtain ⟨h3, h⟩ := ba h
  obtain ⟨h4, h5⟩ := ba h
  exact ⟨oexB_ok h1, eqO_ok h2, eqO_ok h3, of_decide_eq_true h4, of_decide_eq_true h5⟩
/-- what isinstance asks of an exception's class -/
def excCB (K : PySem.W.Frag) (D : Addr) : Bool := eqO (PySem.W.findIn K (.ref D) "__getattribute__") (some (some (.builtin "BaseException.__getattribute__"))) && (eqO (PySem.W.findIn K (.ref D) "__getattr__") (some none) && (decide (PySem.W.subIn K (.ref D) (.type "BaseException") = some true) && (PySem.W.hasDictIn K D &&
  (eqO (PySem.W.findIn K (.ref D) "__class__") (some (some (.builtin "object.__class__"))) && (eqO (PySem.W.specialIn K (.builtin "object.__class__") "__get__") (some (some (.builtin "getset_descriptor.__get__"))) && (decide (PySem.W.takesIn K (.builtin "object.__class__") = some true) && decide (PySem.W.mroIn K D (.type "object") = some true)))))))
theorem excCB_ok {K : PySem.W.Frag} {D : Addr} (h : excCB K D = true) : ExcC K D := by
  obtain ⟨h1, h⟩ := ba h
  obtain ⟨h2, h⟩ := ba h
  obtain ⟨h3, h⟩ := ba h
  obtain ⟨h4, h⟩ := ba h
  obtain ⟨h5, h⟩ := ba h
  obtain ⟨h6, h⟩ := ba h
  obtain ⟨h7, h8⟩ := ba h
  exact ⟨eqO_ok h1, eqO_ok h2, of_decide_eq_true h3, h4, eqO_ok h5, eqO_ok h6, of_decide_eq_true h7, of_decide_eq_true h8⟩
/-! ### the hook -/
def asY (g : Addr → Option Obj) (n : Nat) : List Addr := asD g n ++ [cStatics]
structure SaysY (file : Str) (fa : List Fa) (fn : List DefD) (sf : List SupD) (tf : List Defn) (ex : PySem.W.Frag → Bool) (h : Heap) (K : PySem.W.Frag) : Prop where
  d : SaysD fa fn K
  more : ex K = true
  sup : ∀ s ∈ sf, supB K file s = true ∧ fnZ K (s.f K) = s.val
  hd : ∀ p ∈ tf, PySem.W.codeHdIn K (cT K p).1 (cT K p).2 = true
  out : ∀ p ∈ tf, K.lookup (cT K p).2 = none
  empty : ∀ p ∈ tf, h.get? (cT K p).2 = some { cls := .none, data := .fields #[] }
abbrev AlY : Type := AlD × Bool × List FnZ
def obsK (file : Str) (fa : List Fa) (fn : List DefD) (sf : List SupD) (tf : List Defn) (ex : PySem.W.Frag → Bool) (g : Addr → Option Obj) (K : PySem.W.Frag) : AlY := (obsD fa fn K, (ex K && (tabsB g tf K && sf.all (supB K file))), sf.map fun s => fnZ K (s.f K))
def obsY (n : Nat) (file : Str) (fa : List Fa) (fn : List DefD) (sf : List SupD) (tf : List Defn) (ex : PySem.W.Frag → Bool) (g : Addr → Option Obj) : AlY := obsK file fa fn sf tf ex g (frT g (asY g n))
def valY (fn : List DefD) (sf : List SupD) : AlY := (valD fn, true, sf.map SupD.val)
theorem saysY_of {n : Nat} {file : Str} {fa : List Fa} {fn : List DefD} {sf : List SupD} {tf : List Defn} {ex : PySem.W.Frag → Bool} {h : Heap} (e : obsY n file fa fn sf tf ex h.get? = valY fn sf) : SaysY file fa fn sf tf ex h (frT h.get? (asY h.get? n)) := by
  have e1 : obsD fa fn (frT h.get? (asY h.get? n)) = valD fn := congrArg (fun z : AlY => z.1) e
  have e2 : (ex (frT h.get? (asY h.get? n)) && (tabsB h.get? tf (frT h.get? (asY h.get? n)) && sf.all (supB (frT h.get? (asY h.get? n)) file))) = true := congrArg (fun z : AlY => z.2.1) e
  have e3 : sf.map (fun s => fnZ (frT h.get? (asY h.get? n)) (s.f (frT h.get? (asY h.get? n)))) = sf.map SupD.val := congrArg (fun z : AlY => z.2.2) e
  obtain ⟨h1, h2⟩ := ba e2
  obtain ⟨h3, h4⟩ := ba h2
  have tab : ∀ p ∈ tf, PySem.W.codeHdIn (frT h.get? (asY h.get? n)) (cT (frT h.get? (asY h.get? n)) p).1 (cT (frT h.get? (asY h.get? n)) p).2 = true ∧ ∃ o, h.get? (cT (frT h.get? (asY h.get? n)) p).2 = some o ∧ emptyTab o = true := fun p hp => by
    obtain ⟨q1, q2⟩ := ba (List.all_eq_true.mp h3 p hp)
    refine ⟨q1, ?_⟩
    cases q : h.get? (cT (frT h.get? (asY h.get? n)) p).2 with
    | none =>
      rw [q] at q2
      cases q2
    | some o =>
      rw [q] at q2
      exact ⟨o, rfl, q2⟩
  refine ⟨e1, h1, fun s hs => ⟨List.all_eq_true.mp h4 s hs, ?_⟩, fun p hp => (tab p hp).1, fun p hp => ?_, fun p hp => ?_⟩
  · exact (List.map_inj_left.mp e3) s hs
  · obtain ⟨_, o, q, z⟩ := tab p hp
    exact frT_none q z
  · obtain ⟨_, o, q, z⟩ := tab p hp
    rw [q, emptyTab_eq z]
def hookY (n : Nat) (file : Str) (fa : List Fa) (fn : List DefD) (sf : List SupD) (tf : List Defn) (ex : PySem.W.Frag → Bool) : PySem.W.Hook where
  α := AlY
  obs := fun s => obsY n file fa fn sf tf ex s.heap.get?
  val := fun _ => valY fn sf
  says := fun _ h => ∃ K : PySem.W.Frag, K.In h ∧ SaysY file fa fn sf tf ex h K
  of := fun _ _ e => ⟨_, frT_in, saysY_of e⟩
  keeps := fun _ _ _ ⟨K, hK, c⟩ k => ⟨K, PySem.W.Frag.In.keeps hK k, ⟨c.d, c.more, c.sup, c.hd, c.out, fun p hp => k _ _ (c.empty p hp)⟩⟩
theorem obsY_eq {n : Nat} {file : Str} {fa : List Fa} {fn : List DefD} {sf : List SupD} {tf : List Defn} {ex : PySem.W.Frag → Bool} {g : Addr → Option Obj} {s : Shared} (h : ∀ a, g a = s.heap.get? a) : obsY n file fa fn sf tf ex g = (hookY n file fa fn sf tf ex).obs s := by
  have e : g = s.heap.get? := funext h
  rw [e]
  rfl
end XH
set_option maxHeartbeats 4000000
namespace K15
open PySem PySem.Spec PyProof.Rows L2 HM
def top (i : Nat) : Stmt := PySem.Challenge.pw_halfmade_k15_refusals_made.main.body.getD i (.Pass ⟨0, 0, 0, 0⟩)
abbrev FnP (K : PySem.W.Frag) (x : Str) (st : Stmt) (f : Addr) (fd : FuncData) : Prop := FunD K x x (defArgs st) (defBody st) (defScope st) [] [] f fd
abbrev sAt : Stmt := top 13
abbrev sPot : Stmt := top 14
abbrev sDraw : Stmt := top 15
theorem scAt : FnScope ["_law_script", "_law_k"] ["_law_script", "_law_k"] (defScope sAt) := ⟨rfl, rfl, rfl, by decide +kernel, rfl, by decide +kernel, by decide +kernel⟩
theorem scPot : FnScope ["_law_script", "_law_k", "_law_cell"] ["_law_script", "_law_k"] (defScope sPot) := ⟨rfl, rfl, rfl, by decide +kernel, rfl, by decide +kernel, by decide +kernel⟩
theorem scDraw : FnScope ["_law_pot_here", "_law_many", "_law_digit"] ["_law_pot_here", "_law_many"] (defScope sDraw) := ⟨rfl, rfl, rfl, by decide +kernel, rfl, by decide +kernel, by decide +kernel⟩
section
variable {P : Program} {w : World} {K : PySem.W.Frag} {mg : Str → Option Value} {base : Heap} {f fA : Addr} {fd fdA : FuncData}
/-- the k-th cell, or 0 -/
def spAt (K : PySem.W.Frag) : Sp := fun vs H Q _ => ∃ (a : Addr) (ns : List Int) (k : Nat), vs = [.ref a, .int k] ∧ SqL K H a (ns.map V.int) ∧ Q (.int (ns.getD k 0)) H
theorem ok_at (F : FnP K "_law_at" sAt f fd) (ml : mg "len" = none) : FnOk P w K mg base CX0 1 f fd ["_law_script", "_law_k"] (spAt K) := by
  refine ok_code F scAt (fun vs H Q E h => ?_) (fun cdv A outer s H vs Q E hcd hr h => ?_)
  · obtain ⟨a, ns, k, rfl, _⟩ := h
    rfl
  · obtain ⟨a, ns, k, rfl, hS, q⟩ := h
    refine ⟨_, pss_one (ps_ret (pe_ifExp (pt_cmpR op_lt (pv 1) (pe_callB call_len_seq (by rfl) ml PySem.boot_len (pa_cons (pv 0) pa_nil)) (nomark _)) (pe_ix ix_list (pv 0) (pv 1) (fun _ _ => rfl)) pe_int)), ?_⟩
    refine ⟨_, rfl, _, rfl, a, _, rfl, .inl hS, _, _, rfl, rfl, _, rfl, ?_⟩
    rw [List.length_map]
    refine ite2 (fun e => ?_) (fun e => ?_)
    · have hk : k < ns.length := by
        have := of_decide_eq_true e
        omega
      refine ⟨_, rfl, _, rfl, a, _, _, .int ns[k], rfl, rfl, hS, ?_, ?_⟩
      · exact atI_nat (by rw [List.getElem?_map, List.getElem?_eq_getElem hk]; rfl)
      · rw [List.getD_eq_getElem?_getD, List.getElem?_eq_getElem hk] at q
        exact q
    · have hk : ns.length ≤ k := by
        refine Nat.le_of_not_lt fun z => e (decide_eq_true ?_)
        omega
      rw [List.getD_eq_getElem?_getD, List.getElem?_eq_none hk] at q
      exact q
/-- a pot: what is left of the cell's digits, and the running number -/
structure PotOk (p0 p1 : Int) : Prop where
  h0 : 0 ≤ p0
  h1 : 0 ≤ p1
  h2 : p1 < 2147483648
def PotAt (H : Hp) (l : Addr) : Prop := ∃ p0 p1, H l = some (.lst [.int p0, .int p1]) ∧ PotOk p0 p1
def spPot (K : PySem.W.Frag) : Sp := fun vs H Q _ => ∃ (a : Addr) (ns : List Int) (k : Nat), vs = [.ref a, .int k] ∧ k ≤ 100 ∧ SqL K H a (ns.map V.int) ∧ ∀ l p0 p1, H l = none → PotOk p0 p1 → Q (.ref l) (upd H l (.lst [.int p0, .int p1]))
theorem ok_pot (F : FnP K "_law_pot" sPot f fd) (FA : FnP K "_law_at" sAt fA fdA) (gA : mg "_law_at" = some (.ref fA)) (ml : mg "len" = none) (mm : mg "max" = none) : FnOk P w K mg base CX0 2 f fd ["_law_script", "_law_k"] (spPot K) := by
  have GA : FnOk P w K mg base CX0 1 fA fdA ["_law_script", "_law_k"] (spAt K) := ok_at FA ml
  have bA : Binds K fdA ["_law_script", "_law_k"] [] := FA.bindsN fun _ _ _ _ _ _ us hl => match us, hl with | [_, _], _ => rfl
  refine ok_code F scPot (fun vs H Q E h => ?_) (fun cdv A outer s H vs Q E hcd hr h => ?_)
  · obtain ⟨a, ns, k, rfl, _⟩ := h
    rfl
  · obtain ⟨a, ns, k, rfl, hk, hS, q⟩ := h
    refine ⟨_, pss_cons (ps_set (i := 2) scPot.nd rfl (.inl rfl) (pe_call GA hr (by rfl) gA FA.kp bA .nil pass0 (pa_cons (pv 0) (pa_cons (pv 1) pa_nil))))
      (pss_one (ps_ret (pe_lst (pa_cons (pe_callB (call_max2 rfl) (by rfl) mm (by decide +kernel) (pa_cons pe_int (pa_cons (pe_op op_sub (pv 2) (pe_op op_pow pe_int pe_int)) pa_nil)))
        (pa_cons (pe_op op_add (pe_op op_mod (pe_op op_pow (pe_op op_add (pe_op op_mod (pv 2) pe_int) (pe_op op_mul pe_int (pe_op op_add (pv 1) pe_int))) pe_int) pe_int) pe_int) pa_nil))))), ?_⟩
    refine ⟨_, rfl, _, rfl, a, ns, k, rfl, hS, ?_⟩
    have hm := Int.emod_nonneg (ns.getD k 0) (show (2147483629 : Int) ≠ 0 by decide)
    have hm2 := Int.emod_lt_of_pos (ns.getD k 0) (show (0 : Int) < 2147483629 by decide)
    refine ⟨_, rfl, 10, 18, rfl, rfl, ⟨by decide, by decide, by decide⟩, _, _, rfl, rfl, _, _, rfl, ?_⟩
    refine ⟨_, rfl, _, _, rfl, rfl, (by show (0 : Int) < 2147483629; decide), _, rfl, _, _, rfl, rfl, _, _, rfl, rfl, .inl ⟨by decide, by decide⟩, _, _, rfl, rfl, _, _, rfl, rfl, ⟨by decide, by decide, ?_⟩, _, _, rfl, rfl, (by show (0 : Int) < 2147483563; decide), _, _, rfl, rfl, (by show 2 ≤ sizeLine; decide), fun p hp => q p _ _ hp ⟨?_, ?_, ?_⟩⟩
    · have e : ((ns.getD k 0 % 2147483629 + 40503 * ((k : Int) + 1)).natAbs : Int) < 2 ^ 64 := by omega
      omega
    · split <;> omega
    · have := Int.emod_nonneg ((ns.getD k 0 % 2147483629 + 40503 * ((k : Int) + 1)) ^ (3 : Int).toNat) (show (2147483563 : Int) ≠ 0 by decide)
      omega
    · have := Int.emod_lt_of_pos ((ns.getD k 0 % 2147483629 + 40503 * ((k : Int) + 1)) ^ (3 : Int).toNat) (show (0 : Int) < 2147483563 by decide)
      omega
/-- a draw: some number below many; the pot goes on -/
def spDraw : Sp := fun vs H Q _ => ∃ (l : Addr) (many p0 p1 : Int), vs = [.ref l, .int many] ∧ 0 < many ∧ many < 1073741824 ∧ H l = some (.lst [.int p0, .int p1]) ∧ PotOk p0 p1 ∧
  ∀ H' d, (∀ b o, H b = some o → b ≠ l → H' b = some o) → PotAt H' l → 0 ≤ d → d < many → Q (.int d) H'
theorem ok_draw (F : FnP K "_law_draw" sDraw f fd) (md : mg "divmod" = none) : FnOk P w K mg base CX0 1 f fd ["_law_pot_here", "_law_many"] spDraw := by
  refine ok_code F scDraw (fun vs H Q E h => ?_) (fun cdv A outer s H vs Q E hcd hr h => ?_)
  · obtain ⟨l, many, p0, p1, rfl, _⟩ := h
    rfl
  · obtain ⟨l, many, p0, p1, rfl, hm0, hm1, hl, ⟨h0, h1, h2⟩, q⟩ := h
    refine ⟨_, pss_cons (ps_if (pt_cmpR op_gt (pe_ix ix_list (pv 0) pe_int (fun _ _ => rfl)) pe_int (nomark _))
        (pss_cons (ps_asg (pe_callB call_divmod (by rfl) md (by decide +kernel) (pa_cons (pe_ix ix_list (pv 0) pe_int (fun _ _ => rfl)) (pa_cons (pv 1) pa_nil)))
            (pg_tup (by rfl) (pgs_cons (pg_sub (pv 0) pe_int set_list) (pgs_cons (pg_name (i := 2) scDraw.nd rfl (.inl rfl)) pgs_nil))))
          (pss_one (ps_ret (pv 2)))) pss_nil)
      (pss_cons (ps_asg (pe_op op_mod (pe_op op_add (pe_op op_mul (pe_ix ix_list (pv 0) pe_int (fun _ _ => rfl)) pe_int) pe_int) pe_int) (pg_sub (pv 0) pe_int set_list))
      (pss_one (ps_ret (pe_op op_mod (pe_op op_fdiv (pe_op op_mod (pe_op op_mul (pe_ix ix_list (pv 0) pe_int (fun _ _ => rfl)) (pe_ix ix_list (pv 0) pe_int (fun _ _ => rfl))) pe_int) pe_int) (pv 1))))), ?_⟩
    have g0 : atI [V.int p0, V.int p1] 0 = some (.int p0) := rfl
    have g1 : atI [V.int p0, V.int p1] 1 = some (.int p1) := rfl
    refine ⟨_, rfl, l, _, 0, _, rfl, rfl, SqL.of hl, g0, _, _, rfl, rfl, _, rfl, ite2 (fun e => ?_) (fun e => ?_)⟩
    · refine ⟨_, rfl, l, _, 0, _, rfl, rfl, SqL.of hl, g0, _, rfl, p0, many, rfl, ⟨hm0, hm1⟩, fun T hT => ?_⟩
      have nl : l ≠ T := ne_of_none hl hT
      refine ⟨T, _, rfl, SqT.of upd_same, rfl, _, _, rfl, _, rfl, l, _, 0, 0, rfl, rfl, (by rw [upd_ne nl]; exact hl), rfl, _, _, rfl, rfl, ?_⟩
      refine ⟨_, rfl, q _ _ (fun b o e nb => ?_) ⟨p0 / many, p1, upd_same, ⟨Int.ediv_nonneg h0 (by omega), h1, h2⟩⟩ (Int.emod_nonneg _ (by omega)) (Int.emod_lt_of_pos _ hm0)⟩
      rw [upd_ne nb, upd_ne (ne_of_none e hT)]
      exact e
    · have e5 := Int.emod_nonneg (p1 * 39373 + 7919) (show (2147483629 : Int) ≠ 0 by decide)
      have e6 := Int.emod_lt_of_pos (p1 * 39373 + 7919) (show (0 : Int) < 2147483629 by decide)
      refine ⟨_, rfl, l, _, 1, _, rfl, rfl, SqL.of hl, g1, _, _, rfl, rfl, .inl ⟨by omega, by omega⟩, _, _, rfl, rfl, _, _, rfl, rfl, (by show (0 : Int) < 2147483629; decide), _, rfl, l, _, 1, 1, rfl, rfl, hl, rfl, ?_⟩
      have g2 : atI [V.int p0, V.int ((p1 * 39373 + 7919) % 2147483629)] 1 = some (.int ((p1 * 39373 + 7919) % 2147483629)) := rfl
      refine ⟨_, rfl, l, _, 1, _, rfl, rfl, SqL.of upd_same, g2, _, rfl, l, _, 1, _, rfl, rfl, SqL.of upd_same, g2, _, _, rfl, rfl, .inl ⟨by omega, by omega⟩, _, _, rfl, rfl, (by show (0 : Int) < 2147483587; decide), _, _, rfl, rfl, ⟨by decide, by decide⟩, _, rfl, _, _, rfl, rfl, hm0, ?_⟩
      exact q _ _ (fun b o e nb => by rw [upd_ne nb]; exact e) ⟨p0, _, upd_same, ⟨h0, e5, by omega⟩⟩ (Int.emod_nonneg _ (by omega)) (Int.emod_lt_of_pos _ hm0)
end
end K15
set_option maxHeartbeats 4000000
namespace K15
open PySem PySem.Spec PyProof.Rows L2 HM
/-! ### heaps that go on but for a pot -/
def Ch (l : Addr) (H H' : Hp) : Prop := ∀ b o, H b = some o → b ≠ l → H' b = some o
theorem Ch.refl (l : Addr) (H : Hp) : Ch l H H := fun _ _ e _ => e
theorem Ch.trans {l : Addr} {H H1 H2 : Hp} (a : Ch l H H1) (b : Ch l H1 H2) : Ch l H H2 := fun c o e n => b c o (a c o e n) n
theorem Ch.new {l : Addr} {H : Hp} {p : Addr} {o : HO} (h : H p = none) : Ch l H (upd H p o) := fun b u e _ => by
  rw [upd_ne (ne_of_none e h)]
  exact e
/-- a new thing is changed -/
theorem Ch.over {l : Addr} {H H1 : Hp} {p : Addr} {o : HO} (a : Ch l H H1) (h : H p = none) : Ch l H (upd H1 p o) := fun b u e n => by
  rw [upd_ne (ne_of_none e h)]
  exact a b u e n
theorem Ch.free {l : Addr} {H H1 : Hp} {p : Addr} (a : Ch l H H1) (h : H1 p = none) (n : p ≠ l) : H p = none := by
  cases e : H p with
  | none => rfl
  | some o =>
    rw [a p o e n] at h
    cases h
theorem map_snoc {α : Type} (f : α → V) (xs : List α) (x : α) : xs.map f ++ [f x] = (xs ++ [x]).map f := by simp
theorem PotAt.new {l : Addr} {H : Hp} {p : Addr} {o : HO} (h : PotAt H l) (hp : p ≠ l) : PotAt (upd H p o) l := by
  obtain ⟨p0, p1, e, k⟩ := h
  exact ⟨p0, p1, by rw [upd_ne (Ne.symm hp)]; exact e, k⟩
theorem PotAt.ne {l : Addr} {H : Hp} {p : Addr} (h : PotAt H l) (hp : H p = none) : p ≠ l := by
  obtain ⟨p0, p1, e, k⟩ := h
  exact fun z => by
    rw [z, e] at hp
    cases hp
theorem draw_of {l : Addr} {H : Hp} {many : Int} {Q : VK} {E : XK} (hP : PotAt H l) (h0 : 0 < many) (h1 : many < 1073741824) (q : ∀ H' d, Ch l H H' → PotAt H' l → 0 ≤ d → d < many → Q (.int d) H') : spDraw ([.ref l, .int many] ++ []) H Q E := by
  obtain ⟨p0, p1, e, k⟩ := hP
  exact ⟨l, many, p0, p1, rfl, h0, h1, e, k, q⟩
theorem len_join (a : Str) (ys : List Str) : (Txt.join a ys).length ≤ (ys.map (·.length)).sum + ys.length * a.length := by
  rw [TL.join_eq]
  exact StrLaws.join_length_le a ys
theorem str_len (x y : Str) : (x ++ y).length = x.length + y.length := strLen_append x y
/-! ### signs that a text may have -/
def okS (z : Str) : Prop := ∀ c ∈ z.cps.toList, c < 1114112
theorem okS_cut {z : Str} (h : okS z) (lo hi : Option Int) : okS (cutS z lo hi) := fun c hc => h c (List.mem_of_mem_drop (List.mem_of_mem_take hc))
theorem okS_app {x y : Str} (hx : okS x) (hy : okS y) : okS (x ++ y) := fun c hc => by
  have e : (x ++ y).cps.toList = x.cps.toList ++ y.cps.toList := TL.tl_append x y
  rw [e] at hc
  rcases List.mem_append.mp hc with z | z
  · exact hx c z
  · exact hy c z
theorem okS_one {c : Nat} (h : c < 1114112) : okS ⟨#[c]⟩ := fun d hd => by
  have e : d = c := by simpa using hd
  rw [e]
  exact h
theorem okS_strJoin {a : Str} (ha : okS a) : ∀ {ys : List Str}, (∀ y ∈ ys, okS y) → okS (Str.join a ys)
  | [], _ => fun c hc => by
    have : c ∈ ([] : List Nat) := hc
    cases this
  | [x], h => h x List.mem_cons_self
  | x :: z :: r, h => okS_app (okS_app (h x List.mem_cons_self) ha) (okS_strJoin ha fun y hy => h y (List.mem_cons_of_mem _ hy))
theorem okS_join {a : Str} (ha : okS a) {ys : List Str} (h : ∀ y ∈ ys, okS y) : okS (Txt.join a ys) := by
  rw [TL.join_eq]
  exact okS_strJoin ha h
abbrev abc : Str := Str.ofString "abcdefghijklmnopqrstuvwxyz"
theorem abc_len : abc.cps.toList.length = 26 := by decide +kernel
/-- the scope of the outer comprehension of the words -/
def lcScope : Expr → Scope
  | .ListComp _ _ sc _ => sc
  | _ => { kind := .function, names := [], isGenerator := false, isCoroutine := false }
def asgVal : Stmt → Expr
  | .Assign _ v _ => v
  | _ => .Constant .none 0 ⟨0, 0, 0, 0⟩
/-- a comprehension's scope within a def's -/
abbrev relab (sc outer : Scope) : Scope := relabel sc (envOfC "" outer 0 0 .none)
/-- sep.join(list) -/
def rJoin (K : PySem.W.Frag) : V → List V → Hp → VK → Prop := fun x xs H Q => ∃ a p, ∃ ys : List Str, x = .str a ∧ xs = [.ref p] ∧ (SqL K H p (ys.map V.str) ∨ SqT K H p (ys.map V.str)) ∧ (ys.map (·.length)).sum + ys.length * a.length ≤ 16777216 ∧ Q (.str (Txt.join a ys)) H
theorem sum_ones : ∀ (ws : List Str), (∀ z ∈ ws, z.length = 1 ∧ okS z) → (ws.map (·.length)).sum = ws.length
  | [], _ => rfl
  | z :: ws, h => by
    have h1 := (h z List.mem_cons_self).1
    have h2 := sum_ones ws fun y hy => h y (List.mem_cons_of_mem _ hy)
    rw [List.map_cons, List.sum_cons, List.length_cons]
    omega
end K15
set_option maxHeartbeats 4000000
namespace K15
open PySem PySem.Spec PyProof.Rows L2 HM XV
/-! ### tuples stay -/
def KT (H H' : Hp) : Prop := ∀ b xs, H b = some (.tup xs) → H' b = some (.tup xs)
theorem KT.refl (H : Hp) : KT H H := fun _ _ e => e
theorem KT.trans {H H1 H2 : Hp} (a : KT H H1) (b : KT H1 H2) : KT H H2 := fun c xs e => b c xs (a c xs e)
theorem KT.new {H : Hp} {p : Addr} {o : HO} (h : H p = none) : KT H (upd H p o) := fun b xs e => by
  rw [upd_ne (ne_of_none e h)]
  exact e
theorem KT.of_ch {H H' : Hp} {l : Addr} {ys : List V} (hl : H l = some (.lst ys)) (c : Ch l H H') : KT H H' := fun b xs e => c b _ e fun z => by
  rw [z, hl] at e
  cases e
theorem PotAt.kt {H H' : Hp} {l : Addr} (h : PotAt H l) (c : Ch l H H') : KT H H' := by
  obtain ⟨p0, p1, e, _⟩ := h
  exact KT.of_ch e c
/-! ### roads: tuples of a text and a number -/
inductive RoadT (H : Hp) : List V → List (Str × Int) → Prop
  | nil : RoadT H [] []
  | cons {t : Addr} {z : Str} {n : Int} {xs : List V} {zs : List (Str × Int)} (e : H t = some (.tup [.str z, .int n])) (r : RoadT H xs zs) : RoadT H (.ref t :: xs) ((z, n) :: zs)
theorem RoadT.kt {H H' : Hp} {xs : List V} {zs : List (Str × Int)} (k : KT H H') (h : RoadT H xs zs) : RoadT H' xs zs := by
  induction h with
  | nil => exact .nil
  | cons e r ih => exact .cons (k _ _ e) ih
theorem RoadT.snoc {H : Hp} {t : Addr} {z : Str} {n : Int} (e : H t = some (.tup [.str z, .int n])) {xs : List V} {zs : List (Str × Int)} (h : RoadT H xs zs) : RoadT H (xs ++ [.ref t]) (zs ++ [(z, n)]) := by
  induction h with
  | nil => exact .cons e .nil
  | cons e1 r ih => exact .cons e1 ih
theorem RoadT.len {H : Hp} {xs : List V} {zs : List (Str × Int)} (h : RoadT H xs zs) : xs.length = zs.length := by
  induction h with
  | nil => rfl
  | cons e r ih => rw [List.length_cons, List.length_cons, ih]
abbrev rd (p : Str × Int) : PyData := .tuple [.str p.1, .int p.2]
theorem RoadT.dp {K : PySem.W.Frag} {H : Hp} {xs : List V} {zs : List (Str × Int)} (h : RoadT H xs zs) : DpAll K H xs (zs.map rd) := by
  induction h with
  | nil => exact .nil
  | cons e r ih => exact .cons (.tup (SqT.of e) (.cons (.str _) (.cons (.int _) .nil))) ih
def okN (z : Str) : Prop := z.length ≤ 8 ∧ okS z
def okP (p : Str × Int) : Prop := okN p.1 ∧ 0 ≤ p.2 ∧ p.2 < 100
theorem int_short : ∀ n : Nat, n < 100 → (PyData.shown (.int (n : Int))).length ≤ 100 := by decide +kernel
theorem okS_16 {z : Str} (h : okS z) : z.cps.toList.all (fun c => decide (c < 16 ^ 8)) = true := by
  rw [List.all_eq_true]
  intro c hc
  exact decide_eq_true (Nat.lt_of_lt_of_le (h c hc) (by decide))
theorem okS_ok {z : Str} (h : okS z) : PyData.strOk z = true := by
  unfold PyData.strOk
  rw [← Array.all_toList, List.all_eq_true]
  intro c hc
  exact decide_eq_true (h c hc)
/-- what is asked of data, in one -/
structure DOk (n : Nat) (d : PyData) : Prop where
  sm : SmD n d
  cl : d.canLay0 = true
theorem DOk.shaped {n : Nat} {d : PyData} (h : DOk n d) : SeqAt.shaped d = true := by
  unfold SeqAt.shaped
  rw [h.cl, Bool.true_and]
  have := h.sm.dp
  exact decide_eq_true (by omega)
theorem DOk.mono {n m : Nat} {d : PyData} (h : DOk n d) (k : n ≤ m) : DOk m d := ⟨⟨h.sm.sh, h.sm.nd, h.sm.dp, h.sm.lv, Nat.le_trans h.sm.bk k⟩, h.cl⟩
structure DsOk (n m : Nat) (ds : List PyData) : Prop where
  sh : PyData.showableAll ds = true
  nd : PyData.hasDictAll ds = false
  dp : PyData.depthAll ds ≤ m
  lv : PyData.leavesShortAll 100 ds = true
  bk : PyData.bulkAll ds ≤ n
  cl : PyData.canLayAll0 ds = true
theorem ds_nil (m : Nat) : DsOk 0 m [] := ⟨rfl, rfl, Nat.zero_le _, rfl, Nat.le_refl _, rfl⟩
theorem ds_cons {n k m : Nat} {d : PyData} {ds : List PyData} (h : DOk n d) (hm : d.depth ≤ m) (r : DsOk k m ds) : DsOk (n + 1 + k) m (d :: ds) := by
  refine ⟨?_, ?_, ?_, ?_, ?_, ?_⟩
  · show (d.showable && PyData.showableAll ds) = true
    rw [h.sm.sh, r.sh]
    rfl
  · show (d.hasDict || PyData.hasDictAll ds) = false
    rw [h.sm.nd, r.nd]
    rfl
  · show max d.depth (PyData.depthAll ds) ≤ m
    exact Nat.max_le.mpr ⟨hm, r.dp⟩
  · show (PyData.leavesShort 100 d && PyData.leavesShortAll 100 ds) = true
    rw [h.sm.lv, r.lv]
    rfl
  · show PyData.bulk d + 1 + PyData.bulkAll ds ≤ _
    have := h.sm.bk
    have := r.bk
    omega
  · show (PyData.canLay0 d && PyData.canLayAll0 ds) = true
    rw [h.cl, r.cl]
    rfl
theorem d_tup {n m : Nat} {ds : List PyData} (h : DsOk n m ds) (hm : m < 60) : DOk n (.tuple ds) := ⟨⟨h.sh, h.nd, by
  show PyData.depthAll ds + 1 ≤ 60
  have := h.dp
  omega, h.lv, h.bk⟩, h.cl⟩
theorem d_lst {n m : Nat} {ds : List PyData} (h : DsOk n m ds) (hm : m < 60) : DOk n (.list ds) := ⟨⟨h.sh, h.nd, by
  show PyData.depthAll ds + 1 ≤ 60
  have := h.dp
  omega, h.lv, h.bk⟩, h.cl⟩
theorem d_str {z : Str} (h : okS z) : DOk z.length (.str z) := ⟨⟨rfl, rfl, Nat.zero_le _, okS_16 h, Nat.le_refl _⟩, okS_ok h⟩
theorem d_name {z : Str} (h : okN z) : DOk 8 (.str z) := (d_str h.2).mono h.1
theorem d_int {n : Int} (h0 : 0 ≤ n) (h1 : n < 100) : DOk 0 (.int n) := by
  obtain ⟨k, rfl⟩ : ∃ k : Nat, n = (k : Int) := ⟨n.toNat, by omega⟩
  exact ⟨⟨by show PyData.showable (.int (k : Int)) = true; have : ∀ k : Nat, k < 100 → PyData.showable (.int (k : Int)) = true := by decide +kernel
             exact this k (by omega), rfl, Nat.zero_le _, decide_eq_true (int_short k (by omega)), Nat.le_refl _⟩, rfl⟩
theorem d_rd {p : Str × Int} (h : okP p) : DOk 10 (rd p) := d_tup (m := 0) (n := 10) (ds_cons (d_name h.1) (Nat.le_refl _) (ds_cons (d_int h.2.1 h.2.2) (Nat.le_refl _) (ds_nil 0))) (by decide)
theorem rd_depth (p : Str × Int) : (rd p).depth ≤ 1 := Nat.le_refl _
theorem ds_road : ∀ {zs : List (Str × Int)}, (∀ p ∈ zs, okP p) → DsOk (11 * zs.length) 1 (zs.map rd)
  | [], _ => ds_nil 1
  | p :: zs, h => by
    have r := ds_cons (d_rd (h p List.mem_cons_self)) (rd_depth p) (ds_road fun q hq => h q (List.mem_cons_of_mem _ hq))
    have e : 10 + 1 + 11 * zs.length = 11 * (p :: zs).length := by
      rw [List.length_cons]
      omega
    rw [e] at r
    exact r
theorem ds_strs : ∀ {ss : List Str}, (∀ z ∈ ss, okN z) → DsOk (9 * ss.length) 0 (ss.map PyData.str)
  | [], _ => ds_nil 0
  | z :: ss, h => by
    have r := ds_cons (d_name (h z List.mem_cons_self)) (Nat.le_refl _) (ds_strs fun q hq => h q (List.mem_cons_of_mem _ hq))
    have e : 8 + 1 + 9 * ss.length = 9 * (z :: ss).length := by
      rw [List.length_cons]
      omega
    rw [e] at r
    exact r
/-! ### faults -/
def FltAt (H : Hp) (F : Addr) (d : PyData) : Prop :=
  (∃ ss : List Str, H F = some (.tup (ss.map V.str)) ∧ d = .tuple (ss.map PyData.str) ∧ ss.length ≤ 3 ∧ ∀ z ∈ ss, okN z) ∨
    ∃ (a b c : Str) (T : Addr) (xs : List V) (zs : List (Str × Int)), H F = some (.tup [.str a, .str b, .str c, .ref T]) ∧ H T = some (.tup xs) ∧ RoadT H xs zs ∧ d = .tuple [.str a, .str b, .str c, .tuple (zs.map rd)] ∧ okN a ∧ okN b ∧ okN c ∧ zs.length ≤ 5 ∧ ∀ p ∈ zs, okP p
theorem FltAt.kt {H H' : Hp} {F : Addr} {d : PyData} (k : KT H H') (h : FltAt H F d) : FltAt H' F d := by
  rcases h with ⟨ss, e, r⟩ | ⟨a, b, c, T, xs, zs, e1, e2, r, q⟩
  · exact .inl ⟨ss, k _ _ e, r⟩
  · exact .inr ⟨a, b, c, T, xs, zs, k _ _ e1, k _ _ e2, r.kt k, q⟩
theorem dp_strs {K : PySem.W.Frag} {H : Hp} : ∀ ss : List Str, DpAll K H (ss.map V.str) (ss.map PyData.str)
  | [] => .nil
  | z :: ss => .cons (.str z) (dp_strs ss)
theorem FltAt.dp {K : PySem.W.Frag} {H : Hp} {F : Addr} {d : PyData} (h : FltAt H F d) : Dp K H (.ref F) d := by
  rcases h with ⟨ss, e, rfl, _⟩ | ⟨a, b, c, T, xs, zs, e1, e2, r, rfl, _⟩
  · exact .tup (SqT.of e) (dp_strs ss)
  · exact .tup (SqT.of e1) (.cons (.str _) (.cons (.str _) (.cons (.str _) (.cons (.tup (SqT.of e2) r.dp) .nil))))
theorem FltAt.ok {H : Hp} {F : Addr} {d : PyData} (h : FltAt H F d) : DOk 100 d := by
  rcases h with ⟨ss, e, rfl, hl, hs⟩ | ⟨a, b, c, T, xs, zs, e1, e2, r, rfl, ha, hb, hc, hl, hz⟩
  · exact (d_tup (ds_strs hs) (by decide)).mono (by omega)
  · have hr := ds_road hz
    have ht : DOk (11 * zs.length) (.tuple (zs.map rd)) := d_tup hr (by decide)
    have hd : (PyData.tuple (zs.map rd)).depth ≤ 2 := Nat.succ_le_succ hr.dp
    exact (d_tup (ds_cons (d_name ha) (Nat.zero_le 2) (ds_cons (d_name hb) (Nat.zero_le 2) (ds_cons (d_name hc) (Nat.zero_le 2) (ds_cons ht hd (ds_nil 2))))) (by decide)).mono (by omega)
theorem FltAt.tup {H : Hp} {F : Addr} {d : PyData} (h : FltAt H F d) : ∃ xs, H F = some (.tup xs) := by
  rcases h with ⟨ss, e, _⟩ | ⟨a, b, c, T, xs, zs, e, _⟩
  · exact ⟨_, e⟩
  · exact ⟨_, e⟩
end K15
set_option maxHeartbeats 4000000
namespace K15
open PySem PySem.Spec PyProof.Rows L2 HM XV
abbrev sName : Stmt := top 16
abbrev sRoad : Stmt := top 17
abbrev sFault : Stmt := top 18
theorem scName : FnScope ["_law_pot_here", "_law_k"] ["_law_pot_here"] (defScope sName) := ⟨rfl, rfl, rfl, by decide +kernel, rfl, by decide +kernel, by decide +kernel⟩
theorem scRoad : FnScope ["_law_pot_here", "_law_k"] ["_law_pot_here"] (defScope sRoad) := ⟨rfl, rfl, rfl, by decide +kernel, rfl, by decide +kernel, by decide +kernel⟩
theorem scFault : FnScope ["_law_pot_here", "_law_way"] ["_law_pot_here"] (defScope sFault) := ⟨rfl, rfl, rfl, by decide +kernel, rfl, by decide +kernel, by decide +kernel⟩
section
variable {P : Program} {w : World} {K : PySem.W.Frag} {mg : Str → Option Value} {base : Heap} {f fD fN fR : Addr} {fd fdD fdN fdR : FuncData}
/-- a name: one to eight letters -/
def spNm : Sp := fun vs H Q _ => ∃ l : Addr, vs = [.ref l] ∧ PotAt H l ∧ ∀ H' z, Ch l H H' → PotAt H' l → okN z → Q (.str z) H'
theorem ok_nm (F : FnP K "_law_name" sName f fd) (FD : FnP K "_law_draw" sDraw fD fdD) (gD : mg "_law_draw" = some (.ref fD)) (md : mg "divmod" = none) (mr : mg "range" = none) : FnOk P w K mg base CX0 2 f fd ["_law_pot_here"] spNm := by
  have GD : FnOk P w K mg base CX0 1 fD fdD ["_law_pot_here", "_law_many"] spDraw := ok_draw FD md
  have bD : Binds K fdD ["_law_pot_here", "_law_many"] [] := FD.bindsN fun _ _ _ _ _ _ us hl => match us, hl with | [_, _], _ => rfl
  refine ok_code F scName (fun vs H Q E h => ?_) (fun cdv A outer s H vs Q E hcd hr h => ?_)
  · obtain ⟨l, rfl, _⟩ := h
    rfl
  · obtain ⟨l, rfl, ⟨p0, p1, hl, pk⟩, q⟩ := h
    refine ⟨_, pss_one (ps_ret (pe_join pe_str (by exact (pe_lc (own := [("_law_k", 1)]) (g := gName 1) (tt := tYes) (by rfl) scName.nd
        (pi_range1 (by rfl) mr (pa_cons (pe_op op_add pe_int (pe_call GD hr (by rfl) gD FD.kp bD .nil pass0 (pa_cons (pv 0) (pa_cons pe_int pa_nil)))) pa_nil))
        (blkOk_by (own := [("_law_k", 1)]) (N := ["_law_pot_here", "_law_k"]) (sc := defScope sName) (by decide +kernel)) (fun _ _ _ _ _ => pg_name (i := 1) scName.nd rfl (Or.inl rfl)) (fun _ _ _ _ _ => pts_nil)
        (fun _ _ _ _ _ => pe_ix ix_str pe_str (pe_call GD hr (by rfl) gD FD.kp bD .nil pass0 (pa_cons (pv 0) (pa_cons pe_int pa_nil))) (fun _ _ => rfl)))))), ?_⟩
    refine ⟨⟨_, rfl⟩, _, rfl, l, _, p0, p1, rfl, by decide, by decide, hl, pk, fun H1 nn c1 hP1 n0 n1 => ?_⟩
    refine ⟨_, _, rfl, rfl, _, rfl, by omega, by omega, fun L hL => ?_⟩
    have nL : L ≠ l := hP1.ne hL
    have fL : H L = none := Ch.free c1 hL nL
    refine lc_range (lo := 0) (n := (1 + nn).toNat) (fun i H' => Ch l H H' ∧ PotAt H' l ∧ ∃ cs : List Str, cs.length = i ∧ (∀ z ∈ cs, z.length = 1 ∧ okS z) ∧ H' L = some (.lst (cs.map V.str)))
      ⟨Ch.over c1 fL, hP1.new nL, [], rfl, fun x hx => (by cases hx), upd_same⟩ ?_ ?_
    · rintro i H2 hi ⟨k2, ⟨q0, q1, hl2, pk2⟩, cs, e1, e2, e3⟩
      refine ⟨rfl, _, rfl, l, _, q0, q1, rfl, by decide, by decide, hl2, pk2, fun H3 d c3 hP3 d0 d1 => ?_⟩
      obtain ⟨dn, rfl⟩ : ∃ n : Nat, d = (n : Int) := ⟨d.toNat, by omega⟩
      have hdn : dn < abc.cps.toList.length := by
        rw [abc_len]
        omega
      refine ⟨_, _, abc.cps.toList[dn], rfl, rfl, by decide +kernel, atI_nat (List.getElem?_eq_getElem hdn), cs.map V.str, c3 L _ e3 nL, ?_, Ch.over (Ch.trans k2 c3) fL, hP3.new nL, cs ++ [⟨#[abc.cps.toList[dn]]⟩], ?_, ?_, ?_⟩
      · rw [List.length_map, e1]
        exact small1000 (by omega)
      · rw [List.length_append, e1]
        rfl
      · intro x hx
        rcases List.mem_append.mp hx with z | z
        · exact e2 x z
        · rw [List.mem_singleton.mp z]
          refine ⟨rfl, okS_one ?_⟩
          have h : ∀ d ∈ abc.cps.toList, d < 1114112 := by decide +kernel
          exact h _ (List.getElem_mem hdn)
      · rw [upd_same]
        exact congrArg (fun z => some (HO.lst z)) (map_snoc V.str cs _)
    · rintro H2 ⟨k2, hP2, cs, e1, e2, e3⟩
      have hs := sum_ones cs e2
      have hz : (Str.ofString "").length = 0 := by decide +kernel
      have hj := len_join "" cs
      rw [hz, Nat.mul_zero, hs, e1] at hj
      refine ⟨_, L, cs, rfl, rfl, .inl (SqL.of e3), ?_, q H2 _ k2 hP2 ⟨by omega, okS_join (by unfold okS; decide +kernel) fun y hy => (e2 y hy).2⟩⟩
      rw [hz, hs, e1]
      omega
/-- a road: up to four tuples of a name and a number below 40 -/
def spRd : Sp := fun vs H Q _ => ∃ l : Addr, vs = [.ref l] ∧ PotAt H l ∧ ∀ H' R xs zs, Ch l H H' → PotAt H' l → H R = none → H' R = some (.lst xs) → RoadT H' xs zs → zs.length ≤ 4 → (∀ p ∈ zs, okP p) → Q (.ref R) H'
theorem ok_rd (F : FnP K "_law_road" sRoad f fd) (FD : FnP K "_law_draw" sDraw fD fdD) (gD : mg "_law_draw" = some (.ref fD)) (FN : FnP K "_law_name" sName fN fdN) (gN : mg "_law_name" = some (.ref fN)) (md : mg "divmod" = none) (mr : mg "range" = none) : FnOk P w K mg base CX0 3 f fd ["_law_pot_here"] spRd := by
  have GD : FnOk P w K mg base CX0 1 fD fdD ["_law_pot_here", "_law_many"] spDraw := ok_draw FD md
  have bD : Binds K fdD ["_law_pot_here", "_law_many"] [] := FD.bindsN fun _ _ _ _ _ _ us hl => match us, hl with | [_, _], _ => rfl
  have GN : FnOk P w K mg base CX0 2 fN fdN ["_law_pot_here"] spNm := ok_nm FN FD gD md mr
  have bN : Binds K fdN ["_law_pot_here"] [] := FN.bindsN fun _ _ _ _ _ _ us hl => match us, hl with | [_], _ => rfl
  refine ok_code F scRoad (fun vs H Q E h => ?_) (fun cdv A outer s H vs Q E hcd hr h => ?_)
  · obtain ⟨l, rfl, _⟩ := h
    rfl
  · obtain ⟨l, rfl, ⟨p0, p1, hl, pk⟩, q⟩ := h
    have hr1 : Room 1 (A.deeper (envOfC "_law_road" (defScope sRoad) s.heap.objs.size f cdv)) := hr.mono (by decide)
    refine ⟨_, pss_one (ps_ret (pe_lc (own := [("_law_k", 1)]) (g := gName 1) (tt := tYes) (by rfl) scRoad.nd
        (pi_range1 (by rfl) mr (pa_cons (pe_call GD hr1 (by rfl) gD FD.kp bD .nil pass0 (pa_cons (pv 0) (pa_cons pe_int pa_nil))) pa_nil))
        (blkOk_by (own := [("_law_k", 1)]) (N := ["_law_pot_here", "_law_k"]) (sc := defScope sRoad) (by decide +kernel)) (fun _ _ _ _ _ => pg_name (i := 1) scRoad.nd rfl (Or.inl rfl)) (fun _ _ _ _ _ => pts_nil)
        (fun _ _ _ _ _ => pe_tup (pa_cons (pe_call GN hr (by rfl) gN FN.kp bN .nil pass0 (pa_cons (pv 0) pa_nil)) (pa_cons (pe_call GD hr1 (by rfl) gD FD.kp bD .nil pass0 (pa_cons (pv 0) (pa_cons pe_int pa_nil))) pa_nil))))), ?_⟩
    refine ⟨_, rfl, l, _, p0, p1, rfl, by decide, by decide, hl, pk, fun H1 nn c1 hP1 n0 n1 => ?_⟩
    refine ⟨_, rfl, by omega, by omega, fun L hL => ?_⟩
    have nL : L ≠ l := hP1.ne hL
    have fL : H L = none := Ch.free c1 hL nL
    refine lc_range (lo := 0) (n := nn.toNat) (fun i H' => Ch l H H' ∧ PotAt H' l ∧ ∃ (xs : List V) (zs : List (Str × Int)), zs.length = i ∧ RoadT H' xs zs ∧ (∀ p ∈ zs, okP p) ∧ H' L = some (.lst xs))
      ⟨Ch.over c1 fL, hP1.new nL, [], [], rfl, .nil, fun x hx => (by cases hx), upd_same⟩ ?_ ?_
    · rintro i H2 hi ⟨k2, hP2, xs, zs, e1, e2, e3, e4⟩
      refine ⟨rfl, _, rfl, l, rfl, hP2, fun H3 z c3 hP3 hz => ?_⟩
      obtain ⟨q0, q1, hl3, pk3⟩ := id hP3
      refine ⟨_, rfl, l, _, q0, q1, rfl, by decide, by decide, hl3, pk3, fun H4 d c4 hP4 d0 d1 => ?_⟩
      refine ⟨by show 2 ≤ sizeLine; decide, fun T hT => ?_⟩
      have nT : T ≠ l := hP4.ne hT
      have eL4 : H4 L = some (.lst xs) := c4 L _ (c3 L _ e4 nL) nL
      have nTL : L ≠ T := ne_of_none eL4 hT
      have k4 : Ch l H H4 := Ch.trans k2 (Ch.trans c3 c4)
      have r4 : RoadT H4 xs zs := (e2.kt (hP2.kt c3)).kt (hP3.kt c4)
      refine ⟨xs, by rw [upd_ne nTL]; exact eL4, ?_, ?_, ?_, xs ++ [.ref T], zs ++ [(z, d)], ?_, ?_, ?_, upd_same⟩
      · rw [e2.len, e1]
        exact small1000 (by omega)
      · exact Ch.over (Ch.over k4 (Ch.free k4 hT nT)) fL
      · exact (hP4.new nT).new nL
      · rw [List.length_append, e1]
        rfl
      · have kl : KT (upd H4 T (.tup [.str z, .int d])) (upd (upd H4 T (.tup [.str z, .int d])) L (.lst (xs ++ [.ref T]))) := fun b ys e => by
          have nb : b ≠ L := fun z => by
            rw [z, upd_ne nTL, eL4] at e
            cases e
          rw [upd_ne nb]
          exact e
        exact ((r4.kt (KT.new hT)).snoc upd_same).kt kl
      · intro p hp
        rcases List.mem_append.mp hp with y | y
        · exact e3 p y
        · rw [List.mem_singleton.mp y]
          exact ⟨hz, d0, by omega⟩
    · rintro H2 ⟨k2, hP2, xs, zs, e1, e2, e3, e4⟩
      exact q H2 L xs zs k2 hP2 fL e4 e2 (by omega) e3
/-- a fault -/
def spFl : Sp := fun vs H Q _ => ∃ l : Addr, vs = [.ref l] ∧ PotAt H l ∧ ∀ H' F d, Ch l H H' → PotAt H' l → FltAt H' F d → Q (.ref F) H'
theorem okN_half : okN (Str.ofString "HALF") := ⟨by decide +kernel, by unfold okS; decide +kernel⟩
theorem okN_nomod : okN (Str.ofString "NOMODULE") := ⟨by decide +kernel, by unfold okS; decide +kernel⟩
theorem okN_noname : okN (Str.ofString "NONAME") := ⟨by decide +kernel, by unfold okS; decide +kernel⟩
theorem okN_flat : okN (Str.ofString "FLAT") := ⟨by decide +kernel, by unfold okS; decide +kernel⟩
theorem ok_fl (F : FnP K "_law_fault" sFault f fd) (FD : FnP K "_law_draw" sDraw fD fdD) (gD : mg "_law_draw" = some (.ref fD)) (FN : FnP K "_law_name" sName fN fdN) (gN : mg "_law_name" = some (.ref fN)) (FR : FnP K "_law_road" sRoad fR fdR) (gR : mg "_law_road" = some (.ref fR)) (md : mg "divmod" = none) (mr : mg "range" = none) (mt : mg "tuple" = none) :
    FnOk P w K mg base CX0 4 f fd ["_law_pot_here"] spFl := by
  have GD : FnOk P w K mg base CX0 1 fD fdD ["_law_pot_here", "_law_many"] spDraw := ok_draw FD md
  have bD : Binds K fdD ["_law_pot_here", "_law_many"] [] := FD.bindsN fun _ _ _ _ _ _ us hl => match us, hl with | [_, _], _ => rfl
  have GN : FnOk P w K mg base CX0 2 fN fdN ["_law_pot_here"] spNm := ok_nm FN FD gD md mr
  have bN : Binds K fdN ["_law_pot_here"] [] := FN.bindsN fun _ _ _ _ _ _ us hl => match us, hl with | [_], _ => rfl
  have GR : FnOk P w K mg base CX0 3 fR fdR ["_law_pot_here"] spRd := ok_rd FR FD gD FN gN md mr
  have bR : Binds K fdR ["_law_pot_here"] [] := FR.bindsN fun _ _ _ _ _ _ us hl => match us, hl with | [_], _ => rfl
  refine ok_code F scFault (fun vs H Q E h => ?_) (fun cdv A outer s H vs Q E hcd hr h => ?_)
  · obtain ⟨l, rfl, _⟩ := h
    rfl
  · obtain ⟨l, rfl, ⟨p0, p1, hl, pk⟩, q⟩ := h
    have hr1 : Room 1 (A.deeper (envOfC "_law_fault" (defScope sFault) s.heap.objs.size f cdv)) := hr.mono (by decide)
    have hr2 : Room 2 (A.deeper (envOfC "_law_fault" (defScope sFault) s.heap.objs.size f cdv)) := hr.mono (by decide)
    refine ⟨_, pss_cons (ps_set (i := 1) scFault.nd rfl (.inl rfl) (pe_call GD hr1 (by rfl) gD FD.kp bD .nil pass0 (pa_cons (pv 0) (pa_cons pe_int pa_nil))))
      (pss_cons (ps_if (pt_cmpR op_eq (pv 1) pe_int (nomark _)) (pss_one (ps_ret (pe_tup (pa_cons pe_str (pa_cons (pe_call GN hr2 (by rfl) gN FN.kp bN .nil pass0 (pa_cons (pv 0) pa_nil)) (pa_cons (pe_call GN hr2 (by rfl) gN FN.kp bN .nil pass0 (pa_cons (pv 0) pa_nil))
          (pa_cons (pe_callTy call_tuple_of (by rfl) mt (by decide +kernel) (pa_cons (pe_op op_cat (pe_lst (pa_cons (pe_tup (pa_cons (pe_call GN hr2 (by rfl) gN FN.kp bN .nil pass0 (pa_cons (pv 0) pa_nil)) (pa_cons pe_int pa_nil))) pa_nil)) (pe_call GR hr (by rfl) gR FR.kp bR .nil pass0 (pa_cons (pv 0) pa_nil))) pa_nil)) pa_nil))))))) pss_nil)
      (pss_cons (ps_if (pt_cmpR op_eq (pv 1) pe_int (nomark _)) (pss_one (ps_ret (pe_tup (pa_cons pe_str (pa_cons (pe_call GN hr2 (by rfl) gN FN.kp bN .nil pass0 (pa_cons (pv 0) pa_nil)) pa_nil))))) pss_nil)
      (pss_cons (ps_if (pt_cmpR op_eq (pv 1) pe_int (nomark _)) (pss_one (ps_ret (pe_tup (pa_cons (pe_call GN hr2 (by rfl) gN FN.kp bN .nil pass0 (pa_cons (pv 0) pa_nil)) pa_nil)))) pss_nil)
      (pss_one (ps_ret (pe_tup (pa_cons (pe_ix ix_list (pe_lst (pa_cons pe_str (pa_cons pe_str pa_nil))) (pe_op op_sub (pv 1) pe_int) (fun _ _ => rfl)) (pa_cons (pe_call GN hr2 (by rfl) gN FN.kp bN .nil pass0 (pa_cons (pv 0) pa_nil)) (pa_cons (pe_call GN hr2 (by rfl) gN FN.kp bN .nil pass0 (pa_cons (pv 0) pa_nil)) pa_nil))))))))), ?_⟩
    refine ⟨_, rfl, l, _, p0, p1, rfl, by decide, by decide, hl, pk, fun H1 way c1 hP1 w0 w1 => ?_⟩
    have small : ∀ {n : Nat}, n ≤ 1000 → n ≤ sizeLine := fun h => Nat.le_of_lt (small1000 h)
    refine ⟨_, rfl, rfl, _, rfl, ite2 (fun _ => ?_) (fun e1 => ?_)⟩
    · refine ⟨_, rfl, l, rfl, hP1, fun H2 z1 c2 hP2 hz1 => ?_⟩
      refine ⟨_, rfl, l, rfl, hP2, fun H3 z2 c3 hP3 hz2 => ?_⟩
      refine ⟨_, rfl, l, rfl, hP3, fun H4 z3 c4 hP4 hz3 => ⟨small (by simp), fun T hT => ⟨small (by simp), fun L hL => ?_⟩⟩⟩
      have nT : T ≠ l := hP4.ne hT
      have hP5 := hP4.new (o := .tup [.str z3, .int 7]) nT
      have nL : L ≠ l := hP5.ne hL
      refine ⟨_, rfl, l, rfl, hP5.new nL, fun H6 R xs zs c6 hP6 fR eR r6 hn6 ho6 => ?_⟩
      have eL : H6 L = some (.lst [.ref T]) := c6 L _ upd_same nL
      have eT : H6 T = some (.tup [.str z3, .int 7]) := c6 T _ (by rw [upd_ne (ne_of_none upd_same hL)]; exact upd_same) nT
      refine ⟨L, R, _, _, rfl, rfl, eL, eR, small (by show 1 + xs.length ≤ 1000; rw [r6.len]; omega), fun p hp => ?_⟩
      have r7 : RoadT H6 (.ref T :: xs) ((z3, 7) :: zs) := .cons eT r6
      refine ⟨p, _, rfl, .inl ⟨SqL.of upd_same, fun G hG => ⟨small (by simp), fun U hU => ?_⟩⟩⟩
      have k6 : Ch l H H6 := Ch.trans (Ch.trans c1 (Ch.trans c2 (Ch.trans c3 c4))) (Ch.trans (Ch.trans (Ch.new hT) (Ch.new hL)) c6)
      have np : p ≠ l := hP6.ne hp
      have hP7 := hP6.new (o := .lst ([.ref T] ++ xs)) np
      have nG : G ≠ l := hP7.ne hG
      have hP8 := hP7.new (o := .tup ([.ref T] ++ xs)) nG
      have nU : U ≠ l := hP8.ne hU
      have k8 : KT H6 (upd (upd (upd H6 p (.lst ([.ref T] ++ xs))) G (.tup ([.ref T] ++ xs))) U (.tup [.str (Str.ofString "HALF"), .str z1, .str z2, .ref G])) := (KT.new hp).trans ((KT.new hG).trans (KT.new hU))
      refine q _ U _ (Ch.trans k6 (Ch.trans (Ch.new hp) (Ch.trans (Ch.new hG) (Ch.new hU)))) (hP8.new nU) (.inr ⟨_, z1, z2, G, _, (z3, 7) :: zs, upd_same, ?_, r7.kt k8, rfl, okN_half, hz1, hz2, ?_, ?_⟩)
      · rw [upd_ne (ne_of_none upd_same hU), upd_same]
        rfl
      · rw [List.length_cons]
        omega
      · intro y hy
        rcases List.mem_cons.mp hy with z | z
        · rw [z]
          exact ⟨hz3, by show (0 : Int) ≤ 7; decide, by show (7 : Int) < 100; decide⟩
        · exact ho6 y z
    refine ⟨_, rfl, rfl, _, rfl, ite2 (fun _ => ?_) (fun e2 => ?_)⟩
    · refine ⟨_, rfl, l, rfl, hP1, fun H2 z1 c2 hP2 hz1 => ⟨small (by simp), fun T hT => ?_⟩⟩
      refine q _ T _ (Ch.trans c1 (Ch.trans c2 (Ch.new hT))) (hP2.new (hP2.ne hT)) (.inl ⟨[Str.ofString "NOMODULE", z1], upd_same, rfl, by simp, fun z hz => ?_⟩)
      simp only [List.mem_cons, List.not_mem_nil, or_false] at hz
      rcases hz with rfl | rfl
      · exact okN_nomod
      · exact hz1
    refine ⟨_, rfl, rfl, _, rfl, ite2 (fun _ => ?_) (fun e3 => ?_)⟩
    · refine ⟨_, rfl, l, rfl, hP1, fun H2 z1 c2 hP2 hz1 => ⟨small (by simp), fun T hT => ?_⟩⟩
      refine q _ T _ (Ch.trans c1 (Ch.trans c2 (Ch.new hT))) (hP2.new (hP2.ne hT)) (.inl ⟨[z1], upd_same, rfl, by simp, fun z hz => ?_⟩)
      rw [List.mem_singleton.mp hz]
      exact hz1
    refine ⟨small (by simp), fun L hL => ?_⟩
    have nL : L ≠ l := hP1.ne hL
    have hw : way = 3 ∨ way = 4 := by
      have n0 : way ≠ 0 := fun z => e1 (by rw [z]; rfl)
      have n1 : way ≠ 1 := fun z => e2 (by rw [z]; rfl)
      have n2 : way ≠ 2 := fun z => e3 (by rw [z]; rfl)
      omega
    obtain ⟨z0, hz0, ha⟩ : ∃ z0 : Str, okN z0 ∧ atI [V.str (Str.ofString "NONAME"), V.str (Str.ofString "FLAT")] (way - 3) = some (.str z0) := by
      rcases hw with rfl | rfl
      · exact ⟨_, okN_noname, rfl⟩
      · exact ⟨_, okN_flat, rfl⟩
    · refine ⟨_, rfl, _, _, rfl, rfl, L, _, way - 3, .str z0, rfl, rfl, SqL.of upd_same, ha, ?_⟩
      refine ⟨_, rfl, l, rfl, hP1.new nL, fun H2 z1 c2 hP2 hz1 => ?_⟩
      refine ⟨_, rfl, l, rfl, hP2, fun H3 z2 c3 hP3 hz2 => ⟨small (by simp), fun T hT => ?_⟩⟩
      refine q _ T _ (Ch.trans c1 (Ch.trans (Ch.new hL) (Ch.trans c2 (Ch.trans c3 (Ch.new hT))))) (hP3.new (hP3.ne hT)) (.inl ⟨[z0, z1, z2], upd_same, rfl, by simp, fun z hz => ?_⟩)
      simp only [List.mem_cons, List.not_mem_nil, or_false] at hz
      rcases hz with rfl | rfl | rfl
      · exact hz0
      · exact hz1
      · exact hz2
end
end K15
set_option maxHeartbeats 4000000
namespace K15
open PySem PySem.Spec PyProof.Rows L2 HM XV XS NdefX
/-- a class's first statement -/
def clsFirst : Stmt → Stmt
  | .ClassDef _ _ _ (b :: _) _ _ _ _ _ _ _ => b
  | s => s
abbrev sInitF : Stmt := clsFirst (top 10)
abbrev sInitD : Stmt := clsFirst (top 11)
abbrev nfF (cl : List (Str × Addr)) (c : Addr) : NF := ⟨"__init__", "Fault.__init__", defArgs sInitF, defBody sInitF, defScope sInitF, cl, c⟩
abbrev nfD (cl : List (Str × Addr)) (c : Addr) : NF := ⟨"__init__", "Failed.__init__", defArgs sInitD, defBody sInitD, defScope sInitD, cl, c⟩
theorem nsF : NScope ["self", "fault", "__class__"] ["self", "fault"] ["__class__"] (defScope sInitF) := nscope_by (by decide +kernel)
theorem nsD : NScope ["self", "fault", "road", "__class__"] ["self", "fault", "road"] ["__class__"] (defScope sInitD) := nscope_by (by decide +kernel)
section
variable {w : World} {K : PySem.W.Frag} {mg : Str → Option Value} {base : Heap} {f C : Addr} {fd : FuncData} {cl : List (Str × Addr)} {c : Addr}
abbrev pr : Program := PySem.Challenge.pw_halfmade_k15_refusals_made
/-- Fault(fault): the fault is kept -/
def spIF (K : PySem.W.Frag) (C : Addr) : Sp := fun vs H Q _ => ∃ (a p : Addr) (d : PyData), vs = [.ref a, .ref p] ∧ H a = some (exo a C none) ∧ Dp K H (.ref p) d ∧ SmD 10000 d ∧
  ∀ dx, H dx = none → dx ≠ a → Q .non (upd (upd H dx (exd dx [("fault", .ref p)])) a (exo a C (some dx)))
theorem ok_iF (T : SupC K C) (FF : SupF K pr C f (nfF cl c) fd) (no : PySem.W.findIn K (.ref C) "fault" = some none) (msu : mg "super" = none) : FnG pr w K mg base CX0 1 f fd ["self", "fault"] (spIF K C) := by
  refine okSup (k := 0) (px := ["fault"]) T FF rfl nsF rfl rfl rfl rfl msu (by decide +kernel) (fun vs H Q E h => ?_) (fun L => ⟨_, rfl⟩) (fun env => rfl) (fun L => rfl) (fun L => rfl) (fun A outer s H vs Q E hr hg h => ?_)
  · obtain ⟨a, p, d, rfl, _⟩ := h
    rfl
  · obtain ⟨a, p, d, rfl, ha, hd, sm, q⟩ := h
    refine ⟨a, _, _, _, rfl, pe_joined (.cons pe_str (.cons (pe_fmtD hr hg (pv 1)) .nil)), pss_one (ps_ost (pv 0) (pv 1)), ha, ?_⟩
    have hl := sm.len
    have e6 : (Str.ofString "fault ").length = 6 := by decide +kernel
    have e0 : Str.empty.length = 0 := rfl
    refine ⟨_, rfl, ?_, _, rfl, p, d, rfl, hd, sm, _, rfl, ?_, ha, _, rfl, _, rfl, a, C, rfl, T.oex, no, .inl ⟨ha, fun dx h1 h2 => q dx h1 h2⟩⟩
    · rw [strLen_append, e6, e0, sizeLine_eq]
      omega
    · rw [strLen_append, strLen_append, e6, e0, sizeLine_eq]
      omega
/-- Failed(fault, road): the fault is kept, and a copy of the road -/
def spID (K : PySem.W.Frag) (C : Addr) : Sp := fun vs H Q _ => ∃ (a p r : Addr) (d e : PyData) (xs : List V), vs = [.ref a, .ref p, .ref r] ∧ H a = some (exo a C none) ∧ Dp K H (.ref p) d ∧ SmD 10000 d ∧ Dp K H (.ref r) e ∧ SmD 10000 e ∧ SqL K H r xs ∧
  ∀ dx l, H dx = none → dx ≠ a → upd (upd H dx (exd dx [("fault", .ref p)])) a (exo a C (some dx)) l = none → Q .non (upd (upd (upd (upd H dx (exd dx [("fault", .ref p)])) a (exo a C (some dx))) l (.lst xs)) dx (exd dx [("road", .ref l), ("fault", .ref p)]))
theorem sq_ne {H : Hp} {r b : Addr} {xs : List V} {o : HO} (h : SqL K H r xs) (hb : H b = some o) (no : ∀ ys, o ≠ .lst ys) (no2 : ∀ u ys, o ≠ .frz u (.lst ys)) : ∀ {o2 : HO}, SqL K (upd H b o2) r xs := by
  intro o2
  rcases h with (h | ⟨u, h⟩) | h
  · refine .inl (.inl ?_)
    rw [upd_ne (fun z => by rw [z, hb] at h; exact no _ (Option.some.inj h))]
    exact h
  · refine .inl (.inr ⟨u, ?_⟩)
    rw [upd_ne (fun z => by rw [z, hb] at h; exact no2 _ _ (Option.some.inj h))]
    exact h
  · exact .inr h
theorem sq_new {H : Hp} {r b : Addr} {xs : List V} (h : SqL K H r xs) (hb : H b = none) : ∀ {o2 : HO}, SqL K (upd H b o2) r xs := by
  intro o2
  rcases h with (h | ⟨u, h⟩) | h
  · exact .inl (.inl (by rw [upd_ne (ne_of_none h hb)]; exact h))
  · exact .inl (.inr ⟨u, by rw [upd_ne (ne_of_none h hb)]; exact h⟩)
  · exact .inr h
theorem exo_lst {a C : Addr} {d : Option Addr} (ys : List V) : exo a C d ≠ .lst ys := fun z => by
  have z2 : HO.ext _ = HO.lst ys := z
  cases z2
theorem exd_lst {dx : Addr} {fs : List (Str × V)} (ys : List V) : exd dx fs ≠ .lst ys := fun z => by
  have z2 : HO.ext _ = HO.lst ys := z
  cases z2
theorem ok_iD (T : SupC K C) (FF : SupF K pr C f (nfD cl c) fd) (no : PySem.W.findIn K (.ref C) "fault" = some none) (no2 : PySem.W.findIn K (.ref C) "road" = some none) (msu : mg "super" = none) (mli : mg "list" = none) : FnG pr w K mg base CX0 1 f fd ["self", "fault", "road"] (spID K C) := by
  refine okSup (k := 0) (px := ["fault", "road"]) T FF rfl nsD rfl rfl rfl rfl msu (by decide +kernel) (fun vs H Q E h => ?_) (fun L => ⟨_, rfl⟩) (fun env => rfl) (fun L => rfl) (fun L => rfl) (fun A outer s H vs Q E hr hg h => ?_)
  · obtain ⟨a, p, r, d, e, xs, rfl, _⟩ := h
    rfl
  · obtain ⟨a, p, r, d, e, xs, rfl, ha, hd, sm, he, se, hx, q⟩ := h
    refine ⟨a, _, _, _, rfl, pe_joined (.cons pe_str (.cons (pe_fmtD hr hg (pv 1)) (.cons pe_str (.cons (pe_fmtD hr hg (pv 2)) .nil)))),
      pss_cons (ps_ost (pv 0) (pv 1)) (pss_one (ps_ost (pv 0) (pe_callTy call_list_of (by rfl) mli (by decide +kernel) (pa_cons (pv 2) pa_nil)))), ha, ?_⟩
    have hl := sm.len
    have hl2 := se.len
    have e6 : (Str.ofString "fault ").length = 6 := by decide +kernel
    have e13 : (Str.ofString " by the road ").length = 13 := by decide +kernel
    have e0 : Str.empty.length = 0 := rfl
    refine ⟨_, rfl, ?_, _, rfl, p, d, rfl, hd, sm, _, rfl, ?_, _, rfl, ?_, _, rfl, r, e, rfl, he, se, _, rfl, ?_, ha, _, rfl, _, rfl, a, C, rfl, T.oex, no, .inl ⟨ha, fun dx h1 h2 => ?_⟩⟩
    · rw [strLen_append, e6, e0, sizeLine_eq]
      omega
    · rw [strLen_append, strLen_append, e6, e0, sizeLine_eq]
      omega
    · rw [strLen_append, strLen_append, strLen_append, e6, e13, e0, sizeLine_eq]
      omega
    · rw [strLen_append, strLen_append, strLen_append, strLen_append, e6, e13, e0, sizeLine_eq]
      omega
    · have hr1 : SqL K (upd (upd H dx (exd dx [("fault", .ref p)])) a (exo a C (some dx))) r xs := sq_ne (sq_new hx h1) (b := a) (o := exo a C none) (by rw [upd_ne h2.symm]; exact ha) exo_lst (fun _ _ z => by have z2 : HO.ext _ = HO.frz _ _ := z; cases z2)
      refine ⟨_, rfl, r, xs, rfl, .inl hr1, fun l hl => ⟨_, rfl, a, C, rfl, T.oex, no2, .inr ⟨dx, _, ?_, ?_, by show 1 ≤ 900; decide, q dx l h1 h2 hl⟩⟩⟩
      · rw [upd_ne (ne_of_none upd_same hl), upd_same]
      · have e2 : upd (upd H dx (exd dx [("fault", .ref p)])) a (exo a C (some dx)) dx = some (exd dx [("fault", .ref p)]) := by rw [upd_ne h2, upd_same]
        rw [upd_ne (ne_of_none e2 hl), e2]
end
end K15
set_option maxHeartbeats 8000000
namespace K15
open PySem PySem.Spec PyProof.Rows L2 HM XV XS NdefX
def cn : List Str := ["NoText", "NoPath", "NoBody", "NoFinder", "NoNumber", "NotTaken", "NoRoad", "NoStock", "Fault", "Failed"]
abbrev ga := He.ga
/-- what the head tells of the classes -/
structure ClF (K : PySem.W.Frag) (mg : Str → Option Value) : Prop where
  glo : ∀ x ∈ ("MadeError" : Str) :: cn, mg x = some (.ref (ga K x))
  exc : ∀ x ∈ cn.take 8, PySem.W.excIn K (ga K x) He.veBase "ValueError.__new__" = true
  kp : ∀ x ∈ cn, PySem.W.keepIn K (.ref (ga K x)) = true
  sb : ∀ x ∈ cn, PySem.W.subIn K (.ref (ga K x)) (.type "BaseException") = some true
  ty : ∀ x ∈ cn, PySem.W.typeIn K (.ref (ga K x)) = some (.type "type")
  ec : ∀ x ∈ cn, ExcC K (ga K x)
  kit : ∀ x ∈ cn, ∀ y ∈ cn, PySem.W.kitOne K (.ref (ga K x)) (.ref (ga K y)) = some (decide (x = y))
  kitM : ∀ x ∈ cn, PySem.W.kitOne K (.ref (ga K x)) (.ref (ga K "MadeError")) = some true
  kitV : ∀ x ∈ cn, PySem.W.kitOne K (.ref (ga K x)) (.type "ValueError") = some true
/-- what the head tells of the two with a written __init__ -/
structure InF (K : PySem.W.Frag) (x : Str) (f : Addr) : Prop where
  fi : PySem.W.findIn K (.ref (ga K x)) "__init__" = some (some (.ref f))
  ty : PySem.W.typeIn K (.ref f) = some (.type "function")
  sc : SupC K (ga K x)
  no1 : PySem.W.findIn K (.ref (ga K x)) "fault" = some none
  no2 : PySem.W.findIn K (.ref (ga K x)) "road" = some none
  xf : XfC K (ga K x)
theorem Same.refl (H : Hp) : Same H H := fun _ _ e => e
theorem Same.new {H : Hp} {p : Addr} {o : HO} (h : H p = none) : Same H (upd H p o) := fun b u e => by
  rw [upd_ne (ne_of_none e h)]
  exact e
theorem Same.kt {H H' : Hp} (s : Same H H') : KT H H' := fun b xs e => s b _ e
theorem _root_.XV.ExAt.same {H H' : Hp} {a D : Addr} (s : Same H H') (h : ExAt H a D) : ExAt H' a D := by
  rcases h with h | ⟨dx, fs, h1, h2⟩
  · exact .inl (s _ _ h)
  · exact .inr ⟨dx, fs, s _ _ h1, s _ _ h2⟩
/-- behind Fault(..), behind Failed(..) -/
abbrev hF (H : Hp) (a dx C p : Addr) : Hp := upd (upd (upd H a (exo a C none)) dx (exd dx [("fault", .ref p)])) a (exo a C (some dx))
abbrev hD (H : Hp) (a dx l C p : Addr) (xs : List V) : Hp := upd (upd (hF H a dx C p) l (.lst xs)) dx (exd dx [("road", .ref l), ("fault", .ref p)])
section
variable {H : Hp} {a dx l C p : Addr} {xs : List V}
theorem same_hF (h1 : H a = none) (h2 : upd H a (exo a C none) dx = none) : Same H (hF H a dx C p) := fun b u e => by
  have n1 : b ≠ a := ne_of_none e h1
  have n2 : b ≠ dx := ne_of_none (show upd H a (exo a C none) b = some u by rw [upd_ne n1]; exact e) h2
  show upd (upd (upd H a (exo a C none)) dx _) a _ b = _
  rw [upd_ne n1, upd_ne n2, upd_ne n1]
  exact e
theorem hF_a : hF H a dx C p a = some (exo a C (some dx)) := upd_same
theorem hF_d (n : dx ≠ a) : hF H a dx C p dx = some (exd dx [("fault", .ref p)]) := by
  show upd (upd (upd H a (exo a C none)) dx _) a _ dx = _
  rw [upd_ne n, upd_same]
theorem same_hD (h1 : H a = none) (h2 : upd H a (exo a C none) dx = none) (h3 : dx ≠ a) (h4 : hF H a dx C p l = none) : Same H (hD H a dx l C p xs) := fun b u e => by
  have e2 := same_hF (p := p) h1 h2 b u e
  have n1 : b ≠ l := ne_of_none e2 h4
  have n2 : b ≠ dx := fun z => by
    have n3 : dx ≠ a := h3
    rw [z] at e
    rw [upd_ne n3, e] at h2
    cases h2
  show upd (upd (hF H a dx C p) l _) dx _ b = _
  rw [upd_ne n2, upd_ne n1]
  exact e2
theorem hD_a (h3 : dx ≠ a) (h4 : hF H a dx C p l = none) : hD H a dx l C p xs a = some (exo a C (some dx)) := by
  show upd (upd (hF H a dx C p) l _) dx _ a = _
  rw [upd_ne h3.symm, upd_ne (ne_of_none hF_a h4)]
  exact hF_a
theorem hD_d : hD H a dx l C p xs dx = some (exd dx [("road", .ref l), ("fault", .ref p)]) := upd_same
theorem hD_l (h3 : dx ≠ a) (h4 : hF H a dx C p l = none) : hD H a dx l C p xs l = some (.lst xs) := by
  show upd (upd (hF H a dx C p) l _) dx _ l = _
  rw [upd_ne (Ne.symm (ne_of_none (hF_d h3) h4)), upd_same]
end
abbrev sMade : Stmt := top 19
abbrev sKinds : Stmt := top 20
abbrev sIsKind : Stmt := top 21
abbrev nMade : List Str := ["_law_k", "_law_fault_here", "_law_road_here", "_law_some"]
theorem scMade : FnScope nMade ["_law_k", "_law_fault_here", "_law_road_here"] (defScope sMade) := ⟨rfl, rfl, rfl, by decide +kernel, rfl, by decide +kernel, by decide +kernel⟩
theorem scKinds : FnScope ["_law_e", "_law_some"] ["_law_e"] (defScope sKinds) := ⟨rfl, rfl, rfl, by decide +kernel, rfl, by decide +kernel, by decide +kernel⟩
theorem scIsKind : FnScope ["_law_e", "_law_k", "_law_kinds_here"] ["_law_e", "_law_k"] (defScope sIsKind) := ⟨rfl, rfl, rfl, by decide +kernel, rfl, by decide +kernel, by decide +kernel⟩
/-- the road at R -/
structure RdAt (H : Hp) (R : Addr) (zs : List (Str × Int)) : Prop where
  ex : ∃ xs, H R = some (.lst xs) ∧ RoadT H xs zs
  len : zs.length ≤ 5
  ok : ∀ p ∈ zs, okP p
theorem RdAt.same {H H' : Hp} {R : Addr} {zs : List (Str × Int)} (s : Same H H') (h : RdAt H R zs) : RdAt H' R zs := by
  obtain ⟨xs, e, r⟩ := h.ex
  exact ⟨⟨xs, s _ _ e, r.kt (Same.kt s)⟩, h.len, h.ok⟩
theorem RdAt.dp {K : PySem.W.Frag} {H : Hp} {R : Addr} {zs : List (Str × Int)} (h : RdAt H R zs) : Dp K H (.ref R) (.list (zs.map rd)) := by
  obtain ⟨xs, e, r⟩ := h.ex
  exact .lst (SqL.of e) r.dp
theorem rd_ok {zs : List (Str × Int)} (h1 : zs.length ≤ 5) (h2 : ∀ p ∈ zs, okP p) : DOk 100 (.list (zs.map rd)) := (d_lst (ds_road h2) (by decide)).mono (by omega)
theorem SmD.mono {n m : Nat} {d : PyData} (h : SmD n d) (k : n ≤ m) : SmD m d := ⟨h.sh, h.nd, h.dp, h.lv, Nat.le_trans h.bk k⟩
section
variable {w : World} {K : PySem.W.Frag} {mg : Str → Option Value} {base : Heap} {f fF fD fK : Addr} {fd fdF fdD fdK : FuncData}
def spMade (K : PySem.W.Frag) : Sp := fun vs H Q _ => ∃ (j : Nat) (x : Str) (F R : Addr) (d : PyData) (zs : List (Str × Int)), vs = [.int j, .ref F, .ref R] ∧ cn[j]? = some x ∧ FltAt H F d ∧ RdAt H R zs ∧ ∀ H' a, Same H H' → ExAt H' a (ga K x) → Q (.ref a) H'
theorem ok_made (F : FnP K "_law_made" sMade f fd) (CF : ClF K mg) (IF : InF K "Fault" fF) (ID : InF K "Failed" fD) (GF : FnG pr w K mg base CX0 1 fF fdF ["self", "fault"] (spIF K (ga K "Fault"))) (GD : FnG pr w K mg base CX0 1 fD fdD ["self", "fault", "road"] (spID K (ga K "Failed")))
    (bF : Binds K fdF ["self", "fault"] []) (bD : Binds K fdD ["self", "fault", "road"] []) : FnG pr w K mg base CX0 3 f fd ["_law_k", "_law_fault_here", "_law_road_here"] (spMade K) := by
  refine okG F scMade (fun vs H Q E h => ?_) (fun cdv A outer s H vs Q E hcd hr hgd h => ?_)
  · obtain ⟨j, x, F, R, d, zs, rfl, _⟩ := h
    rfl
  · obtain ⟨j, x, F, R, d, zs, rfl, hx, hF0, hR0, q⟩ := h
    have g : ∀ x ∈ ("MadeError" : Str) :: cn, mg x = some (.ref (ga K x)) := CF.glo
    refine ⟨_, PSs.nox (pss_cons (ps_set (i := 3) scMade.nd rfl (.inl rfl) (pe_lst
        (pa_cons (pe_exc1 PySem.F.excBase_ValueError (CF.exc "NoText" (by decide)) (g "NoText" (by decide)) (CF.kp "NoText" (by decide)) (by rfl) pe_str)
        (pa_cons (pe_exc1 PySem.F.excBase_ValueError (CF.exc "NoPath" (by decide)) (g "NoPath" (by decide)) (CF.kp "NoPath" (by decide)) (by rfl) pe_str)
        (pa_cons (pe_exc1 PySem.F.excBase_ValueError (CF.exc "NoBody" (by decide)) (g "NoBody" (by decide)) (CF.kp "NoBody" (by decide)) (by rfl) pe_str)
        (pa_cons (pe_exc1 PySem.F.excBase_ValueError (CF.exc "NoFinder" (by decide)) (g "NoFinder" (by decide)) (CF.kp "NoFinder" (by decide)) (by rfl) pe_str)
        (pa_cons (pe_exc1 PySem.F.excBase_ValueError (CF.exc "NoNumber" (by decide)) (g "NoNumber" (by decide)) (CF.kp "NoNumber" (by decide)) (by rfl) pe_str)
        (pa_cons (pe_exc1 PySem.F.excBase_ValueError (CF.exc "NotTaken" (by decide)) (g "NotTaken" (by decide)) (CF.kp "NotTaken" (by decide)) (by rfl) pe_str)
        (pa_cons (pe_exc1 PySem.F.excBase_ValueError (CF.exc "NoRoad" (by decide)) (g "NoRoad" (by decide)) (CF.kp "NoRoad" (by decide)) (by rfl) pe_str) pa_nil)))))))))
      (pss_one (ps_ret (pe_ix ix_list (pe_op op_cat (pv 3) (pe_lst
        (pa_cons (pe_exc1 PySem.F.excBase_ValueError (CF.exc "NoStock" (by decide)) (g "NoStock" (by decide)) (CF.kp "NoStock" (by decide)) (by rfl) pe_str)
        (pa_cons (pe_mkV IF.sc.oex IF.fi IF.ty GF hr hgd bF pass0 (by rfl) (g "Fault" (by decide)) (pa_cons (pv 1) pa_nil))
        (pa_cons (pe_mkV ID.sc.oex ID.fi ID.ty GD hr hgd bD pass0 (by rfl) (g "Failed" (by decide)) (pa_cons (pv 1) (pa_cons (pv 2) pa_nil))) pa_nil))))) (pv 0) (fun _ _ => rfl))))), ?_⟩
    have small : ∀ {n : Nat}, n ≤ 1000 → n ≤ sizeLine := fun h => Nat.le_of_lt (small1000 h)
    refine fun a0 h0 a1 h1 a2 h2 a3 h3 a4 h4 a5 h5 a6 h6 => ⟨small (by simp), fun L hL => ?_⟩
    obtain ⟨HA, eA⟩ : ∃ HA, upd (upd (upd (upd (upd (upd (upd (upd H a0 (ExO (.ref (ga K "NoText")) a0)) a1 (ExO (.ref (ga K "NoPath")) a1)) a2 (ExO (.ref (ga K "NoBody")) a2)) a3 (ExO (.ref (ga K "NoFinder")) a3)) a4 (ExO (.ref (ga K "NoNumber")) a4)) a5 (ExO (.ref (ga K "NotTaken")) a5)) a6 (ExO (.ref (ga K "NoRoad")) a6)) L (.lst [.ref a0, .ref a1, .ref a2, .ref a3, .ref a4, .ref a5, .ref a6]) = HA := ⟨_, rfl⟩
    have sA : Same H HA := by
      rw [← eA]
      exact Same.trans (Same.new h0) (Same.trans (Same.new h1) (Same.trans (Same.new h2) (Same.trans (Same.new h3) (Same.trans (Same.new h4) (Same.trans (Same.new h5) (Same.trans (Same.new h6) (Same.new hL)))))))
    have x0 : ExAt HA a0 (ga K "NoText") := by
      rw [← eA]
      exact XV.ExAt.same (Same.trans (Same.new h1) (Same.trans (Same.new h2) (Same.trans (Same.new h3) (Same.trans (Same.new h4) (Same.trans (Same.new h5) (Same.trans (Same.new h6) (Same.new hL))))))) (.inl upd_same)
    have x1 : ExAt HA a1 (ga K "NoPath") := by
      rw [← eA]
      exact XV.ExAt.same (Same.trans (Same.new h2) (Same.trans (Same.new h3) (Same.trans (Same.new h4) (Same.trans (Same.new h5) (Same.trans (Same.new h6) (Same.new hL)))))) (.inl upd_same)
    have x2 : ExAt HA a2 (ga K "NoBody") := by
      rw [← eA]
      exact XV.ExAt.same (Same.trans (Same.new h3) (Same.trans (Same.new h4) (Same.trans (Same.new h5) (Same.trans (Same.new h6) (Same.new hL))))) (.inl upd_same)
    have x3 : ExAt HA a3 (ga K "NoFinder") := by
      rw [← eA]
      exact XV.ExAt.same (Same.trans (Same.new h4) (Same.trans (Same.new h5) (Same.trans (Same.new h6) (Same.new hL)))) (.inl upd_same)
    have x4 : ExAt HA a4 (ga K "NoNumber") := by
      rw [← eA]
      exact XV.ExAt.same (Same.trans (Same.new h5) (Same.trans (Same.new h6) (Same.new hL))) (.inl upd_same)
    have x5 : ExAt HA a5 (ga K "NotTaken") := by
      rw [← eA]
      exact XV.ExAt.same (Same.trans (Same.new h6) (Same.new hL)) (.inl upd_same)
    have x6 : ExAt HA a6 (ga K "NoRoad") := by
      rw [← eA]
      exact XV.ExAt.same (Same.new hL) (.inl upd_same)
    have eL : HA L = some (.lst [.ref a0, .ref a1, .ref a2, .ref a3, .ref a4, .ref a5, .ref a6]) := by
      rw [← eA]
      exact upd_same
    rw [eA]
    refine ⟨_, rfl, fun a7 h7 => ?_⟩
    have s7 : Same HA (upd HA a7 (ExO (.ref (ga K "NoStock")) a7)) := Same.new h7
    have x7 : ExAt (upd HA a7 (ExO (.ref (ga K "NoStock")) a7)) a7 (ga K "NoStock") := .inl upd_same
    obtain ⟨HB, eB⟩ : ∃ HB, upd HA a7 (ExO (.ref (ga K "NoStock")) a7) = HB := ⟨_, rfl⟩
    rw [eB] at s7 x7
    rw [eB]
    have hFB : FltAt HB F d := (hF0.kt (Same.kt sA)).kt (Same.kt s7)
    refine ⟨_, rfl, by simp, fun a8 h8 => ⟨a8, F, d, rfl, upd_same, (hFB.kt (Same.kt (Same.new h8))).dp, SmD.mono hFB.ok.sm (by decide), fun d8 g8 n8 => ⟨rfl, ?_⟩⟩⟩
    obtain ⟨HC, eC⟩ : ∃ HC, upd (upd (upd HB a8 (exo a8 (ga K "Fault") none)) d8 (exd d8 [("fault", .ref F)])) a8 (exo a8 (ga K "Fault") (some d8)) = HC := ⟨_, rfl⟩
    have s8 : Same HB HC := by
      rw [← eC]
      exact same_hF (p := F) h8 g8
    have x8 : ExAt HC a8 (ga K "Fault") := by
      rw [← eC]
      exact .inr ⟨d8, _, hF_a (p := F), hF_d n8⟩
    rw [eC]
    have hFC : FltAt HC F d := hFB.kt (Same.kt s8)
    have hRC : RdAt HC R zs := ((hR0.same sA).same s7).same s8
    refine ⟨_, rfl, _, rfl, by simp, fun a9 h9 => ?_⟩
    have hR9 := hRC.same (Same.new (o := exo a9 (ga K "Failed") none) h9)
    obtain ⟨ys, eR, rR⟩ := hR9.ex
    refine ⟨a9, F, R, d, .list (zs.map rd), ys, rfl, upd_same, (hFC.kt (Same.kt (Same.new h9))).dp, SmD.mono hFC.ok.sm (by decide), hR9.dp, SmD.mono (rd_ok hR0.len hR0.ok).sm (by decide), SqL.of eR, fun d9 l9 g9 n9 k9 => ⟨rfl, ?_⟩⟩
    obtain ⟨HE, eE⟩ : ∃ HE, upd (upd (upd (upd (upd HC a9 (exo a9 (ga K "Failed") none)) d9 (exd d9 [("fault", .ref F)])) a9 (exo a9 (ga K "Failed") (some d9))) l9 (.lst ys)) d9 (exd d9 [("road", .ref l9), ("fault", .ref F)]) = HE := ⟨_, rfl⟩
    have s9 : Same HC HE := by
      rw [← eE]
      exact same_hD (p := F) h9 g9 n9 k9
    have x9 : ExAt HE a9 (ga K "Failed") := by
      rw [← eE]
      exact .inr ⟨d9, _, hD_a (p := F) n9 k9, hD_d⟩
    rw [eE]
    have sE : Same HA HE := Same.trans s7 (Same.trans s8 s9)
    refine ⟨small (by simp), fun M hM => ?_⟩
    have sM : Same HE (upd HE M (.lst [.ref a7, .ref a8, .ref a9])) := Same.new hM
    refine ⟨L, M, _, _, rfl, rfl, sM _ _ (sE _ _ eL), upd_same, small (by simp), fun U hU => ?_⟩
    have sU : Same HE (upd (upd HE M (.lst [.ref a7, .ref a8, .ref a9])) U (.lst ([.ref a0, .ref a1, .ref a2, .ref a3, .ref a4, .ref a5, .ref a6] ++ [.ref a7, .ref a8, .ref a9]))) := Same.trans sM (Same.new hU)
    have sAll : Same H _ := Same.trans sA (Same.trans sE sU)
    obtain ⟨a, hx2, hat⟩ : ∃ a, ExAt HE a (ga K x) ∧ atI ([V.ref a0, V.ref a1, V.ref a2, V.ref a3, V.ref a4, V.ref a5, V.ref a6] ++ [V.ref a7, V.ref a8, V.ref a9]) (j : Int) = some (.ref a) := by
      match j, hx with
      | 0, hx =>
        cases (show some (Str.ofString "NoText") = some x from hx)
        exact ⟨a0, x0.same sE, rfl⟩
      | 1, hx =>
        cases (show some (Str.ofString "NoPath") = some x from hx)
        exact ⟨a1, x1.same sE, rfl⟩
      | 2, hx =>
        cases (show some (Str.ofString "NoBody") = some x from hx)
        exact ⟨a2, x2.same sE, rfl⟩
      | 3, hx =>
        cases (show some (Str.ofString "NoFinder") = some x from hx)
        exact ⟨a3, x3.same sE, rfl⟩
      | 4, hx =>
        cases (show some (Str.ofString "NoNumber") = some x from hx)
        exact ⟨a4, x4.same sE, rfl⟩
      | 5, hx =>
        cases (show some (Str.ofString "NotTaken") = some x from hx)
        exact ⟨a5, x5.same sE, rfl⟩
      | 6, hx =>
        cases (show some (Str.ofString "NoRoad") = some x from hx)
        exact ⟨a6, x6.same sE, rfl⟩
      | 7, hx =>
        cases (show some (Str.ofString "NoStock") = some x from hx)
        exact ⟨a7, x7.same (Same.trans s8 s9), rfl⟩
      | 8, hx =>
        cases (show some (Str.ofString "Fault") = some x from hx)
        exact ⟨a8, x8.same s9, rfl⟩
      | 9, hx =>
        cases (show some (Str.ofString "Failed") = some x from hx)
        exact ⟨a9, x9, rfl⟩
      | k + 10, hx =>
        have z : (none : Option Str) = some x := by
          rw [← hx]
          rfl
        cases z
    exact ⟨_, rfl, U, _, (j : Int), .ref a, rfl, rfl, SqL.of upd_same, hat, q _ a sAll (hx2.same sU)⟩
/-! ### the kinds of an exception -/
/-- kinds(e): ten truths, one of them true -/
abbrev kb (x : Str) : List Bool := cn.map fun y => decide (x = y)
def spKinds (K : PySem.W.Frag) : Sp := fun vs H Q _ => ∃ (a : Addr) (x : Str), vs = [.ref a] ∧ x ∈ cn ∧ ExAt H a (ga K x) ∧ ∀ H' U, Same H H' → H' U = some (.lst ((kb x).map V.bl)) → Q (.ref U) H'
theorem ok_kinds (F : FnP K "_law_kinds" sKinds f fd) (CF : ClF K mg) (mi : mg "isinstance" = none) : FnOk pr w K mg base CX0 1 f fd ["_law_e"] (spKinds K) := by
  refine ok_code F scKinds (fun vs H Q E h => ?_) (fun cdv A outer s H vs Q E hcd hr h => ?_)
  · obtain ⟨a, x, rfl, _⟩ := h
    rfl
  · obtain ⟨a, x, rfl, hx, hE, q⟩ := h
    have g : ∀ x ∈ ("MadeError" : Str) :: cn, mg x = some (.ref (ga K x)) := CF.glo
    refine ⟨_, pss_cons (ps_set (i := 1) scKinds.nd rfl (.inl rfl) (pe_lst
        (pa_cons (pe_callB call_isX (by rfl) mi (by decide +kernel) (pa_cons (pv 0) (pa_cons (pe_glob (v := .ref (ga K "NoText")) (by rfl) (g "NoText" (by decide)) rfl) pa_nil)))
        (pa_cons (pe_callB call_isX (by rfl) mi (by decide +kernel) (pa_cons (pv 0) (pa_cons (pe_glob (v := .ref (ga K "NoPath")) (by rfl) (g "NoPath" (by decide)) rfl) pa_nil)))
        (pa_cons (pe_callB call_isX (by rfl) mi (by decide +kernel) (pa_cons (pv 0) (pa_cons (pe_glob (v := .ref (ga K "NoBody")) (by rfl) (g "NoBody" (by decide)) rfl) pa_nil)))
        (pa_cons (pe_callB call_isX (by rfl) mi (by decide +kernel) (pa_cons (pv 0) (pa_cons (pe_glob (v := .ref (ga K "NoFinder")) (by rfl) (g "NoFinder" (by decide)) rfl) pa_nil))) pa_nil))))))
      (pss_cons (ps_set (i := 1) scKinds.nd rfl (.inl rfl) (pe_op op_cat (pv 1) (pe_lst
        (pa_cons (pe_callB call_isX (by rfl) mi (by decide +kernel) (pa_cons (pv 0) (pa_cons (pe_glob (v := .ref (ga K "NoNumber")) (by rfl) (g "NoNumber" (by decide)) rfl) pa_nil)))
        (pa_cons (pe_callB call_isX (by rfl) mi (by decide +kernel) (pa_cons (pv 0) (pa_cons (pe_glob (v := .ref (ga K "NotTaken")) (by rfl) (g "NotTaken" (by decide)) rfl) pa_nil)))
        (pa_cons (pe_callB call_isX (by rfl) mi (by decide +kernel) (pa_cons (pv 0) (pa_cons (pe_glob (v := .ref (ga K "NoRoad")) (by rfl) (g "NoRoad" (by decide)) rfl) pa_nil)))
        (pa_cons (pe_callB call_isX (by rfl) mi (by decide +kernel) (pa_cons (pv 0) (pa_cons (pe_glob (v := .ref (ga K "NoStock")) (by rfl) (g "NoStock" (by decide)) rfl) pa_nil))) pa_nil)))))))
      (pss_one (ps_ret (pe_op op_cat (pv 1) (pe_lst
        (pa_cons (pe_callB call_isX (by rfl) mi (by decide +kernel) (pa_cons (pv 0) (pa_cons (pe_glob (v := .ref (ga K "Fault")) (by rfl) (g "Fault" (by decide)) rfl) pa_nil)))
        (pa_cons (pe_callB call_isX (by rfl) mi (by decide +kernel) (pa_cons (pv 0) (pa_cons (pe_glob (v := .ref (ga K "Failed")) (by rfl) (g "Failed" (by decide)) rfl) pa_nil))) pa_nil))))))), ?_⟩
    have small : ∀ {n : Nat}, n ≤ 1000 → n ≤ sizeLine := fun h => Nat.le_of_lt (small1000 h)
    have ec := CF.ec x hx
    have kt := CF.kit x hx
    refine ⟨_, rfl, a, ga K x, _, _, _, rfl, hE, ec, .own _, kt "NoText" (by decide), _, rfl, a, ga K x, _, _, _, rfl, hE, ec, .own _, kt "NoPath" (by decide), _, rfl, a, ga K x, _, _, _, rfl, hE, ec, .own _, kt "NoBody" (by decide), _, rfl, a, ga K x, _, _, _, rfl, hE, ec, .own _, kt "NoFinder" (by decide), small (by simp), fun L hL => ?_⟩
    have hE1 := hE.same (Same.new (o := .lst [.bl (decide (x = "NoText")), .bl (decide (x = "NoPath")), .bl (decide (x = "NoBody")), .bl (decide (x = "NoFinder"))]) hL)
    refine ⟨_, rfl, _, rfl, a, ga K x, _, _, _, rfl, hE1, ec, .own _, kt "NoNumber" (by decide), _, rfl, a, ga K x, _, _, _, rfl, hE1, ec, .own _, kt "NotTaken" (by decide), _, rfl, a, ga K x, _, _, _, rfl, hE1, ec, .own _, kt "NoRoad" (by decide), _, rfl, a, ga K x, _, _, _, rfl, hE1, ec, .own _, kt "NoStock" (by decide), small (by simp), fun M hM => ?_⟩
    have n1 : L ≠ M := ne_of_none upd_same hM
    refine ⟨L, M, _, _, rfl, rfl, by rw [upd_ne n1]; exact upd_same, upd_same, small (by simp), fun U hU => ?_⟩
    have hE2 := (hE1.same (Same.new (o := .lst [.bl (decide (x = "NoNumber")), .bl (decide (x = "NotTaken")), .bl (decide (x = "NoRoad")), .bl (decide (x = "NoStock"))]) hM)).same (Same.new (o := .lst ([.bl (decide (x = "NoText")), .bl (decide (x = "NoPath")), .bl (decide (x = "NoBody")), .bl (decide (x = "NoFinder"))] ++ [.bl (decide (x = "NoNumber")), .bl (decide (x = "NotTaken")), .bl (decide (x = "NoRoad")), .bl (decide (x = "NoStock"))])) hU)
    refine ⟨_, rfl, _, rfl, a, ga K x, _, _, _, rfl, hE2, ec, .own _, kt "Fault" (by decide), _, rfl, a, ga K x, _, _, _, rfl, hE2, ec, .own _, kt "Failed" (by decide), small (by simp), fun V hV => ?_⟩
    have n2 : U ≠ V := ne_of_none upd_same hV
    refine ⟨U, V, _, _, rfl, rfl, by rw [upd_ne n2]; exact upd_same, upd_same, small (by simp), fun Z hZ => q _ Z ?_ upd_same⟩
    exact Same.trans (Same.new hL) (Same.trans (Same.new hM) (Same.trans (Same.new hU) (Same.trans (Same.new hV) (Same.new hZ))))
end
end K15
set_option maxHeartbeats 8000000
namespace K15
open PySem PySem.Spec PyProof.Rows L2 HM XV XS NdefX L2H
open L2N (Zn)
theorem kb_one : ∀ x ∈ cn, (kb x).count true = 1 := by decide +kernel
theorem kb_at {x : Str} {j : Nat} (h : cn[j]? = some x) : atI ((kb x).map V.bl) (j : Int) = some (.bl true) := by
  refine atI_nat ?_
  rw [List.getElem?_map, List.getElem?_map, h]
  show some (V.bl (decide (x = x))) = _
  rw [decide_eq_true rfl]
theorem kb_cnt {x : Str} (h : x ∈ cn) : decide (V.int (((kb x).count true : Nat) : Int) = V.int 1) = true := by
  rw [kb_one x h]
  rfl
theorem DiOk_same {H H' : Hp} {d : Option Addr} (s : Same H H') (h : DiOk H d) : DiOk H' d := by
  rcases h with h | ⟨dd, fs, h, e⟩
  · exact .inl h
  · exact .inr ⟨dd, fs, h, s _ _ e⟩
section
variable {w : World} {K : PySem.W.Frag} {mg : Str → Option Value} {base : Heap} {f fK : Addr} {fd fdK : FuncData}
def spIsKind (K : PySem.W.Frag) : Sp := fun vs H Q _ => ∃ (a : Addr) (j : Nat) (x : Str), vs = [.ref a, .int j] ∧ cn[j]? = some x ∧ ExAt H a (ga K x) ∧ ∀ H', Same H H' → Q (.bl true) H'
theorem ok_isKind (F : FnP K "_law_is_kind" sIsKind f fd) (FK : FnP K "_law_kinds" sKinds fK fdK) (gK : mg "_law_kinds" = some (.ref fK)) (CF : ClF K mg) (mi : mg "isinstance" = none) (mV : mg "ValueError" = none) : FnOk pr w K mg base CX0 2 f fd ["_law_e", "_law_k"] (spIsKind K) := by
  have GK : FnOk pr w K mg base CX0 1 fK fdK ["_law_e"] (spKinds K) := ok_kinds FK CF mi
  have bK : Binds K fdK ["_law_e"] [] := FK.bindsN fun _ _ _ _ _ _ us hl => match us, hl with | [_], _ => rfl
  refine ok_code F scIsKind (fun vs H Q E h => ?_) (fun cdv A outer s H vs Q E hcd hr h => ?_)
  · obtain ⟨a, j, x, rfl, _⟩ := h
    rfl
  · obtain ⟨a, j, x, rfl, hj, hE, q⟩ := h
    have hx : x ∈ cn := List.mem_of_getElem? hj
    have g : ∀ x ∈ ("MadeError" : Str) :: cn, mg x = some (.ref (ga K x)) := CF.glo
    refine ⟨_, pss_cons (ps_set (i := 2) scIsKind.nd rfl (.inl rfl) (pe_call GK hr (by rfl) gK FK.kp bK .nil pass0 (pa_cons (pv 0) pa_nil)))
      (pss_one (ps_ret (pe_and (pe_cmpR op_eq (pe_bm PySem.F.plainAttrs_list PySem.F.slot_list_count PySem.F.type_list_count mt_countB (pv 2) (pa_cons pe_bl pa_nil)) pe_int (nomark _))
        (pe_and (pe_ix ix_list (pv 2) (pv 1) (fun _ _ => rfl)) (pe_and (pe_callB call_isX (by rfl) mi (by decide +kernel) (pa_cons (pv 0) (pa_cons (pe_glob (v := .ref (ga K "MadeError")) (by rfl) (g "MadeError" (by decide)) rfl) pa_nil))) (pe_one (pe_callB call_isX (by rfl) mi (by decide +kernel) (pa_cons (pv 0) (pa_cons (pe_bltn (v := .ty "ValueError") (by rfl) mV (by decide +kernel) rfl) pa_nil))))))))), ?_⟩
    refine ⟨_, rfl, a, x, rfl, hx, hE, fun H1 U s1 eU => ?_⟩
    have hE1 := hE.same s1
    refine ⟨_, rfl, .inl ⟨rfl, _, SqL.of eU⟩, U, kb x, true, rfl, rfl, SqL.of eU, rfl, _, rfl, ?_⟩
    rw [kb_cnt hx]
    refine ⟨_, rfl, _, rfl, U, _, _, _, rfl, rfl, SqL.of eU, kb_at hj, _, rfl, _, rfl, a, ga K x, _, _, _, rfl, hE1, CF.ec x hx, .own _, CF.kitM x hx, _, rfl, _, rfl, a, ga K x, _, _, _, rfl, hE1, CF.ec x hx, .ty _, CF.kitV x hx, q H1 s1⟩
/-! ### .. of the exception that is handled -/
def spKindsQ (K : PySem.W.Frag) (p : Addr × Obj) : Sp := fun vs H Q _ => ∃ (x : Str) (d : Option Addr), vs = [.ref p.1] ∧ x ∈ cn ∧ Zn (.ref (ga K x)) d p.2 ∧ DiOk H d ∧ ∀ H' U, Same H H' → H' U = some (.lst ((kb x).map V.bl)) → Q (.ref U) H'
theorem ok_kindsQ (F : FnP K "_law_kinds" sKinds f fd) (CF : ClF K mg) (mi : mg "isinstance" = none) : FnQ pr w K mg base 1 f fd ["_law_e"] (spKindsQ K) := by
  refine okQ F scKinds (fun p vs H Q E h => ?_) (fun cdv A outer s H vs Q E p hot hr h => ?_)
  · obtain ⟨x, d, rfl, _⟩ := h
    rfl
  · obtain ⟨x, d, rfl, hx, hz, hd, q⟩ := h
    have g : ∀ x ∈ ("MadeError" : Str) :: cn, mg x = some (.ref (ga K x)) := CF.glo
    have pc : PnC (cxH CX0 pr w K mg base ["_law_e", "_law_some"] "_law_kinds" (defScope sKinds) f cdv A outer s H E p).nox p (ga K x) d := ⟨⟨hot.1, hot.2⟩, List.mem_cons_self, hz, hot.2.elim fun vs h => ⟨vs, h.1⟩⟩
    have ec := CF.ec x hx
    refine ⟨_, pss_cons (ps_set (i := 1) scKinds.nd rfl (.inl rfl) (pe_lst (pa_cons (pe_callB (call_isP pc ec) (by rfl) mi (by decide +kernel) (pa_cons (pv 0) (pa_cons (pe_glob (v := .ref (ga K "NoText")) (by rfl) (g "NoText" (by decide)) rfl) pa_nil))) (pa_cons (pe_callB (call_isP pc ec) (by rfl) mi (by decide +kernel) (pa_cons (pv 0) (pa_cons (pe_glob (v := .ref (ga K "NoPath")) (by rfl) (g "NoPath" (by decide)) rfl) pa_nil))) (pa_cons (pe_callB (call_isP pc ec) (by rfl) mi (by decide +kernel) (pa_cons (pv 0) (pa_cons (pe_glob (v := .ref (ga K "NoBody")) (by rfl) (g "NoBody" (by decide)) rfl) pa_nil))) (pa_cons (pe_callB (call_isP pc ec) (by rfl) mi (by decide +kernel) (pa_cons (pv 0) (pa_cons (pe_glob (v := .ref (ga K "NoFinder")) (by rfl) (g "NoFinder" (by decide)) rfl) pa_nil))) pa_nil))))))
      (pss_cons (ps_set (i := 1) scKinds.nd rfl (.inl rfl) (pe_op op_cat (pv 1) (pe_lst (pa_cons (pe_callB (call_isP pc ec) (by rfl) mi (by decide +kernel) (pa_cons (pv 0) (pa_cons (pe_glob (v := .ref (ga K "NoNumber")) (by rfl) (g "NoNumber" (by decide)) rfl) pa_nil))) (pa_cons (pe_callB (call_isP pc ec) (by rfl) mi (by decide +kernel) (pa_cons (pv 0) (pa_cons (pe_glob (v := .ref (ga K "NotTaken")) (by rfl) (g "NotTaken" (by decide)) rfl) pa_nil))) (pa_cons (pe_callB (call_isP pc ec) (by rfl) mi (by decide +kernel) (pa_cons (pv 0) (pa_cons (pe_glob (v := .ref (ga K "NoRoad")) (by rfl) (g "NoRoad" (by decide)) rfl) pa_nil))) (pa_cons (pe_callB (call_isP pc ec) (by rfl) mi (by decide +kernel) (pa_cons (pv 0) (pa_cons (pe_glob (v := .ref (ga K "NoStock")) (by rfl) (g "NoStock" (by decide)) rfl) pa_nil))) pa_nil)))))))
      (pss_one (ps_ret (pe_op op_cat (pv 1) (pe_lst (pa_cons (pe_callB (call_isP pc ec) (by rfl) mi (by decide +kernel) (pa_cons (pv 0) (pa_cons (pe_glob (v := .ref (ga K "Fault")) (by rfl) (g "Fault" (by decide)) rfl) pa_nil))) (pa_cons (pe_callB (call_isP pc ec) (by rfl) mi (by decide +kernel) (pa_cons (pv 0) (pa_cons (pe_glob (v := .ref (ga K "Failed")) (by rfl) (g "Failed" (by decide)) rfl) pa_nil))) pa_nil))))))), ?_⟩
    have small : ∀ {n : Nat}, n ≤ 1000 → n ≤ sizeLine := fun h => Nat.le_of_lt (small1000 h)
    have kt := CF.kit x hx
    refine ⟨_, rfl, _, _, _, rfl, hd, .own _, kt "NoText" (by decide), _, rfl, _, _, _, rfl, hd, .own _, kt "NoPath" (by decide), _, rfl, _, _, _, rfl, hd, .own _, kt "NoBody" (by decide), _, rfl, _, _, _, rfl, hd, .own _, kt "NoFinder" (by decide), small (by simp), fun L hL => ?_⟩
    have hE1 := DiOk_same (Same.new (o := .lst [.bl (decide (x = "NoText")), .bl (decide (x = "NoPath")), .bl (decide (x = "NoBody")), .bl (decide (x = "NoFinder"))]) hL) hd
    refine ⟨_, rfl, _, rfl, _, _, _, rfl, hE1, .own _, kt "NoNumber" (by decide), _, rfl, _, _, _, rfl, hE1, .own _, kt "NotTaken" (by decide), _, rfl, _, _, _, rfl, hE1, .own _, kt "NoRoad" (by decide), _, rfl, _, _, _, rfl, hE1, .own _, kt "NoStock" (by decide), small (by simp), fun M hM => ?_⟩
    have n1 : L ≠ M := ne_of_none upd_same hM
    refine ⟨L, M, _, _, rfl, rfl, by rw [upd_ne n1]; exact upd_same, upd_same, small (by simp), fun U hU => ?_⟩
    have hE2 := DiOk_same (Same.new (o := .lst ([.bl (decide (x = "NoText")), .bl (decide (x = "NoPath")), .bl (decide (x = "NoBody")), .bl (decide (x = "NoFinder"))] ++ [.bl (decide (x = "NoNumber")), .bl (decide (x = "NotTaken")), .bl (decide (x = "NoRoad")), .bl (decide (x = "NoStock"))])) hU) (DiOk_same (Same.new (o := .lst [.bl (decide (x = "NoNumber")), .bl (decide (x = "NotTaken")), .bl (decide (x = "NoRoad")), .bl (decide (x = "NoStock"))]) hM) hE1)
    refine ⟨_, rfl, _, rfl, _, _, _, rfl, hE2, .own _, kt "Fault" (by decide), _, rfl, _, _, _, rfl, hE2, .own _, kt "Failed" (by decide), small (by simp), fun V hV => ?_⟩
    have n2 : U ≠ V := ne_of_none upd_same hV
    refine ⟨U, V, _, _, rfl, rfl, by rw [upd_ne n2]; exact upd_same, upd_same, small (by simp), fun Z hZ => q _ Z ?_ upd_same⟩
    exact Same.trans (Same.new hL) (Same.trans (Same.new hM) (Same.trans (Same.new hU) (Same.trans (Same.new hV) (Same.new hZ))))
def spIsKindQ (K : PySem.W.Frag) (p : Addr × Obj) : Sp := fun vs H Q _ => ∃ (j : Nat) (x : Str) (d : Option Addr), vs = [.ref p.1, .int j] ∧ cn[j]? = some x ∧ Zn (.ref (ga K x)) d p.2 ∧ DiOk H d ∧ ∀ H', Same H H' → Q (.bl true) H'
theorem ok_isKindQ (F : FnP K "_law_is_kind" sIsKind f fd) (FK : FnP K "_law_kinds" sKinds fK fdK) (gK : mg "_law_kinds" = some (.ref fK)) (CF : ClF K mg) (mi : mg "isinstance" = none) (mV : mg "ValueError" = none) : FnQ pr w K mg base 2 f fd ["_law_e", "_law_k"] (spIsKindQ K) := by
  have GK : FnQ pr w K mg base 1 fK fdK ["_law_e"] (spKindsQ K) := ok_kindsQ FK CF mi
  have bK : Binds K fdK ["_law_e"] [] := FK.bindsN fun _ _ _ _ _ _ us hl => match us, hl with | [_], _ => rfl
  refine okQ F scIsKind (fun p vs H Q E h => ?_) (fun cdv A outer s H vs Q E p hot hr h => ?_)
  · obtain ⟨j, x, d, rfl, _⟩ := h
    rfl
  · obtain ⟨j, x, d, rfl, hj, hz, hd, q⟩ := h
    have hx : x ∈ cn := List.mem_of_getElem? hj
    have g : ∀ x ∈ ("MadeError" : Str) :: cn, mg x = some (.ref (ga K x)) := CF.glo
    have pc : PnC (cxH CX0 pr w K mg base ["_law_e", "_law_k", "_law_kinds_here"] "_law_is_kind" (defScope sIsKind) f cdv A outer s H E p).nox p (ga K x) d := ⟨⟨hot.1, hot.2⟩, List.mem_cons_self, hz, hot.2.elim fun vs h => ⟨vs, h.1⟩⟩
    have ec := CF.ec x hx
    refine ⟨_, pss_cons (ps_set (i := 2) scIsKind.nd rfl (.inl rfl) (pe_callQ GK hr pc.hot pc.mem (by rfl) gK FK.kp bK (pa_cons (pv 0) pa_nil)))
      (pss_one (ps_ret (pe_and (pe_cmpR op_eq (pe_bm PySem.F.plainAttrs_list PySem.F.slot_list_count PySem.F.type_list_count mt_countB (pv 2) (pa_cons pe_bl pa_nil)) pe_int (nomark _))
        (pe_and (pe_ix ix_list (pv 2) (pv 1) (fun _ _ => rfl)) (pe_and (pe_callB (call_isP pc ec) (by rfl) mi (by decide +kernel) (pa_cons (pv 0) (pa_cons (pe_glob (v := .ref (ga K "MadeError")) (by rfl) (g "MadeError" (by decide)) rfl) pa_nil))) (pe_one (pe_callB (call_isP pc ec) (by rfl) mi (by decide +kernel) (pa_cons (pv 0) (pa_cons (pe_bltn (v := .ty "ValueError") (by rfl) mV (by decide +kernel) rfl) pa_nil))))))))), ?_⟩
    refine ⟨_, rfl, x, d, rfl, hx, hz, hd, fun H1 U s1 eU => ?_⟩
    have hd1 := DiOk_same s1 hd
    refine ⟨_, rfl, .inl ⟨rfl, _, SqL.of eU⟩, U, kb x, true, rfl, rfl, SqL.of eU, rfl, _, rfl, ?_⟩
    rw [kb_cnt hx]
    refine ⟨_, rfl, _, rfl, U, _, _, _, rfl, rfl, SqL.of eU, kb_at hj, _, rfl, _, rfl, _, _, _, rfl, hd1, .own _, CF.kitM x hx, _, rfl, _, rfl, _, _, _, rfl, hd1, .ty _, CF.kitV x hx, q H1 s1⟩
end
end K15
set_option maxHeartbeats 8000000
namespace K15
open PySem PySem.Spec PyProof.Rows L2 HM XV XS NdefX L2H XT
open L2N (Zn)
structure XmF (K : PySem.W.Frag) : Prop where
  m1 : PySem.W.exmOne K (.ref (ga K "Fault")) (.ref (ga K "Failed")) = some false
  m2 : PySem.W.exmOne K (.ref (ga K "Fault")) (.ref (ga K "Fault")) = some true
  m3 : PySem.W.exmOne K (.ref (ga K "Failed")) (.ref (ga K "Fault")) = some false
  m4 : PySem.W.exmOne K (.ref (ga K "Failed")) (.ref (ga K "MadeError")) = some true
  m5 : PySem.W.exmOne K (.ref (ga K "NoStock")) (.ref (ga K "NoBody")) = some false
  m6 : PySem.W.exmOne K (.ref (ga K "NoStock")) (.ref (ga K "MadeError")) = some true
abbrev sFC : Stmt := top 22
abbrev sDC : Stmt := top 23
abbrev sSC : Stmt := top 24
theorem scFC : FnScope ["_law_fault_here", "_law_found", "_law_e"] ["_law_fault_here"] (defScope sFC) := ⟨rfl, rfl, rfl, by decide +kernel, rfl, by decide +kernel, by decide +kernel⟩
theorem scDC : FnScope ["_law_fault_here", "_law_road_here", "_law_found", "_law_e"] ["_law_fault_here", "_law_road_here"] (defScope sDC) := ⟨rfl, rfl, rfl, by decide +kernel, rfl, by decide +kernel, by decide +kernel⟩
theorem scSC : FnScope ["_law_found", "_law_e"] [] (defScope sSC) := ⟨rfl, rfl, rfl, by decide +kernel, rfl, by decide +kernel, by decide +kernel⟩
section
variable {H : Hp} {a dx l C p : Addr} {xs : List V} {fs : List (Str × V)}
theorem same_go {H1 H2 : Hp} (s : Same H1 H2) (h1 : H1 a = none) (h2 : H1 dx = none) : Same H1 (upd (del H2 a) dx (.xd fs)) := fun b u e => by
  rw [upd_ne (ne_of_none e h2), del_ne (ne_of_none e h1)]
  exact s b u e
theorem dx_none (h2 : upd H a (exo a C none) dx = none) (h3 : dx ≠ a) : H dx = none := by
  rw [upd_ne h3] at h2
  exact h2
end
theorem FltAt.dep {H : Hp} {F : Addr} {d : PyData} (h : FltAt H F d) : d.depth ≤ 4 := by
  rcases h with ⟨ss, e, rfl, hl, hs⟩ | ⟨a, b, c, T, xs, zs, e1, e2, r, rfl, ha, hb, hc, hl, hz⟩
  · have := (ds_strs hs).dp
    show PyData.depthAll (ss.map PyData.str) + 1 ≤ 4
    omega
  · have h1 := (ds_road hz).dp
    show max 0 (max 0 (max 0 (max (PyData.depthAll (zs.map rd) + 1) 0))) + 1 ≤ 4
    omega
theorem PE.weak {X : Cx} {e : Expr} {t t' : TE} (h : PE X e t) (k : ∀ σ H Q, t' σ H Q → t σ H Q) : PE X e t' := ⟨fun pins s σ H Q I q => h.run pins s σ H Q I (k σ H Q q)⟩
section
variable {w : World} {K : PySem.W.Frag} {mg : Str → Option Value} {base : Heap} {f fF fD fI fK : Addr} {fd fdF fdD fdI fdK : FuncData}
def spFC : Sp := fun vs H Q _ => ∃ (F : Addr) (d : PyData), vs = [.ref F] ∧ FltAt H F d ∧ ∀ H', Same H H' → Q (.bl true) H'
theorem ok_FC (F : FnP K "_law_fault_caught" sFC f fd) (CF : ClF K mg) (XF : XmF K) (IF : InF K "Fault" fF) (GF : FnG pr w K mg base CX0 1 fF fdF ["self", "fault"] (spIF K (ga K "Fault"))) (bF : Binds K fdF ["self", "fault"] []) :
    FnG pr w K mg base CX0 3 f fd ["_law_fault_here"] spFC := by
  refine okG F scFC (fun vs H Q E h => ?_) (fun cdv A outer s H vs Q E hcd hr hgd h => ?_)
  · obtain ⟨F, d, rfl, _⟩ := h
    rfl
  · obtain ⟨F, d, rfl, hF0, q⟩ := h
    have g : ∀ x ∈ ("MadeError" : Str) :: cn, mg x = some (.ref (ga K x)) := CF.glo
    refine ⟨_, PSs.nox (pss_cons (ps_set (i := 1) scFC.nd rfl (.inl rfl) pe_non)
      (pss_cons (ps_tryC (tb := fun W => fun _ σ H => tMkR (ga K "Fault") (spIF K (ga K "Fault")) (tCons (tVar 0) tNil) σ H fun cls d H' => W cls d σ H') rfl rfl scFC.nd takes_no
        (fun W pn xe hpn tk hpass => pss_one (L2N.ps_raise rfl tk (pmk_mkR IF.sc.oex IF.fi IF.ty GF hr hgd bF pass0 (by rfl) (g "Fault" (by decide)) (pa_cons (pv 0) pa_nil))))
        (.plain (ts := fun _ _ _ => tAsg (tC (.str "other")) (gName 1)) ⟨by rfl, by decide, .inl (g "Failed" (by decide))⟩ (fun a oe cls d pn hz hf => pss_one (ps_set (i := 1) scFC.nd rfl (.inl rfl) pe_str))
        (.named (i := 2) (ts := fun a cls d => tAsg (tTup (tCons (tC (.str "own")) (tCons (tXf a cls d (ga K "Fault") "fault" (tVar 2)) tNil))) (gName 1)) ⟨by rfl, by decide, .inl (g "Fault" (by decide))⟩ rfl rfl
          (fun a oe cls d pn hz hf => pss_one (ps_set (i := 1) scFC.nd rfl (.inl rfl) (pe_tup (pa_cons pe_str (pa_cons (pe_xf IF.xf IF.no1 hz.zc hf (pv 2)) pa_nil))))) .nil)))
      (pss_one (ps_ret (pe_cmpR (op_eqD hr.units) (pv 1) (pe_tup (pa_cons pe_str (pa_cons (pv 0) pa_nil))) (nomark _)))))), ?_⟩
    have small : ∀ {n : Nat}, n ≤ 1000 → n ≤ sizeLine := fun h => Nat.le_of_lt (small1000 h)
    refine ⟨_, rfl, by simp, fun a h1 => ⟨a, F, d, rfl, upd_same, (hF0.kt (Same.kt (Same.new h1))).dp, SmD.mono hF0.ok.sm (by decide), fun dx g1 n1 => ⟨rfl, dx, _, hF_a (p := F), hF_d n1, dx_none g1 n1, ?_⟩⟩⟩
    have s1 : Same H (upd (del (hF H a dx (ga K "Fault") F) a) dx (.xd [("fault", .ref F)])) := same_go (same_hF (p := F) h1 g1) h1 (dx_none g1 n1)
    refine ⟨false, XF.m1, fun _ => ⟨true, XF.m2, fun z => (by cases z), fun _ e he => ?_⟩, fun z => (by cases z)⟩
    refine ⟨_, rfl, rfl, rfl, dx, _, .ref F, rfl, upd_same, rfl, small (by simp), fun T hT => ?_⟩
    refine ⟨_, rfl, _, rfl, small (by simp), fun U hU => ?_⟩
    have s2 := Same.trans s1 (Same.new (o := .tup [.str (Str.ofString "own"), .ref F]) hT)
    have s3 := Same.trans s2 (Same.new (o := .tup [.str (Str.ofString "own"), .ref F]) hU)
    have hF3 := hF0.kt (Same.kt s3)
    have okO : okN (Str.ofString "own") := ⟨by decide +kernel, by unfold okS; decide +kernel⟩
    have dd : DOk 200 (.tuple [.str (Str.ofString "own"), d]) := (d_tup (m := 58) (ds_cons (d_name okO) (by decide) (ds_cons hF3.ok (Nat.le_trans hF3.dep (by decide)) (ds_nil 58))) (by decide)).mono (by decide)
    refine ⟨.tuple [.str (Str.ofString "own"), d], .tuple [.str (Str.ofString "own"), d], .tup (SqT.of (by rw [upd_ne (ne_of_none upd_same hU)]; exact upd_same)) (.cons (.str _) (.cons hF3.dp .nil)), .tup (SqT.of upd_same) (.cons (.str _) (.cons hF3.dp .nil)), dd.shaped, dd.shaped, ?_⟩
    rw [SeqAt.eqv_refl _ dd.cl]
    exact q _ s3
end
end K15
set_option maxHeartbeats 8000000
namespace K15
open PySem PySem.Spec PyProof.Rows L2 HM XV XS NdefX L2H XT
open L2N (Zn)
theorem hot_suite {A : Around} {a : Addr} {oe : Obj} {cls : Value} {d : Option Addr} (hz : Zn cls d oe) (hf : ∃ vs, oe.data = .fields vs) : Hot1 (A.mark (some (.ref a))) (a, oe) := by
  obtain ⟨vs, h⟩ := hf
  exact ⟨rfl, vs, h, hz.2.2 vs h⟩
section
variable {w : World} {K : PySem.W.Frag} {mg : Str → Option Value} {base : Heap} {f fF fD fI fK : Addr} {fd fdF fdD fdI fdK : FuncData}
def spDC : Sp := fun vs H Q _ => ∃ (F R : Addr) (d : PyData) (zs : List (Str × Int)), vs = [.ref F, .ref R] ∧ FltAt H F d ∧ RdAt H R zs ∧ ∀ H', Same H H' → Q (.bl true) H'
theorem ok_DC (F : FnP K "_law_failed_caught" sDC f fd) (CF : ClF K mg) (XF : XmF K) (ID : InF K "Failed" fD) (GD : FnG pr w K mg base CX0 1 fD fdD ["self", "fault", "road"] (spID K (ga K "Failed"))) (bD : Binds K fdD ["self", "fault", "road"] [])
    (FI : FnP K "_law_is_kind" sIsKind fI fdI) (gI : mg "_law_is_kind" = some (.ref fI)) (FK : FnP K "_law_kinds" sKinds fK fdK) (gK : mg "_law_kinds" = some (.ref fK)) (mi : mg "isinstance" = none) (mV : mg "ValueError" = none) :
    FnG pr w K mg base CX0 3 f fd ["_law_fault_here", "_law_road_here"] spDC := by
  have GI : FnQ pr w K mg base 2 fI fdI ["_law_e", "_law_k"] (spIsKindQ K) := ok_isKindQ FI FK gK CF mi mV
  have bI : Binds K fdI ["_law_e", "_law_k"] [] := FI.bindsN fun _ _ _ _ _ _ us hl => match us, hl with | [_, _], _ => rfl
  refine okG F scDC (fun vs H Q E h => ?_) (fun cdv A outer s H vs Q E hcd hr hgd h => ?_)
  · obtain ⟨F, R, d, zs, rfl, _⟩ := h
    rfl
  · obtain ⟨F, R, d, zs, rfl, hF0, hR0, q⟩ := h
    have g : ∀ x ∈ ("MadeError" : Str) :: cn, mg x = some (.ref (ga K x)) := CF.glo
    refine ⟨_, PSs.nox (pss_cons (ps_set (i := 2) scDC.nd rfl (.inl rfl) pe_non)
      (pss_cons (ps_tryC (tb := fun W => fun _ σ H => tMkR (ga K "Failed") (spID K (ga K "Failed")) (tCons (tVar 0) (tCons (tVar 1) tNil)) σ H fun cls d H' => W cls d σ H') rfl rfl scDC.nd takes_no
        (fun W pn xe hpn tk hpass => pss_one (L2N.ps_raise rfl tk (pmk_mkR ID.sc.oex ID.fi ID.ty GD hr hgd bD pass0 (by rfl) (g "Failed" (by decide)) (pa_cons (pv 0) (pa_cons (pv 1) pa_nil)))))
        (.plain (ts := fun _ _ _ => tAsg (tC (.str "other")) (gName 2)) ⟨by rfl, by decide, .inl (g "Fault" (by decide))⟩ (fun a oe cls d pn hz hf => pss_one (ps_set (i := 2) scDC.nd rfl (.inl rfl) pe_str))
        (.named (i := 3) (ts := fun a cls d => tAsg (fun σ H Q => ∀ oe, Zn cls d oe → tCall (spIsKindQ K (a, oe)) [] E0 (tCons (tVar 3) (tCons (tC (.int 9)) tNil)) σ H Q) (gName 2)) ⟨by rfl, by decide, .inl (g "MadeError" (by decide))⟩ rfl rfl
          (fun a oe cls d pn hz hf => pss_one (ps_set (i := 2) scDC.nd rfl (.inl rfl) (PE.weak (pe_callQ (p := (a, oe)) GI (roomH_mark hr _) (hot_suite hz hf) List.mem_cons_self (by rfl) gI FI.kp bI (pa_cons (pv 3) (pa_cons pe_int pa_nil))) fun σ H Q h => h oe hz))) .nil)))
      (pss_one (ps_ret (pe_cmpR op_isBl (pv 2) pe_bl (nomark _)))))), ?_⟩
    obtain ⟨xs, eR, rR⟩ := hR0.ex
    refine ⟨_, rfl, _, rfl, by simp, fun a h1 => ?_⟩
    have sN : Same H (upd H a (exo a (ga K "Failed") none)) := Same.new h1
    refine ⟨a, F, R, d, .list (zs.map rd), xs, rfl, upd_same, (hF0.kt (Same.kt sN)).dp, SmD.mono hF0.ok.sm (by decide), (hR0.same sN).dp, SmD.mono (rd_ok hR0.len hR0.ok).sm (by decide), SqL.of (sN _ _ eR), fun dx l g1 n1 k1 => ⟨rfl, dx, _, hD_a (p := F) n1 k1, hD_d, dx_none g1 n1, ?_⟩⟩
    have s1 : Same H (upd (del (hD H a dx l (ga K "Failed") F xs) a) dx (.xd [("road", .ref l), ("fault", .ref F)])) := same_go (same_hD (p := F) h1 g1 n1 k1) h1 (dx_none g1 n1)
    refine ⟨false, XF.m3, fun _ => ⟨true, XF.m4, fun z => (by cases z), fun _ e he => ?_⟩, fun z => (by cases z)⟩
    refine fun oe hz => ⟨_, rfl, 9, "Failed", some dx, rfl, rfl, hz, .inr ⟨dx, _, rfl, upd_same⟩, fun H2 s2 => ?_⟩
    refine ⟨_, rfl, true, true, rfl, rfl, ?_⟩
    rw [decide_eq_true rfl]
    exact q H2 (Same.trans s1 s2)
def spSC : Sp := fun vs H Q _ => vs = [] ∧ ∀ H', Same H H' → Q (.bl true) H'
theorem ok_SC (F : FnP K "_law_stock_caught" sSC f fd) (CF : ClF K mg) (XF : XmF K) (FI : FnP K "_law_is_kind" sIsKind fI fdI) (gI : mg "_law_is_kind" = some (.ref fI)) (FK : FnP K "_law_kinds" sKinds fK fdK) (gK : mg "_law_kinds" = some (.ref fK)) (mi : mg "isinstance" = none) (mV : mg "ValueError" = none) :
    FnG pr w K mg base CX0 3 f fd [] spSC := by
  have GI : FnQ pr w K mg base 2 fI fdI ["_law_e", "_law_k"] (spIsKindQ K) := ok_isKindQ FI FK gK CF mi mV
  have bI : Binds K fdI ["_law_e", "_law_k"] [] := FI.bindsN fun _ _ _ _ _ _ us hl => match us, hl with | [_, _], _ => rfl
  refine okG F scSC (fun vs H Q E h => ?_) (fun cdv A outer s H vs Q E hcd hr hgd h => ?_)
  · obtain ⟨rfl, _⟩ := h
    rfl
  · obtain ⟨rfl, q⟩ := h
    have g : ∀ x ∈ ("MadeError" : Str) :: cn, mg x = some (.ref (ga K x)) := CF.glo
    refine ⟨_, PSs.nox (pss_cons (ps_set (i := 0) scSC.nd rfl (.inl rfl) pe_non)
      (pss_cons (ps_tryC (tb := fun W => fun _ σ H => W (.ref (ga K "NoStock")) none σ H) rfl rfl scSC.nd takes_no
        (fun W pn xe hpn tk hpass => pss_one (L2N.ps_raise rfl tk (L2N.pmk_own PySem.F.excBase_ValueError (CF.exc "NoStock" (by decide)) (g "NoStock" (by decide)) (CF.kp "NoStock" (by decide)) (raises_own (CF.sb "NoStock" (by decide)) (CF.ty "NoStock" (by decide))) (by rfl))))
        (.plain (ts := fun _ _ _ => tAsg (tC (.str "other")) (gName 0)) ⟨by rfl, by decide, .inl (g "NoBody" (by decide))⟩ (fun a oe cls d pn hz hf => pss_one (ps_set (i := 0) scSC.nd rfl (.inl rfl) pe_str))
        (.named (i := 1) (ts := fun a cls d => tAsg (fun σ H Q => ∀ oe, Zn cls d oe → tCall (spIsKindQ K (a, oe)) [] E0 (tCons (tVar 1) (tCons (tC (.int 7)) tNil)) σ H Q) (gName 0)) ⟨by rfl, by decide, .inl (g "MadeError" (by decide))⟩ rfl rfl
          (fun a oe cls d pn hz hf => pss_one (ps_set (i := 0) scSC.nd rfl (.inl rfl) (PE.weak (pe_callQ (p := (a, oe)) GI (roomH_mark hr _) (hot_suite hz hf) List.mem_cons_self (by rfl) gI FI.kp bI (pa_cons (pv 1) (pa_cons pe_int pa_nil))) fun σ H Q h => h oe hz))) .nil)))
      (pss_one (ps_ret (pe_cmpR op_isBl (pv 0) pe_bl (nomark _)))))), ?_⟩
    refine ⟨false, XF.m5, fun _ => ⟨true, XF.m6, fun z => (by cases z), fun _ e he => ?_⟩, fun z => (by cases z)⟩
    refine fun oe hz => ⟨_, rfl, 7, "NoStock", none, rfl, rfl, hz, .inl rfl, fun H2 s2 => ?_⟩
    refine ⟨_, rfl, true, true, rfl, rfl, ?_⟩
    rw [decide_eq_true rfl]
    exact q H2 s2
end
end K15
set_option maxHeartbeats 8000000
namespace K15
open PySem PySem.Spec PyProof.Rows L2 HM XV XS NdefX L2H XT
abbrev sLaw : Stmt := top 25
abbrev nLaw : List Str := ["_law_script", "_law_k", "_law_pot_here", "_law_fault_here", "_law_road_here", "_law_handed", "_law_one", "_law_other", "_law_j"]
theorem scLaw : FnScope nLaw ["_law_script"] (defScope sLaw) := ⟨rfl, rfl, rfl, by decide +kernel, rfl, by decide +kernel, by decide +kernel⟩
def rLst (K : PySem.W.Frag) : List V → Hp → VK → Prop := fun xs H Q => ∃ p ys, xs = [.ref p] ∧ (SqL K H p ys ∨ SqT K H p ys) ∧ ∀ l, H l = none → Q (.ref l) (upd H l (.lst ys))
theorem Same.seq {K : PySem.W.Frag} {H H1 : Hp} {p : Addr} {xs : List V} (a : Same H H1) (h : SqL K H p xs) : SqL K H1 p xs := by
  rcases h with (h | ⟨o, h⟩) | h
  · exact .inl (.inl (a _ _ h))
  · exact .inl (.inr ⟨o, a _ _ h⟩)
  · exact .inr h
theorem Same.of_ch {H H' : Hp} {l : Addr} {o : HO} (hl : H l = none) (c : Ch l (upd H l o) H') : Same H H' := fun b u e => by
  have n : b ≠ l := ne_of_none e hl
  exact c b u (by rw [upd_ne n]; exact e) n
section
variable {w : World} {K : PySem.W.Frag} {mg : Str → Option Value} {base : Heap} {f fF fD fI fM fO fL fR fC fE fS : Addr} {fd fdF fdD fdI fdM fdO fdL fdR fdC fdE fdS : FuncData}
def spLaw (K : PySem.W.Frag) : Sp := fun vs H Q _ => ∃ (a : Addr) (ns : List Int), vs = [.ref a] ∧ SqL K H a (ns.map V.int) ∧ ns.length ≤ 63 ∧ ∀ H', Q (.bl true) H'
theorem ok_law (F : FnP K "law" sLaw f fd) (CF : ClF K mg) (IF : InF K "Fault" fF) (ID : InF K "Failed" fD)
    (GF : FnG pr w K mg base CX0 1 fF fdF ["self", "fault"] (spIF K (ga K "Fault"))) (bF : Binds K fdF ["self", "fault"] []) (GD : FnG pr w K mg base CX0 1 fD fdD ["self", "fault", "road"] (spID K (ga K "Failed"))) (bD : Binds K fdD ["self", "fault", "road"] [])
    (GI : FnOk pr w K mg base CX0 2 fI fdI ["_law_e", "_law_k"] (spIsKind K)) (FI : FnP K "_law_is_kind" sIsKind fI fdI) (gI : mg "_law_is_kind" = some (.ref fI))
    (GM : FnG pr w K mg base CX0 3 fM fdM ["_law_k", "_law_fault_here", "_law_road_here"] (spMade K)) (FM : FnP K "_law_made" sMade fM fdM) (gM : mg "_law_made" = some (.ref fM))
    (GO : FnOk pr w K mg base CX0 2 fO fdO ["_law_script", "_law_k"] (spPot K)) (FO : FnP K "_law_pot" sPot fO fdO) (gO : mg "_law_pot" = some (.ref fO))
    (GL : FnOk pr w K mg base CX0 4 fL fdL ["_law_pot_here"] spFl) (FL : FnP K "_law_fault" sFault fL fdL) (gL : mg "_law_fault" = some (.ref fL))
    (GR : FnOk pr w K mg base CX0 3 fR fdR ["_law_pot_here"] spRd) (FR : FnP K "_law_road" sRoad fR fdR) (gR : mg "_law_road" = some (.ref fR))
    (GC : FnG pr w K mg base CX0 3 fC fdC ["_law_fault_here"] spFC) (FC : FnP K "_law_fault_caught" sFC fC fdC) (gC : mg "_law_fault_caught" = some (.ref fC))
    (GE : FnG pr w K mg base CX0 3 fE fdE ["_law_fault_here", "_law_road_here"] spDC) (FE : FnP K "_law_failed_caught" sDC fE fdE) (gE : mg "_law_failed_caught" = some (.ref fE))
    (GS : FnG pr w K mg base CX0 3 fS fdS [] spSC) (FS : FnP K "_law_stock_caught" sSC fS fdS) (gS : mg "_law_stock_caught" = some (.ref fS))
    (ml : mg "len" = none) (mr : mg "range" = none) (mx : mg "max" = none) (mn : mg "min" = none) (ma : mg "all" = none) (mt : mg "list" = none) : FnG pr w K mg base CX0 5 f fd ["_law_script"] (spLaw K) := by
  have bI : Binds K fdI ["_law_e", "_law_k"] [] := FI.bindsN fun _ _ _ _ _ _ us hl => match us, hl with | [_, _], _ => rfl
  have bM : Binds K fdM ["_law_k", "_law_fault_here", "_law_road_here"] [] := FM.bindsN fun _ _ _ _ _ _ us hl => match us, hl with | [_, _, _], _ => rfl
  have bO : Binds K fdO ["_law_script", "_law_k"] [] := FO.bindsN fun _ _ _ _ _ _ us hl => match us, hl with | [_, _], _ => rfl
  have bL : Binds K fdL ["_law_pot_here"] [] := FL.bindsN fun _ _ _ _ _ _ us hl => match us, hl with | [_], _ => rfl
  have bR : Binds K fdR ["_law_pot_here"] [] := FR.bindsN fun _ _ _ _ _ _ us hl => match us, hl with | [_], _ => rfl
  have bC : Binds K fdC ["_law_fault_here"] [] := FC.bindsN fun _ _ _ _ _ _ us hl => match us, hl with | [_], _ => rfl
  have bE : Binds K fdE ["_law_fault_here", "_law_road_here"] [] := FE.bindsN fun _ _ _ _ _ _ us hl => match us, hl with | [_, _], _ => rfl
  have bS : Binds K fdS [] [] := FS.bindsN fun _ _ _ _ _ _ us hl => match us, hl with | [], _ => rfl
  refine okG F scLaw (fun vs H Q E h => ?_) (fun cdv A outer s H vs Q E hcd hr hgd h => ?_)
  · obtain ⟨a, ns, rfl, _⟩ := h
    rfl
  · obtain ⟨a, ns, rfl, hS, hl, q⟩ := h
    have g : ∀ x ∈ ("MadeError" : Str) :: cn, mg x = some (.ref (ga K x)) := CF.glo
    have hr3 : Room 3 (A.deeper (envOfC "law" (defScope sLaw) s.heap.objs.size f cdv)) := hr.mono (by decide)
    have hr2 : Room 2 (A.deeper (envOfC "law" (defScope sLaw) s.heap.objs.size f cdv)) := hr.mono (by decide)
    refine ⟨_, PSs.nox (pss_cons (ps_for PassesOwn.never rfl (pi_range1 (by rfl) mr (pa_cons (pe_callB (call_max2 rfl) (by rfl) mx (by decide +kernel) (pa_cons pe_int (pa_cons (pe_callB (call_min2 rfl) (by rfl) mn (by decide +kernel)
            (pa_cons pe_int (pa_cons (pe_callB call_len_seq (by rfl) ml PySem.boot_len (pa_cons (pv 0) pa_nil)) pa_nil))) pa_nil))) pa_nil)) (pg_name (i := 1) scLaw.nd rfl (.inl rfl))
          (pss_cons (ps_set (i := 2) scLaw.nd rfl (.inl rfl) (pe_call GO hr2 (by rfl) gO FO.kp bO .nil pass0 (pa_cons (pv 0) (pa_cons (pv 1) pa_nil))))
          (pss_cons (ps_asg (pe_tup (pa_cons (pe_call GL hr (by rfl) gL FL.kp bL .nil pass0 (pa_cons (pv 2) pa_nil)) (pa_cons (pe_call GR hr3 (by rfl) gR FR.kp bR .nil pass0 (pa_cons (pv 2) pa_nil)) pa_nil))) (pg_tup (by rfl) (pgs_cons (pg_name (i := 3) scLaw.nd rfl (.inr rfl)) (pgs_cons (pg_name (i := 4) scLaw.nd rfl (.inr rfl)) pgs_nil))))
          (pss_cons (ps_if (pt_not (pt_val (pe_callB (cr_all rfl) (by rfl) ma (by decide +kernel) (pa_cons (by exact (pe_lc (own := [("_law_j", 8)]) (g := gName 8) (tt := tYes)
              (te := tCall (spIsKind K) [] E0 (tCons (tCall (spMade K) [] E0 (tCons (tVar 8) (tCons (tVar 3) (tCons (tCB (rLst K) (tCons (tVar 4) tNil)) tNil)))) (tCons (tVar 8) tNil))) (by rfl) scLaw.nd (pi_range1 (by rfl) mr (pa_cons pe_int pa_nil))
              (blkOk_by (own := [("_law_j", 8)]) (N := nLaw) (sc := defScope sLaw) (by decide +kernel)) (fun _ _ _ _ _ => pg_name (i := 8) scLaw.nd rfl (Or.inl rfl)) (fun _ _ _ _ _ => pts_nil)
              (fun _ _ _ _ _ => by exact (pe_call GI hr2 (by rfl) gI FI.kp bI .nil pass0 (pa_cons (pe_callG GM hr3 hgd (by rfl) gM FM.kp bM .nil pass0 (pa_cons (pv 8) (pa_cons (pv 3) (pa_cons (pe_callTy call_list_of (by rfl) mt (by decide +kernel) (pa_cons (pv 4) pa_nil)) pa_nil)))) (pa_cons (pv 8) pa_nil)))))) pa_nil)))) (pss_one (ps_ret pe_bl)) pss_nil)
          (pss_cons (ps_set (i := 5) scLaw.nd rfl (.inl rfl) (pe_callTy call_list_of (by rfl) mt (by decide +kernel) (pa_cons (pv 4) pa_nil)))
          (pss_cons (ps_par (i := 6) (j := 7) rfl scLaw.nd rfl rfl (by decide) rfl rfl (pa_cons (pe_mkV IF.sc.oex IF.fi IF.ty GF hr2 hgd bF pass0 (by rfl) (g "Fault" (by decide)) (pa_cons (pv 3) pa_nil)) (pa_cons (pe_mkV ID.sc.oex ID.fi ID.ty GD hr2 hgd bD pass0 (by rfl) (g "Failed" (by decide)) (pa_cons (pv 3) (pa_cons (pv 5) pa_nil))) pa_nil)) (by rfl))
          (pss_cons (ps_expr (pe_bm PySem.F.plainAttrs_list PySem.F.slot_list_append PySem.F.type_list_append mt_append (pv 5) (pa_cons (pe_tup (pa_cons pe_str (pa_cons pe_int pa_nil))) pa_nil)))
          (pss_cons (ps_if (PW.pt (pw_or (pt_cmpR (op_neD hr.units) (pe_xg (pv 6)) (pv 3) (nomark _)) (pw_or (pt_cmpR (op_neD hr.units) (pe_xg (pv 7)) (pv 3) (nomark _)) (pw_or1 (pt_cmpR (op_neD hr.units) (pe_xg (pv 7)) (pv 4) (nomark _)))))) (pss_one (ps_ret pe_bl)) pss_nil)
          (pss_one (ps_if (PW.pt (pw_or (pt_not (pt_val (pe_callG GC hr3 hgd (by rfl) gC FC.kp bC .nil pass0 (pa_cons (pv 3) pa_nil)))) (pw_or1 (pt_not (pt_val (pe_callG GE hr3 hgd (by rfl) gE FE.kp bE .nil pass0 (pa_cons (pv 3) (pa_cons (pe_callTy call_list_of (by rfl) mt (by decide +kernel) (pa_cons (pv 4) pa_nil)) pa_nil))))))))
            (pss_one (ps_ret pe_bl)) pss_nil))))))))))
      (pss_one (ps_ret (pe_callG0 GS hr3 hgd (by rfl) gS FS.kp bS .nil pass0)))), ?_⟩
    have small : ∀ {n : Nat}, n ≤ 1000 → n ≤ sizeLine := fun h => Nat.le_of_lt (small1000 h)
    have hbl : ((ns.map V.int).length : Int) ≤ 63 := by
      rw [List.length_map]
      omega
    refine ⟨_, rfl, a, _, rfl, .inl hS, _, _, rfl, _, _, rfl, _, rfl, ?_, ?_, for_it walk_range (fun i σ H' => ∃ v1 v2 v3 v4 v5 v6 v7 : Option V, σ = [some (.ref a), v1, v2, v3, v4, v5, v6, v7, none] ∧ Same H H') ⟨none, none, none, none, none, none, none, rfl, Same.refl _⟩ (fun _ _ _ _ _ => trivial) ?_ ?_⟩
    · split <;> split <;> omega
    · split <;> split <;> omega
    · rintro i x σ H1 H2 hi ⟨v1, v2, v3, v4, v5, v6, v7, rfl, s1⟩ ⟨rfl, rfl⟩
      have hi100 : i ≤ 100 := by
        split at hi <;> split at hi <;> omega
      refine ⟨_, rfl, _, rfl, a, ns, i, ?_, hi100, Same.seq s1 hS, fun l p0 p1 hl0 pk => ?_⟩
      · show [V.ref a, V.int (0 + (i : Int))] = [V.ref a, V.int (i : Int)]
        rw [Int.zero_add]
      have hP2 : PotAt (upd H2 l (.lst [.int p0, .int p1])) l := ⟨p0, p1, upd_same, pk⟩
      refine ⟨_, rfl, l, rfl, hP2, fun H3 F d c3 hP3 hF3 => ?_⟩
      refine ⟨_, rfl, l, rfl, hP3, fun H4 R xs zs c4 hP4 fR eR r4 hn ho => ⟨small (by simp), fun T hT => ?_⟩⟩
      have s4 : Same H2 H4 := Same.of_ch hl0 (Ch.trans c3 c4)
      have hF4 : FltAt H4 F d := hF3.kt (hP3.kt c4)
      have hR4 : RdAt H4 R zs := ⟨⟨xs, eR, r4⟩, by omega, ho⟩
      refine ⟨T, _, rfl, SqT.of upd_same, rfl, _, _, rfl, _, _, rfl, rfl, ?_⟩
      have s5 : Same H2 (upd H4 T (.tup [.ref F, .ref R])) := Same.trans s4 (Same.new hT)
      have hF5 : FltAt (upd H4 T (.tup [.ref F, .ref R])) F d := hF4.kt (KT.new hT)
      have hR5 : RdAt (upd H4 T (.tup [.ref F, .ref R])) R zs := hR4.same (Same.new hT)
      obtain ⟨H5, e5⟩ : ∃ H5, upd H4 T (.tup [.ref F, .ref R]) = H5 := ⟨_, rfl⟩
      rw [e5] at s5 hF5 hR5 ⊢
      refine ⟨_, rfl, by decide, by decide, fun D hD => ?_⟩
      refine lc_range (lo := 0) (n := 10) (fun i H' => Same H5 H' ∧ ∃ bs : List Bool, bs.length = i ∧ bs.all id = true ∧ H' D = some (.lst (bs.map V.bl))) ⟨Same.new hD, [], rfl, rfl, upd_same⟩ ?_ ?_
      · rintro j H6 hj ⟨s6, bs, f1, f2, f3⟩
        obtain ⟨ys, eR6, rR6⟩ := (hR5.same s6).ex
        refine ⟨rfl, _, rfl, _, rfl, _, rfl, R, ys, rfl, .inl (SqL.of eR6), fun l2 hl2 => ?_⟩
        have s7 : Same H6 (upd H6 l2 (.lst ys)) := Same.new hl2
        obtain ⟨x, hx⟩ : ∃ x, cn[j]? = some x := ⟨cn[j]'hj, List.getElem?_eq_getElem hj⟩
        refine ⟨j, x, F, l2, d, zs, ?_, hx, (hF5.kt (Same.kt s6)).kt (Same.kt s7), ⟨⟨ys, upd_same, rR6.kt (Same.kt s7)⟩, hR5.len, hR5.ok⟩, fun H8 b s8 x8 => ?_⟩
        · show [V.int (0 + (j : Int)), V.ref F, V.ref l2] = [V.int (j : Int), V.ref F, V.ref l2]
          rw [Int.zero_add]
        refine ⟨_, rfl, b, j, x, ?_, hx, x8, fun H9 s9 => ?_⟩
        · show [V.ref b, V.int (0 + (j : Int))] = [V.ref b, V.int (j : Int)]
          rw [Int.zero_add]
        have sD : Same H6 H9 := Same.trans s7 (Same.trans s8 s9)
        refine ⟨bs.map V.bl, sD _ _ f3, ?_, ?_, bs ++ [true], ?_, ?_, ?_⟩
        · rw [List.length_map, f1]
          exact small1000 (by omega)
        · intro c u e
          rw [upd_ne (ne_of_none e hD)]
          exact sD c u (s6 c u e)
        · rw [List.length_append, f1]
          rfl
        · rw [List.all_append, f2]
          rfl
        · rw [upd_same]
          exact congrArg (fun z => some (HO.lst z)) (map_snoc V.bl bs true)
      · rintro H6 ⟨s6, bs, f1, f2, f3⟩
        refine ⟨D, bs, rfl, SqL.of f3, _, rfl, ?_⟩
        rw [f2]
        obtain ⟨ys, eR6, rR6⟩ := (hR5.same s6).ex
        refine ⟨_, rfl, R, ys, rfl, .inl (SqL.of eR6), fun hd hhd => ?_⟩
        have s7 : Same H5 (upd H6 hd (.lst ys)) := Same.trans s6 (Same.new hhd)
        obtain ⟨H7, e7⟩ : ∃ H7, upd H6 hd (.lst ys) = H7 := ⟨_, rfl⟩
        have eh7 : H7 hd = some (.lst ys) := by
          rw [← e7]
          exact upd_same
        rw [e7] at s7 ⊢
        have hF7 : FltAt H7 F d := hF5.kt (Same.kt s7)
        have hR7 : RdAt H7 R zs := hR5.same s7
        refine ⟨_, rfl, by simp, fun a1 h1 => ⟨a1, F, d, rfl, upd_same, (hF7.kt (KT.new h1)).dp, SmD.mono hF7.ok.sm (by decide), fun d1 g1 n1 => ⟨rfl, ?_⟩⟩⟩
        obtain ⟨H8, e8⟩ : ∃ H8, upd (upd (upd H7 a1 (exo a1 (ga K "Fault") none)) d1 (exd d1 [("fault", .ref F)])) a1 (exo a1 (ga K "Fault") (some d1)) = H8 := ⟨_, rfl⟩
        have s8 : Same H7 H8 := by
          rw [← e8]
          exact same_hF (p := F) h1 g1
        have x8 : H8 a1 = some (exo a1 (ga K "Fault") (some d1)) := by
          rw [← e8]
          exact hF_a (p := F)
        have y8 : H8 d1 = some (exd d1 [("fault", .ref F)]) := by
          rw [← e8]
          exact hF_d n1
        rw [e8]
        have hF8 : FltAt H8 F d := hF7.kt (Same.kt s8)
        have hR8 : RdAt H8 R zs := hR7.same s8
        have eh8 := s8 _ _ eh7
        refine ⟨_, rfl, _, rfl, by simp, fun a2 h2 => ?_⟩
        have sN : Same H8 (upd H8 a2 (exo a2 (ga K "Failed") none)) := Same.new h2
        have rdh : RdAt H8 hd zs := ⟨⟨ys, eh8, (rR6.kt (by rw [← e7] at s8; exact (KT.new hhd).trans (Same.kt s8)))⟩, hR5.len, hR5.ok⟩
        refine ⟨a2, F, hd, d, .list (zs.map rd), ys, rfl, upd_same, (hF8.kt (Same.kt sN)).dp, SmD.mono hF8.ok.sm (by decide), (rdh.same sN).dp, SmD.mono (rd_ok hR5.len hR5.ok).sm (by decide), SqL.of (sN _ _ eh8), fun d2 l2 g2 n2 k2 => ⟨rfl, ?_⟩⟩
        obtain ⟨H9, e9⟩ : ∃ H9, upd (upd (upd (upd (upd H8 a2 (exo a2 (ga K "Failed") none)) d2 (exd d2 [("fault", .ref F)])) a2 (exo a2 (ga K "Failed") (some d2))) l2 (.lst ys)) d2 (exd d2 [("road", .ref l2), ("fault", .ref F)]) = H9 := ⟨_, rfl⟩
        have s9 : Same H8 H9 := by
          rw [← e9]
          exact same_hD (p := F) h2 g2 n2 k2
        have x9 : H9 a2 = some (exo a2 (ga K "Failed") (some d2)) := by
          rw [← e9]
          exact hD_a (p := F) n2 k2
        have y9 : H9 d2 = some (exd d2 [("road", .ref l2), ("fault", .ref F)]) := by
          rw [← e9]
          exact hD_d (p := F)
        have z9 : H9 l2 = some (.lst ys) := by
          rw [← e9]
          exact hD_l (p := F) n2 k2
        rw [e9]
        have eh9 := s9 _ _ eh8
        have nl2 : hd ≠ l2 := ne_of_none (same_hF (p := F) h2 g2 _ _ eh8) k2
        refine ⟨_, _, rfl, _, rfl, .inl ⟨rfl, _, SqL.of eh9⟩, small (by simp), fun T2 hT2 => ?_⟩
        have nT2 : hd ≠ T2 := ne_of_none eh9 hT2
        have hys : ys.length ≤ 5 := by
          rw [rR6.len]
          exact hR5.len
        refine ⟨hd, ys, _, rfl, rfl, by rw [upd_ne nT2]; exact eh9, small1000 (by omega), ?_⟩
        obtain ⟨H11, e11⟩ : ∃ H11, upd (upd H9 T2 (.tup [.str (Str.ofString "a"), .int 0])) hd (.lst (ys ++ [.ref T2])) = H11 := ⟨_, rfl⟩
        have c11 : Ch hd H9 H11 := by
          rw [← e11]
          intro b u e nb
          rw [upd_ne nb, upd_ne (ne_of_none e hT2)]
          exact e
        rw [e11]
        have nob : ∀ {b : Addr} {u : HO}, H9 b = some u → (∀ zs, u ≠ .lst zs) → b ≠ hd := fun {b u} e n z => by
          rw [z, eh9] at e
          exact n _ (Option.some.inj e).symm
        have k11 : KT H9 H11 := KT.of_ch eh9 c11
        have hF11 : FltAt H11 F d := (hF8.kt (Same.kt s9)).kt k11
        have X1 : H11 a1 = some (exo a1 (ga K "Fault") (some d1)) := c11 _ _ (s9 _ _ x8) (nob (s9 _ _ x8) exo_lst)
        have Y1 : H11 d1 = some (exd d1 [("fault", .ref F)]) := c11 _ _ (s9 _ _ y8) (nob (s9 _ _ y8) exd_lst)
        have X2 : H11 a2 = some (exo a2 (ga K "Failed") (some d2)) := c11 _ _ x9 (nob x9 exo_lst)
        have Y2 : H11 d2 = some (exd d2 [("road", .ref l2), ("fault", .ref F)]) := c11 _ _ y9 (nob y9 exd_lst)
        have eR9 : H9 R = some (.lst ys) := s9 _ _ (s8 _ _ (by rw [← e7]; rw [upd_ne (ne_of_none eR6 hhd)]; exact eR6))
        have rR9 : RoadT H9 ys zs := (rR6.kt (by rw [← e7] at s8; exact (KT.new hhd).trans (Same.kt s8))).kt (Same.kt s9)
        have hR11 : RdAt H11 R zs := ⟨⟨ys, c11 _ _ eR9 (ne_of_none eR6 hhd), rR9.kt k11⟩, hR5.len, hR5.ok⟩
        have hL11 : RdAt H11 l2 zs := ⟨⟨ys, c11 _ _ z9 nl2.symm, rR9.kt k11⟩, hR5.len, hR5.ok⟩
        have okR := rd_ok hR5.len hR5.ok
        refine ⟨_, rfl, a1, _, d1, _, .ref F, rfl, IF.xf, IF.no1, X1, Y1, rfl, _, rfl, d, d, hF11.dp, hF11.dp, hF11.ok.shaped, hF11.ok.shaped, _, rfl, ?_⟩
        rw [SeqAt.eqv_refl _ hF11.ok.cl]
        refine ⟨_, rfl, a2, _, d2, _, .ref F, rfl, ID.xf, ID.no1, X2, Y2, rfl, _, rfl, d, d, hF11.dp, hF11.dp, hF11.ok.shaped, hF11.ok.shaped, _, rfl, ?_⟩
        rw [SeqAt.eqv_refl _ hF11.ok.cl]
        refine ⟨_, rfl, a2, _, d2, _, .ref l2, rfl, ID.xf, ID.no2, X2, Y2, rfl, _, rfl, _, _, hL11.dp, hR11.dp, okR.shaped, okR.shaped, _, rfl, ?_⟩
        rw [SeqAt.eqv_refl _ okR.cl]
        refine ⟨_, rfl, F, d, rfl, hF11, fun H12 s12 => ⟨_, rfl, ?_⟩⟩
        obtain ⟨ws, eR12, rR12⟩ := (hR11.same s12).ex
        refine ⟨_, rfl, _, rfl, R, ws, rfl, .inl (SqL.of eR12), fun l3 hl3 => ?_⟩
        have s13 : Same H12 (upd H12 l3 (.lst ws)) := Same.new hl3
        refine ⟨F, l3, d, zs, rfl, (hF11.kt (Same.kt s12)).kt (Same.kt s13), ⟨⟨ws, upd_same, rR12.kt (Same.kt s13)⟩, hR5.len, hR5.ok⟩, fun H14 s14 => ⟨_, rfl, ?_⟩⟩
        refine ⟨_, _, _, _, _, _, _, rfl, fun b u e => ?_⟩
        have e6 : H6 b = some u := s6 _ _ (s5 _ _ (s1 _ _ e))
        have e9' : H9 b = some u := s9 _ _ (s8 _ _ (s7 _ _ (s5 _ _ (s1 _ _ e))))
        exact s14 _ _ (s13 _ _ (s12 _ _ (c11 _ _ e9' (ne_of_none e6 hhd))))
    · rintro σ H1 ⟨v1, v2, v3, v4, v5, v6, v7, rfl, s1⟩
      exact ⟨rfl, fun H2 _ => q H2⟩
end
end K15
set_option maxHeartbeats 0
namespace K15
open PySem PySem.Spec PyProof.Rows L2 HM XV XS NdefX L2H XT XH
abbrev dd (x : Str) (st : Stmt) : He.DefD := ⟨(x, none), x, x, defArgs st, defBody st, defScope st, [], []⟩
def fn : List He.DefD := [dd "_law_at" sAt, dd "_law_pot" sPot, dd "_law_draw" sDraw, dd "_law_name" sName, dd "_law_road" sRoad, dd "_law_fault" sFault, dd "_law_made" sMade, dd "_law_kinds" sKinds, dd "_law_is_kind" sIsKind, dd "_law_fault_caught" sFC, dd "_law_failed_caught" sDC, dd "_law_stock_caught" sSC, dd "law" sLaw]
def fa : List He.Fa := [.glo "_law_at", .glo "_law_pot", .glo "_law_draw", .glo "_law_name", .glo "_law_road", .glo "_law_fault", .glo "_law_made", .glo "_law_kinds", .glo "_law_is_kind", .glo "_law_fault_caught", .glo "_law_failed_caught", .glo "_law_stock_caught", .glo "law",
  .free "isinstance", .free "len", .free "all", .free "range", .free "max", .free "min", .free "divmod", .free "list", .free "tuple", .free "super", .free "ValueError",
  .glo "MadeError", .glo "NoText", .glo "NoPath", .glo "NoBody", .glo "NoFinder", .glo "NoNumber", .glo "NotTaken", .glo "NoRoad", .glo "NoStock", .glo "Fault", .glo "Failed"]
def sf : List SupD := [⟨"Fault", "Fault.__init__", defArgs sInitF, defBody sInitF, defScope sInitF⟩, ⟨"Failed", "Failed.__init__", defArgs sInitD, defBody sInitD, defScope sInitD⟩]
def inB (K : PySem.W.Frag) (x : Str) : Bool := He.eqO (PySem.W.findIn K (.ref (ga K x)) "__init__") (some (some (.ref (He.ma K (ga K x) "__init__")))) && (decide (PySem.W.typeIn K (.ref (He.ma K (ga K x) "__init__")) = some (.type "function")) &&
  (supCB K (ga K x) && (He.eqO (PySem.W.findIn K (.ref (ga K x)) "fault") (some none) && (He.eqO (PySem.W.findIn K (.ref (ga K x)) "road") (some none) && xfB K (ga K x)))))
theorem inB_ok {K : PySem.W.Frag} {x : Str} (h : inB K x = true) : InF K x (He.ma K (ga K x) "__init__") := by
  obtain ⟨h1, h⟩ := He.ba h
  obtain ⟨h2, h⟩ := He.ba h
  obtain ⟨h3, h⟩ := He.ba h
  obtain ⟨h4, h⟩ := He.ba h
  obtain ⟨h5, h6⟩ := He.ba h
  exact ⟨He.eqO_ok h1, of_decide_eq_true h2, supCB_ok h3, He.eqO_ok h4, He.eqO_ok h5, xfB_ok h6⟩
def ex1 (K : PySem.W.Frag) : Bool := (cn.take 8).all fun x => PySem.W.excIn K (ga K x) He.veBase "ValueError.__new__"
def ex2 (K : PySem.W.Frag) : Bool := cn.all fun x => PySem.W.keepIn K (.ref (ga K x)) && (decide (PySem.W.subIn K (.ref (ga K x)) (.type "BaseException") = some true) && (decide (PySem.W.typeIn K (.ref (ga K x)) = some (.type "type")) && (excCB K (ga K x) &&
  (decide (PySem.W.kitOne K (.ref (ga K x)) (.ref (ga K "MadeError")) = some true) && decide (PySem.W.kitOne K (.ref (ga K x)) (.type "ValueError") = some true)))))
def ex3 (K : PySem.W.Frag) : Bool := cn.all fun x => cn.all fun y => decide (PySem.W.kitOne K (.ref (ga K x)) (.ref (ga K y)) = some (decide (x = y)))
def ex4 (K : PySem.W.Frag) : Bool := decide (PySem.W.exmOne K (.ref (ga K "Fault")) (.ref (ga K "Failed")) = some false) && (decide (PySem.W.exmOne K (.ref (ga K "Fault")) (.ref (ga K "Fault")) = some true) && (decide (PySem.W.exmOne K (.ref (ga K "Failed")) (.ref (ga K "Fault")) = some false) &&
  (decide (PySem.W.exmOne K (.ref (ga K "Failed")) (.ref (ga K "MadeError")) = some true) && (decide (PySem.W.exmOne K (.ref (ga K "NoStock")) (.ref (ga K "NoBody")) = some false) && decide (PySem.W.exmOne K (.ref (ga K "NoStock")) (.ref (ga K "MadeError")) = some true)))))
def ex (K : PySem.W.Frag) : Bool := ex1 K && (ex2 K && (ex3 K && (ex4 K && (inB K "Fault" && inB K "Failed"))))
def loose : List Str := ["MadeError", "NoText", "NoPath", "NoBody", "NoFinder", "NoNumber", "NotTaken", "NoRoad", "NoStock", "Fault", "Failed", "_law_at", "_law_pot", "_law_draw", "_law_name", "_law_road", "_law_fault", "_law_made", "_law_kinds", "_law_is_kind", "_law_fault_caught", "_law_failed_caught", "_law_stock_caught"]
abbrev R : PySem.W.OpenRow := PySem.W.OpenLaw.row PySem.Challenge.rw_halfmade_k15_refusals_made
abbrev hk : PySem.W.Hook := hookY 6 pr.main.file fa fn sf [] ex
def ob (s : PySem.W.SharedT) : AlY := obsY 6 pr.main.file fa fn sf [] ex (HandSHeadRun.getT s)
theorem ob_eq (s : PySem.W.SharedT) : ob s = hk.obs s.abs := obsY_eq (HandSHeadRun.getT_eq s)
theorem run (w : World) : HandSHeadRun.RunEq R (PySem.W.view R.prog [25]) hk ob 4000 loose w := by
  intro os
  kernel_rfl
theorem supBinds {K : PySem.W.Frag} {C f c : Addr} {cl : List (Str × Addr)} {fd : FuncData} {name qual : Str} {params : Arguments} {body : List Stmt} {scope : Scope} {ps : List Str} (S : SupF K pr C f ⟨name, qual, params, body, scope, cl, c⟩ fd)
    (h : ∀ (doc pm ctv : Value) (us : List Value), us.length = ps.length → bindArgs (NF.fd ⟨name, qual, params, body, scope, cl, c⟩ doc pm ctv) ⟨us, []⟩ = pure (ps.zip us)) : Binds K fd ps [] := by
  obtain ⟨oc, od, osl, doc, pm, ctv, rfl, _⟩ := S.ex
  exact .all (h doc pm ctv)
theorem facts {w : World} {K : PySem.W.Frag} {h : Heap} {mg : Str → Option Value} {f : Addr} (X : K.In h) (G : h.Ns mainGlobals mg) (hfa : mg ("law" : Str) = some (.ref f)) (c : SaysY pr.main.file fa fn sf [] ex h K) : LawG PySem.Challenge.rw_halfmade_k15_refusals_made w K CX0 5 63 "_law_script" mg f h := by
  have c0 : He.SaysD fa fn K := c.d
  obtain ⟨fd0, F0⟩ := c0.def_ 0 (d := dd "_law_at" sAt) rfl
  obtain ⟨fd1, F1⟩ := c0.def_ 1 (d := dd "_law_pot" sPot) rfl
  obtain ⟨fd2, F2⟩ := c0.def_ 2 (d := dd "_law_draw" sDraw) rfl
  obtain ⟨fd3, F3⟩ := c0.def_ 3 (d := dd "_law_name" sName) rfl
  obtain ⟨fd4, F4⟩ := c0.def_ 4 (d := dd "_law_road" sRoad) rfl
  obtain ⟨fd5, F5⟩ := c0.def_ 5 (d := dd "_law_fault" sFault) rfl
  obtain ⟨fd6, F6⟩ := c0.def_ 6 (d := dd "_law_made" sMade) rfl
  obtain ⟨fd7, F7⟩ := c0.def_ 7 (d := dd "_law_kinds" sKinds) rfl
  obtain ⟨fd8, F8⟩ := c0.def_ 8 (d := dd "_law_is_kind" sIsKind) rfl
  obtain ⟨fd9, F9⟩ := c0.def_ 9 (d := dd "_law_fault_caught" sFC) rfl
  obtain ⟨fd10, F10⟩ := c0.def_ 10 (d := dd "_law_failed_caught" sDC) rfl
  obtain ⟨fd11, F11⟩ := c0.def_ 11 (d := dd "_law_stock_caught" sSC) rfl
  obtain ⟨fd12, F12⟩ := c0.def_ 12 (d := dd "law" sLaw) rfl
  have g : ∀ (i : Nat) {x : Str}, fa[i]? = some (.glo x) → mg x = some (.ref (He.ga K x)) := fun i x e => He.glo_ok X G (c0.fact i e)
  have fr : ∀ (i : Nat) {x : Str}, fa[i]? = some (.free x) → mg x = none := fun i x e => He.free_ok X G (c0.fact i e)
  obtain ⟨x1, m⟩ := He.ba (show (ex1 K && (ex2 K && (ex3 K && (ex4 K && (inB K "Fault" && inB K "Failed"))))) = true from c.more)
  obtain ⟨x2, m⟩ := He.ba m
  obtain ⟨x3, m⟩ := He.ba m
  obtain ⟨x4, m⟩ := He.ba m
  obtain ⟨x5, x6⟩ := He.ba m
  have IF := inB_ok x5
  have ID := inB_ok x6
  have XF : XmF K := by
    obtain ⟨y1, y⟩ := He.ba x4
    obtain ⟨y2, y⟩ := He.ba y
    obtain ⟨y3, y⟩ := He.ba y
    obtain ⟨y4, y⟩ := He.ba y
    obtain ⟨y5, y6⟩ := He.ba y
    exact ⟨of_decide_eq_true y1, of_decide_eq_true y2, of_decide_eq_true y3, of_decide_eq_true y4, of_decide_eq_true y5, of_decide_eq_true y6⟩
  have p2 : ∀ x ∈ cn, PySem.W.keepIn K (.ref (ga K x)) = true ∧ PySem.W.subIn K (.ref (ga K x)) (.type "BaseException") = some true ∧ PySem.W.typeIn K (.ref (ga K x)) = some (.type "type") ∧ ExcC K (ga K x) ∧ PySem.W.kitOne K (.ref (ga K x)) (.ref (ga K "MadeError")) = some true ∧ PySem.W.kitOne K (.ref (ga K x)) (.type "ValueError") = some true := fun x hx => by
    obtain ⟨y1, y⟩ := He.ba (List.all_eq_true.mp x2 x hx)
    obtain ⟨y2, y⟩ := He.ba y
    obtain ⟨y3, y⟩ := He.ba y
    obtain ⟨y4, y⟩ := He.ba y
    obtain ⟨y5, y6⟩ := He.ba y
    exact ⟨y1, of_decide_eq_true y2, of_decide_eq_true y3, excCB_ok y4, of_decide_eq_true y5, of_decide_eq_true y6⟩
  have CF : ClF K mg := by
    refine ⟨fun x hx => ?_, fun x hx => List.all_eq_true.mp x1 x hx, fun x hx => (p2 x hx).1, fun x hx => (p2 x hx).2.1, fun x hx => (p2 x hx).2.2.1, fun x hx => (p2 x hx).2.2.2.1, fun x hx y hy => of_decide_eq_true (List.all_eq_true.mp (List.all_eq_true.mp x3 x hx) y hy), fun x hx => (p2 x hx).2.2.2.2.1, fun x hx => (p2 x hx).2.2.2.2.2⟩
    simp only [cn, List.mem_cons, List.not_mem_nil, or_false] at hx
    rcases hx with rfl | rfl | rfl | rfl | rfl | rfl | rfl | rfl | rfl | rfl | rfl
    · exact g 24 rfl
    · exact g 25 rfl
    · exact g 26 rfl
    · exact g 27 rfl
    · exact g 28 rfl
    · exact g 29 rfl
    · exact g 30 rfl
    · exact g 31 rfl
    · exact g 32 rfl
    · exact g 33 rfl
    · exact g 34 rfl
  obtain ⟨sb1, se1⟩ := c.sup ⟨"Fault", "Fault.__init__", defArgs sInitF, defBody sInitF, defScope sInitF⟩ (List.mem_cons_self)
  obtain ⟨sb2, se2⟩ := c.sup ⟨"Failed", "Failed.__init__", defArgs sInitD, defBody sInitD, defScope sInitD⟩ (List.mem_cons_of_mem _ List.mem_cons_self)
  obtain ⟨cl1, c1, fdF, S1⟩ := supF_of (prog := pr) sb1 se1
  obtain ⟨cl2, c2, fdD, S2⟩ := supF_of (prog := pr) sb2 se2
  have e := hfa.symm.trans (g 12 (x := "law") rfl)
  cases e
  refine ⟨fd12, [], spLaw K, (fun p hp => nomatch hp), (fun p hp => nomatch hp), (fun p hp => nomatch hp), fun s u => ?_, fun H a ns hl hb hH hS => ⟨a, ns, rfl, hS, hl, fun _ => rfl⟩, fun base hK hN hTB => ?_⟩
  · exact FunD.bindsA (ps := ["_law_script"]) F12 (fun _ _ _ _ _ _ us hl => match us, hl with | [_], _ => rfl) s [u] rfl
  · have mi := fr 13 (x := "isinstance") rfl
    have ml := fr 14 (x := "len") rfl
    have ma := fr 15 (x := "all") rfl
    have mr := fr 16 (x := "range") rfl
    have mx := fr 17 (x := "max") rfl
    have mn := fr 18 (x := "min") rfl
    have md := fr 19 (x := "divmod") rfl
    have mli := fr 20 (x := "list") rfl
    have mt := fr 21 (x := "tuple") rfl
    have ms := fr 22 (x := "super") rfl
    have mV := fr 23 (x := "ValueError") rfl
    have GF : FnG pr w K mg base CX0 1 (He.ma K (ga K "Fault") "__init__") fdF ["self", "fault"] (spIF K (ga K "Fault")) := ok_iF IF.sc S1 IF.no1 ms
    have GD : FnG pr w K mg base CX0 1 (He.ma K (ga K "Failed") "__init__") fdD ["self", "fault", "road"] (spID K (ga K "Failed")) := ok_iD ID.sc S2 ID.no1 ID.no2 ms mli
    have bF : Binds K fdF ["self", "fault"] [] := supBinds S1 fun _ _ _ us hl => match us, hl with | [_, _], _ => rfl
    have bD : Binds K fdD ["self", "fault", "road"] [] := supBinds S2 fun _ _ _ us hl => match us, hl with | [_, _, _], _ => rfl
    have GO := ok_pot (P := pr) (w := w) (base := base) F1 F0 (g 0 (x := "_law_at") rfl) ml mx
    have GL := ok_fl (P := pr) (w := w) (base := base) F5 F2 (g 2 (x := "_law_draw") rfl) F3 (g 3 (x := "_law_name") rfl) F4 (g 4 (x := "_law_road") rfl) md mr mt
    have GR := ok_rd (P := pr) (w := w) (base := base) F4 F2 (g 2 (x := "_law_draw") rfl) F3 (g 3 (x := "_law_name") rfl) md mr
    have GM := ok_made F6 CF IF ID GF GD bF bD
    have GI := ok_isKind (w := w) (base := base) F8 F7 (g 7 (x := "_law_kinds") rfl) CF mi mV
    have GC := ok_FC F9 CF XF IF GF bF
    have GE := ok_DC F10 CF XF ID GD bD F8 (g 8 (x := "_law_is_kind") rfl) F7 (g 7 (x := "_law_kinds") rfl) mi mV
    have GS := ok_SC (w := w) (base := base) F11 CF XF F8 (g 8 (x := "_law_is_kind") rfl) F7 (g 7 (x := "_law_kinds") rfl) mi mV
    exact ok_law F12 CF IF ID GF bF GD bD GI F8 (g 8 (x := "_law_is_kind") rfl) GM F6 (g 6 (x := "_law_made") rfl) GO F1 (g 1 (x := "_law_pot") rfl) GL F5 (g 5 (x := "_law_fault") rfl) GR F4 (g 4 (x := "_law_road") rfl) GC F9 (g 9 (x := "_law_fault_caught") rfl) GE F10 (g 10 (x := "_law_failed_caught") rfl) GS F11 (g 11 (x := "_law_stock_caught") rfl) ml mr mx mn ma mli
end K15
open PySem PySem.W PySem.Calls PyProof.Rows
theorem PySem.Challenge.cw_halfmade_k15_refusals_made_holds : PySem.Challenge.rw_halfmade_k15_refusals_made.Holds := by
  w_on; o_law
  refine HandSHeadRun.head_any (r := K15.R) (q := view K15.R.prog [25]) (H := K15.hk) (ob := K15.ob) (M := 4000) (loose := K15.loose) (d := HandSHeadRun.topDef K15.R.prog 25) (kwd := []) K15.ob_eq
    (by kernel_rfl) (fun s => by kernel_rfl) K15.run (by kernel_rfl) (by kernel_rfl) (by kernel_rfl) (by rfl) (by first | assumption | decide +kernel) (by decide +kernel) ⟨rfl, rfl, rfl, rfl, rfl, by decide +kernel⟩ ?hw ?hc
  case hw => w_witness2
  case hc =>
    refine HM.walkG (l := PySem.Challenge.rw_halfmade_k15_refusals_made) (n := 63) (k := 5) (x := "_law_script") (CX := fun _ => L2.CX0) rfl (by decide) (by kernel_rfl) ⟨rfl, by decide, by decide⟩ (fun w mg fa h Y G hmg0 => ?_) (fun _ _ _ _ _ z => z)
    obtain ⟨K, KX, c⟩ := Y
    have hmg : mg ("law" : PySem.Str) = some (.ref fa) := by
      have e : (HandSHeadRun.topDef K15.R.prog 25).name = ("law" : PySem.Str) := by kernel_rfl
      rw [← e]
      exact hmg0
    exact ⟨K, KX, K15.facts KX G hmg c⟩

import PyProof.Rows.All
import Wide.All
import OpenK.AllK
import Wide.FinOn
import HandS.ForMost
import HandS.AnyAll
import HandS.GenOver
import HandS.EndTab
import HandS.Walk
import HandS.HeadHook4
import HandS.HeadWalk
import HandS.Head2
import HandS.Defaults
import HandS.IsInst
import HandS.Wide
import HandS.Flow
import HandS.StrMore
import PyProof.ReprRoads
import HandS.Codes
import PyProof.Rows.StrCountLaw
import PyProof.Rows.RegReprOcc
import PyProof.EqLayable
import HandS.WideBits
import HandS.Style
import HandS.HeadEnd
import PySem.Challenge.RW_halfmade_k11_names_and_paths
set_option Elab.async false
set_option linter.all false
set_option maxRecDepth 100000
set_option maxHeartbeats 4000000
namespace GxA
open PySem PySem.Spec PyProof.Rows L2 GxR

/-- the frame of a generator expression that captures nothing -/
def genCx (X : Cx) (N : List Str) (A' : Around) (s4 : Shared) (H4 : Hp) (cenv : Env) (fp : List Addr) : Cx :=
  { X with A := A', N := N, s_0 := s4, H_0 := H4, env := cenv, outer := X.stack, stack := cenv :: X.stack, ex := fp, fn := fun _ => false, calm := true, pn := [], xe := fun _ _ => False }

/-- the generator's own scope: no cells, nothing captured -/
structure GenN (scope : Scope) : Prop where
  kind : scope.kind = .function
  co : scope.isCoroutine = false
  cell : ∀ y ∈ scope.names, y.2 ≠ .cell
  free : ∀ y ∈ scope.names, y.2 ≠ .free
  dot : scope.names.lookup (".0" : Str) = some NameKind.local

theorem clo_nil (cells : List (Str × Addr)) : ∀ (l : List (Str × NameKind)) (acc : List (Str × Addr)), (∀ y ∈ l, y.2 ≠ .free) → cloFrom cells l acc = acc
  | [], _, _ => rfl
  | (n, k) :: r, acc, h => by
    have hk : (k == NameKind.free) = false := by
      have := h (n, k) List.mem_cons_self
      cases k <;> first | rfl | exact absurd rfl this
    unfold cloFrom
    rw [hk]
    exact clo_nil cells r acc fun y hy => h y (List.mem_cons_of_mem _ hy)

theorem lookup_mem {α : Type} : ∀ {l : List (Str × α)} {n : Str} {c : α}, l.lookup n = some c → ∃ n', (n', c) ∈ l
  | (k, v) :: r, n, c, h => by
    rw [List.lookup_cons] at h
    cases hb : n == k with
    | true =>
      rw [hb] at h
      cases h
      exact ⟨k, List.mem_cons_self⟩
    | false =>
      rw [hb] at h
      obtain ⟨n', hn⟩ := lookup_mem h
      exact ⟨n', List.mem_cons_of_mem _ hn⟩

section
variable {X : Cx} {pins : List (Addr × Obj)} {σ : L2.St} {H : Hp} {s : Shared}
/-- only the generators' table has changed -/
theorem inv_gens {s' : Shared} (I : Inv X pins σ H s) (hh : s'.heap = s.heap) (ho : s'.os = s.os) (hb : AllBare s'.gens) : Inv X pins σ H s' := by
  obtain ⟨h, g, d, t, o⟩ := s
  obtain ⟨h', g', d', t', o'⟩ := s'
  dsimp only at hh ho hb
  subst hh
  subst ho
  exact ⟨I.ok, I.os, hb, I.base, I.loc, I.cell, I.free, I.freeC, I.pin, I.hok, I.len⟩
/-- slots may be forgotten -/
theorem inv_wipe (I : Inv X pins σ H s) (n : Nat) (hn : X.N.length = n) : Inv X pins (List.replicate n none) H s := by
  obtain ⟨m, hm, _⟩ := I.loc
  refine ⟨I.ok, I.os, I.bare, I.base, ⟨m, hm, fun i x v _ e _ => ?_⟩, I.cell, I.free, I.freeC, I.pin, I.hok, by rw [List.length_replicate, hn]⟩
  rw [List.getElem?_replicate] at e
  split at e <;> cases e
end

section
variable {X : Cx} {pins : List (Addr × Obj)} {σ : L2.St} {H : Hp} {s : Shared}
theorem stk_lt (I : Inv X pins σ H s) {b : Addr} (hb : b ∈ frs X.stack) : b < s.heap.objs.size := by
  rcases List.mem_cons.mp (I.stkSub b hb) with e | e
  · rw [e]
    exact I.lt
  · refine Nat.lt_of_not_le fun h => I.nofs h e
theorem genCx_ok {N : List Str} {A' : Around} {scope : Scope} {code : Value} {fp : List Addr} (I : Inv X pins σ H s) (S : GenN scope)
    (hA : A'.frames = some (genEnv scope [] s.heap.objs.size code builtinsNs X.env :: X.stack)) (hAh : A'.handled = none) (hfp : ∀ b ∈ fp, FpOk X pins H b) (hlt : ∀ b ∈ fp, b < s.heap.objs.size) :
    (genCx X N A' s H (genEnv scope [] s.heap.objs.size code builtinsNs X.env) fp).Ok where
  mod := I.ok.mod
  kind := S.kind
  glob := I.ok.glob
  blt := rfl
  above := Nat.le_refl _
  inj := fun x y c e => nomatch (show (none : Option Addr) = some c from e)
  has := fun x h => by
    rcases h with h | h
    · obtain ⟨n', hm⟩ := lookup_mem (show scope.names.lookup x = some .cell from h)
      exact absurd rfl (S.cell _ hm)
    · obtain ⟨n', hm⟩ := lookup_mem (show scope.names.lookup x = some .free from h)
      exact absurd rfl (S.free _ hm)
  cab := fun x c e _ => nomatch (show false = true from e)
  hd := fun _ => hAh
  frames := hA
  stk := .inr ⟨rfl, rfl⟩
  exf := fun b hb => ⟨Nat.ne_of_lt (hlt b hb), fun x c e => nomatch (show (none : Option Addr) = some c from e)⟩
  bs := I.bs
  bsz := Nat.le_trans I.ok.bsz I.sz
  noex := fun b o e hb => by
    rcases (hfp b hb).2.2.2.1 with z | z
    · exact I.ok.noex b o e z
    · exact absurd (Nat.lt_of_lt_of_le (Heap.lt_size (I.ok.bs b o e).1) z) (Nat.lt_irrefl _)
  exfs := fun b hb hs => by
    rcases List.mem_cons.mp (I.stkSub b hs) with z | z
    · exact (hfp b hb).2.1 z
    · exact (hfp b hb).2.2.1 z
  funs := I.stack
  frf := I.stkFree
theorem genCx_inv {N : List Str} {A' : Around} {scope : Scope} {code : Value} {fp : List Addr} {h5 : Heap} {gs : Array GenState} {tk : Nat} {m : Str → Option Value} {a : Addr} {go : Obj} (I : Inv X pins σ H s)
    (hok : (genCx X N A' s H (genEnv scope [] s.heap.objs.size code builtinsNs X.env) fp).Ok) (k5 : ∀ b o, s.heap.get? b = some o → h5.get? b = some o) (hn : h5.Ns s.heap.objs.size m) (ha : h5.get? a = some go) (hac : s.heap.objs.size < a)
    (hgo : ∀ v, go.data ≠ .cell v) (hgb : AllBare gs) :
    Inv (genCx X N A' s H (genEnv scope [] s.heap.objs.size code builtinsNs X.env) fp) [(a, go)] (List.replicate N.length none) H { s with gens := gs, toks := tk, heap := h5 } where
  ok := hok
  os := rfl
  bare := hgb
  base := Un.kept k5
  loc := ⟨m, hn, fun i x v _ e _ => by
    rw [List.getElem?_replicate] at e
    split at e <;> cases e⟩
  cell := fun x c e => nomatch (show (none : Option Addr) = some c from e)
  free := I.hok.fresh (Nat.le_refl _)
  freeC := fun x c e => nomatch (show (none : Option Addr) = some c from e)
  pin := fun p hp => by
    have e : p = (a, go) := by
      rcases List.mem_append.mp hp with z | z
      · cases z
      · exact List.mem_singleton.mp z
    subst e
    refine ⟨ha, I.hok.fresh (Nat.le_of_lt hac), Nat.ne_of_gt hac, fun hb => ?_, hgo⟩
    exact absurd (Nat.lt_trans (stk_lt I hb) hac) (Nat.lt_irrefl _)
  hok := (I.kept (t' := tk) k5).hok
  len := List.length_replicate
end

/-! ### the loop of the generator -/
section
variable {X : Cx} {tg elt iter : Expr} {scope : Scope} {pos : Pos} {it : Addr} {B : Around} {J : It} {fp : List Addr} {tn : Nat → Heap → Prop} {g : TG} {te : TE} {pn0 : List (Addr × Obj)} {Q : VK}
/-- what the generator's end leaves -/
def GRz (X : Cx) (pn0 : List (Addr × Obj)) (Q : VK) : Nat → Shared → Shared → Prop := fun _ _ s => ∃ σ H, Inv X pn0 σ H s ∧ Q (.bl true) H
/-- what it hands out: True, and it may go on; or False, and it is left -/
def GYz (X : Cx) (pn0 : List (Addr × Obj)) (Q : VK) : Protocol := fun _ _ v s kap => ∃ b σ H, v = .bool b ∧ Inv X pn0 σ H s ∧
  if b = true then ∀ s', s'.heap = s.heap → s'.os = s.os → AllBare s'.gens → kap (.send .none) s' else Q (.bl false) H
/-- the turns -/
def GTurn (J : It) (g : TG) (te : TE) (k : Nat) (Q : VK) (W : Nat → Nat → Hp → Prop) : Prop := ∀ i m H, W i m H →
  (J.stop i H ∧ Q (.bl true) H) ∨ (J.go i H ∧ ∃ Nx : Hp → Prop, (∀ H', Nx H' → ∃ m', m' < m ∧ W (i + 1) m' H') ∧
    ∀ x H', J.yld i H x H' → g x (List.replicate k none) H' fun σ2 H2 => te σ2 H2 fun v H3 => ∃ b, v = .bl b ∧ if b = true then Nx H3 else Q (.bl false) H3)
theorem seg_all {W : Nat → Nat → Hp → Prop} (hA : B.over (.compLoop (.GeneratorExp elt [⟨tg, iter, [], 0⟩] scope pos) 0 (.ref it) .none X.env) [] = X.A) (hxe : X.xe = fun _ _ => False) (hcalm : X.calm = true) (hco : X.env.scope.isCoroutine = false)
    (T : Turn X.prog X.w X.K tg J fp it tn) (hf : ∀ b ∈ fp, b ≠ X.env.locals ∧ b ∉ X.fs ∧ (b ∈ X.ex ∨ X.s_0.heap.objs.size ≤ b) ∧ (∀ x c, X.env.cells.lookup x = some c → c ≠ b) ∧ ∀ p ∈ X.pn ++ pn0, p.1 ≠ b)
    (hg : PG X tg g) (he : PE X elt te) (turn : GTurn J g te X.N.length Q W) :
    ∀ (m n : Nat), m < n → ∀ (i : Nat) (s₀ s : Shared) (σ : L2.St) (H : Hp), Inv X pn0 σ H s → tn i s.heap → (∀ b ∈ fp, H b = none) → W i m H →
      Seg (model X.prog X.w) B (fun n s₀ r s₁ => r = .ok .next ∧ GRz X pn0 Q n s₀ s₁) (GYz X pn0 Q) n s₀ (.compLoop (.GeneratorExp elt [⟨tg, iter, [], 0⟩] scope pos) 0 (.ref it) .none X.env)
        ((model X.prog X.w).den (.compLoop (.GeneratorExp elt [⟨tg, iter, [], 0⟩] scope pos) 0 (.ref it) .none X.env)) [] s := by
  intro m
  induction m using Nat.strongRecOn with
  | _ m ih =>
  intro n hmn i s₀ s σ H I st fr w
  have I' := inv_wipe I X.N.length rfl
  have noX : ∀ (e : Value) (s' : Shared), X.xe e s' → False := fun e s' h => by
    rw [hxe] at h
    exact h
  have stat : ∀ {H' : Hp}, (∀ b ∈ fp, H' b = none) → ∀ b ∈ fp, FpOk X pn0 H' b := fun hn b hb => ⟨hn b hb, hf b hb⟩
  show Seg _ B _ _ _ s₀ _ ((compTurn (.GeneratorExp elt [⟨tg, iter, [], 0⟩] scope pos) 0 (.ref it) .none X.env).onRaise (leaving X.env)) [] s
  rw [compTurn_gen, Sem.onRaise_eq_wrap]
  refine seg_bind_wrap (wpAny_standAt ?_)
  rcases turn i m H w with ⟨stop, q⟩ | ⟨go, Nx, hN, step⟩
  · refine seg_bind_wrap ?_
    rw [hA]
    refine wpAny_mono (T.done X rfl rfl rfl hcalm i pn0 s _ H X.xe I' (stat fr) st stop) (fun r s1 h1 => ?_) fun e s' h => (noX e s' h).elim
    obtain ⟨rfl, I1⟩ := h1
    exact seg_end (.ok .next) ⟨rfl, _, H, I1, q⟩
  · refine seg_bind_wrap ?_
    rw [hA]
    refine wpAny_mono (T.item X rfl rfl rfl hcalm i pn0 s _ H X.xe I' (stat fr) st go) (fun r s1 h1 => ?_) fun e s' h => (noX e s' h).elim
    obtain ⟨u, rfl, h1⟩ := h1
    refine seg_bind_wrap ?_
    rw [hA]
    refine wpAny_mono h1 (fun _ s2 h2 => ?_) fun e s' h => (noX e s' h).elim
    obtain ⟨x, H2, I2, r2, y2, st2, fr2⟩ := h2
    have I2' := I2.pinned (stat fr2) (T.obj _ _ st2)
    refine seg_bind_wrap ?_
    rw [hA]
    refine wpAny_mono (hg.run _ s2 _ H2 x u _ I2' r2 (step x H2 y2)) (fun _ s3 h3 => ?_) fun e s' h => (noX e s' h).elim
    obtain ⟨σ3, H3, I3, q3⟩ := h3
    have hy : ∀ v, yieldOut X.env v = yieldValue v := fun v => by simp only [yieldOut, hco, Bool.false_eq_true, if_false]
    simp only [hy]
    refine seg_bind_wrap ?_
    refine (wpAny_of_eq (a := true) (by rfl) ?_)
    simp only [if_true]
    rw [Sem.bind_eq_wrap', Sem.bind_eq_wrap', Sem.wrap_wrap, Sem.wrap_wrap]
    refine seg_wrap ?_
    rw [hA]
    refine wpAny_mono (he.run _ s3 σ3 H3 _ I3 q3) (fun y s4 h4 => ?_) fun e s' h => (noX e s' h).elim
    obtain ⟨v, H4, I4, r4, b, rfl, q4⟩ := h4
    obtain rfl : y = Value.bool b := r4
    have I5 := I4.unpinned
    have st4 : tn (i + 1) s4.heap := T.keep _ _ _ st2 fun b hb o e => (I4.pin (b, o) (List.mem_append_right _ (List.mem_append_right _ (mem_pinsAt hb e)))).1
    have fr4 : ∀ b ∈ fp, H4 b = none := fun b hb => by
      obtain ⟨o, e, d⟩ := T.obj _ _ st2 b hb
      exact (I4.pin (b, o) (List.mem_append_right _ (List.mem_append_right _ (mem_pinsAt hb e)))).2.1
    obtain ⟨n', rfl⟩ : ∃ n', n = n' + 1 := ⟨n - 1, by omega⟩
    refine seg_at (seg_yield rfl rfl rfl ⟨b, σ3, H4, rfl, I5, ?_⟩)
    cases b with
    | false => exact q4
    | true =>
      obtain ⟨m', hm', w'⟩ := hN H4 q4
      rw [if_pos rfl]
      intro s' e1 e2 e3
      exact seg_again rfl (ih m' hm' n' (by omega) (i + 1) s' s' σ3 H4 (inv_gens I5 e1 e2 e3) (by rw [e1]; exact st4) fr4 w')
/-- its start -/
theorem seg_start {W : Nat → Nat → Hp → Prop} (hA : B.over (.compLoop (.GeneratorExp elt [⟨tg, iter, [], 0⟩] scope pos) 0 (.ref it) .none X.env) [] = X.A) (hxe : X.xe = fun _ _ => False) (hcalm : X.calm = true) (hco : X.env.scope.isCoroutine = false)
    (T : Turn X.prog X.w X.K tg J fp it tn) (hf : ∀ b ∈ fp, b ≠ X.env.locals ∧ b ∉ X.fs ∧ (b ∈ X.ex ∨ X.s_0.heap.objs.size ≤ b) ∧ (∀ x c, X.env.cells.lookup x = some c → c ≠ b) ∧ ∀ p ∈ X.pn ++ pn0, p.1 ≠ b)
    (hg : PG X tg g) (he : PE X elt te) (turn : GTurn J g te X.N.length Q W) (m : Nat) (s₀ s : Shared) (σ : L2.St) (H : Hp) (I : Inv X pn0 σ H s) (st : tn 0 s.heap) (fr : ∀ b ∈ fp, H b = none) (w0 : W 0 m H) :
      Seg (model X.prog X.w) B (fun n s₀ r s₁ => r = .ok .next ∧ GRz X pn0 Q n s₀ s₁) (GYz X pn0 Q) (m + 1) s₀ (.compStart (.GeneratorExp elt [⟨tg, iter, [], 0⟩] scope pos) 0 (.ref it) .none X.env)
        ((model X.prog X.w).den (.compStart (.GeneratorExp elt [⟨tg, iter, [], 0⟩] scope pos) 0 (.ref it) .none X.env)) [] s := by
  have loop := seg_all (iter := iter) (scope := scope) (pos := pos) hA hxe hcalm hco T hf hg he turn m (m + 1) (Nat.lt_succ_self _) 0 s₀ s σ H I st fr w0
  show Seg _ B _ _ _ s₀ _ ((compStart (.GeneratorExp elt [⟨tg, iter, [], 0⟩] scope pos) 0 (.ref it) .none X.env).onRaise (leaving X.env)) [] s
  unfold compStart
  rw [Sem.onRaise_eq_wrap]
  show Seg _ B _ _ _ s₀ _ ((ask >>= _).wrap _ _ _ _) [] s
  refine seg_bind_wrap (wpAny_askSetting ?_)
  split
  · exact seg_again rfl loop
  · first
      | exact seg_bind_wrap (wpAny_rule (seg_bind_wrap (wpAny_standAt (seg_bind_wrap (T.self _ 0 s _ _ st (seg_again rfl loop))))))
      | (refine seg_bind_wrap (wpAny_rule ?_); show Seg _ B _ _ _ s₀ _ ((standAt iter.pos >>= _).wrap _ _ _ _) [] s; exact seg_bind_wrap (wpAny_standAt (seg_bind_wrap (T.self _ 0 s _ _ st (seg_again rfl loop)))))
end
/-! ### all(..) -/
section
variable {X : Cx} {A : Around} {a : Addr} {g : Nat} {go : Obj} {pn0 : List (Addr × Obj)} {Q : VK} {R : Result → Shared → Prop}
theorem gens_set {s : Shared} {n : Nat} {x : GenState} (h : n < s.gens.size) : (s.setGen n x).gens[n]? = some x := by
  simp [Shared.setGen, h]
theorem bare_set {s : Shared} {n : Nat} {x : GenState} (h : AllBare s.gens) (hx : x.bare = true) : AllBare (s.setGen n x).gens := by
  intro y hy
  rcases Array.mem_or_eq_of_mem_setIfInBounds (show y ∈ s.gens.setIfInBounds n x from hy) with z | z
  · exact h y z
  · rw [z]
    exact hx
theorem all_loop (hh : A.handled = none) (hroom : A.depth < recursionLimit) (hgo : go.cls = .type "generator" ∧ (∃ nm qn, go.data = .fields #[.int g 0, nm, qn]) ∧ go.slots = #[]) (hpn : (a, go) ∈ pn0)
    (hR : ∀ b s σ H, Inv X pn0 σ H s → Q (.bl b) H → R (.ok (.ret (.bool b))) s) :
    ∀ (n : Nat) (s : Shared) (gs : GenState) (σ : L2.St) (H : Hp), Inv X pn0 σ H s → s.gens[g]? = some gs →
      gs.Goes (model X.prog X.w) A.in1.in1 (fun n s₀ r s₁ => r = .ok .next ∧ GRz X pn0 Q n s₀ s₁) (GYz X pn0 Q) n (.send .none) (s.setGen g .running) →
      codeAny (model X.prog X.w) A (.builtin "all.loop" ⟨[.ref a], []⟩) R s := by
  have step : ∀ n : Nat, (∀ m, n = m + 1 → ∀ (s : Shared) (gs : GenState) (σ : L2.St) (H : Hp), Inv X pn0 σ H s → s.gens[g]? = some gs →
      gs.Goes (model X.prog X.w) A.in1.in1 (fun n s₀ r s₁ => r = .ok .next ∧ GRz X pn0 Q n s₀ s₁) (GYz X pn0 Q) m (.send .none) (s.setGen g .running) →
      codeAny (model X.prog X.w) A (.builtin "all.loop" ⟨[.ref a], []⟩) R s) → ∀ (s : Shared) (gs : GenState) (σ : L2.St) (H : Hp), Inv X pn0 σ H s → s.gens[g]? = some gs →
      gs.Goes (model X.prog X.w) A.in1.in1 (fun n s₀ r s₁ => r = .ok .next ∧ GRz X pn0 Q n s₀ s₁) (GYz X pn0 Q) n (.send .none) (s.setGen g .running) →
      codeAny (model X.prog X.w) A (.builtin "all.loop" ⟨[.ref a], []⟩) R s := by
    intro n ih s gs σ H I hgs hgoes
    refine codeAny_builtin F.entry_all_loop ?_
    rw [Around.under_plainId F.plain_all_loop _]
    show wpAny _ A.in1 (pyNext (.ref a) >>= _) _ _ s
    have hlt : g < s.gens.size := by
      rcases Nat.lt_or_ge g s.gens.size with h | h
      · exact h
      · rw [Array.getElem?_eq_none h] at hgs
        cases hgs
    have hgen : s.heap.IsGen a g := by
      obtain ⟨h1, ⟨nm, qn, h2⟩, h3⟩ := hgo
      exact ⟨go, nm, qn, (I.pin (a, go) (List.mem_append_right _ hpn)).1, h1, h2, h3⟩
    refine wpAny_bind (GenW.wpAny_gsz (n := g + 1) hlt ?_)
    refine wpAny_pyNext_genexpQ (A := A.in1) (P := GRz X pn0 Q) hh I.nolimit hroom hgen hgs hgoes (fun v s₁ gs' hb hv hsz => ?_) (fun s₁ hp h' hk hsz => ?_)
    · obtain ⟨b, σ1, H1, rfl, I1, q1⟩ := hv
      have hsz1 : g < s₁.gens.size := by
        have : g + 1 ≤ (s₁.setGen g gs').gens.size := hsz
        rw [GenW.setGen_size] at this
        exact this
      have J1 : Inv X pn0 σ1 H1 (s₁.setGen g gs') := inv_gens I1 rfl rfl (bare_set I1.bare hb)
      refine wpAny_bind (wpAny_holding (wpAny_truthy_bool ?_))
      refine wpAny_bind (wpAny_letGo ?_)
      cases b with
      | true =>
        rw [if_pos rfl] at q1
        simp only [if_true]
        have q2 := q1 ((s₁.setGen g gs').setGen g .running) rfl rfl (bare_set J1.bare rfl)
        cases n with
        | zero => exact q2.elim
        | succ m => exact wpAny_pure ⟨plainId_quiet F.plain_all_loop _, ih m rfl _ gs' σ1 H1 J1 (gens_set hsz1) q2⟩
      | false =>
        simp only [Bool.false_eq_true, if_false]
        exact wpAny_bind (wpAny_rule (wpAny_pure (hR false _ σ1 H1 J1 q1)))
    · obtain ⟨σ1, H1, I1, q1⟩ := hp
      have J1 : Inv X pn0 σ1 H1 (s₁.setGen g .finished) := inv_gens I1 rfl rfl (bare_set I1.bare rfl)
      exact wpAny_bind (wpAny_rule (wpAny_pure (hR true _ σ1 H1 (J1.kept (t' := s₁.toks) hk) q1)))
  intro n
  induction n with
  | zero => exact step 0 fun m e => by cases e
  | succ n ih =>
    refine step (n + 1) fun m e => ?_
    cases e
    exact ih
end

/-! ### the rule -/
/-- all(elt for tg in iter), nothing captured; k: how many names the generator's frame has (those of the target) -/
def tAllG (P : Addr) (wi : TI) (g : TG) (te : TE) (k : Nat) : TE := fun σ H Q => wi σ H fun J H1 => TabG H1 P ∧ ∀ H2, Tabbed P H1 H2 → ∃ W : Nat → Nat → Hp → Prop, (∃ m, W 0 m H2) ∧ GTurn J g te k Q W
section
variable {X : Cx} {c P : Addr} {tg elt iter : Expr} {p pos gpos : Pos} {scope : Scope} {wi : TI} {g : TG} {te : TE} {N : List Str} {k : Nat}
theorem pe_allG (hr : Room (k + 1) X.A) (hgl : Gl X "all") (hm : X.mg "all" = none) (TB : TabB X.base X.mg c P) (hcode : X.env.code = .ref c) (S : GenN scope) (hi : PI X tg iter wi)
    (hg : ∀ A' s4 H4 cenv fp, cenv.scope = scope → PG (genCx X N A' s4 H4 cenv fp) tg g) (he : ∀ A' s4 H4 cenv fp, cenv.scope = scope → Room k A' → PE (genCx X N A' s4 H4 cenv fp) elt te)
    (hs : ∀ v, genFold iter X.env v = pure v)
    (hst : starEach [.GeneratorExp elt [⟨tg, iter, [], 0⟩] scope gpos] X.env = (false, eval (.GeneratorExp elt [⟨tg, iter, [], 0⟩] scope gpos) X.env) :: starEach [] X.env := by rfl) (hb : bootBuiltins "all" = some (.builtin "all") := by decide +kernel) :
    PE X (.Call (.Name "all" p) [.GeneratorExp elt [⟨tg, iter, [], 0⟩] scope gpos] [] pos) (tAllG P wi g te N.length) := by
  refine ⟨fun pins s σ H Q I h => ?_⟩
  refine wpAny_Call_Name_kw (ld_blt I hgl hm hb ?_)
  refine PyProof.Rows.callWith_builtin1 ?_ hst (by rfl)
  rw [hst]
  show wpAny _ _ (spliced ((false, eval (.GeneratorExp elt [⟨tg, iter, [], 0⟩] scope gpos) X.env) :: backTo pos (starEach [] X.env))) _ _ s
  refine Calls.spliced_cons ?_
  have hclos : closureFor scope X.env = pure [] := by
    rw [closure_ok (fun y hy e => absurd e (S.free y hy)), clo_nil _ _ _ S.free]
  refine wpAny_GeneratorExp_make S.co hclos S.cell S.dot S.kind (by have := hr.dp; omega) ?_ hs
  refine thn (hi.run pins s σ H _ I h) fun xv s1 h1 => thn h1 fun itv s2 h2 => ?_
  obtain ⟨it, fp, tn, J, H1, rfl, I1, T, st1, f1, ⟨ps, hP, ht⟩, hW⟩ := h2
  refine ⟨I1.nolimit, ?_⟩
  have hPs : s2.heap.get? P = some { cls := .none, data := .fields ps } := I1.hok P _ hP
  have cd : PySem.W.CodeHd s2.heap c P := TB.code.keeps fun b u e => I1.bk b u e
  have hlt1 : ∀ b ∈ fp, b < s2.heap.objs.size := fun b hb => by
    obtain ⟨o, e, _⟩ := T.obj _ _ st1 b hb
    exact Heap.lt_size e
  have cont : ∀ (code : Value) (h3 : Heap) (tk : Nat) (more : Array Value), Heap.ExtBut P s2.heap h3 → s2.heap.objs.size ≤ h3.objs.size → h3.get? P = some { cls := .none, data := .fields (ps ++ more) } → TriplesOk (ps ++ more).toList →
      wpAny (model X.prog X.w) X.A (builtinsFor X.env.globals X.env.builtins) (fun bi s₄ =>
        ∀ h', h'.Ns s₄.heap.objs.size (fun y => if y = ".0" then some (.ref it) else none) → Heap.SameBut s₄.heap.objs.size (s₄.heap.push { cls := .type "frame", data := .dict #[] }) h' →
          wpAny (model X.prog X.w) X.A (spliced (backTo pos (starEach [] X.env))) (fun vs s' => wpAny (model X.prog X.w) X.A (call (.builtin "all") (.ref h'.objs.size :: vs)) (EP X pins σ Q) X.xe s') X.xe { s₄ with
            gens := s₄.gens.push (.fresh (.compStart (.GeneratorExp elt [⟨tg, iter, [], 0⟩] scope gpos) 0 (.ref it) .none (genEnv scope [] s₄.heap.objs.size code bi X.env))),
            toks := s₄.toks + 1 + 1 + 1,
            heap := h'.push { cls := .type "generator", data := .fields #[.int s₄.gens.size 0, .str "<genexpr>" (s₄.toks + 1), .str (X.env.qual ++ "<genexpr>") (s₄.toks + 1 + 1)] } }) X.xe { s2 with heap := h3, toks := tk } := by
    intro code h3 tk more hx hsz hP3 ht3
    obtain ⟨bm, ob, e1, e2, e3, e4, e5, e6, e7, e8⟩ := TB.bm
    have keep3 : ∀ b u, b ≠ P → s2.heap.get? b = some u → h3.get? b = some u := fun b u hb e => hx b u hb e
    refine wpAny_builtinsFor (m := X.mg) (by rw [I1.ok.glob]; exact (I1.mod.glob.keeps I1.bk).extBut hx TB.gP) e1 e2 (keep3 _ _ e4 (I1.bk _ _ e5)) e6 e7 e8 ?_
    intro h' hn' hs'
    have I3 : Inv X pins σ (upd H1 P (.tbl (ps ++ more))) { s2 with heap := h3, toks := tk } := inv_tab (more := more) (h' := h3) (g' := s2.gens) (d' := s2.drawn) (t' := tk) I1 hP keep3 hP3 I1.bare
    obtain ⟨W, ⟨m0, w0⟩, turn⟩ := hW _ ⟨⟨ps ++ more, upd_same, ht3⟩, fun b hb => upd_ne hb⟩
    have nP : ∀ b ∈ fp, b ≠ P := fun b hb z => by
      have := (f1 b hb).1
      rw [z, hP] at this
      cases this
    have fr3 : ∀ b ∈ fp, upd H1 P (.tbl (ps ++ more)) b = none := fun b hb => by
      rw [upd_ne (nP b hb)]
      exact (f1 b hb).1
    have f3 : ∀ b ∈ fp, FpOk X pins (upd H1 P (.tbl (ps ++ more))) b := fun b hb => ⟨fr3 b hb, (f1 b hb).2⟩
    have st3 : tn 0 h3 := T.keep _ _ _ st1 fun b hb o e => keep3 b o (nP b hb) e
    have hlt3 : ∀ b ∈ fp, b < h3.objs.size := fun b hb => Nat.lt_of_lt_of_le (hlt1 b hb) hsz
    obtain ⟨cenv, hcenv⟩ : ∃ cenv, genEnv scope [] h3.objs.size code builtinsNs X.env = cenv := ⟨_, rfl⟩
    have sz' : h'.objs.size = h3.objs.size + 1 := by rw [hs'.1, Heap.size_push]
    have keep' : ∀ b o, h3.get? b = some o → h'.get? b = some o := fun b o e => hs'.extBut b o (Nat.ne_of_lt (Heap.lt_size e)) (Heap.get?_push_of_some _ e)
    have Ok' : (genCx X N ((X.A.in1.in1).over (.compLoop (.GeneratorExp elt [⟨tg, iter, [], 0⟩] scope gpos) 0 (.ref it) .none cenv) []) { s2 with heap := h3, toks := tk } (upd H1 P (.tbl (ps ++ more))) cenv fp).Ok := by
      rw [← hcenv]
      refine genCx_ok I3 S ?_ hr.hd f3 hlt3
      show pushEnvs [_] (pushEnvs [] X.A.frames) = _
      rw [I1.ok.frames]
      rfl
    have hRoom : Room k ((X.A.in1.in1).over (.compLoop (.GeneratorExp elt [⟨tg, iter, [], 0⟩] scope gpos) 0 (.ref it) .none cenv) []) := by
      refine ⟨hr.hd, ?_, ?_⟩
      · have := hr.dp
        show X.A.depth + 0 + 1 + 3 * k + 5 < _
        omega
      · have := hr.un
        show X.A.units + 1 + 1 + 0 + 3 + 16 * k + 200 < _
        omega
    have hsc : cenv.scope = scope := by
      rw [← hcenv]
      rfl
    have hloc : cenv.locals = h3.objs.size := by
      rw [← hcenv]
      rfl
    have hcel : cenv.cells = [] := by
      rw [← hcenv]
      rfl
    obtain ⟨go, hgo⟩ : ∃ go : Obj, { cls := .type "generator", data := .fields #[.int s2.gens.size 0, .str "<genexpr>" (tk + 1), .str (X.env.qual ++ "<genexpr>") (tk + 1 + 1)] } = go := ⟨_, rfl⟩
    have keep5 : ∀ b o, h3.get? b = some o → (h'.push go).get? b = some o := fun b o e => Heap.get?_push_of_some _ (keep' b o e)
    have bare5 : AllBare (s2.gens.push (.fresh (.compStart (.GeneratorExp elt [⟨tg, iter, [], 0⟩] scope gpos) 0 (.ref it) .none cenv))) := I1.bare.push rfl
    have I5 : Inv (genCx X N ((X.A.in1.in1).over (.compLoop (.GeneratorExp elt [⟨tg, iter, [], 0⟩] scope gpos) 0 (.ref it) .none cenv) []) { s2 with heap := h3, toks := tk } (upd H1 P (.tbl (ps ++ more))) cenv fp) [(h'.objs.size, go)] (List.replicate N.length none)
        (upd H1 P (.tbl (ps ++ more))) { s2 with gens := s2.gens.push (.fresh (.compStart (.GeneratorExp elt [⟨tg, iter, [], 0⟩] scope gpos) 0 (.ref it) .none cenv)), toks := tk + 1 + 1 + 1, heap := h'.push go } := by
      subst hcenv
      refine genCx_inv (m := fun y => if y = ".0" then some (.ref it) else none) I3 Ok' keep5 (hn'.push _) (Heap.get?_push_size _ (by rw [← hgo]; rfl)) (by show h3.objs.size < h'.objs.size; omega) (fun v z => ?_) bare5
      rw [← hgo] at z
      cases z
    have hf5 : ∀ b ∈ fp, b ≠ cenv.locals ∧ b ∉ frs X.stack ∧ (b ∈ fp ∨ h3.objs.size ≤ b) ∧ (∀ x c, cenv.cells.lookup x = some c → c ≠ b) ∧ ∀ p ∈ [] ++ [(h'.objs.size, go)], p.1 ≠ b := fun b hb => by
      refine ⟨?_, fun z => ?_, .inl hb, fun x c e => ?_, fun p hp => ?_⟩
      · rw [hloc]
        exact Nat.ne_of_lt (hlt3 b hb)
      · rcases List.mem_cons.mp (I1.stkSub b z) with q | q
        · exact (f1 b hb).2.1 q
        · exact (f1 b hb).2.2.1 q
      · rw [hcel] at e
        cases e
      · have e : p = (h'.objs.size, go) := List.mem_singleton.mp hp
        subst e
        exact Nat.ne_of_gt (Nat.lt_trans (hlt3 b hb) (by rw [sz']; exact Nat.lt_succ_self _))
    have loop := seg_start (X := genCx X N ((X.A.in1.in1).over (.compLoop (.GeneratorExp elt [⟨tg, iter, [], 0⟩] scope gpos) 0 (.ref it) .none cenv) []) { s2 with heap := h3, toks := tk } (upd H1 P (.tbl (ps ++ more))) cenv fp)
      (B := X.A.in1.in1) (iter := iter) (scope := scope) (pos := gpos) (tn := tn) (pn0 := [(h'.objs.size, go)]) (W := W) rfl rfl rfl (by show cenv.scope.isCoroutine = false; rw [hsc]; exact S.co) T hf5 (hg _ _ _ _ _ hsc) (he _ _ _ _ _ hsc hRoom) turn m0
    refine Calls.spliced_nil ?_
    refine call_function_tree F.kind_all F.plain_all F.entry_all (F.args_all1 _) ?_
    unfold Builtin.«all»
    refine wpAny_bind (m := oneArg "all" _) (wpAny_pure ?_)
    have hgen : (h'.push go).IsGen h'.objs.size s2.gens.size := ⟨go, _, _, Heap.get?_push_size _ (by rw [← hgo]; rfl), by rw [← hgo], by rw [← hgo], by rw [← hgo]⟩
    subst hcenv
    subst hgo
    refine wpAny_bind (wpAny_pyIter_gen hgen ?_)
    refine wpAny_pure ⟨plainId_quiet F.plain_all_loop _, ?_⟩
    refine all_loop (X := (genCx X N ((X.A.in1.in1).over (.compLoop (.GeneratorExp elt [⟨tg, iter, [], 0⟩] scope gpos) 0 (.ref it) .none (genEnv scope [] h3.objs.size code builtinsNs X.env)) []) { s2 with heap := h3, toks := tk } (upd H1 P (.tbl (ps ++ more))) (genEnv scope [] h3.objs.size code builtinsNs X.env) fp)) (Q := Q) (A := X.A)
      (go := { cls := .type "generator", data := .fields #[.int s2.gens.size 0, .str "<genexpr>" (tk + 1), .str (X.env.qual ++ "<genexpr>") (tk + 1 + 1)] }) (pn0 := [(h'.objs.size, _)]) hr.hd (by have := hr.dp; omega) ⟨rfl, ⟨_, _, rfl⟩, rfl⟩ (List.mem_singleton.mpr rfl)
      (fun b s' σ' H' J q => ?_) (m0 + 1) _ _ _ _ I5 (Array.getElem?_push_size ..) ⟨rfl, ?_⟩
    · obtain ⟨hh, gg, dd, tt, oo⟩ := s'
      obtain rfl : oo = s2.os := J.os
      have I7 := I3.call (h' := hh) (g' := gg) (d' := dd) (t' := tt) (ch := fp) J.base J.hok J.bare fun b hb => ⟨(f1 b hb).2.2.2.1, (f1 b hb).2.1, (f1 b hb).2.2.2.2.1, (f1 b hb).2.2.2.2.2⟩
      exact ⟨.bl b, H', I7, rfl, q⟩
    · have I6 := inv_gens (s' := ({ s2 with gens := s2.gens.push (.fresh (.compStart (.GeneratorExp elt [⟨tg, iter, [], 0⟩] scope gpos) 0 (.ref it) .none (genEnv scope [] h3.objs.size code builtinsNs X.env))), toks := tk + 1 + 1 + 1, heap := h'.push { cls := .type "generator", data := .fields #[.int s2.gens.size 0, .str "<genexpr>" (tk + 1), .str (X.env.qual ++ "<genexpr>") (tk + 1 + 1)] } } : Shared).setGen s2.gens.size .running) I5 rfl rfl (bare_set I5.bare rfl)
      exact loop _ _ _ _ I6 (T.keep _ _ _ st3 fun b _ o e => keep5 b o e) fr3 w0
  cases hf : codeAmong gpos ps.toList with
  | none =>
    refine wpAny_genexprCodeX hcode (cd.code hPs ht) (cd.tab hPs) hf fun c' h' tk hx hge hlt hco' _ htab' _ => ?_
    obtain ⟨o1, vs, f1, tf, fl, tg, inF, tx, tt, op, _, _, _, _, _, _, _, _, _, htr, _⟩ := hco'
    exact cont _ h' tk _ hx (Nat.le_trans hge (Nat.le_of_lt hlt)) htab'.2 htr
  | some cv =>
    refine wpAny_genexprCode_hit hcode (cd.code hPs ht) hf ?_
    exact cont cv s2.heap s2.toks #[] (Heap.ExtBut.refl _ _) (Nat.le_refl _) (by simpa using hPs) (by simpa using ht)
end
/-! ### the turns, over a walk -/
theorem all_it {J : It} {n : Nat} {G : Hp → Prop} {Y : Nat → Hp → V → Hp → Prop} (wk : Walk J n G Y) {g : TG} {te : TE} {k : Nat} {Q : VK} {H2 : Hp} (Pv : Nat → Hp → Prop) (h0 : Pv 0 H2) (hG : ∀ i H, i ≤ n → Pv i H → G H)
    (hs : ∀ i x H H', i < n → Pv i H → Y i H x H' → g x (List.replicate k none) H' fun σ2 H2 => te σ2 H2 fun v H3 => ∃ b, v = .bl b ∧ if b = true then Pv (i + 1) H3 else Q (.bl false) H3) (hd : ∀ H, Pv n H → Q (.bl true) H) :
    ∃ W : Nat → Nat → Hp → Prop, (∃ m, W 0 m H2) ∧ GTurn J g te k Q W := by
  refine ⟨fun i m H => m = n - i ∧ i ≤ n ∧ Pv i H, ⟨n, by simp, Nat.zero_le _, h0⟩, fun i m H hw => ?_⟩
  obtain ⟨rfl, hi, p⟩ := hw
  by_cases hlt : i < n
  · exact .inr ⟨wk.goes i H hlt (hG i H hi p), Pv (i + 1), fun H' p' => ⟨n - (i + 1), by omega, rfl, hlt, p'⟩, fun x H' y => hs i x H H' hlt p (wk.yields i H x H' hlt (hG i H hi p) y)⟩
  · obtain rfl : i = n := by omega
    exact .inl ⟨wk.stops H (hG i H hi p), hd H p⟩
end GxA
set_option maxHeartbeats 4000000
namespace HM
open PySem PySem.Spec PyProof.Rows L2

/-! ### a promise of a def that is called where no repr is under way -/
structure FnG (P : Program) (w : World) (K : PySem.W.Frag) (mg : Str → Option Value) (base : Heap) (CX : CXT) (k : Nat) (f : Addr) (fd : FuncData) (ps : List Str) (sp : Sp) : Prop where
  len : ∀ vs H Q E, sp vs H Q E → vs.length = ps.length
  run : ∀ (A : Around) (outer : List Env) (s : Shared) (H : Hp) (args : Args) (us : List Value) (vs : List V) (Q : VK) (E : XK), Room k A → A.guards = some [] → Env0 P w K mg base A outer s H → BindsTo s fd args (ps.zip us) → Vals vs us →
    sp vs H Q E → codeAny (model P w) A (.call (.ref f) args) (CR CX outer P w H s Q E) s
section
variable {P : Program} {w : World} {K : PySem.W.Frag} {mg : Str → Option Value} {base : Heap} {CX : CXT} {k : Nat} {f : Addr} {fd : FuncData} {ps : List Str} {sp : Sp}
theorem FnG.of (F : FnOk P w K mg base CX k f fd ps sp) : FnG P w K mg base CX k f fd ps sp := ⟨F.len, fun A o s H a us vs Q E hr _ => F.run A o s H a us vs Q E hr⟩
theorem FnG.mono {j : Nat} (F : FnG P w K mg base CX k f fd ps sp) (h : k ≤ j) : FnG P w K mg base CX j f fd ps sp := ⟨F.len, fun A o s H a us vs Q E hr => F.run A o s H a us vs Q E (hr.mono h)⟩
variable {x qual : Str} {params : Arguments} {body : List Stmt} {scope : Scope} {dvs : List V} {kws : List (Str × V)} {N : List Str}
/-- the def's code object, by its place -/
def CodeAt (K : PySem.W.Frag) (f : Addr) (cdv : Value) : Prop := ∀ p, f = He.fAd K p → cdv = .ref (He.codeOf K p)
theorem codeAt_of {oc : Value} {od : Option Addr} {osl : Array (Option Value)} (lk : K.lookup f = some ⟨oc, od, .func fd, osl⟩) (hc : PySem.W.codeIn K fd.code qual = true) : CodeAt K f fd.code := fun p e => by
  obtain ⟨c, hc⟩ := He.codeIn_ref hc
  rw [e] at lk
  rw [He.codeOf_eq lk hc]
  exact hc
/-- a def by its body, the code object told -/
theorem ok_code (F : FunD K x qual params body scope dvs kws f fd) (S : FnScope N ps scope) (len : ∀ vs H Q E, sp vs H Q E → vs.length = ps.length)
    (hbody : ∀ (cdv : Value) (A : Around) (outer : List Env) (s : Shared) (H : Hp) (vs : List V) (Q : VK) (E : XK), CodeAt K f cdv → Room k (A.deeper (envOfC qual scope s.heap.objs.size f cdv)) → sp vs H Q E →
      ∃ t, PSs (cxOf CX0 P w K mg base N qual scope f cdv A outer s H E).nox body t ∧ t { nx := fun _ H' => Q .non H', rt := Q } (start N vs) H) : FnOk P w K mg base CX0 (k + 1) f fd ps sp := by
  obtain ⟨oc, od, dV, kV, doc, pm, an, cdv, ct, osl, rfl, lk, hcd, _, _⟩ := F.ex
  refine fn_of lk hcd S len fun A outer s H vs Q E hr hsp => ?_
  obtain ⟨t, h, q⟩ := hbody cdv A outer s H vs Q E (codeAt_of lk hcd) hr hsp
  exact ⟨t, h.nox, q⟩
theorem okG (F : FunD K x qual params body scope dvs kws f fd) (S : FnScope N ps scope) (len : ∀ vs H Q E, sp vs H Q E → vs.length = ps.length)
    (hbody : ∀ (cdv : Value) (A : Around) (outer : List Env) (s : Shared) (H : Hp) (vs : List V) (Q : VK) (E : XK), CodeAt K f cdv → Room k (A.deeper (envOfC qual scope s.heap.objs.size f cdv)) → (A.deeper (envOfC qual scope s.heap.objs.size f cdv)).guards = some [] → sp vs H Q E →
      ∃ t, PSs (cxOf CX P w K mg base N qual scope f cdv A outer s H E) body t ∧ t { nx := fun _ H' => Q .non H', rt := Q } (start N vs) H) : FnG P w K mg base CX (k + 1) f fd ps sp := by
  obtain ⟨oc, od, dV, kV, doc, pm, an, cdv, ct, osl, rfl, lk, hcd, _, _⟩ := F.ex
  refine ⟨len, fun A outer s H args us vs Q E hr hgd e0 hb r hsp => ?_⟩
  have hK : K.In s.heap := e0.mod.kin.keeps fun b o e => (e0.bs b o e).1
  have hL : s.heap.NoLimit := e0.mod.nolimit.keeps fun b o e => (e0.bs b o e).1
  refine codeAny_call_function hr.depth (hK _ _ lk) rfl S.co S.gen rfl (PySem.W.codeRec_of hK hcd) (hb _ _ _ _ ?_)
  refine wpAny_newFunctionEnv_cells S.kind (fun ⟨n, v⟩ hy => (S.par n (List.of_mem_zip hy).1).elim .inl fun q => .inr ⟨q, PySem.W.cellsFrom_some _ _ _ (.inl q)⟩) fun env he s1 hx => ?_
  subst he
  refine ⟨hL.keeps hx.toInCall.keep, codeAny_func ?_⟩
  obtain ⟨t, ht, hq⟩ := hbody cdv A outer s H vs Q E (codeAt_of lk hcd) (hr.deeper _) (by first | exact hgd | (rw [← hgd]; rfl)) hsp
  refine wpAny_mono (ht.run [] s1 (start N vs) H _ (inv_start S hr.hd e0 (len _ _ _ _ hsp) r hx) hq) (fun fl s' hs => ?_) fun e s' hs => hs
  have fin : ∀ {σ' : L2.St} {H' : Hp} {v : V} {u : Value}, Inv (cxOf CX P w K mg base N qual scope f cdv A outer s H E) [] σ' H' s' → RelV v u → Q v H' → CE outer P w H s Q u s' := fun {_ H' v _} J rv q => ⟨v, H', J.os, J.bare, J.base, J.hok, rv, q⟩
  match fl, hs with
  | .ret u, ⟨v, σ', H', J, rv, q⟩ => exact fin J rv q
  | .next, ⟨σ', H', J, q⟩ => exact fin (v := V.non) (u := Value.none) J rfl q
  | .brk, ⟨_, _, _, q⟩ => exact q.elim
  | .cont, ⟨_, _, _, q⟩ => exact q.elim
end
section
variable {X : Cx} {CX : CXT} {k : Nat} {f : Addr} {fd : FuncData} {ps : List Str} {sp : Sp} {dvs : List V} {ds : List Value} {E : XK} {x : Str} {p pos : Pos} {e : Expr} {es : List Expr} {t : TA}
theorem run_G {pins : List (Addr × Obj)} {σ : L2.St} {H : Hp} {s : Shared} {Q : VK} {us : List Value} {vs : List V} (F : FnG X.prog X.w X.K X.mg X.base CX k f fd ps sp) (hr : Room k X.A) (hg : X.A.guards = some []) (hb : Binds X.K fd ps ds) (hd : Vals dvs ds) (hx : Passes CX X E)
    (I : Inv X pins σ H s) (r : Vals vs us) (h : sp (vs ++ dvs) H Q E) : wpAny (model X.prog X.w) X.A (call (.ref f) us) (EP X pins σ Q) X.xe s := by
  have r2 : Vals (vs ++ dvs) (us ++ ds) := r.append hd
  refine wpAny_call (codeAny_mono (F.run X.A X.stack s H ⟨us, []⟩ (us ++ ds) (vs ++ dvs) Q E hr hg I.env0 (hb s us I.kIn (by rw [← r2.length]; exact F.len _ _ _ _ h)) r2 h) fun r s' hq => ?_)
  match r, hq with
  | .error e, hq => exact hx pins σ H s e s' I hq
  | .ok (.ret u), hq => exact I.after hq
theorem pe_callG (F : FnG X.prog X.w X.K X.mg X.base CX k f fd ps sp) (hr : Room k X.A) (hgd : X.A.guards = some []) (hg : Gl X x) (hm : X.mg x = some (.ref f)) (hk : PySem.W.keepIn X.K (.ref f) = true) (hb : Binds X.K fd ps ds) (hd : Vals dvs ds) (hx : Passes CX X E)
    (ha : PA X (e :: es) t) (hdb : (x == ("__debug__" : Str)) = false := by decide) (he : starEach (e :: es) X.env = (false, eval e X.env) :: starEach es X.env := by rfl) (hpl : (backTo pos (starEach es X.env)).any (·.1) = false := by rfl) :
    PE X (.Call (.Name x p) (e :: es) [] pos) (tCall sp dvs E t) :=
  ⟨fun pins s σ H Q I h => wpAny_Call_Name_kw (ld_glob I hg hm (PySem.W.callWith_K (h₀ := X.base) I.ok.mod.kin hk (thn (ha.run pos pins s σ H _ I h) fun us s1 ⟨vs, H1, I1, r, q⟩ => ⟨I1.kIn, run_G F hr hgd hb hd hx I1 r q⟩) he hpl) hdb)⟩
theorem pe_callG0 (F : FnG X.prog X.w X.K X.mg X.base CX k f fd ps sp) (hr : Room k X.A) (hgd : X.A.guards = some []) (hg : Gl X x) (hm : X.mg x = some (.ref f)) (hk : PySem.W.keepIn X.K (.ref f) = true) (hb : Binds X.K fd ps ds) (hd : Vals dvs ds) (hx : Passes CX X E)
    (hdb : (x == ("__debug__" : Str)) = false := by decide) : PE X (.Call (.Name x p) [] [] pos) (tCall sp dvs E tNil) :=
  ⟨fun pins s σ H Q I h => wpAny_Call_Name_kw (ld_glob I hg hm (PySem.W.callWith_K0 I.kIn hk (run_G (us := []) F hr hgd hb hd hx I .nil h)) hdb)⟩
end

/-! ### the law's own call, by a promise that asks that no repr is under way -/
section
variable {P : Program} {w : World} {K : PySem.W.Frag} {mg mb : Str → Option Value} {CX : CXT} {k : Nat} {fa a : Addr} {cs : List (Addr × Addr)} {fd : FuncData} {x : Str} {sp : Sp} {s₁ : Shared} {vs : List Value} {ns : List Int}
abbrev emptyT : Obj := { cls := .none, data := .fields #[] }
abbrev scriptO (vs : List Value) : Obj := { cls := .type "list", data := .seq vs.toArray }
open Classical in
/-- what is tracked when the law is called: the tables and the script -/
noncomputable def H0 (K : PySem.W.Frag) (cs : List (Addr × Addr)) (a : Addr) (vs : List Value) (ns : List Int) : Hp := fun b =>
  if b ∈ cs.map (·.2) then some (.tbl #[]) else if b = a ∧ K.lookup a = none then some (.frz (scriptO vs) (.lst (ns.map V.int))) else none
theorem H0_tab {b : Addr} (h : b ∈ cs.map (·.2)) : H0 K cs a vs ns b = some (.tbl #[]) := if_pos h
theorem H0_script (h : a ∉ cs.map (·.2)) (hk : K.lookup a = none) : H0 K cs a vs ns a = some (.frz (scriptO vs) (.lst (ns.map V.int))) := (if_neg h).trans (if_pos ⟨rfl, hk⟩)
theorem H0_some {b : Addr} {u : HO} (h : H0 K cs a vs ns b = some u) : (b ∈ cs.map (·.2) ∧ u = .tbl #[]) ∨ (b = a ∧ K.lookup a = none ∧ u = .frz (scriptO vs) (.lst (ns.map V.int))) := by
  by_cases h1 : b ∈ cs.map (·.2)
  · rw [H0_tab h1] at h
    exact .inl ⟨h1, (Option.some.inj h).symm⟩
  · by_cases h2 : b = a ∧ K.lookup a = none
    · have e : H0 K cs a vs ns b = some (.frz (scriptO vs) (.lst (ns.map V.int))) := (if_neg h1).trans (if_pos h2)
      rw [e] at h
      exact .inr ⟨h2.1, h2.2, (Option.some.inj h).symm⟩
    · have e : H0 K cs a vs ns b = none := (if_neg h1).trans (if_neg h2)
      rw [e] at h
      cases h
theorem law_callG (KX : K.In s₁.heap) (hns : s₁.heap.Ns mainGlobals mg) (hb : s₁.heap.Ns builtinsNs mb) (hbb : ∀ x : Str, x ≠ "__name__" → mb x = bootBuiltins x) (hlim : s₁.heap.NoLimit) (hg : s₁.gens = #[])
    (hT : ∀ p ∈ cs, s₁.heap.get? p.2 = some emptyT) (nT : ∀ p ∈ cs, K.lookup p.2 = none) (C : ∀ p ∈ cs, PySem.W.CodeHd s₁.heap p.1 p.2)
    (hbm : ∃ (bm : Addr) (ob : Obj), mg "__builtins__" = some (.ref bm) ∧ bm ≠ builtinsNs ∧ s₁.heap.get? bm = some ob ∧ ob.cls = .type "module" ∧ ob.dict = some builtinsNs ∧ ob.data = .plain)
    (ha : s₁.heap.get? a = some (scriptO vs)) (hi : IntsAre vs ns) (hl : ns.length ≤ sizeLine) (hr : Room k callerA)
    (F : ∀ base : Heap, K.In base → base.Ns mainGlobals mg → (∀ p ∈ cs, GxR.TabB base mg p.1 p.2) → FnG P w K mg base CX k fa fd [x] sp) (hbind : ∀ (s : Shared) (u : Value), BindsTo s fd ⟨[u], []⟩ [(x, u)])
    (hsp : ∀ H : Hp, (∀ p ∈ cs, H p.2 = some (.tbl #[])) → SqL K H a (ns.map V.int) → sp [.ref a] H (fun v _ => v = .bl true) fun _ _ _ => False)
    (hCX : ∀ H e s', CX [] H s₁ (fun _ _ _ => False) e s' → False) :
    codeAny (model P w) callerA (.call (.ref fa) ⟨[.ref a], []⟩) (fun r s' => r = .ok (.ret (.bool true)) ∧ OldK s₁.heap s'.heap ∧ s'.os = s₁.os ∧ AllBare s'.gens) s₁ := by
  have tabO : ∀ b ∈ cs.map (·.2), s₁.heap.get? b = some emptyT := fun b hb => by
    obtain ⟨p, hp, rfl⟩ := List.mem_map.mp hb
    exact hT p hp
  have aT : a ∉ cs.map (·.2) := fun z => by
    have q := (tabO a z).symm.trans ha
    cases q
  have rv := vals_ints hi
  have hlen : vs.length = ns.length := hi.length
  have sq : SqL K (H0 K cs a vs ns) a (ns.map V.int) := by
    cases q : K.lookup a with
    | none => exact .inl (.inr ⟨_, H0_script aT q⟩)
    | some o =>
      have e := (KX a o q).symm.trans ha
      cases e
      refine .inr ⟨_, vs.toArray, _, q, rfl, rfl, rfl, ?_, by simpa using rv⟩
      rw [List.size_toArray, hlen]
      exact hl
  have ok : HOk P w (H0 K cs a vs ns) s₁.heap := fun b u e => by
    rcases H0_some e with ⟨h1, rfl⟩ | ⟨rfl, _, rfl⟩
    · exact tabO b h1
    · exact ⟨ha, by rw [List.length_map]; exact hl, vs, _, rv, ha⟩
  -- what is neither a list nor an empty table is not tracked
  have free : ∀ {b : Addr} {o : Obj}, s₁.heap.get? b = some o → (∀ q n, o.data ≠ .seq q n) → o.data ≠ .fields #[] → H0 K cs a vs ns b = none := fun {b o} e h1 h2 => by
    cases q : H0 K cs a vs ns b with
    | none => rfl
    | some u =>
      rcases H0_some q with ⟨z, _⟩ | ⟨z, _⟩
      · rw [tabO b z] at e
        cases e
        exact absurd rfl h2
      · rw [z, ha] at e
        cases e
        exact absurd rfl (h1 _ _)
  have dict : ∀ {b : Addr} {o : Obj} {es : Array DictEntry} {ep : Nat}, s₁.heap.get? b = some o → o.data = .dict es ep → H0 K cs a vs ns b = none := fun {b o es ep} e d => free e (fun q n z => by rw [d] at z; cases z) fun z => by rw [d] at z; cases z
  have nsK : ∀ {b : Addr} {m : Str → Option Value}, s₁.heap.Ns b m → (hidT s₁.heap (H0 K cs a vs ns)).Ns b m := fun {b m} ⟨o, es, ep, e, d, r⟩ => ⟨o, es, ep, hidT_get e (dict e d), d, r⟩
  have kin : K.In (hidT s₁.heap (H0 K cs a vs ns)) := fun b o e => hidT_get (KX b o e) (by
    cases q : H0 K cs a vs ns b with
    | none => rfl
    | some u =>
      rcases H0_some q with ⟨z, _⟩ | ⟨rfl, z, _⟩
      · obtain ⟨p, hp, rfl⟩ := List.mem_map.mp z
        rw [nT p hp] at e
        cases e
      · rw [z] at e
        cases e)
  have mod : L2.Mod K mg (hidT s₁.heap (H0 K cs a vs ns)) := by
    obtain ⟨mc, l1, l2⟩ := hlim
    exact ⟨kin, nsK hns, ⟨mb, nsK hb, hbb⟩, mc, nsK l1, l2⟩
  have tb : ∀ p ∈ cs, GxR.TabB (hidT s₁.heap (H0 K cs a vs ns)) mg p.1 p.2 := fun p hp => by
    obtain ⟨og, eg, pg, g1, g2, _⟩ := hns
    obtain ⟨bm, ob, b1, b2, b3, b4, b5, b6⟩ := hbm
    obtain ⟨oc, us, file, tf, fl, tg, inF, tx, tt, c1, c2, c3, c4, c5, c6, c7, c8, c9, c10⟩ := C p hp
    have keepB : H0 K cs a vs ns bm = none := free b3 (fun q n z => by rw [b6] at z; cases z) fun z => by rw [b6] at z; cases z
    have keepC : H0 K cs a vs ns p.1 = none := free c1 (fun q n z => by rw [c3] at z; cases z) fun z => by
      rw [c3] at z
      cases z
      simp at c4
    refine ⟨⟨oc, us, file, tf, fl, tg, inF, tx, tt, hidT_get c1 keepC, c2, c3, c4, c5, c6, c7, c8, c9, c10⟩, ⟨bm, ob, b1, b2, fun z => ?_, fun z => ?_, hidT_get b3 keepB, b4, b5, b6⟩, fun z => ?_⟩
    · rw [z, g1] at b3
      cases b3
      rw [g2] at b6
      cases b6
    · rw [z, hT p hp] at b3
      cases b3
      cases b6
    · rw [z, hT p hp] at g1
      cases g1
      cases g2
  have e0 : Env0 P w K mg (hidT s₁.heap (H0 K cs a vs ns)) callerA [] s₁ (H0 K cs a vs ns) :=
    ⟨rfl, mod, fun b o e => of_hidT e, Nat.le_of_eq (hidT_size _ _), trivial, fun b hb => absurd (show b ∈ ([] : List Addr) from hb) (by simp), ok, .of_eq hg⟩
  refine codeAny_mono ((F _ kin (nsK hns) tb).run callerA [] s₁ (H0 K cs a vs ns) ⟨[.ref a], []⟩ [.ref a] [.ref a] _ _ hr rfl e0 (hbind s₁ (.ref a)) (.cons rfl .nil) (hsp _ (fun p hp => H0_tab (List.mem_map.mpr ⟨p, hp, rfl⟩)) sq)) fun r s' h => ?_
  match r, h with
  | .error e, h => exact (hCX _ e s' h).elim
  | .ok (.ret u), ⟨v, H', os, bare, un, ok', rr, q⟩ =>
    obtain rfl : v = .bl true := q
    obtain rfl : u = Value.bool true := rr
    have same : ∀ b o, b ∉ cs.map (·.2) → s₁.heap.get? b = some o → s'.heap.get? b = some o := fun b o nb e => by
      cases q : H0 K cs a vs ns b with
      | none => exact un.keep b o e q (by intro z; exact absurd (show b ∈ ([] : List Addr) from z) (by simp)) (by simp)
      | some u =>
        rcases H0_some q with ⟨z, _⟩ | ⟨rfl, _, rfl⟩
        · exact absurd z nb
        · obtain ⟨e1, _⟩ := ok' _ _ (un.frzs _ _ _ q)
          rw [ha] at e
          cases e
          exact e1
    have grown : ∀ p ∈ cs, ∃ more : Array Value, s'.heap.get? p.2 = some { cls := .none, data := .fields more } := fun p hp => by
      obtain ⟨more, z⟩ := un.tbls p.2 #[] (H0_tab (List.mem_map.mpr ⟨p, hp, rfl⟩))
      exact ⟨_, ok' p.2 _ z⟩
    refine ⟨rfl, ⟨fun b o e => ?_, fun b o e => ?_⟩, os, bare⟩
    · by_cases hb : b ∈ cs.map (·.2)
      · obtain ⟨p, hp, rfl⟩ := List.mem_map.mp hb
        obtain ⟨more, hm⟩ := grown p hp
        rw [hT p hp] at e
        cases e
        exact .inr (.inl ⟨((C p hp).tab (hT p hp)).isCodeTable, rfl, #[], more, rfl, by rw [Array.empty_append]; exact hm⟩)
      · exact .inl (same b o hb e)
    · by_cases hb : b ∈ cs.map (·.2)
      · obtain ⟨p, hp, rfl⟩ := List.mem_map.mp hb
        exact (grown p hp).elim fun more hm => ⟨_, hm⟩
      · exact ⟨o, same b o hb e⟩
end
/-- what the head's heap h must tell of the law -/
def LawG (l : PySem.W.OpenLaw) (w : World) (K : PySem.W.Frag) (CX : CXT) (k n : Nat) (x : Str) (mg : Str → Option Value) (fa : Addr) (h : Heap) : Prop :=
  ∃ (fd : FuncData) (cs : List (Addr × Addr)) (sp : Sp), (∀ p ∈ cs, h.get? p.2 = some emptyT) ∧ (∀ p ∈ cs, K.lookup p.2 = none) ∧ (∀ p ∈ cs, PySem.W.CodeHd h p.1 p.2) ∧ (∀ (s : Shared) (u : Value), BindsTo s fd ⟨[u], []⟩ [(x, u)]) ∧
    (∀ (H : Hp) (a : Addr) (ns : List Int), ns.length ≤ n → (∀ z ∈ ns, Builtin.Int.intBits z ≤ 1048576) → (∀ p ∈ cs, H p.2 = some (.tbl #[])) → SqL K H a (ns.map V.int) → sp [.ref a] H (fun v _ => v = .bl true) fun _ _ _ => False) ∧
    ∀ base : Heap, K.In base → base.Ns mainGlobals mg → (∀ p ∈ cs, GxR.TabB base mg p.1 p.2) → FnG l.prog w K mg base CX k fa fd [x] sp
theorem walkG {l : PySem.W.OpenLaw} {n k : Nat} {q : Program} {loose : List Str} {XP : (Str → Option Value) → Heap → Prop} {YP : World → Heap → Prop} {d : DefRec} {CX : World → CXT} {x : Str}
    (hn : l.most = some n) (hn2 : n ≤ sizeLine) (hdf : d.params.defaults = []) (hr : Room k callerA)
    (F : ∀ (w : World) (mg : Str → Option Value) (fa : Addr) (h : Heap), YP w h → h.Ns mainGlobals mg → mg d.name = some (.ref fa) → ∃ K : PySem.W.Frag, K.In h ∧ LawG l w K (CX w) k n x mg fa h)
    (hCX : ∀ (w : World) (H : Hp) (s : Shared) (e : Value) (s' : Shared), CX w [] H s (fun _ _ _ => False) e s' → False) :
    PySem.W.WalkO q loose XP YP l.row.toRowW d [] (fun f vs => PySem.call f vs) := by
  refine Att.attach_callB hn hdf fun w s₀ s₁ mg mb fa o pm cd doc a vs ns G Y ho hd hcd hmg hobj hints hlen hbits hg => ?_
  obtain ⟨K, KX, fd, cs, sp, h1, h2, h3, h4, h5, h6⟩ := F w mg fa _ Y G.T.g hmg
  exact law_callG KX G.T.g G.T.b G.T.builtins G.T.nolimit hg h1 h2 h3 G.T.bmain hobj hints (Nat.le_trans hlen hn2) hr h6 h4 (fun H hH hS => h5 H a ns hlen hbits hH hS) fun H e s' => hCX w H s₁ e s'

/-! ### tables of code objects, in the abstract heap -/
def TabsOk (Ps : List Addr) (H : Hp) : Prop := ∀ P ∈ Ps, GxR.TabG H P
/-- what is no table is as it was -/
def Sm (H H' : Hp) : Prop := ∀ b o, H b = some o → (∀ ps, o ≠ .tbl ps) → H' b = some o
theorem Sm.refl (H : Hp) : Sm H H := fun _ _ e _ => e
theorem Sm.trans {H H1 H2 : Hp} (a : Sm H H1) (b : Sm H1 H2) : Sm H H2 := fun c o e n => b c o (a c o e n) n
theorem Sm.new {H : Hp} {p : Addr} {o : HO} (h : H p = none) : Sm H (upd H p o) := fun b u e _ => by
  rw [upd_ne (ne_of_none e h)]
  exact e
theorem Sm.over {H H1 : Hp} {p : Addr} {o : HO} (a : Sm H H1) (h : H p = none) : Sm H (upd H1 p o) := fun b u e n => by
  rw [upd_ne (ne_of_none e h)]
  exact a b u e n
theorem Sm.lst {H H1 : Hp} {p : Addr} {xs : List V} (a : Sm H H1) (h : H p = some (.lst xs)) : H1 p = some (.lst xs) := a p _ h fun _ z => by cases z
theorem Sm.tup {H H1 : Hp} {p : Addr} {xs : List V} (a : Sm H H1) (h : H p = some (.tup xs)) : H1 p = some (.tup xs) := a p _ h fun _ z => by cases z
theorem Sm.seq {K : PySem.W.Frag} {H H1 : Hp} {p : Addr} {xs : List V} (a : Sm H H1) (h : SqL K H p xs) : SqL K H1 p xs := by
  rcases h with (h | ⟨o, h⟩) | h
  · exact .inl (.inl (a.lst h))
  · exact .inl (.inr ⟨o, a _ _ h fun _ z => by cases z⟩)
  · exact .inr h
theorem TabsOk.new {Ps : List Addr} {H : Hp} {p : Addr} {o : HO} (t : TabsOk Ps H) (h : H p = none) : TabsOk Ps (upd H p o) := fun P hP => by
  obtain ⟨ps, e, k⟩ := t P hP
  exact ⟨ps, by rw [upd_ne (ne_of_none e h)]; exact e, k⟩
theorem TabsOk.ne {Ps : List Addr} {H : Hp} {P p : Addr} {u : HO} (t : TabsOk Ps H) (hP : P ∈ Ps) (e : H p = some u) (n : ∀ ps, u ≠ .tbl ps) : p ≠ P := fun z => by
  obtain ⟨ps, e2, _⟩ := t P hP
  rw [z, e2] at e
  exact n ps (Option.some.inj e).symm
theorem TabsOk.put {Ps : List Addr} {H : Hp} {p : Addr} {o u : HO} (t : TabsOk Ps H) (e : H p = some u) (n : ∀ ps, u ≠ .tbl ps) : TabsOk Ps (upd H p o) := fun P hP => by
  have np := t.ne hP e n
  obtain ⟨ps, e2, k⟩ := t P hP
  exact ⟨ps, by rw [upd_ne (Ne.symm np)]; exact e2, k⟩
theorem TabsOk.tabbed {Ps : List Addr} {H H' : Hp} {P : Addr} (t : TabsOk Ps H) (h : GxR.Tabbed P H H') : TabsOk Ps H' := fun R hR => by
  by_cases e : R = P
  · rw [e]
    exact h.1
  · obtain ⟨ps, e2, k⟩ := t R hR
    exact ⟨ps, by rw [h.2 R e]; exact e2, k⟩
theorem sm_tabbed {H H' : Hp} {P : Addr} (t : GxR.TabG H P) (h : GxR.Tabbed P H H') : Sm H H' := fun b o e n => by
  by_cases z : b = P
  · obtain ⟨ps, e2, _⟩ := t
    rw [z, e2] at e
    exact absurd (Option.some.inj e).symm (n ps)
  · rw [h.2 b z]
    exact e
/-! ### repr of data -/
/-- repr(x), x a list or a tuple of data -/
def rReprD (K : PySem.W.Frag) : List V → Hp → VK → Prop := fun xs H Q => ∃ (a : Addr) (d : PyData), xs = [.ref a] ∧ Dp K H (.ref a) d ∧ d.showable = true ∧ d.hasDict = false ∧ d.depth ≤ 60 ∧ d.shown.length ≤ sizeLine ∧ Q (.str d.shown) H
theorem call_reprD {X : Cx} {k : Nat} (hr : Room k X.A) (hg : X.A.guards = some []) : CallR X (.builtin "repr") (rReprD X.K) := by
  intro pins s σ H xs us Q I r h
  obtain ⟨a, d, rfl, hd, hs, hn, hp, hl, q⟩ := h
  match us, r with
  | [_], .cons r1 .nil =>
    obtain ⟨as, rd⟩ := Dp.reads I d _ _ hd r1
    cases r1
    have := hr.un
    exact repr_of_reads' rd hs (fun z => by rw [hn] at z; cases z) hg (by omega) (fun _ _ e => e) (fun h' u tk kp => ⟨.str d.shown, H, I.kept kp, ⟨u, rfl⟩, q⟩) hl
/-- repr of a truth -/
def rReprB : List V → Hp → VK → Prop := fun xs H Q => ∃ b, xs = [.bl b] ∧ Q (.str (if b then "True" else "False")) H
end HM
set_option maxHeartbeats 1000000
namespace K11
open PySem PyProof.Rows SX
/-! ### the mathematics of names and paths: texts as lists of code points -/
def low (c : Nat) : Bool := decide (97 ≤ c) && decide (c ≤ 122)
def nameL (w : List Nat) : Bool := (decide (1 ≤ w.length) && decide (w.length ≤ 8)) && w.all low
def parts (l : List Nat) : List (List Nat) := TL.spl [46] 0 [] l
def pathL (l : List Nat) : Bool := decide ((parts l).length ≤ 4) && (parts l).all nameL
theorem pre_dot (r : List Nat) : TL.pre [46] (46 :: r) = true := by
  show ((46 :: r).take 1 == [46]) = true
  simp
theorem pre_no {c : Nat} (r : List Nat) (h : c ≠ 46) : TL.pre [46] (c :: r) = false := TL.pre_of_head [] r h
theorem spl_dot (acc r : List Nat) : TL.spl [46] 0 acc (46 :: r) = acc :: TL.spl [46] 0 [] r := TL.spl_hit (pre_dot r)
theorem spl_no (acc r : List Nat) {c : Nat} (h : c ≠ 46) : TL.spl [46] 0 acc (c :: r) = TL.spl [46] 0 (acc ++ [c]) r := TL.spl_miss (pre_no r h)
theorem spl_nil' (acc : List Nat) : TL.spl [46] 0 acc [] = [acc] := TL.spl_nil [46] 0 acc
theorem spl_ne (l : List Nat) : ∀ acc, TL.spl [46] 0 acc l ≠ [] := by
  induction l with
  | nil =>
    intro acc
    rw [spl_nil']
    exact List.cons_ne_nil _ _
  | cons c r ih =>
    intro acc
    by_cases h : c = 46
    · subst h
      rw [spl_dot]
      exact List.cons_ne_nil _ _
    · rw [spl_no acc r h]
      exact ih _
theorem spl_snoc_dot (l : List Nat) : ∀ acc, TL.spl [46] 0 acc (l ++ [46]) = TL.spl [46] 0 acc l ++ [[]] := by
  induction l with
  | nil =>
    intro acc
    show TL.spl [46] 0 acc [46] = _
    rw [spl_dot, spl_nil', spl_nil']
    rfl
  | cons c r ih =>
    intro acc
    by_cases h : c = 46
    · subst h
      show TL.spl [46] 0 acc (46 :: (r ++ [46])) = _
      rw [spl_dot, spl_dot, ih]
      rfl
    · show TL.spl [46] 0 acc (c :: (r ++ [46])) = _
      rw [spl_no _ _ h, spl_no _ _ h, ih]
theorem spl_snoc {c : Nat} (hc : c ≠ 46) (l : List Nat) : ∀ acc i w, TL.spl [46] 0 acc l = i ++ [w] → TL.spl [46] 0 acc (l ++ [c]) = i ++ [w ++ [c]] := by
  induction l with
  | nil =>
    intro acc i w e
    rw [spl_nil'] at e
    show TL.spl [46] 0 acc [c] = _
    rw [spl_no _ _ hc, spl_nil']
    have e2 : [] ++ [acc] = i ++ [w] := e
    obtain ⟨e3, e4⟩ := List.append_inj' e2 rfl
    subst e3
    rw [List.cons.inj e4 |>.1]
    rfl
  | cons d r ih =>
    intro acc i w e
    by_cases h : d = 46
    · subst h
      show TL.spl [46] 0 acc (46 :: (r ++ [c])) = _
      rw [spl_dot] at e ⊢
      cases i with
      | nil =>
        have e2 := (List.cons.inj e).2
        exact absurd e2 (spl_ne r [])
      | cons a i =>
        obtain ⟨e2, e3⟩ := List.cons.inj e
        rw [ih [] i w e3, e2]
        rfl
    · show TL.spl [46] 0 acc (d :: (r ++ [c])) = _
      rw [spl_no _ _ h] at e ⊢
      exact ih _ i w e
theorem joinL_cons (S p : List Nat) {l : List (List Nat)} (h : l ≠ []) : TL.joinL S (p :: l) = p ++ (S ++ TL.joinL S l) := by
  cases l with
  | nil => exact absurd rfl h
  | cons q r => rfl
theorem joinL_snoc (S y : List Nat) : ∀ {l : List (List Nat)}, l ≠ [] → TL.joinL S (l ++ [y]) = TL.joinL S l ++ S ++ y
  | [], h => absurd rfl h
  | [p], _ => by
    show p ++ (S ++ y) = p ++ S ++ y
    rw [List.append_assoc]
  | p :: q :: r, _ => by
    show TL.joinL S (p :: ((q :: r) ++ [y])) = _
    rw [joinL_cons S p (by simp), joinL_cons S p (List.cons_ne_nil q r), joinL_snoc S y (List.cons_ne_nil q r)]
    simp [List.append_assoc]
theorem join_spl (l : List Nat) : ∀ acc, TL.joinL [46] (TL.spl [46] 0 acc l) = acc ++ l := by
  induction l with
  | nil =>
    intro acc
    rw [spl_nil']
    simp [TL.joinL]
  | cons c r ih =>
    intro acc
    by_cases h : c = 46
    · subst h
      rw [spl_dot, joinL_cons _ _ (spl_ne r []), ih]
      simp
    · rw [spl_no _ _ h, ih]
      simp
theorem join_parts (l : List Nat) : TL.joinL [46] (parts l) = l := join_spl l []
theorem parts_ne (l : List Nat) : parts l ≠ [] := spl_ne l []
theorem spl_nodot (l : List Nat) (h : 46 ∉ l) : ∀ acc, TL.spl [46] 0 acc l = [acc ++ l] := by
  induction l with
  | nil =>
    intro acc
    rw [spl_nil', List.append_nil]
  | cons c r ih =>
    intro acc
    have hc : c ≠ 46 := fun e => h (by rw [e]; exact List.mem_cons_self)
    rw [spl_no _ _ hc, ih (fun z => h (List.mem_cons_of_mem _ z))]
    simp
theorem spl_dot_len (l : List Nat) (h : 46 ∈ l) : ∀ acc, 2 ≤ (TL.spl [46] 0 acc l).length := by
  induction l with
  | nil => cases h
  | cons c r ih =>
    intro acc
    by_cases hc : c = 46
    · subst hc
      rw [spl_dot, List.length_cons]
      have := List.length_pos_iff.mpr (spl_ne r [])
      omega
    · rw [spl_no _ _ hc]
      refine ih ?_ _
      rcases List.mem_cons.mp h with z | z
      · exact absurd z.symm hc
      · exact z
theorem low_dot : low 46 = false := by decide
/-- a name is a path of one part -/
theorem name_one (l : List Nat) : nameL l = (decide ((parts l).length = 1) && (parts l).all nameL) := by
  by_cases h : 46 ∈ l
  · have h1 : nameL l = false := by
      unfold nameL
      have : l.all low = false := by
        rw [List.all_eq_false]
        exact ⟨46, h, by rw [low_dot]; exact Bool.false_ne_true⟩
      rw [this, Bool.and_false]
    have h2 := spl_dot_len l h []
    have h3 : decide ((parts l).length = 1) = false := decide_eq_false (by unfold parts; omega)
    rw [h1, h3, Bool.false_and]
  · have e : parts l = [l] := spl_nodot l h []
    rw [e]
    simp
/-- the beginnings of a list of words -/
def begs (ws : List (List Nat)) : List (List Nat) := (List.range ws.length).map fun i => TL.joinL [46] (ws.take (i + 1))
theorem begs_len (ws : List (List Nat)) : (begs ws).length = ws.length := by
  unfold begs
  rw [List.length_map, List.length_range]
theorem begs_get {ws : List (List Nat)} {i : Nat} (h : i < ws.length) : (begs ws)[i]? = some (TL.joinL [46] (ws.take (i + 1))) := by
  unfold begs
  rw [List.getElem?_map, List.getElem?_range h]
  rfl
theorem take_snoc {α : Type} {xs : List α} {i : Nat} {x : α} (h : xs[i]? = some x) : xs.take (i + 1) = xs.take i ++ [x] := by
  rw [List.take_add_one, h]
  rfl
theorem begs_step {ws : List (List Nat)} {i : Nat} {y : List Nat} (h : ws[i + 1]? = some y) : TL.joinL [46] (ws.take (i + 1)) ++ [46] ++ y = TL.joinL [46] (ws.take (i + 1 + 1)) := by
  have hi := (List.getElem?_eq_some_iff.mp h).1
  rw [take_snoc h, joinL_snoc]
  intro e
  have := congrArg List.length e
  rw [List.length_take, List.length_nil] at this
  omega
/-! ### signs of the alphabet -/
abbrev abc0 : List Nat := [97, 98, 99, 100, 101, 102, 103, 104, 105, 106, 107, 108, 109, 110, 111, 112, 113, 114, 115, 116, 117, 118, 119, 120, 121, 122]
theorem cnt_abc (c : Nat) : cnt c abc0 = if low c = true then 1 else 0 := by
  simp only [cnt_cons, cnt_nil]
  by_cases h : low c = true
  · rw [if_pos h]
    unfold low at h
    obtain ⟨h1, h2⟩ := Bool.and_eq_true_iff.mp h
    have a1 := of_decide_eq_true h1
    have a2 := of_decide_eq_true h2
    obtain ⟨k, hk, rfl⟩ : ∃ k, k < 26 ∧ c = 97 + k := ⟨c - 97, by omega, by omega⟩
    have : ∀ k, k < 26 → ((if 97 = 97 + k then (1 : Int) else 0) + ((if 98 = 97 + k then 1 else 0) + ((if 99 = 97 + k then 1 else 0) + ((if 100 = 97 + k then 1 else 0) + ((if 101 = 97 + k then 1 else 0) + ((if 102 = 97 + k then 1 else 0) + ((if 103 = 97 + k then 1 else 0) + ((if 104 = 97 + k then 1 else 0) + ((if 105 = 97 + k then 1 else 0) + ((if 106 = 97 + k then 1 else 0) + ((if 107 = 97 + k then 1 else 0) + ((if 108 = 97 + k then 1 else 0) + ((if 109 = 97 + k then 1 else 0) + ((if 110 = 97 + k then 1 else 0) + ((if 111 = 97 + k then 1 else 0) + ((if 112 = 97 + k then 1 else 0) + ((if 113 = 97 + k then 1 else 0) + ((if 114 = 97 + k then 1 else 0) + ((if 115 = 97 + k then 1 else 0) + ((if 116 = 97 + k then 1 else 0) + ((if 117 = 97 + k then 1 else 0) + ((if 118 = 97 + k then 1 else 0) + ((if 119 = 97 + k then 1 else 0) + ((if 120 = 97 + k then 1 else 0) + ((if 121 = 97 + k then 1 else 0) + ((if 122 = 97 + k then 1 else 0) + 0)))))))))))))))))))))))))) = 1 := by decide +kernel
    exact this k hk
  · rw [if_neg h]
    have hc : c < 97 ∨ 122 < c := by
      refine Classical.byContradiction fun z => h ?_
      unfold low
      rw [decide_eq_true (show 97 ≤ c by omega), decide_eq_true (show c ≤ 122 by omega)]
      rfl
    have ne : ∀ k : Nat, 97 ≤ k → k ≤ 122 → (if k = c then (1 : Int) else 0) = 0 := fun k h1 h2 => if_neg (by omega)
    rw [ne 97 (by decide) (by decide), ne 98 (by decide) (by decide), ne 99 (by decide) (by decide), ne 100 (by decide) (by decide), ne 101 (by decide) (by decide), ne 102 (by decide) (by decide), ne 103 (by decide) (by decide), ne 104 (by decide) (by decide), ne 105 (by decide) (by decide), ne 106 (by decide) (by decide), ne 107 (by decide) (by decide), ne 108 (by decide) (by decide), ne 109 (by decide) (by decide), ne 110 (by decide) (by decide), ne 111 (by decide) (by decide), ne 112 (by decide) (by decide), ne 113 (by decide) (by decide), ne 114 (by decide) (by decide), ne 115 (by decide) (by decide), ne 116 (by decide) (by decide), ne 117 (by decide) (by decide), ne 118 (by decide) (by decide), ne 119 (by decide) (by decide), ne 120 (by decide) (by decide), ne 121 (by decide) (by decide), ne 122 (by decide) (by decide)]
    rfl
/-- how many of the signs are small letters -/
def lows (w : List Nat) : Nat := (w.filter low).length
theorem lows_le (w : List Nat) : lows w ≤ w.length := List.length_filter_le _ _
theorem lows_all (w : List Nat) : (lows w = w.length) ↔ w.all low = true := by
  unfold lows
  rw [List.length_filter_eq_length_iff, List.all_eq_true]
/-- the law's word -/
theorem word_name (w : List Nat) : (decide (lows w = w.length) && (decide (0 < lows w) && decide (lows w < 9))) = nameL w := by
  unfold nameL
  by_cases h : w.all low = true
  · have e := (lows_all w).mpr h
    rw [h, e, decide_eq_true rfl]
    by_cases h1 : 1 ≤ w.length
    · by_cases h2 : w.length ≤ 8
      · simp [h1, h2, show 0 < w.length by omega, show w.length < 9 by omega]
      · simp [h2, show ¬ w.length < 9 by omega]
    · simp [h1, show ¬ 0 < w.length by omega]
  · have e : ¬ lows w = w.length := fun z => h ((lows_all w).mp z)
    rw [decide_eq_false e, Bool.eq_false_iff.mpr h, Bool.and_false, Bool.false_and]
/-- one sign between a and z -/
theorem between (c : Nat) : (if (!decide ([c] < [97])) = true then !decide ([122] < [c]) else false) = low c := by
  have l1 : ∀ a b : Nat, decide ([a] < [b]) = decide (a < b) := fun a b => by
    by_cases h : a < b
    · rw [decide_eq_true h, decide_eq_true (show [a] < [b] from List.Lex.rel h)]
    · rw [decide_eq_false h]
      refine decide_eq_false fun z => ?_
      cases z with
      | rel q => exact h q
      | cons q => cases q
  rw [l1, l1]
  unfold low
  by_cases h1 : c < 97 <;> by_cases h2 : 122 < c <;> simp [h1, h2, Nat.not_le] <;> omega
end K11
set_option maxHeartbeats 4000000
namespace K11
open PySem PySem.Spec PyProof.Rows L2 HM
def top (i : Nat) : Stmt := PySem.Challenge.pw_halfmade_k11_names_and_paths.main.body.getD i (.Pass ⟨0, 0, 0, 0⟩)
abbrev FnP (K : PySem.W.Frag) (x : Str) (st : Stmt) (f : Addr) (fd : FuncData) : Prop := FunD K x x (defArgs st) (defBody st) (defScope st) [] [] f fd
abbrev sAt : Stmt := top 8
abbrev sPot : Stmt := top 9
abbrev sDraw : Stmt := top 10
theorem scAt : FnScope ["_law_script", "_law_k"] ["_law_script", "_law_k"] (defScope sAt) := ⟨rfl, rfl, rfl, by decide +kernel, rfl, by decide +kernel, by decide +kernel⟩
theorem scPot : FnScope ["_law_script", "_law_k", "_law_cell"] ["_law_script", "_law_k"] (defScope sPot) := ⟨rfl, rfl, rfl, by decide +kernel, rfl, by decide +kernel, by decide +kernel⟩
theorem scDraw : FnScope ["_law_pot_here", "_law_many", "_law_digit"] ["_law_pot_here", "_law_many"] (defScope sDraw) := ⟨rfl, rfl, rfl, by decide +kernel, rfl, by decide +kernel, by decide +kernel⟩
section
variable {P : Program} {w : World} {K : PySem.W.Frag} {mg : Str → Option Value} {base : Heap} {f fA : Addr} {fd fdA : FuncData}
/-- the k-th cell, or 0 -/
def spAt (K : PySem.W.Frag) : Sp := fun vs H Q _ => ∃ (a : Addr) (ns : List Int) (k : Nat), vs = [.ref a, .int k] ∧ SqL K H a (ns.map V.int) ∧ Q (.int (ns.getD k 0)) H
theorem ok_at (F : FnP K "_law_at" sAt f fd) (ml : mg "len" = none) : FnOk P w K mg base CX0 1 f fd ["_law_script", "_law_k"] (spAt K) := by
  refine ok_code F scAt (fun vs H Q E h => ?_) (fun cdv A outer s H vs Q E hcd hr h => ?_)
  · obtain ⟨a, ns, k, rfl, _⟩ := h
    rfl
  · obtain ⟨a, ns, k, rfl, hS, q⟩ := h
    refine ⟨_, pss_one (ps_ret (pe_ifExp (pt_cmpR op_lt (pv 1) (pe_callB call_len_seq (by rfl) ml PySem.boot_len (pa_cons (pv 0) pa_nil)) (nomark _)) (pe_ix ix_list (pv 0) (pv 1) (fun _ _ => rfl)) pe_int)), ?_⟩
    refine ⟨_, rfl, _, rfl, a, _, rfl, .inl hS, _, _, rfl, rfl, _, rfl, ?_⟩
    rw [List.length_map]
    refine ite2 (fun e => ?_) (fun e => ?_)
    · have hk : k < ns.length := by
        have := of_decide_eq_true e
        omega
      refine ⟨_, rfl, _, rfl, a, _, _, .int ns[k], rfl, rfl, hS, ?_, ?_⟩
      · exact atI_nat (by rw [List.getElem?_map, List.getElem?_eq_getElem hk]; rfl)
      · rw [List.getD_eq_getElem?_getD, List.getElem?_eq_getElem hk] at q
        exact q
    · have hk : ns.length ≤ k := by
        refine Nat.le_of_not_lt fun z => e (decide_eq_true ?_)
        omega
      rw [List.getD_eq_getElem?_getD, List.getElem?_eq_none hk] at q
      exact q
/-- a pot: what is left of the cell's digits, and the running number -/
structure PotOk (p0 p1 : Int) : Prop where
  h0 : 0 ≤ p0
  h1 : 0 ≤ p1
  h2 : p1 < 2147483648
def PotAt (H : Hp) (l : Addr) : Prop := ∃ p0 p1, H l = some (.lst [.int p0, .int p1]) ∧ PotOk p0 p1
def spPot (K : PySem.W.Frag) : Sp := fun vs H Q _ => ∃ (a : Addr) (ns : List Int) (k : Nat), vs = [.ref a, .int k] ∧ k ≤ 100 ∧ SqL K H a (ns.map V.int) ∧ ∀ l p0 p1, H l = none → PotOk p0 p1 → Q (.ref l) (upd H l (.lst [.int p0, .int p1]))
theorem ok_pot (F : FnP K "_law_pot" sPot f fd) (FA : FnP K "_law_at" sAt fA fdA) (gA : mg "_law_at" = some (.ref fA)) (ml : mg "len" = none) (mm : mg "max" = none) : FnOk P w K mg base CX0 2 f fd ["_law_script", "_law_k"] (spPot K) := by
  have GA : FnOk P w K mg base CX0 1 fA fdA ["_law_script", "_law_k"] (spAt K) := ok_at FA ml
  have bA : Binds K fdA ["_law_script", "_law_k"] [] := FA.bindsN fun _ _ _ _ _ _ us hl => match us, hl with | [_, _], _ => rfl
  refine ok_code F scPot (fun vs H Q E h => ?_) (fun cdv A outer s H vs Q E hcd hr h => ?_)
  · obtain ⟨a, ns, k, rfl, _⟩ := h
    rfl
  · obtain ⟨a, ns, k, rfl, hk, hS, q⟩ := h
    refine ⟨_, pss_cons (ps_set (i := 2) scPot.nd rfl (.inl rfl) (pe_call GA hr (by rfl) gA FA.kp bA .nil pass0 (pa_cons (pv 0) (pa_cons (pv 1) pa_nil))))
      (pss_one (ps_ret (pe_lst (pa_cons (pe_callB (call_max2 rfl) (by rfl) mm (by decide +kernel) (pa_cons pe_int (pa_cons (pe_op op_sub (pv 2) (pe_op op_pow pe_int pe_int)) pa_nil)))
        (pa_cons (pe_op op_add (pe_op op_mod (pe_op op_pow (pe_op op_add (pe_op op_mod (pv 2) pe_int) (pe_op op_mul pe_int (pe_op op_add (pv 1) pe_int))) pe_int) pe_int) pe_int) pa_nil))))), ?_⟩
    refine ⟨_, rfl, _, rfl, a, ns, k, rfl, hS, ?_⟩
    have hm := Int.emod_nonneg (ns.getD k 0) (show (2147483629 : Int) ≠ 0 by decide)
    have hm2 := Int.emod_lt_of_pos (ns.getD k 0) (show (0 : Int) < 2147483629 by decide)
    refine ⟨_, rfl, 10, 18, rfl, rfl, ⟨by decide, by decide, by decide⟩, _, _, rfl, rfl, _, _, rfl, ?_⟩
    refine ⟨_, rfl, _, _, rfl, rfl, (by show (0 : Int) < 2147483629; decide), _, rfl, _, _, rfl, rfl, _, _, rfl, rfl, .inl ⟨by decide, by decide⟩, _, _, rfl, rfl, _, _, rfl, rfl, ⟨by decide, by decide, ?_⟩, _, _, rfl, rfl, (by show (0 : Int) < 2147483563; decide), _, _, rfl, rfl, (by show 2 ≤ sizeLine; decide), fun p hp => q p _ _ hp ⟨?_, ?_, ?_⟩⟩
    · have e : ((ns.getD k 0 % 2147483629 + 40503 * ((k : Int) + 1)).natAbs : Int) < 2 ^ 64 := by omega
      omega
    · split <;> omega
    · have := Int.emod_nonneg ((ns.getD k 0 % 2147483629 + 40503 * ((k : Int) + 1)) ^ (3 : Int).toNat) (show (2147483563 : Int) ≠ 0 by decide)
      omega
    · have := Int.emod_lt_of_pos ((ns.getD k 0 % 2147483629 + 40503 * ((k : Int) + 1)) ^ (3 : Int).toNat) (show (0 : Int) < 2147483563 by decide)
      omega
/-- a draw: some number below many; the pot goes on -/
def spDraw : Sp := fun vs H Q _ => ∃ (l : Addr) (many p0 p1 : Int), vs = [.ref l, .int many] ∧ 0 < many ∧ many < 1073741824 ∧ H l = some (.lst [.int p0, .int p1]) ∧ PotOk p0 p1 ∧
  ∀ H' d, (∀ b o, H b = some o → b ≠ l → H' b = some o) → PotAt H' l → 0 ≤ d → d < many → Q (.int d) H'
theorem ok_draw (F : FnP K "_law_draw" sDraw f fd) (md : mg "divmod" = none) : FnOk P w K mg base CX0 1 f fd ["_law_pot_here", "_law_many"] spDraw := by
  refine ok_code F scDraw (fun vs H Q E h => ?_) (fun cdv A outer s H vs Q E hcd hr h => ?_)
  · obtain ⟨l, many, p0, p1, rfl, _⟩ := h
    rfl
  · obtain ⟨l, many, p0, p1, rfl, hm0, hm1, hl, ⟨h0, h1, h2⟩, q⟩ := h
    refine ⟨_, pss_cons (ps_if (pt_cmpR op_gt (pe_ix ix_list (pv 0) pe_int (fun _ _ => rfl)) pe_int (nomark _))
        (pss_cons (ps_asg (pe_callB call_divmod (by rfl) md (by decide +kernel) (pa_cons (pe_ix ix_list (pv 0) pe_int (fun _ _ => rfl)) (pa_cons (pv 1) pa_nil)))
            (pg_tup (by rfl) (pgs_cons (pg_sub (pv 0) pe_int set_list) (pgs_cons (pg_name (i := 2) scDraw.nd rfl (.inl rfl)) pgs_nil))))
          (pss_one (ps_ret (pv 2)))) pss_nil)
      (pss_cons (ps_asg (pe_op op_mod (pe_op op_add (pe_op op_mul (pe_ix ix_list (pv 0) pe_int (fun _ _ => rfl)) pe_int) pe_int) pe_int) (pg_sub (pv 0) pe_int set_list))
      (pss_one (ps_ret (pe_op op_mod (pe_op op_fdiv (pe_op op_mod (pe_op op_mul (pe_ix ix_list (pv 0) pe_int (fun _ _ => rfl)) (pe_ix ix_list (pv 0) pe_int (fun _ _ => rfl))) pe_int) pe_int) (pv 1))))), ?_⟩
    have g0 : atI [V.int p0, V.int p1] 0 = some (.int p0) := rfl
    have g1 : atI [V.int p0, V.int p1] 1 = some (.int p1) := rfl
    refine ⟨_, rfl, l, _, 0, _, rfl, rfl, SqL.of hl, g0, _, _, rfl, rfl, _, rfl, ite2 (fun e => ?_) (fun e => ?_)⟩
    · refine ⟨_, rfl, l, _, 0, _, rfl, rfl, SqL.of hl, g0, _, rfl, p0, many, rfl, ⟨hm0, hm1⟩, fun T hT => ?_⟩
      have nl : l ≠ T := ne_of_none hl hT
      refine ⟨T, _, rfl, SqT.of upd_same, rfl, _, _, rfl, _, rfl, l, _, 0, 0, rfl, rfl, (by rw [upd_ne nl]; exact hl), rfl, _, _, rfl, rfl, ?_⟩
      refine ⟨_, rfl, q _ _ (fun b o e nb => ?_) ⟨p0 / many, p1, upd_same, ⟨Int.ediv_nonneg h0 (by omega), h1, h2⟩⟩ (Int.emod_nonneg _ (by omega)) (Int.emod_lt_of_pos _ hm0)⟩
      rw [upd_ne nb, upd_ne (ne_of_none e hT)]
      exact e
    · have e5 := Int.emod_nonneg (p1 * 39373 + 7919) (show (2147483629 : Int) ≠ 0 by decide)
      have e6 := Int.emod_lt_of_pos (p1 * 39373 + 7919) (show (0 : Int) < 2147483629 by decide)
      refine ⟨_, rfl, l, _, 1, _, rfl, rfl, SqL.of hl, g1, _, _, rfl, rfl, .inl ⟨by omega, by omega⟩, _, _, rfl, rfl, _, _, rfl, rfl, (by show (0 : Int) < 2147483629; decide), _, rfl, l, _, 1, 1, rfl, rfl, hl, rfl, ?_⟩
      have g2 : atI [V.int p0, V.int ((p1 * 39373 + 7919) % 2147483629)] 1 = some (.int ((p1 * 39373 + 7919) % 2147483629)) := rfl
      refine ⟨_, rfl, l, _, 1, _, rfl, rfl, SqL.of upd_same, g2, _, rfl, l, _, 1, _, rfl, rfl, SqL.of upd_same, g2, _, _, rfl, rfl, .inl ⟨by omega, by omega⟩, _, _, rfl, rfl, (by show (0 : Int) < 2147483587; decide), _, _, rfl, rfl, ⟨by decide, by decide⟩, _, rfl, _, _, rfl, rfl, hm0, ?_⟩
      exact q _ _ (fun b o e nb => by rw [upd_ne nb]; exact e) ⟨p0, _, upd_same, ⟨h0, e5, by omega⟩⟩ (Int.emod_nonneg _ (by omega)) (Int.emod_lt_of_pos _ hm0)
end
end K11
set_option maxHeartbeats 4000000
namespace K11
open PySem PySem.Spec PyProof.Rows L2 HM
/-! ### heaps that go on but for a pot -/
def Ch (l : Addr) (H H' : Hp) : Prop := ∀ b o, H b = some o → b ≠ l → H' b = some o
theorem Ch.refl (l : Addr) (H : Hp) : Ch l H H := fun _ _ e _ => e
theorem Ch.trans {l : Addr} {H H1 H2 : Hp} (a : Ch l H H1) (b : Ch l H1 H2) : Ch l H H2 := fun c o e n => b c o (a c o e n) n
theorem Ch.new {l : Addr} {H : Hp} {p : Addr} {o : HO} (h : H p = none) : Ch l H (upd H p o) := fun b u e _ => by
  rw [upd_ne (ne_of_none e h)]
  exact e
/-- a new thing is changed -/
theorem Ch.over {l : Addr} {H H1 : Hp} {p : Addr} {o : HO} (a : Ch l H H1) (h : H p = none) : Ch l H (upd H1 p o) := fun b u e n => by
  rw [upd_ne (ne_of_none e h)]
  exact a b u e n
theorem Ch.free {l : Addr} {H H1 : Hp} {p : Addr} (a : Ch l H H1) (h : H1 p = none) (n : p ≠ l) : H p = none := by
  cases e : H p with
  | none => rfl
  | some o =>
    rw [a p o e n] at h
    cases h
theorem map_snoc {α : Type} (f : α → V) (xs : List α) (x : α) : xs.map f ++ [f x] = (xs ++ [x]).map f := by simp
theorem PotAt.new {l : Addr} {H : Hp} {p : Addr} {o : HO} (h : PotAt H l) (hp : p ≠ l) : PotAt (upd H p o) l := by
  obtain ⟨p0, p1, e, k⟩ := h
  exact ⟨p0, p1, by rw [upd_ne (Ne.symm hp)]; exact e, k⟩
theorem PotAt.ne {l : Addr} {H : Hp} {p : Addr} (h : PotAt H l) (hp : H p = none) : p ≠ l := by
  obtain ⟨p0, p1, e, k⟩ := h
  exact fun z => by
    rw [z, e] at hp
    cases hp
theorem draw_of {l : Addr} {H : Hp} {many : Int} {Q : VK} {E : XK} (hP : PotAt H l) (h0 : 0 < many) (h1 : many < 1073741824) (q : ∀ H' d, Ch l H H' → PotAt H' l → 0 ≤ d → d < many → Q (.int d) H') : spDraw ([.ref l, .int many] ++ []) H Q E := by
  obtain ⟨p0, p1, e, k⟩ := hP
  exact ⟨l, many, p0, p1, rfl, h0, h1, e, k, q⟩
theorem len_join (a : Str) (ys : List Str) : (Txt.join a ys).length ≤ (ys.map (·.length)).sum + ys.length * a.length := by
  rw [TL.join_eq]
  exact StrLaws.join_length_le a ys
theorem str_len (x y : Str) : (x ++ y).length = x.length + y.length := strLen_append x y
/-! ### signs that a text may have -/
def okS (z : Str) : Prop := ∀ c ∈ z.cps.toList, c < 1114112
theorem okS_cut {z : Str} (h : okS z) (lo hi : Option Int) : okS (cutS z lo hi) := fun c hc => h c (List.mem_of_mem_drop (List.mem_of_mem_take hc))
theorem okS_app {x y : Str} (hx : okS x) (hy : okS y) : okS (x ++ y) := fun c hc => by
  have e : (x ++ y).cps.toList = x.cps.toList ++ y.cps.toList := TL.tl_append x y
  rw [e] at hc
  rcases List.mem_append.mp hc with z | z
  · exact hx c z
  · exact hy c z
theorem okS_one {c : Nat} (h : c < 1114112) : okS ⟨#[c]⟩ := fun d hd => by
  have e : d = c := by simpa using hd
  rw [e]
  exact h
theorem okS_strJoin {a : Str} (ha : okS a) : ∀ {ys : List Str}, (∀ y ∈ ys, okS y) → okS (Str.join a ys)
  | [], _ => fun c hc => by
    have : c ∈ ([] : List Nat) := hc
    cases this
  | [x], h => h x List.mem_cons_self
  | x :: z :: r, h => okS_app (okS_app (h x List.mem_cons_self) ha) (okS_strJoin ha fun y hy => h y (List.mem_cons_of_mem _ hy))
theorem okS_join {a : Str} (ha : okS a) {ys : List Str} (h : ∀ y ∈ ys, okS y) : okS (Txt.join a ys) := by
  rw [TL.join_eq]
  exact okS_strJoin ha h
abbrev sBent : Stmt := top 11
theorem scBent : FnScope ["_law_pot_here", "_law_text_here", "_law_way", "_law_at_here", "_law_sign"] ["_law_pot_here", "_law_text_here", "_law_way"] (defScope sBent) := ⟨rfl, rfl, rfl, by decide +kernel, rfl, by decide +kernel, by decide +kernel⟩
section
variable {P : Program} {w : World} {K : PySem.W.Frag} {mg : Str → Option Value} {base : Heap} {f fD fB : Addr} {fd fdD fdB : FuncData}
def spBent : Sp := fun vs H Q _ => ∃ (l : Addr) (z : Str) (way : Int), vs = [.ref l, .str z, .int way] ∧ PotAt H l ∧ z.length ≤ 1000 ∧ okS z ∧ ∀ H' z', Ch l H H' → PotAt H' l → z'.length ≤ 2 * z.length + 1 → okS z' → Q (.str z') H'
theorem ok_bent (F : FnP K "_law_bent" sBent f fd) (FD : FnP K "_law_draw" sDraw fD fdD) (gD : mg "_law_draw" = some (.ref fD)) (md : mg "divmod" = none) (ml : mg "len" = none) : FnOk P w K mg base CX0 2 f fd ["_law_pot_here", "_law_text_here", "_law_way"] spBent := by
  have GD : FnOk P w K mg base CX0 1 fD fdD ["_law_pot_here", "_law_many"] spDraw := ok_draw FD md
  have bD : Binds K fdD ["_law_pot_here", "_law_many"] [] := FD.bindsN fun _ _ _ _ _ _ us hl => match us, hl with | [_, _], _ => rfl
  refine ok_code F scBent (fun vs H Q E h => ?_) (fun cdv A outer s H vs Q E hcd hr h => ?_)
  · obtain ⟨l, z, way, rfl, _⟩ := h
    rfl
  · obtain ⟨l, z, way, rfl, hP, hz, hok, q⟩ := h
    have hzl : z.length ≤ sizeLine := Nat.le_of_lt (small1000 hz)
    refine ⟨_, pss_cons (ps_set (i := 3) scBent.nd rfl (.inl rfl) (pe_call GD hr (by rfl) gD FD.kp bD .nil pass0 (pa_cons (pv 0) (pa_cons (pe_op op_add (pe_callB call_len_str (by rfl) ml PySem.boot_len (pa_cons (pv 1) pa_nil)) pe_int) pa_nil))))
      (pss_cons (ps_set (i := 4) scBent.nd rfl (.inl rfl) (pe_ix ix_str pe_str (pe_call GD hr (by rfl) gD FD.kp bD .nil pass0 (pa_cons (pv 0) (pa_cons pe_int pa_nil))) (fun _ _ => rfl)))
      (pss_cons (ps_if (pt_cmpR op_eq (pv 2) pe_int (nomark _)) (pss_one (ps_ret (pe_op op_add_str (pe_op op_add_str (pe_slice sl_str (pv 1) po_none (po_some (pv 3))) (pv 4)) (pe_slice sl_str (pv 1) (po_some (pv 3)) po_none)))) pss_nil)
      (pss_cons (ps_if (pt_cmpR op_eq (pv 2) pe_int (nomark _)) (pss_one (ps_ret (pe_op op_add_str (pe_op op_add_str (pe_slice sl_str (pv 1) po_none (po_some (pv 3))) (pv 4)) (pe_slice sl_str (pv 1) (po_some (pe_op op_add (pv 3) pe_int)) po_none)))) pss_nil)
      (pss_one (ps_ret (pe_op op_add_str (pe_slice sl_str (pv 1) po_none (po_some (pv 3))) (pe_slice sl_str (pv 1) (po_some (pe_op op_add (pv 3) pe_int)) po_none))))))), ?_⟩
    obtain ⟨p0, p1, hl, pk⟩ := hP
    refine ⟨_, rfl, _, rfl, z, rfl, hzl, _, _, rfl, rfl, l, _, p0, p1, rfl, by omega, by omega, hl, pk, fun H1 d c1 ⟨q0, q1, hl1, pk1⟩ d0 d1 => ?_⟩
    refine ⟨_, rfl, l, _, q0, q1, rfl, by decide, by decide, hl1, pk1, fun H2 e c2 hP2 e0 e1 => ?_⟩
    obtain ⟨en, rfl⟩ : ∃ n : Nat, e = (n : Int) := ⟨e.toNat, by omega⟩
    have he : en < 14 := by omega
    obtain ⟨c, hc⟩ : ∃ c, (Str.ofString "az.. .AZ09_-\t\n").cps.toList[en]? = some c := by
      have hl : (Str.ofString "az.. .AZ09_-\t\n").cps.toList.length = 14 := by decide +kernel
      exact ⟨_, List.getElem?_eq_getElem (by omega)⟩
    refine ⟨_, _, c, rfl, rfl, by decide +kernel, atI_nat hc, ?_⟩
    have l1 : (⟨#[c]⟩ : Str).length = 1 := rfl
    have c3 : Ch l H H2 := Ch.trans c1 c2
    have a1 := cutS_length z none (some d)
    have a2 := cutS_length z (some d) none
    have a3 := cutS_length z (some (d + 1)) none
    have hS : 3000 ≤ sizeLine := by decide
    have oc : okS ⟨#[c]⟩ := okS_one (by
      have h : ∀ d ∈ (Str.ofString "az.. .AZ09_-\t\n").cps.toList, d < 1114112 := by decide +kernel
      exact h c (List.mem_of_getElem? hc))
    refine ⟨_, rfl, rfl, _, rfl, ite2 (fun _ => ?_) (fun _ => ?_)⟩
    · refine ⟨_, rfl, _, rfl, d, rfl, z, rfl, hzl, _, rfl, _, _, rfl, rfl, by omega, _, rfl, _, rfl, d, rfl, z, rfl, hzl, _, _, rfl, rfl, ?_, ?_⟩
      · rw [str_len]
        omega
      · refine q _ _ c3 hP2 ?_ (okS_app (okS_app (okS_cut hok _ _) oc) (okS_cut hok _ _))
        rw [str_len, str_len]
        omega
    · refine ⟨_, rfl, rfl, _, rfl, ite2 (fun _ => ?_) (fun _ => ?_)⟩
      · refine ⟨_, rfl, _, rfl, d, rfl, z, rfl, hzl, _, rfl, _, _, rfl, rfl, by omega, _, rfl, _, rfl, _, _, rfl, rfl, _, rfl, z, rfl, hzl, _, _, rfl, rfl, ?_, ?_⟩
        · rw [str_len]
          omega
        · refine q _ _ c3 hP2 ?_ (okS_app (okS_app (okS_cut hok _ _) oc) (okS_cut hok _ _))
          rw [str_len, str_len]
          omega
      · refine ⟨_, rfl, _, rfl, d, rfl, z, rfl, hzl, _, rfl, _, rfl, _, _, rfl, rfl, _, rfl, z, rfl, hzl, _, _, rfl, rfl, by omega, ?_⟩
        refine q _ _ c3 hP2 ?_ (okS_app (okS_cut hok _ _) (okS_cut hok _ _))
        rw [str_len]
        omega
end
abbrev sText : Stmt := top 12
abbrev nText : List Str := ["_law_pot_here", "_law_letters", "_law_way", "_law_odd", "_law_spot", "_law_lengths", "_law_words_here", "_law_text_here", "_law_k", "_law_length", "_law_j"]
theorem scText : FnScope nText ["_law_pot_here"] (defScope sText) := ⟨rfl, rfl, rfl, by decide +kernel, rfl, by decide +kernel, by decide +kernel⟩
abbrev abc : Str := Str.ofString "abcdefghijklmnopqrstuvwxyz"
theorem abc_len : abc.cps.toList.length = 26 := by decide +kernel
/-- the scope of the outer comprehension of the words -/
def lcScope : Expr → Scope
  | .ListComp _ _ sc _ => sc
  | _ => { kind := .function, names := [], isGenerator := false, isCoroutine := false }
def asgVal : Stmt → Expr
  | .Assign _ v _ => v
  | _ => .Constant .none 0 ⟨0, 0, 0, 0⟩
abbrev scWords : Scope := lcScope (asgVal ((defBody sText).getD 4 (.Pass ⟨0, 0, 0, 0⟩)))
/-- a comprehension's scope within a def's -/
abbrev relab (sc outer : Scope) : Scope := relabel sc (envOfC "" outer 0 0 .none)
/-- sep.join(list) -/
def rJoin (K : PySem.W.Frag) : V → List V → Hp → VK → Prop := fun x xs H Q => ∃ a p, ∃ ys : List Str, x = .str a ∧ xs = [.ref p] ∧ (SqL K H p (ys.map V.str) ∨ SqT K H p (ys.map V.str)) ∧ (ys.map (·.length)).sum + ys.length * a.length ≤ 16777216 ∧ Q (.str (Txt.join a ys)) H
section
variable {P : Program} {w : World} {K : PySem.W.Frag} {mg : Str → Option Value} {base : Heap} {f fD fB : Addr} {fd fdD fdB : FuncData}
/-- the words and the text of the lengths at D -/
def tTail (K : PySem.W.Frag) : TS :=
  tSeq (tAsg (tLc (iList K (tVar 5)) (gName 9) tYes (tM1 (rJoin K) (tC (.str "")) (tLc (iRng1 (tCons (tVar 9) tNil)) (gName 10) tYes (tOp rIxS (tVar 1) (tCall spDraw [] E0 (tCons (tVar 0) (tCons (tC (.int 26)) tNil)))) [10])) [9]) (gName 6))
    (tSeq (tAsg (tM1 (rJoin K) (tC (.str ".")) (tVar 6)) (gName 7))
      (tSeq (tIfS (tTest (tOp (rI0 fun i j => V.bl (decide (i < j))) (tVar 2) (tC (.int 3)))) (tRet (tCall spBent [] E0 (tCons (tVar 0) (tCons (tVar 7) (tCons (tVar 2) tNil))))) tNext) (tRet (tVar 7))))
theorem sum_le9 : ∀ (ws : List Str), (∀ z ∈ ws, z.length ≤ 9 ∧ okS z) → (ws.map (·.length)).sum ≤ 9 * ws.length
  | [], _ => Nat.le_refl _
  | z :: ws, h => by
    have h1 := (h z List.mem_cons_self).1
    have h2 := sum_le9 ws fun y hy => h y (List.mem_cons_of_mem _ hy)
    rw [List.map_cons, List.sum_cons, List.length_cons]
    omega
theorem sum_ones : ∀ (ws : List Str), (∀ z ∈ ws, z.length = 1 ∧ okS z) → (ws.map (·.length)).sum = ws.length
  | [], _ => rfl
  | z :: ws, h => by
    have h1 := (h z List.mem_cons_self).1
    have h2 := sum_ones ws fun y hy => h y (List.mem_cons_of_mem _ hy)
    rw [List.map_cons, List.sum_cons, List.length_cons]
    omega
theorem text_tail {K : PySem.W.Frag} {H H6 : Hp} {l D : Addr} {way : Int} {o3 o4 : Option V} {ms : List Int} {Q : VK} {nx : L2.St → Hp → Prop} (q : ∀ H' z, Ch l H H' → z.length ≤ 200 → okS z → Q (.str z) H') (k6 : Ch l H H6) (hP6 : PotAt H6 l) (hn : ms.length ≤ 5) (hm : ∀ x ∈ ms, 0 ≤ x ∧ x ≤ 9)
    (hD : H6 D = some (.lst (ms.map V.int))) (nD : D ≠ l) : tTail K { nx := nx, rt := Q } [some (.ref l), some (.str abc), some (.int way), o3, o4, some (.ref D), none, none, none, none, none] H6 := by
  refine ⟨_, rfl, D, rfl, ⟨_, SqL.of hD⟩, fun W hW => ?_⟩
  have nW : W ≠ l := hP6.ne hW
  have fW : H W = none := k6.free hW nW
  have nWD : D ≠ W := ne_of_none hD hW
  refine lc_list (K := K) (a := D) (xs := ms.map V.int) (fun i H' => Ch l H H' ∧ PotAt H' l ∧ H' D = some (.lst (ms.map V.int)) ∧ ∃ ws : List Str, ws.length = i ∧ (∀ z ∈ ws, z.length ≤ 9 ∧ okS z) ∧ H' W = some (.lst (ws.map V.str)))
    ⟨Ch.over k6 fW, hP6.new nW, by rw [upd_ne nWD]; exact hD, [], rfl, fun x hx => (by cases hx), upd_same⟩ (fun i H' _ p => SqL.of p.2.2.1) ?_ ?_
  · rintro i x H7 hx ⟨k7, hP7, hD7, ws, e1, e2, e3⟩
    obtain ⟨n, hn9, rfl⟩ : ∃ n : Int, (0 ≤ n ∧ n ≤ 9) ∧ x = .int n := by
      rw [List.getElem?_map] at hx
      cases e : ms[i]? with
      | none =>
        rw [e] at hx
        cases hx
      | some n =>
        rw [e] at hx
        exact ⟨n, hm n (List.mem_of_getElem? e), (Option.some.inj hx).symm⟩
    refine ⟨rfl, ⟨_, rfl⟩, _, rfl, _, rfl, by omega, by omega, fun L hL => ?_⟩
    have nL : L ≠ l := hP7.ne hL
    have fL : H L = none := k7.free hL nL
    have nLW : W ≠ L := ne_of_none e3 hL
    have nLD : D ≠ L := ne_of_none hD7 hL
    refine lc_range (lo := 0) (n := n.toNat) (fun j H' => Ch l H H' ∧ PotAt H' l ∧ H' D = some (.lst (ms.map V.int)) ∧ H' W = some (.lst (ws.map V.str)) ∧ ∃ cs : List Str, cs.length = j ∧ (∀ z ∈ cs, z.length = 1 ∧ okS z) ∧ H' L = some (.lst (cs.map V.str)))
      ⟨Ch.over k7 fL, hP7.new nL, by rw [upd_ne nLD]; exact hD7, by rw [upd_ne nLW]; exact e3, [], rfl, fun x hx => (by cases hx), upd_same⟩ ?_ ?_
    · rintro j H8 hj ⟨k8, ⟨q0, q1, hl8, pk8⟩, hD8, hW8, cs, f1, f2, f3⟩
      refine ⟨rfl, _, rfl, _, rfl, l, _, q0, q1, rfl, by decide, by decide, hl8, pk8, fun H9 d c9 hP9 d0 d1 => ?_⟩
      obtain ⟨dn, rfl⟩ : ∃ n : Nat, d = (n : Int) := ⟨d.toNat, by omega⟩
      have hdn : dn < abc.cps.toList.length := by
        rw [abc_len]
        omega
      refine ⟨_, _, abc.cps.toList[dn], rfl, rfl, by decide +kernel, atI_nat (List.getElem?_eq_getElem hdn), cs.map V.str, c9 L _ f3 nL, ?_, Ch.over (Ch.trans k8 c9) fL, hP9.new nL, ?_, ?_, cs ++ [⟨#[abc.cps.toList[dn]]⟩], ?_, ?_, ?_⟩
      · rw [List.length_map, f1]
        exact small1000 (by omega)
      · rw [upd_ne nLD]
        exact c9 D _ hD8 nD
      · rw [upd_ne nLW]
        exact c9 W _ hW8 nW
      · rw [List.length_append, f1]
        rfl
      · intro x hx
        rcases List.mem_append.mp hx with z | z
        · exact f2 x z
        · rw [List.mem_singleton.mp z]
          refine ⟨rfl, okS_one ?_⟩
          have h : ∀ d ∈ abc.cps.toList, d < 1114112 := by decide +kernel
          exact h _ (List.getElem_mem hdn)
      · rw [upd_same]
        exact congrArg (fun z => some (HO.lst z)) (map_snoc V.str cs _)
    · rintro H8 ⟨k8, hP8, hD8, hW8, cs, f1, f2, f3⟩
      have hs := sum_ones cs f2
      have hz : (Str.ofString "").length = 0 := by decide +kernel
      have hj := len_join "" cs
      rw [hz, Nat.mul_zero, hs, f1] at hj
      refine ⟨_, L, cs, rfl, rfl, .inl (SqL.of f3), ?_, ws.map V.str, hW8, ?_, Ch.over k8 fW, hP8.new nW, ?_, ws ++ [Txt.join "" cs], ?_, ?_, ?_⟩
      · rw [hz, hs, f1]
        omega
      · rw [List.length_map, e1]
        have := (List.getElem?_eq_some_iff.mp hx).1
        rw [List.length_map] at this
        exact small1000 (by omega)
      · rw [upd_ne nWD]
        exact hD8
      · rw [List.length_append, e1]
        rfl
      · intro x hx
        rcases List.mem_append.mp hx with z | z
        · exact e2 x z
        · rw [List.mem_singleton.mp z]
          exact ⟨by omega, okS_join (by unfold okS; decide +kernel) fun y hy => (f2 y hy).2⟩
      · rw [upd_same]
        exact congrArg (fun z => some (HO.lst z)) (map_snoc V.str ws _)
  · rintro H7 ⟨k7, hP7, hD7, ws, e1, e2, e3⟩
    rw [List.length_map] at e1
    have hs := sum_le9 ws e2
    have hz : (Str.ofString ".").length = 1 := by decide +kernel
    have hj := len_join "." ws
    rw [hz, Nat.mul_one] at hj
    refine ⟨⟨_, rfl⟩, _, rfl, _, W, ws, rfl, rfl, .inl (SqL.of e3), ?_, ?_⟩
    · rw [hz]
      omega
    · have hl : (Txt.join "." ws).length ≤ 50 := by omega
      have ho : okS (Txt.join "." ws) := okS_join (by unfold okS; decide +kernel) fun y hy => (e2 y hy).2
      refine ⟨_, rfl, _, _, rfl, rfl, _, rfl, ite2 (fun _ => ?_) (fun _ => ?_)⟩
      · refine ⟨_, rfl, _, rfl, _, rfl, l, _, way, rfl, hP7, by omega, ho, fun H8 z k8 _ hz oz => q H8 z (Ch.trans k7 k8) (by omega) oz⟩
      · exact ⟨_, rfl, q H7 _ k7 (by omega) ho⟩
def spText : Sp := fun vs H Q _ => ∃ (l : Addr), vs = [.ref l] ∧ PotAt H l ∧ ∀ H' z, Ch l H H' → z.length ≤ 200 → okS z → Q (.str z) H'
theorem ok_text (F : FnP K "_law_text" sText f fd) (FD : FnP K "_law_draw" sDraw fD fdD) (FB : FnP K "_law_bent" sBent fB fdB) (gD : mg "_law_draw" = some (.ref fD)) (gB : mg "_law_bent" = some (.ref fB)) (md : mg "divmod" = none) (ml : mg "len" = none) (mr : mg "range" = none) :
    FnOk P w K mg base CX0 3 f fd ["_law_pot_here"] spText := by
  have GD : FnOk P w K mg base CX0 1 fD fdD ["_law_pot_here", "_law_many"] spDraw := ok_draw FD md
  have bD : Binds K fdD ["_law_pot_here", "_law_many"] [] := FD.bindsN fun _ _ _ _ _ _ us hl => match us, hl with | [_, _], _ => rfl
  have GB : FnOk P w K mg base CX0 2 fB fdB ["_law_pot_here", "_law_text_here", "_law_way"] spBent := ok_bent FB FD gD md ml
  have bB : Binds K fdB ["_law_pot_here", "_law_text_here", "_law_way"] [] := FB.bindsN fun _ _ _ _ _ _ us hl => match us, hl with | [_, _, _], _ => rfl
  refine ok_code F scText (fun vs H Q E h => ?_) (fun cdv A outer s H vs Q E hcd hr h => ?_)
  · obtain ⟨l, rfl, _⟩ := h
    rfl
  · obtain ⟨l, rfl, hP, q⟩ := h
    have hr1 : Room 1 (A.deeper (envOfC "_law_text" (defScope sText) s.heap.objs.size f cdv)) := hr.mono (by decide)
    refine ⟨_, pss_cons (ps_set (i := 1) scText.nd rfl (.inr rfl) pe_str)
      (pss_cons (ps_par3 (i := 2) (j := 3) (l := 4) rfl scText.nd rfl rfl rfl (by decide) (by decide) (by decide) rfl rfl rfl
          (pa_cons (pe_call GD hr1 (by rfl) gD FD.kp bD .nil pass0 (pa_cons (pv 0) (pa_cons pe_int pa_nil))) (pa_cons (pe_call GD hr1 (by rfl) gD FD.kp bD .nil pass0 (pa_cons (pv 0) (pa_cons pe_int pa_nil))) (pa_cons (pe_call GD hr1 (by rfl) gD FD.kp bD .nil pass0 (pa_cons (pv 0) (pa_cons pe_int pa_nil))) pa_nil))) (by rfl))
      (pss_cons (ps_setLc (i := 5) (own := [("_law_k", 8)]) (g := gName 8) (tt := tYes) rfl scText.nd rfl rfl (sw_true rfl rfl rfl (by decide +kernel))
          (pi_range1 (by rfl) mr (pa_cons (pe_op op_add pe_int (pe_call GD hr1 (by rfl) gD FD.kp bD .nil pass0 (pa_cons (pv 0) (pa_cons pe_int pa_nil)))) pa_nil))
          (blkOk_by (own := [("_law_k", 8)]) (N := nText) (sc := defScope sText) (by decide +kernel)) (fun _ _ _ _ _ => pg_name (i := 8) scText.nd rfl (Or.inl rfl)) (fun _ _ _ _ _ => pts_nil)
          (fun _ _ _ _ _ => pe_op op_add pe_int (pe_call GD hr1 (by rfl) gD FD.kp bD .nil pass0 (pa_cons (pv 0) (pa_cons pe_int pa_nil)))))
      (pss_cons (ps_if (pt_cmpR op_eq (pv 3) pe_int (nomark _)) (pss_one (ps_asg (pe_op op_mul pe_int (pe_call GD hr1 (by rfl) gD FD.kp bD .nil pass0 (pa_cons (pv 0) (pa_cons pe_int pa_nil))))
          (pg_sub (pv 5) (pe_op op_mod (pv 4) (pe_callB call_len_seq (by rfl) ml PySem.boot_len (pa_cons (pv 5) pa_nil))) set_list))) pss_nil)
      (pss_cons (ps_setLc (i := 6) (own := [("_law_length", 9)]) (g := gName 9) (tt := tYes) (te := tM1 (rJoin K) (tC (.str "")) (tLc (iRng1 (tCons (tVar 9) tNil)) (gName 10) tYes (tOp rIxS (tVar 1) (tCall spDraw [] E0 (tCons (tVar 0) (tCons (tC (.int 26)) tNil)))) [10])) rfl scText.nd rfl rfl (sw_true rfl rfl rfl (by decide +kernel)) (pi_list (pv 5))
          (blkOk_by (own := [("_law_length", 9)]) (N := nText) (sc := defScope sText) (by decide +kernel)) (fun _ _ _ _ _ => pg_name (i := 9) scText.nd rfl (Or.inl rfl)) (fun _ _ _ _ _ => pts_nil)
          (fun _ _ _ _ _ => by exact (pe_join pe_str (by exact (pe_lc (own := [("_law_j", 10)]) (g := gName 10) (tt := tYes) (by rfl) scText.nd (pi_range1 (by rfl) mr (pa_cons (pv 9) pa_nil))
            (blkOk_by (own := [("_law_j", 10)]) (N := nText) (sc := relab scWords (defScope sText)) (by decide +kernel)) (fun _ _ _ _ _ => pg_name (i := 10) scText.nd rfl (Or.inl rfl)) (fun _ _ _ _ _ => pts_nil)
            (fun _ _ _ _ _ => pe_ix ix_str (pv 1) (pe_call GD hr1 (by rfl) gD FD.kp bD .nil pass0 (pa_cons (pv 0) (pa_cons pe_int pa_nil))) (fun _ _ => rfl)))))))
      (pss_cons (ps_set (i := 7) scText.nd rfl (.inl rfl) (pe_join pe_str (pv 6)))
      (pss_cons (ps_if (pt_cmpR op_lt (pv 2) pe_int (nomark _)) (pss_one (ps_ret (pe_call GB hr (by rfl) gB FB.kp bB .nil pass0 (pa_cons (pv 0) (pa_cons (pv 7) (pa_cons (pv 2) pa_nil)))))) pss_nil)
      (pss_one (ps_ret (pv 7))))))))), ?_⟩
    obtain ⟨p0, p1, hl, pk⟩ := hP
    refine ⟨_, rfl, l, _, p0, p1, rfl, by decide, by decide, hl, pk, fun H1 way c1 ⟨p2, p3, hl1, pk1⟩ _ _ => ?_⟩
    refine ⟨_, rfl, l, _, p2, p3, rfl, by decide, by decide, hl1, pk1, fun H2 odd c2 ⟨p4, p5, hl2, pk2⟩ _ _ => ?_⟩
    refine ⟨_, rfl, l, _, p4, p5, rfl, by decide, by decide, hl2, pk2, fun H3 spot c3 ⟨p6, p7, hl3, pk3⟩ s0 _ => ?_⟩
    refine ⟨_, _, _, rfl, ?_⟩
    have k3 : Ch l H H3 := Ch.trans c1 (Ch.trans c2 c3)
    -- the lengths
    refine ⟨_, rfl, l, _, p6, p7, rfl, by decide, by decide, hl3, pk3, fun H4 nn c4 hP4 n0 n1 => ?_⟩
    refine ⟨_, _, rfl, rfl, _, rfl, by omega, by omega, fun D hD => ?_⟩
    have k4 : Ch l H H4 := Ch.trans k3 c4
    have nD : D ≠ l := hP4.ne hD
    refine lc_range (lo := 0) (n := (1 + nn).toNat) (fun i H' => Ch l H H' ∧ PotAt H' l ∧ ∃ ls : List Int, ls.length = i ∧ (∀ x ∈ ls, 0 ≤ x ∧ x ≤ 9) ∧ H' D = some (.lst (ls.map V.int)))
      ⟨Ch.over k4 ?_, hP4.new nD, [], rfl, fun x hx => (by cases hx), upd_same⟩ ?_ ?_
    · exact k4.free hD nD
    · rintro i H5 hi ⟨k5, ⟨q0, q1, hl5, pk5⟩, ls, e1, e2, e3⟩
      refine ⟨rfl, _, rfl, l, _, q0, q1, rfl, by decide, by decide, hl5, pk5, fun H6 d c6 hP6 d0 d1 => ⟨_, _, rfl, rfl, ls.map V.int, c6 D _ e3 nD, ?_, Ch.over (Ch.trans k5 c6) (k4.free hD nD), hP6.new nD, ls ++ [1 + d], ?_, ?_, ?_⟩⟩
      · rw [List.length_map, e1]
        exact small1000 (by omega)
      · rw [List.length_append, e1]
        rfl
      · intro x hx
        rcases List.mem_append.mp hx with z | z
        · exact e2 x z
        · rw [List.mem_singleton.mp z]
          omega
      · rw [upd_same]
        exact congrArg (fun z => some (HO.lst z)) (map_snoc V.int ls (1 + d))
    · rintro H5 ⟨k5, hP5, ls, e1, e2, e3⟩
      have hn : 0 < ls.length := by omega
      have hn5 : ls.length ≤ 5 := by omega
      refine ⟨_, rfl, rfl, _, rfl, ite2 (fun _ => ?_) (fun _ => ?_)⟩
      · obtain ⟨q0, q1, hl5, pk5⟩ := hP5
        refine ⟨_, rfl, l, _, q0, q1, rfl, by decide, by decide, hl5, pk5, fun H6 d c6 hP6 d0 d1 => ?_⟩
        refine ⟨_, _, rfl, rfl, .inl ⟨by decide, by decide⟩, _, rfl, _, rfl, _, rfl, D, _, rfl, .inl (SqL.of (c6 D _ e3 nD)), _, _, rfl, rfl, ?_, ?_⟩
        · show (0 : Int) < ((ls.map V.int).length : Int)
          rw [List.length_map]
          omega
        · rw [List.length_map]
          have m0 := Int.emod_nonneg spot (show (ls.length : Int) ≠ 0 by omega)
          have m1 := Int.emod_lt_of_pos spot (show (0 : Int) < (ls.length : Int) by omega)
          refine ⟨D, _, _, (spot % (ls.length : Int)).toNat, rfl, rfl, c6 D _ e3 nD, ?_, ?_⟩
          · unfold ixN
            rw [if_pos m0, List.length_map, if_pos m1]
          · refine text_tail (ms := ls.set (spot % (ls.length : Int)).toNat (9 * d)) q (Ch.over (Ch.trans k5 c6) (k4.free hD nD)) (hP6.new nD) (by rw [List.length_set]; exact hn5) (fun x hx => ?_) ?_ nD
            · rcases List.mem_or_eq_of_mem_set hx with z | z
              · exact e2 x z
              · rw [z]
                omega
            · rw [upd_same, List.map_set]
      · exact text_tail q k5 hP5 hn5 e2 e3 nD
end
end K11
set_option maxHeartbeats 4000000
namespace K11
open PySem PySem.Spec PyProof.Rows L2 HM SX
abbrev sName : Stmt := top 3
abbrev sPath : Stmt := top 4
abbrev sBegs : Stmt := top 5
abbrev sParent : Stmt := top 6
theorem scName : FnScope ["thing"] ["thing"] (defScope sName) := ⟨rfl, rfl, rfl, by decide +kernel, rfl, by decide +kernel, by decide +kernel⟩
theorem scPath : FnScope ["thing", "names"] ["thing"] (defScope sPath) := ⟨rfl, rfl, rfl, by decide +kernel, rfl, by decide +kernel, by decide +kernel⟩
theorem scBegs : FnScope ["path", "names", "many"] ["path"] (defScope sBegs) := ⟨rfl, rfl, rfl, by decide +kernel, rfl, by decide +kernel, by decide +kernel⟩
theorem scParent : FnScope ["path", "ahead"] ["path"] (defScope sParent) := ⟨rfl, rfl, rfl, by decide +kernel, rfl, by decide +kernel, by decide +kernel⟩
/-- what isinstance tells of a thing that is no text -/
def NoStr (K : PySem.W.Frag) (H : Hp) (x : V) : Prop := ∃ t, TyX K H x t ∧ PySem.W.kitOne K t (.type "str") = some false
section
variable {P : Program} {w : World} {K : PySem.W.Frag} {mg : Str → Option Value} {base : Heap} {f fN fB : Addr} {fd fdN fdB : FuncData}
def spName (K : PySem.W.Frag) (Ps : List Addr) : Sp := fun vs H Q _ => ∃ x, vs = [x] ∧ TabsOk Ps H ∧
  ((∃ l : List Nat, x = .str (S l) ∧ l.length ≤ 1000 ∧ ∀ H', Sm H H' → TabsOk Ps H' → Q (.bl (nameL l)) H') ∨ (NoStr K H x ∧ Q (.bl false) H))
theorem ok_name {Ps : List Addr} (F : FnP K "is_name" sName (He.fAd K ("is_name", none)) fd) (hP : (He.cT K ("is_name", none)).2 ∈ Ps) (TB : GxR.TabB base mg (He.cT K ("is_name", none)).1 (He.cT K ("is_name", none)).2) (mi : mg "isinstance" = none) (ms : mg "str" = none)
    (ml : mg "len" = none) (ma : mg "all" = none) (cL : ∃ t, mg "LETTERS_AT_MOST" = some (.int 8 t)) : FnOk P w K mg base CX0 2 (He.fAd K ("is_name", none)) fd ["thing"] (spName K Ps) := by
  obtain ⟨tL, cL⟩ := cL
  refine ok_code F scName (fun vs H Q E h => ?_) (fun cdv A outer s H vs Q E hcd hr h => ?_)
  · obtain ⟨x, rfl, _⟩ := h
    rfl
  · obtain ⟨x, rfl, hT, h⟩ := h
    have hc : cdv = .ref (He.cT K ("is_name", none)).1 := hcd ("is_name", none) rfl
    refine ⟨_, pss_cons (ps_if (pt_not (pt_val (pe_callB call_isi (by rfl) mi (by decide +kernel) (pa_cons (pv 0) (pa_cons (pe_bltn (v := .ty "str") (by rfl) ms (by decide +kernel) rfl) pa_nil))))) (pss_one (ps_ret pe_bl)) pss_nil)
      (pss_cons (ps_if (pt_not (pt_chain op_le op_le pe_int (pe_callB call_len_str (by rfl) ml PySem.boot_len (pa_cons (pv 0) pa_nil)) (pe_glob (v := .int 8) (by rfl) cL ⟨_, rfl⟩))) (pss_one (ps_ret pe_bl)) pss_nil)
      (pss_one (ps_ret (GxA.pe_allG (N := ["sign"]) (k := 0) hr (by rfl) ma TB hc ⟨rfl, rfl, by decide +kernel, by decide +kernel, rfl⟩ (pi_str (pv 0))
        (fun _ _ _ _ _ e => pg_name (i := 0) (by show (["sign"] : List Str).Nodup; decide) rfl (.inl (by rw [show (GxA.genCx _ _ _ _ _ _ _).env.scope = _ from e]; rfl)) (.inr (by rw [show (GxA.genCx _ _ _ _ _ _ _).env.scope = _ from e]; rfl)))
        (fun _ _ _ _ _ e _ => pe_chain op_le_str op_le_str pe_str (pe_var (i := 0) rfl (.inl (by rw [show (GxA.genCx _ _ _ _ _ _ _).env.scope = _ from e]; rfl))) pe_str) (fun _ => rfl))))), ?_⟩
    rcases h with ⟨l, rfl, hl, q⟩ | ⟨⟨ty, h1, h2⟩, q⟩
    · have hll : (S l).length = l.length := S_len l
      have hs : (S l).length ≤ sizeLine := by
        rw [hll]
        exact Nat.le_of_lt (small1000 hl)
      refine ⟨_, rfl, _, _, _, _, true, rfl, .ty "str", .base (.str _), kit_ty (by decide +kernel), _, rfl, ?_⟩
      refine ⟨_, rfl, _, rfl, hs, _, _, rfl, rfl, _, rfl, ?_⟩
      by_cases h1 : 1 ≤ l.length
      · have e1 : decide ((1 : Int) ≤ ((S l).length : Int)) = true := decide_eq_true (by rw [hll]; omega)
        rw [e1]
        refine ⟨_, _, rfl, rfl, _, rfl, ?_⟩
        by_cases h2 : l.length ≤ 8
        · have e2 : decide (((S l).length : Int) ≤ 8) = true := decide_eq_true (by rw [hll]; omega)
          rw [e2]
          refine ⟨_, rfl, _, rfl, ?_⟩
          have e3 : nameL l = l.all low := by
            unfold nameL
            rw [decide_eq_true h1, decide_eq_true h2, Bool.true_and, Bool.true_and]
          rw [e3] at q
          refine ⟨hT _ hP, fun H2 hTb => GxA.all_it walk_str (fun i H' => H' = H2 ∧ (l.take i).all low = true) ⟨rfl, rfl⟩ (fun _ _ _ _ => trivial) ?_ ?_⟩
          · rintro i x H3 H4 hi ⟨rfl, ha⟩ ⟨rfl, c, hc, rfl⟩
            have hc2 : l[i]? = some c := by
              rw [← hc]
              simp [S]
            have ea : (Str.ofString "a").cps.toList = [97] := by decide +kernel
            have ez : (Str.ofString "z").cps.toList = [122] := by decide +kernel
            have eall : (l.take (i + 1)).all low = low c := by
              rw [take_snoc hc2, List.all_append, ha, Bool.true_and]
              simp
            have hb := between c
            have no : low c = false → Q (.bl false) H4 := fun z => by
              have := q H4 (sm_tabbed (hT _ hP) hTb) (hT.tabbed hTb)
              have e4 : l.all low = false := List.all_eq_false.mpr ⟨c, List.mem_of_getElem? hc2, by rw [z]; exact Bool.false_ne_true⟩
              rw [e4] at this
              exact this
            refine ⟨_, rfl, _, _, rfl, rfl, _, rfl, ?_⟩
            show if (!decide ([c] < (Str.ofString "a").cps.toList)) = true then _ else _
            rw [ea]
            by_cases k1 : (!decide ([c] < [97])) = true
            · rw [if_pos k1] at hb
              rw [if_pos k1]
              refine ⟨_, _, rfl, rfl, _, rfl, ?_⟩
              show if (!decide ((Str.ofString "z").cps.toList < [c])) = true then _ else _
              rw [ez, hb]
              cases hlow : low c with
              | true => exact ⟨rfl, by rw [eall]; exact hlow⟩
              | false => exact no hlow
            · rw [if_neg k1] at hb
              rw [if_neg k1]
              exact ⟨_, rfl, no hb.symm⟩
          · rintro H3 ⟨rfl, ha⟩
            have hsz : (S l).cps.size = l.length := S_len l
            rw [hsz, List.take_length] at ha
            have := q H3 (sm_tabbed (hT _ hP) hTb) (hT.tabbed hTb)
            rw [ha] at this
            exact this
        · have e2 : decide (((S l).length : Int) ≤ 8) = false := decide_eq_false (by rw [hll]; omega)
          rw [e2]
          have e3 : nameL l = false := by
            unfold nameL
            rw [decide_eq_false h2, Bool.and_false, Bool.false_and]
          have := q H (Sm.refl H) hT
          rw [e3] at this
          exact this
      · have e1 : decide ((1 : Int) ≤ ((S l).length : Int)) = false := decide_eq_false (by rw [hll]; omega)
        rw [e1]
        have e3 : nameL l = false := by
          unfold nameL
          rw [decide_eq_false h1, Bool.false_and, Bool.false_and]
        have := q H (Sm.refl H) hT
        rw [e3] at this
        exact ⟨_, rfl, this⟩
    · exact ⟨_, rfl, _, _, _, _, false, rfl, .ty "str", h1, h2, _, rfl, q⟩
theorem dot_S : Str.ofString "." = S [46] := by decide +kernel
theorem split_parts (l : List Nat) : Txt.split (S l) (Str.ofString ".") = (parts l).map S := by
  rw [dot_S]
  exact split_S (List.cons_ne_nil _ _) (by decide)
theorem parts_len_le (l : List Nat) : ∀ acc, (TL.spl [46] 0 acc l).length ≤ l.length + 1 := by
  induction l with
  | nil =>
    intro acc
    rw [spl_nil']
    exact Nat.le_refl _
  | cons c r ih =>
    intro acc
    by_cases h : c = 46
    · subst h
      rw [spl_dot, List.length_cons, List.length_cons]
      have := ih []
      omega
    · rw [spl_no _ _ h, List.length_cons]
      have := ih (acc ++ [c])
      omega
theorem part_len (l : List Nat) : ∀ acc, ∀ q ∈ TL.spl [46] 0 acc l, q.length ≤ acc.length + l.length := by
  induction l with
  | nil =>
    intro acc q hq
    rw [spl_nil'] at hq
    rw [List.mem_singleton.mp hq]
    exact Nat.le_add_right _ _
  | cons c r ih =>
    intro acc q hq
    by_cases h : c = 46
    · subst h
      rw [spl_dot] at hq
      rcases List.mem_cons.mp hq with z | z
      · rw [z]
        exact Nat.le_add_right _ _
      · have := ih [] q z
        rw [List.length_nil] at this
        rw [List.length_cons]
        omega
    · rw [spl_no _ _ h] at hq
      have := ih _ q hq
      rw [List.length_append, List.length_singleton] at this
      rw [List.length_cons]
      omega
def spPath (K : PySem.W.Frag) (Ps : List Addr) : Sp := fun vs H Q _ => ∃ x, vs = [x] ∧ TabsOk Ps H ∧
  ((∃ l : List Nat, x = .str (S l) ∧ l.length ≤ 900 ∧ ∀ H', Sm H H' → TabsOk Ps H' → Q (.bl (pathL l)) H') ∨ (NoStr K H x ∧ Q (.bl false) H))
theorem ok_path {Ps : List Addr} (F : FnP K "is_path" sPath (He.fAd K ("is_path", none)) fd) (hP : (He.cT K ("is_path", none)).2 ∈ Ps) (TB : GxR.TabB base mg (He.cT K ("is_path", none)).1 (He.cT K ("is_path", none)).2)
    (GN : FnOk P w K mg base CX0 2 fN fdN ["thing"] (spName K Ps)) (FN : FnP K "is_name" sName fN fdN) (gN : mg "is_name" = some (.ref fN)) (mi : mg "isinstance" = none) (ms : mg "str" = none)
    (ml : mg "len" = none) (ma : mg "all" = none) (cL : ∃ t, mg "NAMES_AT_MOST" = some (.int 4 t)) : FnOk P w K mg base CX0 4 (He.fAd K ("is_path", none)) fd ["thing"] (spPath K Ps) := by
  obtain ⟨tL, cL⟩ := cL
  have bN : Binds K fdN ["thing"] [] := FN.bindsN fun _ _ _ _ _ _ us hl => match us, hl with | [_], _ => rfl
  refine ok_code F scPath (fun vs H Q E h => ?_) (fun cdv A outer s H vs Q E hcd hr h => ?_)
  · obtain ⟨x, rfl, _⟩ := h
    rfl
  · obtain ⟨x, rfl, hT, h⟩ := h
    have hc : cdv = .ref (He.cT K ("is_path", none)).1 := hcd ("is_path", none) rfl
    refine ⟨_, pss_cons (ps_if (pt_not (pt_val (pe_callB call_isi (by rfl) mi (by decide +kernel) (pa_cons (pv 0) (pa_cons (pe_bltn (v := .ty "str") (by rfl) ms (by decide +kernel) rfl) pa_nil))))) (pss_one (ps_ret pe_bl)) pss_nil)
      (pss_cons (ps_set (i := 1) scPath.nd rfl (.inl rfl) (pe_split (pv 0) pe_str))
      (pss_one (ps_ret (pe_and (pe_cmpR op_le (pe_callB call_len_seq (by rfl) ml PySem.boot_len (pa_cons (pv 1) pa_nil)) (pe_glob (v := .int 4) (by rfl) cL ⟨_, rfl⟩) (nomark _)) (pe_one
        (GxA.pe_allG (N := ["name"]) (k := 2) (te := tCall (spName K Ps) [] E0 (tCons (tVar 0) tNil)) hr (by rfl) ma TB hc ⟨rfl, rfl, by decide +kernel, by decide +kernel, rfl⟩ (pi_list (pv 1))
        (fun _ _ _ _ _ e => pg_name (i := 0) (by show (["name"] : List Str).Nodup; decide) rfl (.inl (by rw [show (GxA.genCx _ _ _ _ _ _ _).env.scope = _ from e]; rfl)) (.inr (by rw [show (GxA.genCx _ _ _ _ _ _ _).env.scope = _ from e]; rfl)))
        (fun _ _ _ _ _ e hrm => pe_call GN hrm (show (GxA.genCx _ _ _ _ _ _ _).env.scope.names.lookup _ = _ by rw [show (GxA.genCx _ _ _ _ _ _ _).env.scope = _ from e]; rfl) gN FN.kp bN .nil pass0
          (pa_cons (pe_var (i := 0) rfl (.inl (by rw [show (GxA.genCx _ _ _ _ _ _ _).env.scope = _ from e]; rfl))) pa_nil)) (fun _ => rfl))))))), ?_⟩
    rcases h with ⟨l, rfl, hl, q⟩ | ⟨⟨ty, h1, h2⟩, q⟩
    · have hll : (S l).length = l.length := S_len l
      refine ⟨_, rfl, _, _, _, _, true, rfl, .ty "str", .base (.str _), kit_ty (by decide +kernel), _, rfl, ?_⟩
      refine ⟨_, rfl, ⟨_, rfl⟩, _, _, rfl, rfl, by decide +kernel, ?_, fun p hp => ?_⟩
      · rw [hll]
        have := small1000 (n := l.length + 2) (by omega)
        omega
      · rw [split_parts]
        have hT1 : TabsOk Ps (upd H p (.lst (((parts l).map S).map V.str))) := hT.new hp
        refine ⟨_, rfl, p, _, rfl, .inl (SqL.of upd_same), _, _, rfl, rfl, _, rfl, ?_⟩
        rw [List.length_map, List.length_map]
        by_cases h4 : (parts l).length ≤ 4
        · have e4 : decide (((parts l).length : Int) ≤ 4) = true := decide_eq_true (by omega)
          have e5 : pathL l = (parts l).all nameL := by
            unfold pathL
            rw [decide_eq_true h4, Bool.true_and]
          rw [e5] at q
          rw [e4]
          refine ⟨_, rfl, p, rfl, ⟨_, SqL.of upd_same⟩, hT1 _ hP, fun H2 hTb => ?_⟩
          have s2 := sm_tabbed (hT1 _ hP) hTb
          refine GxA.all_it (walk_list (xs := ((parts l).map S).map V.str)) (fun i H' => Sm (upd H p (.lst (((parts l).map S).map V.str))) H' ∧ TabsOk Ps H' ∧ ((parts l).take i).all nameL = true) ⟨s2, hT1.tabbed hTb, rfl⟩ (fun i H' _ h => h.1.seq (SqL.of upd_same)) ?_ ?_
          · rintro i x H3 H4 hi ⟨s3, t3, ha⟩ ⟨rfl, hx⟩
            obtain ⟨y, hy, rfl⟩ : ∃ y, (parts l)[i]? = some y ∧ x = .str (S y) := by
              rw [List.getElem?_map, List.getElem?_map] at hx
              cases e : (parts l)[i]? with
              | none =>
                rw [e] at hx
                cases hx
              | some y =>
                rw [e] at hx
                exact ⟨y, rfl, (Option.some.inj hx).symm⟩
            have hyl : y.length ≤ 1000 := by
              have := part_len l [] y (List.mem_of_getElem? hy)
              rw [List.length_nil] at this
              omega
            have eall : ((parts l).take (i + 1)).all nameL = nameL y := by
              rw [take_snoc hy, List.all_append, ha, Bool.true_and]
              simp
            refine ⟨_, rfl, _, rfl, t3, .inl ⟨y, rfl, hyl, fun H5 s5 t5 => ⟨_, rfl, ?_⟩⟩⟩
            cases hn : nameL y with
            | true => exact ⟨s3.trans s5, t5, by rw [eall]; exact hn⟩
            | false =>
              have := q H5 ((Sm.new hp).trans (s3.trans s5)) t5
              have e6 : (parts l).all nameL = false := List.all_eq_false.mpr ⟨y, List.mem_of_getElem? hy, by rw [hn]; exact Bool.false_ne_true⟩
              rw [e6] at this
              exact this
          · rintro H3 ⟨s3, t3, ha⟩
            rw [List.length_map, List.length_map, List.take_length] at ha
            have := q H3 ((Sm.new hp).trans s3) t3
            rw [ha] at this
            exact this
        · have e4 : decide (((parts l).length : Int) ≤ 4) = false := decide_eq_false (by omega)
          have e5 : pathL l = false := by
            unfold pathL
            rw [decide_eq_false h4, Bool.false_and]
          rw [e5] at q
          rw [e4]
          exact q _ (Sm.new hp) hT1
    · exact ⟨_, rfl, _, _, _, _, false, rfl, .ty "str", h1, h2, _, rfl, q⟩
end
end K11
set_option maxHeartbeats 4000000
namespace K11
open PySem PySem.Spec PyProof.Rows L2 HM SX
/-! ### slices -/
theorem cut_to (xs : List V) (k : Nat) : cutV xs none (some (k : Int)) = xs.take k := by
  unfold cutV
  rw [HT.sIx_none, HT.sIx_nat, List.drop_zero, Nat.sub_zero]
  by_cases h : k ≤ xs.length
  · rw [Nat.min_eq_left h]
  · rw [Nat.min_eq_right (by omega), List.take_of_length_le (Nat.le_refl _), List.take_of_length_le (by omega)]
theorem cut_last (xs : List V) : cutV xs none (some (-1)) = xs.dropLast := by
  unfold cutV
  have e : HT.sIx xs.length xs.length (some (-1)) = xs.length - 1 := by
    have := HT.clip_eq (-1) xs.length xs.length
    rw [if_pos (by decide)] at this
    omega
  rw [HT.sIx_none, e, List.drop_zero, Nat.sub_zero, List.dropLast_eq_take]
theorem cut_from1 (xs : List V) : cutV xs (some 1) none = xs.drop 1 := by
  unfold cutV
  have e : HT.sIx xs.length 0 (some 1) = min 1 xs.length := HT.sIx_nat xs.length 0 1
  rw [e, HT.sIx_none]
  cases xs with
  | nil => rfl
  | cons x r =>
    rw [List.length_cons, Nat.min_eq_left (by omega)]
    exact List.take_of_length_le (by rw [List.drop_one, List.tail_cons]; omega)
abbrev mapS (ws : List (List Nat)) : List V := (ws.map S).map V.str
theorem mapS_len (ws : List (List Nat)) : (mapS ws).length = ws.length := by rw [List.length_map, List.length_map]
theorem mapS_get {ws : List (List Nat)} {i : Nat} {y : List Nat} (h : ws[i]? = some y) : (mapS ws)[i]? = some (.str (S y)) := by
  rw [List.getElem?_map, List.getElem?_map, h]
  rfl
theorem of_mapS_get {ws : List (List Nat)} {i : Nat} {x : V} (h : (mapS ws)[i]? = some x) : ∃ y, ws[i]? = some y ∧ x = .str (S y) := by
  rw [List.getElem?_map, List.getElem?_map] at h
  cases e : ws[i]? with
  | none =>
    rw [e] at h
    cases h
  | some y =>
    rw [e] at h
    exact ⟨y, rfl, (Option.some.inj h).symm⟩
theorem mapS_snoc (ws : List (List Nat)) (y : List Nat) : mapS ws ++ [.str (S y)] = mapS (ws ++ [y]) := by
  unfold mapS
  rw [List.map_append, List.map_append]
  rfl
/-- how many signs words have -/
theorem sum_join (ws : List (List Nat)) : ((ws.map S).map (·.length)).sum ≤ (TL.joinL [46] ws).length := by
  rw [lens]
  induction ws with
  | nil => exact Nat.le_refl _
  | cons p r ih =>
    cases r with
    | nil => simp [TL.joinL]
    | cons q r =>
      rw [List.map_cons, List.sum_cons, joinL_cons _ _ (List.cons_ne_nil q r), List.length_append, List.length_append]
      omega
theorem TabsOk.same {Ps : List Addr} {H H' : Hp} (t : TabsOk Ps H) (s : Same H H') : TabsOk Ps H' := fun P hP => by
  obtain ⟨ps, e, k⟩ := t P hP
  exact ⟨ps, s _ _ e, k⟩
theorem Same.sm {H H' : Hp} (s : Same H H') : Sm H H' := fun b o e _ => s b o e
theorem Same.new {H : Hp} {p : Addr} {o : HO} (h : H p = none) : Same H (upd H p o) := fun b u e => by
  rw [upd_ne (ne_of_none e h)]
  exact e
theorem Same.over {H H1 : Hp} {p : Addr} {o : HO} (a : Same H H1) (h : H p = none) : Same H (upd H1 p o) := fun b u e => by
  rw [upd_ne (ne_of_none e h)]
  exact a b u e
theorem take_join_len (ws : List (List Nat)) (k : Nat) : (TL.joinL [46] (ws.take k)).length ≤ (TL.joinL [46] ws).length := by
  induction ws generalizing k with
  | nil =>
    rw [List.take_nil]
    exact Nat.le_refl _
  | cons p r ih =>
    cases k with
    | zero => exact Nat.zero_le _
    | succ k =>
      rw [List.take_succ_cons]
      cases r with
      | nil =>
        rw [List.take_nil]
        exact Nat.le_refl _
      | cons q r =>
        rw [joinL_cons _ _ (List.cons_ne_nil q r), List.length_append, List.length_append]
        cases k with
        | zero =>
          show p.length ≤ _
          omega
        | succ k =>
          have := ih (k + 1)
          rw [joinL_cons _ _ (by rw [List.take_succ_cons]; exact List.cons_ne_nil _ _), List.length_append, List.length_append]
          omega
section
variable {P : Program} {w : World} {K : PySem.W.Frag} {mg : Str → Option Value} {base : Heap} {f fN fB : Addr} {fd fdN fdB : FuncData}
def spBegs : Sp := fun vs H Q _ => ∃ l : List Nat, vs = [.str (S l)] ∧ l.length ≤ 900 ∧ ∀ H' D, Same H H' → H D = none → H' D = some (.lst (mapS (begs (parts l)))) → Q (.ref D) H'
theorem ok_begs (F : FnP K "beginnings" sBegs f fd) (ml : mg "len" = none) (mr : mg "range" = none) : FnOk P w K mg base CX0 1 f fd ["path"] spBegs := by
  refine ok_code F scBegs (fun vs H Q E h => ?_) (fun cdv A outer s H vs Q E hcd hr h => ?_)
  · obtain ⟨l, rfl, _⟩ := h
    rfl
  · obtain ⟨l, rfl, hl, q⟩ := h
    refine ⟨_, pss_cons (ps_set (i := 1) scBegs.nd rfl (.inr rfl) (pe_split (pv 0) pe_str))
      (pss_one (ps_ret (pe_lc (own := [("many", 2)]) (g := gName 2) (tt := tYes) (te := tM1 (rJoin K) (tC (.str ".")) (tSl (rSlL K) (tVar 1) tNoPart (tPart (tVar 2)))) (by rfl) scBegs.nd
        (pi_range2 (by rfl) mr (pa_cons pe_int (pa_cons (pe_op op_add (pe_callB call_len_seq (by rfl) ml PySem.boot_len (pa_cons (pv 1) pa_nil)) pe_int) pa_nil)))
        (blkOk_by (own := [("many", 2)]) (N := ["path", "names", "many"]) (sc := defScope sBegs) (by decide +kernel)) (fun _ _ _ _ _ => pg_name (i := 2) scBegs.nd rfl (Or.inl rfl)) (fun _ _ _ _ _ => pts_nil)
        (fun _ _ _ _ _ => pe_join pe_str (pe_slice sl_list (pv 1) po_none (po_some (pv 2))))))), ?_⟩
    have hll : (S l).length = l.length := S_len l
    refine ⟨_, rfl, ⟨_, rfl⟩, _, _, rfl, rfl, by decide +kernel, ?_, fun p hp => ?_⟩
    · rw [hll]
      have := small1000 (n := l.length + 2) (by omega)
      omega
    · rw [split_parts]
      have hn : (parts l).length ≤ l.length + 1 := parts_len_le l []
      refine ⟨_, rfl, p, _, rfl, .inl (SqL.of upd_same), _, _, rfl, rfl, _, _, rfl, ⟨by decide, by decide, ?_, ?_⟩, fun D hD => ?_⟩
      · rw [List.length_map, List.length_map]
        omega
      · rw [List.length_map, List.length_map]
        omega
      · have en : (((((parts l).map S).map V.str).length : Int) + 1 - 1).toNat = (parts l).length := by
          rw [List.length_map, List.length_map]
          omega
        rw [en]
        have nDp : p ≠ D := ne_of_none upd_same hD
        have fD : H D = none := (Same.new hp).free hD
        refine lc_range (lo := 1) (n := (parts l).length) (fun i H' => Same (upd H p (.lst (mapS (parts l)))) H' ∧ H' D = some (.lst (mapS ((begs (parts l)).take i)))) ⟨Same.new hD, by rw [upd_same]; rfl⟩ ?_ ?_
        · rintro i H3 hi ⟨s3, e3⟩
          have e4 : H3 p = some (.lst (mapS (parts l))) := s3 _ _ upd_same
          refine ⟨rfl, ⟨_, rfl⟩, _, rfl, _, rfl, _, rfl, p, _, rfl, SqL.of e4, fun p2 hp2 => ?_⟩
          have e5 : cutV (mapS (parts l)) none (some (1 + (i : Int))) = mapS ((parts l).take (i + 1)) := by
            have e : (1 + (i : Int)) = ((i + 1 : Nat) : Int) := by omega
            rw [e, cut_to, mapS, mapS, List.map_take, List.map_take]
          rw [e5]
          have nD2 : D ≠ p2 := ne_of_none e3 hp2
          refine ⟨_, p2, ((parts l).take (i + 1)).map S, rfl, rfl, .inl (SqL.of upd_same), ?_, mapS ((begs (parts l)).take i), ?_, ?_, ?_, ?_⟩
          · have h1 := sum_join ((parts l).take (i + 1))
            have h2 := take_join_len (parts l) (i + 1)
            rw [join_parts] at h2
            have h3 : ((parts l).take (i + 1)).length ≤ (parts l).length := by
              rw [List.length_take]
              exact Nat.min_le_right _ _
            have h4 : (Str.ofString ".").length = 1 := by decide +kernel
            rw [h4, List.length_map]
            omega
          · rw [upd_ne nD2]
            exact e3
          · rw [mapS_len, List.length_take]
            exact small1000 (by omega)
          · refine Same.over (Same.over s3 ?_) hD
            exact s3.free hp2
          · rw [upd_same, dot_S, join_S, mapS_snoc, take_snoc (begs_get hi)]
        · rintro H3 ⟨s3, e3⟩
          have e4 : (begs (parts l)).take (parts l).length = begs (parts l) := List.take_of_length_le (by rw [begs_len]; exact Nat.le_refl _)
          rw [e4] at e3
          exact q H3 D ((Same.new hp).trans s3) fD e3
/-- what parent tells: the beginning ahead of the last one, or None -/
def parV (l : List Nat) : V := match (begs (parts l)).dropLast.getLast? with
  | some y => .str (S y)
  | none => .non
def spParent : Sp := fun vs H Q _ => ∃ l : List Nat, vs = [.str (S l)] ∧ l.length ≤ 900 ∧ ∀ H', Same H H' → Q (parV l) H'
theorem ok_parent (F : FnP K "parent" sParent f fd) (FB : FnP K "beginnings" sBegs fB fdB) (gB : mg "beginnings" = some (.ref fB)) (ml : mg "len" = none) (mr : mg "range" = none) : FnOk P w K mg base CX0 2 f fd ["path"] spParent := by
  have GB : FnOk P w K mg base CX0 1 fB fdB ["path"] spBegs := ok_begs FB ml mr
  have bB : Binds K fdB ["path"] [] := FB.bindsN fun _ _ _ _ _ _ us hl => match us, hl with | [_], _ => rfl
  refine ok_code F scParent (fun vs H Q E h => ?_) (fun cdv A outer s H vs Q E hcd hr h => ?_)
  · obtain ⟨l, rfl, _⟩ := h
    rfl
  · obtain ⟨l, rfl, hl, q⟩ := h
    refine ⟨_, pss_cons (ps_set (i := 1) scParent.nd rfl (.inl rfl) (pe_slice sl_list (pe_call GB hr (by rfl) gB FB.kp bB .nil pass0 (pa_cons (pv 0) pa_nil)) po_none (po_some (pe_un un_neg pe_int))))
      (pss_one (ps_ret (pe_ifExp (pt_truth (pv 1) (by intro _; rfl)) (pe_ix ix_list (pv 1) (pe_un un_neg pe_int) (fun _ _ => rfl)) pe_non))), ?_⟩
    refine ⟨_, rfl, l, rfl, hl, fun H1 D s1 hD e1 => ⟨_, rfl, _, rfl, D, _, rfl, SqL.of e1, fun p hp => ?_⟩⟩
    have ec : cutV (mapS (begs (parts l))) none (some (-1)) = mapS (begs (parts l)).dropLast := by
      rw [cut_last, mapS, mapS, List.map_dropLast, List.map_dropLast]
    refine ⟨_, rfl, !(mapS (begs (parts l)).dropLast).isEmpty, .inl ⟨_, SqL.of (by rw [upd_same]; exact congrArg (fun z => some (HO.lst z)) ec), rfl⟩, ?_⟩
    have q1 := q (upd H1 p (.lst (mapS (begs (parts l)).dropLast))) (s1.trans (Same.new hp))
    unfold parV at q1
    rcases List.eq_nil_or_concat (begs (parts l)).dropLast with e | ⟨i, y, e⟩
    · rw [e] at q1 ⊢
      have e2 : cutV (mapS (begs (parts l))) none (some (-1)) = [] := by rw [ec, e]; rfl
      show Q V.non (upd H1 p (.lst (cutV (mapS (begs (parts l))) none (some (-1)))))
      rw [e2]
      exact q1
    · have e' : (begs (parts l)).dropLast = i ++ [y] := by rw [e, List.concat_eq_append]
      rw [e', List.getLast?_concat] at q1
      rw [e']
      have hne : (!(mapS (i ++ [y])).isEmpty) = true := by
        rw [← mapS_snoc]
        simp
      rw [hne]
      refine ⟨_, rfl, _, rfl, p, _, -1, .str (S y), rfl, rfl, SqL.of upd_same, ?_, ?_⟩
      · rw [ec, e', ← mapS_snoc]
        exact atI_last _ _
      · rw [ec, e']
        exact q1
end
end K11
set_option maxHeartbeats 4000000
namespace K11
open PySem PySem.Spec PyProof.Rows L2 HM SX
abbrev sWords : Stmt := top 13
abbrev sIsWord : Stmt := top 14
abbrev sDues : Stmt := top 15
abbrev sLBegs : Stmt := top 16
theorem scWordsF : FnScope ["_law_text_here", "_law_words_here", "_law_sign"] ["_law_text_here"] (defScope sWords) := ⟨rfl, rfl, rfl, by decide +kernel, rfl, by decide +kernel, by decide +kernel⟩
theorem scIsWord : FnScope ["_law_word", "_law_good", "_law_sign"] ["_law_word"] (defScope sIsWord) := ⟨rfl, rfl, rfl, by decide +kernel, rfl, by decide +kernel, by decide +kernel⟩
theorem scDues : FnScope ["_law_text_here", "_law_words_here", "_law_good", "_law_word"] ["_law_text_here"] (defScope sDues) := ⟨rfl, rfl, rfl, by decide +kernel, rfl, by decide +kernel, by decide +kernel⟩
theorem scLBegs : FnScope ["_law_words_here", "_law_found", "_law_word"] ["_law_words_here"] (defScope sLBegs) := ⟨rfl, rfl, rfl, by decide +kernel, rfl, by decide +kernel, by decide +kernel⟩
theorem ixN_last (n : Nat) (h : 0 < n) : ixN n (-1) = some (n - 1) := by
  unfold ixN
  rw [if_neg (by decide), if_pos (by omega)]
  congr 1
  omega
theorem atI_last' {α : Type} {xs : List α} {y : α} (h : xs.getLast? = some y) : atI xs (-1) = some y := by
  obtain ⟨i, rfl⟩ := List.getLast?_eq_some_iff.mp h
  exact atI_last i y
theorem one_S {c : Nat} : (⟨#[c]⟩ : Str) = S [c] := rfl
theorem dot_one (c : Nat) : decide (V.str ⟨#[c]⟩ = V.str (Str.ofString ".")) = decide (c = 46) := by
  by_cases h : c = 46
  · subst h
    rw [decide_eq_true rfl, decide_eq_true]
    decide +kernel
  · rw [decide_eq_false h]
    refine decide_eq_false fun z => h ?_
    have e : (⟨#[c]⟩ : Str) = S [46] := (V.str.inj z).trans dot_S
    have := S_inj (a := [c]) e
    exact (List.cons.inj this).1
section
variable {P : Program} {w : World} {K : PySem.W.Frag} {mg : Str → Option Value} {base : Heap} {f fN fB : Addr} {fd fdN fdB : FuncData}
def spWords : Sp := fun vs H Q _ => ∃ l : List Nat, vs = [.str (S l)] ∧ l.length ≤ 900 ∧ ∀ H' D, Same H H' → H D = none → H' D = some (.lst (mapS (parts l))) → Q (.ref D) H'
theorem ok_words (F : FnP K "_law_words" sWords f fd) : FnOk P w K mg base CX0 1 f fd ["_law_text_here"] spWords := by
  refine ok_code F scWordsF (fun vs H Q E h => ?_) (fun cdv A outer s H vs Q E hcd hr h => ?_)
  · obtain ⟨l, rfl, _⟩ := h
    rfl
  · obtain ⟨l, rfl, hl, q⟩ := h
    refine ⟨_, pss_cons (ps_set (i := 1) scWordsF.nd rfl (.inl rfl) (pe_lst (pa_cons pe_str pa_nil)))
      (pss_cons (ps_for PassesOwn.never rfl (pi_str (pv 0)) (pg_name (i := 2) scWordsF.nd rfl (.inl rfl)) (pss_one (ps_if (pt_cmpR op_eq (pv 2) pe_str (nomark _))
          (pss_one (ps_expr (pe_bm PySem.F.plainAttrs_list PySem.F.slot_list_append PySem.F.type_list_append mt_append (pv 1) (pa_cons pe_str pa_nil))))
          (pss_one (ps_asg (pe_op op_add_str (pe_ix ix_list (pv 1) (pe_un un_neg pe_int) (fun _ _ => rfl)) (pv 2)) (pg_sub (pv 1) (pe_un un_neg pe_int) set_list))))))
      (pss_one (ps_ret (pv 1)))), ?_⟩
    refine ⟨by show 1 ≤ sizeLine; decide, fun D hD => ?_⟩
    have e0 : Str.ofString "" = S [] := by decide +kernel
    have hsz : (S l).cps.size = l.length := S_len l
    refine ⟨_, rfl, _, rfl, for_it walk_str (fun i σ H' => ∃ v2 : Option V, σ = [some (.str (S l)), some (.ref D), v2] ∧ Same H H' ∧ H' D = some (.lst (mapS (parts (l.take i))))) ⟨none, rfl, Same.new hD, ?_⟩ (fun _ _ _ _ _ => trivial) ?_ ?_⟩
    · rw [upd_same, e0]
      rfl
    · rintro i x σ H3 H4 hi ⟨v2, rfl, s3, e3⟩ ⟨rfl, c, hc, rfl⟩
      rw [hsz] at hi
      have hc2 : l[i]? = some c := by
        rw [← hc]
        simp [S]
      have et : l.take (i + 1) = l.take i ++ [c] := take_snoc hc2
      have hpl := parts_len_le (l.take i) []
      have htl : (l.take i).length ≤ l.length := by
        rw [List.length_take]
        exact Nat.min_le_right _ _
      refine ⟨_, rfl, rfl, _, rfl, ?_⟩
      rw [dot_one]
      by_cases h46 : c = 46
      · subst h46
        rw [decide_eq_true rfl]
        refine ⟨_, rfl, .inl ⟨rfl, _, SqL.of e3⟩, D, _, _, rfl, rfl, e3, ?_, some (.str ⟨#[46]⟩), rfl, Same.over s3 hD, ?_⟩
        · rw [mapS_len]
          refine small1000 ?_
          unfold parts
          omega
        · rw [upd_same, e0, mapS_snoc, et]
          exact congrArg (fun z => some (HO.lst (mapS z))) (spl_snoc_dot (l.take i) []).symm
      · rw [decide_eq_false h46]
        rcases List.eq_nil_or_concat (parts (l.take i)) with e | ⟨u, y, e⟩
        · exact absurd e (parts_ne _)
        · rw [List.concat_eq_append] at e
          have e5 : parts (l.take (i + 1)) = u ++ [y ++ [c]] := by
            rw [et]
            exact spl_snoc h46 (l.take i) [] u y e
          have hy := part_len (l.take i) [] y (by rw [show TL.spl [46] 0 [] (l.take i) = u ++ [y] from e]; simp)
          rw [List.length_nil] at hy
          rw [e, ← mapS_snoc] at e3
          refine ⟨_, rfl, _, rfl, D, _, _, _, rfl, rfl, SqL.of e3, atI_last _ _, _, rfl, _, _, rfl, rfl, ?_, _, rfl, _, rfl, D, _, _, (mapS u).length, rfl, rfl, e3, ?_, some (.str ⟨#[c]⟩), rfl, Same.over s3 hD, ?_⟩
          · rw [one_S, S_len, S_len, List.length_singleton]
            have := small1000 (n := y.length + 1) (by omega)
            omega
          · rw [List.length_append, List.length_singleton, ixN_last _ (by omega)]
            rfl
          · rw [upd_same, e5, one_S, S_cat, List.set_append_right _ _ (Nat.le_refl _), Nat.sub_self, ← mapS_snoc]
            rfl
    · rintro σ H3 ⟨v2, rfl, s3, e3⟩
      rw [hsz, List.take_length] at e3
      exact ⟨_, rfl, q H3 D s3 hD e3⟩
def spIsWord : Sp := fun vs H Q _ => ∃ l : List Nat, vs = [.str (S l)] ∧ l.length ≤ 900 ∧ Q (.bl (nameL l)) H
theorem abc_S : abc = S abc0 := by decide +kernel
theorem ok_isword (F : FnP K "_law_is_word" sIsWord f fd) (ml : mg "len" = none) : FnOk P w K mg base CX0 1 f fd ["_law_word"] spIsWord := by
  refine ok_code F scIsWord (fun vs H Q E h => ?_) (fun cdv A outer s H vs Q E hcd hr h => ?_)
  · obtain ⟨l, rfl, _⟩ := h
    rfl
  · obtain ⟨l, rfl, hl, q⟩ := h
    refine ⟨_, pss_cons (ps_set (i := 1) scIsWord.nd rfl (.inl rfl) pe_int)
      (pss_cons (ps_for PassesOwn.never rfl (pi_str (pv 0)) (pg_name (i := 2) scIsWord.nd rfl (.inl rfl)) (pss_one (ps_set (i := 1) scIsWord.nd rfl (.inl rfl) (pe_op op_add (pv 1) (pe_m1 PySem.F.slot_str_count PySem.F.type_str_count mt_count pe_str (pv 2))))))
      (pss_one (ps_ret (pe_and (pe_cmpR op_eq (pv 1) (pe_callB call_len_str (by rfl) ml PySem.boot_len (pa_cons (pv 0) pa_nil)) (nomark _)) (pe_one (pe_chain op_lt op_lt pe_int (pv 1) pe_int)))))), ?_⟩
    have hsz : (S l).cps.size = l.length := S_len l
    refine ⟨_, rfl, _, rfl, for_it walk_str (fun i σ H' => ∃ v2 : Option V, σ = [some (.str (S l)), some (.int (lows (l.take i))), v2] ∧ H' = H) ⟨none, rfl, rfl⟩ (fun _ _ _ _ _ => trivial) ?_ ?_⟩
    · rintro i x σ H3 H4 hi ⟨v2, rfl, rfl⟩ ⟨rfl, c, hc, rfl⟩
      have hc2 : l[i]? = some c := by
        rw [← hc]
        simp [S]
      refine ⟨_, rfl, ⟨_, rfl⟩, _, rfl, _, _, rfl, rfl, _, _, rfl, rfl, some (.str ⟨#[c]⟩), ?_, rfl⟩
      have e : ((lows (l.take i) : Nat) : Int) + Txt.count (Str.ofString "abcdefghijklmnopqrstuvwxyz") ⟨#[c]⟩ = ((lows (l.take (i + 1)) : Nat) : Int) := by
        rw [count_cnt, show (Str.ofString "abcdefghijklmnopqrstuvwxyz").cps.toList = abc0 by decide +kernel, cnt_abc, take_snoc hc2]
        unfold lows
        rw [List.filter_append, List.length_append]
        by_cases hlow : low c = true
        · rw [if_pos hlow, List.filter_cons_of_pos hlow]
          simp
        · rw [if_neg hlow, List.filter_cons_of_neg hlow]
          simp
      show [some (V.str (S l)), some (V.int (((lows (l.take i) : Nat) : Int) + Txt.count (Str.ofString "abcdefghijklmnopqrstuvwxyz") ⟨#[c]⟩)), some (V.str ⟨#[c]⟩)] = _
      rw [e]
    · rintro σ H3 ⟨v2, rfl, rfl⟩
      rw [hsz, List.take_length]
      have hll : (S l).length = l.length := S_len l
      have hln : (S l).length ≤ sizeLine := by
        rw [hll]
        exact Nat.le_of_lt (small1000 (by omega))
      refine ⟨_, rfl, _, rfl, _, rfl, hln, rfl, _, rfl, ?_⟩
      have q2 := q
      rw [← word_name] at q2
      have e1 : decide (V.int ((lows l : Nat) : Int) = V.int ((S l).length : Int)) = decide (lows l = l.length) := by
        rw [hll, dec_int]
        by_cases z : lows l = l.length
        · rw [z, decide_eq_true rfl]
          simp
        · rw [decide_eq_false z]
          exact beq_eq_false_iff_ne.mpr (by omega)
      rw [e1]
      cases h1 : decide (lows l = l.length) with
      | false =>
        rw [h1, Bool.false_and] at q2
        exact q2
      | true =>
        rw [h1, Bool.true_and] at q2
        refine ⟨_, rfl, _, _, rfl, rfl, _, rfl, ?_⟩
        have e2 : decide ((0 : Int) < ((lows l : Nat) : Int)) = decide (0 < lows l) := by
          by_cases z : 0 < lows l
          · rw [decide_eq_true z, decide_eq_true]
            omega
          · rw [decide_eq_false z, decide_eq_false]
            omega
        rw [e2]
        cases h2 : decide (0 < lows l) with
        | false =>
          rw [h2, Bool.false_and] at q2
          exact q2
        | true =>
          rw [h2, Bool.true_and] at q2
          refine ⟨_, _, rfl, rfl, ?_⟩
          have e3 : decide (((lows l : Nat) : Int) < 9) = decide (lows l < 9) := by
            by_cases z : lows l < 9
            · rw [decide_eq_true z, decide_eq_true]
              omega
            · rw [decide_eq_false z, decide_eq_false]
              omega
          show Q (V.bl (decide (((lows l : Nat) : Int) < 9))) H3
          rw [e3]
          exact q2
/-! ### the dues -/
def okL (l : List Nat) : Prop := ∀ c ∈ l, c < 1114112
theorem part_mem (l : List Nat) : ∀ acc, ∀ q ∈ TL.spl [46] 0 acc l, ∀ c ∈ q, c ∈ acc ∨ c ∈ l := by
  induction l with
  | nil =>
    intro acc q hq c hc
    rw [spl_nil'] at hq
    rw [List.mem_singleton.mp hq] at hc
    exact .inl hc
  | cons d r ih =>
    intro acc q hq c hc
    by_cases h : d = 46
    · subst h
      rw [spl_dot] at hq
      rcases List.mem_cons.mp hq with z | z
      · rw [z] at hc
        exact .inl hc
      · rcases ih [] q z c hc with y | y
        · cases y
        · exact .inr (List.mem_cons_of_mem _ y)
    · rw [spl_no _ _ h] at hq
      rcases ih _ q hq c hc with y | y
      · rcases List.mem_append.mp y with x | x
        · exact .inl x
        · rw [List.mem_singleton.mp x]
          exact .inr List.mem_cons_self
      · exact .inr (List.mem_cons_of_mem _ y)
theorem okL_part {l : List Nat} (h : okL l) : ∀ q ∈ parts l, okL q := fun q hq c hc => by
  rcases part_mem l [] q hq c hc with z | z
  · cases z
  · exact h c z
abbrev dS (ws : List (List Nat)) : List PyData := ws.map fun y => PyData.str (S y)
theorem dpS {H : Hp} : ∀ ws : List (List Nat), DpAll K H (mapS ws) (dS ws)
  | [] => .nil
  | y :: ws => .cons (.str _) (dpS ws)
theorem strOk_S {l : List Nat} (h : okL l) : PyData.strOk (S l) = true := by
  unfold PyData.strOk
  rw [← Array.all_toList, List.all_eq_true]
  intro c hc
  exact decide_eq_true (h c hc)
theorem canS : ∀ {ws : List (List Nat)}, (∀ y ∈ ws, okL y) → PyData.canLayAll0 (dS ws) = true
  | [], _ => rfl
  | y :: ws, h => by
    show (PyData.canLay0 (.str (S y)) && PyData.canLayAll0 (dS ws)) = true
    rw [canS fun z hz => h z (List.mem_cons_of_mem _ hz), Bool.and_true]
    exact strOk_S (h y List.mem_cons_self)
theorem depS : ∀ ws : List (List Nat), PyData.depthAll (dS ws) = 0
  | [] => rfl
  | y :: ws => by
    show max 0 (PyData.depthAll (dS ws)) = 0
    rw [depS ws]
    rfl
theorem shapedS {ws : List (List Nat)} (h : ∀ y ∈ ws, okL y) : SeqAt.shaped (.list (dS ws)) = true := by
  unfold SeqAt.shaped
  have e1 : PyData.canLay0 (.list (dS ws)) = true := canS h
  have e2 : PyData.depth (.list (dS ws)) = 1 := by
    show PyData.depthAll (dS ws) + 1 = 1
    rw [depS]
  rw [e1, e2]
  rfl
theorem eqvS : ∀ xs ys : List (List Nat), PyData.eqvAll (dS xs) (dS ys) = decide (xs = ys)
  | [], [] => rfl
  | [], _ :: _ => rfl
  | _ :: _, [] => rfl
  | x :: xs, y :: ys => by
    show ((S x == S y) && PyData.eqvAll (dS xs) (dS ys)) = _
    rw [eqvS xs ys, S_beq_eq]
    by_cases h1 : x = y
    · by_cases h2 : xs = ys
      · rw [decide_eq_true h1, decide_eq_true h2, decide_eq_true (show x :: xs = y :: ys by rw [h1, h2])]
        rfl
      · rw [decide_eq_false h2, Bool.and_false, decide_eq_false fun z => h2 (List.cons.inj z).2]
    · rw [decide_eq_false h1, Bool.false_and, decide_eq_false fun z => h1 (List.cons.inj z).1]
theorem eqvL (xs ys : List (List Nat)) : PyData.eqv (.list (dS xs)) (.list (dS ys)) = decide (xs = ys) := eqvS xs ys
theorem filter_all (ws : List (List Nat)) : decide (ws.filter nameL = ws) = ws.all nameL := by
  cases h : ws.all nameL with
  | true => exact decide_eq_true (List.filter_eq_self.mpr (List.all_eq_true.mp h))
  | false =>
    refine decide_eq_false fun z => ?_
    have := List.all_eq_true.mpr (List.filter_eq_self.mp z)
    rw [h] at this
    cases this
def spDues : Sp := fun vs H Q _ => ∃ l : List Nat, vs = [.str (S l)] ∧ l.length ≤ 900 ∧ okL l ∧ ∀ H' T, Same H H' → H T = none → H' T = some (.tup [.bl (nameL l), .bl (pathL l)]) → Q (.ref T) H'
theorem ok_dues (F : FnP K "_law_are_dues" sDues f fd) (FW : FnP K "_law_words" sWords fN fdN) (FI : FnP K "_law_is_word" sIsWord fB fdB) (gW : mg "_law_words" = some (.ref fN)) (gI : mg "_law_is_word" = some (.ref fB)) (ml : mg "len" = none) :
    FnOk P w K mg base CX0 2 f fd ["_law_text_here"] spDues := by
  have GW : FnOk P w K mg base CX0 1 fN fdN ["_law_text_here"] spWords := ok_words FW
  have bW : Binds K fdN ["_law_text_here"] [] := FW.bindsN fun _ _ _ _ _ _ us hl => match us, hl with | [_], _ => rfl
  have GI : FnOk P w K mg base CX0 1 fB fdB ["_law_word"] spIsWord := ok_isword FI ml
  have bI : Binds K fdB ["_law_word"] [] := FI.bindsN fun _ _ _ _ _ _ us hl => match us, hl with | [_], _ => rfl
  refine ok_code F scDues (fun vs H Q E h => ?_) (fun cdv A outer s H vs Q E hcd hr h => ?_)
  · obtain ⟨l, rfl, _⟩ := h
    rfl
  · obtain ⟨l, rfl, hl, ho, q⟩ := h
    refine ⟨_, pss_cons (ps_set (i := 1) scDues.nd rfl (.inl rfl) (pe_call GW hr (by rfl) gW FW.kp bW .nil pass0 (pa_cons (pv 0) pa_nil)))
      (pss_cons (ps_setLc (i := 2) (own := [("_law_word", 3)]) (g := gName 3) (tt := tTest (tCall spIsWord [] E0 (tCons (tVar 3) tNil))) (te := tVar 3) rfl scDues.nd rfl rfl (sw_true rfl rfl rfl (by decide +kernel)) (pi_list (pv 1))
        (blkOk_by (own := [("_law_word", 3)]) (N := ["_law_text_here", "_law_words_here", "_law_good", "_law_word"]) (sc := defScope sDues) (by decide +kernel)) (fun _ _ _ _ _ => pg_name (i := 3) scDues.nd rfl (Or.inl rfl))
        (fun _ _ _ _ _ => pts_one (pt_val (pe_call GI hr (by rfl) gI FI.kp bI .nil pass0 (pa_cons (pv 3) pa_nil)))) (fun _ _ _ _ _ => pv 3))
      (pss_one (ps_ret (pe_tup (pa_cons (pe_and (pe_cmpR op_eq (pe_callB call_len_seq (by rfl) ml PySem.boot_len (pa_cons (pv 1) pa_nil)) pe_int (nomark _)) (pe_one (pe_cmpR (op_eqD hr.units) (pv 2) (pv 1) (nomark _))))
        (pa_cons (pe_and (pe_cmpR op_lt (pe_callB call_len_seq (by rfl) ml PySem.boot_len (pa_cons (pv 1) pa_nil)) pe_int (nomark _)) (pe_one (pe_cmpR (op_eqD hr.units) (pv 2) (pv 1) (nomark _)))) pa_nil)))))), ?_⟩
    refine ⟨_, rfl, l, rfl, hl, fun H1 D s1 hD e1 => ?_⟩
    refine ⟨_, rfl, D, rfl, ⟨_, SqL.of e1⟩, fun G hG => ?_⟩
    have nGD : D ≠ G := ne_of_none e1 hG
    have hn := parts_len_le l []
    refine lc_list (K := K) (a := D) (xs := mapS (parts l)) (fun i H' => Same H1 H' ∧ H' G = some (.lst (mapS (((parts l).take i).filter nameL)))) ⟨Same.new hG, by rw [upd_same]; rfl⟩ (fun i H' _ p => SqL.of (p.1 _ _ e1)) ?_ ?_
    · rintro i x H3 hx ⟨s3, e3⟩
      obtain ⟨y, hy, rfl⟩ := of_mapS_get hx
      have hyl := part_len l [] y (List.mem_of_getElem? hy)
      rw [List.length_nil] at hyl
      refine ⟨rfl, _, rfl, y, rfl, by omega, _, rfl, ?_⟩
      have et : (parts l).take (i + 1) = (parts l).take i ++ [y] := take_snoc hy
      cases hy2 : nameL y with
      | true =>
        refine ⟨_, rfl, _, e3, ?_, Same.over s3 hG, ?_⟩
        · rw [mapS_len]
          have h1 := List.length_filter_le nameL ((parts l).take i)
          rw [List.length_take] at h1
          refine small1000 ?_
          unfold parts at h1 ⊢
          omega
        · rw [upd_same, mapS_snoc, et, List.filter_append, List.filter_cons_of_pos hy2]
          rfl
      | false =>
        refine ⟨s3, ?_⟩
        rw [et, List.filter_append, List.filter_cons_of_neg (by rw [hy2]; exact Bool.false_ne_true)]
        rw [e3]
        simp
    · rintro H3 ⟨s3, e3⟩
      rw [mapS_len, List.take_length] at e3
      have e4 : H3 D = some (.lst (mapS (parts l))) := s3 _ _ e1
      have hall : ∀ y ∈ parts l, okL y := okL_part ho
      have hfil : ∀ y ∈ (parts l).filter nameL, okL y := fun y hy => hall y (List.mem_filter.mp hy).1
      have p1 : Dp K H3 (.ref G) (.list (dS ((parts l).filter nameL))) := .lst (SqL.of e3) (dpS _)
      have p2 : Dp K H3 (.ref D) (.list (dS (parts l))) := .lst (SqL.of e4) (dpS _)
      have fin : ∀ T, H3 T = none → Q (.ref T) (upd H3 T (.tup [.bl (nameL l), .bl (pathL l)])) := fun T hT => by
        refine q _ T (s1.trans (s3.trans (Same.new hT))) ?_ upd_same
        exact (s1.trans s3).free hT
      have eA : decide (V.int ((mapS (parts l)).length : Int) = V.int 1) = decide ((parts l).length = 1) := by
        rw [mapS_len, dec_int]
        by_cases z : (parts l).length = 1
        · rw [z, decide_eq_true rfl]
          rfl
        · rw [decide_eq_false z]
          exact beq_eq_false_iff_ne.mpr (by omega)
      have eB : decide (((mapS (parts l)).length : Int) < 5) = decide ((parts l).length ≤ 4) := by
        rw [mapS_len]
        by_cases z : (parts l).length ≤ 4
        · rw [decide_eq_true z, decide_eq_true]
          omega
        · rw [decide_eq_false z, decide_eq_false]
          omega
      have leaf : ∀ b1 b2 : Bool, b1 = nameL l → b2 = pathL l → ∀ T, H3 T = none → Q (.ref T) (upd H3 T (.tup [.bl b1, .bl b2])) := by
        rintro b1 b2 rfl rfl
        exact fin
      have nm := name_one l
      refine ⟨_, rfl, D, _, rfl, .inl (SqL.of e4), rfl, _, rfl, ?_⟩
      rw [eA]
      cases hA : decide ((parts l).length = 1) with
      | true =>
        rw [hA, Bool.true_and] at nm
        refine ⟨_, rfl, _, rfl, _, _, p1, p2, shapedS hfil, shapedS hall, _, rfl, D, _, rfl, .inl (SqL.of e4), _, _, rfl, rfl, _, rfl, ?_⟩
        rw [eB]
        cases hB : decide ((parts l).length ≤ 4) with
        | true =>
          refine ⟨_, rfl, _, rfl, _, _, p1, p2, shapedS hfil, shapedS hall, (by show 2 ≤ sizeLine; decide), leaf _ _ ?_ ?_⟩
          · rw [eqvL, filter_all, nm]
          · rw [eqvL, filter_all]
            unfold pathL
            rw [hB, Bool.true_and]
        | false =>
          have := of_decide_eq_true hA
          have := of_decide_eq_false hB
          omega
      | false =>
        rw [hA, Bool.false_and] at nm
        refine ⟨_, rfl, D, _, rfl, .inl (SqL.of e4), _, _, rfl, rfl, _, rfl, ?_⟩
        rw [eB]
        cases hB : decide ((parts l).length ≤ 4) with
        | true =>
          refine ⟨_, rfl, _, rfl, _, _, p1, p2, shapedS hfil, shapedS hall, (by show 2 ≤ sizeLine; decide), leaf _ _ nm.symm ?_⟩
          rw [eqvL, filter_all]
          unfold pathL
          rw [hB, Bool.true_and]
        | false =>
          refine ⟨(by show 2 ≤ sizeLine; decide), leaf _ _ nm.symm ?_⟩
          unfold pathL
          rw [hB, Bool.false_and]
def spLBegs : Sp := fun vs H Q _ => ∃ (D : Addr) (l : List Nat), vs = [.ref D] ∧ l.length ≤ 900 ∧ H D = some (.lst (mapS (parts l))) ∧ ∀ H' G, Same H H' → H G = none → H' G = some (.lst (mapS (begs (parts l)))) → Q (.ref G) H'
theorem ok_lbegs (F : FnP K "_law_beginnings" sLBegs f fd) : FnOk P w K mg base CX0 1 f fd ["_law_words_here"] spLBegs := by
  refine ok_code F scLBegs (fun vs H Q E h => ?_) (fun cdv A outer s H vs Q E hcd hr h => ?_)
  · obtain ⟨D, l, rfl, _⟩ := h
    rfl
  · obtain ⟨D, l, rfl, hl, eD, q⟩ := h
    refine ⟨_, pss_cons (ps_set (i := 1) scLBegs.nd rfl (.inl rfl) (pe_lst (pa_cons (pe_ix ix_list (pv 0) pe_int (fun _ _ => rfl)) pa_nil)))
      (pss_cons (ps_for PassesOwn.never rfl (pi_list (pe_slice sl_list (pv 0) (po_some pe_int) po_none)) (pg_name (i := 2) scLBegs.nd rfl (.inl rfl))
        (pss_one (ps_expr (pe_bm PySem.F.plainAttrs_list PySem.F.slot_list_append PySem.F.type_list_append mt_append (pv 1) (pa_cons (pe_op op_add_str (pe_op op_add_str (pe_ix ix_list (pv 1) (pe_un un_neg pe_int) (fun _ _ => rfl)) pe_str) (pv 2)) pa_nil)))))
      (pss_one (ps_ret (pv 1)))), ?_⟩
    obtain ⟨y0, r0, e0⟩ : ∃ y r, parts l = y :: r := by
      cases h : parts l with
      | nil => exact absurd h (parts_ne l)
      | cons y r => exact ⟨y, r, rfl⟩
    have hn := parts_len_le l []
    have hlen : (parts l).length = r0.length + 1 := by rw [e0]; rfl
    have hlen' : (TL.spl [46] 0 [] l).length = r0.length + 1 := hlen
    have g0 : (parts l)[0]? = some y0 := by rw [e0]; rfl
    refine ⟨_, rfl, D, _, _, _, rfl, rfl, SqL.of eD, atI_nat (j := 0) (mapS_get g0), by show 1 ≤ sizeLine; decide, fun G hG => ?_⟩
    have nGD : D ≠ G := ne_of_none eD hG
    refine ⟨_, rfl, 1, rfl, D, _, rfl, SqL.of (by rw [upd_ne nGD]; exact eD), fun p hp => ?_⟩
    have npG : G ≠ p := ne_of_none upd_same hp
    have fp : H p = none := (Same.new hG).free hp
    have ec : cutV (mapS (parts l)) (some 1) none = mapS r0 := by
      rw [cut_from1, e0]
      rfl
    have ep : (upd (upd H G (.lst [V.str (S y0)])) p (.lst (cutV (mapS (parts l)) (some 1) none))) p = some (.lst (mapS r0)) := by
      rw [upd_same, ec]
    refine ⟨p, rfl, ⟨_, SqL.of ep⟩, for_list (K := K) (a := p) (xs := mapS r0) (fun i σ H' => ∃ v2 : Option V, σ = [some (.ref D), some (.ref G), v2] ∧ Same H H' ∧ H' p = some (.lst (mapS r0)) ∧ H' G = some (.lst (mapS ((begs (parts l)).take (i + 1)))))
      ⟨none, rfl, (Same.new hG).trans (Same.new hp), ep, ?_⟩ (fun i σ H' _ ⟨_, _, _, h, _⟩ => SqL.of h) ?_ ?_⟩
    · rw [upd_ne npG, upd_same]
      have : (begs (parts l)).take 1 = [y0] := by
        rw [take_snoc (begs_get (ws := parts l) (i := 0) (by omega)), e0]
        rfl
      rw [this]
      rfl
    · rintro i x σ H3 hx ⟨v2, rfl, s3, e3, e4⟩
      obtain ⟨y, hy, rfl⟩ := of_mapS_get hx
      have hi := (List.getElem?_eq_some_iff.mp hy).1
      have hy1 : (parts l)[i + 1]? = some y := by
        rw [e0]
        exact hy
      have hb := begs_get (ws := parts l) (i := i) (by omega)
      have et : (begs (parts l)).take (i + 1) = (begs (parts l)).take i ++ [TL.joinL [46] ((parts l).take (i + 1))] := take_snoc hb
      have e5 : H3 G = some (.lst (mapS ((begs (parts l)).take i) ++ [.str (S (TL.joinL [46] ((parts l).take (i + 1))))])) := by
        rw [e4, et, ← mapS_snoc]
      have t1 := take_join_len (parts l) (i + 1)
      have t2 := take_join_len (parts l) (i + 1 + 1)
      rw [join_parts] at t1 t2
      have st := begs_step hy1
      have hd1 : (S [46]).length = 1 := S_len [46]
      have l3 := congrArg List.length st
      rw [List.length_append, List.length_append, List.length_singleton] at l3
      have big : 2000 ≤ sizeLine := by decide
      refine ⟨_, rfl, .inl ⟨rfl, _, SqL.of e5⟩, _, rfl, _, rfl, G, _, _, _, rfl, rfl, SqL.of e5, atI_last _ _, _, _, rfl, rfl, ?_, _, rfl, _, _, rfl, rfl, ?_, G, _, _, rfl, rfl, e5, ?_, some (.str (S y)), rfl, Same.over s3 hG, ?_, ?_⟩
      · rw [dot_S, S_len, S_len, List.length_singleton]
        omega
      · rw [dot_S, S_cat, S_len, S_len, List.length_append, List.length_singleton]
        omega
      · rw [mapS_snoc, mapS_len, ← et, List.length_take, begs_len]
        exact small1000 (by omega)
      · rw [upd_ne (Ne.symm npG)]
        exact e3
      · rw [upd_same, dot_S, S_cat, S_cat, st, mapS_snoc, ← et, mapS_snoc, take_snoc (begs_get (ws := parts l) (i := i + 1) (by omega))]
    · rintro σ H3 ⟨v2, rfl, s3, e3, e4⟩
      rw [mapS_len, ← hlen, List.take_of_length_le (by rw [begs_len]; exact Nat.le_refl _)] at e4
      exact ⟨_, rfl, q H3 G s3 hG e4⟩
end
end K11
set_option maxHeartbeats 4000000
namespace K11
open PySem PySem.Spec PyProof.Rows L2 HM SX
abbrev sRight : Stmt := top 17
abbrev nRight : List Str := ["_law_text_here", "_law_due", "_law_ways", "_law_turn", "_law_said", "_law_above"]
theorem scRight : FnScope nRight ["_law_text_here"] (defScope sRight) := ⟨rfl, rfl, rfl, by decide +kernel, rfl, by decide +kernel, by decide +kernel⟩
theorem Sm.over2 {H H1 H2 : Hp} {p : Addr} {o : HO} (a : Sm H H2) (b : Sm H H1) (hp : H1 p = none) : Sm H (upd H2 p o) := fun c u e n => by
  rw [upd_ne (ne_of_none (b c u e n) hp)]
  exact a c u e n
theorem mem_joinL {c : Nat} : ∀ {ps : List (List Nat)}, c ∈ TL.joinL [46] ps → c = 46 ∨ ∃ p ∈ ps, c ∈ p
  | [], h => by cases h
  | [p], h => .inr ⟨p, List.mem_cons_self, h⟩
  | p :: q :: r, h => by
    have h2 : c ∈ p ++ ([46] ++ TL.joinL [46] (q :: r)) := h
    rcases List.mem_append.mp h2 with z | z
    · exact .inr ⟨p, List.mem_cons_self, z⟩
    · rcases List.mem_append.mp z with y | y
      · exact .inl (List.mem_singleton.mp y)
      · rcases mem_joinL y with x | ⟨p', hp, x⟩
        · exact .inl x
        · exact .inr ⟨p', List.mem_cons_of_mem _ hp, x⟩
theorem okL_begs {l : List Nat} (h : okL l) : ∀ y ∈ begs (parts l), okL y := fun y hy c hc => by
  unfold begs at hy
  obtain ⟨i, _, rfl⟩ := List.mem_map.mp hy
  rcases mem_joinL hc with z | ⟨p, hp, z⟩
  · rw [z]
    decide
  · exact okL_part h p (List.mem_of_mem_take hp) c z
theorem begs_last (l : List Nat) : (begs (parts l)).getLast? = some l := by
  have hn : 0 < (parts l).length := List.length_pos_iff.mpr (parts_ne l)
  rw [List.getLast?_eq_getElem?, begs_len, begs_get (by omega)]
  rw [show (parts l).length - 1 + 1 = (parts l).length by omega, List.take_length, join_parts]
/-- parent's answer, by how many names there are -/
theorem parV_one {l : List Nat} (h : (parts l).length = 1) : parV l = .non := by
  unfold parV
  have e : (begs (parts l)).dropLast = [] := by
    apply List.eq_nil_of_length_eq_zero
    rw [List.length_dropLast, begs_len, h]
  rw [e]
  rfl
theorem parV_more {l : List Nat} (h : 1 < (parts l).length) : ∃ y, parV l = .str (S y) ∧ atI (mapS (begs (parts l))) (-2) = some (.str (S y)) := by
  have hb : (begs (parts l))[(parts l).length - 2]? = some (TL.joinL [46] ((parts l).take ((parts l).length - 2 + 1))) := begs_get (by omega)
  refine ⟨TL.joinL [46] ((parts l).take ((parts l).length - 2 + 1)), ?_, ?_⟩
  · unfold parV
    rw [List.getLast?_eq_getElem?, List.length_dropLast, begs_len, List.getElem?_dropLast, begs_len, if_pos (by omega), show (parts l).length - 1 - 1 = (parts l).length - 2 by omega, hb]
  · unfold atI ixN
    rw [mapS_len, begs_len, if_neg (by decide), if_pos (by omega)]
    show (mapS (begs (parts l)))[((-2 : Int) + ((parts l).length : Int)).toNat]? = _
    rw [show ((-2 : Int) + ((parts l).length : Int)).toNat = (parts l).length - 2 by omega]
    exact mapS_get hb
theorem shown2 (a b : Bool) : (PyData.tuple [.bool a, .bool b]).shown.length ≤ sizeLine ∧ PyData.showable (.tuple [.bool a, .bool b]) = true ∧ PyData.hasDict (.tuple [.bool a, .bool b]) = false ∧ PyData.depth (.tuple [.bool a, .bool b]) ≤ 60 := by
  cases a <;> cases b <;> decide +kernel
section
variable {P : Program} {w : World} {K : PySem.W.Frag} {mg : Str → Option Value} {base : Heap} {f fN fP fB fR fD fW fI fL : Addr} {fd fdN fdP fdB fdR fdD fdW fdI fdL : FuncData}
def spRight (Ps : List Addr) : Sp := fun vs H Q _ => ∃ l : List Nat, vs = [.str (S l)] ∧ l.length ≤ 200 ∧ okL l ∧ TabsOk Ps H ∧ ∀ H', Sm H H' → TabsOk Ps H' → Q (.bl true) H'
theorem ok_right {Ps : List Addr} (F : FnP K "_law_right" sRight f fd) (GN : FnOk P w K mg base CX0 2 fN fdN ["thing"] (spName K Ps)) (FN : FnP K "is_name" sName fN fdN) (gN : mg "is_name" = some (.ref fN))
    (GP : FnOk P w K mg base CX0 4 fP fdP ["thing"] (spPath K Ps)) (FP : FnP K "is_path" sPath fP fdP) (gP : mg "is_path" = some (.ref fP))
    (FB : FnP K "beginnings" sBegs fB fdB) (gB : mg "beginnings" = some (.ref fB)) (FR : FnP K "parent" sParent fR fdR) (gR : mg "parent" = some (.ref fR))
    (FD : FnP K "_law_are_dues" sDues fD fdD) (gD : mg "_law_are_dues" = some (.ref fD)) (FW : FnP K "_law_words" sWords fW fdW) (gW : mg "_law_words" = some (.ref fW)) (FI : FnP K "_law_is_word" sIsWord fI fdI) (gI : mg "_law_is_word" = some (.ref fI))
    (FL : FnP K "_law_beginnings" sLBegs fL fdL) (gL : mg "_law_beginnings" = some (.ref fL)) (ml : mg "len" = none) (mr : mg "range" = none) (mp : mg "repr" = none) (mi : mg "isinstance" = none) (mt : mg "list" = none) :
    FnG P w K mg base CX0 5 f fd ["_law_text_here"] (spRight Ps) := by
  have bN : Binds K fdN ["thing"] [] := FN.bindsN fun _ _ _ _ _ _ us hl => match us, hl with | [_], _ => rfl
  have bP : Binds K fdP ["thing"] [] := FP.bindsN fun _ _ _ _ _ _ us hl => match us, hl with | [_], _ => rfl
  have GB : FnOk P w K mg base CX0 1 fB fdB ["path"] spBegs := ok_begs FB ml mr
  have bB : Binds K fdB ["path"] [] := FB.bindsN fun _ _ _ _ _ _ us hl => match us, hl with | [_], _ => rfl
  have GR : FnOk P w K mg base CX0 2 fR fdR ["path"] spParent := ok_parent FR FB gB ml mr
  have bR : Binds K fdR ["path"] [] := FR.bindsN fun _ _ _ _ _ _ us hl => match us, hl with | [_], _ => rfl
  have GD : FnOk P w K mg base CX0 2 fD fdD ["_law_text_here"] spDues := ok_dues FD FW FI gW gI ml
  have bD : Binds K fdD ["_law_text_here"] [] := FD.bindsN fun _ _ _ _ _ _ us hl => match us, hl with | [_], _ => rfl
  have GW : FnOk P w K mg base CX0 1 fW fdW ["_law_text_here"] spWords := ok_words FW
  have bW : Binds K fdW ["_law_text_here"] [] := FW.bindsN fun _ _ _ _ _ _ us hl => match us, hl with | [_], _ => rfl
  have GL : FnOk P w K mg base CX0 1 fL fdL ["_law_words_here"] spLBegs := ok_lbegs FL
  have bL : Binds K fdL ["_law_words_here"] [] := FL.bindsN fun _ _ _ _ _ _ us hl => match us, hl with | [_], _ => rfl
  refine okG F scRight (fun vs H Q E h => ?_) (fun cdv A outer s H vs Q E hcd hr hgd h => ?_)
  · obtain ⟨l, rfl, _⟩ := h
    rfl
  · obtain ⟨l, rfl, hl, ho, hT, q⟩ := h
    have hr2 : Room 2 (A.deeper (envOfC "_law_right" (defScope sRight) s.heap.objs.size f cdv)) := hr.mono (by decide)
    have hr1 : Room 1 (A.deeper (envOfC "_law_right" (defScope sRight) s.heap.objs.size f cdv)) := hr.mono (by decide)
    refine ⟨_, PSs.nox (pss_cons (ps_set (i := 1) scRight.nd rfl (.inl rfl) (pe_call GD hr2 (by rfl) gD FD.kp bD .nil pass0 (pa_cons (pv 0) pa_nil)))
      (pss_cons (ps_if (pt_cmpR op_ne (pe_callB (call_reprD hr hgd) (by rfl) mp (by decide +kernel) (pa_cons (pe_tup (pa_cons (pe_call GN hr2 (by rfl) gN FN.kp bN .nil pass0 (pa_cons (pv 0) pa_nil)) (pa_cons (pe_call GP hr (by rfl) gP FP.kp bP .nil pass0 (pa_cons (pv 0) pa_nil)) pa_nil))) pa_nil))
          (pe_callB (call_reprD hr hgd) (by rfl) mp (by decide +kernel) (pa_cons (pv 1) pa_nil)) (nomark _)) (pss_one (ps_ret pe_bl)) pss_nil)
      (pss_cons (ps_if (pt_not (pt_val (pe_ix ix_tup (pv 1) pe_int (fun _ _ => rfl)))) (pss_one (ps_ret pe_bl)) pss_nil)
      (pss_cons (ps_set (i := 2) scRight.nd rfl (.inl rfl) (pe_call GL hr1 (by rfl) gL FL.kp bL .nil pass0 (pa_cons (pe_call GW hr1 (by rfl) gW FW.kp bW .nil pass0 (pa_cons (pv 0) pa_nil)) pa_nil)))
      (pss_cons (ps_for PassesOwn.never rfl (pi_range1 (by rfl) mr (pa_cons pe_int pa_nil)) (pg_name (i := 3) scRight.nd rfl (.inl rfl))
        (pss_cons (ps_set (i := 4) scRight.nd rfl (.inl rfl) (pe_call GB hr1 (by rfl) gB FB.kp bB .nil pass0 (pa_cons (pv 0) pa_nil)))
        (pss_cons (ps_if (PW.pt (pw_or (pt_not (pt_val (pe_callB call_isi (by rfl) mi (by decide +kernel) (pa_cons (pv 4) (pa_cons (pe_bltn (v := .ty "list") (by rfl) mt (by decide +kernel) rfl) pa_nil)))))
            (pw_or (pt_cmpR (op_neD hr.units) (pv 4) (pv 2) (nomark _)) (pw_or1 (pt_cmpR op_ne (pe_ix ix_list (pv 4) (pe_un un_neg pe_int) (fun _ _ => rfl)) (pv 0) (nomark _)))))) (pss_one (ps_ret pe_bl)) pss_nil)
        (pss_cons (ps_set (i := 5) scRight.nd rfl (.inl rfl) (pe_call GR hr2 (by rfl) gR FR.kp bR .nil pass0 (pa_cons (pv 0) pa_nil)))
        (pss_cons (ps_if (PW.pt (pw_or (PW.pt (pw_and (pt_cmpR op_eq (pe_callB call_len_seq (by rfl) ml PySem.boot_len (pa_cons (pv 2) pa_nil)) pe_int (nomark _)) (pw_and1 (pt_cmpR op_notN (pv 5) pe_non (nomark _)))))
            (pw_or1 (PW.pt (pw_and (pt_cmpR op_gt (pe_callB call_len_seq (by rfl) ml PySem.boot_len (pa_cons (pv 2) pa_nil)) pe_int (nomark _)) (pw_and1 (pt_cmpR op_ne (pv 5) (pe_ix ix_list (pv 2) (pe_un un_neg pe_int) (fun _ _ => rfl)) (nomark _)))))))) (pss_one (ps_ret pe_bl)) pss_nil)
        (pss_cons (ps_expr (pe_bm PySem.F.plainAttrs_list PySem.F.slot_list_append PySem.F.type_list_append mt_append (pv 4) (pa_cons pe_str pa_nil)))
        (pss_one (ps_expr (pe_bm0 PySem.F.plainAttrs_list PySem.F.slot_list_reverse PySem.F.type_list_reverse mt_reverse (pv 4))))))))))
      (pss_one (ps_ret pe_bl))))))), ?_⟩
    refine ⟨_, rfl, l, rfl, by omega, ho, fun H1 T s1 fT eT => ?_⟩
    have hT1 : TabsOk Ps H1 := TabsOk.same hT s1
    refine ⟨_, rfl, _, rfl, hT1, .inl ⟨l, rfl, by omega, fun H2 s2 hT2 => ?_⟩⟩
    refine ⟨_, rfl, _, rfl, hT2, .inl ⟨l, rfl, by omega, fun H3 s3 hT3 => ?_⟩⟩
    refine ⟨(by show 2 ≤ sizeLine; decide), fun p hp => ?_⟩
    have eT3 : H3 T = some (.tup [.bl (nameL l), .bl (pathL l)]) := s3.tup (s2.tup eT)
    have nTp : T ≠ p := ne_of_none eT3 hp
    have hT4 : TabsOk Ps (upd H3 p (.tup [.bl (nameL l), .bl (pathL l)])) := hT3.new hp
    have s4 : Sm H (upd H3 p (.tup [.bl (nameL l), .bl (pathL l)])) := (Same.sm s1).trans (s2.trans (s3.trans (Sm.new hp)))
    have eT4 : (upd H3 p (.tup [.bl (nameL l), .bl (pathL l)])) T = some (.tup [.bl (nameL l), .bl (pathL l)]) := by
      rw [upd_ne nTp]
      exact eT3
    obtain ⟨w1, w2, w3, w4⟩ := shown2 (nameL l) (pathL l)
    refine ⟨p, .tuple [.bool (nameL l), .bool (pathL l)], rfl, .tup (SqT.of upd_same) (.cons (.bl _) (.cons (.bl _) .nil)), w2, w3, w4, w1, ?_⟩
    refine ⟨_, rfl, T, .tuple [.bool (nameL l), .bool (pathL l)], rfl, .tup (SqT.of eT4) (.cons (.bl _) (.cons (.bl _) .nil)), w2, w3, w4, w1, rfl, _, rfl, ?_⟩
    refine iteNS rfl ?_
    refine ⟨_, rfl, T, _, 1, _, rfl, rfl, SqT.of eT4, rfl, _, rfl, ?_⟩
    generalize upd H3 p (.tup [.bl (nameL l), .bl (pathL l)]) = H4 at s4 hT4 ⊢
    cases hp4 : pathL l with
    | false => exact q _ s4 hT4
    | true =>
      refine ⟨_, rfl, l, rfl, by omega, fun H5 W s5 fW eW => ?_⟩
      refine ⟨W, l, rfl, by omega, eW, fun H6 G s6 fG eG => ?_⟩
      have fGH : Sm H H6 := s4.trans (Same.sm (s5.trans s6))
      have hT6 : TabsOk Ps H6 := TabsOk.same hT4 (s5.trans s6)
      have hn : 0 < (parts l).length := List.length_pos_iff.mpr (parts_ne l)
      have hob := okL_begs ho
      refine ⟨_, rfl, by decide, by decide, for_it (n := 2) walk_range (fun i σ H' => ∃ v3 v4 v5 : Option V, σ = [some (.str (S l)), some (.ref T), some (.ref G), v3, v4, v5] ∧ Sm H6 H' ∧ TabsOk Ps H') ⟨none, none, none, rfl, Sm.refl _, hT6⟩ (fun _ _ _ _ _ => trivial) ?_ ?_⟩
      · rintro i x σ H7 H8 hi ⟨v3, v4, v5, rfl, s7, hT7⟩ ⟨rfl, rfl⟩
        refine ⟨_, rfl, l, rfl, by omega, fun H9 D s9 fD eD => ?_⟩
        have eG9 : H9 G = some (.lst (mapS (begs (parts l)))) := s9 _ _ (s7.lst eG)
        have hT9 : TabsOk Ps H9 := TabsOk.same hT7 s9
        have nDG : G ≠ D := ne_of_none (s7.lst eG) fD
        have p1 : Dp K H9 (.ref D) (.list (dS (begs (parts l)))) := .lst (SqL.of eD) (dpS _)
        have p2 : Dp K H9 (.ref G) (.list (dS (begs (parts l)))) := .lst (SqL.of eG9) (dpS _)
        refine ⟨_, rfl, _, _, _, _, true, rfl, .ty "list", .base (.lst eD), kit_ty (by decide +kernel), _, rfl, ?_⟩
        refine ⟨_, rfl, _, rfl, _, _, p1, p2, shapedS hob, shapedS hob, _, rfl, ?_⟩
        rw [eqvL, decide_eq_true rfl]
        refine ⟨_, rfl, _, rfl, D, _, -1, .str (S l), rfl, rfl, SqL.of eD, ?_, _, rfl, rfl, _, rfl, ?_⟩
        · refine atI_last' ?_
          rw [List.getLast?_map, List.getLast?_map, begs_last]
          rfl
        · refine iteNS rfl ?_
          refine ⟨_, rfl, l, rfl, by omega, fun H10 s10 => ?_⟩
          have eG10 : H10 G = some (.lst (mapS (begs (parts l)))) := s10 _ _ eG9
          have eD10 : H10 D = some (.lst (mapS (begs (parts l)))) := s10 _ _ eD
          have hT10 : TabsOk Ps H10 := TabsOk.same hT9 s10
          have hlen : (mapS (begs (parts l))).length = (parts l).length := by rw [mapS_len, begs_len]
          have hpl := parts_len_le l []
          have hpl' : (parts l).length ≤ l.length + 1 := hpl
          -- the two last lines of the turn
          have fin : ∃ v3 v4 v5 : Option V, [some (V.str (S l)), some (V.ref T), some (V.ref G), some (V.int (0 + (i : Int))), some (V.ref D), some (parV l)] = [some (V.str (S l)), some (V.ref T), some (V.ref G), v3, v4, v5] ∧
              Sm H6 (upd (upd H10 D (.lst (mapS (begs (parts l)) ++ [V.str (Str.ofString "")]))) D (.lst (mapS (begs (parts l)) ++ [V.str (Str.ofString "")]).reverse)) ∧
              TabsOk Ps (upd (upd H10 D (.lst (mapS (begs (parts l)) ++ [V.str (Str.ofString "")]))) D (.lst (mapS (begs (parts l)) ++ [V.str (Str.ofString "")]).reverse)) := by
            exact ⟨_, _, _, rfl, Sm.over2 (Sm.over2 (s7.trans (Same.sm (s9.trans s10))) s7 fD) s7 fD, (hT10.put eD10 fun _ z => by cases z).put upd_same fun _ z => by cases z⟩
          have app : (mapS (begs (parts l))).length < sizeLine := by
            rw [hlen]
            exact small1000 (by omega)
          by_cases h1 : (parts l).length = 1
          · rw [parV_one h1] at fin ⊢
            refine ⟨_, rfl, G, _, rfl, .inl (SqL.of eG10), rfl, _, rfl, ?_⟩
            rw [hlen, h1]
            refine ⟨_, rfl, rfl, _, rfl, ?_⟩
            refine ⟨_, rfl, G, _, rfl, .inl (SqL.of eG10), _, _, rfl, rfl, _, rfl, ?_⟩
            rw [hlen, h1]
            refine ⟨_, rfl, .inl ⟨rfl, _, SqL.of eD10⟩, D, _, _, rfl, rfl, eD10, app, ?_⟩
            exact ⟨_, rfl, .inl ⟨rfl, _, SqL.of upd_same⟩, D, _, rfl, rfl, upd_same, fin⟩
          · obtain ⟨y, ey, ea⟩ := parV_more (l := l) (by omega)
            rw [ey] at fin ⊢
            have c1 : decide (V.int ((mapS (begs (parts l))).length : Int) = V.int 1) = false := by
              rw [hlen, dec_int]
              exact beq_eq_false_iff_ne.mpr (by omega)
            have c2 : decide (((mapS (begs (parts l))).length : Int) > 1) = true := decide_eq_true (by rw [hlen]; omega)
            refine ⟨_, rfl, G, _, rfl, .inl (SqL.of eG10), rfl, _, rfl, ?_⟩
            rw [c1]
            refine ⟨_, rfl, G, _, rfl, .inl (SqL.of eG10), _, _, rfl, rfl, _, rfl, ?_⟩
            rw [c2]
            refine ⟨_, rfl, _, rfl, _, rfl, G, _, -2, _, rfl, rfl, SqL.of eG10, ea, rfl, _, rfl, ?_⟩
            refine iteNS rfl ?_
            refine ⟨_, rfl, .inl ⟨rfl, _, SqL.of eD10⟩, D, _, _, rfl, rfl, eD10, app, ?_⟩
            exact ⟨_, rfl, .inl ⟨rfl, _, SqL.of upd_same⟩, D, _, rfl, rfl, upd_same, fin⟩
      · rintro σ H7 ⟨v3, v4, v5, rfl, s7, hT7⟩
        exact q H7 (fGH.trans s7) hT7
end
end K11
set_option maxHeartbeats 8000000
namespace K11
open PySem PySem.Spec PyProof.Rows L2 HM SX
abbrev sLaw : Stmt := top 18
abbrev nLaw : List Str := ["_law_script", "_law_k", "_law_text_here", "_law_thing"]
theorem scLaw : FnScope nLaw ["_law_script"] (defScope sLaw) := ⟨rfl, rfl, rfl, by decide +kernel, rfl, by decide +kernel, by decide +kernel⟩
theorem TabsOk.ch {Ps : List Addr} {H H' : Hp} {l : Addr} {o : HO} (t : TabsOk Ps H) (hl : H l = none) (c : Ch l (upd H l o) H') : TabsOk Ps H' := fun P hP => by
  obtain ⟨ps, e, k⟩ := t P hP
  have n : P ≠ l := ne_of_none e hl
  exact ⟨ps, c P _ (by rw [upd_ne n]; exact e) n, k⟩
theorem Sm.ch {H H' : Hp} {l : Addr} {o : HO} (hl : H l = none) (c : Ch l (upd H l o) H') : Sm H H' := fun b u e _ => by
  have n : b ≠ l := ne_of_none e hl
  exact c b u (by rw [upd_ne n]; exact e) n
theorem no_of {K : PySem.W.Frag} {H : Hp} {x : V} {n : String} (h : TyOf K H x (.type n)) (hk : kitB n "str" = some false) : NoStr K H x := ⟨.type n, .base h, kit_ty hk⟩
theorem ff_shown : (PyData.tuple [.bool false, .bool false]).shown = Str.ofString "(False, False)" := by decide +kernel
theorem ft_shown : (PyData.tuple [.bool false, .bool false, .bool false, .bool true]).shown = Str.ofString "(False, False, False, True)" := by decide +kernel
theorem ft_data : (PyData.tuple [.bool false, .bool false, .bool false, .bool true]).shown.length ≤ sizeLine ∧ PyData.showable (.tuple [.bool false, .bool false, .bool false, .bool true]) = true ∧ PyData.hasDict (.tuple [.bool false, .bool false, .bool false, .bool true]) = false ∧ PyData.depth (.tuple [.bool false, .bool false, .bool false, .bool true]) ≤ 60 := by decide +kernel
theorem nil_S : Str.ofString "" = S [] := by decide +kernel
theorem a_S : Str.ofString "a" = S [97] := by decide +kernel
theorem Sm.one {H H' : Hp} (s : Sm H H') {b : Addr} {o : HO} (e : H b = some o) (n : ∀ ps, o ≠ .tbl ps) : H' b = some o := s b o e n
section
variable {P : Program} {w : World} {K : PySem.W.Frag} {mg : Str → Option Value} {base : Heap} {f fN fP fR fT fO fA fD fB : Addr} {fd fdN fdP fdR fdT fdO fdA fdD fdB : FuncData}
def spLaw (K : PySem.W.Frag) (Ps : List Addr) : Sp := fun vs H Q _ => ∃ (a : Addr) (ns : List Int), vs = [.ref a] ∧ SqL K H a (ns.map V.int) ∧ ns.length ≤ 63 ∧ TabsOk Ps H ∧ ∀ H', Q (.bl true) H'
theorem ok_law {Ps : List Addr} (F : FnP K "law" sLaw f fd) (GN : FnOk P w K mg base CX0 2 fN fdN ["thing"] (spName K Ps)) (FN : FnP K "is_name" sName fN fdN) (gN : mg "is_name" = some (.ref fN))
    (GP : FnOk P w K mg base CX0 4 fP fdP ["thing"] (spPath K Ps)) (FP : FnP K "is_path" sPath fP fdP) (gP : mg "is_path" = some (.ref fP))
    (GR : FnG P w K mg base CX0 5 fR fdR ["_law_text_here"] (spRight Ps)) (FR : FnP K "_law_right" sRight fR fdR) (gR : mg "_law_right" = some (.ref fR))
    (GT : FnOk P w K mg base CX0 3 fT fdT ["_law_pot_here"] spText) (FT : FnP K "_law_text" sText fT fdT) (gT : mg "_law_text" = some (.ref fT))
    (GO : FnOk P w K mg base CX0 2 fO fdO ["_law_script", "_law_k"] (spPot K)) (FO : FnP K "_law_pot" sPot fO fdO) (gO : mg "_law_pot" = some (.ref fO))
    (ml : mg "len" = none) (mr : mg "range" = none) (mp : mg "repr" = none) (mx : mg "max" = none) (mn : mg "min" = none) :
    FnG P w K mg base CX0 6 f fd ["_law_script"] (spLaw K Ps) := by
  have bN : Binds K fdN ["thing"] [] := FN.bindsN fun _ _ _ _ _ _ us hl => match us, hl with | [_], _ => rfl
  have bP : Binds K fdP ["thing"] [] := FP.bindsN fun _ _ _ _ _ _ us hl => match us, hl with | [_], _ => rfl
  have bR : Binds K fdR ["_law_text_here"] [] := FR.bindsN fun _ _ _ _ _ _ us hl => match us, hl with | [_], _ => rfl
  have bT : Binds K fdT ["_law_pot_here"] [] := FT.bindsN fun _ _ _ _ _ _ us hl => match us, hl with | [_], _ => rfl
  have bO : Binds K fdO ["_law_script", "_law_k"] [] := FO.bindsN fun _ _ _ _ _ _ us hl => match us, hl with | [_, _], _ => rfl
  refine okG F scLaw (fun vs H Q E h => ?_) (fun cdv A outer s H vs Q E hcd hr hgd h => ?_)
  · obtain ⟨a, ns, rfl, _⟩ := h
    rfl
  · obtain ⟨a, ns, rfl, hS, hl, hT, q⟩ := h
    have hr4 : Room 4 (A.deeper (envOfC "law" (defScope sLaw) s.heap.objs.size f cdv)) := hr.mono (by decide)
    have hr3 : Room 3 (A.deeper (envOfC "law" (defScope sLaw) s.heap.objs.size f cdv)) := hr.mono (by decide)
    have hr2 : Room 2 (A.deeper (envOfC "law" (defScope sLaw) s.heap.objs.size f cdv)) := hr.mono (by decide)
    refine ⟨_, PSs.nox (pss_cons (ps_for PassesOwn.never rfl (pi_range1 (by rfl) mr (pa_cons (pe_callB (call_max2 rfl) (by rfl) mx (by decide +kernel) (pa_cons pe_int (pa_cons (pe_callB (call_min2 rfl) (by rfl) mn (by decide +kernel)
            (pa_cons pe_int (pa_cons (pe_callB call_len_seq (by rfl) ml PySem.boot_len (pa_cons (pv 0) pa_nil)) pa_nil))) pa_nil))) pa_nil)) (pg_name (i := 1) scLaw.nd rfl (.inl rfl))
          (pss_cons (ps_set (i := 2) scLaw.nd rfl (.inl rfl) (pe_call GT hr3 (by rfl) gT FT.kp bT .nil pass0 (pa_cons (pe_call GO hr2 (by rfl) gO FO.kp bO .nil pass0 (pa_cons (pv 0) (pa_cons (pv 1) pa_nil))) pa_nil)))
          (pss_one (ps_if (PW.pt (pw_or (pt_not (pt_val (pe_callG GR hr hgd (by rfl) gR FR.kp bR .nil pass0 (pa_cons (pv 2) pa_nil)))) (pw_or1 (pt_not (pt_val (pe_callG GR hr hgd (by rfl) gR FR.kp bR .nil pass0 (pa_cons (pv 2) pa_nil))))))) (pss_one (ps_ret pe_bl)) pss_nil))))
      (pss_cons (ps_for PassesOwn.never rfl (pi_list (pe_lst (pa_cons pe_non (pa_cons pe_bl (pa_cons pe_int (pa_cons pe_int (pa_cons (pe_lst pa_nil) (pa_cons (pe_lst (pa_cons pe_str pa_nil)) (pa_cons (pe_tup pa_nil) (pa_cons (pe_tup (pa_cons pe_str pa_nil)) (pa_cons pe_dnewK
            (pa_cons (pe_lst (pa_cons pe_str (pa_cons pe_str pa_nil))) (pa_cons (pe_tup (pa_cons pe_str (pa_cons pe_str (pa_cons pe_str pa_nil)))) pa_nil))))))))))))) (pg_name (i := 3) scLaw.nd rfl (.inl rfl))
          (pss_one (ps_if (pt_cmpR op_ne (pe_callB (call_reprD hr hgd) (by rfl) mp (by decide +kernel) (pa_cons (pe_tup (pa_cons (pe_call GN hr2 (by rfl) gN FN.kp bN .nil pass0 (pa_cons (pv 3) pa_nil)) (pa_cons (pe_call GP hr4 (by rfl) gP FP.kp bP .nil pass0 (pa_cons (pv 3) pa_nil)) pa_nil))) pa_nil)) pe_str (nomark _))
            (pss_one (ps_ret pe_bl)) pss_nil)))
      (pss_one (ps_ret (pe_cmpR op_eq (pe_callB (call_reprD hr hgd) (by rfl) mp (by decide +kernel) (pa_cons (pe_tup (pa_cons (pe_call GN hr2 (by rfl) gN FN.kp bN .nil pass0 (pa_cons pe_str pa_nil)) (pa_cons (pe_call GP hr4 (by rfl) gP FP.kp bP .nil pass0 (pa_cons pe_str pa_nil))
          (pa_cons (pe_call GP hr4 (by rfl) gP FP.kp bP .nil pass0 (pa_cons pe_str pa_nil)) (pa_cons (pe_call GP hr4 (by rfl) gP FP.kp bP .nil pass0 (pa_cons pe_str pa_nil)) pa_nil))))) pa_nil)) pe_str (nomark _)))))), ?_⟩
    have hbl : ((ns.map V.int).length : Int) ≤ 63 := by
      rw [List.length_map]
      omega
    refine ⟨_, rfl, a, _, rfl, .inl hS, _, _, rfl, _, _, rfl, _, rfl, ?_, ?_, for_it walk_range (fun i σ H' => ∃ v1 v2 : Option V, σ = [some (.ref a), v1, v2, none] ∧ Sm H H' ∧ TabsOk Ps H') ⟨none, none, rfl, Sm.refl _, hT⟩ (fun _ _ _ _ _ => trivial) ?_ ?_⟩
    · split <;> split <;> omega
    · split <;> split <;> omega
    · rintro i x σ H1 H2 hi ⟨v1, v2, rfl, s1, hT1⟩ ⟨rfl, rfl⟩
      have hi100 : i ≤ 100 := by
        split at hi <;> split at hi <;> omega
      refine ⟨_, rfl, _, rfl, a, ns, i, ?_, hi100, s1.seq hS, fun l p0 p1 hl0 pk => ?_⟩
      · show [V.ref a, V.int (0 + (i : Int))] = [V.ref a, V.int (i : Int)]
        rw [Int.zero_add]
      · refine ⟨l, rfl, ⟨p0, p1, upd_same, pk⟩, fun H3 z c3 hz ho => ?_⟩
        have hT3 : TabsOk Ps H3 := TabsOk.ch hT1 hl0 c3
        have s3 : Sm H2 H3 := Sm.ch hl0 c3
        have ez : z = S z.cps.toList := (S_tl z).symm
        have hzl : z.cps.toList.length ≤ 200 := by
          have : z.length = z.cps.toList.length := by simp [Str.length]
          omega
        refine ⟨_, rfl, z.cps.toList, congrArg (fun y => [V.str y]) ez, hzl, ho, hT3, fun H4 s4 hT4 => ⟨_, rfl, ?_⟩⟩
        refine ⟨_, rfl, z.cps.toList, congrArg (fun y => [V.str y]) ez, hzl, ho, hT4, fun H5 s5 hT5 => ⟨_, rfl, ?_⟩⟩
        exact ⟨_, _, rfl, s1.trans (s3.trans (s4.trans s5)), hT5⟩
    · rintro σ H1 ⟨v1, v2, rfl, s1, hT1⟩
      have nn : ∀ {n : Nat}, n ≤ 1000 → n ≤ sizeLine := fun h => Nat.le_of_lt (small1000 h)
      refine ⟨nn (by decide), fun p4 h4 => ⟨nn (by decide), fun p5 h5 => ⟨nn (by decide), fun p6 h6 => ⟨nn (by decide), fun p7 h7 => fun p8 h8 => ⟨nn (by decide), fun p9 h9 => ⟨nn (by decide), fun p10 h10 => ⟨nn (by show 11 ≤ 1000; decide), fun L hL => ?_⟩⟩⟩⟩⟩⟩⟩
      have g : ∀ {H : Hp} {p b : Addr} {o u : HO}, H b = some u → H p = none → (upd H p o) b = some u := fun {H p b o u} e h => by
        rw [upd_ne (ne_of_none e h)]
        exact e
      obtain ⟨HF, hF⟩ : ∃ HF, upd (upd (upd (upd (upd (upd (upd (upd H1 p4 (.lst [])) p5 (.lst [V.str (Str.ofString "a")])) p6 (.tup [])) p7 (.tup [V.str (Str.ofString "a")])) p8 (.dK [])) p9 (.lst [V.str (Str.ofString "a"), V.str (Str.ofString "b")]))
        p10 (.tup [V.str (Str.ofString "a"), V.str (Str.ofString "."), V.str (Str.ofString "b")])) L (.lst [.non, .bl true, .int 0, .int 7, .ref p4, .ref p5, .ref p6, .ref p7, .ref p8, .ref p9, .ref p10]) = HF := ⟨_, rfl⟩
      have hTF : TabsOk Ps HF := by
        rw [← hF]
        exact (((((((hT1.new h4).new h5).new h6).new h7).new h8).new h9).new h10).new hL
      have y4 : HF p4 = some (.lst []) := by
        rw [← hF]
        exact g (g (g (g (g (g (g upd_same h5) h6) h7) h8) h9) h10) hL
      have y5 : HF p5 = some (.lst [V.str (Str.ofString "a")]) := by
        rw [← hF]
        exact g (g (g (g (g (g upd_same h6) h7) h8) h9) h10) hL
      have y6 : HF p6 = some (.tup []) := by
        rw [← hF]
        exact g (g (g (g (g upd_same h7) h8) h9) h10) hL
      have y7 : HF p7 = some (.tup [V.str (Str.ofString "a")]) := by
        rw [← hF]
        exact g (g (g (g upd_same h8) h9) h10) hL
      have y8 : HF p8 = some (.dK []) := by
        rw [← hF]
        exact g (g (g upd_same h9) h10) hL
      have y9 : HF p9 = some (.lst [V.str (Str.ofString "a"), V.str (Str.ofString "b")]) := by
        rw [← hF]
        exact g (g upd_same h10) hL
      have y10 : HF p10 = some (.tup [V.str (Str.ofString "a"), V.str (Str.ofString "."), V.str (Str.ofString "b")]) := by
        rw [← hF]
        exact g upd_same hL
      have yL : HF L = some (.lst [.non, .bl true, .int 0, .int 7, .ref p4, .ref p5, .ref p6, .ref p7, .ref p8, .ref p9, .ref p10]) := by
        rw [← hF]
        exact upd_same
      have all : ∀ H', Sm HF H' → ∀ x ∈ ([.non, .bl true, .int 0, .int 7, .ref p4, .ref p5, .ref p6, .ref p7, .ref p8, .ref p9, .ref p10] : List V), NoStr K H' x := fun H' s x hx => by
        simp only [List.mem_cons, List.not_mem_nil, or_false] at hx
        rcases hx with rfl | rfl | rfl | rfl | rfl | rfl | rfl | rfl | rfl | rfl | rfl
        · exact no_of .non (by decide +kernel)
        · exact no_of (.bl _) (by decide +kernel)
        · exact no_of (.int _) (by decide +kernel)
        · exact no_of (.int _) (by decide +kernel)
        · exact no_of (.lst (s.lst y4)) (by decide +kernel)
        · exact no_of (.lst (s.lst y5)) (by decide +kernel)
        · exact no_of (.tup (s.tup y6)) (by decide +kernel)
        · exact no_of (.tup (s.tup y7)) (by decide +kernel)
        · exact no_of (.dK (s _ _ y8 fun _ z => by cases z)) (by decide +kernel)
        · exact no_of (.lst (s.lst y9)) (by decide +kernel)
        · exact no_of (.tup (s.tup y10)) (by decide +kernel)
      rw [hF]
      refine ⟨L, rfl, ⟨_, SqL.of yL⟩, for_it (walk_list (xs := [.non, .bl true, .int 0, .int 7, .ref p4, .ref p5, .ref p6, .ref p7, .ref p8, .ref p9, .ref p10])) (fun i σ H' => ∃ v1 v2 v3 : Option V, σ = [some (.ref a), v1, v2, v3] ∧ Sm HF H' ∧ TabsOk Ps H') ⟨_, _, _, rfl, Sm.refl _, hTF⟩
        (fun i σ H' _ ⟨_, _, _, _, s, _⟩ => SqL.of (s.lst yL)) ?_ ?_⟩
      · rintro i x σ H2 H3 hi ⟨v1, v2, v3, rfl, s2, hT2⟩ ⟨rfl, hx⟩
        have no := all _ s2 x (List.mem_of_getElem? hx)
        obtain ⟨w1, w2, w3, w4⟩ := shown2 false false
        refine ⟨_, rfl, x, rfl, hT2, .inr ⟨no, _, rfl, x, rfl, hT2, .inr ⟨no, nn (by show 2 ≤ 1000; decide), fun p hp => ?_⟩⟩⟩
        refine ⟨p, .tuple [.bool false, .bool false], rfl, .tup (SqT.of upd_same) (.cons (.bl _) (.cons (.bl _) .nil)), w2, w3, w4, w1, rfl, _, rfl, ?_⟩
        refine iteNS (congrArg V.str ff_shown) ?_
        exact ⟨_, _, _, rfl, s2.trans (Sm.new hp), hT2.new hp⟩
      · rintro σ H2 ⟨v1, v2, v3, rfl, s2, hT2⟩
        have n0 : nameL [] = false := by decide +kernel
        have n1 : pathL [] = false := by decide +kernel
        have n2 : pathL [46] = false := by decide +kernel
        have n3 : pathL [97] = true := by decide +kernel
        obtain ⟨w1, w2, w3, w4⟩ := ft_data
        refine ⟨_, rfl, hT2, .inl ⟨[], congrArg V.str nil_S, by decide, fun H3 s3 hT3 => ?_⟩⟩
        refine ⟨_, rfl, hT3, .inl ⟨[], congrArg V.str nil_S, by decide, fun H4 s4 hT4 => ?_⟩⟩
        refine ⟨_, rfl, hT4, .inl ⟨[46], congrArg V.str dot_S, by decide, fun H5 s5 hT5 => ?_⟩⟩
        refine ⟨_, rfl, hT5, .inl ⟨[97], congrArg V.str a_S, by decide, fun H6 s6 hT6 => ?_⟩⟩
        rw [n0, n1, n2, n3]
        refine ⟨nn (by show 4 ≤ 1000; decide), fun p hp => ?_⟩
        refine ⟨p, .tuple [.bool false, .bool false, .bool false, .bool true], rfl, .tup (SqT.of upd_same) (.cons (.bl _) (.cons (.bl _) (.cons (.bl _) (.cons (.bl _) .nil)))), w2, w3, w4, w1, rfl, ?_⟩
        show Q (V.bl (decide (V.str _ = V.str _))) _
        rw [decide_eq_true (congrArg V.str ft_shown)]
        exact q _
end
end K11
set_option maxHeartbeats 0
namespace K11
open PySem PySem.Spec PyProof.Rows L2 HM SX
abbrev dd (x : Str) (st : Stmt) : He.DefD := ⟨(x, none), x, x, defArgs st, defBody st, defScope st, [], []⟩
def fn : List He.DefD := [dd "is_name" sName, dd "is_path" sPath, dd "beginnings" sBegs, dd "parent" sParent, dd "_law_at" sAt, dd "_law_pot" sPot, dd "_law_draw" sDraw, dd "_law_bent" sBent, dd "_law_text" sText, dd "_law_words" sWords, dd "_law_is_word" sIsWord, dd "_law_are_dues" sDues, dd "_law_beginnings" sLBegs, dd "_law_right" sRight, dd "law" sLaw]
def fa : List He.Fa := [.glo "is_name", .glo "is_path", .glo "beginnings", .glo "parent", .glo "_law_at", .glo "_law_pot", .glo "_law_draw", .glo "_law_bent", .glo "_law_text", .glo "_law_words", .glo "_law_is_word", .glo "_law_are_dues", .glo "_law_beginnings", .glo "_law_right", .glo "law",
  .free "isinstance", .free "str", .free "len", .free "all", .free "range", .free "max", .free "min", .free "divmod", .free "repr", .free "list", .int "LETTERS_AT_MOST" 8, .int "NAMES_AT_MOST" 4]
def tf : List He.Defn := [("is_name", none), ("is_path", none)]
def loose : List Str := ["LETTERS_AT_MOST", "NAMES_AT_MOST", "is_name", "is_path", "beginnings", "parent", "_law_at", "_law_pot", "_law_draw", "_law_bent", "_law_text", "_law_words", "_law_is_word", "_law_are_dues", "_law_beginnings", "_law_right"]
abbrev R : PySem.W.OpenRow := PySem.W.OpenLaw.row PySem.Challenge.rw_halfmade_k11_names_and_paths
abbrev hk : PySem.W.Hook := He.hookX 4 fa fn [] tf (fun _ => true)
def ob (s : PySem.W.SharedT) : He.AlX := He.obsX 4 fa fn [] tf (fun _ => true) (HandSHeadRun.getT s)
theorem ob_eq (s : PySem.W.SharedT) : ob s = hk.obs s.abs := He.obsX_eq (HandSHeadRun.getT_eq s)
theorem run (w : World) : HandSHeadRun.RunEq R (PySem.W.view R.prog [18]) hk ob 4000 loose w := by
  intro os
  kernel_rfl
theorem facts {l : PySem.W.OpenLaw} {w : World} {K : PySem.W.Frag} {h : Heap} {mg : Str → Option Value} {f : Addr} (X : K.In h) (G : h.Ns mainGlobals mg) (hfa : mg ("law" : Str) = some (.ref f)) (c : He.SaysX fa fn [] tf (fun _ => true) w h K) : LawG l w K CX0 6 63 "_law_script" mg f h := by
  have c0 : He.SaysD fa fn K := c.t.d
  obtain ⟨fd0, F0⟩ := c0.def_ 0 (d := dd "is_name" sName) rfl
  obtain ⟨fd1, F1⟩ := c0.def_ 1 (d := dd "is_path" sPath) rfl
  obtain ⟨fd2, F2⟩ := c0.def_ 2 (d := dd "beginnings" sBegs) rfl
  obtain ⟨fd3, F3⟩ := c0.def_ 3 (d := dd "parent" sParent) rfl
  obtain ⟨fd4, F4⟩ := c0.def_ 4 (d := dd "_law_at" sAt) rfl
  obtain ⟨fd5, F5⟩ := c0.def_ 5 (d := dd "_law_pot" sPot) rfl
  obtain ⟨fd6, F6⟩ := c0.def_ 6 (d := dd "_law_draw" sDraw) rfl
  obtain ⟨fd7, F7⟩ := c0.def_ 7 (d := dd "_law_bent" sBent) rfl
  obtain ⟨fd8, F8⟩ := c0.def_ 8 (d := dd "_law_text" sText) rfl
  obtain ⟨fd9, F9⟩ := c0.def_ 9 (d := dd "_law_words" sWords) rfl
  obtain ⟨fd10, F10⟩ := c0.def_ 10 (d := dd "_law_is_word" sIsWord) rfl
  obtain ⟨fd11, F11⟩ := c0.def_ 11 (d := dd "_law_are_dues" sDues) rfl
  obtain ⟨fd12, F12⟩ := c0.def_ 12 (d := dd "_law_beginnings" sLBegs) rfl
  obtain ⟨fd13, F13⟩ := c0.def_ 13 (d := dd "_law_right" sRight) rfl
  obtain ⟨fd14, F14⟩ := c0.def_ 14 (d := dd "law" sLaw) rfl
  have g : ∀ (i : Nat) {x : Str}, fa[i]? = some (.glo x) → mg x = some (.ref (He.ga K x)) := fun i x e => He.glo_ok X G (c0.fact i e)
  have fr : ∀ (i : Nat) {x : Str}, fa[i]? = some (.free x) → mg x = none := fun i x e => He.free_ok X G (c0.fact i e)
  have hc8 := He.int_ok X G (c0.fact 25 (f := .int "LETTERS_AT_MOST" 8) rfl)
  have hc4 := He.int_ok X G (c0.fact 26 (f := .int "NAMES_AT_MOST" 4) rfl)
  have e := hfa.symm.trans (g 14 (x := "law") rfl)
  cases e
  refine ⟨fd14, tf.map (He.cT K), spLaw K ((tf.map (He.cT K)).map (·.2)), fun p hp => ?_, fun p hp => ?_, fun p hp => ?_, fun s u => ?_, fun H a ns hl hb hH hS => ?_, fun base hK hN hTB => ?_⟩
  · obtain ⟨q, hq, rfl⟩ := List.mem_map.mp hp
    exact c.empty q hq
  · obtain ⟨q, hq, rfl⟩ := List.mem_map.mp hp
    exact c.out q hq
  · obtain ⟨q, hq, rfl⟩ := List.mem_map.mp hp
    exact PySem.W.codeHd_of_K X (c.hd q hq)
  · exact FunD.bindsA (ps := ["_law_script"]) F14 (fun _ _ _ _ _ _ us hl => match us, hl with | [_], _ => rfl) s [u] rfl
  · refine ⟨a, ns, rfl, hS, hl, fun P hP => ?_, fun _ => rfl⟩
    obtain ⟨p, hp, rfl⟩ := List.mem_map.mp hP
    exact ⟨#[], hH p hp, True.intro⟩
  · have TN := hTB (He.cT K ("is_name", none)) (List.mem_map.mpr ⟨("is_name", none), by decide, rfl⟩)
    have TP := hTB (He.cT K ("is_path", none)) (List.mem_map.mpr ⟨("is_path", none), by decide, rfl⟩)
    have iN : (He.cT K ("is_name", none)).2 ∈ (tf.map (He.cT K)).map (·.2) := List.mem_map.mpr ⟨_, List.mem_map.mpr ⟨("is_name", none), by decide, rfl⟩, rfl⟩
    have iP : (He.cT K ("is_path", none)).2 ∈ (tf.map (He.cT K)).map (·.2) := List.mem_map.mpr ⟨_, List.mem_map.mpr ⟨("is_path", none), by decide, rfl⟩, rfl⟩
    have ml := fr 17 (x := "len") rfl
    have mi := fr 15 (x := "isinstance") rfl
    have ms := fr 16 (x := "str") rfl
    have ma := fr 18 (x := "all") rfl
    have mr := fr 19 (x := "range") rfl
    have mx := fr 20 (x := "max") rfl
    have mn := fr 21 (x := "min") rfl
    have md := fr 22 (x := "divmod") rfl
    have mp := fr 23 (x := "repr") rfl
    have mt := fr 24 (x := "list") rfl
    have GN : FnOk l.prog w K mg base CX0 2 (He.fAd K ("is_name", none)) fd0 ["thing"] (spName K ((tf.map (He.cT K)).map (·.2))) := ok_name F0 iN TN mi ms ml ma hc8
    have GP : FnOk l.prog w K mg base CX0 4 (He.fAd K ("is_path", none)) fd1 ["thing"] (spPath K ((tf.map (He.cT K)).map (·.2))) := ok_path F1 iP TP GN F0 (g 0 (x := "is_name") rfl) mi ms ml ma hc4
    have GO := ok_pot (P := l.prog) (w := w) (base := base) F5 F4 (g 4 (x := "_law_at") rfl) ml mx
    have GT := ok_text (P := l.prog) (w := w) (base := base) F8 F6 F7 (g 6 (x := "_law_draw") rfl) (g 7 (x := "_law_bent") rfl) md ml mr
    have GR := ok_right F13 GN F0 (g 0 (x := "is_name") rfl) GP F1 (g 1 (x := "is_path") rfl) F2 (g 2 (x := "beginnings") rfl) F3 (g 3 (x := "parent") rfl) F11 (g 11 (x := "_law_are_dues") rfl) F9 (g 9 (x := "_law_words") rfl) F10 (g 10 (x := "_law_is_word") rfl) F12 (g 12 (x := "_law_beginnings") rfl) ml mr mp mi mt
    exact ok_law F14 GN F0 (g 0 (x := "is_name") rfl) GP F1 (g 1 (x := "is_path") rfl) GR F13 (g 13 (x := "_law_right") rfl) GT F8 (g 8 (x := "_law_text") rfl) GO F5 (g 5 (x := "_law_pot") rfl) ml mr mp mx mn
end K11
open PySem PySem.W PySem.Calls PyProof.Rows
theorem PySem.Challenge.cw_halfmade_k11_names_and_paths_holds : PySem.Challenge.rw_halfmade_k11_names_and_paths.Holds := by
  w_on; o_law
  refine HandSHeadRun.head_any (r := K11.R) (q := view K11.R.prog [18]) (H := K11.hk) (ob := K11.ob) (M := 4000) (loose := K11.loose) (d := HandSHeadRun.topDef K11.R.prog 18) (kwd := []) K11.ob_eq
    (by kernel_rfl) (fun s => by kernel_rfl) K11.run (by kernel_rfl) (by kernel_rfl) (by kernel_rfl) (by rfl) (by first | assumption | decide +kernel) (by decide +kernel) ⟨rfl, rfl, rfl, rfl, rfl, by decide +kernel⟩ ?hw ?hc
  case hw => w_witness2
  case hc =>
    refine HM.walkG (l := PySem.Challenge.rw_halfmade_k11_names_and_paths) (n := 63) (k := 6) (x := "_law_script") (CX := fun _ => L2.CX0) rfl (by decide) (by kernel_rfl) ⟨rfl, by decide, by decide⟩ (fun w mg fa h Y G hmg0 => ?_) (fun _ _ _ _ _ z => z)
    obtain ⟨K, KX, c⟩ := Y
    have hmg : mg ("law" : PySem.Str) = some (.ref fa) := by
      have e : (HandSHeadRun.topDef K11.R.prog 18).name = ("law" : PySem.Str) := by kernel_rfl
      rw [← e]
      exact hmg0
    exact ⟨K, KX, K11.facts KX G hmg c⟩

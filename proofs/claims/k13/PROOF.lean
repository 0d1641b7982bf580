import PyProof.Rows.All
import Wide.All
import OpenK.AllK
import Wide.FinOn
import HandS.ForMost
import HandS.AnyAll
import HandS.GenOver
import HandS.EndTab
import HandS.Walk
import HandS.HeadHook4
import HandS.HeadWalk
import HandS.Head2
import HandS.Defaults
import HandS.IsInst
import HandS.Wide
import HandS.Flow
import HandS.StrMore
import PyProof.ReprRoads
import HandS.Codes
import PyProof.Rows.StrCountLaw
import PyProof.Rows.RegReprOcc
import PyProof.EqLayable
import HandS.Dict
import HandS.WrittenGet
import HandS.Zip
import HandS.WideBits
import HandS.Comp
import HandS.SetFor
import PyProof.Rows.SetFrom
import PyProof.Rows.SetObj
import PyProof.WalksMore
import PyProof.ReprBulk
import HandS.Text
import KE.IntTextLaws
import PyProof.Rows.ReprOcc
import PyProof.JoinWalk
import HandS.RaiseMore
import HandS.TryOnly
import HandS.ExcBuiltin
import HandS.Lambda
import HandS.Style
import HandS.HeadEnd
import PySem.Challenge.RW_halfmade_k13_whole_bodies_written
set_option Elab.async false
set_option linter.all false
set_option maxRecDepth 100000
set_option maxHeartbeats 4000000
namespace GxA
open PySem PySem.Spec PyProof.Rows L2 GxR

/-- the frame of a generator expression that captures nothing -/
def genCx (X : Cx) (N : List Str) (A' : Around) (s4 : Shared) (H4 : Hp) (cenv : Env) (fp : List Addr) : Cx :=
  { X with A := A', N := N, s_0 := s4, H_0 := H4, env := cenv, outer := X.stack, stack := cenv :: X.stack, ex := fp, fn := fun _ => false, calm := true, pn := [], xe := fun _ _ => False }

/-- the generator's own scope: no cells, nothing captured -/
structure GenN (scope : Scope) : Prop where
  kind : scope.kind = .function
  co : scope.isCoroutine = false
  cell : ∀ y ∈ scope.names, y.2 ≠ .cell
  free : ∀ y ∈ scope.names, y.2 ≠ .free
  dot : scope.names.lookup (".0" : Str) = some NameKind.local

theorem clo_nil (cells : List (Str × Addr)) : ∀ (l : List (Str × NameKind)) (acc : List (Str × Addr)), (∀ y ∈ l, y.2 ≠ .free) → cloFrom cells l acc = acc
  | [], _, _ => rfl
  | (n, k) :: r, acc, h => by
    have hk : (k == NameKind.free) = false := by
      have := h (n, k) List.mem_cons_self
      cases k <;> first | rfl | exact absurd rfl this
    unfold cloFrom
    rw [hk]
    exact clo_nil cells r acc fun y hy => h y (List.mem_cons_of_mem _ hy)

theorem lookup_mem {α : Type} : ∀ {l : List (Str × α)} {n : Str} {c : α}, l.lookup n = some c → ∃ n', (n', c) ∈ l
  | (k, v) :: r, n, c, h => by
    rw [List.lookup_cons] at h
    cases hb : n == k with
    | true =>
      rw [hb] at h
      cases h
      exact ⟨k, List.mem_cons_self⟩
    | false =>
      rw [hb] at h
      obtain ⟨n', hn⟩ := lookup_mem h
      exact ⟨n', List.mem_cons_of_mem _ hn⟩

section
variable {X : Cx} {pins : List (Addr × Obj)} {σ : L2.St} {H : Hp} {s : Shared}
/-- only the generators' table has changed -/
theorem inv_gens {s' : Shared} (I : Inv X pins σ H s) (hh : s'.heap = s.heap) (ho : s'.os = s.os) (hb : AllBare s'.gens) : Inv X pins σ H s' := by
  obtain ⟨h, g, d, t, o⟩ := s
  obtain ⟨h', g', d', t', o'⟩ := s'
  dsimp only at hh ho hb
  subst hh
  subst ho
  exact ⟨I.ok, I.os, hb, I.base, I.loc, I.cell, I.free, I.freeC, I.pin, I.hok, I.len⟩
/-- slots may be forgotten -/
theorem inv_wipe (I : Inv X pins σ H s) (n : Nat) (hn : X.N.length = n) : Inv X pins (List.replicate n none) H s := by
  obtain ⟨m, hm, _⟩ := I.loc
  refine ⟨I.ok, I.os, I.bare, I.base, ⟨m, hm, fun i x v _ e _ => ?_⟩, I.cell, I.free, I.freeC, I.pin, I.hok, by rw [List.length_replicate, hn]⟩
  rw [List.getElem?_replicate] at e
  split at e <;> cases e
end

section
variable {X : Cx} {pins : List (Addr × Obj)} {σ : L2.St} {H : Hp} {s : Shared}
theorem stk_lt (I : Inv X pins σ H s) {b : Addr} (hb : b ∈ frs X.stack) : b < s.heap.objs.size := by
  rcases List.mem_cons.mp (I.stkSub b hb) with e | e
  · rw [e]
    exact I.lt
  · refine Nat.lt_of_not_le fun h => I.nofs h e
theorem genCx_ok {N : List Str} {A' : Around} {scope : Scope} {code : Value} {fp : List Addr} (I : Inv X pins σ H s) (S : GenN scope)
    (hA : A'.frames = some (genEnv scope [] s.heap.objs.size code builtinsNs X.env :: X.stack)) (hAh : A'.handled = none) (hfp : ∀ b ∈ fp, FpOk X pins H b) (hlt : ∀ b ∈ fp, b < s.heap.objs.size) :
    (genCx X N A' s H (genEnv scope [] s.heap.objs.size code builtinsNs X.env) fp).Ok where
  mod := I.ok.mod
  kind := S.kind
  glob := I.ok.glob
  blt := rfl
  above := Nat.le_refl _
  inj := fun x y c e => nomatch (show (none : Option Addr) = some c from e)
  has := fun x h => by
    rcases h with h | h
    · obtain ⟨n', hm⟩ := lookup_mem (show scope.names.lookup x = some .cell from h)
      exact absurd rfl (S.cell _ hm)
    · obtain ⟨n', hm⟩ := lookup_mem (show scope.names.lookup x = some .free from h)
      exact absurd rfl (S.free _ hm)
  cab := fun x c e _ => nomatch (show false = true from e)
  hd := fun _ => hAh
  frames := hA
  stk := .inr ⟨rfl, rfl⟩
  exf := fun b hb => ⟨Nat.ne_of_lt (hlt b hb), fun x c e => nomatch (show (none : Option Addr) = some c from e)⟩
  bs := I.bs
  bsz := Nat.le_trans I.ok.bsz I.sz
  noex := fun b o e hb => by
    rcases (hfp b hb).2.2.2.1 with z | z
    · exact I.ok.noex b o e z
    · exact absurd (Nat.lt_of_lt_of_le (Heap.lt_size (I.ok.bs b o e).1) z) (Nat.lt_irrefl _)
  exfs := fun b hb hs => by
    rcases List.mem_cons.mp (I.stkSub b hs) with z | z
    · exact (hfp b hb).2.1 z
    · exact (hfp b hb).2.2.1 z
  funs := I.stack
  frf := I.stkFree
theorem genCx_inv {N : List Str} {A' : Around} {scope : Scope} {code : Value} {fp : List Addr} {h5 : Heap} {gs : Array GenState} {tk : Nat} {m : Str → Option Value} {a : Addr} {go : Obj} (I : Inv X pins σ H s)
    (hok : (genCx X N A' s H (genEnv scope [] s.heap.objs.size code builtinsNs X.env) fp).Ok) (k5 : ∀ b o, s.heap.get? b = some o → h5.get? b = some o) (hn : h5.Ns s.heap.objs.size m) (ha : h5.get? a = some go) (hac : s.heap.objs.size < a)
    (hgo : ∀ v, go.data ≠ .cell v) (hgb : AllBare gs) :
    Inv (genCx X N A' s H (genEnv scope [] s.heap.objs.size code builtinsNs X.env) fp) [(a, go)] (List.replicate N.length none) H { s with gens := gs, toks := tk, heap := h5 } where
  ok := hok
  os := rfl
  bare := hgb
  base := Un.kept k5
  loc := ⟨m, hn, fun i x v _ e _ => by
    rw [List.getElem?_replicate] at e
    split at e <;> cases e⟩
  cell := fun x c e => nomatch (show (none : Option Addr) = some c from e)
  free := I.hok.fresh (Nat.le_refl _)
  freeC := fun x c e => nomatch (show (none : Option Addr) = some c from e)
  pin := fun p hp => by
    have e : p = (a, go) := by
      rcases List.mem_append.mp hp with z | z
      · cases z
      · exact List.mem_singleton.mp z
    subst e
    refine ⟨ha, I.hok.fresh (Nat.le_of_lt hac), Nat.ne_of_gt hac, fun hb => ?_, hgo⟩
    exact absurd (Nat.lt_trans (stk_lt I hb) hac) (Nat.lt_irrefl _)
  hok := (I.kept (t' := tk) k5).hok
  len := List.length_replicate
end

/-! ### the loop of the generator -/
section
variable {X : Cx} {tg elt iter : Expr} {scope : Scope} {pos : Pos} {it : Addr} {B : Around} {J : It} {fp : List Addr} {tn : Nat → Heap → Prop} {g : TG} {te : TE} {pn0 : List (Addr × Obj)} {Q : VK}
/-- what the generator's end leaves -/
def GRz (X : Cx) (pn0 : List (Addr × Obj)) (Q : VK) : Nat → Shared → Shared → Prop := fun _ _ s => ∃ σ H, Inv X pn0 σ H s ∧ Q (.bl true) H
/-- what it hands out: True, and it may go on; or False, and it is left -/
def GYz (X : Cx) (pn0 : List (Addr × Obj)) (Q : VK) : Protocol := fun _ _ v s kap => ∃ b σ H, v = .bool b ∧ Inv X pn0 σ H s ∧
  if b = true then ∀ s', s'.heap = s.heap → s'.os = s.os → AllBare s'.gens → kap (.send .none) s' else Q (.bl false) H
/-- the turns -/
def GTurn (J : It) (g : TG) (te : TE) (k : Nat) (Q : VK) (W : Nat → Nat → Hp → Prop) : Prop := ∀ i m H, W i m H →
  (J.stop i H ∧ Q (.bl true) H) ∨ (J.go i H ∧ ∃ Nx : Hp → Prop, (∀ H', Nx H' → ∃ m', m' < m ∧ W (i + 1) m' H') ∧
    ∀ x H', J.yld i H x H' → g x (List.replicate k none) H' fun σ2 H2 => te σ2 H2 fun v H3 => ∃ b, v = .bl b ∧ if b = true then Nx H3 else Q (.bl false) H3)
theorem seg_all {W : Nat → Nat → Hp → Prop} (hA : B.over (.compLoop (.GeneratorExp elt [⟨tg, iter, [], 0⟩] scope pos) 0 (.ref it) .none X.env) [] = X.A) (hxe : X.xe = fun _ _ => False) (hcalm : X.calm = true) (hco : X.env.scope.isCoroutine = false)
    (T : Turn X.prog X.w X.K tg J fp it tn) (hf : ∀ b ∈ fp, b ≠ X.env.locals ∧ b ∉ X.fs ∧ (b ∈ X.ex ∨ X.s_0.heap.objs.size ≤ b) ∧ (∀ x c, X.env.cells.lookup x = some c → c ≠ b) ∧ ∀ p ∈ X.pn ++ pn0, p.1 ≠ b)
    (hg : PG X tg g) (he : PE X elt te) (turn : GTurn J g te X.N.length Q W) :
    ∀ (m n : Nat), m < n → ∀ (i : Nat) (s₀ s : Shared) (σ : L2.St) (H : Hp), Inv X pn0 σ H s → tn i s.heap → (∀ b ∈ fp, H b = none) → W i m H →
      Seg (model X.prog X.w) B (fun n s₀ r s₁ => r = .ok .next ∧ GRz X pn0 Q n s₀ s₁) (GYz X pn0 Q) n s₀ (.compLoop (.GeneratorExp elt [⟨tg, iter, [], 0⟩] scope pos) 0 (.ref it) .none X.env)
        ((model X.prog X.w).den (.compLoop (.GeneratorExp elt [⟨tg, iter, [], 0⟩] scope pos) 0 (.ref it) .none X.env)) [] s := by
  intro m
  induction m using Nat.strongRecOn with
  | _ m ih =>
  intro n hmn i s₀ s σ H I st fr w
  have I' := inv_wipe I X.N.length rfl
  have noX : ∀ (e : Value) (s' : Shared), X.xe e s' → False := fun e s' h => by
    rw [hxe] at h
    exact h
  have stat : ∀ {H' : Hp}, (∀ b ∈ fp, H' b = none) → ∀ b ∈ fp, FpOk X pn0 H' b := fun hn b hb => ⟨hn b hb, hf b hb⟩
  show Seg _ B _ _ _ s₀ _ ((compTurn (.GeneratorExp elt [⟨tg, iter, [], 0⟩] scope pos) 0 (.ref it) .none X.env).onRaise (leaving X.env)) [] s
  rw [compTurn_gen, Sem.onRaise_eq_wrap]
  refine seg_bind_wrap (wpAny_standAt ?_)
  rcases turn i m H w with ⟨stop, q⟩ | ⟨go, Nx, hN, step⟩
  · refine seg_bind_wrap ?_
    rw [hA]
    refine wpAny_mono (T.done X rfl rfl rfl hcalm i pn0 s _ H X.xe I' (stat fr) st stop) (fun r s1 h1 => ?_) fun e s' h => (noX e s' h).elim
    obtain ⟨rfl, I1⟩ := h1
    exact seg_end (.ok .next) ⟨rfl, _, H, I1, q⟩
  · refine seg_bind_wrap ?_
    rw [hA]
    refine wpAny_mono (T.item X rfl rfl rfl hcalm i pn0 s _ H X.xe I' (stat fr) st go) (fun r s1 h1 => ?_) fun e s' h => (noX e s' h).elim
    obtain ⟨u, rfl, h1⟩ := h1
    refine seg_bind_wrap ?_
    rw [hA]
    refine wpAny_mono h1 (fun _ s2 h2 => ?_) fun e s' h => (noX e s' h).elim
    obtain ⟨x, H2, I2, r2, y2, st2, fr2⟩ := h2
    have I2' := I2.pinned (stat fr2) (T.obj _ _ st2)
    refine seg_bind_wrap ?_
    rw [hA]
    refine wpAny_mono (hg.run _ s2 _ H2 x u _ I2' r2 (step x H2 y2)) (fun _ s3 h3 => ?_) fun e s' h => (noX e s' h).elim
    obtain ⟨σ3, H3, I3, q3⟩ := h3
    have hy : ∀ v, yieldOut X.env v = yieldValue v := fun v => by simp only [yieldOut, hco, Bool.false_eq_true, if_false]
    simp only [hy]
    refine seg_bind_wrap ?_
    refine (wpAny_of_eq (a := true) (by rfl) ?_)
    simp only [if_true]
    rw [Sem.bind_eq_wrap', Sem.bind_eq_wrap', Sem.wrap_wrap, Sem.wrap_wrap]
    refine seg_wrap ?_
    rw [hA]
    refine wpAny_mono (he.run _ s3 σ3 H3 _ I3 q3) (fun y s4 h4 => ?_) fun e s' h => (noX e s' h).elim
    obtain ⟨v, H4, I4, r4, b, rfl, q4⟩ := h4
    obtain rfl : y = Value.bool b := r4
    have I5 := I4.unpinned
    have st4 : tn (i + 1) s4.heap := T.keep _ _ _ st2 fun b hb o e => (I4.pin (b, o) (List.mem_append_right _ (List.mem_append_right _ (mem_pinsAt hb e)))).1
    have fr4 : ∀ b ∈ fp, H4 b = none := fun b hb => by
      obtain ⟨o, e, d⟩ := T.obj _ _ st2 b hb
      exact (I4.pin (b, o) (List.mem_append_right _ (List.mem_append_right _ (mem_pinsAt hb e)))).2.1
    obtain ⟨n', rfl⟩ : ∃ n', n = n' + 1 := ⟨n - 1, by omega⟩
    refine seg_at (seg_yield rfl rfl rfl ⟨b, σ3, H4, rfl, I5, ?_⟩)
    cases b with
    | false => exact q4
    | true =>
      obtain ⟨m', hm', w'⟩ := hN H4 q4
      rw [if_pos rfl]
      intro s' e1 e2 e3
      exact seg_again rfl (ih m' hm' n' (by omega) (i + 1) s' s' σ3 H4 (inv_gens I5 e1 e2 e3) (by rw [e1]; exact st4) fr4 w')
/-- its start -/
theorem seg_start {W : Nat → Nat → Hp → Prop} (hA : B.over (.compLoop (.GeneratorExp elt [⟨tg, iter, [], 0⟩] scope pos) 0 (.ref it) .none X.env) [] = X.A) (hxe : X.xe = fun _ _ => False) (hcalm : X.calm = true) (hco : X.env.scope.isCoroutine = false)
    (T : Turn X.prog X.w X.K tg J fp it tn) (hf : ∀ b ∈ fp, b ≠ X.env.locals ∧ b ∉ X.fs ∧ (b ∈ X.ex ∨ X.s_0.heap.objs.size ≤ b) ∧ (∀ x c, X.env.cells.lookup x = some c → c ≠ b) ∧ ∀ p ∈ X.pn ++ pn0, p.1 ≠ b)
    (hg : PG X tg g) (he : PE X elt te) (turn : GTurn J g te X.N.length Q W) (m : Nat) (s₀ s : Shared) (σ : L2.St) (H : Hp) (I : Inv X pn0 σ H s) (st : tn 0 s.heap) (fr : ∀ b ∈ fp, H b = none) (w0 : W 0 m H) :
      Seg (model X.prog X.w) B (fun n s₀ r s₁ => r = .ok .next ∧ GRz X pn0 Q n s₀ s₁) (GYz X pn0 Q) (m + 1) s₀ (.compStart (.GeneratorExp elt [⟨tg, iter, [], 0⟩] scope pos) 0 (.ref it) .none X.env)
        ((model X.prog X.w).den (.compStart (.GeneratorExp elt [⟨tg, iter, [], 0⟩] scope pos) 0 (.ref it) .none X.env)) [] s := by
  have loop := seg_all (iter := iter) (scope := scope) (pos := pos) hA hxe hcalm hco T hf hg he turn m (m + 1) (Nat.lt_succ_self _) 0 s₀ s σ H I st fr w0
  show Seg _ B _ _ _ s₀ _ ((compStart (.GeneratorExp elt [⟨tg, iter, [], 0⟩] scope pos) 0 (.ref it) .none X.env).onRaise (leaving X.env)) [] s
  unfold compStart
  rw [Sem.onRaise_eq_wrap]
  show Seg _ B _ _ _ s₀ _ ((ask >>= _).wrap _ _ _ _) [] s
  refine seg_bind_wrap (wpAny_askSetting ?_)
  split
  · exact seg_again rfl loop
  · first
      | exact seg_bind_wrap (wpAny_rule (seg_bind_wrap (wpAny_standAt (seg_bind_wrap (T.self _ 0 s _ _ st (seg_again rfl loop))))))
      | (refine seg_bind_wrap (wpAny_rule ?_); show Seg _ B _ _ _ s₀ _ ((standAt iter.pos >>= _).wrap _ _ _ _) [] s; exact seg_bind_wrap (wpAny_standAt (seg_bind_wrap (T.self _ 0 s _ _ st (seg_again rfl loop)))))
end
/-! ### all(..) -/
section
variable {X : Cx} {A : Around} {a : Addr} {g : Nat} {go : Obj} {pn0 : List (Addr × Obj)} {Q : VK} {R : Result → Shared → Prop}
theorem gens_set {s : Shared} {n : Nat} {x : GenState} (h : n < s.gens.size) : (s.setGen n x).gens[n]? = some x := by
  simp [Shared.setGen, h]
theorem bare_set {s : Shared} {n : Nat} {x : GenState} (h : AllBare s.gens) (hx : x.bare = true) : AllBare (s.setGen n x).gens := by
  intro y hy
  rcases Array.mem_or_eq_of_mem_setIfInBounds (show y ∈ s.gens.setIfInBounds n x from hy) with z | z
  · exact h y z
  · rw [z]
    exact hx
theorem all_loop (hh : A.handled = none) (hroom : A.depth < recursionLimit) (hgo : go.cls = .type "generator" ∧ (∃ nm qn, go.data = .fields #[.int g 0, nm, qn]) ∧ go.slots = #[]) (hpn : (a, go) ∈ pn0)
    (hR : ∀ b s σ H, Inv X pn0 σ H s → Q (.bl b) H → R (.ok (.ret (.bool b))) s) :
    ∀ (n : Nat) (s : Shared) (gs : GenState) (σ : L2.St) (H : Hp), Inv X pn0 σ H s → s.gens[g]? = some gs →
      gs.Goes (model X.prog X.w) A.in1.in1 (fun n s₀ r s₁ => r = .ok .next ∧ GRz X pn0 Q n s₀ s₁) (GYz X pn0 Q) n (.send .none) (s.setGen g .running) →
      codeAny (model X.prog X.w) A (.builtin "all.loop" ⟨[.ref a], []⟩) R s := by
  have step : ∀ n : Nat, (∀ m, n = m + 1 → ∀ (s : Shared) (gs : GenState) (σ : L2.St) (H : Hp), Inv X pn0 σ H s → s.gens[g]? = some gs →
      gs.Goes (model X.prog X.w) A.in1.in1 (fun n s₀ r s₁ => r = .ok .next ∧ GRz X pn0 Q n s₀ s₁) (GYz X pn0 Q) m (.send .none) (s.setGen g .running) →
      codeAny (model X.prog X.w) A (.builtin "all.loop" ⟨[.ref a], []⟩) R s) → ∀ (s : Shared) (gs : GenState) (σ : L2.St) (H : Hp), Inv X pn0 σ H s → s.gens[g]? = some gs →
      gs.Goes (model X.prog X.w) A.in1.in1 (fun n s₀ r s₁ => r = .ok .next ∧ GRz X pn0 Q n s₀ s₁) (GYz X pn0 Q) n (.send .none) (s.setGen g .running) →
      codeAny (model X.prog X.w) A (.builtin "all.loop" ⟨[.ref a], []⟩) R s := by
    intro n ih s gs σ H I hgs hgoes
    refine codeAny_builtin F.entry_all_loop ?_
    rw [Around.under_plainId F.plain_all_loop _]
    show wpAny _ A.in1 (pyNext (.ref a) >>= _) _ _ s
    have hlt : g < s.gens.size := by
      rcases Nat.lt_or_ge g s.gens.size with h | h
      · exact h
      · rw [Array.getElem?_eq_none h] at hgs
        cases hgs
    have hgen : s.heap.IsGen a g := by
      obtain ⟨h1, ⟨nm, qn, h2⟩, h3⟩ := hgo
      exact ⟨go, nm, qn, (I.pin (a, go) (List.mem_append_right _ hpn)).1, h1, h2, h3⟩
    refine wpAny_bind (GenW.wpAny_gsz (n := g + 1) hlt ?_)
    refine wpAny_pyNext_genexpQ (A := A.in1) (P := GRz X pn0 Q) hh I.nolimit hroom hgen hgs hgoes (fun v s₁ gs' hb hv hsz => ?_) (fun s₁ hp h' hk hsz => ?_)
    · obtain ⟨b, σ1, H1, rfl, I1, q1⟩ := hv
      have hsz1 : g < s₁.gens.size := by
        have : g + 1 ≤ (s₁.setGen g gs').gens.size := hsz
        rw [GenW.setGen_size] at this
        exact this
      have J1 : Inv X pn0 σ1 H1 (s₁.setGen g gs') := inv_gens I1 rfl rfl (bare_set I1.bare hb)
      refine wpAny_bind (wpAny_holding (wpAny_truthy_bool ?_))
      refine wpAny_bind (wpAny_letGo ?_)
      cases b with
      | true =>
        rw [if_pos rfl] at q1
        simp only [if_true]
        have q2 := q1 ((s₁.setGen g gs').setGen g .running) rfl rfl (bare_set J1.bare rfl)
        cases n with
        | zero => exact q2.elim
        | succ m => exact wpAny_pure ⟨plainId_quiet F.plain_all_loop _, ih m rfl _ gs' σ1 H1 J1 (gens_set hsz1) q2⟩
      | false =>
        simp only [Bool.false_eq_true, if_false]
        exact wpAny_bind (wpAny_rule (wpAny_pure (hR false _ σ1 H1 J1 q1)))
    · obtain ⟨σ1, H1, I1, q1⟩ := hp
      have J1 : Inv X pn0 σ1 H1 (s₁.setGen g .finished) := inv_gens I1 rfl rfl (bare_set I1.bare rfl)
      exact wpAny_bind (wpAny_rule (wpAny_pure (hR true _ σ1 H1 (J1.kept (t' := s₁.toks) hk) q1)))
  intro n
  induction n with
  | zero => exact step 0 fun m e => by cases e
  | succ n ih =>
    refine step (n + 1) fun m e => ?_
    cases e
    exact ih
end

/-! ### the rule -/
/-- all(elt for tg in iter), nothing captured; k: how many names the generator's frame has (those of the target) -/
def tAllG (P : Addr) (wi : TI) (g : TG) (te : TE) (k : Nat) : TE := fun σ H Q => wi σ H fun J H1 => TabG H1 P ∧ ∀ H2, Tabbed P H1 H2 → ∃ W : Nat → Nat → Hp → Prop, (∃ m, W 0 m H2) ∧ GTurn J g te k Q W
section
variable {X : Cx} {c P : Addr} {tg elt iter : Expr} {p pos gpos : Pos} {scope : Scope} {wi : TI} {g : TG} {te : TE} {N : List Str} {k : Nat}
theorem pe_allG (hr : Room (k + 1) X.A) (hgl : Gl X "all") (hm : X.mg "all" = none) (TB : TabB X.base X.mg c P) (hcode : X.env.code = .ref c) (S : GenN scope) (hi : PI X tg iter wi)
    (hg : ∀ A' s4 H4 cenv fp, cenv.scope = scope → PG (genCx X N A' s4 H4 cenv fp) tg g) (he : ∀ A' s4 H4 cenv fp, cenv.scope = scope → Room k A' → PE (genCx X N A' s4 H4 cenv fp) elt te)
    (hs : ∀ v, genFold iter X.env v = pure v)
    (hst : starEach [.GeneratorExp elt [⟨tg, iter, [], 0⟩] scope gpos] X.env = (false, eval (.GeneratorExp elt [⟨tg, iter, [], 0⟩] scope gpos) X.env) :: starEach [] X.env := by rfl) (hb : bootBuiltins "all" = some (.builtin "all") := by decide +kernel) :
    PE X (.Call (.Name "all" p) [.GeneratorExp elt [⟨tg, iter, [], 0⟩] scope gpos] [] pos) (tAllG P wi g te N.length) := by
  refine ⟨fun pins s σ H Q I h => ?_⟩
  refine wpAny_Call_Name_kw (ld_blt I hgl hm hb ?_)
  refine PyProof.Rows.callWith_builtin1 ?_ hst (by rfl)
  rw [hst]
  show wpAny _ _ (spliced ((false, eval (.GeneratorExp elt [⟨tg, iter, [], 0⟩] scope gpos) X.env) :: backTo pos (starEach [] X.env))) _ _ s
  refine Calls.spliced_cons ?_
  have hclos : closureFor scope X.env = pure [] := by
    rw [closure_ok (fun y hy e => absurd e (S.free y hy)), clo_nil _ _ _ S.free]
  refine wpAny_GeneratorExp_make S.co hclos S.cell S.dot S.kind (by have := hr.dp; omega) ?_ hs
  refine thn (hi.run pins s σ H _ I h) fun xv s1 h1 => thn h1 fun itv s2 h2 => ?_
  obtain ⟨it, fp, tn, J, H1, rfl, I1, T, st1, f1, ⟨ps, hP, ht⟩, hW⟩ := h2
  refine ⟨I1.nolimit, ?_⟩
  have hPs : s2.heap.get? P = some { cls := .none, data := .fields ps } := I1.hok P _ hP
  have cd : PySem.W.CodeHd s2.heap c P := TB.code.keeps fun b u e => I1.bk b u e
  have hlt1 : ∀ b ∈ fp, b < s2.heap.objs.size := fun b hb => by
    obtain ⟨o, e, _⟩ := T.obj _ _ st1 b hb
    exact Heap.lt_size e
  have cont : ∀ (code : Value) (h3 : Heap) (tk : Nat) (more : Array Value), Heap.ExtBut P s2.heap h3 → s2.heap.objs.size ≤ h3.objs.size → h3.get? P = some { cls := .none, data := .fields (ps ++ more) } → TriplesOk (ps ++ more).toList →
      wpAny (model X.prog X.w) X.A (builtinsFor X.env.globals X.env.builtins) (fun bi s₄ =>
        ∀ h', h'.Ns s₄.heap.objs.size (fun y => if y = ".0" then some (.ref it) else none) → Heap.SameBut s₄.heap.objs.size (s₄.heap.push { cls := .type "frame", data := .dict #[] }) h' →
          wpAny (model X.prog X.w) X.A (spliced (backTo pos (starEach [] X.env))) (fun vs s' => wpAny (model X.prog X.w) X.A (call (.builtin "all") (.ref h'.objs.size :: vs)) (EP X pins σ Q) X.xe s') X.xe { s₄ with
            gens := s₄.gens.push (.fresh (.compStart (.GeneratorExp elt [⟨tg, iter, [], 0⟩] scope gpos) 0 (.ref it) .none (genEnv scope [] s₄.heap.objs.size code bi X.env))),
            toks := s₄.toks + 1 + 1 + 1,
            heap := h'.push { cls := .type "generator", data := .fields #[.int s₄.gens.size 0, .str "<genexpr>" (s₄.toks + 1), .str (X.env.qual ++ "<genexpr>") (s₄.toks + 1 + 1)] } }) X.xe { s2 with heap := h3, toks := tk } := by
    intro code h3 tk more hx hsz hP3 ht3
    obtain ⟨bm, ob, e1, e2, e3, e4, e5, e6, e7, e8⟩ := TB.bm
    have keep3 : ∀ b u, b ≠ P → s2.heap.get? b = some u → h3.get? b = some u := fun b u hb e => hx b u hb e
    refine wpAny_builtinsFor (m := X.mg) (by rw [I1.ok.glob]; exact (I1.mod.glob.keeps I1.bk).extBut hx TB.gP) e1 e2 (keep3 _ _ e4 (I1.bk _ _ e5)) e6 e7 e8 ?_
    intro h' hn' hs'
    have I3 : Inv X pins σ (upd H1 P (.tbl (ps ++ more))) { s2 with heap := h3, toks := tk } := inv_tab (more := more) (h' := h3) (g' := s2.gens) (d' := s2.drawn) (t' := tk) I1 hP keep3 hP3 I1.bare
    obtain ⟨W, ⟨m0, w0⟩, turn⟩ := hW _ ⟨⟨ps ++ more, upd_same, ht3⟩, fun b hb => upd_ne hb⟩
    have nP : ∀ b ∈ fp, b ≠ P := fun b hb z => by
      have := (f1 b hb).1
      rw [z, hP] at this
      cases this
    have fr3 : ∀ b ∈ fp, upd H1 P (.tbl (ps ++ more)) b = none := fun b hb => by
      rw [upd_ne (nP b hb)]
      exact (f1 b hb).1
    have f3 : ∀ b ∈ fp, FpOk X pins (upd H1 P (.tbl (ps ++ more))) b := fun b hb => ⟨fr3 b hb, (f1 b hb).2⟩
    have st3 : tn 0 h3 := T.keep _ _ _ st1 fun b hb o e => keep3 b o (nP b hb) e
    have hlt3 : ∀ b ∈ fp, b < h3.objs.size := fun b hb => Nat.lt_of_lt_of_le (hlt1 b hb) hsz
    obtain ⟨cenv, hcenv⟩ : ∃ cenv, genEnv scope [] h3.objs.size code builtinsNs X.env = cenv := ⟨_, rfl⟩
    have sz' : h'.objs.size = h3.objs.size + 1 := by rw [hs'.1, Heap.size_push]
    have keep' : ∀ b o, h3.get? b = some o → h'.get? b = some o := fun b o e => hs'.extBut b o (Nat.ne_of_lt (Heap.lt_size e)) (Heap.get?_push_of_some _ e)
    have Ok' : (genCx X N ((X.A.in1.in1).over (.compLoop (.GeneratorExp elt [⟨tg, iter, [], 0⟩] scope gpos) 0 (.ref it) .none cenv) []) { s2 with heap := h3, toks := tk } (upd H1 P (.tbl (ps ++ more))) cenv fp).Ok := by
      rw [← hcenv]
      refine genCx_ok I3 S ?_ hr.hd f3 hlt3
      show pushEnvs [_] (pushEnvs [] X.A.frames) = _
      rw [I1.ok.frames]
      rfl
    have hRoom : Room k ((X.A.in1.in1).over (.compLoop (.GeneratorExp elt [⟨tg, iter, [], 0⟩] scope gpos) 0 (.ref it) .none cenv) []) := by
      refine ⟨hr.hd, ?_, ?_⟩
      · have := hr.dp
        show X.A.depth + 0 + 1 + 3 * k + 5 < _
        omega
      · have := hr.un
        show X.A.units + 1 + 1 + 0 + 3 + 16 * k + 200 < _
        omega
    have hsc : cenv.scope = scope := by
      rw [← hcenv]
      rfl
    have hloc : cenv.locals = h3.objs.size := by
      rw [← hcenv]
      rfl
    have hcel : cenv.cells = [] := by
      rw [← hcenv]
      rfl
    obtain ⟨go, hgo⟩ : ∃ go : Obj, { cls := .type "generator", data := .fields #[.int s2.gens.size 0, .str "<genexpr>" (tk + 1), .str (X.env.qual ++ "<genexpr>") (tk + 1 + 1)] } = go := ⟨_, rfl⟩
    have keep5 : ∀ b o, h3.get? b = some o → (h'.push go).get? b = some o := fun b o e => Heap.get?_push_of_some _ (keep' b o e)
    have bare5 : AllBare (s2.gens.push (.fresh (.compStart (.GeneratorExp elt [⟨tg, iter, [], 0⟩] scope gpos) 0 (.ref it) .none cenv))) := I1.bare.push rfl
    have I5 : Inv (genCx X N ((X.A.in1.in1).over (.compLoop (.GeneratorExp elt [⟨tg, iter, [], 0⟩] scope gpos) 0 (.ref it) .none cenv) []) { s2 with heap := h3, toks := tk } (upd H1 P (.tbl (ps ++ more))) cenv fp) [(h'.objs.size, go)] (List.replicate N.length none)
        (upd H1 P (.tbl (ps ++ more))) { s2 with gens := s2.gens.push (.fresh (.compStart (.GeneratorExp elt [⟨tg, iter, [], 0⟩] scope gpos) 0 (.ref it) .none cenv)), toks := tk + 1 + 1 + 1, heap := h'.push go } := by
      subst hcenv
      refine genCx_inv (m := fun y => if y = ".0" then some (.ref it) else none) I3 Ok' keep5 (hn'.push _) (Heap.get?_push_size _ (by rw [← hgo]; rfl)) (by show h3.objs.size < h'.objs.size; omega) (fun v z => ?_) bare5
      rw [← hgo] at z
      cases z
    have hf5 : ∀ b ∈ fp, b ≠ cenv.locals ∧ b ∉ frs X.stack ∧ (b ∈ fp ∨ h3.objs.size ≤ b) ∧ (∀ x c, cenv.cells.lookup x = some c → c ≠ b) ∧ ∀ p ∈ [] ++ [(h'.objs.size, go)], p.1 ≠ b := fun b hb => by
      refine ⟨?_, fun z => ?_, .inl hb, fun x c e => ?_, fun p hp => ?_⟩
      · rw [hloc]
        exact Nat.ne_of_lt (hlt3 b hb)
      · rcases List.mem_cons.mp (I1.stkSub b z) with q | q
        · exact (f1 b hb).2.1 q
        · exact (f1 b hb).2.2.1 q
      · rw [hcel] at e
        cases e
      · have e : p = (h'.objs.size, go) := List.mem_singleton.mp hp
        subst e
        exact Nat.ne_of_gt (Nat.lt_trans (hlt3 b hb) (by rw [sz']; exact Nat.lt_succ_self _))
    have loop := seg_start (X := genCx X N ((X.A.in1.in1).over (.compLoop (.GeneratorExp elt [⟨tg, iter, [], 0⟩] scope gpos) 0 (.ref it) .none cenv) []) { s2 with heap := h3, toks := tk } (upd H1 P (.tbl (ps ++ more))) cenv fp)
      (B := X.A.in1.in1) (iter := iter) (scope := scope) (pos := gpos) (tn := tn) (pn0 := [(h'.objs.size, go)]) (W := W) rfl rfl rfl (by show cenv.scope.isCoroutine = false; rw [hsc]; exact S.co) T hf5 (hg _ _ _ _ _ hsc) (he _ _ _ _ _ hsc hRoom) turn m0
    refine Calls.spliced_nil ?_
    refine call_function_tree F.kind_all F.plain_all F.entry_all (F.args_all1 _) ?_
    unfold Builtin.«all»
    refine wpAny_bind (m := oneArg "all" _) (wpAny_pure ?_)
    have hgen : (h'.push go).IsGen h'.objs.size s2.gens.size := ⟨go, _, _, Heap.get?_push_size _ (by rw [← hgo]; rfl), by rw [← hgo], by rw [← hgo], by rw [← hgo]⟩
    subst hcenv
    subst hgo
    refine wpAny_bind (wpAny_pyIter_gen hgen ?_)
    refine wpAny_pure ⟨plainId_quiet F.plain_all_loop _, ?_⟩
    refine all_loop (X := (genCx X N ((X.A.in1.in1).over (.compLoop (.GeneratorExp elt [⟨tg, iter, [], 0⟩] scope gpos) 0 (.ref it) .none (genEnv scope [] h3.objs.size code builtinsNs X.env)) []) { s2 with heap := h3, toks := tk } (upd H1 P (.tbl (ps ++ more))) (genEnv scope [] h3.objs.size code builtinsNs X.env) fp)) (Q := Q) (A := X.A)
      (go := { cls := .type "generator", data := .fields #[.int s2.gens.size 0, .str "<genexpr>" (tk + 1), .str (X.env.qual ++ "<genexpr>") (tk + 1 + 1)] }) (pn0 := [(h'.objs.size, _)]) hr.hd (by have := hr.dp; omega) ⟨rfl, ⟨_, _, rfl⟩, rfl⟩ (List.mem_singleton.mpr rfl)
      (fun b s' σ' H' J q => ?_) (m0 + 1) _ _ _ _ I5 (Array.getElem?_push_size ..) ⟨rfl, ?_⟩
    · obtain ⟨hh, gg, dd, tt, oo⟩ := s'
      obtain rfl : oo = s2.os := J.os
      have I7 := I3.call (h' := hh) (g' := gg) (d' := dd) (t' := tt) (ch := fp) J.base J.hok J.bare fun b hb => ⟨(f1 b hb).2.2.2.1, (f1 b hb).2.1, (f1 b hb).2.2.2.2.1, (f1 b hb).2.2.2.2.2⟩
      exact ⟨.bl b, H', I7, rfl, q⟩
    · have I6 := inv_gens (s' := ({ s2 with gens := s2.gens.push (.fresh (.compStart (.GeneratorExp elt [⟨tg, iter, [], 0⟩] scope gpos) 0 (.ref it) .none (genEnv scope [] h3.objs.size code builtinsNs X.env))), toks := tk + 1 + 1 + 1, heap := h'.push { cls := .type "generator", data := .fields #[.int s2.gens.size 0, .str "<genexpr>" (tk + 1), .str (X.env.qual ++ "<genexpr>") (tk + 1 + 1)] } } : Shared).setGen s2.gens.size .running) I5 rfl rfl (bare_set I5.bare rfl)
      exact loop _ _ _ _ I6 (T.keep _ _ _ st3 fun b _ o e => keep5 b o e) fr3 w0
  cases hf : codeAmong gpos ps.toList with
  | none =>
    refine wpAny_genexprCodeX hcode (cd.code hPs ht) (cd.tab hPs) hf fun c' h' tk hx hge hlt hco' _ htab' _ => ?_
    obtain ⟨o1, vs, f1, tf, fl, tg, inF, tx, tt, op, _, _, _, _, _, _, _, _, _, htr, _⟩ := hco'
    exact cont _ h' tk _ hx (Nat.le_trans hge (Nat.le_of_lt hlt)) htab'.2 htr
  | some cv =>
    refine wpAny_genexprCode_hit hcode (cd.code hPs ht) hf ?_
    exact cont cv s2.heap s2.toks #[] (Heap.ExtBut.refl _ _) (Nat.le_refl _) (by simpa using hPs) (by simpa using ht)
end
/-! ### the turns, over a walk -/
theorem all_it {J : It} {n : Nat} {G : Hp → Prop} {Y : Nat → Hp → V → Hp → Prop} (wk : Walk J n G Y) {g : TG} {te : TE} {k : Nat} {Q : VK} {H2 : Hp} (Pv : Nat → Hp → Prop) (h0 : Pv 0 H2) (hG : ∀ i H, i ≤ n → Pv i H → G H)
    (hs : ∀ i x H H', i < n → Pv i H → Y i H x H' → g x (List.replicate k none) H' fun σ2 H2 => te σ2 H2 fun v H3 => ∃ b, v = .bl b ∧ if b = true then Pv (i + 1) H3 else Q (.bl false) H3) (hd : ∀ H, Pv n H → Q (.bl true) H) :
    ∃ W : Nat → Nat → Hp → Prop, (∃ m, W 0 m H2) ∧ GTurn J g te k Q W := by
  refine ⟨fun i m H => m = n - i ∧ i ≤ n ∧ Pv i H, ⟨n, by simp, Nat.zero_le _, h0⟩, fun i m H hw => ?_⟩
  obtain ⟨rfl, hi, p⟩ := hw
  by_cases hlt : i < n
  · exact .inr ⟨wk.goes i H hlt (hG i H hi p), Pv (i + 1), fun H' p' => ⟨n - (i + 1), by omega, rfl, hlt, p'⟩, fun x H' y => hs i x H H' hlt p (wk.yields i H x H' hlt (hG i H hi p) y)⟩
  · obtain rfl : i = n := by omega
    exact .inl ⟨wk.stops H (hG i H hi p), hd H p⟩
end GxA
set_option maxHeartbeats 4000000
namespace HM
open PySem PySem.Spec PyProof.Rows L2

/-! ### a promise of a def that is called where no repr is under way -/
structure FnG (P : Program) (w : World) (K : PySem.W.Frag) (mg : Str → Option Value) (base : Heap) (CX : CXT) (k : Nat) (f : Addr) (fd : FuncData) (ps : List Str) (sp : Sp) : Prop where
  len : ∀ vs H Q E, sp vs H Q E → vs.length = ps.length
  run : ∀ (A : Around) (outer : List Env) (s : Shared) (H : Hp) (args : Args) (us : List Value) (vs : List V) (Q : VK) (E : XK), Room k A → A.guards = some [] → Env0 P w K mg base A outer s H → BindsTo s fd args (ps.zip us) → Vals vs us →
    sp vs H Q E → codeAny (model P w) A (.call (.ref f) args) (CR CX outer P w H s Q E) s
section
variable {P : Program} {w : World} {K : PySem.W.Frag} {mg : Str → Option Value} {base : Heap} {CX : CXT} {k : Nat} {f : Addr} {fd : FuncData} {ps : List Str} {sp : Sp}
theorem FnG.of (F : FnOk P w K mg base CX k f fd ps sp) : FnG P w K mg base CX k f fd ps sp := ⟨F.len, fun A o s H a us vs Q E hr _ => F.run A o s H a us vs Q E hr⟩
theorem FnG.mono {j : Nat} (F : FnG P w K mg base CX k f fd ps sp) (h : k ≤ j) : FnG P w K mg base CX j f fd ps sp := ⟨F.len, fun A o s H a us vs Q E hr => F.run A o s H a us vs Q E (hr.mono h)⟩
variable {x qual : Str} {params : Arguments} {body : List Stmt} {scope : Scope} {dvs : List V} {kws : List (Str × V)} {N : List Str}
/-- the def's code object, by its place -/
def CodeAt (K : PySem.W.Frag) (f : Addr) (cdv : Value) : Prop := ∀ p, f = He.fAd K p → cdv = .ref (He.codeOf K p)
theorem codeAt_of {oc : Value} {od : Option Addr} {osl : Array (Option Value)} (lk : K.lookup f = some ⟨oc, od, .func fd, osl⟩) (hc : PySem.W.codeIn K fd.code qual = true) : CodeAt K f fd.code := fun p e => by
  obtain ⟨c, hc⟩ := He.codeIn_ref hc
  rw [e] at lk
  rw [He.codeOf_eq lk hc]
  exact hc
/-- a def by its body, the code object told -/
theorem ok_code (F : FunD K x qual params body scope dvs kws f fd) (S : FnScope N ps scope) (len : ∀ vs H Q E, sp vs H Q E → vs.length = ps.length)
    (hbody : ∀ (cdv : Value) (A : Around) (outer : List Env) (s : Shared) (H : Hp) (vs : List V) (Q : VK) (E : XK), CodeAt K f cdv → Room k (A.deeper (envOfC qual scope s.heap.objs.size f cdv)) → sp vs H Q E →
      ∃ t, PSs (cxOf CX0 P w K mg base N qual scope f cdv A outer s H E).nox body t ∧ t { nx := fun _ H' => Q .non H', rt := Q } (start N vs) H) : FnOk P w K mg base CX0 (k + 1) f fd ps sp := by
  obtain ⟨oc, od, dV, kV, doc, pm, an, cdv, ct, osl, rfl, lk, hcd, _, _⟩ := F.ex
  refine fn_of lk hcd S len fun A outer s H vs Q E hr hsp => ?_
  obtain ⟨t, h, q⟩ := hbody cdv A outer s H vs Q E (codeAt_of lk hcd) hr hsp
  exact ⟨t, h.nox, q⟩
theorem okG (F : FunD K x qual params body scope dvs kws f fd) (S : FnScope N ps scope) (len : ∀ vs H Q E, sp vs H Q E → vs.length = ps.length)
    (hbody : ∀ (cdv : Value) (A : Around) (outer : List Env) (s : Shared) (H : Hp) (vs : List V) (Q : VK) (E : XK), CodeAt K f cdv → Room k (A.deeper (envOfC qual scope s.heap.objs.size f cdv)) → (A.deeper (envOfC qual scope s.heap.objs.size f cdv)).guards = some [] → sp vs H Q E →
      ∃ t, PSs (cxOf CX P w K mg base N qual scope f cdv A outer s H E) body t ∧ t { nx := fun _ H' => Q .non H', rt := Q } (start N vs) H) : FnG P w K mg base CX (k + 1) f fd ps sp := by
  obtain ⟨oc, od, dV, kV, doc, pm, an, cdv, ct, osl, rfl, lk, hcd, _, _⟩ := F.ex
  refine ⟨len, fun A outer s H args us vs Q E hr hgd e0 hb r hsp => ?_⟩
  have hK : K.In s.heap := e0.mod.kin.keeps fun b o e => (e0.bs b o e).1
  have hL : s.heap.NoLimit := e0.mod.nolimit.keeps fun b o e => (e0.bs b o e).1
  refine codeAny_call_function hr.depth (hK _ _ lk) rfl S.co S.gen rfl (PySem.W.codeRec_of hK hcd) (hb _ _ _ _ ?_)
  refine wpAny_newFunctionEnv_cells S.kind (fun ⟨n, v⟩ hy => (S.par n (List.of_mem_zip hy).1).elim .inl fun q => .inr ⟨q, PySem.W.cellsFrom_some _ _ _ (.inl q)⟩) fun env he s1 hx => ?_
  subst he
  refine ⟨hL.keeps hx.toInCall.keep, codeAny_func ?_⟩
  obtain ⟨t, ht, hq⟩ := hbody cdv A outer s H vs Q E (codeAt_of lk hcd) (hr.deeper _) (by first | exact hgd | (rw [← hgd]; rfl)) hsp
  refine wpAny_mono (ht.run [] s1 (start N vs) H _ (inv_start S hr.hd e0 (len _ _ _ _ hsp) r hx) hq) (fun fl s' hs => ?_) fun e s' hs => hs
  have fin : ∀ {σ' : L2.St} {H' : Hp} {v : V} {u : Value}, Inv (cxOf CX P w K mg base N qual scope f cdv A outer s H E) [] σ' H' s' → RelV v u → Q v H' → CE outer P w H s Q u s' := fun {_ H' v _} J rv q => ⟨v, H', J.os, J.bare, J.base, J.hok, rv, q⟩
  match fl, hs with
  | .ret u, ⟨v, σ', H', J, rv, q⟩ => exact fin J rv q
  | .next, ⟨σ', H', J, q⟩ => exact fin (v := V.non) (u := Value.none) J rfl q
  | .brk, ⟨_, _, _, q⟩ => exact q.elim
  | .cont, ⟨_, _, _, q⟩ => exact q.elim
end
section
variable {X : Cx} {CX : CXT} {k : Nat} {f : Addr} {fd : FuncData} {ps : List Str} {sp : Sp} {dvs : List V} {ds : List Value} {E : XK} {x : Str} {p pos : Pos} {e : Expr} {es : List Expr} {t : TA}
theorem run_G {pins : List (Addr × Obj)} {σ : L2.St} {H : Hp} {s : Shared} {Q : VK} {us : List Value} {vs : List V} (F : FnG X.prog X.w X.K X.mg X.base CX k f fd ps sp) (hr : Room k X.A) (hg : X.A.guards = some []) (hb : Binds X.K fd ps ds) (hd : Vals dvs ds) (hx : Passes CX X E)
    (I : Inv X pins σ H s) (r : Vals vs us) (h : sp (vs ++ dvs) H Q E) : wpAny (model X.prog X.w) X.A (call (.ref f) us) (EP X pins σ Q) X.xe s := by
  have r2 : Vals (vs ++ dvs) (us ++ ds) := r.append hd
  refine wpAny_call (codeAny_mono (F.run X.A X.stack s H ⟨us, []⟩ (us ++ ds) (vs ++ dvs) Q E hr hg I.env0 (hb s us I.kIn (by rw [← r2.length]; exact F.len _ _ _ _ h)) r2 h) fun r s' hq => ?_)
  match r, hq with
  | .error e, hq => exact hx pins σ H s e s' I hq
  | .ok (.ret u), hq => exact I.after hq
theorem pe_callG (F : FnG X.prog X.w X.K X.mg X.base CX k f fd ps sp) (hr : Room k X.A) (hgd : X.A.guards = some []) (hg : Gl X x) (hm : X.mg x = some (.ref f)) (hk : PySem.W.keepIn X.K (.ref f) = true) (hb : Binds X.K fd ps ds) (hd : Vals dvs ds) (hx : Passes CX X E)
    (ha : PA X (e :: es) t) (hdb : (x == ("__debug__" : Str)) = false := by decide) (he : starEach (e :: es) X.env = (false, eval e X.env) :: starEach es X.env := by rfl) (hpl : (backTo pos (starEach es X.env)).any (·.1) = false := by rfl) :
    PE X (.Call (.Name x p) (e :: es) [] pos) (tCall sp dvs E t) :=
  ⟨fun pins s σ H Q I h => wpAny_Call_Name_kw (ld_glob I hg hm (PySem.W.callWith_K (h₀ := X.base) I.ok.mod.kin hk (thn (ha.run pos pins s σ H _ I h) fun us s1 ⟨vs, H1, I1, r, q⟩ => ⟨I1.kIn, run_G F hr hgd hb hd hx I1 r q⟩) he hpl) hdb)⟩
theorem pe_callG0 (F : FnG X.prog X.w X.K X.mg X.base CX k f fd ps sp) (hr : Room k X.A) (hgd : X.A.guards = some []) (hg : Gl X x) (hm : X.mg x = some (.ref f)) (hk : PySem.W.keepIn X.K (.ref f) = true) (hb : Binds X.K fd ps ds) (hd : Vals dvs ds) (hx : Passes CX X E)
    (hdb : (x == ("__debug__" : Str)) = false := by decide) : PE X (.Call (.Name x p) [] [] pos) (tCall sp dvs E tNil) :=
  ⟨fun pins s σ H Q I h => wpAny_Call_Name_kw (ld_glob I hg hm (PySem.W.callWith_K0 I.kIn hk (run_G (us := []) F hr hgd hb hd hx I .nil h)) hdb)⟩
end

/-! ### the law's own call, by a promise that asks that no repr is under way -/
section
variable {P : Program} {w : World} {K : PySem.W.Frag} {mg mb : Str → Option Value} {CX : CXT} {k : Nat} {fa a : Addr} {cs : List (Addr × Addr)} {fd : FuncData} {x : Str} {sp : Sp} {s₁ : Shared} {vs : List Value} {ns : List Int}
abbrev emptyT : Obj := { cls := .none, data := .fields #[] }
abbrev scriptO (vs : List Value) : Obj := { cls := .type "list", data := .seq vs.toArray }
open Classical in
/-- what is tracked when the law is called: the tables and the script -/
noncomputable def H0 (K : PySem.W.Frag) (cs : List (Addr × Addr)) (a : Addr) (vs : List Value) (ns : List Int) : Hp := fun b =>
  if b ∈ cs.map (·.2) then some (.tbl #[]) else if b = a ∧ K.lookup a = none then some (.frz (scriptO vs) (.lst (ns.map V.int))) else none
theorem H0_tab {b : Addr} (h : b ∈ cs.map (·.2)) : H0 K cs a vs ns b = some (.tbl #[]) := if_pos h
theorem H0_script (h : a ∉ cs.map (·.2)) (hk : K.lookup a = none) : H0 K cs a vs ns a = some (.frz (scriptO vs) (.lst (ns.map V.int))) := (if_neg h).trans (if_pos ⟨rfl, hk⟩)
theorem H0_some {b : Addr} {u : HO} (h : H0 K cs a vs ns b = some u) : (b ∈ cs.map (·.2) ∧ u = .tbl #[]) ∨ (b = a ∧ K.lookup a = none ∧ u = .frz (scriptO vs) (.lst (ns.map V.int))) := by
  by_cases h1 : b ∈ cs.map (·.2)
  · rw [H0_tab h1] at h
    exact .inl ⟨h1, (Option.some.inj h).symm⟩
  · by_cases h2 : b = a ∧ K.lookup a = none
    · have e : H0 K cs a vs ns b = some (.frz (scriptO vs) (.lst (ns.map V.int))) := (if_neg h1).trans (if_pos h2)
      rw [e] at h
      exact .inr ⟨h2.1, h2.2, (Option.some.inj h).symm⟩
    · have e : H0 K cs a vs ns b = none := (if_neg h1).trans (if_neg h2)
      rw [e] at h
      cases h
theorem law_callG (KX : K.In s₁.heap) (hns : s₁.heap.Ns mainGlobals mg) (hb : s₁.heap.Ns builtinsNs mb) (hbb : ∀ x : Str, x ≠ "__name__" → mb x = bootBuiltins x) (hlim : s₁.heap.NoLimit) (hg : s₁.gens = #[])
    (hT : ∀ p ∈ cs, s₁.heap.get? p.2 = some emptyT) (nT : ∀ p ∈ cs, K.lookup p.2 = none) (C : ∀ p ∈ cs, PySem.W.CodeHd s₁.heap p.1 p.2)
    (hbm : ∃ (bm : Addr) (ob : Obj), mg "__builtins__" = some (.ref bm) ∧ bm ≠ builtinsNs ∧ s₁.heap.get? bm = some ob ∧ ob.cls = .type "module" ∧ ob.dict = some builtinsNs ∧ ob.data = .plain)
    (ha : s₁.heap.get? a = some (scriptO vs)) (hi : IntsAre vs ns) (hl : ns.length ≤ sizeLine) (hr : Room k callerA)
    (F : ∀ base : Heap, K.In base → base.Ns mainGlobals mg → (∀ p ∈ cs, GxR.TabB base mg p.1 p.2) → FnG P w K mg base CX k fa fd [x] sp) (hbind : ∀ (s : Shared) (u : Value), BindsTo s fd ⟨[u], []⟩ [(x, u)])
    (hsp : ∀ H : Hp, (∀ p ∈ cs, H p.2 = some (.tbl #[])) → SqL K H a (ns.map V.int) → sp [.ref a] H (fun v _ => v = .bl true) fun _ _ _ => False)
    (hCX : ∀ H e s', CX [] H s₁ (fun _ _ _ => False) e s' → False) :
    codeAny (model P w) callerA (.call (.ref fa) ⟨[.ref a], []⟩) (fun r s' => r = .ok (.ret (.bool true)) ∧ OldK s₁.heap s'.heap ∧ s'.os = s₁.os ∧ AllBare s'.gens) s₁ := by
  have tabO : ∀ b ∈ cs.map (·.2), s₁.heap.get? b = some emptyT := fun b hb => by
    obtain ⟨p, hp, rfl⟩ := List.mem_map.mp hb
    exact hT p hp
  have aT : a ∉ cs.map (·.2) := fun z => by
    have q := (tabO a z).symm.trans ha
    cases q
  have rv := vals_ints hi
  have hlen : vs.length = ns.length := hi.length
  have sq : SqL K (H0 K cs a vs ns) a (ns.map V.int) := by
    cases q : K.lookup a with
    | none => exact .inl (.inr ⟨_, H0_script aT q⟩)
    | some o =>
      have e := (KX a o q).symm.trans ha
      cases e
      refine .inr ⟨_, vs.toArray, _, q, rfl, rfl, rfl, ?_, by simpa using rv⟩
      rw [List.size_toArray, hlen]
      exact hl
  have ok : HOk P w (H0 K cs a vs ns) s₁.heap := fun b u e => by
    rcases H0_some e with ⟨h1, rfl⟩ | ⟨rfl, _, rfl⟩
    · exact tabO b h1
    · exact ⟨ha, by rw [List.length_map]; exact hl, vs, _, rv, ha⟩
  -- what is neither a list nor an empty table is not tracked
  have free : ∀ {b : Addr} {o : Obj}, s₁.heap.get? b = some o → (∀ q n, o.data ≠ .seq q n) → o.data ≠ .fields #[] → H0 K cs a vs ns b = none := fun {b o} e h1 h2 => by
    cases q : H0 K cs a vs ns b with
    | none => rfl
    | some u =>
      rcases H0_some q with ⟨z, _⟩ | ⟨z, _⟩
      · rw [tabO b z] at e
        cases e
        exact absurd rfl h2
      · rw [z, ha] at e
        cases e
        exact absurd rfl (h1 _ _)
  have dict : ∀ {b : Addr} {o : Obj} {es : Array DictEntry} {ep : Nat}, s₁.heap.get? b = some o → o.data = .dict es ep → H0 K cs a vs ns b = none := fun {b o es ep} e d => free e (fun q n z => by rw [d] at z; cases z) fun z => by rw [d] at z; cases z
  have nsK : ∀ {b : Addr} {m : Str → Option Value}, s₁.heap.Ns b m → (hidT s₁.heap (H0 K cs a vs ns)).Ns b m := fun {b m} ⟨o, es, ep, e, d, r⟩ => ⟨o, es, ep, hidT_get e (dict e d), d, r⟩
  have kin : K.In (hidT s₁.heap (H0 K cs a vs ns)) := fun b o e => hidT_get (KX b o e) (by
    cases q : H0 K cs a vs ns b with
    | none => rfl
    | some u =>
      rcases H0_some q with ⟨z, _⟩ | ⟨rfl, z, _⟩
      · obtain ⟨p, hp, rfl⟩ := List.mem_map.mp z
        rw [nT p hp] at e
        cases e
      · rw [z] at e
        cases e)
  have mod : L2.Mod K mg (hidT s₁.heap (H0 K cs a vs ns)) := by
    obtain ⟨mc, l1, l2⟩ := hlim
    exact ⟨kin, nsK hns, ⟨mb, nsK hb, hbb⟩, mc, nsK l1, l2⟩
  have tb : ∀ p ∈ cs, GxR.TabB (hidT s₁.heap (H0 K cs a vs ns)) mg p.1 p.2 := fun p hp => by
    obtain ⟨og, eg, pg, g1, g2, _⟩ := hns
    obtain ⟨bm, ob, b1, b2, b3, b4, b5, b6⟩ := hbm
    obtain ⟨oc, us, file, tf, fl, tg, inF, tx, tt, c1, c2, c3, c4, c5, c6, c7, c8, c9, c10⟩ := C p hp
    have keepB : H0 K cs a vs ns bm = none := free b3 (fun q n z => by rw [b6] at z; cases z) fun z => by rw [b6] at z; cases z
    have keepC : H0 K cs a vs ns p.1 = none := free c1 (fun q n z => by rw [c3] at z; cases z) fun z => by
      rw [c3] at z
      cases z
      simp at c4
    refine ⟨⟨oc, us, file, tf, fl, tg, inF, tx, tt, hidT_get c1 keepC, c2, c3, c4, c5, c6, c7, c8, c9, c10⟩, ⟨bm, ob, b1, b2, fun z => ?_, fun z => ?_, hidT_get b3 keepB, b4, b5, b6⟩, fun z => ?_⟩
    · rw [z, g1] at b3
      cases b3
      rw [g2] at b6
      cases b6
    · rw [z, hT p hp] at b3
      cases b3
      cases b6
    · rw [z, hT p hp] at g1
      cases g1
      cases g2
  have e0 : Env0 P w K mg (hidT s₁.heap (H0 K cs a vs ns)) callerA [] s₁ (H0 K cs a vs ns) :=
    ⟨rfl, mod, fun b o e => of_hidT e, Nat.le_of_eq (hidT_size _ _), trivial, fun b hb => absurd (show b ∈ ([] : List Addr) from hb) (by simp), ok, .of_eq hg⟩
  refine codeAny_mono ((F _ kin (nsK hns) tb).run callerA [] s₁ (H0 K cs a vs ns) ⟨[.ref a], []⟩ [.ref a] [.ref a] _ _ hr rfl e0 (hbind s₁ (.ref a)) (.cons rfl .nil) (hsp _ (fun p hp => H0_tab (List.mem_map.mpr ⟨p, hp, rfl⟩)) sq)) fun r s' h => ?_
  match r, h with
  | .error e, h => exact (hCX _ e s' h).elim
  | .ok (.ret u), ⟨v, H', os, bare, un, ok', rr, q⟩ =>
    obtain rfl : v = .bl true := q
    obtain rfl : u = Value.bool true := rr
    have same : ∀ b o, b ∉ cs.map (·.2) → s₁.heap.get? b = some o → s'.heap.get? b = some o := fun b o nb e => by
      cases q : H0 K cs a vs ns b with
      | none => exact un.keep b o e q (by intro z; exact absurd (show b ∈ ([] : List Addr) from z) (by simp)) (by simp)
      | some u =>
        rcases H0_some q with ⟨z, _⟩ | ⟨rfl, _, rfl⟩
        · exact absurd z nb
        · obtain ⟨e1, _⟩ := ok' _ _ (un.frzs _ _ _ q)
          rw [ha] at e
          cases e
          exact e1
    have grown : ∀ p ∈ cs, ∃ more : Array Value, s'.heap.get? p.2 = some { cls := .none, data := .fields more } := fun p hp => by
      obtain ⟨more, z⟩ := un.tbls p.2 #[] (H0_tab (List.mem_map.mpr ⟨p, hp, rfl⟩))
      exact ⟨_, ok' p.2 _ z⟩
    refine ⟨rfl, ⟨fun b o e => ?_, fun b o e => ?_⟩, os, bare⟩
    · by_cases hb : b ∈ cs.map (·.2)
      · obtain ⟨p, hp, rfl⟩ := List.mem_map.mp hb
        obtain ⟨more, hm⟩ := grown p hp
        rw [hT p hp] at e
        cases e
        exact .inr (.inl ⟨((C p hp).tab (hT p hp)).isCodeTable, rfl, #[], more, rfl, by rw [Array.empty_append]; exact hm⟩)
      · exact .inl (same b o hb e)
    · by_cases hb : b ∈ cs.map (·.2)
      · obtain ⟨p, hp, rfl⟩ := List.mem_map.mp hb
        exact (grown p hp).elim fun more hm => ⟨_, hm⟩
      · exact ⟨o, same b o hb e⟩
end
/-- what the head's heap h must tell of the law -/
def LawG (l : PySem.W.OpenLaw) (w : World) (K : PySem.W.Frag) (CX : CXT) (k n : Nat) (x : Str) (mg : Str → Option Value) (fa : Addr) (h : Heap) : Prop :=
  ∃ (fd : FuncData) (cs : List (Addr × Addr)) (sp : Sp), (∀ p ∈ cs, h.get? p.2 = some emptyT) ∧ (∀ p ∈ cs, K.lookup p.2 = none) ∧ (∀ p ∈ cs, PySem.W.CodeHd h p.1 p.2) ∧ (∀ (s : Shared) (u : Value), BindsTo s fd ⟨[u], []⟩ [(x, u)]) ∧
    (∀ (H : Hp) (a : Addr) (ns : List Int), ns.length ≤ n → (∀ z ∈ ns, Builtin.Int.intBits z ≤ 1048576) → (∀ p ∈ cs, H p.2 = some (.tbl #[])) → SqL K H a (ns.map V.int) → sp [.ref a] H (fun v _ => v = .bl true) fun _ _ _ => False) ∧
    ∀ base : Heap, K.In base → base.Ns mainGlobals mg → (∀ p ∈ cs, GxR.TabB base mg p.1 p.2) → FnG l.prog w K mg base CX k fa fd [x] sp
theorem walkG {l : PySem.W.OpenLaw} {n k : Nat} {q : Program} {loose : List Str} {XP : (Str → Option Value) → Heap → Prop} {YP : World → Heap → Prop} {d : DefRec} {CX : World → CXT} {x : Str}
    (hn : l.most = some n) (hn2 : n ≤ sizeLine) (hdf : d.params.defaults = []) (hr : Room k callerA)
    (F : ∀ (w : World) (mg : Str → Option Value) (fa : Addr) (h : Heap), YP w h → h.Ns mainGlobals mg → mg d.name = some (.ref fa) → ∃ K : PySem.W.Frag, K.In h ∧ LawG l w K (CX w) k n x mg fa h)
    (hCX : ∀ (w : World) (H : Hp) (s : Shared) (e : Value) (s' : Shared), CX w [] H s (fun _ _ _ => False) e s' → False) :
    PySem.W.WalkO q loose XP YP l.row.toRowW d [] (fun f vs => PySem.call f vs) := by
  refine Att.attach_callB hn hdf fun w s₀ s₁ mg mb fa o pm cd doc a vs ns G Y ho hd hcd hmg hobj hints hlen hbits hg => ?_
  obtain ⟨K, KX, fd, cs, sp, h1, h2, h3, h4, h5, h6⟩ := F w mg fa _ Y G.T.g hmg
  exact law_callG KX G.T.g G.T.b G.T.builtins G.T.nolimit hg h1 h2 h3 G.T.bmain hobj hints (Nat.le_trans hlen hn2) hr h6 h4 (fun H hH hS => h5 H a ns hlen hbits hH hS) fun H e s' => hCX w H s₁ e s'

/-! ### tables of code objects, in the abstract heap -/
def TabsOk (Ps : List Addr) (H : Hp) : Prop := ∀ P ∈ Ps, GxR.TabG H P
/-- what is no table is as it was -/
def Sm (H H' : Hp) : Prop := ∀ b o, H b = some o → (∀ ps, o ≠ .tbl ps) → H' b = some o
theorem Sm.refl (H : Hp) : Sm H H := fun _ _ e _ => e
theorem Sm.trans {H H1 H2 : Hp} (a : Sm H H1) (b : Sm H1 H2) : Sm H H2 := fun c o e n => b c o (a c o e n) n
theorem Sm.new {H : Hp} {p : Addr} {o : HO} (h : H p = none) : Sm H (upd H p o) := fun b u e _ => by
  rw [upd_ne (ne_of_none e h)]
  exact e
theorem Sm.over {H H1 : Hp} {p : Addr} {o : HO} (a : Sm H H1) (h : H p = none) : Sm H (upd H1 p o) := fun b u e n => by
  rw [upd_ne (ne_of_none e h)]
  exact a b u e n
theorem Sm.lst {H H1 : Hp} {p : Addr} {xs : List V} (a : Sm H H1) (h : H p = some (.lst xs)) : H1 p = some (.lst xs) := a p _ h fun _ z => by cases z
theorem Sm.tup {H H1 : Hp} {p : Addr} {xs : List V} (a : Sm H H1) (h : H p = some (.tup xs)) : H1 p = some (.tup xs) := a p _ h fun _ z => by cases z
theorem Sm.seq {K : PySem.W.Frag} {H H1 : Hp} {p : Addr} {xs : List V} (a : Sm H H1) (h : SqL K H p xs) : SqL K H1 p xs := by
  rcases h with (h | ⟨o, h⟩) | h
  · exact .inl (.inl (a.lst h))
  · exact .inl (.inr ⟨o, a _ _ h fun _ z => by cases z⟩)
  · exact .inr h
theorem TabsOk.new {Ps : List Addr} {H : Hp} {p : Addr} {o : HO} (t : TabsOk Ps H) (h : H p = none) : TabsOk Ps (upd H p o) := fun P hP => by
  obtain ⟨ps, e, k⟩ := t P hP
  exact ⟨ps, by rw [upd_ne (ne_of_none e h)]; exact e, k⟩
theorem TabsOk.ne {Ps : List Addr} {H : Hp} {P p : Addr} {u : HO} (t : TabsOk Ps H) (hP : P ∈ Ps) (e : H p = some u) (n : ∀ ps, u ≠ .tbl ps) : p ≠ P := fun z => by
  obtain ⟨ps, e2, _⟩ := t P hP
  rw [z, e2] at e
  exact n ps (Option.some.inj e).symm
theorem TabsOk.put {Ps : List Addr} {H : Hp} {p : Addr} {o u : HO} (t : TabsOk Ps H) (e : H p = some u) (n : ∀ ps, u ≠ .tbl ps) : TabsOk Ps (upd H p o) := fun P hP => by
  have np := t.ne hP e n
  obtain ⟨ps, e2, k⟩ := t P hP
  exact ⟨ps, by rw [upd_ne (Ne.symm np)]; exact e2, k⟩
theorem TabsOk.tabbed {Ps : List Addr} {H H' : Hp} {P : Addr} (t : TabsOk Ps H) (h : GxR.Tabbed P H H') : TabsOk Ps H' := fun R hR => by
  by_cases e : R = P
  · rw [e]
    exact h.1
  · obtain ⟨ps, e2, k⟩ := t R hR
    exact ⟨ps, by rw [h.2 R e]; exact e2, k⟩
theorem sm_tabbed {H H' : Hp} {P : Addr} (t : GxR.TabG H P) (h : GxR.Tabbed P H H') : Sm H H' := fun b o e n => by
  by_cases z : b = P
  · obtain ⟨ps, e2, _⟩ := t
    rw [z, e2] at e
    exact absurd (Option.some.inj e).symm (n ps)
  · rw [h.2 b z]
    exact e
/-! ### repr of data -/
/-- repr(x), x a list or a tuple of data -/
def rReprD (K : PySem.W.Frag) : List V → Hp → VK → Prop := fun xs H Q => ∃ (a : Addr) (d : PyData), xs = [.ref a] ∧ Dp K H (.ref a) d ∧ d.showable = true ∧ d.hasDict = false ∧ d.depth ≤ 60 ∧ d.shown.length ≤ sizeLine ∧ Q (.str d.shown) H
theorem call_reprD {X : Cx} {k : Nat} (hr : Room k X.A) (hg : X.A.guards = some []) : CallR X (.builtin "repr") (rReprD X.K) := by
  intro pins s σ H xs us Q I r h
  obtain ⟨a, d, rfl, hd, hs, hn, hp, hl, q⟩ := h
  match us, r with
  | [_], .cons r1 .nil =>
    obtain ⟨as, rd⟩ := Dp.reads I d _ _ hd r1
    cases r1
    have := hr.un
    exact repr_of_reads' rd hs (fun z => by rw [hn] at z; cases z) hg (by omega) (fun _ _ e => e) (fun h' u tk kp => ⟨.str d.shown, H, I.kept kp, ⟨u, rfl⟩, q⟩) hl
/-- repr of a truth -/
def rReprB : List V → Hp → VK → Prop := fun xs H Q => ∃ b, xs = [.bl b] ∧ Q (.str (if b then "True" else "False")) H
end HM
set_option maxHeartbeats 1000000
namespace K11
open PySem PyProof.Rows SX
/-! ### the mathematics of names and paths: texts as lists of code points -/
def low (c : Nat) : Bool := decide (97 ≤ c) && decide (c ≤ 122)
def nameL (w : List Nat) : Bool := (decide (1 ≤ w.length) && decide (w.length ≤ 8)) && w.all low
def parts (l : List Nat) : List (List Nat) := TL.spl [46] 0 [] l
def pathL (l : List Nat) : Bool := decide ((parts l).length ≤ 4) && (parts l).all nameL
theorem pre_dot (r : List Nat) : TL.pre [46] (46 :: r) = true := by
  show ((46 :: r).take 1 == [46]) = true
  simp
theorem pre_no {c : Nat} (r : List Nat) (h : c ≠ 46) : TL.pre [46] (c :: r) = false := TL.pre_of_head [] r h
theorem spl_dot (acc r : List Nat) : TL.spl [46] 0 acc (46 :: r) = acc :: TL.spl [46] 0 [] r := TL.spl_hit (pre_dot r)
theorem spl_no (acc r : List Nat) {c : Nat} (h : c ≠ 46) : TL.spl [46] 0 acc (c :: r) = TL.spl [46] 0 (acc ++ [c]) r := TL.spl_miss (pre_no r h)
theorem spl_nil' (acc : List Nat) : TL.spl [46] 0 acc [] = [acc] := TL.spl_nil [46] 0 acc
theorem spl_ne (l : List Nat) : ∀ acc, TL.spl [46] 0 acc l ≠ [] := by
  induction l with
  | nil =>
    intro acc
    rw [spl_nil']
    exact List.cons_ne_nil _ _
  | cons c r ih =>
    intro acc
    by_cases h : c = 46
    · subst h
      rw [spl_dot]
      exact List.cons_ne_nil _ _
    · rw [spl_no acc r h]
      exact ih _
theorem spl_snoc_dot (l : List Nat) : ∀ acc, TL.spl [46] 0 acc (l ++ [46]) = TL.spl [46] 0 acc l ++ [[]] := by
  induction l with
  | nil =>
    intro acc
    show TL.spl [46] 0 acc [46] = _
    rw [spl_dot, spl_nil', spl_nil']
    rfl
  | cons c r ih =>
    intro acc
    by_cases h : c = 46
    · subst h
      show TL.spl [46] 0 acc (46 :: (r ++ [46])) = _
      rw [spl_dot, spl_dot, ih]
      rfl
    · show TL.spl [46] 0 acc (c :: (r ++ [46])) = _
      rw [spl_no _ _ h, spl_no _ _ h, ih]
theorem spl_snoc {c : Nat} (hc : c ≠ 46) (l : List Nat) : ∀ acc i w, TL.spl [46] 0 acc l = i ++ [w] → TL.spl [46] 0 acc (l ++ [c]) = i ++ [w ++ [c]] := by
  induction l with
  | nil =>
    intro acc i w e
    rw [spl_nil'] at e
    show TL.spl [46] 0 acc [c] = _
    rw [spl_no _ _ hc, spl_nil']
    have e2 : [] ++ [acc] = i ++ [w] := e
    obtain ⟨e3, e4⟩ := List.append_inj' e2 rfl
    subst e3
    rw [List.cons.inj e4 |>.1]
    rfl
  | cons d r ih =>
    intro acc i w e
    by_cases h : d = 46
    · subst h
      show TL.spl [46] 0 acc (46 :: (r ++ [c])) = _
      rw [spl_dot] at e ⊢
      cases i with
      | nil =>
        have e2 := (List.cons.inj e).2
        exact absurd e2 (spl_ne r [])
      | cons a i =>
        obtain ⟨e2, e3⟩ := List.cons.inj e
        rw [ih [] i w e3, e2]
        rfl
    · show TL.spl [46] 0 acc (d :: (r ++ [c])) = _
      rw [spl_no _ _ h] at e ⊢
      exact ih _ i w e
theorem joinL_cons (S p : List Nat) {l : List (List Nat)} (h : l ≠ []) : TL.joinL S (p :: l) = p ++ (S ++ TL.joinL S l) := by
  cases l with
  | nil => exact absurd rfl h
  | cons q r => rfl
theorem joinL_snoc (S y : List Nat) : ∀ {l : List (List Nat)}, l ≠ [] → TL.joinL S (l ++ [y]) = TL.joinL S l ++ S ++ y
  | [], h => absurd rfl h
  | [p], _ => by
    show p ++ (S ++ y) = p ++ S ++ y
    rw [List.append_assoc]
  | p :: q :: r, _ => by
    show TL.joinL S (p :: ((q :: r) ++ [y])) = _
    rw [joinL_cons S p (by simp), joinL_cons S p (List.cons_ne_nil q r), joinL_snoc S y (List.cons_ne_nil q r)]
    simp [List.append_assoc]
theorem join_spl (l : List Nat) : ∀ acc, TL.joinL [46] (TL.spl [46] 0 acc l) = acc ++ l := by
  induction l with
  | nil =>
    intro acc
    rw [spl_nil']
    simp [TL.joinL]
  | cons c r ih =>
    intro acc
    by_cases h : c = 46
    · subst h
      rw [spl_dot, joinL_cons _ _ (spl_ne r []), ih]
      simp
    · rw [spl_no _ _ h, ih]
      simp
theorem join_parts (l : List Nat) : TL.joinL [46] (parts l) = l := join_spl l []
theorem parts_ne (l : List Nat) : parts l ≠ [] := spl_ne l []
theorem spl_nodot (l : List Nat) (h : 46 ∉ l) : ∀ acc, TL.spl [46] 0 acc l = [acc ++ l] := by
  induction l with
  | nil =>
    intro acc
    rw [spl_nil', List.append_nil]
  | cons c r ih =>
    intro acc
    have hc : c ≠ 46 := fun e => h (by rw [e]; exact List.mem_cons_self)
    rw [spl_no _ _ hc, ih (fun z => h (List.mem_cons_of_mem _ z))]
    simp
theorem spl_dot_len (l : List Nat) (h : 46 ∈ l) : ∀ acc, 2 ≤ (TL.spl [46] 0 acc l).length := by
  induction l with
  | nil => cases h
  | cons c r ih =>
    intro acc
    by_cases hc : c = 46
    · subst hc
      rw [spl_dot, List.length_cons]
      have := List.length_pos_iff.mpr (spl_ne r [])
      omega
    · rw [spl_no _ _ hc]
      refine ih ?_ _
      rcases List.mem_cons.mp h with z | z
      · exact absurd z.symm hc
      · exact z
theorem low_dot : low 46 = false := by decide
/-- a name is a path of one part -/
theorem name_one (l : List Nat) : nameL l = (decide ((parts l).length = 1) && (parts l).all nameL) := by
  by_cases h : 46 ∈ l
  · have h1 : nameL l = false := by
      unfold nameL
      have : l.all low = false := by
        rw [List.all_eq_false]
        exact ⟨46, h, by rw [low_dot]; exact Bool.false_ne_true⟩
      rw [this, Bool.and_false]
    have h2 := spl_dot_len l h []
    have h3 : decide ((parts l).length = 1) = false := decide_eq_false (by unfold parts; omega)
    rw [h1, h3, Bool.false_and]
  · have e : parts l = [l] := spl_nodot l h []
    rw [e]
    simp
/-- the beginnings of a list of words -/
def begs (ws : List (List Nat)) : List (List Nat) := (List.range ws.length).map fun i => TL.joinL [46] (ws.take (i + 1))
theorem begs_len (ws : List (List Nat)) : (begs ws).length = ws.length := by
  unfold begs
  rw [List.length_map, List.length_range]
theorem begs_get {ws : List (List Nat)} {i : Nat} (h : i < ws.length) : (begs ws)[i]? = some (TL.joinL [46] (ws.take (i + 1))) := by
  unfold begs
  rw [List.getElem?_map, List.getElem?_range h]
  rfl
theorem take_snoc {α : Type} {xs : List α} {i : Nat} {x : α} (h : xs[i]? = some x) : xs.take (i + 1) = xs.take i ++ [x] := by
  rw [List.take_add_one, h]
  rfl
theorem begs_step {ws : List (List Nat)} {i : Nat} {y : List Nat} (h : ws[i + 1]? = some y) : TL.joinL [46] (ws.take (i + 1)) ++ [46] ++ y = TL.joinL [46] (ws.take (i + 1 + 1)) := by
  have hi := (List.getElem?_eq_some_iff.mp h).1
  rw [take_snoc h, joinL_snoc]
  intro e
  have := congrArg List.length e
  rw [List.length_take, List.length_nil] at this
  omega
/-! ### signs of the alphabet -/
abbrev abc0 : List Nat := [97, 98, 99, 100, 101, 102, 103, 104, 105, 106, 107, 108, 109, 110, 111, 112, 113, 114, 115, 116, 117, 118, 119, 120, 121, 122]
theorem cnt_abc (c : Nat) : cnt c abc0 = if low c = true then 1 else 0 := by
  simp only [cnt_cons, cnt_nil]
  by_cases h : low c = true
  · rw [if_pos h]
    unfold low at h
    obtain ⟨h1, h2⟩ := Bool.and_eq_true_iff.mp h
    have a1 := of_decide_eq_true h1
    have a2 := of_decide_eq_true h2
    obtain ⟨k, hk, rfl⟩ : ∃ k, k < 26 ∧ c = 97 + k := ⟨c - 97, by omega, by omega⟩
    have : ∀ k, k < 26 → ((if 97 = 97 + k then (1 : Int) else 0) + ((if 98 = 97 + k then 1 else 0) + ((if 99 = 97 + k then 1 else 0) + ((if 100 = 97 + k then 1 else 0) + ((if 101 = 97 + k then 1 else 0) + ((if 102 = 97 + k then 1 else 0) + ((if 103 = 97 + k then 1 else 0) + ((if 104 = 97 + k then 1 else 0) + ((if 105 = 97 + k then 1 else 0) + ((if 106 = 97 + k then 1 else 0) + ((if 107 = 97 + k then 1 else 0) + ((if 108 = 97 + k then 1 else 0) + ((if 109 = 97 + k then 1 else 0) + ((if 110 = 97 + k then 1 else 0) + ((if 111 = 97 + k then 1 else 0) + ((if 112 = 97 + k then 1 else 0) + ((if 113 = 97 + k then 1 else 0) + ((if 114 = 97 + k then 1 else 0) + ((if 115 = 97 + k then 1 else 0) + ((if 116 = 97 + k then 1 else 0) + ((if 117 = 97 + k then 1 else 0) + ((if 118 = 97 + k then 1 else 0) + ((if 119 = 97 + k then 1 else 0) + ((if 120 = 97 + k then 1 else 0) + ((if 121 = 97 + k then 1 else 0) + ((if 122 = 97 + k then 1 else 0) + 0)))))))))))))))))))))))))) = 1 := by decide +kernel
    exact this k hk
  · rw [if_neg h]
    have hc : c < 97 ∨ 122 < c := by
      refine Classical.byContradiction fun z => h ?_
      unfold low
      rw [decide_eq_true (show 97 ≤ c by omega), decide_eq_true (show c ≤ 122 by omega)]
      rfl
    have ne : ∀ k : Nat, 97 ≤ k → k ≤ 122 → (if k = c then (1 : Int) else 0) = 0 := fun k h1 h2 => if_neg (by omega)
    rw [ne 97 (by decide) (by decide), ne 98 (by decide) (by decide), ne 99 (by decide) (by decide), ne 100 (by decide) (by decide), ne 101 (by decide) (by decide), ne 102 (by decide) (by decide), ne 103 (by decide) (by decide), ne 104 (by decide) (by decide), ne 105 (by decide) (by decide), ne 106 (by decide) (by decide), ne 107 (by decide) (by decide), ne 108 (by decide) (by decide), ne 109 (by decide) (by decide), ne 110 (by decide) (by decide), ne 111 (by decide) (by decide), ne 112 (by decide) (by decide), ne 113 (by decide) (by decide), ne 114 (by decide) (by decide), ne 115 (by decide) (by decide), ne 116 (by decide) (by decide), ne 117 (by decide) (by decide), ne 118 (by decide) (by decide), ne 119 (by decide) (by decide), ne 120 (by decide) (by decide), ne 121 (by decide) (by decide), ne 122 (by decide) (by decide)]
    rfl
/-- how many of the signs are small letters -/
def lows (w : List Nat) : Nat := (w.filter low).length
theorem lows_le (w : List Nat) : lows w ≤ w.length := List.length_filter_le _ _
theorem lows_all (w : List Nat) : (lows w = w.length) ↔ w.all low = true := by
  unfold lows
  rw [List.length_filter_eq_length_iff, List.all_eq_true]
/-- the law's word -/
theorem word_name (w : List Nat) : (decide (lows w = w.length) && (decide (0 < lows w) && decide (lows w < 9))) = nameL w := by
  unfold nameL
  by_cases h : w.all low = true
  · have e := (lows_all w).mpr h
    rw [h, e, decide_eq_true rfl]
    by_cases h1 : 1 ≤ w.length
    · by_cases h2 : w.length ≤ 8
      · simp [h1, h2, show 0 < w.length by omega, show w.length < 9 by omega]
      · simp [h2, show ¬ w.length < 9 by omega]
    · simp [h1, show ¬ 0 < w.length by omega]
  · have e : ¬ lows w = w.length := fun z => h ((lows_all w).mp z)
    rw [decide_eq_false e, Bool.eq_false_iff.mpr h, Bool.and_false, Bool.false_and]
/-- one sign between a and z -/
theorem between (c : Nat) : (if (!decide ([c] < [97])) = true then !decide ([122] < [c]) else false) = low c := by
  have l1 : ∀ a b : Nat, decide ([a] < [b]) = decide (a < b) := fun a b => by
    by_cases h : a < b
    · rw [decide_eq_true h, decide_eq_true (show [a] < [b] from List.Lex.rel h)]
    · rw [decide_eq_false h]
      refine decide_eq_false fun z => ?_
      cases z with
      | rel q => exact h q
      | cons q => cases q
  rw [l1, l1]
  unfold low
  by_cases h1 : c < 97 <;> by_cases h2 : 122 < c <;> simp [h1, h2, Nat.not_le] <;> omega
end K11
set_option maxHeartbeats 4000000
namespace XD
open PySem PySem.Spec PyProof.Rows L2 HM SX K11
/-! ### things: what rows are judged over -/
inductive Th where
  | non
  | bl (b : Bool)
  | int (i : Int)
  | str (l : List Nat)
  | tup (ts : List Th)
  | lst
  | dct
mutual
inductive Tt (K : PySem.W.Frag) (H : Hp) : V → Th → Prop
  | non : Tt K H .non .non
  | bl (b : Bool) : Tt K H (.bl b) (.bl b)
  | int (i : Int) : Tt K H (.int i) (.int i)
  | str (l : List Nat) (h : l.length ≤ 900) : Tt K H (.str (S l)) (.str l)
  | tup {a : Addr} {xs : List V} {ts : List Th} : SqT K H a xs → TtAll K H xs ts → Tt K H (.ref a) (.tup ts)
  | lst {a : Addr} {xs : List V} : SqL K H a xs → Tt K H (.ref a) .lst
  | dct {a : Addr} {kvs : List (Key × V)} : H a = some (.dK kvs) → Tt K H (.ref a) .dct
inductive TtAll (K : PySem.W.Frag) (H : Hp) : List V → List Th → Prop
  | nil : TtAll K H [] []
  | cons {v : V} {vs : List V} {t : Th} {ts : List Th} : Tt K H v t → TtAll K H vs ts → TtAll K H (v :: vs) (t :: ts)
end
theorem sqT_sm {K : PySem.W.Frag} {H H' : Hp} {a : Addr} {xs : List V} (s : Sm H H') (h : SqT K H a xs) : SqT K H' a xs := by
  rcases h with (h | ⟨o, h⟩) | h
  · exact .inl (.inl (s.tup h))
  · exact .inl (.inr ⟨o, s _ _ h fun _ z => by cases z⟩)
  · exact .inr h
mutual
theorem Tt.sm {K : PySem.W.Frag} {H H' : Hp} (s : Sm H H') : ∀ {v : V} {t : Th}, Tt K H v t → Tt K H' v t
  | _, _, .non => .non
  | _, _, .bl b => .bl b
  | _, _, .int i => .int i
  | _, _, .str l h => .str l h
  | _, _, .tup h r => .tup (sqT_sm s h) (TtAll.sm s r)
  | _, _, .lst h => .lst (s.seq h)
  | _, _, .dct h => .dct (s _ _ h fun _ z => by cases z)
theorem TtAll.sm {K : PySem.W.Frag} {H H' : Hp} (s : Sm H H') : ∀ {vs : List V} {ts : List Th}, TtAll K H vs ts → TtAll K H' vs ts
  | _, _, .nil => .nil
  | _, _, .cons h r => .cons (Tt.sm s h) (TtAll.sm s r)
end
theorem TtAll.len {K : PySem.W.Frag} {H : Hp} : ∀ {vs : List V} {ts : List Th}, TtAll K H vs ts → vs.length = ts.length
  | _, _, .nil => rfl
  | _, _, .cons h r => by rw [List.length_cons, List.length_cons, TtAll.len r]
theorem TtAll.get {K : PySem.W.Frag} {H : Hp} : ∀ {vs : List V} {ts : List Th} (i : Nat) {v : V}, TtAll K H vs ts → vs[i]? = some v → ∃ t, ts[i]? = some t ∧ Tt K H v t
  | _, _, _, _, .nil, h => by cases h
  | _, _, 0, _, .cons h r, e => by
    cases e
    exact ⟨_, rfl, h⟩
  | _, _, i + 1, _, .cons h r, e => TtAll.get i r e
/-- a thing's type -/
def tyN : Th → String
  | .non => "NoneType"
  | .bl _ => "bool"
  | .int _ => "int"
  | .str _ => "str"
  | .tup _ => "tuple"
  | .lst => "list"
  | .dct => "dict"
theorem Tt.ty {K : PySem.W.Frag} {H : Hp} {v : V} {t : Th} (h : Tt K H v t) : TyX K H v (.type (tyN t)) := by
  cases h with
  | non => exact .base .non
  | bl b => exact .base (.bl b)
  | int i => exact .base (.int i)
  | str l h => exact .base (.str _)
  | tup h r =>
    rcases h with (h | ⟨o, h⟩) | ⟨o, its, n, h1, h2, _⟩
    · exact .base (.tup h)
    · exact .fTuple h
    · exact .kTuple h1 h2
  | lst h =>
    rcases h with (h | ⟨o, h⟩) | ⟨o, its, n, h1, h2, _⟩
    · exact .base (.lst h)
    · exact .base (.frz h)
    · exact .kList h1 h2
  | dct h => exact .base (.dK h)
def isS : Th → Bool | .str _ => true | _ => false
def isT : Th → Bool | .tup _ => true | _ => false
def isI : Th → Bool | .bl _ => true | .int _ => true | _ => false
def isB : Th → Bool | .bl _ => true | _ => false
theorem kS (t : Th) : kitB (tyN t) "str" = some (isS t) := by
  cases t with
  | non => decide +kernel
  | bl b => exact (by decide +kernel : kitB "bool" "str" = some false)
  | int i => exact (by decide +kernel : kitB "int" "str" = some false)
  | str l => exact (by decide +kernel : kitB "str" "str" = some true)
  | tup ts => exact (by decide +kernel : kitB "tuple" "str" = some false)
  | lst => decide +kernel
  | dct => decide +kernel
theorem kT (t : Th) : kitB (tyN t) "tuple" = some (isT t) := by
  cases t with
  | non => decide +kernel
  | bl b => exact (by decide +kernel : kitB "bool" "tuple" = some false)
  | int i => exact (by decide +kernel : kitB "int" "tuple" = some false)
  | str l => exact (by decide +kernel : kitB "str" "tuple" = some false)
  | tup ts => exact (by decide +kernel : kitB "tuple" "tuple" = some true)
  | lst => decide +kernel
  | dct => decide +kernel
theorem kI (t : Th) : kitB (tyN t) "int" = some (isI t) := by
  cases t with
  | non => decide +kernel
  | bl b => exact (by decide +kernel : kitB "bool" "int" = some true)
  | int i => exact (by decide +kernel : kitB "int" "int" = some true)
  | str l => exact (by decide +kernel : kitB "str" "int" = some false)
  | tup ts => exact (by decide +kernel : kitB "tuple" "int" = some false)
  | lst => decide +kernel
  | dct => decide +kernel
theorem kB (t : Th) : kitB (tyN t) "bool" = some (isB t) := by
  cases t with
  | non => decide +kernel
  | bl b => exact (by decide +kernel : kitB "bool" "bool" = some true)
  | int i => exact (by decide +kernel : kitB "int" "bool" = some false)
  | str l => exact (by decide +kernel : kitB "str" "bool" = some false)
  | tup ts => exact (by decide +kernel : kitB "tuple" "bool" = some false)
  | lst => decide +kernel
  | dct => decide +kernel
/-! ### d.get(k), d a written dict with texts for keys -/
def KGet (K : PySem.W.Frag) (w : World) (p : Addr) (z : Str) (o : Option V) : Prop := ∃ es n r, K.lookup p = some ⟨.type "dict", none, .dict es n, #[]⟩ ∧ PySem.W.KeysLit w.params es.toList ∧ (p == sysModules) = false ∧ PySem.W.nsIn K p z = some r ∧ RelO o r
def tKGet (K : PySem.W.Frag) (w : World) (td ty : TE) : TE := fun σ H Q => td σ H fun x H1 => ∃ (p : Addr) (es : Array DictEntry) (n : Nat), x = .ref p ∧ K.lookup p = some ⟨.type "dict", none, .dict es n, #[]⟩ ∧ ty σ H1 fun y H2 => ∃ z o, y = .str z ∧ KGet K w p z o ∧ Q (o.getD .non) H2
section
variable {X : Cx} {o e : Expr} {apos cpos : Pos} {td ty : TE}
theorem pe_kget (ho : PE X o td) (he : PE X e ty) (m : M1 X o "get" apos e cpos) : PE X (.Call (.Attribute o "get" apos) [e] [] cpos) (tKGet X.K X.w td ty) := by
  refine ⟨fun pins s σ H Q I h => ?_⟩
  refine wpAny_Call_method m.base m.few m.line PySem.F.plainAttrs_dict PySem.F.slot_dict_get PySem.F.type_dict_get (thn (ho.run pins s σ H _ I h) fun u s1 ⟨x, H1, I1, rx, p, es, n, ex, hl, q1⟩ => ?_)
  subst ex
  cases rx
  refine ⟨⟨_, I1.kIn _ _ hl, rfl⟩, fun b z => ?_, ?_⟩
  · cases z
    exact ⟨_, I1.kIn _ _ hl, rfl⟩
  rw [m.trees]
  refine Calls.callWith_builtin rfl (Calls.evalArgs_plain (Calls.spliced_cons (thn (he.run pins s1 σ H1 _ I1 q1) fun iv s2 ⟨y, H2, I2, ry, z, ov, ey, g, q2⟩ => Calls.spliced_nil ?_)))
  subst ey
  obtain ⟨t, rfl⟩ := ry
  obtain ⟨es2, n2, r, hl2, hk, hs, hn, hr⟩ := g
  have hm := PySem.W.mapOf_K (prog := X.prog) (w := X.w) I2.kIn hl2 hk
  refine call_meetsIn PySem.F.slot_dict_get hm.typeIs PySem.F.entry_dict_get (PySem.F.args_dict_get_2 _ _) (meets_dict_get (strKind X.prog X.w) p (strKind_is X.prog X.w z t) hs) ⟨_, hm, _, H2, I2.tok _, ?_, q2⟩
  rw [PySem.W.find_K hl2 hn]
  exact hr.getD rfl
end
/-- zip of two tuples -/
theorem walk_zipT {K : PySem.W.Frag} {a b : Addr} {xs ys : List V} {n : Nat} (hn : n = min xs.length ys.length) : Walk (RZ.ItzT K a b) n (fun H => SqT K H a xs ∧ SqT K H b ys) (YPair (fun i => xs[i]?) (fun i => ys[i]?)) := by
  subst hn
  refine ⟨fun i _ hi q => ?_, fun _ q => ⟨xs, ys, q.1, q.2, by omega⟩, fun i H v H' _ q y => ?_⟩
  · have h1 : i < xs.length := by omega
    have h2 : i < ys.length := by omega
    exact ⟨xs, ys, xs[i], ys[i], q.1, q.2, by simp [h1], by simp [h2]⟩
  · obtain ⟨T, x, z, h1, h2, h3, h4, h5⟩ := y
    exact ⟨T, x, z, h1, h2, h3, h4 xs q.1, h5 ys q.2⟩
end XD
set_option maxHeartbeats 4000000
namespace P13
open PySem PySem.Spec PyProof.Rows L2 HM SX K11
def top (i : Nat) : Stmt := PySem.Challenge.pw_halfmade_k13_whole_bodies_written.main.body.getD i (.Pass ⟨0, 0, 0, 0⟩)
abbrev FnP (K : PySem.W.Frag) (x : Str) (st : Stmt) (f : Addr) (fd : FuncData) : Prop := FunD K x x (defArgs st) (defBody st) (defScope st) [] [] f fd
abbrev sName : Stmt := top 6
abbrev sPath : Stmt := top 7
theorem scName : FnScope ["thing"] ["thing"] (defScope sName) := ⟨rfl, rfl, rfl, by decide +kernel, rfl, by decide +kernel, by decide +kernel⟩
theorem scPath : FnScope ["thing", "names"] ["thing"] (defScope sPath) := ⟨rfl, rfl, rfl, by decide +kernel, rfl, by decide +kernel, by decide +kernel⟩
/-- what isinstance tells of a thing that is no text -/
def NoStr (K : PySem.W.Frag) (H : Hp) (x : V) : Prop := ∃ t, TyX K H x t ∧ PySem.W.kitOne K t (.type "str") = some false
section
variable {P : Program} {w : World} {K : PySem.W.Frag} {mg : Str → Option Value} {base : Heap} {f fN fB : Addr} {fd fdN fdB : FuncData}
def spName (K : PySem.W.Frag) (Ps : List Addr) : Sp := fun vs H Q _ => ∃ x, vs = [x] ∧ TabsOk Ps H ∧
  ((∃ l : List Nat, x = .str (S l) ∧ l.length ≤ 1000 ∧ ∀ H', Sm H H' → TabsOk Ps H' → Q (.bl (nameL l)) H') ∨ (NoStr K H x ∧ Q (.bl false) H))
theorem ok_name {Ps : List Addr} (F : FnP K "is_name" sName (He.fAd K ("is_name", none)) fd) (hP : (He.cT K ("is_name", none)).2 ∈ Ps) (TB : GxR.TabB base mg (He.cT K ("is_name", none)).1 (He.cT K ("is_name", none)).2) (mi : mg "isinstance" = none) (ms : mg "str" = none)
    (ml : mg "len" = none) (ma : mg "all" = none) (cL : ∃ t, mg "LETTERS_AT_MOST" = some (.int 8 t)) : FnOk P w K mg base CX0 2 (He.fAd K ("is_name", none)) fd ["thing"] (spName K Ps) := by
  obtain ⟨tL, cL⟩ := cL
  refine ok_code F scName (fun vs H Q E h => ?_) (fun cdv A outer s H vs Q E hcd hr h => ?_)
  · obtain ⟨x, rfl, _⟩ := h
    rfl
  · obtain ⟨x, rfl, hT, h⟩ := h
    have hc : cdv = .ref (He.cT K ("is_name", none)).1 := hcd ("is_name", none) rfl
    refine ⟨_, pss_cons (ps_if (pt_not (pt_val (pe_callB call_isi (by rfl) mi (by decide +kernel) (pa_cons (pv 0) (pa_cons (pe_bltn (v := .ty "str") (by rfl) ms (by decide +kernel) rfl) pa_nil))))) (pss_one (ps_ret pe_bl)) pss_nil)
      (pss_cons (ps_if (pt_not (pt_chain op_le op_le pe_int (pe_callB call_len_str (by rfl) ml PySem.boot_len (pa_cons (pv 0) pa_nil)) (pe_glob (v := .int 8) (by rfl) cL ⟨_, rfl⟩))) (pss_one (ps_ret pe_bl)) pss_nil)
      (pss_one (ps_ret (GxA.pe_allG (N := ["sign"]) (k := 0) hr (by rfl) ma TB hc ⟨rfl, rfl, by decide +kernel, by decide +kernel, rfl⟩ (pi_str (pv 0))
        (fun _ _ _ _ _ e => pg_name (i := 0) (by show (["sign"] : List Str).Nodup; decide) rfl (.inl (by rw [show (GxA.genCx _ _ _ _ _ _ _).env.scope = _ from e]; rfl)) (.inr (by rw [show (GxA.genCx _ _ _ _ _ _ _).env.scope = _ from e]; rfl)))
        (fun _ _ _ _ _ e _ => pe_chain op_le_str op_le_str pe_str (pe_var (i := 0) rfl (.inl (by rw [show (GxA.genCx _ _ _ _ _ _ _).env.scope = _ from e]; rfl))) pe_str) (fun _ => rfl))))), ?_⟩
    rcases h with ⟨l, rfl, hl, q⟩ | ⟨⟨ty, h1, h2⟩, q⟩
    · have hll : (S l).length = l.length := S_len l
      have hs : (S l).length ≤ sizeLine := by
        rw [hll]
        exact Nat.le_of_lt (small1000 hl)
      refine ⟨_, rfl, _, _, _, _, true, rfl, .ty "str", .base (.str _), kit_ty (by decide +kernel), _, rfl, ?_⟩
      refine ⟨_, rfl, _, rfl, hs, _, _, rfl, rfl, _, rfl, ?_⟩
      by_cases h1 : 1 ≤ l.length
      · have e1 : decide ((1 : Int) ≤ ((S l).length : Int)) = true := decide_eq_true (by rw [hll]; omega)
        rw [e1]
        refine ⟨_, _, rfl, rfl, _, rfl, ?_⟩
        by_cases h2 : l.length ≤ 8
        · have e2 : decide (((S l).length : Int) ≤ 8) = true := decide_eq_true (by rw [hll]; omega)
          rw [e2]
          refine ⟨_, rfl, _, rfl, ?_⟩
          have e3 : nameL l = l.all low := by
            unfold nameL
            rw [decide_eq_true h1, decide_eq_true h2, Bool.true_and, Bool.true_and]
          rw [e3] at q
          refine ⟨hT _ hP, fun H2 hTb => GxA.all_it walk_str (fun i H' => H' = H2 ∧ (l.take i).all low = true) ⟨rfl, rfl⟩ (fun _ _ _ _ => trivial) ?_ ?_⟩
          · rintro i x H3 H4 hi ⟨rfl, ha⟩ ⟨rfl, c, hc, rfl⟩
            have hc2 : l[i]? = some c := by
              rw [← hc]
              simp [S]
            have ea : (Str.ofString "a").cps.toList = [97] := by decide +kernel
            have ez : (Str.ofString "z").cps.toList = [122] := by decide +kernel
            have eall : (l.take (i + 1)).all low = low c := by
              rw [take_snoc hc2, List.all_append, ha, Bool.true_and]
              simp
            have hb := between c
            have no : low c = false → Q (.bl false) H4 := fun z => by
              have := q H4 (sm_tabbed (hT _ hP) hTb) (hT.tabbed hTb)
              have e4 : l.all low = false := List.all_eq_false.mpr ⟨c, List.mem_of_getElem? hc2, by rw [z]; exact Bool.false_ne_true⟩
              rw [e4] at this
              exact this
            refine ⟨_, rfl, _, _, rfl, rfl, _, rfl, ?_⟩
            show if (!decide ([c] < (Str.ofString "a").cps.toList)) = true then _ else _
            rw [ea]
            by_cases k1 : (!decide ([c] < [97])) = true
            · rw [if_pos k1] at hb
              rw [if_pos k1]
              refine ⟨_, _, rfl, rfl, _, rfl, ?_⟩
              show if (!decide ((Str.ofString "z").cps.toList < [c])) = true then _ else _
              rw [ez, hb]
              cases hlow : low c with
              | true => exact ⟨rfl, by rw [eall]; exact hlow⟩
              | false => exact no hlow
            · rw [if_neg k1] at hb
              rw [if_neg k1]
              exact ⟨_, rfl, no hb.symm⟩
          · rintro H3 ⟨rfl, ha⟩
            have hsz : (S l).cps.size = l.length := S_len l
            rw [hsz, List.take_length] at ha
            have := q H3 (sm_tabbed (hT _ hP) hTb) (hT.tabbed hTb)
            rw [ha] at this
            exact this
        · have e2 : decide (((S l).length : Int) ≤ 8) = false := decide_eq_false (by rw [hll]; omega)
          rw [e2]
          have e3 : nameL l = false := by
            unfold nameL
            rw [decide_eq_false h2, Bool.and_false, Bool.false_and]
          have := q H (Sm.refl H) hT
          rw [e3] at this
          exact this
      · have e1 : decide ((1 : Int) ≤ ((S l).length : Int)) = false := decide_eq_false (by rw [hll]; omega)
        rw [e1]
        have e3 : nameL l = false := by
          unfold nameL
          rw [decide_eq_false h1, Bool.false_and, Bool.false_and]
        have := q H (Sm.refl H) hT
        rw [e3] at this
        exact ⟨_, rfl, this⟩
    · exact ⟨_, rfl, _, _, _, _, false, rfl, .ty "str", h1, h2, _, rfl, q⟩
theorem dot_S : Str.ofString "." = S [46] := by decide +kernel
theorem split_parts (l : List Nat) : Txt.split (S l) (Str.ofString ".") = (parts l).map S := by
  rw [dot_S]
  exact split_S (List.cons_ne_nil _ _) (by decide)
theorem parts_len_le (l : List Nat) : ∀ acc, (TL.spl [46] 0 acc l).length ≤ l.length + 1 := by
  induction l with
  | nil =>
    intro acc
    rw [spl_nil']
    exact Nat.le_refl _
  | cons c r ih =>
    intro acc
    by_cases h : c = 46
    · subst h
      rw [spl_dot, List.length_cons, List.length_cons]
      have := ih []
      omega
    · rw [spl_no _ _ h, List.length_cons]
      have := ih (acc ++ [c])
      omega
theorem part_len (l : List Nat) : ∀ acc, ∀ q ∈ TL.spl [46] 0 acc l, q.length ≤ acc.length + l.length := by
  induction l with
  | nil =>
    intro acc q hq
    rw [spl_nil'] at hq
    rw [List.mem_singleton.mp hq]
    exact Nat.le_add_right _ _
  | cons c r ih =>
    intro acc q hq
    by_cases h : c = 46
    · subst h
      rw [spl_dot] at hq
      rcases List.mem_cons.mp hq with z | z
      · rw [z]
        exact Nat.le_add_right _ _
      · have := ih [] q z
        rw [List.length_nil] at this
        rw [List.length_cons]
        omega
    · rw [spl_no _ _ h] at hq
      have := ih _ q hq
      rw [List.length_append, List.length_singleton] at this
      rw [List.length_cons]
      omega
def spPath (K : PySem.W.Frag) (Ps : List Addr) : Sp := fun vs H Q _ => ∃ x, vs = [x] ∧ TabsOk Ps H ∧
  ((∃ l : List Nat, x = .str (S l) ∧ l.length ≤ 900 ∧ ∀ H', Sm H H' → TabsOk Ps H' → Q (.bl (pathL l)) H') ∨ (NoStr K H x ∧ Q (.bl false) H))
theorem ok_path {Ps : List Addr} (F : FnP K "is_path" sPath (He.fAd K ("is_path", none)) fd) (hP : (He.cT K ("is_path", none)).2 ∈ Ps) (TB : GxR.TabB base mg (He.cT K ("is_path", none)).1 (He.cT K ("is_path", none)).2)
    (GN : FnOk P w K mg base CX0 2 fN fdN ["thing"] (spName K Ps)) (FN : FnP K "is_name" sName fN fdN) (gN : mg "is_name" = some (.ref fN)) (mi : mg "isinstance" = none) (ms : mg "str" = none)
    (ml : mg "len" = none) (ma : mg "all" = none) (cL : ∃ t, mg "NAMES_AT_MOST" = some (.int 4 t)) : FnOk P w K mg base CX0 4 (He.fAd K ("is_path", none)) fd ["thing"] (spPath K Ps) := by
  obtain ⟨tL, cL⟩ := cL
  have bN : Binds K fdN ["thing"] [] := FN.bindsN fun _ _ _ _ _ _ us hl => match us, hl with | [_], _ => rfl
  refine ok_code F scPath (fun vs H Q E h => ?_) (fun cdv A outer s H vs Q E hcd hr h => ?_)
  · obtain ⟨x, rfl, _⟩ := h
    rfl
  · obtain ⟨x, rfl, hT, h⟩ := h
    have hc : cdv = .ref (He.cT K ("is_path", none)).1 := hcd ("is_path", none) rfl
    refine ⟨_, pss_cons (ps_if (pt_not (pt_val (pe_callB call_isi (by rfl) mi (by decide +kernel) (pa_cons (pv 0) (pa_cons (pe_bltn (v := .ty "str") (by rfl) ms (by decide +kernel) rfl) pa_nil))))) (pss_one (ps_ret pe_bl)) pss_nil)
      (pss_cons (ps_set (i := 1) scPath.nd rfl (.inl rfl) (pe_split (pv 0) pe_str))
      (pss_one (ps_ret (pe_and (pe_cmpR op_le (pe_callB call_len_seq (by rfl) ml PySem.boot_len (pa_cons (pv 1) pa_nil)) (pe_glob (v := .int 4) (by rfl) cL ⟨_, rfl⟩) (nomark _)) (pe_one
        (GxA.pe_allG (N := ["name"]) (k := 2) (te := tCall (spName K Ps) [] E0 (tCons (tVar 0) tNil)) hr (by rfl) ma TB hc ⟨rfl, rfl, by decide +kernel, by decide +kernel, rfl⟩ (pi_list (pv 1))
        (fun _ _ _ _ _ e => pg_name (i := 0) (by show (["name"] : List Str).Nodup; decide) rfl (.inl (by rw [show (GxA.genCx _ _ _ _ _ _ _).env.scope = _ from e]; rfl)) (.inr (by rw [show (GxA.genCx _ _ _ _ _ _ _).env.scope = _ from e]; rfl)))
        (fun _ _ _ _ _ e hrm => pe_call GN hrm (show (GxA.genCx _ _ _ _ _ _ _).env.scope.names.lookup _ = _ by rw [show (GxA.genCx _ _ _ _ _ _ _).env.scope = _ from e]; rfl) gN FN.kp bN .nil pass0
          (pa_cons (pe_var (i := 0) rfl (.inl (by rw [show (GxA.genCx _ _ _ _ _ _ _).env.scope = _ from e]; rfl))) pa_nil)) (fun _ => rfl))))))), ?_⟩
    rcases h with ⟨l, rfl, hl, q⟩ | ⟨⟨ty, h1, h2⟩, q⟩
    · have hll : (S l).length = l.length := S_len l
      refine ⟨_, rfl, _, _, _, _, true, rfl, .ty "str", .base (.str _), kit_ty (by decide +kernel), _, rfl, ?_⟩
      refine ⟨_, rfl, ⟨_, rfl⟩, _, _, rfl, rfl, by decide +kernel, ?_, fun p hp => ?_⟩
      · rw [hll]
        have := small1000 (n := l.length + 2) (by omega)
        omega
      · rw [split_parts]
        have hT1 : TabsOk Ps (upd H p (.lst (((parts l).map S).map V.str))) := hT.new hp
        refine ⟨_, rfl, p, _, rfl, .inl (SqL.of upd_same), _, _, rfl, rfl, _, rfl, ?_⟩
        rw [List.length_map, List.length_map]
        by_cases h4 : (parts l).length ≤ 4
        · have e4 : decide (((parts l).length : Int) ≤ 4) = true := decide_eq_true (by omega)
          have e5 : pathL l = (parts l).all nameL := by
            unfold pathL
            rw [decide_eq_true h4, Bool.true_and]
          rw [e5] at q
          rw [e4]
          refine ⟨_, rfl, p, rfl, ⟨_, SqL.of upd_same⟩, hT1 _ hP, fun H2 hTb => ?_⟩
          have s2 := sm_tabbed (hT1 _ hP) hTb
          refine GxA.all_it (walk_list (xs := ((parts l).map S).map V.str)) (fun i H' => Sm (upd H p (.lst (((parts l).map S).map V.str))) H' ∧ TabsOk Ps H' ∧ ((parts l).take i).all nameL = true) ⟨s2, hT1.tabbed hTb, rfl⟩ (fun i H' _ h => h.1.seq (SqL.of upd_same)) ?_ ?_
          · rintro i x H3 H4 hi ⟨s3, t3, ha⟩ ⟨rfl, hx⟩
            obtain ⟨y, hy, rfl⟩ : ∃ y, (parts l)[i]? = some y ∧ x = .str (S y) := by
              rw [List.getElem?_map, List.getElem?_map] at hx
              cases e : (parts l)[i]? with
              | none =>
                rw [e] at hx
                cases hx
              | some y =>
                rw [e] at hx
                exact ⟨y, rfl, (Option.some.inj hx).symm⟩
            have hyl : y.length ≤ 1000 := by
              have := part_len l [] y (List.mem_of_getElem? hy)
              rw [List.length_nil] at this
              omega
            have eall : ((parts l).take (i + 1)).all nameL = nameL y := by
              rw [take_snoc hy, List.all_append, ha, Bool.true_and]
              simp
            refine ⟨_, rfl, _, rfl, t3, .inl ⟨y, rfl, hyl, fun H5 s5 t5 => ⟨_, rfl, ?_⟩⟩⟩
            cases hn : nameL y with
            | true => exact ⟨s3.trans s5, t5, by rw [eall]; exact hn⟩
            | false =>
              have := q H5 ((Sm.new hp).trans (s3.trans s5)) t5
              have e6 : (parts l).all nameL = false := List.all_eq_false.mpr ⟨y, List.mem_of_getElem? hy, by rw [hn]; exact Bool.false_ne_true⟩
              rw [e6] at this
              exact this
          · rintro H3 ⟨s3, t3, ha⟩
            rw [List.length_map, List.length_map, List.take_length] at ha
            have := q H3 ((Sm.new hp).trans s3) t3
            rw [ha] at this
            exact this
        · have e4 : decide (((parts l).length : Int) ≤ 4) = false := decide_eq_false (by omega)
          have e5 : pathL l = false := by
            unfold pathL
            rw [decide_eq_false h4, Bool.false_and]
          rw [e5] at q
          rw [e4]
          exact q _ (Sm.new hp) hT1
    · exact ⟨_, rfl, _, _, _, _, false, rfl, .ty "str", h1, h2, _, rfl, q⟩
end
end P13
set_option maxHeartbeats 4000000
namespace P13
open PySem PySem.Spec PyProof.Rows L2 HM SX K11 XD
abbrev sWhole : Stmt := top 13
abbrev sPart : Stmt := top 14
abbrev sBegins : Stmt := top 17
abbrev sLine : Stmt := top 18
theorem scWhole : FnScope ["thing"] ["thing"] (defScope sWhole) := ⟨rfl, rfl, rfl, by decide +kernel, rfl, by decide +kernel, by decide +kernel⟩
theorem scPart : FnScope ["thing", "kind"] ["thing", "kind"] (defScope sPart) := ⟨rfl, rfl, rfl, by decide +kernel, rfl, by decide +kernel, by decide +kernel⟩
theorem scBegins : FnScope ["thing"] ["thing"] (defScope sBegins) := ⟨rfl, rfl, rfl, by decide +kernel, rfl, by decide +kernel, by decide +kernel⟩
theorem scLine : FnScope ["row", "kinds"] ["row"] (defScope sLine) := ⟨rfl, rfl, rfl, by decide +kernel, rfl, by decide +kernel, by decide +kernel⟩
def wholeT : Th → Bool | .int _ => true | _ => false
def nameT : Th → Bool | .str l => nameL l | _ => false
def pathT : Th → Bool | .str l => pathL l | _ => false
/-- a part of the kind: 0 a name, 1 a path, else a number -/
inductive Kd where | name | path | number
def Kd.s : Kd → Str | .name => "name" | .path => "path" | .number => "number"
def partT : Kd → Th → Bool
  | .name, t => nameT t
  | .path, t => pathT t
  | .number, t => wholeT t
/-- a tuple that begins with a text -/
def begT : Th → Bool | .tup (.str _ :: _) => true | _ => false
theorem no_str {K : PySem.W.Frag} {H : Hp} {v : V} {t : Th} (h : Tt K H v t) (n : isS t = false) : NoStr K H v := ⟨_, h.ty, by rw [kit_ty (kS t), n]⟩
section
variable {P : Program} {w : World} {K : PySem.W.Frag} {mg : Str → Option Value} {base : Heap} {f fN fP fW fR : Addr} {fd fdN fdP fdW fdR : FuncData} {Ps : List Addr}
def spWhole (K : PySem.W.Frag) : Sp := fun vs H Q _ => ∃ v t, vs = [v] ∧ Tt K H v t ∧ Q (.bl (wholeT t)) H
theorem ok_whole (F : FnP K "is_whole" sWhole f fd) (mi : mg "isinstance" = none) (mI : mg "int" = none) (mB : mg "bool" = none) : FnOk P w K mg base CX0 1 f fd ["thing"] (spWhole K) := by
  refine ok_code F scWhole (fun vs H Q E h => ?_) (fun cdv A outer s H vs Q E hcd hr h => ?_)
  · obtain ⟨v, t, rfl, _⟩ := h
    rfl
  · obtain ⟨v, t, rfl, ht, q⟩ := h
    refine ⟨_, pss_one (ps_ret (pe_and (pe_callB call_isi (by rfl) mi (by decide +kernel) (pa_cons (pv 0) (pa_cons (pe_bltn (v := .ty "int") (by rfl) mI (by decide +kernel) rfl) pa_nil)))
      (pe_one (pe_not (pe_callB call_isi (by rfl) mi (by decide +kernel) (pa_cons (pv 0) (pa_cons (pe_bltn (v := .ty "bool") (by rfl) mB (by decide +kernel) rfl) pa_nil))))))), ?_⟩
    refine ⟨_, rfl, _, _, _, _, _, rfl, .ty "int", ht.ty, kit_ty (kI t), _, rfl, ?_⟩
    cases hi : isI t with
    | false =>
      have e : wholeT t = false := by
        cases t <;> first | rfl | cases hi
      rw [e] at q
      exact q
    | true =>
      refine ⟨_, rfl, _, _, _, _, _, rfl, .ty "bool", ht.ty, kit_ty (kB t), _, rfl, ?_⟩
      have e : (!isB t) = wholeT t := by
        cases t <;> first | rfl | cases hi
      rw [e]
      exact q
def spPart (K : PySem.W.Frag) (Ps : List Addr) : Sp := fun vs H Q _ => ∃ v t k, vs = [v, .str (Kd.s k)] ∧ Tt K H v t ∧ TabsOk Ps H ∧ ∀ H', Sm H H' → TabsOk Ps H' → Q (.bl (partT k t)) H'
theorem call_name {v : V} {t : Th} {H : Hp} {Q : VK} (ht : Tt K H v t) (hT : TabsOk Ps H) (q : ∀ H', Sm H H' → TabsOk Ps H' → Q (.bl (nameT t)) H') : spName K Ps [v] H Q E0 := by
  refine ⟨v, rfl, hT, ?_⟩
  cases hs : isS t with
  | true =>
    cases ht with
    | str l h => exact .inl ⟨l, rfl, by omega, q⟩
    | _ => cases hs
  | false =>
    have e : nameT t = false := by
      cases t <;> first | rfl | cases hs
    refine .inr ⟨no_str ht hs, ?_⟩
    have := q H (Sm.refl H) hT
    rw [e] at this
    exact this
theorem call_path {v : V} {t : Th} {H : Hp} {Q : VK} (ht : Tt K H v t) (hT : TabsOk Ps H) (q : ∀ H', Sm H H' → TabsOk Ps H' → Q (.bl (pathT t)) H') : spPath K Ps [v] H Q E0 := by
  refine ⟨v, rfl, hT, ?_⟩
  cases hs : isS t with
  | true =>
    cases ht with
    | str l h => exact .inl ⟨l, rfl, by omega, q⟩
    | _ => cases hs
  | false =>
    have e : pathT t = false := by
      cases t <;> first | rfl | cases hs
    refine .inr ⟨no_str ht hs, ?_⟩
    have := q H (Sm.refl H) hT
    rw [e] at this
    exact this
theorem ok_part (F : FnP K "is_part" sPart f fd) (GN : FnOk P w K mg base CX0 2 fN fdN ["thing"] (spName K Ps)) (FN : FnP K "is_name" sName fN fdN) (gN : mg "is_name" = some (.ref fN))
    (GP : FnOk P w K mg base CX0 4 fP fdP ["thing"] (spPath K Ps)) (FP : FnP K "is_path" sPath fP fdP) (gP : mg "is_path" = some (.ref fP)) (FW : FnP K "is_whole" sWhole fW fdW) (gW : mg "is_whole" = some (.ref fW))
    (mi : mg "isinstance" = none) (mI : mg "int" = none) (mB : mg "bool" = none) : FnOk P w K mg base CX0 5 f fd ["thing", "kind"] (spPart K Ps) := by
  have bN : Binds K fdN ["thing"] [] := FN.bindsN fun _ _ _ _ _ _ us hl => match us, hl with | [_], _ => rfl
  have bP : Binds K fdP ["thing"] [] := FP.bindsN fun _ _ _ _ _ _ us hl => match us, hl with | [_], _ => rfl
  have GW : FnOk P w K mg base CX0 1 fW fdW ["thing"] (spWhole K) := ok_whole FW mi mI mB
  have bW : Binds K fdW ["thing"] [] := FW.bindsN fun _ _ _ _ _ _ us hl => match us, hl with | [_], _ => rfl
  refine ok_code F scPart (fun vs H Q E h => ?_) (fun cdv A outer s H vs Q E hcd hr h => ?_)
  · obtain ⟨v, t, k, rfl, _⟩ := h
    rfl
  · obtain ⟨v, t, k, rfl, ht, hT, q⟩ := h
    refine ⟨_, pss_cons (ps_if (pt_cmpR op_eq (pv 1) pe_str (nomark _)) (pss_one (ps_ret (pe_call GN (hr.mono (by decide)) (by rfl) gN FN.kp bN .nil pass0 (pa_cons (pv 0) pa_nil)))) pss_nil)
      (pss_cons (ps_if (pt_cmpR op_eq (pv 1) pe_str (nomark _)) (pss_one (ps_ret (pe_call GP hr (by rfl) gP FP.kp bP .nil pass0 (pa_cons (pv 0) pa_nil)))) pss_nil)
      (pss_one (ps_ret (pe_call GW (hr.mono (by decide)) (by rfl) gW FW.kp bW .nil pass0 (pa_cons (pv 0) pa_nil))))), ?_⟩
    refine ⟨_, rfl, rfl, _, rfl, ?_⟩
    cases k with
    | name =>
      rw [show decide (V.str (Kd.s .name) = V.str (Str.ofString "name")) = true by decide +kernel]
      exact ⟨_, rfl, call_name ht hT q⟩
    | path =>
      rw [show decide (V.str (Kd.s .path) = V.str (Str.ofString "name")) = false by decide +kernel]
      refine ⟨_, rfl, rfl, _, rfl, ?_⟩
      rw [show decide (V.str (Kd.s .path) = V.str (Str.ofString "path")) = true by decide +kernel]
      exact ⟨_, rfl, call_path ht hT q⟩
    | number =>
      rw [show decide (V.str (Kd.s .number) = V.str (Str.ofString "name")) = false by decide +kernel]
      refine ⟨_, rfl, rfl, _, rfl, ?_⟩
      rw [show decide (V.str (Kd.s .number) = V.str (Str.ofString "path")) = false by decide +kernel]
      exact ⟨_, rfl, v, t, rfl, ht, q H (Sm.refl H) hT⟩
end
end P13
set_option maxHeartbeats 4000000
namespace P13
open PySem PySem.Spec PyProof.Rows L2 HM SX K11 XD
/-- what stands behind the word of a row but a try -/
def kindsOf (z : Str) : Option (List Kd) :=
  if z = "set" then some [.name, .number] else if z = "now" then some [.name, .path] else if z = "take" then some [.name, .path] else if z = "draw" then some [.name, .path, .name] else
  if z = "late" then some [.name, .path] else if z = "ask" then some [.name, .path] else if z = "note" then some [.path] else if z = "fail" then some [.name] else none
abbrev kdV (ks : List Kd) : List V := ks.map fun k => V.str (Kd.s k)
/-- the written PARTS at p -/
structure PaF (K : PySem.W.Frag) (w : World) (p : Addr) : Prop where
  es : ∃ (es : Array DictEntry) (n : Nat), K.lookup p = some ⟨.type "dict", none, .dict es n, #[]⟩
  get : ∀ z, ∃ o, KGet K w p z o ∧ match kindsOf z with
    | some ks => ∃ tp, o = some (.ref tp) ∧ ∀ H : Hp, SqT K H tp (kdV ks)
    | none => o = none
def lineT (l : List Nat) (ts : List Th) : Bool := match kindsOf (S l) with
  | some ks => decide (ts.length = ks.length) && (ts.zip ks).all fun p => partT p.2 p.1
  | none => false
theorem cut_1 (xs : List V) : cutV xs (some 1) none = xs.drop 1 := by
  unfold cutV
  have e : HT.sIx xs.length 0 (some 1) = min 1 xs.length := HT.sIx_nat xs.length 0 1
  rw [e, HT.sIx_none]
  cases xs with
  | nil => rfl
  | cons x r =>
    rw [List.length_cons, Nat.min_eq_left (by omega)]
    exact List.take_of_length_le (by rw [List.drop_one, List.tail_cons]; omega)
theorem kinds_len {z : Str} {ks : List Kd} (h : kindsOf z = some ks) : 1 ≤ ks.length ∧ ks.length ≤ 3 := by
  unfold kindsOf at h
  repeat (split at h <;> first | (cases h; decide) | skip)
  all_goals cases h
section
variable {P : Program} {w : World} {K : PySem.W.Frag} {mg : Str → Option Value} {base : Heap} {f fN fP fW fR : Addr} {fd fdN fdP fdW fdR : FuncData} {Ps : List Addr}
def spBeg (K : PySem.W.Frag) : Sp := fun vs H Q _ => ∃ v t, vs = [v] ∧ Tt K H v t ∧ Q (.bl (begT t)) H
theorem ok_beg (F : FnP K "begins_with_text" sBegins f fd) (mi : mg "isinstance" = none) (mt : mg "tuple" = none) (ml : mg "len" = none) (ms : mg "str" = none) : FnOk P w K mg base CX0 1 f fd ["thing"] (spBeg K) := by
  refine ok_code F scBegins (fun vs H Q E h => ?_) (fun cdv A outer s H vs Q E hcd hr h => ?_)
  · obtain ⟨v, t, rfl, _⟩ := h
    rfl
  · obtain ⟨v, t, rfl, ht, q⟩ := h
    refine ⟨_, pss_one (ps_ret (pe_and (pe_callB call_isi (by rfl) mi (by decide +kernel) (pa_cons (pv 0) (pa_cons (pe_bltn (v := .ty "tuple") (by rfl) mt (by decide +kernel) rfl) pa_nil)))
      (pe_and (pe_cmpR op_gt (pe_callB call_len_seq (by rfl) ml PySem.boot_len (pa_cons (pv 0) pa_nil)) pe_int (nomark _))
      (pe_one (pe_callB call_isi (by rfl) mi (by decide +kernel) (pa_cons (pe_ix ix_tup (pv 0) pe_int (fun _ _ => rfl)) (pa_cons (pe_bltn (v := .ty "str") (by rfl) ms (by decide +kernel) rfl) pa_nil))))))), ?_⟩
    refine ⟨_, rfl, _, _, _, _, _, rfl, .ty "tuple", ht.ty, kit_ty (kT t), _, rfl, ?_⟩
    cases hi : isT t with
    | false =>
      have e : begT t = false := by
        cases t <;> first | rfl | cases hi
      rw [e] at q
      exact q
    | true =>
      cases ht with
      | @tup a xs ts hx hr2 =>
        refine ⟨_, rfl, a, xs, rfl, .inr hx, _, _, rfl, rfl, _, rfl, ?_⟩
        have hl := hr2.len
        cases hr2 with
        | nil => exact q
        | @cons v vs t1 ts1 h1 r1 =>
          rw [show decide (((v :: vs).length : Int) > 0) = true from decide_eq_true (by rw [List.length_cons]; omega)]
          refine ⟨_, rfl, a, _, 0, _, rfl, rfl, hx, atI_nat (j := 0) rfl, _, _, _, _, _, rfl, .ty "str", h1.ty, kit_ty (kS t1), ?_⟩
          have e : isS t1 = begT (.tup (t1 :: ts1)) := by
            cases t1 <;> rfl
          rw [e]
          exact q
      | _ => cases hi
def spLine (K : PySem.W.Frag) (Ps : List Addr) : Sp := fun vs H Q _ => ∃ (a : Addr) (l : List Nat) (ts : List Th), vs = [.ref a] ∧ Tt K H (.ref a) (.tup (.str l :: ts)) ∧ TabsOk Ps H ∧ ∀ H', Sm H H' → TabsOk Ps H' → Q (.bl (lineT l ts)) H'
theorem ok_line (F : FnP K "is_line" sLine (He.fAd K ("is_line", none)) fd) (hP : (He.cT K ("is_line", none)).2 ∈ Ps) (TB : GxR.TabB base mg (He.cT K ("is_line", none)).1 (He.cT K ("is_line", none)).2)
    (GP : FnOk P w K mg base CX0 5 fP fdP ["thing", "kind"] (spPart K Ps)) (FP : FnP K "is_part" sPart fP fdP) (gP : mg "is_part" = some (.ref fP)) {pa : Addr} (PF : PaF K w pa) (gPa : mg "PARTS" = some (.ref pa)) (ml : mg "len" = none) (ma : mg "all" = none) (mz : mg "zip" = none) :
    FnOk P w K mg base CX0 7 (He.fAd K ("is_line", none)) fd ["row"] (spLine K Ps) := by
  have bP : Binds K fdP ["thing", "kind"] [] := FP.bindsN fun _ _ _ _ _ _ us hl => match us, hl with | [_, _], _ => rfl
  refine ok_code F scLine (fun vs H Q E h => ?_) (fun cdv A outer s H vs Q E hcd hr h => ?_)
  · obtain ⟨a, l, ts, rfl, _⟩ := h
    rfl
  · obtain ⟨a, l, ts, rfl, ht, hT, q⟩ := h
    have hc : cdv = .ref (He.cT K ("is_line", none)).1 := hcd ("is_line", none) rfl
    refine ⟨_, pss_cons (ps_set (i := 1) scLine.nd rfl (.inl rfl) (pe_kget (pe_glob (v := .ref pa) (by rfl) gPa rfl) (pe_ix ix_tup (pv 0) pe_int (fun _ _ => rfl)) ⟨rfl, rfl, rfl, rfl⟩))
      (pss_cons (ps_if (PW.pt (pw_or (pt_cmpR op_isN (pv 1) pe_non (nomark _)) (pw_or1 (pt_cmpR op_ne (pe_callB call_len_seq (by rfl) ml PySem.boot_len (pa_cons (pv 0) pa_nil)) (pe_op op_add (pe_callB call_len_seq (by rfl) ml PySem.boot_len (pa_cons (pv 1) pa_nil)) pe_int) (nomark _))))) (pss_one (ps_ret pe_bl)) pss_nil)
      (pss_one (ps_ret (GxA.pe_allG (N := ["part", "kind"]) (k := 5) (g := gTup K 2 (gCons (gName 0) (gCons (gName 1) gNil))) (te := tCall (spPart K Ps) [] E0 (tCons (tVar 0) (tCons (tVar 1) tNil))) hr (by rfl) ma TB hc ⟨rfl, rfl, by decide +kernel, by decide +kernel, rfl⟩
        (RZ.pi_zipA (by rfl) mz (pa_cons (pe_slice sl_tup (pv 0) (po_some pe_int) po_none) (pa_cons (pv 1) pa_nil)))
        (fun _ _ _ _ _ e => pg_tup rfl (pgs_cons (pg_name (i := 0) (by show (["part", "kind"] : List Str).Nodup; decide) rfl (.inl (by rw [show (GxA.genCx _ _ _ _ _ _ _).env.scope = _ from e]; rfl)) (.inr (by rw [show (GxA.genCx _ _ _ _ _ _ _).env.scope = _ from e]; rfl)))
          (pgs_cons (pg_name (i := 1) (by show (["part", "kind"] : List Str).Nodup; decide) rfl (.inl (by rw [show (GxA.genCx _ _ _ _ _ _ _).env.scope = _ from e]; rfl)) (.inr (by rw [show (GxA.genCx _ _ _ _ _ _ _).env.scope = _ from e]; rfl))) pgs_nil)))
        (fun _ _ _ _ _ e hrm => pe_call GP hrm (show (GxA.genCx _ _ _ _ _ _ _).env.scope.names.lookup _ = _ by rw [show (GxA.genCx _ _ _ _ _ _ _).env.scope = _ from e]; rfl) gP FP.kp bP .nil pass0
          (pa_cons (pe_var (i := 0) rfl (.inl (by rw [show (GxA.genCx _ _ _ _ _ _ _).env.scope = _ from e]; rfl))) (pa_cons (pe_var (i := 1) rfl (.inl (by rw [show (GxA.genCx _ _ _ _ _ _ _).env.scope = _ from e]; rfl))) pa_nil))) (fun _ => rfl))))), ?_⟩
    cases ht with
    | @tup _ xs _ hx hall =>
    cases hall with
    | @cons v0 vs _ _ h0 hvs =>
    cases h0
    obtain ⟨es, n, hes⟩ := PF.es
    obtain ⟨o, kg, hk⟩ := PF.get (S l)
    refine ⟨pa, es, n, rfl, hes, _, rfl, a, _, 0, _, rfl, rfl, hx, atI_nat (j := 0) rfl, S l, o, rfl, kg, ?_⟩
    have hvl := hvs.len
    cases hkk : kindsOf (S l) with
    | none =>
      rw [hkk] at hk
      have hk : o = none := hk
      subst hk
      have := q H (Sm.refl H) hT
      unfold lineT at this
      rw [hkk] at this
      exact ⟨_, rfl, rfl, _, rfl, this⟩
    | some ks =>
      rw [hkk] at hk
      obtain ⟨tp, rfl, hsq⟩ := (show ∃ tp, o = some (.ref tp) ∧ ∀ H : Hp, SqT K H tp (kdV ks) from hk)
      have hkl : (kdV ks).length = ks.length := List.length_map ..
      obtain ⟨k1, k2⟩ := kinds_len hkk
      refine ⟨_, rfl, rfl, _, rfl, ?_⟩
      rw [show decide ((some (V.ref tp)).getD V.non = V.non) = false from decide_eq_false fun z => by cases z]
      refine ⟨_, rfl, a, _, rfl, .inr hx, _, rfl, tp, _, rfl, .inr (hsq _), _, _, rfl, rfl, rfl, _, rfl, ?_⟩
      rw [hkl, show (V.str (S l) :: vs).length = ts.length + 1 by rw [List.length_cons, hvl]]
      by_cases hlen : ts.length = ks.length
      · rw [show decide (V.int ((ts.length + 1 : Nat) : Int) = V.int ((ks.length : Int) + 1)) = true from decide_eq_true (by rw [hlen]; rfl)]
        refine ⟨_, rfl, 1, rfl, a, _, rfl, hx, ?_, fun p hp => ?_⟩
        · intro ⟨z, _⟩
          have e : HT.sIx (V.str (S l) :: vs).length 0 (some 1) = min 1 (V.str (S l) :: vs).length := HT.sIx_nat _ 0 1
          rw [e, List.length_cons] at z
          omega
        · have ec : cutV (V.str (S l) :: vs) (some 1) none = vs := cut_1 _
          have hT1 : TabsOk Ps (upd H p (.tup (cutV (V.str (S l) :: vs) (some 1) none))) := hT.new hp
          have sN : Sm H (upd H p (.tup (cutV (V.str (S l) :: vs) (some 1) none))) := Sm.new hp
          have sq1 : SqT K (upd H p (.tup (cutV (V.str (S l) :: vs) (some 1) none))) p vs := by
            rw [ec]
            exact SqT.of upd_same
          obtain ⟨H1, e1⟩ : ∃ H1, upd H p (.tup (cutV (V.str (S l) :: vs) (some 1) none)) = H1 := ⟨_, rfl⟩
          rw [e1] at hT1 sN sq1
          rw [e1]
          refine ⟨_, rfl, p, tp, vs, kdV ks, rfl, .inr ⟨sq1, hsq _, hT1 _ hP, fun H2 hTb => ?_⟩⟩
          have s2 := sm_tabbed (hT1 _ hP) hTb
          have el : lineT l ts = (ts.zip ks).all fun p => partT p.2 p.1 := by
            unfold lineT
            rw [hkk]
            show (decide (ts.length = ks.length) && _) = _
            rw [decide_eq_true hlen, Bool.true_and]
          rw [el] at q
          have hzl : (ts.zip ks).length = ts.length := by
            rw [List.length_zip, ← hlen, Nat.min_self]
          refine GxA.all_it (walk_zipT (xs := vs) (ys := kdV ks) (n := ts.length) (by rw [hkl, hvl, ← hlen, Nat.min_self])) (fun i H' => Sm H1 H' ∧ TabsOk Ps H' ∧ (((ts.zip ks).take i).all fun p => partT p.2 p.1) = true) ⟨s2, hT1.tabbed hTb, rfl⟩ (fun i H' _ h => ⟨sqT_sm h.1 sq1, hsq _⟩) ?_ ?_
          · rintro i x H3 H4 hi ⟨s3, t3, ha⟩ ⟨T, y, z, rfl, hT0, rfl, hy, hz⟩
            obtain ⟨t, ht, hyt⟩ := hvs.get i hy
            obtain ⟨k, hk2, rfl⟩ : ∃ k, ks[i]? = some k ∧ z = V.str (Kd.s k) := by
              have hz2 : (kdV ks)[i]? = some z := hz
              rw [List.getElem?_map] at hz2
              cases e : ks[i]? with
              | none =>
                rw [e] at hz2
                cases hz2
              | some k =>
                rw [e] at hz2
                exact ⟨k, rfl, (Option.some.inj hz2).symm⟩
            have hzp : (ts.zip ks)[i]? = some (t, k) := by
              rw [List.getElem?_zip_eq_some]
              exact ⟨ht, hk2⟩
            have eall : (((ts.zip ks).take (i + 1)).all fun p => partT p.2 p.1) = partT k t := by
              rw [take_snoc hzp, List.all_append, ha, Bool.true_and]
              simp
            have s4 : Sm H (upd H3 T (.tup [y, .str (Kd.s k)])) := sN.trans (s3.trans (Sm.new hT0))
            refine ⟨T, _, rfl, SqT.of upd_same, rfl, _, _, rfl, _, _, rfl, rfl, _, rfl, _, rfl, y, t, k, rfl, hyt.sm s4, t3.new hT0, fun H5 s5 t5 => ⟨_, rfl, ?_⟩⟩
            cases hpt : partT k t with
            | true => exact ⟨s3.trans ((Sm.new hT0).trans s5), t5, by rw [eall]; exact hpt⟩
            | false =>
              have := q H5 (s4.trans s5) t5
              have e6 : ((ts.zip ks).all fun p => partT p.2 p.1) = false := List.all_eq_false.mpr ⟨(t, k), List.mem_of_getElem? hzp, by show ¬ partT k t = true; rw [hpt]; exact Bool.false_ne_true⟩
              rw [e6] at this
              exact this
          · rintro H3 ⟨s3, t3, ha⟩
            rw [← hzl, List.take_length] at ha
            have := q H3 (sN.trans s3) t3
            rw [ha] at this
            exact this
      · rw [show decide (V.int ((ts.length + 1 : Nat) : Int) = V.int ((ks.length : Int) + 1)) = false from decide_eq_false fun z => hlen (by have := V.int.inj z; omega)]
        have := q H (Sm.refl H) hT
        unfold lineT at this
        rw [hkk] at this
        have this : Q (.bl (decide (ts.length = ks.length) && (ts.zip ks).all fun p => partT p.2 p.1)) H := this
        rw [decide_eq_false hlen, Bool.false_and] at this
        exact this
end
end P13
set_option maxHeartbeats 4000000
namespace P13
open PySem PySem.Spec PyProof.Rows L2 HM SX K11 XD
abbrev sRow : Stmt := top 19
abbrev sRows : Stmt := top 20
theorem scRow : FnScope ["row", "room", "tries", "left"] ["row", "room", "tries"] (defScope sRow) := ⟨rfl, rfl, rfl, by decide +kernel, rfl, by decide +kernel, by decide +kernel⟩
theorem scRows : FnScope ["rows", "room", "tries", "left", "row"] ["rows", "room", "tries"] (defScope sRows) := ⟨rfl, rfl, rfl, by decide +kernel, rfl, by decide +kernel, by decide +kernel⟩
/-! ### rows and bodies, mirrored: W tells which things are words -/
def rowsWith (f : Nat → Th → Option Nat) : Nat → List Th → Option Nat
  | r, [] => some r
  | r, t :: ts => match f r t with
    | none => none
    | some r2 => rowsWith f r2 ts
def rowsTh (f : Nat → Th → Option Nat) (r : Nat) : Th → Option Nat
  | .tup ts => rowsWith f r ts
  | _ => none
def tryT (W : Th → Bool) (f : Nat → Th → Option Nat) (r : Nat) : List Th → Option Nat
  | [a, v, b] => if W v = true then (match rowsTh f r a with
    | none => none
    | some r2 => rowsTh f r2 b) else none
  | _ => none
def rowT (W : Th → Bool) : Nat → Nat → Th → Option Nat
  | n, r, .tup (.str l :: ts) => if r = 0 then none else if S l = "try" then (match n with
      | 0 => none
      | n + 1 => tryT W (rowT W n) (r - 1) ts) else if lineT l ts = true then some (r - 1) else none
  | _, _, _ => none
/-- where W is asked -/
def domTh (D : Th → Prop) : Th → Prop
  | .tup ts => ∀ t ∈ ts, D t
  | _ => True
def domT (OK : Th → Prop) : Nat → Th → Prop
  | n + 1, .tup [.str l, a, v, b] => S l = "try" → OK v ∧ domTh (domT OK n) a ∧ domTh (domT OK n) b
  | _, _ => True
def roomV : Option Nat → V
  | none => .non
  | some r => .int r
theorem rowT_no {W : Th → Bool} {n r : Nat} {t : Th} (h : begT t = false) : rowT W n r t = none := by
  match t, h with
  | .non, _ => unfold rowT; rfl
  | .bl _, _ => unfold rowT; rfl
  | .int _, _ => unfold rowT; rfl
  | .str _, _ => unfold rowT; rfl
  | .lst, _ => unfold rowT; rfl
  | .dct, _ => unfold rowT; rfl
  | .tup [], _ => unfold rowT; rfl
  | .tup (.non :: _), _ => unfold rowT; rfl
  | .tup (.bl _ :: _), _ => unfold rowT; rfl
  | .tup (.int _ :: _), _ => unfold rowT; rfl
  | .tup (.tup _ :: _), _ => unfold rowT; rfl
  | .tup (.lst :: _), _ => unfold rowT; rfl
  | .tup (.dct :: _), _ => unfold rowT; rfl
  | .tup (.str _ :: _), h => cases h
theorem begT_is {t : Th} (h : begT t = true) : ∃ l ts, t = .tup (.str l :: ts) := by
  match t, h with
  | .tup (.str l :: ts), _ => exact ⟨l, ts, rfl⟩
theorem rowT_0 {W : Th → Bool} {r : Nat} {l : List Nat} {ts : List Th} : rowT W 0 r (.tup (.str l :: ts)) = if r = 0 then none else if S l = "try" then none else if lineT l ts = true then some (r - 1) else none := by
  rw [rowT]
theorem rowT_s {W : Th → Bool} {n r : Nat} {l : List Nat} {ts : List Th} : rowT W (n + 1) r (.tup (.str l :: ts)) = if r = 0 then none else if S l = "try" then tryT W (rowT W n) (r - 1) ts else if lineT l ts = true then some (r - 1) else none := by
  rw [rowT]
section
variable {P : Program} {w : World} {K : PySem.W.Frag} {mg : Str → Option Value} {base : Heap} {f fB fL fW fR : Addr} {fd fdB fdL fdW fdR : FuncData} {Ps : List Addr} {W : Th → Bool} {OK : Th → Prop}
def spAW (K : PySem.W.Frag) (Ps : List Addr) (W : Th → Bool) (OK : Th → Prop) : Sp := fun vs H Q _ => ∃ v t, vs = [v] ∧ Tt K H v t ∧ OK t ∧ TabsOk Ps H ∧ ∀ H', Sm H H' → TabsOk Ps H' → Q (.bl (W t)) H'
def spRow (K : PySem.W.Frag) (Ps : List Addr) (W : Th → Bool) (OK : Th → Prop) (n : Nat) : Sp := fun vs H Q _ => ∃ (v : V) (t : Th) (r : Nat), vs = [v, .int r, .int n] ∧ r ≤ 1000 ∧ Tt K H v t ∧ domT OK n t ∧ TabsOk Ps H ∧ ∀ H', Sm H H' → TabsOk Ps H' → Q (roomV (rowT W n r t)) H'
def spRows (K : PySem.W.Frag) (Ps : List Addr) (W : Th → Bool) (OK : Th → Prop) (n : Nat) : Sp := fun vs H Q _ => ∃ (v : V) (t : Th) (r : Nat), vs = [v, .int r, .int n] ∧ r ≤ 1000 ∧ Tt K H v t ∧ domTh (domT OK n) t ∧ TabsOk Ps H ∧ ∀ H', Sm H H' → TabsOk Ps H' → Q (roomV (rowsTh (rowT W n) r t)) H'
/-- the rows one level further in -/
def spPrev (K : PySem.W.Frag) (Ps : List Addr) (W : Th → Bool) (OK : Th → Prop) : Nat → Sp
  | 0 => fun _ _ _ _ => False
  | n + 1 => spRows K Ps W OK n
theorem row_le (W : Th → Bool) : ∀ (n r : Nat) (t : Th) (r2 : Nat), rowT W n r t = some r2 → r2 ≤ r := by
  intro n
  induction n with
  | zero =>
    intro r t r2 h
    cases hb : begT t with
    | false =>
      rw [rowT_no hb] at h
      cases h
    | true =>
      obtain ⟨l, ts, rfl⟩ := begT_is hb
      rw [rowT_0] at h
      split at h
      · cases h
      · split at h
        · cases h
        · split at h
          · cases h
            omega
          · cases h
  | succ n ih =>
    have ih2 : ∀ (ts : List Th) (r r2 : Nat), rowsWith (rowT W n) r ts = some r2 → r2 ≤ r := by
      intro ts
      induction ts with
      | nil =>
        intro r r2 h
        cases h
        exact Nat.le_refl _
      | cons t ts ih3 =>
        intro r r2 h
        unfold rowsWith at h
        cases e : rowT W n r t with
        | none =>
          rw [e] at h
          cases h
        | some r1 =>
          rw [e] at h
          have := ih r t r1 e
          have := ih3 r1 r2 h
          omega
    have ih4 : ∀ (t : Th) (r r2 : Nat), rowsTh (rowT W n) r t = some r2 → r2 ≤ r := by
      intro t r r2 h
      cases t with
      | tup ts => exact ih2 ts r r2 h
      | _ => cases h
    intro r t r2 h
    cases hb : begT t with
    | false =>
      rw [rowT_no hb] at h
      cases h
    | true =>
      obtain ⟨l, ts, rfl⟩ := begT_is hb
      rw [rowT_s] at h
      split at h
      · cases h
      · split at h
        · unfold tryT at h
          split at h
          · rename_i a v b
            split at h
            · cases e : rowsTh (rowT W n) (r - 1) a with
              | none =>
                rw [e] at h
                cases h
              | some r1 =>
                rw [e] at h
                have := ih4 a _ r1 e
                have := ih4 b _ r2 h
                omega
            · cases h
          · cases h
        · split at h
          · cases h
            omega
          · cases h
theorem rows_le (W : Th → Bool) (n : Nat) (t : Th) (r r2 : Nat) (h : rowsTh (rowT W n) r t = some r2) : r2 ≤ r := by
  cases t with
  | tup ts =>
    have go : ∀ (ts : List Th) (r : Nat), rowsWith (rowT W n) r ts = some r2 → r2 ≤ r := by
      intro ts
      induction ts with
      | nil =>
        intro r h
        cases h
        exact Nat.le_refl _
      | cons t ts ih =>
        intro r h
        unfold rowsWith at h
        cases e : rowT W n r t with
        | none =>
          rw [e] at h
          cases h
        | some r1 =>
          rw [e] at h
          have := row_le W n r t r1 e
          have := ih r1 h
          omega
    exact go ts r h
  | _ => cases h
end
end P13
set_option maxHeartbeats 4000000
namespace P13
open PySem PySem.Spec PyProof.Rows L2 HM SX K11 XD
section
variable {P : Program} {w : World} {K : PySem.W.Frag} {mg : Str → Option Value} {base : Heap} {f fB fL fW fR : Addr} {fd fdB fdL fdW fdR : FuncData} {Ps : List Addr} {W : Th → Bool} {OK : Th → Prop}
theorem rowsWith_cons {g : Nat → Th → Option Nat} {r : Nat} {t : Th} {ts : List Th} : rowsWith g r (t :: ts) = match g r t with
    | none => none
    | some r2 => rowsWith g r2 ts := rfl
theorem tryT3 {g : Nat → Th → Option Nat} {r : Nat} {a v b : Th} : tryT W g r [a, v, b] = if W v = true then (match rowsTh g r a with
    | none => none
    | some r2 => rowsTh g r2 b) else none := rfl
theorem rowT_r0 {n : Nat} {t : Th} : rowT W n 0 t = none := by
  cases hb : begT t with
  | false => exact rowT_no hb
  | true =>
    obtain ⟨l, ts, rfl⟩ := begT_is hb
    cases n with
    | zero => rw [rowT_0, if_pos rfl]
    | succ n => rw [rowT_s, if_pos rfl]
theorem rowT_line {n r : Nat} {l : List Nat} {ts : List Th} (h : r ≠ 0) (h2 : S l ≠ "try") : rowT W n r (.tup (.str l :: ts)) = if lineT l ts = true then some (r - 1) else none := by
  cases n with
  | zero => rw [rowT_0, if_neg h, if_neg h2]
  | succ n => rw [rowT_s, if_neg h, if_neg h2]
theorem ok_rows {n k : Nat} (F : FnP K "room_behind_rows" sRows f fd) (GR : FnOk P w K mg base CX0 k fR fdR ["row", "room", "tries"] (spRow K Ps W OK n)) (FR : FnP K "room_behind_row" sRow fR fdR) (gR : mg "room_behind_row" = some (.ref fR))
    (mi : mg "isinstance" = none) (mt : mg "tuple" = none) : FnOk P w K mg base CX0 (k + 1) f fd ["rows", "room", "tries"] (spRows K Ps W OK n) := by
  have bR : Binds K fdR ["row", "room", "tries"] [] := FR.bindsN fun _ _ _ _ _ _ us hl => match us, hl with | [_, _, _], _ => rfl
  refine ok_code F scRows (fun vs H Q E h => ?_) (fun cdv A outer s H vs Q E hcd hr h => ?_)
  · obtain ⟨v, t, r, rfl, _⟩ := h
    rfl
  · obtain ⟨v, t, r, rfl, hr0, ht, hd, hT, q⟩ := h
    refine ⟨_, pss_cons (ps_if (pt_not (pt_val (pe_callB call_isi (by rfl) mi (by decide +kernel) (pa_cons (pv 0) (pa_cons (pe_bltn (v := .ty "tuple") (by rfl) mt (by decide +kernel) rfl) pa_nil))))) (pss_one (ps_ret pe_non)) pss_nil)
      (pss_cons (ps_set (i := 3) scRows.nd rfl (.inl rfl) (pv 1))
      (pss_cons (ps_for PassesOwn.never rfl (pi_tup (pv 0)) (pg_name (i := 4) scRows.nd rfl (.inl rfl))
        (pss_cons (ps_set (i := 3) scRows.nd rfl (.inl rfl) (pe_call GR hr (by rfl) gR FR.kp bR .nil pass0 (pa_cons (pv 4) (pa_cons (pv 3) (pa_cons (pv 2) pa_nil)))))
        (pss_one (ps_if (pt_cmpR op_isN (pv 3) pe_non (nomark _)) (pss_one (ps_ret pe_non)) pss_nil))))
      (pss_one (ps_ret (pv 3))))), ?_⟩
    refine ⟨_, rfl, _, _, _, _, _, rfl, .ty "tuple", ht.ty, kit_ty (kT t), _, rfl, ?_⟩
    cases hi : isT t with
    | false =>
      have e : rowsTh (rowT W n) r t = none := by
        cases t <;> first | rfl | cases hi
      have := q H (Sm.refl H) hT
      rw [e] at this
      exact this
    | true =>
      cases ht with
      | @tup a xs ts hx hall =>
        have hlen := hall.len
        refine ⟨_, rfl, _, rfl, a, rfl, ⟨_, hx⟩, for_it (walk_tup (xs := xs)) (fun i σ H' => ∃ (r2 : Nat) (v4 : Option V), σ = [some (.ref a), some (.int r), some (.int n), some (.int r2), v4] ∧ r2 ≤ 1000 ∧ Sm H H' ∧ TabsOk Ps H' ∧ rowsWith (rowT W n) r ts = rowsWith (rowT W n) r2 (ts.drop i))
          ⟨r, none, rfl, hr0, Sm.refl H, hT, rfl⟩ (fun i σ H' _ ⟨_, _, _, _, s1, _⟩ => sqT_sm s1 hx) ?_ ?_⟩
        · rintro i x σ H1 H2 hi2 ⟨r2, v4, rfl, hr2, s1, t1, e1⟩ ⟨rfl, hx2⟩
          obtain ⟨t, ht2, htt⟩ := hall.get i hx2
          have ed : ts.drop i = t :: ts.drop (i + 1) := by
            obtain ⟨hlt, e⟩ := List.getElem?_eq_some_iff.mp ht2
            rw [List.drop_eq_getElem_cons hlt, e]
          rw [ed] at e1
          refine ⟨_, rfl, _, rfl, _, rfl, x, t, r2, rfl, hr2, htt.sm s1, hd t (List.mem_of_getElem? ht2), t1, fun H3 s3 t3 => ?_⟩
          rw [rowsWith_cons] at e1
          cases er : rowT W n r2 t with
          | none =>
            rw [er] at e1
            have := q H3 (s1.trans s3) t3
            have e2 : rowsTh (rowT W n) r (.tup ts) = none := e1
            rw [e2] at this
            exact ⟨_, rfl, rfl, _, rfl, this⟩
          | some r3 =>
            rw [er] at e1
            have := row_le W n r2 t r3 er
            refine ⟨_, rfl, rfl, _, rfl, ?_⟩
            rw [show decide (roomV (some r3) = V.non) = false from decide_eq_false fun z => by cases z]
            exact ⟨r3, _, rfl, by omega, s1.trans s3, t3, e1⟩
        · rintro σ H1 ⟨r2, v4, rfl, hr2, s1, t1, e1⟩
          rw [hlen, List.drop_length] at e1
          have := q H1 s1 t1
          have e2 : rowsTh (rowT W n) r (.tup ts) = some r2 := e1
          rw [e2] at this
          exact ⟨_, rfl, this⟩
      | _ => cases hi
theorem try_S (l : List Nat) : decide (V.str (S l) = V.str (Str.ofString "try")) = decide (S l = "try") := by
  by_cases h : S l = "try"
  · rw [decide_eq_true h, decide_eq_true (congrArg V.str h)]
  · rw [decide_eq_false h, decide_eq_false fun z => h (V.str.inj z)]
theorem ok_row {n k : Nat} (F : FnP K "room_behind_row" sRow f fd) (GB : FnOk P w K mg base CX0 1 fB fdB ["thing"] (spBeg K)) (FB : FnP K "begins_with_text" sBegins fB fdB) (gB : mg "begins_with_text" = some (.ref fB))
    (GL : FnOk P w K mg base CX0 7 fL fdL ["row"] (spLine K Ps)) (FL : FnP K "is_line" sLine fL fdL) (gL : mg "is_line" = some (.ref fL)) (GW : FnOk P w K mg base CX0 7 fW fdW ["thing"] (spAW K Ps W OK)) {stW : Stmt} (FW : FnP K "are_words" stW fW fdW) (gW : mg "are_words" = some (.ref fW)) (bW : Binds K fdW ["thing"] [])
    (hk : 7 ≤ k) (GR : FnOk P w K mg base CX0 k fR fdR ["rows", "room", "tries"] (spPrev K Ps W OK n)) (FR : FnP K "room_behind_rows" sRows fR fdR) (gR : mg "room_behind_rows" = some (.ref fR)) (ml : mg "len" = none) : FnOk P w K mg base CX0 (k + 1) f fd ["row", "room", "tries"] (spRow K Ps W OK n) := by
  have bB : Binds K fdB ["thing"] [] := FB.bindsN fun _ _ _ _ _ _ us hl => match us, hl with | [_], _ => rfl
  have bL : Binds K fdL ["row"] [] := FL.bindsN fun _ _ _ _ _ _ us hl => match us, hl with | [_], _ => rfl
  have bR : Binds K fdR ["rows", "room", "tries"] [] := FR.bindsN fun _ _ _ _ _ _ us hl => match us, hl with | [_, _, _], _ => rfl
  refine ok_code F scRow (fun vs H Q E h => ?_) (fun cdv A outer s H vs Q E hcd hr h => ?_)
  · obtain ⟨v, t, r, rfl, _⟩ := h
    rfl
  · obtain ⟨v, t, r, rfl, hr0, ht, hd, hT, q⟩ := h
    refine ⟨_, pss_cons (ps_if (PW.pt (pw_or (pt_cmpR op_eq (pv 1) pe_int (nomark _)) (pw_or1 (pt_not (pt_val (pe_call GB (hr.mono (by omega)) (by rfl) gB FB.kp bB .nil pass0 (pa_cons (pv 0) pa_nil))))))) (pss_one (ps_ret pe_non)) pss_nil)
      (pss_cons (ps_if (pt_cmpR op_ne (pe_ix ix_tup (pv 0) pe_int (fun _ _ => rfl)) pe_str (nomark _)) (pss_one (ps_ret (pe_ifExp (pt_val (pe_call GL (hr.mono hk) (by rfl) gL FL.kp bL .nil pass0 (pa_cons (pv 0) pa_nil))) (pe_op op_sub (pv 1) pe_int) pe_non))) pss_nil)
      (pss_cons (ps_if (PW.pt (pw_or (pt_cmpR op_eq (pv 2) pe_int (nomark _)) (pw_or (pt_cmpR op_ne (pe_callB call_len_seq (by rfl) ml PySem.boot_len (pa_cons (pv 0) pa_nil)) pe_int (nomark _)) (pw_or1 (pt_not (pt_val (pe_call GW (hr.mono hk) (by rfl) gW FW.kp bW .nil pass0 (pa_cons (pe_ix ix_tup (pv 0) pe_int (fun _ _ => rfl)) pa_nil)))))))) (pss_one (ps_ret pe_non)) pss_nil)
      (pss_cons (ps_set (i := 3) scRow.nd rfl (.inl rfl) (pe_call GR hr (by rfl) gR FR.kp bR .nil pass0 (pa_cons (pe_ix ix_tup (pv 0) pe_int (fun _ _ => rfl)) (pa_cons (pe_op op_sub (pv 1) pe_int) (pa_cons (pe_op op_sub (pv 2) pe_int) pa_nil)))))
      (pss_one (ps_ret (pe_ifExp (pt_cmpR op_isN (pv 3) pe_non (nomark _)) pe_non (pe_call GR hr (by rfl) gR FR.kp bR .nil pass0 (pa_cons (pe_ix ix_tup (pv 0) pe_int (fun _ _ => rfl)) (pa_cons (pv 3) (pa_cons (pe_op op_sub (pv 2) pe_int) pa_nil)))))))))), ?_⟩
    refine ⟨_, rfl, rfl, _, rfl, ?_⟩
    by_cases hr00 : r = 0
    · subst hr00
      have := q H (Sm.refl H) hT
      rw [rowT_r0] at this
      exact this
    rw [show decide (V.int (r : Int) = V.int 0) = false from decide_eq_false fun z => hr00 (by have := V.int.inj z; omega)]
    refine ⟨_, rfl, v, t, rfl, ht, _, rfl, ?_⟩
    cases hb : begT t with
    | false =>
      have := q H (Sm.refl H) hT
      rw [rowT_no hb] at this
      exact this
    | true =>
    obtain ⟨l, ts, rfl⟩ := begT_is hb
    have ht0 := ht
    cases ht with
    | @tup a xs _ hx hall =>
    cases hall with
    | @cons v0 vs _ _ h0 hvs =>
    cases h0
    have hvl := hvs.len
    refine ⟨_, rfl, a, _, 0, _, rfl, rfl, hx, atI_nat (j := 0) rfl, rfl, _, rfl, ?_⟩
    rw [try_S]
    have er : (r : Int) - 1 = ((r - 1 : Nat) : Int) := by omega
    by_cases htry : S l = "try"
    · rw [decide_eq_true htry]
      refine ⟨_, rfl, rfl, _, rfl, ?_⟩
      cases n with
      | zero =>
        have := q H (Sm.refl H) hT
        rw [rowT_0, if_neg hr00, if_pos htry] at this
        exact this
      | succ m =>
        rw [rowT_s, if_neg hr00, if_pos htry] at q
        rw [show decide (V.int ((m + 1 : Nat) : Int) = V.int 0) = false from decide_eq_false fun z => by have := V.int.inj z; omega]
        refine ⟨_, rfl, a, _, rfl, .inr hx, rfl, _, rfl, ?_⟩
        rw [show (V.str (S l) :: vs).length = ts.length + 1 by rw [List.length_cons, hvl]]
        by_cases hl3 : ts.length = 3
        · rw [show decide (V.int ((ts.length + 1 : Nat) : Int) = V.int 4) = true from decide_eq_true (by rw [hl3]; rfl)]
          obtain ⟨t1, t2, t3, rfl⟩ : ∃ t1 t2 t3, ts = [t1, t2, t3] := by
            match ts, hl3 with
            | [t1, t2, t3], _ => exact ⟨t1, t2, t3, rfl⟩
          cases hvs with
          | @cons v1 _ _ _ h1 hvs =>
          cases hvs with
          | @cons v2 _ _ _ h2 hvs =>
          cases hvs with
          | @cons v3 _ _ _ h3 hvs =>
          cases hvs
          obtain ⟨d1, d2, d3⟩ : OK t2 ∧ domTh (domT OK m) t1 ∧ domTh (domT OK m) t3 := hd htry
          refine ⟨_, rfl, a, _, 2, _, rfl, rfl, hx, atI_nat (j := 2) rfl, v2, t2, rfl, h2, d1, hT, fun H1 s1 hT1 => ⟨_, rfl, ?_⟩⟩
          cases hW : W t2 with
          | false =>
            have := q H1 s1 hT1
            rw [tryT3, hW, if_neg Bool.false_ne_true] at this
            exact this
          | true =>
            have em : ((m + 1 : Nat) : Int) - 1 = (m : Int) := by omega
            have hx1 := sqT_sm s1 hx
            refine ⟨_, rfl, a, _, 1, _, rfl, rfl, hx1, atI_nat (j := 1) rfl, _, rfl, _, _, rfl, rfl, _, rfl, _, _, rfl, rfl, v1, t1, r - 1, ?_, by omega, h1.sm s1, d2, hT1, fun H2 s2 hT2 => ?_⟩
            · show [v1, V.int ((r : Int) - 1), V.int (((m + 1 : Nat) : Int) - 1)] = _
              rw [er, em]
            have et : tryT W (rowT W m) (r - 1) [t1, t2, t3] = match rowsTh (rowT W m) (r - 1) t1 with
                | none => none
                | some r2 => rowsTh (rowT W m) r2 t3 := by
              rw [tryT3, hW, if_pos rfl]
            rw [et] at q
            refine ⟨_, rfl, rfl, _, rfl, ?_⟩
            cases e1 : rowsTh (rowT W m) (r - 1) t1 with
            | none =>
              rw [e1] at q
              exact q H2 (s1.trans s2) hT2
            | some r2 =>
              rw [e1] at q
              have hle : r2 ≤ r - 1 := rows_le W m t1 (r - 1) r2 e1
              rw [show decide (roomV (some r2) = V.non) = false from decide_eq_false fun z => by cases z]
              refine ⟨_, rfl, a, _, 3, _, rfl, rfl, sqT_sm s2 hx1, atI_nat (j := 3) rfl, _, rfl, _, rfl, _, _, rfl, rfl, v3, t3, r2, ?_, by omega, (h3.sm s1).sm s2, d3, hT2, fun H3 s3 hT3 => q H3 (s1.trans (s2.trans s3)) hT3⟩
              show [v3, roomV (some r2), V.int (((m + 1 : Nat) : Int) - 1)] = _
              rw [em]
              rfl
        · rw [show decide (V.int ((ts.length + 1 : Nat) : Int) = V.int 4) = false from decide_eq_false fun z => hl3 (by have := V.int.inj z; omega)]
          have := q H (Sm.refl H) hT
          have e0 : tryT W (rowT W m) (r - 1) ts = none := by
            unfold tryT
            split
            · rename_i a b c
              exact absurd rfl hl3
            · rfl
          rw [e0] at this
          exact this
    · rw [decide_eq_false htry]
      rw [rowT_line hr00 htry] at q
      refine ⟨_, rfl, a, l, ts, rfl, ht0, hT, fun H1 s1 hT1 => ⟨_, rfl, ?_⟩⟩
      cases hl : lineT l ts with
      | true =>
        rw [hl] at q
        have := q H1 s1 hT1
        rw [if_pos rfl] at this
        refine ⟨_, rfl, _, _, rfl, rfl, ?_⟩
        show Q (V.int ((r : Int) - 1)) H1
        rw [er]
        exact this
      | false =>
        rw [hl] at q
        have := q H1 s1 hT1
        rw [if_neg Bool.false_ne_true] at this
        exact this
end
end P13
set_option maxHeartbeats 4000000
namespace P13
open PySem PySem.Spec PyProof.Rows L2 HM SX K11 XD
abbrev sIsBody : Stmt := top 21
theorem scIsBody : FnScope ["thing"] ["thing"] (defScope sIsBody) := ⟨rfl, rfl, rfl, by decide +kernel, rfl, by decide +kernel, by decide +kernel⟩
section
variable {P : Program} {w : World} {K : PySem.W.Frag} {mg : Str → Option Value} {base : Heap} {f fB fL fW fR fS : Addr} {fd fdB fdL fdW fdR fdS : FuncData} {Ps : List Addr} {W : Th → Bool} {OK : Th → Prop}
theorem ok_none {k : Nat} {ps : List Str} : FnOk P w K mg base CX0 k f fd ps (fun _ _ _ _ => False) := ⟨fun _ _ _ _ h => h.elim, fun _ _ _ _ _ _ _ _ _ _ _ _ _ h => h.elim⟩
/-- both defs, at any number of tries -/
theorem ok_both (FR : FnP K "room_behind_row" sRow fR fdR) (FS : FnP K "room_behind_rows" sRows fS fdS) (GB : FnOk P w K mg base CX0 1 fB fdB ["thing"] (spBeg K)) (FB : FnP K "begins_with_text" sBegins fB fdB) (gB : mg "begins_with_text" = some (.ref fB))
    (GL : FnOk P w K mg base CX0 7 fL fdL ["row"] (spLine K Ps)) (FL : FnP K "is_line" sLine fL fdL) (gL : mg "is_line" = some (.ref fL)) (GW : FnOk P w K mg base CX0 7 fW fdW ["thing"] (spAW K Ps W OK)) {stW : Stmt} (FW : FnP K "are_words" stW fW fdW) (gW : mg "are_words" = some (.ref fW)) (bW : Binds K fdW ["thing"] [])
    (gR : mg "room_behind_row" = some (.ref fR)) (gS : mg "room_behind_rows" = some (.ref fS)) (ml : mg "len" = none) (mi : mg "isinstance" = none) (mt : mg "tuple" = none) :
    ∀ n, FnOk P w K mg base CX0 (8 + 2 * n) fR fdR ["row", "room", "tries"] (spRow K Ps W OK n) ∧ FnOk P w K mg base CX0 (9 + 2 * n) fS fdS ["rows", "room", "tries"] (spRows K Ps W OK n) := by
  intro n
  induction n with
  | zero =>
    have h := ok_row (n := 0) (k := 7) FR GB FB gB GL FL gL GW FW gW bW (Nat.le_refl _) ok_none FS gS ml
    exact ⟨h, ok_rows FS h FR gR mi mt⟩
  | succ n ih =>
    have h := ok_row (n := n + 1) (k := 9 + 2 * n) FR GB FB gB GL FL gL GW FW gW bW (by omega) ih.2 FS gS ml
    have e : 9 + 2 * n + 1 = 8 + 2 * (n + 1) := by omega
    rw [e] at h
    have h2 := ok_rows FS h FR gR mi mt
    have e2 : 8 + 2 * (n + 1) + 1 = 9 + 2 * (n + 1) := by omega
    rw [e2] at h2
    exact ⟨h, h2⟩
def rowB (W : Th → Bool) (t : Th) : Bool := (rowT W 3 40 t).isSome
def bodyB (W : Th → Bool) (t : Th) : Bool := (rowsTh (rowT W 3) 40 t).isSome
theorem roomV_not (o : Option Nat) : (!decide (roomV o = V.non)) = o.isSome := by
  cases o with
  | none => rfl
  | some r => rfl
def spIsBody (K : PySem.W.Frag) (Ps : List Addr) (W : Th → Bool) (OK : Th → Prop) : Sp := fun vs H Q _ => ∃ v t, vs = [v] ∧ Tt K H v t ∧ domTh (domT OK 3) t ∧ TabsOk Ps H ∧ ∀ H', Sm H H' → TabsOk Ps H' → Q (.bl (bodyB W t)) H'
theorem ok_isBody (F : FnP K "is_body" sIsBody f fd) (GR : FnOk P w K mg base CX0 15 fR fdR ["rows", "room", "tries"] (spRows K Ps W OK 3)) (FR : FnP K "room_behind_rows" sRows fR fdR) (gR : mg "room_behind_rows" = some (.ref fR)) (c40 : ∃ t, mg "ROWS_AT_MOST" = some (.int 40 t)) (c3 : ∃ t, mg "TRIES_AT_MOST" = some (.int 3 t)) :
    FnOk P w K mg base CX0 16 f fd ["thing"] (spIsBody K Ps W OK) := by
  obtain ⟨t40, c40⟩ := c40
  obtain ⟨t3, c3⟩ := c3
  have bR : Binds K fdR ["rows", "room", "tries"] [] := FR.bindsN fun _ _ _ _ _ _ us hl => match us, hl with | [_, _, _], _ => rfl
  refine ok_code F scIsBody (fun vs H Q E h => ?_) (fun cdv A outer s H vs Q E hcd hr h => ?_)
  · obtain ⟨v, t, rfl, _⟩ := h
    rfl
  · obtain ⟨v, t, rfl, ht, hd, hT, q⟩ := h
    refine ⟨_, pss_one (ps_ret (pe_cmpR op_notN (pe_call GR hr (by rfl) gR FR.kp bR .nil pass0 (pa_cons (pv 0) (pa_cons (pe_glob (v := .int 40) (by rfl) c40 ⟨_, rfl⟩) (pa_cons (pe_glob (v := .int 3) (by rfl) c3 ⟨_, rfl⟩) pa_nil)))) pe_non (nomark _))), ?_⟩
    refine ⟨_, rfl, v, t, 40, rfl, by decide, ht, hd, hT, fun H1 s1 hT1 => ⟨rfl, ?_⟩⟩
    have := q H1 s1 hT1
    unfold bodyB at this
    rw [← roomV_not] at this
    exact this
end
end P13
set_option maxHeartbeats 4000000
namespace XE
open PySem PySem.Spec PyProof.Rows L2 HM
/-! ### len(set(t)), t a tuple of texts -/
/-- how many unlike ones are among the first i -/
def dst (ys : List Str) : Nat → Nat
  | 0 => 0
  | i + 1 => if decide (ys.getD i "" ∈ ys.take i) = true then dst ys i else dst ys i + 1
theorem dst_le (ys : List Str) : ∀ i, dst ys i ≤ i
  | 0 => Nat.le_refl _
  | i + 1 => by
    have := dst_le ys i
    unfold dst
    split <;> omega
theorem take_getD {ys : List Str} {i : Nat} (h : i < ys.length) : ys.take (i + 1) = ys.take i ++ [ys.getD i ""] := by
  rw [List.take_add_one, List.getD_eq_getElem?_getD, List.getElem?_eq_getElem h]
  rfl
theorem dst_all (ys : List Str) : ∀ i, i ≤ ys.length → (dst ys i = i ↔ (ys.take i).Nodup)
  | 0, _ => by simp [dst]
  | i + 1, h => by
    have ih := dst_all ys i (by omega)
    have hl := dst_le ys i
    rw [take_getD (by omega)]
    unfold dst
    by_cases hm : ys.getD i "" ∈ ys.take i
    · rw [if_pos (decide_eq_true hm)]
      refine ⟨fun z => by omega, fun z => ?_⟩
      have := (List.nodup_append.mp z).2.2 _ hm _ (List.mem_singleton.mpr rfl)
      exact absurd rfl this
    · rw [if_neg (by rw [decide_eq_false hm]; exact Bool.false_ne_true)]
      refine ⟨fun z => ?_, fun z => ?_⟩
      · have h1 := ih.mp (by omega)
        refine List.nodup_append.mpr ⟨h1, by simp, fun a ha b hb => ?_⟩
        rw [List.mem_singleton.mp hb]
        exact fun e => hm (e ▸ ha)
      · have := ih.mpr (List.nodup_append.mp z).1
        omega
abbrev eS (led : Bool) : Obj := { cls := .type "set", dict := none, data := .set #[] 0 (.fresh 0 0 led) }
section
variable {P : Program} {w : World} {A : Around} {E : Value → Shared → Prop} {s : Shared}
theorem set_loop {I : Addr} {fp wr : List Addr} {G : Array GenState → Array GenState → Prop} {n : Nat} {Pv : Nat → Value → Prop} {St : Nat → Shared → Prop} {R : Result → Shared → Prop} (wk : WalksS P w A.in1 I fp wr G n Pv St) (S : Addr) (out : S ∉ fp) (ys : List Str) (hn : n = ys.length) (hb : n + 1 < scanBound)
    (hv : ∀ i v, Pv i v → ∃ t, v = .str (ys.getD i "") t) : ∀ (k i : Nat) (s : Shared), n - i = k → i ≤ n → St i s → s.heap.SetOf (strKind P w) S (fun y => decide (y ∈ ys.take i)) (dst ys i) →
      (∀ s', Moved (S :: wr) G s s' → s'.heap.SetOf (strKind P w) S (fun y => decide (y ∈ ys.take n)) (dst ys n) → R (.ok (.ret .none)) s') → codeAny (model P w) A (.builtin "set.update.loop" ⟨[.ref S, .ref I], []⟩) R s := by
  have outW : S ∉ wr := fun z => out (wk.sub _ z)
  have more : ∀ b ∈ wr, b ∈ S :: wr := fun b z => .tail _ z
  have stays : ∀ {s1 s2 : Shared} {T : Str → Bool} {c : Nat}, Moved wr G s1 s2 → s1.heap.SetOf (strKind P w) S T c → s2.heap.SetOf (strKind P w) S T c := fun m ⟨o, es, ep, t, ho, r⟩ => ⟨o, es, ep, t, m.heap S _ outW ho, r⟩
  intro k
  induction k with
  | zero =>
    intro i s e1 e2 st hS hR
    obtain rfl : i = n := by omega
    refine codeAny_builtin F.entry_set_update_loop ?_
    rw [Around.under_plainId F.plain_set_update_loop _]
    show wpAny _ A.in1 (pyNext (.ref I) >>= _) _ _ s
    refine wpAny_bind (wk.done s _ _ st fun s2 m => ?_)
    exact wpAny_pure (hR s2 (m.mono more) (stays m hS))
  | succ k ih =>
    intro i s e1 e2 st hS hR
    have lt : i < n := by omega
    refine codeAny_builtin F.entry_set_update_loop ?_
    rw [Around.under_plainId F.plain_set_update_loop _]
    show wpAny _ A.in1 (pyNext (.ref I) >>= _) _ _ s
    refine wpAny_bind (wk.item i s _ _ lt st fun v s2 hP st2 m => ?_)
    obtain ⟨t, rfl⟩ := hv i v hP
    have hS2 := stays m hS
    show wpAny _ A.in1 (holding [Value.str (ys.getD i "") t] (setAdd S (.str (ys.getD i "") t)) >>= _) _ _ s2
    refine wpAny_bind (wpAny_holding ?_)
    unfold setAdd
    refine wpAny_holding (wpAny_bind ((strKind P w).pyHash (k := ys.getD i "") (strKind_is _ _ _ _) ?_))
    have room : dst ys i + 1 < scanBound := by
      have := dst_le ys i
      omega
    refine wpAny_setAddHashed_of (knd := strKind P w) (s := { s2 with toks := s2.toks + 1 }) (strKind_is _ _ _ _) rfl hS2 room fun h3 sb hS3 => ?_
    have hS4 : h3.SetOf (strKind P w) S (fun y => decide (y ∈ ys.take (i + 1))) (dst ys (i + 1)) := SetOf_congr hS3 (fun y => by
      rw [take_getD (by omega)]
      simp [List.mem_append]) rfl
    refine wpAny_pure ⟨plainId_quiet F.plain_set_update_loop _, ih (i + 1) _ (by omega) lt (wk.frame _ s2 _ _ st2 (Nat.le_succ _) fun b hb o e => ?_) hS4 fun s5 m5 hS5 => ?_⟩
    · exact (sb.2 b fun z => out (z ▸ hb)).trans e
    · exact hR s5 (Moved.trans wk.gtrans ((m.mono more).then_heap (Nat.le_succ _) fun b o hb e => (sb.2 b fun z => hb (by rw [z]; exact .head _)).trans e) m5) hS5
theorem new_set (a : Value) {Q : Value → Shared → Prop} (h : ∀ led, Q (.ref s.heap.objs.size) { s with heap := s.heap.push (eS led) }) : codeAny (model P w) A (.call (.builtin "set.__new__") ⟨[.type "set", a], []⟩) (wants Q E) s := code_set_new_1 a h
/-- set(t) -/
theorem call_setS {l : Addr} {items : Array Value} {ys : List Str} {Q : Value → Shared → Prop} (hh : A.handled = none) (hl : s.heap.IsTuple l items) (hi : ∀ (i : Nat) (v : Value), items[i]? = some v → ∃ t, v = Value.str (ys.getD i "") t) (hz : items.size = ys.length) (hb : items.size + 1 < scanBound)
    (h : ∀ (h2 : Heap) (tk : Nat), h2.SetOf (strKind P w) s.heap.objs.size (fun y => decide (y ∈ ys.take items.size)) (dst ys items.size) → (∀ b o, s.heap.get? b = some o → h2.get? b = some o) → Q (.ref s.heap.objs.size) { s with heap := h2, toks := tk }) :
    wpAny (model P w) A (call (.type "set") [.ref l]) Q E s := by
  obtain ⟨c, tl, hmro⟩ := F.called_set.mro
  have m1 := F.called_set.made
  have m2 := F.called_set.sub
  refine wpAny_call (codeAny_of_tree ?_)
  show wpAny _ _ (callAny (.type "set") _) _ _ _
  refine wpAny_pure ⟨Code.quiet_builtin _ (by decide +kernel), codeAny_builtin F.entry_type_call ?_⟩
  rw [Around.under_plain (weight_type_call_type "set" [.ref l] []) rfl]
  have m3 := F.called_set.notType
  have m4 := F.called_set.canCreate
  have m5 := F.typeCall_set_1 (.ref l)
  repeat (any_goals (first | assumption | wp_step))
  refine codeAny_mono (new_set (.ref l) (E := E) (Q := fun obj s1 => ∃ led, obj = .ref s.heap.objs.size ∧ s1 = { s with heap := s.heap.push (eS led) }) fun led => ⟨led, rfl, rfl⟩) fun r s1 hr => ?_
  match r, hr with
  | .error e, hr => exact hr
  | .ok (.ret obj), ⟨led, e1, e2⟩ =>
    subst e1 e2
    have hS : (s.heap.push (eS led)).get? s.heap.objs.size = some (eS led) := Heap.get?_push_size _ rfl
    have hT : Shared.TypeIs { s with heap := s.heap.push (eS led) } (.ref s.heap.objs.size) "set" := ⟨_, hS, rfl⟩
    have m6 := F.called_set.init.lookup
    have m7 := F.called_set.init.bind (.ref s.heap.objs.size)
    repeat (any_goals (first | assumption | wp_step))
    refine codeAny_mono (codeAny_call_builtin (R := wants (fun r s2 => r = .none ∧ ∃ h2 tk, s2 = { s with heap := h2, toks := tk } ∧ h2.SetOf (strKind P w) s.heap.objs.size (fun y => decide (y ∈ ys.take items.size)) (dst ys items.size) ∧ ∀ b o, s.heap.get? b = some o → h2.get? b = some o) E)
      F.called_set.init.plain F.entry_set_init (check_set_init_1 hT ?_)) fun r2 s2 hr2 => ?_
    · obtain ⟨⟨oc, od, odt, osl⟩, hol, hcl, nl, hdl⟩ := hl
      simp only at hcl hdl
      subst hcl hdl
      have hol2 : (s.heap.push (eS led)).get? l = some { cls := .type "tuple", dict := od, data := .seq items nl, slots := osl } := Heap.get?_push_of_some _ hol
      have m8 := F.sub_tuple_set
      have m9 := F.sub_tuple_frozenset
      have m10 : (Value.type "tuple" == Value.type "dict") = false := by decide
      have tup : (s.heap.push (eS led)).IsTuple l items := ⟨_, hol2, rfl, nl, rfl⟩
      unfold Builtin.«set.__init__» noKeywords Builtin.Frozenset.updateFrom
      generalize hPI : pyIter = PI
      wp_walk
      subst hPI
      refine wpAny_pyIter_tuple tup (wpAny_bind (wpAny_runValue ?_))
      have lS : l < s.heap.objs.size := Heap.lt_size hol
      have hz1 : (s.heap.push (eS led)).objs.size = s.heap.objs.size + 1 := Heap.size_push ..
      have neI : l ≠ (s.heap.push (eS led)).objs.size := by
        rw [hz1]
        exact Nat.ne_of_lt (Nat.lt_succ_of_lt lS)
      have outS : s.heap.objs.size ∉ [(s.heap.push (eS led)).objs.size, l] := by
        rw [hz1]
        simp only [List.mem_cons, List.not_mem_nil, or_false, not_or]
        exact ⟨Nat.ne_of_lt (Nat.lt_succ_self _), Nat.ne_of_gt lS⟩
      refine set_loop ((Walks.tuple (by simp [hh]) _ l neI items).toS) s.heap.objs.size outS ys hz hb hi (items.size - 0) 0 _ (by omega) (Nat.zero_le _) ⟨⟨_, Heap.get?_push_size _ rfl, rfl, rfl⟩, tup.push _⟩ ?_ ?_
      · exact SetOf_congr ((setObjOf_fresh (knd := strKind P w) led).setOf (Heap.get?_push_of_some _ hS) (by unfold scanBound; omega)) (fun y => by simp) rfl
      · intro s3 m hS3
        obtain ⟨h3, g3, d3, t3, os3⟩ := s3
        obtain rfl : g3 = s.gens := m.gens
        obtain rfl : d3 = s.drawn := m.drawn
        obtain rfl : os3 = s.os := m.os
        refine wpAny_pure ?_
        show wpAny _ _ (ret Value.none) _ _ _
        refine wpAny_pure ⟨rfl, h3, t3, rfl, hS3, fun b o e => ?_⟩
        have lb : b < s.heap.objs.size := Heap.lt_size e
        refine m.heap b o ?_ (Heap.get?_push_of_some _ (Heap.get?_push_of_some _ e))
        rw [hz1]
        simp only [List.mem_cons, List.not_mem_nil, or_false, not_or]
        exact ⟨Nat.ne_of_lt lb, Nat.ne_of_lt (Nat.lt_succ_of_lt lb)⟩
    · match r2, hr2 with
      | .error e, hr2 => exact hr2
      | .ok (.ret v), ⟨e1, h2, tk, e2, hS2, kp⟩ =>
        subst e1 e2
        repeat (any_goals (first | assumption | wp_step))
        exact h h2 tk hS2 kp
end
section
variable {X : Cx}
def tLenSetS (K : PySem.W.Frag) (ta : TE) : TE := fun σ H Q => ta σ H fun x H1 => ∃ (l : Addr) (ys : List Str), x = .ref l ∧ SqT K H1 l (ys.map V.str) ∧ ys.length < 1000 ∧ Q (.int (dst ys ys.length)) H1
theorem strs_at {ys : List Str} {its : List Value} (r : Vals (ys.map V.str) its) : ∀ (i : Nat) (v : Value), its.toArray[i]? = some v → ∃ t, v = .str (ys.getD i "") t := fun i v h => by
  have h2 : its[i]? = some v := by simpa using h
  have hi : i < ys.length := by
    have := (List.getElem?_eq_some_iff.mp h2).1
    have e := r.length
    rw [List.length_map] at e
    omega
  have h3 : (ys.map V.str)[i]? = some (.str ys[i]) := by rw [List.getElem?_map, List.getElem?_eq_getElem hi]; rfl
  obtain ⟨u, hu, ⟨t, rfl⟩⟩ := r.get h3
  rw [h2] at hu
  cases hu
  refine ⟨t, ?_⟩
  rw [List.getD_eq_getElem?_getD, List.getElem?_eq_getElem hi]
  rfl
theorem pe_lenSetS {a : Expr} {ta : TE} {p p2 q pos : Pos} (hc : X.calm = true) (hg : Gl X "len") (hm : X.mg "len" = none) (hg2 : Gl X "set") (hm2 : X.mg "set" = none) (ha : PE X a ta) (na : starEach [a] X.env = (false, eval a X.env) :: starEach [] X.env := by rfl) :
    PE X (.Call (.Name "len" p) [.Call (.Name "set" p2) [a] [] q] [] pos) (tLenSetS X.K ta) := by
  refine ⟨fun pins s σ H Q I h => Call_ (ld_blt I hg hm PySem.boot_len (PyProof.Rows.callWith_builtin1 (PyProof.Rows.args_cons (Call_ (ld_blt I hg2 hm2 PyProof.Rows.boot_set ?_)) rfl) rfl rfl))⟩
  refine PyProof.Rows.callWith_type1 (PyProof.Rows.args_cons (thn (ha.run pins s σ H _ I h) fun v s1 ⟨x, H1, I1, r1, l, ys, ex, hq, hl, q1⟩ => PyProof.Rows.args_nil ?_) na) na rfl
  subst ex
  cases r1
  obtain ⟨its, r, pl, hz⟩ := I1.tuple hq
  have hlen : its.toArray.size = ys.length := by rw [List.size_toArray, ← r.length, List.length_map]
  refine call_setS (ys := ys) (I1.ok.hd hc) (by obtain ⟨o, h1, h2, h3⟩ := pl; exact ⟨o, h1, h2, h3⟩) (strs_at r) hlen (by unfold scanBound; omega) fun h2 tk hS kp => ?_
  rw [hlen] at hS
  refine PyProof.Rows.args_nil ?_
  obtain ⟨o, es, ep, t, ho, hex, hd, _, _, _, hf, hn⟩ := hS
  have le := dst_le ys ys.length
  exact call_len_set ho hex hd hf (by rw [hn]; omega) ⟨.int (dst ys ys.length), H1, (I1.kept (t' := tk) kp).tok _, ⟨_, by rw [hn]⟩, q1⟩
end
end XE
set_option maxHeartbeats 4000000
namespace P13
open PySem PySem.Spec PyProof.Rows L2 HM SX K11 XD XE
abbrev sWord : Stmt := top 15
abbrev sWords : Stmt := top 16
theorem scWord : FnScope ["thing"] ["thing"] (defScope sWord) := ⟨rfl, rfl, rfl, by decide +kernel, rfl, by decide +kernel, by decide +kernel⟩
theorem scWords : FnScope ["thing"] ["thing"] (defScope sWords) := ⟨rfl, rfl, rfl, by decide +kernel, rfl, by decide +kernel, by decide +kernel⟩
def great : List Str := ["NOMODULE", "NONAME", "HALF", "FLAT", "NOTASK", "ALL"]
def wordT : Th → Bool
  | .str l => nameL l || decide (S l ∈ great)
  | _ => false
def strsOf : List Th → List Str
  | [] => []
  | .str l :: ts => S l :: strsOf ts
  | _ :: ts => strsOf ts
def wordsT : Th → Bool
  | .tup ts => ts.all wordT && decide (strsOf ts).Nodup
  | _ => false
theorem inV_strs (z : Str) : ∀ ys : List Str, inV (.str z) (ys.map V.str) = decide (z ∈ ys)
  | [] => rfl
  | y :: ys => by
    have ih := inV_strs z ys
    unfold inV at ih ⊢
    rw [List.map_cons, List.any_cons, ih]
    show ((y == z) || decide (z ∈ ys)) = _
    by_cases h : z = y
    · subst h
      simp
    · have hb : (y == z) = false := beq_eq_false_iff_ne.mpr fun e => h e.symm
      rw [hb, Bool.false_or]
      simp [h]
section
variable {P : Program} {w : World} {K : PySem.W.Frag} {mg : Str → Option Value} {base : Heap} {f fN fW : Addr} {fd fdN fdW : FuncData} {Ps : List Addr}
def spWord (K : PySem.W.Frag) (Ps : List Addr) : Sp := fun vs H Q _ => ∃ v t, vs = [v] ∧ Tt K H v t ∧ TabsOk Ps H ∧ ∀ H', Sm H H' → TabsOk Ps H' → Q (.bl (wordT t)) H'
theorem ok_word (F : FnP K "is_word" sWord f fd) (GN : FnOk P w K mg base CX0 2 fN fdN ["thing"] (spName K Ps)) (FN : FnP K "is_name" sName fN fdN) (gN : mg "is_name" = some (.ref fN)) {pg : Addr} (gG : mg "GREAT_WORDS" = some (.ref pg)) (hG : ∀ H : Hp, SqT K H pg (great.map V.str))
    (mi : mg "isinstance" = none) (ms : mg "str" = none) : FnOk P w K mg base CX0 3 f fd ["thing"] (spWord K Ps) := by
  have bN : Binds K fdN ["thing"] [] := FN.bindsN fun _ _ _ _ _ _ us hl => match us, hl with | [_], _ => rfl
  refine ok_code F scWord (fun vs H Q E h => ?_) (fun cdv A outer s H vs Q E hcd hr h => ?_)
  · obtain ⟨v, t, rfl, _⟩ := h
    rfl
  · obtain ⟨v, t, rfl, ht, hT, q⟩ := h
    refine ⟨_, pss_one (ps_ret (pe_or (pe_call GN hr (by rfl) gN FN.kp bN .nil pass0 (pa_cons (pv 0) pa_nil)) (pe_one (pe_and (pe_callB call_isi (by rfl) mi (by decide +kernel) (pa_cons (pv 0) (pa_cons (pe_bltn (v := .ty "str") (by rfl) ms (by decide +kernel) rfl) pa_nil)))
      (pe_one (pe_cmpR op_in_seq (pv 0) (pe_glob (v := .ref pg) (by rfl) gG rfl) (by rfl))))))), ?_⟩
    refine ⟨_, rfl, v, rfl, hT, ?_⟩
    cases hs : isS t with
    | false =>
      have e : wordT t = false := by
        cases t <;> first | rfl | cases hs
      have q1 := q H (Sm.refl H) hT
      rw [e] at q1
      refine .inr ⟨no_str ht hs, _, rfl, _, rfl, _, _, _, _, _, rfl, .ty "str", ht.ty, kit_ty (kS t), _, rfl, ?_⟩
      rw [hs]
      exact q1
    | true =>
      cases ht with
      | str l h =>
        refine .inl ⟨l, rfl, by omega, fun H1 s1 hT1 => ⟨_, rfl, ?_⟩⟩
        have q1 := q H1 s1 hT1
        cases hn : nameL l with
        | true =>
          have e : wordT (.str l) = true := by
            show (nameL l || _) = true
            rw [hn, Bool.true_or]
          rw [e] at q1
          exact q1
        | false =>
          have e : wordT (.str l) = decide (S l ∈ great) := by
            show (nameL l || _) = _
            rw [hn, Bool.false_or]
          rw [e, ← inV_strs] at q1
          exact ⟨_, rfl, _, _, _, _, true, rfl, .ty "str", .base (.str _), kit_ty (by decide +kernel), _, rfl, _, rfl, pg, _, rfl, .inr (hG _), rfl, by decide +kernel, q1⟩
      | _ => cases hs
def okW : Th → Prop
  | .tup ts => ts.length < 900
  | _ => True
theorem strs_of : ∀ {ts : List Th} {xs : List V} {H : Hp}, TtAll K H xs ts → ts.all wordT = true → xs = (strsOf ts).map V.str ∧ (strsOf ts).length = ts.length
  | _, _, _, .nil, _ => ⟨rfl, rfl⟩
  | t :: ts, _, _, .cons h r, e => by
    rw [List.all_cons, Bool.and_eq_true] at e
    obtain ⟨e1, e2⟩ := strs_of r e.2
    cases h with
    | str l hl =>
      refine ⟨?_, ?_⟩
      · show _ = V.str (S l) :: (strsOf ts).map V.str
        rw [← e1]
      · show (strsOf ts).length + 1 = ts.length + 1
        rw [e2]
    | _ => cases e.1
theorem ok_words (F : FnP K "are_words" sWords (He.fAd K ("are_words", none)) fd) (hP : (He.cT K ("are_words", none)).2 ∈ Ps) (TB : GxR.TabB base mg (He.cT K ("are_words", none)).1 (He.cT K ("are_words", none)).2)
    (GW : FnOk P w K mg base CX0 3 fW fdW ["thing"] (spWord K Ps)) (FW : FnP K "is_word" sWord fW fdW) (gW : mg "is_word" = some (.ref fW)) (mi : mg "isinstance" = none) (mt : mg "tuple" = none) (ma : mg "all" = none) (ml : mg "len" = none) (me : mg "set" = none) :
    FnOk P w K mg base CX0 7 (He.fAd K ("are_words", none)) fd ["thing"] (spAW K Ps wordsT okW) := by
  have bW : Binds K fdW ["thing"] [] := FW.bindsN fun _ _ _ _ _ _ us hl => match us, hl with | [_], _ => rfl
  refine (ok_code (k := 6) F scWords (fun vs H Q E h => ?_) (fun cdv A outer s H vs Q E hcd hr h => ?_))
  · obtain ⟨v, t, rfl, _⟩ := h
    rfl
  · obtain ⟨v, t, rfl, ht, hO, hT, q⟩ := h
    have hc : cdv = .ref (He.cT K ("are_words", none)).1 := hcd ("are_words", none) rfl
    refine ⟨_, pss_cons (ps_if (PW.pt (pw_or (pt_not (pt_val (pe_callB call_isi (by rfl) mi (by decide +kernel) (pa_cons (pv 0) (pa_cons (pe_bltn (v := .ty "tuple") (by rfl) mt (by decide +kernel) rfl) pa_nil)))))
        (pw_or1 (pt_not (pt_val (GxA.pe_allG (N := ["word"]) (k := 3) (te := tCall (spWord K Ps) [] E0 (tCons (tVar 0) tNil)) (hr.mono (by decide)) (by rfl) ma TB hc ⟨rfl, rfl, by decide +kernel, by decide +kernel, rfl⟩ (pi_tup (pv 0))
          (fun _ _ _ _ _ e => pg_name (i := 0) (by show (["word"] : List Str).Nodup; decide) rfl (.inl (by rw [show (GxA.genCx _ _ _ _ _ _ _).env.scope = _ from e]; rfl)) (.inr (by rw [show (GxA.genCx _ _ _ _ _ _ _).env.scope = _ from e]; rfl)))
          (fun _ _ _ _ _ e hrm => pe_call GW hrm (show (GxA.genCx _ _ _ _ _ _ _).env.scope.names.lookup _ = _ by rw [show (GxA.genCx _ _ _ _ _ _ _).env.scope = _ from e]; rfl) gW FW.kp bW .nil pass0
            (pa_cons (pe_var (i := 0) rfl (.inl (by rw [show (GxA.genCx _ _ _ _ _ _ _).env.scope = _ from e]; rfl))) pa_nil)) (fun _ => rfl))))))) (pss_one (ps_ret pe_bl)) pss_nil)
      (pss_one (ps_ret (pe_cmpR op_eq (pe_lenSetS rfl (by rfl) ml (by rfl) me (pv 0)) (pe_callB call_len_seq (by rfl) ml PySem.boot_len (pa_cons (pv 0) pa_nil)) (nomark _)))), ?_⟩
    refine ⟨_, rfl, _, _, _, _, _, rfl, .ty "tuple", ht.ty, kit_ty (kT t), _, rfl, ?_⟩
    cases hi : isT t with
    | false =>
      have e : wordsT t = false := by
        cases t <;> first | rfl | cases hi
      have q1 := q H (Sm.refl H) hT
      rw [e] at q1
      exact q1
    | true =>
      cases ht with
      | @tup a xs ts hx hall =>
        have hlen := hall.len
        refine ⟨_, rfl, a, rfl, ⟨_, hx⟩, hT _ hP, fun H2 hTb => ?_⟩
        have s2 := sm_tabbed (hT _ hP) hTb
        refine GxA.all_it (walk_tup (xs := xs)) (fun i H' => Sm H H' ∧ TabsOk Ps H' ∧ (ts.take i).all wordT = true) ⟨s2, hT.tabbed hTb, rfl⟩ (fun i H' _ h => sqT_sm h.1 hx) ?_ ?_
        · rintro i x H3 H4 hi2 ⟨s3, t3, ha⟩ ⟨rfl, hx2⟩
          obtain ⟨t, ht2, htt⟩ := hall.get i hx2
          have eall : (ts.take (i + 1)).all wordT = wordT t := by
            rw [take_snoc ht2, List.all_append, ha, Bool.true_and]
            simp
          refine ⟨_, rfl, x, t, rfl, htt.sm s3, t3, fun H5 s5 t5 => ⟨_, rfl, ?_⟩⟩
          cases hw : wordT t with
          | true => exact ⟨s3.trans s5, t5, by rw [eall]; exact hw⟩
          | false =>
            have q1 := q H5 (s3.trans s5) t5
            have e6 : ts.all wordT = false := List.all_eq_false.mpr ⟨t, List.mem_of_getElem? ht2, by rw [hw]; exact Bool.false_ne_true⟩
            have e7 : wordsT (.tup ts) = false := by
              show (ts.all wordT && _) = false
              rw [e6, Bool.false_and]
            rw [e7] at q1
            exact ⟨_, rfl, q1⟩
        · rintro H3 ⟨s3, t3, ha⟩
          rw [hlen, List.take_length] at ha
          obtain ⟨ex, el⟩ := strs_of hall ha
          have q1 := q H3 s3 t3
          have hx3 := sqT_sm s3 hx
          rw [ex] at hx3
          have hO : ts.length < 900 := hO
          refine ⟨_, rfl, _, rfl, a, strsOf ts, rfl, hx3, by omega, _, rfl, a, _, rfl, .inr hx3, rfl, ?_⟩
          have e7 : decide (V.int (dst (strsOf ts) (strsOf ts).length : Int) = V.int (((strsOf ts).map V.str).length : Int)) = wordsT (.tup ts) := by
            show _ = (ts.all wordT && decide (strsOf ts).Nodup)
            rw [ha, Bool.true_and, List.length_map]
            have hd := dst_all (strsOf ts) (strsOf ts).length (Nat.le_refl _)
            rw [List.take_length] at hd
            by_cases hnd : (strsOf ts).Nodup
            · rw [decide_eq_true hnd, hd.mpr hnd, decide_eq_true rfl]
            · rw [decide_eq_false hnd]
              refine decide_eq_false fun z => hnd (hd.mp ?_)
              have := V.int.inj z
              omega
          show Q (V.bl (decide _)) H3
          rw [e7]
          exact q1
      | _ => cases hi
end
end P13
set_option maxHeartbeats 4000000
/-! The draws of the laws, apart from any row: a pot of a cell's digits and a running number. -/
namespace XW
open PySem PySem.Spec PyProof.Rows L2 HM
/-- the k-th cell, or 0 -/
def spAt (K : PySem.W.Frag) : Sp := fun vs H Q _ => ∃ (a : Addr) (ns : List Int) (k : Nat), vs = [.ref a, .int k] ∧ SqL K H a (ns.map V.int) ∧ Q (.int (ns.getD k 0)) H
/-- a pot: what is left of the cell's digits, and the running number -/
structure PotOk (p0 p1 : Int) : Prop where
  h0 : 0 ≤ p0
  h1 : 0 ≤ p1
  h2 : p1 < 2147483648
def PotAt (H : Hp) (l : Addr) : Prop := ∃ p0 p1, H l = some (.lst [.int p0, .int p1]) ∧ PotOk p0 p1
def spPot (K : PySem.W.Frag) : Sp := fun vs H Q _ => ∃ (a : Addr) (ns : List Int) (k : Nat), vs = [.ref a, .int k] ∧ k ≤ 100 ∧ SqL K H a (ns.map V.int) ∧ ∀ l p0 p1, H l = none → PotOk p0 p1 → Q (.ref l) (upd H l (.lst [.int p0, .int p1]))
/-- a draw: some number below many; the pot goes on -/
def spDraw : Sp := fun vs H Q _ => ∃ (l : Addr) (many p0 p1 : Int), vs = [.ref l, .int many] ∧ 0 < many ∧ many.natAbs.log2 < 9000 ∧ H l = some (.lst [.int p0, .int p1]) ∧ PotOk p0 p1 ∧
  ∀ H' d, (∀ b o, H b = some o → b ≠ l → H' b = some o) → PotAt H' l → 0 ≤ d → d < many → Q (.int d) H'
/-! ### heaps that go on but for a pot -/
def Ch (l : Addr) (H H' : Hp) : Prop := ∀ b o, H b = some o → b ≠ l → H' b = some o
theorem Ch.refl (l : Addr) (H : Hp) : Ch l H H := fun _ _ e _ => e
theorem Ch.trans {l : Addr} {H H1 H2 : Hp} (a : Ch l H H1) (b : Ch l H1 H2) : Ch l H H2 := fun c o e n => b c o (a c o e n) n
theorem Ch.new {l : Addr} {H : Hp} {p : Addr} {o : HO} (h : H p = none) : Ch l H (upd H p o) := fun b u e _ => by
  rw [upd_ne (ne_of_none e h)]
  exact e
/-- a new thing is changed -/
theorem Ch.over {l : Addr} {H H1 : Hp} {p : Addr} {o : HO} (a : Ch l H H1) (h : H p = none) : Ch l H (upd H1 p o) := fun b u e n => by
  rw [upd_ne (ne_of_none e h)]
  exact a b u e n
theorem Ch.free {l : Addr} {H H1 : Hp} {p : Addr} (a : Ch l H H1) (h : H1 p = none) (n : p ≠ l) : H p = none := by
  cases e : H p with
  | none => rfl
  | some o =>
    rw [a p o e n] at h
    cases h
theorem map_snoc {α : Type} (f : α → V) (xs : List α) (x : α) : xs.map f ++ [f x] = (xs ++ [x]).map f := by simp
theorem PotAt.new {l : Addr} {H : Hp} {p : Addr} {o : HO} (h : PotAt H l) (hp : p ≠ l) : PotAt (upd H p o) l := by
  obtain ⟨p0, p1, e, k⟩ := h
  exact ⟨p0, p1, by rw [upd_ne (Ne.symm hp)]; exact e, k⟩
theorem PotAt.ne {l : Addr} {H : Hp} {p : Addr} (h : PotAt H l) (hp : H p = none) : p ≠ l := by
  obtain ⟨p0, p1, e, k⟩ := h
  exact fun z => by
    rw [z, e] at hp
    cases hp
theorem draw_of {l : Addr} {H : Hp} {many : Int} {Q : VK} {E : XK} (hP : PotAt H l) (h0 : 0 < many) (h1 : many.natAbs.log2 < 9000) (q : ∀ H' d, Ch l H H' → PotAt H' l → 0 ≤ d → d < many → Q (.int d) H') : spDraw ([.ref l, .int many] ++ []) H Q E := by
  obtain ⟨p0, p1, e, k⟩ := hP
  exact ⟨l, many, p0, p1, rfl, h0, h1, e, k, q⟩
theorem len_join (a : Str) (ys : List Str) : (Txt.join a ys).length ≤ (ys.map (·.length)).sum + ys.length * a.length := by
  rw [TL.join_eq]
  exact StrLaws.join_length_le a ys
theorem str_len (x y : Str) : (x ++ y).length = x.length + y.length := strLen_append x y
/-! ### signs that a text may have -/
def okS (z : Str) : Prop := ∀ c ∈ z.cps.toList, c < 1114112
theorem okS_cut {z : Str} (h : okS z) (lo hi : Option Int) : okS (cutS z lo hi) := fun c hc => h c (List.mem_of_mem_drop (List.mem_of_mem_take hc))
theorem okS_app {x y : Str} (hx : okS x) (hy : okS y) : okS (x ++ y) := fun c hc => by
  have e : (x ++ y).cps.toList = x.cps.toList ++ y.cps.toList := TL.tl_append x y
  rw [e] at hc
  rcases List.mem_append.mp hc with z | z
  · exact hx c z
  · exact hy c z
theorem okS_one {c : Nat} (h : c < 1114112) : okS ⟨#[c]⟩ := fun d hd => by
  have e : d = c := by simpa using hd
  rw [e]
  exact h
theorem okS_strJoin {a : Str} (ha : okS a) : ∀ {ys : List Str}, (∀ y ∈ ys, okS y) → okS (Str.join a ys)
  | [], _ => fun c hc => by
    have : c ∈ ([] : List Nat) := hc
    cases this
  | [x], h => h x List.mem_cons_self
  | x :: z :: r, h => okS_app (okS_app (h x List.mem_cons_self) ha) (okS_strJoin ha fun y hy => h y (List.mem_cons_of_mem _ hy))
theorem okS_join {a : Str} (ha : okS a) {ys : List Str} (h : ∀ y ∈ ys, okS y) : okS (Txt.join a ys) := by
  rw [TL.join_eq]
  exact okS_strJoin ha h
abbrev abc : Str := Str.ofString "abcdefghijklmnopqrstuvwxyz"
theorem abc_len : abc.cps.toList.length = 26 := by decide +kernel
/-- the scope of the outer comprehension of the words -/
def lcScope : Expr → Scope
  | .ListComp _ _ sc _ => sc
  | _ => { kind := .function, names := [], isGenerator := false, isCoroutine := false }
def asgVal : Stmt → Expr
  | .Assign _ v _ => v
  | _ => .Constant .none 0 ⟨0, 0, 0, 0⟩
/-- a comprehension's scope within a def's -/
abbrev relab (sc outer : Scope) : Scope := relabel sc (envOfC "" outer 0 0 .none)
/-- sep.join(list) -/
def rJoin (K : PySem.W.Frag) : V → List V → Hp → VK → Prop := fun x xs H Q => ∃ a p, ∃ ys : List Str, x = .str a ∧ xs = [.ref p] ∧ (SqL K H p (ys.map V.str) ∨ SqT K H p (ys.map V.str)) ∧ (ys.map (·.length)).sum + ys.length * a.length ≤ 16777216 ∧ Q (.str (Txt.join a ys)) H
theorem sum_ones : ∀ (ws : List Str), (∀ z ∈ ws, z.length = 1 ∧ okS z) → (ws.map (·.length)).sum = ws.length
  | [], _ => rfl
  | z :: ws, h => by
    have h1 := (h z List.mem_cons_self).1
    have h2 := sum_ones ws fun y hy => h y (List.mem_cons_of_mem _ hy)
    rw [List.map_cons, List.sum_cons, List.length_cons]
    omega
end XW
set_option maxHeartbeats 4000000
/-! Data that laws draw and hand on: trees of tuples, lists, texts, numbers and empty dicts; what is kept while pots go on. -/
namespace XR
open PySem PySem.Spec PyProof.Rows L2 HM XW K11
/-! a pot's numbers -/
theorem PotAt.ex {H : Hp} {l : Addr} (h : PotAt H l) : ∃ q : Int × Int, H l = some (.lst [.int q.1, .int q.2]) ∧ PotOk q.1 q.2 := by
  obtain ⟨a, b, c, d⟩ := h
  exact ⟨(a, b), c, d⟩
noncomputable def pa {H : Hp} {l : Addr} (h : PotAt H l) : Int := (PotAt.ex h).choose.1
noncomputable def pb {H : Hp} {l : Addr} (h : PotAt H l) : Int := (PotAt.ex h).choose.2
theorem ph {H : Hp} {l : Addr} (h : PotAt H l) : H l = some (.lst [.int (pa h), .int (pb h)]) := (PotAt.ex h).choose_spec.1
theorem pk {H : Hp} {l : Addr} (h : PotAt H l) : PotOk (pa h) (pb h) := (PotAt.ex h).choose_spec.2
mutual
inductive Rg (Av : Addr → Prop) (H : Hp) : V → PyData → Prop
  | non : Rg Av H .non .none
  | bl (b : Bool) : Rg Av H (.bl b) (.bool b)
  | int (i : Int) : Rg Av H (.int i) (.int i)
  | str (x : Str) : Rg Av H (.str x) (.str x)
  | lst {a : Addr} {xs : List V} {ds : List PyData} : ¬ Av a → H a = some (.lst xs) → RgAll Av H xs ds → Rg Av H (.ref a) (.list ds)
  | tup {a : Addr} {xs : List V} {ds : List PyData} : H a = some (.tup xs) → RgAll Av H xs ds → Rg Av H (.ref a) (.tuple ds)
  | dct {a : Addr} : ¬ Av a → H a = some (.dK []) → Rg Av H (.ref a) (.dict [])
inductive RgAll (Av : Addr → Prop) (H : Hp) : List V → List PyData → Prop
  | nil : RgAll Av H [] []
  | cons {v : V} {vs : List V} {d : PyData} {ds : List PyData} : Rg Av H v d → RgAll Av H vs ds → RgAll Av H (v :: vs) (d :: ds)
end
/-- tuples are kept, and lists and dicts that aren't among Av -/
def Kq (Av : Addr → Prop) (H H' : Hp) : Prop := ∀ b o, H b = some o → ((∃ xs, o = .tup xs) ∨ (¬ Av b ∧ ((∃ xs, o = .lst xs) ∨ ∃ kvs, o = .dK kvs))) → H' b = some o
theorem Kq.refl (Av : Addr → Prop) (H : Hp) : Kq Av H H := fun _ _ e _ => e
theorem Kq.trans {Av : Addr → Prop} {H H1 H2 : Hp} (a : Kq Av H H1) (b : Kq Av H1 H2) : Kq Av H H2 := fun c o e n => b c o (a c o e n) n
theorem Kq.new {Av : Addr → Prop} {H : Hp} {p : Addr} {o : HO} (h : H p = none) : Kq Av H (upd H p o) := fun b u e _ => by
  rw [upd_ne (ne_of_none e h)]
  exact e
theorem Kq.over {Av : Addr → Prop} {H H1 : Hp} {p : Addr} {o : HO} (a : Kq Av H H1) (h : H p = none) : Kq Av H (upd H1 p o) := fun b u e n => by
  rw [upd_ne (ne_of_none e h)]
  exact a b u e n
/-- a list among Av is changed -/
theorem Kq.put {Av : Addr → Prop} {H : Hp} {p : Addr} {o : HO} {xs : List V} (h : H p = some (.lst xs)) (hp : Av p) : Kq Av H (upd H p o) := fun b u e n => by
  by_cases z : b = p
  · subst z
    rw [h] at e
    cases e
    rcases n with ⟨ys, n⟩ | ⟨n, _⟩
    · cases n
    · exact absurd hp n
  · rw [upd_ne z]
    exact e
theorem Kq.mono {Av Bv : Addr → Prop} {H H' : Hp} (k : Kq Av H H') (h : ∀ b, Av b → Bv b) : Kq Bv H H' := fun b o e n => k b o e (n.imp id fun z => ⟨fun y => z.1 (h b y), z.2⟩)
theorem Kq.ofSm {Av : Addr → Prop} {H H' : Hp} (k : Sm H H') : Kq Av H H' := fun b o e n => k b o e fun ps z => by
  subst z
  rcases n with ⟨xs, n⟩ | ⟨_, ⟨xs, n⟩ | ⟨xs, n⟩⟩ <;> cases n
theorem Kq.ofCh {l : Addr} {H H' : Hp} {Av : Addr → Prop} (k : Ch l H H') (hl : Av l) (hP : PotAt H l) : Kq Av H H' := fun b o e n => by
  refine k b o e fun z => ?_
  subst z
  obtain ⟨p0, p1, e2, _⟩ := hP
  rw [e2] at e
  cases e
  rcases n with ⟨ys, n⟩ | ⟨n, _⟩
  · cases n
  · exact n hl
mutual
theorem Rg.kq {Av : Addr → Prop} {H H' : Hp} (k : Kq Av H H') : ∀ {v : V} {d : PyData}, Rg Av H v d → Rg Av H' v d
  | _, _, .non => .non
  | _, _, .bl b => .bl b
  | _, _, .int i => .int i
  | _, _, .str x => .str x
  | _, _, .lst n h r => .lst n (k _ _ h (.inr ⟨n, .inl ⟨_, rfl⟩⟩)) (RgAll.kq k r)
  | _, _, .tup h r => .tup (k _ _ h (.inl ⟨_, rfl⟩)) (RgAll.kq k r)
  | _, _, .dct n h => .dct n (k _ _ h (.inr ⟨n, .inr ⟨_, rfl⟩⟩))
theorem RgAll.kq {Av : Addr → Prop} {H H' : Hp} (k : Kq Av H H') : ∀ {vs : List V} {ds : List PyData}, RgAll Av H vs ds → RgAll Av H' vs ds
  | _, _, .nil => .nil
  | _, _, .cons h r => .cons (Rg.kq k h) (RgAll.kq k r)
end
mutual
theorem Rg.mono {Av Bv : Addr → Prop} {H : Hp} (k : ∀ b, Bv b → Av b) : ∀ {v : V} {d : PyData}, Rg Av H v d → Rg Bv H v d
  | _, _, .non => .non
  | _, _, .bl b => .bl b
  | _, _, .int i => .int i
  | _, _, .str x => .str x
  | _, _, .lst n h r => .lst (fun z => n (k _ z)) h (RgAll.mono k r)
  | _, _, .tup h r => .tup h (RgAll.mono k r)
  | _, _, .dct n h => .dct (fun z => n (k _ z)) h
theorem RgAll.mono {Av Bv : Addr → Prop} {H : Hp} (k : ∀ b, Bv b → Av b) : ∀ {vs : List V} {ds : List PyData}, RgAll Av H vs ds → RgAll Bv H vs ds
  | _, _, .nil => .nil
  | _, _, .cons h r => .cons (Rg.mono k h) (RgAll.mono k r)
end
theorem RgAll.len {Av : Addr → Prop} {H : Hp} : ∀ {vs : List V} {ds : List PyData}, RgAll Av H vs ds → vs.length = ds.length
  | _, _, .nil => rfl
  | _, _, .cons h r => by rw [List.length_cons, List.length_cons, RgAll.len r]
theorem RgAll.get {Av : Addr → Prop} {H : Hp} : ∀ {vs : List V} {ds : List PyData} (i : Nat) {v : V}, RgAll Av H vs ds → vs[i]? = some v → ∃ d, ds[i]? = some d ∧ Rg Av H v d
  | _, _, _, _, .nil, h => by cases h
  | _, _, 0, _, .cons h r, e => by
    cases e
    exact ⟨_, rfl, h⟩
  | _, _, i + 1, _, .cons h r, e => RgAll.get i r e
theorem RgAll.get' {Av : Addr → Prop} {H : Hp} : ∀ {vs : List V} {ds : List PyData} (i : Nat) {d : PyData}, RgAll Av H vs ds → ds[i]? = some d → ∃ v, vs[i]? = some v ∧ Rg Av H v d
  | _, _, _, _, .nil, h => by cases h
  | _, _, 0, _, .cons h r, e => by
    cases e
    exact ⟨_, rfl, h⟩
  | _, _, i + 1, _, .cons h r, e => RgAll.get' i r e
theorem RgAll.append {Av : Addr → Prop} {H : Hp} : ∀ {vs ws : List V} {ds es : List PyData}, RgAll Av H vs ds → RgAll Av H ws es → RgAll Av H (vs ++ ws) (ds ++ es)
  | _, _, _, _, .nil, r => r
  | _, _, _, _, .cons h r, t => .cons h (RgAll.append r t)
theorem RgAll.snoc {Av : Addr → Prop} {H : Hp} {vs : List V} {ds : List PyData} {v : V} {d : PyData} (r : RgAll Av H vs ds) (h : Rg Av H v d) : RgAll Av H (vs ++ [v]) (ds ++ [d]) := r.append (.cons h .nil)
theorem RgAll.strs {Av : Addr → Prop} {H : Hp} : ∀ ws : List Str, RgAll Av H (ws.map V.str) (ws.map PyData.str)
  | [] => .nil
  | w :: ws => .cons (.str w) (RgAll.strs ws)
/-! ### what rows are drawn -/
def nmOk (z : Str) : Prop := nameL z.cps.toList = true
def ptOk (z : Str) : Prop := ∃ ws : List Str, z = Txt.join "." ws ∧ 1 ≤ ws.length ∧ ws.length ≤ 4 ∧ ∀ w ∈ ws, nmOk w
def greatW : List Str := ["NOMODULE", "NONAME", "HALF", "FLAT", "NOTASK", "ALL"]
def wdsOk (ws : List Str) : Prop := ws.length ≤ 3 ∧ ws.Nodup ∧ ∀ w ∈ ws, w ∈ greatW ∨ nmOk w
inductive LineOk : PyData → Prop
  | set {z : Str} {n : Int} : nmOk z → n.natAbs < 10 ^ 60 → LineOk (.tuple [.str "set", .str z, .int n])
  | road {w z p : Str} : w ∈ (["now", "take", "late", "ask"] : List Str) → nmOk z → ptOk p → LineOk (.tuple [.str w, .str z, .str p])
  | draw {z p y : Str} : nmOk z → ptOk p → nmOk y → LineOk (.tuple [.str "draw", .str z, .str p, .str y])
  | note {p : Str} : ptOk p → LineOk (.tuple [.str "note", .str p])
  | fail {z : Str} : nmOk z → LineOk (.tuple [.str "fail", .str z])
mutual
/-- a row, n tries at most one within another, c rows all counted -/
inductive OkR : Nat → Nat → PyData → Prop
  | line {n : Nat} {d : PyData} : LineOk d → OkR n 1 d
  | tri {n c1 c2 : Nat} {as bs : List PyData} {ws : List Str} : OkRs n c1 as → wdsOk ws → OkRs n c2 bs → OkR (n + 1) (c1 + c2 + 1) (.tuple [.str "try", .tuple as, .tuple (ws.map PyData.str), .tuple bs])
inductive OkRs : Nat → Nat → List PyData → Prop
  | nil {n : Nat} : OkRs n 0 []
  | cons {n c e : Nat} {d : PyData} {ds : List PyData} : OkR n c d → OkRs n e ds → OkRs n (c + e) (d :: ds)
end
theorem OkRs.snoc {n : Nat} : ∀ {c e : Nat} {ds : List PyData} {d : PyData}, OkRs n c ds → OkR n e d → OkRs n (c + e) (ds ++ [d])
  | _, e, _, _, .nil, h => by
    have := OkRs.cons h OkRs.nil
    rw [Nat.add_zero] at this
    rw [Nat.zero_add]
    exact this
  | _, e, _, _, .cons h r, k => by
    rw [Nat.add_assoc]
    exact .cons h (OkRs.snoc r k)
theorem OkRs.len {n : Nat} : ∀ {c : Nat} {ds : List PyData}, OkRs n c ds → ds.length ≤ c
  | _, _, .nil => Nat.le_refl _
  | _, _, .cons h r => by
    have := OkRs.len r
    rw [List.length_cons]
    cases h <;> omega
/-! ### a name's letters -/
theorem nm_len {z : Str} (h : nmOk z) : z.length ≤ 8 ∧ 1 ≤ z.length := by
  have h2 : nameL z.cps.toList = true := h
  unfold nameL at h2
  obtain ⟨h3, _⟩ := Bool.and_eq_true_iff.mp h2
  obtain ⟨h4, h5⟩ := Bool.and_eq_true_iff.mp h3
  have a := of_decide_eq_true h4
  have b := of_decide_eq_true h5
  rw [Array.length_toList] at a b
  exact ⟨b, a⟩
theorem nm_low {z : Str} (h : nmOk z) : ∀ c ∈ z.cps.toList, low c = true := by
  have h2 : nameL z.cps.toList = true := h
  unfold nameL at h2
  exact List.all_eq_true.mp (Bool.and_eq_true_iff.mp h2).2
def lowS (z : Str) : Prop := z.length = 1 ∧ ∀ c ∈ z.cps.toList, low c = true
theorem join0_all {Pr : Nat → Prop} : ∀ {ys : List Str}, (∀ y ∈ ys, ∀ c ∈ y.cps.toList, Pr c) → ∀ c ∈ (Str.join (Str.ofString "") ys).cps.toList, Pr c
  | [], _ => fun c hc => by
    have : c ∈ ([] : List Nat) := hc
    cases this
  | [x], h => h x List.mem_cons_self
  | x :: z :: r, h => fun c hc => by
    have e : (Str.join (Str.ofString "") (x :: z :: r)).cps.toList = (x ++ Str.ofString "").cps.toList ++ (Str.join (Str.ofString "") (z :: r)).cps.toList := TL.tl_append _ _
    have e2 : (x ++ Str.ofString "").cps.toList = x.cps.toList ++ (Str.ofString "").cps.toList := TL.tl_append _ _
    rw [e, e2] at hc
    rcases List.mem_append.mp hc with y | y
    · rcases List.mem_append.mp y with y | y
      · exact h x List.mem_cons_self c y
      · have : (Str.ofString "").cps.toList = [] := by decide +kernel
        rw [this] at y
        cases y
    · exact join0_all (fun y hy => h y (List.mem_cons_of_mem _ hy)) c y
theorem str_add_len (a b : Str) : (a ++ b).length = a.length + b.length := strLen_append a b
theorem join0_len : ∀ (ys : List Str), (Str.join (Str.ofString "") ys).length = (ys.map (·.length)).sum
  | [] => rfl
  | [x] => by simp [Str.join]
  | x :: z :: r => by
    have e : Str.join (Str.ofString "") (x :: z :: r) = (x ++ Str.ofString "") ++ Str.join (Str.ofString "") (z :: r) := rfl
    have e0 : (Str.ofString "").length = 0 := by decide +kernel
    rw [e, str_add_len, str_add_len, e0, join0_len (z :: r), Nat.add_zero]
    simp only [List.map_cons, List.sum_cons]
theorem nm_join {ys : List Str} (h : ∀ y ∈ ys, lowS y) (h1 : 1 ≤ ys.length) (h8 : ys.length ≤ 8) : nmOk (Txt.join (Str.ofString "") ys) := by
  rw [TL.join_eq]
  have hs : ∀ l : List Str, (∀ y ∈ l, lowS y) → (l.map (·.length)).sum = l.length := fun l => by
    induction l with
    | nil => intro _; rfl
    | cons a l ih =>
      intro hh
      rw [List.map_cons, List.sum_cons, ih (fun y hy => hh y (List.mem_cons_of_mem _ hy)), (hh a List.mem_cons_self).1, List.length_cons]
      omega
  have hl : (Str.join (Str.ofString "") ys).cps.toList.length = ys.length := by
    rw [Array.length_toList]
    exact (join0_len ys).trans (hs ys h)
  unfold nmOk nameL
  rw [hl, decide_eq_true h1, decide_eq_true h8, List.all_eq_true.mpr (join0_all fun y hy => (h y hy).2)]
  rfl
theorem abc_low : ∀ d ∈ abc.cps.toList, low d = true := by decide +kernel
end XR
set_option maxHeartbeats 4000000
namespace D13
open PySem PySem.Spec PyProof.Rows L2 HM XW
def top (i : Nat) : Stmt := PySem.Challenge.pw_halfmade_k13_whole_bodies_written.main.body.getD i (.Pass ⟨0, 0, 0, 0⟩)
abbrev FnP (K : PySem.W.Frag) (x : Str) (st : Stmt) (f : Addr) (fd : FuncData) : Prop := FunD K x x (defArgs st) (defBody st) (defScope st) [] [] f fd
abbrev sAt : Stmt := top 33
abbrev sPot : Stmt := top 34
abbrev sDraw : Stmt := top 35
theorem scAt : FnScope ["_law_script", "_law_k"] ["_law_script", "_law_k"] (defScope sAt) := ⟨rfl, rfl, rfl, by decide +kernel, rfl, by decide +kernel, by decide +kernel⟩
theorem scPot : FnScope ["_law_script", "_law_k", "_law_cell"] ["_law_script", "_law_k"] (defScope sPot) := ⟨rfl, rfl, rfl, by decide +kernel, rfl, by decide +kernel, by decide +kernel⟩
theorem scDraw : FnScope ["_law_pot_here", "_law_many", "_law_digit"] ["_law_pot_here", "_law_many"] (defScope sDraw) := ⟨rfl, rfl, rfl, by decide +kernel, rfl, by decide +kernel, by decide +kernel⟩
section
variable {P : Program} {w : World} {K : PySem.W.Frag} {mg : Str → Option Value} {base : Heap} {f fA : Addr} {fd fdA : FuncData}
theorem ok_at (F : FnP K "_law_at" sAt f fd) (ml : mg "len" = none) : FnOk P w K mg base CX0 1 f fd ["_law_script", "_law_k"] (spAt K) := by
  refine ok_code F scAt (fun vs H Q E h => ?_) (fun cdv A outer s H vs Q E hcd hr h => ?_)
  · obtain ⟨a, ns, k, rfl, _⟩ := h
    rfl
  · obtain ⟨a, ns, k, rfl, hS, q⟩ := h
    refine ⟨_, pss_one (ps_ret (pe_ifExp (pt_cmpR op_lt (pv 1) (pe_callB call_len_seq (by rfl) ml PySem.boot_len (pa_cons (pv 0) pa_nil)) (nomark _)) (pe_ix ix_list (pv 0) (pv 1) (fun _ _ => rfl)) pe_int)), ?_⟩
    refine ⟨_, rfl, _, rfl, a, _, rfl, .inl hS, _, _, rfl, rfl, _, rfl, ?_⟩
    rw [List.length_map]
    refine ite2 (fun e => ?_) (fun e => ?_)
    · have hk : k < ns.length := by
        have := of_decide_eq_true e
        omega
      refine ⟨_, rfl, _, rfl, a, _, _, .int ns[k], rfl, rfl, hS, ?_, ?_⟩
      · exact atI_nat (by rw [List.getElem?_map, List.getElem?_eq_getElem hk]; rfl)
      · rw [List.getD_eq_getElem?_getD, List.getElem?_eq_getElem hk] at q
        exact q
    · have hk : ns.length ≤ k := by
        refine Nat.le_of_not_lt fun z => e (decide_eq_true ?_)
        omega
      rw [List.getD_eq_getElem?_getD, List.getElem?_eq_none hk] at q
      exact q
theorem ok_pot (F : FnP K "_law_pot" sPot f fd) (FA : FnP K "_law_at" sAt fA fdA) (gA : mg "_law_at" = some (.ref fA)) (ml : mg "len" = none) (mm : mg "max" = none) : FnOk P w K mg base CX0 2 f fd ["_law_script", "_law_k"] (spPot K) := by
  have GA : FnOk P w K mg base CX0 1 fA fdA ["_law_script", "_law_k"] (spAt K) := ok_at FA ml
  have bA : Binds K fdA ["_law_script", "_law_k"] [] := FA.bindsN fun _ _ _ _ _ _ us hl => match us, hl with | [_, _], _ => rfl
  refine ok_code F scPot (fun vs H Q E h => ?_) (fun cdv A outer s H vs Q E hcd hr h => ?_)
  · obtain ⟨a, ns, k, rfl, _⟩ := h
    rfl
  · obtain ⟨a, ns, k, rfl, hk, hS, q⟩ := h
    refine ⟨_, pss_cons (ps_set (i := 2) scPot.nd rfl (.inl rfl) (pe_call GA hr (by rfl) gA FA.kp bA .nil pass0 (pa_cons (pv 0) (pa_cons (pv 1) pa_nil))))
      (pss_one (ps_ret (pe_lst (pa_cons (pe_callB (call_max2 rfl) (by rfl) mm (by decide +kernel) (pa_cons pe_int (pa_cons (pe_op op_sub (pv 2) (pe_op op_pow pe_int pe_int)) pa_nil)))
        (pa_cons (pe_op op_add (pe_op op_mod (pe_op op_pow (pe_op op_add (pe_op op_mod (pv 2) pe_int) (pe_op op_mul pe_int (pe_op op_add (pv 1) pe_int))) pe_int) pe_int) pe_int) pa_nil))))), ?_⟩
    refine ⟨_, rfl, _, rfl, a, ns, k, rfl, hS, ?_⟩
    have hm := Int.emod_nonneg (ns.getD k 0) (show (2147483629 : Int) ≠ 0 by decide)
    have hm2 := Int.emod_lt_of_pos (ns.getD k 0) (show (0 : Int) < 2147483629 by decide)
    refine ⟨_, rfl, 10, 18, rfl, rfl, ⟨by decide, by decide, by decide⟩, _, _, rfl, rfl, _, _, rfl, ?_⟩
    refine ⟨_, rfl, _, _, rfl, rfl, (by show (0 : Int) < 2147483629; decide), _, rfl, _, _, rfl, rfl, _, _, rfl, rfl, .inl ⟨by decide, by decide⟩, _, _, rfl, rfl, _, _, rfl, rfl, ⟨by decide, by decide, ?_⟩, _, _, rfl, rfl, (by show (0 : Int) < 2147483563; decide), _, _, rfl, rfl, (by show 2 ≤ sizeLine; decide), fun p hp => q p _ _ hp ⟨?_, ?_, ?_⟩⟩
    · have e : ((ns.getD k 0 % 2147483629 + 40503 * ((k : Int) + 1)).natAbs : Int) < 2 ^ 64 := by omega
      omega
    · split <;> omega
    · have := Int.emod_nonneg ((ns.getD k 0 % 2147483629 + 40503 * ((k : Int) + 1)) ^ (3 : Int).toNat) (show (2147483563 : Int) ≠ 0 by decide)
      omega
    · have := Int.emod_lt_of_pos ((ns.getD k 0 % 2147483629 + 40503 * ((k : Int) + 1)) ^ (3 : Int).toNat) (show (0 : Int) < 2147483563 by decide)
      omega
theorem ok_draw (F : FnP K "_law_draw" sDraw f fd) (md : mg "divmod" = none) : FnOk P w K mg base CX0 1 f fd ["_law_pot_here", "_law_many"] spDraw := by
  refine ok_code F scDraw (fun vs H Q E h => ?_) (fun cdv A outer s H vs Q E hcd hr h => ?_)
  · obtain ⟨l, many, p0, p1, rfl, _⟩ := h
    rfl
  · obtain ⟨l, many, p0, p1, rfl, hm0, hm1, hl, ⟨h0, h1, h2⟩, q⟩ := h
    refine ⟨_, pss_cons (ps_if (pt_cmpR op_gt (pe_ix ix_list (pv 0) pe_int (fun _ _ => rfl)) pe_int (nomark _))
        (pss_cons (ps_asg (pe_callB call_divmodW (by rfl) md (by decide +kernel) (pa_cons (pe_ix ix_list (pv 0) pe_int (fun _ _ => rfl)) (pa_cons (pv 1) pa_nil)))
            (pg_tup (by rfl) (pgs_cons (pg_sub (pv 0) pe_int set_list) (pgs_cons (pg_name (i := 2) scDraw.nd rfl (.inl rfl)) pgs_nil))))
          (pss_one (ps_ret (pv 2)))) pss_nil)
      (pss_cons (ps_asg (pe_op op_mod (pe_op op_add (pe_op op_mul (pe_ix ix_list (pv 0) pe_int (fun _ _ => rfl)) pe_int) pe_int) pe_int) (pg_sub (pv 0) pe_int set_list))
      (pss_one (ps_ret (pe_op op_mod (pe_op op_fdiv (pe_op op_mod (pe_op op_mul (pe_ix ix_list (pv 0) pe_int (fun _ _ => rfl)) (pe_ix ix_list (pv 0) pe_int (fun _ _ => rfl))) pe_int) pe_int) (pv 1))))), ?_⟩
    have g0 : atI [V.int p0, V.int p1] 0 = some (.int p0) := rfl
    have g1 : atI [V.int p0, V.int p1] 1 = some (.int p1) := rfl
    refine ⟨_, rfl, l, _, 0, _, rfl, rfl, SqL.of hl, g0, _, _, rfl, rfl, _, rfl, ite2 (fun e => ?_) (fun e => ?_)⟩
    · refine ⟨_, rfl, l, _, 0, _, rfl, rfl, SqL.of hl, g0, _, rfl, p0, many, rfl, ⟨hm0, PyProof.noPylong_of_log2 hm1⟩, fun T hT => ?_⟩
      have nl : l ≠ T := ne_of_none hl hT
      refine ⟨T, _, rfl, SqT.of upd_same, rfl, _, _, rfl, _, rfl, l, _, 0, 0, rfl, rfl, (by rw [upd_ne nl]; exact hl), rfl, _, _, rfl, rfl, ?_⟩
      refine ⟨_, rfl, q _ _ (fun b o e nb => ?_) ⟨p0 / many, p1, upd_same, ⟨Int.ediv_nonneg h0 (by omega), h1, h2⟩⟩ (Int.emod_nonneg _ (by omega)) (Int.emod_lt_of_pos _ hm0)⟩
      rw [upd_ne nb, upd_ne (ne_of_none e hT)]
      exact e
    · have e5 := Int.emod_nonneg (p1 * 39373 + 7919) (show (2147483629 : Int) ≠ 0 by decide)
      have e6 := Int.emod_lt_of_pos (p1 * 39373 + 7919) (show (0 : Int) < 2147483629 by decide)
      refine ⟨_, rfl, l, _, 1, _, rfl, rfl, SqL.of hl, g1, _, _, rfl, rfl, .inl ⟨by omega, by omega⟩, _, _, rfl, rfl, _, _, rfl, rfl, (by show (0 : Int) < 2147483629; decide), _, rfl, l, _, 1, 1, rfl, rfl, hl, rfl, ?_⟩
      have g2 : atI [V.int p0, V.int ((p1 * 39373 + 7919) % 2147483629)] 1 = some (.int ((p1 * 39373 + 7919) % 2147483629)) := rfl
      refine ⟨_, rfl, l, _, 1, _, rfl, rfl, SqL.of upd_same, g2, _, rfl, l, _, 1, _, rfl, rfl, SqL.of upd_same, g2, _, _, rfl, rfl, .inl ⟨by omega, by omega⟩, _, _, rfl, rfl, (by show (0 : Int) < 2147483587; decide), _, _, rfl, rfl, ⟨by decide, by decide⟩, _, rfl, _, _, rfl, rfl, hm0, ?_⟩
      exact q _ _ (fun b o e nb => by rw [upd_ne nb]; exact e) ⟨p0, _, upd_same, ⟨h0, e5, by omega⟩⟩ (Int.emod_nonneg _ (by omega)) (Int.emod_lt_of_pos _ hm0)
end
end D13
set_option maxHeartbeats 4000000
namespace D13
open PySem PySem.Spec PyProof.Rows L2 HM XW XR K11
abbrev sNm : Stmt := top 36
abbrev sPt : Stmt := top 37
abbrev sNum : Stmt := top 38
abbrev sFw : Stmt := top 39
theorem scNm : FnScope ["_law_pot_here", "_law_k"] ["_law_pot_here"] (defScope sNm) := ⟨rfl, rfl, rfl, by decide +kernel, rfl, by decide +kernel, by decide +kernel⟩
theorem scPt : FnScope ["_law_pot_here", "_law_k"] ["_law_pot_here"] (defScope sPt) := ⟨rfl, rfl, rfl, by decide +kernel, rfl, by decide +kernel, by decide +kernel⟩
theorem scNum : FnScope ["_law_pot_here"] ["_law_pot_here"] (defScope sNum) := ⟨rfl, rfl, rfl, by decide +kernel, rfl, by decide +kernel, by decide +kernel⟩
theorem scFw : FnScope ["_law_pot_here", "_law_found", "_law_k", "_law_word"] ["_law_pot_here"] (defScope sFw) := ⟨rfl, rfl, rfl, by decide +kernel, rfl, by decide +kernel, by decide +kernel⟩
section
variable {P : Program} {w : World} {K : PySem.W.Frag} {mg : Str → Option Value} {base : Heap} {f fD fN fR : Addr} {fd fdD fdN fdR : FuncData}
abbrev wordsN : List Str := ["try", "done", "caught", "set", "ask", "note", "fail", "begin"]
theorem wordsN_ok : ∀ z ∈ wordsN, nmOk z := by
  unfold nmOk
  decide +kernel
def spNm : Sp := fun vs H Q _ => ∃ l : Addr, vs = [.ref l] ∧ PotAt H l ∧ ∀ H' z, Ch l H H' → PotAt H' l → nmOk z → Q (.str z) H'
theorem ok_nm (F : FnP K "_law_name" sNm f fd) (GD : FnOk P w K mg base CX0 1 fD fdD ["_law_pot_here", "_law_many"] spDraw) (FD : FnP K "_law_draw" sDraw fD fdD) (gD : mg "_law_draw" = some (.ref fD)) (mr : mg "range" = none) : FnOk P w K mg base CX0 2 f fd ["_law_pot_here"] spNm := by
  have bD : Binds K fdD ["_law_pot_here", "_law_many"] [] := FD.bindsN fun _ _ _ _ _ _ us hl => match us, hl with | [_, _], _ => rfl
  refine ok_code F scNm (fun vs H Q E h => ?_) (fun cdv A outer s H vs Q E hcd hr h => ?_)
  · obtain ⟨l, rfl, _⟩ := h
    rfl
  · obtain ⟨l, rfl, hP, q⟩ := h
    refine ⟨_, pss_cons (ps_if (pt_cmpR op_eq (pe_call GD hr (by rfl) gD FD.kp bD .nil pass0 (pa_cons (pv 0) (pa_cons pe_int pa_nil))) pe_int (nomark _))
        (pss_one (ps_ret (pe_ix ix_list (pe_lst (pa_cons pe_str (pa_cons pe_str (pa_cons pe_str (pa_cons pe_str (pa_cons pe_str (pa_cons pe_str (pa_cons pe_str (pa_cons pe_str pa_nil))))))))) (pe_call GD hr (by rfl) gD FD.kp bD .nil pass0 (pa_cons (pv 0) (pa_cons pe_int pa_nil))) (fun _ _ => rfl)))) pss_nil)
      (pss_one (ps_ret (pe_join pe_str (by exact (pe_lc (own := [("_law_k", 1)]) (g := gName 1) (tt := tYes) (by rfl) scNm.nd
        (pi_range1 (by rfl) mr (pa_cons (pe_op op_add pe_int (pe_call GD hr (by rfl) gD FD.kp bD .nil pass0 (pa_cons (pv 0) (pa_cons pe_int pa_nil)))) pa_nil))
        (blkOk_by (own := [("_law_k", 1)]) (N := ["_law_pot_here", "_law_k"]) (sc := defScope sNm) (by decide +kernel)) (fun _ _ _ _ _ => pg_name (i := 1) scNm.nd rfl (Or.inl rfl)) (fun _ _ _ _ _ => pts_nil)
        (fun _ _ _ _ _ => pe_ix ix_str pe_str (pe_call GD hr (by rfl) gD FD.kp bD .nil pass0 (pa_cons (pv 0) (pa_cons pe_int pa_nil))) (fun _ _ => rfl))))))), ?_⟩
    refine ⟨_, rfl, l, _, pa hP, pb hP, rfl, by decide, by decide, ph hP, pk hP, fun H0 way c0 hP0 w0 w1 => ⟨rfl, _, rfl, ite2 (fun _ => ?_) (fun _ => ?_)⟩⟩
    · refine ⟨by show 8 ≤ sizeLine; decide, fun L hL => ?_⟩
      have nL : L ≠ l := hP0.ne hL
      refine ⟨_, rfl, l, _, pa (hP0.new nL), pb (hP0.new nL), rfl, by decide, by decide, ph (hP0.new nL), pk (hP0.new nL), fun H1 d c1 hP1 d0 d1 => ?_⟩
      obtain ⟨dn, rfl⟩ : ∃ n : Nat, d = (n : Int) := ⟨d.toNat, by omega⟩
      have hdn : dn < wordsN.length := by
        show dn < 8
        omega
      refine ⟨L, wordsN.map V.str, _, .str wordsN[dn], rfl, rfl, SqL.of (c1 L _ upd_same nL), atI_nat ?_, q H1 _ (Ch.trans c0 (Ch.trans (Ch.new hL) c1)) hP1 (wordsN_ok _ (List.getElem_mem hdn))⟩
      rw [List.getElem?_map, List.getElem?_eq_getElem hdn]
      rfl
    · refine ⟨⟨_, rfl⟩, _, rfl, l, _, pa hP0, pb hP0, rfl, by decide, by decide, ph hP0, pk hP0, fun H1 nn c1 hP1 n0 n1 => ?_⟩
      refine ⟨_, _, rfl, rfl, _, rfl, by omega, by omega, fun L hL => ?_⟩
      have nL : L ≠ l := hP1.ne hL
      have k1 := Ch.trans c0 c1
      have fL : H L = none := Ch.free k1 hL nL
      refine lc_range (lo := 0) (n := (1 + nn).toNat) (fun i H' => Ch l H H' ∧ PotAt H' l ∧ ∃ cs : List Str, cs.length = i ∧ (∀ z ∈ cs, lowS z) ∧ H' L = some (.lst (cs.map V.str)))
        ⟨Ch.over k1 fL, hP1.new nL, [], rfl, fun x hx => (by cases hx), upd_same⟩ ?_ ?_
      · rintro i H2 hi ⟨k2, hP2, cs, e1, e2, e3⟩
        refine ⟨rfl, _, rfl, l, _, pa hP2, pb hP2, rfl, by decide, by decide, ph hP2, pk hP2, fun H3 d c3 hP3 d0 d1 => ?_⟩
        obtain ⟨dn, rfl⟩ : ∃ n : Nat, d = (n : Int) := ⟨d.toNat, by omega⟩
        have hdn : dn < abc.cps.toList.length := by
          rw [abc_len]
          omega
        refine ⟨_, _, abc.cps.toList[dn], rfl, rfl, by decide +kernel, atI_nat (List.getElem?_eq_getElem hdn), cs.map V.str, c3 L _ e3 nL, ?_, Ch.over (Ch.trans k2 c3) fL, hP3.new nL, cs ++ [⟨#[abc.cps.toList[dn]]⟩], ?_, ?_, ?_⟩
        · rw [List.length_map, e1]
          exact small1000 (by omega)
        · rw [List.length_append, e1]
          rfl
        · intro x hx
          rcases List.mem_append.mp hx with z | z
          · exact e2 x z
          · rw [List.mem_singleton.mp z]
            refine ⟨rfl, fun c hc => ?_⟩
            have ec : c = abc.cps.toList[dn] := by simpa using hc
            rw [ec]
            exact abc_low _ (List.getElem_mem hdn)
        · rw [upd_same]
          exact congrArg (fun z => some (HO.lst z)) (map_snoc V.str cs _)
      · rintro H2 ⟨k2, hP2, cs, e1, e2, e3⟩
        have hs : (cs.map (·.length)).sum = cs.length := by
          have go : ∀ l : List Str, (∀ y ∈ l, lowS y) → (l.map (·.length)).sum = l.length := fun l => by
            induction l with
            | nil => intro _; rfl
            | cons a l ih =>
              intro hh
              rw [List.map_cons, List.sum_cons, ih (fun y hy => hh y (List.mem_cons_of_mem _ hy)), (hh a List.mem_cons_self).1, List.length_cons]
              omega
          exact go cs e2
        have hz : (Str.ofString "").length = 0 := by decide +kernel
        refine ⟨_, L, cs, rfl, rfl, .inl (SqL.of e3), ?_, q H2 _ k2 hP2 (nm_join e2 (by omega) (by omega))⟩
        rw [hz, hs, e1]
        omega
def spPt : Sp := fun vs H Q _ => ∃ l : Addr, vs = [.ref l] ∧ PotAt H l ∧ ∀ H' z, Ch l H H' → PotAt H' l → ptOk z → Q (.str z) H'
theorem nms_sum : ∀ (ws : List Str), (∀ z ∈ ws, nmOk z) → (ws.map (·.length)).sum ≤ 8 * ws.length
  | [], _ => Nat.le_refl _
  | z :: ws, h => by
    have h1 := (nm_len (h z List.mem_cons_self)).1
    have h2 := nms_sum ws fun y hy => h y (List.mem_cons_of_mem _ hy)
    rw [List.map_cons, List.sum_cons, List.length_cons]
    omega
theorem ok_pt (F : FnP K "_law_path" sPt f fd) (GN : FnOk P w K mg base CX0 2 fN fdN ["_law_pot_here"] spNm) (FN : FnP K "_law_name" sNm fN fdN) (gN : mg "_law_name" = some (.ref fN)) (GD : FnOk P w K mg base CX0 1 fD fdD ["_law_pot_here", "_law_many"] spDraw) (FD : FnP K "_law_draw" sDraw fD fdD) (gD : mg "_law_draw" = some (.ref fD)) (mr : mg "range" = none) : FnOk P w K mg base CX0 3 f fd ["_law_pot_here"] spPt := by
  have bD : Binds K fdD ["_law_pot_here", "_law_many"] [] := FD.bindsN fun _ _ _ _ _ _ us hl => match us, hl with | [_, _], _ => rfl
  have bN : Binds K fdN ["_law_pot_here"] [] := FN.bindsN fun _ _ _ _ _ _ us hl => match us, hl with | [_], _ => rfl
  refine ok_code F scPt (fun vs H Q E h => ?_) (fun cdv A outer s H vs Q E hcd hr h => ?_)
  · obtain ⟨l, rfl, _⟩ := h
    rfl
  · obtain ⟨l, rfl, hP, q⟩ := h
    have hr1 : Room 1 (A.deeper (envOfC "_law_path" (defScope sPt) s.heap.objs.size f cdv)) := hr.mono (by decide)
    refine ⟨_, pss_one (ps_ret (pe_join pe_str (by exact (pe_lc (own := [("_law_k", 1)]) (g := gName 1) (tt := tYes) (by rfl) scPt.nd
        (pi_range1 (by rfl) mr (pa_cons (pe_op op_add pe_int (pe_op op_mul (pe_call GD hr1 (by rfl) gD FD.kp bD .nil pass0 (pa_cons (pv 0) (pa_cons pe_int pa_nil))) (pe_call GD hr1 (by rfl) gD FD.kp bD .nil pass0 (pa_cons (pv 0) (pa_cons pe_int pa_nil))))) pa_nil))
        (blkOk_by (own := [("_law_k", 1)]) (N := ["_law_pot_here", "_law_k"]) (sc := defScope sPt) (by decide +kernel)) (fun _ _ _ _ _ => pg_name (i := 1) scPt.nd rfl (Or.inl rfl)) (fun _ _ _ _ _ => pts_nil)
        (fun _ _ _ _ _ => pe_call GN hr (by rfl) gN FN.kp bN .nil pass0 (pa_cons (pv 0) pa_nil)))))), ?_⟩
    refine ⟨⟨_, rfl⟩, _, rfl, l, _, pa hP, pb hP, rfl, by decide, by decide, ph hP, pk hP, fun H0 d1 c0 hP0 d10 d11 => ?_⟩
    refine ⟨_, rfl, l, _, pa hP0, pb hP0, rfl, by decide, by decide, ph hP0, pk hP0, fun H1 d2 c1 hP1 d20 d21 => ?_⟩
    have hm : 0 ≤ d1 * d2 ∧ d1 * d2 ≤ 3 := by
      have h1 : d1 = 0 ∨ d1 = 1 := by omega
      rcases h1 with rfl | rfl <;> omega
    refine ⟨_, _, rfl, rfl, .inl ⟨by omega, by omega⟩, _, _, rfl, rfl, _, rfl, by omega, by omega, fun L hL => ?_⟩
    have nL : L ≠ l := hP1.ne hL
    have k1 := Ch.trans c0 c1
    have fL : H L = none := Ch.free k1 hL nL
    refine lc_range (lo := 0) (n := (1 + d1 * d2).toNat) (fun i H' => Ch l H H' ∧ PotAt H' l ∧ ∃ cs : List Str, cs.length = i ∧ (∀ z ∈ cs, nmOk z) ∧ H' L = some (.lst (cs.map V.str)))
      ⟨Ch.over k1 fL, hP1.new nL, [], rfl, fun x hx => (by cases hx), upd_same⟩ ?_ ?_
    · rintro i H2 hi ⟨k2, hP2, cs, e1, e2, e3⟩
      refine ⟨rfl, _, rfl, l, rfl, hP2, fun H3 z c3 hP3 hz => ⟨cs.map V.str, c3 L _ e3 nL, ?_, Ch.over (Ch.trans k2 c3) fL, hP3.new nL, cs ++ [z], ?_, ?_, ?_⟩⟩
      · rw [List.length_map, e1]
        exact small1000 (by omega)
      · rw [List.length_append, e1]
        rfl
      · intro x hx
        rcases List.mem_append.mp hx with y | y
        · exact e2 x y
        · rw [List.mem_singleton.mp y]
          exact hz
      · rw [upd_same]
        exact congrArg (fun z => some (HO.lst z)) (map_snoc V.str cs _)
    · rintro H2 ⟨k2, hP2, cs, e1, e2, e3⟩
      have hz : (Str.ofString ".").length = 1 := by decide +kernel
      have hs := nms_sum cs e2
      refine ⟨_, L, cs, rfl, rfl, .inl (SqL.of e3), ?_, q H2 _ k2 hP2 ⟨cs, rfl, by omega, by omega, e2⟩⟩
      rw [hz, e1]
      omega
def spNum : Sp := fun vs H Q _ => ∃ l : Addr, vs = [.ref l] ∧ PotAt H l ∧ ∀ (H' : Hp) (n : Int), Ch l H H' → PotAt H' l → n.natAbs < 10 ^ 60 → Q (.int n) H'
theorem ok_num (F : FnP K "_law_number" sNum f fd) (GD : FnOk P w K mg base CX0 1 fD fdD ["_law_pot_here", "_law_many"] spDraw) (FD : FnP K "_law_draw" sDraw fD fdD) (gD : mg "_law_draw" = some (.ref fD)) : FnOk P w K mg base CX0 2 f fd ["_law_pot_here"] spNum := by
  have bD : Binds K fdD ["_law_pot_here", "_law_many"] [] := FD.bindsN fun _ _ _ _ _ _ us hl => match us, hl with | [_, _], _ => rfl
  refine ok_code F scNum (fun vs H Q E h => ?_) (fun cdv A outer s H vs Q E hcd hr h => ?_)
  · obtain ⟨l, rfl, _⟩ := h
    rfl
  · obtain ⟨l, rfl, hP, q⟩ := h
    refine ⟨_, pss_cons (ps_if (pt_cmpR op_eq (pe_call GD hr (by rfl) gD FD.kp bD .nil pass0 (pa_cons (pv 0) (pa_cons pe_int pa_nil))) pe_int (nomark _))
        (pss_one (ps_ret (pe_op op_sub (pe_call GD hr (by rfl) gD FD.kp bD .nil pass0 (pa_cons (pv 0) (pa_cons pe_int pa_nil))) pe_int))) pss_nil)
      (pss_one (ps_ret (pe_op op_add (pe_op op_sub (pe_call GD hr (by rfl) gD FD.kp bD .nil pass0 (pa_cons (pv 0) (pa_cons (pe_op op_sub (pe_op op_mul pe_int (pe_op op_pow pe_int pe_int)) pe_int) pa_nil))) (pe_op op_pow pe_int pe_int)) pe_int))), ?_⟩
    refine ⟨_, rfl, l, _, pa hP, pb hP, rfl, by decide, by decide, ph hP, pk hP, fun H0 way c0 hP0 w0 w1 => ⟨rfl, _, rfl, ite2 (fun _ => ?_) (fun _ => ?_)⟩⟩
    · refine ⟨_, rfl, l, _, pa hP0, pb hP0, rfl, by decide, by decide, ph hP0, pk hP0, fun H1 d c1 hP1 d0 d1 => ⟨_, _, rfl, rfl, q H1 _ (Ch.trans c0 c1) hP1 (by omega)⟩⟩
    · refine ⟨_, rfl, 10, 60, rfl, rfl, ⟨by decide, by decide, by decide⟩, 2, 10 ^ 60, rfl, rfl, .inl ⟨by decide, by decide⟩, 2 * 10 ^ 60, 1, rfl, rfl, ?_⟩
      refine ⟨l, _, pa hP0, pb hP0, rfl, by decide +kernel, by decide +kernel, ph hP0, pk hP0, fun H1 d c1 hP1 d0 d1 => ?_⟩
      refine ⟨10, 60, rfl, rfl, ⟨by decide, by decide, by decide⟩, _, _, rfl, rfl, _, _, rfl, rfl, q H1 _ (Ch.trans c0 c1) hP1 ?_⟩
      have e : (10 : Int) ^ (60 : Int).toNat = 1000000000000000000000000000000000000000000000000000000000000 := by decide +kernel
      have e2 : (10 : Int) ^ 60 = 1000000000000000000000000000000000000000000000000000000000000 := by decide +kernel
      have e3 : (10 : Nat) ^ 60 = 1000000000000000000000000000000000000000000000000000000000000 := by decide +kernel
      rw [e2] at d1
      rw [e, e3]
      omega
end
end D13
set_option maxHeartbeats 4000000
namespace D13
open PySem PySem.Spec PyProof.Rows L2 HM XW XR K11
abbrev sDRow : Stmt := top 40
abbrev sDRows : Stmt := top 41
theorem scDRow : FnScope ["_law_pot_here", "_law_room", "_law_deep", "_law_way", "_law_first", "_law_words"] ["_law_pot_here", "_law_room", "_law_deep"] (defScope sDRow) := ⟨rfl, rfl, rfl, by decide +kernel, rfl, by decide +kernel, by decide +kernel⟩
theorem scDRows : FnScope ["_law_pot_here", "_law_room", "_law_deep", "_law_most", "_law_found", "_law_k"] ["_law_pot_here", "_law_room", "_law_deep"] (defScope sDRows) := ⟨rfl, rfl, rfl, by decide +kernel, rfl, by decide +kernel, by decide +kernel⟩
section
variable {P : Program} {w : World} {K : PySem.W.Frag} {mg : Str → Option Value} {base : Heap} {f fD fN fP fI fW fR : Addr} {fd fdD fdN fdP fdI fdW fdR : FuncData}
theorem sz {n : Nat} (h : n ≤ 1000) : n ≤ sizeLine := Nat.le_of_lt (small1000 h)
def spFw : Sp := fun vs H Q _ => ∃ l : Addr, vs = [.ref l] ∧ PotAt H l ∧ ∀ (H' : Hp) (T : Addr) (ws : List Str), Ch l H H' → PotAt H' l → wdsOk ws → H' T = some (.tup (ws.map V.str)) → Q (.ref T) H'
abbrev wordsF : List Str := ["NOMODULE", "NONAME", "HALF", "FLAT", "NOTASK", "ALL", "", ""]
theorem wordsF_ok : ∀ z ∈ wordsF, z ∈ greatW ∨ z = Str.ofString "" := by decide +kernel
theorem inV_strs (z : Str) : ∀ ys : List Str, inV (.str z) (ys.map V.str) = decide (z ∈ ys)
  | [] => rfl
  | y :: ys => by
    have ih := inV_strs z ys
    unfold inV at ih ⊢
    rw [List.map_cons, List.any_cons, ih]
    show ((y == z) || decide (z ∈ ys)) = _
    by_cases h : z = y
    · subst h
      simp
    · have hb : (y == z) = false := beq_eq_false_iff_ne.mpr fun e => h e.symm
      rw [hb, Bool.false_or]
      simp [h]
theorem flat_strs : ∀ ys : List Str, (ys.map V.str).all flatV = true
  | [] => rfl
  | y :: ys => by
    rw [List.map_cons, List.all_cons, flat_strs ys]
    rfl
theorem ok_fw (F : FnP K "_law_fault_words" sFw f fd) (GN : FnOk P w K mg base CX0 2 fN fdN ["_law_pot_here"] spNm) (FN : FnP K "_law_name" sNm fN fdN) (gN : mg "_law_name" = some (.ref fN)) (GD : FnOk P w K mg base CX0 1 fD fdD ["_law_pot_here", "_law_many"] spDraw) (FD : FnP K "_law_draw" sDraw fD fdD) (gD : mg "_law_draw" = some (.ref fD))
    (mr : mg "range" = none) (mt : mg "tuple" = none) : FnOk P w K mg base CX0 3 f fd ["_law_pot_here"] spFw := by
  have bD : Binds K fdD ["_law_pot_here", "_law_many"] [] := FD.bindsN fun _ _ _ _ _ _ us hl => match us, hl with | [_, _], _ => rfl
  have bN : Binds K fdN ["_law_pot_here"] [] := FN.bindsN fun _ _ _ _ _ _ us hl => match us, hl with | [_], _ => rfl
  refine ok_code F scFw (fun vs H Q E h => ?_) (fun cdv A outer s H vs Q E hcd hr h => ?_)
  · obtain ⟨l, rfl, _⟩ := h
    rfl
  · obtain ⟨l, rfl, hP, q⟩ := h
    have hr1 : Room 1 (A.deeper (envOfC "_law_fault_words" (defScope sFw) s.heap.objs.size f cdv)) := hr.mono (by decide)
    refine ⟨_, pss_cons (ps_set (i := 1) scFw.nd rfl (.inl rfl) (pe_lst pa_nil))
      (pss_cons (ps_for PassesOwn.never rfl (pi_range1 (by rfl) mr (pa_cons (pe_call GD hr1 (by rfl) gD FD.kp bD .nil pass0 (pa_cons (pv 0) (pa_cons pe_int pa_nil))) pa_nil)) (pg_name (i := 2) scFw.nd rfl (.inl rfl))
        (pss_cons (ps_set (i := 3) scFw.nd rfl (.inl rfl) (pe_ix ix_list (pe_lst (pa_cons pe_str (pa_cons pe_str (pa_cons pe_str (pa_cons pe_str (pa_cons pe_str (pa_cons pe_str (pa_cons pe_str (pa_cons pe_str pa_nil))))))))) (pe_call GD hr1 (by rfl) gD FD.kp bD .nil pass0 (pa_cons (pv 0) (pa_cons pe_int pa_nil))) (fun _ _ => rfl)))
        (pss_cons (ps_if (pt_cmpR op_eq (pv 3) pe_str (nomark _)) (pss_one (ps_set (i := 3) scFw.nd rfl (.inl rfl) (pe_call GN hr (by rfl) gN FN.kp bN .nil pass0 (pa_cons (pv 0) pa_nil)))) pss_nil)
        (pss_one (ps_if (pt_cmpR op_notIn_seq (pv 3) (pv 1) (by rfl)) (pss_one (ps_expr (pe_bm PySem.F.plainAttrs_list PySem.F.slot_list_append PySem.F.type_list_append mt_append (pv 1) (pa_cons (pv 3) pa_nil)))) pss_nil)))))
      (pss_one (ps_ret (pe_callTy call_tuple_of (by rfl) mt (by decide +kernel) (pa_cons (pv 1) pa_nil))))), ?_⟩
    refine ⟨sz (by simp), fun B hB => ?_⟩
    have nB : B ≠ l := hP.ne hB
    refine ⟨_, rfl, l, _, pa (hP.new nB), pb (hP.new nB), rfl, by decide, by decide, ph (hP.new nB), pk (hP.new nB), fun H0 nn c0 hP0 n0 n1 => ⟨_, rfl, by omega, by omega, ?_⟩⟩
    refine for_it (n := nn.toNat) walk_range (fun i σ H' => ∃ (v2 v3 : Option V) (ws : List Str), σ = [some (.ref l), some (.ref B), v2, v3] ∧ Ch l H H' ∧ PotAt H' l ∧ H' B = some (.lst (ws.map V.str)) ∧ ws.length ≤ i ∧ ws.Nodup ∧ ∀ w ∈ ws, w ∈ greatW ∨ nmOk w)
      ⟨none, none, [], rfl, Ch.trans (Ch.new hB) c0, hP0, c0 B _ upd_same nB, Nat.le_refl _, List.nodup_nil, fun x hx => by cases hx⟩ (fun _ _ _ _ _ => trivial) ?_ ?_
    · rintro i x σ H1 H2 hi ⟨v2, v3, ws, rfl, k1, hP1, eB, hl, hnd, hw⟩ ⟨rfl, rfl⟩
      refine ⟨sz (by simp), fun L hL => ?_⟩
      have nL : L ≠ l := hP1.ne hL
      have nBL : B ≠ L := ne_of_none eB hL
      refine ⟨_, rfl, l, _, pa (hP1.new nL), pb (hP1.new nL), rfl, by decide, by decide, ph (hP1.new nL), pk (hP1.new nL), fun H2 d c2 hP2 d0 d1 => ?_⟩
      obtain ⟨dn, rfl⟩ : ∃ n : Nat, d = (n : Int) := ⟨d.toNat, by omega⟩
      have hdn : dn < wordsF.length := by
        show dn < 8
        omega
      have k2 : Ch l H H2 := Ch.trans k1 (Ch.trans (Ch.new hL) c2)
      have eB2 : H2 B = some (.lst (ws.map V.str)) := c2 B _ (by rw [upd_ne nBL]; exact eB) nB
      refine ⟨L, wordsF.map V.str, _, .str wordsF[dn], rfl, rfl, SqL.of (c2 L _ upd_same nL), atI_nat (by rw [List.getElem?_map, List.getElem?_eq_getElem hdn]; rfl), _, rfl, rfl, _, rfl, ?_⟩
      have fin : ∀ (H3 : Hp) (z : Str), Ch l H H3 → PotAt H3 l → H3 B = some (.lst (ws.map V.str)) → (z ∈ greatW ∨ nmOk z) → z ∉ ws → Ch l H (upd H3 B (.lst (ws.map V.str ++ [.str z]))) ∧ PotAt (upd H3 B (.lst (ws.map V.str ++ [.str z]))) l ∧ (upd H3 B (.lst (ws.map V.str ++ [.str z]))) B = some (.lst ((ws ++ [z]).map V.str)) ∧ (ws ++ [z]).length ≤ i + 1 ∧ (ws ++ [z]).Nodup ∧ ∀ w ∈ ws ++ [z], w ∈ greatW ∨ nmOk w := fun H3 z k3 hP3 e3 hz hn => by
        refine ⟨Ch.over k3 hB, hP3.new nB, ?_, ?_, ?_, fun y hy => ?_⟩
        · rw [upd_same]
          exact congrArg (fun z => some (HO.lst z)) (map_snoc V.str ws _)
        · rw [List.length_append, List.length_singleton]
          omega
        · rw [List.nodup_append]
          refine ⟨hnd, List.nodup_cons.mpr ⟨by simp, List.nodup_nil⟩, fun a ha b hb => ?_⟩
          rw [List.mem_singleton.mp hb]
          exact fun e => hn (e ▸ ha)
        · rcases List.mem_append.mp hy with y | y
          · exact hw _ y
          · rw [List.mem_singleton.mp y]
            exact hz
      have w0 := wordsF_ok _ (List.getElem_mem hdn)
      generalize wordsF[dn] = wd at w0 ⊢
      have lenB : (ws.map V.str).length < sizeLine := by
        rw [List.length_map]
        exact small1000 (by omega)
      by_cases he : wd = Str.ofString ""
      · rw [show decide (V.str wd = V.str (Str.ofString "")) = true from decide_eq_true (congrArg V.str he)]
        refine ⟨_, rfl, l, rfl, hP2, fun H3 z c3 hP3 hz => ?_⟩
        have e3 := c3 B _ eB2 nB
        refine ⟨_, rfl, _, rfl, B, _, rfl, .inl (SqL.of e3), rfl, flat_strs ws, _, rfl, ?_⟩
        show if (!inV (.str z) (ws.map V.str)) = true then _ else _
        rw [inV_strs]
        by_cases hz2 : z ∈ ws
        · rw [decide_eq_true hz2]
          exact ⟨_, _, ws, rfl, Ch.trans k2 c3, hP3, e3, by omega, hnd, hw⟩
        · rw [decide_eq_false hz2]
          obtain ⟨a1, a2, a3, a4, a5, a6⟩ := fin H3 z (Ch.trans k2 c3) hP3 e3 (.inr hz) hz2
          exact ⟨_, rfl, .inl ⟨rfl, _, SqL.of e3⟩, _, rfl, B, _, _, rfl, rfl, e3, lenB, _, _, ws ++ [z], rfl, a1, a2, a3, a4, a5, a6⟩
      · rw [show decide (V.str wd = V.str (Str.ofString "")) = false from decide_eq_false fun z => he (V.str.inj z)]
        have hg : wd ∈ greatW := w0.resolve_right he
        refine ⟨_, rfl, _, rfl, B, _, rfl, .inl (SqL.of eB2), rfl, flat_strs ws, _, rfl, ?_⟩
        show if (!inV (.str wd) (ws.map V.str)) = true then _ else _
        rw [inV_strs]
        by_cases hz2 : wd ∈ ws
        · rw [decide_eq_true hz2]
          exact ⟨_, _, ws, rfl, k2, hP2, eB2, by omega, hnd, hw⟩
        · rw [decide_eq_false hz2]
          obtain ⟨a1, a2, a3, a4, a5, a6⟩ := fin H2 wd k2 hP2 eB2 (.inl hg) hz2
          exact ⟨_, rfl, .inl ⟨rfl, _, SqL.of eB2⟩, _, rfl, B, _, _, rfl, rfl, eB2, lenB, _, _, ws ++ [wd], rfl, a1, a2, a3, a4, a5, a6⟩
    · rintro σ H1 ⟨v2, v3, ws, rfl, k1, hP1, eB, hl, hnd, hw⟩
      refine ⟨_, rfl, B, _, rfl, .inl ⟨SqL.of eB, fun T hT => q _ T ws (Ch.trans k1 (Ch.new hT)) (hP1.new (hP1.ne hT)) ⟨by omega, hnd, hw⟩ upd_same⟩⟩
/-! ### rows: a pot at l, a room at R -/
def C2 (l R : Addr) (H H' : Hp) : Prop := ∀ b o, H b = some o → b ≠ l → b ≠ R → H' b = some o
theorem C2.refl (l R : Addr) (H : Hp) : C2 l R H H := fun _ _ e _ _ => e
theorem C2.trans {l R : Addr} {H H1 H2 : Hp} (a : C2 l R H H1) (b : C2 l R H1 H2) : C2 l R H H2 := fun c o e n m => b c o (a c o e n m) n m
theorem C2.of {l R : Addr} {H H1 : Hp} (a : Ch l H H1) : C2 l R H H1 := fun c o e n _ => a c o e n
theorem C2.new {l R : Addr} {H : Hp} {p : Addr} {o : HO} (h : H p = none) : C2 l R H (upd H p o) := fun b u e _ _ => by
  rw [upd_ne (ne_of_none e h)]
  exact e
theorem C2.over {l R : Addr} {H H1 : Hp} {p : Addr} {o : HO} (a : C2 l R H H1) (h : H p = none) : C2 l R H (upd H1 p o) := fun b u e n m => by
  rw [upd_ne (ne_of_none e h)]
  exact a b u e n m
theorem C2.room {l R : Addr} {H H1 : Hp} {o : HO} (a : C2 l R H H1) : C2 l R H (upd H1 R o) := fun b u e n m => by
  rw [upd_ne m]
  exact a b u e n m
abbrev AllA : Addr → Prop := fun _ => True
/-- tuples go on -/
theorem C2.kq {l R : Addr} {H H' : Hp} {m : Int} (a : C2 l R H H') (hP : PotAt H l) (hR : H R = some (.lst [.int m])) : Kq AllA H H' := fun b o e n => by
  rcases n with ⟨xs, rfl⟩ | ⟨n, _⟩
  · refine a b _ e (fun z => ?_) (fun z => ?_)
    · subst z
      obtain ⟨p0, p1, e2, _⟩ := hP
      rw [e2] at e
      cases e
    · subst z
      rw [hR] at e
      cases e
  · exact absurd trivial n
theorem ch_kq {l : Addr} {H H' : Hp} (a : Ch l H H') (hP : PotAt H l) : Kq AllA H H' := Kq.ofCh a trivial hP
def spDRow (n : Nat) : Sp := fun vs H Q _ => ∃ (l R : Addr) (k m : Int), vs = [.ref l, .ref R, .int k] ∧ k + n = 3 ∧ 0 ≤ m ∧ l ≠ R ∧ PotAt H l ∧ H R = some (.lst [.int m]) ∧
  ∀ (H' : Hp) (v : V) (d : PyData) (c : Nat) (m' : Int), C2 l R H H' → PotAt H' l → H' R = some (.lst [.int m']) → 0 ≤ m' → (c : Int) = 1 + (m - m') → OkR n c d → Rg AllA H' v d → Q v H'
def spDRows (n : Nat) : Sp := fun vs H Q _ => ∃ (l R : Addr) (k m : Int), vs = [.ref l, .ref R, .int k] ∧ k + n = 3 ∧ 0 ≤ m ∧ l ≠ R ∧ PotAt H l ∧ H R = some (.lst [.int m]) ∧
  ∀ (H' : Hp) (T : Addr) (xs : List V) (ds : List PyData) (c : Nat) (m' : Int), C2 l R H H' → PotAt H' l → H' R = some (.lst [.int m']) → 0 ≤ m' → (c : Int) = m - m' → OkRs n c ds → H' T = some (.tup xs) → RgAll AllA H' xs ds → Q (.ref T) H'
def spDPrev : Nat → Sp
  | 0 => fun _ _ _ _ => False
  | n + 1 => spDRows n
theorem ok_dnone {k : Nat} {ps : List Str} : FnOk P w K mg base CX0 k f fd ps (fun _ _ _ _ => False) := ⟨fun _ _ _ _ h => h.elim, fun _ _ _ _ _ _ _ _ _ _ _ _ _ h => h.elim⟩
theorem ok_drow {n j : Nat} (hj : 3 ≤ j) (F : FnP K "_law_row" sDRow f fd) (GS : FnOk P w K mg base CX0 j fR fdR ["_law_pot_here", "_law_room", "_law_deep"] (spDPrev n)) (FS : FnP K "_law_rows" sDRows fR fdR) (gS : mg "_law_rows" = some (.ref fR))
    (GN : FnOk P w K mg base CX0 2 fN fdN ["_law_pot_here"] spNm) (FN : FnP K "_law_name" sNm fN fdN) (gN : mg "_law_name" = some (.ref fN)) (GP : FnOk P w K mg base CX0 3 fP fdP ["_law_pot_here"] spPt) (FP : FnP K "_law_path" sPt fP fdP) (gP : mg "_law_path" = some (.ref fP))
    (GI : FnOk P w K mg base CX0 2 fI fdI ["_law_pot_here"] spNum) (FI : FnP K "_law_number" sNum fI fdI) (gI : mg "_law_number" = some (.ref fI)) (GW : FnOk P w K mg base CX0 3 fW fdW ["_law_pot_here"] spFw) (FW : FnP K "_law_fault_words" sFw fW fdW) (gW : mg "_law_fault_words" = some (.ref fW))
    (GD : FnOk P w K mg base CX0 1 fD fdD ["_law_pot_here", "_law_many"] spDraw) (FD : FnP K "_law_draw" sDraw fD fdD) (gD : mg "_law_draw" = some (.ref fD)) : FnOk P w K mg base CX0 (j + 1) f fd ["_law_pot_here", "_law_room", "_law_deep"] (spDRow n) := by
  have bD : Binds K fdD ["_law_pot_here", "_law_many"] [] := FD.bindsN fun _ _ _ _ _ _ us hl => match us, hl with | [_, _], _ => rfl
  have bN : Binds K fdN ["_law_pot_here"] [] := FN.bindsN fun _ _ _ _ _ _ us hl => match us, hl with | [_], _ => rfl
  have bP : Binds K fdP ["_law_pot_here"] [] := FP.bindsN fun _ _ _ _ _ _ us hl => match us, hl with | [_], _ => rfl
  have bI : Binds K fdI ["_law_pot_here"] [] := FI.bindsN fun _ _ _ _ _ _ us hl => match us, hl with | [_], _ => rfl
  have bW : Binds K fdW ["_law_pot_here"] [] := FW.bindsN fun _ _ _ _ _ _ us hl => match us, hl with | [_], _ => rfl
  have bS : Binds K fdR ["_law_pot_here", "_law_room", "_law_deep"] [] := FS.bindsN fun _ _ _ _ _ _ us hl => match us, hl with | [_, _, _], _ => rfl
  refine ok_code F scDRow (fun vs H Q E h => ?_) (fun cdv A outer s H vs Q E hcd hr h => ?_)
  · obtain ⟨l, R, k, m, rfl, _⟩ := h
    rfl
  · obtain ⟨l, R, k, m, rfl, hk, hm, nlR, hP, hR, q⟩ := h
    have hr1 : Room 1 (A.deeper (envOfC "_law_row" (defScope sDRow) s.heap.objs.size f cdv)) := hr.mono (by omega)
    have hr2 : Room 2 (A.deeper (envOfC "_law_row" (defScope sDRow) s.heap.objs.size f cdv)) := hr.mono (by omega)
    have hr3 : Room 3 (A.deeper (envOfC "_law_row" (defScope sDRow) s.heap.objs.size f cdv)) := hr.mono (by omega)
    refine ⟨_, pss_cons (ps_set (i := 3) scDRow.nd rfl (.inl rfl) (pe_call GD hr1 (by rfl) gD FD.kp bD .nil pass0 (pa_cons (pv 0) (pa_cons pe_int pa_nil))))
      (pss_cons (ps_if (PW.pt (pw_and (pt_cmpR op_gt (pv 3) pe_int (nomark _)) (pw_and1 (pt_cmpR op_lt (pv 2) pe_int (nomark _)))))
          (pss_cons (ps_set (i := 4) scDRow.nd rfl (.inl rfl) (pe_call GS hr (by rfl) gS FS.kp bS .nil pass0 (pa_cons (pv 0) (pa_cons (pv 1) (pa_cons (pe_op op_add (pv 2) pe_int) pa_nil)))))
          (pss_cons (ps_set (i := 5) scDRow.nd rfl (.inl rfl) (pe_call GW hr3 (by rfl) gW FW.kp bW .nil pass0 (pa_cons (pv 0) pa_nil)))
          (pss_one (ps_ret (pe_tup (pa_cons pe_str (pa_cons (pv 4) (pa_cons (pv 5) (pa_cons (pe_call GS hr (by rfl) gS FS.kp bS .nil pass0 (pa_cons (pv 0) (pa_cons (pv 1) (pa_cons (pe_op op_add (pv 2) pe_int) pa_nil)))) pa_nil))))))))) pss_nil)
      (pss_cons (ps_if (pt_cmpR op_eq (pv 3) pe_int (nomark _)) (pss_one (ps_ret (pe_tup (pa_cons pe_str (pa_cons (pe_call GP hr3 (by rfl) gP FP.kp bP .nil pass0 (pa_cons (pv 0) pa_nil)) pa_nil))))) pss_nil)
      (pss_cons (ps_if (pt_cmpR op_eq (pv 3) pe_int (nomark _)) (pss_one (ps_ret (pe_tup (pa_cons pe_str (pa_cons (pe_call GN hr2 (by rfl) gN FN.kp bN .nil pass0 (pa_cons (pv 0) pa_nil)) pa_nil))))) pss_nil)
      (pss_cons (ps_if (pt_cmpR op_eq (pv 3) pe_int (nomark _)) (pss_one (ps_ret (pe_tup (pa_cons pe_str (pa_cons (pe_call GN hr2 (by rfl) gN FN.kp bN .nil pass0 (pa_cons (pv 0) pa_nil)) (pa_cons (pe_call GP hr3 (by rfl) gP FP.kp bP .nil pass0 (pa_cons (pv 0) pa_nil)) (pa_cons (pe_call GN hr2 (by rfl) gN FN.kp bN .nil pass0 (pa_cons (pv 0) pa_nil)) pa_nil))))))) pss_nil)
      (pss_cons (ps_if (PW.pt (pw_or (pt_cmpR op_gt (pv 3) pe_int (nomark _)) (pw_or1 (pt_cmpR op_eq (pv 3) pe_int (nomark _))))) (pss_one (ps_ret (pe_tup (pa_cons pe_str (pa_cons (pe_call GN hr2 (by rfl) gN FN.kp bN .nil pass0 (pa_cons (pv 0) pa_nil)) (pa_cons (pe_call GI hr2 (by rfl) gI FI.kp bI .nil pass0 (pa_cons (pv 0) pa_nil)) pa_nil)))))) pss_nil)
      (pss_one (ps_ret (pe_tup (pa_cons (pe_ix ix_list (pe_lst (pa_cons pe_str (pa_cons pe_str (pa_cons pe_str (pa_cons pe_str pa_nil))))) (pe_op op_sub (pv 3) pe_int) (fun _ _ => rfl)) (pa_cons (pe_call GN hr2 (by rfl) gN FN.kp bN .nil pass0 (pa_cons (pv 0) pa_nil)) (pa_cons (pe_call GP hr3 (by rfl) gP FP.kp bP .nil pass0 (pa_cons (pv 0) pa_nil)) pa_nil))))))))))), ?_⟩
    refine ⟨_, rfl, l, _, pa hP, pb hP, rfl, by decide, by decide, ph hP, pk hP, fun H0 way c0 hP0 w0 w1 => ?_⟩
    have hR0 : H0 R = some (.lst [.int m]) := c0 R _ hR (Ne.symm nlR)
    have k0 : C2 l R H H0 := C2.of c0
    -- a row of one line
    have line : ∀ (H1 : Hp) (T : Addr) (xs : List V) (d : PyData), C2 l R H H1 → PotAt H1 l → H1 R = some (.lst [.int m]) → H1 T = none → LineOk d → (∀ H2 : Hp, H2 T = some (.tup xs) → Rg AllA H2 (.ref T) d) → Q (.ref T) (upd H1 T (.tup xs)) := fun H1 T xs d k1 hP1 hR1 hT ok rg => by
      refine q _ _ d 1 m (C2.trans k1 (C2.new hT)) (hP1.new (hP1.ne hT)) ?_ hm (by omega) (.line ok) (rg _ upd_same)
      rw [upd_ne (ne_of_none hR1 hT)]
      exact hR1
    refine ⟨_, rfl, _, _, rfl, rfl, _, rfl, ?_⟩
    have ne : ∀ z : Int, way ≠ z → decide (V.int way = V.int z) = false := fun z h => decide_eq_false fun e => h (V.int.inj e)
    by_cases h8 : way > 7
    · rw [decide_eq_true h8]
      refine ⟨_, rfl, _, _, rfl, rfl, _, rfl, ?_⟩
      cases n with
      | zero =>
        have ek : k = 3 := by omega
        subst ek
        refine ⟨_, rfl, rfl, _, rfl, ?_⟩
        rw [ne 6 (by omega)]
        refine ⟨_, rfl, rfl, _, rfl, ?_⟩
        rw [ne 7 (by omega)]
        refine ⟨_, rfl, rfl, _, rfl, ?_⟩
        rw [ne 5 (by omega)]
        refine ⟨_, rfl, _, _, rfl, rfl, _, rfl, ?_⟩
        rw [decide_eq_true h8]
        refine ⟨_, rfl, l, rfl, hP0, fun H2 z c2 hP2 hz => ⟨_, rfl, l, rfl, hP2, fun H3 n3 c3 hP3 hn => ⟨sz (by simp), fun T hT => ?_⟩⟩⟩
        exact line H3 T _ _ (C2.trans k0 (C2.of (Ch.trans c2 c3))) hP3 (c3 R _ (c2 R _ hR0 (Ne.symm nlR)) (Ne.symm nlR)) hT (.set hz hn) fun H4 e => .tup e (.cons (.str _) (.cons (.str _) (.cons (.int _) .nil)))
      | succ n =>
        have ek : k < 3 := by omega
        rw [decide_eq_true ek]
        refine ⟨_, rfl, _, rfl, _, rfl, _, _, rfl, rfl, l, R, k + 1, m, rfl, by omega, hm, nlR, hP0, hR0, fun H1 T1 xs1 ds1 c1 m1 k1 hP1 hR1 hm1 ec1 ok1 eT1 rg1 => ?_⟩
        refine ⟨_, rfl, l, rfl, hP1, fun H2 T2 ws2 k2 hP2 ok2 eT2 => ?_⟩
        have hR2 := k2 R _ hR1 (Ne.symm nlR)
        refine ⟨_, rfl, _, rfl, _, rfl, _, rfl, _, rfl, _, _, rfl, rfl, l, R, k + 1, m1, rfl, by omega, hm1, nlR, hP2, hR2, fun H3 T3 xs3 ds3 c3 m3 k3 hP3 hR3 hm3 ec3 ok3 eT3 rg3 => ⟨sz (by simp), fun T hT => ?_⟩⟩
        have q12 := ch_kq k2 hP1
        have q23 := k3.kq hP2 hR2
        have q34 : Kq AllA H3 (upd H3 T (.tup [.str "try", .ref T1, .ref T2, .ref T3])) := Kq.new hT
        have r1 := Rg.kq ((q12.trans q23).trans q34) (.tup eT1 rg1)
        have r2 : Rg AllA _ _ _ := Rg.kq (q23.trans q34) (.tup eT2 (RgAll.strs ws2))
        have r3 := Rg.kq q34 (.tup eT3 rg3)
        refine q _ _ (.tuple [.str "try", .tuple ds1, .tuple (ws2.map PyData.str), .tuple ds3]) (c1 + c3 + 1) m3 (C2.trans k0 (C2.trans k1 (C2.trans (C2.of k2) (C2.trans k3 (C2.new hT))))) (hP3.new (hP3.ne hT)) ?_ hm3 (by omega) (.tri ok1 ok2 ok3) (.tup upd_same (.cons (.str _) (.cons r1 (.cons r2 (.cons r3 .nil)))))
        rw [upd_ne (ne_of_none hR3 hT)]
        exact hR3
    · rw [decide_eq_false h8]
      refine ⟨_, rfl, rfl, _, rfl, ite2 (fun _ => ?_) (fun e6 => ?_)⟩
      · refine ⟨_, rfl, l, rfl, hP0, fun H1 z c1 hP1 hz => ⟨sz (by simp), fun T hT => ?_⟩⟩
        exact line H1 T _ _ (C2.trans k0 (C2.of c1)) hP1 (c1 R _ hR0 (Ne.symm nlR)) hT (.note hz) fun H4 e => .tup e (.cons (.str _) (.cons (.str _) .nil))
      refine ⟨_, rfl, rfl, _, rfl, ite2 (fun _ => ?_) (fun e7 => ?_)⟩
      · refine ⟨_, rfl, l, rfl, hP0, fun H1 z c1 hP1 hz => ⟨sz (by simp), fun T hT => ?_⟩⟩
        exact line H1 T _ _ (C2.trans k0 (C2.of c1)) hP1 (c1 R _ hR0 (Ne.symm nlR)) hT (.fail hz) fun H4 e => .tup e (.cons (.str _) (.cons (.str _) .nil))
      refine ⟨_, rfl, rfl, _, rfl, ite2 (fun _ => ?_) (fun e5 => ?_)⟩
      · refine ⟨_, rfl, l, rfl, hP0, fun H1 z c1 hP1 hz => ⟨_, rfl, l, rfl, hP1, fun H2 y c2 hP2 hy => ⟨_, rfl, l, rfl, hP2, fun H3 x c3 hP3 hx => ⟨sz (by simp), fun T hT => ?_⟩⟩⟩⟩
        exact line H3 T _ _ (C2.trans k0 (C2.of (Ch.trans c1 (Ch.trans c2 c3)))) hP3 (c3 R _ (c2 R _ (c1 R _ hR0 (Ne.symm nlR)) (Ne.symm nlR)) (Ne.symm nlR)) hT (.draw hz hy hx) fun H4 e => .tup e (.cons (.str _) (.cons (.str _) (.cons (.str _) (.cons (.str _) .nil))))
      refine ⟨_, rfl, _, _, rfl, rfl, _, rfl, ?_⟩
      rw [decide_eq_false h8]
      refine ⟨_, rfl, rfl, _, rfl, ite2 (fun _ => ?_) (fun e0 => ?_)⟩
      · refine ⟨_, rfl, l, rfl, hP0, fun H2 z c2 hP2 hz => ⟨_, rfl, l, rfl, hP2, fun H3 n3 c3 hP3 hn => ⟨sz (by simp), fun T hT => ?_⟩⟩⟩
        exact line H3 T _ _ (C2.trans k0 (C2.of (Ch.trans c2 c3))) hP3 (c3 R _ (c2 R _ hR0 (Ne.symm nlR)) (Ne.symm nlR)) hT (.set hz hn) fun H4 e => .tup e (.cons (.str _) (.cons (.str _) (.cons (.int _) .nil)))
      refine ⟨sz (by simp), fun L hL => ?_⟩
      have nL : L ≠ l := hP0.ne hL
      have nLR : L ≠ R := fun z => by
        rw [z, hR0] at hL
        cases hL
      have hw : way = 1 ∨ way = 2 ∨ way = 3 ∨ way = 4 := by
        have n6 : way ≠ 6 := fun z => e6 (by rw [z]; rfl)
        have n7 : way ≠ 7 := fun z => e7 (by rw [z]; rfl)
        have n5 : way ≠ 5 := fun z => e5 (by rw [z]; rfl)
        have n0 : way ≠ 0 := fun z => e0 (by rw [z]; rfl)
        omega
      obtain ⟨z0, hz0, ha⟩ : ∃ z0 : Str, z0 ∈ (["now", "take", "late", "ask"] : List Str) ∧ atI [V.str (Str.ofString "now"), V.str (Str.ofString "take"), V.str (Str.ofString "late"), V.str (Str.ofString "ask")] (way - 1) = some (.str z0) := by
        rcases hw with rfl | rfl | rfl | rfl
        · exact ⟨_, by decide, rfl⟩
        · exact ⟨"take", by decide, rfl⟩
        · exact ⟨"late", by decide, rfl⟩
        · exact ⟨"ask", by decide, rfl⟩
      refine ⟨_, rfl, _, _, rfl, rfl, L, _, way - 1, .str z0, rfl, rfl, SqL.of upd_same, ha, ?_⟩
      refine ⟨_, rfl, l, rfl, hP0.new nL, fun H1 z c1 hP1 hz => ⟨_, rfl, l, rfl, hP1, fun H2 y c2 hP2 hy => ⟨sz (by simp), fun T hT => ?_⟩⟩⟩
      refine line H2 T _ _ (C2.trans k0 (C2.trans (C2.new hL) (C2.of (Ch.trans c1 c2)))) hP2 (c2 R _ (c1 R _ (by rw [upd_ne (Ne.symm nLR)]; exact hR0) (Ne.symm nlR)) (Ne.symm nlR)) hT (.road hz0 hz hy) fun H4 e => .tup e (.cons (.str _) (.cons (.str _) (.cons (.str _) .nil)))
theorem ok_drows {n j : Nat} (hj : 1 ≤ j) (F : FnP K "_law_rows" sDRows f fd) (GR : FnOk P w K mg base CX0 j fR fdR ["_law_pot_here", "_law_room", "_law_deep"] (spDRow n)) (FR : FnP K "_law_row" sDRow fR fdR) (gR : mg "_law_row" = some (.ref fR))
    (GD : FnOk P w K mg base CX0 1 fD fdD ["_law_pot_here", "_law_many"] spDraw) (FD : FnP K "_law_draw" sDraw fD fdD) (gD : mg "_law_draw" = some (.ref fD)) (mr : mg "range" = none) (mt : mg "tuple" = none) : FnOk P w K mg base CX0 (j + 1) f fd ["_law_pot_here", "_law_room", "_law_deep"] (spDRows n) := by
  have bD : Binds K fdD ["_law_pot_here", "_law_many"] [] := FD.bindsN fun _ _ _ _ _ _ us hl => match us, hl with | [_, _], _ => rfl
  have bR : Binds K fdR ["_law_pot_here", "_law_room", "_law_deep"] [] := FR.bindsN fun _ _ _ _ _ _ us hl => match us, hl with | [_, _, _], _ => rfl
  refine ok_code F scDRows (fun vs H Q E h => ?_) (fun cdv A outer s H vs Q E hcd hr h => ?_)
  · obtain ⟨l, R, k, m, rfl, _⟩ := h
    rfl
  · obtain ⟨l, R, k, m, rfl, hk, hm, nlR, hP, hR, q⟩ := h
    have hr1 : Room 1 (A.deeper (envOfC "_law_rows" (defScope sDRows) s.heap.objs.size f cdv)) := hr.mono (by omega)
    refine ⟨_, pss_cons (ps_set (i := 3) scDRows.nd rfl (.inl rfl) (pe_ix ix_list (pe_lst (pa_cons pe_int (pa_cons pe_int (pa_cons pe_int (pa_cons pe_int (pa_cons pe_int (pa_cons pe_int (pa_cons pe_int (pa_cons pe_int pa_nil))))))))) (pe_call GD hr1 (by rfl) gD FD.kp bD .nil pass0 (pa_cons (pv 0) (pa_cons pe_int pa_nil))) (fun _ _ => rfl)))
      (pss_cons (ps_set (i := 4) scDRows.nd rfl (.inl rfl) (pe_lst pa_nil))
      (pss_cons (ps_for PassesOwn.never rfl (pi_range1 (by rfl) mr (pa_cons (pe_call GD hr1 (by rfl) gD FD.kp bD .nil pass0 (pa_cons (pv 0) (pa_cons (pv 3) pa_nil))) pa_nil)) (pg_name (i := 5) scDRows.nd rfl (.inl rfl))
        (pss_one (ps_if (pt_cmpR op_gt (pe_ix ix_list (pv 1) pe_int (fun _ _ => rfl)) pe_int (nomark _))
          (pss_cons (ps_asg (pe_op op_sub (pe_ix ix_list (pv 1) pe_int (fun _ _ => rfl)) pe_int) (pg_sub (pv 1) pe_int set_list))
          (pss_one (ps_expr (pe_bm PySem.F.plainAttrs_list PySem.F.slot_list_append PySem.F.type_list_append mt_append (pv 4) (pa_cons (pe_call GR hr (by rfl) gR FR.kp bR .nil pass0 (pa_cons (pv 0) (pa_cons (pv 1) (pa_cons (pv 2) pa_nil)))) pa_nil))))) pss_nil)))
      (pss_one (ps_ret (pe_callTy call_tuple_of (by rfl) mt (by decide +kernel) (pa_cons (pv 4) pa_nil)))))), ?_⟩
    refine ⟨sz (by simp), fun L hL => ?_⟩
    have nL : L ≠ l := hP.ne hL
    have nLR : L ≠ R := fun z => by
      rw [z, hR] at hL
      cases hL
    refine ⟨_, rfl, l, _, pa (hP.new nL), pb (hP.new nL), rfl, by decide, by decide, ph (hP.new nL), pk (hP.new nL), fun H0 d c0 hP0 d0 d1 => ?_⟩
    obtain ⟨dn, rfl⟩ : ∃ n : Nat, d = (n : Int) := ⟨d.toNat, by omega⟩
    have hR0 : H0 R = some (.lst [.int m]) := c0 R _ (by rw [upd_ne (Ne.symm nLR)]; exact hR) (Ne.symm nlR)
    have k0 : C2 l R H H0 := C2.trans (C2.new hL) (C2.of c0)
    obtain ⟨mo, hmo0, hmo1, hmo⟩ : ∃ mo : Int, 0 < mo ∧ mo < 100 ∧ [V.int 4, V.int 4, V.int 4, V.int 4, V.int 4, V.int 9, V.int 9, V.int 41][dn]? = some (V.int mo) := by
      have hdn : dn < 8 := by omega
      match dn, hdn with
      | 0, _ => exact ⟨4, by decide, by decide, rfl⟩
      | 1, _ => exact ⟨4, by decide, by decide, rfl⟩
      | 2, _ => exact ⟨4, by decide, by decide, rfl⟩
      | 3, _ => exact ⟨4, by decide, by decide, rfl⟩
      | 4, _ => exact ⟨4, by decide, by decide, rfl⟩
      | 5, _ => exact ⟨9, by decide, by decide, rfl⟩
      | 6, _ => exact ⟨9, by decide, by decide, rfl⟩
      | 7, _ => exact ⟨41, by decide, by decide, rfl⟩
    refine ⟨L, _, _, .int mo, rfl, rfl, SqL.of (c0 L _ upd_same nL), atI_nat hmo, sz (by simp), fun B hB => ?_⟩
    have nB : B ≠ l := hP0.ne hB
    have nBR : B ≠ R := fun z => by
      rw [z, hR0] at hB
      cases hB
    have hlog : mo.natAbs.log2 < 9000 := by
      have h1 : mo.natAbs < 2 ^ 7 := by omega
      by_cases h0 : mo.natAbs = 0
      · rw [h0]
        decide
      · have := (Nat.log2_lt h0).mpr h1
        omega
    refine ⟨_, rfl, _, rfl, l, mo, pa (hP0.new nB), pb (hP0.new nB), rfl, hmo0, hlog, ph (hP0.new nB), pk (hP0.new nB), fun H1 nn c1 hP1 n0 n1 => ⟨_, rfl, by omega, by omega, ?_⟩⟩
    have hR1 : H1 R = some (.lst [.int m]) := c1 R _ (by rw [upd_ne (Ne.symm nBR)]; exact hR0) (Ne.symm nlR)
    have k1 : C2 l R H H1 := C2.trans k0 (C2.trans (C2.new hB) (C2.of c1))
    have fB : H B = none := by
      cases e : H B with
      | none => rfl
      | some o =>
        have := k0 B o e nB nBR
        rw [this] at hB
        cases hB
    refine for_it (n := nn.toNat) walk_range (fun i σ H' => ∃ (v5 : Option V) (xs : List V) (ds : List PyData) (c : Nat) (m' : Int), σ = [some (.ref l), some (.ref R), some (.int k), some (.int mo), some (.ref B), v5] ∧ C2 l R H H' ∧ PotAt H' l ∧ H' R = some (.lst [.int m']) ∧ 0 ≤ m' ∧ (c : Int) = m - m' ∧ OkRs n c ds ∧ H' B = some (.lst xs) ∧ RgAll AllA H' xs ds ∧ xs.length ≤ i)
      ⟨none, [], [], 0, m, rfl, k1, hP1, hR1, hm, by omega, .nil, c1 B _ upd_same nB, .nil, Nat.le_refl _⟩ (fun _ _ _ _ _ => trivial) ?_ ?_
    · rintro i x σ H2 H3 hi ⟨v5, xs, ds, c, m', rfl, k2, hP2, hR2, hm2, ec, okd, eB, rg, hlen⟩ ⟨rfl, rfl⟩
      refine ⟨_, rfl, R, _, 0, .int m', rfl, rfl, SqL.of hR2, atI_nat (j := 0) rfl, _, _, rfl, rfl, _, rfl, ite2 (fun h0 => ?_) (fun h0 => ?_)⟩
      · have hpos : m' > 0 := of_decide_eq_true h0
        refine ⟨_, rfl, R, _, 0, .int m', rfl, rfl, SqL.of hR2, atI_nat (j := 0) rfl, _, _, rfl, rfl, _, rfl, R, _, 0, 0, rfl, rfl, hR2, rfl, ?_⟩
        have nlR' := nlR
        have hP3 : PotAt (upd H3 R (.lst [.int (m' - 1)])) l := hP2.new (Ne.symm nlR)
        have eB3 : (upd H3 R (.lst [.int (m' - 1)])) B = some (.lst xs) := by
          rw [upd_ne nBR]
          exact eB
        refine ⟨_, rfl, .inl ⟨rfl, _, SqL.of eB3⟩, _, rfl, _, rfl, _, rfl, l, R, k, m' - 1, rfl, hk, by omega, nlR, hP3, upd_same, fun H4 v d c' m4 k4 hP4 hR4 hm4 ec4 okr rgr => ?_⟩
        have eB4 : H4 B = some (.lst xs) := k4 B _ eB3 nB nBR
        have kr : Kq AllA H3 (upd H3 R (.lst [.int (m' - 1)])) := Kq.put hR2 trivial
        have k34 := k4.kq hP3 upd_same
        have k45 : Kq AllA H4 (upd H4 B (.lst (xs ++ [v]))) := Kq.put eB4 trivial
        refine ⟨B, xs, v, rfl, rfl, eB4, small1000 (by omega), _, xs ++ [v], ds ++ [d], c + c', m4, rfl, C2.over (C2.trans (C2.room k2) k4) fB, hP4.new nB, ?_, hm4, by omega, okd.snoc okr, upd_same, (rg.kq ((kr.trans k34).trans k45)).snoc (rgr.kq k45), ?_⟩
        · rw [upd_ne (Ne.symm nBR)]
          exact hR4
        · rw [List.length_append, List.length_singleton]
          omega
      · exact ⟨_, xs, ds, c, m', rfl, k2, hP2, hR2, hm2, ec, okd, eB, rg, by omega⟩
    · rintro σ H2 ⟨v5, xs, ds, c, m', rfl, k2, hP2, hR2, hm2, ec, okd, eB, rg, hlen⟩
      refine ⟨_, rfl, B, _, rfl, .inl ⟨SqL.of eB, fun T hT => q _ T xs ds c m' (C2.trans k2 (C2.new hT)) (hP2.new (hP2.ne hT)) ?_ hm2 ec okd upd_same (rg.kq (Kq.new hT))⟩⟩
      rw [upd_ne (ne_of_none hR2 hT)]
      exact hR2
/-- both, at any number of tries -/
theorem ok_dboth (FR : FnP K "_law_row" sDRow f fd) (FS : FnP K "_law_rows" sDRows fR fdR) (gR : mg "_law_row" = some (.ref f)) (gS : mg "_law_rows" = some (.ref fR))
    (GN : FnOk P w K mg base CX0 2 fN fdN ["_law_pot_here"] spNm) (FN : FnP K "_law_name" sNm fN fdN) (gN : mg "_law_name" = some (.ref fN)) (GP : FnOk P w K mg base CX0 3 fP fdP ["_law_pot_here"] spPt) (FP : FnP K "_law_path" sPt fP fdP) (gP : mg "_law_path" = some (.ref fP))
    (GI : FnOk P w K mg base CX0 2 fI fdI ["_law_pot_here"] spNum) (FI : FnP K "_law_number" sNum fI fdI) (gI : mg "_law_number" = some (.ref fI)) (GW : FnOk P w K mg base CX0 3 fW fdW ["_law_pot_here"] spFw) (FW : FnP K "_law_fault_words" sFw fW fdW) (gW : mg "_law_fault_words" = some (.ref fW))
    (GD : FnOk P w K mg base CX0 1 fD fdD ["_law_pot_here", "_law_many"] spDraw) (FD : FnP K "_law_draw" sDraw fD fdD) (gD : mg "_law_draw" = some (.ref fD)) (mr : mg "range" = none) (mt : mg "tuple" = none) :
    ∀ n, FnOk P w K mg base CX0 (4 + 2 * n) f fd ["_law_pot_here", "_law_room", "_law_deep"] (spDRow n) ∧ FnOk P w K mg base CX0 (5 + 2 * n) fR fdR ["_law_pot_here", "_law_room", "_law_deep"] (spDRows n) := by
  intro n
  induction n with
  | zero =>
    have h := ok_drow (n := 0) (j := 3) (Nat.le_refl _) FR ok_dnone FS gS GN FN gN GP FP gP GI FI gI GW FW gW GD FD gD
    exact ⟨h, ok_drows (by decide) FS h FR gR GD FD gD mr mt⟩
  | succ n ih =>
    have h := ok_drow (n := n + 1) (j := 5 + 2 * n) (by omega) FR ih.2 FS gS GN FN gN GP FP gP GI FI gI GW FW gW GD FD gD
    have e : 5 + 2 * n + 1 = 4 + 2 * (n + 1) := by omega
    rw [e] at h
    have h2 := ok_drows (by omega) FS h FR gR GD FD gD mr mt
    have e2 : 4 + 2 * (n + 1) + 1 = 5 + 2 * (n + 1) := by omega
    rw [e2] at h2
    exact ⟨h, h2⟩
end
end D13
set_option maxHeartbeats 4000000
/-! Bodies as texts: the mathematics. -/
namespace XT2
open PySem PySem.Spec PyProof.Rows L2 HM XW XR K11 SX TL
/-! ### numbers -/
abbrev numT (i : Int) : Str := Str.ofString (toString i)
def numC (i : Int) : List Nat := match i with
  | .ofNat n => numL n
  | .negSucc n => 45 :: numL (n + 1)
theorem tl_numT (i : Int) : tl (numT i) = numC i := by
  cases i with
  | ofNat n => exact tl_num n
  | negSucc n =>
    show (Str.ofString ("-" ++ Nat.repr (n + 1))).cps.toList = 45 :: numL (n + 1)
    rw [signs_ofString]
    show ("-" ++ Nat.repr (n + 1)).toList.map Char.toNat = _
    rw [String.toList_append, List.map_append, Nat.toList_repr]
    rfl
theorem numC_ok (i : Int) : ∀ c ∈ numC i, c = 45 ∨ (48 ≤ c ∧ c ≤ 57) := by
  cases i with
  | ofNat n => exact fun c hc => .inr (numL_digits n c hc)
  | negSucc n =>
    intro c hc
    rcases List.mem_cons.mp hc with z | z
    · exact .inl z
    · exact .inr (numL_digits (n + 1) c z)
theorem numC_len {i : Int} (h : i.natAbs < 10 ^ 60) : (numC i).length ≤ 61 := by
  cases i with
  | ofNat n =>
    have := numL_len (n := n) (k := 60) (by decide) h
    show (numL n).length ≤ 61
    omega
  | negSucc n =>
    have := numL_len (n := n + 1) (k := 60) (by decide) h
    show (numL (n + 1)).length + 1 ≤ 61
    omega
theorem num_back {i : Int} (h : i.natAbs < 10 ^ 60) : intText? (numT i) = some i ∧ (numT i).length ≤ 640 := by
  have hl := numC_len h
  have e := tl_numT i
  have h2 : (numT i).length ≤ 61 := by
    rw [len_tl, e]
    exact hl
  refine ⟨?_, by omega⟩
  cases i with
  | ofNat n => exact int_num (by have : (numL n).length ≤ 61 := hl; omega)
  | negSucc n =>
    have e2 := intText_neg (x := numT (.negSucc n)) (cs := numL (n + 1)) e (numL_digits _) (numL_ne _) (by omega)
    rw [numL_val] at e2
    exact e2
/-! ### rows as lines -/
def partT : PyData → Str
  | .str x => x
  | .int i => numT i
  | _ => Str.ofString ""
abbrev blank : Str := Str.ofString " "
abbrev lf : Str := Str.ofString "\n"
theorem tl_blank : tl blank = [32] := by decide +kernel
theorem tl_lf : tl lf = [10] := by decide +kernel
def lineT (ps : List PyData) : Str := Txt.join blank (ps.map partT)
def caughtT (ws : List Str) : Str := Txt.join blank (Str.ofString "caught" :: ws)
/-- signs that texts of parts may have -/
def goodC (c : Nat) : Prop := c ≠ 32 ∧ c ≠ 10
def goodW (z : Str) : Prop := (∀ c ∈ tl z, goodC c) ∧ z.length ≤ 61
theorem good_nm {z : Str} (h : nmOk z) : goodW z := by
  refine ⟨fun c hc => ?_, by have := (nm_len h).1; omega⟩
  have := nm_low h c hc
  unfold low at this
  obtain ⟨h1, _⟩ := Bool.and_eq_true_iff.mp this
  have h2 := of_decide_eq_true h1
  exact ⟨by omega, by omega⟩
theorem mem_joinL {s : Nat} : ∀ {parts : List (List Nat)} {c : Nat}, c ∈ joinL [s] parts → c = s ∨ ∃ p ∈ parts, c ∈ p
  | [], c, h => by cases h
  | [p], c, h => .inr ⟨p, List.mem_singleton.mpr rfl, h⟩
  | p :: q :: r, c, h => by
    have h2 : c ∈ p ++ ([s] ++ joinL [s] (q :: r)) := h
    rcases List.mem_append.mp h2 with z | z
    · exact .inr ⟨p, List.mem_cons_self, z⟩
    · rcases List.mem_append.mp z with z | z
      · exact .inl (List.mem_singleton.mp z)
      · rcases mem_joinL z with y | ⟨y, hy, hc⟩
        · exact .inl y
        · exact .inr ⟨y, List.mem_cons_of_mem _ hy, hc⟩
theorem tl_dot : tl (Str.ofString ".") = [46] := by decide +kernel
theorem good_pt {z : Str} (h : ptOk z) : goodW z := by
  obtain ⟨ws, rfl, h1, h4, hw⟩ := h
  refine ⟨fun c hc => ?_, ?_⟩
  · rw [join_eq, tl_join, tl_dot] at hc
    rcases mem_joinL hc with y | ⟨p, hp, hc⟩
    · exact ⟨by omega, by omega⟩
    · obtain ⟨z, hz, rfl⟩ := List.mem_map.mp hp
      exact (good_nm (hw z hz)).1 c hc
  · have h := len_join (Str.ofString ".") ws
    have h1 : (Str.ofString ".").length = 1 := by decide +kernel
    have go : ∀ l : List Str, (∀ w ∈ l, nmOk w) → (l.map (·.length)).sum ≤ 8 * l.length := fun l => by
      induction l with
      | nil => intro _; exact Nat.le_refl _
      | cons a l ih =>
        intro hh
        have := (nm_len (hh a List.mem_cons_self)).1
        have := ih fun y hy => hh y (List.mem_cons_of_mem _ hy)
        rw [List.map_cons, List.sum_cons, List.length_cons]
        omega
    have := go ws hw
    rw [h1] at h
    omega
theorem good_num {i : Int} (h : i.natAbs < 10 ^ 60) : goodW (numT i) := by
  refine ⟨fun c hc => ?_, ?_⟩
  · rw [tl_numT] at hc
    rcases numC_ok i c hc with z | z
    · exact ⟨by omega, by omega⟩
    · exact ⟨by omega, by omega⟩
  · rw [len_tl, tl_numT]
    exact numC_len h
theorem good_great : ∀ z ∈ greatW, (∀ c ∈ tl z, goodC c) ∧ z.length ≤ 8 := by
  unfold goodC
  decide +kernel
theorem good_lit : ∀ z ∈ (["set", "now", "take", "late", "ask", "draw", "note", "fail", "caught", "done", "try"] : List Str), (∀ c ∈ tl z, goodC c) ∧ z.length ≤ 6 := by
  unfold goodC
  decide +kernel
def rowWords : List Str := ["set", "now", "take", "late", "ask", "draw", "note", "fail"]
/-- what a line's parts are -/
structure LineF (ps : List PyData) : Prop where
  len : 2 ≤ ps.length ∧ ps.length ≤ 4
  parts : ∀ p ∈ ps, (∃ x, p = .str x) ∨ ∃ i : Int, p = .int i ∧ i.natAbs < 10 ^ 60
  good : ∀ p ∈ ps, goodW (partT p)
  head : ∃ w r, ps = .str w :: r ∧ w ∈ rowWords
  kind : (∃ z n, ps = [.str "set", .str z, .int n] ∧ n.natAbs < 10 ^ 60) ∨ (∃ ws : List Str, ps = ws.map PyData.str ∧ ∃ w r, ws = w :: r ∧ w ≠ Str.ofString "set")
theorem lineF {d : PyData} (h : LineOk d) : ∃ ps, d = .tuple ps ∧ LineF ps := by
  have gl : ∀ {z : Str}, z ∈ (["set", "now", "take", "late", "ask", "draw", "note", "fail", "caught", "done", "try"] : List Str) → goodW z := fun {z} hz => ⟨(good_lit z hz).1, by have := (good_lit z hz).2; omega⟩
  cases h with
  | @set z n hz hn =>
    refine ⟨_, rfl, ⟨by show 2 ≤ 3; decide, by show 3 ≤ 4; decide⟩, fun p hp => ?_, fun p hp => ?_, ⟨_, _, rfl, by decide⟩, .inl ⟨_, _, rfl, hn⟩⟩
    · simp only [List.mem_cons, List.not_mem_nil, or_false] at hp
      rcases hp with rfl | rfl | rfl
      · exact .inl ⟨_, rfl⟩
      · exact .inl ⟨_, rfl⟩
      · exact .inr ⟨_, rfl, hn⟩
    · simp only [List.mem_cons, List.not_mem_nil, or_false] at hp
      rcases hp with rfl | rfl | rfl
      · exact gl (by decide)
      · exact good_nm hz
      · exact good_num hn
  | @road w z p hw hz hp =>
    have hw2 : w ∈ rowWords ∧ w ≠ Str.ofString "set" ∧ w ∈ (["set", "now", "take", "late", "ask", "draw", "note", "fail", "caught", "done", "try"] : List Str) := by
      revert w
      decide
    refine ⟨_, rfl, ⟨by show 2 ≤ 3; decide, by show 3 ≤ 4; decide⟩, fun q hq => ?_, fun q hq => ?_, ⟨_, _, rfl, hw2.1⟩, .inr ⟨[w, z, p], rfl, w, _, rfl, hw2.2.1⟩⟩
    · simp only [List.mem_cons, List.not_mem_nil, or_false] at hq
      rcases hq with rfl | rfl | rfl <;> exact .inl ⟨_, rfl⟩
    · simp only [List.mem_cons, List.not_mem_nil, or_false] at hq
      rcases hq with rfl | rfl | rfl
      · exact gl hw2.2.2
      · exact good_nm hz
      · exact good_pt hp
  | @draw z p y hz hp hy =>
    refine ⟨_, rfl, ⟨by show 2 ≤ 4; decide, by show 4 ≤ 4; decide⟩, fun q hq => ?_, fun q hq => ?_, ⟨_, _, rfl, by decide⟩, .inr ⟨["draw", z, p, y], rfl, _, _, rfl, by decide⟩⟩
    · simp only [List.mem_cons, List.not_mem_nil, or_false] at hq
      rcases hq with rfl | rfl | rfl | rfl <;> exact .inl ⟨_, rfl⟩
    · simp only [List.mem_cons, List.not_mem_nil, or_false] at hq
      rcases hq with rfl | rfl | rfl | rfl
      · exact gl (by decide)
      · exact good_nm hz
      · exact good_pt hp
      · exact good_nm hy
  | @note p hp =>
    refine ⟨_, rfl, ⟨by show 2 ≤ 2; decide, by show 2 ≤ 4; decide⟩, fun q hq => ?_, fun q hq => ?_, ⟨_, _, rfl, by decide⟩, .inr ⟨["note", p], rfl, _, _, rfl, by decide⟩⟩
    · simp only [List.mem_cons, List.not_mem_nil, or_false] at hq
      rcases hq with rfl | rfl <;> exact .inl ⟨_, rfl⟩
    · simp only [List.mem_cons, List.not_mem_nil, or_false] at hq
      rcases hq with rfl | rfl
      · exact gl (by decide)
      · exact good_pt hp
  | @fail z hz =>
    refine ⟨_, rfl, ⟨by show 2 ≤ 2; decide, by show 2 ≤ 4; decide⟩, fun q hq => ?_, fun q hq => ?_, ⟨_, _, rfl, by decide⟩, .inr ⟨["fail", z], rfl, _, _, rfl, by decide⟩⟩
    · simp only [List.mem_cons, List.not_mem_nil, or_false] at hq
      rcases hq with rfl | rfl <;> exact .inl ⟨_, rfl⟩
    · simp only [List.mem_cons, List.not_mem_nil, or_false] at hq
      rcases hq with rfl | rfl
      · exact gl (by decide)
      · exact good_nm hz
theorem blank_k : blank.cps.all (· < 256) = true := by decide +kernel
/-- words with blanks between, split -/
theorem split_words {ws : List Str} (hne : ws ≠ []) (h : ∀ w ∈ ws, ∀ c ∈ tl w, goodC c) : Txt.split (Txt.join blank ws) blank = ws := split_join tl_blank blank_k hne fun p hp hc => (h p hp 32 hc).1 rfl
theorem nolf_words {ws : List Str} (h : ∀ w ∈ ws, ∀ c ∈ tl w, goodC c) : 10 ∉ tl (Txt.join blank ws) := fun hc => by
  rw [join_eq, tl_join, tl_blank] at hc
  rcases mem_joinL hc with y | ⟨p, hp, hc⟩
  · omega
  · obtain ⟨z, hz, rfl⟩ := List.mem_map.mp hp
    exact (h z hz 10 hc).2 rfl
theorem len_words {ws : List Str} {n : Nat} (h : ∀ w ∈ ws, w.length ≤ n) : (Txt.join blank ws).length ≤ (n + 1) * ws.length := by
  have h2 := len_join blank ws
  have h1 : blank.length = 1 := by decide +kernel
  have go : ∀ l : List Str, (∀ w ∈ l, w.length ≤ n) → (l.map (·.length)).sum ≤ n * l.length := fun l => by
    induction l with
    | nil => intro _; exact Nat.zero_le _
    | cons a l ih =>
      intro hh
      have h3 := hh a List.mem_cons_self
      have h4 := ih fun y hy => hh y (List.mem_cons_of_mem _ hy)
      rw [List.map_cons, List.sum_cons, List.length_cons, Nat.mul_succ]
      omega
  have := go ws h
  rw [h1, Nat.mul_one] at h2
  rw [Nat.add_mul, Nat.one_mul]
  omega
theorem map_good {ps : List PyData} (h : LineF ps) : ∀ w ∈ ps.map partT, ∀ c ∈ tl w, goodC c := fun w hw => by
  obtain ⟨p, hp, rfl⟩ := List.mem_map.mp hw
  exact (h.good p hp).1
theorem line_split {ps : List PyData} (h : LineF ps) : Txt.split (lineT ps) blank = ps.map partT := by
  refine split_words (fun e => ?_) (map_good h)
  have := h.len.1
  rw [List.map_eq_nil_iff.mp e] at this
  simp at this
theorem line_nolf {ps : List PyData} (h : LineF ps) : 10 ∉ tl (lineT ps) := nolf_words (map_good h)
theorem line_len {ps : List PyData} (h : LineF ps) : (lineT ps).length ≤ 248 := by
  have := len_words (ws := ps.map partT) (n := 61) fun w hw => by
    obtain ⟨p, hp, rfl⟩ := List.mem_map.mp hw
    exact (h.good p hp).2
  rw [List.length_map] at this
  have h4 := h.len.2
  have : (61 + 1) * ps.length ≤ 62 * 4 := Nat.mul_le_mul_left 62 h4
  unfold lineT
  omega
theorem split_try : Txt.split (Str.ofString "try") blank = [Str.ofString "try"] := by
  have := split_words (ws := [Str.ofString "try"]) (by simp) (fun w hw => by rw [List.mem_singleton.mp hw]; exact (good_lit _ (by decide)).1)
  exact this
theorem line_ne_try {ps : List PyData} (h : LineF ps) : lineT ps ≠ Str.ofString "try" := fun e => by
  have h1 := line_split h
  rw [e, split_try] at h1
  have h2 := congrArg List.length h1
  rw [List.length_map] at h2
  have := h.len.1
  simp at h2
  omega
theorem caught_good {ws : List Str} (h : wdsOk ws) : ∀ w ∈ Str.ofString "caught" :: ws, (∀ c ∈ tl w, goodC c) ∧ w.length ≤ 8 := fun w hw => by
  rcases List.mem_cons.mp hw with rfl | hw
  · exact ⟨(good_lit _ (by decide)).1, by have := (good_lit (Str.ofString "caught") (by decide)).2; omega⟩
  · rcases h.2.2 w hw with z | z
    · exact good_great w z
    · exact ⟨(good_nm z).1, (nm_len z).1⟩
theorem caught_split {ws : List Str} (h : wdsOk ws) : Txt.split (caughtT ws) blank = Str.ofString "caught" :: ws := split_words (by simp) fun w hw => (caught_good h w hw).1
theorem caught_nolf {ws : List Str} (h : wdsOk ws) : 10 ∉ tl (caughtT ws) := nolf_words fun w hw => (caught_good h w hw).1
theorem caught_len {ws : List Str} (h : wdsOk ws) : (caughtT ws).length ≤ 36 := by
  have h1 := len_words (ws := Str.ofString "caught" :: ws) (n := 8) fun w hw => (caught_good h w hw).2
  have h2 := h.1
  rw [List.length_cons] at h1
  have : (8 + 1) * (ws.length + 1) ≤ 9 * 4 := Nat.mul_le_mul_left 9 (by omega)
  unfold caughtT
  omega
mutual
/-- the lines of a row: n tries at most one within another, c rows all counted -/
inductive LnR : Nat → Nat → PyData → List Str → Prop
  | line {n : Nat} {ps : List PyData} : LineF ps → LnR n 1 (.tuple ps) [lineT ps]
  | tri {n c1 c2 : Nat} {as bs : List PyData} {ws la lb : List Str} : LnRs n c1 as la → wdsOk ws → LnRs n c2 bs lb →
      LnR (n + 1) (c1 + c2 + 1) (.tuple [.str "try", .tuple as, .tuple (ws.map PyData.str), .tuple bs]) (Str.ofString "try" :: (la ++ caughtT ws :: (lb ++ [Str.ofString "done"])))
inductive LnRs : Nat → Nat → List PyData → List Str → Prop
  | nil {n : Nat} : LnRs n 0 [] []
  | cons {n c e : Nat} {d : PyData} {ds : List PyData} {l ls : List Str} : LnR n c d l → LnRs n e ds ls → LnRs n (c + e) (d :: ds) (l ++ ls)
end
mutual
theorem lnR_of : ∀ {n c : Nat} {d : PyData}, OkR n c d → ∃ l, LnR n c d l
  | _, _, _, .line h => by
    obtain ⟨ps, rfl, hf⟩ := lineF h
    exact ⟨_, .line hf⟩
  | _, _, _, .tri h1 hw h2 => by
    obtain ⟨la, k1⟩ := lnRs_of h1
    obtain ⟨lb, k2⟩ := lnRs_of h2
    exact ⟨_, .tri k1 hw k2⟩
theorem lnRs_of : ∀ {n c : Nat} {ds : List PyData}, OkRs n c ds → ∃ l, LnRs n c ds l
  | _, _, _, .nil => ⟨_, .nil⟩
  | _, _, _, .cons h1 h2 => by
    obtain ⟨la, k1⟩ := lnR_of h1
    obtain ⟨lb, k2⟩ := lnRs_of h2
    exact ⟨_, .cons k1 k2⟩
end
/-- the text of lines -/
def tx : List Str → List Nat
  | [] => []
  | l :: ls => tl l ++ (10 :: tx ls)
theorem tx_app : ∀ a b : List Str, tx (a ++ b) = tx a ++ tx b
  | [], b => rfl
  | l :: a, b => by
    show tl l ++ (10 :: tx (a ++ b)) = tl l ++ (10 :: tx a) ++ tx b
    rw [tx_app a b]
    simp
mutual
theorem lnR_len : ∀ {n c : Nat} {d : PyData} {l : List Str}, LnR n c d l → (tx l).length ≤ 249 * c ∧ l.length ≤ 3 * c ∧ ∀ z ∈ l, 10 ∉ tl z ∧ z.length ≤ 248
  | _, _, _, _, .line h => by
    have h1 := line_len h
    refine ⟨?_, by simp, fun z hz => ?_⟩
    · show (tl (lineT _) ++ [10]).length ≤ _
      rw [List.length_append, ← len_tl]
      simp
      omega
    · rw [List.mem_singleton.mp hz]
      exact ⟨line_nolf h, h1⟩
  | _, _, _, _, .tri h1 hw h2 => by
    obtain ⟨a1, a2, a3⟩ := lnRs_len h1
    obtain ⟨b1, b2, b3⟩ := lnRs_len h2
    have hc := caught_len hw
    have e3 : (tl (Str.ofString "try")).length = 3 := by decide +kernel
    have e4 : (tl (Str.ofString "done")).length = 4 := by decide +kernel
    refine ⟨?_, ?_, fun z hz => ?_⟩
    · show (tl (Str.ofString "try") ++ (10 :: tx (_ ++ caughtT _ :: (_ ++ [Str.ofString "done"])))).length ≤ _
      rw [tx_app]
      show (tl (Str.ofString "try") ++ (10 :: (tx _ ++ (tl (caughtT _) ++ (10 :: tx (_ ++ [Str.ofString "done"])))))).length ≤ _
      rw [tx_app]
      have e5 : (tx [Str.ofString "done"]).length = 5 := by decide +kernel
      simp only [List.length_append, List.length_cons, e3, e5, ← len_tl]
      omega
    · simp only [List.length_append, List.length_cons, List.length_nil]
      omega
    · simp only [List.mem_cons, List.mem_append, List.not_mem_nil, or_false] at hz
      rcases hz with rfl | hz | rfl | hz | rfl
      · exact ⟨by decide +kernel, by decide +kernel⟩
      · exact a3 z hz
      · exact ⟨caught_nolf hw, by omega⟩
      · exact b3 z hz
      · exact ⟨by decide +kernel, by decide +kernel⟩
theorem lnRs_len : ∀ {n c : Nat} {ds : List PyData} {l : List Str}, LnRs n c ds l → (tx l).length ≤ 249 * c ∧ l.length ≤ 3 * c ∧ ∀ z ∈ l, 10 ∉ tl z ∧ z.length ≤ 248
  | _, _, _, _, .nil => ⟨Nat.le_refl _, Nat.le_refl _, fun z hz => by cases hz⟩
  | _, _, _, _, .cons h1 h2 => by
    obtain ⟨a1, a2, a3⟩ := lnR_len h1
    obtain ⟨b1, b2, b3⟩ := lnRs_len h2
    refine ⟨?_, ?_, fun z hz => ?_⟩
    · rw [tx_app, List.length_append]
      omega
    · rw [List.length_append]
      omega
    · rcases List.mem_append.mp hz with y | y
      · exact a3 z y
      · exact b3 z y
end
/-- lines are found again -/
theorem split_tx : ∀ {ls : List Str}, (∀ z ∈ ls, 10 ∉ tl z) → spl [10] 0 [] (tx ls) = ls.map tl ++ [[]]
  | [], _ => by rw [show tx [] = [] from rfl, spl_nil]; rfl
  | l :: ls, h => by
    show spl [10] 0 [] (tl l ++ ([10] ++ tx ls)) = _
    rw [spl_part1 (S := []) (h l List.mem_cons_self), split_tx fun z hz => h z (List.mem_cons_of_mem _ hz)]
    rfl
theorem S_tl (z : Str) : S (tl z) = z := mk_tl z
theorem lines_split {ls : List Str} (h : ∀ z ∈ ls, 10 ∉ tl z) : Txt.split (S (tx ls)) lf = ls ++ [Str.ofString ""] := by
  have e : lf = S [10] := by decide +kernel
  rw [e, split_S (by simp) (by decide), split_tx h, List.map_append, List.map_map]
  have e2 : (S ∘ tl) = (id : Str → Str) := funext S_tl
  rw [e2, List.map_id]
  rfl
/-- the first word of a line that begins no row -/
def noRow (z : Str) : Prop := ∃ w r, Txt.split z blank = w :: r ∧ w ∈ (["", "caught", "done"] : List Str)
def someRow (z : Str) : Prop := ∃ w r, Txt.split z blank = w :: r ∧ w ∉ (["", "caught", "done"] : List Str)
theorem noRow_caught {ws : List Str} (h : wdsOk ws) : noRow (caughtT ws) := ⟨_, _, caught_split h, by decide⟩
theorem noRow_done : noRow (Str.ofString "done") := by
  have e := split_words (ws := [Str.ofString "done"]) (by simp) (fun w hw => by rw [List.mem_singleton.mp hw]; exact (good_lit _ (by decide)).1)
  exact ⟨_, _, e, by decide⟩
theorem noRow_nil : noRow (Str.ofString "") := by
  have e := split_words (ws := [Str.ofString ""]) (by simp) (fun w hw => by
    rw [List.mem_singleton.mp hw]
    intro c hc
    have : tl (Str.ofString "") = [] := by decide +kernel
    rw [this] at hc
    cases hc)
  exact ⟨_, _, e, by decide⟩
theorem someRow_try : someRow (Str.ofString "try") := ⟨_, _, split_try, by decide⟩
theorem rowWords_some : ∀ w ∈ rowWords, w ∉ (["", "caught", "done"] : List Str) := by decide
theorem someRow_line {ps : List PyData} (h : LineF ps) : someRow (lineT ps) := by
  obtain ⟨w, r, e, hw⟩ := h.head
  refine ⟨w, r.map partT, ?_, rowWords_some w hw⟩
  rw [line_split h, e]
  rfl
/-! ### texts by their signs -/
theorem S_app (a b : List Nat) : S a ++ S b = S (a ++ b) := ext_tl (tl_append _ _)
theorem join0_S : ∀ ls : List (List Nat), Txt.join (Str.ofString "") (ls.map S) = S ls.flatten := fun ls => by
  rw [join_eq]
  refine ext_tl ?_
  rw [tl_join]
  have e : tl (Str.ofString "") = [] := by decide +kernel
  rw [e, List.map_map]
  have e2 : (tl ∘ S) = (id : List Nat → List Nat) := funext fun a => by simp [S, tl]
  rw [e2, List.map_id]
  show joinL [] ls = ls.flatten
  have go : ∀ l : List (List Nat), joinL [] l = l.flatten := fun l => by
    induction l with
    | nil => rfl
    | cons a l ih =>
      cases l with
      | nil => simp [joinL]
      | cons b r =>
        show a ++ ([] ++ joinL [] (b :: r)) = _
        rw [ih]
        simp
  exact go ls
end XT2
set_option maxHeartbeats 4000000
/-! sep.join(elt for tg in iter), the element may call: the texts go into a list at S, as in a comprehension. -/
namespace GxJ
open PySem PySem.Spec PyProof.Rows L2 GxR GxA
open Builtin Builtin.Str Builtin.Int
section
variable {X : Cx} {tg elt iter : Expr} {scope : Scope} {pos : Pos} {it : Addr} {B : Around} {J : It} {fp : List Addr} {tn : Nat → Heap → Prop} {g : TG} {te : TE} {pn0 : List (Addr × Obj)} {S : Addr} {Z : Hp → Prop}
def GRj (X : Cx) (pn0 : List (Addr × Obj)) (Z : Hp → Prop) : Nat → Shared → Shared → Prop := fun _ _ s => ∃ σ H, Inv X pn0 σ H s ∧ Z H
def GYj (X : Cx) (pn0 : List (Addr × Obj)) (fp : List Addr) (S : Addr) : Protocol := fun _ _ v s kap => ∃ x σ H acc, RelV x v ∧ Inv X pn0 σ H s ∧ H S = some (.lst acc) ∧ acc.length < sizeLine ∧
  ∀ s', Inv X pn0 σ (upd H S (.lst (acc ++ [x]))) s' → (∀ b ∈ fp, ∀ o, s.heap.get? b = some o → s'.heap.get? b = some o) → kap (.send .none) s'
def GTurnJ (J : It) (g : TG) (te : TE) (k : Nat) (S : Addr) (Z : Hp → Prop) (W : Nat → Nat → Hp → Prop) : Prop := ∀ i m H, W i m H →
  (J.stop i H ∧ Z H) ∨ (J.go i H ∧ ∃ Nx : Hp → Prop, (∀ H', Nx H' → ∃ m', m' < m ∧ W (i + 1) m' H') ∧
    ∀ x H', J.yld i H x H' → g x (List.replicate k none) H' fun σ2 H2 => te σ2 H2 fun v H3 => ∃ acc, H3 S = some (.lst acc) ∧ acc.length < sizeLine ∧ Nx (upd H3 S (.lst (acc ++ [v]))))
theorem seg_j {W : Nat → Nat → Hp → Prop} (hA : B.over (.compLoop (.GeneratorExp elt [⟨tg, iter, [], 0⟩] scope pos) 0 (.ref it) .none X.env) [] = X.A) (hxe : X.xe = fun _ _ => False) (hcalm : X.calm = true) (hco : X.env.scope.isCoroutine = false)
    (T : Turn X.prog X.w X.K tg J fp it tn) (hf : ∀ b ∈ fp, b ≠ X.env.locals ∧ b ∉ X.fs ∧ (b ∈ X.ex ∨ X.s_0.heap.objs.size ≤ b) ∧ (∀ x c, X.env.cells.lookup x = some c → c ≠ b) ∧ ∀ p ∈ X.pn ++ pn0, p.1 ≠ b)
    (hg : PG X tg g) (he : PE X elt te) (turn : GTurnJ J g te X.N.length S Z W) :
    ∀ (m n : Nat), m < n → ∀ (i : Nat) (s₀ s : Shared) (σ : L2.St) (H : Hp), Inv X pn0 σ H s → tn i s.heap → (∀ b ∈ fp, H b = none) → W i m H →
      Seg (model X.prog X.w) B (fun n s₀ r s₁ => r = .ok .next ∧ GRj X pn0 Z n s₀ s₁) (GYj X pn0 fp S) n s₀ (.compLoop (.GeneratorExp elt [⟨tg, iter, [], 0⟩] scope pos) 0 (.ref it) .none X.env)
        ((model X.prog X.w).den (.compLoop (.GeneratorExp elt [⟨tg, iter, [], 0⟩] scope pos) 0 (.ref it) .none X.env)) [] s := by
  intro m
  induction m using Nat.strongRecOn with
  | _ m ih =>
  intro n hmn i s₀ s σ H I st fr w
  have I' := inv_wipe I X.N.length rfl
  have noX : ∀ (e : Value) (s' : Shared), X.xe e s' → False := fun e s' h => by
    rw [hxe] at h
    exact h
  have stat : ∀ {H' : Hp}, (∀ b ∈ fp, H' b = none) → ∀ b ∈ fp, FpOk X pn0 H' b := fun hn b hb => ⟨hn b hb, hf b hb⟩
  show Seg _ B _ _ _ s₀ _ ((compTurn (.GeneratorExp elt [⟨tg, iter, [], 0⟩] scope pos) 0 (.ref it) .none X.env).onRaise (leaving X.env)) [] s
  rw [compTurn_gen, Sem.onRaise_eq_wrap]
  refine seg_bind_wrap (wpAny_standAt ?_)
  rcases turn i m H w with ⟨stop, q⟩ | ⟨go, Nx, hN, step⟩
  · refine seg_bind_wrap ?_
    rw [hA]
    refine wpAny_mono (T.done X rfl rfl rfl hcalm i pn0 s _ H X.xe I' (stat fr) st stop) (fun r s1 h1 => ?_) fun e s' h => (noX e s' h).elim
    obtain ⟨rfl, I1⟩ := h1
    exact seg_end (.ok .next) ⟨rfl, _, H, I1, q⟩
  · refine seg_bind_wrap ?_
    rw [hA]
    refine wpAny_mono (T.item X rfl rfl rfl hcalm i pn0 s _ H X.xe I' (stat fr) st go) (fun r s1 h1 => ?_) fun e s' h => (noX e s' h).elim
    obtain ⟨u, rfl, h1⟩ := h1
    refine seg_bind_wrap ?_
    rw [hA]
    refine wpAny_mono h1 (fun _ s2 h2 => ?_) fun e s' h => (noX e s' h).elim
    obtain ⟨x, H2, I2, r2, y2, st2, fr2⟩ := h2
    have I2' := I2.pinned (stat fr2) (T.obj _ _ st2)
    refine seg_bind_wrap ?_
    rw [hA]
    refine wpAny_mono (hg.run _ s2 _ H2 x u _ I2' r2 (step x H2 y2)) (fun _ s3 h3 => ?_) fun e s' h => (noX e s' h).elim
    obtain ⟨σ3, H3, I3, q3⟩ := h3
    have hy : ∀ v, yieldOut X.env v = yieldValue v := fun v => by simp only [yieldOut, hco, Bool.false_eq_true, if_false]
    simp only [hy]
    refine seg_bind_wrap ?_
    refine (wpAny_of_eq (a := true) (by rfl) ?_)
    simp only [if_true]
    rw [Sem.bind_eq_wrap', Sem.bind_eq_wrap', Sem.wrap_wrap, Sem.wrap_wrap]
    refine seg_wrap ?_
    rw [hA]
    refine wpAny_mono (he.run _ s3 σ3 H3 _ I3 q3) (fun y s4 h4 => ?_) fun e s' h => (noX e s' h).elim
    obtain ⟨v, H4, I4, r4, acc, hS4, hz4, q4⟩ := h4
    have I5 := I4.unpinned
    have st4 : tn (i + 1) s4.heap := T.keep _ _ _ st2 fun b hb o e => (I4.pin (b, o) (List.mem_append_right _ (List.mem_append_right _ (mem_pinsAt hb e)))).1
    have fr4 : ∀ b ∈ fp, H4 b = none := fun b hb => by
      obtain ⟨o, e, d⟩ := T.obj _ _ st2 b hb
      exact (I4.pin (b, o) (List.mem_append_right _ (List.mem_append_right _ (mem_pinsAt hb e)))).2.1
    obtain ⟨n', rfl⟩ : ∃ n', n = n' + 1 := ⟨n - 1, by omega⟩
    refine seg_at (seg_yield rfl rfl rfl ⟨v, σ3, H4, acc, r4, I5, hS4, hz4, fun s' J' kp => ?_⟩)
    obtain ⟨m', hm', w'⟩ := hN _ q4
    refine seg_again rfl (ih m' hm' n' (by omega) (i + 1) s' s' σ3 _ J' (T.keep _ _ _ st4 kp) (fun b hb => ?_) w')
    rw [upd_ne (Ne.symm (ne_of_none hS4 (fr4 b hb)))]
    exact fr4 b hb
theorem segj_start {W : Nat → Nat → Hp → Prop} (hA : B.over (.compLoop (.GeneratorExp elt [⟨tg, iter, [], 0⟩] scope pos) 0 (.ref it) .none X.env) [] = X.A) (hxe : X.xe = fun _ _ => False) (hcalm : X.calm = true) (hco : X.env.scope.isCoroutine = false)
    (T : Turn X.prog X.w X.K tg J fp it tn) (hf : ∀ b ∈ fp, b ≠ X.env.locals ∧ b ∉ X.fs ∧ (b ∈ X.ex ∨ X.s_0.heap.objs.size ≤ b) ∧ (∀ x c, X.env.cells.lookup x = some c → c ≠ b) ∧ ∀ p ∈ X.pn ++ pn0, p.1 ≠ b)
    (hg : PG X tg g) (he : PE X elt te) (turn : GTurnJ J g te X.N.length S Z W) (m : Nat) (s₀ s : Shared) (σ : L2.St) (H : Hp) (I : Inv X pn0 σ H s) (st : tn 0 s.heap) (fr : ∀ b ∈ fp, H b = none) (w0 : W 0 m H) :
      Seg (model X.prog X.w) B (fun n s₀ r s₁ => r = .ok .next ∧ GRj X pn0 Z n s₀ s₁) (GYj X pn0 fp S) (m + 1) s₀ (.compStart (.GeneratorExp elt [⟨tg, iter, [], 0⟩] scope pos) 0 (.ref it) .none X.env)
        ((model X.prog X.w).den (.compStart (.GeneratorExp elt [⟨tg, iter, [], 0⟩] scope pos) 0 (.ref it) .none X.env)) [] s := by
  have loop := seg_j (iter := iter) (scope := scope) (pos := pos) hA hxe hcalm hco T hf hg he turn m (m + 1) (Nat.lt_succ_self _) 0 s₀ s σ H I st fr w0
  show Seg _ B _ _ _ s₀ _ ((compStart (.GeneratorExp elt [⟨tg, iter, [], 0⟩] scope pos) 0 (.ref it) .none X.env).onRaise (leaving X.env)) [] s
  unfold compStart
  rw [Sem.onRaise_eq_wrap]
  show Seg _ B _ _ _ s₀ _ ((ask >>= _).wrap _ _ _ _) [] s
  refine seg_bind_wrap (wpAny_askSetting ?_)
  split
  · exact seg_again rfl loop
  · first
      | exact seg_bind_wrap (wpAny_rule (seg_bind_wrap (wpAny_standAt (seg_bind_wrap (T.self _ 0 s _ _ st (seg_again rfl loop))))))
      | (refine seg_bind_wrap (wpAny_rule ?_); show Seg _ B _ _ _ s₀ _ ((standAt iter.pos >>= _).wrap _ _ _ _) [] s; exact seg_bind_wrap (wpAny_standAt (seg_bind_wrap (T.self _ 0 s _ _ st (seg_again rfl loop)))))
end
section
variable {X : Cx} {A : Around} {a S : Addr} {g : Nat} {go : Obj} {pn0 : List (Addr × Obj)} {Z : Hp → Prop} {R : Result → Shared → Prop} {fp : List Addr} {res : Value}
theorem ext_loop (hh : A.handled = none) (hroom : A.depth < recursionLimit) (hgo : go.cls = .type "generator" ∧ (∃ nm qn, go.data = .fields #[.int g 0, nm, qn]) ∧ go.slots = #[]) (hpn : (a, go) ∈ pn0) (hSf : S ∉ fp)
    (hR : ∀ s σ H, Inv X pn0 σ H s → Z H → R (.ok (.ret res)) s) :
    ∀ (n : Nat) (s : Shared) (gs : GenState) (σ : L2.St) (H : Hp), Inv X pn0 σ H s → s.gens[g]? = some gs →
      gs.Goes (model X.prog X.w) A.in1.in1 (fun n s₀ r s₁ => r = .ok .next ∧ GRj X pn0 Z n s₀ s₁) (GYj X pn0 fp S) n (.send .none) (s.setGen g .running) →
      codeAny (model X.prog X.w) A (.builtin "list.extend.loop" ⟨[.ref S, .ref a, res], []⟩) R s := by
  have step : ∀ n : Nat, (∀ m, n = m + 1 → ∀ (s : Shared) (gs : GenState) (σ : L2.St) (H : Hp), Inv X pn0 σ H s → s.gens[g]? = some gs →
      gs.Goes (model X.prog X.w) A.in1.in1 (fun n s₀ r s₁ => r = .ok .next ∧ GRj X pn0 Z n s₀ s₁) (GYj X pn0 fp S) m (.send .none) (s.setGen g .running) →
      codeAny (model X.prog X.w) A (.builtin "list.extend.loop" ⟨[.ref S, .ref a, res], []⟩) R s) → ∀ (s : Shared) (gs : GenState) (σ : L2.St) (H : Hp), Inv X pn0 σ H s → s.gens[g]? = some gs →
      gs.Goes (model X.prog X.w) A.in1.in1 (fun n s₀ r s₁ => r = .ok .next ∧ GRj X pn0 Z n s₀ s₁) (GYj X pn0 fp S) n (.send .none) (s.setGen g .running) →
      codeAny (model X.prog X.w) A (.builtin "list.extend.loop" ⟨[.ref S, .ref a, res], []⟩) R s := by
    intro n ih s gs σ H I hgs hgoes
    refine codeAny_builtin F.entry_extend_loop ?_
    rw [Around.under_plainId F.plain_extend_loop _]
    show wpAny _ A.in1 (pyNext (.ref a) >>= _) _ _ s
    have hlt : g < s.gens.size := by
      rcases Nat.lt_or_ge g s.gens.size with h | h
      · exact h
      · rw [Array.getElem?_eq_none h] at hgs
        cases hgs
    have hgen : s.heap.IsGen a g := by
      obtain ⟨h1, ⟨nm, qn, h2⟩, h3⟩ := hgo
      exact ⟨go, nm, qn, (I.pin (a, go) (List.mem_append_right _ hpn)).1, h1, h2, h3⟩
    refine wpAny_bind (GenW.wpAny_gsz (n := g + 1) hlt ?_)
    refine wpAny_pyNext_genexpQ (A := A.in1) (P := GRj X pn0 Z) hh I.nolimit hroom hgen hgs hgoes (fun v s₁ gs' hb hv hsz => ?_) (fun s₁ hp h' hk hsz => ?_)
    · obtain ⟨x, σ1, H1, acc, rx, I1, hS1, hz1, q1⟩ := hv
      have hsz1 : g < s₁.gens.size := by
        have : g + 1 ≤ (s₁.setGen g gs').gens.size := hsz
        rw [GenW.setGen_size] at this
        exact this
      have J1 : Inv X pn0 σ1 H1 (s₁.setGen g gs') := inv_gens I1 rfl rfl (bare_set I1.bare hb)
      obtain ⟨z, its, n0, r, hl, e⟩ := J1.lstM hS1
      have J2 := J1.lset (t' := (s₁.setGen g gs').toks) (its' := its ++ [v]) (f := (·.push v)) (ys := acc ++ [x]) hS1 e (by simp) (r.append (.cons rx .nil)) (by rw [List.length_append, List.length_singleton]; omega)
      show wpAny _ A.in1 (updateSeq S (·.push v) >>= _) _ _ _
      refine wpAny_bind ?_
      refine wpAny_updateSeq e rfl (wpAny_pure ⟨plainId_quiet F.plain_extend_loop _, ?_⟩) (by rw [List.size_toArray]; omega) (by show (its.toArray.push v).size ≤ sizeLine + 1; rw [Array.size_push, List.size_toArray]; omega)
      have q2 := q1 (({ s₁.setGen g gs' with heap := (s₁.setGen g gs').heap.update S (Obj.mapSeq (·.push v)) } : Shared).setGen g .running) (inv_gens J2 rfl rfl (bare_set J2.bare rfl)) (fun b hb o eo => ?_)
      · cases n with
        | zero => exact q2.elim
        | succ m => exact ih m rfl _ gs' σ1 _ J2 (gens_set hsz1) q2
      · exact (Heap.get?_update_other _ _ (fun h : S = b => hSf (by rw [h]; exact hb))).trans eo
    · obtain ⟨σ1, H1, I1, q1⟩ := hp
      have J1 : Inv X pn0 σ1 H1 (s₁.setGen g .finished) := inv_gens I1 rfl rfl (bare_set I1.bare rfl)
      exact wpAny_pure (hR _ σ1 H1 (J1.kept (t' := s₁.toks) hk) q1)
  intro n
  induction n with
  | zero => exact step 0 fun m e => by cases e
  | succ n ih =>
    refine step (n + 1) fun m e => ?_
    cases e
    exact ih
end
section
variable {X : Cx} {A : Around} {a : Addr} {g : Nat} {go : Obj} {fp : List Addr} {s : Shared} {Q : Value → Shared → Prop} {E : Value → Shared → Prop} {σ : L2.St} {H : Hp} {gs : GenState} {sep : Str} {tks : Tok} {Q0 : VK}
theorem vals_strs : ∀ {ws : List Str} {its : List Value}, Vals (ws.map V.str) its → ∃ l : List (Str × Tok), strValues l = its ∧ l.map (·.1) = ws
  | [], _, .nil => ⟨[], rfl, rfl⟩
  | w :: ws, _, .cons r t => by
    obtain ⟨tk, rfl⟩ := r
    obtain ⟨l, e1, e2⟩ := vals_strs t
    exact ⟨(w, tk) :: l, by rw [← e1]; rfl, by rw [List.map_cons, e2]⟩
abbrev ZJ (S : Addr) (sep : Str) (Q0 : VK) : Hp → Prop := fun H => ∃ ws : List Str, H S = some (.lst (ws.map V.str)) ∧ JoinOk sep ws = true ∧ Q0 (.str (Txt.join sep ws)) H
theorem join_gen (hh : A.handled = none) (hroom : A.depth < recursionLimit) (hgo : go.cls = .type "generator" ∧ (∃ nm qn, go.data = .fields #[.int g 0, nm, qn]) ∧ go.slots = #[]) (hgs : s.gens[g]? = some gs) (I : Inv X [(a, go)] σ H s)
    (hfp : ∀ b ∈ fp, b < s.heap.objs.size)
    (loop : ∀ s', Inv X [(a, go)] σ (upd H s.heap.objs.size (.lst [])) s' → (∀ b o, s.heap.get? b = some o → s'.heap.get? b = some o) → ∃ n, gs.Goes (model X.prog X.w) A.in1.in1.in1 (fun n s₀ r s₁ => r = .ok .next ∧ GRj X [(a, go)] (ZJ s.heap.objs.size sep Q0) n s₀ s₁) (GYj X [(a, go)] fp s.heap.objs.size) n (.send .none) (s'.setGen g .running))
    (hQ : ∀ s' σ' H' z t k, Inv X [(a, go)] σ' H' s' → Q0 (.str z) H' → Q (.str z t) { s' with toks := k }) :
    wpAny (model X.prog X.w) A (call (.builtin "str.join") [.str sep tks, .ref a]) Q E s := by
  refine wpAny_call (codeAny_call_builtin F.slot_str_join.plain F.entry_str_join (F.slot_str_join.check _ _ _ _ _ _ _ _ (typeIs_str _ _ _) (F.args_str_join_2 _ _) ?_))
  rw [join_tree_other]
  have hp : ∀ {s' : Shared} {σ' : L2.St} {H' : Hp}, Inv X [(a, go)] σ' H' s' → s'.heap.IsGen a g := fun J => by
    obtain ⟨h1, ⟨nm, qn, h2⟩, h3⟩ := hgo
    exact ⟨go, nm, qn, (J.pin (a, go) (List.mem_append_right _ (List.mem_singleton.mpr rfl))).1, h1, h2, h3⟩
  have hgen := hp I
  have hSa : s.heap.objs.size ≠ a := fun e => by
    obtain ⟨o, _, _, e2, _⟩ := hgen
    rw [← e] at e2
    exact absurd (Heap.lt_size e2) (Nat.lt_irrefl _)
  refine wpAny_bind (wpAny_typeOf hgen.typeIs ?_)
  show wpAny _ A.in1 ((pyIter (.ref a)).tryCatch _ >>= fun it => collect it >>= fun items => joinTail sep items) _ _ _
  refine wpAny_bind (wpAny_tryCatch (wpAny_pyIter_gen hgen ?_))
  refine wpAny_bind ?_
  unfold collect
  refine wpAny_bind (wpAny_runValue (codeAny_builtin F.entry_proto_collect ?_))
  rw [Around.under_plainId F.plain_proto_collect _]
  show wpAny _ A.in1.in1 (newList [] >>= fun l => again (.builtin "list.__iadd__" ⟨[l, .ref a], []⟩)) _ _ _
  refine wpAny_bind (wpAny_newObj_type ?_)
  refine wpAny_pure ⟨plainId_quiet F.plain_list_iadd _, codeAny_builtin F.entry_list_iadd ?_⟩
  rw [Around.under_plainId F.plain_list_iadd _]
  have k1 : ∀ b o, s.heap.get? b = some o → (s.heap.push { cls := .type "list", data := .seq ([] : List Value).toArray }).get? b = some o := fun b o e => Heap.get?_push_of_some _ e
  have I1 := I.kept (t' := s.toks) k1
  have hgen1 := hp I1
  show wpAny _ A.in1.in1 (Builtin.List.listExtendWith (.ref s.heap.objs.size) (.ref a) (.ref s.heap.objs.size)) _ _ _
  unfold Builtin.List.listExtendWith
  refine wpAny_bind (wpAny_typeOf hgen1.typeIs ?_)
  have h1 : Builtin.List.listSameRef (.ref s.heap.objs.size) (.ref a) = false := by simp [Builtin.List.listSameRef, hSa]
  have h2 : (Value.type "generator" == Value.type "list") = false := by decide
  have h3 : (Value.type "generator" == Value.type "tuple") = false := by decide
  simp only [h1, h2, h3, Bool.or_false, Bool.false_eq_true, if_false]
  refine wpAny_bind (wpAny_pyIter_gen hgen1 ?_)
  refine wpAny_bind (wpAny_holding ?_)
  unfold Builtin.List.listLengthHint
  refine wpAny_bind (wpAny_specialOf hgen1.typeIs F.gen_no_len ?_)
  show wpAny _ A.in1.in1 (specialOf (Value.ref a) (Str.ofString "__length_hint__") >>= _) _ _ _
  refine wpAny_bind (wpAny_specialOf hgen1.typeIs F.gen_no_hint ?_)
  refine wpAny_pure ?_
  show wpAny _ A.in1.in1 (rule "list.extend.makes-room" >>= fun _ => Builtin.List.listTouch (.ref s.heap.objs.size) >>= fun _ =>
    again (.builtin "list.extend.loop" ⟨[.ref s.heap.objs.size, .ref a, .ref s.heap.objs.size], []⟩)) _ _ _
  refine wpAny_bind (wpAny_rule ?_)
  have hS₁ : (s.heap.push { cls := .type "list", data := .seq ([] : List Value).toArray }).get? s.heap.objs.size = some { cls := .type "list", data := .seq ([] : List Value).toArray } := Heap.get?_push_size _ rfl
  refine wpAny_bind ?_
  show wpAny _ A.in1.in1 (updateSeq s.heap.objs.size (·.push .none) >>= fun _ => updateSeq s.heap.objs.size (·.pop)) _ _ _
  refine wpAny_bind (wpAny_updateSeq hS₁ rfl ?_)
  have hS₂ := Heap.get?_update_self (Obj.mapSeq (·.push Value.none)) hS₁ rfl
  refine wpAny_updateSeq hS₂ rfl ?_
  have hS₃ := Heap.get?_update_self (Obj.mapSeq (·.pop)) hS₂ rfl
  have oth : ∀ b o, s.heap.get? b = some o →
      (((s.heap.push { cls := .type "list", data := .seq ([] : List Value).toArray }).update s.heap.objs.size (Obj.mapSeq (·.push Value.none))).update s.heap.objs.size (Obj.mapSeq (·.pop))).get? b = some o := fun b o e => by
    have hb : s.heap.objs.size ≠ b := Nat.ne_of_gt (Heap.lt_size e)
    exact (Heap.get?_update_other _ _ hb).trans ((Heap.get?_update_other _ _ hb).trans (k1 b o e))
  have I2 := I.laid (t' := s.toks) (a := s.heap.objs.size) (o := .lst []) (h' := (((s.heap.push { cls := .type "list", data := .seq ([] : List Value).toArray }).update s.heap.objs.size (Obj.mapSeq (·.push Value.none))).update s.heap.objs.size (Obj.mapSeq (·.pop)))) oth (Nat.le_refl _) ⟨Nat.zero_le _, [], _, .nil, hS₃⟩
  obtain ⟨n, lp⟩ := loop _ I2 oth
  refine wpAny_pure ⟨plainId_quiet F.plain_extend_loop _, ext_loop (A := A.in1) (Z := ZJ s.heap.objs.size sep Q0) (fp := fp) (go := go) (pn0 := [(a, go)]) hh (by exact hroom) hgo (List.mem_singleton.mpr rfl) (fun z => absurd (hfp _ z) (Nat.lt_irrefl _)) (fun s' σ' H' J hz => ?_) n _ gs σ _ I2 hgs lp⟩
  obtain ⟨ws, e1, e2, e3⟩ := hz
  obtain ⟨_, its, c, rv, _, eo⟩ := J.lstM e1
  show wpAny _ A.in1 (load s.heap.objs.size >>= _) _ _ s'
  refine wpAny_bind (wpAny_load eo ?_)
  refine wpAny_pure ?_
  obtain ⟨l, el, ew⟩ := vals_strs rv
  have hok := e2
  unfold JoinOk at hok
  rw [Bool.not_eq_true', ← ew] at hok
  have gv : Gives (joinTail sep (strValues l)) (joinMade sep l) := by
    have g0 := gives_joinTail sep l hok
    cases l with
    | nil => exact g0
    | cons p r => cases r with
      | nil => exact g0
      | cons q r' => exact g0
  show wpAny _ _ (joinTail sep its.toArray.toList) _ _ s'
  have ei : its.toArray.toList = strValues l := by rw [el]
  rw [ei]
  refine gv X.prog X.w A (wants Q E) s' (post_join l ⟨joinFit_length hok, fun t' k' => ?_⟩)
  rw [ew]
  exact hQ s' σ' H' _ t' k' J e3
end
def tJoinC (P : Addr) (to : TE) (wi : TI) (g : TG) (te : TE) (k : Nat) : TE := fun σ H Q => to σ H fun v H0 => ∃ sep : Str, v = .str sep ∧ wi σ H0 fun J H1 => TabG H1 P ∧ ∀ H2, Tabbed P H1 H2 → ∀ S, H2 S = none →
  ∃ W : Nat → Nat → Hp → Prop, (∃ m, W 0 m (upd H2 S (.lst []))) ∧ GTurnJ J g te k S (fun H => ∃ ws : List Str, H S = some (.lst (ws.map V.str)) ∧ JoinOk sep ws = true ∧ Q (.str (Txt.join sep ws)) H) W
section
variable {X : Cx} {c P : Addr} {o tg elt iter : Expr} {apos cpos gpos : Pos} {scope : Scope} {to : TE} {wi : TI} {g : TG} {te : TE} {N : List Str} {k : Nat}
theorem pe_joinC (hr : Room (k + 1) X.A) (TB : TabB X.base X.mg c P) (hcode : X.env.code = .ref c) (S : GenN scope) (ho : PE X o to) (hi : PI X tg iter wi)
    (hg : ∀ A' s4 H4 cenv fp, cenv.scope = scope → PG (genCx X N A' s4 H4 cenv fp) tg g) (he : ∀ A' s4 H4 cenv fp, cenv.scope = scope → Room k A' → PE (genCx X N A' s4 H4 cenv fp) elt te)
    (hs : ∀ v, genFold iter X.env v = pure v) (hbase : attributeBase o "join" X.env (eval o X.env) = eval o X.env := by rfl)
    (hfew : ((backTo cpos (starEach [.GeneratorExp elt [⟨tg, iter, [], 0⟩] scope gpos] X.env)).all (fun x => !x.1) && (backToKw cpos (keywordEach [] X.env)).all (fun x => x.1.isSome)
      && decide (([.GeneratorExp elt [⟨tg, iter, [], 0⟩] scope gpos] : List Expr).length + ([] : List Keyword).length + (if ([] : List Keyword).isEmpty then 0 else 1) < 30)) = true := by rfl)
    (hline : (apos.endLine == cpos.line) = true := by rfl)
    (hst : starEach [.GeneratorExp elt [⟨tg, iter, [], 0⟩] scope gpos] X.env = (false, eval (.GeneratorExp elt [⟨tg, iter, [], 0⟩] scope gpos) X.env) :: starEach [] X.env := by rfl)
    (hplain : (backTo cpos (starEach [] X.env)).any (·.1) = false := by rfl) :
    PE X (.Call (.Attribute o "join" apos) [.GeneratorExp elt [⟨tg, iter, [], 0⟩] scope gpos] [] cpos) (tJoinC P to wi g te N.length) := by
  refine ⟨fun pins s σ H Q I h => ?_⟩
  refine wpAny_Call_method_late hbase hfew hline rfl (thn (ho.run pins s σ H _ I h) fun v s0 ⟨x', H0, I0, r0, sep, ex, h⟩ => ?_)
  subst ex
  obtain ⟨tks, rfl⟩ := (show ∃ t, v = Value.str sep t from r0)
  refine ⟨"str", _, PySem.F.plainAttrs_str, PySem.F.slot_str_join, PySem.F.type_str_join, typeIs_str _ _ _, (fun _ e => nomatch e), ?_⟩
  rw [hst]
  refine Calls.callWith_builtin (by show (false || (backTo cpos (starEach [] X.env)).any (·.1)) = false; rw [hplain] <;> rfl) (Calls.evalArgs_plain ?_)
  show wpAny _ _ (spliced ((false, eval (.GeneratorExp elt [⟨tg, iter, [], 0⟩] scope gpos) X.env) :: backTo cpos (starEach [] X.env))) _ _ s0
  refine Calls.spliced_cons ?_
  have hclos : closureFor scope X.env = pure [] := by
    rw [closure_ok (fun y hy e => absurd e (S.free y hy)), clo_nil _ _ _ S.free]
  refine wpAny_GeneratorExp_make S.co hclos S.cell S.dot S.kind (by have := hr.dp; omega) ?_ hs
  refine thn (hi.run pins s0 σ H0 _ I0 h) fun xv s1 h1 => thn h1 fun itv s2 h2 => ?_
  obtain ⟨it, fp, tn, J, H1, rfl, I1, T, st1, f1, ⟨ps, hP, ht⟩, hW⟩ := h2
  refine ⟨I1.nolimit, ?_⟩
  have hPs : s2.heap.get? P = some { cls := .none, data := .fields ps } := I1.hok P _ hP
  have cd : PySem.W.CodeHd s2.heap c P := TB.code.keeps fun b u e => I1.bk b u e
  have hlt1 : ∀ b ∈ fp, b < s2.heap.objs.size := fun b hb => by
    obtain ⟨o, e, _⟩ := T.obj _ _ st1 b hb
    exact Heap.lt_size e
  have cont : ∀ (code : Value) (h3 : Heap) (tk : Nat) (more : Array Value), Heap.ExtBut P s2.heap h3 → s2.heap.objs.size ≤ h3.objs.size → h3.get? P = some { cls := .none, data := .fields (ps ++ more) } → TriplesOk (ps ++ more).toList →
      wpAny (model X.prog X.w) X.A (builtinsFor X.env.globals X.env.builtins) (fun bi s₄ =>
        ∀ h', h'.Ns s₄.heap.objs.size (fun y => if y = ".0" then some (.ref it) else none) → Heap.SameBut s₄.heap.objs.size (s₄.heap.push { cls := .type "frame", data := .dict #[] }) h' →
          wpAny (model X.prog X.w) X.A (spliced (backTo cpos (starEach [] X.env))) (fun vs s' => wpAny (model X.prog X.w) X.A (call (.builtin "str.join") ([.str sep tks] ++ (.ref h'.objs.size :: vs))) (EP X pins σ Q) X.xe s') X.xe { s₄ with
            gens := s₄.gens.push (.fresh (.compStart (.GeneratorExp elt [⟨tg, iter, [], 0⟩] scope gpos) 0 (.ref it) .none (genEnv scope [] s₄.heap.objs.size code bi X.env))),
            toks := s₄.toks + 1 + 1 + 1,
            heap := h'.push { cls := .type "generator", data := .fields #[.int s₄.gens.size 0, .str "<genexpr>" (s₄.toks + 1), .str (X.env.qual ++ "<genexpr>") (s₄.toks + 1 + 1)] } }) X.xe { s2 with heap := h3, toks := tk } := by
    intro code h3 tk more hx hsz hP3 ht3
    obtain ⟨bm, ob, e1, e2, e3, e4, e5, e6, e7, e8⟩ := TB.bm
    have keep3 : ∀ b u, b ≠ P → s2.heap.get? b = some u → h3.get? b = some u := fun b u hb e => hx b u hb e
    refine wpAny_builtinsFor (m := X.mg) (by rw [I1.ok.glob]; exact (I1.mod.glob.keeps I1.bk).extBut hx TB.gP) e1 e2 (keep3 _ _ e4 (I1.bk _ _ e5)) e6 e7 e8 ?_
    intro h' hn' hs'
    have I3 : Inv X pins σ (upd H1 P (.tbl (ps ++ more))) { s2 with heap := h3, toks := tk } := inv_tab (more := more) (h' := h3) (g' := s2.gens) (d' := s2.drawn) (t' := tk) I1 hP keep3 hP3 I1.bare
    have nP : ∀ b ∈ fp, b ≠ P := fun b hb z => by
      have := (f1 b hb).1
      rw [z, hP] at this
      cases this
    have fr3 : ∀ b ∈ fp, upd H1 P (.tbl (ps ++ more)) b = none := fun b hb => by
      rw [upd_ne (nP b hb)]
      exact (f1 b hb).1
    have f3 : ∀ b ∈ fp, FpOk X pins (upd H1 P (.tbl (ps ++ more))) b := fun b hb => ⟨fr3 b hb, (f1 b hb).2⟩
    have st3 : tn 0 h3 := T.keep _ _ _ st1 fun b hb o e => keep3 b o (nP b hb) e
    have hlt3 : ∀ b ∈ fp, b < h3.objs.size := fun b hb => Nat.lt_of_lt_of_le (hlt1 b hb) hsz
    obtain ⟨cenv, hcenv⟩ : ∃ cenv, genEnv scope [] h3.objs.size code builtinsNs X.env = cenv := ⟨_, rfl⟩
    have sz' : h'.objs.size = h3.objs.size + 1 := by rw [hs'.1, Heap.size_push]
    have keep' : ∀ b o, h3.get? b = some o → h'.get? b = some o := fun b o e => hs'.extBut b o (Nat.ne_of_lt (Heap.lt_size e)) (Heap.get?_push_of_some _ e)
    have Ok' : (genCx X N ((X.A.in1.in1.in1).over (.compLoop (.GeneratorExp elt [⟨tg, iter, [], 0⟩] scope gpos) 0 (.ref it) .none cenv) []) { s2 with heap := h3, toks := tk } (upd H1 P (.tbl (ps ++ more))) cenv fp).Ok := by
      rw [← hcenv]
      refine genCx_ok I3 S ?_ hr.hd f3 hlt3
      show pushEnvs [_] (pushEnvs [] (pushEnvs [] X.A.frames)) = _
      rw [I1.ok.frames]
      rfl
    have hRoom : Room k ((X.A.in1.in1.in1).over (.compLoop (.GeneratorExp elt [⟨tg, iter, [], 0⟩] scope gpos) 0 (.ref it) .none cenv) []) := by
      refine ⟨hr.hd, ?_, ?_⟩
      · have := hr.dp
        show X.A.depth + 0 + 1 + 3 * k + 5 < _
        omega
      · have := hr.un
        show X.A.units + 1 + 1 + 1 + 0 + 3 + 16 * k + 200 < _
        omega
    have hsc : cenv.scope = scope := by
      rw [← hcenv]
      rfl
    have hloc : cenv.locals = h3.objs.size := by
      rw [← hcenv]
      rfl
    have hcel : cenv.cells = [] := by
      rw [← hcenv]
      rfl
    obtain ⟨go, hgo⟩ : ∃ go : Obj, { cls := .type "generator", data := .fields #[.int s2.gens.size 0, .str "<genexpr>" (tk + 1), .str (X.env.qual ++ "<genexpr>") (tk + 1 + 1)] } = go := ⟨_, rfl⟩
    have keep5 : ∀ b o, h3.get? b = some o → (h'.push go).get? b = some o := fun b o e => Heap.get?_push_of_some _ (keep' b o e)
    have bare5 : AllBare (s2.gens.push (.fresh (.compStart (.GeneratorExp elt [⟨tg, iter, [], 0⟩] scope gpos) 0 (.ref it) .none cenv))) := I1.bare.push rfl
    have I5 : Inv (genCx X N ((X.A.in1.in1.in1).over (.compLoop (.GeneratorExp elt [⟨tg, iter, [], 0⟩] scope gpos) 0 (.ref it) .none cenv) []) { s2 with heap := h3, toks := tk } (upd H1 P (.tbl (ps ++ more))) cenv fp) [(h'.objs.size, go)] (List.replicate N.length none)
        (upd H1 P (.tbl (ps ++ more))) { s2 with gens := s2.gens.push (.fresh (.compStart (.GeneratorExp elt [⟨tg, iter, [], 0⟩] scope gpos) 0 (.ref it) .none cenv)), toks := tk + 1 + 1 + 1, heap := h'.push go } := by
      subst hcenv
      refine genCx_inv (m := fun y => if y = ".0" then some (.ref it) else none) I3 Ok' keep5 (hn'.push _) (Heap.get?_push_size _ (by rw [← hgo]; rfl)) (by show h3.objs.size < h'.objs.size; omega) (fun v z => ?_) bare5
      rw [← hgo] at z
      cases z
    have hf5 : ∀ b ∈ fp, b ≠ cenv.locals ∧ b ∉ frs X.stack ∧ (b ∈ fp ∨ h3.objs.size ≤ b) ∧ (∀ x c, cenv.cells.lookup x = some c → c ≠ b) ∧ ∀ p ∈ [] ++ [(h'.objs.size, go)], p.1 ≠ b := fun b hb => by
      refine ⟨?_, fun z => ?_, .inl hb, fun x c e => ?_, fun p hp => ?_⟩
      · rw [hloc]
        exact Nat.ne_of_lt (hlt3 b hb)
      · rcases List.mem_cons.mp (I1.stkSub b z) with q | q
        · exact (f1 b hb).2.1 q
        · exact (f1 b hb).2.2.1 q
      · rw [hcel] at e
        cases e
      · have e : p = (h'.objs.size, go) := List.mem_singleton.mp hp
        subst e
        exact Nat.ne_of_gt (Nat.lt_trans (hlt3 b hb) (by rw [sz']; exact Nat.lt_succ_self _))
    refine Calls.spliced_nil ?_
    show wpAny _ X.A (call (.builtin "str.join") [.str sep tks, .ref h'.objs.size]) _ _ _
    subst hcenv
    subst hgo
    have hlt5 : ∀ b ∈ fp, b < (h'.push { cls := .type "generator", data := .fields #[.int s2.gens.size 0, .str "<genexpr>" (tk + 1), .str (X.env.qual ++ "<genexpr>") (tk + 1 + 1)] }).objs.size := fun b hb => by
      rw [Heap.size_push, sz']
      exact Nat.lt_of_lt_of_le (hlt3 b hb) (by omega)
    have nS : upd H1 P (.tbl (ps ++ more)) (h'.push { cls := .type "generator", data := .fields #[.int s2.gens.size 0, .str "<genexpr>" (tk + 1), .str (X.env.qual ++ "<genexpr>") (tk + 1 + 1)] }).objs.size = none := I5.hok.fresh (Nat.le_refl _)
    obtain ⟨W, ⟨m0, w0⟩, turn⟩ := hW _ ⟨⟨ps ++ more, upd_same, ht3⟩, fun b hb => upd_ne hb⟩ _ nS
    refine join_gen (X := (genCx X N ((X.A.in1.in1.in1).over (.compLoop (.GeneratorExp elt [⟨tg, iter, [], 0⟩] scope gpos) 0 (.ref it) .none (genEnv scope [] h3.objs.size code builtinsNs X.env)) []) { s2 with heap := h3, toks := tk } (upd H1 P (.tbl (ps ++ more))) (genEnv scope [] h3.objs.size code builtinsNs X.env) fp)) (Q0 := Q) (A := X.A) (fp := fp) (g := s2.gens.size)
      (go := { cls := .type "generator", data := .fields #[.int s2.gens.size 0, .str "<genexpr>" (tk + 1), .str (X.env.qual ++ "<genexpr>") (tk + 1 + 1)] }) hr.hd (by have := hr.dp; omega) ⟨rfl, ⟨_, _, rfl⟩, rfl⟩ (Array.getElem?_push_size ..) I5 hlt5 (fun s' J kp => ⟨m0 + 1, rfl, ?_⟩) (fun s' σ' H' z t k' J q => ?_)
    · have loop := segj_start (X := genCx X N ((X.A.in1.in1.in1).over (.compLoop (.GeneratorExp elt [⟨tg, iter, [], 0⟩] scope gpos) 0 (.ref it) .none (genEnv scope [] h3.objs.size code builtinsNs X.env)) []) { s2 with heap := h3, toks := tk } (upd H1 P (.tbl (ps ++ more))) (genEnv scope [] h3.objs.size code builtinsNs X.env) fp)
        (B := X.A.in1.in1.in1) (iter := iter) (scope := scope) (pos := gpos) (tn := tn) (pn0 := [(h'.objs.size, { cls := .type "generator", data := .fields #[.int s2.gens.size 0, .str "<genexpr>" (tk + 1), .str (X.env.qual ++ "<genexpr>") (tk + 1 + 1)] })]) (W := W) rfl rfl rfl (by show (genEnv scope [] h3.objs.size code builtinsNs X.env).scope.isCoroutine = false; rw [hsc]; exact S.co) T hf5 (hg _ _ _ _ _ hsc) (he _ _ _ _ _ hsc hRoom) turn m0
      have J2 := inv_gens (s' := s'.setGen s2.gens.size .running) J rfl rfl (bare_set J.bare rfl)
      refine loop _ _ _ _ J2 (T.keep _ _ _ st3 fun b _ o e => kp b o (keep5 b o e)) (fun b hb => ?_) w0
      rw [upd_ne (Nat.ne_of_lt (hlt5 b hb))]
      exact fr3 b hb
    · obtain ⟨hh, gg, dd, tt, oo⟩ := s'
      obtain rfl : oo = s2.os := J.os
      have I7 := I3.call (h' := hh) (g' := gg) (d' := dd) (t' := k') (ch := fp) J.base J.hok J.bare fun b hb => ⟨(f1 b hb).2.2.2.1, (f1 b hb).2.1, (f1 b hb).2.2.2.2.1, (f1 b hb).2.2.2.2.2⟩
      exact ⟨.str z, H', I7, ⟨t, rfl⟩, q⟩
  cases hf : codeAmong gpos ps.toList with
  | none =>
    refine wpAny_genexprCodeX hcode (cd.code hPs ht) (cd.tab hPs) hf fun c' h' tk hx hge hlt hco' _ htab' _ => ?_
    obtain ⟨o1, vs, f1, tf, fl, tg, inF, tx, tt, op, _, _, _, _, _, _, _, _, _, htr, _⟩ := hco'
    exact cont _ h' tk _ hx (Nat.le_trans hge (Nat.le_of_lt hlt)) htab'.2 htr
  | some cv =>
    refine wpAny_genexprCode_hit hcode (cd.code hPs ht) hf ?_
    exact cont cv s2.heap s2.toks #[] (Heap.ExtBut.refl _ _) (Nat.le_refl _) (by simpa using hPs) (by simpa using ht)
end
/-! ### the turns, over a walk -/
theorem join_it {J : It} {n : Nat} {G : Hp → Prop} {Y : Nat → Hp → V → Hp → Prop} (wk : Walk J n G Y) {g : TG} {te : TE} {k : Nat} {S : Addr} {Z : Hp → Prop} {H2 : Hp} (Pv : Nat → Hp → Prop) (h0 : Pv 0 H2) (hG : ∀ i H, i ≤ n → Pv i H → G H)
    (hs : ∀ i x H H', i < n → Pv i H → Y i H x H' → g x (List.replicate k none) H' fun σ2 H2 => te σ2 H2 fun v H3 => ∃ acc, H3 S = some (.lst acc) ∧ acc.length < sizeLine ∧ Pv (i + 1) (upd H3 S (.lst (acc ++ [v])))) (hd : ∀ H, Pv n H → Z H) :
    ∃ W : Nat → Nat → Hp → Prop, (∃ m, W 0 m H2) ∧ GTurnJ J g te k S Z W := by
  refine ⟨fun i m H => m = n - i ∧ i ≤ n ∧ Pv i H, ⟨n, by simp, Nat.zero_le _, h0⟩, fun i m H hw => ?_⟩
  obtain ⟨rfl, hi, p⟩ := hw
  by_cases hlt : i < n
  · exact .inr ⟨wk.goes i H hlt (hG i H hi p), Pv (i + 1), fun H' p' => ⟨n - (i + 1), by omega, rfl, hlt, p'⟩, fun x H' y => hs i x H H' hlt p (wk.yields i H x H' hlt (hG i H hi p) y)⟩
  · obtain rfl : i = n := by omega
    exact .inl ⟨wk.stops H (hG i H hi p), hd H p⟩

end GxJ
set_option maxHeartbeats 4000000
namespace B13
open PySem PySem.Spec PyProof.Rows L2 HM XW XR K11 SX XT2 D13
abbrev sRT : Stmt := top 23
abbrev sBT : Stmt := top 24
theorem scRT : FnScope ["row", "caught"] ["row"] (defScope sRT) := ⟨rfl, rfl, rfl, by decide +kernel, rfl, by decide +kernel, by decide +kernel⟩
theorem scBT : FnScope ["body"] ["body"] (defScope sBT) := ⟨rfl, rfl, rfl, by decide +kernel, rfl, by decide +kernel, by decide +kernel⟩
/-- str(x), x a text or a number -/
theorem call_strSI {X : Cx} : CallR X (.type "str") (fun xs H Q => (∃ a, xs = [.str a] ∧ Q (.str a) H) ∨ ∃ i : Int, xs = [.int i] ∧ i.natAbs.log2 < 1920 ∧ Q (.str (toString i)) H) := by
  intro pins s σ H xs us Q I r h
  rcases h with h | h
  · exact SkE.call_str_str pins s σ H xs us Q I r h
  · exact call_str_int pins s σ H xs us Q I r h
/-- the rows' lines, row by row -/
theorem lns_each : ∀ {n c : Nat} {ds : List PyData} {ls : List Str}, LnRs n c ds ls → ∃ lss : List (List Str), lss.length = ds.length ∧ ls = lss.flatten ∧ ∀ (i : Nat) (d : PyData), ds[i]? = some d → ∃ l c', lss[i]? = some l ∧ c' ≤ c ∧ LnR n c' d l
  | _, _, _, _, .nil => ⟨[], rfl, rfl, fun i d h => by cases h⟩
  | _, _, _, _, .cons (c := c) (e := e) (l := l0) h r => by
    obtain ⟨lss, e1, e2, e3⟩ := lns_each r
    refine ⟨l0 :: lss, by rw [List.length_cons, List.length_cons, e1], by rw [List.flatten_cons, ← e2], fun i d hd => ?_⟩
    cases i with
    | zero =>
      cases hd
      exact ⟨_, c, rfl, by omega, h⟩
    | succ i =>
      obtain ⟨l, c', k1, k2, k3⟩ := e3 i d hd
      exact ⟨l, c', k1, by omega, k3⟩
theorem tx_flat : ∀ lss : List (List Str), tx lss.flatten = (lss.map tx).flatten
  | [] => rfl
  | l :: lss => by rw [List.flatten_cons, tx_app, tx_flat lss, List.map_cons, List.flatten_cons]
theorem S_length (l : List Nat) : (S l).length = l.length := S_len l
theorem big {n : Nat} (h : n ≤ 100000) : n ≤ sizeLine := Nat.le_trans h (by decide)
theorem big' {n : Nat} (h : n ≤ 100000) : n < sizeLine := Nat.lt_of_le_of_lt h (by decide)
section
variable {P : Program} {w : World} {K : PySem.W.Frag} {mg : Str → Option Value} {base : Heap} {f fB fR : Addr} {fd fdB fdR : FuncData} {Ps : List Addr}
def spRT (Ps : List Addr) (n : Nat) : Sp := fun vs H Q _ => ∃ (v : V) (d : PyData) (c : Nat) (l : List Str), vs = [v] ∧ Rg AllA H v d ∧ LnR n c d l ∧ c ≤ 100 ∧ TabsOk Ps H ∧ ∀ H', Sm H H' → TabsOk Ps H' → Q (.str (S (tx l))) H'
def spBT (Ps : List Addr) (n : Nat) : Sp := fun vs H Q _ => ∃ (v : V) (ds : List PyData) (c : Nat) (l : List Str), vs = [v] ∧ Rg AllA H v (.tuple ds) ∧ LnRs n c ds l ∧ c ≤ 100 ∧ TabsOk Ps H ∧ ∀ H', Sm H H' → TabsOk Ps H' → Q (.str (S (tx l))) H'
def spBTp (Ps : List Addr) : Nat → Sp
  | 0 => fun _ _ _ _ => False
  | n + 1 => spBT Ps n
theorem sm_list {H H' : Hp} {A : Addr} (s : Sm H H') {xs : List V} (h : H A = some (.lst xs)) : H' A = some (.lst xs) := s.lst h
theorem ok_bt {n j : Nat} (F : FnP K "body_text" sBT (He.fAd K ("body_text", none)) fd) (hP : (He.cT K ("body_text", none)).2 ∈ Ps) (TB : GxR.TabB base mg (He.cT K ("body_text", none)).1 (He.cT K ("body_text", none)).2)
    (GR : FnOk P w K mg base CX0 j fR fdR ["row"] (spRT Ps n)) (FR : FnP K "row_text" sRT fR fdR) (gR : mg "row_text" = some (.ref fR)) : FnOk P w K mg base CX0 (j + 2) (He.fAd K ("body_text", none)) fd ["body"] (spBT Ps n) := by
  have bR : Binds K fdR ["row"] [] := FR.bindsN fun _ _ _ _ _ _ us hl => match us, hl with | [_], _ => rfl
  refine ok_code F scBT (fun vs H Q E h => ?_) (fun cdv A outer s H vs Q E hcd hr h => ?_)
  · obtain ⟨v, ds, c, l, rfl, _⟩ := h
    rfl
  · obtain ⟨v, ds, c, l, rfl, hv, hl, hc100, hT, q⟩ := h
    have hc : cdv = .ref (He.cT K ("body_text", none)).1 := hcd ("body_text", none) rfl
    refine ⟨_, pss_one (ps_ret (GxJ.pe_joinC (N := ["row"]) (k := j) (te := tCall (spRT Ps n) [] E0 (tCons (tVar 0) tNil)) hr TB hc ⟨rfl, rfl, by decide +kernel, by decide +kernel, rfl⟩ pe_str (pi_tup (pv 0))
        (fun _ _ _ _ _ e => pg_name (i := 0) (by show (["row"] : List Str).Nodup; decide) rfl (.inl (by rw [show (GxA.genCx _ _ _ _ _ _ _).env.scope = _ from e]; rfl)) (.inr (by rw [show (GxA.genCx _ _ _ _ _ _ _).env.scope = _ from e]; rfl)))
        (fun _ _ _ _ _ e hrm => pe_call GR hrm (show (GxA.genCx _ _ _ _ _ _ _).env.scope.names.lookup _ = _ by rw [show (GxA.genCx _ _ _ _ _ _ _).env.scope = _ from e]; rfl) gR FR.kp bR .nil pass0
          (pa_cons (pe_var (i := 0) rfl (.inl (by rw [show (GxA.genCx _ _ _ _ _ _ _).env.scope = _ from e]; rfl))) pa_nil)) (fun _ => rfl))), ?_⟩
    cases hv with
    | @tup a xs _ hx hall =>
    obtain ⟨lss, e1, e2, e3⟩ := lns_each hl
    have hlen := hall.len
    have hL := (lnRs_len hl).1
    have hds : ds.length ≤ 1000 := by
      have go : ∀ {n c : Nat} {ds : List PyData} {ls : List Str}, LnRs n c ds ls → ds.length ≤ c := fun h => by
        clear hl hall hL e1 e2 e3 lss hlen q
        induction h using LnRs.rec (motive_1 := fun _ c _ _ _ => 1 ≤ c) with
        | line => exact Nat.le_refl _
        | tri => omega
        | nil => exact Nat.le_refl _
        | cons h1 h2 a b => rw [List.length_cons]; omega
      have := go hl
      omega
    refine ⟨_, rfl, _, rfl, a, rfl, ⟨_, SqT.of hx⟩, hT _ hP, fun H2 hTb Sx hS => ?_⟩
    have s2 := sm_tabbed (hT _ hP) hTb
    have t2 := hT.tabbed hTb
    refine GxJ.join_it (walk_tup (xs := xs)) (fun i H' => Sm H2 H' ∧ TabsOk Ps H' ∧ H' Sx = some (.lst (((lss.take i).map fun l => S (tx l)).map V.str))) ⟨Sm.new hS, t2.new hS, upd_same⟩ (fun i H' _ h => SqT.of (h.1.tup (s2.tup hx))) ?_ ?_
    · rintro i x H3 H4 hi ⟨s3, t3, eS⟩ ⟨rfl, hx2⟩
      obtain ⟨d, hd, rg⟩ := hall.get i hx2
      obtain ⟨l', c', k1, k2, k3⟩ := e3 i d hd
      refine ⟨_, rfl, x, d, c', l', rfl, rg.kq (Kq.ofSm (s2.trans s3)), k3, by omega, t3, fun H5 s5 t5 => ?_⟩
      have eS5 := s5.lst eS
      refine ⟨_, eS5, ?_, (s3.trans s5).over hS, t5.put eS5 (fun _ z => by cases z), ?_⟩
      · rw [List.length_map, List.length_map, List.length_take]
        exact small1000 (by omega)
      · rw [upd_same, take_snoc k1, List.map_append, List.map_append]
        rfl
    · rintro H3 ⟨s3, t3, eS⟩
      have et : lss.take xs.length = lss := List.take_of_length_le (by omega)
      rw [et] at eS
      have ej : Txt.join (Str.ofString "") (lss.map fun l => S (tx l)) = S (tx l) := by
        have := join0_S (lss.map tx)
        rw [List.map_map] at this
        rw [e2, tx_flat]
        exact this
      refine ⟨_, eS, ?_, ?_⟩
      · refine joinOk_of ?_
        have hz : (Str.ofString "").length = 0 := by decide +kernel
        rw [hz, Nat.mul_zero, Nat.add_zero, List.map_map]
        have es : (lss.map ((fun x : Str => x.length) ∘ fun l => S (tx l))).sum = (tx l).length := by
          rw [e2, tx_flat, List.length_flatten, List.map_map]
          exact congrArg List.sum (List.map_congr_left fun l _ => S_length (tx l))
        rw [es]
        have : 249 * c ≤ 249 * 100 := Nat.mul_le_mul_left 249 hc100
        omega
      · rw [ej]
        exact q H3 (s2.trans s3) t3
theorem log_small {i : Int} (h : i.natAbs < 10 ^ 60) : i.natAbs.log2 < 1920 := by
  by_cases h0 : i.natAbs = 0
  · rw [h0]
    decide
  · refine (Nat.log2_lt h0).mpr (Nat.lt_of_lt_of_le h ?_)
    have : (10 : Nat) ^ 60 ≤ 2 ^ 1920 := by decide +kernel
    exact this
theorem str_numT (i : Int) : V.str (toString i : String) = V.str (numT i) := rfl
theorem S_eq {x : Str} {l : List Nat} (h : TL.tl x = l) : x = S l := by
  rw [← h]
theorem ok_rt {n j : Nat} (hj : 1 ≤ j) (F : FnP K "row_text" sRT (He.fAd K ("row_text", none)) fd) (hP : (He.cT K ("row_text", none)).2 ∈ Ps) (TB : GxR.TabB base mg (He.cT K ("row_text", none)).1 (He.cT K ("row_text", none)).2)
    (GB : FnOk P w K mg base CX0 j fB fdB ["body"] (spBTp Ps n)) (FB : FnP K "body_text" sBT fB fdB) (gB : mg "body_text" = some (.ref fB)) (ms : mg "str" = none) : FnOk P w K mg base CX0 (j + 1) (He.fAd K ("row_text", none)) fd ["row"] (spRT Ps n) := by
  have bB : Binds K fdB ["body"] [] := FB.bindsN fun _ _ _ _ _ _ us hl => match us, hl with | [_], _ => rfl
  refine ok_code F scRT (fun vs H Q E h => ?_) (fun cdv A outer s H vs Q E hcd hr h => ?_)
  · obtain ⟨v, d, c, l, rfl, _⟩ := h
    rfl
  · obtain ⟨v, d, c, l, rfl, hv, hl, hc100, hT, q⟩ := h
    have hc : cdv = .ref (He.cT K ("row_text", none)).1 := hcd ("row_text", none) rfl
    refine ⟨_, pss_cons (ps_if (pt_cmpR op_ne (pe_ix ix_tup (pv 0) pe_int (fun _ _ => rfl)) pe_str (nomark _)) (pss_one (ps_ret (pe_op op_add_str
        (GxJ.pe_joinC (N := ["part"]) (k := 0) (te := tCB (fun xs H Q => (∃ a, xs = [.str a] ∧ Q (.str a) H) ∨ ∃ i : Int, xs = [.int i] ∧ i.natAbs.log2 < 1920 ∧ Q (.str (toString i : String)) H) (tCons (tVar 0) tNil)) (hr.mono (by omega)) TB hc ⟨rfl, rfl, by decide +kernel, by decide +kernel, rfl⟩ pe_str (pi_tup (pv 0))
          (fun _ _ _ _ _ e => pg_name (i := 0) (by show (["part"] : List Str).Nodup; decide) rfl (.inl (by rw [show (GxA.genCx _ _ _ _ _ _ _).env.scope = _ from e]; rfl)) (.inr (by rw [show (GxA.genCx _ _ _ _ _ _ _).env.scope = _ from e]; rfl)))
          (fun _ _ _ _ _ e hrm => pe_callTy call_strSI (show (GxA.genCx _ _ _ _ _ _ _).env.scope.names.lookup _ = _ by rw [show (GxA.genCx _ _ _ _ _ _ _).env.scope = _ from e]; rfl) ms (by decide +kernel)
            (pa_cons (pe_var (i := 0) rfl (.inl (by rw [show (GxA.genCx _ _ _ _ _ _ _).env.scope = _ from e]; rfl))) pa_nil)) (fun _ => rfl)) pe_str))) pss_nil)
      (pss_cons (ps_set (i := 1) scRT.nd rfl (.inl rfl) (pe_join pe_str (pe_op op_catT (pe_tup (pa_cons pe_str pa_nil)) (pe_ix ix_tup (pv 0) pe_int (fun _ _ => rfl)))))
      (pss_one (ps_ret (pe_op op_add_str (pe_op op_add_str (pe_op op_add_str (pe_op op_add_str (pe_op op_add_str pe_str (pe_call GB hr (by rfl) gB FB.kp bB .nil pass0 (pa_cons (pe_ix ix_tup (pv 0) pe_int (fun _ _ => rfl)) pa_nil))) (pv 1)) pe_str)
        (pe_call GB hr (by rfl) gB FB.kp bB .nil pass0 (pa_cons (pe_ix ix_tup (pv 0) pe_int (fun _ _ => rfl)) pa_nil))) pe_str)))), ?_⟩
    have hL := (lnR_len hl).1
    have hL2 : (tx l).length ≤ 24900 := Nat.le_trans hL (Nat.mul_le_mul_left 249 hc100)
    cases hl with
    | @line _ ps hf =>
      cases hv with
      | @tup a xs _ hx hall =>
      obtain ⟨w0, r0, eps, hw0⟩ := hf.head
      have hlen := hall.len
      have h0 : xs[0]? = some (.str w0) := by
        obtain ⟨v0, e0, rg0⟩ := hall.get' 0 (d := .str w0) (by rw [eps]; rfl)
        cases rg0
        exact e0
      have ntry : w0 ≠ Str.ofString "try" := by
        have : ∀ w ∈ rowWords, w ≠ Str.ofString "try" := by decide
        exact this w0 hw0
      refine ⟨_, rfl, a, _, 0, _, rfl, rfl, SqT.of hx, atI_nat (j := 0) h0, rfl, _, rfl, ?_⟩
      rw [show decide (V.str w0 = V.str (Str.ofString "try")) = false from decide_eq_false fun z => ntry (V.str.inj z)]
      refine ⟨_, rfl, _, rfl, a, rfl, ⟨_, SqT.of hx⟩, hT _ hP, fun H2 hTb Sx hS => ?_⟩
      have s2 := sm_tabbed (hT _ hP) hTb
      have t2 := hT.tabbed hTb
      refine GxJ.join_it (walk_tup (xs := xs)) (fun i H' => Sm H2 H' ∧ TabsOk Ps H' ∧ H' Sx = some (.lst (((ps.take i).map partT).map V.str))) ⟨Sm.new hS, t2.new hS, upd_same⟩ (fun i H' _ h => SqT.of (h.1.tup (s2.tup hx))) ?_ ?_
      · rintro i x H3 H4 hi ⟨s3, t3, eS⟩ ⟨rfl, hx2⟩
        obtain ⟨p, hp, rg⟩ := hall.get i hx2
        have hlp := hf.len.2
        have last : ∀ z : Str, z = partT p → ∃ acc, H4 Sx = some (.lst acc) ∧ acc.length < sizeLine ∧ Sm H2 (upd H4 Sx (.lst (acc ++ [.str z]))) ∧ TabsOk Ps (upd H4 Sx (.lst (acc ++ [.str z]))) ∧ (upd H4 Sx (.lst (acc ++ [.str z]))) Sx = some (.lst (((ps.take (i + 1)).map partT).map V.str)) := fun z ez => by
          refine ⟨_, eS, ?_, s3.over hS, t3.put eS (fun _ z => by cases z), ?_⟩
          · rw [List.length_map, List.length_map, List.length_take]
            exact small1000 (by omega)
          · rw [upd_same, take_snoc hp, List.map_append, List.map_append, ez]
            rfl
        refine ⟨_, rfl, ?_⟩
        rcases hf.parts p (List.mem_of_getElem? hp) with ⟨z, rfl⟩ | ⟨i2, rfl, hi2⟩
        · cases rg
          exact .inl ⟨_, rfl, last z rfl⟩
        · cases rg
          exact .inr ⟨_, rfl, log_small hi2, last (numT i2) rfl⟩
      · rintro H3 ⟨s3, t3, eS⟩
        have et : ps.take xs.length = ps := List.take_of_length_le (by omega)
        rw [et] at eS
        have hll := line_len hf
        refine ⟨_, eS, ?_, _, _, rfl, rfl, ?_, ?_⟩
        · refine joinOk_of ?_
          have h1 : blank.length = 1 := by decide +kernel
          have hb : ∀ l : List PyData, (∀ p ∈ l, goodW (partT p)) → ((l.map partT).map (·.length)).sum ≤ 61 * l.length := fun l => by
            induction l with
            | nil => intro _; exact Nat.le_refl _
            | cons p l ih =>
              intro hh
              have := (hh p List.mem_cons_self).2
              have := ih fun y hy => hh y (List.mem_cons_of_mem _ hy)
              simp only [List.map_cons, List.sum_cons, List.length_cons]
              omega
          have := hb ps hf.good
          have := hf.len.2
          rw [show (Str.ofString " ").length = 1 from h1, List.length_map, Nat.mul_one]
          omega
        · have : (Str.ofString "\n").length = 1 := by decide +kernel
          rw [this]
          have hll2 : (Txt.join (Str.ofString " ") (ps.map partT)).length ≤ 248 := hll
          exact big (by omega)
        · have e : (Txt.join (Str.ofString " ") (ps.map partT) : Str) ++ Str.ofString "\n" = S (tx [lineT ps]) := S_eq (TL.tl_append _ _)
          rw [e]
          exact q H3 (s2.trans s3) t3
    | @tri m c1 c2 as bs ws la lb h1 hw h2 =>
      cases hv with
      | @tup a xs _ hx hall =>
      cases hall with
      | cons r0 hall =>
      cases hall with
      | cons r1 hall =>
      cases hall with
      | cons r2 hall =>
      cases hall with
      | cons r3 hall =>
      cases hall
      cases r0
      rename_i v1 v2 v3
      cases r2 with
      | @tup b ys _ hy hys =>
      have eys : ys = ws.map V.str := by
        have go : ∀ (ws : List Str) (ys : List V), RgAll AllA H ys (ws.map PyData.str) → ys = ws.map V.str := fun ws => by
          induction ws with
          | nil =>
            intro ys h
            cases h
            rfl
          | cons w ws ih =>
            intro ys h
            cases h with
            | cons h r =>
            cases h
            rw [ih _ r]
            rfl
        exact go ws ys hys
      subst eys
      refine ⟨_, rfl, a, _, 0, _, rfl, rfl, SqT.of hx, atI_nat (j := 0) rfl, rfl, _, rfl, ?_⟩
      refine ⟨⟨_, rfl⟩, D13.sz (by simp), fun T hTn => ?_⟩
      have hx1 : (upd H T (.tup [.str (Str.ofString "caught")])) a = some (.tup [.str (Str.ofString "try"), v1, .ref b, v3]) := by
        rw [upd_ne (ne_of_none hx hTn)]
        exact hx
      have hy1 : (upd H T (.tup [.str (Str.ofString "caught")])) b = some (.tup (ws.map V.str)) := by
        rw [upd_ne (ne_of_none hy hTn)]
        exact hy
      have hws := hw.1
      have sumw : ((Str.ofString "caught" :: ws).map (·.length)).sum + (Str.ofString "caught" :: ws).length * (Str.ofString " ").length ≤ 16777216 := by
        have hb : ∀ l : List Str, (∀ p ∈ l, p.length ≤ 8) → (l.map (·.length)).sum ≤ 8 * l.length := fun l => by
          induction l with
          | nil => intro _; exact Nat.le_refl _
          | cons p l ih =>
            intro hh
            have := hh p List.mem_cons_self
            have := ih fun y hy => hh y (List.mem_cons_of_mem _ hy)
            simp only [List.map_cons, List.sum_cons, List.length_cons]
            omega
        have := hb (Str.ofString "caught" :: ws) fun p hp => (caught_good hw p hp).2
        have h1 : (Str.ofString " ").length = 1 := by decide +kernel
        rw [h1, List.length_cons] at *
        omega
      have ltx : (tx (Str.ofString "try" :: (la ++ caughtT ws :: (lb ++ [Str.ofString "done"])))) = TL.tl (Str.ofString "try\n") ++ (tx la ++ (TL.tl (caughtT ws) ++ (TL.tl (Str.ofString "\n") ++ (tx lb ++ TL.tl (Str.ofString "done\n"))))) := by
        have e1 : TL.tl (Str.ofString "try\n") = TL.tl (Str.ofString "try") ++ [10] := by decide +kernel
        have e2 : TL.tl (Str.ofString "\n") = [10] := by decide +kernel
        have e3 : TL.tl (Str.ofString "done\n") = tx [Str.ofString "done"] := by decide +kernel
        rw [e1, e2, e3]
        show TL.tl (Str.ofString "try") ++ (10 :: tx (la ++ (caughtT ws :: (lb ++ [Str.ofString "done"])))) = _
        rw [tx_app]
        show TL.tl (Str.ofString "try") ++ (10 :: (tx la ++ (TL.tl (caughtT ws) ++ (10 :: tx (lb ++ [Str.ofString "done"]))))) = _
        rw [tx_app]
        simp
      have bnd : (TL.tl (Str.ofString "try\n")).length + ((tx la).length + ((TL.tl (caughtT ws)).length + ((TL.tl (Str.ofString "\n")).length + ((tx lb).length + (TL.tl (Str.ofString "done\n")).length)))) ≤ 24900 := by
        rw [ltx] at hL2
        simp only [List.length_append] at hL2
        exact hL2
      simp only [← TL.len_tl] at bnd
      have ec : (caughtT ws).length = (Txt.join (Str.ofString " ") (Str.ofString "caught" :: ws)).length := rfl
      rw [ec] at bnd
      have fin2 : ∀ (H3 : Hp), Sm H H3 → TabsOk Ps H3 → Q (.str (((((Str.ofString "try\n" ++ S (tx la)) ++ caughtT ws) ++ Str.ofString "\n") ++ S (tx lb)) ++ Str.ofString "done\n")) H3 := fun H3 s3 t3 => by
        have e : ((((Str.ofString "try\n" ++ S (tx la)) ++ caughtT ws) ++ Str.ofString "\n") ++ S (tx lb)) ++ Str.ofString "done\n" = S (tx (Str.ofString "try" :: (la ++ caughtT ws :: (lb ++ [Str.ofString "done"])))) := by
          refine S_eq ?_
          rw [ltx, TL.tl_append, TL.tl_append, TL.tl_append, TL.tl_append, TL.tl_append]
          have e4 : ∀ l : List Nat, TL.tl (S l) = l := fun l => by simp [S, TL.tl]
          rw [e4, e4]
          simp [List.append_assoc]
        rw [e]
        exact q H3 s3 t3
      have s1 : Sm H (upd H T (.tup [.str (Str.ofString "caught")])) := Sm.new hTn
      have t1 : TabsOk Ps (upd H T (.tup [.str (Str.ofString "caught")])) := hT.new hTn
      refine ⟨_, rfl, a, _, 2, _, rfl, rfl, SqT.of hx1, atI_nat (j := 2) rfl, T, b, _, _, rfl, rfl, SqT.of upd_same, SqT.of hy1, by simp, D13.sz (by simp; omega), fun e => ?_, fun e p hp => ?_⟩
      · have ew : ws = [] := List.map_eq_nil_iff.mp e
        subst ew
        refine ⟨_, T, [Str.ofString "caught"], rfl, rfl, .inr (SqT.of upd_same), by simpa using sumw, ?_⟩
        refine ⟨_, rfl, a, _, 1, _, rfl, rfl, SqT.of hx1, atI_nat (j := 1) rfl, v1, as, c1, la, rfl, r1.kq (Kq.ofSm s1), h1, by omega, t1, fun H2 s2 t2 => ?_⟩
        have ha2 : H2 a = some (.tup [.str (Str.ofString "try"), v1, .ref b, v3]) := s2.tup hx1
        refine ⟨_, _, rfl, rfl, big (by rw [S_length (tx la)]; omega), _, rfl, _, _, rfl, rfl, big (by rw [str_add_len]; simp only [S_length]; omega), _, _, rfl, rfl, big (by rw [str_add_len, str_add_len]; simp only [S_length]; omega), ?_⟩
        refine ⟨_, rfl, a, _, 3, _, rfl, rfl, SqT.of ha2, atI_nat (j := 3) rfl, v3, bs, c2, lb, rfl, r3.kq (Kq.ofSm (s1.trans s2)), h2, by omega, t2, fun H3 s3 t3 => ?_⟩
        exact ⟨_, _, rfl, rfl, big (by rw [str_add_len, str_add_len, str_add_len]; simp only [S_length]; omega), _, _, rfl, rfl, big (by rw [str_add_len, str_add_len, str_add_len, str_add_len]; simp only [S_length]; omega), fin2 H3 ((s1.trans s2).trans s3) t3⟩
      · have hx2 : (upd (upd H T (.tup [.str (Str.ofString "caught")])) p (.tup ([.str (Str.ofString "caught")] ++ ws.map V.str))) a = some (.tup [.str (Str.ofString "try"), v1, .ref b, v3]) := by
          rw [upd_ne (ne_of_none hx1 hp)]
          exact hx1
        have s2' := s1.trans (Sm.new (o := .tup ([.str (Str.ofString "caught")] ++ ws.map V.str)) hp)
        have t2' := t1.new (o := .tup ([.str (Str.ofString "caught")] ++ ws.map V.str)) hp
        refine ⟨_, p, Str.ofString "caught" :: ws, rfl, rfl, .inr (SqT.of upd_same), sumw, ?_⟩
        refine ⟨_, rfl, a, _, 1, _, rfl, rfl, SqT.of hx2, atI_nat (j := 1) rfl, v1, as, c1, la, rfl, r1.kq (Kq.ofSm s2'), h1, by omega, t2', fun H2 s2 t2 => ?_⟩
        have ha2 : H2 a = some (.tup [.str (Str.ofString "try"), v1, .ref b, v3]) := s2.tup hx2
        refine ⟨_, _, rfl, rfl, big (by rw [S_length (tx la)]; omega), _, rfl, _, _, rfl, rfl, big (by rw [str_add_len]; simp only [S_length]; omega), _, _, rfl, rfl, big (by rw [str_add_len, str_add_len]; simp only [S_length]; omega), ?_⟩
        refine ⟨_, rfl, a, _, 3, _, rfl, rfl, SqT.of ha2, atI_nat (j := 3) rfl, v3, bs, c2, lb, rfl, r3.kq (Kq.ofSm (s2'.trans s2)), h2, by omega, t2, fun H3 s3 t3 => ?_⟩
        exact ⟨_, _, rfl, rfl, big (by rw [str_add_len, str_add_len, str_add_len]; simp only [S_length]; omega), _, _, rfl, rfl, big (by rw [str_add_len, str_add_len, str_add_len, str_add_len]; simp only [S_length]; omega), fin2 H3 ((s2'.trans s2).trans s3) t3⟩
/-- both, at any number of tries -/
theorem ok_tboth (FR : FnP K "row_text" sRT (He.fAd K ("row_text", none)) fdR) (FB : FnP K "body_text" sBT (He.fAd K ("body_text", none)) fdB) (gR : mg "row_text" = some (.ref (He.fAd K ("row_text", none)))) (gB : mg "body_text" = some (.ref (He.fAd K ("body_text", none))))
    (hR : (He.cT K ("row_text", none)).2 ∈ Ps) (TR : GxR.TabB base mg (He.cT K ("row_text", none)).1 (He.cT K ("row_text", none)).2) (hB : (He.cT K ("body_text", none)).2 ∈ Ps) (TB : GxR.TabB base mg (He.cT K ("body_text", none)).1 (He.cT K ("body_text", none)).2) (ms : mg "str" = none) :
    ∀ n, FnOk P w K mg base CX0 (2 + 3 * n) (He.fAd K ("row_text", none)) fdR ["row"] (spRT Ps n) ∧ FnOk P w K mg base CX0 (4 + 3 * n) (He.fAd K ("body_text", none)) fdB ["body"] (spBT Ps n) := by
  intro n
  induction n with
  | zero =>
    have h := ok_rt (P := P) (w := w) (n := 0) (j := 1) (Nat.le_refl _) FR hR TR ok_dnone FB gB ms
    exact ⟨h, ok_bt FB hB TB h FR gR⟩
  | succ n ih =>
    have h := ok_rt (n := n + 1) (j := 4 + 3 * n) (by omega) FR hR TR ih.2 FB gB ms
    have e : 4 + 3 * n + 1 = 2 + 3 * (n + 1) := by omega
    rw [e] at h
    have h2 := ok_bt FB hB TB h FR gR
    have e2 : 2 + 3 * (n + 1) + 2 = 4 + 3 * (n + 1) := by omega
    rw [e2] at h2
    exact ⟨h, h2⟩
end
end B13
set_option maxHeartbeats 4000000
namespace B13
open PySem PySem.Spec PyProof.Rows L2 HM XW XR K11 SX XT2 D13
abbrev sNO : Stmt := top 25
abbrev sRO : Stmt := top 26
abbrev sBN : Stmt := top 27
abbrev sWO : Stmt := top 28
theorem scNO : FnScope ["word"] ["word"] (defScope sNO) := ⟨rfl, rfl, rfl, by decide +kernel, rfl, by decide +kernel, by decide +kernel⟩
theorem scRO : FnScope ["line", "words"] ["line"] (defScope sRO) := ⟨rfl, rfl, rfl, by decide +kernel, rfl, by decide +kernel, by decide +kernel⟩
theorem scBN : FnScope ["line"] ["line"] (defScope sBN) := ⟨rfl, rfl, rfl, by decide +kernel, rfl, by decide +kernel, by decide +kernel⟩
theorem scWO : FnScope ["line", "words"] ["line"] (defScope sWO) := ⟨rfl, rfl, rfl, by decide +kernel, rfl, by decide +kernel, by decide +kernel⟩
/-- all that was goes on -/
def Nw (H H' : Hp) : Prop := ∀ b o, H b = some o → H' b = some o
theorem Nw.refl (H : Hp) : Nw H H := fun _ _ e => e
theorem Nw.trans {H H1 H2 : Hp} (a : Nw H H1) (b : Nw H1 H2) : Nw H H2 := fun c o e => b c o (a c o e)
theorem Nw.new {H : Hp} {p : Addr} {o : HO} (h : H p = none) : Nw H (upd H p o) := fun b u e => by
  rw [upd_ne (ne_of_none e h)]
  exact e
theorem Nw.over {H H1 : Hp} {p : Addr} {o : HO} (a : Nw H H1) (h : H p = none) : Nw H (upd H1 p o) := fun b u e => by
  rw [upd_ne (ne_of_none e h)]
  exact a b u e
theorem Nw.sm {H H1 : Hp} (a : Nw H H1) : Sm H H1 := fun b o e _ => a b o e
theorem Nw.kq {Av : Addr → Prop} {H H1 : Hp} (a : Nw H H1) : Kq Av H H1 := fun b o e _ => a b o e
theorem Nw.tabs {Ps : List Addr} {H H1 : Hp} (a : Nw H H1) (t : TabsOk Ps H) : TabsOk Ps H1 := fun P hP => by
  obtain ⟨ps, e, k⟩ := t P hP
  exact ⟨ps, a P _ e, k⟩
theorem Nw.free {H H1 : Hp} (a : Nw H H1) {p : Addr} (h : H1 p = none) : H p = none := by
  cases e : H p with
  | none => rfl
  | some o =>
    rw [a p o e] at h
    cases h
theorem blank_ne : (blank.length == 0) = false := by decide +kernel
section
variable {P : Program} {w : World} {K : PySem.W.Frag} {mg : Str → Option Value} {base : Heap} {f fN : Addr} {fd fdN : FuncData}
def spBN : Sp := fun vs H Q _ => ∃ (z u : Str) (r : List Str), vs = [.str z] ∧ z.length ≤ 900 ∧ Txt.split z blank = u :: r ∧ ∀ H', Nw H H' → Q (.bl (decide (u ∈ (["", "caught", "done"] : List Str)))) H'
theorem ok_bn (F : FnP K "begins_no_row" sBN f fd) : FnOk P w K mg base CX0 1 f fd ["line"] spBN := by
  refine ok_code F scBN (fun vs H Q E h => ?_) (fun cdv A outer s H vs Q E hcd hr h => ?_)
  · obtain ⟨z, u, r, rfl, _⟩ := h
    rfl
  · obtain ⟨z, u, r, rfl, hz, hs, q⟩ := h
    refine ⟨_, pss_one (ps_ret (pe_cmpR op_in_seq (pe_ix ix_list (pe_split (pv 0) pe_str) pe_int (fun _ _ => rfl)) (pe_tup (pa_cons pe_str (pa_cons pe_str (pa_cons pe_str pa_nil)))) (by rfl))), ?_⟩
    refine ⟨_, rfl, ⟨_, rfl⟩, _, _, rfl, rfl, blank_ne, D13.sz (by omega), fun p hp => ?_⟩
    rw [show Txt.split z (Str.ofString " ") = u :: r from hs]
    refine ⟨p, _, 0, .str u, rfl, rfl, SqL.of upd_same, atI_nat (j := 0) rfl, D13.sz (by simp), fun T hT => ?_⟩
    refine ⟨T, _, rfl, .inr (SqT.of upd_same), rfl, rfl, ?_⟩
    have := q _ ((Nw.new (o := .lst ((u :: r).map V.str)) hp).trans (Nw.new (o := .tup [.str (Str.ofString ""), .str (Str.ofString "caught"), .str (Str.ofString "done")]) hT))
    rw [← D13.inV_strs] at this
    exact this
def spWO : Sp := fun vs H Q _ => ∃ (ws : List Str), vs = [.str (caughtT ws)] ∧ wdsOk ws ∧ ∀ (H' : Hp) (T : Addr), Nw H H' → H' T = some (.tup (ws.map V.str)) → Q (.ref T) H'
theorem cut_1l (xs : List V) : cutV xs (some 1) none = xs.drop 1 := P13.cut_1 xs
theorem ok_wo (F : FnP K "words_of" sWO f fd) (mt : mg "tuple" = none) : FnOk P w K mg base CX0 1 f fd ["line"] spWO := by
  refine ok_code F scWO (fun vs H Q E h => ?_) (fun cdv A outer s H vs Q E hcd hr h => ?_)
  · obtain ⟨ws, rfl, _⟩ := h
    rfl
  · obtain ⟨ws, rfl, hw, q⟩ := h
    refine ⟨_, pss_cons (ps_set (i := 1) scWO.nd rfl (.inl rfl) (pe_split (pv 0) pe_str))
      (pss_cons (ps_if (pt_cmpR op_ne (pe_ix ix_list (pv 1) pe_int (fun _ _ => rfl)) pe_str (nomark _)) (pss_one ps_never) pss_nil)
      (pss_one (ps_ret (pe_callTy call_tuple_of (by rfl) mt (by decide +kernel) (pa_cons (pe_slice sl_list (pv 1) (po_some pe_int) po_none) pa_nil))))), ?_⟩
    have hl := caught_len hw
    refine ⟨_, rfl, ⟨_, rfl⟩, _, _, rfl, rfl, blank_ne, D13.sz (by omega), fun p hp => ?_⟩
    rw [show Txt.split (caughtT ws) (Str.ofString " ") = Str.ofString "caught" :: ws from caught_split hw]
    refine ⟨_, rfl, p, _, 0, .str (Str.ofString "caught"), rfl, rfl, SqL.of upd_same, atI_nat (j := 0) rfl, rfl, _, rfl, ?_⟩
    refine ⟨_, rfl, _, rfl, p, _, rfl, SqL.of upd_same, fun p2 hp2 => ?_⟩
    rw [cut_1l]
    refine ⟨p2, _, rfl, .inl ⟨SqL.of upd_same, fun T hT => ?_⟩⟩
    exact q _ T ((Nw.new hp).trans ((Nw.new hp2).trans (Nw.new hT))) upd_same
def spNO : Sp := fun vs H Q _ => ∃ i : Int, vs = [.str (numT i)] ∧ i.natAbs < 10 ^ 60 ∧ Q (.int i) H
theorem ok_no (F : FnP K "number_of" sNO f fd) (mI : mg "int" = none) (mV : mg "ValueError" = none) : FnOk P w K mg base CX0 1 f fd ["word"] spNO := by
  refine ok_code F scNO (fun vs H Q E h => ?_) (fun cdv A outer s H vs Q E hcd hr h => ?_)
  · obtain ⟨i, rfl, _⟩ := h
    rfl
  · obtain ⟨i, rfl, hi, q⟩ := h
    have hb := num_back hi
    refine ⟨_, pss_one (ps_try_only rfl rfl ⟨rfl, by decide, (.inr ⟨mV, boot_ValueError, by decide⟩)⟩ LamX.takes0 (fun W pn xe tk _ => pss_one (ps_ret (pe_callTy call_int_str (by rfl) mI (by decide +kernel) (pa_cons (pv 0) pa_nil)))) (fun a oe cls d pn _ _ => pss_one (ps_ret pe_non))), ?_⟩
    exact ⟨_, rfl, _, i, rfl, hb.1, hb.2, q⟩
def spRO : Sp := fun vs H Q _ => ∃ ps : List PyData, vs = [.str (lineT ps)] ∧ LineF ps ∧ ∀ (H' : Hp) (T : Addr) (xs : List V), Nw H H' → H' T = some (.tup xs) → RgAll AllA H' xs ps → Q (.ref T) H'
theorem ok_ro (F : FnP K "row_of" sRO f fd) (GN : FnOk P w K mg base CX0 1 fN fdN ["word"] spNO) (FN : FnP K "number_of" sNO fN fdN) (gN : mg "number_of" = some (.ref fN)) (mt : mg "tuple" = none) : FnOk P w K mg base CX0 2 f fd ["line"] spRO := by
  have bN : Binds K fdN ["word"] [] := FN.bindsN fun _ _ _ _ _ _ us hl => match us, hl with | [_], _ => rfl
  refine ok_code F scRO (fun vs H Q E h => ?_) (fun cdv A outer s H vs Q E hcd hr h => ?_)
  · obtain ⟨ps, rfl, _⟩ := h
    rfl
  · obtain ⟨ps, rfl, hf, q⟩ := h
    refine ⟨_, pss_cons (ps_set (i := 1) scRO.nd rfl (.inl rfl) (pe_callTy call_tuple_of (by rfl) mt (by decide +kernel) (pa_cons (pe_split (pv 0) pe_str) pa_nil)))
      (pss_cons (ps_if (pt_cmpR op_ne (pe_ix ix_tup (pv 1) pe_int (fun _ _ => rfl)) pe_str (nomark _)) (pss_one (ps_ret (pv 1))) pss_nil)
      (pss_one (ps_ret (pe_op op_catT (pe_slice sl_tup (pv 1) po_none (po_some (pe_un un_neg pe_int))) (pe_tup (pa_cons (pe_call GN hr (by rfl) gN FN.kp bN .nil pass0 (pa_cons (pe_ix ix_tup (pv 1) (pe_un un_neg pe_int) (fun _ _ => rfl)) pa_nil)) pa_nil)))))), ?_⟩
    have hl := line_len hf
    refine ⟨_, rfl, ⟨_, rfl⟩, _, _, rfl, rfl, blank_ne, D13.sz (by omega), fun p hp => ?_⟩
    rw [show Txt.split (lineT ps) (Str.ofString " ") = ps.map partT from line_split hf]
    refine ⟨p, _, rfl, .inl ⟨SqL.of upd_same, fun T hT => ?_⟩⟩
    have n2 : Nw H (upd (upd H p (.lst ((ps.map partT).map V.str))) T (.tup ((ps.map partT).map V.str))) := (Nw.new hp).trans (Nw.new hT)
    rcases hf.kind with ⟨z, n, rfl, hn⟩ | ⟨ws, rfl, w0, r0, rfl, hne⟩
    · refine ⟨_, rfl, T, _, 0, .str (Str.ofString "set"), rfl, rfl, SqT.of upd_same, atI_nat (j := 0) rfl, rfl, _, rfl, ?_⟩
      refine ⟨_, rfl, 1, rfl, _, rfl, T, _, rfl, SqT.of upd_same, ?_, fun p2 hp2 => ?_⟩
      · show ¬ (HT.sIx 3 0 none = 0 ∧ HT.sIx 3 3 (some (-1)) = 3)
        decide
      · have ecut : cutV (([.str (Str.ofString "set"), .str z, .int n].map partT).map V.str) none (some (-1)) = [.str (Str.ofString "set"), .str z] := rfl
        rw [ecut]
        have hT2 : (upd (upd (upd H p (.lst (([.str (Str.ofString "set"), .str z, .int n].map partT).map V.str))) T (.tup (([.str (Str.ofString "set"), .str z, .int n].map partT).map V.str))) p2 (.tup [.str (Str.ofString "set"), .str z])) T = some (.tup [.str (Str.ofString "set"), .str z, .str (numT n)]) := by
          rw [upd_ne (ne_of_none upd_same hp2), upd_same]
          rfl
        refine ⟨_, rfl, 1, rfl, T, _, -1, .str (numT n), rfl, rfl, SqT.of hT2, rfl, n, rfl, hn, D13.sz (by simp), fun p3 hp3 => ?_⟩
        refine ⟨p2, p3, _, _, rfl, rfl, SqT.of (by rw [upd_ne (ne_of_none upd_same hp3)]; exact upd_same), SqT.of upd_same, by simp, D13.sz (by simp), (fun e => by cases e), fun _ p4 hp4 => ?_⟩
        refine q _ p4 _ (n2.trans ((Nw.new hp2).trans ((Nw.new hp3).trans (Nw.new hp4)))) upd_same ?_
        exact .cons (.str _) (.cons (.str _) (.cons (.int _) .nil))
    · refine ⟨_, rfl, T, _, 0, .str w0, rfl, rfl, SqT.of upd_same, atI_nat (j := 0) rfl, rfl, _, rfl, ?_⟩
      rw [show decide (V.str w0 = V.str (Str.ofString "set")) = false from decide_eq_false fun z => hne (V.str.inj z)]
      refine ⟨_, rfl, q _ T _ n2 upd_same ?_⟩
      have e : ((w0 :: r0).map PyData.str).map partT = w0 :: r0 := by
        rw [List.map_map]
        exact List.map_id _
      rw [e]
      exact RgAll.strs _
end
end B13
set_option maxHeartbeats 4000000
namespace B13
open PySem PySem.Spec PyProof.Rows L2 HM XW XR K11 SX XT2 D13
abbrev sTry : Stmt := top 29
abbrev sRR : Stmt := top 30
theorem scTry : FnScope ["lines", "at", "tries", "first", "middle", "words", "last", "end"] ["lines", "at", "tries"] (defScope sTry) := ⟨rfl, rfl, rfl, by decide +kernel, rfl, by decide +kernel, by decide +kernel⟩
theorem scRR : FnScope ["lines", "at", "tries", "rows", "row"] ["lines", "at", "tries"] (defScope sRR) := ⟨rfl, rfl, rfl, by decide +kernel, rfl, by decide +kernel, by decide +kernel⟩
/-- the lines of a text at L -/
structure LsAt (H : Hp) (L : Addr) (ls : List Str) : Prop where
  at_ : H L = some (.lst (ls.map V.str))
  short : ∀ z ∈ ls, z.length ≤ 900
  few : ls.length ≤ 1000
theorem LsAt.nw {H H' : Hp} {L : Addr} {ls : List Str} (h : LsAt H L ls) (n : Nw H H') : LsAt H' L ls := ⟨n _ _ h.at_, h.short, h.few⟩
theorem get_mid {pre rest : List Str} {z : Str} : ((pre ++ z :: rest).map V.str)[pre.length]? = some (.str z) := by
  rw [List.getElem?_map, List.getElem?_append_right (Nat.le_refl _), Nat.sub_self]
  rfl
def spRR (n : Nat) : Sp := fun vs H Q _ => ∃ (L : Addr) (pre ls rest : List Str) (r0 : Str) (c : Nat) (ds : List PyData), vs = [.ref L, .int (pre.length : Nat), .int (n : Nat)] ∧ LsAt H L (pre ++ (ls ++ r0 :: rest)) ∧ noRow r0 ∧ LnRs n c ds ls ∧ c ≤ 100 ∧
  ∀ (H' : Hp) (R T : Addr) (xs : List V), Nw H H' → H' R = some (.tup [.ref T, .int ((pre ++ ls).length : Nat)]) → H' T = some (.tup xs) → RgAll AllA H' xs ds → Q (.ref R) H'
/-- a try that stands at a line -/
def spTr (m : Nat) : Sp := fun vs H Q _ => ∃ (L : Addr) (pre la lb ws rest : List Str) (c1 c2 : Nat) (as bs : List PyData), vs = [.ref L, .int (pre.length : Nat), .int ((m + 1 : Nat) : Nat)] ∧
  LsAt H L (pre ++ (Str.ofString "try" :: (la ++ caughtT ws :: (lb ++ [Str.ofString "done"])) ++ rest)) ∧ LnRs m c1 as la ∧ wdsOk ws ∧ LnRs m c2 bs lb ∧ c1 + c2 ≤ 100 ∧
  ∀ (H' : Hp) (R : Addr) (v : V), Nw H H' → H' R = some (.tup [v, .int ((pre ++ (Str.ofString "try" :: (la ++ caughtT ws :: (lb ++ [Str.ofString "done"])))).length : Nat)]) →
    Rg AllA H' v (.tuple [.str "try", .tuple as, .tuple (ws.map PyData.str), .tuple bs]) → Q (.ref R) H'
def spTrN : Nat → Sp
  | 0 => fun _ _ _ _ => False
  | m + 1 => spTr m
section
variable {P : Program} {w : World} {K : PySem.W.Frag} {mg : Str → Option Value} {base : Heap} {f fR fW fO fB fT : Addr} {fd fdR fdW fdO fdB fdT : FuncData}
theorem ok_try {m j : Nat} (hj : 1 ≤ j) (F : FnP K "read_try" sTry f fd) (GR : FnOk P w K mg base CX0 j fR fdR ["lines", "at", "tries"] (spRR m)) (FR : FnP K "read_rows" sRR fR fdR) (gR : mg "read_rows" = some (.ref fR))
    (GW : FnOk P w K mg base CX0 1 fW fdW ["line"] spWO) (FW : FnP K "words_of" sWO fW fdW) (gW : mg "words_of" = some (.ref fW)) : FnOk P w K mg base CX0 (j + 1) f fd ["lines", "at", "tries"] (spTr m) := by
  have bR : Binds K fdR ["lines", "at", "tries"] [] := FR.bindsN fun _ _ _ _ _ _ us hl => match us, hl with | [_, _, _], _ => rfl
  have bW : Binds K fdW ["line"] [] := FW.bindsN fun _ _ _ _ _ _ us hl => match us, hl with | [_], _ => rfl
  refine ok_code F scTry (fun vs H Q E h => ?_) (fun cdv A outer s H vs Q E hcd hr h => ?_)
  · obtain ⟨L, pre, la, lb, ws, rest, c1, c2, as, bs, rfl, _⟩ := h
    rfl
  · obtain ⟨L, pre, la, lb, ws, rest, c1, c2, as, bs, rfl, hL, h1, hw, h2, hc, q⟩ := h
    refine ⟨_, pss_cons (ps_if (pt_cmpR op_eq (pv 2) pe_int (nomark _)) (pss_one ps_never) pss_nil)
      (pss_cons (ps_asg (pe_call GR hr (by rfl) gR FR.kp bR .nil pass0 (pa_cons (pv 0) (pa_cons (pe_op op_add (pv 1) pe_int) (pa_cons (pe_op op_sub (pv 2) pe_int) pa_nil)))) (pg_tup (by rfl) (pgs_cons (pg_name (i := 3) scTry.nd rfl (.inl rfl)) (pgs_cons (pg_name (i := 4) scTry.nd rfl (.inl rfl)) pgs_nil))))
      (pss_cons (ps_set (i := 5) scTry.nd rfl (.inl rfl) (pe_call GW (hr.mono hj) (by rfl) gW FW.kp bW .nil pass0 (pa_cons (pe_ix ix_list (pv 0) (pv 4) (fun _ _ => rfl)) pa_nil)))
      (pss_cons (ps_asg (pe_call GR hr (by rfl) gR FR.kp bR .nil pass0 (pa_cons (pv 0) (pa_cons (pe_op op_add (pv 4) pe_int) (pa_cons (pe_op op_sub (pv 2) pe_int) pa_nil)))) (pg_tup (by rfl) (pgs_cons (pg_name (i := 6) scTry.nd rfl (.inl rfl)) (pgs_cons (pg_name (i := 7) scTry.nd rfl (.inl rfl)) pgs_nil))))
      (pss_cons (ps_if (pt_cmpR op_ne (pe_ix ix_list (pv 0) (pv 7) (fun _ _ => rfl)) pe_str (nomark _)) (pss_one ps_never) pss_nil)
      (pss_one (ps_ret (pe_tup (pa_cons (pe_tup (pa_cons pe_str (pa_cons (pv 3) (pa_cons (pv 5) (pa_cons (pv 6) pa_nil))))) (pa_cons (pe_op op_add (pv 7) pe_int) pa_nil))))))))), ?_⟩
    refine ⟨_, rfl, rfl, _, rfl, ?_⟩
    rw [show decide (V.int ((m + 1 : Nat) : Int) = V.int 0) = false from decide_eq_false fun z => by have := V.int.inj z; omega]
    have e1 : pre ++ (Str.ofString "try" :: (la ++ caughtT ws :: (lb ++ [Str.ofString "done"])) ++ rest) = (pre ++ [Str.ofString "try"]) ++ (la ++ caughtT ws :: (lb ++ (Str.ofString "done" :: rest))) := by simp
    have e2 : pre ++ (Str.ofString "try" :: (la ++ caughtT ws :: (lb ++ [Str.ofString "done"])) ++ rest) = (pre ++ Str.ofString "try" :: la ++ [caughtT ws]) ++ (lb ++ (Str.ofString "done" :: rest)) := by simp
    have e3 : pre ++ (Str.ofString "try" :: (la ++ caughtT ws :: (lb ++ [Str.ofString "done"])) ++ rest) = ((pre ++ [Str.ofString "try"]) ++ la) ++ caughtT ws :: (lb ++ (Str.ofString "done" :: rest)) := by simp
    have e4 : pre ++ (Str.ofString "try" :: (la ++ caughtT ws :: (lb ++ [Str.ofString "done"])) ++ rest) = ((pre ++ Str.ofString "try" :: la ++ [caughtT ws]) ++ lb) ++ (Str.ofString "done" :: rest) := by simp
    refine ⟨_, rfl, _, rfl, _, _, rfl, rfl, _, rfl, _, _, rfl, rfl, L, pre ++ [Str.ofString "try"], la, _, caughtT ws, c1, as, ?_, e1 ▸ hL, noRow_caught hw, h1, by omega, fun H1 R1 T1 xs1 n1 eR1 eT1 rg1 => ?_⟩
    · have a1 : ((pre.length : Nat) : Int) + 1 = ((pre ++ [Str.ofString "try"]).length : Nat) := by simp
      have a2 : ((m + 1 : Nat) : Int) - 1 = (m : Nat) := by omega
      rw [← a1, ← a2]
      rfl
    refine ⟨R1, _, rfl, SqT.of eR1, rfl, _, _, rfl, _, _, rfl, rfl, ?_⟩
    have hL1 := hL.nw n1
    refine ⟨_, rfl, _, rfl, L, _, _, .str (caughtT ws), rfl, rfl, SqL.of hL1.at_, ?_, ws, rfl, hw, fun H2 T2 n2 eT2 => ?_⟩
    · rw [e3]
      exact atI_nat get_mid
    have hL2 := hL1.nw n2
    refine ⟨_, rfl, _, rfl, _, _, rfl, rfl, _, rfl, _, _, rfl, rfl, L, pre ++ Str.ofString "try" :: la ++ [caughtT ws], lb, rest, Str.ofString "done", c2, bs, ?_, e2 ▸ hL2, noRow_done, h2, by omega, fun H3 R3 T3 xs3 n3 eR3 eT3 rg3 => ?_⟩
    · have a1 : (((pre ++ [Str.ofString "try"] ++ la).length : Nat) : Int) + 1 = ((pre ++ Str.ofString "try" :: la ++ [caughtT ws]).length : Nat) := by
        simp
        omega
      have a2 : ((m + 1 : Nat) : Int) - 1 = (m : Nat) := by omega
      rw [← a1, ← a2]
      rfl
    refine ⟨R3, _, rfl, SqT.of eR3, rfl, _, _, rfl, _, _, rfl, rfl, ?_⟩
    have hL3 := hL2.nw n3
    refine ⟨_, rfl, _, rfl, L, _, _, .str (Str.ofString "done"), rfl, rfl, SqL.of hL3.at_, ?_, rfl, _, rfl, ?_⟩
    · rw [e4]
      exact atI_nat get_mid
    refine ⟨_, rfl, _, rfl, _, rfl, D13.sz (by simp), fun T hT => ⟨_, rfl, _, _, rfl, rfl, D13.sz (by simp), fun R hR => ?_⟩⟩
    have n4 : Nw H3 (upd (upd H3 T (.tup [.str (Str.ofString "try"), .ref T1, .ref T2, .ref T3])) R (.tup [.ref T, .int ((((pre ++ Str.ofString "try" :: la ++ [caughtT ws]) ++ lb).length : Nat) + 1)])) := (Nw.new hT).trans (Nw.new hR)
    refine q _ R (.ref T) (n1.trans (n2.trans (n3.trans n4))) ?_ (.tup (xs := [.str (Str.ofString "try"), .ref T1, .ref T2, .ref T3]) ?_ (.cons (.str _) (.cons (Rg.kq (n2.trans (n3.trans n4)).kq (.tup eT1 rg1)) (.cons (Rg.kq (n3.trans n4).kq (.tup eT2 (RgAll.strs ws))) (.cons (Rg.kq n4.kq (.tup eT3 rg3)) .nil)))))
    · rw [upd_same]
      have a3 : (((pre ++ (Str.ofString "try" :: (la ++ caughtT ws :: (lb ++ [Str.ofString "done"])))).length : Nat) : Int) = ((((pre ++ Str.ofString "try" :: la ++ [caughtT ws]) ++ lb).length : Nat) : Int) + 1 := by
        simp
        omega
      rw [a3]
    · rw [upd_ne (ne_of_none upd_same hR)]
      exact upd_same
theorem ok_rr {n j : Nat} (hj : 2 ≤ j) (F : FnP K "read_rows" sRR f fd) (GT : FnOk P w K mg base CX0 j fT fdT ["lines", "at", "tries"] (spTrN n)) (FT : FnP K "read_try" sTry fT fdT) (gT : mg "read_try" = some (.ref fT))
    (GO : FnOk P w K mg base CX0 2 fO fdO ["line"] spRO) (FO : FnP K "row_of" sRO fO fdO) (gO : mg "row_of" = some (.ref fO)) (GB : FnOk P w K mg base CX0 1 fB fdB ["line"] spBN) (FB : FnP K "begins_no_row" sBN fB fdB) (gB : mg "begins_no_row" = some (.ref fB)) (mt : mg "tuple" = none) : FnOk P w K mg base CX0 (j + 1) f fd ["lines", "at", "tries"] (spRR n) := by
  have bT : Binds K fdT ["lines", "at", "tries"] [] := FT.bindsN fun _ _ _ _ _ _ us hl => match us, hl with | [_, _, _], _ => rfl
  have bO : Binds K fdO ["line"] [] := FO.bindsN fun _ _ _ _ _ _ us hl => match us, hl with | [_], _ => rfl
  have bB : Binds K fdB ["line"] [] := FB.bindsN fun _ _ _ _ _ _ us hl => match us, hl with | [_], _ => rfl
  refine ok_code F scRR (fun vs H Q E h => ?_) (fun cdv A outer s H vs Q E hcd hr h => ?_)
  · obtain ⟨L, pre, ls, rest, r0, c, ds, rfl, _⟩ := h
    rfl
  · obtain ⟨L, pre, ls, rest, r0, c, ds, rfl, hL, h0, hl, hc, q⟩ := h
    have hr2 : Room 2 (A.deeper (envOfC "read_rows" (defScope sRR) s.heap.objs.size f cdv)) := hr.mono hj
    have hr1 : Room 1 (A.deeper (envOfC "read_rows" (defScope sRR) s.heap.objs.size f cdv)) := hr.mono (by omega)
    refine ⟨_, pss_cons (ps_set (i := 3) scRR.nd rfl (.inl rfl) (pe_lst pa_nil))
      (pss_cons (ps_while PassesOwn.never (pt_not (pt_val (pe_call GB hr1 (by rfl) gB FB.kp bB .nil pass0 (pa_cons (pe_ix ix_list (pv 0) (pv 1) (fun _ _ => rfl)) pa_nil))))
        (pss_cons (ps_if (pt_cmpR op_eq (pe_ix ix_list (pv 0) (pv 1) (fun _ _ => rfl)) pe_str (nomark _))
            (pss_one (ps_asg (pe_call GT hr (by rfl) gT FT.kp bT .nil pass0 (pa_cons (pv 0) (pa_cons (pv 1) (pa_cons (pv 2) pa_nil)))) (pg_tup (by rfl) (pgs_cons (pg_name (i := 4) scRR.nd rfl (.inl rfl)) (pgs_cons (pg_name (i := 1) scRR.nd rfl (.inl rfl)) pgs_nil)))))
            (pss_one (ps_par (i := 4) (j := 1) (by rfl) scRR.nd rfl rfl (by decide) rfl rfl (pa_cons (pe_call GO hr2 (by rfl) gO FO.kp bO .nil pass0 (pa_cons (pe_ix ix_list (pv 0) (pv 1) (fun _ _ => rfl)) pa_nil)) (pa_cons (pe_op op_add (pv 1) pe_int) pa_nil)) (by rfl))))
          (pss_one (ps_expr (pe_bm PySem.F.plainAttrs_list PySem.F.slot_list_append PySem.F.type_list_append mt_append (pv 3) (pa_cons (pv 4) pa_nil))))))
      (pss_one (ps_ret (pe_tup (pa_cons (pe_callTy call_tuple_of (by rfl) mt (by decide +kernel) (pa_cons (pv 3) pa_nil)) (pa_cons (pv 1) pa_nil)))))), ?_⟩
    refine ⟨D13.sz (by simp), fun B hB => ?_⟩
    have few : ∀ {n c : Nat} {ds : List PyData} {ls : List Str}, LnRs n c ds ls → ds.length ≤ c := fun h => by
      clear hl q hL h0
      induction h using LnRs.rec (motive_1 := fun _ c _ _ _ => 1 ≤ c) with
      | line => exact Nat.le_refl _
      | tri => omega
      | nil => exact Nat.le_refl _
      | cons h1 h2 a b => rw [List.length_cons]; omega
    have hdc := few hl
    refine ⟨fun m σ H' => ∃ (v4 : Option V) (ls1 ls2 : List Str) (ds1 ds2 : List PyData) (c2 : Nat) (xs : List V), σ = [some (.ref L), some (.int ((pre ++ ls1).length : Nat)), some (.int (n : Nat)), some (.ref B), v4] ∧ Nw H H' ∧ H' B = some (.lst xs) ∧ RgAll AllA H' xs ds1 ∧
        ds = ds1 ++ ds2 ∧ ls = ls1 ++ ls2 ∧ LnRs n c2 ds2 ls2 ∧ c2 ≤ 100 ∧ m = ds2.length, ⟨ds.length, none, [], ls, [], ds, c, [], by rw [List.append_nil]; rfl, Nw.new hB, upd_same, .nil, rfl, rfl, hl, hc, rfl⟩, ?_⟩
    rintro m σ H1 ⟨v4, ls1, ls2, ds1, ds2, c2, xs, rfl, n1, eB, rg, eds, els, hl2, hc2, rfl⟩
    have hL1 := hL.nw n1
    have hxs : xs.length ≤ 100 := by
      have := rg.len
      have e := congrArg List.length eds
      rw [List.length_append] at e
      omega
    cases hl2 with
    | nil =>
      rw [List.append_nil] at els eds
      subst els eds
      have e1 : pre ++ (ls ++ r0 :: rest) = (pre ++ ls) ++ r0 :: rest := by simp
      obtain ⟨u, r, hs, hu⟩ := h0
      have hsh : r0.length ≤ 900 := hL.short r0 (by simp)
      refine ⟨_, rfl, _, rfl, L, _, _, .str r0, rfl, rfl, SqL.of hL1.at_, by rw [e1]; exact atI_nat get_mid, r0, u, r, rfl, hsh, hs, fun H2 n2 => ⟨_, rfl, ?_⟩⟩
      rw [decide_eq_true hu]
      have eB2 := n2 _ _ eB
      refine ⟨_, rfl, B, _, rfl, .inl ⟨SqL.of eB2, fun T hT => ⟨_, rfl, D13.sz (by simp), fun R hR => ?_⟩⟩⟩
      refine q _ R T xs (n1.trans (n2.trans ((Nw.new hT).trans (Nw.new hR)))) upd_same ?_ (rg.kq (n2.trans ((Nw.new hT).trans (Nw.new hR))).kq)
      rw [upd_ne (ne_of_none upd_same hR)]
      exact upd_same
    | @cons _ c3 c4 d ds3 l ls3 hd hl3 =>
      cases hd with
      | @line _ ps hf =>
        have e1 : pre ++ (ls ++ r0 :: rest) = (pre ++ ls1) ++ lineT ps :: (ls3 ++ r0 :: rest) := by
          rw [els]
          simp
        have hget : ((pre ++ (ls ++ r0 :: rest)).map V.str)[(pre ++ ls1).length]? = some (.str (lineT ps)) := by
          rw [e1]
          exact get_mid
        have hsh : (lineT ps).length ≤ 900 := by have := line_len hf; omega
        obtain ⟨u, r, hs, hu⟩ := someRow_line hf
        refine ⟨_, rfl, _, rfl, L, _, _, .str (lineT ps), rfl, rfl, SqL.of hL1.at_, atI_nat hget, lineT ps, u, r, rfl, hsh, hs, fun H2 n2 => ⟨_, rfl, ?_⟩⟩
        rw [decide_eq_false hu]
        have hL2 := hL1.nw n2
        refine ⟨_, fun σ' H' hN => ⟨_, Nat.lt_succ_self _, hN⟩, ?_⟩
        refine ⟨_, rfl, _, rfl, L, _, _, .str (lineT ps), rfl, rfl, SqL.of hL2.at_, atI_nat hget, rfl, _, rfl, ?_⟩
        rw [show decide (V.str (lineT ps) = V.str (Str.ofString "try")) = false from decide_eq_false fun z => line_ne_try hf (V.str.inj z)]
        refine ⟨_, rfl, _, rfl, L, _, _, .str (lineT ps), rfl, rfl, SqL.of hL2.at_, atI_nat hget, ps, rfl, hf, fun H3 T ys n3 eT rgT => ⟨_, rfl, _, _, rfl, rfl, _, _, rfl, ?_⟩⟩
        have eB3 := n3 _ _ (n2 _ _ eB)
        refine ⟨_, rfl, .inl ⟨rfl, _, SqL.of eB3⟩, _, rfl, B, _, _, rfl, rfl, eB3, small1000 (by omega), ?_⟩
        have k4 : Kq AllA H3 (upd H3 B (.lst (xs ++ [.ref T]))) := Kq.put eB3 trivial
        refine ⟨some (.ref T), ls1 ++ [lineT ps], ls3, ds1 ++ [.tuple ps], ds3, c4, xs ++ [.ref T], ?_, (n1.trans (n2.trans n3)).over hB, upd_same, (rg.kq ((n2.trans n3).kq.trans k4)).snoc (Rg.kq k4 (.tup eT rgT)), ?_, ?_, hl3, by omega, rfl⟩
        · have a1 : (((pre ++ (ls1 ++ [lineT ps])).length : Nat) : Int) = ((pre ++ ls1).length : Nat) + 1 := by simp; omega
          rw [a1]
          rfl
        · rw [eds]
          simp
        · rw [els]
          simp
      | @tri n' c5 c6 as bs ws la lb h1 hw h2 =>
        have e1 : pre ++ (ls ++ r0 :: rest) = (pre ++ ls1) ++ (Str.ofString "try" :: (la ++ caughtT ws :: (lb ++ [Str.ofString "done"])) ++ (ls3 ++ r0 :: rest)) := by
          rw [els]
          simp
        have hget : ((pre ++ (ls ++ r0 :: rest)).map V.str)[(pre ++ ls1).length]? = some (.str (Str.ofString "try")) := by
          rw [e1]
          exact get_mid
        have hsh : (Str.ofString "try").length ≤ 900 := by decide +kernel
        obtain ⟨u, r, hs, hu⟩ := someRow_try
        refine ⟨_, rfl, _, rfl, L, _, _, .str (Str.ofString "try"), rfl, rfl, SqL.of hL1.at_, atI_nat hget, Str.ofString "try", u, r, rfl, hsh, hs, fun H2 n2 => ⟨_, rfl, ?_⟩⟩
        rw [decide_eq_false hu]
        have hL2 := hL1.nw n2
        refine ⟨_, fun σ' H' hN => ⟨_, Nat.lt_succ_self _, hN⟩, ?_⟩
        refine ⟨_, rfl, _, rfl, L, _, _, .str (Str.ofString "try"), rfl, rfl, SqL.of hL2.at_, atI_nat hget, rfl, _, rfl, ?_⟩
        refine ⟨_, rfl, _, rfl, _, rfl, L, pre ++ ls1, la, lb, ws, ls3 ++ r0 :: rest, c5, c6, as, bs, rfl, e1 ▸ hL2, h1, hw, h2, by omega, fun H3 R v n3 eR rgv => ?_⟩
        have eB3 := n3 _ _ (n2 _ _ eB)
        refine ⟨R, _, rfl, SqT.of eR, rfl, _, _, rfl, _, _, rfl, rfl, _, rfl, .inl ⟨rfl, _, SqL.of eB3⟩, _, rfl, B, _, _, rfl, rfl, eB3, small1000 (by omega), ?_⟩
        have k4 : Kq AllA H3 (upd H3 B (.lst (xs ++ [v]))) := Kq.put eB3 trivial
        refine ⟨some v, ls1 ++ (Str.ofString "try" :: (la ++ caughtT ws :: (lb ++ [Str.ofString "done"]))), ls3, ds1 ++ [_], ds3, c4, xs ++ [v], ?_, (n1.trans (n2.trans n3)).over hB, upd_same, (rg.kq ((n2.trans n3).kq.trans k4)).snoc (rgv.kq k4), ?_, ?_, hl3, by omega, rfl⟩
        · rw [← List.append_assoc]
          rfl
        · rw [eds]
          simp
        · rw [els]
          simp
end
end B13
set_option maxHeartbeats 4000000
namespace B13
open PySem PySem.Spec PyProof.Rows L2 HM XW XR K11 SX XT2 D13 XD
/-! ### data as things -/
mutual
def er : PyData → Th
  | .none => .non
  | .bool b => .bl b
  | .int i => .int i
  | .str x => .str x.cps.toList
  | .tuple ds => .tup (erAll ds)
  | .list _ => .lst
  | .dict _ => .dct
def erAll : List PyData → List Th
  | [] => []
  | d :: ds => er d :: erAll ds
end
mutual
def shorts : PyData → Prop
  | .str x => x.length ≤ 900
  | .tuple ds => shortsAll ds
  | _ => True
def shortsAll : List PyData → Prop
  | [] => True
  | d :: ds => shorts d ∧ shortsAll ds
end
theorem S_cps (x : Str) : S x.cps.toList = x := TL.mk_tl x
mutual
theorem Rg_tt {K : PySem.W.Frag} {Av : Addr → Prop} {H : Hp} : ∀ {v : V} {d : PyData}, Rg Av H v d → shorts d → Tt K H v (er d)
  | _, _, .non, _ => .non
  | _, _, .bl b, _ => .bl b
  | _, _, .int i, _ => .int i
  | _, _, .str x, h => by
    have := Tt.str (K := K) (H := H) x.cps.toList (by rw [Array.length_toList]; exact h)
    rw [S_cps] at this
    exact this
  | _, _, .lst _ h _, _ => .lst (SqL.of h)
  | _, _, .tup h r, s => .tup (SqT.of h) (Rg_ttAll r s)
  | _, _, .dct _ h, _ => .dct h
theorem Rg_ttAll {K : PySem.W.Frag} {Av : Addr → Prop} {H : Hp} : ∀ {vs : List V} {ds : List PyData}, RgAll Av H vs ds → shortsAll ds → TtAll K H vs (erAll ds)
  | _, _, .nil, _ => .nil
  | _, _, .cons h r, s => .cons (Rg_tt h s.1) (Rg_ttAll r s.2)
end
theorem shorts_strs : ∀ {ws : List Str}, (∀ w ∈ ws, w.length ≤ 900) → shortsAll (ws.map PyData.str)
  | [], _ => trivial
  | w :: ws, h => ⟨h w List.mem_cons_self, shorts_strs fun y hy => h y (List.mem_cons_of_mem _ hy)⟩
theorem erAll_strs : ∀ ws : List Str, erAll (ws.map PyData.str) = ws.map fun w => Th.str w.cps.toList
  | [] => rfl
  | w :: ws => by rw [List.map_cons, List.map_cons, erAll, erAll_strs ws]; rfl
theorem pt_pathL {z : Str} (h : ptOk z) : pathL z.cps.toList = true := by
  obtain ⟨ws, rfl, h1, h4, hw⟩ := h
  have e : parts (Txt.join (Str.ofString ".") ws).cps.toList = ws.map TL.tl := by
    show TL.spl [46] 0 [] (TL.tl (Txt.join (Str.ofString ".") ws)) = _
    rw [TL.join_eq, TL.tl_join, tl_dot]
    refine TL.spl_join (S := []) (fun e => ?_) fun p hp => ?_
    · rw [List.map_eq_nil_iff.mp e] at h1
      simp at h1
    · obtain ⟨y, hy, rfl⟩ := List.mem_map.mp hp
      intro hc
      have := nm_low (hw y hy) 46 hc
      rw [low_dot] at this
      cases this
  unfold pathL
  rw [e, List.length_map, decide_eq_true h4, Bool.true_and, List.all_map, List.all_eq_true]
  exact fun y hy => hw y hy
theorem line_good {d : PyData} (h : LineOk d) : ∃ (x : Str) (ds : List PyData), d = .tuple (.str x :: ds) ∧ x ≠ Str.ofString "try" ∧ P13.lineT x.cps.toList (erAll ds) = true ∧ shorts d := by
  have np : ∀ {z : Str}, nmOk z → nameL z.cps.toList = true := fun h => h
  have ns : ∀ {z : Str}, nmOk z → z.length ≤ 900 := fun h => by have := (nm_len h).1; omega
  have ps : ∀ {z : Str}, ptOk z → z.length ≤ 900 := fun h => by have := (good_pt h).2; omega
  cases h with
  | @set z n hz hn =>
    refine ⟨_, _, rfl, by decide, ?_, by show _ ≤ _; decide +kernel, ns hz, trivial, trivial⟩
    have e : P13.kindsOf (S (Str.ofString "set").cps.toList) = some [.name, .number] := by rw [S_cps]; rfl
    show (match P13.kindsOf (S (Str.ofString "set").cps.toList) with | some ks => decide ((erAll [.str z, .int n]).length = ks.length) && ((erAll [.str z, .int n]).zip ks).all fun p => P13.partT p.2 p.1 | none => false) = true
    rw [e]
    show (true && ((nameL z.cps.toList) && (true && true))) = true
    rw [np hz]
    rfl
  | @road w z p hw hz hp =>
    have hw2 : w ≠ Str.ofString "try" ∧ P13.kindsOf w = some [.name, .path] ∧ w.length ≤ 900 := by
      simp only [List.mem_cons, List.not_mem_nil, or_false] at hw
      rcases hw with rfl | rfl | rfl | rfl
      · exact ⟨by decide, rfl, by decide +kernel⟩
      · exact ⟨by decide, rfl, by decide +kernel⟩
      · exact ⟨by decide, rfl, by decide +kernel⟩
      · exact ⟨by decide, rfl, by decide +kernel⟩
    refine ⟨_, _, rfl, hw2.1, ?_, hw2.2.2, ns hz, ps hp, trivial⟩
    have e : P13.kindsOf (S w.cps.toList) = some [.name, .path] := by rw [S_cps]; exact hw2.2.1
    show (match P13.kindsOf (S w.cps.toList) with | some ks => decide ((erAll [.str z, .str p]).length = ks.length) && ((erAll [.str z, .str p]).zip ks).all fun p => P13.partT p.2 p.1 | none => false) = true
    rw [e]
    show (true && ((nameL z.cps.toList) && ((pathL p.cps.toList) && true))) = true
    rw [np hz, pt_pathL hp]
    rfl
  | @draw z p y hz hp hy =>
    refine ⟨_, _, rfl, by decide, ?_, by show _ ≤ _; decide +kernel, ns hz, ps hp, ns hy, trivial⟩
    have e : P13.kindsOf (S (Str.ofString "draw").cps.toList) = some [.name, .path, .name] := by rw [S_cps]; rfl
    show (match P13.kindsOf (S (Str.ofString "draw").cps.toList) with | some ks => decide ((erAll [.str z, .str p, .str y]).length = ks.length) && ((erAll [.str z, .str p, .str y]).zip ks).all fun p => P13.partT p.2 p.1 | none => false) = true
    rw [e]
    show (true && ((nameL z.cps.toList) && ((pathL p.cps.toList) && ((nameL y.cps.toList) && true)))) = true
    rw [np hz, pt_pathL hp, np hy]
    rfl
  | @note p hp =>
    refine ⟨_, _, rfl, by decide, ?_, by show _ ≤ _; decide +kernel, ps hp, trivial⟩
    have e : P13.kindsOf (S (Str.ofString "note").cps.toList) = some [.path] := by rw [S_cps]; rfl
    show (match P13.kindsOf (S (Str.ofString "note").cps.toList) with | some ks => decide ((erAll [.str p]).length = ks.length) && ((erAll [.str p]).zip ks).all fun p => P13.partT p.2 p.1 | none => false) = true
    rw [e]
    show (true && ((pathL p.cps.toList) && true)) = true
    rw [pt_pathL hp]
    rfl
  | @fail z hz =>
    refine ⟨_, _, rfl, by decide, ?_, by show _ ≤ _; decide +kernel, ns hz, trivial⟩
    have e : P13.kindsOf (S (Str.ofString "fail").cps.toList) = some [.name] := by rw [S_cps]; rfl
    show (match P13.kindsOf (S (Str.ofString "fail").cps.toList) with | some ks => decide ((erAll [.str z]).length = ks.length) && ((erAll [.str z]).zip ks).all fun p => P13.partT p.2 p.1 | none => false) = true
    rw [e]
    show (true && ((nameL z.cps.toList) && true)) = true
    rw [np hz]
    rfl
theorem great_same : P13.great = greatW := rfl
theorem words_good {ws : List Str} (h : wdsOk ws) : P13.wordsT (.tup (erAll (ws.map PyData.str))) = true ∧ P13.okW (.tup (erAll (ws.map PyData.str))) ∧ shortsAll (ws.map PyData.str) := by
  obtain ⟨h3, hnd, hw⟩ := h
  rw [erAll_strs]
  have e : ∀ l : List Str, P13.strsOf (l.map fun w => Th.str w.cps.toList) = l := fun l => by
    induction l with
    | nil => rfl
    | cons a l ih =>
      rw [List.map_cons, P13.strsOf, ih, S_cps]
  refine ⟨?_, ?_, shorts_strs fun w hx => ?_⟩
  · show (List.all _ P13.wordT && decide (P13.strsOf _).Nodup) = true
    rw [e, decide_eq_true hnd, Bool.and_true, List.all_map, List.all_eq_true]
    intro w hx
    show (nameL w.cps.toList || decide (S w.cps.toList ∈ P13.great)) = true
    rw [S_cps]
    rcases hw w hx with z | z
    · rw [great_same, decide_eq_true z, Bool.or_true]
    · rw [show nameL w.cps.toList = true from z, Bool.true_or]
  · show (ws.map _).length < 900
    rw [List.length_map]
    omega
  · rcases hw w hx with z | z
    · have := (good_great w z).2
      omega
    · have := (nm_len z).1
      omega
theorem try_cps : S (Str.ofString "try").cps.toList = Str.ofString "try" := S_cps _
mutual
theorem okR_row : ∀ {n c : Nat} {d : PyData}, OkR n c d → ∀ r, c ≤ r → P13.rowT P13.wordsT n r (er d) = some (r - c) ∧ P13.domT P13.okW n (er d) ∧ shorts d
  | n, _, _, .line h, r, hr => by
    obtain ⟨x, ds, rfl, hx, hl, hs⟩ := line_good h
    have hx2 : S x.cps.toList ≠ Str.ofString "try" := by
      rw [S_cps]
      exact hx
    refine ⟨?_, ?_, hs⟩
    · show P13.rowT _ _ r (.tup (.str x.cps.toList :: erAll ds)) = _
      rw [P13.rowT_line (by omega) hx2, hl, if_pos rfl]
    · show P13.domT _ _ (.tup (.str x.cps.toList :: erAll ds))
      unfold P13.domT
      split
      · rename_i heq
        have e2 := Th.str.inj (List.cons.inj (Th.tup.inj heq)).1
        intro z
        rw [← e2] at z
        exact absurd z hx2
      · trivial
  | _, _, _, .tri (n := n) (c1 := c1) (c2 := c2) (as := as) (bs := bs) (ws := ws) h1 hw h2, r, hr => by
    obtain ⟨w1, w2, w3⟩ := words_good hw
    obtain ⟨a1, a2, a3⟩ := okRs_rows h1 (r - 1) (by omega)
    obtain ⟨b1, b2, b3⟩ := okRs_rows h2 (r - 1 - c1) (by omega)
    refine ⟨?_, ?_, (by decide +kernel : (Str.ofString "try").length ≤ 900), a3, w3, b3, trivial⟩
    · show P13.rowT _ (n + 1) r (.tup (.str (Str.ofString "try").cps.toList :: [.tup (erAll as), .tup (erAll (ws.map PyData.str)), .tup (erAll bs)])) = _
      rw [P13.rowT_s, if_neg (by omega), if_pos try_cps, P13.tryT3, if_pos w1]
      show (match P13.rowsWith (P13.rowT P13.wordsT n) (r - 1) (erAll as) with | none => none | some r2 => P13.rowsWith (P13.rowT P13.wordsT n) r2 (erAll bs)) = _
      rw [a1]
      show P13.rowsWith (P13.rowT P13.wordsT n) (r - 1 - c1) (erAll bs) = _
      rw [b1]
      congr 1
      omega
    · exact fun _ => ⟨w2, a2, b2⟩
theorem okRs_rows : ∀ {n c : Nat} {ds : List PyData}, OkRs n c ds → ∀ r, c ≤ r → P13.rowsWith (P13.rowT P13.wordsT n) r (erAll ds) = some (r - c) ∧ (∀ t ∈ erAll ds, P13.domT P13.okW n t) ∧ shortsAll ds
  | _, _, _, .nil, r, _ => ⟨rfl, fun t ht => (by cases ht), trivial⟩
  | n, _, _, .cons (c := c) (e := e) h1 h2, r, hr => by
    obtain ⟨a1, a2, a3⟩ := okR_row h1 r (by omega)
    obtain ⟨b1, b2, b3⟩ := okRs_rows h2 (r - c) (by omega)
    refine ⟨?_, fun t ht => ?_, a3, b3⟩
    · show (match P13.rowT P13.wordsT n r (er _) with | none => none | some r2 => P13.rowsWith (P13.rowT P13.wordsT n) r2 (erAll _)) = _
      rw [a1]
      show P13.rowsWith (P13.rowT P13.wordsT n) (r - c) (erAll _) = _
      rw [b1]
      congr 1
      omega
    · rcases List.mem_cons.mp ht with z | z
      · rw [z]
        exact a2
      · exact b2 t z
end
theorem body_good {c : Nat} {ds : List PyData} (h : OkRs 3 c ds) (hc : c ≤ 40) : P13.bodyB P13.wordsT (er (.tuple ds)) = true ∧ P13.domTh (P13.domT P13.okW 3) (er (.tuple ds)) ∧ shorts (.tuple ds) := by
  obtain ⟨a1, a2, a3⟩ := okRs_rows h 40 hc
  refine ⟨?_, a2, a3⟩
  show (P13.rowsWith (P13.rowT P13.wordsT 3) 40 (erAll ds)).isSome = true
  rw [a1]
  rfl
end B13
set_option maxHeartbeats 4000000
namespace B13
open PySem PySem.Spec PyProof.Rows L2 HM XW XR K11 SX XT2 D13 XD
abbrev sRB : Stmt := top 31
abbrev sLn : Stmt := top 42
theorem scRB : FnScope ["text", "body"] ["text"] (defScope sRB) := ⟨rfl, rfl, rfl, by decide +kernel, rfl, by decide +kernel, by decide +kernel⟩
theorem scLn : FnScope ["_law_rows_here", "_law_found", "_law_row_here", "_law_part", "_law_caught", "_law_word", "_law_first"] ["_law_rows_here"] (defScope sLn) := ⟨rfl, rfl, rfl, by decide +kernel, rfl, by decide +kernel, by decide +kernel⟩
theorem tl_S (l : List Nat) : TL.tl (S l) = l := by simp [S, TL.tl]
theorem tx_last : ∀ ls : List Str, ∃ l, 10 :: tx ls = l ++ [10]
  | [] => ⟨[], rfl⟩
  | z :: ls => by
    obtain ⟨l, e⟩ := tx_last ls
    refine ⟨10 :: (TL.tl z ++ l), ?_⟩
    show 10 :: (TL.tl z ++ (10 :: tx ls)) = _
    rw [e]
    simp
theorem ends_lf (ls : List Str) : Txt.endswith (lf ++ S (tx ls)) lf = true := by
  obtain ⟨l, e⟩ := tx_last ls
  have ex : lf ++ S (tx ls) = S (l ++ [10]) := S_eq (by rw [TL.tl_append, tl_lf, tl_S]; exact e)
  have e1 : lf.length = 1 := by decide +kernel
  rw [ex]
  unfold Txt.endswith
  have e2 : lf.cps.toList = [10] := tl_lf
  have e3 : (S (l ++ [10])).cps.toList = l ++ [10] := tl_S _
  rw [S_length (l ++ [10]), StrLaws.subAt_eq, e1, e2, e3, List.length_append, List.length_singleton, Nat.add_sub_cancel, List.drop_left, decide_eq_true (by omega)]
  rfl
section
variable {P : Program} {w : World} {K : PySem.W.Frag} {mg : Str → Option Value} {base : Heap} {f fR fI fB : Addr} {fd fdR fdI fdB : FuncData} {Ps : List Addr}
def spRB (Ps : List Addr) : Sp := fun vs H Q _ => ∃ (ls : List Str) (c : Nat) (ds : List PyData), vs = [.str (S (tx ls))] ∧ LnRs 3 c ds ls ∧ OkRs 3 c ds ∧ c ≤ 40 ∧ TabsOk Ps H ∧ ∀ (H' : Hp) (v : V), Sm H H' → TabsOk Ps H' → Rg AllA H' v (.tuple ds) → Q v H'
theorem ok_rb (F : FnP K "read_body" sRB f fd) (GR : FnOk P w K mg base CX0 9 fR fdR ["lines", "at", "tries"] (spRR 3)) (FR : FnP K "read_rows" sRR fR fdR) (gR : mg "read_rows" = some (.ref fR))
    (GI : FnOk P w K mg base CX0 16 fI fdI ["thing"] (P13.spIsBody K Ps P13.wordsT P13.okW)) (FI : FnP K "is_body" P13.sIsBody fI fdI) (gI : mg "is_body" = some (.ref fI))
    (GB : FnOk P w K mg base CX0 13 fB fdB ["body"] (spBT Ps 3)) (FB : FnP K "body_text" sBT fB fdB) (gB : mg "body_text" = some (.ref fB)) (mi : mg "isinstance" = none) (ms : mg "str" = none) (c3 : ∃ t, mg "TRIES_AT_MOST" = some (.int 3 t)) : FnOk P w K mg base CX0 17 f fd ["text"] (spRB Ps) := by
  obtain ⟨t3, c3⟩ := c3
  have bR : Binds K fdR ["lines", "at", "tries"] [] := FR.bindsN fun _ _ _ _ _ _ us hl => match us, hl with | [_, _, _], _ => rfl
  have bI : Binds K fdI ["thing"] [] := FI.bindsN fun _ _ _ _ _ _ us hl => match us, hl with | [_], _ => rfl
  have bB : Binds K fdB ["body"] [] := FB.bindsN fun _ _ _ _ _ _ us hl => match us, hl with | [_], _ => rfl
  refine ok_code F scRB (fun vs H Q E h => ?_) (fun cdv A outer s H vs Q E hcd hr h => ?_)
  · obtain ⟨ls, c, ds, rfl, _⟩ := h
    rfl
  · obtain ⟨ls, c, ds, rfl, hl, hok, hc, hT, q⟩ := h
    refine ⟨_, pss_cons (ps_if (pt_not (pt_val (pe_callB call_isi (by rfl) mi (by decide +kernel) (pa_cons (pv 0) (pa_cons (pe_bltn (v := .ty "str") (by rfl) ms (by decide +kernel) rfl) pa_nil))))) (pss_one ps_never) pss_nil)
      (pss_cons (ps_if (pt_not (pt_val (pe_m1 PySem.F.slot_str_endswith PySem.F.type_str_endswith mt_endswith (pe_op op_add_str pe_str (pv 0)) pe_str))) (pss_one ps_never) pss_nil)
      (pss_cons (ps_set (i := 1) scRB.nd rfl (.inl rfl) (pe_ix ix_tup (pe_call GR (hr.mono (by decide)) (by rfl) gR FR.kp bR .nil pass0 (pa_cons (pe_split (pv 0) pe_str) (pa_cons pe_int (pa_cons (pe_glob (v := .int 3) (by rfl) c3 ⟨_, rfl⟩) pa_nil)))) pe_int (fun _ _ => rfl)))
      (pss_cons (ps_if (PW.pt (pw_or (pt_not (pt_val (pe_call GI hr (by rfl) gI FI.kp bI .nil pass0 (pa_cons (pv 1) pa_nil)))) (pw_or1 (pt_cmpR op_ne (pe_call GB (hr.mono (by decide)) (by rfl) gB FB.kp bB .nil pass0 (pa_cons (pv 1) pa_nil)) (pv 0) (nomark _))))) (pss_one ps_never) pss_nil)
      (pss_one (ps_ret (pv 1)))))), ?_⟩
    obtain ⟨l1, l2, l3⟩ := lnRs_len hl
    have htx : (tx ls).length ≤ 9960 := Nat.le_trans l1 (Nat.mul_le_mul_left 249 hc)
    have e1 : lf.length = 1 := by decide +kernel
    refine ⟨_, rfl, _, _, _, _, true, rfl, .ty "str", .base (.str _), kit_ty (by decide +kernel), _, rfl, ?_⟩
    refine ⟨_, rfl, _, _, rfl, rfl, big (by rw [S_length (tx ls), show (Str.ofString "\n").length = 1 from e1]; omega), ⟨_, rfl⟩, _, _, rfl, rfl, _, rfl, ?_⟩
    rw [show Txt.endswith (Str.ofString "\n" ++ S (tx ls)) (Str.ofString "\n") = true from ends_lf ls]
    refine ⟨_, rfl, ⟨_, rfl⟩, _, _, rfl, rfl, by decide +kernel, big (by rw [S_length (tx ls)]; omega), fun p hp => ?_⟩
    rw [show Txt.split (S (tx ls)) (Str.ofString "\n") = ls ++ [Str.ofString ""] from lines_split fun z hz => (l3 z hz).1]
    have hLs : LsAt (upd H p (.lst ((ls ++ [Str.ofString ""]).map V.str))) p ([] ++ (ls ++ [Str.ofString ""])) := by
      refine ⟨upd_same, fun z hz => ?_, ?_⟩
      · rcases List.mem_append.mp (show z ∈ ls ++ [Str.ofString ""] from hz) with y | y
        · have := (l3 z y).2
          omega
        · rw [List.mem_singleton.mp y]
          decide +kernel
      · show (ls ++ [Str.ofString ""]).length ≤ 1000
        rw [List.length_append, List.length_singleton]
        omega
    refine ⟨p, [], ls, [], Str.ofString "", c, ds, rfl, hLs, noRow_nil, hl, by omega, fun H1 R T xs n1 eR eT rg => ?_⟩
    refine ⟨R, _, 0, .ref T, rfl, rfl, SqT.of eR, atI_nat (j := 0) rfl, ?_⟩
    have n0 : Nw H H1 := (Nw.new hp).trans n1
    obtain ⟨b1, b2, b3⟩ := body_good hok hc
    have rgT : Rg AllA H1 (.ref T) (.tuple ds) := .tup eT rg
    refine ⟨_, rfl, .ref T, er (.tuple ds), rfl, Rg_tt rgT b3, b2, n0.tabs hT, fun H2 s2 t2 => ⟨_, rfl, ?_⟩⟩
    rw [b1]
    refine ⟨_, rfl, .ref T, ds, c, ls, rfl, rgT.kq (Kq.ofSm s2), hl, by omega, t2, fun H3 s3 t3 => ⟨_, rfl, rfl, _, rfl, ?_⟩⟩
    rw [decide_eq_true rfl]
    exact ⟨_, rfl, q H3 _ (n0.sm.trans (s2.trans s3)) t3 (rgT.kq (Kq.ofSm (s2.trans s3)))⟩
end
end B13
set_option maxHeartbeats 4000000
namespace B13
open PySem PySem.Spec PyProof.Rows L2 HM XW XR K11 SX XT2 D13 XD
/-- the line of what is caught, word by word -/
def cj (l : List Str) : Str := Txt.join blank (Str.ofString "caught" :: l)
theorem cj_nil : cj [] = Str.ofString "caught" := by
  unfold cj
  rw [TL.join_eq]
  rfl
theorem cj_snoc (l : List Str) (x : Str) : cj (l ++ [x]) = cj l ++ Str.ofString " " ++ x := by
  unfold cj
  rw [TL.join_eq, TL.join_eq]
  refine TL.ext_tl ?_
  rw [TL.tl_append, TL.tl_append, TL.tl_join, TL.tl_join]
  have e : (Str.ofString "caught" :: (l ++ [x])).map TL.tl = (Str.ofString "caught" :: l).map TL.tl ++ [TL.tl x] := by simp
  rw [e, joinL_snoc _ _ (by simp)]
def spLn (n : Nat) : Sp := fun vs H Q _ => ∃ (v : V) (ds : List PyData) (c : Nat) (ls : List Str), vs = [v] ∧ Rg AllA H v (.tuple ds) ∧ LnRs n c ds ls ∧ c ≤ 100 ∧ ∀ (H' : Hp) (D : Addr), Nw H H' → H' D = some (.lst (ls.map V.str)) → Q (.ref D) H'
def spLnP : Nat → Sp
  | 0 => fun _ _ _ _ => False
  | n + 1 => spLn n
theorem flat_len {lss : List (List Str)} (i : Nat) : ((lss.take i).flatten).length ≤ lss.flatten.length := by
  have e : lss.flatten = (lss.take i).flatten ++ (lss.drop i).flatten := by rw [← List.flatten_append, List.take_append_drop]
  rw [e, List.length_append]
  omega
section
variable {P : Program} {w : World} {K : PySem.W.Frag} {mg : Str → Option Value} {base : Heap} {f : Addr} {fd : FuncData}
theorem ok_ln {n j : Nat} (F : FnP K "_law_lines" sLn f fd) (gF : mg "_law_lines" = some (.ref f)) (G : FnOk P w K mg base CX0 j f fd ["_law_rows_here"] (spLnP n)) (ms : mg "str" = none) : FnOk P w K mg base CX0 (j + 1) f fd ["_law_rows_here"] (spLn n) := by
  have bF : Binds K fd ["_law_rows_here"] [] := F.bindsN fun _ _ _ _ _ _ us hl => match us, hl with | [_], _ => rfl
  refine ok_code F scLn (fun vs H Q E h => ?_) (fun cdv A outer s H vs Q E hcd hr h => ?_)
  · obtain ⟨v, ds, c, ls, rfl, _⟩ := h
    rfl
  · obtain ⟨v, ds, c, ls, rfl, hv, hl, hc, q⟩ := h
    refine ⟨_, pss_cons (ps_set (i := 1) scLn.nd rfl (.inl rfl) (pe_lst pa_nil))
      (pss_cons (ps_for PassesOwn.never rfl (pi_tup (pv 0)) (pg_name (i := 2) scLn.nd rfl (.inl rfl))
        (pss_one (ps_if (pt_cmpR op_ne (pe_ix ix_tup (pv 2) pe_int (fun _ _ => rfl)) pe_str (nomark _))
          (pss_one (ps_expr (pe_bm PySem.F.plainAttrs_list PySem.F.slot_list_append PySem.F.type_list_append mt_append (pv 1) (pa_cons (pe_join pe_str (by exact (pe_lc (own := [("_law_part", 3)]) (g := gName 3) (tt := tYes) (te := tCB (fun xs H Q => (∃ a, xs = [.str a] ∧ Q (.str a) H) ∨ ∃ i : Int, xs = [.int i] ∧ i.natAbs.log2 < 1920 ∧ Q (.str (toString i : String)) H) (tCons (tVar 3) tNil)) (by rfl) scLn.nd (pi_tup (pv 2))
            (blkOk_by (own := [("_law_part", 3)]) (N := ["_law_rows_here", "_law_found", "_law_row_here", "_law_part", "_law_caught", "_law_word", "_law_first"]) (sc := defScope sLn) (by decide +kernel)) (fun _ _ _ _ _ => pg_name (i := 3) scLn.nd rfl (Or.inl rfl)) (fun _ _ _ _ _ => pts_nil)
            (fun _ _ _ _ _ => pe_callTy call_strSI (by rfl) ms (by decide +kernel) (pa_cons (pv 3) pa_nil))))) pa_nil))))
          (pss_cons (ps_set (i := 4) scLn.nd rfl (.inl rfl) pe_str)
          (pss_cons (ps_for PassesOwn.never rfl (pi_tup (pe_ix ix_tup (pv 2) pe_int (fun _ _ => rfl))) (pg_name (i := 5) scLn.nd rfl (.inl rfl)) (pss_one (ps_set (i := 4) scLn.nd rfl (.inl rfl) (pe_op op_add_str (pe_op op_add_str (pv 4) pe_str) (pv 5)))))
          (pss_cons (ps_set (i := 6) scLn.nd rfl (.inl rfl) (pe_call G hr (by rfl) gF F.kp bF .nil pass0 (pa_cons (pe_ix ix_tup (pv 2) pe_int (fun _ _ => rfl)) pa_nil)))
          (pss_one (ps_set (i := 1) scLn.nd rfl (.inl rfl) (pe_op op_cat (pe_op op_cat (pe_op op_cat (pe_op op_cat (pe_op op_cat (pv 1) (pe_lst (pa_cons pe_str pa_nil))) (pv 6)) (pe_lst (pa_cons (pv 4) pa_nil))) (pe_call G hr (by rfl) gF F.kp bF .nil pass0 (pa_cons (pe_ix ix_tup (pv 2) pe_int (fun _ _ => rfl)) pa_nil))) (pe_lst (pa_cons pe_str pa_nil)))))))))))
      (pss_one (ps_ret (pv 1)))), ?_⟩
    cases hv with
    | @tup a xs _ hx hall =>
    obtain ⟨lss, e1, e2, e3⟩ := lns_each hl
    have hlen := hall.len
    have hll := (lnRs_len hl).2.1
    refine ⟨D13.sz (by simp), fun B0 hB0 => ⟨_, rfl, a, rfl, ⟨_, SqT.of (by rw [upd_ne (ne_of_none hx hB0)]; exact hx)⟩, ?_⟩⟩
    refine for_it (walk_tup (xs := xs)) (fun i σ H' => ∃ (B : Addr) (v2 v3 v4 v5 v6 : Option V), σ = [some (.ref a), some (.ref B), v2, v3, v4, v5, v6] ∧ H B = none ∧ Nw H H' ∧ H' B = some (.lst (((lss.take i).flatten).map V.str)))
      ⟨B0, none, none, none, none, none, rfl, hB0, Nw.new hB0, upd_same⟩ (fun i σ H' _ ⟨_, _, _, _, _, _, _, _, n1, _⟩ => SqT.of (n1 _ _ hx)) ?_ ?_
    · rintro i x σ H1 H2 hi ⟨B, v2, v3, v4, v5, v6, rfl, fB, n1, eB⟩ ⟨rfl, hx2⟩
      obtain ⟨d, hd, rg0⟩ := hall.get i hx2
      obtain ⟨l, c', k1, k2, k3⟩ := e3 i d hd
      have rg := rg0.kq (n1.kq)
      have etake : (lss.take (i + 1)).flatten = (lss.take i).flatten ++ l := by
        rw [take_snoc k1, List.flatten_append]
        simp
      have hfl := flat_len (lss := lss) i
      have hfl1 := flat_len (lss := lss) (i + 1)
      rw [etake, List.length_append] at hfl1
      rw [← e2] at hfl hfl1
      cases k3 with
      | @line _ ps hf =>
        cases rg with
        | @tup b ys _ hy hys =>
        obtain ⟨w0, r0, eps, hw0⟩ := hf.head
        have h0 : ys[0]? = some (.str w0) := by
          obtain ⟨v0, e0, rg0⟩ := hys.get' 0 (d := .str w0) (by rw [eps]; rfl)
          cases rg0
          exact e0
        have ntry : w0 ≠ Str.ofString "try" := by
          have : ∀ w ∈ rowWords, w ≠ Str.ofString "try" := by decide
          exact this w0 hw0
        have hyl := hys.len
        have hpl := hf.len.2
        refine ⟨_, rfl, b, _, 0, _, rfl, rfl, SqT.of hy, atI_nat (j := 0) h0, rfl, _, rfl, ?_⟩
        rw [show decide (V.str w0 = V.str (Str.ofString "try")) = false from decide_eq_false fun z => ntry (V.str.inj z)]
        refine ⟨_, rfl, .inl ⟨rfl, _, SqL.of eB⟩, ⟨_, rfl⟩, _, rfl, b, rfl, ⟨_, SqT.of hy⟩, fun D hD => ?_⟩
        have nBD : B ≠ D := ne_of_none eB hD
        refine lc_tup (K := K) (a := b) (xs := ys) (fun i H' => Nw H2 H' ∧ H' D = some (.lst (((ps.take i).map partT).map V.str))) ⟨Nw.new hD, upd_same⟩ (fun i H' _ h => SqT.of (h.1 _ _ hy)) ?_ ?_
        · rintro k y H3 hk ⟨n3, eD⟩
          obtain ⟨p, hp, rgp⟩ := hys.get k hk
          have last : ∀ z : Str, z = partT p → ∃ acc, H3 D = some (.lst acc) ∧ acc.length < sizeLine ∧ Nw H2 (upd H3 D (.lst (acc ++ [.str z]))) ∧ (upd H3 D (.lst (acc ++ [.str z]))) D = some (.lst (((ps.take (k + 1)).map partT).map V.str)) := fun z ez => by
            refine ⟨_, eD, ?_, n3.over hD, ?_⟩
            · rw [List.length_map, List.length_map, List.length_take]
              exact small1000 (by omega)
            · rw [upd_same, take_snoc hp, List.map_append, List.map_append, ez]
              rfl
          refine ⟨rfl, _, rfl, ?_⟩
          rcases hf.parts p (List.mem_of_getElem? hp) with ⟨z, rfl⟩ | ⟨i2, rfl, hi2⟩
          · cases rgp
            exact .inl ⟨_, rfl, last z rfl⟩
          · cases rgp
            exact .inr ⟨_, rfl, log_small hi2, last (numT i2) rfl⟩
        · rintro H3 ⟨n3, eD⟩
          have et : ps.take ys.length = ps := List.take_of_length_le (by omega)
          rw [et] at eD
          have eB3 := n3 _ _ eB
          refine ⟨_, D, ps.map partT, rfl, rfl, .inl (SqL.of eD), ?_, B, _, _, rfl, rfl, eB3, ?_, B, _, _, _, _, _, rfl, fB, (n1.trans n3).over fB, ?_⟩
          · have h1 : (Str.ofString " ").length = 1 := by decide +kernel
            have hb : ∀ l : List PyData, (∀ p ∈ l, goodW (partT p)) → ((l.map partT).map (·.length)).sum ≤ 61 * l.length := fun l => by
              induction l with
              | nil => intro _; exact Nat.le_refl _
              | cons p l ih =>
                intro hh
                have := (hh p List.mem_cons_self).2
                have := ih fun y hy => hh y (List.mem_cons_of_mem _ hy)
                simp only [List.map_cons, List.sum_cons, List.length_cons]
                omega
            have := hb ps hf.good
            rw [h1, List.length_map, Nat.mul_one]
            omega
          · rw [List.length_map]
            exact small1000 (by omega)
          · rw [upd_same, etake, List.map_append]
            rfl
      | @tri m c1 c2 as bs ws la lb h1 hw h2 =>
        cases rg with
        | @tup b ys _ hy hys =>
        cases hys with
        | cons r0 hys =>
        cases hys with
        | cons r1 hys =>
        cases hys with
        | cons r2 hys =>
        cases hys with
        | cons r3 hys =>
        cases hys
        cases r0
        rename_i v1' v2' v3'
        cases r2 with
        | @tup b2 zs _ hz hzs =>
        have ezs : zs = ws.map V.str := by
          have go : ∀ (ws : List Str) (ys : List V), RgAll AllA H2 ys (ws.map PyData.str) → ys = ws.map V.str := fun ws => by
            induction ws with
            | nil =>
              intro ys h
              cases h
              rfl
            | cons w ws ih =>
              intro ys h
              cases h with
              | cons h r =>
              cases h
              rw [ih _ r]
              rfl
          exact go ws zs hzs
        subst ezs
        refine ⟨_, rfl, b, _, 0, _, rfl, rfl, SqT.of hy, atI_nat (j := 0) rfl, rfl, _, rfl, ?_⟩
        refine ⟨_, rfl, b, _, 2, _, rfl, rfl, SqT.of hy, atI_nat (j := 2) rfl, b2, rfl, ⟨_, SqT.of hz⟩, ?_⟩
        have hws := hw.1
        refine for_it (walk_tup (xs := ws.map V.str)) (fun k σ H' => ∃ v5 : Option V, σ = [some (.ref a), some (.ref B), some (.ref b), v3, some (.str (cj (ws.take k))), v5, v6] ∧ H' = H2) ⟨v5, by rw [List.take_zero, cj_nil]; rfl, rfl⟩ (fun k σ H' _ ⟨_, _, e⟩ => e ▸ SqT.of hz) ?_ ?_
        · rintro k y σ H3 H4 hk ⟨v5, rfl, rfl⟩ ⟨rfl, hy2⟩
          obtain ⟨wk, hwk, rfl⟩ : ∃ wk, ws[k]? = some wk ∧ y = .str wk := by
            rw [List.getElem?_map] at hy2
            cases e : ws[k]? with
            | none =>
              rw [e] at hy2
              cases hy2
            | some wk =>
              rw [e] at hy2
              exact ⟨wk, rfl, (Option.some.inj hy2).symm⟩
          have hcl : (cj (ws.take k)).length ≤ 36 := by
            have hsub : wdsOk (ws.take k) := ⟨by rw [List.length_take]; omega, (List.take_sublist k ws).nodup hw.2.1, fun w hx => hw.2.2 w (List.mem_of_mem_take hx)⟩
            exact caught_len hsub
          have hwl : wk.length ≤ 8 := (caught_good hw wk (List.mem_cons_of_mem _ (List.mem_of_getElem? hwk))).2
          have hb1 : (Str.ofString " ").length = 1 := by decide +kernel
          refine ⟨_, rfl, _, _, rfl, rfl, big (by rw [hb1]; omega), _, rfl, _, _, rfl, rfl, big (by rw [str_add_len, hb1]; omega), some (.str wk), ?_, rfl⟩
          rw [take_snoc hwk, cj_snoc]
          rfl
        · rintro σ H3 ⟨v5, rfl, rfl⟩
          rw [List.length_map, List.take_length]
          refine ⟨_, rfl, b, _, 1, _, rfl, rfl, SqT.of hy, atI_nat (j := 1) rfl, v1', as, c1, la, rfl, r1, h1, by omega, fun H4 D1 n4 eD1 => ?_⟩
          have eB4 := n4 _ _ eB
          have lB : ∀ l : List Str, l.length ≤ 1000 → (l.map V.str).length ≤ sizeLine := fun l h => by
            rw [List.length_map]
            exact D13.sz h
          have htl : (lss.take i).flatten.length + (la.length + lb.length + 3) ≤ 300 := by
            simp only [List.length_cons, List.length_append, List.length_nil] at hfl1
            omega
          refine ⟨_, rfl, D13.sz (by simp), fun L1 hL1 => ⟨B, L1, _, _, rfl, rfl, by rw [upd_ne (ne_of_none eB4 hL1)]; exact eB4, upd_same, ?_, fun p1 hp1 => ?_⟩⟩
          · simp only [List.length_map, List.length_cons, List.length_nil]
            exact D13.sz (by omega)
          have n5 := (Nw.new (o := .lst [.str (Str.ofString "try")]) hL1).trans (Nw.new (o := .lst ((lss.take i).flatten.map V.str ++ [.str (Str.ofString "try")])) hp1)
          refine ⟨_, rfl, p1, D1, _, _, rfl, rfl, upd_same, n5 _ _ eD1, ?_, fun p2 hp2 => ?_⟩
          · simp only [List.length_map, List.length_cons, List.length_nil, List.length_append]
            exact D13.sz (by omega)
          refine ⟨_, rfl, D13.sz (by simp), fun L2 hL2 => ⟨p2, L2, _, _, rfl, rfl, by rw [upd_ne (ne_of_none upd_same hL2)]; exact upd_same, upd_same, ?_, fun p3 hp3 => ?_⟩⟩
          · simp only [List.length_map, List.length_cons, List.length_nil, List.length_append]
            exact D13.sz (by omega)
          have n8 := n4.trans (n5.trans ((Nw.new hp2).trans ((Nw.new (o := .lst [.str (cj ws)]) hL2).trans (Nw.new (o := .lst ((lss.take i).flatten.map V.str ++ [.str (Str.ofString "try")] ++ la.map V.str ++ [.str (cj ws)])) hp3))))
          refine ⟨_, rfl, b, _, 3, _, rfl, rfl, SqT.of (n8 _ _ hy), atI_nat (j := 3) rfl, v3', bs, c2, lb, rfl, r3.kq n8.kq, h2, by omega, fun H9 D2 n9 eD2 => ?_⟩
          refine ⟨p3, D2, _, _, rfl, rfl, n9 _ _ upd_same, eD2, ?_, fun p4 hp4 => ?_⟩
          · simp only [List.length_map, List.length_cons, List.length_nil, List.length_append]
            exact D13.sz (by omega)
          refine ⟨D13.sz (by simp), fun L3 hL3 => ⟨p4, L3, _, _, rfl, rfl, by rw [upd_ne (ne_of_none upd_same hL3)]; exact upd_same, upd_same, ?_, fun p5 hp5 => ?_⟩⟩
          · simp only [List.length_map, List.length_cons, List.length_nil, List.length_append]
            exact D13.sz (by omega)
          have nall := (n1.trans n8).trans (n9.trans ((Nw.new (o := .lst ((lss.take i).flatten.map V.str ++ [.str (Str.ofString "try")] ++ la.map V.str ++ [.str (cj ws)] ++ lb.map V.str)) hp4).trans (Nw.new (o := .lst [.str (Str.ofString "done")]) hL3)))
          refine ⟨p5, _, _, _, _, _, rfl, nall.free hp5, nall.trans (Nw.new hp5), ?_⟩
          rw [upd_same, etake]
          have ec : cj ws = caughtT ws := rfl
          simp only [List.map_append, List.map_cons, List.map_nil, List.append_assoc, ec]
          rfl
    · rintro σ H1 ⟨B, v2, v3, v4, v5, v6, rfl, fB, n1, eB⟩
      have et : lss.take xs.length = lss := List.take_of_length_le (by omega)
      rw [et, ← e2] at eB
      exact ⟨_, rfl, q H1 B n1 eB⟩
theorem ok_lines (F : FnP K "_law_lines" sLn f fd) (gF : mg "_law_lines" = some (.ref f)) (ms : mg "str" = none) : ∀ n, FnOk P w K mg base CX0 (n + 1) f fd ["_law_rows_here"] (spLn n) := by
  intro n
  induction n with
  | zero => exact ok_ln (n := 0) (j := 0) F gF D13.ok_dnone ms
  | succ n ih => exact ok_ln (n := n + 1) (j := n + 1) F gF ih ms
end
end B13
set_option maxHeartbeats 4000000
namespace B13
open PySem PySem.Spec PyProof.Rows L2 HM XW XR K11 SX XT2 D13 XD
/-! ### what repr can show -/
def ascS (z : Str) : Prop := ∀ c ∈ z.cps.toList, c < 16 ^ 8
theorem asc_nm {z : Str} (h : nmOk z) : ascS z := fun c hc => by
  have := nm_low h c hc
  unfold low at this
  obtain ⟨_, h2⟩ := Bool.and_eq_true_iff.mp this
  have := of_decide_eq_true h2
  have e : (16 : Nat) ^ 8 = 4294967296 := by decide
  omega
theorem asc_pt {z : Str} (h : ptOk z) : ascS z := fun c hc => by
  obtain ⟨ws, rfl, h1, h4, hw⟩ := h
  have hc2 : c ∈ TL.tl (Txt.join (Str.ofString ".") ws) := hc
  rw [TL.join_eq, TL.tl_join, tl_dot] at hc2
  have e : (16 : Nat) ^ 8 = 4294967296 := by decide
  rcases mem_joinL hc2 with y | ⟨p, hp, hc⟩
  · omega
  · obtain ⟨z, hz, rfl⟩ := List.mem_map.mp hp
    exact asc_nm (hw z hz) c hc
theorem asc_lit : ∀ z ∈ (["set", "now", "take", "late", "ask", "draw", "note", "fail", "try"] : List Str), ascS z := by
  unfold ascS
  decide +kernel
theorem asc_great : ∀ z ∈ greatW, ascS z := by
  unfold ascS
  decide +kernel
structure SmX (d : PyData) (n b : Nat) : Prop where
  sh : d.showable = true
  nd : d.hasDict = false
  lv : d.leavesShort 100 = true
  dp : d.depth ≤ n
  bk : d.bulk ≤ b
structure SmA (ds : List PyData) (n b : Nat) : Prop where
  sh : PyData.showableAll ds = true
  nd : PyData.hasDictAll ds = false
  lv : PyData.leavesShortAll 100 ds = true
  dp : PyData.depthAll ds ≤ n
  bk : PyData.bulkAll ds ≤ b
theorem SmA.nil {n : Nat} : SmA [] n 0 := ⟨rfl, rfl, rfl, Nat.zero_le _, Nat.le_refl _⟩
theorem SmA.cons {d : PyData} {ds : List PyData} {n a b : Nat} (x : SmX d n a) (y : SmA ds n b) : SmA (d :: ds) n (a + 1 + b) := by
  refine ⟨?_, ?_, ?_, ?_, ?_⟩
  · rw [PyData.showableAll, x.sh, y.sh]
    rfl
  · rw [PyData.hasDictAll, x.nd, y.nd]
    rfl
  · rw [PyData.leavesShortAll, x.lv, y.lv]
    rfl
  · rw [PyData.depthAll]
    exact Nat.max_le.mpr ⟨x.dp, y.dp⟩
  · rw [PyData.bulkAll]
    have := x.bk
    have := y.bk
    omega
theorem SmA.tup {ds : List PyData} {n b : Nat} (x : SmA ds n b) : SmX (.tuple ds) (n + 1) b := by
  refine ⟨?_, ?_, ?_, ?_, ?_⟩
  · rw [PyData.showable, x.sh]
  · rw [PyData.hasDict, x.nd]
  · rw [PyData.leavesShort, x.lv]
  · rw [PyData.depth]
    have := x.dp
    omega
  · rw [PyData.bulk]
    exact x.bk
theorem SmX.mono {d : PyData} {n m a b : Nat} (x : SmX d n a) (h1 : n ≤ m) (h2 : a ≤ b) : SmX d m b := ⟨x.sh, x.nd, x.lv, Nat.le_trans x.dp h1, Nat.le_trans x.bk h2⟩
theorem SmA.mono {d : List PyData} {n m a b : Nat} (x : SmA d n a) (h1 : n ≤ m) (h2 : a ≤ b) : SmA d m b := ⟨x.sh, x.nd, x.lv, Nat.le_trans x.dp h1, Nat.le_trans x.bk h2⟩
theorem sm_str {z : Str} {n : Nat} (h : ascS z) (hl : z.length ≤ 61) : SmX (.str z) n 61 := by
  refine ⟨rfl, rfl, ?_, Nat.zero_le _, hl⟩
  rw [PyData.leavesShort, List.all_eq_true]
  exact fun c hc => decide_eq_true (h c hc)
theorem sm_int {i : Int} {n : Nat} (h : i.natAbs < 10 ^ 60) : SmX (.int i) n 61 := by
  refine ⟨decide_eq_true (log_small h), rfl, decide_eq_true ?_, Nat.zero_le _, Nat.zero_le _⟩
  have : (PyData.shown (.int i)).length ≤ 61 := by
    show (numT i).length ≤ 61
    rw [TL.len_tl, tl_numT]
    exact numC_len h
  omega
theorem sm_line {d : PyData} (h : LineOk d) : SmX d 1 248 := by
  have nm : ∀ {z : Str}, nmOk z → SmX (.str z) 0 61 := fun h => sm_str (asc_nm h) (good_nm h).2
  have pt : ∀ {z : Str}, ptOk z → SmX (.str z) 0 61 := fun h => sm_str (asc_pt h) (good_pt h).2
  have lt : ∀ {z : Str}, z ∈ (["set", "now", "take", "late", "ask", "draw", "note", "fail", "try"] : List Str) → SmX (.str z) 0 61 := fun {z} h => sm_str (asc_lit z h) (by
    have : ∀ z ∈ (["set", "now", "take", "late", "ask", "draw", "note", "fail", "try"] : List Str), z.length ≤ 61 := by decide +kernel
    exact this z h)
  cases h with
  | set hz hn => exact ((SmA.cons (lt (by decide)) (SmA.cons (nm hz) (SmA.cons (sm_int hn) SmA.nil))).tup).mono (by decide) (by decide)
  | road hw hz hp =>
    refine ((SmA.cons (lt ?_) (SmA.cons (nm hz) (SmA.cons (pt hp) SmA.nil))).tup).mono (by decide) (by decide)
    revert hw
    rename_i w _ _
    revert w
    decide
  | draw hz hp hy => exact ((SmA.cons (lt (by decide)) (SmA.cons (nm hz) (SmA.cons (pt hp) (SmA.cons (nm hy) SmA.nil)))).tup).mono (by decide) (by decide)
  | note hp => exact ((SmA.cons (lt (by decide)) (SmA.cons (pt hp) SmA.nil)).tup).mono (by decide) (by decide)
  | fail hz => exact ((SmA.cons (lt (by decide)) (SmA.cons (nm hz) SmA.nil)).tup).mono (by decide) (by decide)
theorem sm_strs {n : Nat} : ∀ {ws : List Str}, (∀ w ∈ ws, ascS w ∧ w.length ≤ 61) → SmA (ws.map PyData.str) n (62 * ws.length)
  | [], _ => SmA.nil
  | w :: ws, h => (SmA.cons (sm_str (h w List.mem_cons_self).1 (h w List.mem_cons_self).2) (sm_strs fun y hy => h y (List.mem_cons_of_mem _ hy))).mono (Nat.le_refl _) (by rw [List.length_cons]; omega)
mutual
theorem sm_row : ∀ {n c : Nat} {d : PyData}, OkR n c d → SmX d (2 * n + 1) (601 * c - 1)
  | n, _, _, .line h => (sm_line h).mono (by omega) (by omega)
  | _, _, _, .tri (n := n) (c1 := c1) (c2 := c2) (ws := ws) h1 hw h2 => by
    have a := (sm_rows h1).tup
    have b := (sm_rows h2).tup
    have w := (sm_strs (n := 2 * n + 1) (ws := ws) fun w hx => by
      rcases hw.2.2 w hx with z | z
      · exact ⟨asc_great w z, by have := (good_great w z).2; omega⟩
      · exact ⟨asc_nm z, (good_nm z).2⟩).tup
    have t : SmX (.str "try") (2 * n + 1 + 1) 61 := sm_str (asc_lit _ (by decide)) (by decide +kernel)
    have h3 := hw.1
    exact ((SmA.cons t (SmA.cons a (SmA.cons w (SmA.cons b SmA.nil)))).tup).mono (by omega) (by
      have : 62 * ws.length ≤ 62 * 3 := Nat.mul_le_mul_left 62 h3
      omega)
theorem sm_rows : ∀ {n c : Nat} {ds : List PyData}, OkRs n c ds → SmA ds (2 * n + 1) (601 * c)
  | _, _, _, .nil => SmA.nil
  | _, _, _, .cons h1 h2 => by
    have a := sm_row h1
    have b := sm_rows h2
    refine (SmA.cons a b).mono (Nat.le_refl _) ?_
    cases h1 <;> omega
end
mutual
theorem Rg_dp {K : PySem.W.Frag} {Av : Addr → Prop} {H : Hp} : ∀ {v : V} {d : PyData}, Rg Av H v d → d.hasDict = false → Dp K H v d
  | _, _, .non, _ => .non
  | _, _, .bl b, _ => .bl b
  | _, _, .int i, _ => .int i
  | _, _, .str x, _ => .str x
  | _, _, .lst _ h r, s => .lst (SqL.of h) (Rg_dpAll r (by rw [PyData.hasDict] at s; exact s))
  | _, _, .tup h r, s => .tup (SqT.of h) (Rg_dpAll r (by rw [PyData.hasDict] at s; exact s))
  | _, _, .dct _ h, s => by rw [PyData.hasDict] at s; cases s
theorem Rg_dpAll {K : PySem.W.Frag} {Av : Addr → Prop} {H : Hp} : ∀ {vs : List V} {ds : List PyData}, RgAll Av H vs ds → PyData.hasDictAll ds = false → DpAll K H vs ds
  | _, _, .nil, _ => .nil
  | _, _, .cons h r, s => by
    rw [PyData.hasDictAll, Bool.or_eq_false_iff] at s
    exact .cons (Rg_dp h s.1) (Rg_dpAll r s.2)
end
theorem shown_ok {d : PyData} {n b : Nat} (h : SmX d n b) (hb : b ≤ 100000) : d.shown.length ≤ sizeLine := by
  have h1 := PyData.shown_le_bulk 100 (by decide) d h.lv
  have h2 := Nat.mul_le_mul_left 102 (Nat.le_trans h.bk hb)
  have : (102 : Nat) * 100000 + 100 ≤ sizeLine := by decide
  omega
abbrev sRi : Stmt := top 43
abbrev sLaw : Stmt := top 44
theorem scRi : FnScope ["_law_body", "_law_kept", "_law_due", "_law_line", "_law_said"] ["_law_body"] (defScope sRi) := ⟨rfl, rfl, rfl, by decide +kernel, rfl, by decide +kernel, by decide +kernel⟩
theorem scLaw : FnScope ["_law_script", "_law_bodies", "_law_k", "_law_body"] ["_law_script"] (defScope sLaw) := ⟨rfl, rfl, rfl, by decide +kernel, rfl, by decide +kernel, by decide +kernel⟩
section
variable {P : Program} {w : World} {K : PySem.W.Frag} {mg : Str → Option Value} {base : Heap} {f fL fB fR fG fO fS : Addr} {fd fdL fdB fdR fdG fdO fdS : FuncData} {Ps : List Addr}
def spRi (Ps : List Addr) : Sp := fun vs H Q _ => ∃ (v : V) (c : Nat) (ds : List PyData), vs = [v] ∧ Rg AllA H v (.tuple ds) ∧ OkRs 3 c ds ∧ c ≤ 40 ∧ TabsOk Ps H ∧ ∀ H', Sm H H' → TabsOk Ps H' → Q (.bl true) H'
theorem ok_ri (F : FnP K "_law_right" sRi f fd) (GL : FnOk P w K mg base CX0 4 fL fdL ["_law_rows_here"] (spLn 3)) (FL : FnP K "_law_lines" sLn fL fdL) (gL : mg "_law_lines" = some (.ref fL))
    (GB : FnOk P w K mg base CX0 13 fB fdB ["body"] (spBT Ps 3)) (FB : FnP K "body_text" sBT fB fdB) (gB : mg "body_text" = some (.ref fB))
    (GR : FnOk P w K mg base CX0 17 fR fdR ["text"] (spRB Ps)) (FR : FnP K "read_body" sRB fR fdR) (gR : mg "read_body" = some (.ref fR)) (mi : mg "isinstance" = none) (ms : mg "str" = none) (mp : mg "repr" = none) : FnG P w K mg base CX0 18 f fd ["_law_body"] (spRi Ps) := by
  have bL : Binds K fdL ["_law_rows_here"] [] := FL.bindsN fun _ _ _ _ _ _ us hl => match us, hl with | [_], _ => rfl
  have bB : Binds K fdB ["body"] [] := FB.bindsN fun _ _ _ _ _ _ us hl => match us, hl with | [_], _ => rfl
  have bR : Binds K fdR ["text"] [] := FR.bindsN fun _ _ _ _ _ _ us hl => match us, hl with | [_], _ => rfl
  refine okG F scRi (fun vs H Q E h => ?_) (fun cdv A outer s H vs Q E hcd hr hgd h => ?_)
  · obtain ⟨v, c, ds, rfl, _⟩ := h
    rfl
  · obtain ⟨v, c, ds, rfl, hv, hok, hc, hT, q⟩ := h
    have hr4 : Room 4 (A.deeper (envOfC "_law_right" (defScope sRi) s.heap.objs.size f cdv)) := hr.mono (by decide)
    have hr13 : Room 13 (A.deeper (envOfC "_law_right" (defScope sRi) s.heap.objs.size f cdv)) := hr.mono (by decide)
    refine ⟨_, PSs.nox (pss_cons (ps_set (i := 1) scRi.nd rfl (.inl rfl) (pe_callB (call_reprD hr hgd) (by rfl) mp (by decide +kernel) (pa_cons (pv 0) pa_nil)))
      (pss_cons (ps_set (i := 2) scRi.nd rfl (.inl rfl) (pe_join pe_str (by exact (pe_lc (own := [("_law_line", 3)]) (g := gName 3) (tt := tYes) (by rfl) scRi.nd (pi_list (pe_call GL hr4 (by rfl) gL FL.kp bL .nil pass0 (pa_cons (pv 0) pa_nil)))
          (blkOk_by (own := [("_law_line", 3)]) (N := ["_law_body", "_law_kept", "_law_due", "_law_line", "_law_said"]) (sc := defScope sRi) (by decide +kernel)) (fun _ _ _ _ _ => pg_name (i := 3) scRi.nd rfl (Or.inl rfl)) (fun _ _ _ _ _ => pts_nil)
          (fun _ _ _ _ _ => pe_op op_add_str (pv 3) pe_str)))))
      (pss_cons (ps_set (i := 4) scRi.nd rfl (.inl rfl) (pe_call GB hr13 (by rfl) gB FB.kp bB .nil pass0 (pa_cons (pv 0) pa_nil)))
      (pss_cons (ps_if (PW.pt (pw_or (pt_not (pt_val (pe_callB call_isi (by rfl) mi (by decide +kernel) (pa_cons (pv 4) (pa_cons (pe_bltn (v := .ty "str") (by rfl) ms (by decide +kernel) rfl) pa_nil)))))
          (pw_or (pt_cmpR op_ne (pv 4) (pv 2) (nomark _)) (pw_or1 (pt_cmpR op_ne (pe_callB (call_reprD hr hgd) (by rfl) mp (by decide +kernel) (pa_cons (pv 0) pa_nil)) (pv 1) (nomark _)))))) (pss_one (ps_ret pe_bl)) pss_nil)
      (pss_one (ps_ret (pe_cmpR op_eq (pe_callB (call_reprD hr hgd) (by rfl) mp (by decide +kernel) (pa_cons (pe_call GR hr (by rfl) gR FR.kp bR .nil pass0 (pa_cons (pv 2) pa_nil)) pa_nil)) (pv 1) (nomark _)))))))), ?_⟩
    have sm := (sm_rows hok).tup
    have sl := shown_ok sm (Nat.le_trans (Nat.mul_le_mul_left 601 hc) (by decide))
    have sd : PyData.depth (.tuple ds) ≤ 60 := Nat.le_trans sm.dp (by decide)
    obtain ⟨ls, hl⟩ := lnRs_of hok
    obtain ⟨l1, l2, l3⟩ := lnRs_len hl
    obtain ⟨a, rfl⟩ : ∃ a, v = .ref a := by
      cases hv
      exact ⟨_, rfl⟩
    refine ⟨_, rfl, a, _, rfl, Rg_dp hv sm.nd, sm.sh, sm.nd, sd, sl, ?_⟩
    refine ⟨⟨_, rfl⟩, _, rfl, .ref a, ds, c, ls, rfl, hv, hl, by omega, fun H1 D n1 eD => ⟨D, rfl, ⟨_, SqL.of eD⟩, fun L hL => ?_⟩⟩
    have one : (Str.ofString "\n").length = 1 := by decide +kernel
    refine lc_list (K := K) (a := D) (xs := ls.map V.str) (fun i H' => Nw H1 H' ∧ H' L = some (.lst (((ls.take i).map fun z => S (tx [z])).map V.str))) ⟨Nw.new hL, upd_same⟩ (fun i H' _ h => SqL.of (h.1 _ _ eD)) ?_ ?_
    · rintro i x H2 hx ⟨n2, eL⟩
      obtain ⟨z, hz, rfl⟩ : ∃ z, ls[i]? = some z ∧ x = .str z := by
        rw [List.getElem?_map] at hx
        cases e : ls[i]? with
        | none =>
          rw [e] at hx
          cases hx
        | some z =>
          rw [e] at hx
          exact ⟨z, rfl, (Option.some.inj hx).symm⟩
      have hzl := (l3 z (List.mem_of_getElem? hz)).2
      have ez : z ++ Str.ofString "\n" = S (tx [z]) := S_eq (TL.tl_append _ _)
      refine ⟨rfl, _, rfl, _, _, rfl, rfl, big (by rw [one]; omega), _, eL, ?_, n2.over hL, ?_⟩
      · rw [List.length_map, List.length_map, List.length_take]
        exact small1000 (by omega)
      · rw [upd_same, take_snoc hz, List.map_append, List.map_append, ez]
        rfl
    · rintro H2 ⟨n2, eL⟩
      rw [List.length_map, List.take_length] at eL
      have etx : ∀ l : List Str, (l.map fun z => tx [z]).flatten = tx l := fun l => by
        induction l with
        | nil => rfl
        | cons y l ih =>
          rw [List.map_cons, List.flatten_cons, ih]
          show (TL.tl y ++ [10]) ++ tx l = TL.tl y ++ (10 :: tx l)
          simp
      have ej : Txt.join (Str.ofString "") (ls.map fun z => S (tx [z])) = S (tx ls) := by
        have := join0_S (ls.map fun z => tx [z])
        rw [List.map_map, etx] at this
        exact this
      have htx : (tx ls).length ≤ 9960 := Nat.le_trans l1 (Nat.mul_le_mul_left 249 hc)
      refine ⟨_, L, ls.map fun z => S (tx [z]), rfl, rfl, .inl (SqL.of eL), ?_, ?_⟩
      · have hz : (Str.ofString "").length = 0 := by decide +kernel
        rw [hz, Nat.mul_zero, Nat.add_zero, List.map_map]
        have es : (ls.map ((fun x : Str => x.length) ∘ fun z => S (tx [z]))).sum = (tx ls).length := by
          rw [← etx ls, List.length_flatten, List.map_map]
          exact congrArg List.sum (List.map_congr_left fun z _ => S_length (tx [z]))
        rw [es]
        omega
      rw [ej]
      have n3 := n1.trans n2
      have t3 := n3.tabs hT
      have r3 := hv.kq n3.kq
      refine ⟨_, rfl, .ref a, ds, c, ls, rfl, r3, hl, by omega, t3, fun H4 s4 t4 => ?_⟩
      refine ⟨_, rfl, _, _, _, _, true, rfl, .ty "str", .base (.str _), kit_ty (by decide +kernel), _, rfl, ?_⟩
      refine ⟨_, rfl, _, rfl, rfl, _, rfl, ?_⟩
      rw [decide_eq_true rfl]
      have r4 := r3.kq (Kq.ofSm s4)
      refine ⟨_, rfl, a, _, rfl, Rg_dp r4 sm.nd, sm.sh, sm.nd, sd, sl, _, rfl, rfl, _, rfl, ?_⟩
      rw [decide_eq_true rfl]
      refine ⟨_, rfl, ls, c, ds, rfl, hl, hok, hc, t4, fun H5 v5 s5 t5 r5 => ?_⟩
      obtain ⟨a5, rfl⟩ : ∃ a, v5 = .ref a := by
        cases r5
        exact ⟨_, rfl⟩
      refine ⟨a5, _, rfl, Rg_dp r5 sm.nd, sm.sh, sm.nd, sd, sl, _, rfl, rfl, ?_⟩
      rw [decide_eq_true rfl]
      exact q H5 (n3.sm.trans (s4.trans s5)) t5
end
end B13
set_option maxHeartbeats 4000000
namespace B13
open PySem PySem.Spec PyProof.Rows L2 HM XW XR K11 SX XT2 D13 XD
def bodyOk (d : PyData) : Prop := ∃ (c : Nat) (ds : List PyData), d = .tuple ds ∧ OkRs 3 c ds ∧ c ≤ 40
theorem RgAll.mem {Av : Addr → Prop} {H : Hp} : ∀ {vs : List V} {ds : List PyData}, RgAll Av H vs ds → ∀ v ∈ vs, ∃ d ∈ ds, Rg Av H v d
  | _, _, .nil, v, hv => by cases hv
  | _, _, .cons h r, v, hv => by
    rcases List.mem_cons.mp hv with z | z
    · subst z
      exact ⟨_, List.mem_cons_self, h⟩
    · obtain ⟨d, hd, k⟩ := RgAll.mem r v z
      exact ⟨d, List.mem_cons_of_mem _ hd, k⟩
section
variable {P : Program} {w : World} {K : PySem.W.Frag} {mg : Str → Option Value} {base : Heap} {f fR fO fS : Addr} {fd fdR fdO fdS : FuncData} {Ps : List Addr}
def spLaw (K : PySem.W.Frag) (Ps : List Addr) : Sp := fun vs H Q _ => ∃ (a : Addr) (ns : List Int), vs = [.ref a] ∧ SqL K H a (ns.map V.int) ∧ ns.length ≤ 63 ∧ TabsOk Ps H ∧ ∀ H', Q (.bl true) H'
theorem ok_law (F : FnP K "law" sLaw f fd) (GR : FnG P w K mg base CX0 18 fR fdR ["_law_body"] (spRi Ps)) (FR : FnP K "_law_right" sRi fR fdR) (gR : mg "_law_right" = some (.ref fR))
    (GO : FnOk P w K mg base CX0 2 fO fdO ["_law_script", "_law_k"] (spPot K)) (FO : FnP K "_law_pot" sPot fO fdO) (gO : mg "_law_pot" = some (.ref fO))
    (GS : FnOk P w K mg base CX0 11 fS fdS ["_law_pot_here", "_law_room", "_law_deep"] (spDRows 3)) (FS : FnP K "_law_rows" sDRows fS fdS) (gS : mg "_law_rows" = some (.ref fS))
    (ml : mg "len" = none) (mr : mg "range" = none) (mx : mg "max" = none) (mn : mg "min" = none) : FnG P w K mg base CX0 19 f fd ["_law_script"] (spLaw K Ps) := by
  have bR : Binds K fdR ["_law_body"] [] := FR.bindsN fun _ _ _ _ _ _ us hl => match us, hl with | [_], _ => rfl
  have bO : Binds K fdO ["_law_script", "_law_k"] [] := FO.bindsN fun _ _ _ _ _ _ us hl => match us, hl with | [_, _], _ => rfl
  have bS : Binds K fdS ["_law_pot_here", "_law_room", "_law_deep"] [] := FS.bindsN fun _ _ _ _ _ _ us hl => match us, hl with | [_, _, _], _ => rfl
  refine okG F scLaw (fun vs H Q E h => ?_) (fun cdv A outer s H vs Q E hcd hr hgd h => ?_)
  · obtain ⟨a, ns, rfl, _⟩ := h
    rfl
  · obtain ⟨a, ns, rfl, hS, hl, hT, q⟩ := h
    have hr2 : Room 2 (A.deeper (envOfC "law" (defScope sLaw) s.heap.objs.size f cdv)) := hr.mono (by decide)
    have hr11 : Room 11 (A.deeper (envOfC "law" (defScope sLaw) s.heap.objs.size f cdv)) := hr.mono (by decide)
    refine ⟨_, PSs.nox (pss_cons (ps_set (i := 1) scLaw.nd rfl (.inl rfl) (pe_lst (pa_cons (pe_tup pa_nil) pa_nil)))
      (pss_cons (ps_for PassesOwn.never rfl (pi_range1 (by rfl) mr (pa_cons (pe_callB (call_max2 rfl) (by rfl) mx (by decide +kernel) (pa_cons pe_int (pa_cons (pe_callB (call_min2 rfl) (by rfl) mn (by decide +kernel)
            (pa_cons pe_int (pa_cons (pe_callB call_len_seq (by rfl) ml PySem.boot_len (pa_cons (pv 0) pa_nil)) pa_nil))) pa_nil))) pa_nil)) (pg_name (i := 2) scLaw.nd rfl (.inl rfl))
          (pss_one (ps_expr (pe_bm PySem.F.plainAttrs_list PySem.F.slot_list_append PySem.F.type_list_append mt_append (pv 1) (pa_cons (pe_call GS hr11 (by rfl) gS FS.kp bS .nil pass0
            (pa_cons (pe_call GO hr2 (by rfl) gO FO.kp bO .nil pass0 (pa_cons (pv 0) (pa_cons (pv 2) pa_nil))) (pa_cons (pe_lst (pa_cons pe_int pa_nil)) (pa_cons pe_int pa_nil)))) pa_nil)))))
      (pss_cons (ps_for PassesOwn.never rfl (pi_list (pe_op op_cat (pv 1) (pe_revL (pv 1)))) (pg_name (i := 3) scLaw.nd rfl (.inl rfl))
          (pss_one (ps_if (pt_not (pt_val (pe_callG GR hr hgd (by rfl) gR FR.kp bR .nil pass0 (pa_cons (pv 3) pa_nil)))) (pss_one (ps_ret pe_bl)) pss_nil)))
      (pss_one (ps_ret pe_bl))))), ?_⟩
    have hbl : ((ns.map V.int).length : Int) ≤ 63 := by
      rw [List.length_map]
      omega
    refine ⟨D13.sz (by simp), fun T0 hT0 => ⟨D13.sz (by simp), fun B hB => ?_⟩⟩
    have fB : H B = none := (Nw.new (o := .tup []) hT0).free hB
    have n0 : Nw H (upd (upd H T0 (.tup [])) B (.lst [.ref T0])) := (Nw.new hT0).over fB
    have hS0 : SqL K (upd (upd H T0 (.tup [])) B (.lst [.ref T0])) a (ns.map V.int) := n0.sm.seq hS
    refine ⟨_, rfl, a, _, rfl, .inl hS0, _, _, rfl, _, _, rfl, _, rfl, ?_, ?_, for_it walk_range (fun i σ H' => ∃ (v2 : Option V) (xs : List V) (ds : List PyData), σ = [some (.ref a), some (.ref B), v2, none] ∧ Nw H H' ∧ H' B = some (.lst xs) ∧ RgAll AllA H' xs ds ∧ (∀ d ∈ ds, bodyOk d) ∧ xs.length ≤ i + 1)
      ⟨none, [.ref T0], [.tuple []], rfl, n0, upd_same, .cons (.tup (by rw [upd_ne (ne_of_none upd_same hB)]; exact upd_same) .nil) .nil, fun d hd => ⟨0, [], List.mem_singleton.mp hd, .nil, by decide⟩, Nat.le_refl _⟩ (fun _ _ _ _ _ => trivial) ?_ ?_⟩
    · split <;> split <;> omega
    · split <;> split <;> omega
    · rintro i x σ H1 H2 hi ⟨v2, xs, ds, rfl, n1, eB, rg, hok, hxl⟩ ⟨rfl, rfl⟩
      have hi100 : i ≤ 100 := by
        split at hi <;> split at hi <;> omega
      refine ⟨_, rfl, .inl ⟨rfl, _, SqL.of eB⟩, _, rfl, _, rfl, a, ns, i, ?_, hi100, n1.sm.seq hS, fun l p0 p1 hl0 pk => ?_⟩
      · show [V.ref a, V.int (0 + (i : Int))] = [V.ref a, V.int (i : Int)]
        rw [Int.zero_add]
      refine ⟨D13.sz (by simp), fun R hR => ?_⟩
      have nlR : l ≠ R := ne_of_none upd_same hR
      have hP : PotAt (upd (upd H2 l (.lst [.int p0, .int p1])) R (.lst [.int 40])) l := ⟨p0, p1, by rw [upd_ne nlR]; exact upd_same, pk⟩
      refine ⟨l, R, 0, 40, rfl, by decide, by decide, nlR, hP, upd_same, fun H3 T ys es c m' k3 hP3 hR3 hm3 ec ok eT rgT => ?_⟩
      have nB : B ≠ l := ne_of_none eB hl0
      have nBR : B ≠ R := ne_of_none (by rw [upd_ne nB]; exact eB) hR
      have k2 : Nw H2 H3 := fun b o e => by
        have b1 : b ≠ l := ne_of_none e hl0
        have e1 : (upd H2 l (.lst [.int p0, .int p1])) b = some o := by
          rw [upd_ne b1]
          exact e
        have b2 : b ≠ R := ne_of_none e1 hR
        exact k3 b o (by rw [upd_ne b2]; exact e1) b1 b2
      have eB3 := k2 _ _ eB
      have kB : Kq AllA H3 (upd H3 B (.lst (xs ++ [.ref T]))) := Kq.put eB3 trivial
      refine ⟨B, _, _, rfl, rfl, eB3, small1000 (by omega), _, xs ++ [.ref T], ds ++ [.tuple es], rfl, (n1.trans k2).over fB, upd_same, (rg.kq (k2.kq.trans kB)).snoc (Rg.kq kB (.tup eT rgT)), fun d hd => ?_, ?_⟩
      · rcases List.mem_append.mp hd with z | z
        · exact hok d z
        · exact ⟨c, es, List.mem_singleton.mp z, ok, by omega⟩
      · rw [List.length_append, List.length_singleton]
        omega
    · rintro σ H1 ⟨v2, xs, ds, rfl, n1, eB, rg, hok, hxl⟩
      have hxs : xs.length ≤ 100 := by
        split at hxl <;> split at hxl <;> omega
      refine ⟨_, rfl, _, rfl, B, _, rfl, SqL.of eB, fun p1 hp1 => ?_⟩
      have eB1 : (upd H1 p1 (.lst xs.reverse)) B = some (.lst xs) := by
        rw [upd_ne (ne_of_none eB hp1)]
        exact eB
      refine ⟨B, p1, _, _, rfl, rfl, eB1, upd_same, D13.sz (by rw [List.length_reverse]; omega), fun p2 hp2 => ?_⟩
      refine ⟨p2, rfl, ⟨_, SqL.of upd_same⟩, ?_⟩
      have n2 : Nw H1 (upd (upd H1 p1 (.lst xs.reverse)) p2 (.lst (xs ++ xs.reverse))) := (Nw.new hp1).trans (Nw.new hp2)
      refine for_it (walk_list (xs := xs ++ xs.reverse)) (fun i σ H' => ∃ v3 : Option V, σ = [some (.ref a), some (.ref B), v2, v3] ∧ Sm (upd (upd H1 p1 (.lst xs.reverse)) p2 (.lst (xs ++ xs.reverse))) H' ∧ TabsOk Ps H') ⟨none, rfl, Sm.refl _, (n1.trans n2).tabs hT⟩ (fun i σ H' _ ⟨_, _, s1, _⟩ => s1.seq (SqL.of upd_same)) ?_ ?_
      · rintro i x σ H2 H3 hi ⟨v3, rfl, s2, t2⟩ ⟨rfl, hx⟩
        have hm : x ∈ xs := by
          have := List.mem_of_getElem? hx
          rcases List.mem_append.mp this with z | z
          · exact z
          · exact List.mem_reverse.mp z
        obtain ⟨d, hd, rgd⟩ := RgAll.mem rg x hm
        obtain ⟨c, es, rfl, ok, hc⟩ := hok d hd
        refine ⟨_, rfl, x, c, es, rfl, rgd.kq (n2.kq.trans (Kq.ofSm s2)), ok, hc, t2, fun H4 s4 t4 => ⟨_, rfl, ?_⟩⟩
        exact ⟨_, rfl, s2.trans s4, t4⟩
      · rintro σ H2 ⟨v3, rfl, s2, t2⟩
        exact q H2
end
end B13
set_option maxHeartbeats 0
namespace B13
open PySem PySem.Spec PyProof.Rows L2 HM XW XR K11 SX XT2 D13 XD
/-! ### the written PARTS -/
theorem keys_no {P : Params} {z : Str} : ∀ {es : List DictEntry} {ks : List Str}, es.map He.keyOf = He.keysIn P ks → z ∉ ks → es.find? (·.key.isStr z) = none ∧ es.any (·.refKey) = false
  | [], _, _, _ => ⟨rfl, rfl⟩
  | e :: r, [], h, _ => by cases h
  | e :: r, k :: ks, h, hz => by
    have h1 : He.keyOf e :: r.map He.keyOf = some (k, PyData.keyHash P k) :: He.keysIn P ks := h
    injection h1 with h2 h3
    obtain ⟨i1, i2⟩ := keys_no h3 fun y => hz (List.mem_cons_of_mem _ y)
    unfold He.keyOf at h2
    split at h2
    · rename_i x t q
      have h4 := Option.some.inj h2
      obtain ⟨h5, _⟩ := Prod.mk.inj h4
      have hne : (e.key.isStr z) = false := by
        rw [q, h5]
        show (k == z) = false
        exact beq_eq_false_iff_ne.mpr fun y => hz (by rw [← y]; exact List.mem_cons_self)
      refine ⟨?_, ?_⟩
      · rw [List.find?_cons, hne]
        exact i1
      · rw [List.any_cons, i2]
        unfold DictEntry.refKey
        rw [q]
        rfl
    · cases h2
def partsK : List (Str × List P13.Kd) := [("set", [.name, .number]), ("now", [.name, .path]), ("take", [.name, .path]), ("draw", [.name, .path, .name]), ("late", [.name, .path]), ("ask", [.name, .path]), ("note", [.path]), ("fail", [.name])]
def tupAt (K : PySem.W.Frag) (a : Addr) (zs : List Str) : Bool := match K.lookup a with
  | some ⟨.type c, _, .seq its _, _⟩ => decide (c = "tuple") && (decide (its.size ≤ sizeLine) && He.relAll (zs.map V.str) its.toList)
  | _ => false
theorem tupAt_ok {K : PySem.W.Frag} {a : Addr} {zs : List Str} (h : tupAt K a zs = true) (H : Hp) : SqT K H a (zs.map V.str) := by
  unfold tupAt at h
  split at h
  · rename_i c od its n osl q
    obtain ⟨h1, h2⟩ := He.ba h
    obtain ⟨h3, h4⟩ := He.ba h2
    exact .inr ⟨_, its, n, q, congrArg Value.type (of_decide_eq_true h1), rfl, of_decide_eq_true h3, He.relAll_ok h4⟩
  · cases h
def partsB (K : PySem.W.Frag) : Bool := partsK.all fun p => match PySem.W.nsIn K (He.ga K "PARTS") p.1 with
  | some (some (.ref tp)) => tupAt K tp (p.2.map P13.Kd.s)
  | _ => false
theorem kinds_key (z : Str) : (z ∈ partsK.map (·.1) → ∃ ks, (z, ks) ∈ partsK ∧ P13.kindsOf z = some ks) ∧ (z ∉ partsK.map (·.1) → P13.kindsOf z = none) := by
  refine ⟨fun h => ?_, fun h => ?_⟩
  · simp only [partsK, List.map_cons, List.map_nil, List.mem_cons, List.not_mem_nil, or_false] at h
    rcases h with rfl | rfl | rfl | rfl | rfl | rfl | rfl | rfl
    · exact ⟨_, .head _, rfl⟩
    · exact ⟨_, .tail _ (.head _), rfl⟩
    · exact ⟨_, .tail _ (.tail _ (.head _)), rfl⟩
    · exact ⟨_, .tail _ (.tail _ (.tail _ (.head _))), rfl⟩
    · exact ⟨_, .tail _ (.tail _ (.tail _ (.tail _ (.head _)))), rfl⟩
    · exact ⟨_, .tail _ (.tail _ (.tail _ (.tail _ (.tail _ (.head _))))), rfl⟩
    · exact ⟨_, .tail _ (.tail _ (.tail _ (.tail _ (.tail _ (.tail _ (.head _)))))), rfl⟩
    · exact ⟨_, .tail _ (.tail _ (.tail _ (.tail _ (.tail _ (.tail _ (.tail _ (.head _))))))), rfl⟩
  · simp only [partsK, List.map_cons, List.map_nil, List.mem_cons, List.not_mem_nil, or_false, not_or] at h
    obtain ⟨h1, h2, h3, h4, h5, h6, h7, h8⟩ := h
    unfold P13.kindsOf
    rw [if_neg h1, if_neg h2, if_neg h3, if_neg h4, if_neg h5, if_neg h6, if_neg h7, if_neg h8]
theorem paF_of {K : PySem.W.Frag} {w : World} (h : He.dicW K (He.ga K "PARTS") = some (He.keysIn w.params (partsK.map (·.1)))) (hb : partsB K = true) : P13.PaF K w (He.ga K "PARTS") := by
  obtain ⟨es, n, D⟩ := He.dicW_ok h
  have hk : es.toList.map He.keyOf = He.keysIn w.params (partsK.map (·.1)) := by
    unfold He.dicW at h
    rw [D.at_] at h
    have h1 : (match decide (("dict" : String) = "dict") && ((#[] : Array (Option Value)).isEmpty && !(He.ga K "PARTS" == sysModules)) with
      | true => some (es.toList.map He.keyOf)
      | false => none) = some (He.keysIn w.params (partsK.map (·.1))) := h
    rw [D.low] at h1
    exact Option.some.inj h1
  refine ⟨⟨es, n, D.at_⟩, fun z => ?_⟩
  obtain ⟨k1, k2⟩ := kinds_key z
  by_cases hz : z ∈ partsK.map (·.1)
  · obtain ⟨ks, hm, e⟩ := k1 hz
    have h2 := List.all_eq_true.mp hb (z, ks) hm
    dsimp only at h2
    split at h2
    · rename_i tp q
      refine ⟨some (.ref tp), ⟨es, n, _, D.at_, D.lit, D.low, q, rfl⟩, ?_⟩
      rw [e]
      refine ⟨tp, rfl, fun H => ?_⟩
      have := tupAt_ok h2 H
      rw [List.map_map] at this
      exact this
    · cases h2
  · obtain ⟨i1, i2⟩ := keys_no hk hz
    refine ⟨none, ⟨es, n, none, D.at_, D.lit, D.low, ?_, trivial⟩, ?_⟩
    · unfold PySem.W.nsIn
      rw [D.at_]
      dsimp only
      rw [i1, i2]
      rfl
    · rw [k2 hz]
end B13
set_option maxHeartbeats 0
namespace B13
open PySem PySem.Spec PyProof.Rows L2 HM XW XR K11 SX XT2 D13 XD
abbrev dd (x : Str) (st : Stmt) : He.DefD := ⟨(x, none), x, x, defArgs st, defBody st, defScope st, [], []⟩
def fn : List He.DefD := [dd "is_name" P13.sName, dd "is_path" P13.sPath, dd "is_whole" P13.sWhole, dd "is_part" P13.sPart, dd "is_word" P13.sWord, dd "are_words" P13.sWords, dd "begins_with_text" P13.sBegins, dd "is_line" P13.sLine, dd "room_behind_row" P13.sRow, dd "room_behind_rows" P13.sRows, dd "is_body" P13.sIsBody, dd "row_text" sRT, dd "body_text" sBT, dd "number_of" sNO, dd "row_of" sRO, dd "begins_no_row" sBN, dd "words_of" sWO, dd "read_try" sTry, dd "read_rows" sRR, dd "read_body" sRB, dd "_law_at" sAt, dd "_law_pot" sPot, dd "_law_draw" sDraw, dd "_law_name" sNm, dd "_law_path" sPt, dd "_law_number" sNum, dd "_law_fault_words" sFw, dd "_law_row" sDRow, dd "_law_rows" sDRows, dd "_law_lines" sLn, dd "_law_right" sRi, dd "law" sLaw]
def fa : List He.Fa := [.glo "is_name", .glo "is_path", .glo "is_whole", .glo "is_part", .glo "is_word", .glo "are_words", .glo "begins_with_text", .glo "is_line", .glo "room_behind_row", .glo "room_behind_rows", .glo "is_body", .glo "row_text", .glo "body_text", .glo "number_of", .glo "row_of", .glo "begins_no_row", .glo "words_of", .glo "read_try", .glo "read_rows", .glo "read_body", .glo "_law_at", .glo "_law_pot", .glo "_law_draw", .glo "_law_name", .glo "_law_path", .glo "_law_number", .glo "_law_fault_words", .glo "_law_row", .glo "_law_rows", .glo "_law_lines", .glo "_law_right", .glo "law", .free "isinstance", .free "str", .free "len", .free "all", .free "range", .free "max", .free "min", .free "divmod", .free "repr", .free "tuple", .free "int", .free "bool", .free "set", .free "zip", .free "ValueError", .int "LETTERS_AT_MOST" 8, .int "NAMES_AT_MOST" 4, .int "ROWS_AT_MOST" 40, .int "TRIES_AT_MOST" 3, .glo "PARTS", .glo "GREAT_WORDS"]
def tf : List He.Defn := [("is_name", none), ("is_path", none), ("are_words", none), ("is_line", none), ("row_text", none), ("body_text", none)]
def ts : List He.Tab := [(fun K => He.ga K "PARTS", partsK.map (·.1))]
def ex (K : PySem.W.Frag) : Bool := partsB K && tupAt K (He.ga K "GREAT_WORDS") P13.great
def loose : List Str := ([("MadeError" : Str), "NoText", "LETTERS_AT_MOST", "NAMES_AT_MOST", "is_name", "is_path", "ROWS_AT_MOST", "TRIES_AT_MOST", "PARTS", "GREAT_WORDS"] : List Str) ++ (["is_whole", "is_part", "is_word", "are_words", "begins_with_text", "is_line", "room_behind_row", "room_behind_rows", "is_body", "row_text", "body_text", "number_of", "row_of", "begins_no_row", "words_of", "read_try", "read_rows", "read_body"] : List Str) ++ (["_law_at", "_law_pot", "_law_draw", "_law_name", "_law_path", "_law_number", "_law_fault_words", "_law_row", "_law_rows", "_law_lines", "_law_right"] : List Str)
abbrev R : PySem.W.OpenRow := PySem.W.OpenLaw.row PySem.Challenge.rw_halfmade_k13_whole_bodies_written
abbrev hk : PySem.W.Hook := He.hookX 5 fa fn ts tf ex
def ob (s : PySem.W.SharedT) : He.AlX := He.obsX 5 fa fn ts tf ex (HandSHeadRun.getT s)
theorem ob_eq (s : PySem.W.SharedT) : ob s = hk.obs s.abs := He.obsX_eq (HandSHeadRun.getT_eq s)
/-- a world whose one habit is told -/
def setF (w : World) (b : Bool) : World := { w with params := { w.params with followText := fun s => if s = "special-get-raises" then b else w.params.followText s } }
theorem setF_eq (w : World) : setF w (w.params.followText "special-get-raises") = w := by
  obtain ⟨dr, pa⟩ := w
  obtain ⟨p1, p2, p3, p4, p5, p6, p7, p8, p9, p10, p11, p12, p13, p14, p15, p16⟩ := pa
  have e : (fun s => if s = "special-get-raises" then p6 "special-get-raises" else p6 s) = p6 := funext fun s => by
    by_cases h : s = "special-get-raises"
    · rw [if_pos h, h]
    · rw [if_neg h]
  unfold setF
  dsimp only
  rw [e]
theorem run_t (w : World) : HandSHeadRun.RunEq R (PySem.W.view R.prog [44]) hk ob 4000 loose (setF w true) := by
  intro os
  kernel_rfl
theorem run_f (w : World) : HandSHeadRun.RunEq R (PySem.W.view R.prog [44]) hk ob 4000 loose (setF w false) := by
  intro os
  kernel_rfl
theorem run (w : World) : HandSHeadRun.RunEq R (PySem.W.view R.prog [44]) hk ob 4000 loose w := by
  rw [← setF_eq w]
  cases w.params.followText "special-get-raises" with
  | true => exact run_t w
  | false => exact run_f w
abbrev PsK (K : PySem.W.Frag) : List Addr := (tf.map (He.cT K)).map (·.2)
theorem facts {l : PySem.W.OpenLaw} {w : World} {K : PySem.W.Frag} {h : Heap} {mg : Str → Option Value} {f : Addr} (X : K.In h) (G : h.Ns mainGlobals mg) (hfa : mg ("law" : Str) = some (.ref f)) (c : He.SaysX fa fn ts tf ex w h K) : LawG l w K CX0 19 63 "_law_script" mg f h := by
  have c0 : He.SaysD fa fn K := c.t.d
  obtain ⟨fd0, F0⟩ := c0.def_ 0 (d := dd "is_name" P13.sName) rfl
  obtain ⟨fd1, F1⟩ := c0.def_ 1 (d := dd "is_path" P13.sPath) rfl
  obtain ⟨fd2, F2⟩ := c0.def_ 2 (d := dd "is_whole" P13.sWhole) rfl
  obtain ⟨fd3, F3⟩ := c0.def_ 3 (d := dd "is_part" P13.sPart) rfl
  obtain ⟨fd4, F4⟩ := c0.def_ 4 (d := dd "is_word" P13.sWord) rfl
  obtain ⟨fd5, F5⟩ := c0.def_ 5 (d := dd "are_words" P13.sWords) rfl
  obtain ⟨fd6, F6⟩ := c0.def_ 6 (d := dd "begins_with_text" P13.sBegins) rfl
  obtain ⟨fd7, F7⟩ := c0.def_ 7 (d := dd "is_line" P13.sLine) rfl
  obtain ⟨fd8, F8⟩ := c0.def_ 8 (d := dd "room_behind_row" P13.sRow) rfl
  obtain ⟨fd9, F9⟩ := c0.def_ 9 (d := dd "room_behind_rows" P13.sRows) rfl
  obtain ⟨fd10, F10⟩ := c0.def_ 10 (d := dd "is_body" P13.sIsBody) rfl
  obtain ⟨fd11, F11⟩ := c0.def_ 11 (d := dd "row_text" sRT) rfl
  obtain ⟨fd12, F12⟩ := c0.def_ 12 (d := dd "body_text" sBT) rfl
  obtain ⟨fd13, F13⟩ := c0.def_ 13 (d := dd "number_of" sNO) rfl
  obtain ⟨fd14, F14⟩ := c0.def_ 14 (d := dd "row_of" sRO) rfl
  obtain ⟨fd15, F15⟩ := c0.def_ 15 (d := dd "begins_no_row" sBN) rfl
  obtain ⟨fd16, F16⟩ := c0.def_ 16 (d := dd "words_of" sWO) rfl
  obtain ⟨fd17, F17⟩ := c0.def_ 17 (d := dd "read_try" sTry) rfl
  obtain ⟨fd18, F18⟩ := c0.def_ 18 (d := dd "read_rows" sRR) rfl
  obtain ⟨fd19, F19⟩ := c0.def_ 19 (d := dd "read_body" sRB) rfl
  obtain ⟨fd20, F20⟩ := c0.def_ 20 (d := dd "_law_at" sAt) rfl
  obtain ⟨fd21, F21⟩ := c0.def_ 21 (d := dd "_law_pot" sPot) rfl
  obtain ⟨fd22, F22⟩ := c0.def_ 22 (d := dd "_law_draw" sDraw) rfl
  obtain ⟨fd23, F23⟩ := c0.def_ 23 (d := dd "_law_name" sNm) rfl
  obtain ⟨fd24, F24⟩ := c0.def_ 24 (d := dd "_law_path" sPt) rfl
  obtain ⟨fd25, F25⟩ := c0.def_ 25 (d := dd "_law_number" sNum) rfl
  obtain ⟨fd26, F26⟩ := c0.def_ 26 (d := dd "_law_fault_words" sFw) rfl
  obtain ⟨fd27, F27⟩ := c0.def_ 27 (d := dd "_law_row" sDRow) rfl
  obtain ⟨fd28, F28⟩ := c0.def_ 28 (d := dd "_law_rows" sDRows) rfl
  obtain ⟨fd29, F29⟩ := c0.def_ 29 (d := dd "_law_lines" sLn) rfl
  obtain ⟨fd30, F30⟩ := c0.def_ 30 (d := dd "_law_right" sRi) rfl
  obtain ⟨fd31, F31⟩ := c0.def_ 31 (d := dd "law" sLaw) rfl
  have g : ∀ (i : Nat) {x : Str}, fa[i]? = some (.glo x) → mg x = some (.ref (He.ga K x)) := fun i x e => He.glo_ok X G (c0.fact i e)
  have fr : ∀ (i : Nat) {x : Str}, fa[i]? = some (.free x) → mg x = none := fun i x e => He.free_ok X G (c0.fact i e)
  have iLETTERS_AT_MOST := He.int_ok X G (c0.fact 47 (f := .int "LETTERS_AT_MOST" 8) rfl)
  have iNAMES_AT_MOST := He.int_ok X G (c0.fact 48 (f := .int "NAMES_AT_MOST" 4) rfl)
  have iROWS_AT_MOST := He.int_ok X G (c0.fact 49 (f := .int "ROWS_AT_MOST" 40) rfl)
  have iTRIES_AT_MOST := He.int_ok X G (c0.fact 50 (f := .int "TRIES_AT_MOST" 3) rfl)
  obtain ⟨x1, x2⟩ := He.ba (show (partsB K && tupAt K (He.ga K "GREAT_WORDS") P13.great) = true from c.more)
  have hdic : He.dicW K (He.ga K "PARTS") = some (He.keysIn w.params (partsK.map (·.1))) := by
    have e : ts.map (fun t => He.dicW K (t.1 K)) = ts.map fun t => some (He.keysIn w.params t.2) := congrArg (fun z : He.AlT => z.2) c.t
    exact (List.cons.inj e).1
  have PF := paF_of hdic x1
  have hG : ∀ H : Hp, SqT K H (He.ga K "GREAT_WORDS") (P13.great.map V.str) := fun H => tupAt_ok x2 H
  have e := hfa.symm.trans (g 31 (x := "law") rfl)
  cases e
  refine ⟨fd31, tf.map (He.cT K), spLaw K (PsK K), fun p hp => ?_, fun p hp => ?_, fun p hp => ?_, fun s u => ?_, fun H a ns hl hb hH hS => ?_, fun base hK hN hTB => ?_⟩
  · obtain ⟨q, hq, rfl⟩ := List.mem_map.mp hp
    exact c.empty q hq
  · obtain ⟨q, hq, rfl⟩ := List.mem_map.mp hp
    exact c.out q hq
  · obtain ⟨q, hq, rfl⟩ := List.mem_map.mp hp
    exact PySem.W.codeHd_of_K X (c.hd q hq)
  · exact FunD.bindsA (ps := ["_law_script"]) F31 (fun _ _ _ _ _ _ us hl => match us, hl with | [_], _ => rfl) s [u] rfl
  · refine ⟨a, ns, rfl, hS, hl, fun P hP => ?_, fun _ => rfl⟩
    obtain ⟨p, hp, rfl⟩ := List.mem_map.mp hP
    exact ⟨#[], hH p hp, True.intro⟩
  · have T_is_name := hTB (He.cT K ("is_name", none)) (List.mem_map.mpr ⟨("is_name", none), by decide, rfl⟩)
    have I_is_name : (He.cT K ("is_name", none)).2 ∈ PsK K := List.mem_map.mpr ⟨_, List.mem_map.mpr ⟨("is_name", none), by decide, rfl⟩, rfl⟩
    have T_is_path := hTB (He.cT K ("is_path", none)) (List.mem_map.mpr ⟨("is_path", none), by decide, rfl⟩)
    have I_is_path : (He.cT K ("is_path", none)).2 ∈ PsK K := List.mem_map.mpr ⟨_, List.mem_map.mpr ⟨("is_path", none), by decide, rfl⟩, rfl⟩
    have T_are_words := hTB (He.cT K ("are_words", none)) (List.mem_map.mpr ⟨("are_words", none), by decide, rfl⟩)
    have I_are_words : (He.cT K ("are_words", none)).2 ∈ PsK K := List.mem_map.mpr ⟨_, List.mem_map.mpr ⟨("are_words", none), by decide, rfl⟩, rfl⟩
    have T_is_line := hTB (He.cT K ("is_line", none)) (List.mem_map.mpr ⟨("is_line", none), by decide, rfl⟩)
    have I_is_line : (He.cT K ("is_line", none)).2 ∈ PsK K := List.mem_map.mpr ⟨_, List.mem_map.mpr ⟨("is_line", none), by decide, rfl⟩, rfl⟩
    have T_row_text := hTB (He.cT K ("row_text", none)) (List.mem_map.mpr ⟨("row_text", none), by decide, rfl⟩)
    have I_row_text : (He.cT K ("row_text", none)).2 ∈ PsK K := List.mem_map.mpr ⟨_, List.mem_map.mpr ⟨("row_text", none), by decide, rfl⟩, rfl⟩
    have T_body_text := hTB (He.cT K ("body_text", none)) (List.mem_map.mpr ⟨("body_text", none), by decide, rfl⟩)
    have I_body_text : (He.cT K ("body_text", none)).2 ∈ PsK K := List.mem_map.mpr ⟨_, List.mem_map.mpr ⟨("body_text", none), by decide, rfl⟩, rfl⟩
    have m_isinstance := fr 32 (x := "isinstance") rfl
    have m_str := fr 33 (x := "str") rfl
    have m_len := fr 34 (x := "len") rfl
    have m_all := fr 35 (x := "all") rfl
    have m_range := fr 36 (x := "range") rfl
    have m_max := fr 37 (x := "max") rfl
    have m_min := fr 38 (x := "min") rfl
    have m_divmod := fr 39 (x := "divmod") rfl
    have m_repr := fr 40 (x := "repr") rfl
    have m_tuple := fr 41 (x := "tuple") rfl
    have m_int := fr 42 (x := "int") rfl
    have m_bool := fr 43 (x := "bool") rfl
    have m_set := fr 44 (x := "set") rfl
    have m_zip := fr 45 (x := "zip") rfl
    have m_ValueError := fr 46 (x := "ValueError") rfl
    have GName : FnOk l.prog w K mg base CX0 2 (He.fAd K ("is_name", none)) fd0 ["thing"] (P13.spName K (PsK K)) := P13.ok_name F0 I_is_name T_is_name m_isinstance m_str m_len m_all iLETTERS_AT_MOST
    have GPath : FnOk l.prog w K mg base CX0 4 (He.fAd K ("is_path", none)) fd1 ["thing"] (P13.spPath K (PsK K)) := P13.ok_path F1 I_is_path T_is_path GName F0 (g 0 (x := "is_name") rfl) m_isinstance m_str m_len m_all iNAMES_AT_MOST
    have GWhole := P13.ok_whole (P := l.prog) (w := w) (base := base) F2 m_isinstance m_int m_bool
    have GPart := P13.ok_part (P := l.prog) (w := w) (base := base) F3 GName F0 (g 0 (x := "is_name") rfl) GPath F1 (g 1 (x := "is_path") rfl) F2 (g 2 (x := "is_whole") rfl) m_isinstance m_int m_bool
    have GWord := P13.ok_word (P := l.prog) (w := w) (base := base) F4 GName F0 (g 0 (x := "is_name") rfl) (g 52 (x := "GREAT_WORDS") rfl) hG m_isinstance m_str
    have GWords := P13.ok_words (P := l.prog) (w := w) (base := base) F5 I_are_words T_are_words GWord F4 (g 4 (x := "is_word") rfl) m_isinstance m_tuple m_all m_len m_set
    have GBeg := P13.ok_beg (P := l.prog) (w := w) (base := base) F6 m_isinstance m_tuple m_len m_str
    have GLine := P13.ok_line (P := l.prog) (w := w) (base := base) F7 I_is_line T_is_line GPart F3 (g 3 (x := "is_part") rfl) PF (g 51 (x := "PARTS") rfl) m_len m_all m_zip
    have bW : Binds K fd5 ["thing"] [] := F5.bindsN fun _ _ _ _ _ _ us hl => match us, hl with | [_], _ => rfl
    have GBoth := (P13.ok_both (stW := P13.sWords) (P := l.prog) (w := w) (base := base) F8 F9 GBeg F6 (g 6 (x := "begins_with_text") rfl) GLine F7 (g 7 (x := "is_line") rfl) GWords F5 (g 5 (x := "are_words") rfl) bW (g 8 (x := "room_behind_row") rfl) (g 9 (x := "room_behind_rows") rfl) m_len m_isinstance m_tuple 3).2
    have GIB := P13.ok_isBody (P := l.prog) (w := w) (base := base) F10 GBoth F9 (g 9 (x := "room_behind_rows") rfl) iROWS_AT_MOST iTRIES_AT_MOST
    have GBT := (ok_tboth (P := l.prog) (w := w) (base := base) F11 F12 (g 11 (x := "row_text") rfl) (g 12 (x := "body_text") rfl) I_row_text T_row_text I_body_text T_body_text m_str 3).2
    have GNO := ok_no (P := l.prog) (w := w) (base := base) F13 m_int m_ValueError
    have GRO := ok_ro (P := l.prog) (w := w) (base := base) F14 GNO F13 (g 13 (x := "number_of") rfl) m_tuple
    have GBN := ok_bn (P := l.prog) (w := w) (mg := mg) (base := base) F15
    have GWO := ok_wo (P := l.prog) (w := w) (base := base) F16 m_tuple
    have GRR0 := ok_rr (P := l.prog) (w := w) (base := base) (n := 0) (j := 2) (Nat.le_refl _) F18 ok_dnone F17 (g 17 (x := "read_try") rfl) GRO F14 (g 14 (x := "row_of") rfl) GBN F15 (g 15 (x := "begins_no_row") rfl) m_tuple
    have GT1 := ok_try (P := l.prog) (w := w) (base := base) (m := 0) (j := 3) (by decide) F17 GRR0 F18 (g 18 (x := "read_rows") rfl) GWO F16 (g 16 (x := "words_of") rfl)
    have GRR1 := ok_rr (P := l.prog) (w := w) (base := base) (n := 1) (j := 4) (by decide) F18 GT1 F17 (g 17 (x := "read_try") rfl) GRO F14 (g 14 (x := "row_of") rfl) GBN F15 (g 15 (x := "begins_no_row") rfl) m_tuple
    have GT2 := ok_try (P := l.prog) (w := w) (base := base) (m := 1) (j := 5) (by decide) F17 GRR1 F18 (g 18 (x := "read_rows") rfl) GWO F16 (g 16 (x := "words_of") rfl)
    have GRR2 := ok_rr (P := l.prog) (w := w) (base := base) (n := 2) (j := 6) (by decide) F18 GT2 F17 (g 17 (x := "read_try") rfl) GRO F14 (g 14 (x := "row_of") rfl) GBN F15 (g 15 (x := "begins_no_row") rfl) m_tuple
    have GT3 := ok_try (P := l.prog) (w := w) (base := base) (m := 2) (j := 7) (by decide) F17 GRR2 F18 (g 18 (x := "read_rows") rfl) GWO F16 (g 16 (x := "words_of") rfl)
    have GRR3 := ok_rr (P := l.prog) (w := w) (base := base) (n := 3) (j := 8) (by decide) F18 GT3 F17 (g 17 (x := "read_try") rfl) GRO F14 (g 14 (x := "row_of") rfl) GBN F15 (g 15 (x := "begins_no_row") rfl) m_tuple
    have GRB := ok_rb (P := l.prog) (w := w) (base := base) F19 GRR3 F18 (g 18 (x := "read_rows") rfl) GIB F10 (g 10 (x := "is_body") rfl) GBT F12 (g 12 (x := "body_text") rfl) m_isinstance m_str iTRIES_AT_MOST
    have GD := ok_draw (P := l.prog) (w := w) (base := base) F22 m_divmod
    have GO := ok_pot (P := l.prog) (w := w) (base := base) F21 F20 (g 20 (x := "_law_at") rfl) m_len m_max
    have GNm := ok_nm (P := l.prog) (w := w) (base := base) F23 GD F22 (g 22 (x := "_law_draw") rfl) m_range
    have GPt := ok_pt (P := l.prog) (w := w) (base := base) F24 GNm F23 (g 23 (x := "_law_name") rfl) GD F22 (g 22 (x := "_law_draw") rfl) m_range
    have GNu := ok_num (P := l.prog) (w := w) (base := base) F25 GD F22 (g 22 (x := "_law_draw") rfl)
    have GFw := ok_fw (P := l.prog) (w := w) (base := base) F26 GNm F23 (g 23 (x := "_law_name") rfl) GD F22 (g 22 (x := "_law_draw") rfl) m_range m_tuple
    have GS := (ok_dboth (P := l.prog) (w := w) (base := base) F27 F28 (g 27 (x := "_law_row") rfl) (g 28 (x := "_law_rows") rfl) GNm F23 (g 23 (x := "_law_name") rfl) GPt F24 (g 24 (x := "_law_path") rfl) GNu F25 (g 25 (x := "_law_number") rfl) GFw F26 (g 26 (x := "_law_fault_words") rfl) GD F22 (g 22 (x := "_law_draw") rfl) m_range m_tuple 3).2
    have GLn := ok_lines (P := l.prog) (w := w) (base := base) F29 (g 29 (x := "_law_lines") rfl) m_str 3
    have GRi := ok_ri (P := l.prog) (w := w) (base := base) F30 GLn F29 (g 29 (x := "_law_lines") rfl) GBT F12 (g 12 (x := "body_text") rfl) GRB F19 (g 19 (x := "read_body") rfl) m_isinstance m_str m_repr
    exact ok_law F31 GRi F30 (g 30 (x := "_law_right") rfl) GO F21 (g 21 (x := "_law_pot") rfl) GS F28 (g 28 (x := "_law_rows") rfl) m_len m_range m_max m_min
end B13
open PySem PySem.W PySem.Calls PyProof.Rows
theorem PySem.Challenge.cw_halfmade_k13_whole_bodies_written_holds : PySem.Challenge.rw_halfmade_k13_whole_bodies_written.Holds := by
  w_on; o_law
  refine HandSHeadRun.head_any (r := B13.R) (q := view B13.R.prog [44]) (H := B13.hk) (ob := B13.ob) (M := 4000) (loose := B13.loose) (d := HandSHeadRun.topDef B13.R.prog 44) (kwd := []) B13.ob_eq
    (by kernel_rfl) (fun s => by kernel_rfl) B13.run (by kernel_rfl) (by kernel_rfl) (by kernel_rfl) (by rfl) (by first | assumption | decide +kernel) (by decide +kernel) ⟨rfl, rfl, rfl, rfl, rfl, by decide +kernel⟩ ?hw ?hc
  case hw => w_witness2
  case hc =>
    refine HM.walkG (l := PySem.Challenge.rw_halfmade_k13_whole_bodies_written) (n := 63) (k := 19) (x := "_law_script") (CX := fun _ => L2.CX0) rfl (by decide) (by kernel_rfl) ⟨rfl, by decide, by decide⟩ (fun w mg fa h Y G hmg0 => ?_) (fun _ _ _ _ _ z => z)
    obtain ⟨K, KX, c⟩ := Y
    have hmg : mg ("law" : PySem.Str) = some (.ref fa) := by
      have e : (HandSHeadRun.topDef B13.R.prog 44).name = ("law" : PySem.Str) := by kernel_rfl
      rw [← e]
      exact hmg0
    exact ⟨K, KX, B13.facts KX G hmg c⟩

import PyProof.Rows.All
import Wide.All
import OpenK.AllK
import Wide.FinOn
import HandS.ForMost
import HandS.AnyAll
import HandS.GenOver
import HandS.EndTab
import HandS.Walk
import HandS.HeadHook4
import HandS.HeadWalk
import HandS.Head2
import HandS.Defaults
import HandS.IsInst
import HandS.Wide
import HandS.Flow
import HandS.StrMore
import PyProof.ReprRoads
import HandS.Codes
import PyProof.Rows.StrCountLaw
import PyProof.Rows.RegReprOcc
import PyProof.EqLayable
import HandS.Dict
import HandS.WrittenGet
import HandS.Zip
import HandS.WideBits
import HandS.Comp
import PyProof.ReprBulk
import HandS.Text
import KE.IntTextLaws
import PyProof.Rows.ReprOcc
import HandS.Iter
import HandS.ForDict
import HandS.RaiseMore
import PyProof.Rows.SortStr
import PyProof.Rows.StrMeet
import HandS.HeadEnd
import PySem.Challenge.RW_halfmade_k21_modules_keep_names
set_option Elab.async false
set_option linter.all false
set_option maxRecDepth 100000
set_option maxHeartbeats 4000000
namespace GxA
open PySem PySem.Spec PyProof.Rows L2 GxR

/-- the frame of a generator expression that captures nothing -/
def genCx (X : Cx) (N : List Str) (A' : Around) (s4 : Shared) (H4 : Hp) (cenv : Env) (fp : List Addr) : Cx :=
  { X with A := A', N := N, s_0 := s4, H_0 := H4, env := cenv, outer := X.stack, stack := cenv :: X.stack, ex := fp, fn := fun _ => false, calm := true, pn := [], xe := fun _ _ => False }

/-- the generator's own scope: no cells, nothing captured -/
structure GenN (scope : Scope) : Prop where
  kind : scope.kind = .function
  co : scope.isCoroutine = false
  cell : ∀ y ∈ scope.names, y.2 ≠ .cell
  free : ∀ y ∈ scope.names, y.2 ≠ .free
  dot : scope.names.lookup (".0" : Str) = some NameKind.local

theorem clo_nil (cells : List (Str × Addr)) : ∀ (l : List (Str × NameKind)) (acc : List (Str × Addr)), (∀ y ∈ l, y.2 ≠ .free) → cloFrom cells l acc = acc
  | [], _, _ => rfl
  | (n, k) :: r, acc, h => by
    have hk : (k == NameKind.free) = false := by
      have := h (n, k) List.mem_cons_self
      cases k <;> first | rfl | exact absurd rfl this
    unfold cloFrom
    rw [hk]
    exact clo_nil cells r acc fun y hy => h y (List.mem_cons_of_mem _ hy)

theorem lookup_mem {α : Type} : ∀ {l : List (Str × α)} {n : Str} {c : α}, l.lookup n = some c → ∃ n', (n', c) ∈ l
  | (k, v) :: r, n, c, h => by
    rw [List.lookup_cons] at h
    cases hb : n == k with
    | true =>
      rw [hb] at h
      cases h
      exact ⟨k, List.mem_cons_self⟩
    | false =>
      rw [hb] at h
      obtain ⟨n', hn⟩ := lookup_mem h
      exact ⟨n', List.mem_cons_of_mem _ hn⟩

section
variable {X : Cx} {pins : List (Addr × Obj)} {σ : L2.St} {H : Hp} {s : Shared}
/-- only the generators' table has changed -/
theorem inv_gens {s' : Shared} (I : Inv X pins σ H s) (hh : s'.heap = s.heap) (ho : s'.os = s.os) (hb : AllBare s'.gens) : Inv X pins σ H s' := by
  obtain ⟨h, g, d, t, o⟩ := s
  obtain ⟨h', g', d', t', o'⟩ := s'
  dsimp only at hh ho hb
  subst hh
  subst ho
  exact ⟨I.ok, I.os, hb, I.base, I.loc, I.cell, I.free, I.freeC, I.pin, I.hok, I.len⟩
/-- slots may be forgotten -/
theorem inv_wipe (I : Inv X pins σ H s) (n : Nat) (hn : X.N.length = n) : Inv X pins (List.replicate n none) H s := by
  obtain ⟨m, hm, _⟩ := I.loc
  refine ⟨I.ok, I.os, I.bare, I.base, ⟨m, hm, fun i x v _ e _ => ?_⟩, I.cell, I.free, I.freeC, I.pin, I.hok, by rw [List.length_replicate, hn]⟩
  rw [List.getElem?_replicate] at e
  split at e <;> cases e
end

section
variable {X : Cx} {pins : List (Addr × Obj)} {σ : L2.St} {H : Hp} {s : Shared}
theorem stk_lt (I : Inv X pins σ H s) {b : Addr} (hb : b ∈ frs X.stack) : b < s.heap.objs.size := by
  rcases List.mem_cons.mp (I.stkSub b hb) with e | e
  · rw [e]
    exact I.lt
  · refine Nat.lt_of_not_le fun h => I.nofs h e
theorem genCx_ok {N : List Str} {A' : Around} {scope : Scope} {code : Value} {fp : List Addr} (I : Inv X pins σ H s) (S : GenN scope)
    (hA : A'.frames = some (genEnv scope [] s.heap.objs.size code builtinsNs X.env :: X.stack)) (hAh : A'.handled = none) (hfp : ∀ b ∈ fp, FpOk X pins H b) (hlt : ∀ b ∈ fp, b < s.heap.objs.size) :
    (genCx X N A' s H (genEnv scope [] s.heap.objs.size code builtinsNs X.env) fp).Ok where
  mod := I.ok.mod
  kind := S.kind
  glob := I.ok.glob
  blt := rfl
  above := Nat.le_refl _
  inj := fun x y c e => nomatch (show (none : Option Addr) = some c from e)
  has := fun x h => by
    rcases h with h | h
    · obtain ⟨n', hm⟩ := lookup_mem (show scope.names.lookup x = some .cell from h)
      exact absurd rfl (S.cell _ hm)
    · obtain ⟨n', hm⟩ := lookup_mem (show scope.names.lookup x = some .free from h)
      exact absurd rfl (S.free _ hm)
  cab := fun x c e _ => nomatch (show false = true from e)
  hd := fun _ => hAh
  frames := hA
  stk := .inr ⟨rfl, rfl⟩
  exf := fun b hb => ⟨Nat.ne_of_lt (hlt b hb), fun x c e => nomatch (show (none : Option Addr) = some c from e)⟩
  bs := I.bs
  bsz := Nat.le_trans I.ok.bsz I.sz
  noex := fun b o e hb => by
    rcases (hfp b hb).2.2.2.1 with z | z
    · exact I.ok.noex b o e z
    · exact absurd (Nat.lt_of_lt_of_le (Heap.lt_size (I.ok.bs b o e).1) z) (Nat.lt_irrefl _)
  exfs := fun b hb hs => by
    rcases List.mem_cons.mp (I.stkSub b hs) with z | z
    · exact (hfp b hb).2.1 z
    · exact (hfp b hb).2.2.1 z
  funs := I.stack
  frf := I.stkFree
theorem genCx_inv {N : List Str} {A' : Around} {scope : Scope} {code : Value} {fp : List Addr} {h5 : Heap} {gs : Array GenState} {tk : Nat} {m : Str → Option Value} {a : Addr} {go : Obj} (I : Inv X pins σ H s)
    (hok : (genCx X N A' s H (genEnv scope [] s.heap.objs.size code builtinsNs X.env) fp).Ok) (k5 : ∀ b o, s.heap.get? b = some o → h5.get? b = some o) (hn : h5.Ns s.heap.objs.size m) (ha : h5.get? a = some go) (hac : s.heap.objs.size < a)
    (hgo : ∀ v, go.data ≠ .cell v) (hgb : AllBare gs) :
    Inv (genCx X N A' s H (genEnv scope [] s.heap.objs.size code builtinsNs X.env) fp) [(a, go)] (List.replicate N.length none) H { s with gens := gs, toks := tk, heap := h5 } where
  ok := hok
  os := rfl
  bare := hgb
  base := Un.kept k5
  loc := ⟨m, hn, fun i x v _ e _ => by
    rw [List.getElem?_replicate] at e
    split at e <;> cases e⟩
  cell := fun x c e => nomatch (show (none : Option Addr) = some c from e)
  free := I.hok.fresh (Nat.le_refl _)
  freeC := fun x c e => nomatch (show (none : Option Addr) = some c from e)
  pin := fun p hp => by
    have e : p = (a, go) := by
      rcases List.mem_append.mp hp with z | z
      · cases z
      · exact List.mem_singleton.mp z
    subst e
    refine ⟨ha, I.hok.fresh (Nat.le_of_lt hac), Nat.ne_of_gt hac, fun hb => ?_, hgo⟩
    exact absurd (Nat.lt_trans (stk_lt I hb) hac) (Nat.lt_irrefl _)
  hok := (I.kept (t' := tk) k5).hok
  len := List.length_replicate
end

/-! ### the loop of the generator -/
section
variable {X : Cx} {tg elt iter : Expr} {scope : Scope} {pos : Pos} {it : Addr} {B : Around} {J : It} {fp : List Addr} {tn : Nat → Heap → Prop} {g : TG} {te : TE} {pn0 : List (Addr × Obj)} {Q : VK}
/-- what the generator's end leaves -/
def GRz (X : Cx) (pn0 : List (Addr × Obj)) (Q : VK) : Nat → Shared → Shared → Prop := fun _ _ s => ∃ σ H, Inv X pn0 σ H s ∧ Q (.bl true) H
/-- what it hands out: True, and it may go on; or False, and it is left -/
def GYz (X : Cx) (pn0 : List (Addr × Obj)) (Q : VK) : Protocol := fun _ _ v s kap => ∃ b σ H, v = .bool b ∧ Inv X pn0 σ H s ∧
  if b = true then ∀ s', s'.heap = s.heap → s'.os = s.os → AllBare s'.gens → kap (.send .none) s' else Q (.bl false) H
/-- the turns -/
def GTurn (J : It) (g : TG) (te : TE) (k : Nat) (Q : VK) (W : Nat → Nat → Hp → Prop) : Prop := ∀ i m H, W i m H →
  (J.stop i H ∧ Q (.bl true) H) ∨ (J.go i H ∧ ∃ Nx : Hp → Prop, (∀ H', Nx H' → ∃ m', m' < m ∧ W (i + 1) m' H') ∧
    ∀ x H', J.yld i H x H' → g x (List.replicate k none) H' fun σ2 H2 => te σ2 H2 fun v H3 => ∃ b, v = .bl b ∧ if b = true then Nx H3 else Q (.bl false) H3)
theorem seg_all {W : Nat → Nat → Hp → Prop} (hA : B.over (.compLoop (.GeneratorExp elt [⟨tg, iter, [], 0⟩] scope pos) 0 (.ref it) .none X.env) [] = X.A) (hxe : X.xe = fun _ _ => False) (hcalm : X.calm = true) (hco : X.env.scope.isCoroutine = false)
    (T : Turn X.prog X.w X.K tg J fp it tn) (hf : ∀ b ∈ fp, b ≠ X.env.locals ∧ b ∉ X.fs ∧ (b ∈ X.ex ∨ X.s_0.heap.objs.size ≤ b) ∧ (∀ x c, X.env.cells.lookup x = some c → c ≠ b) ∧ ∀ p ∈ X.pn ++ pn0, p.1 ≠ b)
    (hg : PG X tg g) (he : PE X elt te) (turn : GTurn J g te X.N.length Q W) :
    ∀ (m n : Nat), m < n → ∀ (i : Nat) (s₀ s : Shared) (σ : L2.St) (H : Hp), Inv X pn0 σ H s → tn i s.heap → (∀ b ∈ fp, H b = none) → W i m H →
      Seg (model X.prog X.w) B (fun n s₀ r s₁ => r = .ok .next ∧ GRz X pn0 Q n s₀ s₁) (GYz X pn0 Q) n s₀ (.compLoop (.GeneratorExp elt [⟨tg, iter, [], 0⟩] scope pos) 0 (.ref it) .none X.env)
        ((model X.prog X.w).den (.compLoop (.GeneratorExp elt [⟨tg, iter, [], 0⟩] scope pos) 0 (.ref it) .none X.env)) [] s := by
  intro m
  induction m using Nat.strongRecOn with
  | _ m ih =>
  intro n hmn i s₀ s σ H I st fr w
  have I' := inv_wipe I X.N.length rfl
  have noX : ∀ (e : Value) (s' : Shared), X.xe e s' → False := fun e s' h => by
    rw [hxe] at h
    exact h
  have stat : ∀ {H' : Hp}, (∀ b ∈ fp, H' b = none) → ∀ b ∈ fp, FpOk X pn0 H' b := fun hn b hb => ⟨hn b hb, hf b hb⟩
  show Seg _ B _ _ _ s₀ _ ((compTurn (.GeneratorExp elt [⟨tg, iter, [], 0⟩] scope pos) 0 (.ref it) .none X.env).onRaise (leaving X.env)) [] s
  rw [compTurn_gen, Sem.onRaise_eq_wrap]
  refine seg_bind_wrap (wpAny_standAt ?_)
  rcases turn i m H w with ⟨stop, q⟩ | ⟨go, Nx, hN, step⟩
  · refine seg_bind_wrap ?_
    rw [hA]
    refine wpAny_mono (T.done X rfl rfl rfl hcalm i pn0 s _ H X.xe I' (stat fr) st stop) (fun r s1 h1 => ?_) fun e s' h => (noX e s' h).elim
    obtain ⟨rfl, I1⟩ := h1
    exact seg_end (.ok .next) ⟨rfl, _, H, I1, q⟩
  · refine seg_bind_wrap ?_
    rw [hA]
    refine wpAny_mono (T.item X rfl rfl rfl hcalm i pn0 s _ H X.xe I' (stat fr) st go) (fun r s1 h1 => ?_) fun e s' h => (noX e s' h).elim
    obtain ⟨u, rfl, h1⟩ := h1
    refine seg_bind_wrap ?_
    rw [hA]
    refine wpAny_mono h1 (fun _ s2 h2 => ?_) fun e s' h => (noX e s' h).elim
    obtain ⟨x, H2, I2, r2, y2, st2, fr2⟩ := h2
    have I2' := I2.pinned (stat fr2) (T.obj _ _ st2)
    refine seg_bind_wrap ?_
    rw [hA]
    refine wpAny_mono (hg.run _ s2 _ H2 x u _ I2' r2 (step x H2 y2)) (fun _ s3 h3 => ?_) fun e s' h => (noX e s' h).elim
    obtain ⟨σ3, H3, I3, q3⟩ := h3
    have hy : ∀ v, yieldOut X.env v = yieldValue v := fun v => by simp only [yieldOut, hco, Bool.false_eq_true, if_false]
    simp only [hy]
    refine seg_bind_wrap ?_
    refine (wpAny_of_eq (a := true) (by rfl) ?_)
    simp only [if_true]
    rw [Sem.bind_eq_wrap', Sem.bind_eq_wrap', Sem.wrap_wrap, Sem.wrap_wrap]
    refine seg_wrap ?_
    rw [hA]
    refine wpAny_mono (he.run _ s3 σ3 H3 _ I3 q3) (fun y s4 h4 => ?_) fun e s' h => (noX e s' h).elim
    obtain ⟨v, H4, I4, r4, b, rfl, q4⟩ := h4
    obtain rfl : y = Value.bool b := r4
    have I5 := I4.unpinned
    have st4 : tn (i + 1) s4.heap := T.keep _ _ _ st2 fun b hb o e => (I4.pin (b, o) (List.mem_append_right _ (List.mem_append_right _ (mem_pinsAt hb e)))).1
    have fr4 : ∀ b ∈ fp, H4 b = none := fun b hb => by
      obtain ⟨o, e, d⟩ := T.obj _ _ st2 b hb
      exact (I4.pin (b, o) (List.mem_append_right _ (List.mem_append_right _ (mem_pinsAt hb e)))).2.1
    obtain ⟨n', rfl⟩ : ∃ n', n = n' + 1 := ⟨n - 1, by omega⟩
    refine seg_at (seg_yield rfl rfl rfl ⟨b, σ3, H4, rfl, I5, ?_⟩)
    cases b with
    | false => exact q4
    | true =>
      obtain ⟨m', hm', w'⟩ := hN H4 q4
      rw [if_pos rfl]
      intro s' e1 e2 e3
      exact seg_again rfl (ih m' hm' n' (by omega) (i + 1) s' s' σ3 H4 (inv_gens I5 e1 e2 e3) (by rw [e1]; exact st4) fr4 w')
/-- its start -/
theorem seg_start {W : Nat → Nat → Hp → Prop} (hA : B.over (.compLoop (.GeneratorExp elt [⟨tg, iter, [], 0⟩] scope pos) 0 (.ref it) .none X.env) [] = X.A) (hxe : X.xe = fun _ _ => False) (hcalm : X.calm = true) (hco : X.env.scope.isCoroutine = false)
    (T : Turn X.prog X.w X.K tg J fp it tn) (hf : ∀ b ∈ fp, b ≠ X.env.locals ∧ b ∉ X.fs ∧ (b ∈ X.ex ∨ X.s_0.heap.objs.size ≤ b) ∧ (∀ x c, X.env.cells.lookup x = some c → c ≠ b) ∧ ∀ p ∈ X.pn ++ pn0, p.1 ≠ b)
    (hg : PG X tg g) (he : PE X elt te) (turn : GTurn J g te X.N.length Q W) (m : Nat) (s₀ s : Shared) (σ : L2.St) (H : Hp) (I : Inv X pn0 σ H s) (st : tn 0 s.heap) (fr : ∀ b ∈ fp, H b = none) (w0 : W 0 m H) :
      Seg (model X.prog X.w) B (fun n s₀ r s₁ => r = .ok .next ∧ GRz X pn0 Q n s₀ s₁) (GYz X pn0 Q) (m + 1) s₀ (.compStart (.GeneratorExp elt [⟨tg, iter, [], 0⟩] scope pos) 0 (.ref it) .none X.env)
        ((model X.prog X.w).den (.compStart (.GeneratorExp elt [⟨tg, iter, [], 0⟩] scope pos) 0 (.ref it) .none X.env)) [] s := by
  have loop := seg_all (iter := iter) (scope := scope) (pos := pos) hA hxe hcalm hco T hf hg he turn m (m + 1) (Nat.lt_succ_self _) 0 s₀ s σ H I st fr w0
  show Seg _ B _ _ _ s₀ _ ((compStart (.GeneratorExp elt [⟨tg, iter, [], 0⟩] scope pos) 0 (.ref it) .none X.env).onRaise (leaving X.env)) [] s
  unfold compStart
  rw [Sem.onRaise_eq_wrap]
  show Seg _ B _ _ _ s₀ _ ((ask >>= _).wrap _ _ _ _) [] s
  refine seg_bind_wrap (wpAny_askSetting ?_)
  split
  · exact seg_again rfl loop
  · first
      | exact seg_bind_wrap (wpAny_rule (seg_bind_wrap (wpAny_standAt (seg_bind_wrap (T.self _ 0 s _ _ st (seg_again rfl loop))))))
      | (refine seg_bind_wrap (wpAny_rule ?_); show Seg _ B _ _ _ s₀ _ ((standAt iter.pos >>= _).wrap _ _ _ _) [] s; exact seg_bind_wrap (wpAny_standAt (seg_bind_wrap (T.self _ 0 s _ _ st (seg_again rfl loop)))))
end
/-! ### all(..) -/
section
variable {X : Cx} {A : Around} {a : Addr} {g : Nat} {go : Obj} {pn0 : List (Addr × Obj)} {Q : VK} {R : Result → Shared → Prop}
theorem gens_set {s : Shared} {n : Nat} {x : GenState} (h : n < s.gens.size) : (s.setGen n x).gens[n]? = some x := by
  simp [Shared.setGen, h]
theorem bare_set {s : Shared} {n : Nat} {x : GenState} (h : AllBare s.gens) (hx : x.bare = true) : AllBare (s.setGen n x).gens := by
  intro y hy
  rcases Array.mem_or_eq_of_mem_setIfInBounds (show y ∈ s.gens.setIfInBounds n x from hy) with z | z
  · exact h y z
  · rw [z]
    exact hx
theorem all_loop (hh : A.handled = none) (hroom : A.depth < recursionLimit) (hgo : go.cls = .type "generator" ∧ (∃ nm qn, go.data = .fields #[.int g 0, nm, qn]) ∧ go.slots = #[]) (hpn : (a, go) ∈ pn0)
    (hR : ∀ b s σ H, Inv X pn0 σ H s → Q (.bl b) H → R (.ok (.ret (.bool b))) s) :
    ∀ (n : Nat) (s : Shared) (gs : GenState) (σ : L2.St) (H : Hp), Inv X pn0 σ H s → s.gens[g]? = some gs →
      gs.Goes (model X.prog X.w) A.in1.in1 (fun n s₀ r s₁ => r = .ok .next ∧ GRz X pn0 Q n s₀ s₁) (GYz X pn0 Q) n (.send .none) (s.setGen g .running) →
      codeAny (model X.prog X.w) A (.builtin "all.loop" ⟨[.ref a], []⟩) R s := by
  have step : ∀ n : Nat, (∀ m, n = m + 1 → ∀ (s : Shared) (gs : GenState) (σ : L2.St) (H : Hp), Inv X pn0 σ H s → s.gens[g]? = some gs →
      gs.Goes (model X.prog X.w) A.in1.in1 (fun n s₀ r s₁ => r = .ok .next ∧ GRz X pn0 Q n s₀ s₁) (GYz X pn0 Q) m (.send .none) (s.setGen g .running) →
      codeAny (model X.prog X.w) A (.builtin "all.loop" ⟨[.ref a], []⟩) R s) → ∀ (s : Shared) (gs : GenState) (σ : L2.St) (H : Hp), Inv X pn0 σ H s → s.gens[g]? = some gs →
      gs.Goes (model X.prog X.w) A.in1.in1 (fun n s₀ r s₁ => r = .ok .next ∧ GRz X pn0 Q n s₀ s₁) (GYz X pn0 Q) n (.send .none) (s.setGen g .running) →
      codeAny (model X.prog X.w) A (.builtin "all.loop" ⟨[.ref a], []⟩) R s := by
    intro n ih s gs σ H I hgs hgoes
    refine codeAny_builtin F.entry_all_loop ?_
    rw [Around.under_plainId F.plain_all_loop _]
    show wpAny _ A.in1 (pyNext (.ref a) >>= _) _ _ s
    have hlt : g < s.gens.size := by
      rcases Nat.lt_or_ge g s.gens.size with h | h
      · exact h
      · rw [Array.getElem?_eq_none h] at hgs
        cases hgs
    have hgen : s.heap.IsGen a g := by
      obtain ⟨h1, ⟨nm, qn, h2⟩, h3⟩ := hgo
      exact ⟨go, nm, qn, (I.pin (a, go) (List.mem_append_right _ hpn)).1, h1, h2, h3⟩
    refine wpAny_bind (GenW.wpAny_gsz (n := g + 1) hlt ?_)
    refine wpAny_pyNext_genexpQ (A := A.in1) (P := GRz X pn0 Q) hh I.nolimit hroom hgen hgs hgoes (fun v s₁ gs' hb hv hsz => ?_) (fun s₁ hp h' hk hsz => ?_)
    · obtain ⟨b, σ1, H1, rfl, I1, q1⟩ := hv
      have hsz1 : g < s₁.gens.size := by
        have : g + 1 ≤ (s₁.setGen g gs').gens.size := hsz
        rw [GenW.setGen_size] at this
        exact this
      have J1 : Inv X pn0 σ1 H1 (s₁.setGen g gs') := inv_gens I1 rfl rfl (bare_set I1.bare hb)
      refine wpAny_bind (wpAny_holding (wpAny_truthy_bool ?_))
      refine wpAny_bind (wpAny_letGo ?_)
      cases b with
      | true =>
        rw [if_pos rfl] at q1
        simp only [if_true]
        have q2 := q1 ((s₁.setGen g gs').setGen g .running) rfl rfl (bare_set J1.bare rfl)
        cases n with
        | zero => exact q2.elim
        | succ m => exact wpAny_pure ⟨plainId_quiet F.plain_all_loop _, ih m rfl _ gs' σ1 H1 J1 (gens_set hsz1) q2⟩
      | false =>
        simp only [Bool.false_eq_true, if_false]
        exact wpAny_bind (wpAny_rule (wpAny_pure (hR false _ σ1 H1 J1 q1)))
    · obtain ⟨σ1, H1, I1, q1⟩ := hp
      have J1 : Inv X pn0 σ1 H1 (s₁.setGen g .finished) := inv_gens I1 rfl rfl (bare_set I1.bare rfl)
      exact wpAny_bind (wpAny_rule (wpAny_pure (hR true _ σ1 H1 (J1.kept (t' := s₁.toks) hk) q1)))
  intro n
  induction n with
  | zero => exact step 0 fun m e => by cases e
  | succ n ih =>
    refine step (n + 1) fun m e => ?_
    cases e
    exact ih
end

/-! ### the rule -/
/-- all(elt for tg in iter), nothing captured; k: how many names the generator's frame has (those of the target) -/
def tAllG (P : Addr) (wi : TI) (g : TG) (te : TE) (k : Nat) : TE := fun σ H Q => wi σ H fun J H1 => TabG H1 P ∧ ∀ H2, Tabbed P H1 H2 → ∃ W : Nat → Nat → Hp → Prop, (∃ m, W 0 m H2) ∧ GTurn J g te k Q W
section
variable {X : Cx} {c P : Addr} {tg elt iter : Expr} {p pos gpos : Pos} {scope : Scope} {wi : TI} {g : TG} {te : TE} {N : List Str} {k : Nat}
theorem pe_allG (hr : Room (k + 1) X.A) (hgl : Gl X "all") (hm : X.mg "all" = none) (TB : TabB X.base X.mg c P) (hcode : X.env.code = .ref c) (S : GenN scope) (hi : PI X tg iter wi)
    (hg : ∀ A' s4 H4 cenv fp, cenv.scope = scope → PG (genCx X N A' s4 H4 cenv fp) tg g) (he : ∀ A' s4 H4 cenv fp, cenv.scope = scope → Room k A' → PE (genCx X N A' s4 H4 cenv fp) elt te)
    (hs : ∀ v, genFold iter X.env v = pure v)
    (hst : starEach [.GeneratorExp elt [⟨tg, iter, [], 0⟩] scope gpos] X.env = (false, eval (.GeneratorExp elt [⟨tg, iter, [], 0⟩] scope gpos) X.env) :: starEach [] X.env := by rfl) (hb : bootBuiltins "all" = some (.builtin "all") := by decide +kernel) :
    PE X (.Call (.Name "all" p) [.GeneratorExp elt [⟨tg, iter, [], 0⟩] scope gpos] [] pos) (tAllG P wi g te N.length) := by
  refine ⟨fun pins s σ H Q I h => ?_⟩
  refine wpAny_Call_Name_kw (ld_blt I hgl hm hb ?_)
  refine PyProof.Rows.callWith_builtin1 ?_ hst (by rfl)
  rw [hst]
  show wpAny _ _ (spliced ((false, eval (.GeneratorExp elt [⟨tg, iter, [], 0⟩] scope gpos) X.env) :: backTo pos (starEach [] X.env))) _ _ s
  refine Calls.spliced_cons ?_
  have hclos : closureFor scope X.env = pure [] := by
    rw [closure_ok (fun y hy e => absurd e (S.free y hy)), clo_nil _ _ _ S.free]
  refine wpAny_GeneratorExp_make S.co hclos S.cell S.dot S.kind (by have := hr.dp; omega) ?_ hs
  refine thn (hi.run pins s σ H _ I h) fun xv s1 h1 => thn h1 fun itv s2 h2 => ?_
  obtain ⟨it, fp, tn, J, H1, rfl, I1, T, st1, f1, ⟨ps, hP, ht⟩, hW⟩ := h2
  refine ⟨I1.nolimit, ?_⟩
  have hPs : s2.heap.get? P = some { cls := .none, data := .fields ps } := I1.hok P _ hP
  have cd : PySem.W.CodeHd s2.heap c P := TB.code.keeps fun b u e => I1.bk b u e
  have hlt1 : ∀ b ∈ fp, b < s2.heap.objs.size := fun b hb => by
    obtain ⟨o, e, _⟩ := T.obj _ _ st1 b hb
    exact Heap.lt_size e
  have cont : ∀ (code : Value) (h3 : Heap) (tk : Nat) (more : Array Value), Heap.ExtBut P s2.heap h3 → s2.heap.objs.size ≤ h3.objs.size → h3.get? P = some { cls := .none, data := .fields (ps ++ more) } → TriplesOk (ps ++ more).toList →
      wpAny (model X.prog X.w) X.A (builtinsFor X.env.globals X.env.builtins) (fun bi s₄ =>
        ∀ h', h'.Ns s₄.heap.objs.size (fun y => if y = ".0" then some (.ref it) else none) → Heap.SameBut s₄.heap.objs.size (s₄.heap.push { cls := .type "frame", data := .dict #[] }) h' →
          wpAny (model X.prog X.w) X.A (spliced (backTo pos (starEach [] X.env))) (fun vs s' => wpAny (model X.prog X.w) X.A (call (.builtin "all") (.ref h'.objs.size :: vs)) (EP X pins σ Q) X.xe s') X.xe { s₄ with
            gens := s₄.gens.push (.fresh (.compStart (.GeneratorExp elt [⟨tg, iter, [], 0⟩] scope gpos) 0 (.ref it) .none (genEnv scope [] s₄.heap.objs.size code bi X.env))),
            toks := s₄.toks + 1 + 1 + 1,
            heap := h'.push { cls := .type "generator", data := .fields #[.int s₄.gens.size 0, .str "<genexpr>" (s₄.toks + 1), .str (X.env.qual ++ "<genexpr>") (s₄.toks + 1 + 1)] } }) X.xe { s2 with heap := h3, toks := tk } := by
    intro code h3 tk more hx hsz hP3 ht3
    obtain ⟨bm, ob, e1, e2, e3, e4, e5, e6, e7, e8⟩ := TB.bm
    have keep3 : ∀ b u, b ≠ P → s2.heap.get? b = some u → h3.get? b = some u := fun b u hb e => hx b u hb e
    refine wpAny_builtinsFor (m := X.mg) (by rw [I1.ok.glob]; exact (I1.mod.glob.keeps I1.bk).extBut hx TB.gP) e1 e2 (keep3 _ _ e4 (I1.bk _ _ e5)) e6 e7 e8 ?_
    intro h' hn' hs'
    have I3 : Inv X pins σ (upd H1 P (.tbl (ps ++ more))) { s2 with heap := h3, toks := tk } := inv_tab (more := more) (h' := h3) (g' := s2.gens) (d' := s2.drawn) (t' := tk) I1 hP keep3 hP3 I1.bare
    obtain ⟨W, ⟨m0, w0⟩, turn⟩ := hW _ ⟨⟨ps ++ more, upd_same, ht3⟩, fun b hb => upd_ne hb⟩
    have nP : ∀ b ∈ fp, b ≠ P := fun b hb z => by
      have := (f1 b hb).1
      rw [z, hP] at this
      cases this
    have fr3 : ∀ b ∈ fp, upd H1 P (.tbl (ps ++ more)) b = none := fun b hb => by
      rw [upd_ne (nP b hb)]
      exact (f1 b hb).1
    have f3 : ∀ b ∈ fp, FpOk X pins (upd H1 P (.tbl (ps ++ more))) b := fun b hb => ⟨fr3 b hb, (f1 b hb).2⟩
    have st3 : tn 0 h3 := T.keep _ _ _ st1 fun b hb o e => keep3 b o (nP b hb) e
    have hlt3 : ∀ b ∈ fp, b < h3.objs.size := fun b hb => Nat.lt_of_lt_of_le (hlt1 b hb) hsz
    obtain ⟨cenv, hcenv⟩ : ∃ cenv, genEnv scope [] h3.objs.size code builtinsNs X.env = cenv := ⟨_, rfl⟩
    have sz' : h'.objs.size = h3.objs.size + 1 := by rw [hs'.1, Heap.size_push]
    have keep' : ∀ b o, h3.get? b = some o → h'.get? b = some o := fun b o e => hs'.extBut b o (Nat.ne_of_lt (Heap.lt_size e)) (Heap.get?_push_of_some _ e)
    have Ok' : (genCx X N ((X.A.in1.in1).over (.compLoop (.GeneratorExp elt [⟨tg, iter, [], 0⟩] scope gpos) 0 (.ref it) .none cenv) []) { s2 with heap := h3, toks := tk } (upd H1 P (.tbl (ps ++ more))) cenv fp).Ok := by
      rw [← hcenv]
      refine genCx_ok I3 S ?_ hr.hd f3 hlt3
      show pushEnvs [_] (pushEnvs [] X.A.frames) = _
      rw [I1.ok.frames]
      rfl
    have hRoom : Room k ((X.A.in1.in1).over (.compLoop (.GeneratorExp elt [⟨tg, iter, [], 0⟩] scope gpos) 0 (.ref it) .none cenv) []) := by
      refine ⟨hr.hd, ?_, ?_⟩
      · have := hr.dp
        show X.A.depth + 0 + 1 + 3 * k + 5 < _
        omega
      · have := hr.un
        show X.A.units + 1 + 1 + 0 + 3 + 16 * k + 200 < _
        omega
    have hsc : cenv.scope = scope := by
      rw [← hcenv]
      rfl
    have hloc : cenv.locals = h3.objs.size := by
      rw [← hcenv]
      rfl
    have hcel : cenv.cells = [] := by
      rw [← hcenv]
      rfl
    obtain ⟨go, hgo⟩ : ∃ go : Obj, { cls := .type "generator", data := .fields #[.int s2.gens.size 0, .str "<genexpr>" (tk + 1), .str (X.env.qual ++ "<genexpr>") (tk + 1 + 1)] } = go := ⟨_, rfl⟩
    have keep5 : ∀ b o, h3.get? b = some o → (h'.push go).get? b = some o := fun b o e => Heap.get?_push_of_some _ (keep' b o e)
    have bare5 : AllBare (s2.gens.push (.fresh (.compStart (.GeneratorExp elt [⟨tg, iter, [], 0⟩] scope gpos) 0 (.ref it) .none cenv))) := I1.bare.push rfl
    have I5 : Inv (genCx X N ((X.A.in1.in1).over (.compLoop (.GeneratorExp elt [⟨tg, iter, [], 0⟩] scope gpos) 0 (.ref it) .none cenv) []) { s2 with heap := h3, toks := tk } (upd H1 P (.tbl (ps ++ more))) cenv fp) [(h'.objs.size, go)] (List.replicate N.length none)
        (upd H1 P (.tbl (ps ++ more))) { s2 with gens := s2.gens.push (.fresh (.compStart (.GeneratorExp elt [⟨tg, iter, [], 0⟩] scope gpos) 0 (.ref it) .none cenv)), toks := tk + 1 + 1 + 1, heap := h'.push go } := by
      subst hcenv
      refine genCx_inv (m := fun y => if y = ".0" then some (.ref it) else none) I3 Ok' keep5 (hn'.push _) (Heap.get?_push_size _ (by rw [← hgo]; rfl)) (by show h3.objs.size < h'.objs.size; omega) (fun v z => ?_) bare5
      rw [← hgo] at z
      cases z
    have hf5 : ∀ b ∈ fp, b ≠ cenv.locals ∧ b ∉ frs X.stack ∧ (b ∈ fp ∨ h3.objs.size ≤ b) ∧ (∀ x c, cenv.cells.lookup x = some c → c ≠ b) ∧ ∀ p ∈ [] ++ [(h'.objs.size, go)], p.1 ≠ b := fun b hb => by
      refine ⟨?_, fun z => ?_, .inl hb, fun x c e => ?_, fun p hp => ?_⟩
      · rw [hloc]
        exact Nat.ne_of_lt (hlt3 b hb)
      · rcases List.mem_cons.mp (I1.stkSub b z) with q | q
        · exact (f1 b hb).2.1 q
        · exact (f1 b hb).2.2.1 q
      · rw [hcel] at e
        cases e
      · have e : p = (h'.objs.size, go) := List.mem_singleton.mp hp
        subst e
        exact Nat.ne_of_gt (Nat.lt_trans (hlt3 b hb) (by rw [sz']; exact Nat.lt_succ_self _))
    have loop := seg_start (X := genCx X N ((X.A.in1.in1).over (.compLoop (.GeneratorExp elt [⟨tg, iter, [], 0⟩] scope gpos) 0 (.ref it) .none cenv) []) { s2 with heap := h3, toks := tk } (upd H1 P (.tbl (ps ++ more))) cenv fp)
      (B := X.A.in1.in1) (iter := iter) (scope := scope) (pos := gpos) (tn := tn) (pn0 := [(h'.objs.size, go)]) (W := W) rfl rfl rfl (by show cenv.scope.isCoroutine = false; rw [hsc]; exact S.co) T hf5 (hg _ _ _ _ _ hsc) (he _ _ _ _ _ hsc hRoom) turn m0
    refine Calls.spliced_nil ?_
    refine call_function_tree F.kind_all F.plain_all F.entry_all (F.args_all1 _) ?_
    unfold Builtin.«all»
    refine wpAny_bind (m := oneArg "all" _) (wpAny_pure ?_)
    have hgen : (h'.push go).IsGen h'.objs.size s2.gens.size := ⟨go, _, _, Heap.get?_push_size _ (by rw [← hgo]; rfl), by rw [← hgo], by rw [← hgo], by rw [← hgo]⟩
    subst hcenv
    subst hgo
    refine wpAny_bind (wpAny_pyIter_gen hgen ?_)
    refine wpAny_pure ⟨plainId_quiet F.plain_all_loop _, ?_⟩
    refine all_loop (X := (genCx X N ((X.A.in1.in1).over (.compLoop (.GeneratorExp elt [⟨tg, iter, [], 0⟩] scope gpos) 0 (.ref it) .none (genEnv scope [] h3.objs.size code builtinsNs X.env)) []) { s2 with heap := h3, toks := tk } (upd H1 P (.tbl (ps ++ more))) (genEnv scope [] h3.objs.size code builtinsNs X.env) fp)) (Q := Q) (A := X.A)
      (go := { cls := .type "generator", data := .fields #[.int s2.gens.size 0, .str "<genexpr>" (tk + 1), .str (X.env.qual ++ "<genexpr>") (tk + 1 + 1)] }) (pn0 := [(h'.objs.size, _)]) hr.hd (by have := hr.dp; omega) ⟨rfl, ⟨_, _, rfl⟩, rfl⟩ (List.mem_singleton.mpr rfl)
      (fun b s' σ' H' J q => ?_) (m0 + 1) _ _ _ _ I5 (Array.getElem?_push_size ..) ⟨rfl, ?_⟩
    · obtain ⟨hh, gg, dd, tt, oo⟩ := s'
      obtain rfl : oo = s2.os := J.os
      have I7 := I3.call (h' := hh) (g' := gg) (d' := dd) (t' := tt) (ch := fp) J.base J.hok J.bare fun b hb => ⟨(f1 b hb).2.2.2.1, (f1 b hb).2.1, (f1 b hb).2.2.2.2.1, (f1 b hb).2.2.2.2.2⟩
      exact ⟨.bl b, H', I7, rfl, q⟩
    · have I6 := inv_gens (s' := ({ s2 with gens := s2.gens.push (.fresh (.compStart (.GeneratorExp elt [⟨tg, iter, [], 0⟩] scope gpos) 0 (.ref it) .none (genEnv scope [] h3.objs.size code builtinsNs X.env))), toks := tk + 1 + 1 + 1, heap := h'.push { cls := .type "generator", data := .fields #[.int s2.gens.size 0, .str "<genexpr>" (tk + 1), .str (X.env.qual ++ "<genexpr>") (tk + 1 + 1)] } } : Shared).setGen s2.gens.size .running) I5 rfl rfl (bare_set I5.bare rfl)
      exact loop _ _ _ _ I6 (T.keep _ _ _ st3 fun b _ o e => keep5 b o e) fr3 w0
  cases hf : codeAmong gpos ps.toList with
  | none =>
    refine wpAny_genexprCodeX hcode (cd.code hPs ht) (cd.tab hPs) hf fun c' h' tk hx hge hlt hco' _ htab' _ => ?_
    obtain ⟨o1, vs, f1, tf, fl, tg, inF, tx, tt, op, _, _, _, _, _, _, _, _, _, htr, _⟩ := hco'
    exact cont _ h' tk _ hx (Nat.le_trans hge (Nat.le_of_lt hlt)) htab'.2 htr
  | some cv =>
    refine wpAny_genexprCode_hit hcode (cd.code hPs ht) hf ?_
    exact cont cv s2.heap s2.toks #[] (Heap.ExtBut.refl _ _) (Nat.le_refl _) (by simpa using hPs) (by simpa using ht)
end
/-! ### the turns, over a walk -/
theorem all_it {J : It} {n : Nat} {G : Hp → Prop} {Y : Nat → Hp → V → Hp → Prop} (wk : Walk J n G Y) {g : TG} {te : TE} {k : Nat} {Q : VK} {H2 : Hp} (Pv : Nat → Hp → Prop) (h0 : Pv 0 H2) (hG : ∀ i H, i ≤ n → Pv i H → G H)
    (hs : ∀ i x H H', i < n → Pv i H → Y i H x H' → g x (List.replicate k none) H' fun σ2 H2 => te σ2 H2 fun v H3 => ∃ b, v = .bl b ∧ if b = true then Pv (i + 1) H3 else Q (.bl false) H3) (hd : ∀ H, Pv n H → Q (.bl true) H) :
    ∃ W : Nat → Nat → Hp → Prop, (∃ m, W 0 m H2) ∧ GTurn J g te k Q W := by
  refine ⟨fun i m H => m = n - i ∧ i ≤ n ∧ Pv i H, ⟨n, by simp, Nat.zero_le _, h0⟩, fun i m H hw => ?_⟩
  obtain ⟨rfl, hi, p⟩ := hw
  by_cases hlt : i < n
  · exact .inr ⟨wk.goes i H hlt (hG i H hi p), Pv (i + 1), fun H' p' => ⟨n - (i + 1), by omega, rfl, hlt, p'⟩, fun x H' y => hs i x H H' hlt p (wk.yields i H x H' hlt (hG i H hi p) y)⟩
  · obtain rfl : i = n := by omega
    exact .inl ⟨wk.stops H (hG i H hi p), hd H p⟩
end GxA
set_option maxHeartbeats 4000000
namespace HM
open PySem PySem.Spec PyProof.Rows L2

/-! ### a promise of a def that is called where no repr is under way -/
structure FnG (P : Program) (w : World) (K : PySem.W.Frag) (mg : Str → Option Value) (base : Heap) (CX : CXT) (k : Nat) (f : Addr) (fd : FuncData) (ps : List Str) (sp : Sp) : Prop where
  len : ∀ vs H Q E, sp vs H Q E → vs.length = ps.length
  run : ∀ (A : Around) (outer : List Env) (s : Shared) (H : Hp) (args : Args) (us : List Value) (vs : List V) (Q : VK) (E : XK), Room k A → A.guards = some [] → Env0 P w K mg base A outer s H → BindsTo s fd args (ps.zip us) → Vals vs us →
    sp vs H Q E → codeAny (model P w) A (.call (.ref f) args) (CR CX outer P w H s Q E) s
section
variable {P : Program} {w : World} {K : PySem.W.Frag} {mg : Str → Option Value} {base : Heap} {CX : CXT} {k : Nat} {f : Addr} {fd : FuncData} {ps : List Str} {sp : Sp}
theorem FnG.of (F : FnOk P w K mg base CX k f fd ps sp) : FnG P w K mg base CX k f fd ps sp := ⟨F.len, fun A o s H a us vs Q E hr _ => F.run A o s H a us vs Q E hr⟩
theorem FnG.mono {j : Nat} (F : FnG P w K mg base CX k f fd ps sp) (h : k ≤ j) : FnG P w K mg base CX j f fd ps sp := ⟨F.len, fun A o s H a us vs Q E hr => F.run A o s H a us vs Q E (hr.mono h)⟩
variable {x qual : Str} {params : Arguments} {body : List Stmt} {scope : Scope} {dvs : List V} {kws : List (Str × V)} {N : List Str}
/-- the def's code object, by its place -/
def CodeAt (K : PySem.W.Frag) (f : Addr) (cdv : Value) : Prop := ∀ p, f = He.fAd K p → cdv = .ref (He.codeOf K p)
theorem codeAt_of {oc : Value} {od : Option Addr} {osl : Array (Option Value)} (lk : K.lookup f = some ⟨oc, od, .func fd, osl⟩) (hc : PySem.W.codeIn K fd.code qual = true) : CodeAt K f fd.code := fun p e => by
  obtain ⟨c, hc⟩ := He.codeIn_ref hc
  rw [e] at lk
  rw [He.codeOf_eq lk hc]
  exact hc
/-- a def by its body, the code object told -/
theorem ok_code (F : FunD K x qual params body scope dvs kws f fd) (S : FnScope N ps scope) (len : ∀ vs H Q E, sp vs H Q E → vs.length = ps.length)
    (hbody : ∀ (cdv : Value) (A : Around) (outer : List Env) (s : Shared) (H : Hp) (vs : List V) (Q : VK) (E : XK), CodeAt K f cdv → Room k (A.deeper (envOfC qual scope s.heap.objs.size f cdv)) → sp vs H Q E →
      ∃ t, PSs (cxOf CX0 P w K mg base N qual scope f cdv A outer s H E).nox body t ∧ t { nx := fun _ H' => Q .non H', rt := Q } (start N vs) H) : FnOk P w K mg base CX0 (k + 1) f fd ps sp := by
  obtain ⟨oc, od, dV, kV, doc, pm, an, cdv, ct, osl, rfl, lk, hcd, _, _⟩ := F.ex
  refine fn_of lk hcd S len fun A outer s H vs Q E hr hsp => ?_
  obtain ⟨t, h, q⟩ := hbody cdv A outer s H vs Q E (codeAt_of lk hcd) hr hsp
  exact ⟨t, h.nox, q⟩
theorem okG (F : FunD K x qual params body scope dvs kws f fd) (S : FnScope N ps scope) (len : ∀ vs H Q E, sp vs H Q E → vs.length = ps.length)
    (hbody : ∀ (cdv : Value) (A : Around) (outer : List Env) (s : Shared) (H : Hp) (vs : List V) (Q : VK) (E : XK), CodeAt K f cdv → Room k (A.deeper (envOfC qual scope s.heap.objs.size f cdv)) → (A.deeper (envOfC qual scope s.heap.objs.size f cdv)).guards = some [] → sp vs H Q E →
      ∃ t, PSs (cxOf CX P w K mg base N qual scope f cdv A outer s H E) body t ∧ t { nx := fun _ H' => Q .non H', rt := Q } (start N vs) H) : FnG P w K mg base CX (k + 1) f fd ps sp := by
  obtain ⟨oc, od, dV, kV, doc, pm, an, cdv, ct, osl, rfl, lk, hcd, _, _⟩ := F.ex
  refine ⟨len, fun A outer s H args us vs Q E hr hgd e0 hb r hsp => ?_⟩
  have hK : K.In s.heap := e0.mod.kin.keeps fun b o e => (e0.bs b o e).1
  have hL : s.heap.NoLimit := e0.mod.nolimit.keeps fun b o e => (e0.bs b o e).1
  refine codeAny_call_function hr.depth (hK _ _ lk) rfl S.co S.gen rfl (PySem.W.codeRec_of hK hcd) (hb _ _ _ _ ?_)
  refine wpAny_newFunctionEnv_cells S.kind (fun ⟨n, v⟩ hy => (S.par n (List.of_mem_zip hy).1).elim .inl fun q => .inr ⟨q, PySem.W.cellsFrom_some _ _ _ (.inl q)⟩) fun env he s1 hx => ?_
  subst he
  refine ⟨hL.keeps hx.toInCall.keep, codeAny_func ?_⟩
  obtain ⟨t, ht, hq⟩ := hbody cdv A outer s H vs Q E (codeAt_of lk hcd) (hr.deeper _) (by first | exact hgd | (rw [← hgd]; rfl)) hsp
  refine wpAny_mono (ht.run [] s1 (start N vs) H _ (inv_start S hr.hd e0 (len _ _ _ _ hsp) r hx) hq) (fun fl s' hs => ?_) fun e s' hs => hs
  have fin : ∀ {σ' : L2.St} {H' : Hp} {v : V} {u : Value}, Inv (cxOf CX P w K mg base N qual scope f cdv A outer s H E) [] σ' H' s' → RelV v u → Q v H' → CE outer P w H s Q u s' := fun {_ H' v _} J rv q => ⟨v, H', J.os, J.bare, J.base, J.hok, rv, q⟩
  match fl, hs with
  | .ret u, ⟨v, σ', H', J, rv, q⟩ => exact fin J rv q
  | .next, ⟨σ', H', J, q⟩ => exact fin (v := V.non) (u := Value.none) J rfl q
  | .brk, ⟨_, _, _, q⟩ => exact q.elim
  | .cont, ⟨_, _, _, q⟩ => exact q.elim
end
section
variable {X : Cx} {CX : CXT} {k : Nat} {f : Addr} {fd : FuncData} {ps : List Str} {sp : Sp} {dvs : List V} {ds : List Value} {E : XK} {x : Str} {p pos : Pos} {e : Expr} {es : List Expr} {t : TA}
theorem run_G {pins : List (Addr × Obj)} {σ : L2.St} {H : Hp} {s : Shared} {Q : VK} {us : List Value} {vs : List V} (F : FnG X.prog X.w X.K X.mg X.base CX k f fd ps sp) (hr : Room k X.A) (hg : X.A.guards = some []) (hb : Binds X.K fd ps ds) (hd : Vals dvs ds) (hx : Passes CX X E)
    (I : Inv X pins σ H s) (r : Vals vs us) (h : sp (vs ++ dvs) H Q E) : wpAny (model X.prog X.w) X.A (call (.ref f) us) (EP X pins σ Q) X.xe s := by
  have r2 : Vals (vs ++ dvs) (us ++ ds) := r.append hd
  refine wpAny_call (codeAny_mono (F.run X.A X.stack s H ⟨us, []⟩ (us ++ ds) (vs ++ dvs) Q E hr hg I.env0 (hb s us I.kIn (by rw [← r2.length]; exact F.len _ _ _ _ h)) r2 h) fun r s' hq => ?_)
  match r, hq with
  | .error e, hq => exact hx pins σ H s e s' I hq
  | .ok (.ret u), hq => exact I.after hq
theorem pe_callG (F : FnG X.prog X.w X.K X.mg X.base CX k f fd ps sp) (hr : Room k X.A) (hgd : X.A.guards = some []) (hg : Gl X x) (hm : X.mg x = some (.ref f)) (hk : PySem.W.keepIn X.K (.ref f) = true) (hb : Binds X.K fd ps ds) (hd : Vals dvs ds) (hx : Passes CX X E)
    (ha : PA X (e :: es) t) (hdb : (x == ("__debug__" : Str)) = false := by decide) (he : starEach (e :: es) X.env = (false, eval e X.env) :: starEach es X.env := by rfl) (hpl : (backTo pos (starEach es X.env)).any (·.1) = false := by rfl) :
    PE X (.Call (.Name x p) (e :: es) [] pos) (tCall sp dvs E t) :=
  ⟨fun pins s σ H Q I h => wpAny_Call_Name_kw (ld_glob I hg hm (PySem.W.callWith_K (h₀ := X.base) I.ok.mod.kin hk (thn (ha.run pos pins s σ H _ I h) fun us s1 ⟨vs, H1, I1, r, q⟩ => ⟨I1.kIn, run_G F hr hgd hb hd hx I1 r q⟩) he hpl) hdb)⟩
theorem pe_callG0 (F : FnG X.prog X.w X.K X.mg X.base CX k f fd ps sp) (hr : Room k X.A) (hgd : X.A.guards = some []) (hg : Gl X x) (hm : X.mg x = some (.ref f)) (hk : PySem.W.keepIn X.K (.ref f) = true) (hb : Binds X.K fd ps ds) (hd : Vals dvs ds) (hx : Passes CX X E)
    (hdb : (x == ("__debug__" : Str)) = false := by decide) : PE X (.Call (.Name x p) [] [] pos) (tCall sp dvs E tNil) :=
  ⟨fun pins s σ H Q I h => wpAny_Call_Name_kw (ld_glob I hg hm (PySem.W.callWith_K0 I.kIn hk (run_G (us := []) F hr hgd hb hd hx I .nil h)) hdb)⟩
end

/-! ### the law's own call, by a promise that asks that no repr is under way -/
section
variable {P : Program} {w : World} {K : PySem.W.Frag} {mg mb : Str → Option Value} {CX : CXT} {k : Nat} {fa a : Addr} {cs : List (Addr × Addr)} {fd : FuncData} {x : Str} {sp : Sp} {s₁ : Shared} {vs : List Value} {ns : List Int}
abbrev emptyT : Obj := { cls := .none, data := .fields #[] }
abbrev scriptO (vs : List Value) : Obj := { cls := .type "list", data := .seq vs.toArray }
open Classical in
/-- what is tracked when the law is called: the tables and the script -/
noncomputable def H0 (K : PySem.W.Frag) (cs : List (Addr × Addr)) (a : Addr) (vs : List Value) (ns : List Int) : Hp := fun b =>
  if b ∈ cs.map (·.2) then some (.tbl #[]) else if b = a ∧ K.lookup a = none then some (.frz (scriptO vs) (.lst (ns.map V.int))) else none
theorem H0_tab {b : Addr} (h : b ∈ cs.map (·.2)) : H0 K cs a vs ns b = some (.tbl #[]) := if_pos h
theorem H0_script (h : a ∉ cs.map (·.2)) (hk : K.lookup a = none) : H0 K cs a vs ns a = some (.frz (scriptO vs) (.lst (ns.map V.int))) := (if_neg h).trans (if_pos ⟨rfl, hk⟩)
theorem H0_some {b : Addr} {u : HO} (h : H0 K cs a vs ns b = some u) : (b ∈ cs.map (·.2) ∧ u = .tbl #[]) ∨ (b = a ∧ K.lookup a = none ∧ u = .frz (scriptO vs) (.lst (ns.map V.int))) := by
  by_cases h1 : b ∈ cs.map (·.2)
  · rw [H0_tab h1] at h
    exact .inl ⟨h1, (Option.some.inj h).symm⟩
  · by_cases h2 : b = a ∧ K.lookup a = none
    · have e : H0 K cs a vs ns b = some (.frz (scriptO vs) (.lst (ns.map V.int))) := (if_neg h1).trans (if_pos h2)
      rw [e] at h
      exact .inr ⟨h2.1, h2.2, (Option.some.inj h).symm⟩
    · have e : H0 K cs a vs ns b = none := (if_neg h1).trans (if_neg h2)
      rw [e] at h
      cases h
theorem law_callG (KX : K.In s₁.heap) (hns : s₁.heap.Ns mainGlobals mg) (hb : s₁.heap.Ns builtinsNs mb) (hbb : ∀ x : Str, x ≠ "__name__" → mb x = bootBuiltins x) (hlim : s₁.heap.NoLimit) (hg : s₁.gens = #[])
    (hT : ∀ p ∈ cs, s₁.heap.get? p.2 = some emptyT) (nT : ∀ p ∈ cs, K.lookup p.2 = none) (C : ∀ p ∈ cs, PySem.W.CodeHd s₁.heap p.1 p.2)
    (hbm : ∃ (bm : Addr) (ob : Obj), mg "__builtins__" = some (.ref bm) ∧ bm ≠ builtinsNs ∧ s₁.heap.get? bm = some ob ∧ ob.cls = .type "module" ∧ ob.dict = some builtinsNs ∧ ob.data = .plain)
    (ha : s₁.heap.get? a = some (scriptO vs)) (hi : IntsAre vs ns) (hl : ns.length ≤ sizeLine) (hr : Room k callerA)
    (F : ∀ base : Heap, K.In base → base.Ns mainGlobals mg → (∀ p ∈ cs, GxR.TabB base mg p.1 p.2) → FnG P w K mg base CX k fa fd [x] sp) (hbind : ∀ (s : Shared) (u : Value), BindsTo s fd ⟨[u], []⟩ [(x, u)])
    (hsp : ∀ H : Hp, (∀ p ∈ cs, H p.2 = some (.tbl #[])) → SqL K H a (ns.map V.int) → sp [.ref a] H (fun v _ => v = .bl true) fun _ _ _ => False)
    (hCX : ∀ H e s', CX [] H s₁ (fun _ _ _ => False) e s' → False) :
    codeAny (model P w) callerA (.call (.ref fa) ⟨[.ref a], []⟩) (fun r s' => r = .ok (.ret (.bool true)) ∧ OldK s₁.heap s'.heap ∧ s'.os = s₁.os ∧ AllBare s'.gens) s₁ := by
  have tabO : ∀ b ∈ cs.map (·.2), s₁.heap.get? b = some emptyT := fun b hb => by
    obtain ⟨p, hp, rfl⟩ := List.mem_map.mp hb
    exact hT p hp
  have aT : a ∉ cs.map (·.2) := fun z => by
    have q := (tabO a z).symm.trans ha
    cases q
  have rv := vals_ints hi
  have hlen : vs.length = ns.length := hi.length
  have sq : SqL K (H0 K cs a vs ns) a (ns.map V.int) := by
    cases q : K.lookup a with
    | none => exact .inl (.inr ⟨_, H0_script aT q⟩)
    | some o =>
      have e := (KX a o q).symm.trans ha
      cases e
      refine .inr ⟨_, vs.toArray, _, q, rfl, rfl, rfl, ?_, by simpa using rv⟩
      rw [List.size_toArray, hlen]
      exact hl
  have ok : HOk P w (H0 K cs a vs ns) s₁.heap := fun b u e => by
    rcases H0_some e with ⟨h1, rfl⟩ | ⟨rfl, _, rfl⟩
    · exact tabO b h1
    · exact ⟨ha, by rw [List.length_map]; exact hl, vs, _, rv, ha⟩
  -- what is neither a list nor an empty table is not tracked
  have free : ∀ {b : Addr} {o : Obj}, s₁.heap.get? b = some o → (∀ q n, o.data ≠ .seq q n) → o.data ≠ .fields #[] → H0 K cs a vs ns b = none := fun {b o} e h1 h2 => by
    cases q : H0 K cs a vs ns b with
    | none => rfl
    | some u =>
      rcases H0_some q with ⟨z, _⟩ | ⟨z, _⟩
      · rw [tabO b z] at e
        cases e
        exact absurd rfl h2
      · rw [z, ha] at e
        cases e
        exact absurd rfl (h1 _ _)
  have dict : ∀ {b : Addr} {o : Obj} {es : Array DictEntry} {ep : Nat}, s₁.heap.get? b = some o → o.data = .dict es ep → H0 K cs a vs ns b = none := fun {b o es ep} e d => free e (fun q n z => by rw [d] at z; cases z) fun z => by rw [d] at z; cases z
  have nsK : ∀ {b : Addr} {m : Str → Option Value}, s₁.heap.Ns b m → (hidT s₁.heap (H0 K cs a vs ns)).Ns b m := fun {b m} ⟨o, es, ep, e, d, r⟩ => ⟨o, es, ep, hidT_get e (dict e d), d, r⟩
  have kin : K.In (hidT s₁.heap (H0 K cs a vs ns)) := fun b o e => hidT_get (KX b o e) (by
    cases q : H0 K cs a vs ns b with
    | none => rfl
    | some u =>
      rcases H0_some q with ⟨z, _⟩ | ⟨rfl, z, _⟩
      · obtain ⟨p, hp, rfl⟩ := List.mem_map.mp z
        rw [nT p hp] at e
        cases e
      · rw [z] at e
        cases e)
  have mod : L2.Mod K mg (hidT s₁.heap (H0 K cs a vs ns)) := by
    obtain ⟨mc, l1, l2⟩ := hlim
    exact ⟨kin, nsK hns, ⟨mb, nsK hb, hbb⟩, mc, nsK l1, l2⟩
  have tb : ∀ p ∈ cs, GxR.TabB (hidT s₁.heap (H0 K cs a vs ns)) mg p.1 p.2 := fun p hp => by
    obtain ⟨og, eg, pg, g1, g2, _⟩ := hns
    obtain ⟨bm, ob, b1, b2, b3, b4, b5, b6⟩ := hbm
    obtain ⟨oc, us, file, tf, fl, tg, inF, tx, tt, c1, c2, c3, c4, c5, c6, c7, c8, c9, c10⟩ := C p hp
    have keepB : H0 K cs a vs ns bm = none := free b3 (fun q n z => by rw [b6] at z; cases z) fun z => by rw [b6] at z; cases z
    have keepC : H0 K cs a vs ns p.1 = none := free c1 (fun q n z => by rw [c3] at z; cases z) fun z => by
      rw [c3] at z
      cases z
      simp at c4
    refine ⟨⟨oc, us, file, tf, fl, tg, inF, tx, tt, hidT_get c1 keepC, c2, c3, c4, c5, c6, c7, c8, c9, c10⟩, ⟨bm, ob, b1, b2, fun z => ?_, fun z => ?_, hidT_get b3 keepB, b4, b5, b6⟩, fun z => ?_⟩
    · rw [z, g1] at b3
      cases b3
      rw [g2] at b6
      cases b6
    · rw [z, hT p hp] at b3
      cases b3
      cases b6
    · rw [z, hT p hp] at g1
      cases g1
      cases g2
  have e0 : Env0 P w K mg (hidT s₁.heap (H0 K cs a vs ns)) callerA [] s₁ (H0 K cs a vs ns) :=
    ⟨rfl, mod, fun b o e => of_hidT e, Nat.le_of_eq (hidT_size _ _), trivial, fun b hb => absurd (show b ∈ ([] : List Addr) from hb) (by simp), ok, .of_eq hg⟩
  refine codeAny_mono ((F _ kin (nsK hns) tb).run callerA [] s₁ (H0 K cs a vs ns) ⟨[.ref a], []⟩ [.ref a] [.ref a] _ _ hr rfl e0 (hbind s₁ (.ref a)) (.cons rfl .nil) (hsp _ (fun p hp => H0_tab (List.mem_map.mpr ⟨p, hp, rfl⟩)) sq)) fun r s' h => ?_
  match r, h with
  | .error e, h => exact (hCX _ e s' h).elim
  | .ok (.ret u), ⟨v, H', os, bare, un, ok', rr, q⟩ =>
    obtain rfl : v = .bl true := q
    obtain rfl : u = Value.bool true := rr
    have same : ∀ b o, b ∉ cs.map (·.2) → s₁.heap.get? b = some o → s'.heap.get? b = some o := fun b o nb e => by
      cases q : H0 K cs a vs ns b with
      | none => exact un.keep b o e q (by intro z; exact absurd (show b ∈ ([] : List Addr) from z) (by simp)) (by simp)
      | some u =>
        rcases H0_some q with ⟨z, _⟩ | ⟨rfl, _, rfl⟩
        · exact absurd z nb
        · obtain ⟨e1, _⟩ := ok' _ _ (un.frzs _ _ _ q)
          rw [ha] at e
          cases e
          exact e1
    have grown : ∀ p ∈ cs, ∃ more : Array Value, s'.heap.get? p.2 = some { cls := .none, data := .fields more } := fun p hp => by
      obtain ⟨more, z⟩ := un.tbls p.2 #[] (H0_tab (List.mem_map.mpr ⟨p, hp, rfl⟩))
      exact ⟨_, ok' p.2 _ z⟩
    refine ⟨rfl, ⟨fun b o e => ?_, fun b o e => ?_⟩, os, bare⟩
    · by_cases hb : b ∈ cs.map (·.2)
      · obtain ⟨p, hp, rfl⟩ := List.mem_map.mp hb
        obtain ⟨more, hm⟩ := grown p hp
        rw [hT p hp] at e
        cases e
        exact .inr (.inl ⟨((C p hp).tab (hT p hp)).isCodeTable, rfl, #[], more, rfl, by rw [Array.empty_append]; exact hm⟩)
      · exact .inl (same b o hb e)
    · by_cases hb : b ∈ cs.map (·.2)
      · obtain ⟨p, hp, rfl⟩ := List.mem_map.mp hb
        exact (grown p hp).elim fun more hm => ⟨_, hm⟩
      · exact ⟨o, same b o hb e⟩
end
/-- what the head's heap h must tell of the law -/
def LawG (l : PySem.W.OpenLaw) (w : World) (K : PySem.W.Frag) (CX : CXT) (k n : Nat) (x : Str) (mg : Str → Option Value) (fa : Addr) (h : Heap) : Prop :=
  ∃ (fd : FuncData) (cs : List (Addr × Addr)) (sp : Sp), (∀ p ∈ cs, h.get? p.2 = some emptyT) ∧ (∀ p ∈ cs, K.lookup p.2 = none) ∧ (∀ p ∈ cs, PySem.W.CodeHd h p.1 p.2) ∧ (∀ (s : Shared) (u : Value), BindsTo s fd ⟨[u], []⟩ [(x, u)]) ∧
    (∀ (H : Hp) (a : Addr) (ns : List Int), ns.length ≤ n → (∀ z ∈ ns, Builtin.Int.intBits z ≤ 1048576) → (∀ p ∈ cs, H p.2 = some (.tbl #[])) → SqL K H a (ns.map V.int) → sp [.ref a] H (fun v _ => v = .bl true) fun _ _ _ => False) ∧
    ∀ base : Heap, K.In base → base.Ns mainGlobals mg → (∀ p ∈ cs, GxR.TabB base mg p.1 p.2) → FnG l.prog w K mg base CX k fa fd [x] sp
theorem walkG {l : PySem.W.OpenLaw} {n k : Nat} {q : Program} {loose : List Str} {XP : (Str → Option Value) → Heap → Prop} {YP : World → Heap → Prop} {d : DefRec} {CX : World → CXT} {x : Str}
    (hn : l.most = some n) (hn2 : n ≤ sizeLine) (hdf : d.params.defaults = []) (hr : Room k callerA)
    (F : ∀ (w : World) (mg : Str → Option Value) (fa : Addr) (h : Heap), YP w h → h.Ns mainGlobals mg → mg d.name = some (.ref fa) → ∃ K : PySem.W.Frag, K.In h ∧ LawG l w K (CX w) k n x mg fa h)
    (hCX : ∀ (w : World) (H : Hp) (s : Shared) (e : Value) (s' : Shared), CX w [] H s (fun _ _ _ => False) e s' → False) :
    PySem.W.WalkO q loose XP YP l.row.toRowW d [] (fun f vs => PySem.call f vs) := by
  refine Att.attach_callB hn hdf fun w s₀ s₁ mg mb fa o pm cd doc a vs ns G Y ho hd hcd hmg hobj hints hlen hbits hg => ?_
  obtain ⟨K, KX, fd, cs, sp, h1, h2, h3, h4, h5, h6⟩ := F w mg fa _ Y G.T.g hmg
  exact law_callG KX G.T.g G.T.b G.T.builtins G.T.nolimit hg h1 h2 h3 G.T.bmain hobj hints (Nat.le_trans hlen hn2) hr h6 h4 (fun H hH hS => h5 H a ns hlen hbits hH hS) fun H e s' => hCX w H s₁ e s'

/-! ### tables of code objects, in the abstract heap -/
def TabsOk (Ps : List Addr) (H : Hp) : Prop := ∀ P ∈ Ps, GxR.TabG H P
/-- what is no table is as it was -/
def Sm (H H' : Hp) : Prop := ∀ b o, H b = some o → (∀ ps, o ≠ .tbl ps) → H' b = some o
theorem Sm.refl (H : Hp) : Sm H H := fun _ _ e _ => e
theorem Sm.trans {H H1 H2 : Hp} (a : Sm H H1) (b : Sm H1 H2) : Sm H H2 := fun c o e n => b c o (a c o e n) n
theorem Sm.new {H : Hp} {p : Addr} {o : HO} (h : H p = none) : Sm H (upd H p o) := fun b u e _ => by
  rw [upd_ne (ne_of_none e h)]
  exact e
theorem Sm.over {H H1 : Hp} {p : Addr} {o : HO} (a : Sm H H1) (h : H p = none) : Sm H (upd H1 p o) := fun b u e n => by
  rw [upd_ne (ne_of_none e h)]
  exact a b u e n
theorem Sm.lst {H H1 : Hp} {p : Addr} {xs : List V} (a : Sm H H1) (h : H p = some (.lst xs)) : H1 p = some (.lst xs) := a p _ h fun _ z => by cases z
theorem Sm.tup {H H1 : Hp} {p : Addr} {xs : List V} (a : Sm H H1) (h : H p = some (.tup xs)) : H1 p = some (.tup xs) := a p _ h fun _ z => by cases z
theorem Sm.seq {K : PySem.W.Frag} {H H1 : Hp} {p : Addr} {xs : List V} (a : Sm H H1) (h : SqL K H p xs) : SqL K H1 p xs := by
  rcases h with (h | ⟨o, h⟩) | h
  · exact .inl (.inl (a.lst h))
  · exact .inl (.inr ⟨o, a _ _ h fun _ z => by cases z⟩)
  · exact .inr h
theorem TabsOk.new {Ps : List Addr} {H : Hp} {p : Addr} {o : HO} (t : TabsOk Ps H) (h : H p = none) : TabsOk Ps (upd H p o) := fun P hP => by
  obtain ⟨ps, e, k⟩ := t P hP
  exact ⟨ps, by rw [upd_ne (ne_of_none e h)]; exact e, k⟩
theorem TabsOk.ne {Ps : List Addr} {H : Hp} {P p : Addr} {u : HO} (t : TabsOk Ps H) (hP : P ∈ Ps) (e : H p = some u) (n : ∀ ps, u ≠ .tbl ps) : p ≠ P := fun z => by
  obtain ⟨ps, e2, _⟩ := t P hP
  rw [z, e2] at e
  exact n ps (Option.some.inj e).symm
theorem TabsOk.put {Ps : List Addr} {H : Hp} {p : Addr} {o u : HO} (t : TabsOk Ps H) (e : H p = some u) (n : ∀ ps, u ≠ .tbl ps) : TabsOk Ps (upd H p o) := fun P hP => by
  have np := t.ne hP e n
  obtain ⟨ps, e2, k⟩ := t P hP
  exact ⟨ps, by rw [upd_ne (Ne.symm np)]; exact e2, k⟩
theorem TabsOk.tabbed {Ps : List Addr} {H H' : Hp} {P : Addr} (t : TabsOk Ps H) (h : GxR.Tabbed P H H') : TabsOk Ps H' := fun R hR => by
  by_cases e : R = P
  · rw [e]
    exact h.1
  · obtain ⟨ps, e2, k⟩ := t R hR
    exact ⟨ps, by rw [h.2 R e]; exact e2, k⟩
theorem sm_tabbed {H H' : Hp} {P : Addr} (t : GxR.TabG H P) (h : GxR.Tabbed P H H') : Sm H H' := fun b o e n => by
  by_cases z : b = P
  · obtain ⟨ps, e2, _⟩ := t
    rw [z, e2] at e
    exact absurd (Option.some.inj e).symm (n ps)
  · rw [h.2 b z]
    exact e
/-! ### repr of data -/
/-- repr(x), x a list or a tuple of data -/
def rReprD (K : PySem.W.Frag) : List V → Hp → VK → Prop := fun xs H Q => ∃ (a : Addr) (d : PyData), xs = [.ref a] ∧ Dp K H (.ref a) d ∧ d.showable = true ∧ d.hasDict = false ∧ d.depth ≤ 60 ∧ d.shown.length ≤ sizeLine ∧ Q (.str d.shown) H
theorem call_reprD {X : Cx} {k : Nat} (hr : Room k X.A) (hg : X.A.guards = some []) : CallR X (.builtin "repr") (rReprD X.K) := by
  intro pins s σ H xs us Q I r h
  obtain ⟨a, d, rfl, hd, hs, hn, hp, hl, q⟩ := h
  match us, r with
  | [_], .cons r1 .nil =>
    obtain ⟨as, rd⟩ := Dp.reads I d _ _ hd r1
    cases r1
    have := hr.un
    exact repr_of_reads' rd hs (fun z => by rw [hn] at z; cases z) hg (by omega) (fun _ _ e => e) (fun h' u tk kp => ⟨.str d.shown, H, I.kept kp, ⟨u, rfl⟩, q⟩) hl
/-- repr of a truth -/
def rReprB : List V → Hp → VK → Prop := fun xs H Q => ∃ b, xs = [.bl b] ∧ Q (.str (if b then "True" else "False")) H
end HM
set_option maxHeartbeats 1000000
namespace K11
open PySem PyProof.Rows SX
/-! ### the mathematics of names and paths: texts as lists of code points -/
def low (c : Nat) : Bool := decide (97 ≤ c) && decide (c ≤ 122)
def nameL (w : List Nat) : Bool := (decide (1 ≤ w.length) && decide (w.length ≤ 8)) && w.all low
def parts (l : List Nat) : List (List Nat) := TL.spl [46] 0 [] l
def pathL (l : List Nat) : Bool := decide ((parts l).length ≤ 4) && (parts l).all nameL
theorem pre_dot (r : List Nat) : TL.pre [46] (46 :: r) = true := by
  show ((46 :: r).take 1 == [46]) = true
  simp
theorem pre_no {c : Nat} (r : List Nat) (h : c ≠ 46) : TL.pre [46] (c :: r) = false := TL.pre_of_head [] r h
theorem spl_dot (acc r : List Nat) : TL.spl [46] 0 acc (46 :: r) = acc :: TL.spl [46] 0 [] r := TL.spl_hit (pre_dot r)
theorem spl_no (acc r : List Nat) {c : Nat} (h : c ≠ 46) : TL.spl [46] 0 acc (c :: r) = TL.spl [46] 0 (acc ++ [c]) r := TL.spl_miss (pre_no r h)
theorem spl_nil' (acc : List Nat) : TL.spl [46] 0 acc [] = [acc] := TL.spl_nil [46] 0 acc
theorem spl_ne (l : List Nat) : ∀ acc, TL.spl [46] 0 acc l ≠ [] := by
  induction l with
  | nil =>
    intro acc
    rw [spl_nil']
    exact List.cons_ne_nil _ _
  | cons c r ih =>
    intro acc
    by_cases h : c = 46
    · subst h
      rw [spl_dot]
      exact List.cons_ne_nil _ _
    · rw [spl_no acc r h]
      exact ih _
theorem spl_snoc_dot (l : List Nat) : ∀ acc, TL.spl [46] 0 acc (l ++ [46]) = TL.spl [46] 0 acc l ++ [[]] := by
  induction l with
  | nil =>
    intro acc
    show TL.spl [46] 0 acc [46] = _
    rw [spl_dot, spl_nil', spl_nil']
    rfl
  | cons c r ih =>
    intro acc
    by_cases h : c = 46
    · subst h
      show TL.spl [46] 0 acc (46 :: (r ++ [46])) = _
      rw [spl_dot, spl_dot, ih]
      rfl
    · show TL.spl [46] 0 acc (c :: (r ++ [46])) = _
      rw [spl_no _ _ h, spl_no _ _ h, ih]
theorem spl_snoc {c : Nat} (hc : c ≠ 46) (l : List Nat) : ∀ acc i w, TL.spl [46] 0 acc l = i ++ [w] → TL.spl [46] 0 acc (l ++ [c]) = i ++ [w ++ [c]] := by
  induction l with
  | nil =>
    intro acc i w e
    rw [spl_nil'] at e
    show TL.spl [46] 0 acc [c] = _
    rw [spl_no _ _ hc, spl_nil']
    have e2 : [] ++ [acc] = i ++ [w] := e
    obtain ⟨e3, e4⟩ := List.append_inj' e2 rfl
    subst e3
    rw [List.cons.inj e4 |>.1]
    rfl
  | cons d r ih =>
    intro acc i w e
    by_cases h : d = 46
    · subst h
      show TL.spl [46] 0 acc (46 :: (r ++ [c])) = _
      rw [spl_dot] at e ⊢
      cases i with
      | nil =>
        have e2 := (List.cons.inj e).2
        exact absurd e2 (spl_ne r [])
      | cons a i =>
        obtain ⟨e2, e3⟩ := List.cons.inj e
        rw [ih [] i w e3, e2]
        rfl
    · show TL.spl [46] 0 acc (d :: (r ++ [c])) = _
      rw [spl_no _ _ h] at e ⊢
      exact ih _ i w e
theorem joinL_cons (S p : List Nat) {l : List (List Nat)} (h : l ≠ []) : TL.joinL S (p :: l) = p ++ (S ++ TL.joinL S l) := by
  cases l with
  | nil => exact absurd rfl h
  | cons q r => rfl
theorem joinL_snoc (S y : List Nat) : ∀ {l : List (List Nat)}, l ≠ [] → TL.joinL S (l ++ [y]) = TL.joinL S l ++ S ++ y
  | [], h => absurd rfl h
  | [p], _ => by
    show p ++ (S ++ y) = p ++ S ++ y
    rw [List.append_assoc]
  | p :: q :: r, _ => by
    show TL.joinL S (p :: ((q :: r) ++ [y])) = _
    rw [joinL_cons S p (by simp), joinL_cons S p (List.cons_ne_nil q r), joinL_snoc S y (List.cons_ne_nil q r)]
    simp [List.append_assoc]
theorem join_spl (l : List Nat) : ∀ acc, TL.joinL [46] (TL.spl [46] 0 acc l) = acc ++ l := by
  induction l with
  | nil =>
    intro acc
    rw [spl_nil']
    simp [TL.joinL]
  | cons c r ih =>
    intro acc
    by_cases h : c = 46
    · subst h
      rw [spl_dot, joinL_cons _ _ (spl_ne r []), ih]
      simp
    · rw [spl_no _ _ h, ih]
      simp
theorem join_parts (l : List Nat) : TL.joinL [46] (parts l) = l := join_spl l []
theorem parts_ne (l : List Nat) : parts l ≠ [] := spl_ne l []
theorem spl_nodot (l : List Nat) (h : 46 ∉ l) : ∀ acc, TL.spl [46] 0 acc l = [acc ++ l] := by
  induction l with
  | nil =>
    intro acc
    rw [spl_nil', List.append_nil]
  | cons c r ih =>
    intro acc
    have hc : c ≠ 46 := fun e => h (by rw [e]; exact List.mem_cons_self)
    rw [spl_no _ _ hc, ih (fun z => h (List.mem_cons_of_mem _ z))]
    simp
theorem spl_dot_len (l : List Nat) (h : 46 ∈ l) : ∀ acc, 2 ≤ (TL.spl [46] 0 acc l).length := by
  induction l with
  | nil => cases h
  | cons c r ih =>
    intro acc
    by_cases hc : c = 46
    · subst hc
      rw [spl_dot, List.length_cons]
      have := List.length_pos_iff.mpr (spl_ne r [])
      omega
    · rw [spl_no _ _ hc]
      refine ih ?_ _
      rcases List.mem_cons.mp h with z | z
      · exact absurd z.symm hc
      · exact z
theorem low_dot : low 46 = false := by decide
/-- a name is a path of one part -/
theorem name_one (l : List Nat) : nameL l = (decide ((parts l).length = 1) && (parts l).all nameL) := by
  by_cases h : 46 ∈ l
  · have h1 : nameL l = false := by
      unfold nameL
      have : l.all low = false := by
        rw [List.all_eq_false]
        exact ⟨46, h, by rw [low_dot]; exact Bool.false_ne_true⟩
      rw [this, Bool.and_false]
    have h2 := spl_dot_len l h []
    have h3 : decide ((parts l).length = 1) = false := decide_eq_false (by unfold parts; omega)
    rw [h1, h3, Bool.false_and]
  · have e : parts l = [l] := spl_nodot l h []
    rw [e]
    simp
/-- the beginnings of a list of words -/
def begs (ws : List (List Nat)) : List (List Nat) := (List.range ws.length).map fun i => TL.joinL [46] (ws.take (i + 1))
theorem begs_len (ws : List (List Nat)) : (begs ws).length = ws.length := by
  unfold begs
  rw [List.length_map, List.length_range]
theorem begs_get {ws : List (List Nat)} {i : Nat} (h : i < ws.length) : (begs ws)[i]? = some (TL.joinL [46] (ws.take (i + 1))) := by
  unfold begs
  rw [List.getElem?_map, List.getElem?_range h]
  rfl
theorem take_snoc {α : Type} {xs : List α} {i : Nat} {x : α} (h : xs[i]? = some x) : xs.take (i + 1) = xs.take i ++ [x] := by
  rw [List.take_add_one, h]
  rfl
theorem begs_step {ws : List (List Nat)} {i : Nat} {y : List Nat} (h : ws[i + 1]? = some y) : TL.joinL [46] (ws.take (i + 1)) ++ [46] ++ y = TL.joinL [46] (ws.take (i + 1 + 1)) := by
  have hi := (List.getElem?_eq_some_iff.mp h).1
  rw [take_snoc h, joinL_snoc]
  intro e
  have := congrArg List.length e
  rw [List.length_take, List.length_nil] at this
  omega
/-! ### signs of the alphabet -/
abbrev abc0 : List Nat := [97, 98, 99, 100, 101, 102, 103, 104, 105, 106, 107, 108, 109, 110, 111, 112, 113, 114, 115, 116, 117, 118, 119, 120, 121, 122]
theorem cnt_abc (c : Nat) : cnt c abc0 = if low c = true then 1 else 0 := by
  simp only [cnt_cons, cnt_nil]
  by_cases h : low c = true
  · rw [if_pos h]
    unfold low at h
    obtain ⟨h1, h2⟩ := Bool.and_eq_true_iff.mp h
    have a1 := of_decide_eq_true h1
    have a2 := of_decide_eq_true h2
    obtain ⟨k, hk, rfl⟩ : ∃ k, k < 26 ∧ c = 97 + k := ⟨c - 97, by omega, by omega⟩
    have : ∀ k, k < 26 → ((if 97 = 97 + k then (1 : Int) else 0) + ((if 98 = 97 + k then 1 else 0) + ((if 99 = 97 + k then 1 else 0) + ((if 100 = 97 + k then 1 else 0) + ((if 101 = 97 + k then 1 else 0) + ((if 102 = 97 + k then 1 else 0) + ((if 103 = 97 + k then 1 else 0) + ((if 104 = 97 + k then 1 else 0) + ((if 105 = 97 + k then 1 else 0) + ((if 106 = 97 + k then 1 else 0) + ((if 107 = 97 + k then 1 else 0) + ((if 108 = 97 + k then 1 else 0) + ((if 109 = 97 + k then 1 else 0) + ((if 110 = 97 + k then 1 else 0) + ((if 111 = 97 + k then 1 else 0) + ((if 112 = 97 + k then 1 else 0) + ((if 113 = 97 + k then 1 else 0) + ((if 114 = 97 + k then 1 else 0) + ((if 115 = 97 + k then 1 else 0) + ((if 116 = 97 + k then 1 else 0) + ((if 117 = 97 + k then 1 else 0) + ((if 118 = 97 + k then 1 else 0) + ((if 119 = 97 + k then 1 else 0) + ((if 120 = 97 + k then 1 else 0) + ((if 121 = 97 + k then 1 else 0) + ((if 122 = 97 + k then 1 else 0) + 0)))))))))))))))))))))))))) = 1 := by decide +kernel
    exact this k hk
  · rw [if_neg h]
    have hc : c < 97 ∨ 122 < c := by
      refine Classical.byContradiction fun z => h ?_
      unfold low
      rw [decide_eq_true (show 97 ≤ c by omega), decide_eq_true (show c ≤ 122 by omega)]
      rfl
    have ne : ∀ k : Nat, 97 ≤ k → k ≤ 122 → (if k = c then (1 : Int) else 0) = 0 := fun k h1 h2 => if_neg (by omega)
    rw [ne 97 (by decide) (by decide), ne 98 (by decide) (by decide), ne 99 (by decide) (by decide), ne 100 (by decide) (by decide), ne 101 (by decide) (by decide), ne 102 (by decide) (by decide), ne 103 (by decide) (by decide), ne 104 (by decide) (by decide), ne 105 (by decide) (by decide), ne 106 (by decide) (by decide), ne 107 (by decide) (by decide), ne 108 (by decide) (by decide), ne 109 (by decide) (by decide), ne 110 (by decide) (by decide), ne 111 (by decide) (by decide), ne 112 (by decide) (by decide), ne 113 (by decide) (by decide), ne 114 (by decide) (by decide), ne 115 (by decide) (by decide), ne 116 (by decide) (by decide), ne 117 (by decide) (by decide), ne 118 (by decide) (by decide), ne 119 (by decide) (by decide), ne 120 (by decide) (by decide), ne 121 (by decide) (by decide), ne 122 (by decide) (by decide)]
    rfl
/-- how many of the signs are small letters -/
def lows (w : List Nat) : Nat := (w.filter low).length
theorem lows_le (w : List Nat) : lows w ≤ w.length := List.length_filter_le _ _
theorem lows_all (w : List Nat) : (lows w = w.length) ↔ w.all low = true := by
  unfold lows
  rw [List.length_filter_eq_length_iff, List.all_eq_true]
/-- the law's word -/
theorem word_name (w : List Nat) : (decide (lows w = w.length) && (decide (0 < lows w) && decide (lows w < 9))) = nameL w := by
  unfold nameL
  by_cases h : w.all low = true
  · have e := (lows_all w).mpr h
    rw [h, e, decide_eq_true rfl]
    by_cases h1 : 1 ≤ w.length
    · by_cases h2 : w.length ≤ 8
      · simp [h1, h2, show 0 < w.length by omega, show w.length < 9 by omega]
      · simp [h2, show ¬ w.length < 9 by omega]
    · simp [h1, show ¬ 0 < w.length by omega]
  · have e : ¬ lows w = w.length := fun z => h ((lows_all w).mp z)
    rw [decide_eq_false e, Bool.eq_false_iff.mpr h, Bool.and_false, Bool.false_and]
/-- one sign between a and z -/
theorem between (c : Nat) : (if (!decide ([c] < [97])) = true then !decide ([122] < [c]) else false) = low c := by
  have l1 : ∀ a b : Nat, decide ([a] < [b]) = decide (a < b) := fun a b => by
    by_cases h : a < b
    · rw [decide_eq_true h, decide_eq_true (show [a] < [b] from List.Lex.rel h)]
    · rw [decide_eq_false h]
      refine decide_eq_false fun z => ?_
      cases z with
      | rel q => exact h q
      | cons q => cases q
  rw [l1, l1]
  unfold low
  by_cases h1 : c < 97 <;> by_cases h2 : 122 < c <;> simp [h1, h2, Nat.not_le] <;> omega
end K11
set_option maxHeartbeats 4000000
namespace XD
open PySem PySem.Spec PyProof.Rows L2 HM SX K11
/-! ### things: what rows are judged over -/
inductive Th where
  | non
  | bl (b : Bool)
  | int (i : Int)
  | str (l : List Nat)
  | tup (ts : List Th)
  | lst
  | dct
mutual
inductive Tt (K : PySem.W.Frag) (H : Hp) : V → Th → Prop
  | non : Tt K H .non .non
  | bl (b : Bool) : Tt K H (.bl b) (.bl b)
  | int (i : Int) : Tt K H (.int i) (.int i)
  | str (l : List Nat) (h : l.length ≤ 900) : Tt K H (.str (S l)) (.str l)
  | tup {a : Addr} {xs : List V} {ts : List Th} : SqT K H a xs → TtAll K H xs ts → Tt K H (.ref a) (.tup ts)
  | lst {a : Addr} {xs : List V} : SqL K H a xs → Tt K H (.ref a) .lst
  | dct {a : Addr} {kvs : List (Key × V)} : H a = some (.dK kvs) → Tt K H (.ref a) .dct
inductive TtAll (K : PySem.W.Frag) (H : Hp) : List V → List Th → Prop
  | nil : TtAll K H [] []
  | cons {v : V} {vs : List V} {t : Th} {ts : List Th} : Tt K H v t → TtAll K H vs ts → TtAll K H (v :: vs) (t :: ts)
end
theorem sqT_sm {K : PySem.W.Frag} {H H' : Hp} {a : Addr} {xs : List V} (s : Sm H H') (h : SqT K H a xs) : SqT K H' a xs := by
  rcases h with (h | ⟨o, h⟩) | h
  · exact .inl (.inl (s.tup h))
  · exact .inl (.inr ⟨o, s _ _ h fun _ z => by cases z⟩)
  · exact .inr h
mutual
theorem Tt.sm {K : PySem.W.Frag} {H H' : Hp} (s : Sm H H') : ∀ {v : V} {t : Th}, Tt K H v t → Tt K H' v t
  | _, _, .non => .non
  | _, _, .bl b => .bl b
  | _, _, .int i => .int i
  | _, _, .str l h => .str l h
  | _, _, .tup h r => .tup (sqT_sm s h) (TtAll.sm s r)
  | _, _, .lst h => .lst (s.seq h)
  | _, _, .dct h => .dct (s _ _ h fun _ z => by cases z)
theorem TtAll.sm {K : PySem.W.Frag} {H H' : Hp} (s : Sm H H') : ∀ {vs : List V} {ts : List Th}, TtAll K H vs ts → TtAll K H' vs ts
  | _, _, .nil => .nil
  | _, _, .cons h r => .cons (Tt.sm s h) (TtAll.sm s r)
end
theorem TtAll.len {K : PySem.W.Frag} {H : Hp} : ∀ {vs : List V} {ts : List Th}, TtAll K H vs ts → vs.length = ts.length
  | _, _, .nil => rfl
  | _, _, .cons h r => by rw [List.length_cons, List.length_cons, TtAll.len r]
theorem TtAll.get {K : PySem.W.Frag} {H : Hp} : ∀ {vs : List V} {ts : List Th} (i : Nat) {v : V}, TtAll K H vs ts → vs[i]? = some v → ∃ t, ts[i]? = some t ∧ Tt K H v t
  | _, _, _, _, .nil, h => by cases h
  | _, _, 0, _, .cons h r, e => by
    cases e
    exact ⟨_, rfl, h⟩
  | _, _, i + 1, _, .cons h r, e => TtAll.get i r e
/-- a thing's type -/
def tyN : Th → String
  | .non => "NoneType"
  | .bl _ => "bool"
  | .int _ => "int"
  | .str _ => "str"
  | .tup _ => "tuple"
  | .lst => "list"
  | .dct => "dict"
theorem Tt.ty {K : PySem.W.Frag} {H : Hp} {v : V} {t : Th} (h : Tt K H v t) : TyX K H v (.type (tyN t)) := by
  cases h with
  | non => exact .base .non
  | bl b => exact .base (.bl b)
  | int i => exact .base (.int i)
  | str l h => exact .base (.str _)
  | tup h r =>
    rcases h with (h | ⟨o, h⟩) | ⟨o, its, n, h1, h2, _⟩
    · exact .base (.tup h)
    · exact .fTuple h
    · exact .kTuple h1 h2
  | lst h =>
    rcases h with (h | ⟨o, h⟩) | ⟨o, its, n, h1, h2, _⟩
    · exact .base (.lst h)
    · exact .base (.frz h)
    · exact .kList h1 h2
  | dct h => exact .base (.dK h)
def isS : Th → Bool | .str _ => true | _ => false
def isT : Th → Bool | .tup _ => true | _ => false
def isI : Th → Bool | .bl _ => true | .int _ => true | _ => false
def isB : Th → Bool | .bl _ => true | _ => false
theorem kS (t : Th) : kitB (tyN t) "str" = some (isS t) := by
  cases t with
  | non => decide +kernel
  | bl b => exact (by decide +kernel : kitB "bool" "str" = some false)
  | int i => exact (by decide +kernel : kitB "int" "str" = some false)
  | str l => exact (by decide +kernel : kitB "str" "str" = some true)
  | tup ts => exact (by decide +kernel : kitB "tuple" "str" = some false)
  | lst => decide +kernel
  | dct => decide +kernel
theorem kT (t : Th) : kitB (tyN t) "tuple" = some (isT t) := by
  cases t with
  | non => decide +kernel
  | bl b => exact (by decide +kernel : kitB "bool" "tuple" = some false)
  | int i => exact (by decide +kernel : kitB "int" "tuple" = some false)
  | str l => exact (by decide +kernel : kitB "str" "tuple" = some false)
  | tup ts => exact (by decide +kernel : kitB "tuple" "tuple" = some true)
  | lst => decide +kernel
  | dct => decide +kernel
theorem kI (t : Th) : kitB (tyN t) "int" = some (isI t) := by
  cases t with
  | non => decide +kernel
  | bl b => exact (by decide +kernel : kitB "bool" "int" = some true)
  | int i => exact (by decide +kernel : kitB "int" "int" = some true)
  | str l => exact (by decide +kernel : kitB "str" "int" = some false)
  | tup ts => exact (by decide +kernel : kitB "tuple" "int" = some false)
  | lst => decide +kernel
  | dct => decide +kernel
theorem kB (t : Th) : kitB (tyN t) "bool" = some (isB t) := by
  cases t with
  | non => decide +kernel
  | bl b => exact (by decide +kernel : kitB "bool" "bool" = some true)
  | int i => exact (by decide +kernel : kitB "int" "bool" = some false)
  | str l => exact (by decide +kernel : kitB "str" "bool" = some false)
  | tup ts => exact (by decide +kernel : kitB "tuple" "bool" = some false)
  | lst => decide +kernel
  | dct => decide +kernel
/-! ### d.get(k), d a written dict with texts for keys -/
def KGet (K : PySem.W.Frag) (w : World) (p : Addr) (z : Str) (o : Option V) : Prop := ∃ es n r, K.lookup p = some ⟨.type "dict", none, .dict es n, #[]⟩ ∧ PySem.W.KeysLit w.params es.toList ∧ (p == sysModules) = false ∧ PySem.W.nsIn K p z = some r ∧ RelO o r
def tKGet (K : PySem.W.Frag) (w : World) (td ty : TE) : TE := fun σ H Q => td σ H fun x H1 => ∃ (p : Addr) (es : Array DictEntry) (n : Nat), x = .ref p ∧ K.lookup p = some ⟨.type "dict", none, .dict es n, #[]⟩ ∧ ty σ H1 fun y H2 => ∃ z o, y = .str z ∧ KGet K w p z o ∧ Q (o.getD .non) H2
section
variable {X : Cx} {o e : Expr} {apos cpos : Pos} {td ty : TE}
theorem pe_kget (ho : PE X o td) (he : PE X e ty) (m : M1 X o "get" apos e cpos) : PE X (.Call (.Attribute o "get" apos) [e] [] cpos) (tKGet X.K X.w td ty) := by
  refine ⟨fun pins s σ H Q I h => ?_⟩
  refine wpAny_Call_method m.base m.few m.line PySem.F.plainAttrs_dict PySem.F.slot_dict_get PySem.F.type_dict_get (thn (ho.run pins s σ H _ I h) fun u s1 ⟨x, H1, I1, rx, p, es, n, ex, hl, q1⟩ => ?_)
  subst ex
  cases rx
  refine ⟨⟨_, I1.kIn _ _ hl, rfl⟩, fun b z => ?_, ?_⟩
  · cases z
    exact ⟨_, I1.kIn _ _ hl, rfl⟩
  rw [m.trees]
  refine Calls.callWith_builtin rfl (Calls.evalArgs_plain (Calls.spliced_cons (thn (he.run pins s1 σ H1 _ I1 q1) fun iv s2 ⟨y, H2, I2, ry, z, ov, ey, g, q2⟩ => Calls.spliced_nil ?_)))
  subst ey
  obtain ⟨t, rfl⟩ := ry
  obtain ⟨es2, n2, r, hl2, hk, hs, hn, hr⟩ := g
  have hm := PySem.W.mapOf_K (prog := X.prog) (w := X.w) I2.kIn hl2 hk
  refine call_meetsIn PySem.F.slot_dict_get hm.typeIs PySem.F.entry_dict_get (PySem.F.args_dict_get_2 _ _) (meets_dict_get (strKind X.prog X.w) p (strKind_is X.prog X.w z t) hs) ⟨_, hm, _, H2, I2.tok _, ?_, q2⟩
  rw [PySem.W.find_K hl2 hn]
  exact hr.getD rfl
end
/-- zip of two tuples -/
theorem walk_zipT {K : PySem.W.Frag} {a b : Addr} {xs ys : List V} {n : Nat} (hn : n = min xs.length ys.length) : Walk (RZ.ItzT K a b) n (fun H => SqT K H a xs ∧ SqT K H b ys) (YPair (fun i => xs[i]?) (fun i => ys[i]?)) := by
  subst hn
  refine ⟨fun i _ hi q => ?_, fun _ q => ⟨xs, ys, q.1, q.2, by omega⟩, fun i H v H' _ q y => ?_⟩
  · have h1 : i < xs.length := by omega
    have h2 : i < ys.length := by omega
    exact ⟨xs, ys, xs[i], ys[i], q.1, q.2, by simp [h1], by simp [h2]⟩
  · obtain ⟨T, x, z, h1, h2, h3, h4, h5⟩ := y
    exact ⟨T, x, z, h1, h2, h3, h4 xs q.1, h5 ys q.2⟩
end XD
set_option maxHeartbeats 4000000
/-! The draws of the laws, apart from any row: a pot of a cell's digits and a running number. -/
namespace XW
open PySem PySem.Spec PyProof.Rows L2 HM
/-- the k-th cell, or 0 -/
def spAt (K : PySem.W.Frag) : Sp := fun vs H Q _ => ∃ (a : Addr) (ns : List Int) (k : Nat), vs = [.ref a, .int k] ∧ SqL K H a (ns.map V.int) ∧ Q (.int (ns.getD k 0)) H
/-- a pot: what is left of the cell's digits, and the running number -/
structure PotOk (p0 p1 : Int) : Prop where
  h0 : 0 ≤ p0
  h1 : 0 ≤ p1
  h2 : p1 < 2147483648
def PotAt (H : Hp) (l : Addr) : Prop := ∃ p0 p1, H l = some (.lst [.int p0, .int p1]) ∧ PotOk p0 p1
def spPot (K : PySem.W.Frag) : Sp := fun vs H Q _ => ∃ (a : Addr) (ns : List Int) (k : Nat), vs = [.ref a, .int k] ∧ k ≤ 100 ∧ SqL K H a (ns.map V.int) ∧ ∀ l p0 p1, H l = none → PotOk p0 p1 → Q (.ref l) (upd H l (.lst [.int p0, .int p1]))
/-- a draw: some number below many; the pot goes on -/
def spDraw : Sp := fun vs H Q _ => ∃ (l : Addr) (many p0 p1 : Int), vs = [.ref l, .int many] ∧ 0 < many ∧ many.natAbs.log2 < 9000 ∧ H l = some (.lst [.int p0, .int p1]) ∧ PotOk p0 p1 ∧
  ∀ H' d, (∀ b o, H b = some o → b ≠ l → H' b = some o) → PotAt H' l → 0 ≤ d → d < many → Q (.int d) H'
/-! ### heaps that go on but for a pot -/
def Ch (l : Addr) (H H' : Hp) : Prop := ∀ b o, H b = some o → b ≠ l → H' b = some o
theorem Ch.refl (l : Addr) (H : Hp) : Ch l H H := fun _ _ e _ => e
theorem Ch.trans {l : Addr} {H H1 H2 : Hp} (a : Ch l H H1) (b : Ch l H1 H2) : Ch l H H2 := fun c o e n => b c o (a c o e n) n
theorem Ch.new {l : Addr} {H : Hp} {p : Addr} {o : HO} (h : H p = none) : Ch l H (upd H p o) := fun b u e _ => by
  rw [upd_ne (ne_of_none e h)]
  exact e
/-- a new thing is changed -/
theorem Ch.over {l : Addr} {H H1 : Hp} {p : Addr} {o : HO} (a : Ch l H H1) (h : H p = none) : Ch l H (upd H1 p o) := fun b u e n => by
  rw [upd_ne (ne_of_none e h)]
  exact a b u e n
theorem Ch.free {l : Addr} {H H1 : Hp} {p : Addr} (a : Ch l H H1) (h : H1 p = none) (n : p ≠ l) : H p = none := by
  cases e : H p with
  | none => rfl
  | some o =>
    rw [a p o e n] at h
    cases h
theorem map_snoc {α : Type} (f : α → V) (xs : List α) (x : α) : xs.map f ++ [f x] = (xs ++ [x]).map f := by simp
theorem PotAt.new {l : Addr} {H : Hp} {p : Addr} {o : HO} (h : PotAt H l) (hp : p ≠ l) : PotAt (upd H p o) l := by
  obtain ⟨p0, p1, e, k⟩ := h
  exact ⟨p0, p1, by rw [upd_ne (Ne.symm hp)]; exact e, k⟩
theorem PotAt.ne {l : Addr} {H : Hp} {p : Addr} (h : PotAt H l) (hp : H p = none) : p ≠ l := by
  obtain ⟨p0, p1, e, k⟩ := h
  exact fun z => by
    rw [z, e] at hp
    cases hp
theorem draw_of {l : Addr} {H : Hp} {many : Int} {Q : VK} {E : XK} (hP : PotAt H l) (h0 : 0 < many) (h1 : many.natAbs.log2 < 9000) (q : ∀ H' d, Ch l H H' → PotAt H' l → 0 ≤ d → d < many → Q (.int d) H') : spDraw ([.ref l, .int many] ++ []) H Q E := by
  obtain ⟨p0, p1, e, k⟩ := hP
  exact ⟨l, many, p0, p1, rfl, h0, h1, e, k, q⟩
theorem len_join (a : Str) (ys : List Str) : (Txt.join a ys).length ≤ (ys.map (·.length)).sum + ys.length * a.length := by
  rw [TL.join_eq]
  exact StrLaws.join_length_le a ys
theorem str_len (x y : Str) : (x ++ y).length = x.length + y.length := strLen_append x y
/-! ### signs that a text may have -/
def okS (z : Str) : Prop := ∀ c ∈ z.cps.toList, c < 1114112
theorem okS_cut {z : Str} (h : okS z) (lo hi : Option Int) : okS (cutS z lo hi) := fun c hc => h c (List.mem_of_mem_drop (List.mem_of_mem_take hc))
theorem okS_app {x y : Str} (hx : okS x) (hy : okS y) : okS (x ++ y) := fun c hc => by
  have e : (x ++ y).cps.toList = x.cps.toList ++ y.cps.toList := TL.tl_append x y
  rw [e] at hc
  rcases List.mem_append.mp hc with z | z
  · exact hx c z
  · exact hy c z
theorem okS_one {c : Nat} (h : c < 1114112) : okS ⟨#[c]⟩ := fun d hd => by
  have e : d = c := by simpa using hd
  rw [e]
  exact h
theorem okS_strJoin {a : Str} (ha : okS a) : ∀ {ys : List Str}, (∀ y ∈ ys, okS y) → okS (Str.join a ys)
  | [], _ => fun c hc => by
    have : c ∈ ([] : List Nat) := hc
    cases this
  | [x], h => h x List.mem_cons_self
  | x :: z :: r, h => okS_app (okS_app (h x List.mem_cons_self) ha) (okS_strJoin ha fun y hy => h y (List.mem_cons_of_mem _ hy))
theorem okS_join {a : Str} (ha : okS a) {ys : List Str} (h : ∀ y ∈ ys, okS y) : okS (Txt.join a ys) := by
  rw [TL.join_eq]
  exact okS_strJoin ha h
abbrev abc : Str := Str.ofString "abcdefghijklmnopqrstuvwxyz"
theorem abc_len : abc.cps.toList.length = 26 := by decide +kernel
/-- the scope of the outer comprehension of the words -/
def lcScope : Expr → Scope
  | .ListComp _ _ sc _ => sc
  | _ => { kind := .function, names := [], isGenerator := false, isCoroutine := false }
def asgVal : Stmt → Expr
  | .Assign _ v _ => v
  | _ => .Constant .none 0 ⟨0, 0, 0, 0⟩
/-- a comprehension's scope within a def's -/
abbrev relab (sc outer : Scope) : Scope := relabel sc (envOfC "" outer 0 0 .none)
/-- sep.join(list) -/
def rJoin (K : PySem.W.Frag) : V → List V → Hp → VK → Prop := fun x xs H Q => ∃ a p, ∃ ys : List Str, x = .str a ∧ xs = [.ref p] ∧ (SqL K H p (ys.map V.str) ∨ SqT K H p (ys.map V.str)) ∧ (ys.map (·.length)).sum + ys.length * a.length ≤ 16777216 ∧ Q (.str (Txt.join a ys)) H
theorem sum_ones : ∀ (ws : List Str), (∀ z ∈ ws, z.length = 1 ∧ okS z) → (ws.map (·.length)).sum = ws.length
  | [], _ => rfl
  | z :: ws, h => by
    have h1 := (h z List.mem_cons_self).1
    have h2 := sum_ones ws fun y hy => h y (List.mem_cons_of_mem _ hy)
    rw [List.map_cons, List.sum_cons, List.length_cons]
    omega
end XW
set_option maxHeartbeats 4000000
/-! Data that laws draw and hand on: trees of tuples, lists, texts, numbers and empty dicts; what is kept while pots go on. -/
namespace XR
open PySem PySem.Spec PyProof.Rows L2 HM XW K11
/-! a pot's numbers -/
theorem PotAt.ex {H : Hp} {l : Addr} (h : PotAt H l) : ∃ q : Int × Int, H l = some (.lst [.int q.1, .int q.2]) ∧ PotOk q.1 q.2 := by
  obtain ⟨a, b, c, d⟩ := h
  exact ⟨(a, b), c, d⟩
noncomputable def pa {H : Hp} {l : Addr} (h : PotAt H l) : Int := (PotAt.ex h).choose.1
noncomputable def pb {H : Hp} {l : Addr} (h : PotAt H l) : Int := (PotAt.ex h).choose.2
theorem ph {H : Hp} {l : Addr} (h : PotAt H l) : H l = some (.lst [.int (pa h), .int (pb h)]) := (PotAt.ex h).choose_spec.1
theorem pk {H : Hp} {l : Addr} (h : PotAt H l) : PotOk (pa h) (pb h) := (PotAt.ex h).choose_spec.2
mutual
inductive Rg (Av : Addr → Prop) (H : Hp) : V → PyData → Prop
  | non : Rg Av H .non .none
  | bl (b : Bool) : Rg Av H (.bl b) (.bool b)
  | int (i : Int) : Rg Av H (.int i) (.int i)
  | str (x : Str) : Rg Av H (.str x) (.str x)
  | lst {a : Addr} {xs : List V} {ds : List PyData} : ¬ Av a → H a = some (.lst xs) → RgAll Av H xs ds → Rg Av H (.ref a) (.list ds)
  | tup {a : Addr} {xs : List V} {ds : List PyData} : H a = some (.tup xs) → RgAll Av H xs ds → Rg Av H (.ref a) (.tuple ds)
  | dct {a : Addr} : ¬ Av a → H a = some (.dK []) → Rg Av H (.ref a) (.dict [])
inductive RgAll (Av : Addr → Prop) (H : Hp) : List V → List PyData → Prop
  | nil : RgAll Av H [] []
  | cons {v : V} {vs : List V} {d : PyData} {ds : List PyData} : Rg Av H v d → RgAll Av H vs ds → RgAll Av H (v :: vs) (d :: ds)
end
/-- tuples are kept, and lists and dicts that aren't among Av -/
def Kq (Av : Addr → Prop) (H H' : Hp) : Prop := ∀ b o, H b = some o → ((∃ xs, o = .tup xs) ∨ (¬ Av b ∧ ((∃ xs, o = .lst xs) ∨ ∃ kvs, o = .dK kvs))) → H' b = some o
theorem Kq.refl (Av : Addr → Prop) (H : Hp) : Kq Av H H := fun _ _ e _ => e
theorem Kq.trans {Av : Addr → Prop} {H H1 H2 : Hp} (a : Kq Av H H1) (b : Kq Av H1 H2) : Kq Av H H2 := fun c o e n => b c o (a c o e n) n
theorem Kq.new {Av : Addr → Prop} {H : Hp} {p : Addr} {o : HO} (h : H p = none) : Kq Av H (upd H p o) := fun b u e _ => by
  rw [upd_ne (ne_of_none e h)]
  exact e
theorem Kq.over {Av : Addr → Prop} {H H1 : Hp} {p : Addr} {o : HO} (a : Kq Av H H1) (h : H p = none) : Kq Av H (upd H1 p o) := fun b u e n => by
  rw [upd_ne (ne_of_none e h)]
  exact a b u e n
/-- a list among Av is changed -/
theorem Kq.put {Av : Addr → Prop} {H : Hp} {p : Addr} {o : HO} {xs : List V} (h : H p = some (.lst xs)) (hp : Av p) : Kq Av H (upd H p o) := fun b u e n => by
  by_cases z : b = p
  · subst z
    rw [h] at e
    cases e
    rcases n with ⟨ys, n⟩ | ⟨n, _⟩
    · cases n
    · exact absurd hp n
  · rw [upd_ne z]
    exact e
theorem Kq.mono {Av Bv : Addr → Prop} {H H' : Hp} (k : Kq Av H H') (h : ∀ b, Av b → Bv b) : Kq Bv H H' := fun b o e n => k b o e (n.imp id fun z => ⟨fun y => z.1 (h b y), z.2⟩)
theorem Kq.ofSm {Av : Addr → Prop} {H H' : Hp} (k : Sm H H') : Kq Av H H' := fun b o e n => k b o e fun ps z => by
  subst z
  rcases n with ⟨xs, n⟩ | ⟨_, ⟨xs, n⟩ | ⟨xs, n⟩⟩ <;> cases n
theorem Kq.ofCh {l : Addr} {H H' : Hp} {Av : Addr → Prop} (k : Ch l H H') (hl : Av l) (hP : PotAt H l) : Kq Av H H' := fun b o e n => by
  refine k b o e fun z => ?_
  subst z
  obtain ⟨p0, p1, e2, _⟩ := hP
  rw [e2] at e
  cases e
  rcases n with ⟨ys, n⟩ | ⟨n, _⟩
  · cases n
  · exact n hl
mutual
theorem Rg.kq {Av : Addr → Prop} {H H' : Hp} (k : Kq Av H H') : ∀ {v : V} {d : PyData}, Rg Av H v d → Rg Av H' v d
  | _, _, .non => .non
  | _, _, .bl b => .bl b
  | _, _, .int i => .int i
  | _, _, .str x => .str x
  | _, _, .lst n h r => .lst n (k _ _ h (.inr ⟨n, .inl ⟨_, rfl⟩⟩)) (RgAll.kq k r)
  | _, _, .tup h r => .tup (k _ _ h (.inl ⟨_, rfl⟩)) (RgAll.kq k r)
  | _, _, .dct n h => .dct n (k _ _ h (.inr ⟨n, .inr ⟨_, rfl⟩⟩))
theorem RgAll.kq {Av : Addr → Prop} {H H' : Hp} (k : Kq Av H H') : ∀ {vs : List V} {ds : List PyData}, RgAll Av H vs ds → RgAll Av H' vs ds
  | _, _, .nil => .nil
  | _, _, .cons h r => .cons (Rg.kq k h) (RgAll.kq k r)
end
mutual
theorem Rg.mono {Av Bv : Addr → Prop} {H : Hp} (k : ∀ b, Bv b → Av b) : ∀ {v : V} {d : PyData}, Rg Av H v d → Rg Bv H v d
  | _, _, .non => .non
  | _, _, .bl b => .bl b
  | _, _, .int i => .int i
  | _, _, .str x => .str x
  | _, _, .lst n h r => .lst (fun z => n (k _ z)) h (RgAll.mono k r)
  | _, _, .tup h r => .tup h (RgAll.mono k r)
  | _, _, .dct n h => .dct (fun z => n (k _ z)) h
theorem RgAll.mono {Av Bv : Addr → Prop} {H : Hp} (k : ∀ b, Bv b → Av b) : ∀ {vs : List V} {ds : List PyData}, RgAll Av H vs ds → RgAll Bv H vs ds
  | _, _, .nil => .nil
  | _, _, .cons h r => .cons (Rg.mono k h) (RgAll.mono k r)
end
theorem RgAll.len {Av : Addr → Prop} {H : Hp} : ∀ {vs : List V} {ds : List PyData}, RgAll Av H vs ds → vs.length = ds.length
  | _, _, .nil => rfl
  | _, _, .cons h r => by rw [List.length_cons, List.length_cons, RgAll.len r]
theorem RgAll.get {Av : Addr → Prop} {H : Hp} : ∀ {vs : List V} {ds : List PyData} (i : Nat) {v : V}, RgAll Av H vs ds → vs[i]? = some v → ∃ d, ds[i]? = some d ∧ Rg Av H v d
  | _, _, _, _, .nil, h => by cases h
  | _, _, 0, _, .cons h r, e => by
    cases e
    exact ⟨_, rfl, h⟩
  | _, _, i + 1, _, .cons h r, e => RgAll.get i r e
theorem RgAll.get' {Av : Addr → Prop} {H : Hp} : ∀ {vs : List V} {ds : List PyData} (i : Nat) {d : PyData}, RgAll Av H vs ds → ds[i]? = some d → ∃ v, vs[i]? = some v ∧ Rg Av H v d
  | _, _, _, _, .nil, h => by cases h
  | _, _, 0, _, .cons h r, e => by
    cases e
    exact ⟨_, rfl, h⟩
  | _, _, i + 1, _, .cons h r, e => RgAll.get' i r e
theorem RgAll.append {Av : Addr → Prop} {H : Hp} : ∀ {vs ws : List V} {ds es : List PyData}, RgAll Av H vs ds → RgAll Av H ws es → RgAll Av H (vs ++ ws) (ds ++ es)
  | _, _, _, _, .nil, r => r
  | _, _, _, _, .cons h r, t => .cons h (RgAll.append r t)
theorem RgAll.snoc {Av : Addr → Prop} {H : Hp} {vs : List V} {ds : List PyData} {v : V} {d : PyData} (r : RgAll Av H vs ds) (h : Rg Av H v d) : RgAll Av H (vs ++ [v]) (ds ++ [d]) := r.append (.cons h .nil)
theorem RgAll.strs {Av : Addr → Prop} {H : Hp} : ∀ ws : List Str, RgAll Av H (ws.map V.str) (ws.map PyData.str)
  | [] => .nil
  | w :: ws => .cons (.str w) (RgAll.strs ws)
/-! ### what rows are drawn -/
def nmOk (z : Str) : Prop := nameL z.cps.toList = true
def ptOk (z : Str) : Prop := ∃ ws : List Str, z = Txt.join "." ws ∧ 1 ≤ ws.length ∧ ws.length ≤ 4 ∧ ∀ w ∈ ws, nmOk w
def greatW : List Str := ["NOMODULE", "NONAME", "HALF", "FLAT", "NOTASK", "ALL"]
def wdsOk (ws : List Str) : Prop := ws.length ≤ 3 ∧ ws.Nodup ∧ ∀ w ∈ ws, w ∈ greatW ∨ nmOk w
inductive LineOk : PyData → Prop
  | set {z : Str} {n : Int} : nmOk z → n.natAbs < 10 ^ 60 → LineOk (.tuple [.str "set", .str z, .int n])
  | road {w z p : Str} : w ∈ (["now", "take", "late", "ask"] : List Str) → nmOk z → ptOk p → LineOk (.tuple [.str w, .str z, .str p])
  | draw {z p y : Str} : nmOk z → ptOk p → nmOk y → LineOk (.tuple [.str "draw", .str z, .str p, .str y])
  | note {p : Str} : ptOk p → LineOk (.tuple [.str "note", .str p])
  | fail {z : Str} : nmOk z → LineOk (.tuple [.str "fail", .str z])
mutual
/-- a row, n tries at most one within another, c rows all counted -/
inductive OkR : Nat → Nat → PyData → Prop
  | line {n : Nat} {d : PyData} : LineOk d → OkR n 1 d
  | tri {n c1 c2 : Nat} {as bs : List PyData} {ws : List Str} : OkRs n c1 as → wdsOk ws → OkRs n c2 bs → OkR (n + 1) (c1 + c2 + 1) (.tuple [.str "try", .tuple as, .tuple (ws.map PyData.str), .tuple bs])
inductive OkRs : Nat → Nat → List PyData → Prop
  | nil {n : Nat} : OkRs n 0 []
  | cons {n c e : Nat} {d : PyData} {ds : List PyData} : OkR n c d → OkRs n e ds → OkRs n (c + e) (d :: ds)
end
theorem OkRs.snoc {n : Nat} : ∀ {c e : Nat} {ds : List PyData} {d : PyData}, OkRs n c ds → OkR n e d → OkRs n (c + e) (ds ++ [d])
  | _, e, _, _, .nil, h => by
    have := OkRs.cons h OkRs.nil
    rw [Nat.add_zero] at this
    rw [Nat.zero_add]
    exact this
  | _, e, _, _, .cons h r, k => by
    rw [Nat.add_assoc]
    exact .cons h (OkRs.snoc r k)
theorem OkRs.len {n : Nat} : ∀ {c : Nat} {ds : List PyData}, OkRs n c ds → ds.length ≤ c
  | _, _, .nil => Nat.le_refl _
  | _, _, .cons h r => by
    have := OkRs.len r
    rw [List.length_cons]
    cases h <;> omega
/-! ### a name's letters -/
theorem nm_len {z : Str} (h : nmOk z) : z.length ≤ 8 ∧ 1 ≤ z.length := by
  have h2 : nameL z.cps.toList = true := h
  unfold nameL at h2
  obtain ⟨h3, _⟩ := Bool.and_eq_true_iff.mp h2
  obtain ⟨h4, h5⟩ := Bool.and_eq_true_iff.mp h3
  have a := of_decide_eq_true h4
  have b := of_decide_eq_true h5
  rw [Array.length_toList] at a b
  exact ⟨b, a⟩
theorem nm_low {z : Str} (h : nmOk z) : ∀ c ∈ z.cps.toList, low c = true := by
  have h2 : nameL z.cps.toList = true := h
  unfold nameL at h2
  exact List.all_eq_true.mp (Bool.and_eq_true_iff.mp h2).2
def lowS (z : Str) : Prop := z.length = 1 ∧ ∀ c ∈ z.cps.toList, low c = true
theorem join0_all {Pr : Nat → Prop} : ∀ {ys : List Str}, (∀ y ∈ ys, ∀ c ∈ y.cps.toList, Pr c) → ∀ c ∈ (Str.join (Str.ofString "") ys).cps.toList, Pr c
  | [], _ => fun c hc => by
    have : c ∈ ([] : List Nat) := hc
    cases this
  | [x], h => h x List.mem_cons_self
  | x :: z :: r, h => fun c hc => by
    have e : (Str.join (Str.ofString "") (x :: z :: r)).cps.toList = (x ++ Str.ofString "").cps.toList ++ (Str.join (Str.ofString "") (z :: r)).cps.toList := TL.tl_append _ _
    have e2 : (x ++ Str.ofString "").cps.toList = x.cps.toList ++ (Str.ofString "").cps.toList := TL.tl_append _ _
    rw [e, e2] at hc
    rcases List.mem_append.mp hc with y | y
    · rcases List.mem_append.mp y with y | y
      · exact h x List.mem_cons_self c y
      · have : (Str.ofString "").cps.toList = [] := by decide +kernel
        rw [this] at y
        cases y
    · exact join0_all (fun y hy => h y (List.mem_cons_of_mem _ hy)) c y
theorem str_add_len (a b : Str) : (a ++ b).length = a.length + b.length := strLen_append a b
theorem join0_len : ∀ (ys : List Str), (Str.join (Str.ofString "") ys).length = (ys.map (·.length)).sum
  | [] => rfl
  | [x] => by simp [Str.join]
  | x :: z :: r => by
    have e : Str.join (Str.ofString "") (x :: z :: r) = (x ++ Str.ofString "") ++ Str.join (Str.ofString "") (z :: r) := rfl
    have e0 : (Str.ofString "").length = 0 := by decide +kernel
    rw [e, str_add_len, str_add_len, e0, join0_len (z :: r), Nat.add_zero]
    simp only [List.map_cons, List.sum_cons]
theorem nm_join {ys : List Str} (h : ∀ y ∈ ys, lowS y) (h1 : 1 ≤ ys.length) (h8 : ys.length ≤ 8) : nmOk (Txt.join (Str.ofString "") ys) := by
  rw [TL.join_eq]
  have hs : ∀ l : List Str, (∀ y ∈ l, lowS y) → (l.map (·.length)).sum = l.length := fun l => by
    induction l with
    | nil => intro _; rfl
    | cons a l ih =>
      intro hh
      rw [List.map_cons, List.sum_cons, ih (fun y hy => hh y (List.mem_cons_of_mem _ hy)), (hh a List.mem_cons_self).1, List.length_cons]
      omega
  have hl : (Str.join (Str.ofString "") ys).cps.toList.length = ys.length := by
    rw [Array.length_toList]
    exact (join0_len ys).trans (hs ys h)
  unfold nmOk nameL
  rw [hl, decide_eq_true h1, decide_eq_true h8, List.all_eq_true.mpr (join0_all fun y hy => (h y hy).2)]
  rfl
theorem abc_low : ∀ d ∈ abc.cps.toList, low d = true := by decide +kernel
end XR
set_option maxHeartbeats 4000000
/-! Bodies as texts: the mathematics. -/
namespace XT2
open PySem PySem.Spec PyProof.Rows L2 HM XW XR K11 SX TL
/-! ### numbers -/
abbrev numT (i : Int) : Str := Str.ofString (toString i)
def numC (i : Int) : List Nat := match i with
  | .ofNat n => numL n
  | .negSucc n => 45 :: numL (n + 1)
theorem tl_numT (i : Int) : tl (numT i) = numC i := by
  cases i with
  | ofNat n => exact tl_num n
  | negSucc n =>
    show (Str.ofString ("-" ++ Nat.repr (n + 1))).cps.toList = 45 :: numL (n + 1)
    rw [signs_ofString]
    show ("-" ++ Nat.repr (n + 1)).toList.map Char.toNat = _
    rw [String.toList_append, List.map_append, Nat.toList_repr]
    rfl
theorem numC_ok (i : Int) : ∀ c ∈ numC i, c = 45 ∨ (48 ≤ c ∧ c ≤ 57) := by
  cases i with
  | ofNat n => exact fun c hc => .inr (numL_digits n c hc)
  | negSucc n =>
    intro c hc
    rcases List.mem_cons.mp hc with z | z
    · exact .inl z
    · exact .inr (numL_digits (n + 1) c z)
theorem numC_len {i : Int} (h : i.natAbs < 10 ^ 60) : (numC i).length ≤ 61 := by
  cases i with
  | ofNat n =>
    have := numL_len (n := n) (k := 60) (by decide) h
    show (numL n).length ≤ 61
    omega
  | negSucc n =>
    have := numL_len (n := n + 1) (k := 60) (by decide) h
    show (numL (n + 1)).length + 1 ≤ 61
    omega
theorem num_back {i : Int} (h : i.natAbs < 10 ^ 60) : intText? (numT i) = some i ∧ (numT i).length ≤ 640 := by
  have hl := numC_len h
  have e := tl_numT i
  have h2 : (numT i).length ≤ 61 := by
    rw [len_tl, e]
    exact hl
  refine ⟨?_, by omega⟩
  cases i with
  | ofNat n => exact int_num (by have : (numL n).length ≤ 61 := hl; omega)
  | negSucc n =>
    have e2 := intText_neg (x := numT (.negSucc n)) (cs := numL (n + 1)) e (numL_digits _) (numL_ne _) (by omega)
    rw [numL_val] at e2
    exact e2
/-! ### rows as lines -/
def partT : PyData → Str
  | .str x => x
  | .int i => numT i
  | _ => Str.ofString ""
abbrev blank : Str := Str.ofString " "
abbrev lf : Str := Str.ofString "\n"
theorem tl_blank : tl blank = [32] := by decide +kernel
theorem tl_lf : tl lf = [10] := by decide +kernel
def lineT (ps : List PyData) : Str := Txt.join blank (ps.map partT)
def caughtT (ws : List Str) : Str := Txt.join blank (Str.ofString "caught" :: ws)
/-- signs that texts of parts may have -/
def goodC (c : Nat) : Prop := c ≠ 32 ∧ c ≠ 10
def goodW (z : Str) : Prop := (∀ c ∈ tl z, goodC c) ∧ z.length ≤ 61
theorem good_nm {z : Str} (h : nmOk z) : goodW z := by
  refine ⟨fun c hc => ?_, by have := (nm_len h).1; omega⟩
  have := nm_low h c hc
  unfold low at this
  obtain ⟨h1, _⟩ := Bool.and_eq_true_iff.mp this
  have h2 := of_decide_eq_true h1
  exact ⟨by omega, by omega⟩
theorem mem_joinL {s : Nat} : ∀ {parts : List (List Nat)} {c : Nat}, c ∈ joinL [s] parts → c = s ∨ ∃ p ∈ parts, c ∈ p
  | [], c, h => by cases h
  | [p], c, h => .inr ⟨p, List.mem_singleton.mpr rfl, h⟩
  | p :: q :: r, c, h => by
    have h2 : c ∈ p ++ ([s] ++ joinL [s] (q :: r)) := h
    rcases List.mem_append.mp h2 with z | z
    · exact .inr ⟨p, List.mem_cons_self, z⟩
    · rcases List.mem_append.mp z with z | z
      · exact .inl (List.mem_singleton.mp z)
      · rcases mem_joinL z with y | ⟨y, hy, hc⟩
        · exact .inl y
        · exact .inr ⟨y, List.mem_cons_of_mem _ hy, hc⟩
theorem tl_dot : tl (Str.ofString ".") = [46] := by decide +kernel
theorem good_pt {z : Str} (h : ptOk z) : goodW z := by
  obtain ⟨ws, rfl, h1, h4, hw⟩ := h
  refine ⟨fun c hc => ?_, ?_⟩
  · rw [join_eq, tl_join, tl_dot] at hc
    rcases mem_joinL hc with y | ⟨p, hp, hc⟩
    · exact ⟨by omega, by omega⟩
    · obtain ⟨z, hz, rfl⟩ := List.mem_map.mp hp
      exact (good_nm (hw z hz)).1 c hc
  · have h := len_join (Str.ofString ".") ws
    have h1 : (Str.ofString ".").length = 1 := by decide +kernel
    have go : ∀ l : List Str, (∀ w ∈ l, nmOk w) → (l.map (·.length)).sum ≤ 8 * l.length := fun l => by
      induction l with
      | nil => intro _; exact Nat.le_refl _
      | cons a l ih =>
        intro hh
        have := (nm_len (hh a List.mem_cons_self)).1
        have := ih fun y hy => hh y (List.mem_cons_of_mem _ hy)
        rw [List.map_cons, List.sum_cons, List.length_cons]
        omega
    have := go ws hw
    rw [h1] at h
    omega
theorem good_num {i : Int} (h : i.natAbs < 10 ^ 60) : goodW (numT i) := by
  refine ⟨fun c hc => ?_, ?_⟩
  · rw [tl_numT] at hc
    rcases numC_ok i c hc with z | z
    · exact ⟨by omega, by omega⟩
    · exact ⟨by omega, by omega⟩
  · rw [len_tl, tl_numT]
    exact numC_len h
theorem good_great : ∀ z ∈ greatW, (∀ c ∈ tl z, goodC c) ∧ z.length ≤ 8 := by
  unfold goodC
  decide +kernel
theorem good_lit : ∀ z ∈ (["set", "now", "take", "late", "ask", "draw", "note", "fail", "caught", "done", "try"] : List Str), (∀ c ∈ tl z, goodC c) ∧ z.length ≤ 6 := by
  unfold goodC
  decide +kernel
def rowWords : List Str := ["set", "now", "take", "late", "ask", "draw", "note", "fail"]
/-- what a line's parts are -/
structure LineF (ps : List PyData) : Prop where
  len : 2 ≤ ps.length ∧ ps.length ≤ 4
  parts : ∀ p ∈ ps, (∃ x, p = .str x) ∨ ∃ i : Int, p = .int i ∧ i.natAbs < 10 ^ 60
  good : ∀ p ∈ ps, goodW (partT p)
  head : ∃ w r, ps = .str w :: r ∧ w ∈ rowWords
  kind : (∃ z n, ps = [.str "set", .str z, .int n] ∧ n.natAbs < 10 ^ 60) ∨ (∃ ws : List Str, ps = ws.map PyData.str ∧ ∃ w r, ws = w :: r ∧ w ≠ Str.ofString "set")
theorem lineF {d : PyData} (h : LineOk d) : ∃ ps, d = .tuple ps ∧ LineF ps := by
  have gl : ∀ {z : Str}, z ∈ (["set", "now", "take", "late", "ask", "draw", "note", "fail", "caught", "done", "try"] : List Str) → goodW z := fun {z} hz => ⟨(good_lit z hz).1, by have := (good_lit z hz).2; omega⟩
  cases h with
  | @set z n hz hn =>
    refine ⟨_, rfl, ⟨by show 2 ≤ 3; decide, by show 3 ≤ 4; decide⟩, fun p hp => ?_, fun p hp => ?_, ⟨_, _, rfl, by decide⟩, .inl ⟨_, _, rfl, hn⟩⟩
    · simp only [List.mem_cons, List.not_mem_nil, or_false] at hp
      rcases hp with rfl | rfl | rfl
      · exact .inl ⟨_, rfl⟩
      · exact .inl ⟨_, rfl⟩
      · exact .inr ⟨_, rfl, hn⟩
    · simp only [List.mem_cons, List.not_mem_nil, or_false] at hp
      rcases hp with rfl | rfl | rfl
      · exact gl (by decide)
      · exact good_nm hz
      · exact good_num hn
  | @road w z p hw hz hp =>
    have hw2 : w ∈ rowWords ∧ w ≠ Str.ofString "set" ∧ w ∈ (["set", "now", "take", "late", "ask", "draw", "note", "fail", "caught", "done", "try"] : List Str) := by
      revert w
      decide
    refine ⟨_, rfl, ⟨by show 2 ≤ 3; decide, by show 3 ≤ 4; decide⟩, fun q hq => ?_, fun q hq => ?_, ⟨_, _, rfl, hw2.1⟩, .inr ⟨[w, z, p], rfl, w, _, rfl, hw2.2.1⟩⟩
    · simp only [List.mem_cons, List.not_mem_nil, or_false] at hq
      rcases hq with rfl | rfl | rfl <;> exact .inl ⟨_, rfl⟩
    · simp only [List.mem_cons, List.not_mem_nil, or_false] at hq
      rcases hq with rfl | rfl | rfl
      · exact gl hw2.2.2
      · exact good_nm hz
      · exact good_pt hp
  | @draw z p y hz hp hy =>
    refine ⟨_, rfl, ⟨by show 2 ≤ 4; decide, by show 4 ≤ 4; decide⟩, fun q hq => ?_, fun q hq => ?_, ⟨_, _, rfl, by decide⟩, .inr ⟨["draw", z, p, y], rfl, _, _, rfl, by decide⟩⟩
    · simp only [List.mem_cons, List.not_mem_nil, or_false] at hq
      rcases hq with rfl | rfl | rfl | rfl <;> exact .inl ⟨_, rfl⟩
    · simp only [List.mem_cons, List.not_mem_nil, or_false] at hq
      rcases hq with rfl | rfl | rfl | rfl
      · exact gl (by decide)
      · exact good_nm hz
      · exact good_pt hp
      · exact good_nm hy
  | @note p hp =>
    refine ⟨_, rfl, ⟨by show 2 ≤ 2; decide, by show 2 ≤ 4; decide⟩, fun q hq => ?_, fun q hq => ?_, ⟨_, _, rfl, by decide⟩, .inr ⟨["note", p], rfl, _, _, rfl, by decide⟩⟩
    · simp only [List.mem_cons, List.not_mem_nil, or_false] at hq
      rcases hq with rfl | rfl <;> exact .inl ⟨_, rfl⟩
    · simp only [List.mem_cons, List.not_mem_nil, or_false] at hq
      rcases hq with rfl | rfl
      · exact gl (by decide)
      · exact good_pt hp
  | @fail z hz =>
    refine ⟨_, rfl, ⟨by show 2 ≤ 2; decide, by show 2 ≤ 4; decide⟩, fun q hq => ?_, fun q hq => ?_, ⟨_, _, rfl, by decide⟩, .inr ⟨["fail", z], rfl, _, _, rfl, by decide⟩⟩
    · simp only [List.mem_cons, List.not_mem_nil, or_false] at hq
      rcases hq with rfl | rfl <;> exact .inl ⟨_, rfl⟩
    · simp only [List.mem_cons, List.not_mem_nil, or_false] at hq
      rcases hq with rfl | rfl
      · exact gl (by decide)
      · exact good_nm hz
theorem blank_k : blank.cps.all (· < 256) = true := by decide +kernel
/-- words with blanks between, split -/
theorem split_words {ws : List Str} (hne : ws ≠ []) (h : ∀ w ∈ ws, ∀ c ∈ tl w, goodC c) : Txt.split (Txt.join blank ws) blank = ws := split_join tl_blank blank_k hne fun p hp hc => (h p hp 32 hc).1 rfl
theorem nolf_words {ws : List Str} (h : ∀ w ∈ ws, ∀ c ∈ tl w, goodC c) : 10 ∉ tl (Txt.join blank ws) := fun hc => by
  rw [join_eq, tl_join, tl_blank] at hc
  rcases mem_joinL hc with y | ⟨p, hp, hc⟩
  · omega
  · obtain ⟨z, hz, rfl⟩ := List.mem_map.mp hp
    exact (h z hz 10 hc).2 rfl
theorem len_words {ws : List Str} {n : Nat} (h : ∀ w ∈ ws, w.length ≤ n) : (Txt.join blank ws).length ≤ (n + 1) * ws.length := by
  have h2 := len_join blank ws
  have h1 : blank.length = 1 := by decide +kernel
  have go : ∀ l : List Str, (∀ w ∈ l, w.length ≤ n) → (l.map (·.length)).sum ≤ n * l.length := fun l => by
    induction l with
    | nil => intro _; exact Nat.zero_le _
    | cons a l ih =>
      intro hh
      have h3 := hh a List.mem_cons_self
      have h4 := ih fun y hy => hh y (List.mem_cons_of_mem _ hy)
      rw [List.map_cons, List.sum_cons, List.length_cons, Nat.mul_succ]
      omega
  have := go ws h
  rw [h1, Nat.mul_one] at h2
  rw [Nat.add_mul, Nat.one_mul]
  omega
theorem map_good {ps : List PyData} (h : LineF ps) : ∀ w ∈ ps.map partT, ∀ c ∈ tl w, goodC c := fun w hw => by
  obtain ⟨p, hp, rfl⟩ := List.mem_map.mp hw
  exact (h.good p hp).1
theorem line_split {ps : List PyData} (h : LineF ps) : Txt.split (lineT ps) blank = ps.map partT := by
  refine split_words (fun e => ?_) (map_good h)
  have := h.len.1
  rw [List.map_eq_nil_iff.mp e] at this
  simp at this
theorem line_nolf {ps : List PyData} (h : LineF ps) : 10 ∉ tl (lineT ps) := nolf_words (map_good h)
theorem line_len {ps : List PyData} (h : LineF ps) : (lineT ps).length ≤ 248 := by
  have := len_words (ws := ps.map partT) (n := 61) fun w hw => by
    obtain ⟨p, hp, rfl⟩ := List.mem_map.mp hw
    exact (h.good p hp).2
  rw [List.length_map] at this
  have h4 := h.len.2
  have : (61 + 1) * ps.length ≤ 62 * 4 := Nat.mul_le_mul_left 62 h4
  unfold lineT
  omega
theorem split_try : Txt.split (Str.ofString "try") blank = [Str.ofString "try"] := by
  have := split_words (ws := [Str.ofString "try"]) (by simp) (fun w hw => by rw [List.mem_singleton.mp hw]; exact (good_lit _ (by decide)).1)
  exact this
theorem line_ne_try {ps : List PyData} (h : LineF ps) : lineT ps ≠ Str.ofString "try" := fun e => by
  have h1 := line_split h
  rw [e, split_try] at h1
  have h2 := congrArg List.length h1
  rw [List.length_map] at h2
  have := h.len.1
  simp at h2
  omega
theorem caught_good {ws : List Str} (h : wdsOk ws) : ∀ w ∈ Str.ofString "caught" :: ws, (∀ c ∈ tl w, goodC c) ∧ w.length ≤ 8 := fun w hw => by
  rcases List.mem_cons.mp hw with rfl | hw
  · exact ⟨(good_lit _ (by decide)).1, by have := (good_lit (Str.ofString "caught") (by decide)).2; omega⟩
  · rcases h.2.2 w hw with z | z
    · exact good_great w z
    · exact ⟨(good_nm z).1, (nm_len z).1⟩
theorem caught_split {ws : List Str} (h : wdsOk ws) : Txt.split (caughtT ws) blank = Str.ofString "caught" :: ws := split_words (by simp) fun w hw => (caught_good h w hw).1
theorem caught_nolf {ws : List Str} (h : wdsOk ws) : 10 ∉ tl (caughtT ws) := nolf_words fun w hw => (caught_good h w hw).1
theorem caught_len {ws : List Str} (h : wdsOk ws) : (caughtT ws).length ≤ 36 := by
  have h1 := len_words (ws := Str.ofString "caught" :: ws) (n := 8) fun w hw => (caught_good h w hw).2
  have h2 := h.1
  rw [List.length_cons] at h1
  have : (8 + 1) * (ws.length + 1) ≤ 9 * 4 := Nat.mul_le_mul_left 9 (by omega)
  unfold caughtT
  omega
mutual
/-- the lines of a row: n tries at most one within another, c rows all counted -/
inductive LnR : Nat → Nat → PyData → List Str → Prop
  | line {n : Nat} {ps : List PyData} : LineF ps → LnR n 1 (.tuple ps) [lineT ps]
  | tri {n c1 c2 : Nat} {as bs : List PyData} {ws la lb : List Str} : LnRs n c1 as la → wdsOk ws → LnRs n c2 bs lb →
      LnR (n + 1) (c1 + c2 + 1) (.tuple [.str "try", .tuple as, .tuple (ws.map PyData.str), .tuple bs]) (Str.ofString "try" :: (la ++ caughtT ws :: (lb ++ [Str.ofString "done"])))
inductive LnRs : Nat → Nat → List PyData → List Str → Prop
  | nil {n : Nat} : LnRs n 0 [] []
  | cons {n c e : Nat} {d : PyData} {ds : List PyData} {l ls : List Str} : LnR n c d l → LnRs n e ds ls → LnRs n (c + e) (d :: ds) (l ++ ls)
end
mutual
theorem lnR_of : ∀ {n c : Nat} {d : PyData}, OkR n c d → ∃ l, LnR n c d l
  | _, _, _, .line h => by
    obtain ⟨ps, rfl, hf⟩ := lineF h
    exact ⟨_, .line hf⟩
  | _, _, _, .tri h1 hw h2 => by
    obtain ⟨la, k1⟩ := lnRs_of h1
    obtain ⟨lb, k2⟩ := lnRs_of h2
    exact ⟨_, .tri k1 hw k2⟩
theorem lnRs_of : ∀ {n c : Nat} {ds : List PyData}, OkRs n c ds → ∃ l, LnRs n c ds l
  | _, _, _, .nil => ⟨_, .nil⟩
  | _, _, _, .cons h1 h2 => by
    obtain ⟨la, k1⟩ := lnR_of h1
    obtain ⟨lb, k2⟩ := lnRs_of h2
    exact ⟨_, .cons k1 k2⟩
end
/-- the text of lines -/
def tx : List Str → List Nat
  | [] => []
  | l :: ls => tl l ++ (10 :: tx ls)
theorem tx_app : ∀ a b : List Str, tx (a ++ b) = tx a ++ tx b
  | [], b => rfl
  | l :: a, b => by
    show tl l ++ (10 :: tx (a ++ b)) = tl l ++ (10 :: tx a) ++ tx b
    rw [tx_app a b]
    simp
mutual
theorem lnR_len : ∀ {n c : Nat} {d : PyData} {l : List Str}, LnR n c d l → (tx l).length ≤ 249 * c ∧ l.length ≤ 3 * c ∧ ∀ z ∈ l, 10 ∉ tl z ∧ z.length ≤ 248
  | _, _, _, _, .line h => by
    have h1 := line_len h
    refine ⟨?_, by simp, fun z hz => ?_⟩
    · show (tl (lineT _) ++ [10]).length ≤ _
      rw [List.length_append, ← len_tl]
      simp
      omega
    · rw [List.mem_singleton.mp hz]
      exact ⟨line_nolf h, h1⟩
  | _, _, _, _, .tri h1 hw h2 => by
    obtain ⟨a1, a2, a3⟩ := lnRs_len h1
    obtain ⟨b1, b2, b3⟩ := lnRs_len h2
    have hc := caught_len hw
    have e3 : (tl (Str.ofString "try")).length = 3 := by decide +kernel
    have e4 : (tl (Str.ofString "done")).length = 4 := by decide +kernel
    refine ⟨?_, ?_, fun z hz => ?_⟩
    · show (tl (Str.ofString "try") ++ (10 :: tx (_ ++ caughtT _ :: (_ ++ [Str.ofString "done"])))).length ≤ _
      rw [tx_app]
      show (tl (Str.ofString "try") ++ (10 :: (tx _ ++ (tl (caughtT _) ++ (10 :: tx (_ ++ [Str.ofString "done"])))))).length ≤ _
      rw [tx_app]
      have e5 : (tx [Str.ofString "done"]).length = 5 := by decide +kernel
      simp only [List.length_append, List.length_cons, e3, e5, ← len_tl]
      omega
    · simp only [List.length_append, List.length_cons, List.length_nil]
      omega
    · simp only [List.mem_cons, List.mem_append, List.not_mem_nil, or_false] at hz
      rcases hz with rfl | hz | rfl | hz | rfl
      · exact ⟨by decide +kernel, by decide +kernel⟩
      · exact a3 z hz
      · exact ⟨caught_nolf hw, by omega⟩
      · exact b3 z hz
      · exact ⟨by decide +kernel, by decide +kernel⟩
theorem lnRs_len : ∀ {n c : Nat} {ds : List PyData} {l : List Str}, LnRs n c ds l → (tx l).length ≤ 249 * c ∧ l.length ≤ 3 * c ∧ ∀ z ∈ l, 10 ∉ tl z ∧ z.length ≤ 248
  | _, _, _, _, .nil => ⟨Nat.le_refl _, Nat.le_refl _, fun z hz => by cases hz⟩
  | _, _, _, _, .cons h1 h2 => by
    obtain ⟨a1, a2, a3⟩ := lnR_len h1
    obtain ⟨b1, b2, b3⟩ := lnRs_len h2
    refine ⟨?_, ?_, fun z hz => ?_⟩
    · rw [tx_app, List.length_append]
      omega
    · rw [List.length_append]
      omega
    · rcases List.mem_append.mp hz with y | y
      · exact a3 z y
      · exact b3 z y
end
/-- lines are found again -/
theorem split_tx : ∀ {ls : List Str}, (∀ z ∈ ls, 10 ∉ tl z) → spl [10] 0 [] (tx ls) = ls.map tl ++ [[]]
  | [], _ => by rw [show tx [] = [] from rfl, spl_nil]; rfl
  | l :: ls, h => by
    show spl [10] 0 [] (tl l ++ ([10] ++ tx ls)) = _
    rw [spl_part1 (S := []) (h l List.mem_cons_self), split_tx fun z hz => h z (List.mem_cons_of_mem _ hz)]
    rfl
theorem S_tl (z : Str) : S (tl z) = z := mk_tl z
theorem lines_split {ls : List Str} (h : ∀ z ∈ ls, 10 ∉ tl z) : Txt.split (S (tx ls)) lf = ls ++ [Str.ofString ""] := by
  have e : lf = S [10] := by decide +kernel
  rw [e, split_S (by simp) (by decide), split_tx h, List.map_append, List.map_map]
  have e2 : (S ∘ tl) = (id : Str → Str) := funext S_tl
  rw [e2, List.map_id]
  rfl
/-- the first word of a line that begins no row -/
def noRow (z : Str) : Prop := ∃ w r, Txt.split z blank = w :: r ∧ w ∈ (["", "caught", "done"] : List Str)
def someRow (z : Str) : Prop := ∃ w r, Txt.split z blank = w :: r ∧ w ∉ (["", "caught", "done"] : List Str)
theorem noRow_caught {ws : List Str} (h : wdsOk ws) : noRow (caughtT ws) := ⟨_, _, caught_split h, by decide⟩
theorem noRow_done : noRow (Str.ofString "done") := by
  have e := split_words (ws := [Str.ofString "done"]) (by simp) (fun w hw => by rw [List.mem_singleton.mp hw]; exact (good_lit _ (by decide)).1)
  exact ⟨_, _, e, by decide⟩
theorem noRow_nil : noRow (Str.ofString "") := by
  have e := split_words (ws := [Str.ofString ""]) (by simp) (fun w hw => by
    rw [List.mem_singleton.mp hw]
    intro c hc
    have : tl (Str.ofString "") = [] := by decide +kernel
    rw [this] at hc
    cases hc)
  exact ⟨_, _, e, by decide⟩
theorem someRow_try : someRow (Str.ofString "try") := ⟨_, _, split_try, by decide⟩
theorem rowWords_some : ∀ w ∈ rowWords, w ∉ (["", "caught", "done"] : List Str) := by decide
theorem someRow_line {ps : List PyData} (h : LineF ps) : someRow (lineT ps) := by
  obtain ⟨w, r, e, hw⟩ := h.head
  refine ⟨w, r.map partT, ?_, rowWords_some w hw⟩
  rw [line_split h, e]
  rfl
/-! ### texts by their signs -/
theorem S_app (a b : List Nat) : S a ++ S b = S (a ++ b) := ext_tl (tl_append _ _)
theorem join0_S : ∀ ls : List (List Nat), Txt.join (Str.ofString "") (ls.map S) = S ls.flatten := fun ls => by
  rw [join_eq]
  refine ext_tl ?_
  rw [tl_join]
  have e : tl (Str.ofString "") = [] := by decide +kernel
  rw [e, List.map_map]
  have e2 : (tl ∘ S) = (id : List Nat → List Nat) := funext fun a => by simp [S, tl]
  rw [e2, List.map_id]
  show joinL [] ls = ls.flatten
  have go : ∀ l : List (List Nat), joinL [] l = l.flatten := fun l => by
    induction l with
    | nil => rfl
    | cons a l ih =>
      cases l with
      | nil => simp [joinL]
      | cons b r =>
        show a ++ ([] ++ joinL [] (b :: r)) = _
        rw [ih]
        simp
  exact go ls
end XT2
set_option maxHeartbeats 4000000
/-! for a, b, c in zip(xs, ys, zs): three lists. -/
namespace Z3
open PySem PySem.Spec PyProof.Rows L2
abbrev Is3 (h : Heap) (T : Addr) (a b c : Value) : Prop := h.get? T = some { cls := .type "tuple", data := .seq #[a, b, c] }
structure Ap (z TI TO i1 i2 i3 l1 l2 l3 : Addr) : Prop where
  a1 : TI ≠ z ∧ TO ≠ z ∧ i1 ≠ z ∧ i2 ≠ z ∧ i3 ≠ z
  a2 : TI ≠ TO ∧ TI ≠ i1 ∧ TI ≠ i2 ∧ TI ≠ i3
  a3 : TO ≠ i1 ∧ TO ≠ i2 ∧ TO ≠ i3
  a4 : i1 ≠ i2 ∧ i1 ≠ i3 ∧ i2 ≠ i3
  b1 : l1 ≠ z ∧ l1 ≠ TO ∧ l1 ≠ i1 ∧ l1 ≠ i2 ∧ l1 ≠ i3
  b2 : l2 ≠ z ∧ l2 ≠ TO ∧ l2 ≠ i1 ∧ l2 ≠ i2 ∧ l2 ≠ i3
  b3 : l3 ≠ z ∧ l3 ≠ TO ∧ l3 ≠ i1 ∧ l3 ≠ i2 ∧ l3 ≠ i3
theorem call3 (a b c : Value) : checkTypeCall "zip" ⟨[a, b, c], []⟩ = pure () := by kernel_rfl
theorem new3 (a b c : Value) : checkBuiltinCall "zip.__new__" ⟨[.type "zip", a, b, c], []⟩ = pure () := by kernel_rfl
theorem init4 (a b c d : Value) : argsOk "object.__init__" ⟨[a, b, c, d], []⟩ := by
  unfold argsOk; rw [signature?_of (id := "object.__init__") (n := ['_', '_', 't', 'i', 'n', 'i', '_', '_']) (o := ['t', 'c', 'e', 'j', 'b', 'o']) (by kernel_rfl) F.owner_object]; kernel_rfl
section
variable {prog : Program} {w : World} {A : Around} {E : Value → Shared → Prop} {s : Shared}
theorem put3 {T : Addr} {a b c x : Value} {k : Nat} {Q : Unit → Shared → Prop} (hT : Is3 s.heap T a b c)
    (h : ∀ h', h'.get? T = some { cls := .type "tuple", data := .seq ((#[a, b, c] : Array Value).setIfInBounds k x) } → Heap.SameBut T s.heap h' → Q () { s with heap := h' }) : wpAny (model prog w) A (updateSeq T (·.setIfInBounds k x)) Q E s := by
  refine wpAny_updateSeq hT rfl (h _ (by rw [Heap.get?_update_self _ hT rfl]; simp [Obj.mapSeq]) (Heap.SameBut.update ..))
/-- an item's slot is filled -/
theorem next_item {z TI TO i1 i2 i3 l1 l2 l3 : Addr} {k : Nat} {xs ys zs : Array Value} {x y v a b c : Value} {Q : Value → Shared → Prop} (D : Ap z TI TO i1 i2 i3 l1 l2 l3)
    (hz : IsZip s.heap z TI TO .none) (pI : Is3 s.heap TI (.ref i1) (.ref i2) (.ref i3)) (pO : Is3 s.heap TO a b c) (j1 : s.heap.IsListIter i1 l1 k) (j2 : s.heap.IsListIter i2 l2 k) (j3 : s.heap.IsListIter i3 l3 k)
    (m1 : s.heap.IsList l1 xs) (m2 : s.heap.IsList l2 ys) (m3 : s.heap.IsList l3 zs) (hx : xs[k]? = some x) (hy : ys[k]? = some y) (hv : zs[k]? = some v)
    (hQ : ∀ h', IsZip h' z TI TO (rawInt s.heap.objs.size) → Is3 h' TO x y v → h'.IsListIter i1 l1 (k + 1) → h'.IsListIter i2 l2 (k + 1) → h'.IsListIter i3 l3 (k + 1) → Is3 h' s.heap.objs.size x y v → h'.objs.size = s.heap.objs.size + 1 →
      (∀ d o, d ≠ z → d ≠ TO → d ≠ i1 → d ≠ i2 → d ≠ i3 → s.heap.get? d = some o → h'.get? d = some o) → Q (.ref s.heap.objs.size) { s with heap := h' }) :
    wpAny (model prog w) A (Builtin.«zip.__next__» ⟨[.ref z], []⟩) (fun fin s' => ∃ u, fin = .done (.ret u) ∧ Q u s') E s := by
  obtain ⟨⟨TIz, TOz, i1z, i2z, i3z⟩, ⟨TITO, TIi1, TIi2, TIi3⟩, ⟨TOi1, TOi2, TOi3⟩, ⟨i12, i13, i23⟩, ⟨l1z, l1O, l11, l12, l13⟩, ⟨l2z, l2O, l21, l22, l23⟩, ⟨l3z, l3O, l31, l32, l33⟩⟩ := D
  show wpAny _ _ (field (.ref z) 2 >>= _) _ _ _; refine wpAny_bind (wpAny_field hz rfl (x := .bool false) rfl ?_)
  show wpAny _ _ (field (.ref z) 3 >>= _) _ _ _; refine wpAny_bind (wpAny_field hz rfl (x := .ref TI) rfl ?_)
  refine wpAny_bind (wpAny_seqItems pI rfl ?_); show wpAny _ _ (Builtin.SmallTypes.ownedTupleIsFree (.ref z) >>= _) _ _ _
  refine wpAny_bind ?_; unfold Builtin.SmallTypes.ownedTupleIsFree
  refine wpAny_bind (wpAny_field hz rfl (x := .none) rfl (wpAny_pure ?_)); simp only [if_true]
  refine wpAny_bind (wpAny_rule ?_); refine wpAny_bind (wpAny_field hz rfl (x := .ref TO) rfl ?_)
  refine wpAny_bind (wpAny_setField_rec hz (by simp) fun g1 z1 s1 => ?_); replace z1 : IsZip g1 z TI TO .ellipsis := z1
  refine wpAny_bind ?_; simp only [List.zipIdx_cons, List.zipIdx_nil, List.forIn_cons, List.forIn_nil]
  -- the first
  refine wpAny_bind (wpAny_bind (wpAny_onRaise ?_)); show wpAny _ _ (Builtin.SmallTypes.nextOf (.ref i1) >>= _) _ _ _
  refine wpAny_bind (wpAny_nextOf_list_item (j1.extBut s1.extBut i1z) (m1.extBut s1.extBut l1z) hx fun g2 n1 s2 => wpAny_pure ?_)
  have o2 : Is3 g2 TO a b c := s2.extBut _ _ TOi1 (s1.extBut _ _ TOz pO)
  refine wpAny_bind (wpAny_seqItems o2 rfl ?_); refine wpAny_bind (put3 o2 fun g3 o3 s3 => ?_); replace o3 : Is3 g3 TO x b c := o3
  refine wpAny_bind (wpAny_letGo (wpAny_pure ?_))
  -- the second
  refine wpAny_bind (wpAny_bind (wpAny_onRaise ?_)); show wpAny _ _ (Builtin.SmallTypes.nextOf (.ref i2) >>= _) _ _ _
  refine wpAny_bind (wpAny_nextOf_list_item (((j2.extBut s1.extBut i2z).extBut s2.extBut (Ne.symm i12)).extBut s3.extBut (Ne.symm TOi2)) (((m2.extBut s1.extBut l2z).extBut s2.extBut l21).extBut s3.extBut l2O) hy fun g4 n2 s4 => wpAny_pure ?_)
  have o4 : Is3 g4 TO x b c := s4.extBut _ _ TOi2 o3
  refine wpAny_bind (wpAny_seqItems o4 rfl ?_); refine wpAny_bind (put3 o4 fun g5 o5 s5 => ?_); replace o5 : Is3 g5 TO x y c := o5
  refine wpAny_bind (wpAny_letGo (wpAny_pure ?_))
  -- the third
  refine wpAny_bind (wpAny_bind (wpAny_onRaise ?_)); show wpAny _ _ (Builtin.SmallTypes.nextOf (.ref i3) >>= _) _ _ _
  refine wpAny_bind (wpAny_nextOf_list_item (((((j3.extBut s1.extBut i3z).extBut s2.extBut (Ne.symm i13)).extBut s3.extBut (Ne.symm TOi3)).extBut s4.extBut (Ne.symm i23)).extBut s5.extBut (Ne.symm TOi3)) (((((m3.extBut s1.extBut l3z).extBut s2.extBut l31).extBut s3.extBut l3O).extBut s4.extBut l32).extBut s5.extBut l3O) hv fun g6 n3 s6 => wpAny_pure ?_)
  have o6 : Is3 g6 TO x y c := s6.extBut _ _ TOi3 o5
  refine wpAny_bind (wpAny_seqItems o6 rfl ?_); refine wpAny_bind (put3 o6 fun g7 o7 s7 => ?_); replace o7 : Is3 g7 TO x y v := o7
  refine wpAny_bind (wpAny_letGo (wpAny_pure (wpAny_pure ?_)))
  refine wpAny_bind (wpAny_seqItems o7 rfl ?_); refine wpAny_bind (wpAny_newTuple ?_)
  have size7 : g7.objs.size = s.heap.objs.size := by rw [s7.1, s6.1, s5.1, s4.1, s3.1, s2.1, s1.1]
  have z7 : IsZip g7 z TI TO .ellipsis := s7.extBut _ _ (Ne.symm TOz) (s6.extBut _ _ (Ne.symm i3z) (s5.extBut _ _ (Ne.symm TOz) (s4.extBut _ _ (Ne.symm i2z) (s3.extBut _ _ (Ne.symm TOz) (s2.extBut _ _ (Ne.symm i1z) z1)))))
  have keep7 : ∀ d o, d ≠ z → d ≠ TO → d ≠ i1 → d ≠ i2 → d ≠ i3 → s.heap.get? d = some o → g7.get? d = some o := fun d o d1 d2 d3 d4 d5 e =>
    s7.extBut _ _ d2 (s6.extBut _ _ d5 (s5.extBut _ _ d2 (s4.extBut _ _ d4 (s3.extBut _ _ d2 (s2.extBut _ _ d3 (s1.extBut _ _ d1 e))))))
  have n1' : g7.IsListIter i1 l1 (k + 1) := ((((n1.extBut s3.extBut (Ne.symm TOi1)).extBut s4.extBut i12).extBut s5.extBut (Ne.symm TOi1)).extBut s6.extBut i13).extBut s7.extBut (Ne.symm TOi1)
  have n2' : g7.IsListIter i2 l2 (k + 1) := ((n2.extBut s5.extBut (Ne.symm TOi2)).extBut s6.extBut i23).extBut s7.extBut (Ne.symm TOi2)
  have n3' : g7.IsListIter i3 l3 (k + 1) := n3.extBut s7.extBut (Ne.symm TOi3)
  have zlt : z < g7.objs.size := Heap.lt_size z7
  show wpAny _ _ (Builtin.SmallTypes.ownedTupleHandOut (.ref z) (.ref g7.objs.size) >>= _) _ _ _
  refine wpAny_bind ?_; unfold Builtin.SmallTypes.ownedTupleHandOut
  have z8 : IsZip (g7.push { cls := .type "tuple", data := .seq #[x, y, v] }) z TI TO .ellipsis := Heap.get?_push_of_some _ z7
  refine wpAny_bind (wpAny_setField_rec z8 (by simp) fun g9 z9 s9 => ?_); replace z9 : IsZip g9 z TI TO (rawInt g7.objs.size) := z9
  refine wpAny_setField_rec z9 (by simp) fun g10 z10 s10 => ?_; replace z10 : IsZip g10 z TI TO (rawInt g7.objs.size) := z10
  have up : ∀ d o, d ≠ z → g7.get? d = some o → g10.get? d = some o := fun d o d1 e => s10.extBut _ _ d1 (s9.extBut _ _ d1 (Heap.get?_push_of_some _ e))
  have t10 : Is3 g10 g7.objs.size x y v := s10.extBut _ _ (Nat.ne_of_gt zlt) (s9.extBut _ _ (Nat.ne_of_gt zlt) (Heap.get?_push_size _ rfl))
  have size10 : g10.objs.size = g7.objs.size + 1 := by rw [s10.1, s9.1, Heap.size_push]
  rw [size7] at z10 t10 size10; refine wpAny_pure ⟨_, rfl, ?_⟩; show Q (.ref g7.objs.size) _; rw [size7]
  exact hQ g10 z10 (up _ _ TOz o7) (n1'.at fun o e => up _ o i1z e) (n2'.at fun o e => up _ o i2z e) (n3'.at fun o e => up _ o i3z e) t10 size10 fun d o d1 d2 d3 d4 d5 e => up d o d1 (keep7 d o d1 d2 d3 d4 d5 e)
/-- all three lists end at once: the first one tells it -/
theorem next_end {z TI TO i1 i2 i3 l1 l2 l3 : Addr} {k : Nat} {xs : Array Value} {Q : Fin → Shared → Prop} (hh : A.handled = none) (D : Ap z TI TO i1 i2 i3 l1 l2 l3)
    (hz : IsZip s.heap z TI TO .none) (pI : Is3 s.heap TI (.ref i1) (.ref i2) (.ref i3)) (j1 : s.heap.IsListIter i1 l1 k) (m1 : s.heap.IsList l1 xs) (hx : xs[k]? = none)
    (hE : ∀ h' e, (∀ d o, d ≠ z → d ≠ i1 → s.heap.get? d = some o → h'.get? d = some o) → (∃ o, h'.get? e = some o ∧ o.cls = .type "StopIteration") → E (.ref e) { s with heap := h' }) :
    wpAny (model prog w) A (Builtin.«zip.__next__» ⟨[.ref z], []⟩) Q E s := by
  obtain ⟨⟨TIz, TOz, i1z, i2z, i3z⟩, ⟨TITO, TIi1, TIi2, TIi3⟩, ⟨TOi1, TOi2, TOi3⟩, ⟨i12, i13, i23⟩, ⟨l1z, l1O, l11, l12, l13⟩, ⟨l2z, l2O, l21, l22, l23⟩, ⟨l3z, l3O, l31, l32, l33⟩⟩ := D
  show wpAny _ _ (field (.ref z) 2 >>= _) _ _ _; refine wpAny_bind (wpAny_field hz rfl (x := .bool false) rfl ?_)
  show wpAny _ _ (field (.ref z) 3 >>= _) _ _ _; refine wpAny_bind (wpAny_field hz rfl (x := .ref TI) rfl ?_)
  refine wpAny_bind (wpAny_seqItems pI rfl ?_); show wpAny _ _ (Builtin.SmallTypes.ownedTupleIsFree (.ref z) >>= _) _ _ _
  refine wpAny_bind ?_; unfold Builtin.SmallTypes.ownedTupleIsFree
  refine wpAny_bind (wpAny_field hz rfl (x := .none) rfl (wpAny_pure ?_)); simp only [if_true]
  refine wpAny_bind (wpAny_rule ?_); refine wpAny_bind (wpAny_field hz rfl (x := .ref TO) rfl ?_)
  refine wpAny_bind (wpAny_setField_rec hz (by simp) fun g1 z1 s1 => ?_); replace z1 : IsZip g1 z TI TO .ellipsis := z1
  refine wpAny_bind ?_; simp only [List.zipIdx_cons, List.zipIdx_nil, List.forIn_cons, List.forIn_nil]
  refine wpAny_bind (wpAny_bind (wpAny_onRaise ?_)); show wpAny _ _ (Builtin.SmallTypes.nextOf (.ref i1) >>= _) _ _ _
  refine wpAny_bind (wpAny_nextOf_list_end hh (j1.extBut s1.extBut i1z) (m1.extBut s1.extBut l1z) hx fun g2 e s2 he => ?_)
  obtain ⟨oe, eo, ec⟩ := he
  have z2 : IsZip g2 z TI TO .ellipsis := s2 _ _ (Ne.symm i1z) z1
  have ez : e ≠ z := fun q => by subst q; rw [z2] at eo; cases eo; simp at ec
  exact wpAny_setField_rec z2 (by simp) fun g3 _ s3 => hE g3 e (fun d o d1 d3 q => s3.extBut _ _ d1 (s2 _ _ d3 (s1.extBut _ _ d1 q))) ⟨oe, s3.extBut _ _ ez eo, ec⟩
abbrev zo : Obj := { cls := .type "tuple", data := .seq #[.none, .none, .none] }
abbrev li (l : Addr) : Obj := { cls := .type "list_iterator", data := .fields #[.ref l, .int 0 0] }
abbrev P1 (h : Heap) (l1 : Addr) : Heap := h.push (li l1)
abbrev P2 (h : Heap) (l1 l2 : Addr) : Heap := (P1 h l1).push (li l2)
abbrev P3 (h : Heap) (l1 l2 l3 : Addr) : Heap := (P2 h l1 l2).push (li l3)
abbrev P4 (h : Heap) (l1 l2 l3 : Addr) : Heap := (P3 h l1 l2 l3).push { cls := .type "tuple", data := .seq #[.ref h.objs.size, .ref (P1 h l1).objs.size, .ref (P2 h l1 l2).objs.size] }
abbrev P5 (h : Heap) (l1 l2 l3 : Addr) : Heap := (P4 h l1 l2 l3).push zo
abbrev P6 (h : Heap) (l1 l2 l3 : Addr) : Heap := (P5 h l1 l2 l3).push { cls := .type "zip", data := .fields #[.none, .bool false, .bool false, .ref (P3 h l1 l2 l3).objs.size, .ref (P4 h l1 l2 l3).objs.size] }
theorem meets_new (l1 l2 l3 : Addr) (xs ys zs : Array Value) : Meets (Builtin.«zip.__new__» ⟨[.type "zip", .ref l1, .ref l2, .ref l3], []⟩) (fun _ R s => s.heap.IsList l1 xs ∧ s.heap.IsList l2 ys ∧ s.heap.IsList l3 zs ∧
      R (.ok (.ret (.ref (P5 s.heap l1 l2 l3).objs.size))) { s with heap := P6 s.heap l1 l2 l3 }) :=
  .of_wp fun prog w A R s h => by
    obtain ⟨hp, g, d, tk, os⟩ := s; obtain ⟨q1, q2, q3, h⟩ := h
    have hsub := sub_zip
    have L1 : Heap.IsList (Shared.heap ⟨hp, g, d, tk, os⟩) l1 xs := q1
    have L2 : Heap.IsList (Shared.heap ⟨hp.push (li l1), g, d, tk, os⟩) l2 ys := Heap.IsList.push q2 _
    have L3 : Heap.IsList (Shared.heap ⟨(hp.push (li l1)).push (li l2), g, d, tk, os⟩) l3 zs := Heap.IsList.push (Heap.IsList.push q3 _) _
    wp_walk using wpAny_pyIter_list L1, wpAny_pyIter_list L2, wpAny_pyIter_list L3
    exact ⟨_, rfl, h⟩
theorem call_zip3 {l1 l2 l3 : Addr} {xs ys zs : Array Value} {Q : Value → Shared → Prop} (q1 : s.heap.IsList l1 xs) (q2 : s.heap.IsList l2 ys) (q3 : s.heap.IsList l3 zs)
    (h : ∀ h', IsZip h' (s.heap.objs.size + 5) (s.heap.objs.size + 3) (s.heap.objs.size + 4) .none → Is3 h' (s.heap.objs.size + 3) (.ref s.heap.objs.size) (.ref (s.heap.objs.size + 1)) (.ref (s.heap.objs.size + 2)) →
      Is3 h' (s.heap.objs.size + 4) .none .none .none → h'.IsListIter s.heap.objs.size l1 0 → h'.IsListIter (s.heap.objs.size + 1) l2 0 → h'.IsListIter (s.heap.objs.size + 2) l3 0 →
      (∀ d o, s.heap.get? d = some o → h'.get? d = some o) → Q (.ref (s.heap.objs.size + 5)) { s with heap := h' }) : wpAny (model prog w) A (call (.type "zip") [.ref l1, .ref l2, .ref l3]) Q E s := by
  refine callType_new F.called_zip (by decide) (call3 _ _ _) (new3 _ _ _) (fun obj => init4 obj _ _ _) F.entry_zip_new (meets_new l1 l2 l3 xs ys zs) ⟨q1, q2, q3, ?_⟩
  have z1 : (P1 s.heap l1).objs.size = s.heap.objs.size + 1 := Heap.size_push ..
  have z2 : (P2 s.heap l1 l2).objs.size = s.heap.objs.size + 2 := by rw [Heap.size_push, z1]
  have z3 : (P3 s.heap l1 l2 l3).objs.size = s.heap.objs.size + 3 := by rw [Heap.size_push, z2]
  have z4 : (P4 s.heap l1 l2 l3).objs.size = s.heap.objs.size + 4 := by rw [Heap.size_push, z3]
  have z5 : (P5 s.heap l1 l2 l3).objs.size = s.heap.objs.size + 5 := by rw [Heap.size_push, z4]
  have g6 : (P6 s.heap l1 l2 l3).get? (P5 s.heap l1 l2 l3).objs.size = some _ := Heap.get?_push_size _ rfl
  have g5 : (P6 s.heap l1 l2 l3).get? (P4 s.heap l1 l2 l3).objs.size = some _ := Heap.get?_push_of_some _ (Heap.get?_push_size _ rfl)
  have g4 : (P6 s.heap l1 l2 l3).get? (P3 s.heap l1 l2 l3).objs.size = some _ := Heap.get?_push_of_some _ (Heap.get?_push_of_some _ (Heap.get?_push_size _ rfl))
  have g3 : (P6 s.heap l1 l2 l3).get? (P2 s.heap l1 l2).objs.size = some _ := Heap.get?_push_of_some _ (Heap.get?_push_of_some _ (Heap.get?_push_of_some _ (Heap.get?_push_size _ rfl)))
  have g2 : (P6 s.heap l1 l2 l3).get? (P1 s.heap l1).objs.size = some _ := Heap.get?_push_of_some _ (Heap.get?_push_of_some _ (Heap.get?_push_of_some _ (Heap.get?_push_of_some _ (Heap.get?_push_size _ rfl))))
  have g1 : (P6 s.heap l1 l2 l3).get? s.heap.objs.size = some _ := Heap.get?_push_of_some _ (Heap.get?_push_of_some _ (Heap.get?_push_of_some _ (Heap.get?_push_of_some _ (Heap.get?_push_of_some _ (Heap.get?_push_size _ rfl)))))
  show _ ∧ _
  rw [z3, z4, z5] at g6
  rw [z1, z2, z3] at g4
  rw [z4] at g5
  rw [z2] at g3
  rw [z1] at g2
  rw [z5]
  exact ⟨⟨_, g6, rfl⟩, h _ g6 g4 g5 ⟨_, g1, rfl, rfl⟩ ⟨_, g2, rfl, rfl⟩ ⟨_, g3, rfl, rfl⟩ fun d o q => Heap.get?_push_of_some _ (Heap.get?_push_of_some _ (Heap.get?_push_of_some _ (Heap.get?_push_of_some _ (Heap.get?_push_of_some _ (Heap.get?_push_of_some _ q)))))⟩
theorem pn_item {z TI TO i1 i2 i3 l1 l2 l3 : Addr} {k : Nat} {xs ys zs : Array Value} {x y v a b c : Value} {Q : Option Value → Shared → Prop} (D : Ap z TI TO i1 i2 i3 l1 l2 l3)
    (hz : IsZip s.heap z TI TO .none) (pI : Is3 s.heap TI (.ref i1) (.ref i2) (.ref i3)) (pO : Is3 s.heap TO a b c) (j1 : s.heap.IsListIter i1 l1 k) (j2 : s.heap.IsListIter i2 l2 k) (j3 : s.heap.IsListIter i3 l3 k)
    (m1 : s.heap.IsList l1 xs) (m2 : s.heap.IsList l2 ys) (m3 : s.heap.IsList l3 zs) (hx : xs[k]? = some x) (hy : ys[k]? = some y) (hv : zs[k]? = some v)
    (hQ : ∀ h', IsZip h' z TI TO (rawInt s.heap.objs.size) → Is3 h' TO x y v → h'.IsListIter i1 l1 (k + 1) → h'.IsListIter i2 l2 (k + 1) → h'.IsListIter i3 l3 (k + 1) → Is3 h' s.heap.objs.size x y v → h'.objs.size = s.heap.objs.size + 1 →
      (∀ d o, d ≠ z → d ≠ TO → d ≠ i1 → d ≠ i2 → d ≠ i3 → s.heap.get? d = some o → h'.get? d = some o) → Q (some (.ref s.heap.objs.size)) { s with heap := h' }) : wpAny (model prog w) A (pyNext (.ref z)) Q E s := by
  have hT : s.TypeIs (.ref z) "zip" := ⟨_, hz, rfl⟩
  unfold pyNext
  exact wpAny_bind (wpAny_attempt (wpAny_callSpecial?_slot (name := Str.ofString "__next__") hT F.slot_zip_next (wpAny_call_entry F.slot_zip_next hT F.entry_zip_next
      (next_item D hz pI pO j1 j2 j3 m1 m2 m3 hx hy hv fun h' a1 a2 a3 a4 a5 a6 a7 a8 => wpAny_pure (hQ h' a1 a2 a3 a4 a5 a6 a7 a8)) (F.args_zip_next_1 _))))
theorem pn_end {z TI TO i1 i2 i3 l1 l2 l3 : Addr} {k : Nat} {xs : Array Value} {Q : Option Value → Shared → Prop} (hh : A.handled = none) (D : Ap z TI TO i1 i2 i3 l1 l2 l3)
    (hz : IsZip s.heap z TI TO .none) (pI : Is3 s.heap TI (.ref i1) (.ref i2) (.ref i3)) (j1 : s.heap.IsListIter i1 l1 k) (m1 : s.heap.IsList l1 xs) (hx : xs[k]? = none)
    (hQ : ∀ h', (∀ d o, d ≠ z → d ≠ i1 → s.heap.get? d = some o → h'.get? d = some o) → Q none { s with heap := h' }) : wpAny (model prog w) A (pyNext (.ref z)) Q E s := by
  have hT : s.TypeIs (.ref z) "zip" := ⟨_, hz, rfl⟩
  unfold pyNext
  refine wpAny_bind (wpAny_attempt (wpAny_callSpecial?_slot (name := Str.ofString "__next__") hT F.slot_zip_next (wpAny_call_entry F.slot_zip_next hT F.entry_zip_next (next_end hh D hz pI j1 m1 hx fun h' e hk he => ?_) (F.args_zip_next_1 _))))
  obtain ⟨o, ho, hc⟩ := he
  exact wpAny_bind (wpAny_isInstance (T := "StopIteration") (b := true) ⟨o, ho, hc⟩ isSubtype_stop (wpAny_pure (hQ _ hk)))
end
/-- the lists at a, b and c as they stand at each turn, of one length, the items in new triples -/
def It3 (K : PySem.W.Frag) (a b c : Addr) : It :=
  ⟨fun i H => ∃ (xs ys zs : List V) (x y v : V), SqL K H a xs ∧ SqL K H b ys ∧ SqL K H c zs ∧ xs[i]? = some x ∧ ys[i]? = some y ∧ zs[i]? = some v,
    fun i H u H' => ∃ T x y v, u = .ref T ∧ H T = none ∧ H' = upd H T (.tup [x, y, v]) ∧ (∀ xs, SqL K H a xs → xs[i]? = some x) ∧ (∀ ys, SqL K H b ys → ys[i]? = some y) ∧ ∀ zs, SqL K H c zs → zs[i]? = some v,
    fun i H => ∃ xs : List V, SqL K H a xs ∧ xs.length ≤ i⟩
theorem turn_zip3 {P : Program} {w : World} {K : PySem.W.Frag} {elts : List Expr} {kk : Nat} {tpos : Pos} {a b c z TI TO i1 i2 i3 : Addr} (D : Ap z TI TO i1 i2 i3 a b c) :
    Turn P w K (.Tuple elts kk tpos) (It3 K a b c) [z, TI, TO, i1, i2, i3] z (fun i h => IsZip h z TI TO .none ∧ Is3 h TI (.ref i1) (.ref i2) (.ref i3) ∧ (∃ x y v, Is3 h TO x y v) ∧ h.IsListIter i1 a i ∧ h.IsListIter i2 b i ∧ h.IsListIter i3 c i) where
  mem := by simp
  obj := fun i h st d hd => by
    obtain ⟨hz, pI, ⟨x, y, v, pO⟩, ⟨o1, e1, _, d1⟩, ⟨o2, e2, _, d2⟩, ⟨o3, e3, _, d3⟩⟩ := st
    have e' : d = z ∨ d = TI ∨ d = TO ∨ d = i1 ∨ d = i2 ∨ d = i3 := by simpa using hd
    rcases e' with rfl | rfl | rfl | rfl | rfl | rfl
    · exact ⟨_, hz, fun v q => nomatch q⟩
    · exact ⟨_, pI, fun v q => nomatch q⟩
    · exact ⟨_, pO, fun v q => nomatch q⟩
    · exact ⟨o1, e1, fun v q => by rw [d1] at q; cases q⟩
    · exact ⟨o2, e2, fun v q => by rw [d2] at q; cases q⟩
    · exact ⟨o3, e3, fun v q => by rw [d3] at q; cases q⟩
  keep := fun i h h' st k => by
    obtain ⟨hz, pI, ⟨x, y, v, pO⟩, j1, j2, j3⟩ := st
    exact ⟨k z (by simp) _ hz, k TI (by simp) _ pI, ⟨x, y, v, k TO (by simp) _ pO⟩, j1.at fun o q => k i1 (by simp) o q, j2.at fun o q => k i2 (by simp) o q, j3.at fun o q => k i3 (by simp) o q⟩
  item := by
    intro X hP hw hK hc i pins s σ H E I hf st hg
    subst hP hw hK
    obtain ⟨hz, pI, ⟨x0, y0, v0, pO⟩, j1, j2, j3⟩ := st
    obtain ⟨xs, ys, zs, x, y, v, qx, qy, qv, hx, hy, hv⟩ := hg
    obtain ⟨its, r1, p1, _⟩ := I.list qx
    obtain ⟨its2, r2, p2, _⟩ := I.list qy
    obtain ⟨its3, r3, p3, _⟩ := I.list qv
    obtain ⟨u, hu, ru⟩ := r1.get hx
    obtain ⟨u2, hu2, ru2⟩ := r2.get hy
    obtain ⟨u3, hu3, ru3⟩ := r3.get hv
    have zl : z < s.heap.objs.size := Heap.lt_size hz
    refine pn_item D hz pI pO j1 j2 j3 p1.isList p2.isList p3.isList (x := u) (y := u2) (v := u3) (by simpa using hu) (by simpa using hu2) (by simpa using hu3) fun h' z' o' n1 n2 n3 hT hsz hk => ?_
    refine ⟨_, rfl, wpAny_letOwnedTupleGo_zip (s := { s with heap := h' }) z' fun h'' z'' sb => ?_⟩
    have hT2 : h''.get? s.heap.objs.size = some { cls := .type "tuple", data := .seq #[u, u2, u3] } := (sb.2 _ (Nat.ne_of_gt zl)).trans hT
    have new : ObjOk X.prog X.w (upd H s.heap.objs.size (.tup [x, y, v])) h'' s.heap.objs.size (.tup [x, y, v]) := ⟨by show 3 ≤ sizeLine; decide, [u, u2, u3], .cons ru (.cons ru2 (.cons ru3 .nil)), ⟨_, hT2, rfl, _, rfl⟩⟩
    have nin : ∀ {d : Addr}, d ∉ [z, TI, TO, i1, i2, i3] → d ≠ z ∧ d ≠ TO ∧ d ≠ i1 ∧ d ≠ i2 ∧ d ≠ i3 := fun hb => ⟨fun q => hb (by simp [q]), fun q => hb (by simp [q]), fun q => hb (by simp [q]), fun q => hb (by simp [q]), fun q => hb (by simp [q])⟩
    have I1 : Inv X pins σ (upd H s.heap.objs.size (.tup [x, y, v])) { s with heap := h'' } :=
      I.turnedNew (t' := s.toks) (ch := [z, TI, TO, i1, i2, i3]) (fun d o hb q => (sb.2 d (nin hb).1).trans (hk d o (nin hb).1 (nin hb).2.1 (nin hb).2.2.1 (nin hb).2.2.2.1 (nin hb).2.2.2.2 q)) hf (Nat.le_refl _) new
    refine ⟨.ref s.heap.objs.size, _, I1, rfl, ⟨_, x, y, v, rfl, I.hok.fresh (Nat.le_refl _), rfl, fun l hl => by rw [I.list_inj hl qx]; exact hx, fun l hl => by rw [I.list_inj hl qy]; exact hy, fun l hl => by rw [I.list_inj hl qv]; exact hv⟩, ⟨z'', ?_, ⟨u, u2, u3, ?_⟩, ?_, ?_, ?_⟩, fun d hd => ?_⟩
    · exact (sb.2 _ D.a1.1).trans (hk _ _ D.a1.1 D.a2.1 D.a2.2.1 D.a2.2.2.1 D.a2.2.2.2 pI)
    · exact (sb.2 _ D.a1.2.1).trans o'
    · exact n1.at fun o q => (sb.2 _ D.a1.2.2.1).trans q
    · exact n2.at fun o q => (sb.2 _ D.a1.2.2.2.1).trans q
    · exact n3.at fun o q => (sb.2 _ D.a1.2.2.2.2).trans q
    · have hlt : d < s.heap.objs.size := by
        have e' : d = z ∨ d = TI ∨ d = TO ∨ d = i1 ∨ d = i2 ∨ d = i3 := by simpa using hd
        rcases e' with rfl | rfl | rfl | rfl | rfl | rfl
        · exact zl
        · exact Heap.lt_size pI
        · exact Heap.lt_size pO
        · obtain ⟨_, e1, _⟩ := j1; exact Heap.lt_size e1
        · obtain ⟨_, e2, _⟩ := j2; exact Heap.lt_size e2
        · obtain ⟨_, e3, _⟩ := j3; exact Heap.lt_size e3
      rw [upd_ne (Nat.ne_of_lt hlt)]; exact (hf d hd).1
  done := by
    intro X hP hw hK hc i pins s σ H E I hf st hg
    subst hP hw hK
    obtain ⟨hz, pI, ⟨x0, y0, v0, pO⟩, j1, j2, j3⟩ := st
    obtain ⟨xs, qx, hend⟩ := hg
    obtain ⟨its, r1, p1, _⟩ := I.list qx
    have l1 := r1.length
    exact pn_end (I.ok.hd hc) D hz pI j1 p1.isList (by simp; omega) fun h' hk => ⟨rfl, I.turnedL (t' := s.toks) (ch := [z, TI, TO, i1, i2, i3]) (fun d o hb q => hk d o (fun q' => hb (by simp [q'])) (fun q' => hb (by simp [q'])) q) hf⟩
  self := fun A i s Q E st h => wpAny_pyIter_zip st.1 h
theorem vals_cons {v : V} {vs : List V} {us : List Value} (r : Vals (v :: vs) us) : ∃ u us', RelV v u ∧ us = u :: us' ∧ Vals vs us' := by
  cases r with
  | cons h t => exact ⟨_, _, h, rfl, t⟩
theorem ap_of {n a b c : Nat} (la : a < n) (lb : b < n) (lc : c < n) : Ap (n + 5) (n + 3) (n + 4) n (n + 1) (n + 2) a b c := by
  refine ⟨⟨?_, ?_, ?_, ?_, ?_⟩, ⟨?_, ?_, ?_, ?_⟩, ⟨?_, ?_, ?_⟩, ⟨?_, ?_, ?_⟩, ⟨?_, ?_, ?_, ?_, ?_⟩, ⟨?_, ?_, ?_, ?_, ?_⟩, ⟨?_, ?_, ?_, ?_, ?_⟩⟩ <;> exact fun (e : @Eq Nat _ _) => by omega
theorem ge_of {n d : Nat} (h : d ∈ [n + 5, n + 3, n + 4, n, n + 1, n + 2]) : n ≤ d := by
  simp only [List.mem_cons, List.not_mem_nil, or_false] at h
  omega
def iZip3 (K : PySem.W.Frag) (ta : TA) : TI := fun σ H R => ta σ H fun vs H1 => ∃ a b c xs ys zs, vs = [.ref a, .ref b, .ref c] ∧ SqL K H1 a xs ∧ SqL K H1 b ys ∧ SqL K H1 c zs ∧ R (It3 K a b c) H1
theorem pi_zip3 {X : Cx} {e e2 e3 : Expr} {ta : TA} {p pos tpos : Pos} {elts : List Expr} {kk : Nat} (hg : Gl X "zip") (hm : X.mg "zip" = none) (ha : PA X [e, e2, e3] ta)
    (hs : starEach [e, e2, e3] X.env = (false, eval e X.env) :: starEach [e2, e3] X.env := by rfl) (hpl : (backTo pos (starEach [e2, e3] X.env)).any (·.1) = false := by rfl) :
    PI X (.Tuple elts kk tpos) (.Call (.Name "zip" p) [e, e2, e3] [] pos) (iZip3 X.K ta) := by
  refine ⟨fun pins s σ H R I h => ?_⟩
  refine Call_ (ld_blt I hg hm PyProof.Rows.boot_zip (PyProof.Rows.callWith_type1 (thn (ha.run pos pins s σ H _ I h) fun us s1 ⟨vs, H1, I1, r1, q1⟩ => ?_) hs hpl))
  obtain ⟨a, b, c, xs, ys, zs, ex, qx, qy, qv, q⟩ := q1
  subst ex
  obtain ⟨u1, us1, r, rfl, t1⟩ := vals_cons r1
  obtain ⟨u2, us2, r', rfl, t2⟩ := vals_cons t1
  obtain ⟨u3, us3, r'', rfl, t3⟩ := vals_cons t2
  cases t3; cases r; cases r'; cases r''
  · obtain ⟨its, rv, p1, _⟩ := I1.list qx
    obtain ⟨its2, rv2, p2, _⟩ := I1.list qy
    obtain ⟨its3, rv3, p3, _⟩ := I1.list qv
    have la : a < s1.heap.objs.size := p1.lt
    have lb : b < s1.heap.objs.size := p2.lt
    have lc : c < s1.heap.objs.size := p3.lt
    refine call_zip3 p1.isList p2.isList p3.isList fun h' hz pI pO j1 j2 j3 hk => wpAny_pyIter_zip hz ?_
    have I2 : Inv X pins σ H1 { s1 with heap := h' } := I1.kept (t' := s1.toks) hk
    have ap := ap_of la lb lc
    refine ⟨s1.heap.objs.size + 5, [s1.heap.objs.size + 5, s1.heap.objs.size + 3, s1.heap.objs.size + 4, s1.heap.objs.size, s1.heap.objs.size + 1, s1.heap.objs.size + 2], _, _, H1, rfl, I2, turn_zip3 ap, ⟨hz, pI, ⟨_, _, _, pO⟩, j1, j2, j3⟩, fun d hd => ?_, q⟩
    have hle : s1.heap.objs.size ≤ d := ge_of hd
    exact I1.fpOk hle (I1.hok.fresh hle)
/-- three lists of one length, walked -/
theorem walk_zip3 {K : PySem.W.Frag} {a b c : Addr} {xs ys zs : List V} (h1 : ys.length = xs.length) (h2 : zs.length = xs.length) : Walk (It3 K a b c) xs.length (fun H => SqL K H a xs ∧ SqL K H b ys ∧ SqL K H c zs)
    (fun i H u H' => ∃ T x y v, u = .ref T ∧ H T = none ∧ H' = upd H T (.tup [x, y, v]) ∧ xs[i]? = some x ∧ ys[i]? = some y ∧ zs[i]? = some v) := by
  refine ⟨fun i _ hi q => ?_, fun _ q => ⟨xs, q.1, Nat.le_refl _⟩, fun i H u H' _ q y => ?_⟩
  · exact ⟨xs, ys, zs, xs[i], ys[i]'(by omega), zs[i]'(by omega), q.1, q.2.1, q.2.2, List.getElem?_eq_getElem _, List.getElem?_eq_getElem _, List.getElem?_eq_getElem _⟩
  · obtain ⟨T, x, z, v, e1, e2, e3, e4, e5, e6⟩ := y
    exact ⟨T, x, z, v, e1, e2, e3, e4 xs q.1, e5 ys q.2.1, e6 zs q.2.2⟩
end Z3
set_option maxHeartbeats 4000000
namespace D21
open PySem PySem.Spec PyProof.Rows L2 HM XW
def top (i : Nat) : Stmt := PySem.Challenge.pw_halfmade_k21_modules_keep_names.main.body.getD i (.Pass ⟨0, 0, 0, 0⟩)
abbrev FnP (K : PySem.W.Frag) (x : Str) (st : Stmt) (f : Addr) (fd : FuncData) : Prop := FunD K x x (defArgs st) (defBody st) (defScope st) [] [] f fd
abbrev sAt : Stmt := top 5
abbrev sPot : Stmt := top 6
abbrev sDraw : Stmt := top 7
theorem scAt : FnScope ["_law_script", "_law_k"] ["_law_script", "_law_k"] (defScope sAt) := ⟨rfl, rfl, rfl, by decide +kernel, rfl, by decide +kernel, by decide +kernel⟩
theorem scPot : FnScope ["_law_script", "_law_k", "_law_cell"] ["_law_script", "_law_k"] (defScope sPot) := ⟨rfl, rfl, rfl, by decide +kernel, rfl, by decide +kernel, by decide +kernel⟩
theorem scDraw : FnScope ["_law_pot_here", "_law_room", "_law_digit"] ["_law_pot_here", "_law_room"] (defScope sDraw) := ⟨rfl, rfl, rfl, by decide +kernel, rfl, by decide +kernel, by decide +kernel⟩
section
variable {P : Program} {w : World} {K : PySem.W.Frag} {mg : Str → Option Value} {base : Heap} {f fA : Addr} {fd fdA : FuncData}
theorem ok_at (F : FnP K "_law_at" sAt f fd) (ml : mg "len" = none) : FnOk P w K mg base CX0 1 f fd ["_law_script", "_law_k"] (spAt K) := by
  refine ok_code F scAt (fun vs H Q E h => ?_) (fun cdv A outer s H vs Q E hcd hr h => ?_)
  · obtain ⟨a, ns, k, rfl, _⟩ := h
    rfl
  · obtain ⟨a, ns, k, rfl, hS, q⟩ := h
    refine ⟨_, pss_one (ps_ret (pe_ifExp (pt_cmpR op_lt (pv 1) (pe_callB call_len_seq (by rfl) ml PySem.boot_len (pa_cons (pv 0) pa_nil)) (nomark _)) (pe_ix ix_list (pv 0) (pv 1) (fun _ _ => rfl)) pe_int)), ?_⟩
    refine ⟨_, rfl, _, rfl, a, _, rfl, .inl hS, _, _, rfl, rfl, _, rfl, ?_⟩
    rw [List.length_map]
    refine ite2 (fun e => ?_) (fun e => ?_)
    · have hk : k < ns.length := by
        have := of_decide_eq_true e
        omega
      refine ⟨_, rfl, _, rfl, a, _, _, .int ns[k], rfl, rfl, hS, ?_, ?_⟩
      · exact atI_nat (by rw [List.getElem?_map, List.getElem?_eq_getElem hk]; rfl)
      · rw [List.getD_eq_getElem?_getD, List.getElem?_eq_getElem hk] at q
        exact q
    · have hk : ns.length ≤ k := by
        refine Nat.le_of_not_lt fun z => e (decide_eq_true ?_)
        omega
      rw [List.getD_eq_getElem?_getD, List.getElem?_eq_none hk] at q
      exact q
theorem ok_pot (F : FnP K "_law_pot" sPot f fd) (FA : FnP K "_law_at" sAt fA fdA) (gA : mg "_law_at" = some (.ref fA)) (ml : mg "len" = none) (mm : mg "max" = none) : FnOk P w K mg base CX0 2 f fd ["_law_script", "_law_k"] (spPot K) := by
  have GA : FnOk P w K mg base CX0 1 fA fdA ["_law_script", "_law_k"] (spAt K) := ok_at FA ml
  have bA : Binds K fdA ["_law_script", "_law_k"] [] := FA.bindsN fun _ _ _ _ _ _ us hl => match us, hl with | [_, _], _ => rfl
  refine ok_code F scPot (fun vs H Q E h => ?_) (fun cdv A outer s H vs Q E hcd hr h => ?_)
  · obtain ⟨a, ns, k, rfl, _⟩ := h
    rfl
  · obtain ⟨a, ns, k, rfl, hk, hS, q⟩ := h
    refine ⟨_, pss_cons (ps_set (i := 2) scPot.nd rfl (.inl rfl) (pe_call GA hr (by rfl) gA FA.kp bA .nil pass0 (pa_cons (pv 0) (pa_cons (pv 1) pa_nil))))
      (pss_one (ps_ret (pe_lst (pa_cons (pe_callB (call_max2 rfl) (by rfl) mm (by decide +kernel) (pa_cons pe_int (pa_cons (pe_op op_sub (pv 2) (pe_op op_pow pe_int pe_int)) pa_nil)))
        (pa_cons (pe_op op_add (pe_op op_mod (pe_op op_pow (pe_op op_add (pe_op op_mod (pv 2) pe_int) (pe_op op_mul pe_int (pe_op op_add (pv 1) pe_int))) pe_int) pe_int) pe_int) pa_nil))))), ?_⟩
    refine ⟨_, rfl, _, rfl, a, ns, k, rfl, hS, ?_⟩
    have hm := Int.emod_nonneg (ns.getD k 0) (show (2147483629 : Int) ≠ 0 by decide)
    have hm2 := Int.emod_lt_of_pos (ns.getD k 0) (show (0 : Int) < 2147483629 by decide)
    refine ⟨_, rfl, 10, 18, rfl, rfl, ⟨by decide, by decide, by decide⟩, _, _, rfl, rfl, _, _, rfl, ?_⟩
    refine ⟨_, rfl, _, _, rfl, rfl, (by show (0 : Int) < 2147483629; decide), _, rfl, _, _, rfl, rfl, _, _, rfl, rfl, .inl ⟨by decide, by decide⟩, _, _, rfl, rfl, _, _, rfl, rfl, ⟨by decide, by decide, ?_⟩, _, _, rfl, rfl, (by show (0 : Int) < 2147483563; decide), _, _, rfl, rfl, (by show 2 ≤ sizeLine; decide), fun p hp => q p _ _ hp ⟨?_, ?_, ?_⟩⟩
    · have e : ((ns.getD k 0 % 2147483629 + 40503 * ((k : Int) + 1)).natAbs : Int) < 2 ^ 64 := by omega
      omega
    · split <;> omega
    · have := Int.emod_nonneg ((ns.getD k 0 % 2147483629 + 40503 * ((k : Int) + 1)) ^ (3 : Int).toNat) (show (2147483563 : Int) ≠ 0 by decide)
      omega
    · have := Int.emod_lt_of_pos ((ns.getD k 0 % 2147483629 + 40503 * ((k : Int) + 1)) ^ (3 : Int).toNat) (show (0 : Int) < 2147483563 by decide)
      omega
theorem ok_draw (F : FnP K "_law_draw" sDraw f fd) (md : mg "divmod" = none) : FnOk P w K mg base CX0 1 f fd ["_law_pot_here", "_law_room"] spDraw := by
  refine ok_code F scDraw (fun vs H Q E h => ?_) (fun cdv A outer s H vs Q E hcd hr h => ?_)
  · obtain ⟨l, many, p0, p1, rfl, _⟩ := h
    rfl
  · obtain ⟨l, many, p0, p1, rfl, hm0, hm1, hl, ⟨h0, h1, h2⟩, q⟩ := h
    refine ⟨_, pss_cons (ps_if (pt_cmpR op_gt (pe_ix ix_list (pv 0) pe_int (fun _ _ => rfl)) pe_int (nomark _))
        (pss_cons (ps_asg (pe_callB call_divmodW (by rfl) md (by decide +kernel) (pa_cons (pe_ix ix_list (pv 0) pe_int (fun _ _ => rfl)) (pa_cons (pv 1) pa_nil)))
            (pg_tup (by rfl) (pgs_cons (pg_sub (pv 0) pe_int set_list) (pgs_cons (pg_name (i := 2) scDraw.nd rfl (.inl rfl)) pgs_nil))))
          (pss_one (ps_ret (pv 2)))) pss_nil)
      (pss_cons (ps_asg (pe_op op_mod (pe_op op_add (pe_op op_mul (pe_ix ix_list (pv 0) pe_int (fun _ _ => rfl)) pe_int) pe_int) pe_int) (pg_sub (pv 0) pe_int set_list))
      (pss_one (ps_ret (pe_op op_mod (pe_op op_fdiv (pe_op op_mod (pe_op op_mul (pe_ix ix_list (pv 0) pe_int (fun _ _ => rfl)) (pe_ix ix_list (pv 0) pe_int (fun _ _ => rfl))) pe_int) pe_int) (pv 1))))), ?_⟩
    have g0 : atI [V.int p0, V.int p1] 0 = some (.int p0) := rfl
    have g1 : atI [V.int p0, V.int p1] 1 = some (.int p1) := rfl
    refine ⟨_, rfl, l, _, 0, _, rfl, rfl, SqL.of hl, g0, _, _, rfl, rfl, _, rfl, ite2 (fun e => ?_) (fun e => ?_)⟩
    · refine ⟨_, rfl, l, _, 0, _, rfl, rfl, SqL.of hl, g0, _, rfl, p0, many, rfl, ⟨hm0, PyProof.noPylong_of_log2 hm1⟩, fun T hT => ?_⟩
      have nl : l ≠ T := ne_of_none hl hT
      refine ⟨T, _, rfl, SqT.of upd_same, rfl, _, _, rfl, _, rfl, l, _, 0, 0, rfl, rfl, (by rw [upd_ne nl]; exact hl), rfl, _, _, rfl, rfl, ?_⟩
      refine ⟨_, rfl, q _ _ (fun b o e nb => ?_) ⟨p0 / many, p1, upd_same, ⟨Int.ediv_nonneg h0 (by omega), h1, h2⟩⟩ (Int.emod_nonneg _ (by omega)) (Int.emod_lt_of_pos _ hm0)⟩
      rw [upd_ne nb, upd_ne (ne_of_none e hT)]
      exact e
    · have e5 := Int.emod_nonneg (p1 * 39373 + 7919) (show (2147483629 : Int) ≠ 0 by decide)
      have e6 := Int.emod_lt_of_pos (p1 * 39373 + 7919) (show (0 : Int) < 2147483629 by decide)
      refine ⟨_, rfl, l, _, 1, _, rfl, rfl, SqL.of hl, g1, _, _, rfl, rfl, .inl ⟨by omega, by omega⟩, _, _, rfl, rfl, _, _, rfl, rfl, (by show (0 : Int) < 2147483629; decide), _, rfl, l, _, 1, 1, rfl, rfl, hl, rfl, ?_⟩
      have g2 : atI [V.int p0, V.int ((p1 * 39373 + 7919) % 2147483629)] 1 = some (.int ((p1 * 39373 + 7919) % 2147483629)) := rfl
      refine ⟨_, rfl, l, _, 1, _, rfl, rfl, SqL.of upd_same, g2, _, rfl, l, _, 1, _, rfl, rfl, SqL.of upd_same, g2, _, _, rfl, rfl, .inl ⟨by omega, by omega⟩, _, _, rfl, rfl, (by show (0 : Int) < 2147483587; decide), _, _, rfl, rfl, ⟨by decide, by decide⟩, _, rfl, _, _, rfl, rfl, hm0, ?_⟩
      exact q _ _ (fun b o e nb => by rw [upd_ne nb]; exact e) ⟨p0, _, upd_same, ⟨h0, e5, by omega⟩⟩ (Int.emod_nonneg _ (by omega)) (Int.emod_lt_of_pos _ hm0)
end
end D21
set_option maxHeartbeats 4000000
namespace D21
open PySem PySem.Spec PyProof.Rows L2 HM XW XR K11
abbrev sNm : Stmt := top 8
abbrev sNms : Stmt := top 9
abbrev sNum : Stmt := top 10
abbrev sRd : Stmt := top 11
theorem scNm : FnScope ["_law_pot_here", "_law_taken", "_law_letters", "_law_name_here", "_law_k", "_law_way", "_law_some", "_law_letter", "_law_one"] ["_law_pot_here", "_law_taken"] (defScope sNm) := ⟨rfl, rfl, rfl, by decide +kernel, rfl, by decide +kernel, by decide +kernel⟩
theorem scNms : FnScope ["_law_pot_here", "_law_room", "_law_taken", "_law_k"] ["_law_pot_here", "_law_room"] (defScope sNms) := ⟨rfl, rfl, rfl, by decide +kernel, rfl, by decide +kernel, by decide +kernel⟩
theorem scNum : FnScope ["_law_pot_here"] ["_law_pot_here"] (defScope sNum) := ⟨rfl, rfl, rfl, by decide +kernel, rfl, by decide +kernel, by decide +kernel⟩
theorem scRd : FnScope ["_law_pot_here", "_law_names_here", "_law_k"] ["_law_pot_here", "_law_names_here"] (defScope sRd) := ⟨rfl, rfl, rfl, by decide +kernel, rfl, by decide +kernel, by decide +kernel⟩
abbrev DP : List Str := ["_law_pot_here", "_law_room"]
theorem sz {n : Nat} (h : n ≤ 1000) : n ≤ sizeLine := Nat.le_of_lt (small1000 h)
section
variable {P : Program} {w : World} {K : PySem.W.Frag} {mg : Str → Option Value} {base : Heap} {f fD fN : Addr} {fd fdD fdN : FuncData}
def spNum : Sp := fun vs H Q _ => ∃ l : Addr, vs = [.ref l] ∧ PotAt H l ∧ ∀ (H' : Hp) (n : Int), Ch l H H' → PotAt H' l → n.natAbs < 10 ^ 60 → Q (.int n) H'
theorem ok_num (F : FnP K "_law_number" sNum f fd) (GD : FnOk P w K mg base CX0 1 fD fdD DP spDraw) (FD : FnP K "_law_draw" sDraw fD fdD) (gD : mg "_law_draw" = some (.ref fD)) : FnOk P w K mg base CX0 2 f fd ["_law_pot_here"] spNum := by
  have bD : Binds K fdD DP [] := FD.bindsN fun _ _ _ _ _ _ us hl => match us, hl with | [_, _], _ => rfl
  refine ok_code F scNum (fun vs H Q E h => ?_) (fun cdv A outer s H vs Q E hcd hr h => ?_)
  · obtain ⟨l, rfl, _⟩ := h
    rfl
  · obtain ⟨l, rfl, hP, q⟩ := h
    refine ⟨_, pss_cons (ps_if (pt_cmpR op_eq (pe_call GD hr (by rfl) gD FD.kp bD .nil pass0 (pa_cons (pv 0) (pa_cons pe_int pa_nil))) pe_int (nomark _))
        (pss_one (ps_ret (pe_op op_add (pe_op op_sub (pe_call GD hr (by rfl) gD FD.kp bD .nil pass0 (pa_cons (pv 0) (pa_cons (pe_op op_sub (pe_op op_mul pe_int (pe_op op_pow pe_int pe_int)) pe_int) pa_nil))) (pe_op op_pow pe_int pe_int)) pe_int))) pss_nil)
      (pss_one (ps_ret (pe_op op_sub (pe_call GD hr (by rfl) gD FD.kp bD .nil pass0 (pa_cons (pv 0) (pa_cons pe_int pa_nil))) pe_int))), ?_⟩
    refine ⟨_, rfl, l, _, pa hP, pb hP, rfl, by decide, by decide, ph hP, pk hP, fun H0 way c0 hP0 w0 w1 => ⟨rfl, _, rfl, ite2 (fun _ => ?_) (fun _ => ?_)⟩⟩
    · refine ⟨_, rfl, 10, 60, rfl, rfl, ⟨by decide, by decide, by decide⟩, 2, 10 ^ 60, rfl, rfl, .inl ⟨by decide, by decide⟩, 2 * 10 ^ 60, 1, rfl, rfl, ?_⟩
      refine ⟨l, _, pa hP0, pb hP0, rfl, by decide +kernel, by decide +kernel, ph hP0, pk hP0, fun H1 d c1 hP1 d0 d1 => ?_⟩
      refine ⟨10, 60, rfl, rfl, ⟨by decide, by decide, by decide⟩, _, _, rfl, rfl, _, _, rfl, rfl, q H1 _ (Ch.trans c0 c1) hP1 ?_⟩
      have e : (10 : Int) ^ (60 : Int).toNat = 1000000000000000000000000000000000000000000000000000000000000 := by decide +kernel
      have e2 : (10 : Int) ^ 60 = 1000000000000000000000000000000000000000000000000000000000000 := by decide +kernel
      have e3 : (10 : Nat) ^ 60 = 1000000000000000000000000000000000000000000000000000000000000 := by decide +kernel
      rw [e2] at d1
      rw [e, e3]
      omega
    · refine ⟨_, rfl, l, _, pa hP0, pb hP0, rfl, by decide, by decide, ph hP0, pk hP0, fun H1 d c1 hP1 d0 d1 => ⟨_, _, rfl, rfl, q H1 _ (Ch.trans c0 c1) hP1 (by omega)⟩⟩
/-- a road: one to four of the names -/
def spRd (K : PySem.W.Frag) : Sp := fun vs H Q _ => ∃ (l t : Addr) (ns : List Str), vs = [.ref l, .ref t] ∧ PotAt H l ∧ H t = some (.lst (ns.map V.str)) ∧ (∀ z ∈ ns, nmOk z) ∧ ns ≠ [] ∧ ns.length ≤ 100 ∧ ∀ (H' : Hp) (z : Str), Ch l H H' → PotAt H' l → ptOk z → Q (.str z) H'
theorem strs_ne {H : Hp} {l t : Addr} {ns : List Str} (hP : PotAt H l) (ht : H t = some (.lst (ns.map V.str))) : t ≠ l := fun e => by
  obtain ⟨p0, p1, e2, _⟩ := hP
  rw [e, e2] at ht
  cases ns with
  | nil => cases ht
  | cons a r => cases ht
theorem nms_sum : ∀ (ws : List Str), (∀ z ∈ ws, nmOk z) → (ws.map (·.length)).sum ≤ 8 * ws.length
  | [], _ => Nat.le_refl _
  | z :: ws, h => by
    have h1 := (nm_len (h z List.mem_cons_self)).1
    have h2 := nms_sum ws fun y hy => h y (List.mem_cons_of_mem _ hy)
    rw [List.map_cons, List.sum_cons, List.length_cons]
    omega
theorem ok_rd (F : FnP K "_law_road" sRd f fd) (GD : FnOk P w K mg base CX0 1 fD fdD DP spDraw) (FD : FnP K "_law_draw" sDraw fD fdD) (gD : mg "_law_draw" = some (.ref fD)) (mr : mg "range" = none) (ml : mg "len" = none) : FnOk P w K mg base CX0 2 f fd ["_law_pot_here", "_law_names_here"] (spRd K) := by
  have bD : Binds K fdD DP [] := FD.bindsN fun _ _ _ _ _ _ us hl => match us, hl with | [_, _], _ => rfl
  refine ok_code F scRd (fun vs H Q E h => ?_) (fun cdv A outer s H vs Q E hcd hr h => ?_)
  · obtain ⟨l, t, ns, rfl, _⟩ := h
    rfl
  · obtain ⟨l, t, ns, rfl, hP, ht, hns, hne, hlen, q⟩ := h
    refine ⟨_, pss_one (ps_ret (pe_join pe_str (by exact (pe_lc (own := [("_law_k", 2)]) (g := gName 2) (tt := tYes) (te := tOp (rIxL K) (tVar 1) (tCall spDraw [] E0 (tCons (tVar 0) (tCons (tCB (fun xs H Q => ∃ p ys, xs = [.ref p] ∧ (SqL K H p ys ∨ SqT K H p ys) ∧ Q (.int (ys.length : Nat)) H) (tCons (tVar 1) tNil)) tNil)))) (by rfl) scRd.nd
        (pi_range1 (by rfl) mr (pa_cons (pe_op op_add pe_int (pe_call GD hr (by rfl) gD FD.kp bD .nil pass0 (pa_cons (pv 0) (pa_cons pe_int pa_nil)))) pa_nil))
        (blkOk_by (own := [("_law_k", 2)]) (N := ["_law_pot_here", "_law_names_here", "_law_k"]) (sc := defScope sRd) (by decide +kernel)) (fun _ _ _ _ _ => pg_name (i := 2) scRd.nd rfl (Or.inl rfl)) (fun _ _ _ _ _ => pts_nil)
        (fun _ _ _ _ _ => pe_ix ix_list (pv 1) (pe_call GD hr (by rfl) gD FD.kp bD .nil pass0 (pa_cons (pv 0) (pa_cons (pe_callB call_len_seq (by rfl) ml PySem.boot_len (pa_cons (pv 1) pa_nil)) pa_nil))) (fun _ _ => rfl)))))), ?_⟩
    have ntl := strs_ne hP ht
    refine ⟨⟨_, rfl⟩, _, rfl, l, _, pa hP, pb hP, rfl, by decide, by decide, ph hP, pk hP, fun H1 nn c1 hP1 n0 n1 => ?_⟩
    refine ⟨_, _, rfl, rfl, _, rfl, by omega, by omega, fun L hL => ?_⟩
    have nL : L ≠ l := hP1.ne hL
    have fL : H L = none := Ch.free c1 hL nL
    refine lc_range (lo := 0) (n := (1 + nn).toNat) (fun i H' => Ch l H H' ∧ PotAt H' l ∧ ∃ cs : List Str, cs.length = i ∧ (∀ z ∈ cs, nmOk z) ∧ H' L = some (.lst (cs.map V.str)))
      ⟨Ch.over c1 fL, hP1.new nL, [], rfl, fun x hx => (by cases hx), upd_same⟩ ?_ ?_
    · rintro i H2 hi ⟨k2, hP2, cs, e1, e2, e3⟩
      have ht2 := k2 t _ ht ntl
      have hpos : 0 < ns.length := List.length_pos_iff.mpr hne
      have hlog : ((ns.map V.str).length : Int).natAbs.log2 < 9000 := by
        rw [List.length_map, Int.natAbs_natCast]
        have h1 : ns.length < 2 ^ 7 := by omega
        have := (Nat.log2_lt (by omega)).mpr h1
        omega
      refine ⟨rfl, _, rfl, _, rfl, _, rfl, t, _, rfl, .inl (SqL.of ht2), l, _, pa hP2, pb hP2, rfl, by rw [List.length_map]; omega, hlog, ph hP2, pk hP2, fun H3 d c3 hP3 d0 d1 => ?_⟩
      obtain ⟨dn, rfl⟩ : ∃ n : Nat, d = (n : Int) := ⟨d.toNat, by omega⟩
      have hdn : dn < ns.length := by
        rw [List.length_map] at d1
        omega
      refine ⟨t, _, _, .str ns[dn], rfl, rfl, SqL.of (c3 t _ ht2 ntl), atI_nat (by rw [List.getElem?_map, List.getElem?_eq_getElem hdn]; rfl), cs.map V.str, c3 L _ e3 nL, ?_, Ch.over (Ch.trans k2 c3) fL, hP3.new nL, cs ++ [ns[dn]], ?_, ?_, ?_⟩
      · rw [List.length_map, e1]
        exact small1000 (by omega)
      · rw [List.length_append, e1]
        rfl
      · intro x hx
        rcases List.mem_append.mp hx with y | y
        · exact e2 x y
        · rw [List.mem_singleton.mp y]
          exact hns _ (List.getElem_mem hdn)
      · rw [upd_same]
        exact congrArg (fun z => some (HO.lst z)) (map_snoc V.str cs _)
    · rintro H2 ⟨k2, hP2, cs, e1, e2, e3⟩
      have hz : (Str.ofString ".").length = 1 := by decide +kernel
      have hs := nms_sum cs e2
      refine ⟨_, L, cs, rfl, rfl, .inl (SqL.of e3), ?_, q H2 _ k2 hP2 ⟨cs, rfl, by omega, by omega, e2⟩⟩
      rw [hz, e1]
      omega
end
end D21
set_option maxHeartbeats 4000000
namespace D21
open PySem PySem.Spec PyProof.Rows L2 HM XW XR K11
/-! ### names unlike those taken -/
theorem pigeon : ∀ (A B : List Str), A.Nodup → (∀ a ∈ A, a ∈ B) → A.length ≤ B.length
  | [], B, _, _ => Nat.zero_le _
  | a :: A, B, hn, hs => by
    obtain ⟨h1, h2⟩ := List.nodup_cons.mp hn
    have ha := hs a List.mem_cons_self
    have := pigeon A (B.erase a) h2 fun x hx => by
      have hne : x ≠ a := fun e => h1 (e ▸ hx)
      exact (List.mem_erase_of_ne hne).mpr (hs x (List.mem_cons_of_mem _ hx))
    rw [List.length_erase_of_mem ha] at this
    have hp : 0 < B.length := List.length_pos_of_mem ha
    rw [List.length_cons]
    omega
theorem unlike {A B : List Str} (hn : A.Nodup) (h : B.length < A.length) : ∃ z r, A.filter (fun z => !decide (z ∈ B)) = z :: r ∧ z ∈ A ∧ z ∉ B := by
  cases e : A.filter (fun z => !decide (z ∈ B)) with
  | nil =>
    exfalso
    have := pigeon A B hn fun a ha => Classical.byContradiction fun hb => by
      have : a ∈ A.filter (fun z => !decide (z ∈ B)) := List.mem_filter.mpr ⟨ha, by rw [decide_eq_false hb]; rfl⟩
      rw [e] at this
      cases this
    omega
  | cons z r =>
    have hm : z ∈ A.filter (fun z => !decide (z ∈ B)) := by
      rw [e]
      exact List.mem_cons_self
    obtain ⟨h1, h2⟩ := List.mem_filter.mp hm
    refine ⟨z, r, rfl, h1, fun hb => ?_⟩
    rw [decide_eq_true hb] at h2
    cases h2
abbrev abcS : List Str := abc.cps.toList.map fun c => (⟨#[c]⟩ : Str)
def qS : List Str := abcS.map fun z => Str.ofString "q" ++ z
abbrev A52 : List Str := abcS ++ qS
theorem A52_nd : A52.Nodup := by decide +kernel
theorem A52_ok : ∀ z ∈ A52, nmOk z := by
  unfold nmOk
  decide +kernel
theorem A52_len : A52.length = 52 := by decide +kernel
abbrev wordsT : List Str := ["begin", "end", "fail", "have", "again", "note", "caught", "take", "draw", "done"]
theorem wordsT_ok : ∀ z ∈ wordsT, nmOk z := by
  unfold nmOk
  decide +kernel
theorem inV_strs (z : Str) : ∀ ys : List Str, inV (.str z) (ys.map V.str) = decide (z ∈ ys)
  | [] => rfl
  | y :: ys => by
    have ih := inV_strs z ys
    unfold inV at ih ⊢
    rw [List.map_cons, List.any_cons, ih]
    show ((y == z) || decide (z ∈ ys)) = _
    by_cases h : z = y
    · subst h
      simp
    · have hb : (y == z) = false := beq_eq_false_iff_ne.mpr fun e => h e.symm
      rw [hb, Bool.false_or]
      simp [h]
theorem flat_strs : ∀ ys : List Str, (ys.map V.str).all flatV = true
  | [] => rfl
  | y :: ys => by
    rw [List.map_cons, List.all_cons, flat_strs ys]
    rfl
theorem tl_cut8 (x : Str) : (cutS x none (some 8)).cps.toList = x.cps.toList.take 8 := by
  unfold cutS
  have e : HT.sIx x.length x.length (some 8) = min 8 x.length := HT.sIx_nat x.length x.length 8
  rw [HT.sIx_none, e]
  show (((x.cps.toList.drop 0).take (min 8 x.length - 0)).toArray).toList = _
  rw [List.drop_zero, Nat.sub_zero, List.toList_toArray]
  have hl : x.length = x.cps.toList.length := by simp [Str.length]
  rw [hl, ← List.take_take, List.take_length]
theorem nm_cut {a b : Str} (ha : nmOk a) (hb : nmOk b) : nmOk (cutS (a ++ b) none (some 8)) := by
  have e : (a ++ b).cps.toList = a.cps.toList ++ b.cps.toList := TL.tl_append a b
  have h1 := (nm_len ha).2
  have h1' : 1 ≤ a.cps.toList.length := by
    rw [Array.length_toList]
    exact h1
  unfold nmOk nameL
  rw [tl_cut8, e]
  have hlen : 1 ≤ (List.take 8 (a.cps.toList ++ b.cps.toList)).length ∧ (List.take 8 (a.cps.toList ++ b.cps.toList)).length ≤ 8 := by
    rw [List.length_take, List.length_append]
    omega
  rw [decide_eq_true hlen.1, decide_eq_true hlen.2]
  show (List.take 8 (a.cps.toList ++ b.cps.toList)).all low = true
  rw [List.all_eq_true]
  intro c hc
  rcases List.mem_append.mp (List.mem_of_mem_take hc) with z | z
  · exact nm_low ha c z
  · exact nm_low hb c z
/-- data of texts -/
theorem dp_strs {K : PySem.W.Frag} {H : Hp} : ∀ ws : List Str, DpAll K H (ws.map V.str) (ws.map PyData.str)
  | [] => .nil
  | w :: ws => .cons (.str w) (dp_strs ws)
theorem strOk_nm {z : Str} (h : nmOk z) : PyData.strOk z = true := by
  unfold PyData.strOk
  rw [← Array.all_toList, List.all_eq_true]
  intro c hc
  have := nm_low h c hc
  unfold low at this
  obtain ⟨_, h2⟩ := Bool.and_eq_true_iff.mp this
  have := of_decide_eq_true h2
  exact decide_eq_true (by omega)
theorem lay_strs : ∀ {ws : List Str}, (∀ w ∈ ws, PyData.strOk w = true) → PyData.canLayAll0 (ws.map PyData.str) = true ∧ PyData.depthAll (ws.map PyData.str) = 0
  | [], _ => ⟨rfl, rfl⟩
  | w :: ws, h => by
    obtain ⟨h1, h2⟩ := lay_strs fun y hy => h y (List.mem_cons_of_mem _ hy)
    refine ⟨?_, ?_⟩
    · rw [List.map_cons, PyData.canLayAll0, h1, PyData.canLay0, h w List.mem_cons_self]
      rfl
    · rw [List.map_cons, PyData.depthAll, h2, PyData.depth]
      rfl
theorem shaped_strs {ws : List Str} (h : ∀ w ∈ ws, PyData.strOk w = true) : SeqAt.shaped (.list (ws.map PyData.str)) = true := by
  obtain ⟨h1, h2⟩ := lay_strs h
  unfold SeqAt.shaped
  rw [PyData.canLay0, h1, PyData.depth, h2]
  rfl
theorem eqv_strs : ∀ a b : List Str, PyData.eqvAll (a.map PyData.str) (b.map PyData.str) = decide (a = b)
  | [], [] => rfl
  | [], b :: bs => by
    rw [decide_eq_false (by simp)]
    rfl
  | a :: as, [] => by
    rw [decide_eq_false (by simp)]
    rfl
  | a :: as, b :: bs => by
    rw [List.map_cons, List.map_cons, PyData.eqvAll, eqv_strs as bs]
    show ((a == b) && decide (as = bs)) = _
    by_cases h : a = b
    · subst h
      simp
    · simp [h]
/-- all goes on -/
def Nx (H H' : Hp) : Prop := ∀ b o, H b = some o → H' b = some o
theorem Nx.trans {H H1 H2 : Hp} (a : Nx H H1) (b : Nx H1 H2) : Nx H H2 := fun c o e => b c o (a c o e)
theorem Nx.new {H : Hp} {p : Addr} {o : HO} (h : H p = none) : Nx H (upd H p o) := fun b u e => by
  rw [upd_ne (ne_of_none e h)]
  exact e
theorem Nx.over {H H1 : Hp} {p : Addr} {o : HO} (a : Nx H H1) (h : H p = none) : Nx H (upd H1 p o) := fun b u e => by
  rw [upd_ne (ne_of_none e h)]
  exact a b u e
theorem Nx.ch {l : Addr} {H H' : Hp} (a : Nx H H') : Ch l H H' := fun b o e _ => a b o e
theorem Nx.pot {l : Addr} {H H' : Hp} (a : Nx H H') (h : PotAt H l) : PotAt H' l := by
  obtain ⟨p0, p1, e, k⟩ := h
  exact ⟨p0, p1, a _ _ e, k⟩
theorem abcS_len : abcS.length = 26 := by decide +kernel
theorem qS_len : qS.length = 26 := by decide +kernel
theorem cat_len : (abcS.map V.str).length + (qS.map V.str).length ≤ sizeLine := by
  have h1 : (abcS.map V.str).length = abcS.length := List.length_map ..
  have h2 : (qS.map V.str).length = qS.length := List.length_map ..
  rw [h1, h2, abcS_len, qS_len]
  decide
theorem abc_size : abc.cps.size = 26 := by decide +kernel
theorem abcS_get {i c : Nat} (h : abc.cps[i]? = some c) : abcS[i]? = some ⟨#[c]⟩ := by
  rw [List.getElem?_map, Array.getElem?_toList, h]
  rfl
theorem qS_get {i c : Nat} (h : abc.cps[i]? = some c) : qS[i]? = some (Str.ofString "q" ++ ⟨#[c]⟩) := by
  unfold qS
  rw [List.getElem?_map, abcS_get h]
  rfl
section
variable {P : Program} {w : World} {K : PySem.W.Frag} {mg : Str → Option Value} {base : Heap} {f fD fN : Addr} {fd fdD fdN : FuncData}
def X2 (l t : Addr) (H H' : Hp) : Prop := ∀ b o, H b = some o → b ≠ l → b ≠ t → H' b = some o
def spNm : Sp := fun vs H Q _ => ∃ (l t : Addr) (ns : List Str), vs = [.ref l, .ref t] ∧ PotAt H l ∧ H t = some (.lst (ns.map V.str)) ∧ (∀ z ∈ ns, nmOk z) ∧ ns.length ≤ 45 ∧
  ∀ (H' : Hp) (z : Str), X2 l t H H' → PotAt H' l → nmOk z → z ∉ ns → H' t = some (.lst ((ns ++ [z]).map V.str)) → Q .non H'
theorem ok_nm (F : FnP K "_law_name" sNm f fd) (GD : FnOk P w K mg base CX0 1 fD fdD DP spDraw) (FD : FnP K "_law_draw" sDraw fD fdD) (gD : mg "_law_draw" = some (.ref fD)) (mr : mg "range" = none) : FnOk P w K mg base CX0 2 f fd ["_law_pot_here", "_law_taken"] spNm := by
  have bD : Binds K fdD DP [] := FD.bindsN fun _ _ _ _ _ _ us hl => match us, hl with | [_, _], _ => rfl
  refine ok_code F scNm (fun vs H Q E h => ?_) (fun cdv A outer s H vs Q E hcd hr h => ?_)
  · obtain ⟨l, t, ns, rfl, _⟩ := h
    rfl
  · obtain ⟨l, t, ns, rfl, hP, ht, hns, hlen, q⟩ := h
    refine ⟨_, pss_cons (ps_set (i := 2) scNm.nd rfl (.inr rfl) pe_str)
      (pss_cons (ps_set (i := 3) scNm.nd rfl (.inl rfl) (pe_join pe_str (by exact (pe_lc (own := [("_law_k", 4)]) (g := gName 4) (tt := tYes) (by rfl) scNm.nd
        (pi_range1 (by rfl) mr (pa_cons (pe_op op_add pe_int (pe_op op_mul (pe_call GD hr (by rfl) gD FD.kp bD .nil pass0 (pa_cons (pv 0) (pa_cons pe_int pa_nil))) (pe_call GD hr (by rfl) gD FD.kp bD .nil pass0 (pa_cons (pv 0) (pa_cons pe_int pa_nil))))) pa_nil))
        (blkOk_by (own := [("_law_k", 4)]) (N := ["_law_pot_here", "_law_taken", "_law_letters", "_law_name_here", "_law_k", "_law_way", "_law_some", "_law_letter", "_law_one"]) (sc := defScope sNm) (by decide +kernel)) (fun _ _ _ _ _ => pg_name (i := 4) scNm.nd rfl (Or.inl rfl)) (fun _ _ _ _ _ => pts_nil)
        (fun _ _ _ _ _ => pe_ix ix_str (pv 2) (pe_call GD hr (by rfl) gD FD.kp bD .nil pass0 (pa_cons (pv 0) (pa_cons pe_int pa_nil))) (fun _ _ => rfl))))))
      (pss_cons (ps_set (i := 5) scNm.nd rfl (.inl rfl) (pe_call GD hr (by rfl) gD FD.kp bD .nil pass0 (pa_cons (pv 0) (pa_cons pe_int pa_nil))))
      (pss_cons (ps_if (pt_cmpR op_eq (pv 5) pe_int (nomark _)) (pss_one (ps_set (i := 3) scNm.nd rfl (.inl rfl) (pe_ix ix_list (pe_lst (pa_cons pe_str (pa_cons pe_str (pa_cons pe_str (pa_cons pe_str (pa_cons pe_str (pa_cons pe_str (pa_cons pe_str (pa_cons pe_str (pa_cons pe_str (pa_cons pe_str pa_nil))))))))))) (pe_call GD hr (by rfl) gD FD.kp bD .nil pass0 (pa_cons (pv 0) (pa_cons pe_int pa_nil))) (fun _ _ => rfl)))) pss_nil)
      (pss_cons (ps_if (PW.pt (pw_and (pt_cmpR op_eq (pv 5) pe_int (nomark _)) (pw_and1 (pt_cmpR (op_neD hr.units) (pv 1) (pe_lst pa_nil) (nomark _))))) (pss_one (ps_set (i := 3) scNm.nd rfl (.inl rfl) (pe_slice sl_str (pe_op op_add_str (pe_ix ix_list (pv 1) (pe_un un_neg pe_int) (fun _ _ => rfl)) (pv 3)) po_none (po_some pe_int)))) pss_nil)
      (pss_cons (ps_if (pt_cmpR op_in_seq (pv 3) (pv 1) (by rfl))
          (pss_cons (ps_set (i := 6) scNm.nd rfl (.inl rfl) (pe_op op_cat
              (pe_lc (own := [("_law_letter", 7)]) (g := gName 7) (tt := tYes) (by rfl) scNm.nd (pi_str (pv 2)) (blkOk_by (own := [("_law_letter", 7)]) (N := ["_law_pot_here", "_law_taken", "_law_letters", "_law_name_here", "_law_k", "_law_way", "_law_some", "_law_letter", "_law_one"]) (sc := defScope sNm) (by decide +kernel)) (fun _ _ _ _ _ => pg_name (i := 7) scNm.nd rfl (Or.inl rfl)) (fun _ _ _ _ _ => pts_nil) (fun _ _ _ _ _ => pv 7))
              (pe_lc (own := [("_law_letter", 7)]) (g := gName 7) (tt := tYes) (by rfl) scNm.nd (pi_str (pv 2)) (blkOk_by (own := [("_law_letter", 7)]) (N := ["_law_pot_here", "_law_taken", "_law_letters", "_law_name_here", "_law_k", "_law_way", "_law_some", "_law_letter", "_law_one"]) (sc := defScope sNm) (by decide +kernel)) (fun _ _ _ _ _ => pg_name (i := 7) scNm.nd rfl (Or.inl rfl)) (fun _ _ _ _ _ => pts_nil) (fun _ _ _ _ _ => pe_op op_add_str pe_str (pv 7)))))
          (pss_one (ps_set (i := 3) scNm.nd rfl (.inl rfl) (pe_ix ix_list (pe_lc (own := [("_law_one", 8)]) (g := gName 8) (tt := tTest (tOp (rIn K true) (tVar 8) (tVar 1))) (by rfl) scNm.nd (pi_list (pv 6)) (blkOk_by (own := [("_law_one", 8)]) (N := ["_law_pot_here", "_law_taken", "_law_letters", "_law_name_here", "_law_k", "_law_way", "_law_some", "_law_letter", "_law_one"]) (sc := defScope sNm) (by decide +kernel)) (fun _ _ _ _ _ => pg_name (i := 8) scNm.nd rfl (Or.inl rfl))
              (fun _ _ _ _ _ => pts_one (pt_cmpR op_notIn_seq (pv 8) (pv 1) (by rfl))) (fun _ _ _ _ _ => pv 8)) pe_int (fun _ _ => rfl))))) pss_nil)
      (pss_one (ps_expr (pe_bm PySem.F.plainAttrs_list PySem.F.slot_list_append PySem.F.type_list_append mt_append (pv 1) (pa_cons (pv 3) pa_nil))))))))), ?_⟩
    have ntl := strs_ne hP ht
    refine ⟨⟨_, rfl⟩, _, rfl, l, _, pa hP, pb hP, rfl, by decide, by decide, ph hP, pk hP, fun H0 d1 c0 hP0 d10 d11 => ?_⟩
    refine ⟨_, rfl, l, _, pa hP0, pb hP0, rfl, by decide, by decide, ph hP0, pk hP0, fun H1 d2 c1 hP1 d20 d21 => ?_⟩
    have hm : 0 ≤ d1 * d2 ∧ d1 * d2 ≤ 7 := by
      have h1 : d1 = 0 ∨ d1 = 1 := by omega
      rcases h1 with rfl | rfl <;> omega
    refine ⟨_, _, rfl, rfl, .inl ⟨by omega, by omega⟩, _, _, rfl, rfl, _, rfl, by omega, by omega, fun L hL => ?_⟩
    have nL : L ≠ l := hP1.ne hL
    have k1 := Ch.trans c0 c1
    have fL : H L = none := Ch.free k1 hL nL
    refine lc_range (lo := 0) (n := (1 + d1 * d2).toNat) (fun i H' => Ch l H H' ∧ PotAt H' l ∧ ∃ cs : List Str, cs.length = i ∧ (∀ z ∈ cs, lowS z) ∧ H' L = some (.lst (cs.map V.str)))
      ⟨Ch.over k1 fL, hP1.new nL, [], rfl, fun x hx => (by cases hx), upd_same⟩ ?_ ?_
    · rintro i H2 hi ⟨k2, hP2, cs, e1, e2, e3⟩
      refine ⟨rfl, _, rfl, _, rfl, l, _, pa hP2, pb hP2, rfl, by decide, by decide, ph hP2, pk hP2, fun H3 d c3 hP3 d0 d1 => ?_⟩
      obtain ⟨dn, rfl⟩ : ∃ n : Nat, d = (n : Int) := ⟨d.toNat, by omega⟩
      have hdn : dn < abc.cps.toList.length := by
        rw [abc_len]
        omega
      refine ⟨_, _, abc.cps.toList[dn], rfl, rfl, by decide +kernel, atI_nat (List.getElem?_eq_getElem hdn), cs.map V.str, c3 L _ e3 nL, ?_, Ch.over (Ch.trans k2 c3) fL, hP3.new nL, cs ++ [⟨#[abc.cps.toList[dn]]⟩], ?_, ?_, ?_⟩
      · rw [List.length_map, e1]
        exact small1000 (by omega)
      · rw [List.length_append, e1]
        rfl
      · intro x hx
        rcases List.mem_append.mp hx with z | z
        · exact e2 x z
        · rw [List.mem_singleton.mp z]
          refine ⟨rfl, fun c hc => ?_⟩
          have ec : c = abc.cps.toList[dn] := by simpa using hc
          rw [ec]
          exact abc_low _ (List.getElem_mem hdn)
      · rw [upd_same]
        exact congrArg (fun z => some (HO.lst z)) (map_snoc V.str cs _)
    rintro H2 ⟨k2, hP2, cs, e1, e2, e3⟩
    have hs : (cs.map (·.length)).sum = cs.length := by
      have go : ∀ l : List Str, (∀ y ∈ l, lowS y) → (l.map (·.length)).sum = l.length := fun l => by
        induction l with
        | nil => intro _; rfl
        | cons a l ih =>
          intro hh
          rw [List.map_cons, List.sum_cons, ih (fun y hy => hh y (List.mem_cons_of_mem _ hy)), (hh a List.mem_cons_self).1, List.length_cons]
          omega
      exact go cs e2
    have hz0 : (Str.ofString "").length = 0 := by decide +kernel
    have hz1 : nmOk (Txt.join (Str.ofString "") cs) := nm_join e2 (by omega) (by omega)
    refine ⟨_, L, cs, rfl, rfl, .inl (SqL.of e3), by rw [hz0, hs, e1]; omega, ?_⟩
    generalize Txt.join (Str.ofString "") cs = z1 at hz1 ⊢
    refine ⟨_, rfl, l, _, pa hP2, pb hP2, rfl, by decide, by decide, ph hP2, pk hP2, fun H3 way c3 hP3 w0 w1 => ?_⟩
    have k3 := Ch.trans k2 c3
    have ht3 := k3 t _ ht ntl
    refine ⟨_, rfl, rfl, _, rfl, ?_⟩
    by_cases hw0 : way = 0
    · subst hw0
      refine ⟨sz (by simp), fun W hW => ?_⟩
      have nW : W ≠ l := hP3.ne hW
      refine ⟨_, rfl, l, _, pa (hP3.new nW), pb (hP3.new nW), rfl, by decide, by decide, ph (hP3.new nW), pk (hP3.new nW), fun H4 d c4 hP4 d0 d1 => ?_⟩
      obtain ⟨dn, rfl⟩ : ∃ n : Nat, d = (n : Int) := ⟨d.toNat, by omega⟩
      have hdn : dn < wordsT.length := by
        show dn < 10
        omega
      have k4 : Ch l H H4 := Ch.trans k3 (Ch.trans (Ch.new hW) c4)
      have ht4 := k4 t _ ht ntl
      have hz4 := wordsT_ok _ (List.getElem_mem hdn)
      refine ⟨W, wordsT.map V.str, _, .str wordsT[dn], rfl, rfl, SqL.of (c4 W _ upd_same nW), atI_nat (by rw [List.getElem?_map, List.getElem?_eq_getElem hdn]; rfl), ?_⟩
      generalize wordsT[dn] = z4 at hz4 ⊢
      refine ⟨_, rfl, rfl, _, rfl, ?_⟩
      rw [show decide (V.int 0 = V.int 1) = false from by decide]
      refine ⟨_, rfl, _, rfl, t, _, rfl, .inl (SqL.of ht4), rfl, flat_strs ns, _, rfl, ?_⟩
      show if inV (.str z4) (ns.map V.str) = true then _ else _
      rw [inV_strs]
      by_cases hin : z4 ∈ ns
      · rw [decide_eq_true hin]
        refine ⟨_, rfl, abc, rfl, fun D1 hD1 => ?_⟩
        refine lc_it walk_str (fun i H' => Nx H4 H' ∧ H' D1 = some (.lst ((abcS.take i).map V.str))) ⟨Nx.new hD1, upd_same⟩ (fun _ _ _ _ => trivial) (fun i x H5 H6 hi => ?_) (fun H5 => ?_)
        · rintro ⟨n5, e5⟩ ⟨rfl, c, hc, rfl⟩
          refine ⟨rfl, _, rfl, _, e5, by rw [List.length_map, List.length_take]; exact small1000 (Nat.le_trans (Nat.min_le_right _ _) (by rw [abcS_len]; decide)), n5.over hD1, ?_⟩
          rw [upd_same, take_snoc (abcS_get hc), List.map_append]
          rfl
        rintro ⟨n5, e5⟩
        rw [abc_size, ← abcS_len, List.take_length] at e5
        refine ⟨_, rfl, abc, rfl, fun D2 hD2 => ?_⟩
        refine lc_it walk_str (fun i H' => Nx H5 H' ∧ H' D2 = some (.lst ((qS.take i).map V.str))) ⟨Nx.new hD2, upd_same⟩ (fun _ _ _ _ => trivial) (fun i x H6 H7 hi => ?_) (fun H6 => ?_)
        · rintro ⟨n6, e6⟩ ⟨rfl, c, hc, rfl⟩
          have hq1 : (Str.ofString "q").length = 1 := by decide +kernel
          refine ⟨rfl, _, rfl, _, _, rfl, rfl, sz (by rw [hq1]; show 1 + 1 ≤ 1000; decide), _, e6, by rw [List.length_map, List.length_take]; exact small1000 (Nat.le_trans (Nat.min_le_right _ _) (by rw [qS_len]; decide)), n6.over hD2, ?_⟩
          rw [upd_same, take_snoc (qS_get hc), List.map_append]
          rfl
        rintro ⟨n6, e6⟩
        rw [abc_size, ← qS_len, List.take_length] at e6
        refine ⟨D1, D2, _, _, rfl, rfl, n6 _ _ e5, e6, cat_len, fun p hp => ?_⟩
        have n7 : Nx H4 (upd H6 p (.lst (abcS.map V.str ++ qS.map V.str))) := (n5.trans n6).trans (Nx.new hp)
        have ht7 := n7 _ _ ht4
        have e7 : (upd H6 p (.lst (abcS.map V.str ++ qS.map V.str))) p = some (.lst (A52.map V.str)) := by
          rw [upd_same, List.map_append]
        refine ⟨_, rfl, p, rfl, ⟨_, SqL.of e7⟩, fun D4 hD4 => ?_⟩
        refine lc_list (K := K) (a := p) (xs := A52.map V.str) (fun i H' => Nx (upd H6 p (.lst (abcS.map V.str ++ qS.map V.str))) H' ∧ H' D4 = some (.lst (((A52.take i).filter (fun z => !decide (z ∈ ns))).map V.str))) ⟨Nx.new hD4, upd_same⟩ (fun i H' _ h => SqL.of (h.1 _ _ e7)) (fun i x H8 hx => ?_) (fun H8 => ?_)
        · rintro ⟨n8, e8⟩
          obtain ⟨y, hy, rfl⟩ : ∃ y, A52[i]? = some y ∧ x = .str y := by
            rw [List.getElem?_map] at hx
            cases e : A52[i]? with
            | none =>
              rw [e] at hx
              cases hx
            | some y =>
              rw [e] at hx
              exact ⟨y, rfl, (Option.some.inj hx).symm⟩
          refine ⟨rfl, _, rfl, _, rfl, t, _, rfl, .inl (SqL.of (n8 _ _ ht7)), rfl, flat_strs ns, _, rfl, ?_⟩
          show if (!inV (.str y) (ns.map V.str)) = true then _ else _
          rw [inV_strs]
          by_cases hy2 : y ∈ ns
          · rw [decide_eq_true hy2]
            refine ⟨n8, ?_⟩
            rw [take_snoc hy, List.filter_append]
            simp [hy2]
            simpa using e8
          · rw [decide_eq_false hy2]
            refine ⟨_, rfl, _, e8, ?_, n8.over hD4, ?_⟩
            · rw [List.length_map]
              refine small1000 (Nat.le_trans (List.length_filter_le _ _) ?_)
              rw [List.length_take, A52_len]
              omega
            · rw [upd_same, take_snoc hy, List.filter_append, List.map_append]
              simp [hy2]
        rintro ⟨n8, e8⟩
        rw [List.length_map, List.take_length] at e8
        obtain ⟨z9, r9, ef, h9, hn9⟩ := unlike (B := ns) A52_nd (by rw [A52_len]; omega)
        rw [ef] at e8
        have ht8 := n8 _ _ ht7
        refine ⟨D4, _, 0, .str z9, rfl, rfl, SqL.of e8, atI_nat (j := 0) rfl, ?_⟩
        have k8 : Ch l H H8 := Ch.trans k4 (Nx.ch (n7.trans n8))
        have hP8 := Nx.pot (n7.trans n8) hP4
        refine ⟨_, rfl, .inl ⟨rfl, _, SqL.of ht8⟩, _, rfl, t, _, _, rfl, rfl, ht8, by rw [List.length_map]; exact small1000 (by omega), q _ z9 (fun b o e n1 n2 => by rw [upd_ne n2]; exact k8 b o e n1) (hP8.new ntl) (A52_ok z9 h9) hn9 ?_⟩
        rw [upd_same]
        exact congrArg (fun z => some (HO.lst z)) (map_snoc V.str ns _)
      · rw [decide_eq_false hin]
        refine ⟨_, rfl, .inl ⟨rfl, _, SqL.of ht4⟩, _, rfl, t, _, _, rfl, rfl, ht4, by rw [List.length_map]; exact small1000 (by omega), q _ z4 (fun b o e n1 n2 => by rw [upd_ne n2]; exact k4 b o e n1) (hP4.new ntl) hz4 hin ?_⟩
        rw [upd_same]
        exact congrArg (fun z => some (HO.lst z)) (map_snoc V.str ns _)
    rw [show decide (V.int way = V.int 0) = false from decide_eq_false fun e => hw0 (V.int.inj e)]
    refine ⟨_, rfl, rfl, _, rfl, ?_⟩
    by_cases hw1 : way = 1
    · subst hw1
      refine ⟨_, rfl, sz (by simp), fun N0 hN0 => ?_⟩
      have n4 : Nx H3 (upd H3 N0 (.lst [])) := Nx.new hN0
      have ht4 := n4 _ _ ht3
      have k4 : Ch l H (upd H3 N0 (.lst [])) := Ch.trans k3 (Nx.ch n4)
      have hP4 := Nx.pot n4 hP3
      refine ⟨.list (ns.map PyData.str), .list (([] : List Str).map PyData.str), .lst (SqL.of ht4) (dp_strs ns), .lst (SqL.of upd_same) (dp_strs []), shaped_strs (fun w hw => strOk_nm (hns w hw)), shaped_strs (fun w hw => by cases hw), _, rfl, ?_⟩
      have eq1 : PyData.eqv (.list (ns.map PyData.str)) (.list (([] : List Str).map PyData.str)) = decide (ns = []) := eqv_strs ns []
      rw [eq1]
      by_cases hn0 : ns = []
      · rw [decide_eq_true hn0]
        refine ⟨_, rfl, _, rfl, t, _, rfl, .inl (SqL.of ht4), rfl, flat_strs ns, _, rfl, ?_⟩
        show if inV (.str z1) (ns.map V.str) = true then _ else _
        rw [inV_strs]
        by_cases hin : z1 ∈ ns
        · rw [decide_eq_true hin]
          refine ⟨_, rfl, abc, rfl, fun D1 hD1 => ?_⟩
          refine lc_it walk_str (fun i H' => Nx (upd H3 N0 (.lst [])) H' ∧ H' D1 = some (.lst ((abcS.take i).map V.str))) ⟨Nx.new hD1, upd_same⟩ (fun _ _ _ _ => trivial) (fun i x H5 H6 hi => ?_) (fun H5 => ?_)
          · rintro ⟨n5, e5⟩ ⟨rfl, c, hc, rfl⟩
            refine ⟨rfl, _, rfl, _, e5, by rw [List.length_map, List.length_take]; exact small1000 (Nat.le_trans (Nat.min_le_right _ _) (by rw [abcS_len]; decide)), n5.over hD1, ?_⟩
            rw [upd_same, take_snoc (abcS_get hc), List.map_append]
            rfl
          rintro ⟨n5, e5⟩
          rw [abc_size, ← abcS_len, List.take_length] at e5
          refine ⟨_, rfl, abc, rfl, fun D2 hD2 => ?_⟩
          refine lc_it walk_str (fun i H' => Nx H5 H' ∧ H' D2 = some (.lst ((qS.take i).map V.str))) ⟨Nx.new hD2, upd_same⟩ (fun _ _ _ _ => trivial) (fun i x H6 H7 hi => ?_) (fun H6 => ?_)
          · rintro ⟨n6, e6⟩ ⟨rfl, c, hc, rfl⟩
            have hq1 : (Str.ofString "q").length = 1 := by decide +kernel
            refine ⟨rfl, _, rfl, _, _, rfl, rfl, sz (by rw [hq1]; show 1 + 1 ≤ 1000; decide), _, e6, by rw [List.length_map, List.length_take]; exact small1000 (Nat.le_trans (Nat.min_le_right _ _) (by rw [qS_len]; decide)), n6.over hD2, ?_⟩
            rw [upd_same, take_snoc (qS_get hc), List.map_append]
            rfl
          rintro ⟨n6, e6⟩
          rw [abc_size, ← qS_len, List.take_length] at e6
          refine ⟨D1, D2, _, _, rfl, rfl, n6 _ _ e5, e6, cat_len, fun p hp => ?_⟩
          have n7 : Nx (upd H3 N0 (.lst [])) (upd H6 p (.lst (abcS.map V.str ++ qS.map V.str))) := (n5.trans n6).trans (Nx.new hp)
          have ht7 := n7 _ _ ht4
          have e7 : (upd H6 p (.lst (abcS.map V.str ++ qS.map V.str))) p = some (.lst (A52.map V.str)) := by
            rw [upd_same, List.map_append]
          refine ⟨_, rfl, p, rfl, ⟨_, SqL.of e7⟩, fun D4 hD4 => ?_⟩
          refine lc_list (K := K) (a := p) (xs := A52.map V.str) (fun i H' => Nx (upd H6 p (.lst (abcS.map V.str ++ qS.map V.str))) H' ∧ H' D4 = some (.lst (((A52.take i).filter (fun z => !decide (z ∈ ns))).map V.str))) ⟨Nx.new hD4, upd_same⟩ (fun i H' _ h => SqL.of (h.1 _ _ e7)) (fun i x H8 hx => ?_) (fun H8 => ?_)
          · rintro ⟨n8, e8⟩
            obtain ⟨y, hy, rfl⟩ : ∃ y, A52[i]? = some y ∧ x = .str y := by
              rw [List.getElem?_map] at hx
              cases e : A52[i]? with
              | none =>
                rw [e] at hx
                cases hx
              | some y =>
                rw [e] at hx
                exact ⟨y, rfl, (Option.some.inj hx).symm⟩
            refine ⟨rfl, _, rfl, _, rfl, t, _, rfl, .inl (SqL.of (n8 _ _ ht7)), rfl, flat_strs ns, _, rfl, ?_⟩
            show if (!inV (.str y) (ns.map V.str)) = true then _ else _
            rw [inV_strs]
            by_cases hy2 : y ∈ ns
            · rw [decide_eq_true hy2]
              refine ⟨n8, ?_⟩
              rw [take_snoc hy, List.filter_append]
              simp [hy2]
              simpa using e8
            · rw [decide_eq_false hy2]
              refine ⟨_, rfl, _, e8, ?_, n8.over hD4, ?_⟩
              · rw [List.length_map]
                refine small1000 (Nat.le_trans (List.length_filter_le _ _) ?_)
                rw [List.length_take, A52_len]
                omega
              · rw [upd_same, take_snoc hy, List.filter_append, List.map_append]
                simp [hy2]
          rintro ⟨n8, e8⟩
          rw [List.length_map, List.take_length] at e8
          obtain ⟨z9, r9, ef, h9, hn9⟩ := unlike (B := ns) A52_nd (by rw [A52_len]; omega)
          rw [ef] at e8
          have ht8 := n8 _ _ ht7
          refine ⟨D4, _, 0, .str z9, rfl, rfl, SqL.of e8, atI_nat (j := 0) rfl, ?_⟩
          have k8 : Ch l H H8 := Ch.trans k4 (Nx.ch (n7.trans n8))
          have hP8 := Nx.pot (n7.trans n8) hP4
          refine ⟨_, rfl, .inl ⟨rfl, _, SqL.of ht8⟩, _, rfl, t, _, _, rfl, rfl, ht8, by rw [List.length_map]; exact small1000 (by omega), q _ z9 (fun b o e n1 n2 => by rw [upd_ne n2]; exact k8 b o e n1) (hP8.new ntl) (A52_ok z9 h9) hn9 ?_⟩
          rw [upd_same]
          exact congrArg (fun z => some (HO.lst z)) (map_snoc V.str ns _)
        · rw [decide_eq_false hin]
          refine ⟨_, rfl, .inl ⟨rfl, _, SqL.of ht4⟩, _, rfl, t, _, _, rfl, rfl, ht4, by rw [List.length_map]; exact small1000 (by omega), q _ z1 (fun b o e n1 n2 => by rw [upd_ne n2]; exact k4 b o e n1) (hP4.new ntl) hz1 hin ?_⟩
          rw [upd_same]
          exact congrArg (fun z => some (HO.lst z)) (map_snoc V.str ns _)
      · rw [decide_eq_false hn0]
        have hpos : 0 < ns.length := List.length_pos_iff.mpr hn0
        have hlast : ns.length - 1 < ns.length := by omega
        have hla := hns _ (List.getElem_mem hlast)
        have l1 := (nm_len hla).1
        have l2 := (nm_len hz1).1
        have hcat : (ns[ns.length - 1] ++ z1).length ≤ sizeLine := sz (by rw [strLen_append]; omega)
        refine ⟨_, rfl, 1, rfl, t, _, -1, .str ns[ns.length - 1], rfl, rfl, SqL.of ht4, ?_, _, rfl, _, _, rfl, rfl, sz (by omega), _, rfl, _, rfl, hcat, ?_⟩
        · have e : ns = ns.dropLast ++ [ns[ns.length - 1]] := by
            have h := List.dropLast_concat_getLast hn0
            rw [List.getLast_eq_getElem] at h
            exact h.symm
          have e2 : ns.map V.str = ns.dropLast.map V.str ++ [.str ns[ns.length - 1]] := by
            have := congrArg (List.map V.str) e
            rw [List.map_append] at this
            exact this
          rw [e2]
          exact atI_last _ _
        have hz5 := nm_cut hla hz1
        generalize cutS (ns[ns.length - 1] ++ z1) none (some 8) = z5 at hz5 ⊢
        refine ⟨_, rfl, _, rfl, t, _, rfl, .inl (SqL.of ht4), rfl, flat_strs ns, _, rfl, ?_⟩
        show if inV (.str z5) (ns.map V.str) = true then _ else _
        rw [inV_strs]
        by_cases hin : z5 ∈ ns
        · rw [decide_eq_true hin]
          refine ⟨_, rfl, abc, rfl, fun D1 hD1 => ?_⟩
          refine lc_it walk_str (fun i H' => Nx (upd H3 N0 (.lst [])) H' ∧ H' D1 = some (.lst ((abcS.take i).map V.str))) ⟨Nx.new hD1, upd_same⟩ (fun _ _ _ _ => trivial) (fun i x H5 H6 hi => ?_) (fun H5 => ?_)
          · rintro ⟨n5, e5⟩ ⟨rfl, c, hc, rfl⟩
            refine ⟨rfl, _, rfl, _, e5, by rw [List.length_map, List.length_take]; exact small1000 (Nat.le_trans (Nat.min_le_right _ _) (by rw [abcS_len]; decide)), n5.over hD1, ?_⟩
            rw [upd_same, take_snoc (abcS_get hc), List.map_append]
            rfl
          rintro ⟨n5, e5⟩
          rw [abc_size, ← abcS_len, List.take_length] at e5
          refine ⟨_, rfl, abc, rfl, fun D2 hD2 => ?_⟩
          refine lc_it walk_str (fun i H' => Nx H5 H' ∧ H' D2 = some (.lst ((qS.take i).map V.str))) ⟨Nx.new hD2, upd_same⟩ (fun _ _ _ _ => trivial) (fun i x H6 H7 hi => ?_) (fun H6 => ?_)
          · rintro ⟨n6, e6⟩ ⟨rfl, c, hc, rfl⟩
            have hq1 : (Str.ofString "q").length = 1 := by decide +kernel
            refine ⟨rfl, _, rfl, _, _, rfl, rfl, sz (by rw [hq1]; show 1 + 1 ≤ 1000; decide), _, e6, by rw [List.length_map, List.length_take]; exact small1000 (Nat.le_trans (Nat.min_le_right _ _) (by rw [qS_len]; decide)), n6.over hD2, ?_⟩
            rw [upd_same, take_snoc (qS_get hc), List.map_append]
            rfl
          rintro ⟨n6, e6⟩
          rw [abc_size, ← qS_len, List.take_length] at e6
          refine ⟨D1, D2, _, _, rfl, rfl, n6 _ _ e5, e6, cat_len, fun p hp => ?_⟩
          have n7 : Nx (upd H3 N0 (.lst [])) (upd H6 p (.lst (abcS.map V.str ++ qS.map V.str))) := (n5.trans n6).trans (Nx.new hp)
          have ht7 := n7 _ _ ht4
          have e7 : (upd H6 p (.lst (abcS.map V.str ++ qS.map V.str))) p = some (.lst (A52.map V.str)) := by
            rw [upd_same, List.map_append]
          refine ⟨_, rfl, p, rfl, ⟨_, SqL.of e7⟩, fun D4 hD4 => ?_⟩
          refine lc_list (K := K) (a := p) (xs := A52.map V.str) (fun i H' => Nx (upd H6 p (.lst (abcS.map V.str ++ qS.map V.str))) H' ∧ H' D4 = some (.lst (((A52.take i).filter (fun z => !decide (z ∈ ns))).map V.str))) ⟨Nx.new hD4, upd_same⟩ (fun i H' _ h => SqL.of (h.1 _ _ e7)) (fun i x H8 hx => ?_) (fun H8 => ?_)
          · rintro ⟨n8, e8⟩
            obtain ⟨y, hy, rfl⟩ : ∃ y, A52[i]? = some y ∧ x = .str y := by
              rw [List.getElem?_map] at hx
              cases e : A52[i]? with
              | none =>
                rw [e] at hx
                cases hx
              | some y =>
                rw [e] at hx
                exact ⟨y, rfl, (Option.some.inj hx).symm⟩
            refine ⟨rfl, _, rfl, _, rfl, t, _, rfl, .inl (SqL.of (n8 _ _ ht7)), rfl, flat_strs ns, _, rfl, ?_⟩
            show if (!inV (.str y) (ns.map V.str)) = true then _ else _
            rw [inV_strs]
            by_cases hy2 : y ∈ ns
            · rw [decide_eq_true hy2]
              refine ⟨n8, ?_⟩
              rw [take_snoc hy, List.filter_append]
              simp [hy2]
              simpa using e8
            · rw [decide_eq_false hy2]
              refine ⟨_, rfl, _, e8, ?_, n8.over hD4, ?_⟩
              · rw [List.length_map]
                refine small1000 (Nat.le_trans (List.length_filter_le _ _) ?_)
                rw [List.length_take, A52_len]
                omega
              · rw [upd_same, take_snoc hy, List.filter_append, List.map_append]
                simp [hy2]
          rintro ⟨n8, e8⟩
          rw [List.length_map, List.take_length] at e8
          obtain ⟨z9, r9, ef, h9, hn9⟩ := unlike (B := ns) A52_nd (by rw [A52_len]; omega)
          rw [ef] at e8
          have ht8 := n8 _ _ ht7
          refine ⟨D4, _, 0, .str z9, rfl, rfl, SqL.of e8, atI_nat (j := 0) rfl, ?_⟩
          have k8 : Ch l H H8 := Ch.trans k4 (Nx.ch (n7.trans n8))
          have hP8 := Nx.pot (n7.trans n8) hP4
          refine ⟨_, rfl, .inl ⟨rfl, _, SqL.of ht8⟩, _, rfl, t, _, _, rfl, rfl, ht8, by rw [List.length_map]; exact small1000 (by omega), q _ z9 (fun b o e n1 n2 => by rw [upd_ne n2]; exact k8 b o e n1) (hP8.new ntl) (A52_ok z9 h9) hn9 ?_⟩
          rw [upd_same]
          exact congrArg (fun z => some (HO.lst z)) (map_snoc V.str ns _)
        · rw [decide_eq_false hin]
          refine ⟨_, rfl, .inl ⟨rfl, _, SqL.of ht4⟩, _, rfl, t, _, _, rfl, rfl, ht4, by rw [List.length_map]; exact small1000 (by omega), q _ z5 (fun b o e n1 n2 => by rw [upd_ne n2]; exact k4 b o e n1) (hP4.new ntl) hz5 hin ?_⟩
          rw [upd_same]
          exact congrArg (fun z => some (HO.lst z)) (map_snoc V.str ns _)
    · rw [show decide (V.int way = V.int 1) = false from decide_eq_false fun e => hw1 (V.int.inj e)]
      refine ⟨_, rfl, _, rfl, t, _, rfl, .inl (SqL.of ht3), rfl, flat_strs ns, _, rfl, ?_⟩
      show if inV (.str z1) (ns.map V.str) = true then _ else _
      rw [inV_strs]
      by_cases hin : z1 ∈ ns
      · rw [decide_eq_true hin]
        refine ⟨_, rfl, abc, rfl, fun D1 hD1 => ?_⟩
        refine lc_it walk_str (fun i H' => Nx H3 H' ∧ H' D1 = some (.lst ((abcS.take i).map V.str))) ⟨Nx.new hD1, upd_same⟩ (fun _ _ _ _ => trivial) (fun i x H5 H6 hi => ?_) (fun H5 => ?_)
        · rintro ⟨n5, e5⟩ ⟨rfl, c, hc, rfl⟩
          refine ⟨rfl, _, rfl, _, e5, by rw [List.length_map, List.length_take]; exact small1000 (Nat.le_trans (Nat.min_le_right _ _) (by rw [abcS_len]; decide)), n5.over hD1, ?_⟩
          rw [upd_same, take_snoc (abcS_get hc), List.map_append]
          rfl
        rintro ⟨n5, e5⟩
        rw [abc_size, ← abcS_len, List.take_length] at e5
        refine ⟨_, rfl, abc, rfl, fun D2 hD2 => ?_⟩
        refine lc_it walk_str (fun i H' => Nx H5 H' ∧ H' D2 = some (.lst ((qS.take i).map V.str))) ⟨Nx.new hD2, upd_same⟩ (fun _ _ _ _ => trivial) (fun i x H6 H7 hi => ?_) (fun H6 => ?_)
        · rintro ⟨n6, e6⟩ ⟨rfl, c, hc, rfl⟩
          have hq1 : (Str.ofString "q").length = 1 := by decide +kernel
          refine ⟨rfl, _, rfl, _, _, rfl, rfl, sz (by rw [hq1]; show 1 + 1 ≤ 1000; decide), _, e6, by rw [List.length_map, List.length_take]; exact small1000 (Nat.le_trans (Nat.min_le_right _ _) (by rw [qS_len]; decide)), n6.over hD2, ?_⟩
          rw [upd_same, take_snoc (qS_get hc), List.map_append]
          rfl
        rintro ⟨n6, e6⟩
        rw [abc_size, ← qS_len, List.take_length] at e6
        refine ⟨D1, D2, _, _, rfl, rfl, n6 _ _ e5, e6, cat_len, fun p hp => ?_⟩
        have n7 : Nx H3 (upd H6 p (.lst (abcS.map V.str ++ qS.map V.str))) := (n5.trans n6).trans (Nx.new hp)
        have ht7 := n7 _ _ ht3
        have e7 : (upd H6 p (.lst (abcS.map V.str ++ qS.map V.str))) p = some (.lst (A52.map V.str)) := by
          rw [upd_same, List.map_append]
        refine ⟨_, rfl, p, rfl, ⟨_, SqL.of e7⟩, fun D4 hD4 => ?_⟩
        refine lc_list (K := K) (a := p) (xs := A52.map V.str) (fun i H' => Nx (upd H6 p (.lst (abcS.map V.str ++ qS.map V.str))) H' ∧ H' D4 = some (.lst (((A52.take i).filter (fun z => !decide (z ∈ ns))).map V.str))) ⟨Nx.new hD4, upd_same⟩ (fun i H' _ h => SqL.of (h.1 _ _ e7)) (fun i x H8 hx => ?_) (fun H8 => ?_)
        · rintro ⟨n8, e8⟩
          obtain ⟨y, hy, rfl⟩ : ∃ y, A52[i]? = some y ∧ x = .str y := by
            rw [List.getElem?_map] at hx
            cases e : A52[i]? with
            | none =>
              rw [e] at hx
              cases hx
            | some y =>
              rw [e] at hx
              exact ⟨y, rfl, (Option.some.inj hx).symm⟩
          refine ⟨rfl, _, rfl, _, rfl, t, _, rfl, .inl (SqL.of (n8 _ _ ht7)), rfl, flat_strs ns, _, rfl, ?_⟩
          show if (!inV (.str y) (ns.map V.str)) = true then _ else _
          rw [inV_strs]
          by_cases hy2 : y ∈ ns
          · rw [decide_eq_true hy2]
            refine ⟨n8, ?_⟩
            rw [take_snoc hy, List.filter_append]
            simp [hy2]
            simpa using e8
          · rw [decide_eq_false hy2]
            refine ⟨_, rfl, _, e8, ?_, n8.over hD4, ?_⟩
            · rw [List.length_map]
              refine small1000 (Nat.le_trans (List.length_filter_le _ _) ?_)
              rw [List.length_take, A52_len]
              omega
            · rw [upd_same, take_snoc hy, List.filter_append, List.map_append]
              simp [hy2]
        rintro ⟨n8, e8⟩
        rw [List.length_map, List.take_length] at e8
        obtain ⟨z9, r9, ef, h9, hn9⟩ := unlike (B := ns) A52_nd (by rw [A52_len]; omega)
        rw [ef] at e8
        have ht8 := n8 _ _ ht7
        refine ⟨D4, _, 0, .str z9, rfl, rfl, SqL.of e8, atI_nat (j := 0) rfl, ?_⟩
        have k8 : Ch l H H8 := Ch.trans k3 (Nx.ch (n7.trans n8))
        have hP8 := Nx.pot (n7.trans n8) hP3
        refine ⟨_, rfl, .inl ⟨rfl, _, SqL.of ht8⟩, _, rfl, t, _, _, rfl, rfl, ht8, by rw [List.length_map]; exact small1000 (by omega), q _ z9 (fun b o e n1 n2 => by rw [upd_ne n2]; exact k8 b o e n1) (hP8.new ntl) (A52_ok z9 h9) hn9 ?_⟩
        rw [upd_same]
        exact congrArg (fun z => some (HO.lst z)) (map_snoc V.str ns _)
      · rw [decide_eq_false hin]
        refine ⟨_, rfl, .inl ⟨rfl, _, SqL.of ht3⟩, _, rfl, t, _, _, rfl, rfl, ht3, by rw [List.length_map]; exact small1000 (by omega), q _ z1 (fun b o e n1 n2 => by rw [upd_ne n2]; exact k3 b o e n1) (hP3.new ntl) hz1 hin ?_⟩
        rw [upd_same]
        exact congrArg (fun z => some (HO.lst z)) (map_snoc V.str ns _)
end
end D21
set_option maxHeartbeats 4000000
namespace D21
open PySem PySem.Spec PyProof.Rows L2 HM XW XR K11
abbrev sFs : Stmt := top 12
theorem scFs : FnScope ["_law_pot_here", "_law_room", "_law_own", "_law_number_here", "_law_found", "_law_k", "_law_path"] ["_law_pot_here", "_law_room"] (defScope sFs) := ⟨rfl, rfl, rfl, by decide +kernel, rfl, by decide +kernel, by decide +kernel⟩
theorem rg_take {Av : Addr → Prop} {H : Hp} : ∀ (i : Nat) {vs : List V} {ds : List PyData}, RgAll Av H vs ds → RgAll Av H (vs.take i) (ds.take i)
  | 0, _, _, _ => .nil
  | i + 1, _, _, .nil => .nil
  | i + 1, _, _, .cons h r => .cons h (rg_take i r)
theorem rg_drop {Av : Addr → Prop} {H : Hp} : ∀ (i : Nat) {vs : List V} {ds : List PyData}, RgAll Av H vs ds → RgAll Av H (vs.drop i) (ds.drop i)
  | 0, _, _, h => h
  | i + 1, _, _, .nil => .nil
  | i + 1, _, _, .cons h r => rg_drop i r
abbrev AllA : Addr → Prop := fun _ => True
def fD (p : Int × Str) : PyData := .tuple [.int p.1, .str p.2]
abbrev fsD (fs : List (Int × Str)) : List PyData := fs.map fD
theorem dp_fs {K : PySem.W.Frag} {H : Hp} : ∀ {fs : List (Int × Str)} {xs : List V}, RgAll AllA H xs (fsD fs) → DpAll K H xs (fsD fs)
  | [], _, .nil => .nil
  | p :: fs, _, .cons h r => by
    refine .cons ?_ (dp_fs r)
    cases h with
    | tup e t =>
      cases t with
      | cons a t =>
      cases t with
      | cons b t =>
      cases t
      cases a
      cases b
      exact .tup (SqT.of e) (.cons (.int _) (.cons (.str _) .nil))
theorem shaped_fs {fs : List (Int × Str)} (h : ∀ p ∈ fs, PyData.strOk p.2 = true) : SeqAt.shaped (.list (fsD fs)) = true := by
  have go : ∀ fs : List (Int × Str), (∀ p ∈ fs, PyData.strOk p.2 = true) → PyData.canLayAll0 (fsD fs) = true ∧ PyData.depthAll (fsD fs) ≤ 1 := fun fs => by
    induction fs with
    | nil => intro _; exact ⟨rfl, Nat.zero_le _⟩
    | cons p fs ih =>
      intro hh
      obtain ⟨h1, h2⟩ := ih fun y hy => hh y (List.mem_cons_of_mem _ hy)
      refine ⟨?_, ?_⟩
      · show (PyData.canLay0 (fD p) && PyData.canLayAll0 (fsD fs)) = true
        rw [h1, Bool.and_true]
        show (PyData.canLay0 (.int p.1) && (PyData.canLay0 (.str p.2) && PyData.canLayAll0 [])) = true
        rw [show PyData.canLay0 (.str p.2) = PyData.strOk p.2 from rfl, hh p List.mem_cons_self]
        rfl
      · show max (PyData.depth (fD p)) (PyData.depthAll (fsD fs)) ≤ 1
        have e : PyData.depth (fD p) = 1 := rfl
        rw [e]
        omega
  obtain ⟨h1, h2⟩ := go fs h
  unfold SeqAt.shaped
  rw [show PyData.canLay0 (.list (fsD fs)) = PyData.canLayAll0 (fsD fs) from rfl, h1, show PyData.depth (.list (fsD fs)) = PyData.depthAll (fsD fs) + 1 from rfl, decide_eq_true (by omega)]
  rfl
theorem eqv_nil (fs : List (Int × Str)) : PyData.eqv (.list (fsD fs)) (.list (fsD [])) = decide (fs = []) := by
  cases fs with
  | nil => rfl
  | cons p fs =>
    rw [decide_eq_false (by simp)]
    rfl
theorem strOk_pt {z : Str} (h : ptOk z) : PyData.strOk z = true := by
  obtain ⟨ws, rfl, h1, h4, hw⟩ := h
  unfold PyData.strOk
  rw [← Array.all_toList, List.all_eq_true]
  have hok : okS (Txt.join (Str.ofString ".") ws) := okS_join (by unfold okS; decide +kernel) fun y hy c hc => by
    have := nm_low (hw y hy) c hc
    unfold low at this
    obtain ⟨_, h2⟩ := Bool.and_eq_true_iff.mp this
    have := of_decide_eq_true h2
    omega
  exact fun c hc => decide_eq_true (hok c hc)
section
variable {P : Program} {w : World} {K : PySem.W.Frag} {mg : Str → Option Value} {base : Heap} {f fD' fN fNs fR : Addr} {fd fdD fdN fdNs fdR : FuncData}
def spNms : Sp := fun vs H Q _ => ∃ (l : Addr) (m : Nat), vs = [.ref l, .int m] ∧ PotAt H l ∧ m ≤ 45 ∧ ∀ (H' : Hp) (t : Addr) (ns : List Str), Ch l H H' → PotAt H' l → H t = none → H' t = some (.lst (ns.map V.str)) → ns.Nodup → (∀ z ∈ ns, nmOk z) → ns.length = m → Q (.ref t) H'
theorem ok_nms (F : FnP K "_law_names" sNms f fd) (GN : FnOk P w K mg base CX0 2 fN fdN ["_law_pot_here", "_law_taken"] spNm) (FN : FnP K "_law_name" sNm fN fdN) (gN : mg "_law_name" = some (.ref fN)) (mr : mg "range" = none) : FnOk P w K mg base CX0 3 f fd ["_law_pot_here", "_law_room"] spNms := by
  have bN : Binds K fdN ["_law_pot_here", "_law_taken"] [] := FN.bindsN fun _ _ _ _ _ _ us hl => match us, hl with | [_, _], _ => rfl
  refine ok_code F scNms (fun vs H Q E h => ?_) (fun cdv A outer s H vs Q E hcd hr h => ?_)
  · obtain ⟨l, m, rfl, _⟩ := h
    rfl
  · obtain ⟨l, m, rfl, hP, hm, q⟩ := h
    refine ⟨_, pss_cons (ps_set (i := 2) scNms.nd rfl (.inl rfl) (pe_lst pa_nil))
      (pss_cons (ps_for PassesOwn.never rfl (pi_range1 (by rfl) mr (pa_cons (pv 1) pa_nil)) (pg_name (i := 3) scNms.nd rfl (.inl rfl)) (pss_one (ps_expr (pe_call GN hr (by rfl) gN FN.kp bN .nil pass0 (pa_cons (pv 0) (pa_cons (pv 2) pa_nil))))))
      (pss_one (ps_ret (pv 2)))), ?_⟩
    refine ⟨sz (by simp), fun t ht => ⟨_, rfl, _, rfl, by omega, by omega, ?_⟩⟩
    have nt : t ≠ l := hP.ne ht
    refine for_it (n := (m : Int).toNat) walk_range (fun i σ H' => ∃ (v3 : Option V) (ns : List Str), σ = [some (.ref l), some (.int m), some (.ref t), v3] ∧ Ch l H H' ∧ PotAt H' l ∧ H' t = some (.lst (ns.map V.str)) ∧ ns.Nodup ∧ (∀ z ∈ ns, nmOk z) ∧ ns.length = i)
      ⟨none, [], rfl, Ch.new ht, hP.new nt, upd_same, List.nodup_nil, fun x hx => (by cases hx), rfl⟩ (fun _ _ _ _ _ => trivial) ?_ ?_
    · rintro i x σ H1 H2 hi ⟨v3, ns, rfl, k1, hP1, et, hnd, hok, hl⟩ ⟨rfl, rfl⟩
      refine ⟨_, rfl, _, rfl, l, t, ns, rfl, hP1, et, hok, by omega, fun H3 z k3 hP3 hz hn e3 => ?_⟩
      refine ⟨_, ns ++ [z], rfl, fun b o e nb => k3 b o (k1 b o e nb) nb (ne_of_none e ht), hP3, e3, ?_, fun y hy => ?_, ?_⟩
      · rw [List.nodup_append]
        refine ⟨hnd, List.nodup_cons.mpr ⟨by simp, List.nodup_nil⟩, fun a ha b hb => ?_⟩
        rw [List.mem_singleton.mp hb]
        exact fun e => hn (e ▸ ha)
      · rcases List.mem_append.mp hy with y1 | y1
        · exact hok _ y1
        · rw [List.mem_singleton.mp y1]
          exact hz
      · rw [List.length_append, List.length_singleton, hl]
    · rintro σ H1 ⟨v3, ns, rfl, k1, hP1, et, hnd, hok, hl⟩
      exact ⟨_, rfl, q H1 t ns k1 hP1 ht et hnd hok (by omega)⟩
def factOk (p : Int × Str) : Prop := 1 ≤ p.1 ∧ p.1 < 10 ^ 60 ∧ ptOk p.2
def spFs : Sp := fun vs H Q _ => ∃ (l : Addr) (m : Nat), vs = [.ref l, .int m] ∧ PotAt H l ∧ m ≤ 20 ∧ ∀ (H' : Hp) (t : Addr) (xs : List V) (fs : List (Int × Str)), Ch l H H' → PotAt H' l → H t = none → H' t = some (.lst xs) → RgAll AllA H' xs (fsD fs) → (∀ p ∈ fs, factOk p) → fs.length = m → Q (.ref t) H'
end
end D21
set_option maxHeartbeats 4000000
namespace D21
open PySem PySem.Spec PyProof.Rows L2 HM XW XR K11
section
variable {P : Program} {w : World} {K : PySem.W.Frag} {mg : Str → Option Value} {base : Heap} {f fD' fN fNs fR : Addr} {fd fdD fdN fdNs fdR : FuncData}
theorem ok_fs (F : FnP K "_law_facts" sFs f fd) (GD : FnOk P w K mg base CX0 1 fD' fdD DP spDraw) (FD : FnP K "_law_draw" sDraw fD' fdD) (gD : mg "_law_draw" = some (.ref fD')) (GN : FnOk P w K mg base CX0 3 fNs fdNs ["_law_pot_here", "_law_room"] spNms) (FN : FnP K "_law_names" sNms fNs fdNs) (gN : mg "_law_names" = some (.ref fNs))
    (GR : FnOk P w K mg base CX0 2 fR fdR ["_law_pot_here", "_law_names_here"] (spRd K)) (FR : FnP K "_law_road" sRd fR fdR) (gR : mg "_law_road" = some (.ref fR)) (mr : mg "range" = none) (ml : mg "len" = none) : FnOk P w K mg base CX0 4 f fd ["_law_pot_here", "_law_room"] spFs := by
  have bD : Binds K fdD DP [] := FD.bindsN fun _ _ _ _ _ _ us hl => match us, hl with | [_, _], _ => rfl
  have bN : Binds K fdNs ["_law_pot_here", "_law_room"] [] := FN.bindsN fun _ _ _ _ _ _ us hl => match us, hl with | [_, _], _ => rfl
  have bR : Binds K fdR ["_law_pot_here", "_law_names_here"] [] := FR.bindsN fun _ _ _ _ _ _ us hl => match us, hl with | [_, _], _ => rfl
  refine ok_code F scFs (fun vs H Q E h => ?_) (fun cdv A outer s H vs Q E hcd hr h => ?_)
  · obtain ⟨l, m, rfl, _⟩ := h
    rfl
  · obtain ⟨l, m, rfl, hP, hm, q⟩ := h
    have hr1 : Room 1 (A.deeper (envOfC "_law_facts" (defScope sFs) s.heap.objs.size f cdv)) := hr.mono (by decide)
    have hr2 : Room 2 (A.deeper (envOfC "_law_facts" (defScope sFs) s.heap.objs.size f cdv)) := hr.mono (by decide)
    refine ⟨_, pss_cons (ps_set (i := 2) scFs.nd rfl (.inl rfl) (pe_call GN hr (by rfl) gN FN.kp bN .nil pass0 (pa_cons (pv 0) (pa_cons pe_int pa_nil))))
      (pss_cons (ps_set (i := 3) scFs.nd rfl (.inl rfl) (pe_op op_add pe_int (pe_call GD hr1 (by rfl) gD FD.kp bD .nil pass0 (pa_cons (pv 0) (pa_cons (pe_ix ix_list (pe_lst (pa_cons pe_int (pa_cons (pe_op op_pow pe_int pe_int) pa_nil))) (pe_op op_fdiv (pe_call GD hr1 (by rfl) gD FD.kp bD .nil pass0 (pa_cons (pv 0) (pa_cons pe_int pa_nil))) pe_int) (fun _ _ => rfl)) pa_nil)))))
      (pss_cons (ps_set (i := 4) scFs.nd rfl (.inl rfl) (pe_lst pa_nil))
      (pss_cons (ps_for PassesOwn.never rfl (pi_range1 (by rfl) mr (pa_cons (pv 1) pa_nil)) (pg_name (i := 5) scFs.nd rfl (.inl rfl))
        (pss_cons (ps_set (i := 6) scFs.nd rfl (.inl rfl) (pe_call GR hr2 (by rfl) gR FR.kp bR .nil pass0 (pa_cons (pv 0) (pa_cons (pv 2) pa_nil))))
        (pss_cons (ps_if (PW.pt (pw_and (pt_cmpR (op_neD hr.units) (pv 4) (pe_lst pa_nil) (nomark _)) (pw_and1 (pt_cmpR op_eq (pe_call GD hr1 (by rfl) gD FD.kp bD .nil pass0 (pa_cons (pv 0) (pa_cons pe_int pa_nil))) pe_int (nomark _)))))
          (pss_one (ps_set (i := 6) scFs.nd rfl (.inl rfl) (pe_ix ix_tup (pe_ix ix_list (pv 4) (pe_call GD hr1 (by rfl) gD FD.kp bD .nil pass0 (pa_cons (pv 0) (pa_cons (pe_callB call_len_seq (by rfl) ml PySem.boot_len (pa_cons (pv 4) pa_nil)) pa_nil))) (fun _ _ => rfl)) pe_int (fun _ _ => rfl)))) pss_nil)
        (pss_cons (ps_expr (pe_bm PySem.F.plainAttrs_list PySem.F.slot_list_insert PySem.F.type_list_insert mt_insert (pv 4) (pa_cons (pe_call GD hr1 (by rfl) gD FD.kp bD .nil pass0 (pa_cons (pv 0) (pa_cons (pe_op op_add (pe_callB call_len_seq (by rfl) ml PySem.boot_len (pa_cons (pv 4) pa_nil)) pe_int) pa_nil))) (pa_cons (pe_tup (pa_cons (pv 3) (pa_cons (pv 6) pa_nil))) pa_nil))))
        (pss_one (ps_set (i := 3) scFs.nd rfl (.inl rfl) (pe_op op_add (pe_op op_add (pv 3) pe_int) (pe_call GD hr1 (by rfl) gD FD.kp bD .nil pass0 (pa_cons (pv 0) (pa_cons pe_int pa_nil))))))))))
      (pss_one (ps_ret (pv 4)))))), ?_⟩
    refine ⟨_, rfl, l, 4, rfl, hP, by omega, fun H1 t1 ns c1 hP1 ft1 et1 hnd hok hl => ?_⟩
    refine ⟨_, rfl, _, _, rfl, rfl, ⟨by decide, by decide, by decide⟩, sz (by simp), fun L hL => ?_⟩
    have nL : L ≠ l := hP1.ne hL
    have hP2 : PotAt (upd H1 L (.lst [.int 3, .int (10 ^ 59)])) l := hP1.new nL
    refine ⟨_, rfl, l, _, pa hP2, pb hP2, rfl, by decide, by decide, ph hP2, pk hP2, fun H3 d3 c3 hP3 d30 d31 => ?_⟩
    have eL3 := c3 L _ upd_same nL
    obtain ⟨B, hB1, hB2, hB3, hB4⟩ : ∃ B : Int, atI [V.int 3, (fun (i j : Int) => V.int (i ^ j.toNat)) 10 59] (d3 / 3) = some (.int B) ∧ 1 ≤ B ∧ B ≤ 10 ^ 59 ∧ B.natAbs.log2 < 9000 := by
      rcases (by omega : d3 / 3 = 0 ∨ d3 / 3 = 1) with e | e
      · exact ⟨3, by rw [e]; exact atI_nat (j := 0) rfl, by decide, by decide, by decide⟩
      · exact ⟨10 ^ 59, by rw [e]; exact atI_nat (j := 1) rfl, by decide, by decide, by decide +kernel⟩
    refine ⟨_, _, rfl, rfl, by unfold CDiv; decide, L, _, _, .int B, rfl, rfl, SqL.of eL3, hB1, ?_⟩
    refine ⟨l, _, pa hP3, pb hP3, rfl, by omega, hB4, ph hP3, pk hP3, fun H4 d4 c4 hP4 d40 d41 => ?_⟩
    refine ⟨_, _, rfl, rfl, sz (by simp), fun t ht => ⟨_, rfl, _, rfl, by omega, by omega, ?_⟩⟩
    have nt : t ≠ l := hP4.ne ht
    have c04 : Ch l H H4 := Ch.trans (Ch.trans (Ch.over c1 (Ch.free c1 hL nL)) c3) c4
    have n1 : t1 ≠ l := strs_ne hP1 et1
    have et4 : H4 t1 = some (.lst (ns.map V.str)) := c4 t1 _ (c3 t1 _ (by rw [upd_ne (ne_of_none et1 hL)]; exact et1) n1) n1
    have ft : H t = none := Ch.free c04 ht nt
    refine for_it (n := (m : Int).toNat) walk_range (fun i σ H' => ∃ (v5 v6 : Option V) (num : Int) (xs : List V) (fs : List (Int × Str)), σ = [some (.ref l), some (.int m), some (.ref t1), some (.int num), some (.ref t), v5, v6] ∧ Ch l H H' ∧ PotAt H' l ∧ H' t1 = some (.lst (ns.map V.str)) ∧ H' t = some (.lst xs) ∧ RgAll AllA H' xs (fsD fs) ∧ (∀ p ∈ fs, factOk p) ∧ fs.length = i ∧ 1 ≤ num ∧ num ≤ 10 ^ 59 + 6 * i)
      ⟨none, none, _, [], [], rfl, Ch.over c04 ft, hP4.new nt, by rw [upd_ne (ne_of_none et4 ht)]; exact et4, upd_same, .nil, fun x hx => (by cases hx), rfl, by omega, by omega⟩ (fun _ _ _ _ _ => trivial) ?_ ?_
    · rintro i x σ H5' H5 hi ⟨v5, v6, num, xs, fs, rfl, k5, hP5, e15, et5, hR5, hF, hl5, hn0, hn1⟩ ⟨rfl, rfl⟩
      have hmi : i < m := by omega
      have nt1 : t1 ≠ t := fun e => by rw [e, ht] at et4; cases et4
      have hnum : num < 10 ^ 60 := by omega
      refine ⟨_, rfl, _, rfl, l, t1, ns, rfl, hP5, e15, hok, (by intro z; rw [z] at hl; cases hl), by omega, fun H6 z c6 hP6 hz => ?_⟩
      have et6 := c6 t _ et5 nt
      have k56 : Kq AllA H5 H6 := Kq.ofCh c6 trivial hP5
      have hR6 := hR5.kq k56
      have hpt : ∀ p ∈ fs, PyData.strOk p.2 = true := fun p hp => strOk_pt (hF p hp).2.2
      have hlx : xs.length = fs.length := by rw [hR5.len, List.length_map]
      refine ⟨_, rfl, sz (by simp), fun L2 hL2 => ⟨.list (fsD fs), .list (fsD []), .lst (SqL.of (by rw [upd_ne (ne_of_none et6 hL2)]; exact et6)) (dp_fs (hR6.kq (Kq.new hL2))), .lst (SqL.of upd_same) .nil, shaped_fs hpt, shaped_fs (fun p hp => by cases hp), ?_⟩⟩
      have nL2 : L2 ≠ l := hP6.ne hL2
      rw [eqv_nil]
      have c56 : Ch l H5 (upd H6 L2 (.lst [])) := Ch.trans c6 (Ch.new hL2)
      have hPL : PotAt (upd H6 L2 (.lst [])) l := hP6.new nL2
      have hlg : ((xs.length : Int) + 1).natAbs.log2 < 9000 := by
        have h1 : xs.length + 1 < 2 ^ 5 := by omega
        have := (Nat.log2_lt (by omega)).mpr h1
        rw [show ((xs.length : Int) + 1).natAbs = xs.length + 1 by omega]
        omega
      by_cases hfs : fs = []
      · rw [decide_eq_true hfs]
        refine ⟨_, rfl, ?_⟩
        obtain ⟨H7, eH7⟩ : ∃ H7, upd H6 L2 (.lst []) = H7 := ⟨_, rfl⟩
        rw [eH7] at c56 hPL ⊢
        have c57 := c56
        have hP7 := hPL
        have hz7 := hz
        have et7 := c57 t _ et5 nt
        have hR7 := hR5.kq (Kq.ofCh c57 trivial hP5 : Kq AllA H5 H7)
        refine ⟨_, rfl, .inl ⟨rfl, _, SqL.of et7⟩, _, rfl, _, rfl, t, xs, rfl, .inl (SqL.of et7), _, _, rfl, rfl, l, _, pa hP7, pb hP7, rfl, by omega, hlg, ph hP7, pk hP7, fun H8 d8 c8 hP8 d80 d81 => ?_⟩
        have et8 := c8 t _ et7 nt
        have hR8 := hR7.kq (Kq.ofCh c8 trivial hP7 : Kq AllA H7 H8)
        refine ⟨_, rfl, _, rfl, sz (by simp), fun T hT => ?_⟩
        have nT : T ≠ l := hP8.ne hT
        refine ⟨t, xs, d8, .ref T, rfl, rfl, by rw [upd_ne (ne_of_none et8 hT)]; exact et8, small1000 (by omega), d80, by omega, ?_⟩
        obtain ⟨zz, ezz⟩ : ∃ zz : Str, zz = z := ⟨_, rfl⟩
        have hzz : ptOk zz := ezz ▸ hz7
        rw [← ezz]
        have et9 : (upd H8 T (.tup [.int num, .str zz])) t = some (.lst xs) := by rw [upd_ne (ne_of_none et8 hT)]; exact et8
        have k9 : Kq AllA H8 (upd (upd H8 T (.tup [.int num, .str zz])) t (.lst (xs.take d8.toNat ++ [.ref T] ++ xs.drop d8.toNat))) := (Kq.new hT).trans (Kq.put et9 trivial)
        have hP9 : PotAt (upd (upd H8 T (.tup [.int num, .str zz])) t (.lst (xs.take d8.toNat ++ [.ref T] ++ xs.drop d8.toNat))) l := (hP8.new nT).new nt
        have fT5 : H5 T = none := Ch.free c57 (Ch.free c8 hT nT) nT
        have fT : H T = none := Ch.free k5 fT5 nT
        have hR9 := hR8.kq k9
        have rT : Rg AllA (upd (upd H8 T (.tup [.int num, .str zz])) t (.lst (xs.take d8.toNat ++ [.ref T] ++ xs.drop d8.toNat))) (.ref T) (fD (num, zz)) := .tup (by rw [upd_ne (fun e => by rw [e, et8] at hT; cases hT)]; exact upd_same) (.cons (.int _) (.cons (.str _) .nil))
        have hRn := ((rg_take d8.toNat hR9).append (.cons rT .nil)).append (rg_drop d8.toNat hR9)
        refine ⟨_, rfl, _, _, rfl, rfl, _, rfl, l, _, pa hP9, pb hP9, rfl, by decide, by decide, ph hP9, pk hP9, fun HA dA cA hPA dA0 dA1 => ⟨_, _, rfl, rfl, ?_⟩⟩
        refine ⟨_, _, _, _, fs.take d8.toNat ++ [(num, zz)] ++ fs.drop d8.toNat, rfl, ?_, hPA, cA t1 _ ?_ n1, cA t _ upd_same nt, ?_, ?_, ?_, by omega, by omega⟩
        · exact Ch.trans (Ch.over (Ch.over (Ch.trans k5 (Ch.trans c57 c8)) fT) ft) cA
        · rw [upd_ne (fun e => nt1 e), upd_ne (ne_of_none (c8 t1 _ (c57 t1 _ e15 n1) n1) hT)]
          exact c8 t1 _ (c57 t1 _ e15 n1) n1
        · have e := hRn.kq (Kq.ofCh cA trivial hP9 : Kq AllA _ HA)
          rw [show fsD (fs.take d8.toNat ++ [(num, zz)] ++ fs.drop d8.toNat) = (fsD fs).take d8.toNat ++ [fD (num, zz)] ++ (fsD fs).drop d8.toNat by rw [fsD, List.map_append, List.map_append, List.map_take, List.map_drop]; rfl]
          exact e
        · intro p hp
          rcases List.mem_append.mp hp with y | y
          · rcases List.mem_append.mp y with y | y
            · exact hF p (List.mem_of_mem_take y)
            · rw [List.mem_singleton.mp y]
              exact ⟨hn0, hnum, hzz⟩
          · exact hF p (List.mem_of_mem_drop y)
        · rw [List.length_append, List.length_append, List.length_take, List.length_drop, List.length_singleton]
          omega
      · rw [decide_eq_false hfs]
        refine ⟨_, rfl, ?_⟩
        refine ⟨_, rfl, l, _, pa hPL, pb hPL, rfl, by decide, by decide, ph hPL, pk hPL, fun Hx d7 cx hPx d70 d71 => ?_⟩
        have c5x := Ch.trans c56 cx
        refine ⟨rfl, _, rfl, ?_⟩
        by_cases hd7 : d7 = 0
        · rw [show decide (V.int d7 = V.int 0) = true by rw [hd7]; rfl]
          have etx := c5x t _ et5 nt
          have hRx := hR5.kq (Kq.ofCh c5x trivial hP5 : Kq AllA H5 Hx)
          have hpos : 0 < fs.length := List.length_pos_iff.mpr hfs
          have hlg' : (xs.length : Int).natAbs.log2 < 9000 := by
            have h1 : xs.length < 2 ^ 5 := by omega
            have := (Nat.log2_lt (by omega)).mpr h1
            rw [Int.natAbs_natCast]
            omega
          refine ⟨_, rfl, _, rfl, _, rfl, t, xs, rfl, .inl (SqL.of etx), l, _, pa hPx, pb hPx, rfl, by omega, hlg', ph hPx, pk hPx, fun H7 dz c7 hP7 dz0 dz1 => ?_⟩
          have c57 := Ch.trans c5x c7
          obtain ⟨dn, rfl⟩ : ∃ n : Nat, dz = (n : Int) := ⟨dz.toNat, by omega⟩
          have hdn : dn < fs.length := by omega
          have hRz := hRx.kq (Kq.ofCh c7 trivial hPx : Kq AllA Hx H7)
          obtain ⟨v, hv, rv⟩ := hRz.get' dn (d := fD fs[dn]) (by rw [List.getElem?_map, List.getElem?_eq_getElem hdn]; rfl)
          obtain ⟨a, rfl, ea⟩ : ∃ a, v = .ref a ∧ H7 a = some (.tup [.int fs[dn].1, .str fs[dn].2]) := by
            cases rv with
            | tup e r =>
              cases r with
              | cons a r =>
              cases r with
              | cons b r =>
              cases r
              cases a
              cases b
              exact ⟨_, rfl, e⟩
          have hz7 := (hF _ (List.getElem_mem hdn)).2.2
          refine ⟨t, _, _, _, rfl, rfl, SqL.of (c7 t _ etx nt), atI_nat hv, a, _, _, _, rfl, rfl, SqT.of ea, atI_nat (j := 1) rfl, ?_⟩
          have et7 := c57 t _ et5 nt
          have hR7 := hR5.kq (Kq.ofCh c57 trivial hP5 : Kq AllA H5 H7)
          refine ⟨_, rfl, .inl ⟨rfl, _, SqL.of et7⟩, _, rfl, _, rfl, t, xs, rfl, .inl (SqL.of et7), _, _, rfl, rfl, l, _, pa hP7, pb hP7, rfl, by omega, hlg, ph hP7, pk hP7, fun H8 d8 c8 hP8 d80 d81 => ?_⟩
          have et8 := c8 t _ et7 nt
          have hR8 := hR7.kq (Kq.ofCh c8 trivial hP7 : Kq AllA H7 H8)
          refine ⟨_, rfl, _, rfl, sz (by simp), fun T hT => ?_⟩
          have nT : T ≠ l := hP8.ne hT
          refine ⟨t, xs, d8, .ref T, rfl, rfl, by rw [upd_ne (ne_of_none et8 hT)]; exact et8, small1000 (by omega), d80, by omega, ?_⟩
          obtain ⟨zz, ezz⟩ : ∃ zz : Str, zz = fs[dn].2 := ⟨_, rfl⟩
          have hzz : ptOk zz := ezz ▸ hz7
          rw [← ezz]
          have et9 : (upd H8 T (.tup [.int num, .str zz])) t = some (.lst xs) := by rw [upd_ne (ne_of_none et8 hT)]; exact et8
          have k9 : Kq AllA H8 (upd (upd H8 T (.tup [.int num, .str zz])) t (.lst (xs.take d8.toNat ++ [.ref T] ++ xs.drop d8.toNat))) := (Kq.new hT).trans (Kq.put et9 trivial)
          have hP9 : PotAt (upd (upd H8 T (.tup [.int num, .str zz])) t (.lst (xs.take d8.toNat ++ [.ref T] ++ xs.drop d8.toNat))) l := (hP8.new nT).new nt
          have fT5 : H5 T = none := Ch.free c57 (Ch.free c8 hT nT) nT
          have fT : H T = none := Ch.free k5 fT5 nT
          have hR9 := hR8.kq k9
          have rT : Rg AllA (upd (upd H8 T (.tup [.int num, .str zz])) t (.lst (xs.take d8.toNat ++ [.ref T] ++ xs.drop d8.toNat))) (.ref T) (fD (num, zz)) := .tup (by rw [upd_ne (fun e => by rw [e, et8] at hT; cases hT)]; exact upd_same) (.cons (.int _) (.cons (.str _) .nil))
          have hRn := ((rg_take d8.toNat hR9).append (.cons rT .nil)).append (rg_drop d8.toNat hR9)
          refine ⟨_, rfl, _, _, rfl, rfl, _, rfl, l, _, pa hP9, pb hP9, rfl, by decide, by decide, ph hP9, pk hP9, fun HA dA cA hPA dA0 dA1 => ⟨_, _, rfl, rfl, ?_⟩⟩
          refine ⟨_, _, _, _, fs.take d8.toNat ++ [(num, zz)] ++ fs.drop d8.toNat, rfl, ?_, hPA, cA t1 _ ?_ n1, cA t _ upd_same nt, ?_, ?_, ?_, by omega, by omega⟩
          · exact Ch.trans (Ch.over (Ch.over (Ch.trans k5 (Ch.trans c57 c8)) fT) ft) cA
          · rw [upd_ne (fun e => nt1 e), upd_ne (ne_of_none (c8 t1 _ (c57 t1 _ e15 n1) n1) hT)]
            exact c8 t1 _ (c57 t1 _ e15 n1) n1
          · have e := hRn.kq (Kq.ofCh cA trivial hP9 : Kq AllA _ HA)
            rw [show fsD (fs.take d8.toNat ++ [(num, zz)] ++ fs.drop d8.toNat) = (fsD fs).take d8.toNat ++ [fD (num, zz)] ++ (fsD fs).drop d8.toNat by rw [fsD, List.map_append, List.map_append, List.map_take, List.map_drop]; rfl]
            exact e
          · intro p hp
            rcases List.mem_append.mp hp with y | y
            · rcases List.mem_append.mp y with y | y
              · exact hF p (List.mem_of_mem_take y)
              · rw [List.mem_singleton.mp y]
                exact ⟨hn0, hnum, hzz⟩
            · exact hF p (List.mem_of_mem_drop y)
          · rw [List.length_append, List.length_append, List.length_take, List.length_drop, List.length_singleton]
            omega
        · rw [show decide (V.int d7 = V.int 0) = false from decide_eq_false (fun e => hd7 (by cases e; rfl))]
          have hz7 := hz
          have hP7 := hPx
          have c57 := c5x
          obtain ⟨H7, eH7⟩ : ∃ H7, Hx = H7 := ⟨_, rfl⟩
          rw [eH7] at hP7 c57 ⊢
          have et7 := c57 t _ et5 nt
          have hR7 := hR5.kq (Kq.ofCh c57 trivial hP5 : Kq AllA H5 H7)
          refine ⟨_, rfl, .inl ⟨rfl, _, SqL.of et7⟩, _, rfl, _, rfl, t, xs, rfl, .inl (SqL.of et7), _, _, rfl, rfl, l, _, pa hP7, pb hP7, rfl, by omega, hlg, ph hP7, pk hP7, fun H8 d8 c8 hP8 d80 d81 => ?_⟩
          have et8 := c8 t _ et7 nt
          have hR8 := hR7.kq (Kq.ofCh c8 trivial hP7 : Kq AllA H7 H8)
          refine ⟨_, rfl, _, rfl, sz (by simp), fun T hT => ?_⟩
          have nT : T ≠ l := hP8.ne hT
          refine ⟨t, xs, d8, .ref T, rfl, rfl, by rw [upd_ne (ne_of_none et8 hT)]; exact et8, small1000 (by omega), d80, by omega, ?_⟩
          obtain ⟨zz, ezz⟩ : ∃ zz : Str, zz = z := ⟨_, rfl⟩
          have hzz : ptOk zz := ezz ▸ hz7
          rw [← ezz]
          have et9 : (upd H8 T (.tup [.int num, .str zz])) t = some (.lst xs) := by rw [upd_ne (ne_of_none et8 hT)]; exact et8
          have k9 : Kq AllA H8 (upd (upd H8 T (.tup [.int num, .str zz])) t (.lst (xs.take d8.toNat ++ [.ref T] ++ xs.drop d8.toNat))) := (Kq.new hT).trans (Kq.put et9 trivial)
          have hP9 : PotAt (upd (upd H8 T (.tup [.int num, .str zz])) t (.lst (xs.take d8.toNat ++ [.ref T] ++ xs.drop d8.toNat))) l := (hP8.new nT).new nt
          have fT5 : H5 T = none := Ch.free c57 (Ch.free c8 hT nT) nT
          have fT : H T = none := Ch.free k5 fT5 nT
          have hR9 := hR8.kq k9
          have rT : Rg AllA (upd (upd H8 T (.tup [.int num, .str zz])) t (.lst (xs.take d8.toNat ++ [.ref T] ++ xs.drop d8.toNat))) (.ref T) (fD (num, zz)) := .tup (by rw [upd_ne (fun e => by rw [e, et8] at hT; cases hT)]; exact upd_same) (.cons (.int _) (.cons (.str _) .nil))
          have hRn := ((rg_take d8.toNat hR9).append (.cons rT .nil)).append (rg_drop d8.toNat hR9)
          refine ⟨_, rfl, _, _, rfl, rfl, _, rfl, l, _, pa hP9, pb hP9, rfl, by decide, by decide, ph hP9, pk hP9, fun HA dA cA hPA dA0 dA1 => ⟨_, _, rfl, rfl, ?_⟩⟩
          refine ⟨_, _, _, _, fs.take d8.toNat ++ [(num, zz)] ++ fs.drop d8.toNat, rfl, ?_, hPA, cA t1 _ ?_ n1, cA t _ upd_same nt, ?_, ?_, ?_, by omega, by omega⟩
          · exact Ch.trans (Ch.over (Ch.over (Ch.trans k5 (Ch.trans c57 c8)) fT) ft) cA
          · rw [upd_ne (fun e => nt1 e), upd_ne (ne_of_none (c8 t1 _ (c57 t1 _ e15 n1) n1) hT)]
            exact c8 t1 _ (c57 t1 _ e15 n1) n1
          · have e := hRn.kq (Kq.ofCh cA trivial hP9 : Kq AllA _ HA)
            rw [show fsD (fs.take d8.toNat ++ [(num, zz)] ++ fs.drop d8.toNat) = (fsD fs).take d8.toNat ++ [fD (num, zz)] ++ (fsD fs).drop d8.toNat by rw [fsD, List.map_append, List.map_append, List.map_take, List.map_drop]; rfl]
            exact e
          · intro p hp
            rcases List.mem_append.mp hp with y | y
            · rcases List.mem_append.mp y with y | y
              · exact hF p (List.mem_of_mem_take y)
              · rw [List.mem_singleton.mp y]
                exact ⟨hn0, hnum, hzz⟩
            · exact hF p (List.mem_of_mem_drop y)
          · rw [List.length_append, List.length_append, List.length_take, List.length_drop, List.length_singleton]
            omega
    · rintro σ H5 ⟨v5, v6, num, xs, fs, rfl, k5, hP5, _, et, hR, hF, hl5, _, _⟩
      exact ⟨_, rfl, q H5 t xs fs k5 hP5 ft et hR hF (by omega)⟩
end
end D21
set_option maxHeartbeats 4000000
/-! k21: the program: Module and Late -/
namespace D21
open PySem PySem.Spec PyProof.Rows L2 HM XW XR K11
abbrev MtP (K : PySem.W.Frag) (x qual : Str) (st : Stmt) (f : Addr) (fd : FuncData) : Prop := FunD K x qual (defArgs st) (defBody st) (defScope st) [] [] f fd
abbrev sMI : Stmt := inClass (top 1) 0
abbrev sMB : Stmt := inClass (top 1) 1
abbrev sMH : Stmt := inClass (top 1) 2
abbrev sMT : Stmt := inClass (top 1) 3
abbrev sMO : Stmt := inClass (top 1) 4
abbrev sLI : Stmt := inClass (top 2) 0
abbrev sTo : Stmt := top 3
theorem scMI : FnScope ["self", "number", "path"] ["self", "number", "path"] (defScope sMI) := ⟨rfl, rfl, rfl, by decide +kernel, rfl, by decide +kernel, by decide +kernel⟩
theorem scMB : FnScope ["self", "name", "thing"] ["self", "name", "thing"] (defScope sMB) := ⟨rfl, rfl, rfl, by decide +kernel, rfl, by decide +kernel, by decide +kernel⟩
theorem scMH : FnScope ["self", "name"] ["self", "name"] (defScope sMH) := ⟨rfl, rfl, rfl, by decide +kernel, rfl, by decide +kernel, by decide +kernel⟩
theorem scMT : FnScope ["self", "name"] ["self", "name"] (defScope sMT) := ⟨rfl, rfl, rfl, by decide +kernel, rfl, by decide +kernel, by decide +kernel⟩
theorem scMO : FnScope ["self"] ["self"] (defScope sMO) := ⟨rfl, rfl, rfl, by decide +kernel, rfl, by decide +kernel, by decide +kernel⟩
theorem scLI : FnScope ["self", "home", "road"] ["self", "home", "road"] (defScope sLI) := ⟨rfl, rfl, rfl, by decide +kernel, rfl, by decide +kernel, by decide +kernel⟩
theorem scTo : FnScope ["thing"] ["thing"] (defScope sTo) := ⟨rfl, rfl, rfl, by decide +kernel, rfl, by decide +kernel, by decide +kernel⟩
theorem np : ¬ (("number" : Str) = "path") := by decide +kernel
theorem nt' : ¬ (("number" : Str) = "things") := by decide +kernel
theorem pt' : ¬ (("path" : Str) = "things") := by decide +kernel
theorem hr' : ¬ (("home" : Str) = "road") := by decide +kernel
def mF (n : Int) (p : Str) (d : Addr) : List (Str × V) := putF "things" (.ref d) (putF "path" (.str p) (putF "number" (.int n) []))
theorem mF_n (n : Int) (p : Str) (d : Addr) : (mF n p d).lookup ("number" : Str) = some (.int n) := by
  unfold mF
  rw [lookup_putF, if_neg nt', lookup_putF, if_neg np, lookup_putF, if_pos rfl]
theorem mF_p (n : Int) (p : Str) (d : Addr) : (mF n p d).lookup ("path" : Str) = some (.str p) := by
  unfold mF
  rw [lookup_putF, if_neg pt', lookup_putF, if_pos rfl]
theorem mF_t (n : Int) (p : Str) (d : Addr) : (mF n p d).lookup ("things" : Str) = some (.ref d) := by
  unfold mF
  rw [lookup_putF, if_pos rfl]
theorem mF_no (n : Int) (p : Str) (d : Addr) {m : Str} (h1 : ¬ m = "things") (h2 : ¬ m = "path") (h3 : ¬ m = "number") : (mF n p d).lookup m = none := by
  unfold mF
  rw [lookup_putF, if_neg h1, lookup_putF, if_neg h2, lookup_putF, if_neg h3]
  rfl
def lF (h : V) (r : Str) : List (Str × V) := putF "road" (.str r) (putF "home" h [])
theorem lF_h (h : V) (r : Str) : (lF h r).lookup ("home" : Str) = some h := by
  unfold lF
  rw [lookup_putF, if_neg hr', lookup_putF, if_pos rfl]
theorem lF_r (h : V) (r : Str) : (lF h r).lookup ("road" : Str) = some (.str r) := by
  unfold lF
  rw [lookup_putF, if_pos rfl]
/-- a module at a: its dict's address and its pairs -/
structure MdAt (C : Addr) (H : Hp) (a : Addr) (n : Int) (p : Str) (d : Addr) (kvs : List (Key × V)) : Prop where
  ob : ∃ dx, H a = some (.ins C dx (mF n p d))
  dc : H d = some (.dK kvs)
theorem ins_ty {K : PySem.W.Frag} {C : Addr} (c : C8.InsC K C) {H : Hp} {a dx : Addr} {fs : List (Str × V)} (e : H a = some (.ins C dx fs)) : TyX K H (.ref a) (.ref C) := .base (.ins e c.cl c.ha c.hn c.htk c.hm)
/-- what the head tells of the two classes -/
structure ClT (K : PySem.W.Frag) (mg : Str → Option Value) (C D : Addr) : Prop where
  c1 : C8.InsC K C
  c2 : C8.InsC K D
  cd : PySem.W.kitOne K (.ref D) (.ref C) = some false
  dc' : PySem.W.kitOne K (.ref C) (.ref D) = some false
  ic : PySem.W.kitOne K (.type "int") (.ref C) = some false
  id : PySem.W.kitOne K (.type "int") (.ref D) = some false
  n1 : NoAttr K C "number"
  n2 : NoAttr K C "path"
  n3 : NoAttr K C "things"
  n4 : NoAttr K D "home"
  n5 : NoAttr K D "road"
  mC : mg "Module" = some (.ref C)
  mD : mg "Late" = some (.ref D)
def spMI (C : Addr) : Sp := fun vs H Q _ => ∃ (a dx : Addr) (n : Int) (p : Str), vs = [.ref a, .int n, .str p] ∧ H a = some (.ins C dx []) ∧
  ∀ (d : Addr) (H' : Hp), H d = none → H' a = some (.ins C dx (mF n p d)) → H' d = some (.dK []) → (∀ b o, H b = some o → b ≠ a → H' b = some o) → Q .non H'
def spMB (C : Addr) : Sp := fun vs H Q _ => ∃ (a d : Addr) (n : Int) (p z : Str) (v : V) (kvs : List (Key × V)), vs = [.ref a, .str z, v] ∧ MdAt C H a n p d kvs ∧ kvs.length ≤ 100 ∧ Q .non (upd H d (.dK (putK kvs (Sum.inr z) v)))
def spMH (C : Addr) : Sp := fun vs H Q _ => ∃ (a d : Addr) (n : Int) (p z : Str) (kvs : List (Key × V)), vs = [.ref a, .str z] ∧ MdAt C H a n p d kvs ∧ Q (.bl (valV kvs (Sum.inr z : Key)).isSome) H
def spMT (C : Addr) : Sp := fun vs H Q _ => ∃ (a d : Addr) (n : Int) (p z : Str) (kvs : List (Key × V)), vs = [.ref a, .str z] ∧ MdAt C H a n p d kvs ∧ Q ((valV kvs (Sum.inr z : Key)).getD .non) H
def spMO (C : Addr) : Sp := fun vs H Q _ => ∃ (a d : Addr) (n : Int) (p : Str) (kvs : List (Key × V)) (ks : List Str), vs = [.ref a] ∧ MdAt C H a n p d kvs ∧ kvs.map (·.1) = ks.map Sum.inr ∧ ks.length < 64 ∧
  ∀ (ys : List Str) (t : Addr), ys.Perm ks → sortedS ys = true → H t = none → Q (.ref t) (upd H t (.lst (ys.map V.str)))
def spLI (D : Addr) : Sp := fun vs H Q _ => ∃ (a dx : Addr) (h : V) (r : Str), vs = [.ref a, h, .str r] ∧ H a = some (.ins D dx []) ∧ Q .non (upd (upd H a (.ins D dx (putF "home" h []))) a (.ins D dx (lF h r)))
section
variable {P : Program} {w : World} {K : PySem.W.Frag} {mg : Str → Option Value} {base : Heap} {f C D : Addr} {fd : FuncData}
theorem ok_mi (F : MtP K "__init__" "Module.__init__" sMI f fd) (T : ClT K mg C D) : FnOk P w K mg base CX0 1 f fd ["self", "number", "path"] (spMI C) := by
  refine ok_code F scMI (fun vs H Q E h => ?_) (fun cdv A outer s H vs Q E hcd hr h => ?_)
  · obtain ⟨a, dx, n, p, rfl, _⟩ := h
    rfl
  · obtain ⟨a, dx, n, p, rfl, ha, q⟩ := h
    refine ⟨_, pss_cons (ps_fld (pv 0) (pv 1) rfl) (pss_cons (ps_fld (pv 0) (pv 2) rfl) (pss_one (ps_fld (pv 0) pe_dnewK rfl))), ?_⟩
    refine ⟨_, rfl, _, rfl, a, C, dx, [], rfl, ha, T.c1.cl, T.n1, (by show 0 < 1000; decide), _, rfl, _, rfl, a, C, dx, _, rfl, upd_same, T.c1.cl, T.n2, (by show 1 < 1000; decide), ?_⟩
    intro d hd
    have nad : a ≠ d := fun e => by
      rw [← e, upd_same] at hd
      cases hd
    refine ⟨_, rfl, a, C, dx, _, rfl, by rw [upd_ne nad, upd_same], T.c1.cl, T.n3, ?_, ?_⟩
    · have := length_putF "path" (.str p) (putF "number" (.int n) [])
      have := length_putF "number" (.int n) []
      simp at this
      omega
    · refine q d _ ?_ upd_same (by rw [upd_ne nad.symm, upd_same]) fun b o e nb => ?_
      · rw [upd_ne nad.symm, upd_ne nad.symm] at hd
        exact hd
      · have nbd : b ≠ d := fun z => by
          rw [← z, upd_ne nb, upd_ne nb, e] at hd
          cases hd
        rw [upd_ne nb, upd_ne nbd, upd_ne nb, upd_ne nb]
        exact e
theorem ok_mb (F : MtP K "bind" "Module.bind" sMB f fd) (T : ClT K mg C D) : FnOk P w K mg base CX0 1 f fd ["self", "name", "thing"] (spMB C) := by
  refine ok_code F scMB (fun vs H Q E h => ?_) (fun cdv A outer s H vs Q E hcd hr h => ?_)
  · obtain ⟨a, d, n, p, z, v, kvs, rfl, _⟩ := h
    rfl
  · obtain ⟨a, d, n, p, z, v, kvs, rfl, ⟨⟨dx, h1⟩, hd⟩, hl, q⟩ := h
    refine ⟨_, pss_one (ps_dput (hu_of hr) (pe_fld (pv 0) rfl) (pv 1) (pv 2) rfl), ?_⟩
    exact ⟨_, rfl, _, rfl, a, C, dx, _, _, rfl, h1, T.c1.cl, T.n3, mF_t _ _ _, _, rfl, d, _, rfl, DPut.k (k := Sum.inr z) hd (small1000 (by omega)), q⟩
theorem ok_mh (F : MtP K "has" "Module.has" sMH f fd) (T : ClT K mg C D) : FnOk P w K mg base CX0 1 f fd ["self", "name"] (spMH C) := by
  refine ok_code F scMH (fun vs H Q E h => ?_) (fun cdv A outer s H vs Q E hcd hr h => ?_)
  · obtain ⟨a, d, n, p, z, kvs, rfl, _⟩ := h
    rfl
  · obtain ⟨a, d, n, p, z, kvs, rfl, ⟨⟨dx, h1⟩, hd⟩, q⟩ := h
    refine ⟨_, pss_one (ps_ret (pe_cmp (pc_din (hu_of hr) (pv 1) (pe_fld (pv 0) rfl)))), ?_⟩
    exact ⟨_, rfl, _, rfl, a, C, dx, _, _, rfl, h1, T.c1.cl, T.n3, mF_t _ _ _, d, _, rfl, DGet.k (k := Sum.inr z) hd, q⟩
theorem ok_mt (F : MtP K "thing_of" "Module.thing_of" sMT f fd) (T : ClT K mg C D) : FnOk P w K mg base CX0 1 f fd ["self", "name"] (spMT C) := by
  refine ok_code F scMT (fun vs H Q E h => ?_) (fun cdv A outer s H vs Q E hcd hr h => ?_)
  · obtain ⟨a, d, n, p, z, kvs, rfl, _⟩ := h
    rfl
  · obtain ⟨a, d, n, p, z, kvs, rfl, ⟨⟨dx, h1⟩, hd⟩, q⟩ := h
    refine ⟨_, pss_one (ps_ret (pe_dget1 (hu_of hr) (pe_fld (pv 0) rfl) (pv 1) (by constructor <;> rfl))), ?_⟩
    exact ⟨_, rfl, a, C, dx, _, _, rfl, h1, T.c1.cl, T.n3, mF_t _ _ _, d, rfl, .inl ⟨_, .inl hd⟩, _, rfl, _, DGet.k (k := Sum.inr z) hd, q⟩
theorem ok_mo (F : MtP K "bound" "Module.bound" sMO f fd) (T : ClT K mg C D) (ms : mg "sorted" = none) : FnOk P w K mg base CX0 1 f fd ["self"] (spMO C) := by
  refine ok_code F scMO (fun vs H Q E h => ?_) (fun cdv A outer s H vs Q E hcd hr h => ?_)
  · obtain ⟨a, d, n, p, kvs, ks, rfl, _⟩ := h
    rfl
  · obtain ⟨a, d, n, p, kvs, ks, rfl, ⟨⟨dx, h1⟩, hd⟩, hk, hl, q⟩ := h
    refine ⟨_, pss_one (ps_ret (pe_callB (call_sortedD rfl) (by rfl) ms (by decide +kernel) (pa_cons (pe_fld (pv 0) rfl) pa_nil))), ?_⟩
    exact ⟨_, rfl, a, C, dx, _, _, rfl, h1, T.c1.cl, T.n3, mF_t _ _ _, d, kvs, ks, rfl, .inl hd, hk, hl, fun ys t e1 e2 e3 => q ys t e1 e2 e3⟩
theorem ok_li (F : MtP K "__init__" "Late.__init__" sLI f fd) (T : ClT K mg C D) : FnOk P w K mg base CX0 1 f fd ["self", "home", "road"] (spLI D) := by
  refine ok_code F scLI (fun vs H Q E h => ?_) (fun cdv A outer s H vs Q E hcd hr h => ?_)
  · obtain ⟨a, dx, v, r, rfl, _⟩ := h
    rfl
  · obtain ⟨a, dx, v, r, rfl, ha, q⟩ := h
    refine ⟨_, pss_cons (ps_fld (pv 0) (pv 1) rfl) (pss_one (ps_fld (pv 0) (pv 2) rfl)), ?_⟩
    exact ⟨_, rfl, _, rfl, a, D, dx, [], rfl, ha, T.c2.cl, T.n4, (by show 0 < 1000; decide), _, rfl, _, rfl, a, D, dx, _, rfl, upd_same, T.c2.cl, T.n5, (by show 1 < 1000; decide), q⟩
end
end D21
set_option maxHeartbeats 4000000
/-! k21: told -/
namespace D21
open PySem PySem.Spec PyProof.Rows L2 HM XW XR K11
def spTo (C D : Addr) : Sp := fun vs H Q _ => ∃ v, vs = [v] ∧ ((∃ i, v = .int i ∧ Q (.int i) H) ∨
  (∃ (a dx : Addr) (n : Int) (p : Str) (d : Addr), v = .ref a ∧ H a = some (.ins C dx (mF n p d)) ∧ ∀ t, H t = none → Q (.ref t) (upd H t (.tup [.str "module", .int n]))) ∨
  (∃ (L dx a : Addr) (r : Str) (dy : Addr) (n : Int) (p : Str) (d : Addr), v = .ref L ∧ H L = some (.ins D dx (lF (.ref a) r)) ∧ H a = some (.ins C dy (mF n p d)) ∧ ∀ t, H t = none → Q (.ref t) (upd H t (.tup [.str "function", .int n, .str r]))))
section
variable {P : Program} {w : World} {K : PySem.W.Frag} {mg : Str → Option Value} {base : Heap} {f C D : Addr} {fd : FuncData}
theorem ok_to (F : FnP K "told" sTo f fd) (T : ClT K mg C D) (mi : mg "isinstance" = none) : FnOk P w K mg base CX0 1 f fd ["thing"] (spTo C D) := by
  refine ok_code F scTo (fun vs H Q E h => ?_) (fun cdv A outer s H vs Q E hcd hr h => ?_)
  · obtain ⟨v, rfl, _⟩ := h
    rfl
  · obtain ⟨v, rfl, h⟩ := h
    refine ⟨_, pss_cons (ps_if (pt_val (pe_callB call_isi (by rfl) mi PyProof.Rows.boot_isinstance (pa_cons (pv 0) (pa_cons (pe_glob (v := .ref C) (by rfl) T.mC rfl) pa_nil)))) (pss_one (ps_ret (pe_tup (pa_cons pe_str (pa_cons (pe_fld (pv 0) rfl) pa_nil))))) pss_nil)
      (pss_cons (ps_if (pt_val (pe_callB call_isi (by rfl) mi PyProof.Rows.boot_isinstance (pa_cons (pv 0) (pa_cons (pe_glob (v := .ref D) (by rfl) T.mD rfl) pa_nil)))) (pss_one (ps_ret (pe_tup (pa_cons pe_str (pa_cons (pe_fld (pe_fld (pv 0) rfl) rfl) (pa_cons (pe_fld (pv 0) rfl) pa_nil)))))) pss_nil)
      (pss_one (ps_ret (pv 0)))), ?_⟩
    rcases h with ⟨i, rfl, q⟩ | ⟨a, dx, n, p, d, rfl, ha, q⟩ | ⟨L, dx, a, r, dy, n, p, d, rfl, hL, ha, q⟩
    · exact ⟨_, rfl, _, _, _, _, _, rfl, .own C, .base (.int i), T.ic, _, rfl, _, rfl, _, _, _, _, _, rfl, .own D, .base (.int i), T.id, _, rfl, _, rfl, q⟩
    · exact ⟨_, rfl, _, _, _, _, _, rfl, .own C, ins_ty T.c1 ha, T.c1.me, _, rfl, _, rfl, a, C, dx, _, _, rfl, ha, T.c1.cl, T.n1, mF_n _ _ _, sz (by simp), fun t ht => q t ht⟩
    · exact ⟨_, rfl, _, _, _, _, _, rfl, .own C, ins_ty T.c2 hL, T.cd, _, rfl, _, rfl, _, _, _, _, _, rfl, .own D, ins_ty T.c2 hL, T.c2.me, _, rfl, _, rfl, L, D, dx, _, _, rfl, hL, T.c2.cl, T.n4, lF_h _ _, a, C, dy, _, _, rfl, ha, T.c1.cl, T.n1, mF_n _ _ _, _, rfl, L, D, dx, _, _, rfl, hL, T.c2.cl, T.n5, lF_r _ _, sz (by simp), fun t ht => q t ht⟩
end
end D21
set_option maxHeartbeats 4000000
/-! What repr can show; repr of numbers and of data by one rule -/
namespace XM
open PySem PySem.Spec PyProof.Rows L2 HM XW XR K11 SX XT2
theorem log_small {i : Int} (h : i.natAbs < 10 ^ 60) : i.natAbs.log2 < 1920 := by
  by_cases h0 : i.natAbs = 0
  · rw [h0]
    decide
  · refine (Nat.log2_lt h0).mpr (Nat.lt_of_lt_of_le h ?_)
    have : (10 : Nat) ^ 60 ≤ 2 ^ 1920 := by decide +kernel
    exact this
def ascS (z : Str) : Prop := ∀ c ∈ z.cps.toList, c < 16 ^ 8
theorem asc_nm {z : Str} (h : nmOk z) : ascS z := fun c hc => by
  have := nm_low h c hc
  unfold low at this
  obtain ⟨_, h2⟩ := Bool.and_eq_true_iff.mp this
  have := of_decide_eq_true h2
  have e : (16 : Nat) ^ 8 = 4294967296 := by decide
  omega
theorem asc_pt {z : Str} (h : ptOk z) : ascS z := fun c hc => by
  obtain ⟨ws, rfl, h1, h4, hw⟩ := h
  have hc2 : c ∈ TL.tl (Txt.join (Str.ofString ".") ws) := hc
  rw [TL.join_eq, TL.tl_join, tl_dot] at hc2
  have e : (16 : Nat) ^ 8 = 4294967296 := by decide
  rcases mem_joinL hc2 with y | ⟨p, hp, hc⟩
  · omega
  · obtain ⟨z, hz, rfl⟩ := List.mem_map.mp hp
    exact asc_nm (hw z hz) c hc
structure SmX (d : PyData) (n b : Nat) : Prop where
  sh : d.showable = true
  nd : d.hasDict = false
  lv : d.leavesShort 100 = true
  dp : d.depth ≤ n
  bk : d.bulk ≤ b
structure SmA (ds : List PyData) (n b : Nat) : Prop where
  sh : PyData.showableAll ds = true
  nd : PyData.hasDictAll ds = false
  lv : PyData.leavesShortAll 100 ds = true
  dp : PyData.depthAll ds ≤ n
  bk : PyData.bulkAll ds ≤ b
theorem SmA.nil {n : Nat} : SmA [] n 0 := ⟨rfl, rfl, rfl, Nat.zero_le _, Nat.le_refl _⟩
theorem SmA.cons {d : PyData} {ds : List PyData} {n a b : Nat} (x : SmX d n a) (y : SmA ds n b) : SmA (d :: ds) n (a + 1 + b) := by
  refine ⟨?_, ?_, ?_, ?_, ?_⟩
  · rw [PyData.showableAll, x.sh, y.sh]
    rfl
  · rw [PyData.hasDictAll, x.nd, y.nd]
    rfl
  · rw [PyData.leavesShortAll, x.lv, y.lv]
    rfl
  · rw [PyData.depthAll]
    exact Nat.max_le.mpr ⟨x.dp, y.dp⟩
  · rw [PyData.bulkAll]
    have := x.bk
    have := y.bk
    omega
theorem SmA.tup {ds : List PyData} {n b : Nat} (x : SmA ds n b) : SmX (.tuple ds) (n + 1) b := by
  refine ⟨?_, ?_, ?_, ?_, ?_⟩
  · rw [PyData.showable, x.sh]
  · rw [PyData.hasDict, x.nd]
  · rw [PyData.leavesShort, x.lv]
  · rw [PyData.depth]
    have := x.dp
    omega
  · rw [PyData.bulk]
    exact x.bk
theorem SmX.mono {d : PyData} {n m a b : Nat} (x : SmX d n a) (h1 : n ≤ m) (h2 : a ≤ b) : SmX d m b := ⟨x.sh, x.nd, x.lv, Nat.le_trans x.dp h1, Nat.le_trans x.bk h2⟩
theorem SmA.mono {d : List PyData} {n m a b : Nat} (x : SmA d n a) (h1 : n ≤ m) (h2 : a ≤ b) : SmA d m b := ⟨x.sh, x.nd, x.lv, Nat.le_trans x.dp h1, Nat.le_trans x.bk h2⟩
theorem sm_str {z : Str} {n : Nat} (h : ascS z) (hl : z.length ≤ 61) : SmX (.str z) n 61 := by
  refine ⟨rfl, rfl, ?_, Nat.zero_le _, hl⟩
  rw [PyData.leavesShort, List.all_eq_true]
  exact fun c hc => decide_eq_true (h c hc)
theorem sm_int {i : Int} {n : Nat} (h : i.natAbs < 10 ^ 60) : SmX (.int i) n 61 := by
  refine ⟨decide_eq_true (log_small h), rfl, decide_eq_true ?_, Nat.zero_le _, Nat.zero_le _⟩
  have : (PyData.shown (.int i)).length ≤ 61 := by
    show (numT i).length ≤ 61
    rw [TL.len_tl, tl_numT]
    exact numC_len h
  omega
theorem shown_ok {d : PyData} {n b : Nat} (h : SmX d n b) (hb : b ≤ 100000) : d.shown.length ≤ sizeLine := by
  have h1 := PyData.shown_le_bulk 100 (by decide) d h.lv
  have h2 := Nat.mul_le_mul_left 102 (Nat.le_trans h.bk hb)
  have : (102 : Nat) * 100000 + 100 ≤ sizeLine := by decide
  omega
/-- repr of a number, or of a list or a tuple of data -/
def rReprA (K : PySem.W.Frag) : List V → Hp → VK → Prop := fun xs H Q => (∃ i : Int, xs = [.int i] ∧ i.natAbs < 10 ^ 60 ∧ Q (.str (PyData.shown (.int i))) H) ∨ rReprD K xs H Q
theorem call_reprA {X : Cx} {k : Nat} (hr : Room k X.A) (hg : X.A.guards = some []) : CallR X (.builtin "repr") (rReprA X.K) := by
  intro pins s σ H xs us Q I r h
  rcases h with ⟨i, e, hi, q⟩ | h
  · refine SkE.call_repr_int pins s σ H xs us Q I r ⟨i, e, ?_, q⟩
    have := log_small hi
    omega
  · exact call_reprD hr hg pins s σ H xs us Q I r h
end XM
/-! two sorted lists of the same texts are the same list -/
namespace XSo
open PySem PySem.Spec PyProof.Rows
def leS (a b : Str) : Prop := a.cps.toList ≤ b.cps.toList
theorem le_of {a b : Str} (h : ltCps b.cps.toList a.cps.toList = false) : leS a b := by
  rw [ltCps_eq] at h
  exact List.not_lt.mp (of_decide_eq_false h)
theorem pw_rising : ∀ (l : List Str) (p : Str), risingS p l = true → (p :: l).Pairwise leS
  | [], p, _ => List.pairwise_singleton _ _
  | x :: r, p, h => by
    rw [risingS, Bool.and_eq_true] at h
    have h1 : leS p x := le_of (by simpa using h.1)
    have ih := pw_rising r x h.2
    refine List.pairwise_cons.mpr ⟨fun y hy => ?_, ih⟩
    rcases List.mem_cons.mp hy with e | e
    · rw [e]
      exact h1
    · exact List.le_trans h1 ((List.pairwise_cons.mp ih).1 y e)
theorem pw_sorted : ∀ {l : List Str}, sortedS l = true → l.Pairwise leS
  | [], _ => List.Pairwise.nil
  | x :: r, h => pw_rising r x h
theorem str_ext {a b : Str} (h : a.cps.toList = b.cps.toList) : a = b := by
  cases a
  cases b
  exact congrArg Str.mk (Array.ext' h)
theorem sorted_same {xs ys : List Str} (p : xs.Perm ys) (hx : sortedS xs = true) (hy : sortedS ys = true) : xs = ys :=
  p.eq_of_pairwise (fun a b _ _ h1 h2 => str_ext (List.le_antisymm h1 h2)) (pw_sorted hx) (pw_sorted hy)
end XSo
set_option maxHeartbeats 4000000
/-! k21: is a thing what the law's own dict says -/
namespace D21
open PySem PySem.Spec PyProof.Rows L2 HM XW XR K11 XM XSo
abbrev sDue : Stmt := top 14
theorem scDue : FnScope ["_law_thing_here", "_law_due", "_law_facts_here", "_law_models", "_law_what", "_law_at_here"] ["_law_thing_here", "_law_due", "_law_facts_here", "_law_models"] (defScope sDue) := ⟨rfl, rfl, rfl, by decide +kernel, rfl, by decide +kernel, by decide +kernel⟩
/-- the j-th fact -/
def FcAt (H : Hp) (F : Addr) (j : Nat) (n : Int) (p : Str) : Prop := ∃ (xs : List V) (x : Addr), H F = some (.lst xs) ∧ xs[j]? = some (.ref x) ∧ H x = some (.tup [.int n, .str p])
/-- the j-th of the law's own dicts -/
def MoAt (H : Hp) (M : Addr) (j : Nat) (mvs : List (Key × V)) : Prop := ∃ (qs : List V) (q : Addr), H M = some (.lst qs) ∧ qs[j]? = some (.ref q) ∧ H q = some (.dK mvs)
inductive DueAt (C D : Addr) (H : Hp) (F M : Addr) : V → V → V → Prop
  | int (i : Int) : i.natAbs < 10 ^ 60 → DueAt C D H F M (.int i) (.int i) .non
  | mod {a d w : Addr} {j : Nat} {n : Int} {p : Str} {kvs mvs : List (Key × V)} {ks : List Str} : MdAt C H a n p d kvs → factOk (n, p) → H w = some (.tup [.str "module", .int n]) → FcAt H F j n p → MoAt H M j mvs →
      kvs.map (·.1) = ks.map Sum.inr → mvs.map (·.1) = ks.map Sum.inr → ks.length < 64 → (∀ k ∈ ks, PyData.strOk k = true) → DueAt C D H F M (.ref a) (.ref w) (.int j)
  | fn {L dx a d w : Addr} {j : Nat} {n : Int} {p r : Str} {kvs : List (Key × V)} : H L = some (.ins D dx (lF (.ref a) r)) → ptOk r → MdAt C H a n p d kvs → factOk (n, p) → H w = some (.tup [.str "function", .int n, .str r]) → FcAt H F j n p →
      DueAt C D H F M (.ref L) (.ref w) (.int j)
def spDue (C D : Addr) : Sp := fun vs H Q _ => ∃ (v what at' : V) (u F M : Addr), vs = [v, .ref u, .ref F, .ref M] ∧ H u = some (.tup [what, at']) ∧ DueAt C D H F M v what at' ∧ ∀ H', Same H H' → Q (.bl true) H'
theorem sm_mod {n : Int} (h : n.natAbs < 10 ^ 60) : SmX (.tuple [.str "module", .int n]) 1 200 := (SmA.tup (n := 0) (SmA.cons (sm_str (by unfold ascS; decide +kernel) (by decide +kernel)) (SmA.cons (sm_int h) SmA.nil))).mono (by decide) (by decide)
theorem sm_fun {n : Int} {r : Str} (h : n.natAbs < 10 ^ 60) (hr : ptOk r) : SmX (.tuple [.str "function", .int n, .str r]) 1 200 := (SmA.tup (n := 0) (SmA.cons (sm_str (by unfold ascS; decide +kernel) (by decide +kernel)) (SmA.cons (sm_int h) (SmA.cons (sm_str (asc_pt hr) (XT2.good_pt hr).2) SmA.nil)))).mono (by decide) (by decide)
theorem shp_fact {n : Int} {p : Str} (h : PyData.strOk p = true) : SeqAt.shaped (.tuple [.int n, .str p]) = true := by
  have e : PyData.canLay0 (.tuple [.int n, .str p]) = true := by
    show (PyData.canLay0 (.int n) && (PyData.canLay0 (.str p) && PyData.canLayAll0 [])) = true
    rw [show PyData.canLay0 (.str p) = PyData.strOk p from rfl, h]
    rfl
  unfold SeqAt.shaped
  rw [e, show PyData.depth (.tuple [.int n, .str p]) = 1 from rfl]
  rfl
theorem eqv_fact {n : Int} {p : Str} (h : PyData.strOk p = true) : PyData.eqv (.tuple [.int n, .str p]) (.tuple [.int n, .str p]) = true := by
  refine SeqAt.eqv_refl _ ?_
  show (PyData.canLay0 (.int n) && (PyData.canLay0 (.str p) && PyData.canLayAll0 [])) = true
  rw [show PyData.canLay0 (.str p) = PyData.strOk p from rfl, h]
  rfl
theorem cl_strs : ∀ {ys : List Str}, (∀ y ∈ ys, PyData.strOk y = true) → PyData.canLayAll0 (ys.map PyData.str) = true ∧ PyData.depthAll (ys.map PyData.str) = 0
  | [], _ => ⟨rfl, rfl⟩
  | y :: ys, h => by
    obtain ⟨h1, h2⟩ := cl_strs (ys := ys) fun z hz => h z (List.mem_cons_of_mem _ hz)
    refine ⟨?_, ?_⟩
    · show (PyData.canLay0 (.str y) && PyData.canLayAll0 (ys.map PyData.str)) = true
      rw [h1, show PyData.canLay0 (.str y) = PyData.strOk y from rfl, h y List.mem_cons_self]
      rfl
    · show max (PyData.depth (.str y)) (PyData.depthAll (ys.map PyData.str)) = 0
      rw [h2]
      rfl
theorem shp_strs {ys : List Str} (h : ∀ y ∈ ys, PyData.strOk y = true) : SeqAt.shaped (.list (ys.map PyData.str)) = true := by
  obtain ⟨h1, h2⟩ := cl_strs h
  unfold SeqAt.shaped
  rw [show PyData.canLay0 (.list (ys.map PyData.str)) = PyData.canLayAll0 (ys.map PyData.str) from rfl, h1, show PyData.depth (.list (ys.map PyData.str)) = PyData.depthAll (ys.map PyData.str) + 1 from rfl, h2]
  rfl
theorem eqv_strs' {ys : List Str} (h : ∀ y ∈ ys, PyData.strOk y = true) : PyData.eqv (.list (ys.map PyData.str)) (.list (ys.map PyData.str)) = true := SeqAt.eqv_refl _ (cl_strs h).1
theorem dp_strs' {K : PySem.W.Frag} {H : Hp} : ∀ (ys : List Str), DpAll K H (ys.map V.str) (ys.map PyData.str)
  | [] => .nil
  | y :: ys => .cons (.str y) (dp_strs' ys)
section
variable {P : Program} {w : World} {K : PySem.W.Frag} {mg : Str → Option Value} {base : Heap} {f fT fO C D : Addr} {fd fdT fdO : FuncData}
theorem ok_due (F : FnP K "_law_is_due" sDue f fd) (T : ClT K mg C D) (GT : FnOk P w K mg base CX0 1 fT fdT ["thing"] (spTo C D)) (FT : FnP K "told" sTo fT fdT) (gT : mg "told" = some (.ref fT))
    (GO : FnOk P w K mg base CX0 1 fO fdO ["self"] (spMO C)) (FO : MtP K "bound" "Module.bound" sMO fO fdO) (mO : Meth K C "bound" fO) (bO : Binds K fdO ["self"] [])
    (mi : mg "isinstance" = none) (mp : mg "repr" = none) (ms : mg "sorted" = none) : FnG P w K mg base CX0 2 f fd ["_law_thing_here", "_law_due", "_law_facts_here", "_law_models"] (spDue C D) := by
  have bT : Binds K fdT ["thing"] [] := FT.bindsN fun _ _ _ _ _ _ us hl => match us, hl with | [_], _ => rfl
  refine okG F scDue (fun vs H Q E h => ?_) (fun cdv A outer s H vs Q E hcd hr hgd h => ?_)
  · obtain ⟨v, what, at', u, F, M, rfl, _⟩ := h
    rfl
  · obtain ⟨v, what, at', u, Fa, Ma, rfl, hu, hD, q⟩ := h
    refine ⟨_, PSs.nox (pss_cons (ps_asg (pv 1) (pg_tup (by rfl) (pgs_cons (pg_name (i := 4) scDue.nd rfl (.inl rfl)) (pgs_cons (pg_name (i := 5) scDue.nd rfl (.inl rfl)) pgs_nil))))
      (pss_cons (ps_if (pt_cmpR op_ne (pe_callB (call_reprA hr hgd) (by rfl) mp (by decide +kernel) (pa_cons (pe_call GT hr (by rfl) gT FT.kp bT .nil pass0 (pa_cons (pv 0) pa_nil)) pa_nil))
          (pe_callB (call_reprA hr hgd) (by rfl) mp (by decide +kernel) (pa_cons (pv 4) pa_nil)) (nomark _)) (pss_one (ps_ret pe_bl)) pss_nil)
      (pss_cons (ps_if (pt_cmpR op_isN (pv 5) pe_non (nomark _)) (pss_one (ps_ret pe_bl)) pss_nil)
      (pss_cons (ps_if (pt_val (pe_callB call_isi (by rfl) mi PyProof.Rows.boot_isinstance (pa_cons (pv 0) (pa_cons (pe_glob (v := .ref D) (by rfl) T.mD rfl) pa_nil))))
          (pss_one (ps_ret (pe_and (pe_cmpR op_eq (pe_fld (pv 0) rfl) (pe_ix ix_tup (pv 4) pe_int (fun _ _ => rfl)) (nomark _))
            (pe_one (pe_cmpR (op_eqD hr.units) (pe_tup (pa_cons (pe_fld (pe_fld (pv 0) rfl) rfl) (pa_cons (pe_fld (pe_fld (pv 0) rfl) rfl) pa_nil))) (pe_ix ix_list (pv 2) (pv 5) (fun _ _ => rfl)) (nomark _)))))) pss_nil)
      (pss_one (ps_ret (pe_and (pe_cmpR (op_eqD hr.units) (pe_tup (pa_cons (pe_fld (pv 0) rfl) (pa_cons (pe_fld (pv 0) rfl) pa_nil))) (pe_ix ix_list (pv 2) (pv 5) (fun _ _ => rfl)) (nomark _))
        (pe_one (pe_cmpR (op_eqD hr.units) (pe_meth0 (pv 0) T.c1.cl mO GO hr bO .nil pass0) (pe_callB (call_sortedD rfl) (by rfl) ms (by decide +kernel) (pa_cons (pe_ix ix_list (pv 3) (pv 5) (fun _ _ => rfl)) pa_nil)) (nomark _)))))))))), ?_⟩
    have neT : ∀ x : Str, decide (V.str x = V.str x) = true := fun x => decide_eq_true rfl
    cases hD with
    | int i hi =>
      refine ⟨_, rfl, u, _, rfl, SqT.of hu, rfl, _, _, rfl, _, _, rfl, rfl, _, rfl, _, rfl, .inl ⟨i, rfl, .inl ⟨i, rfl, hi, _, rfl, .inl ⟨i, rfl, hi, rfl, _, rfl, ?_⟩⟩⟩⟩
      rw [neT]
      exact ⟨_, rfl, rfl, _, rfl, q H fun b o e => e⟩
    | @mod a d w' j n p kvs mvs ks hM hf hw hF hQ hk hm hl hs =>
      obtain ⟨⟨dx, ha⟩, hd⟩ := hM
      obtain ⟨xs, x, eF, ex, hx⟩ := hF
      obtain ⟨qs, qa, eM, eq, hqa⟩ := hQ
      obtain ⟨f1, f2, f3⟩ := hf
      have hn : n.natAbs < 10 ^ 60 := by
        have h1 : 1 ≤ n := f1
        have h2 : n < 10 ^ 60 := f2
        omega
      have sp : PyData.strOk p = true := strOk_pt f3
      have sm := sm_mod hn
      refine ⟨_, rfl, u, _, rfl, SqT.of hu, rfl, _, _, rfl, _, _, rfl, rfl, _, rfl, _, rfl, .inr (.inl ⟨a, dx, n, p, d, rfl, ha, fun t ht => ?_⟩)⟩
      have s1 : Same H (upd H t (.tup [.str "module", .int n])) := fun b o e => by rw [upd_ne (ne_of_none e ht)]; exact e
      refine .inr ⟨t, .tuple [.str "module", .int n], rfl, .tup (SqT.of upd_same) (.cons (.str _) (.cons (.int _) .nil)), sm.sh, sm.nd, Nat.le_trans sm.dp (by decide), shown_ok sm (by decide), _, rfl,
        .inr ⟨w', .tuple [.str "module", .int n], rfl, .tup (SqT.of (s1 _ _ hw)) (.cons (.str _) (.cons (.int _) .nil)), sm.sh, sm.nd, Nat.le_trans sm.dp (by decide), shown_ok sm (by decide), rfl, _, rfl, ?_⟩⟩
      rw [neT]
      refine ⟨_, rfl, rfl, _, rfl, _, rfl, _, _, _, _, _, rfl, .own D, ins_ty T.c1 (s1 _ _ ha), T.dc', _, rfl, ?_⟩
      refine ⟨_, rfl, a, C, dx, _, _, rfl, s1 _ _ ha, T.c1.cl, T.n1, mF_n _ _ _, _, rfl, a, C, dx, _, _, rfl, s1 _ _ ha, T.c1.cl, T.n2, mF_p _ _ _, sz (by simp), fun t2 ht2 => ?_⟩
      have s2 : Same H (upd (upd H t (.tup [.str "module", .int n])) t2 (.tup [.int n, .str p])) := fun b o e => by rw [upd_ne (ne_of_none (s1 _ _ e) ht2)]; exact s1 _ _ e
      refine ⟨_, rfl, _, rfl, Fa, xs, j, .ref x, rfl, rfl, SqL.of (s2 _ _ eF), atI_nat ex, .tuple [.int n, .str p], .tuple [.int n, .str p], .tup (SqT.of upd_same) (.cons (.int _) (.cons (.str _) .nil)), .tup (SqT.of (s2 _ _ hx)) (.cons (.int _) (.cons (.str _) .nil)), shp_fact sp, shp_fact sp, ?_⟩
      rw [eqv_fact sp]
      obtain ⟨H2, e2⟩ : ∃ H2, (upd (upd H t (.tup [.str "module", .int n])) t2 (.tup [.int n, .str p])) = H2 := ⟨_, rfl⟩
      rw [e2] at s2 ⊢
      refine ⟨_, rfl, ?_⟩
      refine iteT ?_
      refine ⟨_, rfl, a, dx, _, rfl, s2 _ _ ha, mF_no _ _ _ (by decide +kernel) (by decide +kernel) (by decide +kernel), a, d, n, p, kvs, ks, rfl, ⟨⟨dx, s2 _ _ ha⟩, s2 _ _ hd⟩, hk, hl, fun ys t3 pm so ht3 => ?_⟩
      have s3 : Same H (upd H2 t3 (.lst (ys.map V.str))) := fun b o e => by rw [upd_ne (ne_of_none (s2 _ _ e) ht3)]; exact s2 _ _ e
      refine ⟨_, rfl, _, rfl, Ma, qs, j, .ref qa, rfl, rfl, SqL.of (s3 _ _ eM), atI_nat eq, qa, mvs, ks, rfl, .inl (s3 _ _ hqa), hm, hl, fun zs t4 pz sz' ht4 => ?_⟩
      obtain rfl : ys = zs := sorted_same (pm.trans pz.symm) so sz'
      have oks : ∀ y ∈ ys, PyData.strOk y = true := fun y hy => hs y (pm.mem_iff.mp hy)
      have nt34 : t3 ≠ t4 := ne_of_none (upd_same : (upd H2 t3 (.lst (ys.map V.str))) t3 = _) ht4
      refine ⟨.list (ys.map PyData.str), .list (ys.map PyData.str), .lst (SqL.of (by rw [upd_ne nt34]; exact upd_same)) (dp_strs' ys), .lst (SqL.of upd_same) (dp_strs' ys), shp_strs oks, shp_strs oks, ?_⟩
      rw [eqv_strs' oks]
      exact q _ fun b o e => by rw [upd_ne (ne_of_none (s3 _ _ e) ht4)]; exact s3 _ _ e
    | @fn L dl a d w' j n p r kvs hL hrd hM hf hw hF =>
      obtain ⟨⟨dx, ha⟩, hd⟩ := hM
      obtain ⟨xs, x, eF, ex, hx⟩ := hF
      obtain ⟨f1, f2, f3⟩ := hf
      have hn : n.natAbs < 10 ^ 60 := by
        have h1 : 1 ≤ n := f1
        have h2 : n < 10 ^ 60 := f2
        omega
      have sp : PyData.strOk p = true := strOk_pt f3
      have sm := sm_fun hn hrd
      refine ⟨_, rfl, u, _, rfl, SqT.of hu, rfl, _, _, rfl, _, _, rfl, rfl, _, rfl, _, rfl, .inr (.inr ⟨L, dl, a, r, dx, n, p, d, rfl, hL, ha, fun t ht => ?_⟩)⟩
      have s1 : Same H (upd H t (.tup [.str "function", .int n, .str r])) := fun b o e => by rw [upd_ne (ne_of_none e ht)]; exact e
      refine .inr ⟨t, .tuple [.str "function", .int n, .str r], rfl, .tup (SqT.of upd_same) (.cons (.str _) (.cons (.int _) (.cons (.str _) .nil))), sm.sh, sm.nd, Nat.le_trans sm.dp (by decide), shown_ok sm (by decide), _, rfl,
        .inr ⟨w', .tuple [.str "function", .int n, .str r], rfl, .tup (SqT.of (s1 _ _ hw)) (.cons (.str _) (.cons (.int _) (.cons (.str _) .nil))), sm.sh, sm.nd, Nat.le_trans sm.dp (by decide), shown_ok sm (by decide), rfl, _, rfl, ?_⟩⟩
      rw [neT]
      refine ⟨_, rfl, rfl, _, rfl, _, rfl, _, _, _, _, _, rfl, .own D, ins_ty T.c2 (s1 _ _ hL), T.c2.me, _, rfl, ?_⟩
      refine ⟨_, rfl, L, D, dl, _, _, rfl, s1 _ _ hL, T.c2.cl, T.n5, lF_r _ _, _, rfl, w', _, _, .str r, rfl, rfl, SqT.of (s1 _ _ hw), atI_nat (j := 2) rfl, rfl, _, rfl, ?_⟩
      rw [neT]
      refine iteT ?_
      refine ⟨_, rfl, L, D, dl, _, _, rfl, s1 _ _ hL, T.c2.cl, T.n4, lF_h _ _, a, C, dx, _, _, rfl, s1 _ _ ha, T.c1.cl, T.n1, mF_n _ _ _, _, rfl, L, D, dl, _, _, rfl, s1 _ _ hL, T.c2.cl, T.n4, lF_h _ _, a, C, dx, _, _, rfl, s1 _ _ ha, T.c1.cl, T.n2, mF_p _ _ _, sz (by simp), fun t2 ht2 => ?_⟩
      have s2 : Same H (upd (upd H t (.tup [.str "function", .int n, .str r])) t2 (.tup [.int n, .str p])) := fun b o e => by rw [upd_ne (ne_of_none (s1 _ _ e) ht2)]; exact s1 _ _ e
      refine ⟨_, rfl, _, rfl, Fa, xs, j, .ref x, rfl, rfl, SqL.of (s2 _ _ eF), atI_nat ex, .tuple [.int n, .str p], .tuple [.int n, .str p], .tup (SqT.of upd_same) (.cons (.int _) (.cons (.str _) .nil)), .tup (SqT.of (s2 _ _ hx)) (.cons (.int _) (.cons (.str _) .nil)), shp_fact sp, shp_fact sp, ?_⟩
      rw [eqv_fact sp]
      exact q _ s2
end
end D21
set_option maxHeartbeats 4000000
/-! k21: is a name of a module as the law's own dict says -/
namespace D21
open PySem PySem.Spec PyProof.Rows L2 HM XW XR K11 XM XSo
abbrev sNR : Stmt := top 15
theorem scNR : FnScope ["_law_module", "_law_model", "_law_name_here", "_law_facts_here", "_law_models", "_law_has", "_law_thing_here"] ["_law_module", "_law_model", "_law_name_here", "_law_facts_here", "_law_models"] (defScope sNR) := ⟨rfl, rfl, rfl, by decide +kernel, rfl, by decide +kernel, by decide +kernel⟩
/-- what a module has for a name, and what the law's own dict has -/
def NmAt (C D : Addr) (H : Hp) (F M : Addr) (kvs mvs : List (Key × V)) (z : Str) : Prop :=
  (valV kvs (Sum.inr z : Key) = none ∧ valV mvs (Sum.inr z : Key) = none) ∨ ∃ (v what at' : V) (u : Addr), valV kvs (Sum.inr z : Key) = some v ∧ valV mvs (Sum.inr z : Key) = some (.ref u) ∧ H u = some (.tup [what, at']) ∧ DueAt C D H F M v what at'
def spNR (C D : Addr) : Sp := fun vs H Q _ => ∃ (a d qa F M : Addr) (n : Int) (p z : Str) (kvs mvs : List (Key × V)), vs = [.ref a, .ref qa, .str z, .ref F, .ref M] ∧ MdAt C H a n p d kvs ∧ H qa = some (.dK mvs) ∧ NmAt C D H F M kvs mvs z ∧ ∀ H', Same H H' → Q (.bl true) H'
section
variable {P : Program} {w : World} {K : PySem.W.Frag} {mg : Str → Option Value} {base : Heap} {f fH fG fD' C D : Addr} {fd fdH fdG fdD : FuncData}
theorem ok_nr (F : FnP K "_law_name_right" sNR f fd) (T : ClT K mg C D)
    (GH : FnOk P w K mg base CX0 1 fH fdH ["self", "name"] (spMH C)) (mH : Meth K C "has" fH) (bH : Binds K fdH ["self", "name"] [])
    (GG : FnOk P w K mg base CX0 1 fG fdG ["self", "name"] (spMT C)) (mG : Meth K C "thing_of" fG) (bG : Binds K fdG ["self", "name"] [])
    (GD : FnG P w K mg base CX0 2 fD' fdD ["_law_thing_here", "_law_due", "_law_facts_here", "_law_models"] (spDue C D)) (FD : FnP K "_law_is_due" sDue fD' fdD) (gD : mg "_law_is_due" = some (.ref fD'))
    (mi : mg "isinstance" = none) (mb : mg "bool" = none) (kb : PySem.W.kitOne K (.type "bool") (.type "bool") = some true) : FnG P w K mg base CX0 3 f fd ["_law_module", "_law_model", "_law_name_here", "_law_facts_here", "_law_models"] (spNR C D) := by
  have bD : Binds K fdD ["_law_thing_here", "_law_due", "_law_facts_here", "_law_models"] [] := FD.bindsN fun _ _ _ _ _ _ us hl => match us, hl with | [_, _, _, _], _ => rfl
  refine okG F scNR (fun vs H Q E h => ?_) (fun cdv A outer s H vs Q E hcd hr hgd h => ?_)
  · obtain ⟨a, d, qa, F, M, n, p, z, kvs, mvs, rfl, _⟩ := h
    rfl
  · obtain ⟨a, d, qa, Fa, Ma, n, p, z, kvs, mvs, rfl, hM, hq, hN, q⟩ := h
    have hr1 : Room 1 _ := hr.mono (by decide)
    have hu := hu_of hr
    refine ⟨_, PSs.nox (pss_cons (ps_set (i := 5) scNR.nd rfl (.inl rfl) (pe_meth (pv 0) T.c1.cl mH GH hr1 bH .nil pass0 (pa_cons (pv 2) pa_nil)))
      (pss_cons (ps_if (PW.pt (pw_or (pt_not (pt_val (pe_callB call_isi (by rfl) mi PyProof.Rows.boot_isinstance (pa_cons (pv 5) (pa_cons (pe_bltn (v := .ty "bool") (by rfl) mb (by decide +kernel) rfl) pa_nil)))))
          (pw_or1 (pt_cmpR op_ne (pv 5) (pe_cmp (pc_din hu (pv 2) (pv 1))) (nomark _))))) (pss_one (ps_ret pe_bl)) pss_nil)
      (pss_cons (ps_set (i := 6) scNR.nd rfl (.inl rfl) (pe_meth (pv 0) T.c1.cl mG GG hr1 bG .nil pass0 (pa_cons (pv 2) pa_nil)))
      (pss_cons (ps_if (pt_cmp (pc_dnotin hu (pv 2) (pv 1))) (pss_one (ps_ret (pe_cmpR op_isN (pv 6) pe_non (nomark _)))) pss_nil)
      (pss_one (ps_ret (pe_callG GD hr hgd (by rfl) gD FD.kp bD .nil pass0 (pa_cons (pv 6) (pa_cons (pe_dget hu (pv 1) (pv 2) (fun _ _ => rfl)) (pa_cons (pv 3) (pa_cons (pv 4) pa_nil))))))))))), ?_⟩
    obtain ⟨⟨dx, ha⟩, hd⟩ := id hM
    have no : ∀ m : Str, ¬ m = "things" → ¬ m = "path" → ¬ m = "number" → (mF n p d).lookup m = none := fun m h1 h2 h3 => mF_no n p d h1 h2 h3
    have neB : ∀ x : V, decide (x = x) = true := fun x => decide_eq_true rfl
    rcases hN with ⟨e1, e2⟩ | ⟨v, what, at', u, e1, e2, hu', hD⟩
    · refine ⟨_, rfl, a, dx, _, rfl, ha, no _ (by decide +kernel) (by decide +kernel) (by decide +kernel), _, rfl, a, d, n, p, z, kvs, rfl, hM, ?_⟩
      rw [e1]
      refine ⟨_, rfl, _, _, _, _, _, rfl, .ty "bool", .base (.bl _), kb, _, rfl, ?_⟩
      refine ⟨_, rfl, _, rfl, _, rfl, qa, _, rfl, DGet.k (k := Sum.inr z) hq, ?_⟩
      rw [e2]
      refine ⟨rfl, _, rfl, ?_⟩
      rw [neB]
      refine ⟨_, rfl, a, dx, _, rfl, ha, no _ (by decide +kernel) (by decide +kernel) (by decide +kernel), _, rfl, a, d, n, p, z, kvs, rfl, hM, ?_⟩
      rw [e1]
      refine ⟨_, rfl, _, rfl, qa, _, rfl, DGet.k (k := Sum.inr z) hq, ?_⟩
      rw [e2]
      exact ⟨_, rfl, _, rfl, rfl, q H fun b o e => e⟩
    · refine ⟨_, rfl, a, dx, _, rfl, ha, no _ (by decide +kernel) (by decide +kernel) (by decide +kernel), _, rfl, a, d, n, p, z, kvs, rfl, hM, ?_⟩
      rw [e1]
      refine ⟨_, rfl, _, _, _, _, _, rfl, .ty "bool", .base (.bl _), kb, _, rfl, ?_⟩
      refine ⟨_, rfl, _, rfl, _, rfl, qa, _, rfl, DGet.k (k := Sum.inr z) hq, ?_⟩
      rw [e2]
      refine ⟨rfl, _, rfl, ?_⟩
      rw [show decide (V.bl (some v).isSome = V.bl (some (V.ref u)).isSome) = true from decide_eq_true rfl]
      refine ⟨_, rfl, a, dx, _, rfl, ha, no _ (by decide +kernel) (by decide +kernel) (by decide +kernel), _, rfl, a, d, n, p, z, kvs, rfl, hM, ?_⟩
      rw [e1]
      refine ⟨_, rfl, _, rfl, qa, _, rfl, DGet.k (k := Sum.inr z) hq, ?_⟩
      rw [e2]
      refine ⟨_, rfl, _, rfl, _, rfl, _, rfl, qa, .ref u, rfl, ?_, _, rfl, _, rfl, v, what, at', u, Fa, Ma, rfl, hu', hD, q⟩
      rw [← e2]
      exact DGet.k (k := Sum.inr z) hq
end
end D21
set_option maxHeartbeats 4000000
/-! k21: the whole state between two steps -/
namespace D21
open PySem PySem.Spec PyProof.Rows L2 HM XW XR K11 XM XSo
/-- what stays the same through the law -/
structure Pm where
  C : Addr
  D : Addr
  F : Addr
  M : Addr
  Lm : Addr
  N : Addr
  fs : List (Int × Str)
  ns : List Str
  as : List Addr
  ds : List Addr
  qs : List Addr
/-- a thing, what is due of it, and its place among the modules -/
inductive ThR (X : Pm) (H : Hp) : V → V → V → Prop
  | int (i : Int) : i.natAbs < 10 ^ 60 → ThR X H (.int i) (.int i) .non
  | mod {j : Nat} {a w : Addr} {n : Int} {p : Str} : X.fs[j]? = some (n, p) → X.as[j]? = some a → H w = some (.tup [.str "module", .int n]) → ThR X H (.ref a) (.ref w) (.int j)
  | fn {j : Nat} {L dx a w : Addr} {n : Int} {p r : Str} : X.fs[j]? = some (n, p) → X.as[j]? = some a → H L = some (.ins X.D dx (lF (.ref a) r)) → ptOk r → H w = some (.tup [.str "function", .int n, .str r]) → ThR X H (.ref L) (.ref w) (.int j)
/-- tuples and objects are kept -/
def Kt (H H' : Hp) : Prop := ∀ b o, H b = some o → ((∃ xs, o = .tup xs) ∨ ∃ C dx fs, o = .ins C dx fs) → H' b = some o
theorem ThR.kt {X : Pm} {H H' : Hp} (k : Kt H H') {v w a : V} : ThR X H v w a → ThR X H' v w a
  | .int i h => .int i h
  | .mod h1 h2 h3 => .mod h1 h2 (k _ _ h3 (.inl ⟨_, rfl⟩))
  | .fn h1 h2 h3 h4 h5 => .fn h1 h2 (k _ _ h3 (.inr ⟨_, _, _, rfl⟩)) h4 (k _ _ h5 (.inl ⟨_, rfl⟩))
def NmR (X : Pm) (H : Hp) (kvs mvs : List (Key × V)) (z : Str) : Prop :=
  (valV kvs (Sum.inr z : Key) = none ∧ valV mvs (Sum.inr z : Key) = none) ∨ ∃ (v what at' : V) (u : Addr), valV kvs (Sum.inr z : Key) = some v ∧ valV mvs (Sum.inr z : Key) = some (.ref u) ∧ H u = some (.tup [what, at']) ∧ ThR X H v what at'
theorem NmR.kt {X : Pm} {H H' : Hp} (k : Kt H H') {kvs mvs : List (Key × V)} {z : Str} : NmR X H kvs mvs z → NmR X H' kvs mvs z
  | .inl h => .inl h
  | .inr ⟨v, w, a, u, h1, h2, h3, h4⟩ => .inr ⟨v, w, a, u, h1, h2, k _ _ h3 (.inl ⟨_, rfl⟩), h4.kt k⟩
/-- the row of a module -/
def RowR (X : Pm) (b : Nat) (H : Hp) (j : Nat) (n : Int) (p : Str) : Prop := ∃ (a d q : Addr) (kvs mvs : List (Key × V)) (ks : List Str), X.as[j]? = some a ∧ X.ds[j]? = some d ∧ X.qs[j]? = some q ∧ MdAt X.C H a n p d kvs ∧ H q = some (.dK mvs) ∧
  kvs.map (·.1) = ks.map Sum.inr ∧ mvs.map (·.1) = ks.map Sum.inr ∧ ks.length ≤ b ∧ (∀ k ∈ ks, nmOk k) ∧ ∀ z, NmR X H kvs mvs z
/-- the whole state: b binds so far -/
structure Wh (X : Pm) (b : Nat) (H : Hp) : Prop where
  hF : ∃ xs, H X.F = some (.lst xs) ∧ RgAll AllA H xs (fsD X.fs)
  okF : ∀ p ∈ X.fs, factOk p
  neF : X.fs ≠ []
  l4 : X.fs.length ≤ 4
  hN : H X.N = some (.lst (X.ns.map V.str))
  okN : ∀ z ∈ X.ns, nmOk z
  neN : X.ns ≠ []
  lN : X.ns.length ≤ 45
  hL : H X.Lm = some (.lst (X.as.map V.ref))
  hM : H X.M = some (.lst (X.qs.map V.ref))
  la : X.as.length = X.fs.length
  ld : X.ds.length = X.fs.length
  lq : X.qs.length = X.fs.length
  nd : (X.ds ++ X.qs).Nodup
  row : ∀ j n p, X.fs[j]? = some (n, p) → RowR X b H j n p
theorem rg_fact {Av : Addr → Prop} {H : Hp} {v : V} {n : Int} {p : Str} (h : Rg Av H v (fD (n, p))) : ∃ x, v = .ref x ∧ H x = some (.tup [.int n, .str p]) := by
  cases h with
  | tup e r =>
    cases r with
    | cons a r =>
    cases r with
    | cons b r =>
    cases r
    cases a
    cases b
    exact ⟨_, rfl, e⟩
section
variable {X : Pm} {b : Nat} {H H' : Hp}
theorem Wh.fact (S : Wh X b H) {j : Nat} {n : Int} {p : Str} (h : X.fs[j]? = some (n, p)) : FcAt H X.F j n p := by
  obtain ⟨xs, e, r⟩ := S.hF
  obtain ⟨v, hv, rv⟩ := r.get' j (d := fD (n, p)) (by rw [List.getElem?_map, h]; rfl)
  obtain ⟨x, rfl, hx⟩ := rg_fact rv
  exact ⟨xs, x, e, hv, hx⟩
theorem Wh.okA (S : Wh X b H) {j : Nat} {n : Int} {p : Str} (h : X.fs[j]? = some (n, p)) : factOk (n, p) := S.okF _ (List.mem_of_getElem? h)
theorem Wh.due (S : Wh X b H) (hb : b < 64) {v what at' : V} (h : ThR X H v what at') : DueAt X.C X.D H X.F X.M v what at' := by
  cases h with
  | int i hi => exact .int i hi
  | @mod j a w n p hf ha hw =>
    obtain ⟨a', d, q, kvs, mvs, ks, e1, e2, e3, hm, hq, k1, k2, k3, k4, _⟩ := S.row j n p hf
    rw [e1] at ha
    cases ha
    exact .mod hm (S.okA hf) hw (S.fact hf) ⟨_, q, S.hM, by rw [List.getElem?_map, e3]; rfl, hq⟩ k1 k2 (by omega) fun k hk => strOk_nm (k4 k hk)
  | @fn j L dx a w n p r hf ha hL hr hw =>
    obtain ⟨a', d, q, kvs, mvs, ks, e1, e2, e3, hm, hq, k1, k2, k3, k4, _⟩ := S.row j n p hf
    rw [e1] at ha
    cases ha
    exact .fn hL hr hm (S.okA hf) hw (S.fact hf)
theorem Wh.nm (S : Wh X b H) (hb : b < 64) {kvs mvs : List (Key × V)} {z : Str} : NmR X H kvs mvs z → NmAt X.C X.D H X.F X.M kvs mvs z
  | .inl h => .inl h
  | .inr ⟨v, w, a, u, h1, h2, h3, h4⟩ => .inr ⟨v, w, a, u, h1, h2, h3, S.due hb h4⟩
theorem Wh.ne (S : Wh X b H) {l : Addr} (hP : PotAt H l) : X.F ≠ l ∧ X.N ≠ l ∧ X.Lm ≠ l ∧ X.M ≠ l := by
  obtain ⟨p0, p1, e, _⟩ := hP
  have hlen : 0 < X.fs.length := List.length_pos_iff.mpr S.neF
  have nr : ∀ {x : Addr} {bs : List Addr}, 0 < bs.length → H x = some (.lst (bs.map V.ref)) → x ≠ l := fun {x bs} h0 hx z => by
    rw [z, e] at hx
    cases bs with
    | nil => simp at h0
    | cons a r => cases hx
  refine ⟨fun z => ?_, strs_ne ⟨p0, p1, e, by assumption⟩ S.hN, nr (by rw [S.la]; exact hlen) S.hL, nr (by rw [S.lq]; exact hlen) S.hM⟩
  obtain ⟨xs, e1, r⟩ := S.hF
  cases q : X.fs with
  | nil => exact S.neF q
  | cons f fs =>
    rw [q] at r
    rw [z, e] at e1
    cases e1
    cases r with
    | cons h r => cases h
theorem Wh.keep (S : Wh X b H) {l : Addr} (hP : PotAt H l) (k : ∀ c o, H c = some o → c ≠ l → H' c = some o) : Wh X b H' := by
  obtain ⟨n1, n2, n3, n4⟩ := S.ne hP
  have kt : Kt H H' := fun c o e hc => k c o e fun z => by
    obtain ⟨p0, p1, e2, _⟩ := hP
    rw [z, e2] at e
    cases e
    rcases hc with ⟨xs, hc⟩ | ⟨_, _, _, hc⟩ <;> cases hc
  have kd : ∀ c kvs, H c = some (.dK kvs) → H' c = some (.dK kvs) := fun c kvs e => k c _ e fun z => by
    obtain ⟨p0, p1, e2, _⟩ := hP
    rw [z, e2] at e
    cases e
  obtain ⟨xs, e, r⟩ := S.hF
  refine ⟨⟨xs, k _ _ e n1, r.kq fun c o e hc => ?_⟩, S.okF, S.neF, S.l4, k _ _ S.hN n2, S.okN, S.neN, S.lN, k _ _ S.hL n3, k _ _ S.hM n4, S.la, S.ld, S.lq, S.nd, fun j n p hf => ?_⟩
  · rcases hc with hc | ⟨hc, _⟩
    · exact kt c o e (.inl hc)
    · exact absurd trivial hc
  · obtain ⟨a, d, q, kvs, mvs, ks, e1, e2, e3, ⟨⟨dx, hm⟩, hd⟩, hq, k1, k2, k3, k4, k5⟩ := S.row j n p hf
    exact ⟨a, d, q, kvs, mvs, ks, e1, e2, e3, ⟨⟨dx, kt _ _ hm (.inr ⟨_, _, _, rfl⟩)⟩, kd _ _ hd⟩, kd _ _ hq, k1, k2, k3, k4, fun z => (k5 z).kt kt⟩
theorem kt_same (k : Same H H') : Kt H H' := fun c o e _ => k c o e
theorem Wh.same (S : Wh X b H) (k : Same H H') : Wh X b H' := by
  obtain ⟨xs, e, r⟩ := S.hF
  refine ⟨⟨xs, k _ _ e, r.kq fun c o e hc => k c o e⟩, S.okF, S.neF, S.l4, k _ _ S.hN, S.okN, S.neN, S.lN, k _ _ S.hL, k _ _ S.hM, S.la, S.ld, S.lq, S.nd, fun j n p hf => ?_⟩
  obtain ⟨a, d, q, kvs, mvs, ks, e1, e2, e3, ⟨⟨dx, hm⟩, hd⟩, hq, k1, k2, k3, k4, k5⟩ := S.row j n p hf
  exact ⟨a, d, q, kvs, mvs, ks, e1, e2, e3, ⟨⟨dx, k _ _ hm⟩, k _ _ hd⟩, k _ _ hq, k1, k2, k3, k4, fun z => (k5 z).kt (kt_same k)⟩
theorem keys_put {kvs : List (Key × V)} {ks : List Str} {z : Str} {v : V} (h : kvs.map (·.1) = ks.map Sum.inr) : (putK kvs (Sum.inr z : Key) v).map (·.1) = (if z ∈ ks then ks else ks ++ [z]).map Sum.inr := by
  have ha : (kvs.any fun kv => decide (kv.1 = (Sum.inr z : Key))) = decide (z ∈ ks) := by
    rw [Bool.eq_iff_iff, List.any_eq_true, decide_eq_true_iff]
    constructor
    · rintro ⟨kv, h1, h2⟩
      have h3 : (Sum.inr z : Key) ∈ kvs.map (·.1) := List.mem_map.mpr ⟨kv, h1, of_decide_eq_true h2⟩
      rw [h] at h3
      obtain ⟨y, hy, e⟩ := List.mem_map.mp h3
      cases e
      exact hy
    · intro hz
      have h3 : (Sum.inr z : Key) ∈ ks.map Sum.inr := List.mem_map.mpr ⟨z, hz, rfl⟩
      rw [← h] at h3
      obtain ⟨kv, h1, h2⟩ := List.mem_map.mp h3
      exact ⟨kv, h1, decide_eq_true h2⟩
  unfold putK
  rw [ha]
  by_cases hz : z ∈ ks
  · rw [decide_eq_true hz, if_pos rfl, if_pos hz, ← h, List.map_map]
    refine List.map_congr_left fun kv _ => ?_
    show (if kv.1 = Sum.inr z then (kv.1, v) else kv).1 = kv.1
    split <;> rfl
  · rw [decide_eq_false hz, if_neg (by decide), if_neg hz, List.map_append, List.map_append, h]
    rfl
theorem Wh.bind (S : Wh X b H) {j : Nat} {n : Int} {p z : Str} {d q u : Addr} {kvs mvs : List (Key × V)} {v what at' : V} (hj : X.fs[j]? = some (n, p)) (hd : X.ds[j]? = some d) (hq : X.qs[j]? = some q) (ed : H d = some (.dK kvs)) (eq : H q = some (.dK mvs)) (hz : nmOk z)
    (k : ∀ c o, H c = some o → c ≠ d → c ≠ q → H' c = some o) (e1 : H' d = some (.dK (putK kvs (Sum.inr z : Key) v))) (e2 : H' q = some (.dK (putK mvs (Sum.inr z : Key) (.ref u)))) (hu : H' u = some (.tup [what, at'])) (ht : ThR X H' v what at') : Wh X (b + 1) H' := by
  have kx : ∀ c o, H c = some o → (∀ l, o ≠ .dK l) → H' c = some o := fun c o e h => k c o e (fun y => by rw [y, ed] at e; cases e; exact h _ rfl) (fun y => by rw [y, eq] at e; cases e; exact h _ rfl)
  have kt : Kt H H' := fun c o e hc => kx c o e fun l y => by
    rw [y] at hc
    rcases hc with ⟨xs, hc⟩ | ⟨_, _, _, hc⟩ <;> cases hc
  obtain ⟨nd1, nd2, nd3⟩ := List.nodup_append.mp S.nd
  obtain ⟨xs, e, r⟩ := S.hF
  have nl : ∀ (x : List V) l, HO.lst x ≠ .dK l := fun x l y => by cases y
  refine ⟨⟨xs, kx _ _ e (nl _), r.kq fun c o e hc => ?_⟩, S.okF, S.neF, S.l4, kx _ _ S.hN (nl _), S.okN, S.neN, S.lN, kx _ _ S.hL (nl _), kx _ _ S.hM (nl _), S.la, S.ld, S.lq, S.nd, fun i m y hf => ?_⟩
  · rcases hc with hc | ⟨hc, _⟩
    · exact kt c o e (.inl hc)
    · exact absurd trivial hc
  · obtain ⟨a', d', q', kvs', mvs', ks, g1, g2, g3, ⟨⟨dx, hm⟩, hd'⟩, hq', k1, k2, k3, k4, k5⟩ := S.row i m y hf
    have hm' := kt _ _ hm (.inr ⟨_, _, _, rfl⟩)
    by_cases hij : i = j
    · subst hij
      rw [hd] at g2
      cases g2
      rw [hq] at g3
      cases g3
      rw [ed] at hd'
      cases hd'
      rw [eq] at hq'
      cases hq'
      refine ⟨a', d, q, _, _, (if z ∈ ks then ks else ks ++ [z]), g1, hd, hq, ⟨⟨dx, hm'⟩, e1⟩, e2, keys_put k1, keys_put k2, ?_, fun y hy => ?_, fun y => ?_⟩
      · split
        · omega
        · rw [List.length_append, List.length_singleton]
          omega
      · split at hy
        · exact k4 y hy
        · rcases List.mem_append.mp hy with w | w
          · exact k4 y w
          · rw [List.mem_singleton.mp w]
            exact hz
      · unfold NmR
        rw [valV_put, valV_put]
        by_cases hy : y = z
        · subst hy
          rw [if_pos rfl, if_pos rfl]
          exact .inr ⟨v, what, at', u, rfl, rfl, hu, ht⟩
        · have ne : ¬ ((Sum.inr y : Key) = Sum.inr z) := fun w => hy (by cases w; rfl)
          rw [if_neg ne, if_neg ne]
          exact (k5 y).kt kt
    · have i1 : d' ≠ d := fun w => hij ((List.getElem?_inj (by have := (List.getElem?_eq_some_iff.mp g2).1; exact this) nd1).mp (by rw [g2, hd, w]))
      have i2 : d' ≠ q := fun w => nd3 d' (List.mem_of_getElem? g2) q (List.mem_of_getElem? hq) w
      have i3 : q' ≠ q := fun w => hij ((List.getElem?_inj (by have := (List.getElem?_eq_some_iff.mp g3).1; exact this) nd2).mp (by rw [g3, hq, w]))
      have i4 : q' ≠ d := fun w => nd3 d (List.mem_of_getElem? hd) q' (List.mem_of_getElem? g3) w.symm
      exact ⟨a', d', q', kvs', mvs', ks, g1, g2, g3, ⟨⟨dx, hm'⟩, k _ _ hd' i1 i2⟩, k _ _ hq' i4 i3, k1, k2, by omega, k4, fun z => (k5 z).kt kt⟩
end
end D21
set_option maxHeartbeats 4000000
/-! k21: the thing that is bound next -/
namespace D21
open PySem PySem.Spec PyProof.Rows L2 HM XW XR K11 XM XSo
abbrev sTh : Stmt := top 13
theorem scTh : FnScope ["_law_pot_here", "_law_modules", "_law_facts_here", "_law_names_here", "_law_ahead", "_law_way", "_law_at_here", "_law_road_here", "_law_number_here"] ["_law_pot_here", "_law_modules", "_law_facts_here", "_law_names_here", "_law_ahead"] (defScope sTh) := ⟨rfl, rfl, rfl, by decide +kernel, rfl, by decide +kernel, by decide +kernel⟩
def AhR (X : Pm) (H : Hp) (ah : V) : Prop := ah = .non ∨ ∃ (t : Addr) (v what at' : V), ah = .ref t ∧ H t = some (.tup [v, what, at']) ∧ ThR X H v what at'
theorem AhR.kt {X : Pm} {H H' : Hp} (k : Kt H H') {ah : V} : AhR X H ah → AhR X H' ah
  | .inl h => .inl h
  | .inr ⟨t, v, w, a, h1, h2, h3⟩ => .inr ⟨t, v, w, a, h1, k _ _ h2 (.inl ⟨_, rfl⟩), h3.kt k⟩
theorem kt_ch {l : Addr} {H H' : Hp} (hP : PotAt H l) (k : Ch l H H') : Kt H H' := fun c o e hc => k c o e fun z => by
  obtain ⟨p0, p1, e2, _⟩ := hP
  rw [z, e2] at e
  cases e
  rcases hc with ⟨xs, hc⟩ | ⟨_, _, _, hc⟩ <;> cases hc
def spTh (C D : Addr) : Sp := fun vs H Q _ => ∃ (X : Pm) (b : Nat) (l : Addr) (ah : V), X.C = C ∧ X.D = D ∧ vs = [.ref l, .ref X.Lm, .ref X.F, .ref X.N, ah] ∧ PotAt H l ∧ Wh X b H ∧ AhR X H ah ∧
  ∀ (H' : Hp) (t : Addr) (v what at' : V), Ch l H H' → PotAt H' l → H' t = some (.tup [v, what, at']) → ThR X H' v what at' → Q (.ref t) H'
section
variable {P : Program} {w : World} {K : PySem.W.Frag} {mg : Str → Option Value} {base : Heap} {f fD fN fR fI C D : Addr} {fd fdD fdN fdR fdI : FuncData}
theorem ok_th (F : FnP K "_law_thing" sTh f fd) (T : ClT K mg C D) (GD : FnOk P w K mg base CX0 1 fD fdD DP spDraw) (FD : FnP K "_law_draw" sDraw fD fdD) (gD : mg "_law_draw" = some (.ref fD))
    (GR : FnOk P w K mg base CX0 2 fR fdR ["_law_pot_here", "_law_names_here"] (spRd K)) (FR : FnP K "_law_road" sRd fR fdR) (gR : mg "_law_road" = some (.ref fR))
    (GN : FnOk P w K mg base CX0 2 fN fdN ["_law_pot_here"] spNum) (FN : FnP K "_law_number" sNum fN fdN) (gN : mg "_law_number" = some (.ref fN))
    (ML : Mk K D fI) (GI : FnOk P w K mg base CX0 1 fI fdI ["self", "home", "road"] (spLI D)) (bI : Binds K fdI ["self", "home", "road"] []) (ml : mg "len" = none) : FnOk P w K mg base CX0 3 f fd ["_law_pot_here", "_law_modules", "_law_facts_here", "_law_names_here", "_law_ahead"] (spTh C D) := by
  have bD : Binds K fdD DP [] := FD.bindsN fun _ _ _ _ _ _ us hl => match us, hl with | [_, _], _ => rfl
  have bR : Binds K fdR ["_law_pot_here", "_law_names_here"] [] := FR.bindsN fun _ _ _ _ _ _ us hl => match us, hl with | [_, _], _ => rfl
  have bN : Binds K fdN ["_law_pot_here"] [] := FN.bindsN fun _ _ _ _ _ _ us hl => match us, hl with | [_], _ => rfl
  refine ok_code F scTh (fun vs H Q E h => ?_) (fun cdv A outer s H vs Q E hcd hr h => ?_)
  · obtain ⟨X, b, l, ah, _, _, rfl, _⟩ := h
    rfl
  · obtain ⟨X, b, l, ah, hC, hD, rfl, hP, S, hA, q⟩ := h
    have hr1 : Room 1 (A.deeper (envOfC "_law_thing" (defScope sTh) s.heap.objs.size f cdv)) := hr.mono (by decide)
    refine ⟨_, pss_cons (ps_set (i := 5) scTh.nd rfl (.inl rfl) (pe_call GD hr1 (by rfl) gD FD.kp bD .nil pass0 (pa_cons (pv 0) (pa_cons pe_int pa_nil))))
      (pss_cons (ps_set (i := 6) scTh.nd rfl (.inl rfl) (pe_call GD hr1 (by rfl) gD FD.kp bD .nil pass0 (pa_cons (pv 0) (pa_cons (pe_callB call_len_seq (by rfl) ml PySem.boot_len (pa_cons (pv 1) pa_nil)) pa_nil))))
      (pss_cons (ps_set (i := 7) scTh.nd rfl (.inl rfl) (pe_call GR hr (by rfl) gR FR.kp bR .nil pass0 (pa_cons (pv 0) (pa_cons (pv 3) pa_nil))))
      (pss_cons (ps_set (i := 8) scTh.nd rfl (.inl rfl) (pe_call GN hr (by rfl) gN FN.kp bN .nil pass0 (pa_cons (pv 0) pa_nil)))
      (pss_cons (ps_if (PW.pt (pw_and (pt_cmpR op_eq (pv 5) pe_int (nomark _)) (pw_and1 (pt_cmpR op_notN (pv 4) pe_non (nomark _))))) (pss_one (ps_ret (pv 4))) pss_nil)
      (pss_cons (ps_if (pt_cmpR op_eq (pv 5) pe_int (nomark _)) (pss_one (ps_ret (pe_tup (pa_cons (pe_make ML GI hr (by rfl) T.mD bI .nil pass0 (pa_cons (pe_ix ix_list (pv 1) (pv 6) (fun _ _ => rfl)) (pa_cons (pv 7) pa_nil)))
          (pa_cons (pe_tup (pa_cons pe_str (pa_cons (pe_ix ix_tup (pe_ix ix_list (pv 2) (pv 6) (fun _ _ => rfl)) pe_int (fun _ _ => rfl)) (pa_cons (pv 7) pa_nil)))) (pa_cons (pv 6) pa_nil)))))) pss_nil)
      (pss_cons (ps_if (pt_cmpR op_eq (pv 5) pe_int (nomark _)) (pss_one (ps_ret (pe_tup (pa_cons (pe_ix ix_list (pv 1) (pv 6) (fun _ _ => rfl))
          (pa_cons (pe_tup (pa_cons pe_str (pa_cons (pe_ix ix_tup (pe_ix ix_list (pv 2) (pv 6) (fun _ _ => rfl)) pe_int (fun _ _ => rfl)) pa_nil))) (pa_cons (pv 6) pa_nil)))))) pss_nil)
      (pss_one (ps_ret (pe_tup (pa_cons (pv 8) (pa_cons (pv 8) (pa_cons pe_non pa_nil)))))))))))), ?_⟩
    refine ⟨_, rfl, l, _, pa hP, pb hP, rfl, by decide, by decide, ph hP, pk hP, fun H1 way c1 hP1 w0 w1 => ?_⟩
    have S1 := S.keep hP c1
    have hpos : 0 < X.fs.length := List.length_pos_iff.mpr S.neF
    have hlen : (X.as.map V.ref).length = X.fs.length := by rw [List.length_map, S.la]
    have hlog : ((X.as.map V.ref).length : Int).natAbs.log2 < 9000 := by
      rw [hlen, Int.natAbs_natCast]
      have h1 : X.fs.length < 2 ^ 3 := by have := S.l4; omega
      have := (Nat.log2_lt (by omega)).mpr h1
      omega
    refine ⟨_, rfl, _, rfl, X.Lm, _, rfl, .inl (SqL.of S1.hL), l, _, pa hP1, pb hP1, rfl, by rw [hlen]; omega, hlog, ph hP1, pk hP1, fun H2 jj c2 hP2 j0 j1 => ?_⟩
    have S2 := S1.keep hP1 c2
    refine ⟨_, rfl, _, rfl, l, X.N, X.ns, rfl, hP2, S2.hN, S.okN, S.neN, by have := S.lN; omega, fun H3 r c3 hP3 hr3 => ?_⟩
    have S3 := S2.keep hP2 c3
    refine ⟨_, rfl, l, rfl, hP3, fun H4 i c4 hP4 hi4 => ?_⟩
    have S4 := S3.keep hP3 c4
    have c04 : Ch l H H4 := Ch.trans (Ch.trans (Ch.trans c1 c2) c3) c4
    have hA4 := hA.kt (kt_ch hP c04)
    obtain ⟨j, rfl⟩ : ∃ j : Nat, jj = (j : Int) := ⟨jj.toNat, by omega⟩
    have hj : j < X.fs.length := by rw [hlen] at j1; omega
    obtain ⟨⟨n, p⟩, hf⟩ : ∃ np, X.fs[j]? = some np := ⟨_, List.getElem?_eq_getElem hj⟩
    obtain ⟨a, d, qa, kvs, mvs, ks, g1, g2, g3, hM, hq, _⟩ := S4.row j n p hf
    obtain ⟨xs, x, eF, ex, hx⟩ := S4.fact hf
    have neV : ∀ k m : Int, k ≠ m → decide (V.int k = V.int m) = false := fun k m h => decide_eq_false (fun e => h (by cases e; rfl))
    refine ⟨_, rfl, rfl, _, rfl, ?_⟩
    have fin : ∀ (t : Addr), H4 t = none → Q (.ref t) (upd H4 t (.tup [.int i, .int i, .non])) := fun t ht => q _ t (.int i) (.int i) .non (Ch.over c04 (Ch.free c04 ht (hP4.ne ht))) (hP4.new (hP4.ne ht)) upd_same (.int i hi4)
    by_cases h4 : way = 4
    · subst h4
      rw [show decide (V.int 4 = V.int 4) = true from rfl]
      rcases hA4 with rfl | ⟨t, v, what, at', rfl, ht, hth⟩
      · refine ⟨_, rfl, rfl, _, rfl, ?_⟩
        refine ⟨_, rfl, rfl, _, rfl, ?_⟩
        rw [neV 4 3 (by decide)]
        refine ⟨_, rfl, rfl, _, rfl, ?_⟩
        rw [neV 4 2 (by decide)]
        exact ⟨_, rfl, _, rfl, sz (by simp), fun t ht => fin t ht⟩
      · refine ⟨_, rfl, rfl, _, rfl, ?_⟩
        rw [show decide (V.ref t = V.non) = false from decide_eq_false (by intro e; cases e)]
        exact ⟨_, rfl, q H4 t v what at' c04 hP4 ht hth⟩
    · rw [neV _ _ h4]
      refine ⟨_, rfl, rfl, _, rfl, ?_⟩
      by_cases h3 : way = 3
      · subst h3
        rw [show decide (V.int 3 = V.int 3) = true from rfl]
        refine ⟨_, rfl, _, rfl, X.Lm, _, _, .ref a, rfl, rfl, SqL.of S4.hL, atI_nat (j := j) (by rw [List.getElem?_map, g1]; rfl), _, rfl, fun L dL hL hdL hne => ⟨L, dL, .ref a, r, rfl, upd_same, rfl, ?_⟩⟩
        have s5 : Same H4 (upd (upd (upd (upd H4 dL (.own L)) L (.ins D dL [])) L (.ins D dL (putF "home" (.ref a) []))) L (.ins D dL (lF (.ref a) r))) := fun c o e => by
          rw [upd_ne (ne_of_none e hL), upd_ne (ne_of_none e hL), upd_ne (ne_of_none e hL), upd_ne (ne_of_none e hdL)]
          exact e
        have eL : (upd (upd (upd (upd H4 dL (.own L)) L (.ins D dL [])) L (.ins D dL (putF "home" (.ref a) []))) L (.ins D dL (lF (.ref a) r))) L = some (.ins D dL (lF (.ref a) r)) := upd_same
        obtain ⟨H5, e5⟩ : ∃ H5, (upd (upd (upd (upd H4 dL (.own L)) L (.ins D dL [])) L (.ins D dL (putF "home" (.ref a) []))) L (.ins D dL (lF (.ref a) r))) = H5 := ⟨_, rfl⟩
        rw [e5] at s5 eL ⊢
        refine ⟨_, rfl, _, rfl, X.F, xs, _, .ref x, rfl, rfl, SqL.of (s5 _ _ eF), atI_nat ex, x, _, _, _, rfl, rfl, SqT.of (s5 _ _ hx), atI_nat (j := 0) rfl, _, rfl, sz (by simp), fun t1 ht1 => ⟨_, rfl, sz (by simp), fun t2 ht2 => ?_⟩⟩
        have s6 : Same H5 (upd H5 t1 (.tup [.str "function", .int n, .str r])) := fun c o e => by rw [upd_ne (ne_of_none e ht1)]; exact e
        have s7 : Same (upd H5 t1 (.tup [.str "function", .int n, .str r])) (upd (upd H5 t1 (.tup [.str "function", .int n, .str r])) t2 (.tup [.ref L, .ref t1, .int j])) := fun c o e => by rw [upd_ne (ne_of_none e ht2)]; exact e
        have s47 := (s5.trans s6).trans s7
        refine q _ t2 (.ref L) (.ref t1) (.int j) (Ch.trans c04 fun c o e _ => s47 c o e) ?_ upd_same (.fn hf g1 (hD ▸ s7 _ _ (s6 _ _ eL)) hr3 (s7 _ _ upd_same))
        obtain ⟨p0, p1, e, k⟩ := hP4
        exact ⟨p0, p1, s47 _ _ e, k⟩
      · rw [neV _ _ h3]
        refine ⟨_, rfl, rfl, _, rfl, ?_⟩
        by_cases h2 : way = 2
        · subst h2
          rw [show decide (V.int 2 = V.int 2) = true from rfl]
          refine ⟨_, rfl, _, rfl, X.Lm, _, _, .ref a, rfl, rfl, SqL.of S4.hL, atI_nat (j := j) (by rw [List.getElem?_map, g1]; rfl), _, rfl, _, rfl, X.F, xs, _, .ref x, rfl, rfl, SqL.of eF, atI_nat ex, x, _, _, _, rfl, rfl, SqT.of hx, atI_nat (j := 0) rfl, sz (by simp), fun t1 ht1 => ⟨_, rfl, sz (by simp), fun t2 ht2 => ?_⟩⟩
          have s6 : Same H4 (upd H4 t1 (.tup [.str "module", .int n])) := fun c o e => by rw [upd_ne (ne_of_none e ht1)]; exact e
          have s7 : Same (upd H4 t1 (.tup [.str "module", .int n])) (upd (upd H4 t1 (.tup [.str "module", .int n])) t2 (.tup [.ref a, .ref t1, .int j])) := fun c o e => by rw [upd_ne (ne_of_none e ht2)]; exact e
          have s47 := s6.trans s7
          refine q _ t2 (.ref a) (.ref t1) (.int j) (Ch.trans c04 fun c o e _ => s47 c o e) ?_ upd_same (.mod hf g1 (s7 _ _ upd_same))
          obtain ⟨p0, p1, e, k⟩ := hP4
          exact ⟨p0, p1, s47 _ _ e, k⟩
        · rw [neV _ _ h2]
          exact ⟨_, rfl, _, rfl, sz (by simp), fun t ht => fin t ht⟩
end
end D21
set_option maxHeartbeats 4000000
/-! k21: does all hold -/
namespace D21
open PySem PySem.Spec PyProof.Rows L2 HM XW XR K11 XM XSo
abbrev sHo : Stmt := top 16
abbrev nHo : List Str := ["_law_modules", "_law_facts_here", "_law_names_here", "_law_models", "_law_module", "_law_fact", "_law_model", "_law_found", "_law_name_here"]
theorem scHo : FnScope nHo ["_law_modules", "_law_facts_here", "_law_names_here", "_law_models"] (defScope sHo) := ⟨rfl, rfl, rfl, by decide +kernel, rfl, by decide +kernel, by decide +kernel⟩
def spHo (C D : Addr) : Sp := fun vs H Q _ => ∃ (X : Pm) (b : Nat), X.C = C ∧ X.D = D ∧ vs = [.ref X.Lm, .ref X.F, .ref X.N, .ref X.M] ∧ Wh X b H ∧ b < 64 ∧ ∀ H', Same H H' → Q (.bl true) H'
section
variable {P : Program} {w : World} {K : PySem.W.Frag} {mg : Str → Option Value} {base : Heap} {f fO fN C D : Addr} {fd fdO fdN : FuncData}
theorem ok_ho (F : FnP K "_law_holds" sHo f fd) (T : ClT K mg C D)
    (GO : FnOk P w K mg base CX0 1 fO fdO ["self"] (spMO C)) (mO : Meth K C "bound" fO) (bO : Binds K fdO ["self"] [])
    (GN : FnG P w K mg base CX0 3 fN fdN ["_law_module", "_law_model", "_law_name_here", "_law_facts_here", "_law_models"] (spNR C D)) (FN : FnP K "_law_name_right" sNR fN fdN) (gN : mg "_law_name_right" = some (.ref fN))
    (mi : mg "isinstance" = none) (mz : mg "zip" = none) (ms : mg "sorted" = none) (ma : mg "all" = none) (mli : mg "list" = none) (kl : PySem.W.kitOne K (.type "list") (.type "list") = some true) : FnG P w K mg base CX0 4 f fd ["_law_modules", "_law_facts_here", "_law_names_here", "_law_models"] (spHo C D) := by
  have bN : Binds K fdN ["_law_module", "_law_model", "_law_name_here", "_law_facts_here", "_law_models"] [] := FN.bindsN fun _ _ _ _ _ _ us hl => match us, hl with | [_, _, _, _, _], _ => rfl
  refine okG F scHo (fun vs H Q E h => ?_) (fun cdv A outer s H vs Q E hcd hr hgd h => ?_)
  · obtain ⟨X, b, _, _, rfl, _⟩ := h
    rfl
  · obtain ⟨X, b, hC, hD, rfl, S, hb, q⟩ := h
    subst hC hD
    have hr1 : Room 1 (A.deeper (envOfC "_law_holds" (defScope sHo) s.heap.objs.size f cdv)) := hr.mono (by decide)
    refine ⟨_, PSs.nox (pss_cons (ps_for PassesOwn.never rfl (Z3.pi_zip3 (by rfl) mz (pa_cons (pv 0) (pa_cons (pv 1) (pa_cons (pv 3) pa_nil))))
        (pg_tup (by rfl) (pgs_cons (pg_name (i := 4) scHo.nd rfl (.inr rfl)) (pgs_cons (pg_name (i := 5) scHo.nd rfl (.inl rfl)) (pgs_cons (pg_name (i := 6) scHo.nd rfl (.inr rfl)) pgs_nil))))
        (pss_cons (ps_set (i := 7) scHo.nd rfl (.inl rfl) (pe_meth0 (pv 4) T.c1.cl mO GO hr1 bO .nil pass0))
        (pss_cons (ps_if (PW.pt (pw_or (pt_not (pt_val (pe_callB call_isi (by rfl) mi PyProof.Rows.boot_isinstance (pa_cons (pv 7) (pa_cons (pe_bltn (v := .ty "list") (by rfl) mli (by decide +kernel) rfl) pa_nil)))))
            (pw_or (pt_cmpR (op_neD hr.units) (pv 7) (pe_callB (call_sortedD rfl) (by rfl) ms (by decide +kernel) (pa_cons (pv 6) pa_nil)) (nomark _))
            (pw_or1 (pt_cmpR (op_neD hr.units) (pe_tup (pa_cons (pe_fld (pv 4) rfl) (pa_cons (pe_fld (pv 4) rfl) pa_nil))) (pv 5) (nomark _)))))) (pss_one (ps_ret pe_bl)) pss_nil)
        (pss_cons (ps_expr (pe_bm PySem.F.plainAttrs_list PySem.F.slot_list_append PySem.F.type_list_append mt_append (pv 7) (pa_cons pe_str pa_nil)))
        (pss_cons (ps_expr (pe_bm0 PySem.F.plainAttrs_list PySem.F.slot_list_reverse PySem.F.type_list_reverse mt_reverse (pv 7)))
        (pss_cons (ps_if (pt_not (pt_val (pe_callB (cr_all rfl) (by rfl) ma (by decide +kernel) (pa_cons (pe_lc (own := [("_law_name_here", 8)]) (g := gName 8) (tt := tYes) (te := tCall (spNR X.C X.D) [] E0 (tCons (tVar 4) (tCons (tVar 6) (tCons (tVar 8) (tCons (tVar 1) (tCons (tVar 3) tNil)))))) (by rfl) scHo.nd
            (pi_list (pv 2)) (blkOk_by (own := [("_law_name_here", 8)]) (N := nHo) (sc := defScope sHo) (by decide +kernel)) (fun _ _ _ _ _ => pg_name (i := 8) scHo.nd rfl (Or.inl rfl)) (fun _ _ _ _ _ => pts_nil)
            (fun _ _ _ _ _ => pe_callG GN hr hgd (by rfl) gN FN.kp bN .nil pass0 (pa_cons (pv 4) (pa_cons (pv 6) (pa_cons (pv 8) (pa_cons (pv 1) (pa_cons (pv 3) pa_nil))))))) pa_nil)))) (pss_one (ps_ret pe_bl)) pss_nil)
        (pss_one (ps_if (pt_cmpR (op_neD hr.units) (pe_meth0 (pv 4) T.c1.cl mO GO hr1 bO .nil pass0) (pe_callB (call_sortedD rfl) (by rfl) ms (by decide +kernel) (pa_cons (pv 6) pa_nil)) (nomark _)) (pss_one (ps_ret pe_bl)) pss_nil)))))))
      ) (pss_one (ps_ret pe_bl))), ?_⟩
    obtain ⟨xs, eF, rF⟩ := S.hF
    have hlx : xs.length = X.fs.length := by rw [rF.len, List.length_map]
    have hla : (X.as.map V.ref).length = X.fs.length := by rw [List.length_map, S.la]
    have hlq : (X.qs.map V.ref).length = X.fs.length := by rw [List.length_map, S.lq]
    refine ⟨_, rfl, _, rfl, _, rfl, X.Lm, X.F, X.M, _, xs, _, rfl, SqL.of S.hL, SqL.of eF, SqL.of S.hM, for_it (Z3.walk_zip3 (xs := X.as.map V.ref) (ys := xs) (zs := X.qs.map V.ref) (by omega) (by omega))
      (fun i σ H' => ∃ v4 v5 v6 v7 v8 : Option V, σ = [some (.ref X.Lm), some (.ref X.F), some (.ref X.N), some (.ref X.M), v4, v5, v6, v7, v8] ∧ Same H H') ⟨none, none, none, none, none, rfl, Same.refl H⟩
      (fun i σ H' _ ⟨_, _, _, _, _, _, k⟩ => ⟨SqL.of (k _ _ S.hL), SqL.of (k _ _ eF), SqL.of (k _ _ S.hM)⟩) ?_ ?_⟩
    · rintro i u σ H1 H2 hi ⟨v4, v5, v6, v7, v8, rfl, k1⟩ ⟨TT, x, y, v, rfl, hT, rfl, ex, ey, ev⟩
      have hif : i < X.fs.length := by omega
      obtain ⟨⟨n, p⟩, hf⟩ : ∃ np, X.fs[i]? = some np := ⟨_, List.getElem?_eq_getElem hif⟩
      obtain ⟨a, d, qa, kvs, mvs, ks, g1, g2, g3, hM, hq, kk1, kk2, kk3, kk4, kk5⟩ := S.row i n p hf
      obtain rfl : x = .ref a := by
        rw [List.getElem?_map, g1] at ex
        exact (Option.some.inj ex).symm
      obtain rfl : v = .ref qa := by
        rw [List.getElem?_map, g3] at ev
        exact (Option.some.inj ev).symm
      obtain ⟨v', hv', rv'⟩ := rF.get' i (d := fD (n, p)) (by rw [List.getElem?_map, hf]; rfl)
      rw [hv'] at ey
      cases ey
      obtain ⟨xa, rfl, hxa⟩ := rg_fact rv'
      obtain ⟨⟨dx, ha⟩, hd⟩ := hM
      have hl : ks.length < 64 := by omega
      have fo := S.okA hf
      have sp : PyData.strOk p = true := strOk_pt fo.2.2
      have sT : Same H (upd H1 TT (.tup [.ref a, .ref xa, .ref qa])) := fun c o e => by rw [upd_ne (ne_of_none (k1 _ _ e) hT)]; exact k1 _ _ e
      refine ⟨TT, _, rfl, SqT.of upd_same, rfl, _, _, rfl, _, _, rfl, _, _, rfl, rfl, ?_⟩
      obtain ⟨H2, e2⟩ : ∃ H2, upd H1 TT (.tup [.ref a, .ref xa, .ref qa]) = H2 := ⟨_, rfl⟩
      rw [e2] at sT ⊢
      refine ⟨_, rfl, a, dx, _, rfl, sT _ _ ha, mF_no _ _ _ (by decide +kernel) (by decide +kernel) (by decide +kernel), a, d, n, p, kvs, ks, rfl, ⟨⟨dx, sT _ _ ha⟩, sT _ _ hd⟩, kk1, hl, fun ys t3 pm so ht3 => ?_⟩
      have f3 : H t3 = none := sT.free ht3
      have s3 : Same H (upd H2 t3 (.lst (ys.map V.str))) := fun c o e => by rw [upd_ne (ne_of_none (sT _ _ e) ht3)]; exact sT _ _ e
      refine ⟨_, rfl, _, _, _, _, _, rfl, .ty "list", .base (.lst upd_same), kl, _, rfl, ?_⟩
      refine ⟨_, rfl, _, rfl, qa, mvs, ks, rfl, .inl (s3 _ _ hq), kk2, hl, fun zs t4 pz sz' ht4 => ?_⟩
      obtain rfl : ys = zs := sorted_same (pm.trans pz.symm) so sz'
      have oks : ∀ y ∈ ys, PyData.strOk y = true := fun y hy => strOk_nm (kk4 y (pm.mem_iff.mp hy))
      have hly : ys.length < 64 := by rw [pm.length_eq]; exact hl
      have nt34 : t3 ≠ t4 := ne_of_none (upd_same : (upd H2 t3 (.lst (ys.map V.str))) t3 = _) ht4
      have s4 : Same H (upd (upd H2 t3 (.lst (ys.map V.str))) t4 (.lst (ys.map V.str))) := fun c o e => by rw [upd_ne (ne_of_none (s3 _ _ e) ht4)]; exact s3 _ _ e
      have e34 : (upd (upd H2 t3 (.lst (ys.map V.str))) t4 (.lst (ys.map V.str))) t3 = some (.lst (ys.map V.str)) := by rw [upd_ne nt34]; exact upd_same
      refine ⟨.list (ys.map PyData.str), .list (ys.map PyData.str), .lst (SqL.of e34) (dp_strs' ys), .lst (SqL.of upd_same) (dp_strs' ys), shp_strs oks, shp_strs oks, ?_⟩
      rw [eqv_strs' oks]
      obtain ⟨H4, e4⟩ : ∃ H4, (upd (upd H2 t3 (.lst (ys.map V.str))) t4 (.lst (ys.map V.str))) = H4 := ⟨_, rfl⟩
      rw [e4] at s4 e34 ⊢
      refine ⟨_, rfl, ?_⟩
      refine ⟨_, rfl, a, X.C, dx, _, _, rfl, s4 _ _ ha, T.c1.cl, T.n1, mF_n _ _ _, _, rfl, a, X.C, dx, _, _, rfl, s4 _ _ ha, T.c1.cl, T.n2, mF_p _ _ _, sz (by simp), fun t5 ht5 => ?_⟩
      have s5 : Same H (upd H4 t5 (.tup [.int n, .str p])) := fun c o e => by rw [upd_ne (ne_of_none (s4 _ _ e) ht5)]; exact s4 _ _ e
      have e35 : (upd H4 t5 (.tup [.int n, .str p])) t3 = some (.lst (ys.map V.str)) := by rw [upd_ne (ne_of_none e34 ht5)]; exact e34
      refine ⟨_, rfl, .tuple [.int n, .str p], .tuple [.int n, .str p], .tup (SqT.of upd_same) (.cons (.int _) (.cons (.str _) .nil)), .tup (SqT.of (s5 _ _ hxa)) (.cons (.int _) (.cons (.str _) .nil)), shp_fact sp, shp_fact sp, ?_⟩
      rw [eqv_fact sp]
      obtain ⟨H5, e5⟩ : ∃ H5, (upd H4 t5 (.tup [.int n, .str p])) = H5 := ⟨_, rfl⟩
      rw [e5] at s5 e35 ⊢
      refine ⟨_, rfl, ?_⟩
      refine ⟨_, rfl, .inl ⟨rfl, _, SqL.of e35⟩, t3, _, _, rfl, rfl, e35, small1000 (by rw [List.length_map]; omega), ?_⟩
      refine ⟨_, rfl, .inl ⟨rfl, _, SqL.of upd_same⟩, t3, _, rfl, rfl, upd_same, ?_⟩
      have s7 : Same H (upd (upd H5 t3 (.lst (ys.map V.str ++ [V.str "zz"]))) t3 (.lst (ys.map V.str ++ [V.str "zz"]).reverse)) := fun c o e => by
        rw [upd_ne (ne_of_none e f3), upd_ne (ne_of_none e f3)]
        exact s5 _ _ e
      obtain ⟨H7, e7⟩ : ∃ H7, (upd (upd H5 t3 (.lst (ys.map V.str ++ [V.str "zz"]))) t3 (.lst (ys.map V.str ++ [V.str "zz"]).reverse)) = H7 := ⟨_, rfl⟩
      rw [e7] at s7 ⊢
      refine ⟨_, rfl, X.N, rfl, ⟨_, SqL.of (s7 _ _ S.hN)⟩, fun L hL => ?_⟩
      have fL : H L = none := s7.free hL
      refine lc_list (xs := X.ns.map V.str) (fun i H' => Same H H' ∧ H' L = some (.lst ((List.replicate i true).map V.bl))) ⟨fun c o e => by rw [upd_ne (ne_of_none e fL)]; exact s7 _ _ e, upd_same⟩ (fun i H' _ k => SqL.of (k.1 _ _ S.hN)) ?_ ?_
      · rintro m yv H8 hm ⟨k8, eL8⟩
        obtain ⟨z, hz, rfl⟩ : ∃ z, X.ns[m]? = some z ∧ yv = .str z := by
          rw [List.getElem?_map] at hm
          cases e : X.ns[m]? with
          | none =>
            rw [e] at hm
            cases hm
          | some z =>
            rw [e] at hm
            exact ⟨z, rfl, (Option.some.inj hm).symm⟩
        have S8 := S.same k8
        have hml : m < X.ns.length := (List.getElem?_eq_some_iff.mp hz).1
        refine ⟨rfl, _, rfl, _, rfl, _, rfl, _, rfl, _, rfl, a, d, qa, X.F, X.M, n, p, z, kvs, mvs, rfl, ⟨⟨dx, k8 _ _ ha⟩, k8 _ _ hd⟩, k8 _ _ hq, S8.nm hb ((kk5 z).kt (kt_same k8)), fun H9 s9 => ?_⟩
        refine ⟨_, s9 _ _ eL8, small1000 (by rw [List.length_map, List.length_replicate]; have := S.lN; omega), fun c o e => by rw [upd_ne (ne_of_none e fL)]; exact s9 _ _ (k8 _ _ e), ?_⟩
        rw [upd_same, List.replicate_succ', List.map_append]
        rfl
      · rintro H8 ⟨k8, eL8⟩
        have hall : (List.replicate (X.ns.map V.str).length true).all id = true := by simp
        refine ⟨L, _, rfl, SqL.of eL8, _, rfl, ?_⟩
        rw [hall]
        refine ⟨_, rfl, a, dx, _, rfl, k8 _ _ ha, mF_no _ _ _ (by decide +kernel) (by decide +kernel) (by decide +kernel), a, d, n, p, kvs, ks, rfl, ⟨⟨dx, k8 _ _ ha⟩, k8 _ _ hd⟩, kk1, hl, fun ys2 t8 pm2 so2 ht8 => ?_⟩
        have s8 : Same H (upd H8 t8 (.lst (ys2.map V.str))) := fun c o e => by rw [upd_ne (ne_of_none (k8 _ _ e) ht8)]; exact k8 _ _ e
        refine ⟨_, rfl, qa, mvs, ks, rfl, .inl (s8 _ _ hq), kk2, hl, fun zs2 t9 pz2 sz2 ht9 => ?_⟩
        obtain rfl : ys2 = zs2 := sorted_same (pm2.trans pz2.symm) so2 sz2
        have oks2 : ∀ y ∈ ys2, PyData.strOk y = true := fun y hy => strOk_nm (kk4 y (pm2.mem_iff.mp hy))
        have nt : t8 ≠ t9 := ne_of_none (upd_same : (upd H8 t8 (.lst (ys2.map V.str))) t8 = _) ht9
        refine ⟨.list (ys2.map PyData.str), .list (ys2.map PyData.str), .lst (SqL.of (by rw [upd_ne nt]; exact upd_same)) (dp_strs' ys2), .lst (SqL.of upd_same) (dp_strs' ys2), shp_strs oks2, shp_strs oks2, ?_⟩
        rw [eqv_strs' oks2]
        refine ⟨_, rfl, ?_⟩
        exact ⟨_, _, _, _, _, rfl, fun c o e => by rw [upd_ne (ne_of_none (s8 _ _ e) ht9)]; exact s8 _ _ e⟩
    · rintro σ H1 ⟨v4, v5, v6, v7, v8, rfl, k1⟩
      exact q H1 k1
end
end D21
set_option maxHeartbeats 4000000
/-! k21: the law -/
namespace D21
open PySem PySem.Spec PyProof.Rows L2 HM XW XR K11 XM XSo
abbrev sLaw : Stmt := top 17
abbrev nLaw : List Str := ["_law_script", "_law_pot_here", "_law_facts_here", "_law_names_here", "_law_modules", "_law_models", "_law_ahead", "_law_k", "_law_which", "_law_name_here", "_law_held", "_law_kept", "_law_number_here", "_law_path", "_law_fact"]
theorem scLaw : FnScope nLaw ["_law_script"] (defScope sLaw) := ⟨rfl, rfl, rfl, by decide +kernel, rfl, by decide +kernel, by decide +kernel⟩
def spLaw (K : PySem.W.Frag) : Sp := fun vs H Q _ => ∃ (a : Addr) (ns : List Int), vs = [.ref a] ∧ SqL K H a (ns.map V.int) ∧ ns.length ≤ 63 ∧ ∀ H', Q (.bl true) H'
section
variable {P : Program} {w : World} {K : PySem.W.Frag} {mg : Str → Option Value} {base : Heap} {f fP fD fF fN fH fT fI fB fO C D : Addr} {fd fdP fdD fdF fdN fdH fdT fdI fdB fdO : FuncData}
theorem ok_law (F : FnP K "law" sLaw f fd) (T : ClT K mg C D)
    (GP : FnOk P w K mg base CX0 2 fP fdP ["_law_script", "_law_k"] (spPot K)) (FP : FnP K "_law_pot" sPot fP fdP) (gP : mg "_law_pot" = some (.ref fP))
    (GD : FnOk P w K mg base CX0 1 fD fdD DP spDraw) (FD : FnP K "_law_draw" sDraw fD fdD) (gD : mg "_law_draw" = some (.ref fD))
    (GF : FnOk P w K mg base CX0 4 fF fdF ["_law_pot_here", "_law_room"] spFs) (FF : FnP K "_law_facts" sFs fF fdF) (gF : mg "_law_facts" = some (.ref fF))
    (GN : FnOk P w K mg base CX0 3 fN fdN ["_law_pot_here", "_law_room"] spNms) (FN : FnP K "_law_names" sNms fN fdN) (gN : mg "_law_names" = some (.ref fN))
    (GH : FnG P w K mg base CX0 4 fH fdH ["_law_modules", "_law_facts_here", "_law_names_here", "_law_models"] (spHo C D)) (FH : FnP K "_law_holds" sHo fH fdH) (gH : mg "_law_holds" = some (.ref fH))
    (GT : FnOk P w K mg base CX0 3 fT fdT ["_law_pot_here", "_law_modules", "_law_facts_here", "_law_names_here", "_law_ahead"] (spTh C D)) (FT : FnP K "_law_thing" sTh fT fdT) (gT : mg "_law_thing" = some (.ref fT))
    (MI : Mk K C fI) (GI : FnOk P w K mg base CX0 1 fI fdI ["self", "number", "path"] (spMI C)) (bI : Binds K fdI ["self", "number", "path"] [])
    (GB : FnOk P w K mg base CX0 1 fB fdB ["self", "name", "thing"] (spMB C)) (mB : Meth K C "bind" fB) (bB : Binds K fdB ["self", "name", "thing"] [])
    (GO : FnOk P w K mg base CX0 1 fO fdO ["self"] (spMO C)) (mO : Meth K C "bound" fO) (bO : Binds K fdO ["self"] [])
    (mi : mg "int" = none) (mr : mg "range" = none) (mx : mg "max" = none) (mn : mg "min" = none) (ml : mg "len" = none) (mli : mg "list" = none) : FnG P w K mg base CX0 5 f fd ["_law_script"] (spLaw K) := by
  have bP : Binds K fdP ["_law_script", "_law_k"] [] := FP.bindsN fun _ _ _ _ _ _ us hl => match us, hl with | [_, _], _ => rfl
  have bD : Binds K fdD DP [] := FD.bindsN fun _ _ _ _ _ _ us hl => match us, hl with | [_, _], _ => rfl
  have bF : Binds K fdF ["_law_pot_here", "_law_room"] [] := FF.bindsN fun _ _ _ _ _ _ us hl => match us, hl with | [_, _], _ => rfl
  have bN : Binds K fdN ["_law_pot_here", "_law_room"] [] := FN.bindsN fun _ _ _ _ _ _ us hl => match us, hl with | [_, _], _ => rfl
  have bH : Binds K fdH ["_law_modules", "_law_facts_here", "_law_names_here", "_law_models"] [] := FH.bindsN fun _ _ _ _ _ _ us hl => match us, hl with | [_, _, _, _], _ => rfl
  have bT : Binds K fdT ["_law_pot_here", "_law_modules", "_law_facts_here", "_law_names_here", "_law_ahead"] [] := FT.bindsN fun _ _ _ _ _ _ us hl => match us, hl with | [_, _, _, _, _], _ => rfl
  refine okG F scLaw (fun vs H Q E h => ?_) (fun cdv A outer s H vs Q E hcd hr hgd h => ?_)
  · obtain ⟨a, ns, rfl, _⟩ := h
    rfl
  · obtain ⟨a, sc, rfl, hS, hlS, q⟩ := h
    have hu := hu_of hr
    have hr1 : Room 1 (A.deeper (envOfC "law" (defScope sLaw) s.heap.objs.size f cdv)) := hr.mono (by decide)
    have hr2 : Room 2 (A.deeper (envOfC "law" (defScope sLaw) s.heap.objs.size f cdv)) := hr.mono (by decide)
    have hr3 : Room 3 (A.deeper (envOfC "law" (defScope sLaw) s.heap.objs.size f cdv)) := hr.mono (by decide)
    refine ⟨_, PSs.nox (pss_cons (ps_set (i := 1) scLaw.nd rfl (.inl rfl) (pe_call GP hr2 (by rfl) gP FP.kp bP .nil pass0 (pa_cons (pv 0) (pa_cons pe_int pa_nil))))
      (pss_cons (ps_set (i := 2) scLaw.nd rfl (.inl rfl) (pe_call GF hr (by rfl) gF FF.kp bF .nil pass0 (pa_cons (pv 1) (pa_cons (pe_op op_add pe_int (pe_call GD hr1 (by rfl) gD FD.kp bD .nil pass0 (pa_cons (pv 1) (pa_cons pe_int pa_nil)))) pa_nil))))
      (pss_cons (ps_set (i := 3) scLaw.nd rfl (.inl rfl) (pe_call GN hr3 (by rfl) gN FN.kp bN .nil pass0 (pa_cons (pv 1) (pa_cons (pe_ix ix_list (pe_lst (pa_cons (pe_op op_add pe_int (pe_call GD hr1 (by rfl) gD FD.kp bD .nil pass0 (pa_cons (pv 1) (pa_cons pe_int pa_nil)))) (pa_cons pe_int pa_nil)))
          (pe_callTy call_int1 (by rfl) mi (by decide +kernel) (pa_cons (pe_cmpR op_eq (pe_call GD hr1 (by rfl) gD FD.kp bD .nil pass0 (pa_cons (pv 1) (pa_cons pe_int pa_nil))) pe_int (nomark _)) pa_nil)) (fun _ _ => rfl)) pa_nil))))
      (pss_cons (ps_setLc (i := 4) (own := [("_law_number_here", 12), ("_law_path", 13)]) (g := gTup K 2 (gCons (gName 12) (gCons (gName 13) gNil))) (tt := tYes) (te := tMake C (spMI C) [] E0 (tCons (tVar 12) (tCons (tVar 13) tNil))) (by rfl) scLaw.nd rfl rfl (sw_true rfl rfl rfl (by decide +kernel)) (pi_list (pv 2))
          (blkOk_by (own := [("_law_number_here", 12), ("_law_path", 13)]) (N := nLaw) (sc := defScope sLaw) (by decide +kernel)) (fun _ _ _ _ _ => pg_tup (by rfl) (pgs_cons (pg_name (i := 12) scLaw.nd rfl (.inl rfl)) (pgs_cons (pg_name (i := 13) scLaw.nd rfl (.inl rfl)) pgs_nil))) (fun _ _ _ _ _ => pts_nil)
          (fun _ _ _ _ _ => pe_make MI GI hr2 (by rfl) T.mC bI .nil pass0 (pa_cons (pv 12) (pa_cons (pv 13) pa_nil))))
      (pss_cons (ps_setLc (i := 5) (own := [("_law_fact", 14)]) (g := gName 14) (tt := tYes) (te := tDNewK) (by rfl) scLaw.nd rfl rfl (sw_true rfl rfl rfl (by decide +kernel)) (pi_list (pv 2))
          (blkOk_by (own := [("_law_fact", 14)]) (N := nLaw) (sc := defScope sLaw) (by decide +kernel)) (fun _ _ _ _ _ => pg_name (i := 14) scLaw.nd rfl (.inl rfl)) (fun _ _ _ _ _ => pts_nil) (fun _ _ _ _ _ => pe_dnewK))
      (pss_cons (ps_if (pt_not (pt_val (pe_callG GH hr hgd (by rfl) gH FH.kp bH .nil pass0 (pa_cons (pv 4) (pa_cons (pv 2) (pa_cons (pv 3) (pa_cons (pv 5) pa_nil))))))) (pss_one (ps_ret pe_bl)) pss_nil)
      (pss_cons (ps_set (i := 6) scLaw.nd rfl (.inl rfl) pe_non)
      (pss_cons (ps_for PassesOwn.never rfl (pi_range2 (by rfl) mr (pa_cons pe_int (pa_cons (pe_callB (call_max2 rfl) (by rfl) mx (by decide +kernel) (pa_cons pe_int (pa_cons (pe_callB (call_min2 rfl) (by rfl) mn (by decide +kernel)
            (pa_cons (pe_callB call_len_seq (by rfl) ml PySem.boot_len (pa_cons (pv 0) pa_nil)) (pa_cons pe_int pa_nil))) pa_nil))) pa_nil))) (pg_name (i := 7) scLaw.nd rfl (.inl rfl))
          (pss_cons (ps_set (i := 1) scLaw.nd rfl (.inl rfl) (pe_call GP hr2 (by rfl) gP FP.kp bP .nil pass0 (pa_cons (pv 0) (pa_cons (pv 7) pa_nil))))
          (pss_cons (ps_set (i := 8) scLaw.nd rfl (.inl rfl) (pe_call GD hr1 (by rfl) gD FD.kp bD .nil pass0 (pa_cons (pv 1) (pa_cons (pe_callB call_len_seq (by rfl) ml PySem.boot_len (pa_cons (pv 2) pa_nil)) pa_nil))))
          (pss_cons (ps_set (i := 9) scLaw.nd rfl (.inl rfl) (pe_ix ix_list (pv 3) (pe_call GD hr1 (by rfl) gD FD.kp bD .nil pass0 (pa_cons (pv 1) (pa_cons (pe_callB call_len_seq (by rfl) ml PySem.boot_len (pa_cons (pv 3) pa_nil)) pa_nil))) (fun _ _ => rfl)))
          (pss_cons (ps_set (i := 6) scLaw.nd rfl (.inl rfl) (pe_call GT hr3 (by rfl) gT FT.kp bT .nil pass0 (pa_cons (pv 1) (pa_cons (pv 4) (pa_cons (pv 2) (pa_cons (pv 3) (pa_cons (pv 6) pa_nil)))))))
          (pss_cons (ps_set (i := 10) scLaw.nd rfl (.inl rfl) (pe_meth0 (pe_ix ix_list (pv 4) (pv 8) (fun _ _ => rfl)) T.c1.cl mO GO hr1 bO .nil pass0))
          (pss_cons (ps_set (i := 11) scLaw.nd rfl (.inl rfl) (pe_callTy call_list_of (by rfl) mli (by decide +kernel) (pa_cons (pv 10) pa_nil)))
          (pss_cons (ps_expr (pe_meth (pe_ix ix_list (pv 4) (pv 8) (fun _ _ => rfl)) T.c1.cl mB GB hr1 bB .nil pass0 (pa_cons (pv 9) (pa_cons (pe_ix ix_tup (pv 6) pe_int (fun _ _ => rfl)) pa_nil))))
          (pss_cons (ps_dput hu (pe_ix ix_list (pv 5) (pv 8) (fun _ _ => rfl)) (pv 9) (pe_slice sl_tup (pv 6) (po_some pe_int) po_none) rfl)
          (pss_one (ps_if (PW.pt (pw_or (pt_cmpR (op_neD hr.units) (pv 10) (pv 11) (nomark _)) (pw_or1 (pt_not (pt_val (pe_callG GH hr hgd (by rfl) gH FH.kp bH .nil pass0 (pa_cons (pv 4) (pa_cons (pv 2) (pa_cons (pv 3) (pa_cons (pv 5) pa_nil)))))))))) (pss_one (ps_ret pe_bl)) pss_nil)))))))))))
      (pss_one (ps_ret pe_bl)))))))))), ?_⟩
    refine ⟨_, rfl, a, sc, 0, rfl, by decide, hS, fun l0 p0 p1 hl0 pk0 => ?_⟩
    have hP1 : PotAt (upd H l0 (.lst [.int p0, .int p1])) l0 := ⟨p0, p1, upd_same, pk0⟩
    have s01 : Same H (upd H l0 (.lst [.int p0, .int p1])) := fun c o e => by rw [upd_ne (ne_of_none e hl0)]; exact e
    have ofCh : ∀ {H' : Hp}, Ch l0 (upd H l0 (.lst [.int p0, .int p1])) H' → Same H H' := fun c b o e => c b o (s01 b o e) (ne_of_none e hl0)
    refine ⟨_, rfl, _, rfl, l0, _, pa hP1, pb hP1, rfl, by decide, by decide, ph hP1, pk hP1, fun H2 d2 c2 hP2 d20 d21 => ?_⟩
    obtain ⟨k2, rfl⟩ : ∃ k : Nat, d2 = (k : Int) := ⟨d2.toNat, by omega⟩
    refine ⟨_, _, rfl, rfl, l0, 2 + k2, ?_, hP2, by omega, fun H3 tF xs fs c3 hP3 fF eF rF okF lenF => ?_⟩
    · show [V.ref l0, V.int (2 + (k2 : Int))] = [V.ref l0, V.int ((2 + k2 : Nat) : Int)]
      rw [Int.natCast_add]
      rfl
    have ntF : tF ≠ l0 := fun z => by rw [z, ph hP2] at fF; cases fF
    refine ⟨_, rfl, _, rfl, l0, _, pa hP3, pb hP3, rfl, by decide, by decide, ph hP3, pk hP3, fun H4 d4 c4 hP4 d40 d41 => ?_⟩
    refine ⟨_, _, rfl, rfl, sz (by simp), fun L4 hL4 => ?_⟩
    have nL4 : L4 ≠ l0 := hP4.ne hL4
    have hP4' : PotAt (upd H4 L4 (.lst [.int (1 + d4), .int 40])) l0 := hP4.new nL4
    refine ⟨_, rfl, l0, _, pa hP4', pb hP4', rfl, by decide, by decide, ph hP4', pk hP4', fun H5 d5 c5 hP5 d50 d51 => ?_⟩
    obtain ⟨m, hm1, hm2, hm3⟩ : ∃ m : Nat, atI [V.int (1 + d4), V.int 40] (if decide (V.int d5 = V.int 0) = true then 1 else 0) = some (.int (m : Int)) ∧ 1 ≤ m ∧ m ≤ 45 := by
      by_cases h5 : d5 = 0
      · refine ⟨40, ?_, by decide, by decide⟩
        rw [h5, show decide (V.int 0 = V.int 0) = true from rfl, if_pos rfl]
        exact atI_nat (j := 1) rfl
      · refine ⟨(1 + d4).toNat, ?_, by omega, by omega⟩
        rw [decide_eq_false (fun e => h5 (by cases e; rfl)), if_neg (by decide), show (((1 + d4).toNat : Nat) : Int) = 1 + d4 by omega]
        exact atI_nat (j := 0) rfl
    refine ⟨rfl, .inr ⟨_, rfl, L4, _, _, .int m, rfl, rfl, SqL.of (c5 L4 _ upd_same nL4), hm1, l0, m, rfl, hP5, hm3, fun H6 tN ns c6 hP6 fN eN hnd hok hlN => ?_⟩⟩
    have c36 : Ch l0 H3 H6 := Ch.trans (Ch.trans (Ch.over c4 (Ch.free c4 hL4 nL4)) c5) c6
    have s06 : Same H H6 := ofCh (Ch.trans (Ch.trans c2 c3) c36)
    have eF6 := c36 tF _ eF ntF
    have rF6 : RgAll AllA H6 xs (fsD fs) := rF.kq (Kq.ofCh c36 trivial hP3)
    have hlx : xs.length = fs.length := by rw [rF.len, List.length_map]
    -- the modules
    refine ⟨_, rfl, tF, rfl, ⟨_, SqL.of eF6⟩, fun L7 hL7 => ?_⟩
    refine lc_list (xs := xs) (fun i H' => ∃ as ds : List Addr, as.length = i ∧ ds.length = i ∧ Same H6 H' ∧ H' L7 = some (.lst (as.map V.ref)) ∧ ds.Nodup ∧ (∀ d ∈ ds, H6 d = none ∧ H' d = some (.dK [])) ∧
        ∀ j n p, j < i → fs[j]? = some (n, p) → ∃ a d, as[j]? = some a ∧ ds[j]? = some d ∧ MdAt C H' a n p d [])
      ⟨[], [], rfl, rfl, fun c o e => by rw [upd_ne (ne_of_none e hL7)]; exact e, upd_same, List.nodup_nil, fun d hd => (by cases hd), fun j n p h => absurd h (Nat.not_lt_zero _)⟩
      (fun i H' _ ⟨_, _, _, _, k, _⟩ => SqL.of (k _ _ eF6)) ?_ ?_
    · rintro i x H7 hx ⟨as, ds, la, ld, k7, eL, nd, hds, rows⟩
      obtain ⟨dd, hdd, rg⟩ := rF6.get i hx
      obtain ⟨⟨n, p⟩, hf, rfl⟩ : ∃ np, fs[i]? = some np ∧ dd = D21.fD np := by
        rw [List.getElem?_map] at hdd
        cases e : fs[i]? with
        | none =>
          rw [e] at hdd
          cases hdd
        | some np =>
          rw [e] at hdd
          exact ⟨np, rfl, (Option.some.inj hdd).symm⟩
      obtain ⟨xa, rfl, hxa⟩ := rg_fact rg
      have hil : i < xs.length := (List.getElem?_eq_some_iff.mp hx).1
      refine ⟨xa, _, rfl, SqT.of (k7 _ _ hxa), rfl, _, _, rfl, _, _, rfl, rfl, rfl, _, rfl, _, rfl, fun y dy hy hdy hne => ⟨y, dy, n, p, rfl, upd_same, fun d H8 hd0 ey ed kp => ⟨rfl, ?_⟩⟩⟩
      have dny : d ≠ y := fun z => by rw [z, upd_same] at hd0; cases hd0
      have dnd : d ≠ dy := fun z => by rw [z, upd_ne hne, upd_same] at hd0; cases hd0
      have hd7 : H7 d = none := by rw [upd_ne dny, upd_ne dnd] at hd0; exact hd0
      have k78 : Same H7 H8 := fun c o e => kp c o (by rw [upd_ne (ne_of_none e hy), upd_ne (ne_of_none e hdy)]; exact e) (ne_of_none e hy)
      have eL8 := k78 _ _ eL
      have k89 : ∀ c o, H8 c = some o → (∀ l, o ≠ .lst l) → (upd H8 L7 (.lst (as.map V.ref ++ [.ref y]))) c = some o := fun c o e h => by
        rw [upd_ne (fun z => by rw [z, eL8] at e; cases e; exact h _ rfl)]
        exact e
      refine ⟨_, eL8, small1000 (by rw [List.length_map]; omega), as ++ [y], ds ++ [d], by rw [List.length_append, la]; rfl, by rw [List.length_append, ld]; rfl, fun c o e => ?_, ?_, ?_, fun b hb => ?_, fun j m z hj hz => ?_⟩
      · rw [upd_ne (ne_of_none e hL7)]
        exact k78 _ _ (k7 _ _ e)
      · rw [upd_same, List.map_append]
        rfl
      · rw [List.nodup_append]
        refine ⟨nd, List.nodup_cons.mpr ⟨by simp, List.nodup_nil⟩, fun b hb c hc => ?_⟩
        rw [List.mem_singleton.mp hc]
        exact ne_of_none (hds b hb).2 hd7
      · rcases List.mem_append.mp hb with z | z
        · exact ⟨(hds b z).1, k89 _ _ (k78 _ _ (hds b z).2) fun l e => by cases e⟩
        · rw [List.mem_singleton.mp z]
          exact ⟨k7.free hd7, k89 _ _ ed fun l e => by cases e⟩
      · by_cases hji : j = i
        · subst hji
          rw [hf] at hz
          cases hz
          refine ⟨y, d, by rw [List.getElem?_append_right (by omega), la]; simp, by rw [List.getElem?_append_right (by omega), ld]; simp, ⟨⟨dy, k89 _ _ ey fun l e => by cases e⟩, k89 _ _ ed fun l e => by cases e⟩⟩
        · obtain ⟨a', d', g1, g2, ⟨⟨dx', hm⟩, hd'⟩⟩ := rows j m z (by omega) hz
          refine ⟨a', d', by rw [List.getElem?_append_left (by omega)]; exact g1, by rw [List.getElem?_append_left (by omega)]; exact g2, ⟨⟨dx', k89 _ _ (k78 _ _ hm) fun l e => by cases e⟩, k89 _ _ (k78 _ _ hd') fun l e => by cases e⟩⟩
    rintro H7 ⟨as, ds, la, ld, k7, eL7, ndd, hds, rows⟩
    -- the law's own dicts
    refine ⟨_, rfl, tF, rfl, ⟨_, SqL.of (k7 _ _ eF6)⟩, fun L8 hL8 => ?_⟩
    refine lc_list (xs := xs) (fun i H' => ∃ qs : List Addr, qs.length = i ∧ Same H7 H' ∧ H' L8 = some (.lst (qs.map V.ref)) ∧ qs.Nodup ∧ ∀ b ∈ qs, H7 b = none ∧ H' b = some (.dK []))
      ⟨[], rfl, fun c o e => by rw [upd_ne (ne_of_none e hL8)]; exact e, upd_same, List.nodup_nil, fun d hd => (by cases hd)⟩
      (fun i H' _ ⟨_, _, k, _⟩ => SqL.of (k _ _ (k7 _ _ eF6))) ?_ ?_
    · rintro i x H8 hx ⟨qs, lq, k8, eL, nq, hqs⟩
      have hil : i < xs.length := (List.getElem?_eq_some_iff.mp hx).1
      refine ⟨rfl, fun b hb => ?_⟩
      have nb : L8 ≠ b := ne_of_none eL hb
      refine ⟨_, by rw [upd_ne nb]; exact eL, small1000 (by rw [List.length_map]; omega), qs ++ [b], by rw [List.length_append, lq]; rfl, fun c o e => ?_, ?_, ?_, fun c hc => ?_⟩
      · rw [upd_ne (ne_of_none e hL8), upd_ne (ne_of_none (k8 _ _ e) hb)]
        exact k8 _ _ e
      · rw [upd_same, List.map_append]
        rfl
      · rw [List.nodup_append]
        refine ⟨nq, List.nodup_cons.mpr ⟨by simp, List.nodup_nil⟩, fun c hc e he => ?_⟩
        rw [List.mem_singleton.mp he]
        exact ne_of_none (hqs c hc).2 hb
      · rcases List.mem_append.mp hc with z | z
        · refine ⟨(hqs c z).1, ?_⟩
          rw [upd_ne (fun e => by have := (hqs c z).2; rw [e, eL] at this; cases this), upd_ne (ne_of_none (hqs c z).2 hb)]
          exact (hqs c z).2
        · rw [List.mem_singleton.mp z]
          refine ⟨k8.free hb, ?_⟩
          rw [upd_ne nb.symm, upd_same]
    rintro H8 ⟨qs, lq, k8, eL8, nq, hqs⟩
    have S0 : Wh (Pm.mk C D tF L8 L7 tN fs ns as ds qs) 0 H8 := by
      refine ⟨⟨xs, k8 _ _ (k7 _ _ eF6), rF6.kq fun c o e _ => k8 _ _ (k7 _ _ e)⟩, okF, fun z => ?_, by rw [lenF]; omega, k8 _ _ (k7 _ _ eN), hok, fun z => ?_, by rw [hlN]; exact hm3, k8 _ _ eL7, eL8, by rw [la, hlx], by rw [ld, hlx], by rw [lq, hlx], ?_, fun j n p hf => ?_⟩
      · have : fs = [] := z
        rw [this] at lenF
        simp at lenF
        omega
      · have : ns = [] := z
        rw [this] at hlN
        simp at hlN
        omega
      · rw [List.nodup_append]
        exact ⟨ndd, nq, fun b hb c hc => ne_of_none (hds b hb).2 (hqs c hc).1⟩
      · have hj : j < xs.length := by rw [hlx]; exact (List.getElem?_eq_some_iff.mp hf).1
        obtain ⟨a', d', g1, g2, ⟨⟨dx', hm⟩, hd'⟩⟩ := rows j n p hj hf
        have hjq : j < qs.length := by rw [lq]; exact hj
        refine ⟨a', d', qs[j], [], [], [], g1, g2, List.getElem?_eq_getElem hjq, ⟨⟨dx', k8 _ _ hm⟩, k8 _ _ hd'⟩, (hqs _ (List.getElem_mem hjq)).2, rfl, rfl, Nat.le_refl _, fun k hk => (by cases hk), fun z => .inl ⟨rfl, rfl⟩⟩
    have s08 : Same H H8 := fun c o e => k8 _ _ (k7 _ _ (s06 _ _ e))
    have f0d : ∀ c ∈ ds, H c = none := fun c hc => s06.free (hds c hc).1
    have f0q : ∀ c ∈ qs, H c = none := fun c hc => (s06.trans k7).free (hqs c hc).1
    clear hds hqs rows
    refine ⟨_, rfl, _, rfl, _, rfl, _, rfl, (Pm.mk C D tF L8 L7 tN fs ns as ds qs), 0, rfl, rfl, rfl, S0, by decide, fun H9 s9 => ⟨_, rfl, ?_⟩⟩
    have hS9 : SqL K H9 a (sc.map V.int) := (s08.trans s9).seq hS
    have hbl : ((sc.map V.int).length : Int) ≤ 63 := by
      rw [List.length_map]
      omega
    refine ⟨_, rfl, a, _, rfl, .inl hS9, _, _, rfl, _, _, rfl, _, _, rfl, ?_, for_it walk_range (fun i σ H' => ∃ (v1 v7 v8 v9 v10 v11 : Option V) (ah : V), σ = [some (.ref a), v1, some (.ref tF), some (.ref tN), some (.ref L7), some (.ref L8), some ah, v7, v8, v9, v10, v11, none, none, none] ∧ Same H H' ∧ Wh (Pm.mk C D tF L8 L7 tN fs ns as ds qs) i H' ∧ AhR (Pm.mk C D tF L8 L7 tN fs ns as ds qs) H' ah)
      ⟨_, _, _, _, _, _, _, rfl, s08.trans s9, S0.same s9, .inl rfl⟩ (fun _ _ _ _ _ => trivial) ?_ ?_⟩
    · refine ⟨by decide, by decide, ?_, ?_⟩ <;> split <;> split <;> omega
    · rintro i x σ H10' H10 hi ⟨v1, v7, v8, v9, v10, v11, ah, rfl, s10, S10, hA⟩ ⟨rfl, rfl⟩
      have hi60 : i < 60 := by
        split at hi <;> split at hi <;> omega
      refine ⟨_, rfl, _, rfl, a, sc, 1 + i, ?_, by omega, s10.seq hS, fun l q0 q1 hl pkl => ?_⟩
      · show [V.ref a, V.int (1 + (i : Int))] = [V.ref a, V.int ((1 + i : Nat) : Int)]
        rw [Int.natCast_add]
        rfl
      have hP : PotAt (upd H10 l (.lst [.int q0, .int q1])) l := ⟨q0, q1, upd_same, pkl⟩
      have sN : Same H10 (upd H10 l (.lst [.int q0, .int q1])) := fun c o e => by rw [upd_ne (ne_of_none e hl)]; exact e
      have ofC : ∀ {H' : Hp}, Ch l (upd H10 l (.lst [.int q0, .int q1])) H' → Same H10 H' := fun c b o e => c b o (sN b o e) (ne_of_none e hl)
      obtain ⟨xs1, eF1, rF1⟩ := S10.hF
      have hlx1 : xs1.length = fs.length := by rw [rF1.len, List.length_map]
      have h4 : fs.length ≤ 4 := S10.l4
      have h0 : 0 < fs.length := by omega
      have hN45 : ns.length ≤ 45 := by omega
      have lg : ∀ k : Nat, 0 < k → k ≤ 45 → (k : Int).natAbs.log2 < 9000 := fun k hk hk2 => by
        rw [Int.natAbs_natCast]
        have h1 : k < 2 ^ 6 := by omega
        have := (Nat.log2_lt (by omega)).mpr h1
        omega
      refine ⟨_, rfl, _, rfl, tF, xs1, rfl, .inl (SqL.of (sN _ _ eF1)), l, _, pa hP, pb hP, rfl, by omega, lg _ (by omega) (by omega), ph hP, pk hP, fun H11 jj c11 hP11 j0 j1 => ?_⟩
      obtain ⟨j, rfl⟩ : ∃ j : Nat, jj = (j : Int) := ⟨jj.toNat, by omega⟩
      have hjf : j < fs.length := by omega
      have s11 := ofC c11
      have eN11 : H11 tN = some (.lst (ns.map V.str)) := s11 _ _ S10.hN
      refine ⟨_, rfl, _, rfl, _, rfl, tN, _, rfl, .inl (SqL.of eN11), l, _, pa hP11, pb hP11, rfl, by rw [List.length_map]; omega, by rw [List.length_map]; exact lg _ (by omega) (by omega), ph hP11, pk hP11, fun H12 zz c12 hP12 z0 z1 => ?_⟩
      obtain ⟨iz, rfl⟩ : ∃ j : Nat, zz = (j : Int) := ⟨zz.toNat, by omega⟩
      have hiz : iz < ns.length := by rw [List.length_map] at z1; omega
      have s12 := ofC (Ch.trans c11 c12)
      have eN12 : H12 tN = some (.lst (ns.map V.str)) := s12 _ _ S10.hN
      obtain ⟨z, ez⟩ : ∃ z, ns[iz] = z := ⟨_, rfl⟩
      have hz : nmOk z := ez ▸ hok _ (List.getElem_mem hiz)
      refine ⟨tN, _, _, .str z, rfl, rfl, SqL.of eN12, atI_nat (j := iz) (by rw [List.getElem?_map, List.getElem?_eq_getElem hiz, ez]; rfl), ?_⟩
      refine ⟨_, rfl, _, rfl, _, rfl, _, rfl, _, rfl, (Pm.mk C D tF L8 L7 tN fs ns as ds qs), i, l, ah, rfl, rfl, rfl, hP12, S10.same s12, hA.kt (kt_same s12), fun H13 t v what at' c13 hP13 et hth => ?_⟩
      have s13 : Same H10 H13 := ofC (Ch.trans (Ch.trans c11 c12) c13)
      have S13 := S10.same s13
      obtain ⟨⟨n, p⟩, hf⟩ : ∃ np, fs[j]? = some np := ⟨_, List.getElem?_eq_getElem hjf⟩
      obtain ⟨a1, d, qa, kvs, mvs, ks, g1, g2, g3, hM, hq, kk1, kk2, kk3, kk4, kk5⟩ := S13.row j n p hf
      obtain ⟨⟨dx, ha⟩, hd⟩ := id hM
      have hl64 : ks.length < 64 := by omega
      have lkv : kvs.length < 64 := by
        have := congrArg List.length kk1
        rw [List.length_map, List.length_map] at this
        omega
      have lmv : mvs.length < 64 := by
        have := congrArg List.length kk2
        rw [List.length_map, List.length_map] at this
        omega
      have eL13 : H13 L7 = some (.lst (as.map V.ref)) := S13.hL
      have eM13 : H13 L8 = some (.lst (qs.map V.ref)) := S13.hM
      have atA : atI (as.map V.ref) (j : Int) = some (.ref a1) := atI_nat (j := j) (by rw [List.getElem?_map]; exact congrArg (Option.map V.ref) g1)
      have atQ : atI (qs.map V.ref) (j : Int) = some (.ref qa) := atI_nat (j := j) (by rw [List.getElem?_map]; exact congrArg (Option.map V.ref) g3)
      refine ⟨_, rfl, _, rfl, L7, _, _, .ref a1, rfl, rfl, SqL.of eL13, atA, a1, dx, _, rfl, ha, mF_no _ _ _ (by decide +kernel) (by decide +kernel) (by decide +kernel), a1, d, n, p, kvs, ks, rfl, hM, kk1, hl64, fun ys t5 pm so ht5 => ?_⟩
      refine ⟨_, rfl, t5, _, rfl, .inl (SqL.of upd_same), fun t6 ht6 => ?_⟩
      have oks : ∀ y ∈ ys, PyData.strOk y = true := fun y hy => strOk_nm (kk4 y (pm.mem_iff.mp hy))
      have n56 : t5 ≠ t6 := ne_of_none (upd_same : (upd H13 t5 (.lst (ys.map V.str))) t5 = _) ht6
      have s15 : Same H13 (upd (upd H13 t5 (.lst (ys.map V.str))) t6 (.lst (ys.map V.str))) := fun c o e => by
        have e1 : (upd H13 t5 (.lst (ys.map V.str))) c = some o := by rw [upd_ne (ne_of_none e ht5)]; exact e
        rw [upd_ne (ne_of_none e1 ht6)]
        exact e1
      have e5 : (upd (upd H13 t5 (.lst (ys.map V.str))) t6 (.lst (ys.map V.str))) t5 = some (.lst (ys.map V.str)) := by rw [upd_ne n56]; exact upd_same
      have e6 : (upd (upd H13 t5 (.lst (ys.map V.str))) t6 (.lst (ys.map V.str))) t6 = some (.lst (ys.map V.str)) := upd_same
      obtain ⟨H15, e15⟩ : ∃ H15, (upd (upd H13 t5 (.lst (ys.map V.str))) t6 (.lst (ys.map V.str))) = H15 := ⟨_, rfl⟩
      rw [e15] at s15 e5 e6 ⊢
      have hd15 := s15 _ _ hd
      refine ⟨_, rfl, _, rfl, L7, _, _, .ref a1, rfl, rfl, SqL.of (s15 _ _ eL13), atA, a1, dx, _, rfl, s15 _ _ ha, mF_no _ _ _ (by decide +kernel) (by decide +kernel) (by decide +kernel), _, rfl, _, rfl, t, _, _, v, rfl, rfl, SqT.of (s15 _ _ et), atI_nat (j := 0) rfl,
        a1, d, n, p, z, v, kvs, rfl, ⟨⟨dx, s15 _ _ ha⟩, hd15⟩, by omega, ?_⟩
      have ndq : d ≠ qa := (List.nodup_append.mp S10.nd).2.2 d (List.mem_of_getElem? g2) qa (List.mem_of_getElem? g3)
      have k16 : ∀ c o, H13 c = some o → c ≠ d → (upd H15 d (.dK (putK kvs (Sum.inr z : Key) v))) c = some o := fun c o e h => by
        rw [upd_ne h]
        exact s15 _ _ e
      have x16 : ∀ {c : Addr} {o : HO}, H15 c = some o → (∀ m, o ≠ .dK m) → (upd H15 d (.dK (putK kvs (Sum.inr z : Key) v))) c = some o := fun {c o} e h => by
        rw [upd_ne (fun y => by rw [y, hd15] at e; cases e; exact h _ rfl)]
        exact e
      have d16 : (upd H15 d (.dK (putK kvs (Sum.inr z : Key) v))) d = some (.dK (putK kvs (Sum.inr z : Key) v)) := upd_same
      have q16 := k16 _ _ hq ndq.symm
      obtain ⟨H16, e16⟩ : ∃ H16, (upd H15 d (.dK (putK kvs (Sum.inr z : Key) v))) = H16 := ⟨_, rfl⟩
      rw [e16] at k16 x16 d16 q16 ⊢
      have et16 : H16 t = some (.tup [v, what, at']) := k16 _ _ et (fun y => by rw [y, hd] at et; cases et)
      refine ⟨_, rfl, _, rfl, t, _, rfl, SqT.of et16, (fun y => absurd y.1 (show HT.sIx 3 0 (some 1) ≠ 0 by decide)), fun u hu => ?_⟩
      have s17 : Same H16 (upd H16 u (.tup [what, at'])) := fun c o e => by rw [upd_ne (ne_of_none e hu)]; exact e
      have u17 : (upd H16 u (.tup [what, at'])) u = some (.tup [what, at']) := upd_same
      rw [show cutV [v, what, at'] (some 1) none = [what, at'] from rfl]
      refine ⟨_, rfl, _, rfl, L8, _, _, .ref qa, rfl, rfl, SqL.of (s17 _ _ (k16 _ _ eM13 (fun y => by rw [y, hd] at eM13; cases eM13))), atQ, _, rfl, qa, _, rfl, DPut.k (k := Sum.inr z) (s17 _ _ q16) (small1000 (by omega)), ?_⟩
      have qu : qa ≠ u := ne_of_none q16 hu
      have x18 : ∀ {c : Addr} {o : HO}, H16 c = some o → (∀ m, o ≠ .dK m) → (upd (upd H16 u (.tup [what, at'])) qa (.dK (putK mvs (Sum.inr z : Key) (.ref u)))) c = some o := fun {c o} e h => by
        rw [upd_ne (fun y => by rw [y, q16] at e; cases e; exact h _ rfl)]
        exact s17 _ _ e
      have k18 : ∀ c o, H13 c = some o → c ≠ d → c ≠ qa → (upd (upd H16 u (.tup [what, at'])) qa (.dK (putK mvs (Sum.inr z : Key) (.ref u)))) c = some o := fun c o e h1 h2 => by
        rw [upd_ne h2]
        exact s17 _ _ (k16 _ _ e h1)
      have d18 : (upd (upd H16 u (.tup [what, at'])) qa (.dK (putK mvs (Sum.inr z : Key) (.ref u)))) d = some (.dK (putK kvs (Sum.inr z : Key) v)) := by
        rw [upd_ne ndq]
        exact s17 _ _ d16
      have q18 : (upd (upd H16 u (.tup [what, at'])) qa (.dK (putK mvs (Sum.inr z : Key) (.ref u)))) qa = some (.dK (putK mvs (Sum.inr z : Key) (.ref u))) := upd_same
      have u18 : (upd (upd H16 u (.tup [what, at'])) qa (.dK (putK mvs (Sum.inr z : Key) (.ref u)))) u = some (.tup [what, at']) := by
        rw [upd_ne qu.symm]
        exact u17
      obtain ⟨H18, e18⟩ : ∃ H18, (upd (upd H16 u (.tup [what, at'])) qa (.dK (putK mvs (Sum.inr z : Key) (.ref u)))) = H18 := ⟨_, rfl⟩
      rw [e18] at x18 k18 d18 q18 u18 ⊢
      have kt18 : Kt H13 H18 := fun c o e hc => k18 c o e (fun y => by
        rw [y, hd] at e
        cases e
        rcases hc with ⟨_, hc⟩ | ⟨_, _, _, hc⟩ <;> cases hc) (fun y => by
        rw [y, hq] at e
        cases e
        rcases hc with ⟨_, hc⟩ | ⟨_, _, _, hc⟩ <;> cases hc)
      have S18 : Wh (Pm.mk C D tF L8 L7 tN fs ns as ds qs) (i + 1) H18 := S13.bind hf g2 g3 hd hq hz k18 d18 q18 u18 (hth.kt kt18)
      have s18 : Same H H18 := fun c o e => k18 c o (s13 _ _ (s10 _ _ e)) (ne_of_none e (f0d d (List.mem_of_getElem? g2))) (ne_of_none e (f0q qa (List.mem_of_getElem? g3)))
      have nl : ∀ (x : List V) m, HO.lst x ≠ .dK m := fun x m y => by cases y
      have e5' := x18 (x16 e5 (nl _)) (nl _)
      have e6' := x18 (x16 e6 (nl _)) (nl _)
      have et18 : H18 t = some (.tup [v, what, at']) := kt18 _ _ et (.inl ⟨_, rfl⟩)
      refine ⟨_, rfl, _, rfl, .list (ys.map PyData.str), .list (ys.map PyData.str), .lst (SqL.of e5') (dp_strs' ys), .lst (SqL.of e6') (dp_strs' ys), shp_strs oks, shp_strs oks, ?_⟩
      rw [eqv_strs' oks]
      refine ⟨_, rfl, ?_⟩
      refine ⟨_, rfl, _, rfl, _, rfl, _, rfl, (Pm.mk C D tF L8 L7 tN fs ns as ds qs), i + 1, rfl, rfl, rfl, S18, by omega, fun H19 s19 => ⟨_, rfl, ?_⟩⟩
      exact ⟨_, _, _, _, _, _, _, rfl, s18.trans s19, S18.same s19, .inr ⟨t, v, what, at', rfl, s19 _ _ et18, (hth.kt kt18).kt (kt_same s19)⟩⟩
    · rintro σ H10 ⟨v1, v7, v8, v9, v10, v11, ah, rfl, s10, S10, hA⟩
      exact q H10
end
end D21
set_option maxHeartbeats 0
/-! k21: the head, and the theorem -/
namespace D21
open PySem PySem.Spec PyProof.Rows L2 HM XW XR K11 XM XSo
abbrev dd (x : Str) (st : Stmt) : He.DefD := ⟨(x, none), x, x, defArgs st, defBody st, defScope st, [], []⟩
abbrev md (c m q : Str) (st : Stmt) : He.DefD := ⟨(c, some m), m, q, defArgs st, defBody st, defScope st, [], []⟩
def fn : List He.DefD := [md "Module" "__init__" "Module.__init__" sMI, md "Module" "bind" "Module.bind" sMB, md "Module" "has" "Module.has" sMH, md "Module" "thing_of" "Module.thing_of" sMT, md "Module" "bound" "Module.bound" sMO, md "Late" "__init__" "Late.__init__" sLI,
  dd "told" sTo, dd "_law_at" sAt, dd "_law_pot" sPot, dd "_law_draw" sDraw, dd "_law_name" sNm, dd "_law_names" sNms, dd "_law_number" sNum, dd "_law_road" sRd, dd "_law_facts" sFs, dd "_law_thing" sTh, dd "_law_is_due" sDue, dd "_law_name_right" sNR, dd "_law_holds" sHo, dd "law" sLaw]
def fa : List He.Fa := [.glo "Module", .glo "Late", .glo "told", .glo "_law_at", .glo "_law_pot", .glo "_law_draw", .glo "_law_name", .glo "_law_names", .glo "_law_number", .glo "_law_road", .glo "_law_facts", .glo "_law_thing", .glo "_law_is_due", .glo "_law_name_right", .glo "_law_holds", .glo "law",
  .free "isinstance", .free "sorted", .free "repr", .free "bool", .free "zip", .free "all", .free "list", .free "int", .free "range", .free "max", .free "min", .free "len", .free "divmod",
  .cls "Module", .cls "Late", .noat "Module" "number", .noat "Module" "path", .noat "Module" "things", .noat "Late" "home", .noat "Late" "road",
  .meth "Module" "bind", .meth "Module" "has", .meth "Module" "thing_of", .meth "Module" "bound", .mkr "Module", .mkr "Late"]
def insB (K : PySem.W.Frag) (x : Str) : Bool := He.eqO (PySem.W.findIn K (.ref (He.ga K x)) "__class__") (some (some (.builtin "object.__class__"))) && (He.eqO (PySem.W.specialIn K (.builtin "object.__class__") "__get__") (some (some (.builtin "getset_descriptor.__get__"))) &&
  (decide (PySem.W.takesIn K (.builtin "object.__class__") = some true) && (decide (PySem.W.mroIn K (He.ga K x) (.type "object") = some true) && decide (PySem.W.kitOne K (.ref (He.ga K x)) (.ref (He.ga K x)) = some true))))
theorem insB_ok {K : PySem.W.Frag} {x : Str} (c : Cls K (He.ga K x)) (h : insB K x = true) : C8.InsC K (He.ga K x) := by
  obtain ⟨h1, h⟩ := He.ba h
  obtain ⟨h2, h⟩ := He.ba h
  obtain ⟨h3, h⟩ := He.ba h
  obtain ⟨h4, h5⟩ := He.ba h
  exact ⟨c, He.eqO_ok h1, He.eqO_ok h2, of_decide_eq_true h3, of_decide_eq_true h4, of_decide_eq_true h5⟩
def ex (K : PySem.W.Frag) : Bool := insB K "Module" && (insB K "Late" && (decide (PySem.W.kitOne K (.ref (He.ga K "Late")) (.ref (He.ga K "Module")) = some false) && (decide (PySem.W.kitOne K (.ref (He.ga K "Module")) (.ref (He.ga K "Late")) = some false) &&
  (decide (PySem.W.kitOne K (.type "int") (.ref (He.ga K "Module")) = some false) && decide (PySem.W.kitOne K (.type "int") (.ref (He.ga K "Late")) = some false)))))
def loose : List Str := ["Module", "Late", "told", "_law_at", "_law_pot", "_law_draw", "_law_name", "_law_names", "_law_number", "_law_road", "_law_facts", "_law_thing", "_law_is_due", "_law_name_right", "_law_holds"]
abbrev R : PySem.W.OpenRow := PySem.W.OpenLaw.row PySem.Challenge.rw_halfmade_k21_modules_keep_names
abbrev hk : PySem.W.Hook := He.hookX 5 fa fn [] [] ex
def ob (s : PySem.W.SharedT) : He.AlX := He.obsX 5 fa fn [] [] ex (HandSHeadRun.getT s)
theorem ob_eq (s : PySem.W.SharedT) : ob s = hk.obs s.abs := He.obsX_eq (HandSHeadRun.getT_eq s)
theorem run (w : World) : HandSHeadRun.RunEq R (PySem.W.view R.prog [17]) hk ob 4000 loose w := by
  intro os
  kernel_rfl
theorem facts {l : PySem.W.OpenLaw} {w : World} {K : PySem.W.Frag} {h : Heap} {mg : Str → Option Value} {f : Addr} (X : K.In h) (G : h.Ns mainGlobals mg) (hfa : mg ("law" : Str) = some (.ref f)) (c : He.SaysX fa fn [] [] ex w h K) : LawG l w K CX0 5 63 "_law_script" mg f h := by
  have c0 : He.SaysD fa fn K := c.t.d
  obtain ⟨fd0, F0⟩ := c0.def_ 0 (d := md "Module" "__init__" "Module.__init__" sMI) rfl
  obtain ⟨fd1, F1⟩ := c0.def_ 1 (d := md "Module" "bind" "Module.bind" sMB) rfl
  obtain ⟨fd2, F2⟩ := c0.def_ 2 (d := md "Module" "has" "Module.has" sMH) rfl
  obtain ⟨fd3, F3⟩ := c0.def_ 3 (d := md "Module" "thing_of" "Module.thing_of" sMT) rfl
  obtain ⟨fd4, F4⟩ := c0.def_ 4 (d := md "Module" "bound" "Module.bound" sMO) rfl
  obtain ⟨fd5, F5⟩ := c0.def_ 5 (d := md "Late" "__init__" "Late.__init__" sLI) rfl
  obtain ⟨fd6, F6⟩ := c0.def_ 6 (d := dd "told" sTo) rfl
  obtain ⟨fd7, F7⟩ := c0.def_ 7 (d := dd "_law_at" sAt) rfl
  obtain ⟨fd8, F8⟩ := c0.def_ 8 (d := dd "_law_pot" sPot) rfl
  obtain ⟨fd9, F9⟩ := c0.def_ 9 (d := dd "_law_draw" sDraw) rfl
  obtain ⟨fd10, F10⟩ := c0.def_ 10 (d := dd "_law_name" sNm) rfl
  obtain ⟨fd11, F11⟩ := c0.def_ 11 (d := dd "_law_names" sNms) rfl
  obtain ⟨fd12, F12⟩ := c0.def_ 12 (d := dd "_law_number" sNum) rfl
  obtain ⟨fd13, F13⟩ := c0.def_ 13 (d := dd "_law_road" sRd) rfl
  obtain ⟨fd14, F14⟩ := c0.def_ 14 (d := dd "_law_facts" sFs) rfl
  obtain ⟨fd15, F15⟩ := c0.def_ 15 (d := dd "_law_thing" sTh) rfl
  obtain ⟨fd16, F16⟩ := c0.def_ 16 (d := dd "_law_is_due" sDue) rfl
  obtain ⟨fd17, F17⟩ := c0.def_ 17 (d := dd "_law_name_right" sNR) rfl
  obtain ⟨fd18, F18⟩ := c0.def_ 18 (d := dd "_law_holds" sHo) rfl
  obtain ⟨fd19, F19⟩ := c0.def_ 19 (d := dd "law" sLaw) rfl
  have g : ∀ (i : Nat) {x : Str}, fa[i]? = some (.glo x) → mg x = some (.ref (He.ga K x)) := fun i x e => He.glo_ok X G (c0.fact i e)
  have fr : ∀ (i : Nat) {x : Str}, fa[i]? = some (.free x) → mg x = none := fun i x e => He.free_ok X G (c0.fact i e)
  obtain ⟨y1, y⟩ := He.ba (show ex K = true from c.more)
  obtain ⟨y2, y⟩ := He.ba y
  obtain ⟨y3, y⟩ := He.ba y
  obtain ⟨y4, y⟩ := He.ba y
  obtain ⟨y5, y6⟩ := He.ba y
  have T : ClT K mg (He.ga K "Module") (He.ga K "Late") := ⟨insB_ok (He.cls_ok (c0.fact 29 (f := .cls "Module") rfl)) y1, insB_ok (He.cls_ok (c0.fact 30 (f := .cls "Late") rfl)) y2, of_decide_eq_true y3, of_decide_eq_true y4, of_decide_eq_true y5, of_decide_eq_true y6,
    He.noat_ok (c0.fact 31 (f := .noat "Module" "number") rfl), He.noat_ok (c0.fact 32 (f := .noat "Module" "path") rfl), He.noat_ok (c0.fact 33 (f := .noat "Module" "things") rfl), He.noat_ok (c0.fact 34 (f := .noat "Late" "home") rfl), He.noat_ok (c0.fact 35 (f := .noat "Late" "road") rfl), g 0 (x := "Module") rfl, g 1 (x := "Late") rfl⟩
  have mtB := He.meth_ok (c0.fact 36 (f := .meth "Module" "bind") rfl)
  have mtH := He.meth_ok (c0.fact 37 (f := .meth "Module" "has") rfl)
  have mtT := He.meth_ok (c0.fact 38 (f := .meth "Module" "thing_of") rfl)
  have mtO := He.meth_ok (c0.fact 39 (f := .meth "Module" "bound") rfl)
  have MM := He.mkr_ok (c0.fact 40 (f := .mkr "Module") rfl)
  have ML := He.mkr_ok (c0.fact 41 (f := .mkr "Late") rfl)
  have e := hfa.symm.trans (g 15 (x := "law") rfl)
  cases e
  refine ⟨fd19, [], spLaw K, (fun p hp => nomatch hp), (fun p hp => nomatch hp), (fun p hp => nomatch hp), fun s u => ?_, fun H a ns hl hb hH hS => ⟨a, ns, rfl, hS, hl, fun _ => rfl⟩, fun base hK hN hTB => ?_⟩
  · exact FunD.bindsA (ps := ["_law_script"]) F19 (fun _ _ _ _ _ _ us hl => match us, hl with | [_], _ => rfl) s [u] rfl
  · have mi := fr 16 (x := "isinstance") rfl
    have ms := fr 17 (x := "sorted") rfl
    have mp := fr 18 (x := "repr") rfl
    have mb := fr 19 (x := "bool") rfl
    have mz := fr 20 (x := "zip") rfl
    have ma := fr 21 (x := "all") rfl
    have mli := fr 22 (x := "list") rfl
    have mint := fr 23 (x := "int") rfl
    have mr := fr 24 (x := "range") rfl
    have mx := fr 25 (x := "max") rfl
    have mn := fr 26 (x := "min") rfl
    have ml := fr 27 (x := "len") rfl
    have mdv := fr 28 (x := "divmod") rfl
    have bI : Binds K fd0 ["self", "number", "path"] [] := F0.bindsN fun _ _ _ _ _ _ us hl => match us, hl with | [_, _, _], _ => rfl
    have bB : Binds K fd1 ["self", "name", "thing"] [] := F1.bindsN fun _ _ _ _ _ _ us hl => match us, hl with | [_, _, _], _ => rfl
    have bH : Binds K fd2 ["self", "name"] [] := F2.bindsN fun _ _ _ _ _ _ us hl => match us, hl with | [_, _], _ => rfl
    have bT : Binds K fd3 ["self", "name"] [] := F3.bindsN fun _ _ _ _ _ _ us hl => match us, hl with | [_, _], _ => rfl
    have bO : Binds K fd4 ["self"] [] := F4.bindsN fun _ _ _ _ _ _ us hl => match us, hl with | [_], _ => rfl
    have bL : Binds K fd5 ["self", "home", "road"] [] := F5.bindsN fun _ _ _ _ _ _ us hl => match us, hl with | [_, _, _], _ => rfl
    have GI := ok_mi (P := l.prog) (w := w) (base := base) F0 T
    have GB := ok_mb (P := l.prog) (w := w) (base := base) F1 T
    have GH := ok_mh (P := l.prog) (w := w) (base := base) F2 T
    have GT := ok_mt (P := l.prog) (w := w) (base := base) F3 T
    have GO := ok_mo (P := l.prog) (w := w) (base := base) F4 T ms
    have GL := ok_li (P := l.prog) (w := w) (base := base) F5 T
    have Gto := ok_to (P := l.prog) (w := w) (base := base) F6 T mi
    have Gpot := ok_pot (P := l.prog) (w := w) (base := base) F8 F7 (g 3 (x := "_law_at") rfl) ml mx
    have Gdr := ok_draw (P := l.prog) (w := w) (base := base) F9 mdv
    have Gnm := ok_nm (P := l.prog) (w := w) (base := base) F10 Gdr F9 (g 5 (x := "_law_draw") rfl) mr
    have Gnms := ok_nms (P := l.prog) (w := w) (base := base) F11 Gnm F10 (g 6 (x := "_law_name") rfl) mr
    have Gnum := ok_num (P := l.prog) (w := w) (base := base) F12 Gdr F9 (g 5 (x := "_law_draw") rfl)
    have Grd := ok_rd (P := l.prog) (w := w) (base := base) F13 Gdr F9 (g 5 (x := "_law_draw") rfl) mr ml
    have Gfs := ok_fs (P := l.prog) (w := w) (base := base) F14 Gdr F9 (g 5 (x := "_law_draw") rfl) Gnms F11 (g 7 (x := "_law_names") rfl) Grd F13 (g 9 (x := "_law_road") rfl) mr ml
    have Gth := ok_th (P := l.prog) (w := w) (base := base) F15 T Gdr F9 (g 5 (x := "_law_draw") rfl) Grd F13 (g 9 (x := "_law_road") rfl) Gnum F12 (g 8 (x := "_law_number") rfl) ML GL bL ml
    have Gdu := ok_due (P := l.prog) (w := w) (base := base) F16 T Gto F6 (g 2 (x := "told") rfl) GO F4 mtO bO mi mp ms
    have Gnr := ok_nr (P := l.prog) (w := w) (base := base) F17 T GH mtH bH GT mtT bT Gdu F16 (g 12 (x := "_law_is_due") rfl) mi mb (by unfold PySem.W.kitOne; rfl)
    have Gho := ok_ho (P := l.prog) (w := w) (base := base) F18 T GO mtO bO Gnr F17 (g 13 (x := "_law_name_right") rfl) mi mz ms ma mli (by unfold PySem.W.kitOne; rfl)
    exact ok_law F19 T Gpot F8 (g 4 (x := "_law_pot") rfl) Gdr F9 (g 5 (x := "_law_draw") rfl) Gfs F14 (g 10 (x := "_law_facts") rfl) Gnms F11 (g 7 (x := "_law_names") rfl) Gho F18 (g 14 (x := "_law_holds") rfl) Gth F15 (g 11 (x := "_law_thing") rfl) MM GI bI GB mtB bB GO mtO bO mint mr mx mn ml mli
end D21
open PySem PySem.W PySem.Calls PyProof.Rows
theorem PySem.Challenge.cw_halfmade_k21_modules_keep_names_holds : PySem.Challenge.rw_halfmade_k21_modules_keep_names.Holds := by
  w_on; o_law
  refine HandSHeadRun.head_any (r := D21.R) (q := view D21.R.prog [17]) (H := D21.hk) (ob := D21.ob) (M := 4000) (loose := D21.loose) (d := HandSHeadRun.topDef D21.R.prog 17) (kwd := []) D21.ob_eq
    (by kernel_rfl) (fun s => by kernel_rfl) D21.run (by kernel_rfl) (by kernel_rfl) (by kernel_rfl) (by rfl) (by first | assumption | decide +kernel) (by decide +kernel) ⟨rfl, rfl, rfl, rfl, rfl, by decide +kernel⟩ ?hw ?hc
  case hw => w_witness2
  case hc =>
    refine HM.walkG (l := PySem.Challenge.rw_halfmade_k21_modules_keep_names) (n := 63) (k := 5) (x := "_law_script") (CX := fun _ => L2.CX0) rfl (by decide) (by kernel_rfl) ⟨rfl, by decide, by decide⟩ (fun w mg fa h Y G hmg0 => ?_) (fun _ _ _ _ _ z => z)
    obtain ⟨K, KX, c⟩ := Y
    have hmg : mg ("law" : PySem.Str) = some (.ref fa) := by
      have e : (HandSHeadRun.topDef D21.R.prog 17).name = ("law" : PySem.Str) := by kernel_rfl
      rw [← e]
      exact hmg0
    exact ⟨K, KX, D21.facts KX G hmg c⟩

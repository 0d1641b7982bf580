import PyProof.Rows.All
import Wide.All
import OpenK.AllK
import Wide.FinOn
import HandS.ForMost
import HandS.AnyAll
import HandS.GenOver
import HandS.EndTab
import HandS.Walk
import HandS.HeadHook4
import HandS.HeadWalk
import HandS.Head2
import HandS.Defaults
import HandS.IsInst
import HandS.Wide
import HandS.Flow
import HandS.StrMore
import PyProof.ReprRoads
import HandS.Codes
import PyProof.Rows.StrCountLaw
import PyProof.Rows.RegReprOcc
import PyProof.EqLayable
import HandS.Dict
import HandS.WrittenGet
import HandS.Zip
import HandS.WideBits
import HandS.Comp
import PyProof.ReprBulk
import HandS.Text
import KE.IntTextLaws
import PyProof.Rows.ReprOcc
import HandS.RaiseMore
import PyProof.Rows.SortStr
import PyProof.Rows.StrMeet
import HandS.More
import HandS.ListEq
import HandS.Words
import HandS.ExcInit
import HandS.Nested
import KE.KExcSuper
import KE.KSuperObj
import PyProof.Rows.NameDeclared
import HandS.ExcCtx
import HandS.HotCalls
import HandS.FStr
import HandS.ExcField
import HandS.ExcValue
import HandS.ExcInitHot
import KE.KExcIs
import HandS.ExcIs
import HandS.ForDict
import HandS.Conv
import HandS.CallSlots
import HandS.Style
import HandS.HeadEnd
import PySem.Challenge.RW_halfmade_k24_whole_asked_late
set_option Elab.async false
set_option linter.all false
set_option maxRecDepth 100000
set_option maxHeartbeats 4000000
namespace GxA
open PySem PySem.Spec PyProof.Rows L2 GxR

/-- the frame of a generator expression that captures nothing -/
def genCx (X : Cx) (N : List Str) (A' : Around) (s4 : Shared) (H4 : Hp) (cenv : Env) (fp : List Addr) : Cx :=
  { X with A := A', N := N, s_0 := s4, H_0 := H4, env := cenv, outer := X.stack, stack := cenv :: X.stack, ex := fp, fn := fun _ => false, calm := true, pn := [], xe := fun _ _ => False }

/-- the generator's own scope: no cells, nothing captured -/
structure GenN (scope : Scope) : Prop where
  kind : scope.kind = .function
  co : scope.isCoroutine = false
  cell : ∀ y ∈ scope.names, y.2 ≠ .cell
  free : ∀ y ∈ scope.names, y.2 ≠ .free
  dot : scope.names.lookup (".0" : Str) = some NameKind.local

theorem clo_nil (cells : List (Str × Addr)) : ∀ (l : List (Str × NameKind)) (acc : List (Str × Addr)), (∀ y ∈ l, y.2 ≠ .free) → cloFrom cells l acc = acc
  | [], _, _ => rfl
  | (n, k) :: r, acc, h => by
    have hk : (k == NameKind.free) = false := by
      have := h (n, k) List.mem_cons_self
      cases k <;> first | rfl | exact absurd rfl this
    unfold cloFrom
    rw [hk]
    exact clo_nil cells r acc fun y hy => h y (List.mem_cons_of_mem _ hy)

theorem lookup_mem {α : Type} : ∀ {l : List (Str × α)} {n : Str} {c : α}, l.lookup n = some c → ∃ n', (n', c) ∈ l
  | (k, v) :: r, n, c, h => by
    rw [List.lookup_cons] at h
    cases hb : n == k with
    | true =>
      rw [hb] at h
      cases h
      exact ⟨k, List.mem_cons_self⟩
    | false =>
      rw [hb] at h
      obtain ⟨n', hn⟩ := lookup_mem h
      exact ⟨n', List.mem_cons_of_mem _ hn⟩

section
variable {X : Cx} {pins : List (Addr × Obj)} {σ : L2.St} {H : Hp} {s : Shared}
/-- only the generators' table has changed -/
theorem inv_gens {s' : Shared} (I : Inv X pins σ H s) (hh : s'.heap = s.heap) (ho : s'.os = s.os) (hb : AllBare s'.gens) : Inv X pins σ H s' := by
  obtain ⟨h, g, d, t, o⟩ := s
  obtain ⟨h', g', d', t', o'⟩ := s'
  dsimp only at hh ho hb
  subst hh
  subst ho
  exact ⟨I.ok, I.os, hb, I.base, I.loc, I.cell, I.free, I.freeC, I.pin, I.hok, I.len⟩
/-- slots may be forgotten -/
theorem inv_wipe (I : Inv X pins σ H s) (n : Nat) (hn : X.N.length = n) : Inv X pins (List.replicate n none) H s := by
  obtain ⟨m, hm, _⟩ := I.loc
  refine ⟨I.ok, I.os, I.bare, I.base, ⟨m, hm, fun i x v _ e _ => ?_⟩, I.cell, I.free, I.freeC, I.pin, I.hok, by rw [List.length_replicate, hn]⟩
  rw [List.getElem?_replicate] at e
  split at e <;> cases e
end

section
variable {X : Cx} {pins : List (Addr × Obj)} {σ : L2.St} {H : Hp} {s : Shared}
theorem stk_lt (I : Inv X pins σ H s) {b : Addr} (hb : b ∈ frs X.stack) : b < s.heap.objs.size := by
  rcases List.mem_cons.mp (I.stkSub b hb) with e | e
  · rw [e]
    exact I.lt
  · refine Nat.lt_of_not_le fun h => I.nofs h e
theorem genCx_ok {N : List Str} {A' : Around} {scope : Scope} {code : Value} {fp : List Addr} (I : Inv X pins σ H s) (S : GenN scope)
    (hA : A'.frames = some (genEnv scope [] s.heap.objs.size code builtinsNs X.env :: X.stack)) (hAh : A'.handled = none) (hfp : ∀ b ∈ fp, FpOk X pins H b) (hlt : ∀ b ∈ fp, b < s.heap.objs.size) :
    (genCx X N A' s H (genEnv scope [] s.heap.objs.size code builtinsNs X.env) fp).Ok where
  mod := I.ok.mod
  kind := S.kind
  glob := I.ok.glob
  blt := rfl
  above := Nat.le_refl _
  inj := fun x y c e => nomatch (show (none : Option Addr) = some c from e)
  has := fun x h => by
    rcases h with h | h
    · obtain ⟨n', hm⟩ := lookup_mem (show scope.names.lookup x = some .cell from h)
      exact absurd rfl (S.cell _ hm)
    · obtain ⟨n', hm⟩ := lookup_mem (show scope.names.lookup x = some .free from h)
      exact absurd rfl (S.free _ hm)
  cab := fun x c e _ => nomatch (show false = true from e)
  hd := fun _ => hAh
  frames := hA
  stk := .inr ⟨rfl, rfl⟩
  exf := fun b hb => ⟨Nat.ne_of_lt (hlt b hb), fun x c e => nomatch (show (none : Option Addr) = some c from e)⟩
  bs := I.bs
  bsz := Nat.le_trans I.ok.bsz I.sz
  noex := fun b o e hb => by
    rcases (hfp b hb).2.2.2.1 with z | z
    · exact I.ok.noex b o e z
    · exact absurd (Nat.lt_of_lt_of_le (Heap.lt_size (I.ok.bs b o e).1) z) (Nat.lt_irrefl _)
  exfs := fun b hb hs => by
    rcases List.mem_cons.mp (I.stkSub b hs) with z | z
    · exact (hfp b hb).2.1 z
    · exact (hfp b hb).2.2.1 z
  funs := I.stack
  frf := I.stkFree
theorem genCx_inv {N : List Str} {A' : Around} {scope : Scope} {code : Value} {fp : List Addr} {h5 : Heap} {gs : Array GenState} {tk : Nat} {m : Str → Option Value} {a : Addr} {go : Obj} (I : Inv X pins σ H s)
    (hok : (genCx X N A' s H (genEnv scope [] s.heap.objs.size code builtinsNs X.env) fp).Ok) (k5 : ∀ b o, s.heap.get? b = some o → h5.get? b = some o) (hn : h5.Ns s.heap.objs.size m) (ha : h5.get? a = some go) (hac : s.heap.objs.size < a)
    (hgo : ∀ v, go.data ≠ .cell v) (hgb : AllBare gs) :
    Inv (genCx X N A' s H (genEnv scope [] s.heap.objs.size code builtinsNs X.env) fp) [(a, go)] (List.replicate N.length none) H { s with gens := gs, toks := tk, heap := h5 } where
  ok := hok
  os := rfl
  bare := hgb
  base := Un.kept k5
  loc := ⟨m, hn, fun i x v _ e _ => by
    rw [List.getElem?_replicate] at e
    split at e <;> cases e⟩
  cell := fun x c e => nomatch (show (none : Option Addr) = some c from e)
  free := I.hok.fresh (Nat.le_refl _)
  freeC := fun x c e => nomatch (show (none : Option Addr) = some c from e)
  pin := fun p hp => by
    have e : p = (a, go) := by
      rcases List.mem_append.mp hp with z | z
      · cases z
      · exact List.mem_singleton.mp z
    subst e
    refine ⟨ha, I.hok.fresh (Nat.le_of_lt hac), Nat.ne_of_gt hac, fun hb => ?_, hgo⟩
    exact absurd (Nat.lt_trans (stk_lt I hb) hac) (Nat.lt_irrefl _)
  hok := (I.kept (t' := tk) k5).hok
  len := List.length_replicate
end

/-! ### the loop of the generator -/
section
variable {X : Cx} {tg elt iter : Expr} {scope : Scope} {pos : Pos} {it : Addr} {B : Around} {J : It} {fp : List Addr} {tn : Nat → Heap → Prop} {g : TG} {te : TE} {pn0 : List (Addr × Obj)} {Q : VK}
/-- what the generator's end leaves -/
def GRz (X : Cx) (pn0 : List (Addr × Obj)) (Q : VK) : Nat → Shared → Shared → Prop := fun _ _ s => ∃ σ H, Inv X pn0 σ H s ∧ Q (.bl true) H
/-- what it hands out: True, and it may go on; or False, and it is left -/
def GYz (X : Cx) (pn0 : List (Addr × Obj)) (Q : VK) : Protocol := fun _ _ v s kap => ∃ b σ H, v = .bool b ∧ Inv X pn0 σ H s ∧
  if b = true then ∀ s', s'.heap = s.heap → s'.os = s.os → AllBare s'.gens → kap (.send .none) s' else Q (.bl false) H
/-- the turns -/
def GTurn (J : It) (g : TG) (te : TE) (k : Nat) (Q : VK) (W : Nat → Nat → Hp → Prop) : Prop := ∀ i m H, W i m H →
  (J.stop i H ∧ Q (.bl true) H) ∨ (J.go i H ∧ ∃ Nx : Hp → Prop, (∀ H', Nx H' → ∃ m', m' < m ∧ W (i + 1) m' H') ∧
    ∀ x H', J.yld i H x H' → g x (List.replicate k none) H' fun σ2 H2 => te σ2 H2 fun v H3 => ∃ b, v = .bl b ∧ if b = true then Nx H3 else Q (.bl false) H3)
theorem seg_all {W : Nat → Nat → Hp → Prop} (hA : B.over (.compLoop (.GeneratorExp elt [⟨tg, iter, [], 0⟩] scope pos) 0 (.ref it) .none X.env) [] = X.A) (hxe : X.xe = fun _ _ => False) (hcalm : X.calm = true) (hco : X.env.scope.isCoroutine = false)
    (T : Turn X.prog X.w X.K tg J fp it tn) (hf : ∀ b ∈ fp, b ≠ X.env.locals ∧ b ∉ X.fs ∧ (b ∈ X.ex ∨ X.s_0.heap.objs.size ≤ b) ∧ (∀ x c, X.env.cells.lookup x = some c → c ≠ b) ∧ ∀ p ∈ X.pn ++ pn0, p.1 ≠ b)
    (hg : PG X tg g) (he : PE X elt te) (turn : GTurn J g te X.N.length Q W) :
    ∀ (m n : Nat), m < n → ∀ (i : Nat) (s₀ s : Shared) (σ : L2.St) (H : Hp), Inv X pn0 σ H s → tn i s.heap → (∀ b ∈ fp, H b = none) → W i m H →
      Seg (model X.prog X.w) B (fun n s₀ r s₁ => r = .ok .next ∧ GRz X pn0 Q n s₀ s₁) (GYz X pn0 Q) n s₀ (.compLoop (.GeneratorExp elt [⟨tg, iter, [], 0⟩] scope pos) 0 (.ref it) .none X.env)
        ((model X.prog X.w).den (.compLoop (.GeneratorExp elt [⟨tg, iter, [], 0⟩] scope pos) 0 (.ref it) .none X.env)) [] s := by
  intro m
  induction m using Nat.strongRecOn with
  | _ m ih =>
  intro n hmn i s₀ s σ H I st fr w
  have I' := inv_wipe I X.N.length rfl
  have noX : ∀ (e : Value) (s' : Shared), X.xe e s' → False := fun e s' h => by
    rw [hxe] at h
    exact h
  have stat : ∀ {H' : Hp}, (∀ b ∈ fp, H' b = none) → ∀ b ∈ fp, FpOk X pn0 H' b := fun hn b hb => ⟨hn b hb, hf b hb⟩
  show Seg _ B _ _ _ s₀ _ ((compTurn (.GeneratorExp elt [⟨tg, iter, [], 0⟩] scope pos) 0 (.ref it) .none X.env).onRaise (leaving X.env)) [] s
  rw [compTurn_gen, Sem.onRaise_eq_wrap]
  refine seg_bind_wrap (wpAny_standAt ?_)
  rcases turn i m H w with ⟨stop, q⟩ | ⟨go, Nx, hN, step⟩
  · refine seg_bind_wrap ?_
    rw [hA]
    refine wpAny_mono (T.done X rfl rfl rfl hcalm i pn0 s _ H X.xe I' (stat fr) st stop) (fun r s1 h1 => ?_) fun e s' h => (noX e s' h).elim
    obtain ⟨rfl, I1⟩ := h1
    exact seg_end (.ok .next) ⟨rfl, _, H, I1, q⟩
  · refine seg_bind_wrap ?_
    rw [hA]
    refine wpAny_mono (T.item X rfl rfl rfl hcalm i pn0 s _ H X.xe I' (stat fr) st go) (fun r s1 h1 => ?_) fun e s' h => (noX e s' h).elim
    obtain ⟨u, rfl, h1⟩ := h1
    refine seg_bind_wrap ?_
    rw [hA]
    refine wpAny_mono h1 (fun _ s2 h2 => ?_) fun e s' h => (noX e s' h).elim
    obtain ⟨x, H2, I2, r2, y2, st2, fr2⟩ := h2
    have I2' := I2.pinned (stat fr2) (T.obj _ _ st2)
    refine seg_bind_wrap ?_
    rw [hA]
    refine wpAny_mono (hg.run _ s2 _ H2 x u _ I2' r2 (step x H2 y2)) (fun _ s3 h3 => ?_) fun e s' h => (noX e s' h).elim
    obtain ⟨σ3, H3, I3, q3⟩ := h3
    have hy : ∀ v, yieldOut X.env v = yieldValue v := fun v => by simp only [yieldOut, hco, Bool.false_eq_true, if_false]
    simp only [hy]
    refine seg_bind_wrap ?_
    refine (wpAny_of_eq (a := true) (by rfl) ?_)
    simp only [if_true]
    rw [Sem.bind_eq_wrap', Sem.bind_eq_wrap', Sem.wrap_wrap, Sem.wrap_wrap]
    refine seg_wrap ?_
    rw [hA]
    refine wpAny_mono (he.run _ s3 σ3 H3 _ I3 q3) (fun y s4 h4 => ?_) fun e s' h => (noX e s' h).elim
    obtain ⟨v, H4, I4, r4, b, rfl, q4⟩ := h4
    obtain rfl : y = Value.bool b := r4
    have I5 := I4.unpinned
    have st4 : tn (i + 1) s4.heap := T.keep _ _ _ st2 fun b hb o e => (I4.pin (b, o) (List.mem_append_right _ (List.mem_append_right _ (mem_pinsAt hb e)))).1
    have fr4 : ∀ b ∈ fp, H4 b = none := fun b hb => by
      obtain ⟨o, e, d⟩ := T.obj _ _ st2 b hb
      exact (I4.pin (b, o) (List.mem_append_right _ (List.mem_append_right _ (mem_pinsAt hb e)))).2.1
    obtain ⟨n', rfl⟩ : ∃ n', n = n' + 1 := ⟨n - 1, by omega⟩
    refine seg_at (seg_yield rfl rfl rfl ⟨b, σ3, H4, rfl, I5, ?_⟩)
    cases b with
    | false => exact q4
    | true =>
      obtain ⟨m', hm', w'⟩ := hN H4 q4
      rw [if_pos rfl]
      intro s' e1 e2 e3
      exact seg_again rfl (ih m' hm' n' (by omega) (i + 1) s' s' σ3 H4 (inv_gens I5 e1 e2 e3) (by rw [e1]; exact st4) fr4 w')
/-- its start -/
theorem seg_start {W : Nat → Nat → Hp → Prop} (hA : B.over (.compLoop (.GeneratorExp elt [⟨tg, iter, [], 0⟩] scope pos) 0 (.ref it) .none X.env) [] = X.A) (hxe : X.xe = fun _ _ => False) (hcalm : X.calm = true) (hco : X.env.scope.isCoroutine = false)
    (T : Turn X.prog X.w X.K tg J fp it tn) (hf : ∀ b ∈ fp, b ≠ X.env.locals ∧ b ∉ X.fs ∧ (b ∈ X.ex ∨ X.s_0.heap.objs.size ≤ b) ∧ (∀ x c, X.env.cells.lookup x = some c → c ≠ b) ∧ ∀ p ∈ X.pn ++ pn0, p.1 ≠ b)
    (hg : PG X tg g) (he : PE X elt te) (turn : GTurn J g te X.N.length Q W) (m : Nat) (s₀ s : Shared) (σ : L2.St) (H : Hp) (I : Inv X pn0 σ H s) (st : tn 0 s.heap) (fr : ∀ b ∈ fp, H b = none) (w0 : W 0 m H) :
      Seg (model X.prog X.w) B (fun n s₀ r s₁ => r = .ok .next ∧ GRz X pn0 Q n s₀ s₁) (GYz X pn0 Q) (m + 1) s₀ (.compStart (.GeneratorExp elt [⟨tg, iter, [], 0⟩] scope pos) 0 (.ref it) .none X.env)
        ((model X.prog X.w).den (.compStart (.GeneratorExp elt [⟨tg, iter, [], 0⟩] scope pos) 0 (.ref it) .none X.env)) [] s := by
  have loop := seg_all (iter := iter) (scope := scope) (pos := pos) hA hxe hcalm hco T hf hg he turn m (m + 1) (Nat.lt_succ_self _) 0 s₀ s σ H I st fr w0
  show Seg _ B _ _ _ s₀ _ ((compStart (.GeneratorExp elt [⟨tg, iter, [], 0⟩] scope pos) 0 (.ref it) .none X.env).onRaise (leaving X.env)) [] s
  unfold compStart
  rw [Sem.onRaise_eq_wrap]
  show Seg _ B _ _ _ s₀ _ ((ask >>= _).wrap _ _ _ _) [] s
  refine seg_bind_wrap (wpAny_askSetting ?_)
  split
  · exact seg_again rfl loop
  · first
      | exact seg_bind_wrap (wpAny_rule (seg_bind_wrap (wpAny_standAt (seg_bind_wrap (T.self _ 0 s _ _ st (seg_again rfl loop))))))
      | (refine seg_bind_wrap (wpAny_rule ?_); show Seg _ B _ _ _ s₀ _ ((standAt iter.pos >>= _).wrap _ _ _ _) [] s; exact seg_bind_wrap (wpAny_standAt (seg_bind_wrap (T.self _ 0 s _ _ st (seg_again rfl loop)))))
end
/-! ### all(..) -/
section
variable {X : Cx} {A : Around} {a : Addr} {g : Nat} {go : Obj} {pn0 : List (Addr × Obj)} {Q : VK} {R : Result → Shared → Prop}
theorem gens_set {s : Shared} {n : Nat} {x : GenState} (h : n < s.gens.size) : (s.setGen n x).gens[n]? = some x := by
  simp [Shared.setGen, h]
theorem bare_set {s : Shared} {n : Nat} {x : GenState} (h : AllBare s.gens) (hx : x.bare = true) : AllBare (s.setGen n x).gens := by
  intro y hy
  rcases Array.mem_or_eq_of_mem_setIfInBounds (show y ∈ s.gens.setIfInBounds n x from hy) with z | z
  · exact h y z
  · rw [z]
    exact hx
theorem all_loop (hh : A.handled = none) (hroom : A.depth < recursionLimit) (hgo : go.cls = .type "generator" ∧ (∃ nm qn, go.data = .fields #[.int g 0, nm, qn]) ∧ go.slots = #[]) (hpn : (a, go) ∈ pn0)
    (hR : ∀ b s σ H, Inv X pn0 σ H s → Q (.bl b) H → R (.ok (.ret (.bool b))) s) :
    ∀ (n : Nat) (s : Shared) (gs : GenState) (σ : L2.St) (H : Hp), Inv X pn0 σ H s → s.gens[g]? = some gs →
      gs.Goes (model X.prog X.w) A.in1.in1 (fun n s₀ r s₁ => r = .ok .next ∧ GRz X pn0 Q n s₀ s₁) (GYz X pn0 Q) n (.send .none) (s.setGen g .running) →
      codeAny (model X.prog X.w) A (.builtin "all.loop" ⟨[.ref a], []⟩) R s := by
  have step : ∀ n : Nat, (∀ m, n = m + 1 → ∀ (s : Shared) (gs : GenState) (σ : L2.St) (H : Hp), Inv X pn0 σ H s → s.gens[g]? = some gs →
      gs.Goes (model X.prog X.w) A.in1.in1 (fun n s₀ r s₁ => r = .ok .next ∧ GRz X pn0 Q n s₀ s₁) (GYz X pn0 Q) m (.send .none) (s.setGen g .running) →
      codeAny (model X.prog X.w) A (.builtin "all.loop" ⟨[.ref a], []⟩) R s) → ∀ (s : Shared) (gs : GenState) (σ : L2.St) (H : Hp), Inv X pn0 σ H s → s.gens[g]? = some gs →
      gs.Goes (model X.prog X.w) A.in1.in1 (fun n s₀ r s₁ => r = .ok .next ∧ GRz X pn0 Q n s₀ s₁) (GYz X pn0 Q) n (.send .none) (s.setGen g .running) →
      codeAny (model X.prog X.w) A (.builtin "all.loop" ⟨[.ref a], []⟩) R s := by
    intro n ih s gs σ H I hgs hgoes
    refine codeAny_builtin F.entry_all_loop ?_
    rw [Around.under_plainId F.plain_all_loop _]
    show wpAny _ A.in1 (pyNext (.ref a) >>= _) _ _ s
    have hlt : g < s.gens.size := by
      rcases Nat.lt_or_ge g s.gens.size with h | h
      · exact h
      · rw [Array.getElem?_eq_none h] at hgs
        cases hgs
    have hgen : s.heap.IsGen a g := by
      obtain ⟨h1, ⟨nm, qn, h2⟩, h3⟩ := hgo
      exact ⟨go, nm, qn, (I.pin (a, go) (List.mem_append_right _ hpn)).1, h1, h2, h3⟩
    refine wpAny_bind (GenW.wpAny_gsz (n := g + 1) hlt ?_)
    refine wpAny_pyNext_genexpQ (A := A.in1) (P := GRz X pn0 Q) hh I.nolimit hroom hgen hgs hgoes (fun v s₁ gs' hb hv hsz => ?_) (fun s₁ hp h' hk hsz => ?_)
    · obtain ⟨b, σ1, H1, rfl, I1, q1⟩ := hv
      have hsz1 : g < s₁.gens.size := by
        have : g + 1 ≤ (s₁.setGen g gs').gens.size := hsz
        rw [GenW.setGen_size] at this
        exact this
      have J1 : Inv X pn0 σ1 H1 (s₁.setGen g gs') := inv_gens I1 rfl rfl (bare_set I1.bare hb)
      refine wpAny_bind (wpAny_holding (wpAny_truthy_bool ?_))
      refine wpAny_bind (wpAny_letGo ?_)
      cases b with
      | true =>
        rw [if_pos rfl] at q1
        simp only [if_true]
        have q2 := q1 ((s₁.setGen g gs').setGen g .running) rfl rfl (bare_set J1.bare rfl)
        cases n with
        | zero => exact q2.elim
        | succ m => exact wpAny_pure ⟨plainId_quiet F.plain_all_loop _, ih m rfl _ gs' σ1 H1 J1 (gens_set hsz1) q2⟩
      | false =>
        simp only [Bool.false_eq_true, if_false]
        exact wpAny_bind (wpAny_rule (wpAny_pure (hR false _ σ1 H1 J1 q1)))
    · obtain ⟨σ1, H1, I1, q1⟩ := hp
      have J1 : Inv X pn0 σ1 H1 (s₁.setGen g .finished) := inv_gens I1 rfl rfl (bare_set I1.bare rfl)
      exact wpAny_bind (wpAny_rule (wpAny_pure (hR true _ σ1 H1 (J1.kept (t' := s₁.toks) hk) q1)))
  intro n
  induction n with
  | zero => exact step 0 fun m e => by cases e
  | succ n ih =>
    refine step (n + 1) fun m e => ?_
    cases e
    exact ih
end

/-! ### the rule -/
/-- all(elt for tg in iter), nothing captured; k: how many names the generator's frame has (those of the target) -/
def tAllG (P : Addr) (wi : TI) (g : TG) (te : TE) (k : Nat) : TE := fun σ H Q => wi σ H fun J H1 => TabG H1 P ∧ ∀ H2, Tabbed P H1 H2 → ∃ W : Nat → Nat → Hp → Prop, (∃ m, W 0 m H2) ∧ GTurn J g te k Q W
section
variable {X : Cx} {c P : Addr} {tg elt iter : Expr} {p pos gpos : Pos} {scope : Scope} {wi : TI} {g : TG} {te : TE} {N : List Str} {k : Nat}
theorem pe_allG (hr : Room (k + 1) X.A) (hgl : Gl X "all") (hm : X.mg "all" = none) (TB : TabB X.base X.mg c P) (hcode : X.env.code = .ref c) (S : GenN scope) (hi : PI X tg iter wi)
    (hg : ∀ A' s4 H4 cenv fp, cenv.scope = scope → PG (genCx X N A' s4 H4 cenv fp) tg g) (he : ∀ A' s4 H4 cenv fp, cenv.scope = scope → Room k A' → PE (genCx X N A' s4 H4 cenv fp) elt te)
    (hs : ∀ v, genFold iter X.env v = pure v)
    (hst : starEach [.GeneratorExp elt [⟨tg, iter, [], 0⟩] scope gpos] X.env = (false, eval (.GeneratorExp elt [⟨tg, iter, [], 0⟩] scope gpos) X.env) :: starEach [] X.env := by rfl) (hb : bootBuiltins "all" = some (.builtin "all") := by decide +kernel) :
    PE X (.Call (.Name "all" p) [.GeneratorExp elt [⟨tg, iter, [], 0⟩] scope gpos] [] pos) (tAllG P wi g te N.length) := by
  refine ⟨fun pins s σ H Q I h => ?_⟩
  refine wpAny_Call_Name_kw (ld_blt I hgl hm hb ?_)
  refine PyProof.Rows.callWith_builtin1 ?_ hst (by rfl)
  rw [hst]
  show wpAny _ _ (spliced ((false, eval (.GeneratorExp elt [⟨tg, iter, [], 0⟩] scope gpos) X.env) :: backTo pos (starEach [] X.env))) _ _ s
  refine Calls.spliced_cons ?_
  have hclos : closureFor scope X.env = pure [] := by
    rw [closure_ok (fun y hy e => absurd e (S.free y hy)), clo_nil _ _ _ S.free]
  refine wpAny_GeneratorExp_make S.co hclos S.cell S.dot S.kind (by have := hr.dp; omega) ?_ hs
  refine thn (hi.run pins s σ H _ I h) fun xv s1 h1 => thn h1 fun itv s2 h2 => ?_
  obtain ⟨it, fp, tn, J, H1, rfl, I1, T, st1, f1, ⟨ps, hP, ht⟩, hW⟩ := h2
  refine ⟨I1.nolimit, ?_⟩
  have hPs : s2.heap.get? P = some { cls := .none, data := .fields ps } := I1.hok P _ hP
  have cd : PySem.W.CodeHd s2.heap c P := TB.code.keeps fun b u e => I1.bk b u e
  have hlt1 : ∀ b ∈ fp, b < s2.heap.objs.size := fun b hb => by
    obtain ⟨o, e, _⟩ := T.obj _ _ st1 b hb
    exact Heap.lt_size e
  have cont : ∀ (code : Value) (h3 : Heap) (tk : Nat) (more : Array Value), Heap.ExtBut P s2.heap h3 → s2.heap.objs.size ≤ h3.objs.size → h3.get? P = some { cls := .none, data := .fields (ps ++ more) } → TriplesOk (ps ++ more).toList →
      wpAny (model X.prog X.w) X.A (builtinsFor X.env.globals X.env.builtins) (fun bi s₄ =>
        ∀ h', h'.Ns s₄.heap.objs.size (fun y => if y = ".0" then some (.ref it) else none) → Heap.SameBut s₄.heap.objs.size (s₄.heap.push { cls := .type "frame", data := .dict #[] }) h' →
          wpAny (model X.prog X.w) X.A (spliced (backTo pos (starEach [] X.env))) (fun vs s' => wpAny (model X.prog X.w) X.A (call (.builtin "all") (.ref h'.objs.size :: vs)) (EP X pins σ Q) X.xe s') X.xe { s₄ with
            gens := s₄.gens.push (.fresh (.compStart (.GeneratorExp elt [⟨tg, iter, [], 0⟩] scope gpos) 0 (.ref it) .none (genEnv scope [] s₄.heap.objs.size code bi X.env))),
            toks := s₄.toks + 1 + 1 + 1,
            heap := h'.push { cls := .type "generator", data := .fields #[.int s₄.gens.size 0, .str "<genexpr>" (s₄.toks + 1), .str (X.env.qual ++ "<genexpr>") (s₄.toks + 1 + 1)] } }) X.xe { s2 with heap := h3, toks := tk } := by
    intro code h3 tk more hx hsz hP3 ht3
    obtain ⟨bm, ob, e1, e2, e3, e4, e5, e6, e7, e8⟩ := TB.bm
    have keep3 : ∀ b u, b ≠ P → s2.heap.get? b = some u → h3.get? b = some u := fun b u hb e => hx b u hb e
    refine wpAny_builtinsFor (m := X.mg) (by rw [I1.ok.glob]; exact (I1.mod.glob.keeps I1.bk).extBut hx TB.gP) e1 e2 (keep3 _ _ e4 (I1.bk _ _ e5)) e6 e7 e8 ?_
    intro h' hn' hs'
    have I3 : Inv X pins σ (upd H1 P (.tbl (ps ++ more))) { s2 with heap := h3, toks := tk } := inv_tab (more := more) (h' := h3) (g' := s2.gens) (d' := s2.drawn) (t' := tk) I1 hP keep3 hP3 I1.bare
    obtain ⟨W, ⟨m0, w0⟩, turn⟩ := hW _ ⟨⟨ps ++ more, upd_same, ht3⟩, fun b hb => upd_ne hb⟩
    have nP : ∀ b ∈ fp, b ≠ P := fun b hb z => by
      have := (f1 b hb).1
      rw [z, hP] at this
      cases this
    have fr3 : ∀ b ∈ fp, upd H1 P (.tbl (ps ++ more)) b = none := fun b hb => by
      rw [upd_ne (nP b hb)]
      exact (f1 b hb).1
    have f3 : ∀ b ∈ fp, FpOk X pins (upd H1 P (.tbl (ps ++ more))) b := fun b hb => ⟨fr3 b hb, (f1 b hb).2⟩
    have st3 : tn 0 h3 := T.keep _ _ _ st1 fun b hb o e => keep3 b o (nP b hb) e
    have hlt3 : ∀ b ∈ fp, b < h3.objs.size := fun b hb => Nat.lt_of_lt_of_le (hlt1 b hb) hsz
    obtain ⟨cenv, hcenv⟩ : ∃ cenv, genEnv scope [] h3.objs.size code builtinsNs X.env = cenv := ⟨_, rfl⟩
    have sz' : h'.objs.size = h3.objs.size + 1 := by rw [hs'.1, Heap.size_push]
    have keep' : ∀ b o, h3.get? b = some o → h'.get? b = some o := fun b o e => hs'.extBut b o (Nat.ne_of_lt (Heap.lt_size e)) (Heap.get?_push_of_some _ e)
    have Ok' : (genCx X N ((X.A.in1.in1).over (.compLoop (.GeneratorExp elt [⟨tg, iter, [], 0⟩] scope gpos) 0 (.ref it) .none cenv) []) { s2 with heap := h3, toks := tk } (upd H1 P (.tbl (ps ++ more))) cenv fp).Ok := by
      rw [← hcenv]
      refine genCx_ok I3 S ?_ hr.hd f3 hlt3
      show pushEnvs [_] (pushEnvs [] X.A.frames) = _
      rw [I1.ok.frames]
      rfl
    have hRoom : Room k ((X.A.in1.in1).over (.compLoop (.GeneratorExp elt [⟨tg, iter, [], 0⟩] scope gpos) 0 (.ref it) .none cenv) []) := by
      refine ⟨hr.hd, ?_, ?_⟩
      · have := hr.dp
        show X.A.depth + 0 + 1 + 3 * k + 5 < _
        omega
      · have := hr.un
        show X.A.units + 1 + 1 + 0 + 3 + 16 * k + 200 < _
        omega
    have hsc : cenv.scope = scope := by
      rw [← hcenv]
      rfl
    have hloc : cenv.locals = h3.objs.size := by
      rw [← hcenv]
      rfl
    have hcel : cenv.cells = [] := by
      rw [← hcenv]
      rfl
    obtain ⟨go, hgo⟩ : ∃ go : Obj, { cls := .type "generator", data := .fields #[.int s2.gens.size 0, .str "<genexpr>" (tk + 1), .str (X.env.qual ++ "<genexpr>") (tk + 1 + 1)] } = go := ⟨_, rfl⟩
    have keep5 : ∀ b o, h3.get? b = some o → (h'.push go).get? b = some o := fun b o e => Heap.get?_push_of_some _ (keep' b o e)
    have bare5 : AllBare (s2.gens.push (.fresh (.compStart (.GeneratorExp elt [⟨tg, iter, [], 0⟩] scope gpos) 0 (.ref it) .none cenv))) := I1.bare.push rfl
    have I5 : Inv (genCx X N ((X.A.in1.in1).over (.compLoop (.GeneratorExp elt [⟨tg, iter, [], 0⟩] scope gpos) 0 (.ref it) .none cenv) []) { s2 with heap := h3, toks := tk } (upd H1 P (.tbl (ps ++ more))) cenv fp) [(h'.objs.size, go)] (List.replicate N.length none)
        (upd H1 P (.tbl (ps ++ more))) { s2 with gens := s2.gens.push (.fresh (.compStart (.GeneratorExp elt [⟨tg, iter, [], 0⟩] scope gpos) 0 (.ref it) .none cenv)), toks := tk + 1 + 1 + 1, heap := h'.push go } := by
      subst hcenv
      refine genCx_inv (m := fun y => if y = ".0" then some (.ref it) else none) I3 Ok' keep5 (hn'.push _) (Heap.get?_push_size _ (by rw [← hgo]; rfl)) (by show h3.objs.size < h'.objs.size; omega) (fun v z => ?_) bare5
      rw [← hgo] at z
      cases z
    have hf5 : ∀ b ∈ fp, b ≠ cenv.locals ∧ b ∉ frs X.stack ∧ (b ∈ fp ∨ h3.objs.size ≤ b) ∧ (∀ x c, cenv.cells.lookup x = some c → c ≠ b) ∧ ∀ p ∈ [] ++ [(h'.objs.size, go)], p.1 ≠ b := fun b hb => by
      refine ⟨?_, fun z => ?_, .inl hb, fun x c e => ?_, fun p hp => ?_⟩
      · rw [hloc]
        exact Nat.ne_of_lt (hlt3 b hb)
      · rcases List.mem_cons.mp (I1.stkSub b z) with q | q
        · exact (f1 b hb).2.1 q
        · exact (f1 b hb).2.2.1 q
      · rw [hcel] at e
        cases e
      · have e : p = (h'.objs.size, go) := List.mem_singleton.mp hp
        subst e
        exact Nat.ne_of_gt (Nat.lt_trans (hlt3 b hb) (by rw [sz']; exact Nat.lt_succ_self _))
    have loop := seg_start (X := genCx X N ((X.A.in1.in1).over (.compLoop (.GeneratorExp elt [⟨tg, iter, [], 0⟩] scope gpos) 0 (.ref it) .none cenv) []) { s2 with heap := h3, toks := tk } (upd H1 P (.tbl (ps ++ more))) cenv fp)
      (B := X.A.in1.in1) (iter := iter) (scope := scope) (pos := gpos) (tn := tn) (pn0 := [(h'.objs.size, go)]) (W := W) rfl rfl rfl (by show cenv.scope.isCoroutine = false; rw [hsc]; exact S.co) T hf5 (hg _ _ _ _ _ hsc) (he _ _ _ _ _ hsc hRoom) turn m0
    refine Calls.spliced_nil ?_
    refine call_function_tree F.kind_all F.plain_all F.entry_all (F.args_all1 _) ?_
    unfold Builtin.«all»
    refine wpAny_bind (m := oneArg "all" _) (wpAny_pure ?_)
    have hgen : (h'.push go).IsGen h'.objs.size s2.gens.size := ⟨go, _, _, Heap.get?_push_size _ (by rw [← hgo]; rfl), by rw [← hgo], by rw [← hgo], by rw [← hgo]⟩
    subst hcenv
    subst hgo
    refine wpAny_bind (wpAny_pyIter_gen hgen ?_)
    refine wpAny_pure ⟨plainId_quiet F.plain_all_loop _, ?_⟩
    refine all_loop (X := (genCx X N ((X.A.in1.in1).over (.compLoop (.GeneratorExp elt [⟨tg, iter, [], 0⟩] scope gpos) 0 (.ref it) .none (genEnv scope [] h3.objs.size code builtinsNs X.env)) []) { s2 with heap := h3, toks := tk } (upd H1 P (.tbl (ps ++ more))) (genEnv scope [] h3.objs.size code builtinsNs X.env) fp)) (Q := Q) (A := X.A)
      (go := { cls := .type "generator", data := .fields #[.int s2.gens.size 0, .str "<genexpr>" (tk + 1), .str (X.env.qual ++ "<genexpr>") (tk + 1 + 1)] }) (pn0 := [(h'.objs.size, _)]) hr.hd (by have := hr.dp; omega) ⟨rfl, ⟨_, _, rfl⟩, rfl⟩ (List.mem_singleton.mpr rfl)
      (fun b s' σ' H' J q => ?_) (m0 + 1) _ _ _ _ I5 (Array.getElem?_push_size ..) ⟨rfl, ?_⟩
    · obtain ⟨hh, gg, dd, tt, oo⟩ := s'
      obtain rfl : oo = s2.os := J.os
      have I7 := I3.call (h' := hh) (g' := gg) (d' := dd) (t' := tt) (ch := fp) J.base J.hok J.bare fun b hb => ⟨(f1 b hb).2.2.2.1, (f1 b hb).2.1, (f1 b hb).2.2.2.2.1, (f1 b hb).2.2.2.2.2⟩
      exact ⟨.bl b, H', I7, rfl, q⟩
    · have I6 := inv_gens (s' := ({ s2 with gens := s2.gens.push (.fresh (.compStart (.GeneratorExp elt [⟨tg, iter, [], 0⟩] scope gpos) 0 (.ref it) .none (genEnv scope [] h3.objs.size code builtinsNs X.env))), toks := tk + 1 + 1 + 1, heap := h'.push { cls := .type "generator", data := .fields #[.int s2.gens.size 0, .str "<genexpr>" (tk + 1), .str (X.env.qual ++ "<genexpr>") (tk + 1 + 1)] } } : Shared).setGen s2.gens.size .running) I5 rfl rfl (bare_set I5.bare rfl)
      exact loop _ _ _ _ I6 (T.keep _ _ _ st3 fun b _ o e => keep5 b o e) fr3 w0
  cases hf : codeAmong gpos ps.toList with
  | none =>
    refine wpAny_genexprCodeX hcode (cd.code hPs ht) (cd.tab hPs) hf fun c' h' tk hx hge hlt hco' _ htab' _ => ?_
    obtain ⟨o1, vs, f1, tf, fl, tg, inF, tx, tt, op, _, _, _, _, _, _, _, _, _, htr, _⟩ := hco'
    exact cont _ h' tk _ hx (Nat.le_trans hge (Nat.le_of_lt hlt)) htab'.2 htr
  | some cv =>
    refine wpAny_genexprCode_hit hcode (cd.code hPs ht) hf ?_
    exact cont cv s2.heap s2.toks #[] (Heap.ExtBut.refl _ _) (Nat.le_refl _) (by simpa using hPs) (by simpa using ht)
end
/-! ### the turns, over a walk -/
theorem all_it {J : It} {n : Nat} {G : Hp → Prop} {Y : Nat → Hp → V → Hp → Prop} (wk : Walk J n G Y) {g : TG} {te : TE} {k : Nat} {Q : VK} {H2 : Hp} (Pv : Nat → Hp → Prop) (h0 : Pv 0 H2) (hG : ∀ i H, i ≤ n → Pv i H → G H)
    (hs : ∀ i x H H', i < n → Pv i H → Y i H x H' → g x (List.replicate k none) H' fun σ2 H2 => te σ2 H2 fun v H3 => ∃ b, v = .bl b ∧ if b = true then Pv (i + 1) H3 else Q (.bl false) H3) (hd : ∀ H, Pv n H → Q (.bl true) H) :
    ∃ W : Nat → Nat → Hp → Prop, (∃ m, W 0 m H2) ∧ GTurn J g te k Q W := by
  refine ⟨fun i m H => m = n - i ∧ i ≤ n ∧ Pv i H, ⟨n, by simp, Nat.zero_le _, h0⟩, fun i m H hw => ?_⟩
  obtain ⟨rfl, hi, p⟩ := hw
  by_cases hlt : i < n
  · exact .inr ⟨wk.goes i H hlt (hG i H hi p), Pv (i + 1), fun H' p' => ⟨n - (i + 1), by omega, rfl, hlt, p'⟩, fun x H' y => hs i x H H' hlt p (wk.yields i H x H' hlt (hG i H hi p) y)⟩
  · obtain rfl : i = n := by omega
    exact .inl ⟨wk.stops H (hG i H hi p), hd H p⟩
end GxA
set_option maxHeartbeats 4000000
namespace HM
open PySem PySem.Spec PyProof.Rows L2

/-! ### a promise of a def that is called where no repr is under way -/
structure FnG (P : Program) (w : World) (K : PySem.W.Frag) (mg : Str → Option Value) (base : Heap) (CX : CXT) (k : Nat) (f : Addr) (fd : FuncData) (ps : List Str) (sp : Sp) : Prop where
  len : ∀ vs H Q E, sp vs H Q E → vs.length = ps.length
  run : ∀ (A : Around) (outer : List Env) (s : Shared) (H : Hp) (args : Args) (us : List Value) (vs : List V) (Q : VK) (E : XK), Room k A → A.guards = some [] → Env0 P w K mg base A outer s H → BindsTo s fd args (ps.zip us) → Vals vs us →
    sp vs H Q E → codeAny (model P w) A (.call (.ref f) args) (CR CX outer P w H s Q E) s
section
variable {P : Program} {w : World} {K : PySem.W.Frag} {mg : Str → Option Value} {base : Heap} {CX : CXT} {k : Nat} {f : Addr} {fd : FuncData} {ps : List Str} {sp : Sp}
theorem FnG.of (F : FnOk P w K mg base CX k f fd ps sp) : FnG P w K mg base CX k f fd ps sp := ⟨F.len, fun A o s H a us vs Q E hr _ => F.run A o s H a us vs Q E hr⟩
theorem FnG.mono {j : Nat} (F : FnG P w K mg base CX k f fd ps sp) (h : k ≤ j) : FnG P w K mg base CX j f fd ps sp := ⟨F.len, fun A o s H a us vs Q E hr => F.run A o s H a us vs Q E (hr.mono h)⟩
variable {x qual : Str} {params : Arguments} {body : List Stmt} {scope : Scope} {dvs : List V} {kws : List (Str × V)} {N : List Str}
/-- the def's code object, by its place -/
def CodeAt (K : PySem.W.Frag) (f : Addr) (cdv : Value) : Prop := ∀ p, f = He.fAd K p → cdv = .ref (He.codeOf K p)
theorem codeAt_of {oc : Value} {od : Option Addr} {osl : Array (Option Value)} (lk : K.lookup f = some ⟨oc, od, .func fd, osl⟩) (hc : PySem.W.codeIn K fd.code qual = true) : CodeAt K f fd.code := fun p e => by
  obtain ⟨c, hc⟩ := He.codeIn_ref hc
  rw [e] at lk
  rw [He.codeOf_eq lk hc]
  exact hc
/-- a def by its body, the code object told -/
theorem ok_code (F : FunD K x qual params body scope dvs kws f fd) (S : FnScope N ps scope) (len : ∀ vs H Q E, sp vs H Q E → vs.length = ps.length)
    (hbody : ∀ (cdv : Value) (A : Around) (outer : List Env) (s : Shared) (H : Hp) (vs : List V) (Q : VK) (E : XK), CodeAt K f cdv → Room k (A.deeper (envOfC qual scope s.heap.objs.size f cdv)) → sp vs H Q E →
      ∃ t, PSs (cxOf CX0 P w K mg base N qual scope f cdv A outer s H E).nox body t ∧ t { nx := fun _ H' => Q .non H', rt := Q } (start N vs) H) : FnOk P w K mg base CX0 (k + 1) f fd ps sp := by
  obtain ⟨oc, od, dV, kV, doc, pm, an, cdv, ct, osl, rfl, lk, hcd, _, _⟩ := F.ex
  refine fn_of lk hcd S len fun A outer s H vs Q E hr hsp => ?_
  obtain ⟨t, h, q⟩ := hbody cdv A outer s H vs Q E (codeAt_of lk hcd) hr hsp
  exact ⟨t, h.nox, q⟩
theorem okG (F : FunD K x qual params body scope dvs kws f fd) (S : FnScope N ps scope) (len : ∀ vs H Q E, sp vs H Q E → vs.length = ps.length)
    (hbody : ∀ (cdv : Value) (A : Around) (outer : List Env) (s : Shared) (H : Hp) (vs : List V) (Q : VK) (E : XK), CodeAt K f cdv → Room k (A.deeper (envOfC qual scope s.heap.objs.size f cdv)) → (A.deeper (envOfC qual scope s.heap.objs.size f cdv)).guards = some [] → sp vs H Q E →
      ∃ t, PSs (cxOf CX P w K mg base N qual scope f cdv A outer s H E) body t ∧ t { nx := fun _ H' => Q .non H', rt := Q } (start N vs) H) : FnG P w K mg base CX (k + 1) f fd ps sp := by
  obtain ⟨oc, od, dV, kV, doc, pm, an, cdv, ct, osl, rfl, lk, hcd, _, _⟩ := F.ex
  refine ⟨len, fun A outer s H args us vs Q E hr hgd e0 hb r hsp => ?_⟩
  have hK : K.In s.heap := e0.mod.kin.keeps fun b o e => (e0.bs b o e).1
  have hL : s.heap.NoLimit := e0.mod.nolimit.keeps fun b o e => (e0.bs b o e).1
  refine codeAny_call_function hr.depth (hK _ _ lk) rfl S.co S.gen rfl (PySem.W.codeRec_of hK hcd) (hb _ _ _ _ ?_)
  refine wpAny_newFunctionEnv_cells S.kind (fun ⟨n, v⟩ hy => (S.par n (List.of_mem_zip hy).1).elim .inl fun q => .inr ⟨q, PySem.W.cellsFrom_some _ _ _ (.inl q)⟩) fun env he s1 hx => ?_
  subst he
  refine ⟨hL.keeps hx.toInCall.keep, codeAny_func ?_⟩
  obtain ⟨t, ht, hq⟩ := hbody cdv A outer s H vs Q E (codeAt_of lk hcd) (hr.deeper _) (by first | exact hgd | (rw [← hgd]; rfl)) hsp
  refine wpAny_mono (ht.run [] s1 (start N vs) H _ (inv_start S hr.hd e0 (len _ _ _ _ hsp) r hx) hq) (fun fl s' hs => ?_) fun e s' hs => hs
  have fin : ∀ {σ' : L2.St} {H' : Hp} {v : V} {u : Value}, Inv (cxOf CX P w K mg base N qual scope f cdv A outer s H E) [] σ' H' s' → RelV v u → Q v H' → CE outer P w H s Q u s' := fun {_ H' v _} J rv q => ⟨v, H', J.os, J.bare, J.base, J.hok, rv, q⟩
  match fl, hs with
  | .ret u, ⟨v, σ', H', J, rv, q⟩ => exact fin J rv q
  | .next, ⟨σ', H', J, q⟩ => exact fin (v := V.non) (u := Value.none) J rfl q
  | .brk, ⟨_, _, _, q⟩ => exact q.elim
  | .cont, ⟨_, _, _, q⟩ => exact q.elim
end
section
variable {X : Cx} {CX : CXT} {k : Nat} {f : Addr} {fd : FuncData} {ps : List Str} {sp : Sp} {dvs : List V} {ds : List Value} {E : XK} {x : Str} {p pos : Pos} {e : Expr} {es : List Expr} {t : TA}
theorem run_G {pins : List (Addr × Obj)} {σ : L2.St} {H : Hp} {s : Shared} {Q : VK} {us : List Value} {vs : List V} (F : FnG X.prog X.w X.K X.mg X.base CX k f fd ps sp) (hr : Room k X.A) (hg : X.A.guards = some []) (hb : Binds X.K fd ps ds) (hd : Vals dvs ds) (hx : Passes CX X E)
    (I : Inv X pins σ H s) (r : Vals vs us) (h : sp (vs ++ dvs) H Q E) : wpAny (model X.prog X.w) X.A (call (.ref f) us) (EP X pins σ Q) X.xe s := by
  have r2 : Vals (vs ++ dvs) (us ++ ds) := r.append hd
  refine wpAny_call (codeAny_mono (F.run X.A X.stack s H ⟨us, []⟩ (us ++ ds) (vs ++ dvs) Q E hr hg I.env0 (hb s us I.kIn (by rw [← r2.length]; exact F.len _ _ _ _ h)) r2 h) fun r s' hq => ?_)
  match r, hq with
  | .error e, hq => exact hx pins σ H s e s' I hq
  | .ok (.ret u), hq => exact I.after hq
theorem pe_callG (F : FnG X.prog X.w X.K X.mg X.base CX k f fd ps sp) (hr : Room k X.A) (hgd : X.A.guards = some []) (hg : Gl X x) (hm : X.mg x = some (.ref f)) (hk : PySem.W.keepIn X.K (.ref f) = true) (hb : Binds X.K fd ps ds) (hd : Vals dvs ds) (hx : Passes CX X E)
    (ha : PA X (e :: es) t) (hdb : (x == ("__debug__" : Str)) = false := by decide) (he : starEach (e :: es) X.env = (false, eval e X.env) :: starEach es X.env := by rfl) (hpl : (backTo pos (starEach es X.env)).any (·.1) = false := by rfl) :
    PE X (.Call (.Name x p) (e :: es) [] pos) (tCall sp dvs E t) :=
  ⟨fun pins s σ H Q I h => wpAny_Call_Name_kw (ld_glob I hg hm (PySem.W.callWith_K (h₀ := X.base) I.ok.mod.kin hk (thn (ha.run pos pins s σ H _ I h) fun us s1 ⟨vs, H1, I1, r, q⟩ => ⟨I1.kIn, run_G F hr hgd hb hd hx I1 r q⟩) he hpl) hdb)⟩
theorem pe_callG0 (F : FnG X.prog X.w X.K X.mg X.base CX k f fd ps sp) (hr : Room k X.A) (hgd : X.A.guards = some []) (hg : Gl X x) (hm : X.mg x = some (.ref f)) (hk : PySem.W.keepIn X.K (.ref f) = true) (hb : Binds X.K fd ps ds) (hd : Vals dvs ds) (hx : Passes CX X E)
    (hdb : (x == ("__debug__" : Str)) = false := by decide) : PE X (.Call (.Name x p) [] [] pos) (tCall sp dvs E tNil) :=
  ⟨fun pins s σ H Q I h => wpAny_Call_Name_kw (ld_glob I hg hm (PySem.W.callWith_K0 I.kIn hk (run_G (us := []) F hr hgd hb hd hx I .nil h)) hdb)⟩
end

/-! ### the law's own call, by a promise that asks that no repr is under way -/
section
variable {P : Program} {w : World} {K : PySem.W.Frag} {mg mb : Str → Option Value} {CX : CXT} {k : Nat} {fa a : Addr} {cs : List (Addr × Addr)} {fd : FuncData} {x : Str} {sp : Sp} {s₁ : Shared} {vs : List Value} {ns : List Int}
abbrev emptyT : Obj := { cls := .none, data := .fields #[] }
abbrev scriptO (vs : List Value) : Obj := { cls := .type "list", data := .seq vs.toArray }
open Classical in
/-- what is tracked when the law is called: the tables and the script -/
noncomputable def H0 (K : PySem.W.Frag) (cs : List (Addr × Addr)) (a : Addr) (vs : List Value) (ns : List Int) : Hp := fun b =>
  if b ∈ cs.map (·.2) then some (.tbl #[]) else if b = a ∧ K.lookup a = none then some (.frz (scriptO vs) (.lst (ns.map V.int))) else none
theorem H0_tab {b : Addr} (h : b ∈ cs.map (·.2)) : H0 K cs a vs ns b = some (.tbl #[]) := if_pos h
theorem H0_script (h : a ∉ cs.map (·.2)) (hk : K.lookup a = none) : H0 K cs a vs ns a = some (.frz (scriptO vs) (.lst (ns.map V.int))) := (if_neg h).trans (if_pos ⟨rfl, hk⟩)
theorem H0_some {b : Addr} {u : HO} (h : H0 K cs a vs ns b = some u) : (b ∈ cs.map (·.2) ∧ u = .tbl #[]) ∨ (b = a ∧ K.lookup a = none ∧ u = .frz (scriptO vs) (.lst (ns.map V.int))) := by
  by_cases h1 : b ∈ cs.map (·.2)
  · rw [H0_tab h1] at h
    exact .inl ⟨h1, (Option.some.inj h).symm⟩
  · by_cases h2 : b = a ∧ K.lookup a = none
    · have e : H0 K cs a vs ns b = some (.frz (scriptO vs) (.lst (ns.map V.int))) := (if_neg h1).trans (if_pos h2)
      rw [e] at h
      exact .inr ⟨h2.1, h2.2, (Option.some.inj h).symm⟩
    · have e : H0 K cs a vs ns b = none := (if_neg h1).trans (if_neg h2)
      rw [e] at h
      cases h
theorem law_callG (KX : K.In s₁.heap) (hns : s₁.heap.Ns mainGlobals mg) (hb : s₁.heap.Ns builtinsNs mb) (hbb : ∀ x : Str, x ≠ "__name__" → mb x = bootBuiltins x) (hlim : s₁.heap.NoLimit) (hg : s₁.gens = #[])
    (hT : ∀ p ∈ cs, s₁.heap.get? p.2 = some emptyT) (nT : ∀ p ∈ cs, K.lookup p.2 = none) (C : ∀ p ∈ cs, PySem.W.CodeHd s₁.heap p.1 p.2)
    (hbm : ∃ (bm : Addr) (ob : Obj), mg "__builtins__" = some (.ref bm) ∧ bm ≠ builtinsNs ∧ s₁.heap.get? bm = some ob ∧ ob.cls = .type "module" ∧ ob.dict = some builtinsNs ∧ ob.data = .plain)
    (ha : s₁.heap.get? a = some (scriptO vs)) (hi : IntsAre vs ns) (hl : ns.length ≤ sizeLine) (hr : Room k callerA)
    (F : ∀ base : Heap, K.In base → base.Ns mainGlobals mg → (∀ p ∈ cs, GxR.TabB base mg p.1 p.2) → FnG P w K mg base CX k fa fd [x] sp) (hbind : ∀ (s : Shared) (u : Value), BindsTo s fd ⟨[u], []⟩ [(x, u)])
    (hsp : ∀ H : Hp, (∀ p ∈ cs, H p.2 = some (.tbl #[])) → SqL K H a (ns.map V.int) → sp [.ref a] H (fun v _ => v = .bl true) fun _ _ _ => False)
    (hCX : ∀ H e s', CX [] H s₁ (fun _ _ _ => False) e s' → False) :
    codeAny (model P w) callerA (.call (.ref fa) ⟨[.ref a], []⟩) (fun r s' => r = .ok (.ret (.bool true)) ∧ OldK s₁.heap s'.heap ∧ s'.os = s₁.os ∧ AllBare s'.gens) s₁ := by
  have tabO : ∀ b ∈ cs.map (·.2), s₁.heap.get? b = some emptyT := fun b hb => by
    obtain ⟨p, hp, rfl⟩ := List.mem_map.mp hb
    exact hT p hp
  have aT : a ∉ cs.map (·.2) := fun z => by
    have q := (tabO a z).symm.trans ha
    cases q
  have rv := vals_ints hi
  have hlen : vs.length = ns.length := hi.length
  have sq : SqL K (H0 K cs a vs ns) a (ns.map V.int) := by
    cases q : K.lookup a with
    | none => exact .inl (.inr ⟨_, H0_script aT q⟩)
    | some o =>
      have e := (KX a o q).symm.trans ha
      cases e
      refine .inr ⟨_, vs.toArray, _, q, rfl, rfl, rfl, ?_, by simpa using rv⟩
      rw [List.size_toArray, hlen]
      exact hl
  have ok : HOk P w (H0 K cs a vs ns) s₁.heap := fun b u e => by
    rcases H0_some e with ⟨h1, rfl⟩ | ⟨rfl, _, rfl⟩
    · exact tabO b h1
    · exact ⟨ha, by rw [List.length_map]; exact hl, vs, _, rv, ha⟩
  -- what is neither a list nor an empty table is not tracked
  have free : ∀ {b : Addr} {o : Obj}, s₁.heap.get? b = some o → (∀ q n, o.data ≠ .seq q n) → o.data ≠ .fields #[] → H0 K cs a vs ns b = none := fun {b o} e h1 h2 => by
    cases q : H0 K cs a vs ns b with
    | none => rfl
    | some u =>
      rcases H0_some q with ⟨z, _⟩ | ⟨z, _⟩
      · rw [tabO b z] at e
        cases e
        exact absurd rfl h2
      · rw [z, ha] at e
        cases e
        exact absurd rfl (h1 _ _)
  have dict : ∀ {b : Addr} {o : Obj} {es : Array DictEntry} {ep : Nat}, s₁.heap.get? b = some o → o.data = .dict es ep → H0 K cs a vs ns b = none := fun {b o es ep} e d => free e (fun q n z => by rw [d] at z; cases z) fun z => by rw [d] at z; cases z
  have nsK : ∀ {b : Addr} {m : Str → Option Value}, s₁.heap.Ns b m → (hidT s₁.heap (H0 K cs a vs ns)).Ns b m := fun {b m} ⟨o, es, ep, e, d, r⟩ => ⟨o, es, ep, hidT_get e (dict e d), d, r⟩
  have kin : K.In (hidT s₁.heap (H0 K cs a vs ns)) := fun b o e => hidT_get (KX b o e) (by
    cases q : H0 K cs a vs ns b with
    | none => rfl
    | some u =>
      rcases H0_some q with ⟨z, _⟩ | ⟨rfl, z, _⟩
      · obtain ⟨p, hp, rfl⟩ := List.mem_map.mp z
        rw [nT p hp] at e
        cases e
      · rw [z] at e
        cases e)
  have mod : L2.Mod K mg (hidT s₁.heap (H0 K cs a vs ns)) := by
    obtain ⟨mc, l1, l2⟩ := hlim
    exact ⟨kin, nsK hns, ⟨mb, nsK hb, hbb⟩, mc, nsK l1, l2⟩
  have tb : ∀ p ∈ cs, GxR.TabB (hidT s₁.heap (H0 K cs a vs ns)) mg p.1 p.2 := fun p hp => by
    obtain ⟨og, eg, pg, g1, g2, _⟩ := hns
    obtain ⟨bm, ob, b1, b2, b3, b4, b5, b6⟩ := hbm
    obtain ⟨oc, us, file, tf, fl, tg, inF, tx, tt, c1, c2, c3, c4, c5, c6, c7, c8, c9, c10⟩ := C p hp
    have keepB : H0 K cs a vs ns bm = none := free b3 (fun q n z => by rw [b6] at z; cases z) fun z => by rw [b6] at z; cases z
    have keepC : H0 K cs a vs ns p.1 = none := free c1 (fun q n z => by rw [c3] at z; cases z) fun z => by
      rw [c3] at z
      cases z
      simp at c4
    refine ⟨⟨oc, us, file, tf, fl, tg, inF, tx, tt, hidT_get c1 keepC, c2, c3, c4, c5, c6, c7, c8, c9, c10⟩, ⟨bm, ob, b1, b2, fun z => ?_, fun z => ?_, hidT_get b3 keepB, b4, b5, b6⟩, fun z => ?_⟩
    · rw [z, g1] at b3
      cases b3
      rw [g2] at b6
      cases b6
    · rw [z, hT p hp] at b3
      cases b3
      cases b6
    · rw [z, hT p hp] at g1
      cases g1
      cases g2
  have e0 : Env0 P w K mg (hidT s₁.heap (H0 K cs a vs ns)) callerA [] s₁ (H0 K cs a vs ns) :=
    ⟨rfl, mod, fun b o e => of_hidT e, Nat.le_of_eq (hidT_size _ _), trivial, fun b hb => absurd (show b ∈ ([] : List Addr) from hb) (by simp), ok, .of_eq hg⟩
  refine codeAny_mono ((F _ kin (nsK hns) tb).run callerA [] s₁ (H0 K cs a vs ns) ⟨[.ref a], []⟩ [.ref a] [.ref a] _ _ hr rfl e0 (hbind s₁ (.ref a)) (.cons rfl .nil) (hsp _ (fun p hp => H0_tab (List.mem_map.mpr ⟨p, hp, rfl⟩)) sq)) fun r s' h => ?_
  match r, h with
  | .error e, h => exact (hCX _ e s' h).elim
  | .ok (.ret u), ⟨v, H', os, bare, un, ok', rr, q⟩ =>
    obtain rfl : v = .bl true := q
    obtain rfl : u = Value.bool true := rr
    have same : ∀ b o, b ∉ cs.map (·.2) → s₁.heap.get? b = some o → s'.heap.get? b = some o := fun b o nb e => by
      cases q : H0 K cs a vs ns b with
      | none => exact un.keep b o e q (by intro z; exact absurd (show b ∈ ([] : List Addr) from z) (by simp)) (by simp)
      | some u =>
        rcases H0_some q with ⟨z, _⟩ | ⟨rfl, _, rfl⟩
        · exact absurd z nb
        · obtain ⟨e1, _⟩ := ok' _ _ (un.frzs _ _ _ q)
          rw [ha] at e
          cases e
          exact e1
    have grown : ∀ p ∈ cs, ∃ more : Array Value, s'.heap.get? p.2 = some { cls := .none, data := .fields more } := fun p hp => by
      obtain ⟨more, z⟩ := un.tbls p.2 #[] (H0_tab (List.mem_map.mpr ⟨p, hp, rfl⟩))
      exact ⟨_, ok' p.2 _ z⟩
    refine ⟨rfl, ⟨fun b o e => ?_, fun b o e => ?_⟩, os, bare⟩
    · by_cases hb : b ∈ cs.map (·.2)
      · obtain ⟨p, hp, rfl⟩ := List.mem_map.mp hb
        obtain ⟨more, hm⟩ := grown p hp
        rw [hT p hp] at e
        cases e
        exact .inr (.inl ⟨((C p hp).tab (hT p hp)).isCodeTable, rfl, #[], more, rfl, by rw [Array.empty_append]; exact hm⟩)
      · exact .inl (same b o hb e)
    · by_cases hb : b ∈ cs.map (·.2)
      · obtain ⟨p, hp, rfl⟩ := List.mem_map.mp hb
        exact (grown p hp).elim fun more hm => ⟨_, hm⟩
      · exact ⟨o, same b o hb e⟩
end
/-- what the head's heap h must tell of the law -/
def LawG (l : PySem.W.OpenLaw) (w : World) (K : PySem.W.Frag) (CX : CXT) (k n : Nat) (x : Str) (mg : Str → Option Value) (fa : Addr) (h : Heap) : Prop :=
  ∃ (fd : FuncData) (cs : List (Addr × Addr)) (sp : Sp), (∀ p ∈ cs, h.get? p.2 = some emptyT) ∧ (∀ p ∈ cs, K.lookup p.2 = none) ∧ (∀ p ∈ cs, PySem.W.CodeHd h p.1 p.2) ∧ (∀ (s : Shared) (u : Value), BindsTo s fd ⟨[u], []⟩ [(x, u)]) ∧
    (∀ (H : Hp) (a : Addr) (ns : List Int), ns.length ≤ n → (∀ z ∈ ns, Builtin.Int.intBits z ≤ 1048576) → (∀ p ∈ cs, H p.2 = some (.tbl #[])) → SqL K H a (ns.map V.int) → sp [.ref a] H (fun v _ => v = .bl true) fun _ _ _ => False) ∧
    ∀ base : Heap, K.In base → base.Ns mainGlobals mg → (∀ p ∈ cs, GxR.TabB base mg p.1 p.2) → FnG l.prog w K mg base CX k fa fd [x] sp
theorem walkG {l : PySem.W.OpenLaw} {n k : Nat} {q : Program} {loose : List Str} {XP : (Str → Option Value) → Heap → Prop} {YP : World → Heap → Prop} {d : DefRec} {CX : World → CXT} {x : Str}
    (hn : l.most = some n) (hn2 : n ≤ sizeLine) (hdf : d.params.defaults = []) (hr : Room k callerA)
    (F : ∀ (w : World) (mg : Str → Option Value) (fa : Addr) (h : Heap), YP w h → h.Ns mainGlobals mg → mg d.name = some (.ref fa) → ∃ K : PySem.W.Frag, K.In h ∧ LawG l w K (CX w) k n x mg fa h)
    (hCX : ∀ (w : World) (H : Hp) (s : Shared) (e : Value) (s' : Shared), CX w [] H s (fun _ _ _ => False) e s' → False) :
    PySem.W.WalkO q loose XP YP l.row.toRowW d [] (fun f vs => PySem.call f vs) := by
  refine Att.attach_callB hn hdf fun w s₀ s₁ mg mb fa o pm cd doc a vs ns G Y ho hd hcd hmg hobj hints hlen hbits hg => ?_
  obtain ⟨K, KX, fd, cs, sp, h1, h2, h3, h4, h5, h6⟩ := F w mg fa _ Y G.T.g hmg
  exact law_callG KX G.T.g G.T.b G.T.builtins G.T.nolimit hg h1 h2 h3 G.T.bmain hobj hints (Nat.le_trans hlen hn2) hr h6 h4 (fun H hH hS => h5 H a ns hlen hbits hH hS) fun H e s' => hCX w H s₁ e s'

/-! ### tables of code objects, in the abstract heap -/
def TabsOk (Ps : List Addr) (H : Hp) : Prop := ∀ P ∈ Ps, GxR.TabG H P
/-- what is no table is as it was -/
def Sm (H H' : Hp) : Prop := ∀ b o, H b = some o → (∀ ps, o ≠ .tbl ps) → H' b = some o
theorem Sm.refl (H : Hp) : Sm H H := fun _ _ e _ => e
theorem Sm.trans {H H1 H2 : Hp} (a : Sm H H1) (b : Sm H1 H2) : Sm H H2 := fun c o e n => b c o (a c o e n) n
theorem Sm.new {H : Hp} {p : Addr} {o : HO} (h : H p = none) : Sm H (upd H p o) := fun b u e _ => by
  rw [upd_ne (ne_of_none e h)]
  exact e
theorem Sm.over {H H1 : Hp} {p : Addr} {o : HO} (a : Sm H H1) (h : H p = none) : Sm H (upd H1 p o) := fun b u e n => by
  rw [upd_ne (ne_of_none e h)]
  exact a b u e n
theorem Sm.lst {H H1 : Hp} {p : Addr} {xs : List V} (a : Sm H H1) (h : H p = some (.lst xs)) : H1 p = some (.lst xs) := a p _ h fun _ z => by cases z
theorem Sm.tup {H H1 : Hp} {p : Addr} {xs : List V} (a : Sm H H1) (h : H p = some (.tup xs)) : H1 p = some (.tup xs) := a p _ h fun _ z => by cases z
theorem Sm.seq {K : PySem.W.Frag} {H H1 : Hp} {p : Addr} {xs : List V} (a : Sm H H1) (h : SqL K H p xs) : SqL K H1 p xs := by
  rcases h with (h | ⟨o, h⟩) | h
  · exact .inl (.inl (a.lst h))
  · exact .inl (.inr ⟨o, a _ _ h fun _ z => by cases z⟩)
  · exact .inr h
theorem TabsOk.new {Ps : List Addr} {H : Hp} {p : Addr} {o : HO} (t : TabsOk Ps H) (h : H p = none) : TabsOk Ps (upd H p o) := fun P hP => by
  obtain ⟨ps, e, k⟩ := t P hP
  exact ⟨ps, by rw [upd_ne (ne_of_none e h)]; exact e, k⟩
theorem TabsOk.ne {Ps : List Addr} {H : Hp} {P p : Addr} {u : HO} (t : TabsOk Ps H) (hP : P ∈ Ps) (e : H p = some u) (n : ∀ ps, u ≠ .tbl ps) : p ≠ P := fun z => by
  obtain ⟨ps, e2, _⟩ := t P hP
  rw [z, e2] at e
  exact n ps (Option.some.inj e).symm
theorem TabsOk.put {Ps : List Addr} {H : Hp} {p : Addr} {o u : HO} (t : TabsOk Ps H) (e : H p = some u) (n : ∀ ps, u ≠ .tbl ps) : TabsOk Ps (upd H p o) := fun P hP => by
  have np := t.ne hP e n
  obtain ⟨ps, e2, k⟩ := t P hP
  exact ⟨ps, by rw [upd_ne (Ne.symm np)]; exact e2, k⟩
theorem TabsOk.tabbed {Ps : List Addr} {H H' : Hp} {P : Addr} (t : TabsOk Ps H) (h : GxR.Tabbed P H H') : TabsOk Ps H' := fun R hR => by
  by_cases e : R = P
  · rw [e]
    exact h.1
  · obtain ⟨ps, e2, k⟩ := t R hR
    exact ⟨ps, by rw [h.2 R e]; exact e2, k⟩
theorem sm_tabbed {H H' : Hp} {P : Addr} (t : GxR.TabG H P) (h : GxR.Tabbed P H H') : Sm H H' := fun b o e n => by
  by_cases z : b = P
  · obtain ⟨ps, e2, _⟩ := t
    rw [z, e2] at e
    exact absurd (Option.some.inj e).symm (n ps)
  · rw [h.2 b z]
    exact e
/-! ### repr of data -/
/-- repr(x), x a list or a tuple of data -/
def rReprD (K : PySem.W.Frag) : List V → Hp → VK → Prop := fun xs H Q => ∃ (a : Addr) (d : PyData), xs = [.ref a] ∧ Dp K H (.ref a) d ∧ d.showable = true ∧ d.hasDict = false ∧ d.depth ≤ 60 ∧ d.shown.length ≤ sizeLine ∧ Q (.str d.shown) H
theorem call_reprD {X : Cx} {k : Nat} (hr : Room k X.A) (hg : X.A.guards = some []) : CallR X (.builtin "repr") (rReprD X.K) := by
  intro pins s σ H xs us Q I r h
  obtain ⟨a, d, rfl, hd, hs, hn, hp, hl, q⟩ := h
  match us, r with
  | [_], .cons r1 .nil =>
    obtain ⟨as, rd⟩ := Dp.reads I d _ _ hd r1
    cases r1
    have := hr.un
    exact repr_of_reads' rd hs (fun z => by rw [hn] at z; cases z) hg (by omega) (fun _ _ e => e) (fun h' u tk kp => ⟨.str d.shown, H, I.kept kp, ⟨u, rfl⟩, q⟩) hl
/-- repr of a truth -/
def rReprB : List V → Hp → VK → Prop := fun xs H Q => ∃ b, xs = [.bl b] ∧ Q (.str (if b then "True" else "False")) H
end HM
set_option maxHeartbeats 1000000
namespace K11
open PySem PyProof.Rows SX
/-! ### the mathematics of names and paths: texts as lists of code points -/
def low (c : Nat) : Bool := decide (97 ≤ c) && decide (c ≤ 122)
def nameL (w : List Nat) : Bool := (decide (1 ≤ w.length) && decide (w.length ≤ 8)) && w.all low
def parts (l : List Nat) : List (List Nat) := TL.spl [46] 0 [] l
def pathL (l : List Nat) : Bool := decide ((parts l).length ≤ 4) && (parts l).all nameL
theorem pre_dot (r : List Nat) : TL.pre [46] (46 :: r) = true := by
  show ((46 :: r).take 1 == [46]) = true
  simp
theorem pre_no {c : Nat} (r : List Nat) (h : c ≠ 46) : TL.pre [46] (c :: r) = false := TL.pre_of_head [] r h
theorem spl_dot (acc r : List Nat) : TL.spl [46] 0 acc (46 :: r) = acc :: TL.spl [46] 0 [] r := TL.spl_hit (pre_dot r)
theorem spl_no (acc r : List Nat) {c : Nat} (h : c ≠ 46) : TL.spl [46] 0 acc (c :: r) = TL.spl [46] 0 (acc ++ [c]) r := TL.spl_miss (pre_no r h)
theorem spl_nil' (acc : List Nat) : TL.spl [46] 0 acc [] = [acc] := TL.spl_nil [46] 0 acc
theorem spl_ne (l : List Nat) : ∀ acc, TL.spl [46] 0 acc l ≠ [] := by
  induction l with
  | nil =>
    intro acc
    rw [spl_nil']
    exact List.cons_ne_nil _ _
  | cons c r ih =>
    intro acc
    by_cases h : c = 46
    · subst h
      rw [spl_dot]
      exact List.cons_ne_nil _ _
    · rw [spl_no acc r h]
      exact ih _
theorem spl_snoc_dot (l : List Nat) : ∀ acc, TL.spl [46] 0 acc (l ++ [46]) = TL.spl [46] 0 acc l ++ [[]] := by
  induction l with
  | nil =>
    intro acc
    show TL.spl [46] 0 acc [46] = _
    rw [spl_dot, spl_nil', spl_nil']
    rfl
  | cons c r ih =>
    intro acc
    by_cases h : c = 46
    · subst h
      show TL.spl [46] 0 acc (46 :: (r ++ [46])) = _
      rw [spl_dot, spl_dot, ih]
      rfl
    · show TL.spl [46] 0 acc (c :: (r ++ [46])) = _
      rw [spl_no _ _ h, spl_no _ _ h, ih]
theorem spl_snoc {c : Nat} (hc : c ≠ 46) (l : List Nat) : ∀ acc i w, TL.spl [46] 0 acc l = i ++ [w] → TL.spl [46] 0 acc (l ++ [c]) = i ++ [w ++ [c]] := by
  induction l with
  | nil =>
    intro acc i w e
    rw [spl_nil'] at e
    show TL.spl [46] 0 acc [c] = _
    rw [spl_no _ _ hc, spl_nil']
    have e2 : [] ++ [acc] = i ++ [w] := e
    obtain ⟨e3, e4⟩ := List.append_inj' e2 rfl
    subst e3
    rw [List.cons.inj e4 |>.1]
    rfl
  | cons d r ih =>
    intro acc i w e
    by_cases h : d = 46
    · subst h
      show TL.spl [46] 0 acc (46 :: (r ++ [c])) = _
      rw [spl_dot] at e ⊢
      cases i with
      | nil =>
        have e2 := (List.cons.inj e).2
        exact absurd e2 (spl_ne r [])
      | cons a i =>
        obtain ⟨e2, e3⟩ := List.cons.inj e
        rw [ih [] i w e3, e2]
        rfl
    · show TL.spl [46] 0 acc (d :: (r ++ [c])) = _
      rw [spl_no _ _ h] at e ⊢
      exact ih _ i w e
theorem joinL_cons (S p : List Nat) {l : List (List Nat)} (h : l ≠ []) : TL.joinL S (p :: l) = p ++ (S ++ TL.joinL S l) := by
  cases l with
  | nil => exact absurd rfl h
  | cons q r => rfl
theorem joinL_snoc (S y : List Nat) : ∀ {l : List (List Nat)}, l ≠ [] → TL.joinL S (l ++ [y]) = TL.joinL S l ++ S ++ y
  | [], h => absurd rfl h
  | [p], _ => by
    show p ++ (S ++ y) = p ++ S ++ y
    rw [List.append_assoc]
  | p :: q :: r, _ => by
    show TL.joinL S (p :: ((q :: r) ++ [y])) = _
    rw [joinL_cons S p (by simp), joinL_cons S p (List.cons_ne_nil q r), joinL_snoc S y (List.cons_ne_nil q r)]
    simp [List.append_assoc]
theorem join_spl (l : List Nat) : ∀ acc, TL.joinL [46] (TL.spl [46] 0 acc l) = acc ++ l := by
  induction l with
  | nil =>
    intro acc
    rw [spl_nil']
    simp [TL.joinL]
  | cons c r ih =>
    intro acc
    by_cases h : c = 46
    · subst h
      rw [spl_dot, joinL_cons _ _ (spl_ne r []), ih]
      simp
    · rw [spl_no _ _ h, ih]
      simp
theorem join_parts (l : List Nat) : TL.joinL [46] (parts l) = l := join_spl l []
theorem parts_ne (l : List Nat) : parts l ≠ [] := spl_ne l []
theorem spl_nodot (l : List Nat) (h : 46 ∉ l) : ∀ acc, TL.spl [46] 0 acc l = [acc ++ l] := by
  induction l with
  | nil =>
    intro acc
    rw [spl_nil', List.append_nil]
  | cons c r ih =>
    intro acc
    have hc : c ≠ 46 := fun e => h (by rw [e]; exact List.mem_cons_self)
    rw [spl_no _ _ hc, ih (fun z => h (List.mem_cons_of_mem _ z))]
    simp
theorem spl_dot_len (l : List Nat) (h : 46 ∈ l) : ∀ acc, 2 ≤ (TL.spl [46] 0 acc l).length := by
  induction l with
  | nil => cases h
  | cons c r ih =>
    intro acc
    by_cases hc : c = 46
    · subst hc
      rw [spl_dot, List.length_cons]
      have := List.length_pos_iff.mpr (spl_ne r [])
      omega
    · rw [spl_no _ _ hc]
      refine ih ?_ _
      rcases List.mem_cons.mp h with z | z
      · exact absurd z.symm hc
      · exact z
theorem low_dot : low 46 = false := by decide
/-- a name is a path of one part -/
theorem name_one (l : List Nat) : nameL l = (decide ((parts l).length = 1) && (parts l).all nameL) := by
  by_cases h : 46 ∈ l
  · have h1 : nameL l = false := by
      unfold nameL
      have : l.all low = false := by
        rw [List.all_eq_false]
        exact ⟨46, h, by rw [low_dot]; exact Bool.false_ne_true⟩
      rw [this, Bool.and_false]
    have h2 := spl_dot_len l h []
    have h3 : decide ((parts l).length = 1) = false := decide_eq_false (by unfold parts; omega)
    rw [h1, h3, Bool.false_and]
  · have e : parts l = [l] := spl_nodot l h []
    rw [e]
    simp
/-- the beginnings of a list of words -/
def begs (ws : List (List Nat)) : List (List Nat) := (List.range ws.length).map fun i => TL.joinL [46] (ws.take (i + 1))
theorem begs_len (ws : List (List Nat)) : (begs ws).length = ws.length := by
  unfold begs
  rw [List.length_map, List.length_range]
theorem begs_get {ws : List (List Nat)} {i : Nat} (h : i < ws.length) : (begs ws)[i]? = some (TL.joinL [46] (ws.take (i + 1))) := by
  unfold begs
  rw [List.getElem?_map, List.getElem?_range h]
  rfl
theorem take_snoc {α : Type} {xs : List α} {i : Nat} {x : α} (h : xs[i]? = some x) : xs.take (i + 1) = xs.take i ++ [x] := by
  rw [List.take_add_one, h]
  rfl
theorem begs_step {ws : List (List Nat)} {i : Nat} {y : List Nat} (h : ws[i + 1]? = some y) : TL.joinL [46] (ws.take (i + 1)) ++ [46] ++ y = TL.joinL [46] (ws.take (i + 1 + 1)) := by
  have hi := (List.getElem?_eq_some_iff.mp h).1
  rw [take_snoc h, joinL_snoc]
  intro e
  have := congrArg List.length e
  rw [List.length_take, List.length_nil] at this
  omega
/-! ### signs of the alphabet -/
abbrev abc0 : List Nat := [97, 98, 99, 100, 101, 102, 103, 104, 105, 106, 107, 108, 109, 110, 111, 112, 113, 114, 115, 116, 117, 118, 119, 120, 121, 122]
theorem cnt_abc (c : Nat) : cnt c abc0 = if low c = true then 1 else 0 := by
  simp only [cnt_cons, cnt_nil]
  by_cases h : low c = true
  · rw [if_pos h]
    unfold low at h
    obtain ⟨h1, h2⟩ := Bool.and_eq_true_iff.mp h
    have a1 := of_decide_eq_true h1
    have a2 := of_decide_eq_true h2
    obtain ⟨k, hk, rfl⟩ : ∃ k, k < 26 ∧ c = 97 + k := ⟨c - 97, by omega, by omega⟩
    have : ∀ k, k < 26 → ((if 97 = 97 + k then (1 : Int) else 0) + ((if 98 = 97 + k then 1 else 0) + ((if 99 = 97 + k then 1 else 0) + ((if 100 = 97 + k then 1 else 0) + ((if 101 = 97 + k then 1 else 0) + ((if 102 = 97 + k then 1 else 0) + ((if 103 = 97 + k then 1 else 0) + ((if 104 = 97 + k then 1 else 0) + ((if 105 = 97 + k then 1 else 0) + ((if 106 = 97 + k then 1 else 0) + ((if 107 = 97 + k then 1 else 0) + ((if 108 = 97 + k then 1 else 0) + ((if 109 = 97 + k then 1 else 0) + ((if 110 = 97 + k then 1 else 0) + ((if 111 = 97 + k then 1 else 0) + ((if 112 = 97 + k then 1 else 0) + ((if 113 = 97 + k then 1 else 0) + ((if 114 = 97 + k then 1 else 0) + ((if 115 = 97 + k then 1 else 0) + ((if 116 = 97 + k then 1 else 0) + ((if 117 = 97 + k then 1 else 0) + ((if 118 = 97 + k then 1 else 0) + ((if 119 = 97 + k then 1 else 0) + ((if 120 = 97 + k then 1 else 0) + ((if 121 = 97 + k then 1 else 0) + ((if 122 = 97 + k then 1 else 0) + 0)))))))))))))))))))))))))) = 1 := by decide +kernel
    exact this k hk
  · rw [if_neg h]
    have hc : c < 97 ∨ 122 < c := by
      refine Classical.byContradiction fun z => h ?_
      unfold low
      rw [decide_eq_true (show 97 ≤ c by omega), decide_eq_true (show c ≤ 122 by omega)]
      rfl
    have ne : ∀ k : Nat, 97 ≤ k → k ≤ 122 → (if k = c then (1 : Int) else 0) = 0 := fun k h1 h2 => if_neg (by omega)
    rw [ne 97 (by decide) (by decide), ne 98 (by decide) (by decide), ne 99 (by decide) (by decide), ne 100 (by decide) (by decide), ne 101 (by decide) (by decide), ne 102 (by decide) (by decide), ne 103 (by decide) (by decide), ne 104 (by decide) (by decide), ne 105 (by decide) (by decide), ne 106 (by decide) (by decide), ne 107 (by decide) (by decide), ne 108 (by decide) (by decide), ne 109 (by decide) (by decide), ne 110 (by decide) (by decide), ne 111 (by decide) (by decide), ne 112 (by decide) (by decide), ne 113 (by decide) (by decide), ne 114 (by decide) (by decide), ne 115 (by decide) (by decide), ne 116 (by decide) (by decide), ne 117 (by decide) (by decide), ne 118 (by decide) (by decide), ne 119 (by decide) (by decide), ne 120 (by decide) (by decide), ne 121 (by decide) (by decide), ne 122 (by decide) (by decide)]
    rfl
/-- how many of the signs are small letters -/
def lows (w : List Nat) : Nat := (w.filter low).length
theorem lows_le (w : List Nat) : lows w ≤ w.length := List.length_filter_le _ _
theorem lows_all (w : List Nat) : (lows w = w.length) ↔ w.all low = true := by
  unfold lows
  rw [List.length_filter_eq_length_iff, List.all_eq_true]
/-- the law's word -/
theorem word_name (w : List Nat) : (decide (lows w = w.length) && (decide (0 < lows w) && decide (lows w < 9))) = nameL w := by
  unfold nameL
  by_cases h : w.all low = true
  · have e := (lows_all w).mpr h
    rw [h, e, decide_eq_true rfl]
    by_cases h1 : 1 ≤ w.length
    · by_cases h2 : w.length ≤ 8
      · simp [h1, h2, show 0 < w.length by omega, show w.length < 9 by omega]
      · simp [h2, show ¬ w.length < 9 by omega]
    · simp [h1, show ¬ 0 < w.length by omega]
  · have e : ¬ lows w = w.length := fun z => h ((lows_all w).mp z)
    rw [decide_eq_false e, Bool.eq_false_iff.mpr h, Bool.and_false, Bool.false_and]
/-- one sign between a and z -/
theorem between (c : Nat) : (if (!decide ([c] < [97])) = true then !decide ([122] < [c]) else false) = low c := by
  have l1 : ∀ a b : Nat, decide ([a] < [b]) = decide (a < b) := fun a b => by
    by_cases h : a < b
    · rw [decide_eq_true h, decide_eq_true (show [a] < [b] from List.Lex.rel h)]
    · rw [decide_eq_false h]
      refine decide_eq_false fun z => ?_
      cases z with
      | rel q => exact h q
      | cons q => cases q
  rw [l1, l1]
  unfold low
  by_cases h1 : c < 97 <;> by_cases h2 : 122 < c <;> simp [h1, h2, Nat.not_le] <;> omega
end K11
set_option maxHeartbeats 4000000
namespace XD
open PySem PySem.Spec PyProof.Rows L2 HM SX K11
/-! ### things: what rows are judged over -/
inductive Th where
  | non
  | bl (b : Bool)
  | int (i : Int)
  | str (l : List Nat)
  | tup (ts : List Th)
  | lst
  | dct
mutual
inductive Tt (K : PySem.W.Frag) (H : Hp) : V → Th → Prop
  | non : Tt K H .non .non
  | bl (b : Bool) : Tt K H (.bl b) (.bl b)
  | int (i : Int) : Tt K H (.int i) (.int i)
  | str (l : List Nat) (h : l.length ≤ 900) : Tt K H (.str (S l)) (.str l)
  | tup {a : Addr} {xs : List V} {ts : List Th} : SqT K H a xs → TtAll K H xs ts → Tt K H (.ref a) (.tup ts)
  | lst {a : Addr} {xs : List V} : SqL K H a xs → Tt K H (.ref a) .lst
  | dct {a : Addr} {kvs : List (Key × V)} : H a = some (.dK kvs) → Tt K H (.ref a) .dct
inductive TtAll (K : PySem.W.Frag) (H : Hp) : List V → List Th → Prop
  | nil : TtAll K H [] []
  | cons {v : V} {vs : List V} {t : Th} {ts : List Th} : Tt K H v t → TtAll K H vs ts → TtAll K H (v :: vs) (t :: ts)
end
theorem sqT_sm {K : PySem.W.Frag} {H H' : Hp} {a : Addr} {xs : List V} (s : Sm H H') (h : SqT K H a xs) : SqT K H' a xs := by
  rcases h with (h | ⟨o, h⟩) | h
  · exact .inl (.inl (s.tup h))
  · exact .inl (.inr ⟨o, s _ _ h fun _ z => by cases z⟩)
  · exact .inr h
mutual
theorem Tt.sm {K : PySem.W.Frag} {H H' : Hp} (s : Sm H H') : ∀ {v : V} {t : Th}, Tt K H v t → Tt K H' v t
  | _, _, .non => .non
  | _, _, .bl b => .bl b
  | _, _, .int i => .int i
  | _, _, .str l h => .str l h
  | _, _, .tup h r => .tup (sqT_sm s h) (TtAll.sm s r)
  | _, _, .lst h => .lst (s.seq h)
  | _, _, .dct h => .dct (s _ _ h fun _ z => by cases z)
theorem TtAll.sm {K : PySem.W.Frag} {H H' : Hp} (s : Sm H H') : ∀ {vs : List V} {ts : List Th}, TtAll K H vs ts → TtAll K H' vs ts
  | _, _, .nil => .nil
  | _, _, .cons h r => .cons (Tt.sm s h) (TtAll.sm s r)
end
theorem TtAll.len {K : PySem.W.Frag} {H : Hp} : ∀ {vs : List V} {ts : List Th}, TtAll K H vs ts → vs.length = ts.length
  | _, _, .nil => rfl
  | _, _, .cons h r => by rw [List.length_cons, List.length_cons, TtAll.len r]
theorem TtAll.get {K : PySem.W.Frag} {H : Hp} : ∀ {vs : List V} {ts : List Th} (i : Nat) {v : V}, TtAll K H vs ts → vs[i]? = some v → ∃ t, ts[i]? = some t ∧ Tt K H v t
  | _, _, _, _, .nil, h => by cases h
  | _, _, 0, _, .cons h r, e => by
    cases e
    exact ⟨_, rfl, h⟩
  | _, _, i + 1, _, .cons h r, e => TtAll.get i r e
/-- a thing's type -/
def tyN : Th → String
  | .non => "NoneType"
  | .bl _ => "bool"
  | .int _ => "int"
  | .str _ => "str"
  | .tup _ => "tuple"
  | .lst => "list"
  | .dct => "dict"
theorem Tt.ty {K : PySem.W.Frag} {H : Hp} {v : V} {t : Th} (h : Tt K H v t) : TyX K H v (.type (tyN t)) := by
  cases h with
  | non => exact .base .non
  | bl b => exact .base (.bl b)
  | int i => exact .base (.int i)
  | str l h => exact .base (.str _)
  | tup h r =>
    rcases h with (h | ⟨o, h⟩) | ⟨o, its, n, h1, h2, _⟩
    · exact .base (.tup h)
    · exact .fTuple h
    · exact .kTuple h1 h2
  | lst h =>
    rcases h with (h | ⟨o, h⟩) | ⟨o, its, n, h1, h2, _⟩
    · exact .base (.lst h)
    · exact .base (.frz h)
    · exact .kList h1 h2
  | dct h => exact .base (.dK h)
def isS : Th → Bool | .str _ => true | _ => false
def isT : Th → Bool | .tup _ => true | _ => false
def isI : Th → Bool | .bl _ => true | .int _ => true | _ => false
def isB : Th → Bool | .bl _ => true | _ => false
theorem kS (t : Th) : kitB (tyN t) "str" = some (isS t) := by
  cases t with
  | non => decide +kernel
  | bl b => exact (by decide +kernel : kitB "bool" "str" = some false)
  | int i => exact (by decide +kernel : kitB "int" "str" = some false)
  | str l => exact (by decide +kernel : kitB "str" "str" = some true)
  | tup ts => exact (by decide +kernel : kitB "tuple" "str" = some false)
  | lst => decide +kernel
  | dct => decide +kernel
theorem kT (t : Th) : kitB (tyN t) "tuple" = some (isT t) := by
  cases t with
  | non => decide +kernel
  | bl b => exact (by decide +kernel : kitB "bool" "tuple" = some false)
  | int i => exact (by decide +kernel : kitB "int" "tuple" = some false)
  | str l => exact (by decide +kernel : kitB "str" "tuple" = some false)
  | tup ts => exact (by decide +kernel : kitB "tuple" "tuple" = some true)
  | lst => decide +kernel
  | dct => decide +kernel
theorem kI (t : Th) : kitB (tyN t) "int" = some (isI t) := by
  cases t with
  | non => decide +kernel
  | bl b => exact (by decide +kernel : kitB "bool" "int" = some true)
  | int i => exact (by decide +kernel : kitB "int" "int" = some true)
  | str l => exact (by decide +kernel : kitB "str" "int" = some false)
  | tup ts => exact (by decide +kernel : kitB "tuple" "int" = some false)
  | lst => decide +kernel
  | dct => decide +kernel
theorem kB (t : Th) : kitB (tyN t) "bool" = some (isB t) := by
  cases t with
  | non => decide +kernel
  | bl b => exact (by decide +kernel : kitB "bool" "bool" = some true)
  | int i => exact (by decide +kernel : kitB "int" "bool" = some false)
  | str l => exact (by decide +kernel : kitB "str" "bool" = some false)
  | tup ts => exact (by decide +kernel : kitB "tuple" "bool" = some false)
  | lst => decide +kernel
  | dct => decide +kernel
/-! ### d.get(k), d a written dict with texts for keys -/
def KGet (K : PySem.W.Frag) (w : World) (p : Addr) (z : Str) (o : Option V) : Prop := ∃ es n r, K.lookup p = some ⟨.type "dict", none, .dict es n, #[]⟩ ∧ PySem.W.KeysLit w.params es.toList ∧ (p == sysModules) = false ∧ PySem.W.nsIn K p z = some r ∧ RelO o r
def tKGet (K : PySem.W.Frag) (w : World) (td ty : TE) : TE := fun σ H Q => td σ H fun x H1 => ∃ (p : Addr) (es : Array DictEntry) (n : Nat), x = .ref p ∧ K.lookup p = some ⟨.type "dict", none, .dict es n, #[]⟩ ∧ ty σ H1 fun y H2 => ∃ z o, y = .str z ∧ KGet K w p z o ∧ Q (o.getD .non) H2
section
variable {X : Cx} {o e : Expr} {apos cpos : Pos} {td ty : TE}
theorem pe_kget (ho : PE X o td) (he : PE X e ty) (m : M1 X o "get" apos e cpos) : PE X (.Call (.Attribute o "get" apos) [e] [] cpos) (tKGet X.K X.w td ty) := by
  refine ⟨fun pins s σ H Q I h => ?_⟩
  refine wpAny_Call_method m.base m.few m.line PySem.F.plainAttrs_dict PySem.F.slot_dict_get PySem.F.type_dict_get (thn (ho.run pins s σ H _ I h) fun u s1 ⟨x, H1, I1, rx, p, es, n, ex, hl, q1⟩ => ?_)
  subst ex
  cases rx
  refine ⟨⟨_, I1.kIn _ _ hl, rfl⟩, fun b z => ?_, ?_⟩
  · cases z
    exact ⟨_, I1.kIn _ _ hl, rfl⟩
  rw [m.trees]
  refine Calls.callWith_builtin rfl (Calls.evalArgs_plain (Calls.spliced_cons (thn (he.run pins s1 σ H1 _ I1 q1) fun iv s2 ⟨y, H2, I2, ry, z, ov, ey, g, q2⟩ => Calls.spliced_nil ?_)))
  subst ey
  obtain ⟨t, rfl⟩ := ry
  obtain ⟨es2, n2, r, hl2, hk, hs, hn, hr⟩ := g
  have hm := PySem.W.mapOf_K (prog := X.prog) (w := X.w) I2.kIn hl2 hk
  refine call_meetsIn PySem.F.slot_dict_get hm.typeIs PySem.F.entry_dict_get (PySem.F.args_dict_get_2 _ _) (meets_dict_get (strKind X.prog X.w) p (strKind_is X.prog X.w z t) hs) ⟨_, hm, _, H2, I2.tok _, ?_, q2⟩
  rw [PySem.W.find_K hl2 hn]
  exact hr.getD rfl
end
/-- zip of two tuples -/
theorem walk_zipT {K : PySem.W.Frag} {a b : Addr} {xs ys : List V} {n : Nat} (hn : n = min xs.length ys.length) : Walk (RZ.ItzT K a b) n (fun H => SqT K H a xs ∧ SqT K H b ys) (YPair (fun i => xs[i]?) (fun i => ys[i]?)) := by
  subst hn
  refine ⟨fun i _ hi q => ?_, fun _ q => ⟨xs, ys, q.1, q.2, by omega⟩, fun i H v H' _ q y => ?_⟩
  · have h1 : i < xs.length := by omega
    have h2 : i < ys.length := by omega
    exact ⟨xs, ys, xs[i], ys[i], q.1, q.2, by simp [h1], by simp [h2]⟩
  · obtain ⟨T, x, z, h1, h2, h3, h4, h5⟩ := y
    exact ⟨T, x, z, h1, h2, h3, h4 xs q.1, h5 ys q.2⟩
end XD
set_option maxHeartbeats 4000000
/-! The draws of the laws, apart from any row: a pot of a cell's digits and a running number. -/
namespace XW
open PySem PySem.Spec PyProof.Rows L2 HM
/-- the k-th cell, or 0 -/
def spAt (K : PySem.W.Frag) : Sp := fun vs H Q _ => ∃ (a : Addr) (ns : List Int) (k : Nat), vs = [.ref a, .int k] ∧ SqL K H a (ns.map V.int) ∧ Q (.int (ns.getD k 0)) H
/-- a pot: what is left of the cell's digits, and the running number -/
structure PotOk (p0 p1 : Int) : Prop where
  h0 : 0 ≤ p0
  h1 : 0 ≤ p1
  h2 : p1 < 2147483648
def PotAt (H : Hp) (l : Addr) : Prop := ∃ p0 p1, H l = some (.lst [.int p0, .int p1]) ∧ PotOk p0 p1
def spPot (K : PySem.W.Frag) : Sp := fun vs H Q _ => ∃ (a : Addr) (ns : List Int) (k : Nat), vs = [.ref a, .int k] ∧ k ≤ 100 ∧ SqL K H a (ns.map V.int) ∧ ∀ l p0 p1, H l = none → PotOk p0 p1 → Q (.ref l) (upd H l (.lst [.int p0, .int p1]))
/-- a draw: some number below many; the pot goes on -/
def spDraw : Sp := fun vs H Q _ => ∃ (l : Addr) (many p0 p1 : Int), vs = [.ref l, .int many] ∧ 0 < many ∧ many.natAbs.log2 < 9000 ∧ H l = some (.lst [.int p0, .int p1]) ∧ PotOk p0 p1 ∧
  ∀ H' d, (∀ b o, H b = some o → b ≠ l → H' b = some o) → PotAt H' l → 0 ≤ d → d < many → Q (.int d) H'
/-! ### heaps that go on but for a pot -/
def Ch (l : Addr) (H H' : Hp) : Prop := ∀ b o, H b = some o → b ≠ l → H' b = some o
theorem Ch.refl (l : Addr) (H : Hp) : Ch l H H := fun _ _ e _ => e
theorem Ch.trans {l : Addr} {H H1 H2 : Hp} (a : Ch l H H1) (b : Ch l H1 H2) : Ch l H H2 := fun c o e n => b c o (a c o e n) n
theorem Ch.new {l : Addr} {H : Hp} {p : Addr} {o : HO} (h : H p = none) : Ch l H (upd H p o) := fun b u e _ => by
  rw [upd_ne (ne_of_none e h)]
  exact e
/-- a new thing is changed -/
theorem Ch.over {l : Addr} {H H1 : Hp} {p : Addr} {o : HO} (a : Ch l H H1) (h : H p = none) : Ch l H (upd H1 p o) := fun b u e n => by
  rw [upd_ne (ne_of_none e h)]
  exact a b u e n
theorem Ch.free {l : Addr} {H H1 : Hp} {p : Addr} (a : Ch l H H1) (h : H1 p = none) (n : p ≠ l) : H p = none := by
  cases e : H p with
  | none => rfl
  | some o =>
    rw [a p o e n] at h
    cases h
theorem map_snoc {α : Type} (f : α → V) (xs : List α) (x : α) : xs.map f ++ [f x] = (xs ++ [x]).map f := by simp
theorem PotAt.new {l : Addr} {H : Hp} {p : Addr} {o : HO} (h : PotAt H l) (hp : p ≠ l) : PotAt (upd H p o) l := by
  obtain ⟨p0, p1, e, k⟩ := h
  exact ⟨p0, p1, by rw [upd_ne (Ne.symm hp)]; exact e, k⟩
theorem PotAt.ne {l : Addr} {H : Hp} {p : Addr} (h : PotAt H l) (hp : H p = none) : p ≠ l := by
  obtain ⟨p0, p1, e, k⟩ := h
  exact fun z => by
    rw [z, e] at hp
    cases hp
theorem draw_of {l : Addr} {H : Hp} {many : Int} {Q : VK} {E : XK} (hP : PotAt H l) (h0 : 0 < many) (h1 : many.natAbs.log2 < 9000) (q : ∀ H' d, Ch l H H' → PotAt H' l → 0 ≤ d → d < many → Q (.int d) H') : spDraw ([.ref l, .int many] ++ []) H Q E := by
  obtain ⟨p0, p1, e, k⟩ := hP
  exact ⟨l, many, p0, p1, rfl, h0, h1, e, k, q⟩
theorem len_join (a : Str) (ys : List Str) : (Txt.join a ys).length ≤ (ys.map (·.length)).sum + ys.length * a.length := by
  rw [TL.join_eq]
  exact StrLaws.join_length_le a ys
theorem str_len (x y : Str) : (x ++ y).length = x.length + y.length := strLen_append x y
/-! ### signs that a text may have -/
def okS (z : Str) : Prop := ∀ c ∈ z.cps.toList, c < 1114112
theorem okS_cut {z : Str} (h : okS z) (lo hi : Option Int) : okS (cutS z lo hi) := fun c hc => h c (List.mem_of_mem_drop (List.mem_of_mem_take hc))
theorem okS_app {x y : Str} (hx : okS x) (hy : okS y) : okS (x ++ y) := fun c hc => by
  have e : (x ++ y).cps.toList = x.cps.toList ++ y.cps.toList := TL.tl_append x y
  rw [e] at hc
  rcases List.mem_append.mp hc with z | z
  · exact hx c z
  · exact hy c z
theorem okS_one {c : Nat} (h : c < 1114112) : okS ⟨#[c]⟩ := fun d hd => by
  have e : d = c := by simpa using hd
  rw [e]
  exact h
theorem okS_strJoin {a : Str} (ha : okS a) : ∀ {ys : List Str}, (∀ y ∈ ys, okS y) → okS (Str.join a ys)
  | [], _ => fun c hc => by
    have : c ∈ ([] : List Nat) := hc
    cases this
  | [x], h => h x List.mem_cons_self
  | x :: z :: r, h => okS_app (okS_app (h x List.mem_cons_self) ha) (okS_strJoin ha fun y hy => h y (List.mem_cons_of_mem _ hy))
theorem okS_join {a : Str} (ha : okS a) {ys : List Str} (h : ∀ y ∈ ys, okS y) : okS (Txt.join a ys) := by
  rw [TL.join_eq]
  exact okS_strJoin ha h
abbrev abc : Str := Str.ofString "abcdefghijklmnopqrstuvwxyz"
theorem abc_len : abc.cps.toList.length = 26 := by decide +kernel
/-- the scope of the outer comprehension of the words -/
def lcScope : Expr → Scope
  | .ListComp _ _ sc _ => sc
  | _ => { kind := .function, names := [], isGenerator := false, isCoroutine := false }
def asgVal : Stmt → Expr
  | .Assign _ v _ => v
  | _ => .Constant .none 0 ⟨0, 0, 0, 0⟩
/-- a comprehension's scope within a def's -/
abbrev relab (sc outer : Scope) : Scope := relabel sc (envOfC "" outer 0 0 .none)
/-- sep.join(list) -/
def rJoin (K : PySem.W.Frag) : V → List V → Hp → VK → Prop := fun x xs H Q => ∃ a p, ∃ ys : List Str, x = .str a ∧ xs = [.ref p] ∧ (SqL K H p (ys.map V.str) ∨ SqT K H p (ys.map V.str)) ∧ (ys.map (·.length)).sum + ys.length * a.length ≤ 16777216 ∧ Q (.str (Txt.join a ys)) H
theorem sum_ones : ∀ (ws : List Str), (∀ z ∈ ws, z.length = 1 ∧ okS z) → (ws.map (·.length)).sum = ws.length
  | [], _ => rfl
  | z :: ws, h => by
    have h1 := (h z List.mem_cons_self).1
    have h2 := sum_ones ws fun y hy => h y (List.mem_cons_of_mem _ hy)
    rw [List.map_cons, List.sum_cons, List.length_cons]
    omega
end XW
set_option maxHeartbeats 4000000
/-! Data that laws draw and hand on: trees of tuples, lists, texts, numbers and empty dicts; what is kept while pots go on. -/
namespace XR
open PySem PySem.Spec PyProof.Rows L2 HM XW K11
/-! a pot's numbers -/
theorem PotAt.ex {H : Hp} {l : Addr} (h : PotAt H l) : ∃ q : Int × Int, H l = some (.lst [.int q.1, .int q.2]) ∧ PotOk q.1 q.2 := by
  obtain ⟨a, b, c, d⟩ := h
  exact ⟨(a, b), c, d⟩
noncomputable def pa {H : Hp} {l : Addr} (h : PotAt H l) : Int := (PotAt.ex h).choose.1
noncomputable def pb {H : Hp} {l : Addr} (h : PotAt H l) : Int := (PotAt.ex h).choose.2
theorem ph {H : Hp} {l : Addr} (h : PotAt H l) : H l = some (.lst [.int (pa h), .int (pb h)]) := (PotAt.ex h).choose_spec.1
theorem pk {H : Hp} {l : Addr} (h : PotAt H l) : PotOk (pa h) (pb h) := (PotAt.ex h).choose_spec.2
mutual
inductive Rg (Av : Addr → Prop) (H : Hp) : V → PyData → Prop
  | non : Rg Av H .non .none
  | bl (b : Bool) : Rg Av H (.bl b) (.bool b)
  | int (i : Int) : Rg Av H (.int i) (.int i)
  | str (x : Str) : Rg Av H (.str x) (.str x)
  | lst {a : Addr} {xs : List V} {ds : List PyData} : ¬ Av a → H a = some (.lst xs) → RgAll Av H xs ds → Rg Av H (.ref a) (.list ds)
  | tup {a : Addr} {xs : List V} {ds : List PyData} : H a = some (.tup xs) → RgAll Av H xs ds → Rg Av H (.ref a) (.tuple ds)
  | dct {a : Addr} : ¬ Av a → H a = some (.dK []) → Rg Av H (.ref a) (.dict [])
inductive RgAll (Av : Addr → Prop) (H : Hp) : List V → List PyData → Prop
  | nil : RgAll Av H [] []
  | cons {v : V} {vs : List V} {d : PyData} {ds : List PyData} : Rg Av H v d → RgAll Av H vs ds → RgAll Av H (v :: vs) (d :: ds)
end
/-- tuples are kept, and lists and dicts that aren't among Av -/
def Kq (Av : Addr → Prop) (H H' : Hp) : Prop := ∀ b o, H b = some o → ((∃ xs, o = .tup xs) ∨ (¬ Av b ∧ ((∃ xs, o = .lst xs) ∨ ∃ kvs, o = .dK kvs))) → H' b = some o
theorem Kq.refl (Av : Addr → Prop) (H : Hp) : Kq Av H H := fun _ _ e _ => e
theorem Kq.trans {Av : Addr → Prop} {H H1 H2 : Hp} (a : Kq Av H H1) (b : Kq Av H1 H2) : Kq Av H H2 := fun c o e n => b c o (a c o e n) n
theorem Kq.new {Av : Addr → Prop} {H : Hp} {p : Addr} {o : HO} (h : H p = none) : Kq Av H (upd H p o) := fun b u e _ => by
  rw [upd_ne (ne_of_none e h)]
  exact e
theorem Kq.over {Av : Addr → Prop} {H H1 : Hp} {p : Addr} {o : HO} (a : Kq Av H H1) (h : H p = none) : Kq Av H (upd H1 p o) := fun b u e n => by
  rw [upd_ne (ne_of_none e h)]
  exact a b u e n
/-- a list among Av is changed -/
theorem Kq.put {Av : Addr → Prop} {H : Hp} {p : Addr} {o : HO} {xs : List V} (h : H p = some (.lst xs)) (hp : Av p) : Kq Av H (upd H p o) := fun b u e n => by
  by_cases z : b = p
  · subst z
    rw [h] at e
    cases e
    rcases n with ⟨ys, n⟩ | ⟨n, _⟩
    · cases n
    · exact absurd hp n
  · rw [upd_ne z]
    exact e
theorem Kq.mono {Av Bv : Addr → Prop} {H H' : Hp} (k : Kq Av H H') (h : ∀ b, Av b → Bv b) : Kq Bv H H' := fun b o e n => k b o e (n.imp id fun z => ⟨fun y => z.1 (h b y), z.2⟩)
theorem Kq.ofSm {Av : Addr → Prop} {H H' : Hp} (k : Sm H H') : Kq Av H H' := fun b o e n => k b o e fun ps z => by
  subst z
  rcases n with ⟨xs, n⟩ | ⟨_, ⟨xs, n⟩ | ⟨xs, n⟩⟩ <;> cases n
theorem Kq.ofCh {l : Addr} {H H' : Hp} {Av : Addr → Prop} (k : Ch l H H') (hl : Av l) (hP : PotAt H l) : Kq Av H H' := fun b o e n => by
  refine k b o e fun z => ?_
  subst z
  obtain ⟨p0, p1, e2, _⟩ := hP
  rw [e2] at e
  cases e
  rcases n with ⟨ys, n⟩ | ⟨n, _⟩
  · cases n
  · exact n hl
mutual
theorem Rg.kq {Av : Addr → Prop} {H H' : Hp} (k : Kq Av H H') : ∀ {v : V} {d : PyData}, Rg Av H v d → Rg Av H' v d
  | _, _, .non => .non
  | _, _, .bl b => .bl b
  | _, _, .int i => .int i
  | _, _, .str x => .str x
  | _, _, .lst n h r => .lst n (k _ _ h (.inr ⟨n, .inl ⟨_, rfl⟩⟩)) (RgAll.kq k r)
  | _, _, .tup h r => .tup (k _ _ h (.inl ⟨_, rfl⟩)) (RgAll.kq k r)
  | _, _, .dct n h => .dct n (k _ _ h (.inr ⟨n, .inr ⟨_, rfl⟩⟩))
theorem RgAll.kq {Av : Addr → Prop} {H H' : Hp} (k : Kq Av H H') : ∀ {vs : List V} {ds : List PyData}, RgAll Av H vs ds → RgAll Av H' vs ds
  | _, _, .nil => .nil
  | _, _, .cons h r => .cons (Rg.kq k h) (RgAll.kq k r)
end
mutual
theorem Rg.mono {Av Bv : Addr → Prop} {H : Hp} (k : ∀ b, Bv b → Av b) : ∀ {v : V} {d : PyData}, Rg Av H v d → Rg Bv H v d
  | _, _, .non => .non
  | _, _, .bl b => .bl b
  | _, _, .int i => .int i
  | _, _, .str x => .str x
  | _, _, .lst n h r => .lst (fun z => n (k _ z)) h (RgAll.mono k r)
  | _, _, .tup h r => .tup h (RgAll.mono k r)
  | _, _, .dct n h => .dct (fun z => n (k _ z)) h
theorem RgAll.mono {Av Bv : Addr → Prop} {H : Hp} (k : ∀ b, Bv b → Av b) : ∀ {vs : List V} {ds : List PyData}, RgAll Av H vs ds → RgAll Bv H vs ds
  | _, _, .nil => .nil
  | _, _, .cons h r => .cons (Rg.mono k h) (RgAll.mono k r)
end
theorem RgAll.len {Av : Addr → Prop} {H : Hp} : ∀ {vs : List V} {ds : List PyData}, RgAll Av H vs ds → vs.length = ds.length
  | _, _, .nil => rfl
  | _, _, .cons h r => by rw [List.length_cons, List.length_cons, RgAll.len r]
theorem RgAll.get {Av : Addr → Prop} {H : Hp} : ∀ {vs : List V} {ds : List PyData} (i : Nat) {v : V}, RgAll Av H vs ds → vs[i]? = some v → ∃ d, ds[i]? = some d ∧ Rg Av H v d
  | _, _, _, _, .nil, h => by cases h
  | _, _, 0, _, .cons h r, e => by
    cases e
    exact ⟨_, rfl, h⟩
  | _, _, i + 1, _, .cons h r, e => RgAll.get i r e
theorem RgAll.get' {Av : Addr → Prop} {H : Hp} : ∀ {vs : List V} {ds : List PyData} (i : Nat) {d : PyData}, RgAll Av H vs ds → ds[i]? = some d → ∃ v, vs[i]? = some v ∧ Rg Av H v d
  | _, _, _, _, .nil, h => by cases h
  | _, _, 0, _, .cons h r, e => by
    cases e
    exact ⟨_, rfl, h⟩
  | _, _, i + 1, _, .cons h r, e => RgAll.get' i r e
theorem RgAll.append {Av : Addr → Prop} {H : Hp} : ∀ {vs ws : List V} {ds es : List PyData}, RgAll Av H vs ds → RgAll Av H ws es → RgAll Av H (vs ++ ws) (ds ++ es)
  | _, _, _, _, .nil, r => r
  | _, _, _, _, .cons h r, t => .cons h (RgAll.append r t)
theorem RgAll.snoc {Av : Addr → Prop} {H : Hp} {vs : List V} {ds : List PyData} {v : V} {d : PyData} (r : RgAll Av H vs ds) (h : Rg Av H v d) : RgAll Av H (vs ++ [v]) (ds ++ [d]) := r.append (.cons h .nil)
theorem RgAll.strs {Av : Addr → Prop} {H : Hp} : ∀ ws : List Str, RgAll Av H (ws.map V.str) (ws.map PyData.str)
  | [] => .nil
  | w :: ws => .cons (.str w) (RgAll.strs ws)
/-! ### what rows are drawn -/
def nmOk (z : Str) : Prop := nameL z.cps.toList = true
def ptOk (z : Str) : Prop := ∃ ws : List Str, z = Txt.join "." ws ∧ 1 ≤ ws.length ∧ ws.length ≤ 4 ∧ ∀ w ∈ ws, nmOk w
def greatW : List Str := ["NOMODULE", "NONAME", "HALF", "FLAT", "NOTASK", "ALL"]
def wdsOk (ws : List Str) : Prop := ws.length ≤ 3 ∧ ws.Nodup ∧ ∀ w ∈ ws, w ∈ greatW ∨ nmOk w
inductive LineOk : PyData → Prop
  | set {z : Str} {n : Int} : nmOk z → n.natAbs < 10 ^ 60 → LineOk (.tuple [.str "set", .str z, .int n])
  | road {w z p : Str} : w ∈ (["now", "take", "late", "ask"] : List Str) → nmOk z → ptOk p → LineOk (.tuple [.str w, .str z, .str p])
  | draw {z p y : Str} : nmOk z → ptOk p → nmOk y → LineOk (.tuple [.str "draw", .str z, .str p, .str y])
  | note {p : Str} : ptOk p → LineOk (.tuple [.str "note", .str p])
  | fail {z : Str} : nmOk z → LineOk (.tuple [.str "fail", .str z])
mutual
/-- a row, n tries at most one within another, c rows all counted -/
inductive OkR : Nat → Nat → PyData → Prop
  | line {n : Nat} {d : PyData} : LineOk d → OkR n 1 d
  | tri {n c1 c2 : Nat} {as bs : List PyData} {ws : List Str} : OkRs n c1 as → wdsOk ws → OkRs n c2 bs → OkR (n + 1) (c1 + c2 + 1) (.tuple [.str "try", .tuple as, .tuple (ws.map PyData.str), .tuple bs])
inductive OkRs : Nat → Nat → List PyData → Prop
  | nil {n : Nat} : OkRs n 0 []
  | cons {n c e : Nat} {d : PyData} {ds : List PyData} : OkR n c d → OkRs n e ds → OkRs n (c + e) (d :: ds)
end
theorem OkRs.snoc {n : Nat} : ∀ {c e : Nat} {ds : List PyData} {d : PyData}, OkRs n c ds → OkR n e d → OkRs n (c + e) (ds ++ [d])
  | _, e, _, _, .nil, h => by
    have := OkRs.cons h OkRs.nil
    rw [Nat.add_zero] at this
    rw [Nat.zero_add]
    exact this
  | _, e, _, _, .cons h r, k => by
    rw [Nat.add_assoc]
    exact .cons h (OkRs.snoc r k)
theorem OkRs.len {n : Nat} : ∀ {c : Nat} {ds : List PyData}, OkRs n c ds → ds.length ≤ c
  | _, _, .nil => Nat.le_refl _
  | _, _, .cons h r => by
    have := OkRs.len r
    rw [List.length_cons]
    cases h <;> omega
/-! ### a name's letters -/
theorem nm_len {z : Str} (h : nmOk z) : z.length ≤ 8 ∧ 1 ≤ z.length := by
  have h2 : nameL z.cps.toList = true := h
  unfold nameL at h2
  obtain ⟨h3, _⟩ := Bool.and_eq_true_iff.mp h2
  obtain ⟨h4, h5⟩ := Bool.and_eq_true_iff.mp h3
  have a := of_decide_eq_true h4
  have b := of_decide_eq_true h5
  rw [Array.length_toList] at a b
  exact ⟨b, a⟩
theorem nm_low {z : Str} (h : nmOk z) : ∀ c ∈ z.cps.toList, low c = true := by
  have h2 : nameL z.cps.toList = true := h
  unfold nameL at h2
  exact List.all_eq_true.mp (Bool.and_eq_true_iff.mp h2).2
def lowS (z : Str) : Prop := z.length = 1 ∧ ∀ c ∈ z.cps.toList, low c = true
theorem join0_all {Pr : Nat → Prop} : ∀ {ys : List Str}, (∀ y ∈ ys, ∀ c ∈ y.cps.toList, Pr c) → ∀ c ∈ (Str.join (Str.ofString "") ys).cps.toList, Pr c
  | [], _ => fun c hc => by
    have : c ∈ ([] : List Nat) := hc
    cases this
  | [x], h => h x List.mem_cons_self
  | x :: z :: r, h => fun c hc => by
    have e : (Str.join (Str.ofString "") (x :: z :: r)).cps.toList = (x ++ Str.ofString "").cps.toList ++ (Str.join (Str.ofString "") (z :: r)).cps.toList := TL.tl_append _ _
    have e2 : (x ++ Str.ofString "").cps.toList = x.cps.toList ++ (Str.ofString "").cps.toList := TL.tl_append _ _
    rw [e, e2] at hc
    rcases List.mem_append.mp hc with y | y
    · rcases List.mem_append.mp y with y | y
      · exact h x List.mem_cons_self c y
      · have : (Str.ofString "").cps.toList = [] := by decide +kernel
        rw [this] at y
        cases y
    · exact join0_all (fun y hy => h y (List.mem_cons_of_mem _ hy)) c y
theorem str_add_len (a b : Str) : (a ++ b).length = a.length + b.length := strLen_append a b
theorem join0_len : ∀ (ys : List Str), (Str.join (Str.ofString "") ys).length = (ys.map (·.length)).sum
  | [] => rfl
  | [x] => by simp [Str.join]
  | x :: z :: r => by
    have e : Str.join (Str.ofString "") (x :: z :: r) = (x ++ Str.ofString "") ++ Str.join (Str.ofString "") (z :: r) := rfl
    have e0 : (Str.ofString "").length = 0 := by decide +kernel
    rw [e, str_add_len, str_add_len, e0, join0_len (z :: r), Nat.add_zero]
    simp only [List.map_cons, List.sum_cons]
theorem nm_join {ys : List Str} (h : ∀ y ∈ ys, lowS y) (h1 : 1 ≤ ys.length) (h8 : ys.length ≤ 8) : nmOk (Txt.join (Str.ofString "") ys) := by
  rw [TL.join_eq]
  have hs : ∀ l : List Str, (∀ y ∈ l, lowS y) → (l.map (·.length)).sum = l.length := fun l => by
    induction l with
    | nil => intro _; rfl
    | cons a l ih =>
      intro hh
      rw [List.map_cons, List.sum_cons, ih (fun y hy => hh y (List.mem_cons_of_mem _ hy)), (hh a List.mem_cons_self).1, List.length_cons]
      omega
  have hl : (Str.join (Str.ofString "") ys).cps.toList.length = ys.length := by
    rw [Array.length_toList]
    exact (join0_len ys).trans (hs ys h)
  unfold nmOk nameL
  rw [hl, decide_eq_true h1, decide_eq_true h8, List.all_eq_true.mpr (join0_all fun y hy => (h y hy).2)]
  rfl
theorem abc_low : ∀ d ∈ abc.cps.toList, low d = true := by decide +kernel
end XR
set_option maxHeartbeats 4000000
/-! Bodies as texts: the mathematics. -/
namespace XT2
open PySem PySem.Spec PyProof.Rows L2 HM XW XR K11 SX TL
/-! ### numbers -/
abbrev numT (i : Int) : Str := Str.ofString (toString i)
def numC (i : Int) : List Nat := match i with
  | .ofNat n => numL n
  | .negSucc n => 45 :: numL (n + 1)
theorem tl_numT (i : Int) : tl (numT i) = numC i := by
  cases i with
  | ofNat n => exact tl_num n
  | negSucc n =>
    show (Str.ofString ("-" ++ Nat.repr (n + 1))).cps.toList = 45 :: numL (n + 1)
    rw [signs_ofString]
    show ("-" ++ Nat.repr (n + 1)).toList.map Char.toNat = _
    rw [String.toList_append, List.map_append, Nat.toList_repr]
    rfl
theorem numC_ok (i : Int) : ∀ c ∈ numC i, c = 45 ∨ (48 ≤ c ∧ c ≤ 57) := by
  cases i with
  | ofNat n => exact fun c hc => .inr (numL_digits n c hc)
  | negSucc n =>
    intro c hc
    rcases List.mem_cons.mp hc with z | z
    · exact .inl z
    · exact .inr (numL_digits (n + 1) c z)
theorem numC_len {i : Int} (h : i.natAbs < 10 ^ 60) : (numC i).length ≤ 61 := by
  cases i with
  | ofNat n =>
    have := numL_len (n := n) (k := 60) (by decide) h
    show (numL n).length ≤ 61
    omega
  | negSucc n =>
    have := numL_len (n := n + 1) (k := 60) (by decide) h
    show (numL (n + 1)).length + 1 ≤ 61
    omega
theorem num_back {i : Int} (h : i.natAbs < 10 ^ 60) : intText? (numT i) = some i ∧ (numT i).length ≤ 640 := by
  have hl := numC_len h
  have e := tl_numT i
  have h2 : (numT i).length ≤ 61 := by
    rw [len_tl, e]
    exact hl
  refine ⟨?_, by omega⟩
  cases i with
  | ofNat n => exact int_num (by have : (numL n).length ≤ 61 := hl; omega)
  | negSucc n =>
    have e2 := intText_neg (x := numT (.negSucc n)) (cs := numL (n + 1)) e (numL_digits _) (numL_ne _) (by omega)
    rw [numL_val] at e2
    exact e2
/-! ### rows as lines -/
def partT : PyData → Str
  | .str x => x
  | .int i => numT i
  | _ => Str.ofString ""
abbrev blank : Str := Str.ofString " "
abbrev lf : Str := Str.ofString "\n"
theorem tl_blank : tl blank = [32] := by decide +kernel
theorem tl_lf : tl lf = [10] := by decide +kernel
def lineT (ps : List PyData) : Str := Txt.join blank (ps.map partT)
def caughtT (ws : List Str) : Str := Txt.join blank (Str.ofString "caught" :: ws)
/-- signs that texts of parts may have -/
def goodC (c : Nat) : Prop := c ≠ 32 ∧ c ≠ 10
def goodW (z : Str) : Prop := (∀ c ∈ tl z, goodC c) ∧ z.length ≤ 61
theorem good_nm {z : Str} (h : nmOk z) : goodW z := by
  refine ⟨fun c hc => ?_, by have := (nm_len h).1; omega⟩
  have := nm_low h c hc
  unfold low at this
  obtain ⟨h1, _⟩ := Bool.and_eq_true_iff.mp this
  have h2 := of_decide_eq_true h1
  exact ⟨by omega, by omega⟩
theorem mem_joinL {s : Nat} : ∀ {parts : List (List Nat)} {c : Nat}, c ∈ joinL [s] parts → c = s ∨ ∃ p ∈ parts, c ∈ p
  | [], c, h => by cases h
  | [p], c, h => .inr ⟨p, List.mem_singleton.mpr rfl, h⟩
  | p :: q :: r, c, h => by
    have h2 : c ∈ p ++ ([s] ++ joinL [s] (q :: r)) := h
    rcases List.mem_append.mp h2 with z | z
    · exact .inr ⟨p, List.mem_cons_self, z⟩
    · rcases List.mem_append.mp z with z | z
      · exact .inl (List.mem_singleton.mp z)
      · rcases mem_joinL z with y | ⟨y, hy, hc⟩
        · exact .inl y
        · exact .inr ⟨y, List.mem_cons_of_mem _ hy, hc⟩
theorem tl_dot : tl (Str.ofString ".") = [46] := by decide +kernel
theorem good_pt {z : Str} (h : ptOk z) : goodW z := by
  obtain ⟨ws, rfl, h1, h4, hw⟩ := h
  refine ⟨fun c hc => ?_, ?_⟩
  · rw [join_eq, tl_join, tl_dot] at hc
    rcases mem_joinL hc with y | ⟨p, hp, hc⟩
    · exact ⟨by omega, by omega⟩
    · obtain ⟨z, hz, rfl⟩ := List.mem_map.mp hp
      exact (good_nm (hw z hz)).1 c hc
  · have h := len_join (Str.ofString ".") ws
    have h1 : (Str.ofString ".").length = 1 := by decide +kernel
    have go : ∀ l : List Str, (∀ w ∈ l, nmOk w) → (l.map (·.length)).sum ≤ 8 * l.length := fun l => by
      induction l with
      | nil => intro _; exact Nat.le_refl _
      | cons a l ih =>
        intro hh
        have := (nm_len (hh a List.mem_cons_self)).1
        have := ih fun y hy => hh y (List.mem_cons_of_mem _ hy)
        rw [List.map_cons, List.sum_cons, List.length_cons]
        omega
    have := go ws hw
    rw [h1] at h
    omega
theorem good_num {i : Int} (h : i.natAbs < 10 ^ 60) : goodW (numT i) := by
  refine ⟨fun c hc => ?_, ?_⟩
  · rw [tl_numT] at hc
    rcases numC_ok i c hc with z | z
    · exact ⟨by omega, by omega⟩
    · exact ⟨by omega, by omega⟩
  · rw [len_tl, tl_numT]
    exact numC_len h
theorem good_great : ∀ z ∈ greatW, (∀ c ∈ tl z, goodC c) ∧ z.length ≤ 8 := by
  unfold goodC
  decide +kernel
theorem good_lit : ∀ z ∈ (["set", "now", "take", "late", "ask", "draw", "note", "fail", "caught", "done", "try"] : List Str), (∀ c ∈ tl z, goodC c) ∧ z.length ≤ 6 := by
  unfold goodC
  decide +kernel
def rowWords : List Str := ["set", "now", "take", "late", "ask", "draw", "note", "fail"]
/-- what a line's parts are -/
structure LineF (ps : List PyData) : Prop where
  len : 2 ≤ ps.length ∧ ps.length ≤ 4
  parts : ∀ p ∈ ps, (∃ x, p = .str x) ∨ ∃ i : Int, p = .int i ∧ i.natAbs < 10 ^ 60
  good : ∀ p ∈ ps, goodW (partT p)
  head : ∃ w r, ps = .str w :: r ∧ w ∈ rowWords
  kind : (∃ z n, ps = [.str "set", .str z, .int n] ∧ n.natAbs < 10 ^ 60) ∨ (∃ ws : List Str, ps = ws.map PyData.str ∧ ∃ w r, ws = w :: r ∧ w ≠ Str.ofString "set")
theorem lineF {d : PyData} (h : LineOk d) : ∃ ps, d = .tuple ps ∧ LineF ps := by
  have gl : ∀ {z : Str}, z ∈ (["set", "now", "take", "late", "ask", "draw", "note", "fail", "caught", "done", "try"] : List Str) → goodW z := fun {z} hz => ⟨(good_lit z hz).1, by have := (good_lit z hz).2; omega⟩
  cases h with
  | @set z n hz hn =>
    refine ⟨_, rfl, ⟨by show 2 ≤ 3; decide, by show 3 ≤ 4; decide⟩, fun p hp => ?_, fun p hp => ?_, ⟨_, _, rfl, by decide⟩, .inl ⟨_, _, rfl, hn⟩⟩
    · simp only [List.mem_cons, List.not_mem_nil, or_false] at hp
      rcases hp with rfl | rfl | rfl
      · exact .inl ⟨_, rfl⟩
      · exact .inl ⟨_, rfl⟩
      · exact .inr ⟨_, rfl, hn⟩
    · simp only [List.mem_cons, List.not_mem_nil, or_false] at hp
      rcases hp with rfl | rfl | rfl
      · exact gl (by decide)
      · exact good_nm hz
      · exact good_num hn
  | @road w z p hw hz hp =>
    have hw2 : w ∈ rowWords ∧ w ≠ Str.ofString "set" ∧ w ∈ (["set", "now", "take", "late", "ask", "draw", "note", "fail", "caught", "done", "try"] : List Str) := by
      revert w
      decide
    refine ⟨_, rfl, ⟨by show 2 ≤ 3; decide, by show 3 ≤ 4; decide⟩, fun q hq => ?_, fun q hq => ?_, ⟨_, _, rfl, hw2.1⟩, .inr ⟨[w, z, p], rfl, w, _, rfl, hw2.2.1⟩⟩
    · simp only [List.mem_cons, List.not_mem_nil, or_false] at hq
      rcases hq with rfl | rfl | rfl <;> exact .inl ⟨_, rfl⟩
    · simp only [List.mem_cons, List.not_mem_nil, or_false] at hq
      rcases hq with rfl | rfl | rfl
      · exact gl hw2.2.2
      · exact good_nm hz
      · exact good_pt hp
  | @draw z p y hz hp hy =>
    refine ⟨_, rfl, ⟨by show 2 ≤ 4; decide, by show 4 ≤ 4; decide⟩, fun q hq => ?_, fun q hq => ?_, ⟨_, _, rfl, by decide⟩, .inr ⟨["draw", z, p, y], rfl, _, _, rfl, by decide⟩⟩
    · simp only [List.mem_cons, List.not_mem_nil, or_false] at hq
      rcases hq with rfl | rfl | rfl | rfl <;> exact .inl ⟨_, rfl⟩
    · simp only [List.mem_cons, List.not_mem_nil, or_false] at hq
      rcases hq with rfl | rfl | rfl | rfl
      · exact gl (by decide)
      · exact good_nm hz
      · exact good_pt hp
      · exact good_nm hy
  | @note p hp =>
    refine ⟨_, rfl, ⟨by show 2 ≤ 2; decide, by show 2 ≤ 4; decide⟩, fun q hq => ?_, fun q hq => ?_, ⟨_, _, rfl, by decide⟩, .inr ⟨["note", p], rfl, _, _, rfl, by decide⟩⟩
    · simp only [List.mem_cons, List.not_mem_nil, or_false] at hq
      rcases hq with rfl | rfl <;> exact .inl ⟨_, rfl⟩
    · simp only [List.mem_cons, List.not_mem_nil, or_false] at hq
      rcases hq with rfl | rfl
      · exact gl (by decide)
      · exact good_pt hp
  | @fail z hz =>
    refine ⟨_, rfl, ⟨by show 2 ≤ 2; decide, by show 2 ≤ 4; decide⟩, fun q hq => ?_, fun q hq => ?_, ⟨_, _, rfl, by decide⟩, .inr ⟨["fail", z], rfl, _, _, rfl, by decide⟩⟩
    · simp only [List.mem_cons, List.not_mem_nil, or_false] at hq
      rcases hq with rfl | rfl <;> exact .inl ⟨_, rfl⟩
    · simp only [List.mem_cons, List.not_mem_nil, or_false] at hq
      rcases hq with rfl | rfl
      · exact gl (by decide)
      · exact good_nm hz
theorem blank_k : blank.cps.all (· < 256) = true := by decide +kernel
/-- words with blanks between, split -/
theorem split_words {ws : List Str} (hne : ws ≠ []) (h : ∀ w ∈ ws, ∀ c ∈ tl w, goodC c) : Txt.split (Txt.join blank ws) blank = ws := split_join tl_blank blank_k hne fun p hp hc => (h p hp 32 hc).1 rfl
theorem nolf_words {ws : List Str} (h : ∀ w ∈ ws, ∀ c ∈ tl w, goodC c) : 10 ∉ tl (Txt.join blank ws) := fun hc => by
  rw [join_eq, tl_join, tl_blank] at hc
  rcases mem_joinL hc with y | ⟨p, hp, hc⟩
  · omega
  · obtain ⟨z, hz, rfl⟩ := List.mem_map.mp hp
    exact (h z hz 10 hc).2 rfl
theorem len_words {ws : List Str} {n : Nat} (h : ∀ w ∈ ws, w.length ≤ n) : (Txt.join blank ws).length ≤ (n + 1) * ws.length := by
  have h2 := len_join blank ws
  have h1 : blank.length = 1 := by decide +kernel
  have go : ∀ l : List Str, (∀ w ∈ l, w.length ≤ n) → (l.map (·.length)).sum ≤ n * l.length := fun l => by
    induction l with
    | nil => intro _; exact Nat.zero_le _
    | cons a l ih =>
      intro hh
      have h3 := hh a List.mem_cons_self
      have h4 := ih fun y hy => hh y (List.mem_cons_of_mem _ hy)
      rw [List.map_cons, List.sum_cons, List.length_cons, Nat.mul_succ]
      omega
  have := go ws h
  rw [h1, Nat.mul_one] at h2
  rw [Nat.add_mul, Nat.one_mul]
  omega
theorem map_good {ps : List PyData} (h : LineF ps) : ∀ w ∈ ps.map partT, ∀ c ∈ tl w, goodC c := fun w hw => by
  obtain ⟨p, hp, rfl⟩ := List.mem_map.mp hw
  exact (h.good p hp).1
theorem line_split {ps : List PyData} (h : LineF ps) : Txt.split (lineT ps) blank = ps.map partT := by
  refine split_words (fun e => ?_) (map_good h)
  have := h.len.1
  rw [List.map_eq_nil_iff.mp e] at this
  simp at this
theorem line_nolf {ps : List PyData} (h : LineF ps) : 10 ∉ tl (lineT ps) := nolf_words (map_good h)
theorem line_len {ps : List PyData} (h : LineF ps) : (lineT ps).length ≤ 248 := by
  have := len_words (ws := ps.map partT) (n := 61) fun w hw => by
    obtain ⟨p, hp, rfl⟩ := List.mem_map.mp hw
    exact (h.good p hp).2
  rw [List.length_map] at this
  have h4 := h.len.2
  have : (61 + 1) * ps.length ≤ 62 * 4 := Nat.mul_le_mul_left 62 h4
  unfold lineT
  omega
theorem split_try : Txt.split (Str.ofString "try") blank = [Str.ofString "try"] := by
  have := split_words (ws := [Str.ofString "try"]) (by simp) (fun w hw => by rw [List.mem_singleton.mp hw]; exact (good_lit _ (by decide)).1)
  exact this
theorem line_ne_try {ps : List PyData} (h : LineF ps) : lineT ps ≠ Str.ofString "try" := fun e => by
  have h1 := line_split h
  rw [e, split_try] at h1
  have h2 := congrArg List.length h1
  rw [List.length_map] at h2
  have := h.len.1
  simp at h2
  omega
theorem caught_good {ws : List Str} (h : wdsOk ws) : ∀ w ∈ Str.ofString "caught" :: ws, (∀ c ∈ tl w, goodC c) ∧ w.length ≤ 8 := fun w hw => by
  rcases List.mem_cons.mp hw with rfl | hw
  · exact ⟨(good_lit _ (by decide)).1, by have := (good_lit (Str.ofString "caught") (by decide)).2; omega⟩
  · rcases h.2.2 w hw with z | z
    · exact good_great w z
    · exact ⟨(good_nm z).1, (nm_len z).1⟩
theorem caught_split {ws : List Str} (h : wdsOk ws) : Txt.split (caughtT ws) blank = Str.ofString "caught" :: ws := split_words (by simp) fun w hw => (caught_good h w hw).1
theorem caught_nolf {ws : List Str} (h : wdsOk ws) : 10 ∉ tl (caughtT ws) := nolf_words fun w hw => (caught_good h w hw).1
theorem caught_len {ws : List Str} (h : wdsOk ws) : (caughtT ws).length ≤ 36 := by
  have h1 := len_words (ws := Str.ofString "caught" :: ws) (n := 8) fun w hw => (caught_good h w hw).2
  have h2 := h.1
  rw [List.length_cons] at h1
  have : (8 + 1) * (ws.length + 1) ≤ 9 * 4 := Nat.mul_le_mul_left 9 (by omega)
  unfold caughtT
  omega
mutual
/-- the lines of a row: n tries at most one within another, c rows all counted -/
inductive LnR : Nat → Nat → PyData → List Str → Prop
  | line {n : Nat} {ps : List PyData} : LineF ps → LnR n 1 (.tuple ps) [lineT ps]
  | tri {n c1 c2 : Nat} {as bs : List PyData} {ws la lb : List Str} : LnRs n c1 as la → wdsOk ws → LnRs n c2 bs lb →
      LnR (n + 1) (c1 + c2 + 1) (.tuple [.str "try", .tuple as, .tuple (ws.map PyData.str), .tuple bs]) (Str.ofString "try" :: (la ++ caughtT ws :: (lb ++ [Str.ofString "done"])))
inductive LnRs : Nat → Nat → List PyData → List Str → Prop
  | nil {n : Nat} : LnRs n 0 [] []
  | cons {n c e : Nat} {d : PyData} {ds : List PyData} {l ls : List Str} : LnR n c d l → LnRs n e ds ls → LnRs n (c + e) (d :: ds) (l ++ ls)
end
mutual
theorem lnR_of : ∀ {n c : Nat} {d : PyData}, OkR n c d → ∃ l, LnR n c d l
  | _, _, _, .line h => by
    obtain ⟨ps, rfl, hf⟩ := lineF h
    exact ⟨_, .line hf⟩
  | _, _, _, .tri h1 hw h2 => by
    obtain ⟨la, k1⟩ := lnRs_of h1
    obtain ⟨lb, k2⟩ := lnRs_of h2
    exact ⟨_, .tri k1 hw k2⟩
theorem lnRs_of : ∀ {n c : Nat} {ds : List PyData}, OkRs n c ds → ∃ l, LnRs n c ds l
  | _, _, _, .nil => ⟨_, .nil⟩
  | _, _, _, .cons h1 h2 => by
    obtain ⟨la, k1⟩ := lnR_of h1
    obtain ⟨lb, k2⟩ := lnRs_of h2
    exact ⟨_, .cons k1 k2⟩
end
/-- the text of lines -/
def tx : List Str → List Nat
  | [] => []
  | l :: ls => tl l ++ (10 :: tx ls)
theorem tx_app : ∀ a b : List Str, tx (a ++ b) = tx a ++ tx b
  | [], b => rfl
  | l :: a, b => by
    show tl l ++ (10 :: tx (a ++ b)) = tl l ++ (10 :: tx a) ++ tx b
    rw [tx_app a b]
    simp
mutual
theorem lnR_len : ∀ {n c : Nat} {d : PyData} {l : List Str}, LnR n c d l → (tx l).length ≤ 249 * c ∧ l.length ≤ 3 * c ∧ ∀ z ∈ l, 10 ∉ tl z ∧ z.length ≤ 248
  | _, _, _, _, .line h => by
    have h1 := line_len h
    refine ⟨?_, by simp, fun z hz => ?_⟩
    · show (tl (lineT _) ++ [10]).length ≤ _
      rw [List.length_append, ← len_tl]
      simp
      omega
    · rw [List.mem_singleton.mp hz]
      exact ⟨line_nolf h, h1⟩
  | _, _, _, _, .tri h1 hw h2 => by
    obtain ⟨a1, a2, a3⟩ := lnRs_len h1
    obtain ⟨b1, b2, b3⟩ := lnRs_len h2
    have hc := caught_len hw
    have e3 : (tl (Str.ofString "try")).length = 3 := by decide +kernel
    have e4 : (tl (Str.ofString "done")).length = 4 := by decide +kernel
    refine ⟨?_, ?_, fun z hz => ?_⟩
    · show (tl (Str.ofString "try") ++ (10 :: tx (_ ++ caughtT _ :: (_ ++ [Str.ofString "done"])))).length ≤ _
      rw [tx_app]
      show (tl (Str.ofString "try") ++ (10 :: (tx _ ++ (tl (caughtT _) ++ (10 :: tx (_ ++ [Str.ofString "done"])))))).length ≤ _
      rw [tx_app]
      have e5 : (tx [Str.ofString "done"]).length = 5 := by decide +kernel
      simp only [List.length_append, List.length_cons, e3, e5, ← len_tl]
      omega
    · simp only [List.length_append, List.length_cons, List.length_nil]
      omega
    · simp only [List.mem_cons, List.mem_append, List.not_mem_nil, or_false] at hz
      rcases hz with rfl | hz | rfl | hz | rfl
      · exact ⟨by decide +kernel, by decide +kernel⟩
      · exact a3 z hz
      · exact ⟨caught_nolf hw, by omega⟩
      · exact b3 z hz
      · exact ⟨by decide +kernel, by decide +kernel⟩
theorem lnRs_len : ∀ {n c : Nat} {ds : List PyData} {l : List Str}, LnRs n c ds l → (tx l).length ≤ 249 * c ∧ l.length ≤ 3 * c ∧ ∀ z ∈ l, 10 ∉ tl z ∧ z.length ≤ 248
  | _, _, _, _, .nil => ⟨Nat.le_refl _, Nat.le_refl _, fun z hz => by cases hz⟩
  | _, _, _, _, .cons h1 h2 => by
    obtain ⟨a1, a2, a3⟩ := lnR_len h1
    obtain ⟨b1, b2, b3⟩ := lnRs_len h2
    refine ⟨?_, ?_, fun z hz => ?_⟩
    · rw [tx_app, List.length_append]
      omega
    · rw [List.length_append]
      omega
    · rcases List.mem_append.mp hz with y | y
      · exact a3 z y
      · exact b3 z y
end
/-- lines are found again -/
theorem split_tx : ∀ {ls : List Str}, (∀ z ∈ ls, 10 ∉ tl z) → spl [10] 0 [] (tx ls) = ls.map tl ++ [[]]
  | [], _ => by rw [show tx [] = [] from rfl, spl_nil]; rfl
  | l :: ls, h => by
    show spl [10] 0 [] (tl l ++ ([10] ++ tx ls)) = _
    rw [spl_part1 (S := []) (h l List.mem_cons_self), split_tx fun z hz => h z (List.mem_cons_of_mem _ hz)]
    rfl
theorem S_tl (z : Str) : S (tl z) = z := mk_tl z
theorem lines_split {ls : List Str} (h : ∀ z ∈ ls, 10 ∉ tl z) : Txt.split (S (tx ls)) lf = ls ++ [Str.ofString ""] := by
  have e : lf = S [10] := by decide +kernel
  rw [e, split_S (by simp) (by decide), split_tx h, List.map_append, List.map_map]
  have e2 : (S ∘ tl) = (id : Str → Str) := funext S_tl
  rw [e2, List.map_id]
  rfl
/-- the first word of a line that begins no row -/
def noRow (z : Str) : Prop := ∃ w r, Txt.split z blank = w :: r ∧ w ∈ (["", "caught", "done"] : List Str)
def someRow (z : Str) : Prop := ∃ w r, Txt.split z blank = w :: r ∧ w ∉ (["", "caught", "done"] : List Str)
theorem noRow_caught {ws : List Str} (h : wdsOk ws) : noRow (caughtT ws) := ⟨_, _, caught_split h, by decide⟩
theorem noRow_done : noRow (Str.ofString "done") := by
  have e := split_words (ws := [Str.ofString "done"]) (by simp) (fun w hw => by rw [List.mem_singleton.mp hw]; exact (good_lit _ (by decide)).1)
  exact ⟨_, _, e, by decide⟩
theorem noRow_nil : noRow (Str.ofString "") := by
  have e := split_words (ws := [Str.ofString ""]) (by simp) (fun w hw => by
    rw [List.mem_singleton.mp hw]
    intro c hc
    have : tl (Str.ofString "") = [] := by decide +kernel
    rw [this] at hc
    cases hc)
  exact ⟨_, _, e, by decide⟩
theorem someRow_try : someRow (Str.ofString "try") := ⟨_, _, split_try, by decide⟩
theorem rowWords_some : ∀ w ∈ rowWords, w ∉ (["", "caught", "done"] : List Str) := by decide
theorem someRow_line {ps : List PyData} (h : LineF ps) : someRow (lineT ps) := by
  obtain ⟨w, r, e, hw⟩ := h.head
  refine ⟨w, r.map partT, ?_, rowWords_some w hw⟩
  rw [line_split h, e]
  rfl
/-! ### texts by their signs -/
theorem S_app (a b : List Nat) : S a ++ S b = S (a ++ b) := ext_tl (tl_append _ _)
theorem join0_S : ∀ ls : List (List Nat), Txt.join (Str.ofString "") (ls.map S) = S ls.flatten := fun ls => by
  rw [join_eq]
  refine ext_tl ?_
  rw [tl_join]
  have e : tl (Str.ofString "") = [] := by decide +kernel
  rw [e, List.map_map]
  have e2 : (tl ∘ S) = (id : List Nat → List Nat) := funext fun a => by simp [S, tl]
  rw [e2, List.map_id]
  show joinL [] ls = ls.flatten
  have go : ∀ l : List (List Nat), joinL [] l = l.flatten := fun l => by
    induction l with
    | nil => rfl
    | cons a l ih =>
      cases l with
      | nil => simp [joinL]
      | cons b r =>
        show a ++ ([] ++ joinL [] (b :: r)) = _
        rw [ih]
        simp
  exact go ls
end XT2
set_option maxHeartbeats 4000000
/-! What repr can show; repr of numbers and of data by one rule -/
namespace XM
open PySem PySem.Spec PyProof.Rows L2 HM XW XR K11 SX XT2
theorem log_small {i : Int} (h : i.natAbs < 10 ^ 60) : i.natAbs.log2 < 1920 := by
  by_cases h0 : i.natAbs = 0
  · rw [h0]
    decide
  · refine (Nat.log2_lt h0).mpr (Nat.lt_of_lt_of_le h ?_)
    have : (10 : Nat) ^ 60 ≤ 2 ^ 1920 := by decide +kernel
    exact this
def ascS (z : Str) : Prop := ∀ c ∈ z.cps.toList, c < 16 ^ 8
theorem asc_nm {z : Str} (h : nmOk z) : ascS z := fun c hc => by
  have := nm_low h c hc
  unfold low at this
  obtain ⟨_, h2⟩ := Bool.and_eq_true_iff.mp this
  have := of_decide_eq_true h2
  have e : (16 : Nat) ^ 8 = 4294967296 := by decide
  omega
theorem asc_pt {z : Str} (h : ptOk z) : ascS z := fun c hc => by
  obtain ⟨ws, rfl, h1, h4, hw⟩ := h
  have hc2 : c ∈ TL.tl (Txt.join (Str.ofString ".") ws) := hc
  rw [TL.join_eq, TL.tl_join, tl_dot] at hc2
  have e : (16 : Nat) ^ 8 = 4294967296 := by decide
  rcases mem_joinL hc2 with y | ⟨p, hp, hc⟩
  · omega
  · obtain ⟨z, hz, rfl⟩ := List.mem_map.mp hp
    exact asc_nm (hw z hz) c hc
structure SmX (d : PyData) (n b : Nat) : Prop where
  sh : d.showable = true
  nd : d.hasDict = false
  lv : d.leavesShort 100 = true
  dp : d.depth ≤ n
  bk : d.bulk ≤ b
structure SmA (ds : List PyData) (n b : Nat) : Prop where
  sh : PyData.showableAll ds = true
  nd : PyData.hasDictAll ds = false
  lv : PyData.leavesShortAll 100 ds = true
  dp : PyData.depthAll ds ≤ n
  bk : PyData.bulkAll ds ≤ b
theorem SmA.nil {n : Nat} : SmA [] n 0 := ⟨rfl, rfl, rfl, Nat.zero_le _, Nat.le_refl _⟩
theorem SmA.cons {d : PyData} {ds : List PyData} {n a b : Nat} (x : SmX d n a) (y : SmA ds n b) : SmA (d :: ds) n (a + 1 + b) := by
  refine ⟨?_, ?_, ?_, ?_, ?_⟩
  · rw [PyData.showableAll, x.sh, y.sh]
    rfl
  · rw [PyData.hasDictAll, x.nd, y.nd]
    rfl
  · rw [PyData.leavesShortAll, x.lv, y.lv]
    rfl
  · rw [PyData.depthAll]
    exact Nat.max_le.mpr ⟨x.dp, y.dp⟩
  · rw [PyData.bulkAll]
    have := x.bk
    have := y.bk
    omega
theorem SmA.tup {ds : List PyData} {n b : Nat} (x : SmA ds n b) : SmX (.tuple ds) (n + 1) b := by
  refine ⟨?_, ?_, ?_, ?_, ?_⟩
  · rw [PyData.showable, x.sh]
  · rw [PyData.hasDict, x.nd]
  · rw [PyData.leavesShort, x.lv]
  · rw [PyData.depth]
    have := x.dp
    omega
  · rw [PyData.bulk]
    exact x.bk
theorem SmX.mono {d : PyData} {n m a b : Nat} (x : SmX d n a) (h1 : n ≤ m) (h2 : a ≤ b) : SmX d m b := ⟨x.sh, x.nd, x.lv, Nat.le_trans x.dp h1, Nat.le_trans x.bk h2⟩
theorem SmA.mono {d : List PyData} {n m a b : Nat} (x : SmA d n a) (h1 : n ≤ m) (h2 : a ≤ b) : SmA d m b := ⟨x.sh, x.nd, x.lv, Nat.le_trans x.dp h1, Nat.le_trans x.bk h2⟩
theorem sm_str {z : Str} {n : Nat} (h : ascS z) (hl : z.length ≤ 61) : SmX (.str z) n 61 := by
  refine ⟨rfl, rfl, ?_, Nat.zero_le _, hl⟩
  rw [PyData.leavesShort, List.all_eq_true]
  exact fun c hc => decide_eq_true (h c hc)
theorem sm_int {i : Int} {n : Nat} (h : i.natAbs < 10 ^ 60) : SmX (.int i) n 61 := by
  refine ⟨decide_eq_true (log_small h), rfl, decide_eq_true ?_, Nat.zero_le _, Nat.zero_le _⟩
  have : (PyData.shown (.int i)).length ≤ 61 := by
    show (numT i).length ≤ 61
    rw [TL.len_tl, tl_numT]
    exact numC_len h
  omega
theorem shown_ok {d : PyData} {n b : Nat} (h : SmX d n b) (hb : b ≤ 100000) : d.shown.length ≤ sizeLine := by
  have h1 := PyData.shown_le_bulk 100 (by decide) d h.lv
  have h2 := Nat.mul_le_mul_left 102 (Nat.le_trans h.bk hb)
  have : (102 : Nat) * 100000 + 100 ≤ sizeLine := by decide
  omega
/-- repr of a number, or of a list or a tuple of data -/
def rReprA (K : PySem.W.Frag) : List V → Hp → VK → Prop := fun xs H Q => (∃ i : Int, xs = [.int i] ∧ i.natAbs < 10 ^ 60 ∧ Q (.str (PyData.shown (.int i))) H) ∨ rReprD K xs H Q
theorem call_reprA {X : Cx} {k : Nat} (hr : Room k X.A) (hg : X.A.guards = some []) : CallR X (.builtin "repr") (rReprA X.K) := by
  intro pins s σ H xs us Q I r h
  rcases h with ⟨i, e, hi, q⟩ | h
  · refine SkE.call_repr_int pins s σ H xs us Q I r ⟨i, e, ?_, q⟩
    have := log_small hi
    omega
  · exact call_reprD hr hg pins s σ H xs us Q I r h
end XM
/-! two sorted lists of the same texts are the same list -/
namespace XSo
open PySem PySem.Spec PyProof.Rows
def leS (a b : Str) : Prop := a.cps.toList ≤ b.cps.toList
theorem le_of {a b : Str} (h : ltCps b.cps.toList a.cps.toList = false) : leS a b := by
  rw [ltCps_eq] at h
  exact List.not_lt.mp (of_decide_eq_false h)
theorem pw_rising : ∀ (l : List Str) (p : Str), risingS p l = true → (p :: l).Pairwise leS
  | [], p, _ => List.pairwise_singleton _ _
  | x :: r, p, h => by
    rw [risingS, Bool.and_eq_true] at h
    have h1 : leS p x := le_of (by simpa using h.1)
    have ih := pw_rising r x h.2
    refine List.pairwise_cons.mpr ⟨fun y hy => ?_, ih⟩
    rcases List.mem_cons.mp hy with e | e
    · rw [e]
      exact h1
    · exact List.le_trans h1 ((List.pairwise_cons.mp ih).1 y e)
theorem pw_sorted : ∀ {l : List Str}, sortedS l = true → l.Pairwise leS
  | [], _ => List.Pairwise.nil
  | x :: r, h => pw_rising r x h
theorem str_ext {a b : Str} (h : a.cps.toList = b.cps.toList) : a = b := by
  cases a
  cases b
  exact congrArg Str.mk (Array.ext' h)
theorem sorted_same {xs ys : List Str} (p : xs.Perm ys) (hx : sortedS xs = true) (hy : sortedS ys = true) : xs = ys :=
  p.eq_of_pairwise (fun a b _ _ h1 h2 => str_ext (List.le_antisymm h1 h2)) (pw_sorted hx) (pw_sorted hy)
end XSo
set_option maxHeartbeats 4000000
/-! x == y of two objects of one own class that has no likeness of its own; xs != ys of lists of tuples (object, number). -/
namespace XQ
open PySem PySem.Spec PyProof.Rows L2 PySem.SeqAt
section
variable {M : Model} {prog : Program} {w : World} {A : Around} {E : Value → Shared → Prop} {s : Shared} {K : PySem.W.Frag} {x y C : Addr} {ox oy : Obj} {dx dy : Option Obj}
theorem one_same {b : Bool} {R : Bool → Shared → Prop} (hx : s.heap.get? x = some ox) (hy : s.heap.get? y = some oy) (hc : ox.cls = .ref C) (h : R (decide (x = y)) s) : wpAny M A (isSame (.ref x) (.ref y)) R E s := by
  by_cases e : x = y
  · subst e
    rw [decide_eq_true rfl] at h
    exact wpAny_isSame_ref_self h
  · rw [decide_eq_false e] at h
    exact wpAny_isSame_ref_other e hx hy (by rw [hc]; exact fun z => by cases z) h
theorem ent_two {Q : Fin → Shared → Prop} (hx : s.heap.get? x = some ox) (hy : s.heap.get? y = some oy) (hc : ox.cls = .ref C) (hq : Q (.done (.ret (if decide (x = y) = true then .bool true else .notImplemented))) s) : wpAny M A (Builtin.«object.__eq__» ⟨[.ref x, .ref y], []⟩) Q E s := by
  unfold Builtin.«object.__eq__»
  repeat (first | with_reducible refine one_same (b := true) hx hy hc ?_ | wp_step)
  by_cases e : x = y
  · rw [decide_eq_true e] at hq ⊢
    repeat (first | exact hq | wp_step)
  · rw [decide_eq_false e] at hq ⊢
    repeat (first | exact hq | wp_step)
theorem call_two {Q : Value → Shared → Prop} (X : K.In s.heap) (I : PySem.W.InstAt s.heap x ox C dx) (hx : s.heap.get? x = some ox) (hy : s.heap.get? y = some oy) (hc : ox.cls = .ref C) (hm : PySem.W.mroIn K C (.type "object") = some true)
    (hq : Q (if decide (x = y) = true then .bool true else .notImplemented) s) : wpAny (model prog w) A (call (.builtin "object.__eq__") [.ref x, .ref y]) Q E s :=
  wpAny_call (codeAny_call_builtin F.cmp_object.eq.plain F.cmpEntry_eq (PySem.W.check_slot F.cmpKind_eq F.cmpSplit_eq (I.type.andThen (PySem.W.looks_mroIn X hm)) (F.cmpArgs_eq _ _) (ent_two hx hy hc hq)))
theorem try_two {Q : Option Value → Shared → Prop} (X : K.In s.heap) (I : PySem.W.InstAt s.heap x ox C dx) (hx : s.heap.get? x = some ox) (hy : s.heap.get? y = some oy) (hc : ox.cls = .ref C) (hm : PySem.W.mroIn K C (.type "object") = some true) (hs : PySem.W.findIn K (.ref C) "__eq__" = some (some (.builtin "object.__eq__")))
    (hq : Q (if decide (x = y) = true then some (.bool true) else none) s) : wpAny (model prog w) A (tryCompare (.ref x) "__eq__" (.ref y)) Q E s := by
  unfold tryCompare
  refine wpAny_bind (HN.ifBound_objEq X I hs (call_two X I hx hy hc hm ?_))
  by_cases e : x = y
  · rw [decide_eq_true e] at hq ⊢
    exact wpAny_pure hq
  · rw [decide_eq_false e] at hq ⊢
    exact wpAny_pure hq
theorem rc_two (hu : A.units < cLine) (X : K.In s.heap) (I : PySem.W.InstAt s.heap x ox C dx) (J : PySem.W.InstAt s.heap y oy C dy) (hx : s.heap.get? x = some ox) (hy : s.heap.get? y = some oy) (hc : ox.cls = .ref C) (hc2 : oy.cls = .ref C) (hm : PySem.W.mroIn K C (.type "object") = some true)
    (hs : PySem.W.findIn K (.ref C) "__eq__" = some (some (.builtin "object.__eq__"))) : RcAt A s (.ref x) (.ref y) (decide (x = y)) := fun prog w E Q h => by
  simp only [richCompare, cmpInfo_Eq, oneThing_ref]
  refine wpAny_holding (wpAny_bind (wpAny_cRoomFor hu ?_))
  refine wpAny_bind (I.type.here ?_)
  refine wpAny_bind (J.type.here ?_)
  split
  · rename_i q
    simp at q
  · refine wpAny_bind (wpAny_pure ?_)
    simp only [Bool.false_eq_true, if_false, Bool.not_false, if_true]
    refine wpAny_bind (m := tryCompare (.ref x) _ (.ref y)) (try_two X I hx hy hc hm hs ?_)
    by_cases e : x = y
    · rw [decide_eq_true e] at h
      rw [decide_eq_true e]
      exact wpAny_pure h
    · rw [decide_eq_false e] at h
      rw [decide_eq_false e]
      refine wpAny_bind (m := tryCompare (.ref y) _ (.ref x)) (try_two X J hy hx hc2 hm hs ?_)
      rw [decide_eq_false fun z => e z.symm]
      refine wpAny_bind (wpAny_rule (wpAny_bind (one_same (b := true) hx hy hc ?_)))
      rw [decide_eq_false e]
      exact wpAny_pure h
end
/-- a class whose objects are like themselves alone -/
structure EqC (K : PySem.W.Frag) (C : Addr) : Prop where
  mro : PySem.W.mroIn K C (.type "object") = some true
  eq : PySem.W.findIn K (.ref C) "__eq__" = some (some (.builtin "object.__eq__"))
def rEqI (K : PySem.W.Frag) : R2 := fun x y H Q => ∃ (a b C da : Addr) (fs : List (Str × V)) (db : Addr) (gs : List (Str × V)), x = .ref a ∧ y = .ref b ∧ H a = some (.ins C da fs) ∧ H b = some (.ins C db gs) ∧ EqC K C ∧ Q (.bl (decide (a = b))) H
section
variable {X : Cx}
theorem op_eqI (hu : X.A.units + 64 < cLine) : OpR X (compareOp .Eq) (rEqI X.K) := by
  intro pins s σ H x y v u Q I rx ry h
  obtain ⟨a, b, C, da, fs, db, gs, rfl, rfl, ha, hb, ec, q⟩ := h
  cases rx
  cases ry
  obtain ⟨mA, O, _⟩ := ins_get I.hok ha
  obtain ⟨oa, J, _⟩ := O.look
  obtain ⟨mB, O2, _⟩ := ins_get I.hok hb
  obtain ⟨ob, J2, _⟩ := O2.look
  exact rc_two (by omega) I.kIn J J2 J.at_ J2.at_ J.cls J2.cls ec.mro ec.eq X.prog X.w X.xe _ ⟨.bl _, H, I, rfl, q⟩
/-- two tuples of the same object and the same number -/
def Pr (K : PySem.W.Frag) (H : Hp) (x y : V) : Prop := ∃ (a b m : Addr) (i : Int), x = .ref a ∧ y = .ref b ∧ SqT K H a [.ref m, .int i] ∧ SqT K H b [.ref m, .int i]
def rNeP (K : PySem.W.Frag) : R2 := fun x y H Q => ∃ (a b : Addr) (xs ys : List V), x = .ref a ∧ y = .ref b ∧ SqL K H a xs ∧ SqL K H b ys ∧ Paired (Pr K H) xs ys ∧ Q (.bl false) H
theorem pr_run {A : Around} {pins : List (Addr × Obj)} {σ : L2.St} {H : Hp} {s : Shared} (I : Inv X pins σ H s) (hu : A.units < cLine) {x y : V} {u v : Value} (h : Pr X.K H x y) (rx : RelV x u) (ry : RelV y v) : EqAt A s u v true := by
  obtain ⟨a, b, m, i, rfl, rfl, ha, hb⟩ := h
  cases rx
  cases ry
  by_cases e : a = b
  · subst e
    exact EqAt.same _
  · obtain ⟨us, r1, p1, _⟩ := I.tuple ha
    obtain ⟨ws, r2, p2, _⟩ := I.tuple hb
    cases r1 with
    | cons k1 t1 =>
    cases t1 with
    | cons k2 t2 =>
    cases t2
    cases r2 with
    | cons k3 t3 =>
    cases t3 with
    | cons k4 t4 =>
    cases t4
    cases k1
    cases k3
    obtain ⟨t, rfl⟩ := k2
    obtain ⟨t', rfl⟩ := k4
    have := RcAt.tuples (A := A) (s := s) (e := fun _ => true) p1 p2 hu (fun j h1 h2 => by
      match j, h1 with
      | 0, _ => exact EqAt.same _
      | 1, _ => simpa using EqAt.int_int (A := A.in1) (s := s) i t i t')
    exact EqAt.of_refs e this
theorem prs_run {A : Around} {pins : List (Addr × Obj)} {σ : L2.St} {H : Hp} {s : Shared} (I : Inv X pins σ H s) (hu : A.units < cLine) {xs ys : List V} (hp : Paired (Pr X.K H) xs ys) :
    ∀ {us ws : List Value}, Vals xs us → Vals ys ws → ∀ j (h1 : j < us.length) (h2 : j < ws.length), EqAt A s us[j] ws[j] true := by
  induction hp with
  | nil =>
    intro us ws r1 r2 j h1 h2
    cases r1
    exact absurd h1 (Nat.not_lt_zero j)
  | cons h _ k =>
    intro us ws r1 r2 j h1 h2
    cases r1 with
    | cons a1 b1 =>
    cases r2 with
    | cons a2 b2 =>
    cases j with
    | zero => exact pr_run I hu h a1 a2
    | succ j => exact k b1 b2 j (Nat.lt_of_succ_lt_succ h1) (Nat.lt_of_succ_lt_succ h2)
theorem op_neP (hu : X.A.units + 64 < cLine) : OpR X (compareOp .NotEq) (rNeP X.K) := by
  intro pins s σ H x y v u Q I rx ry h
  obtain ⟨a, b, xs, ys, rfl, rfl, ha, hb, hp, q⟩ := h
  cases rx
  cases ry
  obtain ⟨us, r1, p1, _⟩ := I.list ha
  obtain ⟨ws, r2, p2, _⟩ := I.list hb
  have hsz : us.toArray.size = ws.toArray.size := by
    rw [List.size_toArray, List.size_toArray, ← r1.length, ← r2.length]
    exact Paired.length hp
  have he := RcNeAt.lists (A := X.A) (s := s) (e := fun _ => true) p1.isList p2.isList hsz (by omega) (fun j h1 h2 => by
    have k := prs_run (A := X.A.in1) I (by show X.A.units + 1 < cLine; omega) hp r1 r2 j (by simpa using h1) (by simpa using h2)
    simpa using k)
  refine he X.prog X.w X.xe _ ?_
  rw [show ((List.range us.toArray.size).all fun _ => true) = true from List.all_eq_true.mpr fun _ _ => rfl]
  exact ⟨.bl false, H, I, rfl, q⟩
end
end XQ
set_option maxHeartbeats 4000000
/-! xs != [] of any list. -/
namespace XQ
open PySem PySem.Spec PyProof.Rows L2 PySem.SeqAt
def rNe0 (K : PySem.W.Frag) : R2 := fun x y H Q => ∃ (a b : Addr) (xs : List V), x = .ref a ∧ y = .ref b ∧ SqL K H a xs ∧ SqL K H b [] ∧ Q (.bl (!xs.isEmpty)) H
section
variable {X : Cx}
theorem op_ne0 (hu : X.A.units + 64 < cLine) : OpR X (compareOp .NotEq) (rNe0 X.K) := by
  intro pins s σ H x y v u Q I rx ry h
  obtain ⟨a, b, xs, rfl, rfl, ha, hb, q⟩ := h
  cases rx
  cases ry
  obtain ⟨us, r1, p1, _⟩ := I.list ha
  obtain ⟨ws, r2, p2, _⟩ := I.list hb
  cases r2
  cases r1 with
  | nil =>
    have he := RcNeAt.lists (A := X.A) (s := s) (e := fun _ => true) p1.isList p2.isList rfl (by omega) (fun j h1 h2 => absurd h1 (Nat.not_lt_zero j))
    refine he X.prog X.w X.xe _ ?_
    exact ⟨.bl false, H, I, rfl, q⟩
  | cons r1 r2 =>
    have he := RcNeAt.lists_lengths (A := X.A) (s := s) p1.isList p2.isList (by simp) (by omega)
    refine he X.prog X.w X.xe _ ?_
    exact ⟨.bl true, H, I, rfl, q⟩
end
end XQ
set_option maxHeartbeats 4000000
namespace XS
open PySem PySem.Spec PyProof.Rows L2 HM NdefX
/-- what the class at C says, so that super().__init__ in it is ValueError's -/
structure SupC (K : PySem.W.Frag) (C : Addr) : Prop where
  oex : OexC K C
  opq : PySem.W.nsIn K cStatics "thirdparty.any" = some none
  sup : PySem.W.ks_superIn K C C "__init__" = some (some (.builtin "ValueError.__init__"))
  ve : PySem.W.subIn K (.ref C) (.type "ValueError") = some true
  slf : PySem.W.subIn K (.ref C) (.ref C) = some true
/-- the written __init__ of the class at C: a function with the one captured cell -/
structure SupF (K : PySem.W.Frag) (prog : Program) (C f : Addr) (F : NF) (fd : FuncData) : Prop where
  ex : ∃ (oc : Value) (od : Option Addr) (osl : Array (Option Value)) (doc pm ctv : Value), fd = F.fd doc pm ctv ∧ K.lookup f = some ⟨oc, od, .func fd, osl⟩
  cd : PySem.W.codeIn K (.ref F.c) F.qual = true
  cl : ∃ (c : Addr) (ob : Obj), F.cl = [((("__class__" : Str)), c)] ∧ K.lookup c = some ob ∧ ob.data = .cell (some (.ref C))
  fil : ∃ (ob : Obj) (vs : Array Value) (file : Str) (tf : Tok), K.lookup F.c = some ob ∧ ob.data = .fields vs ∧ vs[2]? = some (.str file tf) ∧ ((prog.main.file : Str) == file) = true
  kp : PySem.W.keepIn K (.ref f) = true
section
variable {X : Cx} {C a u : Addr} {pins : List (Addr × Obj)} {σ : L2.St} {H : Hp} {A : Around} {E : Value → Shared → Prop} {s : Shared}
/-- the bound ValueError.__init__ called: the exception's args are laid anew -/
theorem wrap_ok {us : List Value} {Q : Value → Shared → Prop} (T : OexC X.K C) (I : Inv X pins σ H s) (e : H a = some (exo a C none)) (hu : s.heap.get? u = some (PySem.W.kxs_mw "ValueError.__init__" a)) (hl : us.length ≤ sizeLine) (h : ∀ s', Inv X pins σ H s' → Q .none s') :
    wpAny (model X.prog X.w) A (call (.ref u) us) Q E s := by
  obtain ⟨nm, q, N, bs, bm, sn, sub, ab, col, dd, k0, k1, k2, k3, k5, hC, hbm⟩ := T.cls
  obtain ⟨t1, ho⟩ := exo_at I.hok e
  obtain ⟨hp, g, d, t, os⟩ := s
  refine wpAny_call (codeAny_of_tree ?_)
  show wpAny _ A.in1 (callAny (.ref u) ⟨us, []⟩) _ _ _
  simp only [callAny]
  refine wpAny_bind (wpAny_load hu ?_)
  simp only [PySem.W.kxs_mw, show (Value.type "method-wrapper" == Value.type "method" || Value.type "method-wrapper" == Value.type "builtin_function_or_method" || Value.type "method-wrapper" == Value.type "method-wrapper") = true by decide, if_true]
  refine PySem.W.KFB.if_so (by decide) ?_
  refine wpAny_bind (PySem.W.check_bound_init F.excBase_ValueError.toExcCallFacts (I.kIn _ _ hC) ho rfl ?_)
  refine wpAny_bind (wpAny_pure (wpAny_pure ?_))
  refine ⟨plainId_quiet F.excBase_ValueError.init.plain _, codeAny_builtin F.excBase_ValueError.initEntry ?_⟩
  refine PySem.W.exc_init_tree (cls := .ref C) (t0 := t1) (dv := none) (c2 := .none) (c3 := .none) (b4 := .bool false) ho hl fun h' k e' _ => ?_
  have J := I.write (t' := t) (x := a) (e := a) (o := exo a C none) (by rw [e]; exact True.intro) (.inl rfl) k ⟨_, e'⟩ (exo_ok e')
  have eu : upd H a (exo a C none) = H := by
    funext b
    by_cases hb : b = a
    · rw [hb, upd_same, e]
    · rw [upd_ne hb]
  rw [eu] at J
  exact h _ J
end
section
variable {P : Program} {w : World} {K : PySem.W.Frag} {mg : Str → Option Value} {base : Heap} {CX : CXT} {k : Nat} {C f : Addr} {F : NF} {fd : FuncData} {ps px : List Str} {sp : Sp} {N : List Str}
/-- THE RULE for a written __init__ that begins with super().__init__(e) -/
theorem okSup {e : Expr} {rest : List Stmt} {p0 p1 p2 p3 p4 : Pos} {ar : Arg} (T : SupC K C) (FF : SupF K P C f F fd) (hps : ps = ("self" : Str) :: px) (S : NScope N ps ["__class__"] F.scope)
    (hbd : F.body = .Expr (.Call (.Attribute (.Call (.Name "super" p0) [] [] p1) "__init__" p2) [e] [] p3) p4 :: rest) (hpar : (F.params.posonlyargs ++ F.params.args).head? = some ar) (har : ar.arg = ("self" : Str))
    (hsu : F.scope.names.lookup ("super" : Str) = some .globalImplicit) (msu : mg "super" = none) (htop : (P.main.scope.names.lookup ("super" : Str)).isSome = false) (len : ∀ vs H Q E, sp vs H Q E → vs.length = ps.length)
    (hcall : ∀ L : Addr, ∃ pl : Sem Bool, eval (.Call (.Attribute (.Call (.Name "super" p0) [] [] p1) "__init__" p2) [e] [] p3) (envF F f L) = (do
      let ov ← attributeBase (.Call (.Name "super" p0) [] [] p1) "__init__" (envF F f L) (eval (.Call (.Name "super" p0) [] [] p1) (envF F f L))
      standAt p2.atName
      let (g, fst) ← holding [ov] (getMethod ov "__init__" pl)
      callWith p3 g fst (backTo p3 (starEach [e] (envF F f L))) []))
    (he : ∀ env : Env, starEach [e] env = (false, eval e env) :: starEach [] env) (hi : ∀ L : Addr, interactive (envF F f L) = false) (hsw : ∀ L : Addr, swapsWith (.Call (.Attribute (.Call (.Name "super" p0) [] [] p1) "__init__" p2) [e] [] p3) none p4.line (envF F f L) = pure false)
    (hbody : ∀ (A : Around) (outer : List Env) (s : Shared) (H : Hp) (vs : List V) (Q : VK) (E : XK), Room k (A.deeper (envF F f s.heap.objs.size)) → (A.deeper (envF F f s.heap.objs.size)).guards = some [] → sp vs H Q E →
      ∃ (a : Addr) (vr : List V) (te : TE) (t : TS), vs = .ref a :: vr ∧ PE (ncx CX P w K mg base N F f A outer s H E) e te ∧ PSs (ncx CX P w K mg base N F f A outer s H E) rest t ∧ H a = some (exo a C none) ∧
        te (startF N vs [none]) H fun _ H1 => H1 a = some (exo a C none) ∧ t { nx := fun _ H' => Q .non H', rt := Q } (startF N vs [none]) H1) :
    FnG P w K mg base CX (k + 1) f fd ps sp := by
  obtain ⟨oc, od, osl, doc, pm, ctv, rfl, lk⟩ := FF.ex
  obtain ⟨cc, ob, hcl, lcc, dcc⟩ := FF.cl
  obtain ⟨oco, vs2, file, tf, lco, dco, v2, hfile⟩ := FF.fil
  refine ⟨len, fun A outer s H args us vs Q E hr hgd e0 hb r hsp => ?_⟩
  have hK : K.In s.heap := e0.mod.kin.keeps fun b o e => (e0.bs b o e).1
  have hL : s.heap.NoLimit := e0.mod.nolimit.keeps fun b o e => (e0.bs b o e).1
  obtain ⟨a, vr, te, t, hvs, hpe, hpt, ha, hte⟩ := hbody A outer s H vs Q E (hr.deeper _) (by first | exact hgd | (rw [← hgd]; rfl)) hsp
  have Ce : CellsAt F.cl ["__class__"] [none] s.heap H := by
    refine ⟨rfl, fun y c e => ?_, fun x y c e1 e2 => ?_, fun i y hy => ?_⟩
    · rw [hcl] at e
      have e2 := PySem.mem_of_lookup e
      rw [List.mem_singleton] at e2
      cases e2
      refine ⟨(e0.bs _ _ (e0.mod.kin _ _ lcc)).2, _, ob, hK _ _ lcc, dcc⟩
    · rw [hcl] at e1 e2
      have e3 := PySem.mem_of_lookup e1
      have e4 := PySem.mem_of_lookup e2
      rw [List.mem_singleton] at e3 e4
      cases e3
      cases e4
      rfl
    · have e5 := List.mem_of_getElem? hy
      rw [List.mem_singleton] at e5
      subst e5
      refine ⟨cc, by rw [hcl]; rfl, fun v hv => ?_⟩
      have hi0 : i = 0 := by
        have := (List.getElem?_eq_some_iff.mp hy).1
        simpa using this
      subst hi0
      cases hv
  refine codeAny_call_function hr.depth (hK _ _ lk) rfl S.co S.gen rfl (PySem.W.codeRec_of hK FF.cd) (hb _ _ _ _ ?_)
  refine wpAny_newFunctionEnv S.nocell (fun ⟨n, _⟩ hy => S.par n (List.of_mem_zip hy).1) (fun h₁ hns hsb => ⟨hL.fresh _ hsb, ?_⟩) S.kind
  show codeAny _ _ (.func F.body (envF F f s.heap.objs.size)) _ _
  have kp : ∀ b o, s.heap.get? b = some o → h₁.get? b = some o := fun b o e => hsb.extBut b o (Nat.ne_of_lt (Heap.lt_size e)) (Heap.get?_push_of_some _ e)
  have I : Inv (ncx CX P w K mg base N F f A outer s H E) [] (startF N vs [none]) H { s with heap := h₁, toks := s.toks + (ps.zip us).length } := inv_startN S hr.hd e0 (len _ _ _ _ hsp) r Ce hns kp
  refine ks_codeAny_funcAt ?_
  rw [hbd]
  obtain ⟨pl, hcl2⟩ := hcall s.heap.objs.size
  obtain ⟨nm, q, N', bs, bm, sn, sub, ab, col, dd, k0, k1, k2, k3, k5, hC, hbm⟩ := T.oex.cls
  have nC : a ≠ C := fun z => by
    have e1 := (e0.bs _ _ (e0.mod.kin _ _ hC)).2
    rw [← z, ha] at e1
    cases e1
  obtain ⟨ur, rfl⟩ : ∃ ur, us = .ref a :: ur := by
    rw [hvs] at r
    cases r with
    | cons r1 r2 =>
      cases r1
      exact ⟨_, rfl⟩
  obtain ⟨mb, hb1, hb2⟩ := I.mod.blt
  have hx0 : h₁.get? a = some _ := (exo_at I.hok ha).choose_spec
  have hD0 : h₁.get? C = some _ := kp _ _ (hK _ _ hC)
  have hK1 : K.In h₁ := fun b o z => kp _ _ (hK b o z)
  refine ks_wpAt_execs_cons (ks_wpAt_Expr_any (ks_wpAt_MethodCall (pl := pl) ?_ hcl2) (hi _) (hsw _))
  have hsf : h₁.get? f = some _ := kp _ _ (hK _ _ lk)
  refine ks_wpAt_super_base hsu (S.frk "__class__" (by simp)) (by decide) rfl hsf rfl hpar rfl (kp _ _ (hK _ _ lco)) dco v2 hfile htop ?_
  rw [loadName_read (env := envF F f s.heap.objs.size) S.kind hsu]
  refine Calls.loadGlobal_builtin (I.mod.glob.keeps I.bk) msu (hb1.keeps I.bk) ((hb2 "super" (by decide)).trans (show bootBuiltins "super" = some (.type "super") by decide +kernel)) ⟨rfl, ?_⟩
  refine wpAny_loadName_free S.kind (S.frk "__class__" (by simp)) (c := cc) (by show F.cl.lookup _ = _; rw [hcl]; rfl) ⟨ob, kp _ _ (hK _ _ lcc), dcc⟩ ?_
  rw [har]
  have ndp : ps.Nodup := by
    have z := S.nd.sublist (List.take_sublist (ps.length + 1) N)
    have z2 : N.take (ps.length + 1) = ps ++ [("__class__" : Str)] := S.pre
    rw [z2] at z
    exact (List.nodup_append.mp z).1
  refine wpAny_loadName_local S.kind (S.par "self" (by rw [hps]; exact List.mem_cons_self)) hns (v := .ref a) (zip_look (i := 0) ndp (by rw [hps]; rfl) rfl) ?_
  refine ks_wpAny_isType_cls hD0 rfl ⟨rfl, ?_⟩
  refine ks_wpAny_call_super hD0 rfl hx0 rfl (fun c z => by cases z) (PySem.W.looks_subIn hK1 T.slf) fun h2 hso kk2 => ?_
  have hK2 : K.In h2 := fun b o z => kk2 _ _ (hK1 b o z)
  obtain ⟨cdC, hcd⟩ : ∃ cd, PySem.W.clsIn K C = some cd := ⟨_, by
    unfold PySem.W.clsIn
    rw [hC]⟩
  have hm := T.sup
  unfold PySem.W.ks_superIn at hm
  rw [hcd] at hm
  have inst : PySem.W.InstAt h2 a _ C none := ⟨kk2 _ _ hx0, rfl, rfl, trivial⟩
  refine PySem.W.kxs_getMethod PySem.W.kxs_ValueError hso (PySem.W.looks_opaque hK2 T.opq) (l₀ := _) (fun A Q E s k q => wpAny_bind ((PySem.W.looks_clsIn hK2 hcd) A _ E s k (wpAny_pure q))) rfl hK2 hm (inst.type.andThen (PySem.W.looks_subIn hK2 T.ve)) nC (by decide) ?_
  have I2 := (I.kept (t' := s.toks + (ps.zip (Value.ref a :: ur)).length) kk2).kept (t' := s.toks + (ps.zip (Value.ref a :: ur)).length + 1) (h' := h2.push (PySem.W.kxs_mw "ValueError.__init__" a)) fun b o z => Heap.get?_push_of_some _ z
  have hu : (h2.push (PySem.W.kxs_mw "ValueError.__init__" a)).get? h2.objs.size = some (PySem.W.kxs_mw "ValueError.__init__" a) := Heap.get?_push_at rfl rfl
  have hl1 : h₁.objs.size ≤ h2.objs.size := Nat.le_of_lt (Heap.lt_size hso)
  have I3 : Inv (ncx CX P w K mg base N F f A outer s H E) [(h2.objs.size, PySem.W.kxs_mw "ValueError.__init__" a)] (startF N vs [none]) H ⟨h2.push (PySem.W.kxs_mw "ValueError.__init__" a), s.gens, s.drawn, s.toks + (ps.zip (Value.ref a :: ur)).length + 1, s.os⟩ := by
    refine I2.pins_of fun p hp => ?_
    rw [List.mem_singleton] at hp
    subst hp
    refine ⟨hu, ?_, ?_, ?_, fun v z => by cases z⟩
    · exact (I.kept (t' := 0) kk2).hok.fresh (Nat.le_refl _)
    · exact Nat.ne_of_gt (I.kept (t' := 0) kk2).lt
    · exact (I.kept (t' := 0) kk2).nofs (Nat.le_refl _)
  show wpAny _ _ (callWith p3 (.ref h2.objs.size) [] (backTo p3 (starEach [e] (envF F f s.heap.objs.size))) []) _ _ _
  rw [he]
  refine PySem.W.kxs_callWith (i := "ValueError.__init__") (x := a) rfl (PySem.Calls.evalArgs_plain ?_)
  refine Calls.spliced_cons (thn (hpe.run _ _ _ H _ I3 hte) fun u1 s5 ⟨y, H5, I5, r5, ea, q5⟩ => ?_)
  have pu := (I5.pin (h2.objs.size, PySem.W.kxs_mw "ValueError.__init__" a) (List.mem_append.mpr (.inr List.mem_cons_self))).1
  refine Calls.spliced_nil ⟨pu, ?_⟩
  refine wrap_ok (us := [u1]) T.oex I5 ea pu (by show 1 ≤ sizeLine; decide) fun s6 I6 => ?_
  show PySem.wpAt _ _ _ (execs rest (envF F f s.heap.objs.size)) _ _ _
  refine PySem.wpAt_of_wpAny (wpAny_mono (hpt.run [] s6 _ H5 _ (I6.pins_of fun p hp => nomatch hp) q5) (fun fl s' hs => ?_) fun er s' hs => hs)
  have fin : ∀ {σ' : L2.St} {H' : Hp} {v : V} {u : Value}, Inv (ncx CX P w K mg base N F f A outer s H E) [] σ' H' s' → RelV v u → Q v H' → CE outer P w H s Q u s' := fun {_ H' v _} J rv q => ⟨v, H', J.os, J.bare, J.base, J.hok, rv, q⟩
  match fl, hs with
  | .ret u, ⟨v, σ', H', J, rv, q⟩ => exact fin J rv q
  | .next, ⟨σ', H', J, q⟩ => exact fin (v := V.non) (u := Value.none) J rfl q
  | .brk, ⟨_, _, _, q⟩ => exact q.elim
  | .cont, ⟨_, _, _, q⟩ => exact q.elim
end
end XS
set_option maxHeartbeats 4000000
namespace XT
open PySem PySem.Spec PyProof.Rows L2 HM
open L2N (Zn)
/-! ### try with clauses of both forms, with and without a name -/
/-- the exception at a, caught: noted in our frame, out of what is tracked -/
structure Grd (X : Cx) (pins : List (Addr × Obj)) (a : Addr) (cls : Value) (d : Option Addr) (σ : L2.St) (H : Hp) (B : Heap) (sI s : Shared) : Prop where
  inv : Inv X pins σ H sI
  nb : ∀ b o, sI.heap.get? b = some o → b ∉ frs X.stack → B.get? b = some o
  fl : HandSPX.FlyingZ B (X.env :: X.outer) a (Zn cls d) s.heap
  up : sI.heap.UpToSlots s.heap
  na : H a = none
  os : s.os = sI.os
  ag : AllBare s.gens
section
variable {X : Cx} {pins : List (Addr × Obj)} {a : Addr} {cls : Value} {d : Option Addr} {σ : L2.St} {H : Hp} {B : Heap} {sI s : Shared}
theorem Grd.now (g : Grd X pins a cls d σ H B sI s) : Inv X pins σ H s := g.inv.landed g.nb g.fl.1 g.up g.os g.ag
theorem Grd.on {h : Heap} (g : Grd X pins a cls d σ H B sI s) (f : HandSPX.FlyingZ B (X.env :: X.outer) a (Zn cls d) h) (u : s.heap.UpToSlots h) : Grd X pins a cls d σ H B sI { s with heap := h } :=
  ⟨g.inv, g.nb, f, g.up.trans u, g.na, g.os, g.ag⟩
/-- its object, and that it is no frame of ours -/
theorem Grd.ob (g : Grd X pins a cls d σ H B sI s) (hf : X.env.frame = some X.env.locals) : ∃ (oe : Obj) (vs : Array Value), s.heap.get? a = some oe ∧ Zn cls d oe ∧ oe.data = .fields vs ∧ a ≠ X.env.locals ∧ a ∉ X.fs := by
  obtain ⟨oe, vs, he, hz, hd⟩ := g.fl.there
  have out : a ∉ frs (X.env :: X.outer) := fun hm => by
    obtain ⟨_, o2, e2, no⟩ := g.fl.2.2.1.mem hm
    rw [he] at e2
    cases e2
    exact no _ hd
  refine ⟨oe, vs, he, hz, hd, fun z => out ?_, fun hm => out ?_⟩
  · exact List.mem_filterMap.mpr ⟨X.env, .head _, by rw [hf, z]⟩
  · obtain ⟨e, he2, q⟩ := List.mem_filterMap.mp hm
    exact List.mem_filterMap.mpr ⟨e, .tail _ he2, q⟩
theorem grd_of {W : WX} {xe E₁ : Value → Shared → Prop} {u : Value} {s' : Shared} {Q : Unit → Shared → Prop} (ok : X.Ok) (hs : X.stack = X.env :: X.outer) (hf : X.env.frame = some X.env.locals) (x : L2N.XE (X.tr (X.pn ++ pins) xe) W u s')
    (hq : ∀ a cls d σ H B sI s3, u = .ref a → Grd X pins a cls d σ H B sI s3 → W cls d σ H → Q () s3) :
    wpAny (model X.prog X.w) X.A (noteFrame u X.env) (fun _ s₂ => wpAny (model X.prog X.w) X.A (setFlight u none) Q E₁ s₂) E₁ s' := by
  obtain ⟨a, B, sI, p2, σ, H, cls, d, rfl, J, nb, up, sky, na, os, ag, w⟩ := x
  have sk : Sky B (X.env :: X.outer) a (Zn cls d) X.env.locals s'.heap := by
    rw [← hs]
    exact sky
  exact L2N.Sky.land Zn.steady (by rw [ok.frames, hs]) hf sk fun h fl up2 => hq a cls d σ H B sI _ rfl ⟨J.ofTry ok, nb, fl, up.trans up2, na, os, ag⟩ w
/-- no clause took it: it goes on -/
theorem clause_none {Wout : WX} {D : Ends} (g : Grd X pins a cls d σ H B sI s) (hs : X.stack = X.env :: X.outer) (hf : X.env.frame = some X.env.locals) (tk : L2N.Takes X Wout) (w : Wout cls d σ H) :
    wpAny (model X.prog X.w) X.A (handleBy (.ref a) X.env []) (SP X pins D) X.xe s := by
  refine wpAny_handleBy_nil ?_
  obtain ⟨_, _, _, oe, vs, T, oT, ts, he, hz, hd, h1, _⟩ := id g.fl
  unfold PySem.passOn
  refine wpAny_bind (wpAny_field he hd h1 ?_)
  rw [if_neg (show ¬ (Value.ref T == Value.none) = true by simp)]
  have goes : wpAny (model X.prog X.w) X.A (setFlight (.ref a) X.env.frame) (fun _ s4 => wpAny (model X.prog X.w) X.A (throw (.ref a) : Sem Flow) (SP X pins D) X.xe s4) X.xe s := by
    rw [hf]
    refine HandSPX.setFlight_upZ g.fl fun h4 held up4 => wpAny_throw (tk _ _ ⟨a, B, sI, pins, σ, H, cls, d, rfl, g.inv, g.nb, g.up.trans up4, .inr (.inr ?_), g.na, g.os, g.ag, w⟩)
    rw [hs]
    exact held
  first | exact wpAny_bind (wpAny_pure (wpAny_bind goes)) | exact wpAny_bind goes
variable {x : Str} {c : Value} {b : Bool} {b₀ : Stmt} {suite : List Stmt} {hds : List ExceptHandler} {np pos' : Pos} {Q : Flow → Shared → Prop} {E : Value → Shared → Prop} {nm : Option Str}
/-- the clause's class is asked -/
theorem clause_ask (g : Grd X pins a cls d σ H B sI s) (hf : X.env.frame = some X.env.locals) (hc : Names X x c) (hb : PySem.W.exmOne X.K cls c = some b) {Q2 : Bool → Shared → Prop} {E2 E3 : Value → Shared → Prop} (h : Q2 b s) :
    wpAny (model X.prog X.w) (X.A.mark (some (.ref a))) (eval (.Name x np) X.env) (fun v s₁ => wpAny (model X.prog X.w) (X.A.mark (some (.ref a))) (excMatches (.ref a) v) Q2 E2 s₁) E3 s := by
  obtain ⟨oe, vs, he, hz, hd, n1, n2⟩ := g.ob hf
  have S := g.now.suite he hd g.na n1 n2
  have L1 : PySem.W.Looks (model X.prog X.w) s.heap (typeOf (.ref a)) cls := fun A Q E s k q => wpAny_typeOf_ref (k _ _ he) (by rw [hz.1]; exact q)
  have L2' := (PySem.W.exm_one (M := model X.prog X.w) g.now.kIn L1 hb).here (A := X.A.mark (some (.ref a))) (E := E2) h
  obtain ⟨hg, hdb, hm | ⟨hm, hv, hn⟩⟩ := hc
  · exact ld_glob (X := X.suite a ((a, oe) :: (X.pn ++ pins))) S hg hm L2' hdb
  · exact ld_blt (X := X.suite a ((a, oe) :: (X.pn ++ pins))) S hg hm hv L2' hn hdb
end
/-- what is wished of an exception of the body, clause by clause: (class, slot of the name, the suite's reading) -/
abbrev Cls3 := Value × Option Nat × (Addr → Value → Option Addr → TS)
/-- behind a suite with a name the name is gone -/
def unset (i : Nat) (D : Ends) : Ends := { nx := fun σ H => D.nx (σ.set i none) H, rt := D.rt, bk := fun σ H => D.bk (σ.set i none) H, ct := fun σ H => D.ct (σ.set i none) H }
def wCl (K : PySem.W.Frag) (Wout : WX) (D : Ends) : List Cls3 → WX
  | [] => Wout
  | (c, o, ts) :: r => fun cls d σ H => ∃ b, PySem.W.exmOne K cls c = some b ∧ (b = false → wCl K Wout D r cls d σ H) ∧ (b = true → ∀ a, H a = none → match o with
    | none => ts a cls d D σ H
    | some i => ts a cls d (unset i D) (σ.set i (some (.ref a))) H)
inductive ClOk (X : Cx) : List ExceptHandler → List Cls3 → Prop
  | nil : ClOk X [] []
  | plain {x : Str} {c : Value} {ts : Addr → Value → Option Addr → TS} {b₀ : Stmt} {suite : List Stmt} {np pos' : Pos} {hds : List ExceptHandler} {l : List Cls3} (hc : Names X x c)
      (hsu : ∀ (a : Addr) (oe : Obj) (cls : Value) (d : Option Addr) (pn : List (Addr × Obj)), Zn cls d oe → (∃ vs, oe.data = .fields vs) → PSs (X.suite a ((a, oe) :: pn)) (b₀ :: suite) (ts a cls d)) (r : ClOk X hds l) :
      ClOk X (.ExceptHandler (some (.Name x np)) none (b₀ :: suite) pos' :: hds) ((c, none, ts) :: l)
  | named {x n : Str} {i : Nat} {c : Value} {ts : Addr → Value → Option Addr → TS} {b₀ : Stmt} {suite : List Stmt} {np pos' : Pos} {hds : List ExceptHandler} {l : List Cls3} (hc : Names X x c) (hi : X.N[i]? = some n) (hln : X.env.kindOf n = some .local)
      (hsu : ∀ (a : Addr) (oe : Obj) (cls : Value) (d : Option Addr) (pn : List (Addr × Obj)), Zn cls d oe → (∃ vs, oe.data = .fields vs) → PSs (X.suite a ((a, oe) :: pn)) (b₀ :: suite) (ts a cls d)) (r : ClOk X hds l) :
      ClOk X (.ExceptHandler (some (.Name x np)) (some n) (b₀ :: suite) pos' :: hds) ((c, some i, ts) :: l)
section
variable {X : Cx} {pins : List (Addr × Obj)}
theorem clauses {Wout : WX} {D : Ends} {a : Addr} {cls : Value} {d : Option Addr} {σ : L2.St} {H : Hp} {B : Heap} {sI s : Shared} {hds : List ExceptHandler} {l : List Cls3} (ok : X.Ok) (hN : X.N.Nodup) (g : Grd X pins a cls d σ H B sI s) (hs : X.stack = X.env :: X.outer) (hf : X.env.frame = some X.env.locals)
    (tk : L2N.Takes X Wout) (hk : ClOk X hds l) : wCl X.K Wout D l cls d σ H → wpAny (model X.prog X.w) X.A (handleBy (.ref a) X.env hds) (SP X pins D) X.xe s := by
  induction hk with
  | nil => exact fun w => clause_none g hs hf tk w
  | plain hc hsu r ih =>
    rintro ⟨b, hb, hno, hyes⟩
    refine wpAny_handleBy_cons (codeAny_handlers_test (clause_ask g hf hc hb ?_)) (by intro z; cases z)
    cases b with
    | false => exact ih (hno rfl)
    | true =>
      refine codeAny_handlers_suite (HandSPX.lands_againZ g.fl fun h4 fl4 up4 => ?_)
      have g4 := g.on fl4 up4
      obtain ⟨oe, vs, he, hz, hd, n1, n2⟩ := g4.ob hf
      refine wpAny_mono ((hsu a oe cls d (X.pn ++ pins) hz ⟨_, hd⟩).run [] _ _ H _ (g4.now.suite he hd g.na n1 n2) (hyes rfl a g.na)) (fun f s6 q => ?_) fun _ _ z => False.elim z
      match f, q with
      | .next, ⟨_, _, S, q⟩ => exact ⟨_, _, S.unsuite ok, q⟩
      | .brk, ⟨_, _, S, q⟩ => exact ⟨_, _, S.unsuite ok, q⟩
      | .cont, ⟨_, _, S, q⟩ => exact ⟨_, _, S.unsuite ok, q⟩
      | .ret _, ⟨_, _, _, S, r6, q⟩ => exact ⟨_, _, _, S.unsuite ok, r6, q⟩
  | @named x n i c ts b₀ suite np pos' hds2 l2 hc hi hln hsu r ih =>
    rintro ⟨b, hb, hno, hyes⟩
    refine wpAny_handleBy_cons (codeAny_handlers_test (clause_ask g hf hc hb ?_)) (by intro z; cases z)
    cases b with
    | false => exact ih (hno rfl)
    | true =>
      refine codeAny_handlers_suite_as (HandSPX.lands_againZ g.fl fun h4 fl4 up4 => ?_)
      have g4 := g.on fl4 up4
      obtain ⟨oe, vs, he, hz, hd, n1, n2⟩ := g4.ob hf
      refine store_ok (X := X.suite a ((a, oe) :: (X.pn ++ pins))) (v := .ref a) (g4.now.suite he hd g.na n1 n2) hN hi (.inl hln) rfl (fun s5 S5 => ?_) (.inr hln)
      refine wpAny_mono ((hsu a oe cls d (X.pn ++ pins) hz ⟨_, hd⟩).run [] s5 _ H _ S5 (hyes rfl a g.na)) (fun f s6 q => ?_) fun _ _ z => False.elim z
      have goes : ∀ {σ6 : L2.St} {H6 : Hp} {P : Shared → Prop}, Inv (X.suite a ((a, oe) :: (X.pn ++ pins))) [] σ6 H6 s6 → (∀ s7, Inv X pins (σ6.set i none) H6 s7 → P s7) → wpAny (model X.prog X.w) X.A (do bindName X.env n .none; unbindBehindTheSuite X.env n pos') (fun _ s7 => P s7) X.xe s6 :=
        fun S6 hq => gone_ok (S6.unsuite ok) hN hi hln hq
      match f, q with
      | .next, ⟨_, _, S, q⟩ => exact goes S fun s7 J => ⟨_, _, J, q⟩
      | .brk, ⟨_, _, S, q⟩ => exact goes S fun s7 J => ⟨_, _, J, q⟩
      | .cont, ⟨_, _, S, q⟩ => exact goes S fun s7 J => ⟨_, _, J, q⟩
      | .ret _, ⟨_, _, _, S, r6, q⟩ => exact goes S fun s7 J => ⟨_, _, _, J, r6, q⟩
variable {body : List Stmt} {h₀ : ExceptHandler} {hds : List ExceptHandler} {l : List Cls3} {pos : Pos} {tb : WX → TS} {Wout : WX}
/-- THE RULE -/
theorem ps_tryC (hs : X.stack = X.env :: X.outer) (hf : X.env.frame = some X.env.locals) (hN : X.N.Nodup) (tk : L2N.Takes X Wout)
    (hb : ∀ (W : WX) (pn : List (Addr × Obj)) (xe : Value → Shared → Prop), (∀ q ∈ X.pn, q ∈ pn) → L2N.Takes (X.tr pn xe) W → PassesOwn (model X.prog X.w) X.A X.env xe → PSs (X.tr pn xe) body (tb W))
    (hh : ClOk X (h₀ :: hds) l) : PS X (.Try body (h₀ :: hds) [] [] pos) (fun D σ H => tb (wCl X.K Wout D l) D σ H) := by
  refine ⟨fun pins s σ H D I h => wpAny_Try_except ?_⟩
  have ok := I.ok
  refine wpAny_mono ((hb (wCl X.K Wout D l) (X.pn ++ pins) _ (fun q hq => List.mem_append_left _ hq) (fun u s2 xx => ?_) PassesOwn.looking).run [] s σ H D (I.toTry _) h) (fun f s1 q => ?_) fun e s1 he => he
  · exact grd_of ok hs hf xx fun a cls d σ2 H2 B sI s3 e g w => by
      subst e
      exact clauses ok hN g hs hf tk hh w
  · match f, q with
    | .next, ⟨_, _, J, q⟩ => exact wpAny_execs_nil ⟨_, _, J.ofTry ok, q⟩
    | .brk, ⟨_, _, J, q⟩ => exact ⟨_, _, J.ofTry ok, q⟩
    | .cont, ⟨_, _, J, q⟩ => exact ⟨_, _, J.ofTry ok, q⟩
    | .ret _, ⟨_, _, _, J, r, q⟩ => exact ⟨_, _, _, J.ofTry ok, r, q⟩
end
theorem takes_no {X : Cx} : L2N.Takes X (fun _ _ _ _ => False) := fun _ _ ⟨_, _, _, _, _, _, _, _, _, _, _, _, _, _, _, _, w⟩ => w.elim
end XT
set_option maxHeartbeats 4000000
namespace XV
open PySem PySem.Spec PyProof.Rows L2 HM XS
open L2N (Zn)
/-! ### small data: what repr can show -/
structure SmD (n : Nat) (d : PyData) : Prop where
  sh : d.showable = true
  nd : d.hasDict = false
  dp : d.depth ≤ 60
  lv : d.leavesShort 100 = true
  bk : d.bulk ≤ n
theorem SmD.len {n : Nat} {d : PyData} (s : SmD n d) : d.shown.length ≤ 102 * n + 100 := by
  have h := PyData.shown_le_bulk 100 (by decide) d s.lv
  have h2 := Nat.mul_le_mul_left 102 s.bk
  omega
section
variable {X : Cx}
/-- {x!r}, x a list or a tuple of data -/
def tFmtD (K : PySem.W.Frag) (te : TE) : TE := fun σ H Q => te σ H fun x H1 => ∃ (a : Addr) (d : PyData), x = .ref a ∧ Dp K H1 (.ref a) d ∧ SmD 10000 d ∧ Q (.str d.shown) H1
theorem pe_fmtD {e : Expr} {te : TE} {pos : Pos} {k : Nat} (hr : Room k X.A) (hg : X.A.guards = some []) (he : PE X e te) : PE X (.FormattedValue e 114 none pos) (tFmtD X.K te) := by
  refine ⟨fun pins s σ H Q I h => wpAny_FormattedValue_repr (thn (he.run pins s σ H _ I h) fun v s1 hv => ?_)⟩
  obtain ⟨x, H1, I1, r1, a, d, rfl, hd, sm, q⟩ := hv
  obtain ⟨as, rd⟩ := Dp.reads I1 d _ _ hd r1
  cases r1
  have := hr.un
  have := sm.dp
  have hl : d.shown.length ≤ sizeLine := Nat.le_trans sm.len (by decide)
  refine pyReprObj_of_reads rd sm.sh (fun z => by rw [sm.nd] at z; cases z) hg (by omega) (fun _ _ e => e) (fun h' u tk kp => ?_) hl
  exact wpAny_formatField_str ⟨.str d.shown, H1, (I1.kept (t' := 0) kp).tok _, ⟨_, rfl⟩, q⟩ ⟨.str d.shown, H1, (I1.kept (t' := 0) kp).tok _, ⟨_, rfl⟩, q⟩ hl
end
/-! ### an own exception with a written __init__, made -/
theorem guards_make {A : Around} {C : Addr} {us : List Value} {kw : List (Str × Value)} (h : A.guards = some []) : (A.under (.builtin "type.__call__" ⟨.ref C :: us, kw⟩)).guards = some [] := by
  rw [← h]
  rfl
section
variable {X : Cx} {CX : CXT} {x : Str} {C fI : Addr} {k : Nat} {fd : FuncData} {ps : List Str} {sp : Sp} {e : Expr} {es : List Expr} {ta : TA} {p pos : Pos}
/-- C(e, ..): the call, told before its value is put to use -/
theorem mk_run {pins : List (Addr × Obj)} {σ : L2.St} {H1 : Hp} {vs : List V} {us : List Value} {R : Value → Shared → Prop} {s1 : Shared} {Q : Addr → Hp → Prop} (T : OexC X.K C) (iC : PySem.W.findIn X.K (.ref C) "__init__" = some (some (.ref fI))) (tI : PySem.W.typeIn X.K (.ref fI) = some (.type "function"))
    (F1 : FnG X.prog X.w X.K X.mg X.base CX k fI fd ps sp) (hr : Room (k + 1) X.A) (hg : X.A.guards = some []) (hb : Binds X.K fd ps []) (hx : Passes CX X (fun _ _ _ => False)) (I1 : Inv X pins σ H1 s1) (r1 : Vals vs us) (hz : vs.length ≤ 1000)
    (hsp : ∀ a, H1 a = none → sp (.ref a :: vs) (upd H1 a (exo a C none)) (fun v H2 => v = .non ∧ Q a H2) fun _ _ _ => False)
    (fin : ∀ (a : Addr) (hp2 : Heap) (s2 : Shared) (H2 : Hp), s1.heap.objs.size ≤ a → H1 a = none → (∀ b o, s1.heap.get? b = some o → hp2.get? b = some o) → Inv X pins σ (upd H1 a (exo a C none)) { s1 with heap := hp2 } → s2.os = s1.os → AllBare s2.gens →
      Un (frs X.stack) [] (upd H1 a (exo a C none)) H2 hp2 s2.heap → HOk X.prog X.w H2 s2.heap → Q a H2 → R (.ref a) s2) : wpAny (model X.prog X.w) X.A (call (.ref C) us) R X.xe s1 := by
  obtain ⟨nm, q, N, bs, bm, sn, sub, ab, col, dd, k0, k1, k2, k3, k5, hC, hbm⟩ := T.cls
  obtain ⟨hp, g, dr, tk, os⟩ := s1
  have hn : H1 (hp.objs.size + 1) = none := I1.hok.fresh (Nat.le_succ _)
  have hq := hsp (hp.objs.size + 1) hn
  have kk : ∀ b o, hp.get? b = some o → ((hp.push (PySem.W.kdv_tup us)).push (PySem.HandSPX.excO C hp.objs.size)).get? b = some o := fun b o e => Heap.get?_push_of_some _ (Heap.get?_push_of_some _ e)
  have hget : ((hp.push (PySem.W.kdv_tup us)).push (PySem.HandSPX.excO C hp.objs.size)).get? (hp.objs.size + 1) = some (PySem.HandSPX.excO C hp.objs.size) := by heap_get
  have I2 := I1.laid (t' := tk) (a := hp.objs.size + 1) (o := exo (hp.objs.size + 1) C none) (h' := (hp.push (PySem.W.kdv_tup us)).push (PySem.HandSPX.excO C hp.objs.size)) kk (Nat.le_succ _) (exo_ok hget)
  have r2 : Vals (V.ref (hp.objs.size + 1) :: vs) (Value.ref (hp.objs.size + 1) :: us) := .cons rfl r1
  have hl : (Value.ref (hp.objs.size + 1) :: us ++ []).length = ps.length := by
    rw [List.append_nil, ← r2.length]
    exact F1.len _ _ _ _ hq
  have b2 := hb _ (Value.ref (hp.objs.size + 1) :: us) I2.kIn hl
  rw [List.append_nil] at b2
  have hus : us.length ≤ sizeLine := by
    rw [← Paired.length r1, sizeLine_eq]
    omega
  have run := F1.run _ X.stack _ _ ⟨Value.ref (hp.objs.size + 1) :: us, []⟩ _ _ _ (fun _ _ _ => False) (hr.make C us []) (guards_make hg) (I2.env0.make C us []) b2 r2 hq
  refine wpAny_call (PySem.HandSPX.call_own F.excBase_ValueError (fun Y => PySem.HandSPX.refsVE_contains Y bm hbm) (I1.kIn _ _ hC) (PySem.W.looks_findIn I1.kIn iC) (fun self => PySem.W.bind_fn I1.kIn self tI) hus (codeAny_mono run fun r s' h => ?_))
  match r, h with
  | .error er, h => exact hx pins σ _ _ er s' I2 h
  | .ok (.ret u), ⟨v, H2, os2, bare2, un2, hok2, rv, ev, q2⟩ =>
    subst ev
    exact ⟨rv, fin _ _ s' H2 (Nat.le_succ _) hn kk I2 os2 bare2 un2 hok2 q2⟩
/-- C(e, ..) as a value -/
def tMkV (C : Addr) (sp : Sp) (ta : TA) : TE := fun σ H Q => ta σ H fun vs H1 => vs.length ≤ 1000 ∧ ∀ a, H1 a = none → sp (.ref a :: vs) (upd H1 a (exo a C none)) (fun v H2 => v = .non ∧ Q (.ref a) H2) fun _ _ _ => False
theorem pe_mkV (T : OexC X.K C) (iC : PySem.W.findIn X.K (.ref C) "__init__" = some (some (.ref fI))) (tI : PySem.W.typeIn X.K (.ref fI) = some (.type "function"))
    (F1 : FnG X.prog X.w X.K X.mg X.base CX k fI fd ps sp) (hr : Room (k + 1) X.A) (hgd : X.A.guards = some []) (hb : Binds X.K fd ps []) (hx : Passes CX X (fun _ _ _ => False)) (hg : Gl X x) (hm : X.mg x = some (.ref C)) (ha : PA X (e :: es) ta)
    (hdb : (x == ("__debug__" : Str)) = false := by decide) (he : starEach (e :: es) X.env = (false, eval e X.env) :: starEach es X.env := by rfl) (hpl : (backTo pos (starEach es X.env)).any (·.1) = false := by rfl) :
    PE X (.Call (.Name x p) (e :: es) [] pos) (tMkV C sp ta) := by
  refine ⟨fun pins s σ H Q I h => wpAny_Call_Name_kw (ld_glob I hg hm ?_ hdb)⟩
  refine PySem.W.callWith_K (h₀ := X.base) I.ok.mod.kin T.kC (thn (ha.run pos pins s σ H _ I h) fun us s1 ⟨vs, H1, I1, r1, hz, q1⟩ => ⟨I1.kIn, ?_⟩) he hpl
  refine mk_run (Q := fun a H2 => Q (.ref a) H2) T iC tI F1 hr hgd hb hx I1 r1 hz q1 fun a hp2 s2 H2 _ _ _ I2 os2 bare2 un2 hok2 q2 => ?_
  obtain ⟨h2, g2, d2, t2, os'⟩ := s2
  obtain rfl : os' = s1.os := os2
  have J := I2.call (h' := h2) (g' := g2) (d' := d2) (t' := t2) (ch := []) un2 hok2 bare2 (fun b z => absurd z (by simp))
  exact ⟨.ref a, H2, J, rfl, q2⟩
/-- C(e, ..), to be raised -/
def tMkR (C : Addr) (sp : Sp) (ta : TA) : L2.St → Hp → XK → Prop := fun σ H Q => ta σ H fun vs H1 => vs.length ≤ 1000 ∧ ∀ a, H1 a = none → sp (.ref a :: vs) (upd H1 a (exo a C none))
  (fun v H2 => v = .non ∧ ∃ (d : Addr) (fs : List (Str × V)), H2 a = some (exo a C (some d)) ∧ H2 d = some (exd d fs) ∧ H1 d = none ∧ Q (.ref C) (some d) (upd (del H2 a) d (.xd fs))) fun _ _ _ => False
theorem pmk_mkR (T : OexC X.K C) (iC : PySem.W.findIn X.K (.ref C) "__init__" = some (some (.ref fI))) (tI : PySem.W.typeIn X.K (.ref fI) = some (.type "function"))
    (F1 : FnG X.prog X.w X.K X.mg X.base CX k fI fd ps sp) (hr : Room (k + 1) X.A) (hgd : X.A.guards = some []) (hb : Binds X.K fd ps []) (hx : Passes CX X (fun _ _ _ => False)) (hg : Gl X x) (hm : X.mg x = some (.ref C)) (ha : PA X (e :: es) ta)
    (hdb : (x == ("__debug__" : Str)) = false := by decide) (he : starEach (e :: es) X.env = (false, eval e X.env) :: starEach es X.env := by rfl) (hpl : (backTo pos (starEach es X.env)).any (·.1) = false := by rfl) :
    L2N.PMk X (.Call (.Name x p) (e :: es) [] pos) (tMkR C sp ta) := by
  intro pins s σ H Q I h
  refine wpAny_Call_Name_kw (ld_glob I hg hm ?_ hdb)
  refine PySem.W.callWith_K (h₀ := X.base) I.ok.mod.kin T.kC (thn (ha.run pos pins s σ H _ I h) fun us s1 ⟨vs, H1, I1, r1, hz, q1⟩ => ⟨I1.kIn, ?_⟩) he hpl
  refine mk_run (Q := fun a H2 => ∃ (d : Addr) (fs : List (Str × V)), H2 a = some (exo a C (some d)) ∧ H2 d = some (exd d fs) ∧ H1 d = none ∧ Q (.ref C) (some d) (upd (del H2 a) d (.xd fs))) T iC tI F1 hr hgd hb hx I1 r1 hz q1 fun a hp2 s2 H2 sz _ kk I2 os2 bare2 un2 hok2 q2 => ?_
  obtain ⟨d, fs, ea, ed, hd1, q3⟩ := q2
  obtain ⟨h2, g2, d2, t2, os'⟩ := s2
  obtain ⟨hp, g, dr, tk, os⟩ := s1
  obtain ⟨t0, G, J, kG, ge, hoe, na⟩ := mk_end0 (d2 := d2) (t2 := t2) I1 sz kk un2 hok2 os2 bare2 ea ed hd1
  exact ⟨a, _, _, ⟨G, g2, d2, t2, os'⟩, _, .ref C, some d, rfl, J, kG, ge, hoe, ⟨rfl, rfl, fun vs hv => by cases hv; rfl⟩, rfl, rfl, na, rfl, bare2, raises_own T.exC T.tyC, q3⟩
end
end XV
set_option maxHeartbeats 4000000
namespace XV
open PySem PySem.Spec PyProof.Rows L2 HM XS L2H
open L2N (Zn)
/-! ### isinstance of an exception -/
/-- an exception of the class at D stands at a, tracked: without a dict, or with one -/
def ExAt (H : Hp) (a D : Addr) : Prop := H a = some (ExO (.ref D) a) ∨ ∃ (dx : Addr) (fs : List (Str × V)), H a = some (exo a D (some dx)) ∧ H dx = some (exd dx fs)
section
variable {X : Cx} {pins : List (Addr × Obj)} {σ : L2.St} {H : Hp} {s : Shared}
theorem exd_obj {P : Program} {w : World} {h : Heap} {dx : Addr} {fs : List (Str × V)} (hok : HOk P w H h) (e : H dx = some (exd dx fs)) : ∃ o, h.get? dx = some o := by
  obtain ⟨mA, ⟨o, _, _, ho, _⟩, _⟩ := exd_at hok e
  exact ⟨o, ho⟩
theorem inst_of (I : Inv X pins σ H s) {a D : Addr} (h : ExAt H a D) : ∃ (ox : Obj) (od : Option Obj), PySem.W.InstAt s.heap a ox D od := by
  rcases h with h | ⟨dx, fs, h, hd⟩
  · obtain ⟨⟨oe, vs, e, z, d, _⟩, _, _⟩ := I.hok a _ h
    refine ⟨oe, none, e, z.1, by unfold PySem.W.notCls; rw [d], ?_⟩
    rw [z.2]
    exact True.intro
  · obtain ⟨t1, e⟩ := exo_at I.hok h
    obtain ⟨o, ho⟩ := exd_obj I.hok hd
    exact ⟨_, some o, e, rfl, rfl, ho⟩
def rIsX (K : PySem.W.Frag) : List V → Hp → VK → Prop := fun xs H Q => ∃ (a D : Addr) (c : V) (u : Value) (b : Bool), xs = [.ref a, c] ∧ ExAt H a D ∧ ExcC K D ∧ ClsV c u ∧ PySem.W.kitOne K (.ref D) u = some b ∧ Q (.bl b) H
theorem isX_run {a D : Addr} {ox : Obj} {od : Option Obj} {u : Value} {b : Bool} {Q : VK} (I : Inv X pins σ H s) (J : PySem.W.InstAt s.heap a ox D od) (C : ExcC X.K D) (e : PySem.W.kitOne X.K (.ref D) u = some b) (q : Q (.bl b) H) :
    wpAny (model X.prog X.w) X.A (call (.builtin "isinstance") [.ref a, u]) (EP X pins σ Q) X.xe s := by
  have hcl : (PySem.W.clsIn X.K D).isSome = true := by
    obtain ⟨cd, hc, _⟩ := PySem.W.any_some C.hd
    rw [hc]
    rfl
  exact PySem.W.kia_one (PySem.W.kitx_exc hcl C.hg C.hk C.hs C.ha C.hn C.ht C.hm) I.kIn J e (fun z => nomatch z) fun tk => ⟨.bl b, H, I.tok tk, rfl, q⟩
theorem call_isX : CallR X (.builtin "isinstance") (rIsX X.K) := by
  intro pins s σ H xs us Q I r h
  obtain ⟨a, D, c, u, b, rfl, hx, C, hc, e, q⟩ := h
  match us, r with
  | [_, _], .cons r1 (.cons r2 .nil) =>
    cases r1
    have := hc.eq r2
    subst this
    obtain ⟨ox, od, J⟩ := inst_of I hx
    exact isX_run I J C e q
/-- the exception p that is handled: its class, its dict -/
structure PnC (X : Cx) (p : Addr × Obj) (D : Addr) (d : Option Addr) : Prop where
  hot : Hot1 X.A p
  mem : p ∈ X.pn
  z : Zn (.ref D) d p.2
  f : ∃ vs, p.2.data = .fields vs
/-- its dict, where it has one, is tracked -/
def DiOk (H : Hp) (d : Option Addr) : Prop := d = none ∨ ∃ (dd : Addr) (fs : List (Str × V)), d = some dd ∧ H dd = some (.xd fs)
theorem pn_inst {p : Addr × Obj} {D : Addr} {d : Option Addr} (c : PnC X p D d) (I : Inv X pins σ H s) (h : DiOk H d) : ∃ od, PySem.W.InstAt s.heap p.1 p.2 D od := by
  have e := (I.pin p (List.mem_append_left _ c.mem)).1
  obtain ⟨vs, hv⟩ := c.f
  have no : PySem.W.notCls p.2 = true := by
    unfold PySem.W.notCls
    rw [hv]
  rcases h with h | ⟨dd, fs, h, hd⟩
  · refine ⟨none, e, c.z.1, no, ?_⟩
    rw [c.z.2.1, h]
    exact True.intro
  · have hx : ObjOk X.prog X.w H s.heap dd (.xd fs) := I.hok dd _ hd
    obtain ⟨mA, ⟨o, _, _, ho, _⟩, _⟩ := hx
    refine ⟨some o, e, c.z.1, no, ?_⟩
    rw [c.z.2.1, h]
    exact ho
def rIsP (K : PySem.W.Frag) (p : Addr × Obj) (D : Addr) (d : Option Addr) : List V → Hp → VK → Prop := fun xs H Q => ∃ (c : V) (u : Value) (b : Bool), xs = [.ref p.1, c] ∧ DiOk H d ∧ ClsV c u ∧ PySem.W.kitOne K (.ref D) u = some b ∧ Q (.bl b) H
theorem call_isP {p : Addr × Obj} {D : Addr} {d : Option Addr} (c : PnC X p D d) (C : ExcC X.K D) : CallR X (.builtin "isinstance") (rIsP X.K p D d) := by
  intro pins s σ H xs us Q I r h
  obtain ⟨cv, u, b, rfl, hd, hc, e, q⟩ := h
  match us, r with
  | [_, _], .cons r1 (.cons r2 .nil) =>
    cases r1
    have := hc.eq r2
    subst this
    obtain ⟨od, J⟩ := pn_inst c I hd
    exact isX_run I J C e q
/-! ### e.f, e a tracked exception -/
def tXg (K : PySem.W.Frag) (n : Str) (te : TE) : TE := fun σ H Q => te σ H fun x H1 => ∃ (a D dx : Addr) (fs : List (Str × V)) (v : V), x = .ref a ∧ XfC K D ∧ PySem.W.findIn K (.ref D) n = some none ∧ H1 a = some (exo a D (some dx)) ∧ H1 dx = some (exd dx fs) ∧ fs.lookup n = some v ∧ Q v H1
theorem pe_xg {e : Expr} {te : TE} {pos : Pos} {n : Str} (he : PE X e te) (hb : attributeBase e n X.env (eval e X.env) = eval e X.env := by rfl) : PE X (.Attribute e n pos) (tXg X.K n te) := by
  refine ⟨fun pins s σ H Q I h => attr_of hb (thn (he.run pins s σ H _ I h) fun u s1 hh => ?_)⟩
  obtain ⟨x, H1, I1, rx, a, D, dx, fs, v, rfl, T, hno, ha, hd, l, q⟩ := hh
  cases rx
  obtain ⟨t1, e1⟩ := exo_at I1.hok ha
  obtain ⟨mA, hns, hr⟩ := exd_at I1.hok hd
  obtain ⟨od, ho, hl⟩ := lookIn_ns hns
  obtain ⟨u, hu, ru⟩ := RelO.some_of (v := v) (o := mA n) (by rw [← l]; exact hr n)
  have J : PySem.W.InstAt s1.heap a _ D (some od) := ⟨e1, rfl, rfl, ho⟩
  exact HandSPX.exc_get I1.kIn J T.ga T.gg T.exC (PySem.W.findObj_own T.hdC hno rfl (by rw [hl, hu])) (handed_of ru) ⟨v, H1, I1.tok _, ru, q⟩
/-- [..].count(True) -/
def rCntB (K : PySem.W.Frag) : V → List V → Hp → VK → Prop := fun x xs H Q => ∃ (p : Addr) (bs : List Bool) (b : Bool), x = .ref p ∧ xs = [.bl b] ∧ SqL K H p (bs.map V.bl) ∧ Q (.int (bs.count b : Nat)) H
theorem bools_of : ∀ {bs : List Bool} {us : List Value}, Vals (bs.map V.bl) us → us = bs.map Value.bool
  | [], _, .nil => rfl
  | b :: bs, _, .cons r t => by
    rw [bools_of t]
    cases r
    rfl
def eqb (b : Bool) : Value → Bool
  | .bool c => c == b
  | _ => false
theorem eqb_count (b : Bool) : ∀ bs : List Bool, (bs.map Value.bool).countP (eqb b) = bs.count b
  | [] => rfl
  | c :: bs => by
    rw [List.map_cons, List.countP_cons, List.count_cons, eqb_count b bs]
    rfl
theorem mt_countB : MtR X "list.count" (rCntB X.K) := by
  intro pins s σ H x xs v us Q I rx rxs h
  obtain ⟨p, bs, b, rfl, rfl, hs, q⟩ := h
  cases rx
  obtain ⟨u, rfl, ru⟩ := rxs.one
  cases ru
  obtain ⟨its, rv, ⟨⟨cls, dd, data, sl⟩, n, ho, hc, hdn, hd⟩, hlen⟩ := I.list hs
  simp only at hc hd
  subst hc hd
  have hi := bools_of rv
  subst hi
  refine call_meets PySem.F.slot_list_count ⟨_, ho, rfl⟩ PySem.F.entry_list_count (PySem.F.args_list_count_2 _ _) (SeqAt.list_countAt p _ n dd sl (.bool b) (eqb b)) ⟨ho, fun y hy => ?_, ?_⟩
  · have hy2 : y ∈ bs.map Value.bool := by simpa using hy
    obtain ⟨c, _, rfl⟩ := List.mem_map.mp hy2
    exact SeqAt.EqAt.bool_bool c b
  · refine ⟨.int (bs.count b : Nat), H, I.tok _, ⟨s.toks, ?_⟩, q⟩
    show Value.int (((bs.map Value.bool).toArray.toList.countP (eqb b) : Nat) : Int) s.toks = _
    rw [show (bs.map Value.bool).toArray.toList = bs.map Value.bool from rfl, eqb_count]
end
/-! ### calls while an exception is handled, of which the callee is told -/
structure FnQ (P : Program) (w : World) (K : PySem.W.Frag) (mg : Str → Option Value) (base : Heap) (k : Nat) (f : Addr) (fd : FuncData) (ps : List Str) (sp : Addr × Obj → Sp) : Prop where
  len : ∀ p vs H Q E, sp p vs H Q E → vs.length = ps.length
  run : ∀ (A : Around) (outer : List Env) (s : Shared) (H : Hp) (args : Args) (us : List Value) (vs : List V) (Q : VK) (E : XK) (p : Addr × Obj), RoomH k A → Hot1 A p → PinOk outer H s p → Env0 P w K mg base A outer s H → BindsTo s fd args (ps.zip us) → Vals vs us → sp p vs H Q E →
    codeAny (model P w) A (.call (.ref f) args) (CR CX0 outer P w H s Q E) s
section
variable {P : Program} {w : World} {K : PySem.W.Frag} {mg : Str → Option Value} {base : Heap} {k : Nat} {f : Addr} {fd : FuncData} {ps N : List Str} {sp : Addr × Obj → Sp} {x qual : Str} {params : Arguments} {body : List Stmt} {scope : Scope} {dvs : List V} {kws : List (Str × V)}
theorem okQ (F : FunD K x qual params body scope dvs kws f fd) (S : FnScope N ps scope) (len : ∀ p vs H Q E, sp p vs H Q E → vs.length = ps.length)
    (hbody : ∀ (cdv : Value) (A : Around) (outer : List Env) (s : Shared) (H : Hp) (vs : List V) (Q : VK) (E : XK) (p : Addr × Obj), Hot1 A p → RoomH k (A.deeper (envOfC qual scope s.heap.objs.size f cdv)) → sp p vs H Q E →
      ∃ t, PSs (cxH CX0 P w K mg base N qual scope f cdv A outer s H E p).nox body t ∧ t { nx := fun _ H' => Q .non H', rt := Q } (start N vs) H) : FnQ P w K mg base (k + 1) f fd ps sp := by
  obtain ⟨oc, od, dV, kV, doc, pm, an, cdv, ct, osl, rfl, lk, hcd, _, _⟩ := F.ex
  refine ⟨len, fun A outer s H args us vs Q E p hr hot hpin e0 hb r hsp => ?_⟩
  have hK : K.In s.heap := e0.mod.kin.keeps fun b o e => (e0.bs b o e).1
  have hL : s.heap.NoLimit := e0.mod.nolimit.keeps fun b o e => (e0.bs b o e).1
  refine codeAny_call_function hr.depth (hK _ _ lk) rfl S.co S.gen rfl (PySem.W.codeRec_of hK hcd) (hb _ _ _ _ ?_)
  refine wpAny_newFunctionEnv_cells S.kind (fun ⟨n, v⟩ hy => (S.par n (List.of_mem_zip hy).1).elim .inl fun q => .inr ⟨q, PySem.W.cellsFrom_some _ _ _ (.inl q)⟩) fun env he s1 hx => ?_
  subst he
  refine ⟨hL.keeps hx.toInCall.keep, codeAny_func ?_⟩
  obtain ⟨t, ht, hq⟩ := hbody cdv A outer s H vs Q E p hot (hr.deeper _) hsp
  refine wpAny_mono (ht.nox.run [] s1 (start N vs) H _ (inv_startH S hpin e0 (len _ _ _ _ _ hsp) r hx) hq) (fun fl s' hs => ?_) fun e s' hs => hs
  have fin : ∀ {σ' : L2.St} {H' : Hp} {v : V} {u : Value}, Inv (cxH CX0 P w K mg base N qual scope f cdv A outer s H E p) [] σ' H' s' → RelV v u → Q v H' → CE outer P w H s Q u s' := fun {_ H' v _} J rv q => ⟨v, H', J.os, J.bare, J.base, J.hok, rv, q⟩
  match fl, hs with
  | .ret u, ⟨v, σ', H', J, rv, q⟩ => exact fin J rv q
  | .next, ⟨σ', H', J, q⟩ => exact fin (v := V.non) (u := Value.none) J rfl q
  | .brk, ⟨_, _, _, q⟩ => exact q.elim
  | .cont, ⟨_, _, _, q⟩ => exact q.elim
end
section
variable {X : Cx} {k : Nat} {f : Addr} {fd : FuncData} {ps : List Str} {sp : Addr × Obj → Sp} {x : Str} {p : Addr × Obj} {q pos : Pos} {e : Expr} {es : List Expr} {t : TA}
theorem pe_callQ (F : FnQ X.prog X.w X.K X.mg X.base k f fd ps sp) (hr : RoomH k X.A) (hot : Hot1 X.A p) (hp : p ∈ X.pn) (hg : Gl X x) (hm : X.mg x = some (.ref f)) (hk : PySem.W.keepIn X.K (.ref f) = true) (hb : Binds X.K fd ps [])
    (ha : PA X (e :: es) t) (hdb : (x == ("__debug__" : Str)) = false := by decide) (he : starEach (e :: es) X.env = (false, eval e X.env) :: starEach es X.env := by rfl) (hpl : (backTo pos (starEach es X.env)).any (·.1) = false := by rfl) :
    PE X (.Call (.Name x q) (e :: es) [] pos) (tCall (sp p) [] E0 t) := by
  refine ⟨fun pins s σ H Q I h => wpAny_Call_Name_kw (ld_glob I hg hm ?_ hdb)⟩
  refine PySem.W.callWith_K (h₀ := X.base) I.ok.mod.kin hk (thn (ha.run pos pins s σ H _ I h) fun us s1 ⟨vs, H1, I1, r, hsp⟩ => ⟨I1.kIn, ?_⟩) he hpl
  have hsp : sp p (vs ++ []) H1 Q E0 := hsp
  rw [List.append_nil] at hsp
  have b := hb s1 us I1.kIn (by rw [List.append_nil, ← r.length]; exact F.len _ _ _ _ _ hsp)
  rw [List.append_nil] at b
  have P1 := I1.pin p (List.mem_append_left _ hp)
  have hpin : PinOk X.stack H1 s1 p := ⟨P1.1, P1.2.1, fun hm => (List.mem_cons.mp (I1.stkSub p.1 hm)).elim P1.2.2.1 P1.2.2.2.1, P1.2.2.2.2⟩
  refine wpAny_call (codeAny_mono (F.run X.A X.stack s1 H1 ⟨us, []⟩ us vs Q E0 p hr hot hpin I1.env0 b r hsp) fun r s' hq => ?_)
  match r, hq with
  | .error e, hq => exact hq.elim
  | .ok (.ret u), hq => exact I1.after hq
end
end XV
set_option maxHeartbeats 4000000
namespace XH
open PySem PySem.Spec PyProof.Rows L2 HM XS NdefX He
/-! ### what the head tells of classes with a written __init__ that says super().__init__ -/
/-- such an __init__: its class's name, its qualified name, what it is made of -/
structure SupD where
  cls : Str
  qual : Str
  params : Arguments
  body : List Stmt
  scope : Scope
abbrev FnZ : Type := Option (Str × Str × Arguments × FuncBody × Scope × Addr × Addr)
def SupD.f (K : PySem.W.Frag) (s : SupD) : Addr := ma K (ga K s.cls) "__init__"
def fnZ (K : PySem.W.Frag) (f : Addr) : FnZ := match K.lookup f with
  | some ⟨_, _, .func fd, _⟩ => some (fd.name, fd.qualname, fd.params, fd.body, fd.scope, fd.globals, fd.builtins)
  | _ => none
def SupD.val (s : SupD) : FnZ := some (("__init__" : Str), s.qual, s.params, FuncBody.stmts s.body, s.scope, mainGlobals, builtinsNs)
def cellB (K : PySem.W.Frag) (c C : Addr) : Bool := match K.lookup c with
  | some ⟨_, _, .cell (some (.ref D)), _⟩ => decide (D = C)
  | _ => false
theorem cellB_ok {K : PySem.W.Frag} {c C : Addr} (h : cellB K c C = true) : ∃ ob, K.lookup c = some ob ∧ ob.data = .cell (some (.ref C)) := by
  unfold cellB at h
  split at h
  · rename_i oc od D osl e
    have : D = C := of_decide_eq_true h
    subst this
    exact ⟨_, e, rfl⟩
  · cases h
def fileB (K : PySem.W.Frag) (c : Addr) (file : Str) : Bool := match K.lookup c with
  | some ⟨_, _, .fields vs, _⟩ => (match (vs[2]? : Option Value) with
    | some (.str fl _) => file == fl
    | _ => false)
  | _ => false
theorem fileB_ok {K : PySem.W.Frag} {c : Addr} {file : Str} (h : fileB K c file = true) : ∃ (ob : Obj) (vs : Array Value) (fl : Str) (tf : Tok), K.lookup c = some ob ∧ ob.data = .fields vs ∧ vs[2]? = some (.str fl tf) ∧ (file == fl) = true := by
  unfold fileB at h
  split at h
  · rename_i oc od vs osl e
    split at h
    · rename_i fl tf e2
      exact ⟨_, vs, fl, tf, e, rfl, e2, h⟩
    · cases h
  · cases h
def supB (K : PySem.W.Frag) (file : Str) (s : SupD) : Bool := PySem.W.keepIn K (.ref (s.f K)) && match K.lookup (s.f K) with
  | some ⟨_, _, .func fd, _⟩ => (match fd.closure, fd.defaults, fd.kwdefaults, fd.annotations, fd.code with
    | [(y, c)], .none, .none, none, .ref cc => decide (y = "__class__") && (cellB K c (ga K s.cls) && (PySem.W.codeIn K (.ref cc) s.qual && fileB K cc file))
    | _, _, _, _, _ => false)
  | _ => false
theorem supF_of {K : PySem.W.Frag} {prog : Program} {s : SupD} (h : supB K prog.main.file s = true) (e : fnZ K (s.f K) = s.val) :
    ∃ (cl : List (Str × Addr)) (c : Addr) (fd : FuncData), SupF K prog (ga K s.cls) (s.f K) ⟨"__init__", s.qual, s.params, s.body, s.scope, cl, c⟩ fd := by
  unfold supB at h
  obtain ⟨kp, h⟩ := ba h
  unfold fnZ at e
  split at h
  · rename_i oc od fd osl hk
    rw [hk] at e
    split at h
    · rename_i y c cc h1 h2 h3 h4 h5
      obtain ⟨hy, h⟩ := ba h
      obtain ⟨hc, h⟩ := ba h
      obtain ⟨hq, hf⟩ := ba h
      have hy2 : y = "__class__" := of_decide_eq_true hy
      subst hy2
      obtain ⟨n1, n2, n3, n4, n5, n6, n7, n8, n9, n10, n11, n12, n13, n14, n15⟩ := fd
      dsimp only at h1 h2 h3 h4 h5
      subst h1 h2 h3 h4 h5
      have e2 : (some (n1, n2, n3, n4, n5, n6, n15) : FnZ) = some (("__init__" : Str), s.qual, s.params, FuncBody.stmts s.body, s.scope, mainGlobals, builtinsNs) := e
      simp only [Option.some.injEq, Prod.mk.injEq] at e2
      obtain ⟨z1, z2, z3, z4, z5, z6, z7⟩ := e2
      subst z1 z2 z3 z4 z5 z6 z7
      obtain ⟨ob, k1, k2⟩ := cellB_ok hc
      exact ⟨_, cc, _, ⟨oc, od, osl, n10, n11, n14, rfl, hk⟩, hq, ⟨c, ob, rfl, k1, k2⟩, fileB_ok hf, kp⟩
    · cases h
  · cases h
/-- an exception class over ValueError -/
def oexB (K : PySem.W.Frag) (C : Addr) : Bool := (match K.lookup C with
  | some ⟨.type t, _, .cls cd, sl⟩ => (match cd.mro, sl.toList with
    | .ref D :: bm, [_, _, _, _, some (.builtin n), _] => decide (t = "type") && (decide (D = C) && (decide (n = "ValueError.__new__") && (!cd.hasDel && (cd.hasDict && HandSPX.refsVE bm))))
    | _, _ => false)
  | _ => false) && (eqO (PySem.W.findIn K (.ref C) "__setattr__") (some (some (.builtin "object.__setattr__"))) && (decide (PySem.W.subIn K (.ref C) (.type "BaseException") = some true) && (decide (PySem.W.typeIn K (.ref C) = some (.type "type")) && PySem.W.keepIn K (.ref C))))
theorem oexB_ok {K : PySem.W.Frag} {C : Addr} (h : oexB K C = true) : OexC K C := by
  obtain ⟨h, h2⟩ := ba h
  obtain ⟨k1, h2⟩ := ba h2
  obtain ⟨k2, h2⟩ := ba h2
  obtain ⟨k3, k4⟩ := ba h2
  refine ⟨?_, eqO_ok k1, of_decide_eq_true k2, of_decide_eq_true k3, k4⟩
  split at h
  · rename_i t dd cd sl hk
    split at h
    · rename_i D bm s0 s1 s2 s3 n s5 hm hs
      obtain ⟨q1, h⟩ := ba h
      obtain ⟨q2, h⟩ := ba h
      obtain ⟨q3, h⟩ := ba h
      obtain ⟨q4, h⟩ := ba h
      obtain ⟨q5, q6⟩ := ba h
      have e1 : t = "type" := of_decide_eq_true q1
      have e2 : D = C := of_decide_eq_true q2
      have e3 : n = "ValueError.__new__" := of_decide_eq_true q3
      subst e1 e2 e3
      obtain ⟨c1, c2, c3, c4, c5, c6, c7, c8, c9, c10, c11⟩ := cd
      dsimp only at hm q4 q5
      have e4 : c11 = false := by simpa using q4
      subst hm e4 q5
      have hsl : sl = #[s0, s1, s2, s3, some (.builtin "ValueError.__new__"), s5] := by
        apply Array.ext'
        rw [hs]
      subst hsl
      exact ⟨_, _, _, _, bm, _, _, _, _, _, s0, s1, s2, s3, s5, hk, q6⟩
    · cases h
  · cases h
def supCB (K : PySem.W.Frag) (C : Addr) : Bool := oexB K C && (eqO (PySem.W.nsIn K cStatics "thirdparty.any") (some none) && (eqO (PySem.W.ks_superIn K C C "__init__") (some (some (.builtin "ValueError.__init__"))) && (decide (PySem.W.subIn K (.ref C) (.type "ValueError") = some true) && decide (PySem.W.subIn K (.ref C) (.ref C) = some true))))
theorem supCB_ok {K : PySem.W.Frag} {C : Addr} (h : supCB K C = true) : SupC K C := by
  obtain ⟨h1, h⟩ := ba h
  obtain ⟨h2, h⟩ := ba h
  obtain ⟨h3, h⟩ := ba h
  obtain ⟨h4, h5⟩ := ba h
  exact ⟨oexB_ok h1, eqO_ok h2, eqO_ok h3, of_decide_eq_true h4, of_decide_eq_true h5⟩
/-- what isinstance asks of an exception's class -/
def excCB (K : PySem.W.Frag) (D : Addr) : Bool := eqO (PySem.W.findIn K (.ref D) "__getattribute__") (some (some (.builtin "BaseException.__getattribute__"))) && (eqO (PySem.W.findIn K (.ref D) "__getattr__") (some none) && (decide (PySem.W.subIn K (.ref D) (.type "BaseException") = some true) && (PySem.W.hasDictIn K D &&
  (eqO (PySem.W.findIn K (.ref D) "__class__") (some (some (.builtin "object.__class__"))) && (eqO (PySem.W.specialIn K (.builtin "object.__class__") "__get__") (some (some (.builtin "getset_descriptor.__get__"))) && (decide (PySem.W.takesIn K (.builtin "object.__class__") = some true) && decide (PySem.W.mroIn K D (.type "object") = some true)))))))
theorem excCB_ok {K : PySem.W.Frag} {D : Addr} (h : excCB K D = true) : ExcC K D := by
  obtain ⟨h1, h⟩ := ba h
  obtain ⟨h2, h⟩ := ba h
  obtain ⟨h3, h⟩ := ba h
  obtain ⟨h4, h⟩ := ba h
  obtain ⟨h5, h⟩ := ba h
  obtain ⟨h6, h⟩ := ba h
  obtain ⟨h7, h8⟩ := ba h
  exact ⟨eqO_ok h1, eqO_ok h2, of_decide_eq_true h3, h4, eqO_ok h5, eqO_ok h6, of_decide_eq_true h7, of_decide_eq_true h8⟩
/-! ### the hook -/
def asY (g : Addr → Option Obj) (n : Nat) : List Addr := asD g n ++ [cStatics]
structure SaysY (file : Str) (fa : List Fa) (fn : List DefD) (sf : List SupD) (tf : List Defn) (ex : PySem.W.Frag → Bool) (h : Heap) (K : PySem.W.Frag) : Prop where
  d : SaysD fa fn K
  more : ex K = true
  sup : ∀ s ∈ sf, supB K file s = true ∧ fnZ K (s.f K) = s.val
  hd : ∀ p ∈ tf, PySem.W.codeHdIn K (cT K p).1 (cT K p).2 = true
  out : ∀ p ∈ tf, K.lookup (cT K p).2 = none
  empty : ∀ p ∈ tf, h.get? (cT K p).2 = some { cls := .none, data := .fields #[] }
abbrev AlY : Type := AlD × Bool × List FnZ
def obsK (file : Str) (fa : List Fa) (fn : List DefD) (sf : List SupD) (tf : List Defn) (ex : PySem.W.Frag → Bool) (g : Addr → Option Obj) (K : PySem.W.Frag) : AlY := (obsD fa fn K, (ex K && (tabsB g tf K && sf.all (supB K file))), sf.map fun s => fnZ K (s.f K))
def obsY (n : Nat) (file : Str) (fa : List Fa) (fn : List DefD) (sf : List SupD) (tf : List Defn) (ex : PySem.W.Frag → Bool) (g : Addr → Option Obj) : AlY := obsK file fa fn sf tf ex g (frT g (asY g n))
def valY (fn : List DefD) (sf : List SupD) : AlY := (valD fn, true, sf.map SupD.val)
theorem saysY_of {n : Nat} {file : Str} {fa : List Fa} {fn : List DefD} {sf : List SupD} {tf : List Defn} {ex : PySem.W.Frag → Bool} {h : Heap} (e : obsY n file fa fn sf tf ex h.get? = valY fn sf) : SaysY file fa fn sf tf ex h (frT h.get? (asY h.get? n)) := by
  have e1 : obsD fa fn (frT h.get? (asY h.get? n)) = valD fn := congrArg (fun z : AlY => z.1) e
  have e2 : (ex (frT h.get? (asY h.get? n)) && (tabsB h.get? tf (frT h.get? (asY h.get? n)) && sf.all (supB (frT h.get? (asY h.get? n)) file))) = true := congrArg (fun z : AlY => z.2.1) e
  have e3 : sf.map (fun s => fnZ (frT h.get? (asY h.get? n)) (s.f (frT h.get? (asY h.get? n)))) = sf.map SupD.val := congrArg (fun z : AlY => z.2.2) e
  obtain ⟨h1, h2⟩ := ba e2
  obtain ⟨h3, h4⟩ := ba h2
  have tab : ∀ p ∈ tf, PySem.W.codeHdIn (frT h.get? (asY h.get? n)) (cT (frT h.get? (asY h.get? n)) p).1 (cT (frT h.get? (asY h.get? n)) p).2 = true ∧ ∃ o, h.get? (cT (frT h.get? (asY h.get? n)) p).2 = some o ∧ emptyTab o = true := fun p hp => by
    obtain ⟨q1, q2⟩ := ba (List.all_eq_true.mp h3 p hp)
    refine ⟨q1, ?_⟩
    cases q : h.get? (cT (frT h.get? (asY h.get? n)) p).2 with
    | none =>
      rw [q] at q2
      cases q2
    | some o =>
      rw [q] at q2
      exact ⟨o, rfl, q2⟩
  refine ⟨e1, h1, fun s hs => ⟨List.all_eq_true.mp h4 s hs, ?_⟩, fun p hp => (tab p hp).1, fun p hp => ?_, fun p hp => ?_⟩
  · exact (List.map_inj_left.mp e3) s hs
  · obtain ⟨_, o, q, z⟩ := tab p hp
    exact frT_none q z
  · obtain ⟨_, o, q, z⟩ := tab p hp
    rw [q, emptyTab_eq z]
def hookY (n : Nat) (file : Str) (fa : List Fa) (fn : List DefD) (sf : List SupD) (tf : List Defn) (ex : PySem.W.Frag → Bool) : PySem.W.Hook where
  α := AlY
  obs := fun s => obsY n file fa fn sf tf ex s.heap.get?
  val := fun _ => valY fn sf
  says := fun _ h => ∃ K : PySem.W.Frag, K.In h ∧ SaysY file fa fn sf tf ex h K
  of := fun _ _ e => ⟨_, frT_in, saysY_of e⟩
  keeps := fun _ _ _ ⟨K, hK, c⟩ k => ⟨K, PySem.W.Frag.In.keeps hK k, ⟨c.d, c.more, c.sup, c.hd, c.out, fun p hp => k _ _ (c.empty p hp)⟩⟩
theorem obsY_eq {n : Nat} {file : Str} {fa : List Fa} {fn : List DefD} {sf : List SupD} {tf : List Defn} {ex : PySem.W.Frag → Bool} {g : Addr → Option Obj} {s : Shared} (h : ∀ a, g a = s.heap.get? a) : obsY n file fa fn sf tf ex g = (hookY n file fa fn sf tf ex).obs s := by
  have e : g = s.heap.get? := funext h
  rw [e]
  rfl
end XH
set_option maxHeartbeats 4000000
namespace D24
open PySem PySem.Spec PyProof.Rows L2 HM XW
def top (i : Nat) : Stmt := PySem.Challenge.pw_halfmade_k24_whole_asked_late.main.body.getD i (.Pass ⟨0, 0, 0, 0⟩)
abbrev FnP (K : PySem.W.Frag) (x : Str) (st : Stmt) (f : Addr) (fd : FuncData) : Prop := FunD K x x (defArgs st) (defBody st) (defScope st) [] [] f fd
abbrev sAt : Stmt := top 18
abbrev sPot : Stmt := top 19
abbrev sDraw : Stmt := top 20
theorem scAt : FnScope ["_law_script", "_law_k"] ["_law_script", "_law_k"] (defScope sAt) := ⟨rfl, rfl, rfl, by decide +kernel, rfl, by decide +kernel, by decide +kernel⟩
theorem scPot : FnScope ["_law_script", "_law_k", "_law_cell"] ["_law_script", "_law_k"] (defScope sPot) := ⟨rfl, rfl, rfl, by decide +kernel, rfl, by decide +kernel, by decide +kernel⟩
theorem scDraw : FnScope ["_law_pot_here", "_law_room", "_law_digit"] ["_law_pot_here", "_law_room"] (defScope sDraw) := ⟨rfl, rfl, rfl, by decide +kernel, rfl, by decide +kernel, by decide +kernel⟩
section
variable {P : Program} {w : World} {K : PySem.W.Frag} {mg : Str → Option Value} {base : Heap} {f fA : Addr} {fd fdA : FuncData}
theorem ok_at (F : FnP K "_law_at" sAt f fd) (ml : mg "len" = none) : FnOk P w K mg base CX0 1 f fd ["_law_script", "_law_k"] (spAt K) := by
  refine ok_code F scAt (fun vs H Q E h => ?_) (fun cdv A outer s H vs Q E hcd hr h => ?_)
  · obtain ⟨a, ns, k, rfl, _⟩ := h
    rfl
  · obtain ⟨a, ns, k, rfl, hS, q⟩ := h
    refine ⟨_, pss_one (ps_ret (pe_ifExp (pt_cmpR op_lt (pv 1) (pe_callB call_len_seq (by rfl) ml PySem.boot_len (pa_cons (pv 0) pa_nil)) (nomark _)) (pe_ix ix_list (pv 0) (pv 1) (fun _ _ => rfl)) pe_int)), ?_⟩
    refine ⟨_, rfl, _, rfl, a, _, rfl, .inl hS, _, _, rfl, rfl, _, rfl, ?_⟩
    rw [List.length_map]
    refine ite2 (fun e => ?_) (fun e => ?_)
    · have hk : k < ns.length := by
        have := of_decide_eq_true e
        omega
      refine ⟨_, rfl, _, rfl, a, _, _, .int ns[k], rfl, rfl, hS, ?_, ?_⟩
      · exact atI_nat (by rw [List.getElem?_map, List.getElem?_eq_getElem hk]; rfl)
      · rw [List.getD_eq_getElem?_getD, List.getElem?_eq_getElem hk] at q
        exact q
    · have hk : ns.length ≤ k := by
        refine Nat.le_of_not_lt fun z => e (decide_eq_true ?_)
        omega
      rw [List.getD_eq_getElem?_getD, List.getElem?_eq_none hk] at q
      exact q
theorem ok_pot (F : FnP K "_law_pot" sPot f fd) (FA : FnP K "_law_at" sAt fA fdA) (gA : mg "_law_at" = some (.ref fA)) (ml : mg "len" = none) (mm : mg "max" = none) : FnOk P w K mg base CX0 2 f fd ["_law_script", "_law_k"] (spPot K) := by
  have GA : FnOk P w K mg base CX0 1 fA fdA ["_law_script", "_law_k"] (spAt K) := ok_at FA ml
  have bA : Binds K fdA ["_law_script", "_law_k"] [] := FA.bindsN fun _ _ _ _ _ _ us hl => match us, hl with | [_, _], _ => rfl
  refine ok_code F scPot (fun vs H Q E h => ?_) (fun cdv A outer s H vs Q E hcd hr h => ?_)
  · obtain ⟨a, ns, k, rfl, _⟩ := h
    rfl
  · obtain ⟨a, ns, k, rfl, hk, hS, q⟩ := h
    refine ⟨_, pss_cons (ps_set (i := 2) scPot.nd rfl (.inl rfl) (pe_call GA hr (by rfl) gA FA.kp bA .nil pass0 (pa_cons (pv 0) (pa_cons (pv 1) pa_nil))))
      (pss_one (ps_ret (pe_lst (pa_cons (pe_callB (call_max2 rfl) (by rfl) mm (by decide +kernel) (pa_cons pe_int (pa_cons (pe_op op_sub (pv 2) (pe_op op_pow pe_int pe_int)) pa_nil)))
        (pa_cons (pe_op op_add (pe_op op_mod (pe_op op_pow (pe_op op_add (pe_op op_mod (pv 2) pe_int) (pe_op op_mul pe_int (pe_op op_add (pv 1) pe_int))) pe_int) pe_int) pe_int) pa_nil))))), ?_⟩
    refine ⟨_, rfl, _, rfl, a, ns, k, rfl, hS, ?_⟩
    have hm := Int.emod_nonneg (ns.getD k 0) (show (2147483629 : Int) ≠ 0 by decide)
    have hm2 := Int.emod_lt_of_pos (ns.getD k 0) (show (0 : Int) < 2147483629 by decide)
    refine ⟨_, rfl, 10, 18, rfl, rfl, ⟨by decide, by decide, by decide⟩, _, _, rfl, rfl, _, _, rfl, ?_⟩
    refine ⟨_, rfl, _, _, rfl, rfl, (by show (0 : Int) < 2147483629; decide), _, rfl, _, _, rfl, rfl, _, _, rfl, rfl, .inl ⟨by decide, by decide⟩, _, _, rfl, rfl, _, _, rfl, rfl, ⟨by decide, by decide, ?_⟩, _, _, rfl, rfl, (by show (0 : Int) < 2147483563; decide), _, _, rfl, rfl, (by show 2 ≤ sizeLine; decide), fun p hp => q p _ _ hp ⟨?_, ?_, ?_⟩⟩
    · have e : ((ns.getD k 0 % 2147483629 + 40503 * ((k : Int) + 1)).natAbs : Int) < 2 ^ 64 := by omega
      omega
    · split <;> omega
    · have := Int.emod_nonneg ((ns.getD k 0 % 2147483629 + 40503 * ((k : Int) + 1)) ^ (3 : Int).toNat) (show (2147483563 : Int) ≠ 0 by decide)
      omega
    · have := Int.emod_lt_of_pos ((ns.getD k 0 % 2147483629 + 40503 * ((k : Int) + 1)) ^ (3 : Int).toNat) (show (0 : Int) < 2147483563 by decide)
      omega
theorem ok_draw (F : FnP K "_law_draw" sDraw f fd) (md : mg "divmod" = none) : FnOk P w K mg base CX0 1 f fd ["_law_pot_here", "_law_room"] spDraw := by
  refine ok_code F scDraw (fun vs H Q E h => ?_) (fun cdv A outer s H vs Q E hcd hr h => ?_)
  · obtain ⟨l, many, p0, p1, rfl, _⟩ := h
    rfl
  · obtain ⟨l, many, p0, p1, rfl, hm0, hm1, hl, ⟨h0, h1, h2⟩, q⟩ := h
    refine ⟨_, pss_cons (ps_if (pt_cmpR op_gt (pe_ix ix_list (pv 0) pe_int (fun _ _ => rfl)) pe_int (nomark _))
        (pss_cons (ps_asg (pe_callB call_divmodW (by rfl) md (by decide +kernel) (pa_cons (pe_ix ix_list (pv 0) pe_int (fun _ _ => rfl)) (pa_cons (pv 1) pa_nil)))
            (pg_tup (by rfl) (pgs_cons (pg_sub (pv 0) pe_int set_list) (pgs_cons (pg_name (i := 2) scDraw.nd rfl (.inl rfl)) pgs_nil))))
          (pss_one (ps_ret (pv 2)))) pss_nil)
      (pss_cons (ps_asg (pe_op op_mod (pe_op op_add (pe_op op_mul (pe_ix ix_list (pv 0) pe_int (fun _ _ => rfl)) pe_int) pe_int) pe_int) (pg_sub (pv 0) pe_int set_list))
      (pss_one (ps_ret (pe_op op_mod (pe_op op_fdiv (pe_op op_mod (pe_op op_mul (pe_ix ix_list (pv 0) pe_int (fun _ _ => rfl)) (pe_ix ix_list (pv 0) pe_int (fun _ _ => rfl))) pe_int) pe_int) (pv 1))))), ?_⟩
    have g0 : atI [V.int p0, V.int p1] 0 = some (.int p0) := rfl
    have g1 : atI [V.int p0, V.int p1] 1 = some (.int p1) := rfl
    refine ⟨_, rfl, l, _, 0, _, rfl, rfl, SqL.of hl, g0, _, _, rfl, rfl, _, rfl, ite2 (fun e => ?_) (fun e => ?_)⟩
    · refine ⟨_, rfl, l, _, 0, _, rfl, rfl, SqL.of hl, g0, _, rfl, p0, many, rfl, ⟨hm0, PyProof.noPylong_of_log2 hm1⟩, fun T hT => ?_⟩
      have nl : l ≠ T := ne_of_none hl hT
      refine ⟨T, _, rfl, SqT.of upd_same, rfl, _, _, rfl, _, rfl, l, _, 0, 0, rfl, rfl, (by rw [upd_ne nl]; exact hl), rfl, _, _, rfl, rfl, ?_⟩
      refine ⟨_, rfl, q _ _ (fun b o e nb => ?_) ⟨p0 / many, p1, upd_same, ⟨Int.ediv_nonneg h0 (by omega), h1, h2⟩⟩ (Int.emod_nonneg _ (by omega)) (Int.emod_lt_of_pos _ hm0)⟩
      rw [upd_ne nb, upd_ne (ne_of_none e hT)]
      exact e
    · have e5 := Int.emod_nonneg (p1 * 39373 + 7919) (show (2147483629 : Int) ≠ 0 by decide)
      have e6 := Int.emod_lt_of_pos (p1 * 39373 + 7919) (show (0 : Int) < 2147483629 by decide)
      refine ⟨_, rfl, l, _, 1, _, rfl, rfl, SqL.of hl, g1, _, _, rfl, rfl, .inl ⟨by omega, by omega⟩, _, _, rfl, rfl, _, _, rfl, rfl, (by show (0 : Int) < 2147483629; decide), _, rfl, l, _, 1, 1, rfl, rfl, hl, rfl, ?_⟩
      have g2 : atI [V.int p0, V.int ((p1 * 39373 + 7919) % 2147483629)] 1 = some (.int ((p1 * 39373 + 7919) % 2147483629)) := rfl
      refine ⟨_, rfl, l, _, 1, _, rfl, rfl, SqL.of upd_same, g2, _, rfl, l, _, 1, _, rfl, rfl, SqL.of upd_same, g2, _, _, rfl, rfl, .inl ⟨by omega, by omega⟩, _, _, rfl, rfl, (by show (0 : Int) < 2147483587; decide), _, _, rfl, rfl, ⟨by decide, by decide⟩, _, rfl, _, _, rfl, rfl, hm0, ?_⟩
      exact q _ _ (fun b o e nb => by rw [upd_ne nb]; exact e) ⟨p0, _, upd_same, ⟨h0, e5, by omega⟩⟩ (Int.emod_nonneg _ (by omega)) (Int.emod_lt_of_pos _ hm0)
end
end D24
set_option maxHeartbeats 4000000
namespace D24
open PySem PySem.Spec PyProof.Rows L2 HM XW XR K11
abbrev sNm : Stmt := top 21
abbrev sNms : Stmt := top 22
abbrev sNum : Stmt := top 23
abbrev sRd : Stmt := top 24
theorem scNm : FnScope ["_law_pot_here", "_law_taken_here", "_law_letters", "_law_name_here", "_law_k", "_law_way", "_law_letter"] ["_law_pot_here", "_law_taken_here"] (defScope sNm) := ⟨rfl, rfl, rfl, by decide +kernel, rfl, by decide +kernel, by decide +kernel⟩
theorem scNms : FnScope ["_law_pot_here", "_law_room", "_law_taken_here", "_law_k"] ["_law_pot_here", "_law_room"] (defScope sNms) := ⟨rfl, rfl, rfl, by decide +kernel, rfl, by decide +kernel, by decide +kernel⟩
theorem scNum : FnScope ["_law_pot_here"] ["_law_pot_here"] (defScope sNum) := ⟨rfl, rfl, rfl, by decide +kernel, rfl, by decide +kernel, by decide +kernel⟩
theorem scRd : FnScope ["_law_pot_here", "_law_names_here", "_law_k"] ["_law_pot_here", "_law_names_here"] (defScope sRd) := ⟨rfl, rfl, rfl, by decide +kernel, rfl, by decide +kernel, by decide +kernel⟩
abbrev DP : List Str := ["_law_pot_here", "_law_room"]
theorem sz {n : Nat} (h : n ≤ 1000) : n ≤ sizeLine := Nat.le_of_lt (small1000 h)
section
variable {P : Program} {w : World} {K : PySem.W.Frag} {mg : Str → Option Value} {base : Heap} {f fD fN : Addr} {fd fdD fdN : FuncData}
def spNum : Sp := fun vs H Q _ => ∃ l : Addr, vs = [.ref l] ∧ PotAt H l ∧ ∀ (H' : Hp) (n : Int), Ch l H H' → PotAt H' l → n.natAbs < 10 ^ 60 → Q (.int n) H'
theorem ok_num (F : FnP K "_law_number" sNum f fd) (GD : FnOk P w K mg base CX0 1 fD fdD DP spDraw) (FD : FnP K "_law_draw" sDraw fD fdD) (gD : mg "_law_draw" = some (.ref fD)) : FnOk P w K mg base CX0 2 f fd ["_law_pot_here"] spNum := by
  have bD : Binds K fdD DP [] := FD.bindsN fun _ _ _ _ _ _ us hl => match us, hl with | [_, _], _ => rfl
  refine ok_code F scNum (fun vs H Q E h => ?_) (fun cdv A outer s H vs Q E hcd hr h => ?_)
  · obtain ⟨l, rfl, _⟩ := h
    rfl
  · obtain ⟨l, rfl, hP, q⟩ := h
    refine ⟨_, pss_cons (ps_if (pt_cmpR op_eq (pe_call GD hr (by rfl) gD FD.kp bD .nil pass0 (pa_cons (pv 0) (pa_cons pe_int pa_nil))) pe_int (nomark _))
        (pss_one (ps_ret (pe_op op_add (pe_op op_sub (pe_call GD hr (by rfl) gD FD.kp bD .nil pass0 (pa_cons (pv 0) (pa_cons (pe_op op_sub (pe_op op_mul pe_int (pe_op op_pow pe_int pe_int)) pe_int) pa_nil))) (pe_op op_pow pe_int pe_int)) pe_int))) pss_nil)
      (pss_one (ps_ret (pe_op op_sub (pe_call GD hr (by rfl) gD FD.kp bD .nil pass0 (pa_cons (pv 0) (pa_cons pe_int pa_nil))) pe_int))), ?_⟩
    refine ⟨_, rfl, l, _, pa hP, pb hP, rfl, by decide, by decide, ph hP, pk hP, fun H0 way c0 hP0 w0 w1 => ⟨rfl, _, rfl, ite2 (fun _ => ?_) (fun _ => ?_)⟩⟩
    · refine ⟨_, rfl, 10, 60, rfl, rfl, ⟨by decide, by decide, by decide⟩, 2, 10 ^ 60, rfl, rfl, .inl ⟨by decide, by decide⟩, 2 * 10 ^ 60, 1, rfl, rfl, ?_⟩
      refine ⟨l, _, pa hP0, pb hP0, rfl, by decide +kernel, by decide +kernel, ph hP0, pk hP0, fun H1 d c1 hP1 d0 d1 => ?_⟩
      refine ⟨10, 60, rfl, rfl, ⟨by decide, by decide, by decide⟩, _, _, rfl, rfl, _, _, rfl, rfl, q H1 _ (Ch.trans c0 c1) hP1 ?_⟩
      have e : (10 : Int) ^ (60 : Int).toNat = 1000000000000000000000000000000000000000000000000000000000000 := by decide +kernel
      have e2 : (10 : Int) ^ 60 = 1000000000000000000000000000000000000000000000000000000000000 := by decide +kernel
      have e3 : (10 : Nat) ^ 60 = 1000000000000000000000000000000000000000000000000000000000000 := by decide +kernel
      rw [e2] at d1
      rw [e, e3]
      omega
    · refine ⟨_, rfl, l, _, pa hP0, pb hP0, rfl, by decide, by decide, ph hP0, pk hP0, fun H1 d c1 hP1 d0 d1 => ⟨_, _, rfl, rfl, q H1 _ (Ch.trans c0 c1) hP1 (by omega)⟩⟩
/-- a road: one to four of these names -/
def rdOk (ns : List Str) (z : Str) : Prop := ptOk z ∧ ∃ ws : List Str, z = Txt.join (Str.ofString ".") ws ∧ ws ≠ [] ∧ ws.length ≤ 4 ∧ ∀ w ∈ ws, w ∈ ns
/-- a road: one to four of the names -/
def spRd (K : PySem.W.Frag) : Sp := fun vs H Q _ => ∃ (l t : Addr) (ns : List Str), vs = [.ref l, .ref t] ∧ PotAt H l ∧ H t = some (.lst (ns.map V.str)) ∧ (∀ z ∈ ns, nmOk z) ∧ ns ≠ [] ∧ ns.length ≤ 100 ∧ ∀ (H' : Hp) (z : Str), Ch l H H' → PotAt H' l → rdOk ns z → Q (.str z) H'
theorem strs_ne {H : Hp} {l t : Addr} {ns : List Str} (hP : PotAt H l) (ht : H t = some (.lst (ns.map V.str))) : t ≠ l := fun e => by
  obtain ⟨p0, p1, e2, _⟩ := hP
  rw [e, e2] at ht
  cases ns with
  | nil => cases ht
  | cons a r => cases ht
theorem nms_sum : ∀ (ws : List Str), (∀ z ∈ ws, nmOk z) → (ws.map (·.length)).sum ≤ 8 * ws.length
  | [], _ => Nat.le_refl _
  | z :: ws, h => by
    have h1 := (nm_len (h z List.mem_cons_self)).1
    have h2 := nms_sum ws fun y hy => h y (List.mem_cons_of_mem _ hy)
    rw [List.map_cons, List.sum_cons, List.length_cons]
    omega
theorem ok_rd (F : FnP K "_law_road" sRd f fd) (GD : FnOk P w K mg base CX0 1 fD fdD DP spDraw) (FD : FnP K "_law_draw" sDraw fD fdD) (gD : mg "_law_draw" = some (.ref fD)) (mr : mg "range" = none) (ml : mg "len" = none) : FnOk P w K mg base CX0 2 f fd ["_law_pot_here", "_law_names_here"] (spRd K) := by
  have bD : Binds K fdD DP [] := FD.bindsN fun _ _ _ _ _ _ us hl => match us, hl with | [_, _], _ => rfl
  refine ok_code F scRd (fun vs H Q E h => ?_) (fun cdv A outer s H vs Q E hcd hr h => ?_)
  · obtain ⟨l, t, ns, rfl, _⟩ := h
    rfl
  · obtain ⟨l, t, ns, rfl, hP, ht, hns, hne, hlen, q⟩ := h
    refine ⟨_, pss_one (ps_ret (pe_join pe_str (by exact (pe_lc (own := [("_law_k", 2)]) (g := gName 2) (tt := tYes) (te := tOp (rIxL K) (tVar 1) (tCall spDraw [] E0 (tCons (tVar 0) (tCons (tCB (fun xs H Q => ∃ p ys, xs = [.ref p] ∧ (SqL K H p ys ∨ SqT K H p ys) ∧ Q (.int (ys.length : Nat)) H) (tCons (tVar 1) tNil)) tNil)))) (by rfl) scRd.nd
        (pi_range1 (by rfl) mr (pa_cons (pe_op op_add pe_int (pe_call GD hr (by rfl) gD FD.kp bD .nil pass0 (pa_cons (pv 0) (pa_cons pe_int pa_nil)))) pa_nil))
        (blkOk_by (own := [("_law_k", 2)]) (N := ["_law_pot_here", "_law_names_here", "_law_k"]) (sc := defScope sRd) (by decide +kernel)) (fun _ _ _ _ _ => pg_name (i := 2) scRd.nd rfl (Or.inl rfl)) (fun _ _ _ _ _ => pts_nil)
        (fun _ _ _ _ _ => pe_ix ix_list (pv 1) (pe_call GD hr (by rfl) gD FD.kp bD .nil pass0 (pa_cons (pv 0) (pa_cons (pe_callB call_len_seq (by rfl) ml PySem.boot_len (pa_cons (pv 1) pa_nil)) pa_nil))) (fun _ _ => rfl)))))), ?_⟩
    have ntl := strs_ne hP ht
    refine ⟨⟨_, rfl⟩, _, rfl, l, _, pa hP, pb hP, rfl, by decide, by decide, ph hP, pk hP, fun H1 nn c1 hP1 n0 n1 => ?_⟩
    refine ⟨_, _, rfl, rfl, _, rfl, by omega, by omega, fun L hL => ?_⟩
    have nL : L ≠ l := hP1.ne hL
    have fL : H L = none := Ch.free c1 hL nL
    refine lc_range (lo := 0) (n := (1 + nn).toNat) (fun i H' => Ch l H H' ∧ PotAt H' l ∧ ∃ cs : List Str, cs.length = i ∧ (∀ z ∈ cs, z ∈ ns) ∧ H' L = some (.lst (cs.map V.str)))
      ⟨Ch.over c1 fL, hP1.new nL, [], rfl, fun x hx => (by cases hx), upd_same⟩ ?_ ?_
    · rintro i H2 hi ⟨k2, hP2, cs, e1, e2, e3⟩
      have ht2 := k2 t _ ht ntl
      have hpos : 0 < ns.length := List.length_pos_iff.mpr hne
      have hlog : ((ns.map V.str).length : Int).natAbs.log2 < 9000 := by
        rw [List.length_map, Int.natAbs_natCast]
        have h1 : ns.length < 2 ^ 7 := by omega
        have := (Nat.log2_lt (by omega)).mpr h1
        omega
      refine ⟨rfl, _, rfl, _, rfl, _, rfl, t, _, rfl, .inl (SqL.of ht2), l, _, pa hP2, pb hP2, rfl, by rw [List.length_map]; omega, hlog, ph hP2, pk hP2, fun H3 d c3 hP3 d0 d1 => ?_⟩
      obtain ⟨dn, rfl⟩ : ∃ n : Nat, d = (n : Int) := ⟨d.toNat, by omega⟩
      have hdn : dn < ns.length := by
        rw [List.length_map] at d1
        omega
      refine ⟨t, _, _, .str ns[dn], rfl, rfl, SqL.of (c3 t _ ht2 ntl), atI_nat (by rw [List.getElem?_map, List.getElem?_eq_getElem hdn]; rfl), cs.map V.str, c3 L _ e3 nL, ?_, Ch.over (Ch.trans k2 c3) fL, hP3.new nL, cs ++ [ns[dn]], ?_, ?_, ?_⟩
      · rw [List.length_map, e1]
        exact small1000 (by omega)
      · rw [List.length_append, e1]
        rfl
      · intro x hx
        rcases List.mem_append.mp hx with y | y
        · exact e2 x y
        · rw [List.mem_singleton.mp y]
          exact List.getElem_mem hdn
      · rw [upd_same]
        exact congrArg (fun z => some (HO.lst z)) (map_snoc V.str cs _)
    · rintro H2 ⟨k2, hP2, cs, e1, e2, e3⟩
      have hz : (Str.ofString ".").length = 1 := by decide +kernel
      have hs := nms_sum cs fun z hz => hns z (e2 z hz)
      refine ⟨_, L, cs, rfl, rfl, .inl (SqL.of e3), ?_, q H2 _ k2 hP2 ⟨⟨cs, rfl, by omega, by omega, fun z hz => hns z (e2 z hz)⟩, cs, rfl, (fun z => by rw [z, List.length_nil] at e1; omega), by omega, e2⟩⟩
      rw [hz, e1]
      omega
end
end D24
set_option maxHeartbeats 4000000
namespace D24
open PySem PySem.Spec PyProof.Rows L2 HM XW XR K11
/-! ### names unlike those taken -/
theorem pigeon : ∀ (A B : List Str), A.Nodup → (∀ a ∈ A, a ∈ B) → A.length ≤ B.length
  | [], B, _, _ => Nat.zero_le _
  | a :: A, B, hn, hs => by
    obtain ⟨h1, h2⟩ := List.nodup_cons.mp hn
    have ha := hs a List.mem_cons_self
    have := pigeon A (B.erase a) h2 fun x hx => by
      have hne : x ≠ a := fun e => h1 (e ▸ hx)
      exact (List.mem_erase_of_ne hne).mpr (hs x (List.mem_cons_of_mem _ hx))
    rw [List.length_erase_of_mem ha] at this
    have hp : 0 < B.length := List.length_pos_of_mem ha
    rw [List.length_cons]
    omega
theorem unlike {A B : List Str} (hn : A.Nodup) (h : B.length < A.length) : ∃ z r, A.filter (fun z => !decide (z ∈ B)) = z :: r ∧ z ∈ A ∧ z ∉ B := by
  cases e : A.filter (fun z => !decide (z ∈ B)) with
  | nil =>
    exfalso
    have := pigeon A B hn fun a ha => Classical.byContradiction fun hb => by
      have : a ∈ A.filter (fun z => !decide (z ∈ B)) := List.mem_filter.mpr ⟨ha, by rw [decide_eq_false hb]; rfl⟩
      rw [e] at this
      cases this
    omega
  | cons z r =>
    have hm : z ∈ A.filter (fun z => !decide (z ∈ B)) := by
      rw [e]
      exact List.mem_cons_self
    obtain ⟨h1, h2⟩ := List.mem_filter.mp hm
    refine ⟨z, r, rfl, h1, fun hb => ?_⟩
    rw [decide_eq_true hb] at h2
    cases h2
abbrev abcS : List Str := abc.cps.toList.map fun c => (⟨#[c]⟩ : Str)
theorem abcS_nd : abcS.Nodup := by decide +kernel
theorem abcS_ok : ∀ z ∈ abcS, nmOk z := by
  unfold nmOk
  decide +kernel
abbrev wordsT : List Str := ["begin", "end", "fail", "have", "again", "note", "caught", "take", "draw", "done"]
theorem wordsT_ok : ∀ z ∈ wordsT, nmOk z := by
  unfold nmOk
  decide +kernel
theorem inV_strs (z : Str) : ∀ ys : List Str, inV (.str z) (ys.map V.str) = decide (z ∈ ys)
  | [] => rfl
  | y :: ys => by
    have ih := inV_strs z ys
    unfold inV at ih ⊢
    rw [List.map_cons, List.any_cons, ih]
    show ((y == z) || decide (z ∈ ys)) = _
    by_cases h : z = y
    · subst h
      simp
    · have hb : (y == z) = false := beq_eq_false_iff_ne.mpr fun e => h e.symm
      rw [hb, Bool.false_or]
      simp [h]
theorem flat_strs : ∀ ys : List Str, (ys.map V.str).all flatV = true
  | [] => rfl
  | y :: ys => by
    rw [List.map_cons, List.all_cons, flat_strs ys]
    rfl
theorem tl_cut8 (x : Str) : (cutS x none (some 8)).cps.toList = x.cps.toList.take 8 := by
  unfold cutS
  have e : HT.sIx x.length x.length (some 8) = min 8 x.length := HT.sIx_nat x.length x.length 8
  rw [HT.sIx_none, e]
  show (((x.cps.toList.drop 0).take (min 8 x.length - 0)).toArray).toList = _
  rw [List.drop_zero, Nat.sub_zero, List.toList_toArray]
  have hl : x.length = x.cps.toList.length := by simp [Str.length]
  rw [hl, ← List.take_take, List.take_length]
theorem nm_cut {a b : Str} (ha : nmOk a) (hb : nmOk b) : nmOk (cutS (a ++ b) none (some 8)) := by
  have e : (a ++ b).cps.toList = a.cps.toList ++ b.cps.toList := TL.tl_append a b
  have h1 := (nm_len ha).2
  have h1' : 1 ≤ a.cps.toList.length := by
    rw [Array.length_toList]
    exact h1
  unfold nmOk nameL
  rw [tl_cut8, e]
  have hlen : 1 ≤ (List.take 8 (a.cps.toList ++ b.cps.toList)).length ∧ (List.take 8 (a.cps.toList ++ b.cps.toList)).length ≤ 8 := by
    rw [List.length_take, List.length_append]
    omega
  rw [decide_eq_true hlen.1, decide_eq_true hlen.2]
  show (List.take 8 (a.cps.toList ++ b.cps.toList)).all low = true
  rw [List.all_eq_true]
  intro c hc
  rcases List.mem_append.mp (List.mem_of_mem_take hc) with z | z
  · exact nm_low ha c z
  · exact nm_low hb c z
/-- data of texts -/
theorem dp_strs {K : PySem.W.Frag} {H : Hp} : ∀ ws : List Str, DpAll K H (ws.map V.str) (ws.map PyData.str)
  | [] => .nil
  | w :: ws => .cons (.str w) (dp_strs ws)
theorem strOk_nm {z : Str} (h : nmOk z) : PyData.strOk z = true := by
  unfold PyData.strOk
  rw [← Array.all_toList, List.all_eq_true]
  intro c hc
  have := nm_low h c hc
  unfold low at this
  obtain ⟨_, h2⟩ := Bool.and_eq_true_iff.mp this
  have := of_decide_eq_true h2
  exact decide_eq_true (by omega)
theorem lay_strs : ∀ {ws : List Str}, (∀ w ∈ ws, PyData.strOk w = true) → PyData.canLayAll0 (ws.map PyData.str) = true ∧ PyData.depthAll (ws.map PyData.str) = 0
  | [], _ => ⟨rfl, rfl⟩
  | w :: ws, h => by
    obtain ⟨h1, h2⟩ := lay_strs fun y hy => h y (List.mem_cons_of_mem _ hy)
    refine ⟨?_, ?_⟩
    · rw [List.map_cons, PyData.canLayAll0, h1, PyData.canLay0, h w List.mem_cons_self]
      rfl
    · rw [List.map_cons, PyData.depthAll, h2, PyData.depth]
      rfl
theorem shaped_strs {ws : List Str} (h : ∀ w ∈ ws, PyData.strOk w = true) : SeqAt.shaped (.list (ws.map PyData.str)) = true := by
  obtain ⟨h1, h2⟩ := lay_strs h
  unfold SeqAt.shaped
  rw [PyData.canLay0, h1, PyData.depth, h2]
  rfl
theorem eqv_strs : ∀ a b : List Str, PyData.eqvAll (a.map PyData.str) (b.map PyData.str) = decide (a = b)
  | [], [] => rfl
  | [], b :: bs => by
    rw [decide_eq_false (by simp)]
    rfl
  | a :: as, [] => by
    rw [decide_eq_false (by simp)]
    rfl
  | a :: as, b :: bs => by
    rw [List.map_cons, List.map_cons, PyData.eqvAll, eqv_strs as bs]
    show ((a == b) && decide (as = bs)) = _
    by_cases h : a = b
    · subst h
      simp
    · simp [h]
/-- all goes on -/
def Nx (H H' : Hp) : Prop := ∀ b o, H b = some o → H' b = some o
theorem Nx.trans {H H1 H2 : Hp} (a : Nx H H1) (b : Nx H1 H2) : Nx H H2 := fun c o e => b c o (a c o e)
theorem Nx.new {H : Hp} {p : Addr} {o : HO} (h : H p = none) : Nx H (upd H p o) := fun b u e => by
  rw [upd_ne (ne_of_none e h)]
  exact e
theorem Nx.over {H H1 : Hp} {p : Addr} {o : HO} (a : Nx H H1) (h : H p = none) : Nx H (upd H1 p o) := fun b u e => by
  rw [upd_ne (ne_of_none e h)]
  exact a b u e
theorem Nx.ch {l : Addr} {H H' : Hp} (a : Nx H H') : Ch l H H' := fun b o e _ => a b o e
theorem Nx.pot {l : Addr} {H H' : Hp} (a : Nx H H') (h : PotAt H l) : PotAt H' l := by
  obtain ⟨p0, p1, e, k⟩ := h
  exact ⟨p0, p1, a _ _ e, k⟩
theorem abcS_len : abcS.length = 26 := by decide +kernel
theorem abc_size : abc.cps.size = 26 := by decide +kernel
theorem abcS_get {i c : Nat} (h : abc.cps[i]? = some c) : abcS[i]? = some ⟨#[c]⟩ := by
  rw [List.getElem?_map, Array.getElem?_toList, h]
  rfl
section
variable {P : Program} {w : World} {K : PySem.W.Frag} {mg : Str → Option Value} {base : Heap} {f fD fN : Addr} {fd fdD fdN : FuncData}
def X2 (l t : Addr) (H H' : Hp) : Prop := ∀ b o, H b = some o → b ≠ l → b ≠ t → H' b = some o
def spNm : Sp := fun vs H Q _ => ∃ (l t : Addr) (ns : List Str), vs = [.ref l, .ref t] ∧ PotAt H l ∧ H t = some (.lst (ns.map V.str)) ∧ (∀ z ∈ ns, nmOk z) ∧ ns.length ≤ 20 ∧
  ∀ (H' : Hp) (z : Str), X2 l t H H' → PotAt H' l → nmOk z → z ∉ ns → H' t = some (.lst ((ns ++ [z]).map V.str)) → Q .non H'
theorem ok_nm (F : FnP K "_law_name" sNm f fd) (GD : FnOk P w K mg base CX0 1 fD fdD DP spDraw) (FD : FnP K "_law_draw" sDraw fD fdD) (gD : mg "_law_draw" = some (.ref fD)) (mr : mg "range" = none) : FnOk P w K mg base CX0 2 f fd ["_law_pot_here", "_law_taken_here"] spNm := by
  have bD : Binds K fdD DP [] := FD.bindsN fun _ _ _ _ _ _ us hl => match us, hl with | [_, _], _ => rfl
  refine ok_code F scNm (fun vs H Q E h => ?_) (fun cdv A outer s H vs Q E hcd hr h => ?_)
  · obtain ⟨l, t, ns, rfl, _⟩ := h
    rfl
  · obtain ⟨l, t, ns, rfl, hP, ht, hns, hlen, q⟩ := h
    refine ⟨_, pss_cons (ps_set (i := 2) scNm.nd rfl (.inr rfl) pe_str)
      (pss_cons (ps_set (i := 3) scNm.nd rfl (.inl rfl) (pe_join pe_str (by exact (pe_lc (own := [("_law_k", 4)]) (g := gName 4) (tt := tYes) (by rfl) scNm.nd
        (pi_range1 (by rfl) mr (pa_cons (pe_op op_add pe_int (pe_op op_mul (pe_call GD hr (by rfl) gD FD.kp bD .nil pass0 (pa_cons (pv 0) (pa_cons pe_int pa_nil))) (pe_call GD hr (by rfl) gD FD.kp bD .nil pass0 (pa_cons (pv 0) (pa_cons pe_int pa_nil))))) pa_nil))
        (blkOk_by (own := [("_law_k", 4)]) (N := ["_law_pot_here", "_law_taken_here", "_law_letters", "_law_name_here", "_law_k", "_law_way", "_law_letter"]) (sc := defScope sNm) (by decide +kernel)) (fun _ _ _ _ _ => pg_name (i := 4) scNm.nd rfl (Or.inl rfl)) (fun _ _ _ _ _ => pts_nil)
        (fun _ _ _ _ _ => pe_ix ix_str (pv 2) (pe_call GD hr (by rfl) gD FD.kp bD .nil pass0 (pa_cons (pv 0) (pa_cons pe_int pa_nil))) (fun _ _ => rfl))))))
      (pss_cons (ps_set (i := 5) scNm.nd rfl (.inl rfl) (pe_call GD hr (by rfl) gD FD.kp bD .nil pass0 (pa_cons (pv 0) (pa_cons pe_int pa_nil))))
      (pss_cons (ps_if (pt_cmpR op_eq (pv 5) pe_int (nomark _)) (pss_one (ps_set (i := 3) scNm.nd rfl (.inl rfl) (pe_ix ix_list (pe_lst (pa_cons pe_str (pa_cons pe_str (pa_cons pe_str (pa_cons pe_str (pa_cons pe_str (pa_cons pe_str (pa_cons pe_str (pa_cons pe_str (pa_cons pe_str (pa_cons pe_str pa_nil))))))))))) (pe_call GD hr (by rfl) gD FD.kp bD .nil pass0 (pa_cons (pv 0) (pa_cons pe_int pa_nil))) (fun _ _ => rfl)))) pss_nil)
      (pss_cons (ps_if (PW.pt (pw_and (pt_cmpR op_eq (pv 5) pe_int (nomark _)) (pw_and1 (pt_cmpR (op_neD hr.units) (pv 1) (pe_lst pa_nil) (nomark _))))) (pss_one (ps_set (i := 3) scNm.nd rfl (.inl rfl) (pe_slice sl_str (pe_op op_add_str (pe_ix ix_list (pv 1) (pe_un un_neg pe_int) (fun _ _ => rfl)) (pv 3)) po_none (po_some pe_int)))) pss_nil)
      (pss_cons (ps_if (pt_cmpR op_in_seq (pv 3) (pv 1) (by rfl))
          (pss_one (ps_set (i := 3) scNm.nd rfl (.inl rfl) (pe_ix ix_list (pe_lc (own := [("_law_letter", 6)]) (g := gName 6) (tt := tTest (tOp (rIn K true) (tVar 6) (tVar 1))) (by rfl) scNm.nd (pi_str (pv 2)) (blkOk_by (own := [("_law_letter", 6)]) (N := ["_law_pot_here", "_law_taken_here", "_law_letters", "_law_name_here", "_law_k", "_law_way", "_law_letter"]) (sc := defScope sNm) (by decide +kernel)) (fun _ _ _ _ _ => pg_name (i := 6) scNm.nd rfl (Or.inl rfl))
              (fun _ _ _ _ _ => pts_one (pt_cmpR op_notIn_seq (pv 6) (pv 1) (by rfl))) (fun _ _ _ _ _ => pv 6)) pe_int (fun _ _ => rfl)))) pss_nil)
      (pss_one (ps_expr (pe_bm PySem.F.plainAttrs_list PySem.F.slot_list_append PySem.F.type_list_append mt_append (pv 1) (pa_cons (pv 3) pa_nil))))))))), ?_⟩
    have ntl := strs_ne hP ht
    refine ⟨⟨_, rfl⟩, _, rfl, l, _, pa hP, pb hP, rfl, by decide, by decide, ph hP, pk hP, fun H0 d1 c0 hP0 d10 d11 => ?_⟩
    refine ⟨_, rfl, l, _, pa hP0, pb hP0, rfl, by decide, by decide, ph hP0, pk hP0, fun H1 d2 c1 hP1 d20 d21 => ?_⟩
    have hm : 0 ≤ d1 * d2 ∧ d1 * d2 ≤ 7 := by
      have h1 : d1 = 0 ∨ d1 = 1 := by omega
      rcases h1 with rfl | rfl <;> omega
    refine ⟨_, _, rfl, rfl, .inl ⟨by omega, by omega⟩, _, _, rfl, rfl, _, rfl, by omega, by omega, fun L hL => ?_⟩
    have nL : L ≠ l := hP1.ne hL
    have k1 := Ch.trans c0 c1
    have fL : H L = none := Ch.free k1 hL nL
    refine lc_range (lo := 0) (n := (1 + d1 * d2).toNat) (fun i H' => Ch l H H' ∧ PotAt H' l ∧ ∃ cs : List Str, cs.length = i ∧ (∀ z ∈ cs, lowS z) ∧ H' L = some (.lst (cs.map V.str)))
      ⟨Ch.over k1 fL, hP1.new nL, [], rfl, fun x hx => (by cases hx), upd_same⟩ ?_ ?_
    · rintro i H2 hi ⟨k2, hP2, cs, e1, e2, e3⟩
      refine ⟨rfl, _, rfl, _, rfl, l, _, pa hP2, pb hP2, rfl, by decide, by decide, ph hP2, pk hP2, fun H3 d c3 hP3 d0 d1 => ?_⟩
      obtain ⟨dn, rfl⟩ : ∃ n : Nat, d = (n : Int) := ⟨d.toNat, by omega⟩
      have hdn : dn < abc.cps.toList.length := by
        rw [abc_len]
        omega
      refine ⟨_, _, abc.cps.toList[dn], rfl, rfl, by decide +kernel, atI_nat (List.getElem?_eq_getElem hdn), cs.map V.str, c3 L _ e3 nL, ?_, Ch.over (Ch.trans k2 c3) fL, hP3.new nL, cs ++ [⟨#[abc.cps.toList[dn]]⟩], ?_, ?_, ?_⟩
      · rw [List.length_map, e1]
        exact small1000 (by omega)
      · rw [List.length_append, e1]
        rfl
      · intro x hx
        rcases List.mem_append.mp hx with z | z
        · exact e2 x z
        · rw [List.mem_singleton.mp z]
          refine ⟨rfl, fun c hc => ?_⟩
          have ec : c = abc.cps.toList[dn] := by simpa using hc
          rw [ec]
          exact abc_low _ (List.getElem_mem hdn)
      · rw [upd_same]
        exact congrArg (fun z => some (HO.lst z)) (map_snoc V.str cs _)
    rintro H2 ⟨k2, hP2, cs, e1, e2, e3⟩
    have hs : (cs.map (·.length)).sum = cs.length := by
      have go : ∀ l : List Str, (∀ y ∈ l, lowS y) → (l.map (·.length)).sum = l.length := fun l => by
        induction l with
        | nil => intro _; rfl
        | cons a l ih =>
          intro hh
          rw [List.map_cons, List.sum_cons, ih (fun y hy => hh y (List.mem_cons_of_mem _ hy)), (hh a List.mem_cons_self).1, List.length_cons]
          omega
      exact go cs e2
    have hz0 : (Str.ofString "").length = 0 := by decide +kernel
    have hz1 : nmOk (Txt.join (Str.ofString "") cs) := nm_join e2 (by omega) (by omega)
    refine ⟨_, L, cs, rfl, rfl, .inl (SqL.of e3), by rw [hz0, hs, e1]; omega, ?_⟩
    generalize Txt.join (Str.ofString "") cs = z1 at hz1 ⊢
    refine ⟨_, rfl, l, _, pa hP2, pb hP2, rfl, by decide, by decide, ph hP2, pk hP2, fun H3 way c3 hP3 w0 w1 => ?_⟩
    have k3 := Ch.trans k2 c3
    have ht3 := k3 t _ ht ntl
    refine ⟨_, rfl, rfl, _, rfl, ?_⟩
    by_cases hw0 : way = 0
    · subst hw0
      refine ⟨sz (by simp), fun W hW => ?_⟩
      have nW : W ≠ l := hP3.ne hW
      refine ⟨_, rfl, l, _, pa (hP3.new nW), pb (hP3.new nW), rfl, by decide, by decide, ph (hP3.new nW), pk (hP3.new nW), fun H4 d c4 hP4 d0 d1 => ?_⟩
      obtain ⟨dn, rfl⟩ : ∃ n : Nat, d = (n : Int) := ⟨d.toNat, by omega⟩
      have hdn : dn < wordsT.length := by
        show dn < 10
        omega
      have k4 : Ch l H H4 := Ch.trans k3 (Ch.trans (Ch.new hW) c4)
      have ht4 := k4 t _ ht ntl
      have hz4 := wordsT_ok _ (List.getElem_mem hdn)
      refine ⟨W, wordsT.map V.str, _, .str wordsT[dn], rfl, rfl, SqL.of (c4 W _ upd_same nW), atI_nat (by rw [List.getElem?_map, List.getElem?_eq_getElem hdn]; rfl), ?_⟩
      generalize wordsT[dn] = z4 at hz4 ⊢
      refine ⟨_, rfl, rfl, _, rfl, ?_⟩
      rw [show decide (V.int 0 = V.int 1) = false from by decide]
      refine ⟨_, rfl, _, rfl, t, _, rfl, .inl (SqL.of ht4), rfl, flat_strs ns, _, rfl, ?_⟩
      show if inV (.str z4) (ns.map V.str) = true then _ else _
      rw [inV_strs]
      by_cases hin : z4 ∈ ns
      · rw [decide_eq_true hin]
        refine ⟨_, rfl, abc, rfl, fun D4 hD4 => ?_⟩
        refine lc_it walk_str (fun i H' => Nx H4 H' ∧ H' D4 = some (.lst (((abcS.take i).filter (fun z => !decide (z ∈ ns))).map V.str))) ⟨Nx.new hD4, upd_same⟩ (fun _ _ _ _ => trivial) (fun i x H7 H8 hi => ?_) (fun H8 => ?_)
        · rintro ⟨n8, e8⟩ ⟨rfl, c, hc, rfl⟩
          have hy := abcS_get hc
          obtain ⟨y, ey⟩ : ∃ y : Str, (⟨#[c]⟩ : Str) = y := ⟨_, rfl⟩
          rw [ey] at hy ⊢
          refine ⟨rfl, _, rfl, _, rfl, t, _, rfl, .inl (SqL.of (n8 _ _ ht4)), rfl, flat_strs ns, _, rfl, ?_⟩
          show if (!inV (.str y) (ns.map V.str)) = true then _ else _
          rw [inV_strs]
          by_cases hy2 : y ∈ ns
          · rw [decide_eq_true hy2]
            refine ⟨n8, ?_⟩
            rw [take_snoc hy, List.filter_append]
            simp [hy2]
            simpa using e8
          · rw [decide_eq_false hy2]
            refine ⟨_, rfl, _, e8, ?_, n8.over hD4, ?_⟩
            · rw [List.length_map]
              refine small1000 (Nat.le_trans (List.length_filter_le _ _) ?_)
              rw [List.length_take, abcS_len]
              omega
            · rw [upd_same, take_snoc hy, List.filter_append, List.map_append]
              simp [hy2]
        rintro ⟨n8, e8⟩
        rw [abc_size, ← abcS_len, List.take_length] at e8
        obtain ⟨z9, r9, ef, h9, hn9⟩ := unlike (B := ns) abcS_nd (by rw [abcS_len]; omega)
        rw [ef] at e8
        have ht8 := n8 _ _ ht4
        refine ⟨D4, _, 0, .str z9, rfl, rfl, SqL.of e8, atI_nat (j := 0) rfl, ?_⟩
        have k8 : Ch l H H8 := Ch.trans k4 (Nx.ch n8)
        have hP8 := Nx.pot n8 hP4
        refine ⟨_, rfl, .inl ⟨rfl, _, SqL.of ht8⟩, _, rfl, t, _, _, rfl, rfl, ht8, by rw [List.length_map]; exact small1000 (by omega), q _ z9 (fun b o e n1 n2 => by rw [upd_ne n2]; exact k8 b o e n1) (hP8.new ntl) (abcS_ok z9 h9) hn9 ?_⟩
        rw [upd_same]
        exact congrArg (fun z => some (HO.lst z)) (map_snoc V.str ns _)
      · rw [decide_eq_false hin]
        refine ⟨_, rfl, .inl ⟨rfl, _, SqL.of ht4⟩, _, rfl, t, _, _, rfl, rfl, ht4, by rw [List.length_map]; exact small1000 (by omega), q _ z4 (fun b o e n1 n2 => by rw [upd_ne n2]; exact k4 b o e n1) (hP4.new ntl) hz4 hin ?_⟩
        rw [upd_same]
        exact congrArg (fun z => some (HO.lst z)) (map_snoc V.str ns _)
    rw [show decide (V.int way = V.int 0) = false from decide_eq_false fun e => hw0 (V.int.inj e)]
    refine ⟨_, rfl, rfl, _, rfl, ?_⟩
    by_cases hw1 : way = 1
    · subst hw1
      refine ⟨_, rfl, sz (by simp), fun N0 hN0 => ?_⟩
      have n4 : Nx H3 (upd H3 N0 (.lst [])) := Nx.new hN0
      have ht4 := n4 _ _ ht3
      have k4 : Ch l H (upd H3 N0 (.lst [])) := Ch.trans k3 (Nx.ch n4)
      have hP4 := Nx.pot n4 hP3
      refine ⟨.list (ns.map PyData.str), .list (([] : List Str).map PyData.str), .lst (SqL.of ht4) (dp_strs ns), .lst (SqL.of upd_same) (dp_strs []), shaped_strs (fun w hw => strOk_nm (hns w hw)), shaped_strs (fun w hw => by cases hw), _, rfl, ?_⟩
      have eq1 : PyData.eqv (.list (ns.map PyData.str)) (.list (([] : List Str).map PyData.str)) = decide (ns = []) := eqv_strs ns []
      rw [eq1]
      by_cases hn0 : ns = []
      · rw [decide_eq_true hn0]
        refine ⟨_, rfl, _, rfl, t, _, rfl, .inl (SqL.of ht4), rfl, flat_strs ns, _, rfl, ?_⟩
        show if inV (.str z1) (ns.map V.str) = true then _ else _
        rw [inV_strs]
        by_cases hin : z1 ∈ ns
        · rw [decide_eq_true hin]
          refine ⟨_, rfl, abc, rfl, fun D4 hD4 => ?_⟩
          refine lc_it walk_str (fun i H' => Nx (upd H3 N0 (.lst [])) H' ∧ H' D4 = some (.lst (((abcS.take i).filter (fun z => !decide (z ∈ ns))).map V.str))) ⟨Nx.new hD4, upd_same⟩ (fun _ _ _ _ => trivial) (fun i x H7 H8 hi => ?_) (fun H8 => ?_)
          · rintro ⟨n8, e8⟩ ⟨rfl, c, hc, rfl⟩
            have hy := abcS_get hc
            obtain ⟨y, ey⟩ : ∃ y : Str, (⟨#[c]⟩ : Str) = y := ⟨_, rfl⟩
            rw [ey] at hy ⊢
            refine ⟨rfl, _, rfl, _, rfl, t, _, rfl, .inl (SqL.of (n8 _ _ ht4)), rfl, flat_strs ns, _, rfl, ?_⟩
            show if (!inV (.str y) (ns.map V.str)) = true then _ else _
            rw [inV_strs]
            by_cases hy2 : y ∈ ns
            · rw [decide_eq_true hy2]
              refine ⟨n8, ?_⟩
              rw [take_snoc hy, List.filter_append]
              simp [hy2]
              simpa using e8
            · rw [decide_eq_false hy2]
              refine ⟨_, rfl, _, e8, ?_, n8.over hD4, ?_⟩
              · rw [List.length_map]
                refine small1000 (Nat.le_trans (List.length_filter_le _ _) ?_)
                rw [List.length_take, abcS_len]
                omega
              · rw [upd_same, take_snoc hy, List.filter_append, List.map_append]
                simp [hy2]
          rintro ⟨n8, e8⟩
          rw [abc_size, ← abcS_len, List.take_length] at e8
          obtain ⟨z9, r9, ef, h9, hn9⟩ := unlike (B := ns) abcS_nd (by rw [abcS_len]; omega)
          rw [ef] at e8
          have ht8 := n8 _ _ ht4
          refine ⟨D4, _, 0, .str z9, rfl, rfl, SqL.of e8, atI_nat (j := 0) rfl, ?_⟩
          have k8 : Ch l H H8 := Ch.trans k4 (Nx.ch n8)
          have hP8 := Nx.pot n8 hP4
          refine ⟨_, rfl, .inl ⟨rfl, _, SqL.of ht8⟩, _, rfl, t, _, _, rfl, rfl, ht8, by rw [List.length_map]; exact small1000 (by omega), q _ z9 (fun b o e n1 n2 => by rw [upd_ne n2]; exact k8 b o e n1) (hP8.new ntl) (abcS_ok z9 h9) hn9 ?_⟩
          rw [upd_same]
          exact congrArg (fun z => some (HO.lst z)) (map_snoc V.str ns _)
        · rw [decide_eq_false hin]
          refine ⟨_, rfl, .inl ⟨rfl, _, SqL.of ht4⟩, _, rfl, t, _, _, rfl, rfl, ht4, by rw [List.length_map]; exact small1000 (by omega), q _ z1 (fun b o e n1 n2 => by rw [upd_ne n2]; exact k4 b o e n1) (hP4.new ntl) hz1 hin ?_⟩
          rw [upd_same]
          exact congrArg (fun z => some (HO.lst z)) (map_snoc V.str ns _)
      · rw [decide_eq_false hn0]
        have hpos : 0 < ns.length := List.length_pos_iff.mpr hn0
        have hlast : ns.length - 1 < ns.length := by omega
        have hla := hns _ (List.getElem_mem hlast)
        have l1 := (nm_len hla).1
        have l2 := (nm_len hz1).1
        have hcat : (ns[ns.length - 1] ++ z1).length ≤ sizeLine := sz (by rw [strLen_append]; omega)
        refine ⟨_, rfl, 1, rfl, t, _, -1, .str ns[ns.length - 1], rfl, rfl, SqL.of ht4, ?_, _, rfl, _, _, rfl, rfl, sz (by omega), _, rfl, _, rfl, hcat, ?_⟩
        · have e : ns = ns.dropLast ++ [ns[ns.length - 1]] := by
            have h := List.dropLast_concat_getLast hn0
            rw [List.getLast_eq_getElem] at h
            exact h.symm
          have e2 : ns.map V.str = ns.dropLast.map V.str ++ [.str ns[ns.length - 1]] := by
            have := congrArg (List.map V.str) e
            rw [List.map_append] at this
            exact this
          rw [e2]
          exact atI_last _ _
        have hz5 := nm_cut hla hz1
        generalize cutS (ns[ns.length - 1] ++ z1) none (some 8) = z5 at hz5 ⊢
        refine ⟨_, rfl, _, rfl, t, _, rfl, .inl (SqL.of ht4), rfl, flat_strs ns, _, rfl, ?_⟩
        show if inV (.str z5) (ns.map V.str) = true then _ else _
        rw [inV_strs]
        by_cases hin : z5 ∈ ns
        · rw [decide_eq_true hin]
          refine ⟨_, rfl, abc, rfl, fun D4 hD4 => ?_⟩
          refine lc_it walk_str (fun i H' => Nx (upd H3 N0 (.lst [])) H' ∧ H' D4 = some (.lst (((abcS.take i).filter (fun z => !decide (z ∈ ns))).map V.str))) ⟨Nx.new hD4, upd_same⟩ (fun _ _ _ _ => trivial) (fun i x H7 H8 hi => ?_) (fun H8 => ?_)
          · rintro ⟨n8, e8⟩ ⟨rfl, c, hc, rfl⟩
            have hy := abcS_get hc
            obtain ⟨y, ey⟩ : ∃ y : Str, (⟨#[c]⟩ : Str) = y := ⟨_, rfl⟩
            rw [ey] at hy ⊢
            refine ⟨rfl, _, rfl, _, rfl, t, _, rfl, .inl (SqL.of (n8 _ _ ht4)), rfl, flat_strs ns, _, rfl, ?_⟩
            show if (!inV (.str y) (ns.map V.str)) = true then _ else _
            rw [inV_strs]
            by_cases hy2 : y ∈ ns
            · rw [decide_eq_true hy2]
              refine ⟨n8, ?_⟩
              rw [take_snoc hy, List.filter_append]
              simp [hy2]
              simpa using e8
            · rw [decide_eq_false hy2]
              refine ⟨_, rfl, _, e8, ?_, n8.over hD4, ?_⟩
              · rw [List.length_map]
                refine small1000 (Nat.le_trans (List.length_filter_le _ _) ?_)
                rw [List.length_take, abcS_len]
                omega
              · rw [upd_same, take_snoc hy, List.filter_append, List.map_append]
                simp [hy2]
          rintro ⟨n8, e8⟩
          rw [abc_size, ← abcS_len, List.take_length] at e8
          obtain ⟨z9, r9, ef, h9, hn9⟩ := unlike (B := ns) abcS_nd (by rw [abcS_len]; omega)
          rw [ef] at e8
          have ht8 := n8 _ _ ht4
          refine ⟨D4, _, 0, .str z9, rfl, rfl, SqL.of e8, atI_nat (j := 0) rfl, ?_⟩
          have k8 : Ch l H H8 := Ch.trans k4 (Nx.ch n8)
          have hP8 := Nx.pot n8 hP4
          refine ⟨_, rfl, .inl ⟨rfl, _, SqL.of ht8⟩, _, rfl, t, _, _, rfl, rfl, ht8, by rw [List.length_map]; exact small1000 (by omega), q _ z9 (fun b o e n1 n2 => by rw [upd_ne n2]; exact k8 b o e n1) (hP8.new ntl) (abcS_ok z9 h9) hn9 ?_⟩
          rw [upd_same]
          exact congrArg (fun z => some (HO.lst z)) (map_snoc V.str ns _)
        · rw [decide_eq_false hin]
          refine ⟨_, rfl, .inl ⟨rfl, _, SqL.of ht4⟩, _, rfl, t, _, _, rfl, rfl, ht4, by rw [List.length_map]; exact small1000 (by omega), q _ z5 (fun b o e n1 n2 => by rw [upd_ne n2]; exact k4 b o e n1) (hP4.new ntl) hz5 hin ?_⟩
          rw [upd_same]
          exact congrArg (fun z => some (HO.lst z)) (map_snoc V.str ns _)
    · rw [show decide (V.int way = V.int 1) = false from decide_eq_false fun e => hw1 (V.int.inj e)]
      refine ⟨_, rfl, _, rfl, t, _, rfl, .inl (SqL.of ht3), rfl, flat_strs ns, _, rfl, ?_⟩
      show if inV (.str z1) (ns.map V.str) = true then _ else _
      rw [inV_strs]
      by_cases hin : z1 ∈ ns
      · rw [decide_eq_true hin]
        refine ⟨_, rfl, abc, rfl, fun D4 hD4 => ?_⟩
        refine lc_it walk_str (fun i H' => Nx H3 H' ∧ H' D4 = some (.lst (((abcS.take i).filter (fun z => !decide (z ∈ ns))).map V.str))) ⟨Nx.new hD4, upd_same⟩ (fun _ _ _ _ => trivial) (fun i x H7 H8 hi => ?_) (fun H8 => ?_)
        · rintro ⟨n8, e8⟩ ⟨rfl, c, hc, rfl⟩
          have hy := abcS_get hc
          obtain ⟨y, ey⟩ : ∃ y : Str, (⟨#[c]⟩ : Str) = y := ⟨_, rfl⟩
          rw [ey] at hy ⊢
          refine ⟨rfl, _, rfl, _, rfl, t, _, rfl, .inl (SqL.of (n8 _ _ ht3)), rfl, flat_strs ns, _, rfl, ?_⟩
          show if (!inV (.str y) (ns.map V.str)) = true then _ else _
          rw [inV_strs]
          by_cases hy2 : y ∈ ns
          · rw [decide_eq_true hy2]
            refine ⟨n8, ?_⟩
            rw [take_snoc hy, List.filter_append]
            simp [hy2]
            simpa using e8
          · rw [decide_eq_false hy2]
            refine ⟨_, rfl, _, e8, ?_, n8.over hD4, ?_⟩
            · rw [List.length_map]
              refine small1000 (Nat.le_trans (List.length_filter_le _ _) ?_)
              rw [List.length_take, abcS_len]
              omega
            · rw [upd_same, take_snoc hy, List.filter_append, List.map_append]
              simp [hy2]
        rintro ⟨n8, e8⟩
        rw [abc_size, ← abcS_len, List.take_length] at e8
        obtain ⟨z9, r9, ef, h9, hn9⟩ := unlike (B := ns) abcS_nd (by rw [abcS_len]; omega)
        rw [ef] at e8
        have ht8 := n8 _ _ ht3
        refine ⟨D4, _, 0, .str z9, rfl, rfl, SqL.of e8, atI_nat (j := 0) rfl, ?_⟩
        have k8 : Ch l H H8 := Ch.trans k3 (Nx.ch n8)
        have hP8 := Nx.pot n8 hP3
        refine ⟨_, rfl, .inl ⟨rfl, _, SqL.of ht8⟩, _, rfl, t, _, _, rfl, rfl, ht8, by rw [List.length_map]; exact small1000 (by omega), q _ z9 (fun b o e n1 n2 => by rw [upd_ne n2]; exact k8 b o e n1) (hP8.new ntl) (abcS_ok z9 h9) hn9 ?_⟩
        rw [upd_same]
        exact congrArg (fun z => some (HO.lst z)) (map_snoc V.str ns _)
      · rw [decide_eq_false hin]
        refine ⟨_, rfl, .inl ⟨rfl, _, SqL.of ht3⟩, _, rfl, t, _, _, rfl, rfl, ht3, by rw [List.length_map]; exact small1000 (by omega), q _ z1 (fun b o e n1 n2 => by rw [upd_ne n2]; exact k3 b o e n1) (hP3.new ntl) hz1 hin ?_⟩
        rw [upd_same]
        exact congrArg (fun z => some (HO.lst z)) (map_snoc V.str ns _)
end
end D24
set_option maxHeartbeats 4000000
namespace D24
open PySem PySem.Spec PyProof.Rows L2 HM XW XR K11
abbrev sFs : Stmt := top 25
theorem scFs : FnScope ["_law_pot_here", "_law_room", "_law_own", "_law_number_here", "_law_found", "_law_k", "_law_path"] ["_law_pot_here", "_law_room"] (defScope sFs) := ⟨rfl, rfl, rfl, by decide +kernel, rfl, by decide +kernel, by decide +kernel⟩
theorem rg_take {Av : Addr → Prop} {H : Hp} : ∀ (i : Nat) {vs : List V} {ds : List PyData}, RgAll Av H vs ds → RgAll Av H (vs.take i) (ds.take i)
  | 0, _, _, _ => .nil
  | i + 1, _, _, .nil => .nil
  | i + 1, _, _, .cons h r => .cons h (rg_take i r)
theorem rg_drop {Av : Addr → Prop} {H : Hp} : ∀ (i : Nat) {vs : List V} {ds : List PyData}, RgAll Av H vs ds → RgAll Av H (vs.drop i) (ds.drop i)
  | 0, _, _, h => h
  | i + 1, _, _, .nil => .nil
  | i + 1, _, _, .cons h r => rg_drop i r
abbrev AllA : Addr → Prop := fun _ => True
def fD (p : Int × Str) : PyData := .tuple [.int p.1, .str p.2]
abbrev fsD (fs : List (Int × Str)) : List PyData := fs.map fD
theorem dp_fs {K : PySem.W.Frag} {H : Hp} : ∀ {fs : List (Int × Str)} {xs : List V}, RgAll AllA H xs (fsD fs) → DpAll K H xs (fsD fs)
  | [], _, .nil => .nil
  | p :: fs, _, .cons h r => by
    refine .cons ?_ (dp_fs r)
    cases h with
    | tup e t =>
      cases t with
      | cons a t =>
      cases t with
      | cons b t =>
      cases t
      cases a
      cases b
      exact .tup (SqT.of e) (.cons (.int _) (.cons (.str _) .nil))
theorem shaped_fs {fs : List (Int × Str)} (h : ∀ p ∈ fs, PyData.strOk p.2 = true) : SeqAt.shaped (.list (fsD fs)) = true := by
  have go : ∀ fs : List (Int × Str), (∀ p ∈ fs, PyData.strOk p.2 = true) → PyData.canLayAll0 (fsD fs) = true ∧ PyData.depthAll (fsD fs) ≤ 1 := fun fs => by
    induction fs with
    | nil => intro _; exact ⟨rfl, Nat.zero_le _⟩
    | cons p fs ih =>
      intro hh
      obtain ⟨h1, h2⟩ := ih fun y hy => hh y (List.mem_cons_of_mem _ hy)
      refine ⟨?_, ?_⟩
      · show (PyData.canLay0 (fD p) && PyData.canLayAll0 (fsD fs)) = true
        rw [h1, Bool.and_true]
        show (PyData.canLay0 (.int p.1) && (PyData.canLay0 (.str p.2) && PyData.canLayAll0 [])) = true
        rw [show PyData.canLay0 (.str p.2) = PyData.strOk p.2 from rfl, hh p List.mem_cons_self]
        rfl
      · show max (PyData.depth (fD p)) (PyData.depthAll (fsD fs)) ≤ 1
        have e : PyData.depth (fD p) = 1 := rfl
        rw [e]
        omega
  obtain ⟨h1, h2⟩ := go fs h
  unfold SeqAt.shaped
  rw [show PyData.canLay0 (.list (fsD fs)) = PyData.canLayAll0 (fsD fs) from rfl, h1, show PyData.depth (.list (fsD fs)) = PyData.depthAll (fsD fs) + 1 from rfl, decide_eq_true (by omega)]
  rfl
theorem eqv_nil (fs : List (Int × Str)) : PyData.eqv (.list (fsD fs)) (.list (fsD [])) = decide (fs = []) := by
  cases fs with
  | nil => rfl
  | cons p fs =>
    rw [decide_eq_false (by simp)]
    rfl
theorem strOk_pt {z : Str} (h : ptOk z) : PyData.strOk z = true := by
  obtain ⟨ws, rfl, h1, h4, hw⟩ := h
  unfold PyData.strOk
  rw [← Array.all_toList, List.all_eq_true]
  have hok : okS (Txt.join (Str.ofString ".") ws) := okS_join (by unfold okS; decide +kernel) fun y hy c hc => by
    have := nm_low (hw y hy) c hc
    unfold low at this
    obtain ⟨_, h2⟩ := Bool.and_eq_true_iff.mp this
    have := of_decide_eq_true h2
    omega
  exact fun c hc => decide_eq_true (hok c hc)
section
variable {P : Program} {w : World} {K : PySem.W.Frag} {mg : Str → Option Value} {base : Heap} {f fD' fN fNs fR : Addr} {fd fdD fdN fdNs fdR : FuncData}
def spNms : Sp := fun vs H Q _ => ∃ (l : Addr) (m : Nat), vs = [.ref l, .int m] ∧ PotAt H l ∧ m ≤ 20 ∧ ∀ (H' : Hp) (t : Addr) (ns : List Str), Ch l H H' → PotAt H' l → H t = none → H' t = some (.lst (ns.map V.str)) → ns.Nodup → (∀ z ∈ ns, nmOk z) → ns.length = m → Q (.ref t) H'
theorem ok_nms (F : FnP K "_law_names" sNms f fd) (GN : FnOk P w K mg base CX0 2 fN fdN ["_law_pot_here", "_law_taken_here"] spNm) (FN : FnP K "_law_name" sNm fN fdN) (gN : mg "_law_name" = some (.ref fN)) (mr : mg "range" = none) : FnOk P w K mg base CX0 3 f fd ["_law_pot_here", "_law_room"] spNms := by
  have bN : Binds K fdN ["_law_pot_here", "_law_taken_here"] [] := FN.bindsN fun _ _ _ _ _ _ us hl => match us, hl with | [_, _], _ => rfl
  refine ok_code F scNms (fun vs H Q E h => ?_) (fun cdv A outer s H vs Q E hcd hr h => ?_)
  · obtain ⟨l, m, rfl, _⟩ := h
    rfl
  · obtain ⟨l, m, rfl, hP, hm, q⟩ := h
    refine ⟨_, pss_cons (ps_set (i := 2) scNms.nd rfl (.inl rfl) (pe_lst pa_nil))
      (pss_cons (ps_for PassesOwn.never rfl (pi_range1 (by rfl) mr (pa_cons (pv 1) pa_nil)) (pg_name (i := 3) scNms.nd rfl (.inl rfl)) (pss_one (ps_expr (pe_call GN hr (by rfl) gN FN.kp bN .nil pass0 (pa_cons (pv 0) (pa_cons (pv 2) pa_nil))))))
      (pss_one (ps_ret (pv 2)))), ?_⟩
    refine ⟨sz (by simp), fun t ht => ⟨_, rfl, _, rfl, by omega, by omega, ?_⟩⟩
    have nt : t ≠ l := hP.ne ht
    refine for_it (n := (m : Int).toNat) walk_range (fun i σ H' => ∃ (v3 : Option V) (ns : List Str), σ = [some (.ref l), some (.int m), some (.ref t), v3] ∧ Ch l H H' ∧ PotAt H' l ∧ H' t = some (.lst (ns.map V.str)) ∧ ns.Nodup ∧ (∀ z ∈ ns, nmOk z) ∧ ns.length = i)
      ⟨none, [], rfl, Ch.new ht, hP.new nt, upd_same, List.nodup_nil, fun x hx => (by cases hx), rfl⟩ (fun _ _ _ _ _ => trivial) ?_ ?_
    · rintro i x σ H1 H2 hi ⟨v3, ns, rfl, k1, hP1, et, hnd, hok, hl⟩ ⟨rfl, rfl⟩
      refine ⟨_, rfl, _, rfl, l, t, ns, rfl, hP1, et, hok, by omega, fun H3 z k3 hP3 hz hn e3 => ?_⟩
      refine ⟨_, ns ++ [z], rfl, fun b o e nb => k3 b o (k1 b o e nb) nb (ne_of_none e ht), hP3, e3, ?_, fun y hy => ?_, ?_⟩
      · rw [List.nodup_append]
        refine ⟨hnd, List.nodup_cons.mpr ⟨by simp, List.nodup_nil⟩, fun a ha b hb => ?_⟩
        rw [List.mem_singleton.mp hb]
        exact fun e => hn (e ▸ ha)
      · rcases List.mem_append.mp hy with y1 | y1
        · exact hok _ y1
        · rw [List.mem_singleton.mp y1]
          exact hz
      · rw [List.length_append, List.length_singleton, hl]
    · rintro σ H1 ⟨v3, ns, rfl, k1, hP1, et, hnd, hok, hl⟩
      exact ⟨_, rfl, q H1 t ns k1 hP1 ht et hnd hok (by omega)⟩
def factOk (p : Int × Str) : Prop := 1 ≤ p.1 ∧ p.1 < 10 ^ 60 ∧ ptOk p.2
def spFs : Sp := fun vs H Q _ => ∃ (l : Addr) (m : Nat), vs = [.ref l, .int m] ∧ PotAt H l ∧ m ≤ 20 ∧ ∀ (H' : Hp) (t : Addr) (xs : List V) (fs : List (Int × Str)), Ch l H H' → PotAt H' l → H t = none → H' t = some (.lst xs) → RgAll AllA H' xs (fsD fs) → (∀ p ∈ fs, factOk p) → fs.length = m → Q (.ref t) H'
end
end D24
set_option maxHeartbeats 4000000
namespace D24
open PySem PySem.Spec PyProof.Rows L2 HM XW XR K11
section
variable {P : Program} {w : World} {K : PySem.W.Frag} {mg : Str → Option Value} {base : Heap} {f fD' fN fNs fR : Addr} {fd fdD fdN fdNs fdR : FuncData}
theorem ok_fs (F : FnP K "_law_facts" sFs f fd) (GD : FnOk P w K mg base CX0 1 fD' fdD DP spDraw) (FD : FnP K "_law_draw" sDraw fD' fdD) (gD : mg "_law_draw" = some (.ref fD')) (GN : FnOk P w K mg base CX0 3 fNs fdNs ["_law_pot_here", "_law_room"] spNms) (FN : FnP K "_law_names" sNms fNs fdNs) (gN : mg "_law_names" = some (.ref fNs))
    (GR : FnOk P w K mg base CX0 2 fR fdR ["_law_pot_here", "_law_names_here"] (spRd K)) (FR : FnP K "_law_road" sRd fR fdR) (gR : mg "_law_road" = some (.ref fR)) (mr : mg "range" = none) (ml : mg "len" = none) : FnOk P w K mg base CX0 4 f fd ["_law_pot_here", "_law_room"] spFs := by
  have bD : Binds K fdD DP [] := FD.bindsN fun _ _ _ _ _ _ us hl => match us, hl with | [_, _], _ => rfl
  have bN : Binds K fdNs ["_law_pot_here", "_law_room"] [] := FN.bindsN fun _ _ _ _ _ _ us hl => match us, hl with | [_, _], _ => rfl
  have bR : Binds K fdR ["_law_pot_here", "_law_names_here"] [] := FR.bindsN fun _ _ _ _ _ _ us hl => match us, hl with | [_, _], _ => rfl
  refine ok_code F scFs (fun vs H Q E h => ?_) (fun cdv A outer s H vs Q E hcd hr h => ?_)
  · obtain ⟨l, m, rfl, _⟩ := h
    rfl
  · obtain ⟨l, m, rfl, hP, hm, q⟩ := h
    have hr1 : Room 1 (A.deeper (envOfC "_law_facts" (defScope sFs) s.heap.objs.size f cdv)) := hr.mono (by decide)
    have hr2 : Room 2 (A.deeper (envOfC "_law_facts" (defScope sFs) s.heap.objs.size f cdv)) := hr.mono (by decide)
    refine ⟨_, pss_cons (ps_set (i := 2) scFs.nd rfl (.inl rfl) (pe_call GN hr (by rfl) gN FN.kp bN .nil pass0 (pa_cons (pv 0) (pa_cons pe_int pa_nil))))
      (pss_cons (ps_set (i := 3) scFs.nd rfl (.inl rfl) (pe_op op_add pe_int (pe_call GD hr1 (by rfl) gD FD.kp bD .nil pass0 (pa_cons (pv 0) (pa_cons (pe_ix ix_list (pe_lst (pa_cons pe_int (pa_cons (pe_op op_pow pe_int pe_int) pa_nil))) (pe_op op_fdiv (pe_call GD hr1 (by rfl) gD FD.kp bD .nil pass0 (pa_cons (pv 0) (pa_cons pe_int pa_nil))) pe_int) (fun _ _ => rfl)) pa_nil)))))
      (pss_cons (ps_set (i := 4) scFs.nd rfl (.inl rfl) (pe_lst pa_nil))
      (pss_cons (ps_for PassesOwn.never rfl (pi_range1 (by rfl) mr (pa_cons (pv 1) pa_nil)) (pg_name (i := 5) scFs.nd rfl (.inl rfl))
        (pss_cons (ps_set (i := 6) scFs.nd rfl (.inl rfl) (pe_call GR hr2 (by rfl) gR FR.kp bR .nil pass0 (pa_cons (pv 0) (pa_cons (pv 2) pa_nil))))
        (pss_cons (ps_if (PW.pt (pw_and (pt_cmpR (op_neD hr.units) (pv 4) (pe_lst pa_nil) (nomark _)) (pw_and1 (pt_cmpR op_eq (pe_call GD hr1 (by rfl) gD FD.kp bD .nil pass0 (pa_cons (pv 0) (pa_cons pe_int pa_nil))) pe_int (nomark _)))))
          (pss_one (ps_set (i := 6) scFs.nd rfl (.inl rfl) (pe_ix ix_tup (pe_ix ix_list (pv 4) (pe_call GD hr1 (by rfl) gD FD.kp bD .nil pass0 (pa_cons (pv 0) (pa_cons (pe_callB call_len_seq (by rfl) ml PySem.boot_len (pa_cons (pv 4) pa_nil)) pa_nil))) (fun _ _ => rfl)) pe_int (fun _ _ => rfl)))) pss_nil)
        (pss_cons (ps_expr (pe_bm PySem.F.plainAttrs_list PySem.F.slot_list_insert PySem.F.type_list_insert mt_insert (pv 4) (pa_cons (pe_call GD hr1 (by rfl) gD FD.kp bD .nil pass0 (pa_cons (pv 0) (pa_cons (pe_op op_add (pe_callB call_len_seq (by rfl) ml PySem.boot_len (pa_cons (pv 4) pa_nil)) pe_int) pa_nil))) (pa_cons (pe_tup (pa_cons (pv 3) (pa_cons (pv 6) pa_nil))) pa_nil))))
        (pss_one (ps_set (i := 3) scFs.nd rfl (.inl rfl) (pe_op op_add (pe_op op_add (pv 3) pe_int) (pe_call GD hr1 (by rfl) gD FD.kp bD .nil pass0 (pa_cons (pv 0) (pa_cons pe_int pa_nil))))))))))
      (pss_one (ps_ret (pv 4)))))), ?_⟩
    refine ⟨_, rfl, l, 4, rfl, hP, by omega, fun H1 t1 ns c1 hP1 ft1 et1 hnd hok hl => ?_⟩
    refine ⟨_, rfl, _, _, rfl, rfl, ⟨by decide, by decide, by decide⟩, sz (by simp), fun L hL => ?_⟩
    have nL : L ≠ l := hP1.ne hL
    have hP2 : PotAt (upd H1 L (.lst [.int 3, .int (10 ^ 59)])) l := hP1.new nL
    refine ⟨_, rfl, l, _, pa hP2, pb hP2, rfl, by decide, by decide, ph hP2, pk hP2, fun H3 d3 c3 hP3 d30 d31 => ?_⟩
    have eL3 := c3 L _ upd_same nL
    obtain ⟨B, hB1, hB2, hB3, hB4⟩ : ∃ B : Int, atI [V.int 3, (fun (i j : Int) => V.int (i ^ j.toNat)) 10 59] (d3 / 3) = some (.int B) ∧ 1 ≤ B ∧ B ≤ 10 ^ 59 ∧ B.natAbs.log2 < 9000 := by
      rcases (by omega : d3 / 3 = 0 ∨ d3 / 3 = 1) with e | e
      · exact ⟨3, by rw [e]; exact atI_nat (j := 0) rfl, by decide, by decide, by decide⟩
      · exact ⟨10 ^ 59, by rw [e]; exact atI_nat (j := 1) rfl, by decide, by decide, by decide +kernel⟩
    refine ⟨_, _, rfl, rfl, by unfold CDiv; decide, L, _, _, .int B, rfl, rfl, SqL.of eL3, hB1, ?_⟩
    refine ⟨l, _, pa hP3, pb hP3, rfl, by omega, hB4, ph hP3, pk hP3, fun H4 d4 c4 hP4 d40 d41 => ?_⟩
    refine ⟨_, _, rfl, rfl, sz (by simp), fun t ht => ⟨_, rfl, _, rfl, by omega, by omega, ?_⟩⟩
    have nt : t ≠ l := hP4.ne ht
    have c04 : Ch l H H4 := Ch.trans (Ch.trans (Ch.over c1 (Ch.free c1 hL nL)) c3) c4
    have n1 : t1 ≠ l := strs_ne hP1 et1
    have et4 : H4 t1 = some (.lst (ns.map V.str)) := c4 t1 _ (c3 t1 _ (by rw [upd_ne (ne_of_none et1 hL)]; exact et1) n1) n1
    have ft : H t = none := Ch.free c04 ht nt
    refine for_it (n := (m : Int).toNat) walk_range (fun i σ H' => ∃ (v5 v6 : Option V) (num : Int) (xs : List V) (fs : List (Int × Str)), σ = [some (.ref l), some (.int m), some (.ref t1), some (.int num), some (.ref t), v5, v6] ∧ Ch l H H' ∧ PotAt H' l ∧ H' t1 = some (.lst (ns.map V.str)) ∧ H' t = some (.lst xs) ∧ RgAll AllA H' xs (fsD fs) ∧ (∀ p ∈ fs, factOk p) ∧ fs.length = i ∧ 1 ≤ num ∧ num ≤ 10 ^ 59 + 6 * i)
      ⟨none, none, _, [], [], rfl, Ch.over c04 ft, hP4.new nt, by rw [upd_ne (ne_of_none et4 ht)]; exact et4, upd_same, .nil, fun x hx => (by cases hx), rfl, by omega, by omega⟩ (fun _ _ _ _ _ => trivial) ?_ ?_
    · rintro i x σ H5' H5 hi ⟨v5, v6, num, xs, fs, rfl, k5, hP5, e15, et5, hR5, hF, hl5, hn0, hn1⟩ ⟨rfl, rfl⟩
      have hmi : i < m := by omega
      have nt1 : t1 ≠ t := fun e => by rw [e, ht] at et4; cases et4
      have hnum : num < 10 ^ 60 := by omega
      refine ⟨_, rfl, _, rfl, l, t1, ns, rfl, hP5, e15, hok, (by intro z; rw [z] at hl; cases hl), by omega, fun H6 z c6 hP6 hz => ?_⟩
      have et6 := c6 t _ et5 nt
      have k56 : Kq AllA H5 H6 := Kq.ofCh c6 trivial hP5
      have hR6 := hR5.kq k56
      have hpt : ∀ p ∈ fs, PyData.strOk p.2 = true := fun p hp => strOk_pt (hF p hp).2.2
      have hlx : xs.length = fs.length := by rw [hR5.len, List.length_map]
      refine ⟨_, rfl, sz (by simp), fun L2 hL2 => ⟨.list (fsD fs), .list (fsD []), .lst (SqL.of (by rw [upd_ne (ne_of_none et6 hL2)]; exact et6)) (dp_fs (hR6.kq (Kq.new hL2))), .lst (SqL.of upd_same) .nil, shaped_fs hpt, shaped_fs (fun p hp => by cases hp), ?_⟩⟩
      have nL2 : L2 ≠ l := hP6.ne hL2
      rw [eqv_nil]
      have c56 : Ch l H5 (upd H6 L2 (.lst [])) := Ch.trans c6 (Ch.new hL2)
      have hPL : PotAt (upd H6 L2 (.lst [])) l := hP6.new nL2
      have hlg : ((xs.length : Int) + 1).natAbs.log2 < 9000 := by
        have h1 : xs.length + 1 < 2 ^ 5 := by omega
        have := (Nat.log2_lt (by omega)).mpr h1
        rw [show ((xs.length : Int) + 1).natAbs = xs.length + 1 by omega]
        omega
      by_cases hfs : fs = []
      · rw [decide_eq_true hfs]
        refine ⟨_, rfl, ?_⟩
        obtain ⟨H7, eH7⟩ : ∃ H7, upd H6 L2 (.lst []) = H7 := ⟨_, rfl⟩
        rw [eH7] at c56 hPL ⊢
        have c57 := c56
        have hP7 := hPL
        have hz7 := hz.1
        have et7 := c57 t _ et5 nt
        have hR7 := hR5.kq (Kq.ofCh c57 trivial hP5 : Kq AllA H5 H7)
        refine ⟨_, rfl, .inl ⟨rfl, _, SqL.of et7⟩, _, rfl, _, rfl, t, xs, rfl, .inl (SqL.of et7), _, _, rfl, rfl, l, _, pa hP7, pb hP7, rfl, by omega, hlg, ph hP7, pk hP7, fun H8 d8 c8 hP8 d80 d81 => ?_⟩
        have et8 := c8 t _ et7 nt
        have hR8 := hR7.kq (Kq.ofCh c8 trivial hP7 : Kq AllA H7 H8)
        refine ⟨_, rfl, _, rfl, sz (by simp), fun T hT => ?_⟩
        have nT : T ≠ l := hP8.ne hT
        refine ⟨t, xs, d8, .ref T, rfl, rfl, by rw [upd_ne (ne_of_none et8 hT)]; exact et8, small1000 (by omega), d80, by omega, ?_⟩
        obtain ⟨zz, ezz⟩ : ∃ zz : Str, zz = z := ⟨_, rfl⟩
        have hzz : ptOk zz := ezz ▸ hz7
        rw [← ezz]
        have et9 : (upd H8 T (.tup [.int num, .str zz])) t = some (.lst xs) := by rw [upd_ne (ne_of_none et8 hT)]; exact et8
        have k9 : Kq AllA H8 (upd (upd H8 T (.tup [.int num, .str zz])) t (.lst (xs.take d8.toNat ++ [.ref T] ++ xs.drop d8.toNat))) := (Kq.new hT).trans (Kq.put et9 trivial)
        have hP9 : PotAt (upd (upd H8 T (.tup [.int num, .str zz])) t (.lst (xs.take d8.toNat ++ [.ref T] ++ xs.drop d8.toNat))) l := (hP8.new nT).new nt
        have fT5 : H5 T = none := Ch.free c57 (Ch.free c8 hT nT) nT
        have fT : H T = none := Ch.free k5 fT5 nT
        have hR9 := hR8.kq k9
        have rT : Rg AllA (upd (upd H8 T (.tup [.int num, .str zz])) t (.lst (xs.take d8.toNat ++ [.ref T] ++ xs.drop d8.toNat))) (.ref T) (fD (num, zz)) := .tup (by rw [upd_ne (fun e => by rw [e, et8] at hT; cases hT)]; exact upd_same) (.cons (.int _) (.cons (.str _) .nil))
        have hRn := ((rg_take d8.toNat hR9).append (.cons rT .nil)).append (rg_drop d8.toNat hR9)
        refine ⟨_, rfl, _, _, rfl, rfl, _, rfl, l, _, pa hP9, pb hP9, rfl, by decide, by decide, ph hP9, pk hP9, fun HA dA cA hPA dA0 dA1 => ⟨_, _, rfl, rfl, ?_⟩⟩
        refine ⟨_, _, _, _, fs.take d8.toNat ++ [(num, zz)] ++ fs.drop d8.toNat, rfl, ?_, hPA, cA t1 _ ?_ n1, cA t _ upd_same nt, ?_, ?_, ?_, by omega, by omega⟩
        · exact Ch.trans (Ch.over (Ch.over (Ch.trans k5 (Ch.trans c57 c8)) fT) ft) cA
        · rw [upd_ne (fun e => nt1 e), upd_ne (ne_of_none (c8 t1 _ (c57 t1 _ e15 n1) n1) hT)]
          exact c8 t1 _ (c57 t1 _ e15 n1) n1
        · have e := hRn.kq (Kq.ofCh cA trivial hP9 : Kq AllA _ HA)
          rw [show fsD (fs.take d8.toNat ++ [(num, zz)] ++ fs.drop d8.toNat) = (fsD fs).take d8.toNat ++ [fD (num, zz)] ++ (fsD fs).drop d8.toNat by rw [fsD, List.map_append, List.map_append, List.map_take, List.map_drop]; rfl]
          exact e
        · intro p hp
          rcases List.mem_append.mp hp with y | y
          · rcases List.mem_append.mp y with y | y
            · exact hF p (List.mem_of_mem_take y)
            · rw [List.mem_singleton.mp y]
              exact ⟨hn0, hnum, hzz⟩
          · exact hF p (List.mem_of_mem_drop y)
        · rw [List.length_append, List.length_append, List.length_take, List.length_drop, List.length_singleton]
          omega
      · rw [decide_eq_false hfs]
        refine ⟨_, rfl, ?_⟩
        refine ⟨_, rfl, l, _, pa hPL, pb hPL, rfl, by decide, by decide, ph hPL, pk hPL, fun Hx d7 cx hPx d70 d71 => ?_⟩
        have c5x := Ch.trans c56 cx
        refine ⟨rfl, _, rfl, ?_⟩
        by_cases hd7 : d7 = 0
        · rw [show decide (V.int d7 = V.int 0) = true by rw [hd7]; rfl]
          have etx := c5x t _ et5 nt
          have hRx := hR5.kq (Kq.ofCh c5x trivial hP5 : Kq AllA H5 Hx)
          have hpos : 0 < fs.length := List.length_pos_iff.mpr hfs
          have hlg' : (xs.length : Int).natAbs.log2 < 9000 := by
            have h1 : xs.length < 2 ^ 5 := by omega
            have := (Nat.log2_lt (by omega)).mpr h1
            rw [Int.natAbs_natCast]
            omega
          refine ⟨_, rfl, _, rfl, _, rfl, t, xs, rfl, .inl (SqL.of etx), l, _, pa hPx, pb hPx, rfl, by omega, hlg', ph hPx, pk hPx, fun H7 dz c7 hP7 dz0 dz1 => ?_⟩
          have c57 := Ch.trans c5x c7
          obtain ⟨dn, rfl⟩ : ∃ n : Nat, dz = (n : Int) := ⟨dz.toNat, by omega⟩
          have hdn : dn < fs.length := by omega
          have hRz := hRx.kq (Kq.ofCh c7 trivial hPx : Kq AllA Hx H7)
          obtain ⟨v, hv, rv⟩ := hRz.get' dn (d := fD fs[dn]) (by rw [List.getElem?_map, List.getElem?_eq_getElem hdn]; rfl)
          obtain ⟨a, rfl, ea⟩ : ∃ a, v = .ref a ∧ H7 a = some (.tup [.int fs[dn].1, .str fs[dn].2]) := by
            cases rv with
            | tup e r =>
              cases r with
              | cons a r =>
              cases r with
              | cons b r =>
              cases r
              cases a
              cases b
              exact ⟨_, rfl, e⟩
          have hz7 := (hF _ (List.getElem_mem hdn)).2.2
          refine ⟨t, _, _, _, rfl, rfl, SqL.of (c7 t _ etx nt), atI_nat hv, a, _, _, _, rfl, rfl, SqT.of ea, atI_nat (j := 1) rfl, ?_⟩
          have et7 := c57 t _ et5 nt
          have hR7 := hR5.kq (Kq.ofCh c57 trivial hP5 : Kq AllA H5 H7)
          refine ⟨_, rfl, .inl ⟨rfl, _, SqL.of et7⟩, _, rfl, _, rfl, t, xs, rfl, .inl (SqL.of et7), _, _, rfl, rfl, l, _, pa hP7, pb hP7, rfl, by omega, hlg, ph hP7, pk hP7, fun H8 d8 c8 hP8 d80 d81 => ?_⟩
          have et8 := c8 t _ et7 nt
          have hR8 := hR7.kq (Kq.ofCh c8 trivial hP7 : Kq AllA H7 H8)
          refine ⟨_, rfl, _, rfl, sz (by simp), fun T hT => ?_⟩
          have nT : T ≠ l := hP8.ne hT
          refine ⟨t, xs, d8, .ref T, rfl, rfl, by rw [upd_ne (ne_of_none et8 hT)]; exact et8, small1000 (by omega), d80, by omega, ?_⟩
          obtain ⟨zz, ezz⟩ : ∃ zz : Str, zz = fs[dn].2 := ⟨_, rfl⟩
          have hzz : ptOk zz := ezz ▸ hz7
          rw [← ezz]
          have et9 : (upd H8 T (.tup [.int num, .str zz])) t = some (.lst xs) := by rw [upd_ne (ne_of_none et8 hT)]; exact et8
          have k9 : Kq AllA H8 (upd (upd H8 T (.tup [.int num, .str zz])) t (.lst (xs.take d8.toNat ++ [.ref T] ++ xs.drop d8.toNat))) := (Kq.new hT).trans (Kq.put et9 trivial)
          have hP9 : PotAt (upd (upd H8 T (.tup [.int num, .str zz])) t (.lst (xs.take d8.toNat ++ [.ref T] ++ xs.drop d8.toNat))) l := (hP8.new nT).new nt
          have fT5 : H5 T = none := Ch.free c57 (Ch.free c8 hT nT) nT
          have fT : H T = none := Ch.free k5 fT5 nT
          have hR9 := hR8.kq k9
          have rT : Rg AllA (upd (upd H8 T (.tup [.int num, .str zz])) t (.lst (xs.take d8.toNat ++ [.ref T] ++ xs.drop d8.toNat))) (.ref T) (fD (num, zz)) := .tup (by rw [upd_ne (fun e => by rw [e, et8] at hT; cases hT)]; exact upd_same) (.cons (.int _) (.cons (.str _) .nil))
          have hRn := ((rg_take d8.toNat hR9).append (.cons rT .nil)).append (rg_drop d8.toNat hR9)
          refine ⟨_, rfl, _, _, rfl, rfl, _, rfl, l, _, pa hP9, pb hP9, rfl, by decide, by decide, ph hP9, pk hP9, fun HA dA cA hPA dA0 dA1 => ⟨_, _, rfl, rfl, ?_⟩⟩
          refine ⟨_, _, _, _, fs.take d8.toNat ++ [(num, zz)] ++ fs.drop d8.toNat, rfl, ?_, hPA, cA t1 _ ?_ n1, cA t _ upd_same nt, ?_, ?_, ?_, by omega, by omega⟩
          · exact Ch.trans (Ch.over (Ch.over (Ch.trans k5 (Ch.trans c57 c8)) fT) ft) cA
          · rw [upd_ne (fun e => nt1 e), upd_ne (ne_of_none (c8 t1 _ (c57 t1 _ e15 n1) n1) hT)]
            exact c8 t1 _ (c57 t1 _ e15 n1) n1
          · have e := hRn.kq (Kq.ofCh cA trivial hP9 : Kq AllA _ HA)
            rw [show fsD (fs.take d8.toNat ++ [(num, zz)] ++ fs.drop d8.toNat) = (fsD fs).take d8.toNat ++ [fD (num, zz)] ++ (fsD fs).drop d8.toNat by rw [fsD, List.map_append, List.map_append, List.map_take, List.map_drop]; rfl]
            exact e
          · intro p hp
            rcases List.mem_append.mp hp with y | y
            · rcases List.mem_append.mp y with y | y
              · exact hF p (List.mem_of_mem_take y)
              · rw [List.mem_singleton.mp y]
                exact ⟨hn0, hnum, hzz⟩
            · exact hF p (List.mem_of_mem_drop y)
          · rw [List.length_append, List.length_append, List.length_take, List.length_drop, List.length_singleton]
            omega
        · rw [show decide (V.int d7 = V.int 0) = false from decide_eq_false (fun e => hd7 (by cases e; rfl))]
          have hz7 := hz.1
          have hP7 := hPx
          have c57 := c5x
          obtain ⟨H7, eH7⟩ : ∃ H7, Hx = H7 := ⟨_, rfl⟩
          rw [eH7] at hP7 c57 ⊢
          have et7 := c57 t _ et5 nt
          have hR7 := hR5.kq (Kq.ofCh c57 trivial hP5 : Kq AllA H5 H7)
          refine ⟨_, rfl, .inl ⟨rfl, _, SqL.of et7⟩, _, rfl, _, rfl, t, xs, rfl, .inl (SqL.of et7), _, _, rfl, rfl, l, _, pa hP7, pb hP7, rfl, by omega, hlg, ph hP7, pk hP7, fun H8 d8 c8 hP8 d80 d81 => ?_⟩
          have et8 := c8 t _ et7 nt
          have hR8 := hR7.kq (Kq.ofCh c8 trivial hP7 : Kq AllA H7 H8)
          refine ⟨_, rfl, _, rfl, sz (by simp), fun T hT => ?_⟩
          have nT : T ≠ l := hP8.ne hT
          refine ⟨t, xs, d8, .ref T, rfl, rfl, by rw [upd_ne (ne_of_none et8 hT)]; exact et8, small1000 (by omega), d80, by omega, ?_⟩
          obtain ⟨zz, ezz⟩ : ∃ zz : Str, zz = z := ⟨_, rfl⟩
          have hzz : ptOk zz := ezz ▸ hz7
          rw [← ezz]
          have et9 : (upd H8 T (.tup [.int num, .str zz])) t = some (.lst xs) := by rw [upd_ne (ne_of_none et8 hT)]; exact et8
          have k9 : Kq AllA H8 (upd (upd H8 T (.tup [.int num, .str zz])) t (.lst (xs.take d8.toNat ++ [.ref T] ++ xs.drop d8.toNat))) := (Kq.new hT).trans (Kq.put et9 trivial)
          have hP9 : PotAt (upd (upd H8 T (.tup [.int num, .str zz])) t (.lst (xs.take d8.toNat ++ [.ref T] ++ xs.drop d8.toNat))) l := (hP8.new nT).new nt
          have fT5 : H5 T = none := Ch.free c57 (Ch.free c8 hT nT) nT
          have fT : H T = none := Ch.free k5 fT5 nT
          have hR9 := hR8.kq k9
          have rT : Rg AllA (upd (upd H8 T (.tup [.int num, .str zz])) t (.lst (xs.take d8.toNat ++ [.ref T] ++ xs.drop d8.toNat))) (.ref T) (fD (num, zz)) := .tup (by rw [upd_ne (fun e => by rw [e, et8] at hT; cases hT)]; exact upd_same) (.cons (.int _) (.cons (.str _) .nil))
          have hRn := ((rg_take d8.toNat hR9).append (.cons rT .nil)).append (rg_drop d8.toNat hR9)
          refine ⟨_, rfl, _, _, rfl, rfl, _, rfl, l, _, pa hP9, pb hP9, rfl, by decide, by decide, ph hP9, pk hP9, fun HA dA cA hPA dA0 dA1 => ⟨_, _, rfl, rfl, ?_⟩⟩
          refine ⟨_, _, _, _, fs.take d8.toNat ++ [(num, zz)] ++ fs.drop d8.toNat, rfl, ?_, hPA, cA t1 _ ?_ n1, cA t _ upd_same nt, ?_, ?_, ?_, by omega, by omega⟩
          · exact Ch.trans (Ch.over (Ch.over (Ch.trans k5 (Ch.trans c57 c8)) fT) ft) cA
          · rw [upd_ne (fun e => nt1 e), upd_ne (ne_of_none (c8 t1 _ (c57 t1 _ e15 n1) n1) hT)]
            exact c8 t1 _ (c57 t1 _ e15 n1) n1
          · have e := hRn.kq (Kq.ofCh cA trivial hP9 : Kq AllA _ HA)
            rw [show fsD (fs.take d8.toNat ++ [(num, zz)] ++ fs.drop d8.toNat) = (fsD fs).take d8.toNat ++ [fD (num, zz)] ++ (fsD fs).drop d8.toNat by rw [fsD, List.map_append, List.map_append, List.map_take, List.map_drop]; rfl]
            exact e
          · intro p hp
            rcases List.mem_append.mp hp with y | y
            · rcases List.mem_append.mp y with y | y
              · exact hF p (List.mem_of_mem_take y)
              · rw [List.mem_singleton.mp y]
                exact ⟨hn0, hnum, hzz⟩
            · exact hF p (List.mem_of_mem_drop y)
          · rw [List.length_append, List.length_append, List.length_take, List.length_drop, List.length_singleton]
            omega
    · rintro σ H5 ⟨v5, v6, num, xs, fs, rfl, k5, hP5, _, et, hR, hF, hl5, _, _⟩
      exact ⟨_, rfl, q H5 t xs fs k5 hP5 ft et hR hF (by omega)⟩
end
end D24
set_option maxHeartbeats 4000000
/-! k21: the program: Module and Late -/
namespace D24
open PySem PySem.Spec PyProof.Rows L2 HM XW XR K11
abbrev MtP (K : PySem.W.Frag) (x qual : Str) (st : Stmt) (f : Addr) (fd : FuncData) : Prop := FunD K x qual (defArgs st) (defBody st) (defScope st) [] [] f fd
abbrev sMI : Stmt := inClass (top 6) 0
abbrev sMB : Stmt := inClass (top 6) 1
abbrev sMH : Stmt := inClass (top 6) 2
abbrev sMT : Stmt := inClass (top 6) 3
abbrev sMO : Stmt := inClass (top 6) 4
abbrev sLI : Stmt := inClass (top 7) 0
abbrev sTo : Stmt := top 8
theorem scMI : FnScope ["self", "number", "path"] ["self", "number", "path"] (defScope sMI) := ⟨rfl, rfl, rfl, by decide +kernel, rfl, by decide +kernel, by decide +kernel⟩
theorem scMB : FnScope ["self", "name", "thing"] ["self", "name", "thing"] (defScope sMB) := ⟨rfl, rfl, rfl, by decide +kernel, rfl, by decide +kernel, by decide +kernel⟩
theorem scMH : FnScope ["self", "name"] ["self", "name"] (defScope sMH) := ⟨rfl, rfl, rfl, by decide +kernel, rfl, by decide +kernel, by decide +kernel⟩
theorem scMT : FnScope ["self", "name"] ["self", "name"] (defScope sMT) := ⟨rfl, rfl, rfl, by decide +kernel, rfl, by decide +kernel, by decide +kernel⟩
theorem scMO : FnScope ["self"] ["self"] (defScope sMO) := ⟨rfl, rfl, rfl, by decide +kernel, rfl, by decide +kernel, by decide +kernel⟩
theorem scLI : FnScope ["self", "home", "road"] ["self", "home", "road"] (defScope sLI) := ⟨rfl, rfl, rfl, by decide +kernel, rfl, by decide +kernel, by decide +kernel⟩
theorem scTo : FnScope ["thing"] ["thing"] (defScope sTo) := ⟨rfl, rfl, rfl, by decide +kernel, rfl, by decide +kernel, by decide +kernel⟩
theorem np : ¬ (("number" : Str) = "path") := by decide +kernel
theorem nt' : ¬ (("number" : Str) = "things") := by decide +kernel
theorem pt' : ¬ (("path" : Str) = "things") := by decide +kernel
theorem hr' : ¬ (("home" : Str) = "road") := by decide +kernel
def mF (n : Int) (p : Str) (d : Addr) : List (Str × V) := putF "things" (.ref d) (putF "path" (.str p) (putF "number" (.int n) []))
theorem mF_n (n : Int) (p : Str) (d : Addr) : (mF n p d).lookup ("number" : Str) = some (.int n) := by
  unfold mF
  rw [lookup_putF, if_neg nt', lookup_putF, if_neg np, lookup_putF, if_pos rfl]
theorem mF_p (n : Int) (p : Str) (d : Addr) : (mF n p d).lookup ("path" : Str) = some (.str p) := by
  unfold mF
  rw [lookup_putF, if_neg pt', lookup_putF, if_pos rfl]
theorem mF_t (n : Int) (p : Str) (d : Addr) : (mF n p d).lookup ("things" : Str) = some (.ref d) := by
  unfold mF
  rw [lookup_putF, if_pos rfl]
theorem mF_no (n : Int) (p : Str) (d : Addr) {m : Str} (h1 : ¬ m = "things") (h2 : ¬ m = "path") (h3 : ¬ m = "number") : (mF n p d).lookup m = none := by
  unfold mF
  rw [lookup_putF, if_neg h1, lookup_putF, if_neg h2, lookup_putF, if_neg h3]
  rfl
def lF (h : V) (r : Str) : List (Str × V) := putF "road" (.str r) (putF "home" h [])
theorem lF_h (h : V) (r : Str) : (lF h r).lookup ("home" : Str) = some h := by
  unfold lF
  rw [lookup_putF, if_neg hr', lookup_putF, if_pos rfl]
theorem lF_r (h : V) (r : Str) : (lF h r).lookup ("road" : Str) = some (.str r) := by
  unfold lF
  rw [lookup_putF, if_pos rfl]
/-- a module at a: its dict's address and its pairs -/
structure MdAt (C : Addr) (H : Hp) (a : Addr) (n : Int) (p : Str) (d : Addr) (kvs : List (Key × V)) : Prop where
  ob : ∃ dx, H a = some (.ins C dx (mF n p d))
  dc : H d = some (.dK kvs)
theorem ins_ty {K : PySem.W.Frag} {C : Addr} (c : C8.InsC K C) {H : Hp} {a dx : Addr} {fs : List (Str × V)} (e : H a = some (.ins C dx fs)) : TyX K H (.ref a) (.ref C) := .base (.ins e c.cl c.ha c.hn c.htk c.hm)
/-- what the head tells of the two classes -/
structure ClT (K : PySem.W.Frag) (mg : Str → Option Value) (C D : Addr) : Prop where
  c1 : C8.InsC K C
  c2 : C8.InsC K D
  cd : PySem.W.kitOne K (.ref D) (.ref C) = some false
  dc' : PySem.W.kitOne K (.ref C) (.ref D) = some false
  ic : PySem.W.kitOne K (.type "int") (.ref C) = some false
  id : PySem.W.kitOne K (.type "int") (.ref D) = some false
  n1 : NoAttr K C "number"
  n2 : NoAttr K C "path"
  n3 : NoAttr K C "things"
  n4 : NoAttr K D "home"
  n5 : NoAttr K D "road"
  mC : mg "Module" = some (.ref C)
  mD : mg "Late" = some (.ref D)
def spMI (C : Addr) : Sp := fun vs H Q _ => ∃ (a dx : Addr) (n : Int) (p : Str), vs = [.ref a, .int n, .str p] ∧ H a = some (.ins C dx []) ∧
  ∀ (d : Addr) (H' : Hp), H d = none → H' a = some (.ins C dx (mF n p d)) → H' d = some (.dK []) → (∀ b o, H b = some o → b ≠ a → H' b = some o) → Q .non H'
def spMB (C : Addr) : Sp := fun vs H Q _ => ∃ (a d : Addr) (n : Int) (p z : Str) (v : V) (kvs : List (Key × V)), vs = [.ref a, .str z, v] ∧ MdAt C H a n p d kvs ∧ kvs.length ≤ 100 ∧ Q .non (upd H d (.dK (putK kvs (Sum.inr z) v)))
def spMH (C : Addr) : Sp := fun vs H Q _ => ∃ (a d : Addr) (n : Int) (p z : Str) (kvs : List (Key × V)), vs = [.ref a, .str z] ∧ MdAt C H a n p d kvs ∧ Q (.bl (valV kvs (Sum.inr z : Key)).isSome) H
def spMT (C : Addr) : Sp := fun vs H Q _ => ∃ (a d : Addr) (n : Int) (p z : Str) (kvs : List (Key × V)), vs = [.ref a, .str z] ∧ MdAt C H a n p d kvs ∧ Q ((valV kvs (Sum.inr z : Key)).getD .non) H
def spMO (C : Addr) : Sp := fun vs H Q _ => ∃ (a d : Addr) (n : Int) (p : Str) (kvs : List (Key × V)) (ks : List Str), vs = [.ref a] ∧ MdAt C H a n p d kvs ∧ kvs.map (·.1) = ks.map Sum.inr ∧ ks.length < 64 ∧
  ∀ (ys : List Str) (t : Addr), ys.Perm ks → sortedS ys = true → H t = none → Q (.ref t) (upd H t (.lst (ys.map V.str)))
def spLI (D : Addr) : Sp := fun vs H Q _ => ∃ (a dx : Addr) (h : V) (r : Str), vs = [.ref a, h, .str r] ∧ H a = some (.ins D dx []) ∧ Q .non (upd (upd H a (.ins D dx (putF "home" h []))) a (.ins D dx (lF h r)))
section
variable {P : Program} {w : World} {K : PySem.W.Frag} {mg : Str → Option Value} {base : Heap} {f C D : Addr} {fd : FuncData}
theorem ok_mi (F : MtP K "__init__" "Module.__init__" sMI f fd) (T : ClT K mg C D) : FnOk P w K mg base CX0 1 f fd ["self", "number", "path"] (spMI C) := by
  refine ok_code F scMI (fun vs H Q E h => ?_) (fun cdv A outer s H vs Q E hcd hr h => ?_)
  · obtain ⟨a, dx, n, p, rfl, _⟩ := h
    rfl
  · obtain ⟨a, dx, n, p, rfl, ha, q⟩ := h
    refine ⟨_, pss_cons (ps_fld (pv 0) (pv 1) rfl) (pss_cons (ps_fld (pv 0) (pv 2) rfl) (pss_one (ps_fld (pv 0) pe_dnewK rfl))), ?_⟩
    refine ⟨_, rfl, _, rfl, a, C, dx, [], rfl, ha, T.c1.cl, T.n1, (by show 0 < 1000; decide), _, rfl, _, rfl, a, C, dx, _, rfl, upd_same, T.c1.cl, T.n2, (by show 1 < 1000; decide), ?_⟩
    intro d hd
    have nad : a ≠ d := fun e => by
      rw [← e, upd_same] at hd
      cases hd
    refine ⟨_, rfl, a, C, dx, _, rfl, by rw [upd_ne nad, upd_same], T.c1.cl, T.n3, ?_, ?_⟩
    · have := length_putF "path" (.str p) (putF "number" (.int n) [])
      have := length_putF "number" (.int n) []
      simp at this
      omega
    · refine q d _ ?_ upd_same (by rw [upd_ne nad.symm, upd_same]) fun b o e nb => ?_
      · rw [upd_ne nad.symm, upd_ne nad.symm] at hd
        exact hd
      · have nbd : b ≠ d := fun z => by
          rw [← z, upd_ne nb, upd_ne nb, e] at hd
          cases hd
        rw [upd_ne nb, upd_ne nbd, upd_ne nb, upd_ne nb]
        exact e
theorem ok_mb (F : MtP K "bind" "Module.bind" sMB f fd) (T : ClT K mg C D) : FnOk P w K mg base CX0 1 f fd ["self", "name", "thing"] (spMB C) := by
  refine ok_code F scMB (fun vs H Q E h => ?_) (fun cdv A outer s H vs Q E hcd hr h => ?_)
  · obtain ⟨a, d, n, p, z, v, kvs, rfl, _⟩ := h
    rfl
  · obtain ⟨a, d, n, p, z, v, kvs, rfl, ⟨⟨dx, h1⟩, hd⟩, hl, q⟩ := h
    refine ⟨_, pss_one (ps_dput (hu_of hr) (pe_fld (pv 0) rfl) (pv 1) (pv 2) rfl), ?_⟩
    exact ⟨_, rfl, _, rfl, a, C, dx, _, _, rfl, h1, T.c1.cl, T.n3, mF_t _ _ _, _, rfl, d, _, rfl, DPut.k (k := Sum.inr z) hd (small1000 (by omega)), q⟩
theorem ok_mh (F : MtP K "has" "Module.has" sMH f fd) (T : ClT K mg C D) : FnOk P w K mg base CX0 1 f fd ["self", "name"] (spMH C) := by
  refine ok_code F scMH (fun vs H Q E h => ?_) (fun cdv A outer s H vs Q E hcd hr h => ?_)
  · obtain ⟨a, d, n, p, z, kvs, rfl, _⟩ := h
    rfl
  · obtain ⟨a, d, n, p, z, kvs, rfl, ⟨⟨dx, h1⟩, hd⟩, q⟩ := h
    refine ⟨_, pss_one (ps_ret (pe_cmp (pc_din (hu_of hr) (pv 1) (pe_fld (pv 0) rfl)))), ?_⟩
    exact ⟨_, rfl, _, rfl, a, C, dx, _, _, rfl, h1, T.c1.cl, T.n3, mF_t _ _ _, d, _, rfl, DGet.k (k := Sum.inr z) hd, q⟩
theorem ok_mt (F : MtP K "thing_of" "Module.thing_of" sMT f fd) (T : ClT K mg C D) : FnOk P w K mg base CX0 1 f fd ["self", "name"] (spMT C) := by
  refine ok_code F scMT (fun vs H Q E h => ?_) (fun cdv A outer s H vs Q E hcd hr h => ?_)
  · obtain ⟨a, d, n, p, z, kvs, rfl, _⟩ := h
    rfl
  · obtain ⟨a, d, n, p, z, kvs, rfl, ⟨⟨dx, h1⟩, hd⟩, q⟩ := h
    refine ⟨_, pss_one (ps_ret (pe_dget1 (hu_of hr) (pe_fld (pv 0) rfl) (pv 1) (by constructor <;> rfl))), ?_⟩
    exact ⟨_, rfl, a, C, dx, _, _, rfl, h1, T.c1.cl, T.n3, mF_t _ _ _, d, rfl, .inl ⟨_, .inl hd⟩, _, rfl, _, DGet.k (k := Sum.inr z) hd, q⟩
theorem ok_mo (F : MtP K "bound" "Module.bound" sMO f fd) (T : ClT K mg C D) (ms : mg "sorted" = none) : FnOk P w K mg base CX0 1 f fd ["self"] (spMO C) := by
  refine ok_code F scMO (fun vs H Q E h => ?_) (fun cdv A outer s H vs Q E hcd hr h => ?_)
  · obtain ⟨a, d, n, p, kvs, ks, rfl, _⟩ := h
    rfl
  · obtain ⟨a, d, n, p, kvs, ks, rfl, ⟨⟨dx, h1⟩, hd⟩, hk, hl, q⟩ := h
    refine ⟨_, pss_one (ps_ret (pe_callB (call_sortedD rfl) (by rfl) ms (by decide +kernel) (pa_cons (pe_fld (pv 0) rfl) pa_nil))), ?_⟩
    exact ⟨_, rfl, a, C, dx, _, _, rfl, h1, T.c1.cl, T.n3, mF_t _ _ _, d, kvs, ks, rfl, .inl hd, hk, hl, fun ys t e1 e2 e3 => q ys t e1 e2 e3⟩
theorem ok_li (F : MtP K "__init__" "Late.__init__" sLI f fd) (T : ClT K mg C D) : FnOk P w K mg base CX0 1 f fd ["self", "home", "road"] (spLI D) := by
  refine ok_code F scLI (fun vs H Q E h => ?_) (fun cdv A outer s H vs Q E hcd hr h => ?_)
  · obtain ⟨a, dx, v, r, rfl, _⟩ := h
    rfl
  · obtain ⟨a, dx, v, r, rfl, ha, q⟩ := h
    refine ⟨_, pss_cons (ps_fld (pv 0) (pv 1) rfl) (pss_one (ps_fld (pv 0) (pv 2) rfl)), ?_⟩
    exact ⟨_, rfl, _, rfl, a, D, dx, [], rfl, ha, T.c2.cl, T.n4, (by show 0 < 1000; decide), _, rfl, _, rfl, a, D, dx, _, rfl, upd_same, T.c2.cl, T.n5, (by show 1 < 1000; decide), q⟩
end
end D24
set_option maxHeartbeats 4000000
/-! k21: told -/
namespace D24
open PySem PySem.Spec PyProof.Rows L2 HM XW XR K11
def spTo (C D : Addr) : Sp := fun vs H Q _ => ∃ v, vs = [v] ∧ ((∃ i, v = .int i ∧ Q (.int i) H) ∨
  (∃ (a dx : Addr) (n : Int) (p : Str) (d : Addr), v = .ref a ∧ H a = some (.ins C dx (mF n p d)) ∧ ∀ t, H t = none → Q (.ref t) (upd H t (.tup [.str "module", .int n]))) ∨
  (∃ (L dx a : Addr) (r : Str) (dy : Addr) (n : Int) (p : Str) (d : Addr), v = .ref L ∧ H L = some (.ins D dx (lF (.ref a) r)) ∧ H a = some (.ins C dy (mF n p d)) ∧ ∀ t, H t = none → Q (.ref t) (upd H t (.tup [.str "function", .int n, .str r]))))
section
variable {P : Program} {w : World} {K : PySem.W.Frag} {mg : Str → Option Value} {base : Heap} {f C D : Addr} {fd : FuncData}
theorem ok_to (F : FnP K "told" sTo f fd) (T : ClT K mg C D) (mi : mg "isinstance" = none) : FnOk P w K mg base CX0 1 f fd ["thing"] (spTo C D) := by
  refine ok_code F scTo (fun vs H Q E h => ?_) (fun cdv A outer s H vs Q E hcd hr h => ?_)
  · obtain ⟨v, rfl, _⟩ := h
    rfl
  · obtain ⟨v, rfl, h⟩ := h
    refine ⟨_, pss_cons (ps_if (pt_val (pe_callB call_isi (by rfl) mi PyProof.Rows.boot_isinstance (pa_cons (pv 0) (pa_cons (pe_glob (v := .ref C) (by rfl) T.mC rfl) pa_nil)))) (pss_one (ps_ret (pe_tup (pa_cons pe_str (pa_cons (pe_fld (pv 0) rfl) pa_nil))))) pss_nil)
      (pss_cons (ps_if (pt_val (pe_callB call_isi (by rfl) mi PyProof.Rows.boot_isinstance (pa_cons (pv 0) (pa_cons (pe_glob (v := .ref D) (by rfl) T.mD rfl) pa_nil)))) (pss_one (ps_ret (pe_tup (pa_cons pe_str (pa_cons (pe_fld (pe_fld (pv 0) rfl) rfl) (pa_cons (pe_fld (pv 0) rfl) pa_nil)))))) pss_nil)
      (pss_one (ps_ret (pv 0)))), ?_⟩
    rcases h with ⟨i, rfl, q⟩ | ⟨a, dx, n, p, d, rfl, ha, q⟩ | ⟨L, dx, a, r, dy, n, p, d, rfl, hL, ha, q⟩
    · exact ⟨_, rfl, _, _, _, _, _, rfl, .own C, .base (.int i), T.ic, _, rfl, _, rfl, _, _, _, _, _, rfl, .own D, .base (.int i), T.id, _, rfl, _, rfl, q⟩
    · exact ⟨_, rfl, _, _, _, _, _, rfl, .own C, ins_ty T.c1 ha, T.c1.me, _, rfl, _, rfl, a, C, dx, _, _, rfl, ha, T.c1.cl, T.n1, mF_n _ _ _, sz (by simp), fun t ht => q t ht⟩
    · exact ⟨_, rfl, _, _, _, _, _, rfl, .own C, ins_ty T.c2 hL, T.cd, _, rfl, _, rfl, _, _, _, _, _, rfl, .own D, ins_ty T.c2 hL, T.c2.me, _, rfl, _, rfl, L, D, dx, _, _, rfl, hL, T.c2.cl, T.n4, lF_h _ _, a, C, dy, _, _, rfl, ha, T.c1.cl, T.n1, mF_n _ _ _, _, rfl, L, D, dx, _, _, rfl, hL, T.c2.cl, T.n5, lF_r _ _, sz (by simp), fun t ht => q t ht⟩
end
end D24
set_option maxHeartbeats 4000000
/-! k22: the whole state between two steps -/
namespace D24
open PySem PySem.Spec PyProof.Rows L2 HM XW XR K11 XM XSo
structure Pm where
  C : Addr
  D : Addr
  F : Addr
  M : Addr
  Lm : Addr
  N : Addr
  fs : List (Int × Str)
  ns : List Str
  as : List Addr
  ds : List Addr
  qs : List Addr
/-- what a name is to be bound to, as the law writes it -/
inductive KdQ (X : Pm) (H : Hp) (u : Addr) : Prop
  | num (i : Int) : i.natAbs < 10 ^ 60 → H u = some (.tup [.int 0, .int i]) → KdQ X H u
  | mod (j : Nat) : j < X.fs.length → H u = some (.tup [.int 1, .int j]) → KdQ X H u
  | fn (j : Nat) (r : Str) : j < X.fs.length → rdOk X.ns r → H u = some (.tup [.int 2, .int j, .str r]) → KdQ X H u
/-- the thing to which it was bound -/
inductive KdR (X : Pm) (H : Hp) : V → Addr → Prop
  | num {u : Addr} (i : Int) : i.natAbs < 10 ^ 60 → H u = some (.tup [.int 0, .int i]) → KdR X H (.int i) u
  | mod {u a : Addr} {j : Nat} {n : Int} {p : Str} : X.fs[j]? = some (n, p) → X.as[j]? = some a → H u = some (.tup [.int 1, .int j]) → KdR X H (.ref a) u
  | fn {u a L dx : Addr} {j : Nat} {n : Int} {p r : Str} : X.fs[j]? = some (n, p) → X.as[j]? = some a → H L = some (.ins X.D dx (lF (.ref a) r)) → rdOk X.ns r → H u = some (.tup [.int 2, .int j, .str r]) → KdR X H (.ref L) u
/-- tuples and objects are kept -/
def Kt (H H' : Hp) : Prop := ∀ b o, H b = some o → ((∃ xs, o = .tup xs) ∨ ∃ C dx fs, o = .ins C dx fs) → H' b = some o
theorem kt_same {H H' : Hp} (k : Same H H') : Kt H H' := fun c o e _ => k c o e
theorem kt_ch {l : Addr} {H H' : Hp} (hP : PotAt H l) (k : Ch l H H') : Kt H H' := fun c o e hc => k c o e fun z => by
  obtain ⟨p0, p1, e2, _⟩ := hP
  rw [z, e2] at e
  cases e
  rcases hc with ⟨xs, hc⟩ | ⟨_, _, _, hc⟩ <;> cases hc
theorem KdQ.kt {X : Pm} {H H' : Hp} (k : Kt H H') {u : Addr} : KdQ X H u → KdQ X H' u
  | .num i h1 h2 => .num i h1 (k _ _ h2 (.inl ⟨_, rfl⟩))
  | .mod j h1 h2 => .mod j h1 (k _ _ h2 (.inl ⟨_, rfl⟩))
  | .fn j r h1 h2 h3 => .fn j r h1 h2 (k _ _ h3 (.inl ⟨_, rfl⟩))
theorem KdR.kt {X : Pm} {H H' : Hp} (k : Kt H H') {v : V} {u : Addr} : KdR X H v u → KdR X H' v u
  | .num i h1 h2 => .num i h1 (k _ _ h2 (.inl ⟨_, rfl⟩))
  | .mod h1 h2 h3 => .mod h1 h2 (k _ _ h3 (.inl ⟨_, rfl⟩))
  | .fn h1 h2 h3 h4 h5 => .fn h1 h2 (k _ _ h3 (.inr ⟨_, _, _, rfl⟩)) h4 (k _ _ h5 (.inl ⟨_, rfl⟩))
def NmR (X : Pm) (H : Hp) (kvs mvs : List (Key × V)) (z : Str) : Prop :=
  (valV kvs (Sum.inr z : Key) = none ∧ valV mvs (Sum.inr z : Key) = none) ∨ ∃ (v : V) (u : Addr), valV kvs (Sum.inr z : Key) = some v ∧ valV mvs (Sum.inr z : Key) = some (.ref u) ∧ KdR X H v u
theorem NmR.kt {X : Pm} {H H' : Hp} (k : Kt H H') {kvs mvs : List (Key × V)} {z : Str} : NmR X H kvs mvs z → NmR X H' kvs mvs z
  | .inl h => .inl h
  | .inr ⟨v, u, h1, h2, h3⟩ => .inr ⟨v, u, h1, h2, h3.kt k⟩
def RowR (X : Pm) (H : Hp) (j : Nat) (n : Int) (p : Str) : Prop := ∃ (a d q : Addr) (kvs mvs : List (Key × V)) (ks : List Str), X.as[j]? = some a ∧ X.ds[j]? = some d ∧ X.qs[j]? = some q ∧ MdAt X.C H a n p d kvs ∧ H q = some (.dK mvs) ∧
  kvs.map (·.1) = ks.map Sum.inr ∧ mvs.map (·.1) = ks.map Sum.inr ∧ ks.Nodup ∧ (∀ k ∈ ks, k ∈ X.ns) ∧ ∀ z, NmR X H kvs mvs z
structure Wh (X : Pm) (H : Hp) : Prop where
  hF : ∃ xs, H X.F = some (.lst xs) ∧ RgAll AllA H xs (fsD X.fs)
  okF : ∀ p ∈ X.fs, factOk p
  neF : X.fs ≠ []
  l4 : X.fs.length ≤ 16
  hN : H X.N = some (.lst (X.ns.map V.str))
  okN : ∀ z ∈ X.ns, nmOk z
  neN : X.ns ≠ []
  lN : X.ns.length ≤ 20
  hL : H X.Lm = some (.lst (X.as.map V.ref))
  hM : H X.M = some (.lst (X.qs.map V.ref))
  la : X.as.length = X.fs.length
  ld : X.ds.length = X.fs.length
  lq : X.qs.length = X.fs.length
  nd : (X.ds ++ X.qs).Nodup
  na : X.as.Nodup
  row : ∀ j n p, X.fs[j]? = some (n, p) → RowR X H j n p
theorem rg_fact {Av : Addr → Prop} {H : Hp} {v : V} {n : Int} {p : Str} (h : Rg Av H v (fD (n, p))) : ∃ x, v = .ref x ∧ H x = some (.tup [.int n, .str p]) := by
  cases h with
  | tup e r =>
    cases r with
    | cons a r =>
    cases r with
    | cons b r =>
    cases r
    cases a
    cases b
    exact ⟨_, rfl, e⟩
/-- the j-th fact -/
def FcAt (H : Hp) (F : Addr) (j : Nat) (n : Int) (p : Str) : Prop := ∃ (xs : List V) (x : Addr), H F = some (.lst xs) ∧ xs[j]? = some (.ref x) ∧ H x = some (.tup [.int n, .str p])
section
variable {X : Pm} {H H' : Hp}
theorem Wh.fact (S : Wh X H) {j : Nat} {n : Int} {p : Str} (h : X.fs[j]? = some (n, p)) : FcAt H X.F j n p := by
  obtain ⟨xs, e, r⟩ := S.hF
  obtain ⟨v, hv, rv⟩ := r.get' j (d := fD (n, p)) (by rw [List.getElem?_map, h]; rfl)
  obtain ⟨x, rfl, hx⟩ := rg_fact rv
  exact ⟨xs, x, e, hv, hx⟩
theorem Wh.okA (S : Wh X H) {j : Nat} {n : Int} {p : Str} (h : X.fs[j]? = some (n, p)) : factOk (n, p) := S.okF _ (List.mem_of_getElem? h)
theorem Wh.lk (S : Wh X H) {ks : List Str} (nd : ks.Nodup) (h : ∀ k ∈ ks, k ∈ X.ns) : ks.length ≤ 20 := Nat.le_trans (pigeon ks X.ns nd h) S.lN
theorem Wh.ne (S : Wh X H) {l : Addr} (hP : PotAt H l) : X.F ≠ l ∧ X.N ≠ l ∧ X.Lm ≠ l ∧ X.M ≠ l := by
  obtain ⟨p0, p1, e, _⟩ := hP
  have hlen : 0 < X.fs.length := List.length_pos_iff.mpr S.neF
  have nr : ∀ {x : Addr} {bs : List Addr}, 0 < bs.length → H x = some (.lst (bs.map V.ref)) → x ≠ l := fun {x bs} h0 hx z => by
    rw [z, e] at hx
    cases bs with
    | nil => simp at h0
    | cons a r => cases hx
  refine ⟨fun z => ?_, strs_ne ⟨p0, p1, e, by assumption⟩ S.hN, nr (by rw [S.la]; exact hlen) S.hL, nr (by rw [S.lq]; exact hlen) S.hM⟩
  obtain ⟨xs, e1, r⟩ := S.hF
  cases q : X.fs with
  | nil => exact S.neF q
  | cons f fs =>
    rw [q] at r
    rw [z, e] at e1
    cases e1
    cases r with
    | cons h r => cases h
theorem Wh.keep (S : Wh X H) {l : Addr} (hP : PotAt H l) (k : ∀ c o, H c = some o → c ≠ l → H' c = some o) : Wh X H' := by
  obtain ⟨n1, n2, n3, n4⟩ := S.ne hP
  have kt : Kt H H' := kt_ch hP k
  have kd : ∀ c kvs, H c = some (.dK kvs) → H' c = some (.dK kvs) := fun c kvs e => k c _ e fun z => by
    obtain ⟨p0, p1, e2, _⟩ := hP
    rw [z, e2] at e
    cases e
  obtain ⟨xs, e, r⟩ := S.hF
  refine ⟨⟨xs, k _ _ e n1, r.kq fun c o e hc => ?_⟩, S.okF, S.neF, S.l4, k _ _ S.hN n2, S.okN, S.neN, S.lN, k _ _ S.hL n3, k _ _ S.hM n4, S.la, S.ld, S.lq, S.nd, S.na, fun j n p hf => ?_⟩
  · rcases hc with hc | ⟨hc, _⟩
    · exact kt c o e (.inl hc)
    · exact absurd trivial hc
  · obtain ⟨a, d, q, kvs, mvs, ks, e1, e2, e3, ⟨⟨dx, hm⟩, hd⟩, hq, k1, k2, k3, k4, k5⟩ := S.row j n p hf
    exact ⟨a, d, q, kvs, mvs, ks, e1, e2, e3, ⟨⟨dx, kt _ _ hm (.inr ⟨_, _, _, rfl⟩)⟩, kd _ _ hd⟩, kd _ _ hq, k1, k2, k3, k4, fun z => (k5 z).kt kt⟩
theorem Wh.same (S : Wh X H) (k : Same H H') : Wh X H' := by
  obtain ⟨xs, e, r⟩ := S.hF
  refine ⟨⟨xs, k _ _ e, r.kq fun c o e hc => k c o e⟩, S.okF, S.neF, S.l4, k _ _ S.hN, S.okN, S.neN, S.lN, k _ _ S.hL, k _ _ S.hM, S.la, S.ld, S.lq, S.nd, S.na, fun j n p hf => ?_⟩
  obtain ⟨a, d, q, kvs, mvs, ks, e1, e2, e3, ⟨⟨dx, hm⟩, hd⟩, hq, k1, k2, k3, k4, k5⟩ := S.row j n p hf
  exact ⟨a, d, q, kvs, mvs, ks, e1, e2, e3, ⟨⟨dx, k _ _ hm⟩, k _ _ hd⟩, k _ _ hq, k1, k2, k3, k4, fun z => (k5 z).kt (kt_same k)⟩
theorem keys_put {kvs : List (Key × V)} {ks : List Str} {z : Str} {v : V} (h : kvs.map (·.1) = ks.map Sum.inr) : (putK kvs (Sum.inr z : Key) v).map (·.1) = (if z ∈ ks then ks else ks ++ [z]).map Sum.inr := by
  have ha : (kvs.any fun kv => decide (kv.1 = (Sum.inr z : Key))) = decide (z ∈ ks) := by
    rw [Bool.eq_iff_iff, List.any_eq_true, decide_eq_true_iff]
    constructor
    · rintro ⟨kv, h1, h2⟩
      have h3 : (Sum.inr z : Key) ∈ kvs.map (·.1) := List.mem_map.mpr ⟨kv, h1, of_decide_eq_true h2⟩
      rw [h] at h3
      obtain ⟨y, hy, e⟩ := List.mem_map.mp h3
      cases e
      exact hy
    · intro hz
      have h3 : (Sum.inr z : Key) ∈ ks.map Sum.inr := List.mem_map.mpr ⟨z, hz, rfl⟩
      rw [← h] at h3
      obtain ⟨kv, h1, h2⟩ := List.mem_map.mp h3
      exact ⟨kv, h1, decide_eq_true h2⟩
  unfold putK
  rw [ha]
  by_cases hz : z ∈ ks
  · rw [decide_eq_true hz, if_pos rfl, if_pos hz, ← h, List.map_map]
    refine List.map_congr_left fun kv _ => ?_
    show (if kv.1 = Sum.inr z then (kv.1, v) else kv).1 = kv.1
    split <;> rfl
  · rw [decide_eq_false hz, if_neg (by decide), if_neg hz, List.map_append, List.map_append, h]
    rfl
theorem Wh.bind (S : Wh X H) {j : Nat} {n : Int} {p z : Str} {d q u : Addr} {kvs mvs : List (Key × V)} {v : V} (hj : X.fs[j]? = some (n, p)) (hd : X.ds[j]? = some d) (hq : X.qs[j]? = some q) (ed : H d = some (.dK kvs)) (eq : H q = some (.dK mvs)) (hz : z ∈ X.ns)
    (k : ∀ c o, H c = some o → c ≠ d → c ≠ q → H' c = some o) (e1 : H' d = some (.dK (putK kvs (Sum.inr z : Key) v))) (e2 : H' q = some (.dK (putK mvs (Sum.inr z : Key) (.ref u)))) (ht : KdR X H' v u) : Wh X H' := by
  have kx : ∀ c o, H c = some o → (∀ l, o ≠ .dK l) → H' c = some o := fun c o e h => k c o e (fun y => by rw [y, ed] at e; cases e; exact h _ rfl) (fun y => by rw [y, eq] at e; cases e; exact h _ rfl)
  have kt : Kt H H' := fun c o e hc => kx c o e fun l y => by
    rw [y] at hc
    rcases hc with ⟨xs, hc⟩ | ⟨_, _, _, hc⟩ <;> cases hc
  obtain ⟨nd1, nd2, nd3⟩ := List.nodup_append.mp S.nd
  obtain ⟨xs, e, r⟩ := S.hF
  have nl : ∀ (x : List V) l, HO.lst x ≠ .dK l := fun x l y => by cases y
  refine ⟨⟨xs, kx _ _ e (nl _), r.kq fun c o e hc => ?_⟩, S.okF, S.neF, S.l4, kx _ _ S.hN (nl _), S.okN, S.neN, S.lN, kx _ _ S.hL (nl _), kx _ _ S.hM (nl _), S.la, S.ld, S.lq, S.nd, S.na, fun i m y hf => ?_⟩
  · rcases hc with hc | ⟨hc, _⟩
    · exact kt c o e (.inl hc)
    · exact absurd trivial hc
  · obtain ⟨a', d', q', kvs', mvs', ks, g1, g2, g3, ⟨⟨dx, hm⟩, hd'⟩, hq', k1, k2, k3, k4, k5⟩ := S.row i m y hf
    have hm' := kt _ _ hm (.inr ⟨_, _, _, rfl⟩)
    by_cases hij : i = j
    · subst hij
      rw [hd] at g2
      cases g2
      rw [hq] at g3
      cases g3
      rw [ed] at hd'
      cases hd'
      rw [eq] at hq'
      cases hq'
      refine ⟨a', d, q, _, _, (if z ∈ ks then ks else ks ++ [z]), g1, hd, hq, ⟨⟨dx, hm'⟩, e1⟩, e2, keys_put k1, keys_put k2, ?_, fun y hy => ?_, fun y => ?_⟩
      · split
        · exact k3
        · rename_i hn
          rw [List.nodup_append]
          refine ⟨k3, List.nodup_cons.mpr ⟨by simp, List.nodup_nil⟩, fun b hb c hc => ?_⟩
          rw [List.mem_singleton.mp hc]
          exact fun w => hn (w ▸ hb)
      · split at hy
        · exact k4 y hy
        · rcases List.mem_append.mp hy with w | w
          · exact k4 y w
          · rw [List.mem_singleton.mp w]
            exact hz
      · unfold NmR
        rw [valV_put, valV_put]
        by_cases hy : y = z
        · subst hy
          rw [if_pos rfl, if_pos rfl]
          exact .inr ⟨v, u, rfl, rfl, ht⟩
        · have ne : ¬ ((Sum.inr y : Key) = Sum.inr z) := fun w => hy (by cases w; rfl)
          rw [if_neg ne, if_neg ne]
          exact (k5 y).kt kt
    · have i1 : d' ≠ d := fun w => hij ((List.getElem?_inj (by have := (List.getElem?_eq_some_iff.mp g2).1; exact this) nd1).mp (by rw [g2, hd, w]))
      have i2 : d' ≠ q := fun w => nd3 d' (List.mem_of_getElem? g2) q (List.mem_of_getElem? hq) w
      have i3 : q' ≠ q := fun w => hij ((List.getElem?_inj (by have := (List.getElem?_eq_some_iff.mp g3).1; exact this) nd2).mp (by rw [g3, hq, w]))
      have i4 : q' ≠ d := fun w => nd3 d (List.mem_of_getElem? hd) q' (List.mem_of_getElem? g3) w.symm
      exact ⟨a', d', q', kvs', mvs', ks, g1, g2, g3, ⟨⟨dx, hm'⟩, k _ _ hd' i1 i2⟩, k _ _ hq' i4 i3, k1, k2, k3, k4, fun z => (k5 z).kt kt⟩
end
end D24
set_option maxHeartbeats 4000000
/-! k22: kinds drawn, names bound -/
namespace D24
open PySem PySem.Spec PyProof.Rows L2 HM XW XR K11 XM XSo
abbrev sKd : Stmt := top 26
abbrev sBo : Stmt := top 27
theorem scKd : FnScope ["_law_pot_here", "_law_facts_here", "_law_names_here", "_law_way", "_law_at_here"] ["_law_pot_here", "_law_facts_here", "_law_names_here"] (defScope sKd) := ⟨rfl, rfl, rfl, by decide +kernel, rfl, by decide +kernel, by decide +kernel⟩
theorem scBo : FnScope ["_law_modules", "_law_models", "_law_which", "_law_name_here", "_law_kind_here", "_law_thing"] ["_law_modules", "_law_models", "_law_which", "_law_name_here", "_law_kind_here"] (defScope sBo) := ⟨rfl, rfl, rfl, by decide +kernel, rfl, by decide +kernel, by decide +kernel⟩
def spKd : Sp := fun vs H Q _ => ∃ (X : Pm) (l : Addr), vs = [.ref l, .ref X.F, .ref X.N] ∧ PotAt H l ∧ Wh X H ∧ ∀ (H' : Hp) (u : Addr), Ch l H H' → PotAt H' l → KdQ X H' u → Q (.ref u) H'
/-- the name is bound in the j-th model -/
def Bn (X : Pm) (H : Hp) (j : Nat) (z : Str) : Prop := ∃ (q : Addr) (mvs : List (Key × V)), X.qs[j]? = some q ∧ H q = some (.dK mvs) ∧ (valV mvs (Sum.inr z : Key)).isSome = true
theorem Bn.same {X : Pm} {H H' : Hp} {j : Nat} {z : Str} (k : Same H H') : Bn X H j z → Bn X H' j z
  | ⟨q, mvs, h1, h2, h3⟩ => ⟨q, mvs, h1, k _ _ h2, h3⟩
theorem Bn.ch {X : Pm} {H H' : Hp} {l j : Nat} {z : Str} (hP : PotAt H l) (k : Ch l H H') : Bn X H j z → Bn X H' j z
  | ⟨q, mvs, h1, h2, h3⟩ => ⟨q, mvs, h1, k _ _ h2 (fun y => by
      obtain ⟨p0, p1, e, _⟩ := hP
      rw [y, e] at h2
      cases h2), h3⟩
theorem bn_put {X : Pm} {H H' : Hp} (S : Wh X H) {j : Nat} {d q : Addr} {mvs : List (Key × V)} {z : Str} {v : V} (hd : X.ds[j]? = some d) (hq : X.qs[j]? = some q) (eq : H q = some (.dK mvs))
    (k : ∀ c o, H c = some o → c ≠ d → c ≠ q → H' c = some o) (e2 : H' q = some (.dK (putK mvs (Sum.inr z : Key) v))) : ∀ (i : Nat) (y : Str), Bn X H i y → Bn X H' i y := by
  rintro i y ⟨q', mvs', g, e, h⟩
  by_cases hqq : q' = q
  · subst hqq
    rw [eq] at e
    cases e
    refine ⟨q', _, g, e2, ?_⟩
    rw [valV_put]
    split
    · rfl
    · exact h
  · exact ⟨q', mvs', g, k q' _ e (fun y => (List.nodup_append.mp S.nd).2.2 d (List.mem_of_getElem? hd) q' (List.mem_of_getElem? g) y.symm) hqq, h⟩
/-- what a bind leaves -/
structure Bd (X : Pm) (H H' : Hp) : Prop where
  a : ∀ c o, H c = some o → (∀ m, o ≠ .dK m) → H' c = some o
  b : ∀ c o, H c = some o → c ∉ X.ds → c ∉ X.qs → H' c = some o
  c : ∀ (i : Nat) (y : Str), Bn X H i y → Bn X H' i y
theorem Bd.refl (X : Pm) (H : Hp) : Bd X H H := ⟨fun _ _ e _ => e, fun _ _ e _ _ => e, fun _ _ b => b⟩
theorem Bd.trans {X : Pm} {H H1 H2 : Hp} (x : Bd X H H1) (y : Bd X H1 H2) : Bd X H H2 := ⟨fun c o e h => y.a c o (x.a c o e h) h, fun c o e h1 h2 => y.b c o (x.b c o e h1 h2) h1 h2, fun i z b => y.c i z (x.c i z b)⟩
theorem Bd.same {X : Pm} {H H1 : Hp} (x : Same H H1) : Bd X H H1 := ⟨fun c o e _ => x c o e, fun c o e _ _ => x c o e, fun i z b => b.same x⟩
theorem Bd.kt {X : Pm} {H H1 : Hp} (x : Bd X H H1) : Kt H H1 := fun c o e hc => x.a c o e fun m z => by
  rw [z] at hc
  rcases hc with ⟨_, hc⟩ | ⟨_, _, _, hc⟩ <;> cases hc
def spBo (C D : Addr) : Sp := fun vs H Q _ => ∃ (X : Pm) (j : Nat) (z : Str) (u : Addr), X.C = C ∧ X.D = D ∧ vs = [.ref X.Lm, .ref X.M, .int j, .str z, .ref u] ∧ Wh X H ∧ KdQ X H u ∧ j < X.fs.length ∧ z ∈ X.ns ∧ ∀ H', Wh X H' → Bd X H H' → Q .non H'
section
variable {P : Program} {w : World} {K : PySem.W.Frag} {mg : Str → Option Value} {base : Heap} {f fD fN fR fI fB C D : Addr} {fd fdD fdN fdR fdI fdB : FuncData}
theorem lg16 {n : Nat} (h : 0 < n) (h2 : n ≤ 45) : (n : Int).natAbs.log2 < 9000 := by
  rw [Int.natAbs_natCast]
  have h1 : n < 2 ^ 6 := by omega
  have := (Nat.log2_lt (by omega)).mpr h1
  omega
theorem ok_kd (F : FnP K "_law_kind" sKd f fd) (GD : FnOk P w K mg base CX0 1 fD fdD DP spDraw) (FD : FnP K "_law_draw" sDraw fD fdD) (gD : mg "_law_draw" = some (.ref fD))
    (GR : FnOk P w K mg base CX0 2 fR fdR ["_law_pot_here", "_law_names_here"] (spRd K)) (FR : FnP K "_law_road" sRd fR fdR) (gR : mg "_law_road" = some (.ref fR))
    (GN : FnOk P w K mg base CX0 2 fN fdN ["_law_pot_here"] spNum) (FN : FnP K "_law_number" sNum fN fdN) (gN : mg "_law_number" = some (.ref fN)) (ml : mg "len" = none) : FnOk P w K mg base CX0 3 f fd ["_law_pot_here", "_law_facts_here", "_law_names_here"] spKd := by
  have bD : Binds K fdD DP [] := FD.bindsN fun _ _ _ _ _ _ us hl => match us, hl with | [_, _], _ => rfl
  have bR : Binds K fdR ["_law_pot_here", "_law_names_here"] [] := FR.bindsN fun _ _ _ _ _ _ us hl => match us, hl with | [_, _], _ => rfl
  have bN : Binds K fdN ["_law_pot_here"] [] := FN.bindsN fun _ _ _ _ _ _ us hl => match us, hl with | [_], _ => rfl
  refine ok_code F scKd (fun vs H Q E h => ?_) (fun cdv A outer s H vs Q E hcd hr h => ?_)
  · obtain ⟨X, l, rfl, _⟩ := h
    rfl
  · obtain ⟨X, l, rfl, hP, S, q⟩ := h
    have hr1 : Room 1 (A.deeper (envOfC "_law_kind" (defScope sKd) s.heap.objs.size f cdv)) := hr.mono (by decide)
    refine ⟨_, pss_cons (ps_set (i := 3) scKd.nd rfl (.inl rfl) (pe_call GD hr1 (by rfl) gD FD.kp bD .nil pass0 (pa_cons (pv 0) (pa_cons pe_int pa_nil))))
      (pss_cons (ps_set (i := 4) scKd.nd rfl (.inl rfl) (pe_call GD hr1 (by rfl) gD FD.kp bD .nil pass0 (pa_cons (pv 0) (pa_cons (pe_callB call_len_seq (by rfl) ml PySem.boot_len (pa_cons (pv 1) pa_nil)) pa_nil))))
      (pss_cons (ps_if (pt_cmpR op_lt (pv 3) pe_int (nomark _)) (pss_one (ps_ret (pe_tup (pa_cons pe_int (pa_cons (pv 4) pa_nil))))) pss_nil)
      (pss_cons (ps_if (pt_cmpR op_eq (pv 3) pe_int (nomark _)) (pss_one (ps_ret (pe_tup (pa_cons pe_int (pa_cons (pv 4) (pa_cons (pe_call GR hr (by rfl) gR FR.kp bR .nil pass0 (pa_cons (pv 0) (pa_cons (pv 2) pa_nil))) pa_nil)))))) pss_nil)
      (pss_one (ps_ret (pe_tup (pa_cons pe_int (pa_cons (pe_call GN hr (by rfl) gN FN.kp bN .nil pass0 (pa_cons (pv 0) pa_nil)) pa_nil)))))))), ?_⟩
    refine ⟨_, rfl, l, _, pa hP, pb hP, rfl, by decide, by decide, ph hP, pk hP, fun H1 way c1 hP1 w0 w1 => ?_⟩
    have S1 := S.keep hP c1
    obtain ⟨xs, eF, rF⟩ := S1.hF
    have hlx : xs.length = X.fs.length := by rw [rF.len, List.length_map]
    have hpos : 0 < X.fs.length := List.length_pos_iff.mpr S.neF
    have h16 := S.l4
    refine ⟨_, rfl, _, rfl, X.F, xs, rfl, .inl (SqL.of eF), l, _, pa hP1, pb hP1, rfl, by omega, lg16 (by omega) (by omega), ph hP1, pk hP1, fun H2 jj c2 hP2 j0 j1 => ?_⟩
    obtain ⟨j, rfl⟩ : ∃ j : Nat, jj = (j : Int) := ⟨jj.toNat, by omega⟩
    have hj : j < X.fs.length := by omega
    have S2 := S1.keep hP1 c2
    have c02 := Ch.trans c1 c2
    have neV : ∀ k m : Int, k ≠ m → decide (V.int k = V.int m) = false := fun k m h => decide_eq_false (fun e => h (by cases e; rfl))
    refine ⟨_, rfl, _, _, rfl, rfl, _, rfl, ?_⟩
    by_cases h3 : way < 3
    · rw [decide_eq_true h3]
      refine ⟨_, rfl, sz (by simp), fun t ht => ?_⟩
      exact q _ t (Ch.over c02 (Ch.free c02 ht (hP2.ne ht))) (hP2.new (hP2.ne ht)) (.mod j hj upd_same)
    · rw [decide_eq_false h3]
      refine ⟨_, rfl, rfl, _, rfl, ?_⟩
      by_cases h4 : way = 3
      · subst h4
        rw [show decide (V.int 3 = V.int 3) = true from rfl]
        refine ⟨_, rfl, _, rfl, _, rfl, l, X.N, X.ns, rfl, hP2, S2.hN, S.okN, S.neN, by have := S.lN; omega, fun H3 r c3 hP3 hr3 => ⟨sz (by simp), fun t ht => ?_⟩⟩
        have c03 := Ch.trans c02 c3
        exact q _ t (Ch.over c03 (Ch.free c03 ht (hP3.ne ht))) (hP3.new (hP3.ne ht)) (.fn j r hj hr3 upd_same)
      · rw [neV _ _ h4]
        refine ⟨_, rfl, l, rfl, hP2, fun H3 i c3 hP3 hi3 => ⟨sz (by simp), fun t ht => ?_⟩⟩
        have c03 := Ch.trans c02 c3
        exact q _ t (Ch.over c03 (Ch.free c03 ht (hP3.ne ht))) (hP3.new (hP3.ne ht)) (.num i hi3 upd_same)
theorem ok_bo (F : FnP K "_law_bound" sBo f fd) (T : ClT K mg C D) (ML : Mk K D fI) (GI : FnOk P w K mg base CX0 1 fI fdI ["self", "home", "road"] (spLI D)) (bI : Binds K fdI ["self", "home", "road"] [])
    (GB : FnOk P w K mg base CX0 1 fB fdB ["self", "name", "thing"] (spMB C)) (mB : Meth K C "bind" fB) (bB : Binds K fdB ["self", "name", "thing"] []) : FnOk P w K mg base CX0 3 f fd ["_law_modules", "_law_models", "_law_which", "_law_name_here", "_law_kind_here"] (spBo C D) := by
  refine ok_code F scBo (fun vs H Q E h => ?_) (fun cdv A outer s H vs Q E hcd hr h => ?_)
  · obtain ⟨X, j, z, u, _, _, rfl, _⟩ := h
    rfl
  · obtain ⟨X, j, z, u, hC, hD, rfl, S, hk, hj, hz, q⟩ := h
    subst hC hD
    have hu := hu_of hr
    have hr1 : Room 1 (A.deeper (envOfC "_law_bound" (defScope sBo) s.heap.objs.size f cdv)) := hr.mono (by decide)
    refine ⟨_, pss_cons (ps_set (i := 5) scBo.nd rfl (.inl rfl) (pe_ix ix_tup (pv 4) pe_int (fun _ _ => rfl)))
      (pss_cons (ps_if (pt_cmpR op_eq (pe_ix ix_tup (pv 4) pe_int (fun _ _ => rfl)) pe_int (nomark _)) (pss_one (ps_set (i := 5) scBo.nd rfl (.inl rfl) (pe_ix ix_list (pv 0) (pe_ix ix_tup (pv 4) pe_int (fun _ _ => rfl)) (fun _ _ => rfl)))) pss_nil)
      (pss_cons (ps_if (pt_cmpR op_eq (pe_ix ix_tup (pv 4) pe_int (fun _ _ => rfl)) pe_int (nomark _)) (pss_one (ps_set (i := 5) scBo.nd rfl (.inl rfl) (pe_make ML GI hr (by rfl) T.mD bI .nil pass0 (pa_cons (pe_ix ix_list (pv 0) (pe_ix ix_tup (pv 4) pe_int (fun _ _ => rfl)) (fun _ _ => rfl)) (pa_cons (pe_ix ix_tup (pv 4) pe_int (fun _ _ => rfl)) pa_nil))))) pss_nil)
      (pss_cons (ps_expr (pe_meth (pe_ix ix_list (pv 0) (pv 2) (fun _ _ => rfl)) T.c1.cl mB GB hr1 bB .nil pass0 (pa_cons (pv 3) (pa_cons (pv 5) pa_nil))))
      (pss_one (ps_dput hu (pe_ix ix_list (pv 1) (pv 2) (fun _ _ => rfl)) (pv 3) (pv 4) rfl))))), ?_⟩
    obtain ⟨⟨n, p⟩, hf⟩ : ∃ np, X.fs[j]? = some np := ⟨_, List.getElem?_eq_getElem hj⟩
    have neV : ∀ k m : Int, k ≠ m → decide (V.int k = V.int m) = false := fun k m h => decide_eq_false (fun e => h (by cases e; rfl))
    cases hk with
    | num i hi hu' =>
      refine ⟨_, rfl, u, _, _, _, rfl, rfl, SqT.of hu', atI_nat (j := 1) rfl, ?_⟩
      refine ⟨_, rfl, u, _, _, _, rfl, rfl, SqT.of hu', atI_nat (j := 0) rfl, rfl, _, rfl, ?_⟩
      rw [neV 0 1 (by decide)]
      refine ⟨_, rfl, u, _, _, _, rfl, rfl, SqT.of hu', atI_nat (j := 0) rfl, rfl, _, rfl, ?_⟩
      rw [neV 0 2 (by decide)]
      have s1 : Same H H := Same.refl H
      have hv : KdR X H (.int i) u := .num i hi hu'
      have S1 := S.same s1
      obtain ⟨a, d, qa, kvs, mvs, ks, g1, g2, g3, hM, hq, kk1, kk2, kk3, kk4, kk5⟩ := S1.row j n p hf
      obtain ⟨⟨dx, ha⟩, hd⟩ := id hM
      have lks := S.lk kk3 kk4
      have lkv : kvs.length ≤ 20 := by
        have := congrArg List.length kk1
        rw [List.length_map, List.length_map] at this
        omega
      have lmv : mvs.length ≤ 20 := by
        have := congrArg List.length kk2
        rw [List.length_map, List.length_map] at this
        omega
      have atA : atI (X.as.map V.ref) (j : Int) = some (.ref a) := atI_nat (j := j) (by rw [List.getElem?_map, g1]; rfl)
      have atQ : atI (X.qs.map V.ref) (j : Int) = some (.ref qa) := atI_nat (j := j) (by rw [List.getElem?_map, g3]; rfl)
      have ndq : d ≠ qa := (List.nodup_append.mp S.nd).2.2 d (List.mem_of_getElem? g2) qa (List.mem_of_getElem? g3)
      have nl : ∀ (x : List V) m, HO.lst x ≠ .dK m := fun x m y => by cases y
      have k2 : ∀ c o, H c = some o → c ≠ d → (upd H d (.dK (putK kvs (Sum.inr z : Key) (V.int i)))) c = some o := fun c o e h => by
        rw [upd_ne h]
        exact e
      refine ⟨_, rfl, _, rfl, X.Lm, _, _, .ref a, rfl, rfl, SqL.of S1.hL, atA, a, dx, _, rfl, ha, mF_no _ _ _ (by decide +kernel) (by decide +kernel) (by decide +kernel), _, rfl, _, rfl, a, d, n, p, z, (V.int i), kvs, rfl, hM, by omega, ?_⟩
      refine ⟨_, rfl, _, rfl, _, rfl, X.M, _, _, .ref qa, rfl, rfl, SqL.of (k2 _ _ S1.hM (fun y => by have e := S1.hM; rw [y, hd] at e; cases e)), atQ, _, rfl, qa, _, rfl, DPut.k (k := Sum.inr z) (k2 _ _ hq ndq.symm) (small1000 (by omega)), ?_⟩
      have k3 : ∀ c o, H c = some o → c ≠ d → c ≠ qa → (upd (upd H d (.dK (putK kvs (Sum.inr z : Key) (V.int i)))) qa (.dK (putK mvs (Sum.inr z : Key) (.ref u)))) c = some o := fun c o e h1 h2 => by
        rw [upd_ne h2]
        exact k2 c o e h1
      have k4 : ∀ c o, H c = some o → (∀ m, o ≠ .dK m) → (upd (upd H d (.dK (putK kvs (Sum.inr z : Key) (V.int i)))) qa (.dK (putK mvs (Sum.inr z : Key) (.ref u)))) c = some o := fun c o e h => k3 c o e (fun y => by rw [y, hd] at e; cases e; exact h _ rfl) (fun y => by rw [y, hq] at e; cases e; exact h _ rfl)
      have kt : Kt H (upd (upd H d (.dK (putK kvs (Sum.inr z : Key) (V.int i)))) qa (.dK (putK mvs (Sum.inr z : Key) (.ref u)))) := fun c o e hc => k4 c o e fun m y => by
        rw [y] at hc
        rcases hc with ⟨_, hc⟩ | ⟨_, _, _, hc⟩ <;> cases hc
      refine q _ (S1.bind hf g2 g3 hd hq hz k3 (by rw [upd_ne ndq]; exact upd_same) upd_same (hv.kt kt)) ⟨fun c o e h => k4 c o (s1 c o e) h, fun c o e h1 h2 => k3 c o (s1 c o e) (fun y => h1 (y ▸ List.mem_of_getElem? g2)) (fun y => h2 (y ▸ List.mem_of_getElem? g3)), fun i' y' b' => bn_put S1 g2 g3 hq k3 upd_same i' y' (b'.same s1)⟩
    | mod k hk' hu' =>
      obtain ⟨⟨n', p'⟩, hf'⟩ : ∃ np, X.fs[k]? = some np := ⟨_, List.getElem?_eq_getElem hk'⟩
      obtain ⟨b, _, _, _, _, _, gb, _⟩ := S.row k n' p' hf'
      refine ⟨_, rfl, u, _, _, _, rfl, rfl, SqT.of hu', atI_nat (j := 1) rfl, ?_⟩
      refine ⟨_, rfl, u, _, _, _, rfl, rfl, SqT.of hu', atI_nat (j := 0) rfl, rfl, _, rfl, ?_⟩
      rw [show decide (V.int 1 = V.int 1) = true from rfl]
      refine ⟨_, rfl, _, rfl, u, _, _, _, rfl, rfl, SqT.of hu', atI_nat (j := 1) rfl, X.Lm, _, _, .ref b, rfl, rfl, SqL.of S.hL, atI_nat (j := k) (by rw [List.getElem?_map, gb]; rfl), ?_⟩
      refine ⟨_, rfl, u, _, _, _, rfl, rfl, SqT.of hu', atI_nat (j := 0) rfl, rfl, _, rfl, ?_⟩
      rw [neV 1 2 (by decide)]
      have s1 : Same H H := Same.refl H
      have hv : KdR X H (.ref b) u := .mod hf' gb hu'
      have S1 := S.same s1
      obtain ⟨a, d, qa, kvs, mvs, ks, g1, g2, g3, hM, hq, kk1, kk2, kk3, kk4, kk5⟩ := S1.row j n p hf
      obtain ⟨⟨dx, ha⟩, hd⟩ := id hM
      have lks := S.lk kk3 kk4
      have lkv : kvs.length ≤ 20 := by
        have := congrArg List.length kk1
        rw [List.length_map, List.length_map] at this
        omega
      have lmv : mvs.length ≤ 20 := by
        have := congrArg List.length kk2
        rw [List.length_map, List.length_map] at this
        omega
      have atA : atI (X.as.map V.ref) (j : Int) = some (.ref a) := atI_nat (j := j) (by rw [List.getElem?_map, g1]; rfl)
      have atQ : atI (X.qs.map V.ref) (j : Int) = some (.ref qa) := atI_nat (j := j) (by rw [List.getElem?_map, g3]; rfl)
      have ndq : d ≠ qa := (List.nodup_append.mp S.nd).2.2 d (List.mem_of_getElem? g2) qa (List.mem_of_getElem? g3)
      have nl : ∀ (x : List V) m, HO.lst x ≠ .dK m := fun x m y => by cases y
      have k2 : ∀ c o, H c = some o → c ≠ d → (upd H d (.dK (putK kvs (Sum.inr z : Key) (V.ref b)))) c = some o := fun c o e h => by
        rw [upd_ne h]
        exact e
      refine ⟨_, rfl, _, rfl, X.Lm, _, _, .ref a, rfl, rfl, SqL.of S1.hL, atA, a, dx, _, rfl, ha, mF_no _ _ _ (by decide +kernel) (by decide +kernel) (by decide +kernel), _, rfl, _, rfl, a, d, n, p, z, (V.ref b), kvs, rfl, hM, by omega, ?_⟩
      refine ⟨_, rfl, _, rfl, _, rfl, X.M, _, _, .ref qa, rfl, rfl, SqL.of (k2 _ _ S1.hM (fun y => by have e := S1.hM; rw [y, hd] at e; cases e)), atQ, _, rfl, qa, _, rfl, DPut.k (k := Sum.inr z) (k2 _ _ hq ndq.symm) (small1000 (by omega)), ?_⟩
      have k3 : ∀ c o, H c = some o → c ≠ d → c ≠ qa → (upd (upd H d (.dK (putK kvs (Sum.inr z : Key) (V.ref b)))) qa (.dK (putK mvs (Sum.inr z : Key) (.ref u)))) c = some o := fun c o e h1 h2 => by
        rw [upd_ne h2]
        exact k2 c o e h1
      have k4 : ∀ c o, H c = some o → (∀ m, o ≠ .dK m) → (upd (upd H d (.dK (putK kvs (Sum.inr z : Key) (V.ref b)))) qa (.dK (putK mvs (Sum.inr z : Key) (.ref u)))) c = some o := fun c o e h => k3 c o e (fun y => by rw [y, hd] at e; cases e; exact h _ rfl) (fun y => by rw [y, hq] at e; cases e; exact h _ rfl)
      have kt : Kt H (upd (upd H d (.dK (putK kvs (Sum.inr z : Key) (V.ref b)))) qa (.dK (putK mvs (Sum.inr z : Key) (.ref u)))) := fun c o e hc => k4 c o e fun m y => by
        rw [y] at hc
        rcases hc with ⟨_, hc⟩ | ⟨_, _, _, hc⟩ <;> cases hc
      refine q _ (S1.bind hf g2 g3 hd hq hz k3 (by rw [upd_ne ndq]; exact upd_same) upd_same (hv.kt kt)) ⟨fun c o e h => k4 c o (s1 c o e) h, fun c o e h1 h2 => k3 c o (s1 c o e) (fun y => h1 (y ▸ List.mem_of_getElem? g2)) (fun y => h2 (y ▸ List.mem_of_getElem? g3)), fun i' y' b' => bn_put S1 g2 g3 hq k3 upd_same i' y' (b'.same s1)⟩
    | fn k r hk' hr' hu' =>
      obtain ⟨⟨n', p'⟩, hf'⟩ : ∃ np, X.fs[k]? = some np := ⟨_, List.getElem?_eq_getElem hk'⟩
      obtain ⟨b, _, _, _, _, _, gb, _⟩ := S.row k n' p' hf'
      refine ⟨_, rfl, u, _, _, _, rfl, rfl, SqT.of hu', atI_nat (j := 1) rfl, ?_⟩
      refine ⟨_, rfl, u, _, _, _, rfl, rfl, SqT.of hu', atI_nat (j := 0) rfl, rfl, _, rfl, ?_⟩
      rw [neV 2 1 (by decide)]
      refine ⟨_, rfl, u, _, _, _, rfl, rfl, SqT.of hu', atI_nat (j := 0) rfl, rfl, _, rfl, ?_⟩
      rw [show decide (V.int 2 = V.int 2) = true from rfl]
      refine ⟨_, rfl, _, rfl, u, _, _, _, rfl, rfl, SqT.of hu', atI_nat (j := 1) rfl, X.Lm, _, _, .ref b, rfl, rfl, SqL.of S.hL, atI_nat (j := k) (by rw [List.getElem?_map, gb]; rfl), _, rfl, u, _, _, _, rfl, rfl, SqT.of hu', atI_nat (j := 2) rfl, fun L dL hL hdL hne => ⟨L, dL, .ref b, r, rfl, upd_same, rfl, ?_⟩⟩
      have s1 : Same H (upd (upd (upd (upd H dL (.own L)) L (.ins X.D dL [])) L (.ins X.D dL (putF "home" (.ref b) []))) L (.ins X.D dL (lF (.ref b) r))) := fun c o e => by
        rw [upd_ne (ne_of_none e hL), upd_ne (ne_of_none e hL), upd_ne (ne_of_none e hL), upd_ne (ne_of_none e hdL)]
        exact e
      have eL : (upd (upd (upd (upd H dL (.own L)) L (.ins X.D dL [])) L (.ins X.D dL (putF "home" (.ref b) []))) L (.ins X.D dL (lF (.ref b) r))) L = some (.ins X.D dL (lF (.ref b) r)) := upd_same
      obtain ⟨H1, e1⟩ : ∃ H1, (upd (upd (upd (upd H dL (.own L)) L (.ins X.D dL [])) L (.ins X.D dL (putF "home" (.ref b) []))) L (.ins X.D dL (lF (.ref b) r))) = H1 := ⟨_, rfl⟩
      rw [e1] at s1 eL ⊢
      have hv : KdR X H1 (.ref L) u := .fn hf' gb eL hr' (s1 _ _ hu')
      have S1 := S.same s1
      obtain ⟨a, d, qa, kvs, mvs, ks, g1, g2, g3, hM, hq, kk1, kk2, kk3, kk4, kk5⟩ := S1.row j n p hf
      obtain ⟨⟨dx, ha⟩, hd⟩ := id hM
      have lks := S.lk kk3 kk4
      have lkv : kvs.length ≤ 20 := by
        have := congrArg List.length kk1
        rw [List.length_map, List.length_map] at this
        omega
      have lmv : mvs.length ≤ 20 := by
        have := congrArg List.length kk2
        rw [List.length_map, List.length_map] at this
        omega
      have atA : atI (X.as.map V.ref) (j : Int) = some (.ref a) := atI_nat (j := j) (by rw [List.getElem?_map, g1]; rfl)
      have atQ : atI (X.qs.map V.ref) (j : Int) = some (.ref qa) := atI_nat (j := j) (by rw [List.getElem?_map, g3]; rfl)
      have ndq : d ≠ qa := (List.nodup_append.mp S.nd).2.2 d (List.mem_of_getElem? g2) qa (List.mem_of_getElem? g3)
      have nl : ∀ (x : List V) m, HO.lst x ≠ .dK m := fun x m y => by cases y
      have k2 : ∀ c o, H1 c = some o → c ≠ d → (upd H1 d (.dK (putK kvs (Sum.inr z : Key) (V.ref L)))) c = some o := fun c o e h => by
        rw [upd_ne h]
        exact e
      refine ⟨_, rfl, _, rfl, X.Lm, _, _, .ref a, rfl, rfl, SqL.of S1.hL, atA, a, dx, _, rfl, ha, mF_no _ _ _ (by decide +kernel) (by decide +kernel) (by decide +kernel), _, rfl, _, rfl, a, d, n, p, z, (V.ref L), kvs, rfl, hM, by omega, ?_⟩
      refine ⟨_, rfl, _, rfl, _, rfl, X.M, _, _, .ref qa, rfl, rfl, SqL.of (k2 _ _ S1.hM (fun y => by have e := S1.hM; rw [y, hd] at e; cases e)), atQ, _, rfl, qa, _, rfl, DPut.k (k := Sum.inr z) (k2 _ _ hq ndq.symm) (small1000 (by omega)), ?_⟩
      have k3 : ∀ c o, H1 c = some o → c ≠ d → c ≠ qa → (upd (upd H1 d (.dK (putK kvs (Sum.inr z : Key) (V.ref L)))) qa (.dK (putK mvs (Sum.inr z : Key) (.ref u)))) c = some o := fun c o e h1 h2 => by
        rw [upd_ne h2]
        exact k2 c o e h1
      have k4 : ∀ c o, H1 c = some o → (∀ m, o ≠ .dK m) → (upd (upd H1 d (.dK (putK kvs (Sum.inr z : Key) (V.ref L)))) qa (.dK (putK mvs (Sum.inr z : Key) (.ref u)))) c = some o := fun c o e h => k3 c o e (fun y => by rw [y, hd] at e; cases e; exact h _ rfl) (fun y => by rw [y, hq] at e; cases e; exact h _ rfl)
      have kt : Kt H1 (upd (upd H1 d (.dK (putK kvs (Sum.inr z : Key) (V.ref L)))) qa (.dK (putK mvs (Sum.inr z : Key) (.ref u)))) := fun c o e hc => k4 c o e fun m y => by
        rw [y] at hc
        rcases hc with ⟨_, hc⟩ | ⟨_, _, _, hc⟩ <;> cases hc
      refine q _ (S1.bind hf g2 g3 hd hq hz k3 (by rw [upd_ne ndq]; exact upd_same) upd_same (hv.kt kt)) ⟨fun c o e h => k4 c o (s1 c o e) h, fun c o e h1 h2 => k3 c o (s1 c o e) (fun y => h1 (y ▸ List.mem_of_getElem? g2)) (fun y => h2 (y ▸ List.mem_of_getElem? g3)), fun i' y' b' => bn_put S1 g2 g3 hq k3 upd_same i' y' (b'.same s1)⟩
end
end D24
set_option maxHeartbeats 4000000
/-! k22: the web of names -/
namespace D24
open PySem PySem.Spec PyProof.Rows L2 HM XW XR K11 XM XSo
abbrev sWb : Stmt := top 28
abbrev nWb : List Str := ["_law_pot_here", "_law_facts_here", "_law_names_here", "_law_modules", "_law_models", "_law_which", "_law_name_here", "_law_fact"]
theorem scWb : FnScope nWb ["_law_pot_here", "_law_facts_here", "_law_names_here", "_law_modules"] (defScope sWb) := ⟨rfl, rfl, rfl, by decide +kernel, rfl, by decide +kernel, by decide +kernel⟩
/-- modules without names -/
structure Pre (C F Lm N : Addr) (fs : List (Int × Str)) (ns : List Str) (as ds : List Addr) (H : Hp) : Prop where
  hF : ∃ xs, H F = some (.lst xs) ∧ RgAll AllA H xs (fsD fs)
  okF : ∀ p ∈ fs, factOk p
  neF : fs ≠ []
  l4 : fs.length ≤ 16
  hN : H N = some (.lst (ns.map V.str))
  okN : ∀ z ∈ ns, nmOk z
  neN : ns ≠ []
  lN : ns.length ≤ 20
  hL : H Lm = some (.lst (as.map V.ref))
  la : as.length = fs.length
  ld : ds.length = fs.length
  nd : ds.Nodup
  na : as.Nodup
  hd : ∀ d ∈ ds, H d = some (.dK [])
  row : ∀ (j : Nat) (n : Int) (p : Str), fs[j]? = some (n, p) → ∃ (a d : Addr), as[j]? = some a ∧ ds[j]? = some d ∧ MdAt C H a n p d []
def spWb (C D : Addr) : Sp := fun vs H Q _ => ∃ (l F Lm N : Addr) (fs : List (Int × Str)) (ns : List Str) (as ds : List Addr), vs = [.ref l, .ref F, .ref N, .ref Lm] ∧ PotAt H l ∧ Pre C F Lm N fs ns as ds H ∧
  ∀ (H' : Hp) (M : Addr) (qs : List Addr), Wh ⟨C, D, F, M, Lm, N, fs, ns, as, ds, qs⟩ H' → PotAt H' l → (∀ q ∈ qs, H q = none) → (∀ c o, H c = some o → c ≠ l → c ∉ ds → H' c = some o) → Q (.ref M) H'
section
variable {P : Program} {w : World} {K : PySem.W.Frag} {mg : Str → Option Value} {base : Heap} {f fD fK fB C D : Addr} {fd fdD fdK fdB : FuncData}
theorem ok_wb (F : FnP K "_law_web" sWb f fd) (GD : FnOk P w K mg base CX0 1 fD fdD DP spDraw) (FD : FnP K "_law_draw" sDraw fD fdD) (gD : mg "_law_draw" = some (.ref fD))
    (GK : FnOk P w K mg base CX0 3 fK fdK ["_law_pot_here", "_law_facts_here", "_law_names_here"] spKd) (FK : FnP K "_law_kind" sKd fK fdK) (gK : mg "_law_kind" = some (.ref fK))
    (GB : FnOk P w K mg base CX0 3 fB fdB ["_law_modules", "_law_models", "_law_which", "_law_name_here", "_law_kind_here"] (spBo C D)) (FB : FnP K "_law_bound" sBo fB fdB) (gB : mg "_law_bound" = some (.ref fB))
    (ml : mg "len" = none) (mr : mg "range" = none) : FnOk P w K mg base CX0 4 f fd ["_law_pot_here", "_law_facts_here", "_law_names_here", "_law_modules"] (spWb C D) := by
  have bD : Binds K fdD DP [] := FD.bindsN fun _ _ _ _ _ _ us hl => match us, hl with | [_, _], _ => rfl
  have bK : Binds K fdK ["_law_pot_here", "_law_facts_here", "_law_names_here"] [] := FK.bindsN fun _ _ _ _ _ _ us hl => match us, hl with | [_, _, _], _ => rfl
  have bB : Binds K fdB ["_law_modules", "_law_models", "_law_which", "_law_name_here", "_law_kind_here"] [] := FB.bindsN fun _ _ _ _ _ _ us hl => match us, hl with | [_, _, _, _, _], _ => rfl
  refine ok_code F scWb (fun vs H Q E h => ?_) (fun cdv A outer s H vs Q E hcd hr h => ?_)
  · obtain ⟨l, F, Lm, N, fs, ns, as, ds, rfl, _⟩ := h
    rfl
  · obtain ⟨l, Fa, Lm, N, fs, ns, as, ds, rfl, hP, S, q⟩ := h
    have hr1 : Room 1 (A.deeper (envOfC "_law_web" (defScope sWb) s.heap.objs.size f cdv)) := hr.mono (by decide)
    refine ⟨_, pss_cons (ps_setLc (i := 4) (own := [("_law_fact", 7)]) (g := gName 7) (tt := tYes) (te := tDNewK) (by rfl) scWb.nd rfl rfl (sw_true rfl rfl rfl (by decide +kernel)) (pi_list (pv 1))
          (blkOk_by (own := [("_law_fact", 7)]) (N := nWb) (sc := defScope sWb) (by decide +kernel)) (fun _ _ _ _ _ => pg_name (i := 7) scWb.nd rfl (.inl rfl)) (fun _ _ _ _ _ => pts_nil) (fun _ _ _ _ _ => pe_dnewK))
      (pss_cons (ps_for PassesOwn.never rfl (pi_range1 (by rfl) mr (pa_cons (pe_callB call_len_seq (by rfl) ml PySem.boot_len (pa_cons (pv 1) pa_nil)) pa_nil)) (pg_name (i := 5) scWb.nd rfl (.inl rfl))
        (pss_one (ps_for PassesOwn.never rfl (pi_list (pv 2)) (pg_name (i := 6) scWb.nd rfl (.inl rfl))
          (pss_one (ps_if (pt_cmpR op_gt (pe_call GD hr1 (by rfl) gD FD.kp bD .nil pass0 (pa_cons (pv 0) (pa_cons pe_int pa_nil))) pe_int (nomark _))
            (pss_one (ps_expr (pe_call GB hr (by rfl) gB FB.kp bB .nil pass0 (pa_cons (pv 3) (pa_cons (pv 4) (pa_cons (pv 5) (pa_cons (pv 6) (pa_cons (pe_call GK hr (by rfl) gK FK.kp bK .nil pass0 (pa_cons (pv 0) (pa_cons (pv 1) (pa_cons (pv 2) pa_nil)))) pa_nil)))))))) pss_nil)))))
      (pss_one (ps_ret (pv 4)))), ?_⟩
    obtain ⟨xs, eF, rF⟩ := S.hF
    have hlx : xs.length = fs.length := by rw [rF.len, List.length_map]
    have h16 := S.l4
    refine ⟨_, rfl, Fa, rfl, ⟨_, SqL.of eF⟩, fun L8 hL8 => ?_⟩
    refine lc_list (xs := xs) (fun i H' => ∃ qs : List Addr, qs.length = i ∧ Same H H' ∧ H' L8 = some (.lst (qs.map V.ref)) ∧ qs.Nodup ∧ ∀ b ∈ qs, H b = none ∧ H' b = some (.dK []))
      ⟨[], rfl, fun c o e => by rw [upd_ne (ne_of_none e hL8)]; exact e, upd_same, List.nodup_nil, fun d hd => (by cases hd)⟩
      (fun i H' _ ⟨_, _, k, _⟩ => SqL.of (k _ _ eF)) ?_ ?_
    · rintro i x H8 hx ⟨qs, lq, k8, eL, nq, hqs⟩
      have hil : i < xs.length := (List.getElem?_eq_some_iff.mp hx).1
      refine ⟨rfl, fun b hb => ?_⟩
      have nb : L8 ≠ b := ne_of_none eL hb
      refine ⟨_, by rw [upd_ne nb]; exact eL, small1000 (by rw [List.length_map]; omega), qs ++ [b], by rw [List.length_append, lq]; rfl, fun c o e => ?_, ?_, ?_, fun c hc => ?_⟩
      · rw [upd_ne (ne_of_none e hL8), upd_ne (ne_of_none (k8 _ _ e) hb)]
        exact k8 _ _ e
      · rw [upd_same, List.map_append]
        rfl
      · rw [List.nodup_append]
        refine ⟨nq, List.nodup_cons.mpr ⟨by simp, List.nodup_nil⟩, fun c hc e he => ?_⟩
        rw [List.mem_singleton.mp he]
        exact ne_of_none (hqs c hc).2 hb
      · rcases List.mem_append.mp hc with z | z
        · refine ⟨(hqs c z).1, ?_⟩
          rw [upd_ne (fun e => by have := (hqs c z).2; rw [e, eL] at this; cases this), upd_ne (ne_of_none (hqs c z).2 hb)]
          exact (hqs c z).2
        · rw [List.mem_singleton.mp z]
          refine ⟨k8.free hb, ?_⟩
          rw [upd_ne nb.symm, upd_same]
    rintro H8 ⟨qs, lq, k8, eL8, nq, hqs⟩
    have S0 : Wh (Pm.mk C D Fa L8 Lm N fs ns as ds qs) H8 := by
      refine ⟨⟨xs, k8 _ _ eF, rF.kq fun c o e _ => k8 _ _ e⟩, S.okF, S.neF, S.l4, k8 _ _ S.hN, S.okN, S.neN, S.lN, k8 _ _ S.hL, eL8, S.la, S.ld, by rw [lq, hlx], ?_, S.na, fun j n p hf => ?_⟩
      · rw [List.nodup_append]
        exact ⟨S.nd, nq, fun b hb c hc => ne_of_none (S.hd b hb) (hqs c hc).1⟩
      · have hf' : fs[j]? = some (n, p) := hf
        have hj : j < xs.length := by rw [hlx]; exact (List.getElem?_eq_some_iff.mp hf').1
        obtain ⟨a', d', g1, g2, ⟨⟨dx', hm⟩, hd'⟩⟩ := S.row j n p hf
        have hjq : j < qs.length := by rw [lq]; exact hj
        refine ⟨a', d', qs[j], [], [], [], g1, g2, List.getElem?_eq_getElem hjq, ⟨⟨dx', k8 _ _ hm⟩, k8 _ _ hd'⟩, (hqs _ (List.getElem_mem hjq)).2, rfl, rfl, List.nodup_nil, fun k hk => (by cases hk), fun z => .inl ⟨rfl, rfl⟩⟩
    have hP8 : PotAt H8 l := by
      obtain ⟨p0, p1, e, k⟩ := hP
      exact ⟨p0, p1, k8 _ _ e, k⟩
    refine ⟨_, rfl, Fa, xs, rfl, .inl (SqL.of (k8 _ _ eF)), _, rfl, by omega, by omega, ?_⟩
    refine for_it (n := (xs.length : Int).toNat) walk_range (fun i σ H' => ∃ v5 v6 : Option V, σ = [some (.ref l), some (.ref Fa), some (.ref N), some (.ref Lm), some (.ref L8), v5, v6, none] ∧ Wh (Pm.mk C D Fa L8 Lm N fs ns as ds qs) H' ∧ PotAt H' l ∧ ∀ c o, H8 c = some o → c ≠ l → c ∉ ds → c ∉ qs → H' c = some o)
      ⟨none, none, rfl, S0, hP8, fun c o e _ _ _ => e⟩ (fun _ _ _ _ _ => trivial) ?_ ?_
    · rintro i x σ H1' H1 hi ⟨v5, v6, rfl, S1, hP1, k1⟩ ⟨rfl, rfl⟩
      have hif : i < fs.length := by omega
      refine ⟨_, rfl, N, rfl, ⟨_, SqL.of S1.hN⟩, ?_⟩
      refine for_it (walk_list (xs := ns.map V.str)) (fun m σ H' => ∃ v6 : Option V, σ = [some (.ref l), some (.ref Fa), some (.ref N), some (.ref Lm), some (.ref L8), some (.int i), v6, none] ∧ Wh (Pm.mk C D Fa L8 Lm N fs ns as ds qs) H' ∧ PotAt H' l ∧ ∀ c o, H8 c = some o → c ≠ l → c ∉ ds → c ∉ qs → H' c = some o)
        ⟨v6, ?_, S1, hP1, k1⟩ (fun m σ H' _ ⟨_, _, S2, _⟩ => SqL.of S2.hN) ?_ ?_
      · show [some (V.ref l), some (V.ref Fa), some (V.ref N), some (V.ref Lm), some (V.ref L8), some (V.int (0 + (i : Int))), v6, none] = _
        rw [Int.zero_add]
      · rintro m x σ H2' H2 hm ⟨v6, rfl, S2, hP2, k2⟩ ⟨rfl, hx⟩
        obtain ⟨z, hz, rfl⟩ : ∃ z, ns[m]? = some z ∧ x = .str z := by
          rw [List.getElem?_map] at hx
          cases e : ns[m]? with
          | none =>
            rw [e] at hx
            cases hx
          | some z =>
            rw [e] at hx
            exact ⟨z, rfl, (Option.some.inj hx).symm⟩
        refine ⟨_, rfl, l, _, pa hP2, pb hP2, rfl, by decide, by decide, ph hP2, pk hP2, fun H3 d c3 hP3 d0 d1 => ⟨_, _, rfl, rfl, _, rfl, ?_⟩⟩
        have S3 := S2.keep hP2 c3
        have k3 : ∀ c o, H8 c = some o → c ≠ l → c ∉ ds → c ∉ qs → H3 c = some o := fun c o e h1 h2 h3 => c3 c o (k2 c o e h1 h2 h3) h1
        by_cases hd : d > 0
        · rw [decide_eq_true hd]
          refine ⟨_, rfl, _, rfl, _, rfl, _, rfl, _, rfl, _, rfl, _, rfl, (Pm.mk C D Fa L8 Lm N fs ns as ds qs), l, rfl, hP3, S3, fun H4 u c4 hP4 hu => ?_⟩
          have S4 := S3.keep hP3 c4
          refine ⟨(Pm.mk C D Fa L8 Lm N fs ns as ds qs), i, z, u, rfl, rfl, rfl, S4, hu, hif, List.mem_of_getElem? hz, fun H5 S5 bd => ?_⟩
          refine ⟨_, rfl, S5, ?_, fun c o e h1 h2 h3 => bd.b c o (c4 c o (k3 c o e h1 h2 h3) h1) h2 h3⟩
          obtain ⟨p0, p1, e, k⟩ := hP4
          exact ⟨p0, p1, bd.a _ _ e (fun m y => by cases y), k⟩
        · rw [decide_eq_false hd]
          exact ⟨_, rfl, S3, hP3, k3⟩
      · rintro σ H2 ⟨v6, rfl, S2, hP2, k2⟩
        exact ⟨_, _, rfl, S2, hP2, k2⟩
    · rintro σ H1 ⟨v5, v6, rfl, S1, hP1, k1⟩
      exact ⟨_, rfl, q H1 L8 qs S1 hP1 (fun b hb => (hqs b hb).1) fun c o e h1 h2 => k1 c o (k8 _ _ e) h1 h2 fun hc => by rw [(hqs c hc).1] at e; cases e⟩
end
end D24
set_option maxHeartbeats 4000000
/-! k22: chains -/
namespace D24
open PySem PySem.Spec PyProof.Rows L2 HM XW XR K11 XM XSo
abbrev sCh : Stmt := top 30
abbrev sHd : Stmt := top 32
theorem scCh : FnScope ["_law_pot_here", "_law_facts_here", "_law_left", "_law_found", "_law_k"] ["_law_pot_here", "_law_facts_here"] (defScope sCh) := ⟨rfl, rfl, rfl, by decide +kernel, rfl, by decide +kernel, by decide +kernel⟩
abbrev nHd : List Str := ["_law_modules", "_law_chain_here", "_law_one", "_law_row"]
theorem scHd : FnScope nHd ["_law_modules", "_law_chain_here"] (defScope sHd) := ⟨rfl, rfl, rfl, by decide +kernel, rfl, by decide +kernel, by decide +kernel⟩
/-- a place of the law's own chain -/
def cD (c : Nat × Int) : PyData := .tuple [.int c.1, .int c.2]
abbrev csD (cs : List (Nat × Int)) : List PyData := cs.map cD
structure CkOk (m : Nat) (cs : List (Nat × Int)) : Prop where
  nd : (cs.map (·.1)).Nodup
  lt : ∀ c ∈ cs, c.1 < m ∧ 0 ≤ c.2 ∧ c.2 < 40
theorem rg_place {Av : Addr → Prop} {H : Hp} {v : V} {c : Nat × Int} (h : Rg Av H v (cD c)) : ∃ x, v = .ref x ∧ H x = some (.tup [.int c.1, .int c.2]) := by
  cases h with
  | tup e r =>
    cases r with
    | cons a r =>
    cases r with
    | cons b r =>
    cases r
    cases a
    cases b
    exact ⟨_, rfl, e⟩
def spCh (K : PySem.W.Frag) : Sp := fun vs H Q _ => ∃ (l F : Addr) (xs : List V), vs = [.ref l, .ref F] ∧ PotAt H l ∧ F ≠ l ∧ H F = some (.lst xs) ∧ 0 < xs.length ∧ xs.length ≤ 16 ∧
  ∀ (H' : Hp) (t : Addr) (ys : List V) (cs : List (Nat × Int)), Ch l H H' → PotAt H' l → H t = none → H' t = some (.lst ys) → RgAll AllA H' ys (csD cs) → CkOk xs.length cs → cs.length ≤ xs.length → Q (.ref t) H'
/-- the chain that is handed in -/
inductive HdR (as : List Addr) (H : Hp) : List V → List (Nat × Int) → Prop
  | nil : HdR as H [] []
  | cons {t a : Addr} {j : Nat} {r : Int} {vs : List V} {cs : List (Nat × Int)} : H t = some (.tup [.ref a, .int r]) → as[j]? = some a → HdR as H vs cs → HdR as H (.ref t :: vs) ((j, r) :: cs)
theorem HdR.kt {as : List Addr} {H H' : Hp} (k : Kt H H') : ∀ {vs : List V} {cs : List (Nat × Int)}, HdR as H vs cs → HdR as H' vs cs
  | _, _, .nil => .nil
  | _, _, .cons h1 h2 h3 => .cons (k _ _ h1 (.inl ⟨_, rfl⟩)) h2 (h3.kt k)
theorem HdR.len {as : List Addr} {H : Hp} : ∀ {vs : List V} {cs : List (Nat × Int)}, HdR as H vs cs → vs.length = cs.length
  | _, _, .nil => rfl
  | _, _, .cons _ _ h => by rw [List.length_cons, List.length_cons, h.len]
theorem HdR.snoc {as : List Addr} {H : Hp} {t a : Addr} {j : Nat} {r : Int} (h1 : H t = some (.tup [.ref a, .int r])) (h2 : as[j]? = some a) : ∀ {vs : List V} {cs : List (Nat × Int)}, HdR as H vs cs → HdR as H (vs ++ [.ref t]) (cs ++ [(j, r)])
  | _, _, .nil => .cons h1 h2 .nil
  | _, _, .cons g1 g2 g => .cons g1 g2 (g.snoc h1 h2)
theorem HdR.drop {as : List Addr} {H : Hp} : ∀ (i : Nat) {vs : List V} {cs : List (Nat × Int)}, HdR as H vs cs → HdR as H (vs.drop i) (cs.drop i)
  | 0, _, _, h => h
  | i + 1, _, _, .nil => .nil
  | i + 1, _, _, .cons _ _ h => h.drop i
theorem HdR.get {as : List Addr} {H : Hp} : ∀ (i : Nat) {vs : List V} {cs : List (Nat × Int)} {v : V}, HdR as H vs cs → vs[i]? = some v → ∃ (t a : Addr) (j : Nat) (r : Int), v = .ref t ∧ cs[i]? = some (j, r) ∧ H t = some (.tup [.ref a, .int r]) ∧ as[j]? = some a
  | _, _, _, _, .nil, h => by cases h
  | 0, _, _, _, .cons h1 h2 _, e => by
    cases e
    exact ⟨_, _, _, _, rfl, rfl, h1, h2⟩
  | i + 1, _, _, _, .cons _ _ h, e => h.get i e
def spHd : Sp := fun vs H Q _ => ∃ (Lm c : Addr) (as : List Addr) (ys : List V) (cs : List (Nat × Int)), vs = [.ref Lm, .ref c] ∧ H Lm = some (.lst (as.map V.ref)) ∧ H c = some (.lst ys) ∧ RgAll AllA H ys (csD cs) ∧ (∀ x ∈ cs, x.1 < as.length) ∧ cs.length ≤ 16 ∧
  ∀ (H' : Hp) (t : Addr) (hs : List V), Same H H' → H t = none → H' t = some (.lst hs) → HdR as H' hs cs → Q (.ref t) H'
section
variable {P : Program} {w : World} {K : PySem.W.Frag} {mg : Str → Option Value} {base : Heap} {f fD : Addr} {fd fdD : FuncData}
theorem erase_map' {α β : Type} (f : α → β) : ∀ (xs : List α) (k : Nat), (xs.map f).eraseIdx k = (xs.eraseIdx k).map f
  | [], _ => rfl
  | x :: xs, 0 => rfl
  | x :: xs, k + 1 => by
    rw [List.map_cons, List.eraseIdx_cons_succ, List.eraseIdx_cons_succ, List.map_cons, erase_map' f xs k]
theorem perm_erase {α : Type} : ∀ (xs : List α) (k : Nat) (h : k < xs.length), (xs[k] :: xs.eraseIdx k).Perm xs
  | [], _, h => absurd h (Nat.not_lt_zero _)
  | x :: xs, 0, _ => List.Perm.refl _
  | x :: xs, k + 1, h => by
    rw [List.eraseIdx_cons_succ, List.getElem_cons_succ]
    exact (List.Perm.swap x _ _).trans (List.Perm.cons x (perm_erase xs k (Nat.lt_of_succ_lt_succ h)))
theorem rg_erase {Av : Addr → Prop} {H : Hp} : ∀ (i : Nat) {vs : List V} {ds : List PyData}, RgAll Av H vs ds → RgAll Av H (vs.eraseIdx i) (ds.eraseIdx i)
  | _, _, _, .nil => .nil
  | 0, _, _, .cons _ r => r
  | i + 1, _, _, .cons h r => .cons h (rg_erase i r)
theorem ok_ch (F : FnP K "_law_chain" sCh f fd) (GD : FnOk P w K mg base CX0 1 fD fdD DP spDraw) (FD : FnP K "_law_draw" sDraw fD fdD) (gD : mg "_law_draw" = some (.ref fD)) (ml : mg "len" = none) (mr : mg "range" = none) (mli : mg "list" = none) :
    FnOk P w K mg base CX0 2 f fd ["_law_pot_here", "_law_facts_here"] (spCh K) := by
  have bD : Binds K fdD DP [] := FD.bindsN fun _ _ _ _ _ _ us hl => match us, hl with | [_, _], _ => rfl
  refine ok_code F scCh (fun vs H Q E h => ?_) (fun cdv A outer s H vs Q E hcd hr h => ?_)
  · obtain ⟨l, F, xs, rfl, _⟩ := h
    rfl
  · obtain ⟨l, Fa, xs, rfl, hP, nF, eF, h0, h16, q⟩ := h
    refine ⟨_, pss_cons (ps_set (i := 2) scCh.nd rfl (.inl rfl) (pe_listRg rfl (by rfl) mli (prg_1 (by rfl) mr (pe_callB call_len_seq (by rfl) ml PySem.boot_len (pa_cons (pv 1) pa_nil)))))
      (pss_cons (ps_set (i := 3) scCh.nd rfl (.inl rfl) (pe_lst pa_nil))
      (pss_cons (ps_for PassesOwn.never rfl (pi_range1 (by rfl) mr (pa_cons (pe_call GD hr (by rfl) gD FD.kp bD .nil pass0 (pa_cons (pv 0) (pa_cons (pe_op op_add (pe_callB call_len_seq (by rfl) ml PySem.boot_len (pa_cons (pv 1) pa_nil)) pe_int) pa_nil))) pa_nil)) (pg_name (i := 4) scCh.nd rfl (.inl rfl))
        (pss_one (ps_expr (pe_bm PySem.F.plainAttrs_list PySem.F.slot_list_append PySem.F.type_list_append mt_append (pv 3) (pa_cons (pe_tup (pa_cons (pe_bm PySem.F.plainAttrs_list PySem.F.slot_list_pop PySem.F.type_list_pop mt_popAt (pv 2) (pa_cons (pe_call GD hr (by rfl) gD FD.kp bD .nil pass0 (pa_cons (pv 0) (pa_cons (pe_callB call_len_seq (by rfl) ml PySem.boot_len (pa_cons (pv 2) pa_nil)) pa_nil))) pa_nil))
          (pa_cons (pe_call GD hr (by rfl) gD FD.kp bD .nil pass0 (pa_cons (pv 0) (pa_cons pe_int pa_nil))) pa_nil))) pa_nil)))))
      (pss_one (ps_ret (pv 3))))), ?_⟩
    refine ⟨_, rfl, Fa, xs, rfl, .inl (SqL.of eF), _, rfl, ⟨by omega, by omega, by omega, by omega, by omega⟩, fun L hL => ?_⟩
    have nLl : L ≠ l := hP.ne hL
    have nLF : Fa ≠ L := ne_of_none eF hL
    have hP1 : PotAt (upd H L (.lst (rgV 0 (xs.length : Nat)))) l := hP.new nLl
    refine ⟨sz (by simp), fun t ht => ?_⟩
    have ntl : t ≠ l := hP1.ne ht
    have hP2 := hP1.new (o := .lst []) ntl
    have c2 : Ch l H (upd (upd H L (.lst (rgV 0 (xs.length : Nat)))) t (.lst [])) := Ch.trans (Ch.new hL) (Ch.new ht)
    have ft : H t = none := Ch.free (Ch.new hL) ht ntl
    have nLt : L ≠ t := ne_of_none upd_same ht
    refine ⟨_, rfl, _, rfl, Fa, xs, rfl, .inl (SqL.of (c2 _ _ eF nF)), _, _, rfl, rfl, l, _, pa hP2, pb hP2, rfl, by omega, ?_, ph hP2, pk hP2, fun H3 d c3 hP3 d0 d1 => ?_⟩
    · have := lg16 (n := xs.length + 1) (by omega) (by omega)
      rw [Int.natCast_add] at this
      exact this
    refine ⟨_, rfl, by omega, by omega, ?_⟩
    have c03 := Ch.trans c2 c3
    have eL3 : H3 L = some (.lst (rgV 0 (xs.length : Nat))) := c3 L _ (by rw [upd_ne nLt]; exact upd_same) nLl
    have hrg : rgV 0 (xs.length : Nat) = (List.range xs.length).map fun (i : Nat) => V.int (i : Int) := by
      unfold rgV
      rw [show ((xs.length : Nat) : Int) - 0 = ((xs.length : Nat) : Int) by omega, Int.toNat_natCast]
      refine List.map_congr_left fun i _ => ?_
      rw [Int.zero_add]
    rw [hrg] at eL3
    refine for_it (n := d.toNat) walk_range (fun i σ H' => ∃ (v4 : Option V) (ls : List Nat) (ys : List V) (cs : List (Nat × Int)), σ = [some (.ref l), some (.ref Fa), some (.ref L), some (.ref t), v4] ∧ (∀ b o, H b = some o → b ≠ l → H' b = some o) ∧ PotAt H' l ∧
        H' L = some (.lst (ls.map fun (i : Nat) => V.int (i : Int))) ∧ H' t = some (.lst ys) ∧ RgAll AllA H' ys (csD cs) ∧ (cs.map (·.1) ++ ls).Nodup ∧ (∀ x ∈ ls, x < xs.length) ∧ (∀ c ∈ cs, c.1 < xs.length ∧ 0 ≤ c.2 ∧ c.2 < 40) ∧ ls.length + i = xs.length ∧ cs.length = i)
      ⟨none, List.range xs.length, [], [], rfl, c03, hP3, eL3, c3 t _ upd_same ntl, .nil, by simpa using List.nodup_range, fun x hx => List.mem_range.mp hx, fun c hc => (by cases hc), by rw [List.length_range]; rfl, rfl⟩ (fun _ _ _ _ _ => trivial) ?_ ?_
    · rintro i x σ H4' H4 hi ⟨v4, ls, ys, cs, rfl, k4, hP4, eL4, et4, rg4, nd4, lt4, ok4, ln4, lc4⟩ ⟨rfl, rfl⟩
      have hll : 0 < ls.length := by omega
      refine ⟨_, rfl, .inl ⟨rfl, _, SqL.of et4⟩, _, rfl, .inl ⟨rfl, _, SqL.of eL4⟩, _, rfl, _, rfl, L, _, rfl, .inl (SqL.of eL4), l, _, pa hP4, pb hP4, rfl, by rw [List.length_map]; omega, by rw [List.length_map]; exact lg16 (by omega) (by omega), ph hP4, pk hP4, fun H5 e c5 hP5 e0 e1 => ?_⟩
      rw [List.length_map] at e1
      obtain ⟨k, rfl⟩ : ∃ k : Nat, e = (k : Int) := ⟨e.toNat, by omega⟩
      have hk : k < ls.length := by omega
      have eL5 := c5 L _ eL4 nLl
      refine ⟨L, _, _, k, .int (ls[k] : Nat), rfl, rfl, eL5, by omega, by omega, ?_, by rw [List.getElem?_map, List.getElem?_eq_getElem hk]; rfl, ?_⟩
      · have := (ixN_seq (n := (ls.map fun (i : Nat) => V.int (i : Int)).length) (i := (k : Int)) (j := k) (by unfold ixN; rw [if_pos (by omega), if_pos (by rw [List.length_map]; omega), Int.toNat_natCast])).1
        exact this
      have hP6 := hP5.new (o := .lst ((ls.map fun (i : Nat) => V.int (i : Int)).eraseIdx k)) nLl
      refine ⟨_, rfl, l, _, pa hP6, pb hP6, rfl, by decide, by decide, ph hP6, pk hP6, fun H7 r c7 hP7 r0 r1 => ?_⟩
      refine ⟨sz (by simp), fun T hT => ?_⟩
      have nTl : T ≠ l := hP7.ne hT
      have et5 := c5 t _ et4 ntl
      have et6 : (upd H5 L (.lst ((ls.map fun (i : Nat) => V.int (i : Int)).eraseIdx k))) t = some (.lst ys) := by rw [upd_ne nLt.symm]; exact et5
      have et7 := c7 t _ et6 ntl
      have eL7 := c7 L _ upd_same nLl
      have et8 : (upd H7 T (.tup [.int (ls[k] : Nat), .int r])) t = some (.lst ys) := by rw [upd_ne (ne_of_none et7 hT)]; exact et7
      refine ⟨t, _, _, rfl, rfl, et8, small1000 (by have := rg4.len; rw [List.length_map] at this; omega), ?_⟩
      have k47 : Kq AllA H4 H7 := ((Kq.ofCh c5 trivial hP4).trans (Kq.put eL5 trivial)).trans (Kq.ofCh c7 trivial hP6)
      have k48 : Kq AllA H4 (upd (upd H7 T (.tup [.int (ls[k] : Nat), .int r])) t (.lst (ys ++ [.ref T]))) := (k47.trans (Kq.new hT)).trans (Kq.put et8 trivial)
      have nTt : T ≠ t := fun z => by rw [z, et7] at hT; cases hT
      have nTL : L ≠ T := ne_of_none eL7 hT
      refine ⟨_, ls.eraseIdx k, ys ++ [.ref T], cs ++ [(ls[k], r)], rfl, ?_, (hP7.new nTl).new ntl, ?_, upd_same, ?_, ?_, ?_, ?_, ?_, by rw [List.length_append, lc4]; rfl⟩
      · intro b o e nb
        have b1 : b ≠ L := ne_of_none e hL
        have b2 : b ≠ t := ne_of_none e ft
        have e7 : H7 b = some o := c7 b o (by rw [upd_ne b1]; exact c5 b o (k4 b o e nb) nb) nb
        rw [upd_ne b2, upd_ne (ne_of_none e7 hT)]
        exact e7
      · rw [upd_ne nLt, upd_ne nTL, eL7, erase_map']
      · have hT2 : Rg AllA (upd (upd H7 T (.tup [.int (ls[k] : Nat), .int r])) t (.lst (ys ++ [.ref T]))) (.ref T) (cD (ls[k], r)) := .tup (by rw [upd_ne nTt]; exact upd_same) (.cons (.int _) (.cons (.int _) .nil))
        have := (rg4.kq k48).snoc hT2
        rw [show csD (cs ++ [(ls[k], r)]) = csD cs ++ [cD (ls[k], r)] by rw [csD, List.map_append]; rfl]
        exact this
      · have hp : (ls[k] :: ls.eraseIdx k).Perm ls := perm_erase ls k hk
        have h1 : (cs.map (·.1) ++ (ls[k] :: ls.eraseIdx k)).Nodup := (List.Perm.append_left _ hp).nodup_iff.mpr nd4
        have e : (cs ++ [(ls[k], r)]).map (·.1) ++ ls.eraseIdx k = cs.map (·.1) ++ (ls[k] :: ls.eraseIdx k) := by
          rw [List.map_append]
          simp
        rw [e]
        exact h1
      · exact fun x hx => lt4 x (List.mem_of_mem_eraseIdx hx)
      · intro c hc
        rcases List.mem_append.mp hc with z | z
        · exact ok4 c z
        · rw [List.mem_singleton.mp z]
          exact ⟨lt4 _ (List.getElem_mem hk), r0, r1⟩
      · rw [List.length_eraseIdx_of_lt hk]
        omega
    · rintro σ H4 ⟨v4, ls, ys, cs, rfl, k4, hP4, eL4, et4, rg4, nd4, lt4, ok4, ln4, lc4⟩
      exact ⟨_, rfl, q H4 t ys cs k4 hP4 ft et4 rg4 ⟨(List.nodup_append.mp nd4).1, ok4⟩ (by omega)⟩
theorem ok_hd (F : FnP K "_law_handed" sHd f fd) : FnOk P w K mg base CX0 1 f fd ["_law_modules", "_law_chain_here"] spHd := by
  refine ok_code F scHd (fun vs H Q E h => ?_) (fun cdv A outer s H vs Q E hcd hr h => ?_)
  · obtain ⟨Lm, c, as, ys, cs, rfl, _⟩ := h
    rfl
  · obtain ⟨Lm, c, as, ys, cs, rfl, eL, ec, rg, hlt, h16, q⟩ := h
    refine ⟨_, pss_one (ps_ret (pe_lc (own := [("_law_one", 2), ("_law_row", 3)]) (g := gTup K 2 (gCons (gName 2) (gCons (gName 3) gNil))) (tt := tYes) (te := tTup (tCons (tOp (rIxL K) (tVar 0) (tVar 2)) (tCons (tVar 3) tNil))) (by rfl) scHd.nd (pi_list (pv 1))
      (blkOk_by (own := [("_law_one", 2), ("_law_row", 3)]) (N := nHd) (sc := defScope sHd) (by decide +kernel)) (fun _ _ _ _ _ => pg_tup (by rfl) (pgs_cons (pg_name (i := 2) scHd.nd rfl (.inl rfl)) (pgs_cons (pg_name (i := 3) scHd.nd rfl (.inl rfl)) pgs_nil))) (fun _ _ _ _ _ => pts_nil)
      (fun _ _ _ _ _ => pe_tup (pa_cons (pe_ix ix_list (pv 0) (pv 2) (fun _ _ => rfl)) (pa_cons (pv 3) pa_nil))))), ?_⟩
    refine ⟨_, rfl, c, rfl, ⟨_, SqL.of ec⟩, fun L hL => ?_⟩
    have hly : ys.length = cs.length := by rw [rg.len, List.length_map]
    refine lc_list (xs := ys) (fun i H' => ∃ hs : List V, Same H H' ∧ H' L = some (.lst hs) ∧ HdR as H' hs (cs.take i)) ⟨[], fun b o e => by rw [upd_ne (ne_of_none e hL)]; exact e, upd_same, .nil⟩ (fun i H' _ ⟨_, k, _⟩ => SqL.of (k _ _ ec)) ?_ ?_
    · rintro i x H1 hx ⟨hs, k1, eL1, hd1⟩
      obtain ⟨dd, hdd, r1⟩ := rg.get i hx
      obtain ⟨⟨j, r⟩, hcj, rfl⟩ : ∃ np, cs[i]? = some np ∧ dd = cD np := by
        rw [List.getElem?_map] at hdd
        cases e : cs[i]? with
        | none =>
          rw [e] at hdd
          cases hdd
        | some np =>
          rw [e] at hdd
          exact ⟨np, rfl, (Option.some.inj hdd).symm⟩
      obtain ⟨xa, rfl, hxa⟩ := rg_place r1
      have hja : j < as.length := hlt _ (List.mem_of_getElem? hcj)
      have hic : i < cs.length := (List.getElem?_eq_some_iff.mp hcj).1
      refine ⟨xa, _, rfl, SqT.of (k1 _ _ hxa), rfl, _, _, rfl, _, _, rfl, rfl, rfl, _, rfl, _, rfl, Lm, _, _, .ref as[j], rfl, rfl, SqL.of (k1 _ _ eL), atI_nat (j := j) (by rw [List.getElem?_map, List.getElem?_eq_getElem hja]; rfl), _, rfl, sz (by simp), fun T hT => ?_⟩
      have eL2 : (upd H1 T (.tup [.ref as[j], .int r])) L = some (.lst hs) := by rw [upd_ne (ne_of_none eL1 hT)]; exact eL1
      have nTL : T ≠ L := (ne_of_none eL1 hT).symm
      have lh := hd1.len
      rw [List.length_take] at lh
      refine ⟨_, eL2, small1000 (by omega), hs ++ [.ref T], fun b o e => ?_, upd_same, ?_⟩
      · rw [upd_ne (ne_of_none e hL), upd_ne (ne_of_none (k1 _ _ e) hT)]
        exact k1 _ _ e
      · rw [take_snoc hcj]
        have kt : Kt H1 (upd (upd H1 T (.tup [.ref as[j], .int r])) L (.lst (hs ++ [.ref T]))) := fun b o e hc => by
          rw [upd_ne (fun z => by rw [z, eL1] at e; cases e; rcases hc with ⟨_, hc⟩ | ⟨_, _, _, hc⟩ <;> cases hc), upd_ne (ne_of_none e hT)]
          exact e
        exact (hd1.kt kt).snoc (by rw [upd_ne nTL]; exact upd_same) (List.getElem?_eq_getElem hja)
    · rintro H1 ⟨hs, k1, eL1, hd1⟩
      rw [hly, List.take_length] at hd1
      exact q H1 L hs k1 hL eL1 hd1
end
end D24
set_option maxHeartbeats 4000000
/-! k22: places, ring_of -/
namespace D24
open PySem PySem.Spec PyProof.Rows L2 HM XW XR K11 XM XSo
abbrev sPl : Stmt := top 10
abbrev sRi : Stmt := top 11
abbrev nPl : List Str := ["chain", "module", "row"]
theorem scPl : FnScope nPl ["chain"] (defScope sPl) := ⟨rfl, rfl, rfl, by decide +kernel, rfl, by decide +kernel, by decide +kernel⟩
theorem scRi : FnScope ["module", "chain", "at", "waiting", "row"] ["module", "chain"] (defScope sRi) := ⟨rfl, rfl, rfl, by decide +kernel, rfl, by decide +kernel, by decide +kernel⟩
/-- a place as it is told -/
def pO (fs : List (Int × Str)) (c : Nat × Int) : PyData := .tuple [.str ((fs[c.1]?.map (·.2)).getD (Str.ofString "")), .int c.2]
abbrev plD (fs : List (Int × Str)) (cs : List (Nat × Int)) : List PyData := cs.map (pO fs)
theorem pO_of {fs : List (Int × Str)} {j : Nat} {n r : Int} {p : Str} (h : fs[j]? = some (n, p)) : pO fs (j, r) = .tuple [.str p, .int r] := by
  unfold pO
  show PyData.tuple [.str ((fs[j]?.map (·.2)).getD (Str.ofString "")), .int r] = _
  rw [h]
  rfl
def rng (cs : List (Nat × Int)) (j : Nat) : List (Nat × Int) := cs.dropWhile fun c => !decide (c.1 = j)
theorem rng_at {j : Nat} : ∀ {cs : List (Nat × Int)} {i : Nat} {r : Int}, (∀ c ∈ cs.take i, c.1 ≠ j) → cs[i]? = some (j, r) → rng cs j = cs.drop i
  | [], _, _, _, e => by cases e
  | c :: cs, 0, r, _, e => by
    have e1 : c = (j, r) := Option.some.inj e
    subst e1
    unfold rng
    rw [List.dropWhile_cons_of_neg (by simp)]
    rfl
  | c :: cs, i + 1, r, h, e => by
    have h1 : c.1 ≠ j := h c (by simp)
    have := rng_at (cs := cs) (i := i) (r := r) (fun x hx => h x (by rw [List.take_succ_cons]; exact List.mem_cons_of_mem _ hx)) e
    unfold rng at this ⊢
    rw [List.dropWhile_cons_of_pos (by simp [h1]), this]
    rfl
theorem rng_no {j : Nat} : ∀ {cs : List (Nat × Int)}, (∀ c ∈ cs, c.1 ≠ j) → rng cs j = []
  | [], _ => rfl
  | c :: cs, h => by
    have h1 : c.1 ≠ j := h c List.mem_cons_self
    have := rng_no (cs := cs) (j := j) fun x hx => h x (List.mem_cons_of_mem _ hx)
    unfold rng at this ⊢
    rw [List.dropWhile_cons_of_pos (by simp [h1]), this]
def spPl (C : Addr) : Sp := fun vs H Q _ => ∃ (X : Pm) (c : Addr) (hs : List V) (cs : List (Nat × Int)), X.C = C ∧ vs = [.ref c] ∧ Wh X H ∧ H c = some (.lst hs) ∧ HdR X.as H hs cs ∧ (∀ x ∈ cs, x.1 < X.fs.length) ∧ cs.length ≤ 16 ∧
  ∀ (H' : Hp) (t : Addr) (ys : List V), Same H H' → H t = none → H' t = some (.lst ys) → RgAll AllA H' ys (plD X.fs cs) → Q (.ref t) H'
def spRi (C : Addr) : Sp := fun vs H Q _ => ∃ (X : Pm) (a c : Addr) (j : Nat) (hs : List V) (cs : List (Nat × Int)), X.C = C ∧ vs = [.ref a, .ref c] ∧ Wh X H ∧ X.as[j]? = some a ∧ H c = some (.lst hs) ∧ HdR X.as H hs cs ∧ (∀ x ∈ cs, x.1 < X.fs.length) ∧ cs.length ≤ 16 ∧
  ∀ (H' : Hp) (t : Addr) (ys : List V), Same H H' → H' t = some (.tup ys) → RgAll AllA H' ys (plD X.fs (rng cs j)) → Q (.ref t) H'
theorem cut_drop {xs : List V} {i : Nat} (h : i ≤ xs.length) : cutV xs (some (i : Int)) none = xs.drop i := by
  unfold cutV
  have e : HT.sIx xs.length 0 (some (i : Int)) = i := by
    rw [HT.sIx_nat]
    omega
  rw [e, HT.sIx_none, List.take_of_length_le (by rw [List.length_drop]; omega)]
section
variable {P : Program} {w : World} {K : PySem.W.Frag} {mg : Str → Option Value} {base : Heap} {f fL C D : Addr} {fd fdL : FuncData}
theorem ok_pl (F : FnP K "places" sPl f fd) (T : ClT K mg C D) : FnOk P w K mg base CX0 1 f fd ["chain"] (spPl C) := by
  refine ok_code F scPl (fun vs H Q E h => ?_) (fun cdv A outer s H vs Q E hcd hr h => ?_)
  · obtain ⟨X, c, hs, cs, _, rfl, _⟩ := h
    rfl
  · obtain ⟨X, c, hs, cs, hC, rfl, S, ec, hd, hlt, h16, q⟩ := h
    subst hC
    refine ⟨_, pss_one (ps_ret (pe_lc (own := [("module", 1), ("row", 2)]) (g := gTup K 2 (gCons (gName 1) (gCons (gName 2) gNil))) (tt := tYes) (by rfl) scPl.nd (pi_list (pv 0))
      (blkOk_by (own := [("module", 1), ("row", 2)]) (N := nPl) (sc := defScope sPl) (by decide +kernel)) (fun _ _ _ _ _ => pg_tup (by rfl) (pgs_cons (pg_name (i := 1) scPl.nd rfl (.inl rfl)) (pgs_cons (pg_name (i := 2) scPl.nd rfl (.inl rfl)) pgs_nil))) (fun _ _ _ _ _ => pts_nil)
      (te := tTup (tCons (tFld K (tVar 1) "path") (tCons (tVar 2) tNil))) (fun _ _ _ _ _ => pe_tup (pa_cons (pe_fld (pv 1) rfl) (pa_cons (pv 2) pa_nil))))), ?_⟩
    refine ⟨_, rfl, c, rfl, ⟨_, SqL.of ec⟩, fun L hL => ?_⟩
    have hly := hd.len
    refine lc_list (xs := hs) (fun i H' => ∃ ys : List V, Same H H' ∧ H' L = some (.lst ys) ∧ RgAll AllA H' ys (plD X.fs (cs.take i))) ⟨[], fun b o e => by rw [upd_ne (ne_of_none e hL)]; exact e, upd_same, .nil⟩ (fun i H' _ ⟨_, k, _⟩ => SqL.of (k _ _ ec)) ?_ ?_
    · rintro i x H1 hx ⟨ys, k1, eL1, r1⟩
      obtain ⟨t, a, j, r, rfl, hcj, ht, haj⟩ := hd.get i hx
      have hjf : j < X.fs.length := hlt _ (List.mem_of_getElem? hcj)
      obtain ⟨⟨n, p⟩, hf⟩ : ∃ np, X.fs[j]? = some np := ⟨_, List.getElem?_eq_getElem hjf⟩
      obtain ⟨a', d, qa, kvs, mvs, ks, g1, g2, g3, ⟨⟨dx, hm⟩, hdd⟩, _⟩ := S.row j n p hf
      rw [haj] at g1
      cases g1
      have hic : i < cs.length := (List.getElem?_eq_some_iff.mp hcj).1
      refine ⟨t, _, rfl, SqT.of (k1 _ _ ht), rfl, _, _, rfl, _, _, rfl, rfl, rfl, _, rfl, a, X.C, dx, _, _, rfl, k1 _ _ hm, T.c1.cl, T.n2, mF_p _ _ _, _, rfl, sz (by simp), fun T' hT => ?_⟩
      have eL2 : (upd H1 T' (.tup [.str p, .int r])) L = some (.lst ys) := by rw [upd_ne (ne_of_none eL1 hT)]; exact eL1
      have nTL : T' ≠ L := (ne_of_none eL1 hT).symm
      have ly := r1.len
      rw [List.length_map, List.length_take] at ly
      refine ⟨_, eL2, small1000 (by omega), ys ++ [.ref T'], fun b o e => ?_, upd_same, ?_⟩
      · rw [upd_ne (ne_of_none e hL), upd_ne (ne_of_none (k1 _ _ e) hT)]
        exact k1 _ _ e
      · rw [take_snoc hcj, plD, List.map_append]
        have kq : Kq AllA H1 (upd (upd H1 T' (.tup [.str p, .int r])) L (.lst (ys ++ [.ref T']))) := (Kq.new hT).trans (Kq.put eL2 trivial)
        refine (r1.kq kq).snoc ?_
        rw [pO_of hf]
        exact .tup (by rw [upd_ne nTL]; exact upd_same) (.cons (.str _) (.cons (.int _) .nil))
    · rintro H1 ⟨ys, k1, eL1, r1⟩
      rw [hly, List.take_length] at r1
      exact q H1 L ys k1 hL eL1 r1
theorem ok_ri (F : FnP K "ring_of" sRi f fd) (ec : XQ.EqC K C) (GL : FnOk P w K mg base CX0 1 fL fdL ["chain"] (spPl C)) (FL : FnP K "places" sPl fL fdL) (gL : mg "places" = some (.ref fL)) (me : mg "enumerate" = none) (mt : mg "tuple" = none) : FnOk P w K mg base CX0 2 f fd ["module", "chain"] (spRi C) := by
  have bL : Binds K fdL ["chain"] [] := FL.bindsN fun _ _ _ _ _ _ us hl => match us, hl with | [_], _ => rfl
  refine ok_code F scRi (fun vs H Q E h => ?_) (fun cdv A outer s H vs Q E hcd hr h => ?_)
  · obtain ⟨X, a, c, j, hs, cs, _, rfl, _⟩ := h
    rfl
  · obtain ⟨X, a, c, j, hs, cs, hC, rfl, S, haj, ecc, hd, hlt, h16, q⟩ := h
    subst hC
    refine ⟨_, pss_cons (ps_for PassesOwn.never rfl (pi_enum (by rfl) me (pa_cons (pv 1) pa_nil)) (pg_tup (by rfl) (pgs_cons (pg_name (i := 2) scRi.nd rfl (.inl rfl)) (pgs_cons (pg_tup (by rfl) (pgs_cons (pg_name (i := 3) scRi.nd rfl (.inl rfl)) (pgs_cons (pg_name (i := 4) scRi.nd rfl (.inl rfl)) pgs_nil))) pgs_nil)))
        (pss_one (ps_if (pt_cmpR (XQ.op_eqI hr.units) (pv 3) (pv 0) (nomark _)) (pss_one (ps_ret (pe_callTy call_tuple_of (by rfl) mt (by decide +kernel) (pa_cons (pe_call GL hr (by rfl) gL FL.kp bL .nil pass0 (pa_cons (pe_slice sl_list (pv 1) (po_some (pv 2)) po_none) pa_nil)) pa_nil)))) pss_nil)))
      (pss_one (ps_ret (pe_tup pa_nil))), ?_⟩
    have hly := hd.len
    refine ⟨_, rfl, c, hs, rfl, SqL.of ecc, ?_⟩
    refine for_it (walk_enum (xs := hs)) (fun i σ H' => ∃ v2 v3 v4 : Option V, σ = [some (.ref a), some (.ref c), v2, v3, v4] ∧ Same H H' ∧ ∀ x ∈ cs.take i, x.1 ≠ j) ⟨none, none, none, rfl, Same.refl H, fun x hx => (by cases hx)⟩ (fun i σ H' _ ⟨_, _, _, _, k, _⟩ => SqL.of (k _ _ ecc)) ?_ ?_
    · rintro i u σ H1 H2 hi ⟨v2, v3, v4, rfl, k1, no⟩ ⟨T', x, y, rfl, hT, rfl, ex, ey⟩
      cases ex
      obtain ⟨t, a1, j1, r, rfl, hcj, ht, haj1⟩ := hd.get i ey
      have sT : Same H (upd H1 T' (.tup [.int (i : Nat), .ref t])) := fun b o e => by rw [upd_ne (ne_of_none (k1 _ _ e) hT)]; exact k1 _ _ e
      have hjf : j1 < X.fs.length := hlt _ (List.mem_of_getElem? hcj)
      obtain ⟨⟨n, p⟩, hf⟩ : ∃ np, X.fs[j1]? = some np := ⟨_, List.getElem?_eq_getElem hjf⟩
      obtain ⟨a', _, _, _, _, _, g1, _, _, ⟨⟨dx, hm⟩, _⟩, _⟩ := S.row j1 n p hf
      rw [haj1] at g1
      cases g1
      have hj0 : j < X.fs.length := by rw [← S.la]; exact (List.getElem?_eq_some_iff.mp haj).1
      obtain ⟨⟨n0, p0⟩, hf0⟩ : ∃ np, X.fs[j]? = some np := ⟨_, List.getElem?_eq_getElem hj0⟩
      obtain ⟨a'', _, _, _, _, _, g1, _, _, ⟨⟨dx0, hm0⟩, _⟩, _⟩ := S.row j n0 p0 hf0
      rw [haj] at g1
      cases g1
      refine ⟨T', _, rfl, SqT.of upd_same, rfl, _, _, rfl, _, _, rfl, t, _, rfl, SqT.of (sT _ _ ht), rfl, _, _, rfl, _, _, rfl, rfl, rfl, ?_⟩
      obtain ⟨H2, e2⟩ : ∃ H2, upd H1 T' (.tup [.int (i : Nat), .ref t]) = H2 := ⟨_, rfl⟩
      rw [e2] at sT ⊢
      refine ⟨_, rfl, _, rfl, a1, a, X.C, dx, _, dx0, _, rfl, rfl, sT _ _ hm, sT _ _ hm0, ec, _, rfl, ?_⟩
      by_cases haa : a1 = a
      · rw [decide_eq_true haa]
        subst haa
        have hjj : j1 = j := (List.getElem?_inj (by rw [S.la]; exact hjf) S.na).mp (by rw [haj1, haj])
        subst hjj
        have hil : i ≤ hs.length := by omega
        refine ⟨_, rfl, _, rfl, _, rfl, c, hs, rfl, SqL.of (sT _ _ ecc), fun L hL => ?_⟩
        have sL : Same H2 (upd H2 L (.lst (cutV hs (some (i : Int)) none))) := fun b o e => by rw [upd_ne (ne_of_none e hL)]; exact e
        rw [cut_drop hil] at sL ⊢
        refine ⟨X, L, hs.drop i, cs.drop i, rfl, rfl, S.same (sT.trans sL), upd_same, (hd.kt (kt_same (sT.trans sL))).drop i, fun x hx => hlt x (List.mem_of_mem_drop hx), by rw [List.length_drop]; omega, fun H3 t3 ys s3 ht3 e3 r3 => ?_⟩
        refine ⟨t3, ys, rfl, .inl ⟨SqL.of e3, fun T3 hT3 => ?_⟩⟩
        refine q _ T3 ys ?_ upd_same ?_
        · exact fun b o e => by rw [upd_ne (ne_of_none (s3 _ _ (sL _ _ (sT _ _ e))) hT3)]; exact s3 _ _ (sL _ _ (sT _ _ e))
        · rw [rng_at no hcj]
          exact r3.kq (Kq.new hT3)
      · rw [decide_eq_false haa]
        refine ⟨_, _, _, rfl, sT, ?_⟩
        rw [take_snoc hcj]
        intro x hx
        rcases List.mem_append.mp hx with z | z
        · exact no x z
        · rw [List.mem_singleton.mp z]
          exact fun e => haa (by
            have e2 : j1 = j := e
            rw [e2, haj] at haj1
            exact (Option.some.inj haj1).symm)
    · rintro σ H1 ⟨v2, v3, v4, rfl, k1, no⟩
      rw [hly, List.take_length] at no
      refine ⟨sz (by simp), fun T' hT => q _ T' [] (fun b o e => by rw [upd_ne (ne_of_none (k1 _ _ e) hT)]; exact k1 _ _ e) upd_same ?_⟩
      rw [rng_no no]
      exact .nil
end
end D24
set_option maxHeartbeats 4000000
/-! k22: Fault, look -/
namespace D24
open PySem PySem.Spec PyProof.Rows L2 HM XW XR K11 XM XSo XV XS NdefX
/-- a class's first statement -/
def clsFirst : Stmt → Stmt
  | .ClassDef _ _ _ (b :: _) _ _ _ _ _ _ _ => b
  | s => s
abbrev sInitF : Stmt := clsFirst (top 2)
abbrev nfF (cl : List (Str × Addr)) (c : Addr) : NF := ⟨"__init__", "Fault.__init__", defArgs sInitF, defBody sInitF, defScope sInitF, cl, c⟩
theorem nsF : NScope ["self", "fault", "__class__"] ["self", "fault"] ["__class__"] (defScope sInitF) := nscope_by (by decide +kernel)
abbrev pr : Program := PySem.Challenge.pw_halfmade_k24_whole_asked_late
/-- Fault(fault): the fault is kept -/
def spIF (K : PySem.W.Frag) (C : Addr) : Sp := fun vs H Q _ => ∃ (a p : Addr) (d : PyData), vs = [.ref a, .ref p] ∧ H a = some (exo a C none) ∧ Dp K H (.ref p) d ∧ SmD 10000 d ∧
  ∀ dx, H dx = none → dx ≠ a → Q .non (upd (upd H dx (exd dx [("fault", .ref p)])) a (exo a C (some dx)))
section
variable {w : World} {K : PySem.W.Frag} {mg : Str → Option Value} {base : Heap} {f C : Addr} {fd : FuncData} {cl : List (Str × Addr)} {c : Addr}
theorem ok_iF (T : SupC K C) (FF : SupF K pr C f (nfF cl c) fd) (no : PySem.W.findIn K (.ref C) "fault" = some none) (msu : mg "super" = none) : FnG pr w K mg base CX0 1 f fd ["self", "fault"] (spIF K C) := by
  refine okSup (k := 0) (px := ["fault"]) T FF rfl nsF rfl rfl rfl rfl msu (by decide +kernel) (fun vs H Q E h => ?_) (fun L => ⟨_, rfl⟩) (fun env => rfl) (fun L => rfl) (fun L => rfl) (fun A outer s H vs Q E hr hg h => ?_)
  · obtain ⟨a, p, d, rfl, _⟩ := h
    rfl
  · obtain ⟨a, p, d, rfl, ha, hd, sm, q⟩ := h
    refine ⟨a, _, _, _, rfl, pe_joined (.cons pe_str (.cons (pe_fmtD hr hg (pv 1)) .nil)), pss_one (ps_ost (pv 0) (pv 1)), ha, ?_⟩
    have hl := sm.len
    have e6 : (Str.ofString "fault ").length = 6 := by decide +kernel
    have e0 : Str.empty.length = 0 := rfl
    refine ⟨_, rfl, ?_, _, rfl, p, d, rfl, hd, sm, _, rfl, ?_, ha, _, rfl, _, rfl, a, C, rfl, T.oex, no, .inl ⟨ha, fun dx h1 h2 => q dx h1 h2⟩⟩
    · rw [strLen_append, e6, e0, sizeLine_eq]
      omega
    · rw [strLen_append, strLen_append, e6, e0, sizeLine_eq]
      omega
end
structure InF (K : PySem.W.Frag) (mg : Str → Option Value) (C f : Addr) : Prop where
  glo : mg "Fault" = some (.ref C)
  fi : PySem.W.findIn K (.ref C) "__init__" = some (some (.ref f))
  ty : PySem.W.typeIn K (.ref f) = some (.type "function")
  sc : SupC K C
  no1 : PySem.W.findIn K (.ref C) "fault" = some none
  xf : XfC K C
abbrev hF (H : Hp) (a dx C p : Addr) : Hp := upd (upd (upd H a (exo a C none)) dx (exd dx [("fault", .ref p)])) a (exo a C (some dx))
section
variable {H : Hp} {a dx l C p : Addr} {fs : List (Str × V)}
theorem same_hF (h1 : H a = none) (h2 : upd H a (exo a C none) dx = none) : Same H (hF H a dx C p) := fun b u e => by
  have n1 : b ≠ a := ne_of_none e h1
  have n2 : b ≠ dx := ne_of_none (show upd H a (exo a C none) b = some u by rw [upd_ne n1]; exact e) h2
  show upd (upd (upd H a (exo a C none)) dx _) a _ b = _
  rw [upd_ne n1, upd_ne n2, upd_ne n1]
  exact e
theorem hF_a : hF H a dx C p a = some (exo a C (some dx)) := upd_same
theorem hF_d (n : dx ≠ a) : hF H a dx C p dx = some (exd dx [("fault", .ref p)]) := by
  show upd (upd (upd H a (exo a C none)) dx _) a _ dx = _
  rw [upd_ne n, upd_same]
theorem same_go {H1 H2 : Hp} (s : Same H1 H2) (h1 : H1 a = none) (h2 : H1 dx = none) : Same H1 (upd (del H2 a) dx (.xd fs)) := fun b u e => by
  rw [upd_ne (ne_of_none e h2), del_ne (ne_of_none e h1)]
  exact s b u e
theorem dx_none (h2 : upd H a (exo a C none) dx = none) (h3 : dx ≠ a) : H dx = none := by
  rw [upd_ne h3] at h2
  exact h2
end
/-- a path by its place -/
def pathO (fs : List (Int × Str)) (j : Nat) : Str := (fs[j]?.map (·.2)).getD (Str.ofString "")
theorem pathO_of {fs : List (Int × Str)} {j : Nat} {n : Int} {p : Str} (h : fs[j]? = some (n, p)) : pathO fs j = p := by
  unfold pathO
  rw [h]
  rfl
/-- the fault where a name isn't there -/
def fltD (fs : List (Int × Str)) (cs : List (Nat × Int)) (j : Nat) (z : Str) : PyData :=
  if rng cs j = [] then .tuple [.str "NONAME", .str (pathO fs j), .str z] else .tuple [.str "HALF", .str (pathO fs j), .str z, .tuple (plD fs (rng cs j))]
theorem SmX.smD {d : PyData} {n b : Nat} (h : SmX d n b) (hn : n ≤ 60) (hb : b ≤ 10000) : SmD 10000 d := ⟨h.sh, h.nd, Nat.le_trans h.dp hn, h.lv, Nat.le_trans h.bk hb⟩
theorem sm_pl {fs : List (Int × Str)} (hF : ∀ p ∈ fs, factOk p) : ∀ {cs : List (Nat × Int)}, (∀ c ∈ cs, c.1 < fs.length ∧ 0 ≤ c.2 ∧ c.2 < 40) → SmA (plD fs cs) 1 (125 * cs.length)
  | [], _ => SmA.nil
  | (j, r) :: cs, h => by
    obtain ⟨h1, h2, h3⟩ := h _ List.mem_cons_self
    obtain ⟨⟨n, p⟩, hf⟩ : ∃ np, fs[j]? = some np := ⟨_, List.getElem?_eq_getElem h1⟩
    have ok := (hF _ (List.mem_of_getElem? hf)).2.2
    have hr : r.natAbs < 10 ^ 60 := by
      have : (10 : Nat) ^ 60 = 1000000000000000000000000000000000000000000000000000000000000 := by decide +kernel
      have h2' : 0 ≤ r := h2
      have h3' : r < 40 := h3
      omega
    have ih := sm_pl hF (cs := cs) fun c hc => h c (List.mem_cons_of_mem _ hc)
    have one : SmX (pO fs (j, r)) 1 124 := by
      rw [pO_of hf]
      exact (SmA.tup (n := 0) (SmA.cons (sm_str (asc_pt ok) (XT2.good_pt ok).2) (SmA.cons (sm_int hr) SmA.nil))).mono (by decide) (by decide)
    exact (SmA.cons one ih).mono (Nat.le_refl _) (by rw [List.length_cons]; omega)
theorem rng_sub {cs : List (Nat × Int)} {j : Nat} : ∀ c ∈ rng cs j, c ∈ cs := fun c hc => List.dropWhile_sublist _ |>.mem hc
theorem rng_len (cs : List (Nat × Int)) (j : Nat) : (rng cs j).length ≤ cs.length := (List.dropWhile_sublist _).length_le
theorem sm_flt {fs : List (Int × Str)} {cs : List (Nat × Int)} {j : Nat} {z : Str} (hF : ∀ p ∈ fs, factOk p) (hj : j < fs.length) (hz : nmOk z) (ok : ∀ c ∈ cs, c.1 < fs.length ∧ 0 ≤ c.2 ∧ c.2 < 40) (h16 : cs.length ≤ 16) : SmX (fltD fs cs j z) 3 3000 := by
  obtain ⟨⟨n, p⟩, hf⟩ : ∃ np, fs[j]? = some np := ⟨_, List.getElem?_eq_getElem hj⟩
  have okp := (hF _ (List.mem_of_getElem? hf)).2.2
  have sp : ∀ {m : Nat}, SmX (.str (pathO fs j)) m 61 := fun {m} => by
    rw [pathO_of hf]
    exact sm_str (asc_pt okp) (XT2.good_pt okp).2
  have sz' : ∀ {m : Nat}, SmX (.str z) m 61 := sm_str (asc_nm hz) (XT2.good_nm hz).2
  unfold fltD
  split
  · exact (SmA.tup (n := 0) (SmA.cons (sm_str (by unfold ascS; decide +kernel) (by decide +kernel)) (SmA.cons sp (SmA.cons sz' SmA.nil)))).mono (by decide) (by decide)
  · have hl := rng_len cs j
    have a := sm_pl hF (cs := rng cs j) fun c hc => ok c (rng_sub c hc)
    exact (SmA.tup (n := 2) (SmA.cons (sm_str (by unfold ascS; decide +kernel) (by decide +kernel)) (SmA.cons sp (SmA.cons sz' (SmA.cons (SmA.tup (n := 1) a) SmA.nil))))).mono (by decide) (by omega)
mutual
theorem Rg_dp {K : PySem.W.Frag} {Av : Addr → Prop} {H : Hp} : ∀ {v : V} {d : PyData}, Rg Av H v d → d.hasDict = false → Dp K H v d
  | _, _, .non, _ => .non
  | _, _, .bl b, _ => .bl b
  | _, _, .int i, _ => .int i
  | _, _, .str x, _ => .str x
  | _, _, .lst _ h r, s => .lst (SqL.of h) (Rg_dpAll r (by rw [PyData.hasDict] at s; exact s))
  | _, _, .tup h r, s => .tup (SqT.of h) (Rg_dpAll r (by rw [PyData.hasDict] at s; exact s))
  | _, _, .dct _ h, s => by rw [PyData.hasDict] at s; cases s
theorem Rg_dpAll {K : PySem.W.Frag} {Av : Addr → Prop} {H : Hp} : ∀ {vs : List V} {ds : List PyData}, RgAll Av H vs ds → PyData.hasDictAll ds = false → DpAll K H vs ds
  | _, _, .nil, _ => .nil
  | _, _, .cons h r, s => by
    rw [PyData.hasDictAll, Bool.or_eq_false_iff] at s
    exact .cons (Rg_dp h s.1) (Rg_dpAll r s.2)
end
abbrev sLk : Stmt := top 12
theorem scLk : FnScope ["module", "name", "chain", "ring"] ["module", "name", "chain"] (defScope sLk) := ⟨rfl, rfl, rfl, by decide +kernel, rfl, by decide +kernel, by decide +kernel⟩
def spLk (C CF : Addr) : Sp := fun vs H Q E => ∃ (X : Pm) (a c d : Addr) (j : Nat) (n : Int) (p z : Str) (kvs : List (Key × V)) (hs : List V) (cs : List (Nat × Int)), X.C = C ∧ vs = [.ref a, .str z, .ref c] ∧ Wh X H ∧ X.fs[j]? = some (n, p) ∧ X.as[j]? = some a ∧ MdAt C H a n p d kvs ∧
  H c = some (.lst hs) ∧ HdR X.as H hs cs ∧ CkOk X.fs.length cs ∧ cs.length ≤ 16 ∧ nmOk z ∧
  ((∃ v, valV kvs (Sum.inr z : Key) = some v ∧ Q v H) ∨ (valV kvs (Sum.inr z : Key) = none ∧ ∀ (H' : Hp) (dx Fp : Addr), Same H H' → H' dx = some (.xd [("fault", .ref Fp)]) → Rg AllA H' (.ref Fp) (fltD X.fs cs j z) → E (.ref CF) (some dx) H'))
section
variable {w : World} {K : PySem.W.Frag} {mg : Str → Option Value} {base : Heap} {f fH fG fR fF C D CF : Addr} {fd fdH fdG fdR fdF : FuncData}
theorem ok_lk (F : FnP K "look" sLk f fd) (T : ClT K mg C D) (GH : FnOk pr w K mg base CX0 1 fH fdH ["self", "name"] (spMH C)) (mH : Meth K C "has" fH) (bH : Binds K fdH ["self", "name"] [])
    (GG : FnOk pr w K mg base CX0 1 fG fdG ["self", "name"] (spMT C)) (mG : Meth K C "thing_of" fG) (bG : Binds K fdG ["self", "name"] [])
    (GR : FnOk pr w K mg base CX0 2 fR fdR ["module", "chain"] (spRi C)) (FR : FnP K "ring_of" sRi fR fdR) (gR : mg "ring_of" = some (.ref fR))
    (IF : InF K mg CF fF) (GF : FnG pr w K mg base CX0 1 fF fdF ["self", "fault"] (spIF K CF)) (bF : Binds K fdF ["self", "fault"] []) : FnG pr w K mg base (L2N.CX pr w) 3 f fd ["module", "name", "chain"] (spLk C CF) := by
  have bR : Binds K fdR ["module", "chain"] [] := FR.bindsN fun _ _ _ _ _ _ us hl => match us, hl with | [_, _], _ => rfl
  refine okG F scLk (fun vs H Q E h => ?_) (fun cdv A outer s H vs Q E hcd hr hgd h => ?_)
  · obtain ⟨X, a, c, d, j, n, p, z, kvs, hs, cs, _, rfl, _⟩ := h
    rfl
  · obtain ⟨X, a, c, d, j, n, p, z, kvs, hs, cs, hC, rfl, S, hf, haj, hM, ec, hd, ck, h16, hz, hq⟩ := h
    subst hC
    have hr1 : Room 1 (A.deeper (envOfC "look" (defScope sLk) s.heap.objs.size f cdv)) := hr.mono (by decide)
    have tk : L2N.Takes (cxOf (L2N.CX pr w) pr w K mg base ["module", "name", "chain", "ring"] "look" (defScope sLk) f cdv A outer s H E) (fun cls d _ H => E cls d H) := L2N.takes_of rfl rfl rfl rfl
    refine ⟨_, pss_cons (ps_if (pt_val (pe_meth (pv 0) T.c1.cl mH GH hr1 bH .nil pass0 (pa_cons (pv 1) pa_nil))) (pss_one (ps_ret (pe_meth (pv 0) T.c1.cl mG GG hr1 bG .nil pass0 (pa_cons (pv 1) pa_nil)))) pss_nil)
      (pss_cons (ps_set (i := 3) scLk.nd rfl (.inl rfl) (pe_call GR hr (by rfl) gR FR.kp bR .nil pass0 (pa_cons (pv 0) (pa_cons (pv 2) pa_nil))))
      (pss_cons (ps_if (pt_truth (pv 3) (fun _ => rfl)) (pss_one (L2N.ps_raise rfl tk (pmk_mkR IF.sc.oex IF.fi IF.ty GF hr hgd bF pass0 (by rfl) IF.glo (pa_cons (pe_tup (pa_cons pe_str (pa_cons (pe_fld (pv 0) rfl) (pa_cons (pv 1) (pa_cons (pv 3) pa_nil))))) pa_nil)))) pss_nil)
      (pss_one (L2N.ps_raise rfl tk (pmk_mkR IF.sc.oex IF.fi IF.ty GF hr hgd bF pass0 (by rfl) IF.glo (pa_cons (pe_tup (pa_cons pe_str (pa_cons (pe_fld (pv 0) rfl) (pa_cons (pv 1) pa_nil)))) pa_nil)))))), ?_⟩
    obtain ⟨⟨dx, ha⟩, hdd⟩ := id hM
    have no : ∀ m : Str, ¬ m = "things" → ¬ m = "path" → ¬ m = "number" → (mF n p d).lookup m = none := fun m h1 h2 h3 => mF_no n p d h1 h2 h3
    have hjf : j < X.fs.length := (List.getElem?_eq_some_iff.mp hf).1
    have smF : SmX (fltD X.fs cs j z) 3 3000 := sm_flt S.okF hjf hz ck.lt h16
    rcases hq with ⟨v, e1, q⟩ | ⟨e1, q⟩
    · refine ⟨_, rfl, a, dx, _, rfl, ha, no _ (by decide +kernel) (by decide +kernel) (by decide +kernel), _, rfl, a, d, n, p, z, kvs, rfl, hM, ?_⟩
      rw [e1]
      refine ⟨_, rfl, ?_⟩
      refine ⟨_, rfl, a, dx, _, rfl, ha, no _ (by decide +kernel) (by decide +kernel) (by decide +kernel), _, rfl, a, d, n, p, z, kvs, rfl, hM, ?_⟩
      rw [e1]
      exact q
    · refine ⟨_, rfl, a, dx, _, rfl, ha, no _ (by decide +kernel) (by decide +kernel) (by decide +kernel), _, rfl, a, d, n, p, z, kvs, rfl, hM, ?_⟩
      rw [e1]
      refine ⟨_, rfl, ?_⟩
      refine ⟨_, rfl, _, rfl, X, a, c, j, hs, cs, rfl, rfl, S, haj, ec, hd, fun x hx => (ck.lt x hx).1, h16, fun H1 t ys s1 et r1 => ?_⟩
      refine ⟨_, rfl, !ys.isEmpty, .inr (.inl ⟨ys, SqT.of et, rfl⟩), ?_⟩
      have ly := r1.len
      rw [List.length_map] at ly
      by_cases hr0 : rng cs j = []
      · rw [hr0] at ly
        have ey : ys = [] := List.length_eq_zero_iff.mp ly
        have eD : fltD X.fs cs j z = .tuple [.str "NONAME", .str p, .str z] := by
          unfold fltD
          rw [if_pos hr0, pathO_of hf]
        rw [eD] at q smF
        rw [ey]
        refine ⟨_, rfl, a, X.C, dx, _, _, rfl, s1 _ _ ha, T.c1.cl, T.n2, mF_p _ _ _, _, rfl, sz (by simp), fun Fp hFp => ⟨by simp, fun e he => ?_⟩⟩
        have s2 : Same H1 (upd H1 Fp (.tup [.str "NONAME", .str p, .str z])) := fun b o e => by rw [upd_ne (ne_of_none e hFp)]; exact e
        have eF : (upd H1 Fp (.tup [.str "NONAME", .str p, .str z])) Fp = some (.tup [.str "NONAME", .str p, .str z]) := upd_same
        obtain ⟨H2, eH2⟩ : ∃ H2, (upd H1 Fp (.tup [.str "NONAME", .str p, .str z])) = H2 := ⟨_, rfl⟩
        rw [eH2] at s2 eF he ⊢
        refine ⟨e, Fp, .tuple [.str "NONAME", .str p, .str z], rfl, upd_same, .tup (SqT.of (by rw [upd_ne (ne_of_none eF he)]; exact eF)) (.cons (.str _) (.cons (.str _) (.cons (.str _) .nil))), (SmX.smD smF (by decide) (by decide)), fun dx' g1 n1 => ⟨rfl, dx', _, hF_a (p := Fp), hF_d n1, dx_none g1 n1, ?_⟩⟩
        have s4 : Same H2 (upd (del (hF H2 e dx' CF Fp) e) dx' (.xd [("fault", .ref Fp)])) := same_go (same_hF (p := Fp) he g1) he (dx_none g1 n1)
        exact q _ dx' Fp ((s1.trans s2).trans s4) upd_same (.tup (s4 _ _ eF) (.cons (.str _) (.cons (.str _) (.cons (.str _) .nil))))
      · have ey : ys ≠ [] := fun z => by
          rw [z] at ly
          exact hr0 (List.length_eq_zero_iff.mp ly.symm)
        have eb : (!ys.isEmpty) = true := by
          cases ys with
          | nil => exact absurd rfl ey
          | cons _ _ => rfl
        have eD : fltD X.fs cs j z = .tuple [.str "HALF", .str p, .str z, .tuple (plD X.fs (rng cs j))] := by
          unfold fltD
          rw [if_neg hr0, pathO_of hf]
        rw [eD] at q smF
        rw [eb]
        refine ⟨_, rfl, a, X.C, dx, _, _, rfl, s1 _ _ ha, T.c1.cl, T.n2, mF_p _ _ _, _, rfl, _, rfl, sz (by simp), fun Fp hFp => ⟨by simp, fun e he => ?_⟩⟩
        have s2 : Same H1 (upd H1 Fp (.tup [.str "HALF", .str p, .str z, .ref t])) := fun b o e => by rw [upd_ne (ne_of_none e hFp)]; exact e
        have eF : (upd H1 Fp (.tup [.str "HALF", .str p, .str z, .ref t])) Fp = some (.tup [.str "HALF", .str p, .str z, .ref t]) := upd_same
        obtain ⟨H2, eH2⟩ : ∃ H2, (upd H1 Fp (.tup [.str "HALF", .str p, .str z, .ref t])) = H2 := ⟨_, rfl⟩
        rw [eH2] at s2 eF he ⊢
        have rgF : ∀ {H' : Hp}, Same H2 H' → Rg AllA H' (.ref Fp) (.tuple [.str "HALF", .str p, .str z, .tuple (plD X.fs (rng cs j))]) := fun {H'} s' => .tup (s' _ _ eF) (.cons (.str _) (.cons (.str _) (.cons (.str _) (.cons (.tup (s' _ _ (s2 _ _ et)) (r1.kq fun b o e _ => s' _ _ (s2 _ _ e))) .nil))))
        have sE : Same H2 (upd H2 e (exo e CF none)) := fun b o e' => by rw [upd_ne (ne_of_none e' he)]; exact e'
        refine ⟨e, Fp, .tuple [.str "HALF", .str p, .str z, .tuple (plD X.fs (rng cs j))], rfl, upd_same, Rg_dp (rgF sE) smF.nd, (SmX.smD smF (by decide) (by decide)), fun dx' g1 n1 => ⟨rfl, dx', _, hF_a (p := Fp), hF_d n1, dx_none g1 n1, ?_⟩⟩
        have s4 : Same H2 (upd (del (hF H2 e dx' CF Fp) e) dx' (.xd [("fault", .ref Fp)])) := same_go (same_hF (p := Fp) he g1) he (dx_none g1 n1)
        exact q _ dx' Fp ((s1.trans s2).trans s4) upd_same (rgF s4)
end
end D24
set_option maxHeartbeats 4000000
/-! k22: what is told, the law's own fault, is it the thing -/
namespace D24
open PySem PySem.Spec PyProof.Rows L2 HM XW XR K11 XM XSo
abbrev sLt : Stmt := top 29
abbrev sFl : Stmt := top 31
abbrev sIs : Stmt := top 33
theorem scLt : FnScope ["_law_facts_here", "_law_kind_here"] ["_law_facts_here", "_law_kind_here"] (defScope sLt) := ⟨rfl, rfl, rfl, by decide +kernel, rfl, by decide +kernel, by decide +kernel⟩
theorem scFl : FnScope ["_law_facts_here", "_law_chain_here", "_law_at_here", "_law_name_here", "_law_ring", "_law_one", "_law_row"] ["_law_facts_here", "_law_chain_here", "_law_at_here", "_law_name_here"] (defScope sFl) := ⟨rfl, rfl, rfl, by decide +kernel, rfl, by decide +kernel, by decide +kernel⟩
theorem scIs : FnScope ["_law_thing", "_law_kind_here", "_law_facts_here", "_law_models", "_law_right_here"] ["_law_thing", "_law_kind_here", "_law_facts_here", "_law_models"] (defScope sIs) := ⟨rfl, rfl, rfl, by decide +kernel, rfl, by decide +kernel, by decide +kernel⟩
def spLt : Sp := fun vs H Q _ => ∃ (X : Pm) (u : Addr), vs = [.ref X.F, .ref u] ∧ Wh X H ∧ ((∃ i : Int, H u = some (.tup [.int 0, .int i]) ∧ Q (.int i) H) ∨
  (∃ (j : Nat) (n : Int) (p : Str), X.fs[j]? = some (n, p) ∧ H u = some (.tup [.int 1, .int j]) ∧ ∀ t, H t = none → Q (.ref t) (upd H t (.tup [.str "module", .int n]))) ∨
  (∃ (j : Nat) (n : Int) (p r : Str), X.fs[j]? = some (n, p) ∧ H u = some (.tup [.int 2, .int j, .str r]) ∧ ∀ t, H t = none → Q (.ref t) (upd H t (.tup [.str "function", .int n, .str r]))))
def spFl : Sp := fun vs H Q _ => ∃ (X : Pm) (c : Addr) (j : Nat) (z : Str) (ys : List V) (cs : List (Nat × Int)), vs = [.ref X.F, .ref c, .int j, .str z] ∧ Wh X H ∧ H c = some (.lst ys) ∧ RgAll AllA H ys (csD cs) ∧ CkOk X.fs.length cs ∧ cs.length ≤ 16 ∧ j < X.fs.length ∧
  ∀ (H' : Hp) (t Gp : Addr), Same H H' → H' t = some (.tup [.str "fault", .ref Gp]) → Rg AllA H' (.ref Gp) (fltD X.fs cs j z) → Q (.ref t) H'
def spIs (C D : Addr) : Sp := fun vs H Q _ => ∃ (X : Pm) (v : V) (u : Addr), X.C = C ∧ X.D = D ∧ vs = [v, .ref u, .ref X.F, .ref X.M] ∧ Wh X H ∧ KdR X H v u ∧ ∀ H', Same H H' → Q (.bl true) H'
theorem sm_mod {n : Int} (h : n.natAbs < 10 ^ 60) : SmX (.tuple [.str "module", .int n]) 1 200 := (SmA.tup (n := 0) (SmA.cons (sm_str (by unfold ascS; decide +kernel) (by decide +kernel)) (SmA.cons (sm_int h) SmA.nil))).mono (by decide) (by decide)
theorem sm_fun {n : Int} {r : Str} (h : n.natAbs < 10 ^ 60) (hr : ptOk r) : SmX (.tuple [.str "function", .int n, .str r]) 1 200 := (SmA.tup (n := 0) (SmA.cons (sm_str (by unfold ascS; decide +kernel) (by decide +kernel)) (SmA.cons (sm_int h) (SmA.cons (sm_str (asc_pt hr) (XT2.good_pt hr).2) SmA.nil)))).mono (by decide) (by decide)
theorem shp_fact {n : Int} {p : Str} (h : PyData.strOk p = true) : SeqAt.shaped (.tuple [.int n, .str p]) = true := by
  have e : PyData.canLay0 (.tuple [.int n, .str p]) = true := by
    show (PyData.canLay0 (.int n) && (PyData.canLay0 (.str p) && PyData.canLayAll0 [])) = true
    rw [show PyData.canLay0 (.str p) = PyData.strOk p from rfl, h]
    rfl
  unfold SeqAt.shaped
  rw [e, show PyData.depth (.tuple [.int n, .str p]) = 1 from rfl]
  rfl
theorem eqv_fact {n : Int} {p : Str} (h : PyData.strOk p = true) : PyData.eqv (.tuple [.int n, .str p]) (.tuple [.int n, .str p]) = true := by
  refine SeqAt.eqv_refl _ ?_
  show (PyData.canLay0 (.int n) && (PyData.canLay0 (.str p) && PyData.canLayAll0 [])) = true
  rw [show PyData.canLay0 (.str p) = PyData.strOk p from rfl, h]
  rfl
theorem eqv_strs' {ys : List Str} (h : ∀ y ∈ ys, PyData.strOk y = true) : PyData.eqv (.list (ys.map PyData.str)) (.list (ys.map PyData.str)) = true := SeqAt.eqv_refl _ (lay_strs h).1
theorem eqv_pl {fs : List (Int × Str)} (cs : List (Nat × Int)) : PyData.eqv (.list (plD fs cs)) (.list []) = decide (cs = []) := by
  cases cs with
  | nil => rfl
  | cons c cs =>
    rw [decide_eq_false (by simp)]
    rfl
theorem shp_pl {fs : List (Int × Str)} (hF : ∀ p ∈ fs, factOk p) {cs : List (Nat × Int)} (h : ∀ c ∈ cs, c.1 < fs.length) : SeqAt.shaped (.list (plD fs cs)) = true := by
  have go : ∀ cs : List (Nat × Int), (∀ c ∈ cs, c.1 < fs.length) → PyData.canLayAll0 (plD fs cs) = true ∧ PyData.depthAll (plD fs cs) ≤ 1 := fun cs => by
    induction cs with
    | nil => intro _; exact ⟨rfl, Nat.zero_le _⟩
    | cons c cs ih =>
      intro hh
      obtain ⟨j, r⟩ := c
      obtain ⟨h1, h2⟩ := ih fun y hy => hh y (List.mem_cons_of_mem _ hy)
      obtain ⟨⟨n, p⟩, hf⟩ : ∃ np, fs[j]? = some np := ⟨_, List.getElem?_eq_getElem (hh _ List.mem_cons_self)⟩
      have okp := strOk_pt (hF _ (List.mem_of_getElem? hf)).2.2
      rw [plD, List.map_cons, pO_of hf]
      refine ⟨?_, ?_⟩
      · show (PyData.canLay0 (.tuple [.str p, .int r]) && PyData.canLayAll0 (plD fs cs)) = true
        rw [h1, Bool.and_true]
        show (PyData.canLay0 (.str p) && (PyData.canLay0 (.int r) && PyData.canLayAll0 [])) = true
        rw [show PyData.canLay0 (.str p) = PyData.strOk p from rfl, okp]
        rfl
      · show max (PyData.depth (.tuple [.str p, .int r])) (PyData.depthAll (plD fs cs)) ≤ 1
        have e : PyData.depth (.tuple [.str p, .int r]) = 1 := rfl
        rw [e]
        omega
  obtain ⟨h1, h2⟩ := go cs h
  unfold SeqAt.shaped
  rw [show PyData.canLay0 (.list (plD fs cs)) = PyData.canLayAll0 (plD fs cs) from rfl, h1, show PyData.depth (.list (plD fs cs)) = PyData.depthAll (plD fs cs) + 1 from rfl, decide_eq_true (by omega)]
  rfl
theorem nd_pl {fs : List (Int × Str)} : ∀ cs : List (Nat × Int), PyData.hasDictAll (plD fs cs) = false
  | [] => rfl
  | c :: cs => by
    rw [plD, List.map_cons, PyData.hasDictAll, nd_pl cs]
    rfl
/-- the ring goes on: a place is added once it has begun -/
theorem rng_step {cs : List (Nat × Int)} {i j j1 : Nat} {r : Int} (h : cs[i]? = some (j1, r)) : rng (cs.take (i + 1)) j = if rng (cs.take i) j ≠ [] ∨ j1 = j then rng (cs.take i) j ++ [(j1, r)] else [] := by
  rw [take_snoc h]
  unfold rng
  generalize cs.take i = l
  induction l with
  | nil =>
    by_cases e : j1 = j
    · rw [if_pos (.inr e)]
      show List.dropWhile _ [(j1, r)] = [(j1, r)]
      rw [List.dropWhile_cons_of_neg (by simp [e])]
    · rw [if_neg (by simp [e])]
      show List.dropWhile _ [(j1, r)] = []
      rw [List.dropWhile_cons_of_pos (by simp [e])]
      rfl
  | cons c l ih =>
    by_cases e : c.1 = j
    · rw [List.cons_append, List.dropWhile_cons_of_neg (by simp [e]), List.dropWhile_cons_of_neg (by simp [e]), if_pos (.inl (by simp))]
      rfl
    · rw [List.cons_append, List.dropWhile_cons_of_pos (by simp [e]), List.dropWhile_cons_of_pos (by simp [e]), ih]
section
variable {P : Program} {w : World} {K : PySem.W.Frag} {mg : Str → Option Value} {base : Heap} {f fT fL fO C D : Addr} {fd fdT fdL fdO : FuncData}
theorem ok_lt (F : FnP K "_law_told" sLt f fd) : FnOk P w K mg base CX0 1 f fd ["_law_facts_here", "_law_kind_here"] spLt := by
  refine ok_code F scLt (fun vs H Q E h => ?_) (fun cdv A outer s H vs Q E hcd hr h => ?_)
  · obtain ⟨X, u, rfl, _⟩ := h
    rfl
  · obtain ⟨X, u, rfl, S, h⟩ := h
    refine ⟨_, pss_cons (ps_if (pt_cmpR op_eq (pe_ix ix_tup (pv 1) pe_int (fun _ _ => rfl)) pe_int (nomark _)) (pss_one (ps_ret (pe_tup (pa_cons pe_str (pa_cons (pe_ix ix_tup (pe_ix ix_list (pv 0) (pe_ix ix_tup (pv 1) pe_int (fun _ _ => rfl)) (fun _ _ => rfl)) pe_int (fun _ _ => rfl)) pa_nil))))) pss_nil)
      (pss_cons (ps_if (pt_cmpR op_eq (pe_ix ix_tup (pv 1) pe_int (fun _ _ => rfl)) pe_int (nomark _)) (pss_one (ps_ret (pe_tup (pa_cons pe_str (pa_cons (pe_ix ix_tup (pe_ix ix_list (pv 0) (pe_ix ix_tup (pv 1) pe_int (fun _ _ => rfl)) (fun _ _ => rfl)) pe_int (fun _ _ => rfl)) (pa_cons (pe_ix ix_tup (pv 1) pe_int (fun _ _ => rfl)) pa_nil)))))) pss_nil)
      (pss_one (ps_ret (pe_ix ix_tup (pv 1) pe_int (fun _ _ => rfl))))), ?_⟩
    have neV : ∀ k m : Int, k ≠ m → decide (V.int k = V.int m) = false := fun k m h => decide_eq_false (fun e => h (by cases e; rfl))
    rcases h with ⟨i, hu, q⟩ | ⟨j, n, p, hf, hu, q⟩ | ⟨j, n, p, r, hf, hu, q⟩
    · refine ⟨_, rfl, u, _, _, _, rfl, rfl, SqT.of hu, atI_nat (j := 0) rfl, rfl, _, rfl, ?_⟩
      rw [neV 0 1 (by decide)]
      refine ⟨_, rfl, u, _, _, _, rfl, rfl, SqT.of hu, atI_nat (j := 0) rfl, rfl, _, rfl, ?_⟩
      rw [neV 0 2 (by decide)]
      exact ⟨_, rfl, u, _, _, _, rfl, rfl, SqT.of hu, atI_nat (j := 1) rfl, q⟩
    · obtain ⟨xs, x, eF, ex, hx⟩ := S.fact hf
      refine ⟨_, rfl, u, _, _, _, rfl, rfl, SqT.of hu, atI_nat (j := 0) rfl, rfl, _, rfl, ?_⟩
      rw [show decide (V.int 1 = V.int 1) = true from rfl]
      exact ⟨_, rfl, _, rfl, u, _, _, _, rfl, rfl, SqT.of hu, atI_nat (j := 1) rfl, X.F, xs, _, .ref x, rfl, rfl, SqL.of eF, atI_nat ex, x, _, _, _, rfl, rfl, SqT.of hx, atI_nat (j := 0) rfl, sz (by simp), fun t ht => q t ht⟩
    · obtain ⟨xs, x, eF, ex, hx⟩ := S.fact hf
      refine ⟨_, rfl, u, _, _, _, rfl, rfl, SqT.of hu, atI_nat (j := 0) rfl, rfl, _, rfl, ?_⟩
      rw [neV 2 1 (by decide)]
      refine ⟨_, rfl, u, _, _, _, rfl, rfl, SqT.of hu, atI_nat (j := 0) rfl, rfl, _, rfl, ?_⟩
      rw [show decide (V.int 2 = V.int 2) = true from rfl]
      exact ⟨_, rfl, _, rfl, u, _, _, _, rfl, rfl, SqT.of hu, atI_nat (j := 1) rfl, X.F, xs, _, .ref x, rfl, rfl, SqL.of eF, atI_nat ex, x, _, _, _, rfl, rfl, SqT.of hx, atI_nat (j := 0) rfl, _, rfl, u, _, _, _, rfl, rfl, SqT.of hu, atI_nat (j := 2) rfl, sz (by simp), fun t ht => q t ht⟩
theorem ok_fl (F : FnP K "_law_fault" sFl f fd) (mt : mg "tuple" = none) : FnOk P w K mg base CX0 1 f fd ["_law_facts_here", "_law_chain_here", "_law_at_here", "_law_name_here"] spFl := by
  refine ok_code F scFl (fun vs H Q E h => ?_) (fun cdv A outer s H vs Q E hcd hr h => ?_)
  · obtain ⟨X, c, j, z, ys, cs, rfl, _⟩ := h
    rfl
  · obtain ⟨X, c, j, z, ys, cs, rfl, S, ec, rg, ck, h16, hj, q⟩ := h
    refine ⟨_, pss_cons (ps_set (i := 4) scFl.nd rfl (.inl rfl) (pe_lst pa_nil))
      (pss_cons (ps_for PassesOwn.never rfl (pi_list (pv 1)) (pg_tup (by rfl) (pgs_cons (pg_name (i := 5) scFl.nd rfl (.inl rfl)) (pgs_cons (pg_name (i := 6) scFl.nd rfl (.inl rfl)) pgs_nil)))
        (pss_one (ps_if (PW.pt (pw_or (pt_cmpR (op_neD hr.units) (pv 4) (pe_lst pa_nil) (nomark _)) (pw_or1 (pt_cmpR op_eq (pv 5) (pv 2) (nomark _)))))
          (pss_one (ps_expr (pe_bm PySem.F.plainAttrs_list PySem.F.slot_list_append PySem.F.type_list_append mt_append (pv 4) (pa_cons (pe_tup (pa_cons (pe_ix ix_tup (pe_ix ix_list (pv 0) (pv 5) (fun _ _ => rfl)) pe_int (fun _ _ => rfl)) (pa_cons (pv 6) pa_nil))) pa_nil)))) pss_nil)))
      (pss_cons (ps_if (pt_cmpR (op_eqD hr.units) (pv 4) (pe_lst pa_nil) (nomark _))
        (pss_one (ps_ret (pe_tup (pa_cons pe_str (pa_cons (pe_tup (pa_cons pe_str (pa_cons (pe_ix ix_tup (pe_ix ix_list (pv 0) (pv 2) (fun _ _ => rfl)) pe_int (fun _ _ => rfl)) (pa_cons (pv 3) pa_nil)))) pa_nil))))) pss_nil)
      (pss_one (ps_ret (pe_tup (pa_cons pe_str (pa_cons (pe_tup (pa_cons pe_str (pa_cons (pe_ix ix_tup (pe_ix ix_list (pv 0) (pv 2) (fun _ _ => rfl)) pe_int (fun _ _ => rfl)) (pa_cons (pv 3) (pa_cons (pe_callTy call_tuple_of (by rfl) mt (by decide +kernel) (pa_cons (pv 4) pa_nil)) pa_nil))))) pa_nil))))))), ?_⟩
    have hly : ys.length = cs.length := by rw [rg.len, List.length_map]
    obtain ⟨⟨n, p⟩, hf⟩ : ∃ np, X.fs[j]? = some np := ⟨_, List.getElem?_eq_getElem hj⟩
    obtain ⟨xs, x, eF, ex, hx⟩ := S.fact hf
    have okc : ∀ i, ∀ x ∈ rng (cs.take i) j, x.1 < X.fs.length := fun i x hx => (ck.lt x (List.mem_of_mem_take (rng_sub x hx))).1
    refine ⟨sz (by simp), fun R hR => ?_⟩
    refine ⟨_, rfl, c, rfl, ⟨_, SqL.of (by rw [upd_ne (ne_of_none ec hR)]; exact ec)⟩, ?_⟩
    refine for_it (walk_list (xs := ys)) (fun i σ H' => ∃ (v5 v6 : Option V) (zs : List V), σ = [some (.ref X.F), some (.ref c), some (.int j), some (.str z), some (.ref R), v5, v6] ∧ Same H H' ∧ H' R = some (.lst zs) ∧ RgAll AllA H' zs (plD X.fs (rng (cs.take i) j)))
      ⟨none, none, [], rfl, fun b o e => by rw [upd_ne (ne_of_none e hR)]; exact e, upd_same, .nil⟩ (fun i σ H' _ ⟨_, _, _, _, k, _⟩ => SqL.of (k _ _ ec)) ?_ ?_
    · rintro i x' σ H1' H1 hi ⟨v5, v6, zs, rfl, k1, eR, r1⟩ ⟨rfl, hx'⟩
      obtain ⟨dd, hdd, rr⟩ := rg.get i hx'
      obtain ⟨⟨j1, r⟩, hcj, rfl⟩ : ∃ np, cs[i]? = some np ∧ dd = cD np := by
        rw [List.getElem?_map] at hdd
        cases e : cs[i]? with
        | none =>
          rw [e] at hdd
          cases hdd
        | some np =>
          rw [e] at hdd
          exact ⟨np, rfl, (Option.some.inj hdd).symm⟩
      obtain ⟨xa, rfl, hxa⟩ := rg_place rr
      have hj1 : j1 < X.fs.length := (ck.lt _ (List.mem_of_getElem? hcj)).1
      obtain ⟨⟨n1, p1⟩, hf1⟩ : ∃ np, X.fs[j1]? = some np := ⟨_, List.getElem?_eq_getElem hj1⟩
      obtain ⟨xs1, x1, eF1, ex1, hx1⟩ := S.fact hf1
      refine ⟨xa, _, rfl, SqT.of (k1 _ _ hxa), rfl, _, _, rfl, _, _, rfl, rfl, ?_⟩
      refine ⟨_, rfl, sz (by simp), fun L0 hL0 => ?_⟩
      have s2 : Same H1 (upd H1 L0 (.lst [])) := fun b o e => by rw [upd_ne (ne_of_none e hL0)]; exact e
      have eL0 : (upd H1 L0 (.lst [])) L0 = some (.lst []) := upd_same
      obtain ⟨H2, e2⟩ : ∃ H2, upd H1 L0 (.lst []) = H2 := ⟨_, rfl⟩
      rw [e2] at s2 eL0 ⊢
      have r2 : RgAll AllA H2 zs (plD X.fs (rng (cs.take i) j)) := r1.kq fun b o e _ => s2 b o e
      refine ⟨.list (plD X.fs (rng (cs.take i) j)), .list [], .lst (SqL.of (s2 _ _ eR)) (Rg_dpAll r2 (nd_pl _)), .lst (SqL.of eL0) .nil, shp_pl S.okF (okc i), rfl, ?_⟩
      rw [eqv_pl]
      -- appended
      have step : ∀ (T' : Addr), H2 T' = none → rng (cs.take (i + 1)) j = rng (cs.take i) j ++ [(j1, r)] → ∃ zs' : List V, Same H (upd (upd H2 T' (.tup [.str p1, .int r])) R (.lst (zs ++ [.ref T']))) ∧ (upd (upd H2 T' (.tup [.str p1, .int r])) R (.lst (zs ++ [.ref T']))) R = some (.lst zs') ∧ RgAll AllA (upd (upd H2 T' (.tup [.str p1, .int r])) R (.lst (zs ++ [.ref T']))) zs' (plD X.fs (rng (cs.take (i + 1)) j)) := fun T' hT' hr' => by
        have eR3 : (upd H2 T' (.tup [.str p1, .int r])) R = some (.lst zs) := by rw [upd_ne (ne_of_none (s2 _ _ eR) hT')]; exact s2 _ _ eR
        have nTR : T' ≠ R := fun z => by rw [z, s2 _ _ eR] at hT'; cases hT'
        refine ⟨zs ++ [.ref T'], fun b o e => ?_, upd_same, ?_⟩
        · rw [upd_ne (ne_of_none e hR), upd_ne (ne_of_none (s2 _ _ (k1 _ _ e)) hT')]
          exact s2 _ _ (k1 _ _ e)
        · rw [hr', plD, List.map_append]
          refine (r2.kq ((Kq.new hT').trans (Kq.put eR3 trivial))).snoc ?_
          rw [pO_of hf1]
          exact .tup (by rw [upd_ne nTR]; exact upd_same) (.cons (.str _) (.cons (.int _) .nil))
      have hlz : zs.length ≤ 16 := by
        have := r1.len
        rw [List.length_map] at this
        have h1 := rng_len (cs.take i) j
        rw [List.length_take] at h1
        omega
      by_cases h0 : rng (cs.take i) j = []
      · rw [decide_eq_true h0]
        refine ⟨_, rfl, ?_⟩
        refine ⟨_, rfl, _, rfl, rfl, _, rfl, ?_⟩
        by_cases hjj : j1 = j
        · rw [show decide (V.int (j1 : Nat) = V.int (j : Nat)) = true from decide_eq_true (by rw [hjj])]
          refine ⟨_, rfl, .inl ⟨rfl, _, SqL.of (s2 _ _ eR)⟩, _, rfl, _, rfl, X.F, xs1, _, .ref x1, rfl, rfl, SqL.of (s2 _ _ (k1 _ _ eF1)), atI_nat ex1, x1, _, _, _, rfl, rfl, SqT.of (s2 _ _ (k1 _ _ hx1)), atI_nat (j := 1) rfl, _, rfl, sz (by simp), fun T' hT' => ?_⟩
          refine ⟨R, _, _, rfl, rfl, by rw [upd_ne (ne_of_none (s2 _ _ eR) hT')]; exact s2 _ _ eR, small1000 (by omega), ?_⟩
          obtain ⟨zs', a1, a2, a3⟩ := step T' hT' (by rw [rng_step hcj, if_pos (.inr hjj)])
          exact ⟨_, _, zs', rfl, a1, a2, a3⟩
        · rw [show decide (V.int (j1 : Nat) = V.int (j : Nat)) = false from decide_eq_false (fun e => hjj (by have := V.int.inj e; omega))]
          refine ⟨_, _, zs, rfl, k1.trans s2, s2 _ _ eR, ?_⟩
          rw [rng_step hcj, if_neg (by simp [h0, hjj])]
          rw [h0] at r2
          exact r2
      · rw [decide_eq_false h0]
        refine ⟨_, rfl, ?_⟩
        refine ⟨_, rfl, .inl ⟨rfl, _, SqL.of (s2 _ _ eR)⟩, _, rfl, _, rfl, X.F, xs1, _, .ref x1, rfl, rfl, SqL.of (s2 _ _ (k1 _ _ eF1)), atI_nat ex1, x1, _, _, _, rfl, rfl, SqT.of (s2 _ _ (k1 _ _ hx1)), atI_nat (j := 1) rfl, _, rfl, sz (by simp), fun T' hT' => ?_⟩
        refine ⟨R, _, _, rfl, rfl, by rw [upd_ne (ne_of_none (s2 _ _ eR) hT')]; exact s2 _ _ eR, small1000 (by omega), ?_⟩
        obtain ⟨zs', a1, a2, a3⟩ := step T' hT' (by rw [rng_step hcj, if_pos (.inl h0)])
        exact ⟨_, _, zs', rfl, a1, a2, a3⟩
    · rintro σ H1 ⟨v5, v6, zs, rfl, k1, eR, r1⟩
      have ec' : cs.take ys.length = cs := by rw [hly, List.take_length]
      rw [ec'] at r1
      refine ⟨_, rfl, sz (by simp), fun L0 hL0 => ?_⟩
      have s2 : Same H1 (upd H1 L0 (.lst [])) := fun b o e => by rw [upd_ne (ne_of_none e hL0)]; exact e
      have eL0 : (upd H1 L0 (.lst [])) L0 = some (.lst []) := upd_same
      obtain ⟨H2, e2⟩ : ∃ H2, upd H1 L0 (.lst []) = H2 := ⟨_, rfl⟩
      rw [e2] at s2 eL0 ⊢
      have r2 : RgAll AllA H2 zs (plD X.fs (rng cs j)) := r1.kq fun b o e _ => s2 b o e
      have s02 := k1.trans s2
      refine ⟨.list (plD X.fs (rng cs j)), .list [], .lst (SqL.of (s2 _ _ eR)) (Rg_dpAll r2 (nd_pl _)), .lst (SqL.of eL0) .nil, shp_pl S.okF (fun x hx => (ck.lt x (rng_sub x hx)).1), rfl, ?_⟩
      rw [eqv_pl]
      by_cases h0 : rng cs j = []
      · rw [decide_eq_true h0]
        have eD : fltD X.fs cs j z = .tuple [.str "NONAME", .str p, .str z] := by
          unfold fltD
          rw [if_pos h0, pathO_of hf]
        rw [eD] at q
        refine ⟨_, rfl, _, rfl, _, rfl, X.F, xs, _, .ref x, rfl, rfl, SqL.of (s02 _ _ eF), atI_nat ex, x, _, _, _, rfl, rfl, SqT.of (s02 _ _ hx), atI_nat (j := 1) rfl, _, rfl, sz (by simp), fun Gp hGp => ⟨sz (by simp), fun t ht => ?_⟩⟩
        have s3 : Same H2 (upd H2 Gp (.tup [.str "NONAME", .str p, .str z])) := fun b o e => by rw [upd_ne (ne_of_none e hGp)]; exact e
        have s4 : Same (upd H2 Gp (.tup [.str "NONAME", .str p, .str z])) (upd (upd H2 Gp (.tup [.str "NONAME", .str p, .str z])) t (.tup [.str "fault", .ref Gp])) := fun b o e => by rw [upd_ne (ne_of_none e ht)]; exact e
        exact q _ t Gp ((s02.trans s3).trans s4) upd_same (.tup (s4 _ _ upd_same) (.cons (.str _) (.cons (.str _) (.cons (.str _) .nil))))
      · rw [decide_eq_false h0]
        have eD : fltD X.fs cs j z = .tuple [.str "HALF", .str p, .str z, .tuple (plD X.fs (rng cs j))] := by
          unfold fltD
          rw [if_neg h0, pathO_of hf]
        rw [eD] at q
        refine ⟨_, rfl, _, rfl, _, rfl, X.F, xs, _, .ref x, rfl, rfl, SqL.of (s02 _ _ eF), atI_nat ex, x, _, _, _, rfl, rfl, SqT.of (s02 _ _ hx), atI_nat (j := 1) rfl, _, rfl, _, rfl, R, zs, rfl, .inl ⟨SqL.of (s2 _ _ eR), fun T' hT' => ⟨sz (by simp), fun Gp hGp => ⟨sz (by simp), fun t ht => ?_⟩⟩⟩⟩
        have s3 : Same H2 (upd H2 T' (.tup zs)) := fun b o e => by rw [upd_ne (ne_of_none e hT')]; exact e
        have eT : (upd H2 T' (.tup zs)) T' = some (.tup zs) := upd_same
        obtain ⟨H3, e3⟩ : ∃ H3, upd H2 T' (.tup zs) = H3 := ⟨_, rfl⟩
        rw [e3] at s3 eT hGp ht ⊢
        have s4 : Same H3 (upd H3 Gp (.tup [.str "HALF", .str p, .str z, .ref T'])) := fun b o e => by rw [upd_ne (ne_of_none e hGp)]; exact e
        have s5 : Same (upd H3 Gp (.tup [.str "HALF", .str p, .str z, .ref T'])) (upd (upd H3 Gp (.tup [.str "HALF", .str p, .str z, .ref T'])) t (.tup [.str "fault", .ref Gp])) := fun b o e => by rw [upd_ne (ne_of_none e ht)]; exact e
        have s35 := s4.trans s5
        exact q _ t Gp ((s02.trans s3).trans s35) upd_same (.tup (s5 _ _ upd_same) (.cons (.str _) (.cons (.str _) (.cons (.str _) (.cons (.tup (s35 _ _ eT) (r2.kq fun b o e _ => s35 _ _ (s3 _ _ e))) .nil)))))
end
end D24
set_option maxHeartbeats 4000000
/-! k22: is it the thing -/
namespace D24
open PySem PySem.Spec PyProof.Rows L2 HM XW XR K11 XM XSo
section
variable {P : Program} {w : World} {K : PySem.W.Frag} {mg : Str → Option Value} {base : Heap} {f fT fL fO C D : Addr} {fd fdT fdL fdO : FuncData}
theorem ok_is (F : FnP K "_law_is_the" sIs f fd) (T : ClT K mg C D) (GT : FnOk P w K mg base CX0 1 fT fdT ["thing"] (spTo C D)) (FT : FnP K "told" sTo fT fdT) (gT : mg "told" = some (.ref fT))
    (GL : FnOk P w K mg base CX0 1 fL fdL ["_law_facts_here", "_law_kind_here"] spLt) (FL : FnP K "_law_told" sLt fL fdL) (gL : mg "_law_told" = some (.ref fL))
    (GO : FnOk P w K mg base CX0 1 fO fdO ["self"] (spMO C)) (mO : Meth K C "bound" fO) (bO : Binds K fdO ["self"] [])
    (mi : mg "isinstance" = none) (mp : mg "repr" = none) (ms : mg "sorted" = none) : FnG P w K mg base CX0 2 f fd ["_law_thing", "_law_kind_here", "_law_facts_here", "_law_models"] (spIs C D) := by
  have bT : Binds K fdT ["thing"] [] := FT.bindsN fun _ _ _ _ _ _ us hl => match us, hl with | [_], _ => rfl
  have bL : Binds K fdL ["_law_facts_here", "_law_kind_here"] [] := FL.bindsN fun _ _ _ _ _ _ us hl => match us, hl with | [_, _], _ => rfl
  refine okG F scIs (fun vs H Q E h => ?_) (fun cdv A outer s H vs Q E hcd hr hgd h => ?_)
  · obtain ⟨X, v, u, _, _, rfl, _⟩ := h
    rfl
  · obtain ⟨X, v, u, hC, hD, rfl, S, hk, q⟩ := h
    subst hC hD
    refine ⟨_, PSs.nox (pss_cons (ps_if (pt_cmpR op_ne (pe_callB (call_reprA hr hgd) (by rfl) mp (by decide +kernel) (pa_cons (pe_call GT hr (by rfl) gT FT.kp bT .nil pass0 (pa_cons (pv 0) pa_nil)) pa_nil))
          (pe_callB (call_reprA hr hgd) (by rfl) mp (by decide +kernel) (pa_cons (pe_call GL hr (by rfl) gL FL.kp bL .nil pass0 (pa_cons (pv 2) (pa_cons (pv 1) pa_nil))) pa_nil)) (nomark _)) (pss_one (ps_ret pe_bl)) pss_nil)
      (pss_cons (ps_if (pt_cmpR op_eq (pe_ix ix_tup (pv 1) pe_int (fun _ _ => rfl)) pe_int (nomark _))
        (pss_cons (ps_set (i := 4) scIs.nd rfl (.inl rfl) (pe_and (pe_callB call_isi (by rfl) mi PyProof.Rows.boot_isinstance (pa_cons (pv 0) (pa_cons (pe_glob (v := .ref X.C) (by rfl) T.mC rfl) pa_nil)))
            (pe_one (pe_cmpR (op_eqD hr.units) (pe_tup (pa_cons (pe_fld (pv 0) rfl) (pa_cons (pe_fld (pv 0) rfl) pa_nil))) (pe_ix ix_list (pv 2) (pe_ix ix_tup (pv 1) pe_int (fun _ _ => rfl)) (fun _ _ => rfl)) (nomark _)))))
        (pss_one (ps_ret (pe_and (pv 4) (pe_one (pe_cmpR (op_eqD hr.units) (pe_meth0 (pv 0) T.c1.cl mO GO hr bO .nil pass0) (pe_callB (call_sortedD rfl) (by rfl) ms (by decide +kernel) (pa_cons (pe_ix ix_list (pv 3) (pe_ix ix_tup (pv 1) pe_int (fun _ _ => rfl)) (fun _ _ => rfl)) pa_nil)) (nomark _))))))) pss_nil)
      (pss_cons (ps_if (pt_cmpR op_eq (pe_ix ix_tup (pv 1) pe_int (fun _ _ => rfl)) pe_int (nomark _))
        (pss_cons (ps_set (i := 4) scIs.nd rfl (.inl rfl) (pe_and (pe_callB call_isi (by rfl) mi PyProof.Rows.boot_isinstance (pa_cons (pv 0) (pa_cons (pe_glob (v := .ref X.D) (by rfl) T.mD rfl) pa_nil)))
            (pe_one (pe_cmpR op_eq (pe_fld (pv 0) rfl) (pe_ix ix_tup (pv 1) pe_int (fun _ _ => rfl)) (nomark _)))))
        (pss_one (ps_ret (pe_and (pv 4) (pe_one (pe_cmpR (op_eqD hr.units) (pe_tup (pa_cons (pe_fld (pe_fld (pv 0) rfl) rfl) (pa_cons (pe_fld (pe_fld (pv 0) rfl) rfl) pa_nil))) (pe_ix ix_list (pv 2) (pe_ix ix_tup (pv 1) pe_int (fun _ _ => rfl)) (fun _ _ => rfl)) (nomark _))))))) pss_nil)
      (pss_one (ps_ret (pe_not (pe_callB call_isiT (by rfl) mi PyProof.Rows.boot_isinstance (pa_cons (pv 0) (pa_cons (pe_tup (pa_cons (pe_glob (v := .ref X.C) (by rfl) T.mC rfl) (pa_cons (pe_glob (v := .ref X.D) (by rfl) T.mD rfl) pa_nil))) pa_nil)))))))
      )), ?_⟩
    have neT : ∀ x : Str, decide (V.str x = V.str x) = true := fun x => decide_eq_true rfl
    have neV : ∀ k m : Int, k ≠ m → decide (V.int k = V.int m) = false := fun k m h => decide_eq_false (fun e => h (by cases e; rfl))
    cases hk with
    | num i hi hu =>
      refine ⟨_, rfl, _, rfl, .inl ⟨i, rfl, .inl ⟨i, rfl, hi, _, rfl, _, rfl, X, u, rfl, S, .inl ⟨i, hu, .inl ⟨i, rfl, hi, rfl, _, rfl, ?_⟩⟩⟩⟩⟩
      rw [neT]
      refine ⟨_, rfl, u, _, _, _, rfl, rfl, SqT.of hu, atI_nat (j := 0) rfl, rfl, _, rfl, ?_⟩
      rw [neV 0 1 (by decide)]
      refine ⟨_, rfl, u, _, _, _, rfl, rfl, SqT.of hu, atI_nat (j := 0) rfl, rfl, _, rfl, ?_⟩
      rw [neV 0 2 (by decide)]
      refine ⟨_, rfl, sz (by simp), fun t ht => ?_⟩
      have ka : PySem.W.kitAny K (.type "int") [.ref X.C, .ref X.D] = some false := by
        unfold PySem.W.kitAny
        rw [T.ic]
        show PySem.W.kitAny K (.type "int") [.ref X.D] = some false
        unfold PySem.W.kitAny
        rw [T.id]
        rfl
      refine ⟨_, t, _, _, _, _, rfl, upd_same, .cons (.own X.C) (.cons (.own X.D) .nil), .base (.int i), ka, ?_⟩
      exact ⟨false, rfl, q _ fun b o e => by rw [upd_ne (ne_of_none e ht)]; exact e⟩
    | @mod u a j n p hf ha hu =>
      obtain ⟨a', d, qa, kvs, mvs, ks, g1, g2, g3, hM, hq, kk1, kk2, kk3, kk4, kk5⟩ := S.row j n p hf
      rw [ha] at g1
      cases g1
      obtain ⟨⟨dx, hma⟩, hd⟩ := id hM
      obtain ⟨xs, x, eF, ex, hx⟩ := S.fact hf
      obtain ⟨f1, f2, f3⟩ := S.okA hf
      have hn : n.natAbs < 10 ^ 60 := by
        have h1 : 1 ≤ n := f1
        have h2 : n < 10 ^ 60 := f2
        omega
      have sp : PyData.strOk p = true := strOk_pt f3
      have sm := sm_mod hn
      have hl : ks.length < 64 := by have := S.lk kk3 kk4; omega
      have atQ : atI (X.qs.map V.ref) (j : Int) = some (.ref qa) := atI_nat (j := j) (by rw [List.getElem?_map, g3]; rfl)
      refine ⟨_, rfl, _, rfl, .inr (.inl ⟨a, dx, n, p, d, rfl, hma, fun t ht => ?_⟩)⟩
      have s1 : Same H (upd H t (.tup [.str "module", .int n])) := fun b o e => by rw [upd_ne (ne_of_none e ht)]; exact e
      have et : (upd H t (.tup [.str "module", .int n])) t = some (.tup [.str "module", .int n]) := upd_same
      obtain ⟨H1, e1⟩ : ∃ H1, upd H t (.tup [.str "module", .int n]) = H1 := ⟨_, rfl⟩
      rw [e1] at s1 et ⊢
      refine .inr ⟨t, .tuple [.str "module", .int n], rfl, .tup (SqT.of et) (.cons (.str _) (.cons (.int _) .nil)), sm.sh, sm.nd, Nat.le_trans sm.dp (by decide), shown_ok sm (by decide), _, rfl, _, rfl, X, u, rfl, S.same s1, .inr (.inl ⟨j, n, p, hf, s1 _ _ hu, fun t2 ht2 => ?_⟩)⟩
      have s2 : Same H (upd H1 t2 (.tup [.str "module", .int n])) := fun b o e => by rw [upd_ne (ne_of_none (s1 _ _ e) ht2)]; exact s1 _ _ e
      have et2 : (upd H1 t2 (.tup [.str "module", .int n])) t2 = some (.tup [.str "module", .int n]) := upd_same
      obtain ⟨H2, e2⟩ : ∃ H2, upd H1 t2 (.tup [.str "module", .int n]) = H2 := ⟨_, rfl⟩
      rw [e2] at s2 et2 ⊢
      refine .inr ⟨t2, .tuple [.str "module", .int n], rfl, .tup (SqT.of et2) (.cons (.str _) (.cons (.int _) .nil)), sm.sh, sm.nd, Nat.le_trans sm.dp (by decide), shown_ok sm (by decide), rfl, _, rfl, ?_⟩
      rw [neT]
      refine ⟨_, rfl, u, _, _, _, rfl, rfl, SqT.of (s2 _ _ hu), atI_nat (j := 0) rfl, rfl, _, rfl, ?_⟩
      rw [show decide (V.int 1 = V.int 1) = true from rfl]
      refine ⟨_, rfl, _, _, _, _, _, rfl, .own X.C, ins_ty T.c1 (s2 _ _ hma), T.c1.me, _, rfl, ?_⟩
      refine iteT ?_
      refine ⟨_, rfl, a, X.C, dx, _, _, rfl, s2 _ _ hma, T.c1.cl, T.n1, mF_n _ _ _, _, rfl, a, X.C, dx, _, _, rfl, s2 _ _ hma, T.c1.cl, T.n2, mF_p _ _ _, sz (by simp), fun t3 ht3 => ?_⟩
      have s3 : Same H (upd H2 t3 (.tup [.int n, .str p])) := fun b o e => by rw [upd_ne (ne_of_none (s2 _ _ e) ht3)]; exact s2 _ _ e
      have et3 : (upd H2 t3 (.tup [.int n, .str p])) t3 = some (.tup [.int n, .str p]) := upd_same
      obtain ⟨H3, e3⟩ : ∃ H3, upd H2 t3 (.tup [.int n, .str p]) = H3 := ⟨_, rfl⟩
      rw [e3] at s3 et3 ⊢
      refine ⟨_, rfl, _, rfl, u, _, _, _, rfl, rfl, SqT.of (s3 _ _ hu), atI_nat (j := 1) rfl, X.F, xs, _, .ref x, rfl, rfl, SqL.of (s3 _ _ eF), atI_nat ex, .tuple [.int n, .str p], .tuple [.int n, .str p], .tup (SqT.of et3) (.cons (.int _) (.cons (.str _) .nil)), .tup (SqT.of (s3 _ _ hx)) (.cons (.int _) (.cons (.str _) .nil)), shp_fact sp, shp_fact sp, ?_⟩
      rw [eqv_fact sp]
      refine ⟨_, rfl, _, rfl, ?_⟩
      refine iteT ?_
      refine ⟨_, rfl, a, dx, _, rfl, s3 _ _ hma, mF_no _ _ _ (by decide +kernel) (by decide +kernel) (by decide +kernel), a, d, n, p, kvs, ks, rfl, ⟨⟨dx, s3 _ _ hma⟩, s3 _ _ hd⟩, kk1, hl, fun ys t4 pm so ht4 => ?_⟩
      have s4 : Same H (upd H3 t4 (.lst (ys.map V.str))) := fun b o e => by rw [upd_ne (ne_of_none (s3 _ _ e) ht4)]; exact s3 _ _ e
      refine ⟨_, rfl, _, rfl, u, _, _, _, rfl, rfl, SqT.of (s4 _ _ hu), atI_nat (j := 1) rfl, X.M, _, _, .ref qa, rfl, rfl, SqL.of (s4 _ _ S.hM), atQ, qa, mvs, ks, rfl, .inl (s4 _ _ hq), kk2, hl, fun zs t5 pz sz' ht5 => ?_⟩
      obtain rfl : ys = zs := sorted_same (pm.trans pz.symm) so sz'
      have oks : ∀ y ∈ ys, PyData.strOk y = true := fun y hy => strOk_nm (S.okN y (kk4 y (pm.mem_iff.mp hy)))
      have nt45 : t4 ≠ t5 := ne_of_none (upd_same : (upd H3 t4 (.lst (ys.map V.str))) t4 = _) ht5
      refine ⟨.list (ys.map PyData.str), .list (ys.map PyData.str), .lst (SqL.of (by rw [upd_ne nt45]; exact upd_same)) (dp_strs ys), .lst (SqL.of upd_same) (dp_strs ys), shaped_strs oks, shaped_strs oks, ?_⟩
      rw [eqv_strs' oks]
      exact q _ fun b o e => by rw [upd_ne (ne_of_none (s4 _ _ e) ht5)]; exact s4 _ _ e
    | @fn u a L dl j n p r hf ha hL hr' hu =>
      obtain ⟨a', d, qa, kvs, mvs, ks, g1, g2, g3, hM, hq, kk1, kk2, kk3, kk4, kk5⟩ := S.row j n p hf
      rw [ha] at g1
      cases g1
      obtain ⟨⟨dx, hma⟩, hd⟩ := id hM
      obtain ⟨xs, x, eF, ex, hx⟩ := S.fact hf
      obtain ⟨f1, f2, f3⟩ := S.okA hf
      have hn : n.natAbs < 10 ^ 60 := by
        have h1 : 1 ≤ n := f1
        have h2 : n < 10 ^ 60 := f2
        omega
      have sp : PyData.strOk p = true := strOk_pt f3
      have sm := sm_fun hn hr'.1
      refine ⟨_, rfl, _, rfl, .inr (.inr ⟨L, dl, a, r, dx, n, p, d, rfl, hL, hma, fun t ht => ?_⟩)⟩
      have s1 : Same H (upd H t (.tup [.str "function", .int n, .str r])) := fun b o e => by rw [upd_ne (ne_of_none e ht)]; exact e
      have et : (upd H t (.tup [.str "function", .int n, .str r])) t = some (.tup [.str "function", .int n, .str r]) := upd_same
      obtain ⟨H1, e1⟩ : ∃ H1, upd H t (.tup [.str "function", .int n, .str r]) = H1 := ⟨_, rfl⟩
      rw [e1] at s1 et ⊢
      refine .inr ⟨t, .tuple [.str "function", .int n, .str r], rfl, .tup (SqT.of et) (.cons (.str _) (.cons (.int _) (.cons (.str _) .nil))), sm.sh, sm.nd, Nat.le_trans sm.dp (by decide), shown_ok sm (by decide), _, rfl, _, rfl, X, u, rfl, S.same s1, .inr (.inr ⟨j, n, p, r, hf, s1 _ _ hu, fun t2 ht2 => ?_⟩)⟩
      have s2 : Same H (upd H1 t2 (.tup [.str "function", .int n, .str r])) := fun b o e => by rw [upd_ne (ne_of_none (s1 _ _ e) ht2)]; exact s1 _ _ e
      have et2 : (upd H1 t2 (.tup [.str "function", .int n, .str r])) t2 = some (.tup [.str "function", .int n, .str r]) := upd_same
      obtain ⟨H2, e2⟩ : ∃ H2, upd H1 t2 (.tup [.str "function", .int n, .str r]) = H2 := ⟨_, rfl⟩
      rw [e2] at s2 et2 ⊢
      refine .inr ⟨t2, .tuple [.str "function", .int n, .str r], rfl, .tup (SqT.of et2) (.cons (.str _) (.cons (.int _) (.cons (.str _) .nil))), sm.sh, sm.nd, Nat.le_trans sm.dp (by decide), shown_ok sm (by decide), rfl, _, rfl, ?_⟩
      rw [neT]
      refine ⟨_, rfl, u, _, _, _, rfl, rfl, SqT.of (s2 _ _ hu), atI_nat (j := 0) rfl, rfl, _, rfl, ?_⟩
      rw [neV 2 1 (by decide)]
      refine ⟨_, rfl, u, _, _, _, rfl, rfl, SqT.of (s2 _ _ hu), atI_nat (j := 0) rfl, rfl, _, rfl, ?_⟩
      rw [show decide (V.int 2 = V.int 2) = true from rfl]
      refine ⟨_, rfl, _, _, _, _, _, rfl, .own X.D, ins_ty T.c2 (s2 _ _ hL), T.c2.me, _, rfl, ?_⟩
      refine iteT ?_
      refine ⟨_, rfl, L, X.D, dl, _, _, rfl, s2 _ _ hL, T.c2.cl, T.n5, lF_r _ _, _, rfl, u, _, _, _, rfl, rfl, SqT.of (s2 _ _ hu), atI_nat (j := 2) rfl, rfl, ?_⟩
      rw [neT]
      refine ⟨_, rfl, _, rfl, ?_⟩
      refine iteT ?_
      refine ⟨_, rfl, L, X.D, dl, _, _, rfl, s2 _ _ hL, T.c2.cl, T.n4, lF_h _ _, a, X.C, dx, _, _, rfl, s2 _ _ hma, T.c1.cl, T.n1, mF_n _ _ _, _, rfl, L, X.D, dl, _, _, rfl, s2 _ _ hL, T.c2.cl, T.n4, lF_h _ _, a, X.C, dx, _, _, rfl, s2 _ _ hma, T.c1.cl, T.n2, mF_p _ _ _, sz (by simp), fun t3 ht3 => ?_⟩
      have s3 : Same H (upd H2 t3 (.tup [.int n, .str p])) := fun b o e => by rw [upd_ne (ne_of_none (s2 _ _ e) ht3)]; exact s2 _ _ e
      refine ⟨_, rfl, _, rfl, u, _, _, _, rfl, rfl, SqT.of (s3 _ _ hu), atI_nat (j := 1) rfl, X.F, xs, _, .ref x, rfl, rfl, SqL.of (s3 _ _ eF), atI_nat ex, .tuple [.int n, .str p], .tuple [.int n, .str p], .tup (SqT.of upd_same) (.cons (.int _) (.cons (.str _) .nil)), .tup (SqT.of (s3 _ _ hx)) (.cons (.int _) (.cons (.str _) .nil)), shp_fact sp, shp_fact sp, ?_⟩
      rw [eqv_fact sp]
      exact q _ s3
end
end D24
set_option maxHeartbeats 4000000
/-! k22: what is due, what is said, do they agree -/
namespace D24
open PySem PySem.Spec PyProof.Rows L2 HM XW XR K11 XM XSo XV XS NdefX XT
/-- a call by a promise that asks that no repr is under way; what is raised is wished for at the caller's slots -/
theorem pe_callGS {X : Cx} {CX : CXT} {k : Nat} {f : Addr} {fd : FuncData} {ps : List Str} {sp : Sp} {dvs : List V} {ds : List Value} {E : L2.St → XK} {x : Str} {p pos : Pos} {e : Expr} {es : List Expr} {t : TA}
    (F : FnG X.prog X.w X.K X.mg X.base CX k f fd ps sp) (hr : Room k X.A) (hgd : X.A.guards = some []) (hg : Gl X x) (hm : X.mg x = some (.ref f)) (hk : PySem.W.keepIn X.K (.ref f) = true) (hb : Binds X.K fd ps ds) (hd : Vals dvs ds) (hx : ∀ σ, PassesAt CX X σ (E σ))
    (ha : PA X (e :: es) t) (hdb : (x == ("__debug__" : Str)) = false := by decide) (he : starEach (e :: es) X.env = (false, eval e X.env) :: starEach es X.env := by rfl) (hpl : (backTo pos (starEach es X.env)).any (·.1) = false := by rfl) :
    PE X (.Call (.Name x p) (e :: es) [] pos) (tCallSD sp dvs E t) := by
  refine ⟨fun pins s σ H Q I h => wpAny_Call_Name_kw (ld_glob I hg hm ?_ hdb)⟩
  refine PySem.W.callWith_K (h₀ := X.base) I.ok.mod.kin hk (thn (ha.run pos pins s σ H _ I h) fun us s1 ⟨vs, H1, I1, r, q⟩ => ⟨I1.kIn, ?_⟩) he hpl
  have r2 : Vals (vs ++ dvs) (us ++ ds) := r.append hd
  refine wpAny_call (codeAny_mono (F.run X.A X.stack s1 H1 ⟨us, []⟩ (us ++ ds) (vs ++ dvs) Q (E σ) hr hgd I1.env0 (hb s1 us I1.kIn (by rw [← r2.length]; exact F.len _ _ _ _ q)) r2 q) fun r s' hq => ?_)
  match r, hq with
  | .error e, hq => exact hx σ pins H1 s1 e s' I1 hq
  | .ok (.ret u), hq => exact I1.after hq
abbrev sAg : Stmt := top 34
theorem scAg : FnScope ["_law_said_here", "_law_due_here", "_law_facts_here", "_law_models"] ["_law_said_here", "_law_due_here", "_law_facts_here", "_law_models"] (defScope sAg) := ⟨rfl, rfl, rfl, by decide +kernel, rfl, by decide +kernel, by decide +kernel⟩
/-- the thing that is said, the thing that is due -/
inductive AgR (X : Pm) (H : Hp) (sd du : Addr) : Prop
  | thing {v : V} {u : Addr} : H sd = some (.tup [.str "thing", v]) → H du = some (.tup [.str "thing", .ref u]) → KdR X H v u → AgR X H sd du
  | fault {F G : Addr} {d : PyData} : H sd = some (.tup [.str "fault", .ref F]) → H du = some (.tup [.str "fault", .ref G]) → Rg AllA H (.ref F) d → Rg AllA H (.ref G) d → SmX d 3 3000 → AgR X H sd du
def spAg (C D : Addr) : Sp := fun vs H Q _ => ∃ (X : Pm) (sd du : Addr), X.C = C ∧ X.D = D ∧ vs = [.ref sd, .ref du, .ref X.F, .ref X.M] ∧ Wh X H ∧ AgR X H sd du ∧ ∀ H', Same H H' → Q (.bl true) H'
section
variable {w : World} {K : PySem.W.Frag} {mg : Str → Option Value} {base : Heap} {f fI fF fL C D CF : Addr} {fd fdI fdF fdL : FuncData}
theorem ok_ag (F : FnP K "_law_agrees" sAg f fd) (GI : FnG pr w K mg base CX0 2 fI fdI ["_law_thing", "_law_kind_here", "_law_facts_here", "_law_models"] (spIs C D)) (FI : FnP K "_law_is_the" sIs fI fdI) (gI : mg "_law_is_the" = some (.ref fI)) (mp : mg "repr" = none) :
    FnG pr w K mg base CX0 3 f fd ["_law_said_here", "_law_due_here", "_law_facts_here", "_law_models"] (spAg C D) := by
  have bI : Binds K fdI ["_law_thing", "_law_kind_here", "_law_facts_here", "_law_models"] [] := FI.bindsN fun _ _ _ _ _ _ us hl => match us, hl with | [_, _, _, _], _ => rfl
  refine okG F scAg (fun vs H Q E h => ?_) (fun cdv A outer s H vs Q E hcd hr hgd h => ?_)
  · obtain ⟨X, sd, du, _, _, rfl, _⟩ := h
    rfl
  · obtain ⟨X, sd, du, hC, hD, rfl, S, hA, q⟩ := h
    refine ⟨_, PSs.nox (pss_cons (ps_if (pt_cmpR op_ne (pe_ix ix_tup (pv 0) pe_int (fun _ _ => rfl)) (pe_ix ix_tup (pv 1) pe_int (fun _ _ => rfl)) (nomark _)) (pss_one (ps_ret pe_bl)) pss_nil)
      (pss_cons (ps_if (pt_cmpR op_eq (pe_ix ix_tup (pv 1) pe_int (fun _ _ => rfl)) pe_str (nomark _)) (pss_one (ps_ret (pe_cmpR op_eq (pe_callB (call_reprA hr hgd) (by rfl) mp (by decide +kernel) (pa_cons (pe_ix ix_tup (pv 0) pe_int (fun _ _ => rfl)) pa_nil)) (pe_callB (call_reprA hr hgd) (by rfl) mp (by decide +kernel) (pa_cons (pe_ix ix_tup (pv 1) pe_int (fun _ _ => rfl)) pa_nil)) (nomark _)))) pss_nil)
      (pss_one (ps_ret (pe_callG GI hr hgd (by rfl) gI FI.kp bI .nil pass0 (pa_cons (pe_ix ix_tup (pv 0) pe_int (fun _ _ => rfl)) (pa_cons (pe_ix ix_tup (pv 1) pe_int (fun _ _ => rfl)) (pa_cons (pv 2) (pa_cons (pv 3) pa_nil))))))))), ?_⟩
    have neT : ∀ x : Str, decide (V.str x = V.str x) = true := fun x => decide_eq_true rfl
    have nTF : decide (V.str (Str.ofString "thing") = V.str (Str.ofString "fault")) = false := by decide +kernel
    cases hA with
    | @thing v u h1 h2 h3 =>
      refine ⟨_, rfl, sd, _, _, _, rfl, rfl, SqT.of h1, atI_nat (j := 0) rfl, _, rfl, du, _, _, _, rfl, rfl, SqT.of h2, atI_nat (j := 0) rfl, rfl, _, rfl, ?_⟩
      rw [neT]
      refine ⟨_, rfl, du, _, _, _, rfl, rfl, SqT.of h2, atI_nat (j := 0) rfl, rfl, _, rfl, ?_⟩
      rw [nTF]
      exact ⟨_, rfl, sd, _, _, _, rfl, rfl, SqT.of h1, atI_nat (j := 1) rfl, _, rfl, du, _, _, _, rfl, rfl, SqT.of h2, atI_nat (j := 1) rfl, _, rfl, _, rfl, X, v, u, hC, hD, rfl, S, h3, q⟩
    | @fault Fp Gp d h1 h2 r1 r2 sm =>
      refine ⟨_, rfl, sd, _, _, _, rfl, rfl, SqT.of h1, atI_nat (j := 0) rfl, _, rfl, du, _, _, _, rfl, rfl, SqT.of h2, atI_nat (j := 0) rfl, rfl, _, rfl, ?_⟩
      rw [neT]
      refine ⟨_, rfl, du, _, _, _, rfl, rfl, SqT.of h2, atI_nat (j := 0) rfl, rfl, _, rfl, ?_⟩
      rw [neT]
      refine ⟨_, rfl, sd, _, _, _, rfl, rfl, SqT.of h1, atI_nat (j := 1) rfl, .inr ⟨Fp, d, rfl, Rg_dp r1 sm.nd, sm.sh, sm.nd, Nat.le_trans sm.dp (by decide), shown_ok sm (by decide), _, rfl, du, _, _, _, rfl, rfl, SqT.of h2, atI_nat (j := 1) rfl, .inr ⟨Gp, d, rfl, Rg_dp r2 sm.nd, sm.sh, sm.nd, Nat.le_trans sm.dp (by decide), shown_ok sm (by decide), rfl, ?_⟩⟩⟩
      rw [neT]
      exact q H (Same.refl H)
end
end D24
set_option maxHeartbeats 4000000
/-! k23: roads followed by the program -/
namespace D24
open PySem PySem.Spec PyProof.Rows L2 HM XW XR K11 XM XSo XV XS NdefX
abbrev sLn : Stmt := top 4
abbrev sLm : Stmt := top 13
abbrev sLs : Stmt := top 14
abbrev sFo : Stmt := top 15
theorem scLn : FnScope ["path"] ["path"] (defScope sLn) := ⟨rfl, rfl, rfl, by decide +kernel, rfl, by decide +kernel, by decide +kernel⟩
theorem scLm : FnScope ["module", "name", "chain", "thing"] ["module", "name", "chain"] (defScope sLm) := ⟨rfl, rfl, rfl, by decide +kernel, rfl, by decide +kernel, by decide +kernel⟩
theorem scLs : FnScope ["module", "road", "chain", "name"] ["module", "road", "chain"] (defScope sLs) := ⟨rfl, rfl, rfl, by decide +kernel, rfl, by decide +kernel, by decide +kernel⟩
theorem scFo : FnScope ["module", "road", "chain"] ["module", "road", "chain"] (defScope sFo) := ⟨rfl, rfl, rfl, by decide +kernel, rfl, by decide +kernel, by decide +kernel⟩
/-- a name that is bound in the j-th module -/
def KvAt (X : Pm) (H : Hp) (j : Nat) (z : Str) (v : V) (u : Addr) : Prop := ∃ (n : Int) (p : Str) (a d q : Addr) (kvs mvs : List (Key × V)), X.fs[j]? = some (n, p) ∧ X.as[j]? = some a ∧ X.qs[j]? = some q ∧ MdAt X.C H a n p d kvs ∧ H q = some (.dK mvs) ∧ valV kvs (Sum.inr z : Key) = some v ∧ valV mvs (Sum.inr z : Key) = some (.ref u) ∧ KdR X H v u
def NoAt (X : Pm) (H : Hp) (j : Nat) (z : Str) : Prop := ∃ (n : Int) (p : Str) (a d q : Addr) (kvs mvs : List (Key × V)), X.fs[j]? = some (n, p) ∧ X.as[j]? = some a ∧ X.qs[j]? = some q ∧ MdAt X.C H a n p d kvs ∧ H q = some (.dK mvs) ∧ valV kvs (Sum.inr z : Key) = none ∧ valV mvs (Sum.inr z : Key) = none
theorem KvAt.same {X : Pm} {H H' : Hp} (k : Same H H') {j : Nat} {z : Str} {v : V} {u : Addr} : KvAt X H j z v u → KvAt X H' j z v u
  | ⟨n, p, a, d, q, kvs, mvs, h1, h2, h3, ⟨⟨dx, h4⟩, h5⟩, h6, h7, h8, h9⟩ => ⟨n, p, a, d, q, kvs, mvs, h1, h2, h3, ⟨⟨dx, k _ _ h4⟩, k _ _ h5⟩, k _ _ h6, h7, h8, h9.kt (kt_same k)⟩
theorem NoAt.same {X : Pm} {H H' : Hp} (k : Same H H') {j : Nat} {z : Str} : NoAt X H j z → NoAt X H' j z
  | ⟨n, p, a, d, q, kvs, mvs, h1, h2, h3, ⟨⟨dx, h4⟩, h5⟩, h6, h7, h8⟩ => ⟨n, p, a, d, q, kvs, mvs, h1, h2, h3, ⟨⟨dx, k _ _ h4⟩, k _ _ h5⟩, k _ _ h6, h7, h8⟩
theorem Wh.at {X : Pm} {H : Hp} (S : Wh X H) {j : Nat} (hj : j < X.fs.length) (z : Str) : NoAt X H j z ∨ ∃ v u, KvAt X H j z v u := by
  obtain ⟨⟨n, p⟩, hf⟩ : ∃ np, X.fs[j]? = some np := ⟨_, List.getElem?_eq_getElem hj⟩
  obtain ⟨a, d, q, kvs, mvs, ks, g1, g2, g3, hM, hq, k1, k2, k3, k4, k5⟩ := S.row j n p hf
  rcases k5 z with ⟨e1, e2⟩ | ⟨v, u, e1, e2, h⟩
  · exact .inl ⟨n, p, a, d, q, kvs, mvs, hf, g1, g3, hM, hq, e1, e2⟩
  · exact .inr ⟨v, u, n, p, a, d, q, kvs, mvs, hf, g1, g3, hM, hq, e1, e2, h⟩
/-- the thing is no module -/
def NoMod (H : Hp) (u : Addr) : Prop := (∃ i : Int, H u = some (.tup [.int 0, .int i])) ∨ ∃ (j : Nat) (r : Str), H u = some (.tup [.int 2, .int j, .str r])
theorem NoMod.same {H H' : Hp} (k : Same H H') {u : Addr} : NoMod H u → NoMod H' u
  | .inl ⟨i, h⟩ => .inl ⟨i, k _ _ h⟩
  | .inr ⟨j, r, h⟩ => .inr ⟨j, r, k _ _ h⟩
def flatD (fs : List (Int × Str)) (j : Nat) (z : Str) : PyData := .tuple [.str "FLAT", .str (pathO fs j), .str z]
/-- what a road leads to: a thing, or a fault -/
inductive Wk (X : Pm) (H : Hp) (cs : List (Nat × Int)) : Nat → List Str → Sum (V × Addr) PyData → Prop
  | last {j : Nat} {z : Str} {v : V} {u : Addr} : KvAt X H j z v u → Wk X H cs j [z] (.inl (v, u))
  | no {j : Nat} {z : Str} {r : List Str} : NoAt X H j z → Wk X H cs j (z :: r) (.inr (fltD X.fs cs j z))
  | flat {j : Nat} {z y : Str} {r : List Str} {v : V} {u : Addr} : KvAt X H j z v u → NoMod H u → Wk X H cs j (z :: y :: r) (.inr (flatD X.fs j z))
  | go {j j' : Nat} {z y : Str} {r : List Str} {a' u : Addr} {R : Sum (V × Addr) PyData} : KvAt X H j z (.ref a') u → H u = some (.tup [.int 1, .int j']) → X.as[j']? = some a' → j' < X.fs.length → Wk X H cs j' (y :: r) R → Wk X H cs j (z :: y :: r) R
theorem Wk.same {X : Pm} {H H' : Hp} {cs : List (Nat × Int)} (k : Same H H') : ∀ {j : Nat} {ws : List Str} {R : Sum (V × Addr) PyData}, Wk X H cs j ws R → Wk X H' cs j ws R
  | _, _, _, .last h => .last (h.same k)
  | _, _, _, .no h => .no (h.same k)
  | _, _, _, .flat h1 h2 => .flat (h1.same k) (h2.same k)
  | _, _, _, .go h1 h2 h3 h4 h5 => .go (h1.same k) (k _ _ h2) h3 h4 (h5.same k)
theorem kd_kind {X : Pm} {H : Hp} {v : V} {u : Addr} (S : Wh X H) (h : KdR X H v u) : NoMod H u ∨ ∃ (j' : Nat) (a' : Addr), v = .ref a' ∧ H u = some (.tup [.int 1, .int j']) ∧ X.as[j']? = some a' ∧ j' < X.fs.length := by
  cases h with
  | num i h1 h2 => exact .inl (.inl ⟨i, h2⟩)
  | mod h1 h2 h3 => exact .inr ⟨_, _, rfl, h3, h2, (List.getElem?_eq_some_iff.mp h1).1⟩
  | fn h1 h2 h3 h4 h5 => exact .inl (.inr ⟨_, _, h5⟩)
theorem Wh.wk {X : Pm} {H : Hp} (S : Wh X H) (cs : List (Nat × Int)) : ∀ {ws : List Str} {j : Nat}, ws ≠ [] → j < X.fs.length → ∃ R, Wk X H cs j ws R
  | [], _, h, _ => absurd rfl h
  | [z], j, _, hj => by
    rcases S.at hj z with h | ⟨v, u, h⟩
    · exact ⟨_, .no h⟩
    · exact ⟨_, .last h⟩
  | z :: y :: r, j, _, hj => by
    rcases S.at hj z with h | ⟨v, u, h⟩
    · exact ⟨_, .no h⟩
    · obtain ⟨_, _, _, _, _, _, _, _, _, _, _, _, _, _, h9⟩ := id h
      rcases kd_kind S h9 with k | ⟨j', a', rfl, k1, k2, k3⟩
      · exact ⟨_, .flat h k⟩
      · obtain ⟨R, hR⟩ := S.wk cs (ws := y :: r) (j := j') (by simp) k3
        exact ⟨R, .go h k1 k2 k3 hR⟩
/-- a chain that is handed in, and what holds of it -/
structure Cn (X : Pm) (H : Hp) (c : Addr) (hs : List V) (cs : List (Nat × Int)) : Prop where
  ec : H c = some (.lst hs)
  hd : HdR X.as H hs cs
  ck : CkOk X.fs.length cs
  h16 : cs.length ≤ 16
theorem Cn.same {X : Pm} {H H' : Hp} {c : Addr} {hs : List V} {cs : List (Nat × Int)} (h : Cn X H c hs cs) (k : Same H H') : Cn X H' c hs cs := ⟨k _ _ h.ec, h.hd.kt (kt_same k), h.ck, h.h16⟩
/-- an exception with this fault -/
abbrev Ft (CF : Addr) (H : Hp) (E : XK) (d : PyData) : Prop := ∀ (H' : Hp) (dx Fp : Addr), Same H H' → H' dx = some (.xd [("fault", .ref Fp)]) → Rg AllA H' (.ref Fp) d → E (.ref CF) (some dx) H'
def spLn : Sp := fun vs H Q _ => ∃ ws : List Str, vs = [.str (Txt.join (Str.ofString ".") ws)] ∧ ws ≠ [] ∧ ws.length ≤ 4 ∧ (∀ w ∈ ws, nmOk w) ∧ ∀ H', Same H H' → Q (.str (ws.getLastD (Str.ofString ""))) H'
def spLm (C D CF : Addr) : Sp := fun vs H Q E => ∃ (X : Pm) (a c : Addr) (j : Nat) (z : Str) (hs : List V) (cs : List (Nat × Int)), X.C = C ∧ X.D = D ∧ vs = [.ref a, .str z, .ref c] ∧ Wh X H ∧ X.as[j]? = some a ∧ j < X.fs.length ∧ Cn X H c hs cs ∧ nmOk z ∧
  ((NoAt X H j z ∧ Ft CF H E (fltD X.fs cs j z)) ∨ (∃ v u, KvAt X H j z v u ∧ NoMod H u ∧ Ft CF H E (flatD X.fs j z)) ∨ (∃ (j' : Nat) (a' u : Addr), KvAt X H j z (.ref a') u ∧ H u = some (.tup [.int 1, .int j']) ∧ X.as[j']? = some a' ∧ Q (.ref a') H))
def spLs (C D CF : Addr) : Sp := fun vs H Q E => ∃ (X : Pm) (a c : Addr) (j : Nat) (ws : List Str) (hs : List V) (cs : List (Nat × Int)) (R : Sum (V × Addr) PyData), X.C = C ∧ X.D = D ∧ vs = [.ref a, .str (Txt.join (Str.ofString ".") ws), .ref c] ∧ Wh X H ∧ X.as[j]? = some a ∧ j < X.fs.length ∧ Cn X H c hs cs ∧
  ws ≠ [] ∧ ws.length ≤ 4 ∧ (∀ w ∈ ws, nmOk w) ∧ Wk X H cs j ws R ∧ (∀ (H' : Hp) (j' : Nat) (a' : Addr), Same H H' → X.as[j']? = some a' → j' < X.fs.length → Wk X H' cs j' [ws.getLastD (Str.ofString "")] R → Q (.ref a') H') ∧ (∀ d, R = .inr d → Ft CF H E d)
def spFo (C D CF : Addr) : Sp := fun vs H Q E => ∃ (X : Pm) (a c : Addr) (j : Nat) (ws : List Str) (hs : List V) (cs : List (Nat × Int)) (R : Sum (V × Addr) PyData), X.C = C ∧ X.D = D ∧ vs = [.ref a, .str (Txt.join (Str.ofString ".") ws), .ref c] ∧ Wh X H ∧ X.as[j]? = some a ∧ j < X.fs.length ∧ Cn X H c hs cs ∧
  ws ≠ [] ∧ ws.length ≤ 4 ∧ (∀ w ∈ ws, nmOk w) ∧ Wk X H cs j ws R ∧ (∀ (H' : Hp) (v : V) (u : Addr), R = .inl (v, u) → Same H H' → Q v H') ∧ (∀ d, R = .inr d → Ft CF H E d)
theorem nodot {w : Str} (h : nmOk w) : 46 ∉ TL.tl w := fun hc => by
  have := nm_low h 46 hc
  rw [low_dot] at this
  cases this
theorem split_pt {ws : List Str} (hne : ws ≠ []) (h : ∀ w ∈ ws, nmOk w) : Txt.split (Txt.join (Str.ofString ".") ws) (Str.ofString ".") = ws := TL.split_join XT2.tl_dot (by decide +kernel) hne fun p hp => nodot (h p hp)
theorem len_pt {ws : List Str} (h4 : ws.length ≤ 4) (h : ∀ w ∈ ws, nmOk w) : (Txt.join (Str.ofString ".") ws).length ≤ 40 := by
  have h1 := len_join (Str.ofString ".") ws
  have h2 := nms_sum ws h
  have h3 : (Str.ofString ".").length = 1 := by decide +kernel
  rw [h3] at h1
  omega
theorem cut_last (xs : List V) : cutV xs none (some (-1)) = xs.dropLast := by
  unfold cutV
  have e : HT.sIx xs.length xs.length (some (-1)) = xs.length - 1 := by
    have := HT.clip_eq (-1) xs.length xs.length
    rw [if_pos (by decide)] at this
    omega
  rw [HT.sIx_none, e, List.drop_zero, Nat.sub_zero, List.dropLast_eq_take]
theorem at_last {ws : List Str} (hne : ws ≠ []) : atI (ws.map V.str) (-1) = some (.str (ws.getLastD (Str.ofString ""))) := by
  obtain ⟨r, z, rfl⟩ : ∃ r z, ws = r ++ [z] := ⟨ws.dropLast, ws.getLast hne, (List.dropLast_concat_getLast hne).symm⟩
  rw [List.map_append, List.getLastD_concat]
  exact atI_last _ _
theorem sm_flat {fs : List (Int × Str)} {j : Nat} {z : Str} (hF : ∀ p ∈ fs, factOk p) (hj : j < fs.length) (hz : nmOk z) : SmX (flatD fs j z) 3 3000 := by
  obtain ⟨⟨n, p⟩, hf⟩ : ∃ np, fs[j]? = some np := ⟨_, List.getElem?_eq_getElem hj⟩
  have okp := (hF _ (List.mem_of_getElem? hf)).2.2
  unfold flatD
  rw [pathO_of hf]
  exact (SmA.tup (n := 0) (SmA.cons (sm_str (by unfold ascS; decide +kernel) (by decide +kernel)) (SmA.cons (sm_str (asc_pt okp) (XT2.good_pt okp).2) (SmA.cons (sm_str (asc_nm hz) (XT2.good_nm hz).2) SmA.nil)))).mono (by decide) (by decide)
section
variable {w : World} {K : PySem.W.Frag} {mg : Str → Option Value} {base : Heap} {f fL fM fN fS fF C D CF : Addr} {fd fdL fdM fdN fdS fdF : FuncData}
theorem ok_ln (F : FnP K "last_name" sLn f fd) : FnOk pr w K mg base CX0 1 f fd ["path"] spLn := by
  refine ok_code F scLn (fun vs H Q E h => ?_) (fun cdv A outer s H vs Q E hcd hr h => ?_)
  · obtain ⟨ws, rfl, _⟩ := h
    rfl
  · obtain ⟨ws, rfl, hne, h4, hw, q⟩ := h
    refine ⟨_, pss_one (ps_ret (pe_ix ix_list (pe_split (pv 0) pe_str) (pe_un un_neg pe_int) (fun _ _ => rfl))), ?_⟩
    have hl := len_pt h4 hw
    refine ⟨_, rfl, ⟨_, rfl⟩, _, _, rfl, rfl, by decide +kernel, sz (by omega), fun t ht => ?_⟩
    rw [split_pt hne hw]
    exact ⟨1, rfl, t, _, -1, _, rfl, rfl, SqL.of upd_same, at_last hne, q _ fun b o e => by rw [upd_ne (ne_of_none e ht)]; exact e⟩
theorem ok_lm (F : FnP K "look_for_module" sLm f fd) (T : ClT K mg C D) (GL : FnG pr w K mg base (L2N.CX pr w) 3 fL fdL ["module", "name", "chain"] (spLk C CF)) (FL : FnP K "look" sLk fL fdL) (gL : mg "look" = some (.ref fL))
    (IF : InF K mg CF fF) (GF : FnG pr w K mg base CX0 1 fF fdF ["self", "fault"] (spIF K CF)) (bF : Binds K fdF ["self", "fault"] []) (mi : mg "isinstance" = none) : FnG pr w K mg base (L2N.CX pr w) 4 f fd ["module", "name", "chain"] (spLm C D CF) := by
  have bL : Binds K fdL ["module", "name", "chain"] [] := FL.bindsN fun _ _ _ _ _ _ us hl => match us, hl with | [_, _, _], _ => rfl
  refine okG F scLm (fun vs H Q E h => ?_) (fun cdv A outer s H vs Q E hcd hr hgd h => ?_)
  · obtain ⟨X, a, c, j, z, hs, cs, _, _, rfl, _⟩ := h
    rfl
  · obtain ⟨X, a, c, j, z, hs, cs, hC, hD, rfl, S, haj, hj, cn, hz, hq⟩ := h
    subst hC hD
    have hr2 : Room 2 (A.deeper (envOfC "look_for_module" (defScope sLm) s.heap.objs.size f cdv)) := hr.mono (by decide)
    have tk : L2N.Takes (cxOf (L2N.CX pr w) pr w K mg base ["module", "name", "chain", "thing"] "look_for_module" (defScope sLm) f cdv A outer s H E) (fun cls d _ H => E cls d H) := L2N.takes_of rfl rfl rfl rfl
    refine ⟨_, pss_cons (ps_set (i := 3) scLm.nd rfl (.inl rfl) (pe_callGS (E := L2.WE fun cls d _ H => E cls d H) GL hr hgd (by rfl) gL FL.kp bL .nil (fun σ => L2N.passAt tk σ) (pa_cons (pv 0) (pa_cons (pv 1) (pa_cons (pv 2) pa_nil)))))
      (pss_cons (ps_if (pt_not (pt_val (pe_callB call_isi (by rfl) mi PyProof.Rows.boot_isinstance (pa_cons (pv 3) (pa_cons (pe_glob (v := .ref X.C) (by rfl) T.mC rfl) pa_nil)))))
        (pss_one (L2N.ps_raise rfl tk (pmk_mkR IF.sc.oex IF.fi IF.ty GF hr2 hgd bF pass0 (by rfl) IF.glo (pa_cons (pe_tup (pa_cons pe_str (pa_cons (pe_fld (pv 0) rfl) (pa_cons (pv 1) pa_nil)))) pa_nil)))) pss_nil)
      (pss_one (ps_ret (pv 3)))), ?_⟩
    obtain ⟨⟨n, p⟩, hf⟩ : ∃ np, X.fs[j]? = some np := ⟨_, List.getElem?_eq_getElem hj⟩
    have nomod : ∀ {v : V} {u : Addr}, KdR X H v u → NoMod H u → ∃ t, TyX K H v t ∧ PySem.W.kitOne K t (.ref X.C) = some false := fun {v u} h hn => by
      cases h with
      | num i h1 h2 => exact ⟨_, .base (.int i), T.ic⟩
      | mod h1 h2 h3 =>
        rcases hn with ⟨i, hn⟩ | ⟨j, r, hn⟩
        · rw [h3] at hn
          cases hn
        · rw [h3] at hn
          cases hn
      | fn h1 h2 h3 h4 h5 => exact ⟨_, ins_ty T.c2 h3, T.cd⟩
    rcases hq with ⟨⟨n', p', a', d, qa, kvs, mvs, e1, e2, e3, hM, hq, e4, e5⟩, ft⟩ | ⟨v, u, ⟨n', p', a', d, qa, kvs, mvs, e1, e2, e3, hM, hq, e4, e5, e6⟩, nm, ft⟩ | ⟨j', b, u, ⟨n', p', a', d, qa, kvs, mvs, e1, e2, e3, hM, hq, e4, e5, e6⟩, hu, hb, q⟩
    · rw [haj] at e2
      cases e2
      exact ⟨_, rfl, _, rfl, _, rfl, X, a, c, d, j, n', p', z, kvs, hs, cs, rfl, rfl, S, e1, haj, hM, cn.ec, cn.hd, cn.ck, cn.h16, hz, .inr ⟨e4, ft⟩⟩
    · rw [haj] at e2
      cases e2
      obtain ⟨t, ty, kt⟩ := nomod e6 nm
      obtain ⟨⟨dx, hma⟩, hdd⟩ := id hM
      refine ⟨_, rfl, _, rfl, _, rfl, X, a, c, d, j, n', p', z, kvs, hs, cs, rfl, rfl, S, e1, haj, hM, cn.ec, cn.hd, cn.ck, cn.h16, hz, .inl ⟨v, e4, ?_⟩⟩
      refine ⟨_, rfl, _, _, _, _, _, rfl, .own X.C, ty, kt, _, rfl, ?_⟩
      have smF := sm_flat (z := z) S.okF hj hz
      have eD : flatD X.fs j z = .tuple [.str "FLAT", .str p', .str z] := by
        unfold flatD
        rw [pathO_of e1]
      rw [eD] at ft smF
      refine ⟨_, rfl, a, X.C, dx, _, _, rfl, hma, T.c1.cl, T.n2, mF_p _ _ _, _, rfl, sz (by simp), fun Fp hFp => ⟨by simp, fun e he => ?_⟩⟩
      have s2 : Same H (upd H Fp (.tup [.str "FLAT", .str p', .str z])) := fun b o e => by rw [upd_ne (ne_of_none e hFp)]; exact e
      have eF : (upd H Fp (.tup [.str "FLAT", .str p', .str z])) Fp = some (.tup [.str "FLAT", .str p', .str z]) := upd_same
      obtain ⟨H2, eH2⟩ : ∃ H2, (upd H Fp (.tup [.str "FLAT", .str p', .str z])) = H2 := ⟨_, rfl⟩
      rw [eH2] at s2 eF he ⊢
      refine ⟨e, Fp, .tuple [.str "FLAT", .str p', .str z], rfl, upd_same, .tup (SqT.of (by rw [upd_ne (ne_of_none eF he)]; exact eF)) (.cons (.str _) (.cons (.str _) (.cons (.str _) .nil))), (SmX.smD smF (by decide) (by decide)), fun dx' g1 n1 => ⟨rfl, dx', _, hF_a (p := Fp), hF_d n1, dx_none g1 n1, ?_⟩⟩
      have s4 : Same H2 (upd (del (hF H2 e dx' CF Fp) e) dx' (.xd [("fault", .ref Fp)])) := same_go (same_hF (p := Fp) he g1) he (dx_none g1 n1)
      exact ft _ dx' Fp (s2.trans s4) upd_same (.tup (s4 _ _ eF) (.cons (.str _) (.cons (.str _) (.cons (.str _) .nil))))
    · rw [haj] at e2
      cases e2
      have hj' : j' < X.fs.length := by rw [← S.la]; exact (List.getElem?_eq_some_iff.mp hb).1
      obtain ⟨⟨n2, p2⟩, hf2⟩ : ∃ np, X.fs[j']? = some np := ⟨_, List.getElem?_eq_getElem hj'⟩
      obtain ⟨b', _, _, _, _, _, gb, _, _, ⟨⟨dy, hmb⟩, _⟩, _⟩ := S.row j' n2 p2 hf2
      rw [hb] at gb
      cases gb
      refine ⟨_, rfl, _, rfl, _, rfl, X, a, c, d, j, n', p', z, kvs, hs, cs, rfl, rfl, S, e1, haj, hM, cn.ec, cn.hd, cn.ck, cn.h16, hz, .inl ⟨.ref b, e4, ?_⟩⟩
      refine ⟨_, rfl, _, _, _, _, _, rfl, .own X.C, ins_ty T.c1 hmb, T.c1.me, _, rfl, ?_⟩
      exact ⟨_, rfl, q⟩
theorem last_drop {ws : List Str} {i : Nat} (h : i + 1 = ws.length) : ws.drop i = [ws.getLastD (Str.ofString "")] := by
  have hne : ws ≠ [] := fun z => by rw [z] at h; simp at h
  obtain ⟨r, z, rfl⟩ : ∃ r z, ws = r ++ [z] := ⟨ws.dropLast, ws.getLast hne, (List.dropLast_concat_getLast hne).symm⟩
  rw [List.getLastD_concat]
  rw [List.length_append, List.length_singleton] at h
  have e : i = r.length := by omega
  rw [e, List.drop_left]
theorem ok_ls (F : FnP K "last_module" sLs f fd) (GM : FnG pr w K mg base (L2N.CX pr w) 4 fM fdM ["module", "name", "chain"] (spLm C D CF)) (FM : FnP K "look_for_module" sLm fM fdM) (gM : mg "look_for_module" = some (.ref fM)) :
    FnG pr w K mg base (L2N.CX pr w) 5 f fd ["module", "road", "chain"] (spLs C D CF) := by
  have bM : Binds K fdM ["module", "name", "chain"] [] := FM.bindsN fun _ _ _ _ _ _ us hl => match us, hl with | [_, _, _], _ => rfl
  refine okG F scLs (fun vs H Q E h => ?_) (fun cdv A outer s H vs Q E hcd hr hgd h => ?_)
  · obtain ⟨X, a, c, j, ws, hs, cs, R, _, _, rfl, _⟩ := h
    rfl
  · obtain ⟨X, a, c, j, ws, hs, cs, R, hC, hD, rfl, S, haj, hj, cn, hne, h4, hw, wk, q, ft⟩ := h
    have tk : L2N.Takes (cxOf (L2N.CX pr w) pr w K mg base ["module", "road", "chain", "name"] "last_module" (defScope sLs) f cdv A outer s H E) (fun cls d _ H => E cls d H) := L2N.takes_of rfl rfl rfl rfl
    refine ⟨_, pss_cons (ps_for (L2.passes_of rfl) rfl (pi_list (pe_slice sl_list (pe_split (pv 1) pe_str) po_none (po_some (pe_un un_neg pe_int)))) (pg_name (i := 3) scLs.nd rfl (.inl rfl))
        (pss_one (ps_set (i := 0) scLs.nd rfl (.inl rfl) (pe_callGS (E := L2.WE fun cls d _ H => E cls d H) GM hr hgd (by rfl) gM FM.kp bM .nil (fun σ => L2N.passAt tk σ) (pa_cons (pv 0) (pa_cons (pv 3) (pa_cons (pv 2) pa_nil)))))))
      (pss_one (ps_ret (pv 0))), ?_⟩
    have hl := len_pt h4 hw
    have l0 : 0 < ws.length := List.length_pos_iff.mpr hne
    refine ⟨_, rfl, ⟨_, rfl⟩, _, _, rfl, rfl, by decide +kernel, sz (by omega), fun t ht => ?_⟩
    rw [split_pt hne hw]
    have s1 : Same H (upd H t (.lst (ws.map V.str))) := fun b o e => by rw [upd_ne (ne_of_none e ht)]; exact e
    refine ⟨1, rfl, _, rfl, t, _, rfl, SqL.of upd_same, fun t2 ht2 => ?_⟩
    rw [cut_last]
    have s2 : Same H (upd (upd H t (.lst (ws.map V.str))) t2 (.lst (ws.map V.str).dropLast)) := fun b o e => by rw [upd_ne (ne_of_none (s1 _ _ e) ht2)]; exact s1 _ _ e
    have et2 : (upd (upd H t (.lst (ws.map V.str))) t2 (.lst (ws.map V.str).dropLast)) t2 = some (.lst (ws.map V.str).dropLast) := upd_same
    obtain ⟨H2, e2⟩ : ∃ H2, (upd (upd H t (.lst (ws.map V.str))) t2 (.lst (ws.map V.str).dropLast)) = H2 := ⟨_, rfl⟩
    rw [e2] at s2 et2 ⊢
    have ldl : (ws.map V.str).dropLast.length = ws.length - 1 := by rw [List.length_dropLast, List.length_map]
    refine ⟨t2, rfl, ⟨_, SqL.of et2⟩, ?_⟩
    refine for_it (walk_list (xs := (ws.map V.str).dropLast)) (fun i σ H' => ∃ (v3 : Option V) (a' : Addr) (j' : Nat), σ = [some (.ref a'), some (.str (Txt.join (Str.ofString ".") ws)), some (.ref c), v3] ∧ H' = H2 ∧ X.as[j']? = some a' ∧ j' < X.fs.length ∧ Wk X H2 cs j' (ws.drop i) R)
      ⟨none, a, j, rfl, rfl, haj, hj, wk.same s2⟩ (fun i σ H' _ ⟨_, _, _, _, e, _⟩ => by rw [e]; exact SqL.of et2) ?_ ?_
    · rintro i x σ H3' H3 hi ⟨v3, a', j', rfl, e3, haj', hj', wk'⟩ ⟨rfl, hx⟩
      rw [e3]
      have hi1 : i + 1 < ws.length := by omega
      obtain ⟨z, hz⟩ : ∃ z, ws[i]? = some z := ⟨_, List.getElem?_eq_getElem (by omega)⟩
      obtain rfl : x = .str z := by
        rw [List.dropLast_eq_take, List.getElem?_take, if_pos (by rw [List.length_map]; omega), List.getElem?_map, hz] at hx
        exact (Option.some.inj hx).symm
      obtain ⟨y, hy⟩ : ∃ y, ws[i + 1]? = some y := ⟨_, List.getElem?_eq_getElem hi1⟩
      have ed : ws.drop i = z :: y :: ws.drop (i + 2) := by
        rw [List.drop_eq_getElem_cons (by omega), List.drop_eq_getElem_cons (by omega)]
        have e1 := (List.getElem?_eq_some_iff.mp hz).2
        have e2 := (List.getElem?_eq_some_iff.mp hy).2
        rw [e1, e2]
      have ed1 : ws.drop (i + 1) = y :: ws.drop (i + 2) := by
        rw [List.drop_eq_getElem_cons (by omega)]
        have e2 := (List.getElem?_eq_some_iff.mp hy).2
        rw [e2]
      rw [ed] at wk'
      have hzn : nmOk z := hw z (List.mem_of_getElem? hz)
      refine ⟨_, rfl, _, rfl, _, rfl, X, a', c, j', z, hs, cs, hC, hD, rfl, S.same s2, haj', hj', cn.same s2, hzn, ?_⟩
      have ft2 : ∀ d, R = .inr d → ∀ (H' : Hp) (dx Fp : Addr), Same H2 H' → H' dx = some (.xd [("fault", .ref Fp)]) → Rg AllA H' (.ref Fp) d → E (.ref CF) (some dx) H' := fun d hd H' dx Fp k => ft d hd H' dx Fp (s2.trans k)
      cases wk' with
      | no h => exact .inl ⟨h, ft2 _ rfl⟩
      | flat h1 h2 => exact .inr (.inl ⟨_, _, h1, h2, ft2 _ rfl⟩)
      | go h1 h2 h3 h4' h5 => exact .inr (.inr ⟨_, _, _, h1, h2, h3, _, _, _, rfl, rfl, h3, h4', by rw [ed1]; exact h5⟩)
    · rintro σ H3 ⟨v3, a', j', rfl, e3, haj', hj', wk'⟩
      rw [e3]
      rw [ldl, last_drop (by omega)] at wk'
      exact ⟨_, rfl, q _ j' a' s2 haj' hj' wk'⟩
theorem ok_fo (F : FnP K "follow" sFo f fd) (GL : FnG pr w K mg base (L2N.CX pr w) 3 fL fdL ["module", "name", "chain"] (spLk C CF)) (FL : FnP K "look" sLk fL fdL) (gL : mg "look" = some (.ref fL))
    (GS : FnG pr w K mg base (L2N.CX pr w) 5 fS fdS ["module", "road", "chain"] (spLs C D CF)) (FS : FnP K "last_module" sLs fS fdS) (gS : mg "last_module" = some (.ref fS))
    (GN : FnOk pr w K mg base CX0 1 fN fdN ["path"] spLn) (FN : FnP K "last_name" sLn fN fdN) (gN : mg "last_name" = some (.ref fN)) : FnG pr w K mg base (L2N.CX pr w) 6 f fd ["module", "road", "chain"] (spFo C D CF) := by
  have bL : Binds K fdL ["module", "name", "chain"] [] := FL.bindsN fun _ _ _ _ _ _ us hl => match us, hl with | [_, _, _], _ => rfl
  have bS : Binds K fdS ["module", "road", "chain"] [] := FS.bindsN fun _ _ _ _ _ _ us hl => match us, hl with | [_, _, _], _ => rfl
  have bN : Binds K fdN ["path"] [] := FN.bindsN fun _ _ _ _ _ _ us hl => match us, hl with | [_], _ => rfl
  refine okG F scFo (fun vs H Q E h => ?_) (fun cdv A outer s H vs Q E hcd hr hgd h => ?_)
  · obtain ⟨X, a, c, j, ws, hs, cs, R, _, _, rfl, _⟩ := h
    rfl
  · obtain ⟨X, a, c, j, ws, hs, cs, R, hC, hD, rfl, S, haj, hj, cn, hne, h4, hw, wk, q, ft⟩ := h
    have hr1 : Room 1 (A.deeper (envOfC "follow" (defScope sFo) s.heap.objs.size f cdv)) := hr.mono (by decide)
    have hr3 : Room 3 (A.deeper (envOfC "follow" (defScope sFo) s.heap.objs.size f cdv)) := hr.mono (by decide)
    have tk : L2N.Takes (cxOf (L2N.CX pr w) pr w K mg base ["module", "road", "chain"] "follow" (defScope sFo) f cdv A outer s H E) (fun cls d _ H => E cls d H) := L2N.takes_of rfl rfl rfl rfl
    refine ⟨_, pss_one (ps_ret (pe_callGS (E := L2.WE fun cls d _ H => E cls d H) GL hr3 hgd (by rfl) gL FL.kp bL .nil (fun σ => L2N.passAt tk σ)
      (pa_cons (pe_callGS (E := L2.WE fun cls d _ H => E cls d H) GS hr hgd (by rfl) gS FS.kp bS .nil (fun σ => L2N.passAt tk σ) (pa_cons (pv 0) (pa_cons (pv 1) (pa_cons (pv 2) pa_nil))))
      (pa_cons (pe_call GN hr1 (by rfl) gN FN.kp bN .nil pass0 (pa_cons (pv 1) pa_nil)) (pa_cons (pv 2) pa_nil))))), ?_⟩
    have hzn : nmOk (ws.getLastD (Str.ofString "")) := by
      obtain ⟨r, z, rfl⟩ : ∃ r z, ws = r ++ [z] := ⟨ws.dropLast, ws.getLast hne, (List.dropLast_concat_getLast hne).symm⟩
      rw [List.getLastD_concat]
      exact hw z (by simp)
    refine ⟨_, rfl, _, rfl, _, rfl, X, a, c, j, ws, hs, cs, R, hC, hD, rfl, S, haj, hj, cn, hne, h4, hw, wk, fun H1 j' a' s1 haj' hj' wk1 => ?_, ft⟩
    refine ⟨_, rfl, ws, rfl, hne, h4, hw, fun H2 s2 => ?_⟩
    have s12 := s1.trans s2
    have wk2 := wk1.same s2
    have cn2 := cn.same s12
    have ft2 : ∀ d, R = .inr d → ∀ (H' : Hp) (dx Fp : Addr), Same H2 H' → H' dx = some (.xd [("fault", .ref Fp)]) → Rg AllA H' (.ref Fp) d → E (.ref CF) (some dx) H' := fun d hd H' dx Fp k => ft d hd H' dx Fp (s12.trans k)
    generalize ws.getLastD (Str.ofString "") = z at hzn wk2 ⊢
    cases wk2 with
    | last h =>
      obtain ⟨n', p', a2, d, qa, kvs, mvs, e1, e2, e3, hM, hq, e4, e5, e6⟩ := id h
      rw [haj'] at e2
      cases e2
      exact ⟨_, rfl, X, a', c, d, j', n', p', z, kvs, hs, cs, hC, rfl, S.same s12, e1, haj', hC ▸ hM, cn2.ec, cn2.hd, cn2.ck, cn2.h16, hzn, .inl ⟨_, e4, q _ _ _ rfl s12⟩⟩
    | no h =>
      obtain ⟨n', p', a2, d, qa, kvs, mvs, e1, e2, e3, hM, hq, e4, e5⟩ := id h
      rw [haj'] at e2
      cases e2
      exact ⟨_, rfl, X, a', c, d, j', n', p', z, kvs, hs, cs, hC, rfl, S.same s12, e1, haj', hC ▸ hM, cn2.ec, cn2.hd, cn2.ck, cn2.h16, hzn, .inr ⟨e4, ft2 _ rfl⟩⟩
end
end D24
set_option maxHeartbeats 4000000
/-! k24: asked, what is due, what is said -/
namespace D24
open PySem PySem.Spec PyProof.Rows L2 HM XW XR K11 XM XSo XV XS NdefX XT
abbrev sAk : Stmt := top 16
abbrev sDu : Stmt := top 35
abbrev sSd : Stmt := top 36
theorem scAk : FnScope ["late", "chain"] ["late", "chain"] (defScope sAk) := ⟨rfl, rfl, rfl, by decide +kernel, rfl, by decide +kernel, by decide +kernel⟩
theorem scDu : FnScope ["_law_facts_here", "_law_models", "_law_chain_here", "_law_at_here", "_law_road_here", "_law_here", "_law_name_here"] ["_law_facts_here", "_law_models", "_law_chain_here", "_law_at_here", "_law_road_here"] (defScope sDu) := ⟨rfl, rfl, rfl, by decide +kernel, rfl, by decide +kernel, by decide +kernel⟩
theorem scSd : FnScope ["_law_late", "_law_handed_here", "_law_said_here", "e"] ["_law_late", "_law_handed_here"] (defScope sSd) := ⟨rfl, rfl, rfl, by decide +kernel, rfl, by decide +kernel, by decide +kernel⟩
theorem neV' {k m : Int} (h : k ≠ m) : decide (V.int k = V.int m) = false := decide_eq_false (fun e => h (by cases e; rfl))
/-- what is due: by what the road leads to -/
def DuQ (H : Hp) (Q : VK) (R : Sum (V × Addr) PyData) : Prop := (∀ (v : V) (u : Addr) (H' : Hp) (t : Addr), R = .inl (v, u) → Same H H' → H' t = some (.tup [.str "thing", .ref u]) → Q (.ref t) H') ∧
  (∀ (d : PyData) (H' : Hp) (t G : Addr), R = .inr d → Same H H' → H' t = some (.tup [.str "fault", .ref G]) → Rg AllA H' (.ref G) d → Q (.ref t) H')
def spDu : Sp := fun vs H Q _ => ∃ (X : Pm) (c r : Addr) (j : Nat) (ws : List Str) (ys : List V) (cs : List (Nat × Int)) (R : Sum (V × Addr) PyData), vs = [.ref X.F, .ref X.M, .ref c, .int j, .ref r] ∧ Wh X H ∧ H c = some (.lst ys) ∧ RgAll AllA H ys (csD cs) ∧ CkOk X.fs.length cs ∧ cs.length ≤ 16 ∧ j < X.fs.length ∧
  H r = some (.lst (ws.map V.str)) ∧ ws ≠ [] ∧ ws.length ≤ 4 ∧ Wk X H cs j ws R ∧ DuQ H Q R
/-- a function: its home is the j-th module, its road is r -/
def LtR (X : Pm) (H : Hp) (L : Addr) (j : Nat) (r : Str) : Prop := ∃ (a dx : Addr) (n : Int) (p : Str), X.fs[j]? = some (n, p) ∧ X.as[j]? = some a ∧ H L = some (.ins X.D dx (lF (.ref a) r)) ∧ rdOk X.ns r
theorem LtR.kt {X : Pm} {H H' : Hp} (k : Kt H H') {L : Addr} {j : Nat} {r : Str} : LtR X H L j r → LtR X H' L j r
  | ⟨a, dx, n, p, h1, h2, h3, h4⟩ => ⟨a, dx, n, p, h1, h2, k _ _ h3 (.inr ⟨_, _, _, rfl⟩), h4⟩
def spAk (C D CF : Addr) : Sp := fun vs H Q E => ∃ (X : Pm) (L c : Addr) (j : Nat) (ws : List Str) (hs : List V) (cs : List (Nat × Int)) (R : Sum (V × Addr) PyData), X.C = C ∧ X.D = D ∧ vs = [.ref L, .ref c] ∧ Wh X H ∧ LtR X H L j (Txt.join (Str.ofString ".") ws) ∧ Cn X H c hs cs ∧
  ws ≠ [] ∧ ws.length ≤ 4 ∧ (∀ w ∈ ws, nmOk w) ∧ Wk X H cs j ws R ∧ (∀ (H' : Hp) (v : V) (u : Addr), R = .inl (v, u) → Same H H' → Q v H') ∧ (∀ d, R = .inr d → Ft CF H E d)
/-- what is said: by what the road leads to -/
def SdQ (H : Hp) (Q : VK) (R : Sum (V × Addr) PyData) : Prop := (∀ (v : V) (u : Addr) (H' : Hp) (t : Addr), R = .inl (v, u) → Same H H' → H' t = some (.tup [.str "thing", v]) → Q (.ref t) H') ∧
  (∀ (d : PyData) (H' : Hp) (t F : Addr), R = .inr d → Same H H' → H' t = some (.tup [.str "fault", .ref F]) → Rg AllA H' (.ref F) d → Q (.ref t) H')
def spSd (C D : Addr) : Sp := fun vs H Q _ => ∃ (X : Pm) (L c : Addr) (j : Nat) (ws : List Str) (hs : List V) (cs : List (Nat × Int)) (R : Sum (V × Addr) PyData), X.C = C ∧ X.D = D ∧ vs = [.ref L, .ref c] ∧ Wh X H ∧ LtR X H L j (Txt.join (Str.ofString ".") ws) ∧ Cn X H c hs cs ∧
  ws ≠ [] ∧ ws.length ≤ 4 ∧ (∀ w ∈ ws, nmOk w) ∧ Wk X H cs j ws R ∧ SdQ H Q R
section
variable {w : World} {K : PySem.W.Frag} {mg : Str → Option Value} {base : Heap} {f fX fD fF fI fL C D CF : Addr} {fd fdX fdD fdF fdI fdL : FuncData}
theorem ok_ak (F : FnP K "asked" sAk f fd) (T : ClT K mg C D) (GL : FnG pr w K mg base (L2N.CX pr w) 6 fL fdL ["module", "road", "chain"] (spFo C D CF)) (FL : FnP K "follow" sFo fL fdL) (gL : mg "follow" = some (.ref fL)) :
    FnG pr w K mg base (L2N.CX pr w) 7 f fd ["late", "chain"] (spAk C D CF) := by
  have bL : Binds K fdL ["module", "road", "chain"] [] := FL.bindsN fun _ _ _ _ _ _ us hl => match us, hl with | [_, _, _], _ => rfl
  refine okG F scAk (fun vs H Q E h => ?_) (fun cdv A outer s H vs Q E hcd hr hgd h => ?_)
  · obtain ⟨X, L, c, j, ws, hs, cs, R, _, _, rfl, _⟩ := h
    rfl
  · obtain ⟨X, L, c, j, ws, hs, cs, R, hC, hD, rfl, S, ⟨a, dx, n, p, hf, haj, hL, hrd⟩, cn, hne, h4, hw, wk, q, ft⟩ := h
    subst hC hD
    have tk : L2N.Takes (cxOf (L2N.CX pr w) pr w K mg base ["late", "chain"] "asked" (defScope sAk) f cdv A outer s H E) (fun cls d _ H => E cls d H) := L2N.takes_of rfl rfl rfl rfl
    refine ⟨_, pss_one (ps_ret (pe_callGS (E := L2.WE fun cls d _ H => E cls d H) GL hr hgd (by rfl) gL FL.kp bL .nil (fun σ => L2N.passAt tk σ) (pa_cons (pe_fld (pv 0) rfl) (pa_cons (pe_fld (pv 0) rfl) (pa_cons (pv 1) pa_nil))))), ?_⟩
    exact ⟨_, rfl, L, X.D, dx, _, _, rfl, hL, T.c2.cl, T.n4, lF_h _ _, _, rfl, L, X.D, dx, _, _, rfl, hL, T.c2.cl, T.n5, lF_r _ _, _, rfl, X, a, c, j, ws, hs, cs, R, rfl, rfl, rfl, S, haj, (List.getElem?_eq_some_iff.mp hf).1, cn, hne, h4, hw, wk, q, ft⟩
theorem ok_sd (F : FnP K "_law_said" sSd f fd) (IF : InF K mg CF fI) (xm : PySem.W.exmOne K (.ref CF) (.ref CF) = some true) (GL : FnG pr w K mg base (L2N.CX pr w) 7 fL fdL ["late", "chain"] (spAk C D CF)) (FL : FnP K "asked" sAk fL fdL) (gL : mg "asked" = some (.ref fL)) :
    FnG pr w K mg base CX0 8 f fd ["_law_late", "_law_handed_here"] (spSd C D) := by
  have bL : Binds K fdL ["late", "chain"] [] := FL.bindsN fun _ _ _ _ _ _ us hl => match us, hl with | [_, _], _ => rfl
  refine okG F scSd (fun vs H Q E h => ?_) (fun cdv A outer s H vs Q E hcd hr hgd h => ?_)
  · obtain ⟨X, L, c, j, ws, hs, cs, R, _, _, rfl, _⟩ := h
    rfl
  · obtain ⟨X, L, c, j, ws, hs, cs, R, hC, hD, rfl, S, hL, cn, hne, h4, hw, wk, q1, q2⟩ := h
    refine ⟨_, PSs.nox (pss_cons (ps_set (i := 2) scSd.nd rfl (.inl rfl) pe_non)
      (pss_cons (ps_tryC (tb := fun W => tAsg (tTup (tCons (tC (.str "thing")) (tCons (tCallSD (spAk C D CF) [] (L2.WE W) (tCons (tVar 0) (tCons (tVar 1) tNil))) tNil))) (gName 2)) rfl rfl scSd.nd takes_no
        (fun W pn xe hpn tk hpass => pss_one (ps_set (i := 2) scSd.nd rfl (.inl rfl) (pe_tup (pa_cons pe_str (pa_cons (pe_callGS GL hr hgd (by rfl) gL FL.kp bL .nil (fun σ => L2N.passAt tk σ) (pa_cons (pv 0) (pa_cons (pv 1) pa_nil))) pa_nil)))))
        (.named (i := 3) (ts := fun a cls d => tAsg (tTup (tCons (tC (.str "fault")) (tCons (tXf a cls d CF "fault" (tVar 3)) tNil))) (gName 2)) ⟨by rfl, by decide, .inl IF.glo⟩ rfl rfl
          (fun a oe cls d pn hz hf => pss_one (ps_set (i := 2) scSd.nd rfl (.inl rfl) (pe_tup (pa_cons pe_str (pa_cons (pe_xf IF.xf IF.no1 hz.zc hf (pv 3)) pa_nil))))) .nil))
      (pss_one (ps_ret (pv 2))))), ?_⟩
    refine ⟨_, rfl, _, rfl, X, L, c, j, ws, hs, cs, R, hC, hD, rfl, S, hL, cn, hne, h4, hw, wk, fun H1 v u hR s1 => ?_, fun d hR H1 dx Fp s1 ex rg => ?_⟩
    · refine ⟨sz (by simp), fun t ht => ?_⟩
      exact ⟨_, rfl, q1 v u _ t hR (fun b o e => by rw [upd_ne (ne_of_none (s1 _ _ e) ht)]; exact s1 _ _ e) upd_same⟩
    · refine ⟨true, xm, fun z => (by cases z), fun _ e he => ?_⟩
      refine ⟨_, rfl, rfl, rfl, dx, _, .ref Fp, rfl, ex, rfl, sz (by simp), fun t ht => ?_⟩
      have s2 : Same H1 (upd H1 t (.tup [.str "fault", .ref Fp])) := fun b o e => by rw [upd_ne (ne_of_none e ht)]; exact e
      exact ⟨_, rfl, q2 d _ t Fp hR (s1.trans s2) upd_same (rg.kq fun b o e _ => s2 b o e)⟩
theorem ok_du (F : FnP K "_law_due" sDu f fd) (GF : FnOk pr w K mg base CX0 1 fF fdF ["_law_facts_here", "_law_chain_here", "_law_at_here", "_law_name_here"] spFl) (FF : FnP K "_law_fault" sFl fF fdF) (gF : mg "_law_fault" = some (.ref fF)) :
    FnOk pr w K mg base CX0 2 f fd ["_law_facts_here", "_law_models", "_law_chain_here", "_law_at_here", "_law_road_here"] spDu := by
  have bF : Binds K fdF ["_law_facts_here", "_law_chain_here", "_law_at_here", "_law_name_here"] [] := FF.bindsN fun _ _ _ _ _ _ us hl => match us, hl with | [_, _, _, _], _ => rfl
  refine ok_code F scDu (fun vs H Q E h => ?_) (fun cdv A outer s H vs Q E hcd hr h => ?_)
  · obtain ⟨X, c, r, j, ws, ys, cs, R, rfl, _⟩ := h
    rfl
  · obtain ⟨X, c, r, j, ws, ys, cs, R, rfl, S, ec, rg, ck, h16, hj, er, hne, h4, wk, q1, q2⟩ := h
    have hu := hu_of hr
    refine ⟨_, pss_cons (ps_set (i := 5) scDu.nd rfl (.inl rfl) (pv 3))
      (pss_cons (ps_for PassesOwn.never rfl (pi_list (pe_slice sl_list (pv 4) po_none (po_some (pe_un un_neg pe_int)))) (pg_name (i := 6) scDu.nd rfl (.inl rfl))
        (pss_cons (ps_if (pt_cmp (pc_dnotin hu (pv 6) (pe_ix ix_list (pv 1) (pv 5) (fun _ _ => rfl)))) (pss_one (ps_ret (pe_call GF hr (by rfl) gF FF.kp bF .nil pass0 (pa_cons (pv 0) (pa_cons (pv 2) (pa_cons (pv 5) (pa_cons (pv 6) pa_nil))))))) pss_nil)
        (pss_cons (ps_if (pt_cmpR op_ne (pe_ix ix_tup (pe_dget hu (pe_ix ix_list (pv 1) (pv 5) (fun _ _ => rfl)) (pv 6) (fun _ _ => rfl)) pe_int (fun _ _ => rfl)) pe_int (nomark _))
          (pss_one (ps_ret (pe_tup (pa_cons pe_str (pa_cons (pe_tup (pa_cons pe_str (pa_cons (pe_ix ix_tup (pe_ix ix_list (pv 0) (pv 5) (fun _ _ => rfl)) pe_int (fun _ _ => rfl)) (pa_cons (pv 6) pa_nil)))) pa_nil))))) pss_nil)
        (pss_one (ps_set (i := 5) scDu.nd rfl (.inl rfl) (pe_ix ix_tup (pe_dget hu (pe_ix ix_list (pv 1) (pv 5) (fun _ _ => rfl)) (pv 6) (fun _ _ => rfl)) pe_int (fun _ _ => rfl)))))))
      (pss_cons (ps_if (pt_cmp (pc_dnotin hu (pe_ix ix_list (pv 4) (pe_un un_neg pe_int) (fun _ _ => rfl)) (pe_ix ix_list (pv 1) (pv 5) (fun _ _ => rfl)))) (pss_one (ps_ret (pe_call GF hr (by rfl) gF FF.kp bF .nil pass0 (pa_cons (pv 0) (pa_cons (pv 2) (pa_cons (pv 5) (pa_cons (pe_ix ix_list (pv 4) (pe_un un_neg pe_int) (fun _ _ => rfl)) pa_nil))))))) pss_nil)
      (pss_one (ps_ret (pe_tup (pa_cons pe_str (pa_cons (pe_dget hu (pe_ix ix_list (pv 1) (pv 5) (fun _ _ => rfl)) (pe_ix ix_list (pv 4) (pe_un un_neg pe_int) (fun _ _ => rfl)) (fun _ _ => rfl)) pa_nil))))))), ?_⟩
    have l0 : 0 < ws.length := List.length_pos_iff.mpr hne
    refine ⟨_, rfl, ?_⟩
    refine ⟨_, rfl, 1, rfl, _, rfl, r, _, rfl, SqL.of er, fun t2 ht2 => ?_⟩
    rw [cut_last]
    have s2 : Same H (upd H t2 (.lst (ws.map V.str).dropLast)) := fun b o e => by rw [upd_ne (ne_of_none e ht2)]; exact e
    have et2 : (upd H t2 (.lst (ws.map V.str).dropLast)) t2 = some (.lst (ws.map V.str).dropLast) := upd_same
    obtain ⟨H2, e2⟩ : ∃ H2, (upd H t2 (.lst (ws.map V.str).dropLast)) = H2 := ⟨_, rfl⟩
    rw [e2] at s2 et2 ⊢
    have ldl : (ws.map V.str).dropLast.length = ws.length - 1 := by rw [List.length_dropLast, List.length_map]
    have S2 := S.same s2
    have rg2 := rg.kq (Av := AllA) (fun b o e _ => s2 b o e : Kq AllA H H2)
    have er2 := s2 _ _ er
    refine ⟨t2, rfl, ⟨_, SqL.of et2⟩, ?_⟩
    refine for_it (walk_list (xs := (ws.map V.str).dropLast)) (fun i σ H' => ∃ (v6 : Option V) (j' : Nat), σ = [some (.ref X.F), some (.ref X.M), some (.ref c), some (.int j), some (.ref r), some (.int (j' : Int)), v6] ∧ H' = H2 ∧ j' < X.fs.length ∧ Wk X H2 cs j' (ws.drop i) R)
      ⟨none, j, rfl, rfl, hj, wk.same s2⟩ (fun i σ H' _ ⟨_, _, _, e, _⟩ => by rw [e]; exact SqL.of et2) ?_ ?_
    · rintro i x σ H3' H3 hi ⟨v6, j', rfl, e3, hj', wk'⟩ ⟨rfl, hx⟩
      rw [e3]
      have hi1 : i + 1 < ws.length := by omega
      obtain ⟨z, hz⟩ : ∃ z, ws[i]? = some z := ⟨_, List.getElem?_eq_getElem (by omega)⟩
      obtain rfl : x = .str z := by
        rw [List.dropLast_eq_take, List.getElem?_take, if_pos (by rw [List.length_map]; omega), List.getElem?_map, hz] at hx
        exact (Option.some.inj hx).symm
      obtain ⟨y, hy⟩ : ∃ y, ws[i + 1]? = some y := ⟨_, List.getElem?_eq_getElem hi1⟩
      have ed : ws.drop i = z :: y :: ws.drop (i + 2) := by
        rw [List.drop_eq_getElem_cons (by omega), List.drop_eq_getElem_cons (by omega)]
        have e1 := (List.getElem?_eq_some_iff.mp hz).2
        have e2 := (List.getElem?_eq_some_iff.mp hy).2
        rw [e1, e2]
      have ed1 : ws.drop (i + 1) = y :: ws.drop (i + 2) := by
        rw [List.drop_eq_getElem_cons (by omega)]
        have e2 := (List.getElem?_eq_some_iff.mp hy).2
        rw [e2]
      rw [ed] at wk'
      cases wk' with
      | no h =>
        obtain ⟨n, p, a, d, qa, kvs, mvs, e1, e2', e4, hM, hq, e5, e6⟩ := id h
        have atQ : atI (X.qs.map V.ref) (j' : Int) = some (.ref qa) := atI_nat (j := j') (by rw [List.getElem?_map, e4]; rfl)
        refine ⟨_, rfl, _, rfl, _, rfl, X.M, _, _, .ref qa, rfl, rfl, SqL.of S2.hM, atQ, qa, _, rfl, DGet.k (k := Sum.inr z) hq, ?_⟩
        rw [e6]
        refine ⟨_, rfl, ?_⟩
        exact ⟨_, rfl, _, rfl, _, rfl, _, rfl, X, c, j', z, ys, cs, rfl, S2, s2 _ _ ec, rg2, ck, h16, hj', fun H' t G s' et rgG => q2 _ H' t G rfl (s2.trans s') et rgG⟩
      | flat h hn =>
        obtain ⟨n, p, a, d, qa, kvs, mvs, e1, e2', e4, hM, hq, e5, e6, e7⟩ := id h
        rename_i v u
        have atQ : atI (X.qs.map V.ref) (j' : Int) = some (.ref qa) := atI_nat (j := j') (by rw [List.getElem?_map, e4]; rfl)
        refine ⟨_, rfl, _, rfl, _, rfl, X.M, _, _, .ref qa, rfl, rfl, SqL.of S2.hM, atQ, qa, _, rfl, DGet.k (k := Sum.inr z) hq, ?_⟩
        rw [e6]
        refine ⟨_, rfl, ?_⟩
        have dg : DGet H2 qa (.str z) (some (.ref u)) := by
          rw [← e6]
          exact DGet.k (k := Sum.inr z) hq
        obtain ⟨b, ys', eb, hu', hb⟩ : ∃ (b : Int) (ys' : List V), b ≠ 1 ∧ H2 u = some (.tup ys') ∧ ys'[0]? = some (.int b) := by
          rcases hn with ⟨i, hn⟩ | ⟨k, r', hn⟩
          · exact ⟨0, _, by decide, hn, rfl⟩
          · exact ⟨2, _, by decide, hn, rfl⟩
        obtain ⟨xs, x, eF, ex, hx'⟩ := S2.fact e1
        refine ⟨_, rfl, _, rfl, X.M, _, _, .ref qa, rfl, rfl, SqL.of S2.hM, atQ, _, rfl, qa, .ref u, rfl, dg, u, _, _, _, rfl, rfl, SqT.of hu', atI_nat (j := 0) hb, rfl, _, rfl, ?_⟩
        rw [neV' eb]
        refine ⟨_, rfl, _, rfl, X.F, xs, _, .ref x, rfl, rfl, SqL.of eF, atI_nat ex, x, _, _, _, rfl, rfl, SqT.of hx', atI_nat (j := 1) rfl, _, rfl, sz (by simp), fun G hG => ⟨sz (by simp), fun t ht => ?_⟩⟩
        have s3 : Same H2 (upd H2 G (.tup [.str "FLAT", .str p, .str z])) := fun b o e => by rw [upd_ne (ne_of_none e hG)]; exact e
        have s4 : Same (upd H2 G (.tup [.str "FLAT", .str p, .str z])) (upd (upd H2 G (.tup [.str "FLAT", .str p, .str z])) t (.tup [.str "fault", .ref G])) := fun b o e => by rw [upd_ne (ne_of_none e ht)]; exact e
        refine q2 _ _ t G rfl ((s2.trans s3).trans s4) upd_same ?_
        unfold flatD
        rw [pathO_of e1]
        exact .tup (s4 _ _ upd_same) (.cons (.str _) (.cons (.str _) (.cons (.str _) .nil)))
      | go h hu' h3 h4' h5 =>
        obtain ⟨n, p, a, d, qa, kvs, mvs, e1, e2', e4, hM, hq, e5, e6, e7⟩ := id h
        rename_i j2 a2 u
        have atQ : atI (X.qs.map V.ref) (j' : Int) = some (.ref qa) := atI_nat (j := j') (by rw [List.getElem?_map, e4]; rfl)
        refine ⟨_, rfl, _, rfl, _, rfl, X.M, _, _, .ref qa, rfl, rfl, SqL.of S2.hM, atQ, qa, _, rfl, DGet.k (k := Sum.inr z) hq, ?_⟩
        rw [e6]
        refine ⟨_, rfl, ?_⟩
        have dg : DGet H2 qa (.str z) (some (.ref u)) := by
          rw [← e6]
          exact DGet.k (k := Sum.inr z) hq
        refine ⟨_, rfl, _, rfl, X.M, _, _, .ref qa, rfl, rfl, SqL.of S2.hM, atQ, _, rfl, qa, .ref u, rfl, dg, u, _, _, _, rfl, rfl, SqT.of hu', atI_nat (j := 0) rfl, rfl, _, rfl, ?_⟩
        rw [show decide (V.int 1 = V.int 1) = true from rfl]
        exact ⟨_, rfl, _, rfl, X.M, _, _, .ref qa, rfl, rfl, SqL.of S2.hM, atQ, _, rfl, qa, .ref u, rfl, dg, u, _, _, _, rfl, rfl, SqT.of hu', atI_nat (j := 1) rfl, _, j2, rfl, rfl, h4', by rw [ed1]; exact h5⟩
    · rintro σ H3 ⟨v6, j', rfl, e3, hj', wk'⟩
      rw [e3]
      rw [ldl, last_drop (by omega)] at wk'
      have al := at_last hne
      generalize ws.getLastD (Str.ofString "") = z at wk' al
      cases wk' with
      | no h =>
        obtain ⟨n, p, a, d, qa, kvs, mvs, e1, e2', e4, hM, hq, e5, e6⟩ := id h
        have atQ : atI (X.qs.map V.ref) (j' : Int) = some (.ref qa) := atI_nat (j := j') (by rw [List.getElem?_map, e4]; rfl)
        refine ⟨_, rfl, 1, rfl, r, _, -1, _, rfl, rfl, SqL.of er2, al, _, rfl, _, rfl, X.M, _, _, .ref qa, rfl, rfl, SqL.of S2.hM, atQ, qa, _, rfl, DGet.k (k := Sum.inr z) hq, ?_⟩
        rw [e6]
        refine ⟨_, rfl, ?_⟩
        exact ⟨_, rfl, _, rfl, _, rfl, _, rfl, 1, rfl, r, _, -1, _, rfl, rfl, SqL.of er2, al, X, c, j', z, ys, cs, rfl, S2, s2 _ _ ec, rg2, ck, h16, hj', fun H' t G s' et rgG => q2 _ H' t G rfl (s2.trans s') et rgG⟩
      | last h =>
        obtain ⟨n, p, a, d, qa, kvs, mvs, e1, e2', e4, hM, hq, e5, e6, e7⟩ := id h
        rename_i v u
        have atQ : atI (X.qs.map V.ref) (j' : Int) = some (.ref qa) := atI_nat (j := j') (by rw [List.getElem?_map, e4]; rfl)
        refine ⟨_, rfl, 1, rfl, r, _, -1, _, rfl, rfl, SqL.of er2, al, _, rfl, _, rfl, X.M, _, _, .ref qa, rfl, rfl, SqL.of S2.hM, atQ, qa, _, rfl, DGet.k (k := Sum.inr z) hq, ?_⟩
        rw [e6]
        refine ⟨_, rfl, ?_⟩
        have dg : DGet H2 qa (.str z) (some (.ref u)) := by
          rw [← e6]
          exact DGet.k (k := Sum.inr z) hq
        refine ⟨_, rfl, _, rfl, X.M, _, _, .ref qa, rfl, rfl, SqL.of S2.hM, atQ, _, rfl, 1, rfl, r, _, -1, _, rfl, rfl, SqL.of er2, al, qa, .ref u, rfl, dg, sz (by simp), fun t ht => ?_⟩
        exact q1 _ _ _ t rfl (fun b o e => by rw [upd_ne (ne_of_none (s2 _ _ e) ht)]; exact s2 _ _ e) upd_same
end
end D24
set_option maxHeartbeats 4000000
/-! k24: the functions that the law makes, and the one that it takes -/
namespace D24
open PySem PySem.Spec PyProof.Rows L2 HM XW XR K11 XM XSo XV XS NdefX XT
abbrev sFn : Stmt := top 37
abbrev sTk : Stmt := top 38
abbrev nFn : List Str := ["_law_pot_here", "_law_facts_here", "_law_names_here", "_law_modules", "_law_models", "_law_found", "_law_k", "_law_home", "_law_road_here", "_law_late", "_law_which", "_law_name_here"]
theorem scFn : FnScope nFn ["_law_pot_here", "_law_facts_here", "_law_names_here", "_law_modules", "_law_models"] (defScope sFn) := ⟨rfl, rfl, rfl, by decide +kernel, rfl, by decide +kernel, by decide +kernel⟩
abbrev nTk : List Str := ["_law_pot_here", "_law_functions_here", "_law_modules", "_law_models", "_law_late", "_law_home", "_law_road_here", "_law_which", "_law_name_here", "_law_kind_here"]
theorem scTk : FnScope nTk ["_law_pot_here", "_law_functions_here", "_law_modules", "_law_models"] (defScope sTk) := ⟨rfl, rfl, rfl, by decide +kernel, rfl, by decide +kernel, by decide +kernel⟩
/-- a list that is none of the state's is changed -/
theorem Wh.but {X : Pm} {H H' : Hp} (S : Wh X H) {L : Addr} {zs : List V} (e : H L = some (.lst zs)) (n1 : X.F ≠ L) (n2 : X.N ≠ L) (n3 : X.Lm ≠ L) (n4 : X.M ≠ L) (k : ∀ c o, H c = some o → c ≠ L → H' c = some o) : Wh X H' := by
  have kt : Kt H H' := fun c o e2 hc => k c o e2 fun z => by
    rw [z, e] at e2
    cases e2
    rcases hc with ⟨xs, hc⟩ | ⟨_, _, _, hc⟩ <;> cases hc
  have kd : ∀ c kvs, H c = some (.dK kvs) → H' c = some (.dK kvs) := fun c kvs e2 => k c _ e2 fun z => by
    rw [z, e] at e2
    cases e2
  obtain ⟨xs, e1, r⟩ := S.hF
  refine ⟨⟨xs, k _ _ e1 n1, r.kq fun c o e hc => ?_⟩, S.okF, S.neF, S.l4, k _ _ S.hN n2, S.okN, S.neN, S.lN, k _ _ S.hL n3, k _ _ S.hM n4, S.la, S.ld, S.lq, S.nd, S.na, fun j n p hf => ?_⟩
  · rcases hc with hc | ⟨hc, _⟩
    · exact kt c o e (.inl hc)
    · exact absurd trivial hc
  · obtain ⟨a, d, q, kvs, mvs, ks, e1, e2, e3, ⟨⟨dx, hm⟩, hd⟩, hq, k1, k2, k3, k4, k5⟩ := S.row j n p hf
    exact ⟨a, d, q, kvs, mvs, ks, e1, e2, e3, ⟨⟨dx, kt _ _ hm (.inr ⟨_, _, _, rfl⟩)⟩, kd _ _ hd⟩, kd _ _ hq, k1, k2, k3, k4, fun z => (k5 z).kt kt⟩
/-- a function in the law's list -/
def FnE (X : Pm) (H : Hp) (v : V) : Prop := ∃ (u L : Addr) (j : Nat) (r : Str) (k : Nat) (z : Str), v = .ref u ∧ H u = some (.tup [.ref L, .int j, .str r, .int k, .str z]) ∧ LtR X H L j r ∧ k < X.fs.length ∧ z ∈ X.ns ∧ Bn X H k z
theorem FnE.mono {X : Pm} {H H' : Hp} (k : Kt H H') (b : ∀ (i : Nat) (y : Str), Bn X H i y → Bn X H' i y) {v : V} : FnE X H v → FnE X H' v
  | ⟨u, L, j, r, m, z, h1, h2, h3, h4, h5, h6⟩ => ⟨u, L, j, r, m, z, h1, k _ _ h2 (.inl ⟨_, rfl⟩), h3.kt k, h4, h5, b _ _ h6⟩
structure Fst (X : Pm) (l t : Addr) (H0 H : Hp) (fl : List V) : Prop where
  S : Wh X H
  hP : PotAt H l
  et : H t = some (.lst fl)
  fe : ∀ v ∈ fl, FnE X H v
  k : ∀ c o, H0 c = some o → c ≠ l → c ∉ X.ds → c ∉ X.qs → H c = some o
section
variable {X : Pm} {l t : Addr} {H0 H H' : Hp} {fl : List V}
theorem Fst.ch (B : Fst X l t H0 H fl) (ntl : t ≠ l) (k : Ch l H H') (hP : PotAt H' l) : Fst X l t H0 H' fl :=
  ⟨B.S.keep B.hP k, hP, k _ _ B.et ntl, fun v hv => (B.fe v hv).mono (kt_ch B.hP k) (fun i y b => b.ch B.hP k), fun c o e h1 h2 h3 => k _ _ (B.k c o e h1 h2 h3) h1⟩
theorem Fst.same (B : Fst X l t H0 H fl) (k : Same H H') : Fst X l t H0 H' fl :=
  ⟨B.S.same k, (by
    obtain ⟨p0, p1, e, h⟩ := B.hP
    exact ⟨p0, p1, k _ _ e, h⟩), k _ _ B.et, fun v hv => (B.fe v hv).mono (kt_same k) (fun i y b => b.same k), fun c o e h1 h2 h3 => k _ _ (B.k c o e h1 h2 h3)⟩
theorem Fst.push (S0 : Wh X H0) (B : Fst X l t H0 H fl) (ht0 : H0 t = none) (ntl : t ≠ l) {v : V} (hv : FnE X H v) : Fst X l t H0 (upd H t (.lst (fl ++ [v]))) (fl ++ [v]) := by
  have k : ∀ c o, H c = some o → c ≠ t → (upd H t (.lst (fl ++ [v]))) c = some o := fun c o e h => by
    rw [upd_ne h]
    exact e
  have kt : Kt H (upd H t (.lst (fl ++ [v]))) := fun c o e hc => k c o e fun z => by
    rw [z, B.et] at e
    cases e
    rcases hc with ⟨_, hc⟩ | ⟨_, _, _, hc⟩ <;> cases hc
  have kb : ∀ (i : Nat) (y : Str), Bn X H i y → Bn X (upd H t (.lst (fl ++ [v]))) i y := fun i y ⟨q, mvs, h1, h2, h3⟩ => ⟨q, mvs, h1, k _ _ h2 (fun z => by
    rw [z, B.et] at h2
    cases h2), h3⟩
  obtain ⟨xs, eF, _⟩ := S0.hF
  refine ⟨B.S.but B.et (ne_of_none eF ht0) (ne_of_none S0.hN ht0) (ne_of_none S0.hL ht0) (ne_of_none S0.hM ht0) k, B.hP.new ntl, upd_same, fun y hy => ?_, fun c o e h1 h2 h3 => k _ _ (B.k c o e h1 h2 h3) (ne_of_none e ht0)⟩
  rcases List.mem_append.mp hy with h | h
  · exact (B.fe y h).mono kt kb
  · rw [List.mem_singleton.mp h]
    exact hv.mono kt kb
end
def spFn (C D : Addr) : Sp := fun vs H Q _ => ∃ (X : Pm) (l : Addr), X.C = C ∧ X.D = D ∧ vs = [.ref l, .ref X.F, .ref X.N, .ref X.Lm, .ref X.M] ∧ PotAt H l ∧ Wh X H ∧
  ∀ (H' : Hp) (t : Addr) (fl : List V), H t = none → t ≠ l → Fst X l t H H' fl → fl ≠ [] → fl.length ≤ 4 → Q (.ref t) H'
def spTk (C D : Addr) : Sp := fun vs H Q _ => ∃ (X : Pm) (l t : Addr) (fl : List V), X.C = C ∧ X.D = D ∧ vs = [.ref l, .ref t, .ref X.Lm, .ref X.M] ∧ PotAt H l ∧ Wh X H ∧ H t = some (.lst fl) ∧ fl ≠ [] ∧ fl.length ≤ 4 ∧ (∀ v ∈ fl, FnE X H v) ∧
  ∀ (H' : Hp) (u L : Addr) (j : Nat) (r : Str), Ch l H H' → PotAt H' l → H' u = some (.tup [.ref L, .int j, .str r]) → LtR X H' L j r → Q (.ref u) H'
theorem fl_ne {X : Pm} {H : Hp} {l t : Addr} {fl : List V} (hP : PotAt H l) (et : H t = some (.lst fl)) (h : ∀ v ∈ fl, FnE X H v) : t ≠ l := fun z => by
  obtain ⟨p0, p1, e, _⟩ := hP
  rw [z, e] at et
  cases et
  obtain ⟨u, L, j, r, k, y, h1, _⟩ := h (.int p0) (by simp)
  cases h1
section
variable {w : World} {K : PySem.W.Frag} {mg : Str → Option Value} {base : Heap} {f fD fR fI fB fT C D : Addr} {fd fdD fdR fdI fdB fdT : FuncData}
theorem ok_fn (F : FnP K "_law_functions" sFn f fd) (T : ClT K mg C D) (GD : FnOk pr w K mg base CX0 1 fD fdD DP spDraw) (FD : FnP K "_law_draw" sDraw fD fdD) (gD : mg "_law_draw" = some (.ref fD))
    (GR : FnOk pr w K mg base CX0 2 fR fdR ["_law_pot_here", "_law_names_here"] (spRd K)) (FR : FnP K "_law_road" sRd fR fdR) (gR : mg "_law_road" = some (.ref fR))
    (ML : Mk K D fI) (GI : FnOk pr w K mg base CX0 1 fI fdI ["self", "home", "road"] (spLI D)) (bI : Binds K fdI ["self", "home", "road"] [])
    (GB : FnOk pr w K mg base CX0 1 fB fdB ["self", "name", "thing"] (spMB C)) (mB : Meth K C "bind" fB) (bB : Binds K fdB ["self", "name", "thing"] []) (ml : mg "len" = none) (mr : mg "range" = none) :
    FnOk pr w K mg base CX0 3 f fd ["_law_pot_here", "_law_facts_here", "_law_names_here", "_law_modules", "_law_models"] (spFn C D) := by
  have bD : Binds K fdD DP [] := FD.bindsN fun _ _ _ _ _ _ us hl => match us, hl with | [_, _], _ => rfl
  have bR : Binds K fdR ["_law_pot_here", "_law_names_here"] [] := FR.bindsN fun _ _ _ _ _ _ us hl => match us, hl with | [_, _], _ => rfl
  refine ok_code F scFn (fun vs H Q E h => ?_) (fun cdv A outer s H vs Q E hcd hr h => ?_)
  · obtain ⟨X, l, _, _, rfl, _⟩ := h
    rfl
  · obtain ⟨X, l, hC, hD, rfl, hP, S, q⟩ := h
    subst hC hD
    have hu := hu_of hr
    have hr1 : Room 1 (A.deeper (envOfC "_law_functions" (defScope sFn) s.heap.objs.size f cdv)) := hr.mono (by decide)
    refine ⟨_, pss_cons (ps_set (i := 5) scFn.nd rfl (.inl rfl) (pe_lst pa_nil))
      (pss_cons (ps_for PassesOwn.never rfl (pi_range1 (by rfl) mr (pa_cons (pe_op op_add pe_int (pe_call GD hr1 (by rfl) gD FD.kp bD .nil pass0 (pa_cons (pv 0) (pa_cons pe_int pa_nil)))) pa_nil)) (pg_name (i := 6) scFn.nd rfl (.inl rfl)) (pss_cons (ps_set (i := 7) scFn.nd rfl (.inl rfl) (pe_call GD hr1 (by rfl) gD FD.kp bD .nil pass0 (pa_cons (pv 0) (pa_cons (pe_callB call_len_seq (by rfl) ml PySem.boot_len (pa_cons (pv 1) pa_nil)) pa_nil))))
      (pss_cons (ps_set (i := 8) scFn.nd rfl (.inl rfl) (pe_call GR hr (by rfl) gR FR.kp bR .nil pass0 (pa_cons (pv 0) (pa_cons (pv 2) pa_nil))))
      (pss_cons (ps_if (PW.pt (pw_and (pt_cmpR (XQ.op_ne0 hr.units) (pv 5) (pe_lst pa_nil) (nomark _)) (pw_and1 (pt_cmpR op_eq (pe_call GD hr1 (by rfl) gD FD.kp bD .nil pass0 (pa_cons (pv 0) (pa_cons pe_int pa_nil))) pe_int (nomark _))))) (pss_one (ps_set (i := 8) scFn.nd rfl (.inl rfl) (pe_ix ix_tup (pe_ix ix_list (pv 5) (pe_un un_neg pe_int) (fun _ _ => rfl)) pe_int (fun _ _ => rfl)))) pss_nil)
      (pss_cons (ps_set (i := 9) scFn.nd rfl (.inl rfl) (pe_make ML GI hr (by rfl) T.mD bI .nil pass0 (pa_cons (pe_ix ix_list (pv 3) (pv 7) (fun _ _ => rfl)) (pa_cons (pv 8) pa_nil))))
      (pss_cons (ps_set (i := 10) scFn.nd rfl (.inl rfl) (pe_call GD hr1 (by rfl) gD FD.kp bD .nil pass0 (pa_cons (pv 0) (pa_cons (pe_callB call_len_seq (by rfl) ml PySem.boot_len (pa_cons (pv 1) pa_nil)) pa_nil))))
      (pss_cons (ps_set (i := 11) scFn.nd rfl (.inl rfl) (pe_ix ix_list (pv 2) (pe_call GD hr1 (by rfl) gD FD.kp bD .nil pass0 (pa_cons (pv 0) (pa_cons (pe_callB call_len_seq (by rfl) ml PySem.boot_len (pa_cons (pv 2) pa_nil)) pa_nil))) (fun _ _ => rfl)))
      (pss_cons (ps_expr (pe_meth (pe_ix ix_list (pv 3) (pv 10) (fun _ _ => rfl)) T.c1.cl mB GB hr1 bB .nil pass0 (pa_cons (pv 11) (pa_cons (pv 9) pa_nil))))
      (pss_cons (ps_dput hu (pe_ix ix_list (pv 4) (pv 10) (fun _ _ => rfl)) (pv 11) (pe_tup (pa_cons pe_int (pa_cons (pv 7) (pa_cons (pv 8) pa_nil)))) rfl)
      (pss_one (ps_expr (pe_bm PySem.F.plainAttrs_list PySem.F.slot_list_append PySem.F.type_list_append mt_append (pv 5) (pa_cons (pe_tup (pa_cons (pv 9) (pa_cons (pv 7) (pa_cons (pv 8) (pa_cons (pv 10) (pa_cons (pv 11) pa_nil)))))) pa_nil)))))))))))))
      (pss_one (ps_ret (pv 5)))), ?_⟩
    refine ⟨sz (by simp), fun t ht => ?_⟩
    have ntl : t ≠ l := hP.ne ht
    have hP1 := hP.new (o := .lst []) ntl
    have l16 := S.l4
    have l20 := S.lN
    have lf0 : 0 < X.fs.length := List.length_pos_iff.mpr S.neF
    have ln0 : 0 < X.ns.length := List.length_pos_iff.mpr S.neN
    refine ⟨_, rfl, l, _, pa hP1, pb hP1, rfl, by decide, by decide, ph hP1, pk hP1, fun H2 d c2 hP2 d0 d1 => ⟨_, _, rfl, rfl, _, rfl, by omega, by omega, ?_⟩⟩
    have B0 : Fst X l t H (upd H t (.lst [])) [] := ⟨S.same (fun c o e => by rw [upd_ne (ne_of_none e ht)]; exact e), hP1, upd_same, fun v hv => (by cases hv), fun c o e _ _ _ => by rw [upd_ne (ne_of_none e ht)]; exact e⟩
    refine for_it (n := (1 + d).toNat) walk_range (fun i σ H' => ∃ (v6 v7 v8 v9 v10 v11 : Option V) (fl : List V), σ = [some (.ref l), some (.ref X.F), some (.ref X.N), some (.ref X.Lm), some (.ref X.M), some (.ref t), v6, v7, v8, v9, v10, v11] ∧ Fst X l t H H' fl ∧ fl.length = i)
      ⟨none, none, none, none, none, none, [], rfl, B0.ch ntl c2 hP2, rfl⟩ (fun _ _ _ _ _ => trivial) ?_ ?_
    · rintro i x σ H3' H3 hi ⟨v6, v7, v8, v9, v10, v11, fl, rfl, B3, lfl⟩ ⟨rfl, rfl⟩
      have hP3 := B3.hP
      obtain ⟨xs, eF, rF⟩ := B3.S.hF
      have hlx : xs.length = X.fs.length := by rw [rF.len, List.length_map]
      refine ⟨_, rfl, _, rfl, X.F, xs, rfl, .inl (SqL.of eF), l, _, pa hP3, pb hP3, rfl, by omega, lg16 (by omega) (by omega), ph hP3, pk hP3, fun H4 hh c4 hP4 h0 h1 => ?_⟩
      obtain ⟨jh, rfl⟩ : ∃ k : Nat, hh = (k : Int) := ⟨hh.toNat, by omega⟩
      have hjh : jh < X.fs.length := by omega
      have B4 := B3.ch ntl c4 hP4
      refine ⟨_, rfl, _, rfl, l, X.N, X.ns, rfl, hP4, B4.S.hN, S.okN, S.neN, by omega, fun H5 r c5 hP5 hr5 => ?_⟩
      have B5 := B4.ch ntl c5 hP5
      refine ⟨_, rfl, sz (by simp), fun L0 hL0 => ?_⟩
      have s6 : Same H5 (upd H5 L0 (.lst [])) := fun c o e => by rw [upd_ne (ne_of_none e hL0)]; exact e
      have eL0 : (upd H5 L0 (.lst [])) L0 = some (.lst []) := upd_same
      obtain ⟨H6, e6⟩ : ∃ H6, upd H5 L0 (.lst []) = H6 := ⟨_, rfl⟩
      rw [e6] at s6 eL0 ⊢
      have B6 := B5.same s6
      have hP6 := B6.hP
      refine ⟨t, L0, fl, rfl, rfl, SqL.of B6.et, SqL.of eL0, ?_⟩
      rcases List.eq_nil_or_concat fl with hfl | ⟨fi, vl, hfl⟩
      · rw [show (!fl.isEmpty) = false by rw [hfl]; rfl]
        refine ⟨_, rfl, ?_⟩
        have BY := B6
        have rY := hr5
        obtain ⟨HY, eY⟩ : ∃ HY, H6 = HY := ⟨_, rfl⟩
        rw [eY] at BY ⊢
        obtain ⟨⟨nh, ph'⟩, hfh⟩ : ∃ np, X.fs[jh]? = some np := ⟨_, List.getElem?_eq_getElem hjh⟩
        obtain ⟨b, _, _, _, _, _, gb, _⟩ := BY.S.row jh nh ph' hfh
        refine ⟨_, rfl, _, rfl, X.Lm, _, _, .ref b, rfl, rfl, SqL.of BY.S.hL, atI_nat (j := jh) (by rw [List.getElem?_map, gb]; rfl), _, rfl, fun L dL hL hdL hne => ⟨L, dL, .ref b, r, rfl, upd_same, rfl, ?_⟩⟩
        have s1 : Same HY (upd (upd (upd (upd HY dL (.own L)) L (.ins X.D dL [])) L (.ins X.D dL (putF "home" (.ref b) []))) L (.ins X.D dL (lF (.ref b) r))) := fun c o e => by
          rw [upd_ne (ne_of_none e hL), upd_ne (ne_of_none e hL), upd_ne (ne_of_none e hL), upd_ne (ne_of_none e hdL)]
          exact e
        have eL : (upd (upd (upd (upd HY dL (.own L)) L (.ins X.D dL [])) L (.ins X.D dL (putF "home" (.ref b) []))) L (.ins X.D dL (lF (.ref b) r))) L = some (.ins X.D dL (lF (.ref b) r)) := upd_same
        obtain ⟨H1, e1⟩ : ∃ H1, (upd (upd (upd (upd HY dL (.own L)) L (.ins X.D dL [])) L (.ins X.D dL (putF "home" (.ref b) []))) L (.ins X.D dL (lF (.ref b) r))) = H1 := ⟨_, rfl⟩
        rw [e1] at s1 eL ⊢
        have B1 := BY.same s1
        have hLt : LtR X H1 L jh r := ⟨b, dL, nh, ph', hfh, gb, eL, rY⟩
        obtain ⟨xs1, eF1, rF1⟩ := B1.S.hF
        have hlx1 : xs1.length = X.fs.length := by rw [rF1.len, List.length_map]
        refine ⟨_, rfl, _, rfl, X.F, xs1, rfl, .inl (SqL.of eF1), l, _, pa B1.hP, pb B1.hP, rfl, by omega, lg16 (by omega) (by omega), ph B1.hP, pk B1.hP, fun H2 kk c2 hP2 k0 k1 => ?_⟩
        obtain ⟨jk, rfl⟩ : ∃ k : Nat, kk = (k : Int) := ⟨kk.toNat, by omega⟩
        have hjk : jk < X.fs.length := by omega
        have B2 := B1.ch ntl c2 hP2
        have hL2 := hLt.kt (kt_ch B1.hP c2)
        refine ⟨_, rfl, _, rfl, _, rfl, X.N, _, rfl, .inl (SqL.of B2.S.hN), l, _, pa hP2, pb hP2, rfl, by rw [List.length_map]; omega, by rw [List.length_map]; exact lg16 (by omega) (by omega), ph hP2, pk hP2, fun HB zz cB hPB z0 z1 => ?_⟩
        obtain ⟨iz, rfl⟩ : ∃ k : Nat, zz = (k : Int) := ⟨zz.toNat, by omega⟩
        have hiz : iz < X.ns.length := by rw [List.length_map] at z1; omega
        have BB := B2.ch ntl cB hPB
        have hLB := hL2.kt (kt_ch hP2 cB)
        obtain ⟨z, ez⟩ : ∃ z, X.ns[iz] = z := ⟨_, rfl⟩
        have hz : z ∈ X.ns := ez ▸ List.getElem_mem hiz
        refine ⟨X.N, _, _, .str z, rfl, rfl, SqL.of BB.S.hN, atI_nat (j := iz) (by rw [List.getElem?_map, List.getElem?_eq_getElem hiz, ez]; rfl), ?_⟩
        obtain ⟨⟨n, p⟩, hf⟩ : ∃ np, X.fs[jk]? = some np := ⟨_, List.getElem?_eq_getElem hjk⟩
        obtain ⟨a, d, qa, kvs, mvs, ks, g1, g2, g3, hM, hq, kk1, kk2, kk3, kk4, kk5⟩ := BB.S.row jk n p hf
        obtain ⟨⟨dx, ha⟩, hd⟩ := id hM
        have lks := S.lk kk3 kk4
        have lkv : kvs.length ≤ 20 := by
          have := congrArg List.length kk1
          rw [List.length_map, List.length_map] at this
          omega
        have lmv : mvs.length ≤ 20 := by
          have := congrArg List.length kk2
          rw [List.length_map, List.length_map] at this
          omega
        have atA : atI (X.as.map V.ref) (jk : Int) = some (.ref a) := atI_nat (j := jk) (by rw [List.getElem?_map, g1]; rfl)
        have atQ : atI (X.qs.map V.ref) (jk : Int) = some (.ref qa) := atI_nat (j := jk) (by rw [List.getElem?_map, g3]; rfl)
        have ndq : d ≠ qa := (List.nodup_append.mp S.nd).2.2 d (List.mem_of_getElem? g2) qa (List.mem_of_getElem? g3)
        have k2 : ∀ c o, HB c = some o → c ≠ d → (upd HB d (.dK (putK kvs (Sum.inr z : Key) (V.ref L)))) c = some o := fun c o e h => by
          rw [upd_ne h]
          exact e
        refine ⟨_, rfl, _, rfl, X.Lm, _, _, .ref a, rfl, rfl, SqL.of BB.S.hL, atA, a, dx, _, rfl, ha, mF_no _ _ _ (by decide +kernel) (by decide +kernel) (by decide +kernel), _, rfl, _, rfl, a, d, n, p, z, (V.ref L), kvs, rfl, hM, by omega, ?_⟩
        refine ⟨_, rfl, _, rfl, sz (by simp), fun u hu' => ?_⟩
        have k5 : ∀ c o, (upd HB d (.dK (putK kvs (Sum.inr z : Key) (V.ref L)))) c = some o → (upd (upd HB d (.dK (putK kvs (Sum.inr z : Key) (V.ref L)))) u (.tup [.int 2, .int (jh : Int), .str r])) c = some o := fun c o e => by
          rw [upd_ne (ne_of_none e hu')]
          exact e
        have nqu : u ≠ qa := (ne_of_none (k2 _ _ hq ndq.symm) hu').symm
        refine ⟨_, rfl, _, rfl, X.M, _, _, .ref qa, rfl, rfl, SqL.of (k5 _ _ (k2 _ _ BB.S.hM (fun y => by have e := BB.S.hM; rw [y, hd] at e; cases e))), atQ, _, rfl, qa, _, rfl, DPut.k (k := Sum.inr z) (k5 _ _ (k2 _ _ hq ndq.symm)) (small1000 (by omega)), ?_⟩
        have eu : (upd (upd (upd HB d (.dK (putK kvs (Sum.inr z : Key) (V.ref L)))) u (.tup [.int 2, .int (jh : Int), .str r])) qa (.dK (putK mvs (Sum.inr z : Key) (.ref u)))) u = some (.tup [.int 2, .int (jh : Int), .str r]) := by rw [upd_ne nqu]; exact upd_same
        have ed : (upd (upd (upd HB d (.dK (putK kvs (Sum.inr z : Key) (V.ref L)))) u (.tup [.int 2, .int (jh : Int), .str r])) qa (.dK (putK mvs (Sum.inr z : Key) (.ref u)))) d = some (.dK (putK kvs (Sum.inr z : Key) (V.ref L))) := by rw [upd_ne ndq]; exact k5 _ _ upd_same
        have eq' : (upd (upd (upd HB d (.dK (putK kvs (Sum.inr z : Key) (V.ref L)))) u (.tup [.int 2, .int (jh : Int), .str r])) qa (.dK (putK mvs (Sum.inr z : Key) (.ref u)))) qa = some (.dK (putK mvs (Sum.inr z : Key) (.ref u))) := upd_same
        have k3 : ∀ c o, HB c = some o → c ≠ d → c ≠ qa → (upd (upd (upd HB d (.dK (putK kvs (Sum.inr z : Key) (V.ref L)))) u (.tup [.int 2, .int (jh : Int), .str r])) qa (.dK (putK mvs (Sum.inr z : Key) (.ref u)))) c = some o := fun c o e h1 h2 => by
          rw [upd_ne h2]
          exact k5 _ _ (k2 c o e h1)
        obtain ⟨HC, eC⟩ : ∃ HC, (upd (upd (upd HB d (.dK (putK kvs (Sum.inr z : Key) (V.ref L)))) u (.tup [.int 2, .int (jh : Int), .str r])) qa (.dK (putK mvs (Sum.inr z : Key) (.ref u)))) = HC := ⟨_, rfl⟩
        rw [eC] at eu ed eq' k3 ⊢
        have k4 : ∀ c o, HB c = some o → (∀ m, o ≠ .dK m) → HC c = some o := fun c o e h => k3 c o e (fun y => by rw [y, hd] at e; cases e; exact h _ rfl) (fun y => by rw [y, hq] at e; cases e; exact h _ rfl)
        have kt : Kt HB HC := fun c o e hc => k4 c o e fun m y => by
          rw [y] at hc
          rcases hc with ⟨_, hc⟩ | ⟨_, _, _, hc⟩ <;> cases hc
        have hLC := hLB.kt kt
        have hv : KdR X HC (.ref L) u := by
          obtain ⟨b', dL', n', p', i1, i2, i3, i4⟩ := hLC
          exact .fn i1 i2 i3 i4 eu
        have SC : Wh X HC := BB.S.bind hf g2 g3 hd hq hz k3 ed eq' hv
        have kb := bn_put BB.S g2 g3 hq k3 eq'
        have BC : Fst X l t H HC fl := ⟨SC, (by
          obtain ⟨p0, p1, e, h⟩ := hPB
          exact ⟨p0, p1, k4 _ _ e (fun m y => by cases y), h⟩), k4 _ _ BB.et (fun m y => by cases y), fun v hv' => (BB.fe v hv').mono kt kb, fun c o e h1 h2 h3 => k3 _ _ (BB.k c o e h1 h2 h3) (fun y => h2 (y ▸ List.mem_of_getElem? g2)) (fun y => h3 (y ▸ List.mem_of_getElem? g3))⟩
        have bnC : Bn X HC jk z := ⟨qa, _, g3, eq', by rw [valV_put, if_pos rfl]; rfl⟩
        refine ⟨_, rfl, .inl ⟨rfl, _, SqL.of BC.et⟩, _, rfl, _, rfl, _, rfl, _, rfl, _, rfl, sz (by simp), fun T' hT' => ?_⟩
        have sT : Same HC (upd HC T' (.tup [.ref L, .int (jh : Int), .str r, .int (jk : Int), .str z])) := fun c o e => by rw [upd_ne (ne_of_none e hT')]; exact e
        have eT : (upd HC T' (.tup [.ref L, .int (jh : Int), .str r, .int (jk : Int), .str z])) T' = some (.tup [.ref L, .int (jh : Int), .str r, .int (jk : Int), .str z]) := upd_same
        obtain ⟨HT, eHT⟩ : ∃ HT, upd HC T' (.tup [.ref L, .int (jh : Int), .str r, .int (jk : Int), .str z]) = HT := ⟨_, rfl⟩
        rw [eHT] at sT eT ⊢
        have BT := BC.same sT
        refine ⟨t, _, _, rfl, rfl, BT.et, small1000 (by omega), ?_⟩
        exact ⟨_, _, _, _, _, _, fl ++ [.ref T'], rfl, BT.push S ht ntl ⟨T', L, jh, r, jk, z, rfl, eT, hLC.kt (kt_same sT), hjk, hz, bnC.same sT⟩, by rw [List.length_append, lfl]; rfl⟩
      · rw [show (!fl.isEmpty) = true by rw [hfl]; simp]
        refine ⟨_, rfl, ?_⟩
        refine ⟨_, rfl, l, _, pa hP6, pb hP6, rfl, by decide, by decide, ph hP6, pk hP6, fun H7 d7 c7 hP7 d70 d71 => ⟨rfl, _, rfl, ?_⟩⟩
        have B7 := B6.ch ntl c7 hP7
        by_cases hd7 : d7 = 0
        · rw [show decide (V.int d7 = V.int 0) = true from decide_eq_true (by rw [hd7])]
          obtain ⟨uu, Lx, jx, rl, kx, zx, rfl, hux, hLx, _⟩ := B7.fe vl (by rw [hfl]; simp)
          refine ⟨_, rfl, 1, rfl, t, _, -1, _, rfl, rfl, SqL.of B7.et, (by rw [hfl, List.concat_eq_append]; exact atI_last _ _), uu, _, _, _, rfl, rfl, SqT.of hux, atI_nat (j := 2) rfl, ?_⟩
          have BY := B7
          have rY : rdOk X.ns rl := hLx.choose_spec.choose_spec.choose_spec.choose_spec.2.2.2
          obtain ⟨HY, eY⟩ : ∃ HY, H7 = HY := ⟨_, rfl⟩
          rw [eY] at BY ⊢
          obtain ⟨⟨nh, ph'⟩, hfh⟩ : ∃ np, X.fs[jh]? = some np := ⟨_, List.getElem?_eq_getElem hjh⟩
          obtain ⟨b, _, _, _, _, _, gb, _⟩ := BY.S.row jh nh ph' hfh
          refine ⟨_, rfl, _, rfl, X.Lm, _, _, .ref b, rfl, rfl, SqL.of BY.S.hL, atI_nat (j := jh) (by rw [List.getElem?_map, gb]; rfl), _, rfl, fun L dL hL hdL hne => ⟨L, dL, .ref b, rl, rfl, upd_same, rfl, ?_⟩⟩
          have s1 : Same HY (upd (upd (upd (upd HY dL (.own L)) L (.ins X.D dL [])) L (.ins X.D dL (putF "home" (.ref b) []))) L (.ins X.D dL (lF (.ref b) rl))) := fun c o e => by
            rw [upd_ne (ne_of_none e hL), upd_ne (ne_of_none e hL), upd_ne (ne_of_none e hL), upd_ne (ne_of_none e hdL)]
            exact e
          have eL : (upd (upd (upd (upd HY dL (.own L)) L (.ins X.D dL [])) L (.ins X.D dL (putF "home" (.ref b) []))) L (.ins X.D dL (lF (.ref b) rl))) L = some (.ins X.D dL (lF (.ref b) rl)) := upd_same
          obtain ⟨H1, e1⟩ : ∃ H1, (upd (upd (upd (upd HY dL (.own L)) L (.ins X.D dL [])) L (.ins X.D dL (putF "home" (.ref b) []))) L (.ins X.D dL (lF (.ref b) rl))) = H1 := ⟨_, rfl⟩
          rw [e1] at s1 eL ⊢
          have B1 := BY.same s1
          have hLt : LtR X H1 L jh rl := ⟨b, dL, nh, ph', hfh, gb, eL, rY⟩
          obtain ⟨xs1, eF1, rF1⟩ := B1.S.hF
          have hlx1 : xs1.length = X.fs.length := by rw [rF1.len, List.length_map]
          refine ⟨_, rfl, _, rfl, X.F, xs1, rfl, .inl (SqL.of eF1), l, _, pa B1.hP, pb B1.hP, rfl, by omega, lg16 (by omega) (by omega), ph B1.hP, pk B1.hP, fun H2 kk c2 hP2 k0 k1 => ?_⟩
          obtain ⟨jk, rfl⟩ : ∃ k : Nat, kk = (k : Int) := ⟨kk.toNat, by omega⟩
          have hjk : jk < X.fs.length := by omega
          have B2 := B1.ch ntl c2 hP2
          have hL2 := hLt.kt (kt_ch B1.hP c2)
          refine ⟨_, rfl, _, rfl, _, rfl, X.N, _, rfl, .inl (SqL.of B2.S.hN), l, _, pa hP2, pb hP2, rfl, by rw [List.length_map]; omega, by rw [List.length_map]; exact lg16 (by omega) (by omega), ph hP2, pk hP2, fun HB zz cB hPB z0 z1 => ?_⟩
          obtain ⟨iz, rfl⟩ : ∃ k : Nat, zz = (k : Int) := ⟨zz.toNat, by omega⟩
          have hiz : iz < X.ns.length := by rw [List.length_map] at z1; omega
          have BB := B2.ch ntl cB hPB
          have hLB := hL2.kt (kt_ch hP2 cB)
          obtain ⟨z, ez⟩ : ∃ z, X.ns[iz] = z := ⟨_, rfl⟩
          have hz : z ∈ X.ns := ez ▸ List.getElem_mem hiz
          refine ⟨X.N, _, _, .str z, rfl, rfl, SqL.of BB.S.hN, atI_nat (j := iz) (by rw [List.getElem?_map, List.getElem?_eq_getElem hiz, ez]; rfl), ?_⟩
          obtain ⟨⟨n, p⟩, hf⟩ : ∃ np, X.fs[jk]? = some np := ⟨_, List.getElem?_eq_getElem hjk⟩
          obtain ⟨a, d, qa, kvs, mvs, ks, g1, g2, g3, hM, hq, kk1, kk2, kk3, kk4, kk5⟩ := BB.S.row jk n p hf
          obtain ⟨⟨dx, ha⟩, hd⟩ := id hM
          have lks := S.lk kk3 kk4
          have lkv : kvs.length ≤ 20 := by
            have := congrArg List.length kk1
            rw [List.length_map, List.length_map] at this
            omega
          have lmv : mvs.length ≤ 20 := by
            have := congrArg List.length kk2
            rw [List.length_map, List.length_map] at this
            omega
          have atA : atI (X.as.map V.ref) (jk : Int) = some (.ref a) := atI_nat (j := jk) (by rw [List.getElem?_map, g1]; rfl)
          have atQ : atI (X.qs.map V.ref) (jk : Int) = some (.ref qa) := atI_nat (j := jk) (by rw [List.getElem?_map, g3]; rfl)
          have ndq : d ≠ qa := (List.nodup_append.mp S.nd).2.2 d (List.mem_of_getElem? g2) qa (List.mem_of_getElem? g3)
          have k2 : ∀ c o, HB c = some o → c ≠ d → (upd HB d (.dK (putK kvs (Sum.inr z : Key) (V.ref L)))) c = some o := fun c o e h => by
            rw [upd_ne h]
            exact e
          refine ⟨_, rfl, _, rfl, X.Lm, _, _, .ref a, rfl, rfl, SqL.of BB.S.hL, atA, a, dx, _, rfl, ha, mF_no _ _ _ (by decide +kernel) (by decide +kernel) (by decide +kernel), _, rfl, _, rfl, a, d, n, p, z, (V.ref L), kvs, rfl, hM, by omega, ?_⟩
          refine ⟨_, rfl, _, rfl, sz (by simp), fun u hu' => ?_⟩
          have k5 : ∀ c o, (upd HB d (.dK (putK kvs (Sum.inr z : Key) (V.ref L)))) c = some o → (upd (upd HB d (.dK (putK kvs (Sum.inr z : Key) (V.ref L)))) u (.tup [.int 2, .int (jh : Int), .str rl])) c = some o := fun c o e => by
            rw [upd_ne (ne_of_none e hu')]
            exact e
          have nqu : u ≠ qa := (ne_of_none (k2 _ _ hq ndq.symm) hu').symm
          refine ⟨_, rfl, _, rfl, X.M, _, _, .ref qa, rfl, rfl, SqL.of (k5 _ _ (k2 _ _ BB.S.hM (fun y => by have e := BB.S.hM; rw [y, hd] at e; cases e))), atQ, _, rfl, qa, _, rfl, DPut.k (k := Sum.inr z) (k5 _ _ (k2 _ _ hq ndq.symm)) (small1000 (by omega)), ?_⟩
          have eu : (upd (upd (upd HB d (.dK (putK kvs (Sum.inr z : Key) (V.ref L)))) u (.tup [.int 2, .int (jh : Int), .str rl])) qa (.dK (putK mvs (Sum.inr z : Key) (.ref u)))) u = some (.tup [.int 2, .int (jh : Int), .str rl]) := by rw [upd_ne nqu]; exact upd_same
          have ed : (upd (upd (upd HB d (.dK (putK kvs (Sum.inr z : Key) (V.ref L)))) u (.tup [.int 2, .int (jh : Int), .str rl])) qa (.dK (putK mvs (Sum.inr z : Key) (.ref u)))) d = some (.dK (putK kvs (Sum.inr z : Key) (V.ref L))) := by rw [upd_ne ndq]; exact k5 _ _ upd_same
          have eq' : (upd (upd (upd HB d (.dK (putK kvs (Sum.inr z : Key) (V.ref L)))) u (.tup [.int 2, .int (jh : Int), .str rl])) qa (.dK (putK mvs (Sum.inr z : Key) (.ref u)))) qa = some (.dK (putK mvs (Sum.inr z : Key) (.ref u))) := upd_same
          have k3 : ∀ c o, HB c = some o → c ≠ d → c ≠ qa → (upd (upd (upd HB d (.dK (putK kvs (Sum.inr z : Key) (V.ref L)))) u (.tup [.int 2, .int (jh : Int), .str rl])) qa (.dK (putK mvs (Sum.inr z : Key) (.ref u)))) c = some o := fun c o e h1 h2 => by
            rw [upd_ne h2]
            exact k5 _ _ (k2 c o e h1)
          obtain ⟨HC, eC⟩ : ∃ HC, (upd (upd (upd HB d (.dK (putK kvs (Sum.inr z : Key) (V.ref L)))) u (.tup [.int 2, .int (jh : Int), .str rl])) qa (.dK (putK mvs (Sum.inr z : Key) (.ref u)))) = HC := ⟨_, rfl⟩
          rw [eC] at eu ed eq' k3 ⊢
          have k4 : ∀ c o, HB c = some o → (∀ m, o ≠ .dK m) → HC c = some o := fun c o e h => k3 c o e (fun y => by rw [y, hd] at e; cases e; exact h _ rfl) (fun y => by rw [y, hq] at e; cases e; exact h _ rfl)
          have kt : Kt HB HC := fun c o e hc => k4 c o e fun m y => by
            rw [y] at hc
            rcases hc with ⟨_, hc⟩ | ⟨_, _, _, hc⟩ <;> cases hc
          have hLC := hLB.kt kt
          have hv : KdR X HC (.ref L) u := by
            obtain ⟨b', dL', n', p', i1, i2, i3, i4⟩ := hLC
            exact .fn i1 i2 i3 i4 eu
          have SC : Wh X HC := BB.S.bind hf g2 g3 hd hq hz k3 ed eq' hv
          have kb := bn_put BB.S g2 g3 hq k3 eq'
          have BC : Fst X l t H HC fl := ⟨SC, (by
            obtain ⟨p0, p1, e, h⟩ := hPB
            exact ⟨p0, p1, k4 _ _ e (fun m y => by cases y), h⟩), k4 _ _ BB.et (fun m y => by cases y), fun v hv' => (BB.fe v hv').mono kt kb, fun c o e h1 h2 h3 => k3 _ _ (BB.k c o e h1 h2 h3) (fun y => h2 (y ▸ List.mem_of_getElem? g2)) (fun y => h3 (y ▸ List.mem_of_getElem? g3))⟩
          have bnC : Bn X HC jk z := ⟨qa, _, g3, eq', by rw [valV_put, if_pos rfl]; rfl⟩
          refine ⟨_, rfl, .inl ⟨rfl, _, SqL.of BC.et⟩, _, rfl, _, rfl, _, rfl, _, rfl, _, rfl, sz (by simp), fun T' hT' => ?_⟩
          have sT : Same HC (upd HC T' (.tup [.ref L, .int (jh : Int), .str rl, .int (jk : Int), .str z])) := fun c o e => by rw [upd_ne (ne_of_none e hT')]; exact e
          have eT : (upd HC T' (.tup [.ref L, .int (jh : Int), .str rl, .int (jk : Int), .str z])) T' = some (.tup [.ref L, .int (jh : Int), .str rl, .int (jk : Int), .str z]) := upd_same
          obtain ⟨HT, eHT⟩ : ∃ HT, upd HC T' (.tup [.ref L, .int (jh : Int), .str rl, .int (jk : Int), .str z]) = HT := ⟨_, rfl⟩
          rw [eHT] at sT eT ⊢
          have BT := BC.same sT
          refine ⟨t, _, _, rfl, rfl, BT.et, small1000 (by omega), ?_⟩
          exact ⟨_, _, _, _, _, _, fl ++ [.ref T'], rfl, BT.push S ht ntl ⟨T', L, jh, rl, jk, z, rfl, eT, hLC.kt (kt_same sT), hjk, hz, bnC.same sT⟩, by rw [List.length_append, lfl]; rfl⟩
        · rw [show decide (V.int d7 = V.int 0) = false from decide_eq_false (fun e => hd7 (by cases e; rfl))]
          have BY := B7
          have rY := hr5
          obtain ⟨HY, eY⟩ : ∃ HY, H7 = HY := ⟨_, rfl⟩
          rw [eY] at BY ⊢
          obtain ⟨⟨nh, ph'⟩, hfh⟩ : ∃ np, X.fs[jh]? = some np := ⟨_, List.getElem?_eq_getElem hjh⟩
          obtain ⟨b, _, _, _, _, _, gb, _⟩ := BY.S.row jh nh ph' hfh
          refine ⟨_, rfl, _, rfl, X.Lm, _, _, .ref b, rfl, rfl, SqL.of BY.S.hL, atI_nat (j := jh) (by rw [List.getElem?_map, gb]; rfl), _, rfl, fun L dL hL hdL hne => ⟨L, dL, .ref b, r, rfl, upd_same, rfl, ?_⟩⟩
          have s1 : Same HY (upd (upd (upd (upd HY dL (.own L)) L (.ins X.D dL [])) L (.ins X.D dL (putF "home" (.ref b) []))) L (.ins X.D dL (lF (.ref b) r))) := fun c o e => by
            rw [upd_ne (ne_of_none e hL), upd_ne (ne_of_none e hL), upd_ne (ne_of_none e hL), upd_ne (ne_of_none e hdL)]
            exact e
          have eL : (upd (upd (upd (upd HY dL (.own L)) L (.ins X.D dL [])) L (.ins X.D dL (putF "home" (.ref b) []))) L (.ins X.D dL (lF (.ref b) r))) L = some (.ins X.D dL (lF (.ref b) r)) := upd_same
          obtain ⟨H1, e1⟩ : ∃ H1, (upd (upd (upd (upd HY dL (.own L)) L (.ins X.D dL [])) L (.ins X.D dL (putF "home" (.ref b) []))) L (.ins X.D dL (lF (.ref b) r))) = H1 := ⟨_, rfl⟩
          rw [e1] at s1 eL ⊢
          have B1 := BY.same s1
          have hLt : LtR X H1 L jh r := ⟨b, dL, nh, ph', hfh, gb, eL, rY⟩
          obtain ⟨xs1, eF1, rF1⟩ := B1.S.hF
          have hlx1 : xs1.length = X.fs.length := by rw [rF1.len, List.length_map]
          refine ⟨_, rfl, _, rfl, X.F, xs1, rfl, .inl (SqL.of eF1), l, _, pa B1.hP, pb B1.hP, rfl, by omega, lg16 (by omega) (by omega), ph B1.hP, pk B1.hP, fun H2 kk c2 hP2 k0 k1 => ?_⟩
          obtain ⟨jk, rfl⟩ : ∃ k : Nat, kk = (k : Int) := ⟨kk.toNat, by omega⟩
          have hjk : jk < X.fs.length := by omega
          have B2 := B1.ch ntl c2 hP2
          have hL2 := hLt.kt (kt_ch B1.hP c2)
          refine ⟨_, rfl, _, rfl, _, rfl, X.N, _, rfl, .inl (SqL.of B2.S.hN), l, _, pa hP2, pb hP2, rfl, by rw [List.length_map]; omega, by rw [List.length_map]; exact lg16 (by omega) (by omega), ph hP2, pk hP2, fun HB zz cB hPB z0 z1 => ?_⟩
          obtain ⟨iz, rfl⟩ : ∃ k : Nat, zz = (k : Int) := ⟨zz.toNat, by omega⟩
          have hiz : iz < X.ns.length := by rw [List.length_map] at z1; omega
          have BB := B2.ch ntl cB hPB
          have hLB := hL2.kt (kt_ch hP2 cB)
          obtain ⟨z, ez⟩ : ∃ z, X.ns[iz] = z := ⟨_, rfl⟩
          have hz : z ∈ X.ns := ez ▸ List.getElem_mem hiz
          refine ⟨X.N, _, _, .str z, rfl, rfl, SqL.of BB.S.hN, atI_nat (j := iz) (by rw [List.getElem?_map, List.getElem?_eq_getElem hiz, ez]; rfl), ?_⟩
          obtain ⟨⟨n, p⟩, hf⟩ : ∃ np, X.fs[jk]? = some np := ⟨_, List.getElem?_eq_getElem hjk⟩
          obtain ⟨a, d, qa, kvs, mvs, ks, g1, g2, g3, hM, hq, kk1, kk2, kk3, kk4, kk5⟩ := BB.S.row jk n p hf
          obtain ⟨⟨dx, ha⟩, hd⟩ := id hM
          have lks := S.lk kk3 kk4
          have lkv : kvs.length ≤ 20 := by
            have := congrArg List.length kk1
            rw [List.length_map, List.length_map] at this
            omega
          have lmv : mvs.length ≤ 20 := by
            have := congrArg List.length kk2
            rw [List.length_map, List.length_map] at this
            omega
          have atA : atI (X.as.map V.ref) (jk : Int) = some (.ref a) := atI_nat (j := jk) (by rw [List.getElem?_map, g1]; rfl)
          have atQ : atI (X.qs.map V.ref) (jk : Int) = some (.ref qa) := atI_nat (j := jk) (by rw [List.getElem?_map, g3]; rfl)
          have ndq : d ≠ qa := (List.nodup_append.mp S.nd).2.2 d (List.mem_of_getElem? g2) qa (List.mem_of_getElem? g3)
          have k2 : ∀ c o, HB c = some o → c ≠ d → (upd HB d (.dK (putK kvs (Sum.inr z : Key) (V.ref L)))) c = some o := fun c o e h => by
            rw [upd_ne h]
            exact e
          refine ⟨_, rfl, _, rfl, X.Lm, _, _, .ref a, rfl, rfl, SqL.of BB.S.hL, atA, a, dx, _, rfl, ha, mF_no _ _ _ (by decide +kernel) (by decide +kernel) (by decide +kernel), _, rfl, _, rfl, a, d, n, p, z, (V.ref L), kvs, rfl, hM, by omega, ?_⟩
          refine ⟨_, rfl, _, rfl, sz (by simp), fun u hu' => ?_⟩
          have k5 : ∀ c o, (upd HB d (.dK (putK kvs (Sum.inr z : Key) (V.ref L)))) c = some o → (upd (upd HB d (.dK (putK kvs (Sum.inr z : Key) (V.ref L)))) u (.tup [.int 2, .int (jh : Int), .str r])) c = some o := fun c o e => by
            rw [upd_ne (ne_of_none e hu')]
            exact e
          have nqu : u ≠ qa := (ne_of_none (k2 _ _ hq ndq.symm) hu').symm
          refine ⟨_, rfl, _, rfl, X.M, _, _, .ref qa, rfl, rfl, SqL.of (k5 _ _ (k2 _ _ BB.S.hM (fun y => by have e := BB.S.hM; rw [y, hd] at e; cases e))), atQ, _, rfl, qa, _, rfl, DPut.k (k := Sum.inr z) (k5 _ _ (k2 _ _ hq ndq.symm)) (small1000 (by omega)), ?_⟩
          have eu : (upd (upd (upd HB d (.dK (putK kvs (Sum.inr z : Key) (V.ref L)))) u (.tup [.int 2, .int (jh : Int), .str r])) qa (.dK (putK mvs (Sum.inr z : Key) (.ref u)))) u = some (.tup [.int 2, .int (jh : Int), .str r]) := by rw [upd_ne nqu]; exact upd_same
          have ed : (upd (upd (upd HB d (.dK (putK kvs (Sum.inr z : Key) (V.ref L)))) u (.tup [.int 2, .int (jh : Int), .str r])) qa (.dK (putK mvs (Sum.inr z : Key) (.ref u)))) d = some (.dK (putK kvs (Sum.inr z : Key) (V.ref L))) := by rw [upd_ne ndq]; exact k5 _ _ upd_same
          have eq' : (upd (upd (upd HB d (.dK (putK kvs (Sum.inr z : Key) (V.ref L)))) u (.tup [.int 2, .int (jh : Int), .str r])) qa (.dK (putK mvs (Sum.inr z : Key) (.ref u)))) qa = some (.dK (putK mvs (Sum.inr z : Key) (.ref u))) := upd_same
          have k3 : ∀ c o, HB c = some o → c ≠ d → c ≠ qa → (upd (upd (upd HB d (.dK (putK kvs (Sum.inr z : Key) (V.ref L)))) u (.tup [.int 2, .int (jh : Int), .str r])) qa (.dK (putK mvs (Sum.inr z : Key) (.ref u)))) c = some o := fun c o e h1 h2 => by
            rw [upd_ne h2]
            exact k5 _ _ (k2 c o e h1)
          obtain ⟨HC, eC⟩ : ∃ HC, (upd (upd (upd HB d (.dK (putK kvs (Sum.inr z : Key) (V.ref L)))) u (.tup [.int 2, .int (jh : Int), .str r])) qa (.dK (putK mvs (Sum.inr z : Key) (.ref u)))) = HC := ⟨_, rfl⟩
          rw [eC] at eu ed eq' k3 ⊢
          have k4 : ∀ c o, HB c = some o → (∀ m, o ≠ .dK m) → HC c = some o := fun c o e h => k3 c o e (fun y => by rw [y, hd] at e; cases e; exact h _ rfl) (fun y => by rw [y, hq] at e; cases e; exact h _ rfl)
          have kt : Kt HB HC := fun c o e hc => k4 c o e fun m y => by
            rw [y] at hc
            rcases hc with ⟨_, hc⟩ | ⟨_, _, _, hc⟩ <;> cases hc
          have hLC := hLB.kt kt
          have hv : KdR X HC (.ref L) u := by
            obtain ⟨b', dL', n', p', i1, i2, i3, i4⟩ := hLC
            exact .fn i1 i2 i3 i4 eu
          have SC : Wh X HC := BB.S.bind hf g2 g3 hd hq hz k3 ed eq' hv
          have kb := bn_put BB.S g2 g3 hq k3 eq'
          have BC : Fst X l t H HC fl := ⟨SC, (by
            obtain ⟨p0, p1, e, h⟩ := hPB
            exact ⟨p0, p1, k4 _ _ e (fun m y => by cases y), h⟩), k4 _ _ BB.et (fun m y => by cases y), fun v hv' => (BB.fe v hv').mono kt kb, fun c o e h1 h2 h3 => k3 _ _ (BB.k c o e h1 h2 h3) (fun y => h2 (y ▸ List.mem_of_getElem? g2)) (fun y => h3 (y ▸ List.mem_of_getElem? g3))⟩
          have bnC : Bn X HC jk z := ⟨qa, _, g3, eq', by rw [valV_put, if_pos rfl]; rfl⟩
          refine ⟨_, rfl, .inl ⟨rfl, _, SqL.of BC.et⟩, _, rfl, _, rfl, _, rfl, _, rfl, _, rfl, sz (by simp), fun T' hT' => ?_⟩
          have sT : Same HC (upd HC T' (.tup [.ref L, .int (jh : Int), .str r, .int (jk : Int), .str z])) := fun c o e => by rw [upd_ne (ne_of_none e hT')]; exact e
          have eT : (upd HC T' (.tup [.ref L, .int (jh : Int), .str r, .int (jk : Int), .str z])) T' = some (.tup [.ref L, .int (jh : Int), .str r, .int (jk : Int), .str z]) := upd_same
          obtain ⟨HT, eHT⟩ : ∃ HT, upd HC T' (.tup [.ref L, .int (jh : Int), .str r, .int (jk : Int), .str z]) = HT := ⟨_, rfl⟩
          rw [eHT] at sT eT ⊢
          have BT := BC.same sT
          refine ⟨t, _, _, rfl, rfl, BT.et, small1000 (by omega), ?_⟩
          exact ⟨_, _, _, _, _, _, fl ++ [.ref T'], rfl, BT.push S ht ntl ⟨T', L, jh, r, jk, z, rfl, eT, hLC.kt (kt_same sT), hjk, hz, bnC.same sT⟩, by rw [List.length_append, lfl]; rfl⟩
    · rintro σ H3 ⟨v6, v7, v8, v9, v10, v11, fl, rfl, B3, lfl⟩
      exact ⟨_, rfl, q H3 t fl ht ntl B3 (fun z => by rw [z] at lfl; simp at lfl; omega) (by omega)⟩
end
end D24
set_option maxHeartbeats 4000000
/-! k24: the function that is taken; is it right -/
namespace D24
open PySem PySem.Spec PyProof.Rows L2 HM XW XR K11 XM XSo XV XS NdefX XT
abbrev sRt : Stmt := top 39
abbrev nRt : List Str := ["_law_facts_here", "_law_models", "_law_modules", "_law_function", "_law_chain_here", "_law_late", "_law_home", "_law_road_here", "_law_handed_here", "_law_due_here", "_law_turn"]
theorem scRt : FnScope nRt ["_law_facts_here", "_law_models", "_law_modules", "_law_function", "_law_chain_here"] (defScope sRt) := ⟨rfl, rfl, rfl, by decide +kernel, rfl, by decide +kernel, by decide +kernel⟩
theorem HdR.pair {K : PySem.W.Frag} {as : List Addr} {H : Hp} : ∀ {cs : List (Nat × Int)} {hs zs : List V}, HdR as H hs cs → HdR as H zs cs → Paired (XQ.Pr K H) hs zs
  | _, _, _, .nil, .nil => .nil
  | _, _, _, .cons (a := a) (r := r) h1 h2 h3, .cons (a := b) g1 g2 g3 => by
    have e : a = b := Option.some.inj (h2.symm.trans g2)
    subst e
    exact .cons ⟨_, _, a, r, rfl, rfl, SqT.of h1, SqT.of g1⟩ (h3.pair g3)
theorem kq_kt {H H' : Hp} (k : Kt H H') : Kq AllA H H' := fun c o e hc => by
  rcases hc with hc | ⟨hc, _⟩
  · exact k c o e (.inl hc)
  · exact absurd trivial hc
section
variable {X : Pm} {cs : List (Nat × Int)} {H H' : Hp}
theorem Wk.kd : ∀ {j : Nat} {ws : List Str} {R : Sum (V × Addr) PyData}, Wk X H cs j ws R → ∀ v u, R = .inl (v, u) → KdR X H v u
  | _, _, _, .last ⟨_, _, _, _, _, _, _, _, _, _, _, _, _, _, h⟩, v, u, e => by
    cases e
    exact h
  | _, _, _, .no _, _, _, e => by cases e
  | _, _, _, .flat _ _, _, _, e => by cases e
  | _, _, _, .go _ _ _ _ h, v, u, e => h.kd v u e
theorem Wk.sm (S : Wh X H) (ck : CkOk X.fs.length cs) (h16 : cs.length ≤ 16) : ∀ {j : Nat} {ws : List Str} {R : Sum (V × Addr) PyData}, Wk X H cs j ws R → j < X.fs.length → (∀ w ∈ ws, nmOk w) → ∀ d, R = .inr d → SmX d 3 3000
  | _, _, _, .last _, _, _, d, e => by cases e
  | _, _, _, .no _, hj, hw, d, e => by
    cases e
    exact sm_flt S.okF hj (hw _ List.mem_cons_self) ck.lt h16
  | _, _, _, .flat _ _, hj, hw, d, e => by
    cases e
    exact sm_flat S.okF hj (hw _ List.mem_cons_self)
  | _, _, _, .go _ _ _ hj' h, _, hw, d, e => h.sm S ck h16 hj' (fun w hw' => hw w (List.mem_cons_of_mem _ hw')) d e
end
section
variable {w : World} {K : PySem.W.Frag} {mg : Str → Option Value} {base : Heap} {f fD fT fH fU fS fA C D : Addr} {fd fdD fdT fdH fdU fdS fdA : FuncData}
theorem ok_tk (F : FnP K "_law_taken" sTk f fd) (T : ClT K mg C D) (GD : FnOk pr w K mg base CX0 1 fD fdD DP spDraw) (FD : FnP K "_law_draw" sDraw fD fdD) (gD : mg "_law_draw" = some (.ref fD))
    (GT : FnOk pr w K mg base CX0 1 fT fdT ["self", "name"] (spMT C)) (mT : Meth K C "thing_of" fT) (bT : Binds K fdT ["self", "name"] []) (ml : mg "len" = none) :
    FnOk pr w K mg base CX0 2 f fd ["_law_pot_here", "_law_functions_here", "_law_modules", "_law_models"] (spTk C D) := by
  have bD : Binds K fdD DP [] := FD.bindsN fun _ _ _ _ _ _ us hl => match us, hl with | [_, _], _ => rfl
  refine ok_code F scTk (fun vs H Q E h => ?_) (fun cdv A outer s H vs Q E hcd hr h => ?_)
  · obtain ⟨X, l, t, fl, _, _, rfl, _⟩ := h
    rfl
  · obtain ⟨X, l, t, fl, hC, hD, rfl, hP, S, et, hne, h4, hfe, q⟩ := h
    subst hC hD
    have hu := hu_of hr
    refine ⟨_, pss_cons (ps_asg (pe_ix ix_list (pv 1) (pe_call GD hr (by rfl) gD FD.kp bD .nil pass0 (pa_cons (pv 0) (pa_cons (pe_callB call_len_seq (by rfl) ml PySem.boot_len (pa_cons (pv 1) pa_nil)) pa_nil))) (fun _ _ => rfl)) (pg_tup (by rfl) (pgs_cons (pg_name (i := 4) scTk.nd rfl (.inl rfl)) (pgs_cons (pg_name (i := 5) scTk.nd rfl (.inl rfl)) (pgs_cons (pg_name (i := 6) scTk.nd rfl (.inl rfl)) (pgs_cons (pg_name (i := 7) scTk.nd rfl (.inl rfl)) (pgs_cons (pg_name (i := 8) scTk.nd rfl (.inl rfl)) pgs_nil)))))))
      (pss_cons (ps_if (PW.pt (pw_and (pt_cmpR op_eq (pe_call GD hr (by rfl) gD FD.kp bD .nil pass0 (pa_cons (pv 0) (pa_cons pe_int pa_nil))) pe_int (nomark _)) (pw_and1 (pt_cmpR op_eq (pe_ix ix_tup (pe_dget hu (pe_ix ix_list (pv 3) (pv 7) (fun _ _ => rfl)) (pv 8) (fun _ _ => rfl)) pe_int (fun _ _ => rfl)) pe_int (nomark _))))) (pss_cons (ps_set (i := 9) scTk.nd rfl (.inl rfl) (pe_dget hu (pe_ix ix_list (pv 3) (pv 7) (fun _ _ => rfl)) (pv 8) (fun _ _ => rfl)))
      (pss_one (ps_ret (pe_tup (pa_cons (pe_meth (pe_ix ix_list (pv 2) (pv 7) (fun _ _ => rfl)) T.c1.cl mT GT hr bT .nil pass0 (pa_cons (pv 8) pa_nil)) (pa_cons (pe_ix ix_tup (pv 9) pe_int (fun _ _ => rfl)) (pa_cons (pe_ix ix_tup (pv 9) pe_int (fun _ _ => rfl)) pa_nil))))))) pss_nil)
      (pss_one (ps_ret (pe_tup (pa_cons (pv 4) (pa_cons (pv 5) (pa_cons (pv 6) pa_nil))))))), ?_⟩
    have ntl := fl_ne hP et hfe
    have lf0 : 0 < fl.length := List.length_pos_iff.mpr hne
    refine ⟨_, rfl, _, rfl, _, rfl, t, _, rfl, .inl (SqL.of et), l, _, pa hP, pb hP, rfl, by omega, lg16 (by omega) (by omega), ph hP, pk hP, fun H1 kk c1 hP1 k0 k1 => ?_⟩
    obtain ⟨jk, rfl⟩ : ∃ k : Nat, kk = (k : Int) := ⟨kk.toNat, by omega⟩
    have hjk : jk < fl.length := by omega
    have S1 := S.keep hP c1
    have et1 := c1 _ _ et ntl
    obtain ⟨uu, L, j, r, k, z, ev, hux, hLx, hk, hz, bn⟩ := (hfe _ (List.getElem_mem hjk)).mono (kt_ch hP c1) (fun i y b => b.ch hP c1)
    refine ⟨t, _, _, .ref uu, rfl, rfl, SqL.of et1, atI_nat (j := jk) (by rw [List.getElem?_eq_getElem hjk, ev]), uu, _, rfl, SqT.of hux, rfl, _, _, rfl, _, _, rfl, _, _, rfl, _, _, rfl, _, _, rfl, rfl, ?_⟩
    refine ⟨_, rfl, l, _, pa hP1, pb hP1, rfl, by decide, by decide, ph hP1, pk hP1, fun H2 d2 c2 hP2 d20 d21 => ⟨rfl, _, rfl, ?_⟩⟩
    have c02 := Ch.trans c1 c2
    have S2 := S.keep hP c02
    have hL2 := hLx.kt (kt_ch hP1 c2)
    have bn2 := bn.ch hP1 c2
    have last : ∀ (T' : Addr), H2 T' = none → Q (.ref T') (upd H2 T' (.tup [.ref L, .int (j : Int), .str r])) := fun T' hT' => by
      have s3 : Same H2 (upd H2 T' (.tup [.ref L, .int (j : Int), .str r])) := fun c o e => by rw [upd_ne (ne_of_none e hT')]; exact e
      exact q _ T' L j r (fun c o e h => s3 _ _ (c02 c o e h)) (hP2.new (hP2.ne hT')) upd_same (hL2.kt (kt_same s3))
    by_cases hd2 : d2 = 1
    · rw [show decide (V.int d2 = V.int 1) = true from decide_eq_true (by rw [hd2])]
      obtain ⟨qa', mvs', g', e', h'⟩ := bn2
      rcases S2.at hk z with ⟨n, p, a, d, qa, kvs, mvs, e1, e2, e3, hM, hq, e4, e5⟩ | ⟨v, u, n, p, a, d, qa, kvs, mvs, e1, e2, e3, hM, hq, e4, e5, e6⟩
      · rw [e3] at g'
        cases g'
        rw [hq] at e'
        cases e'
        rw [e5] at h'
        cases h'
      · have atQ : atI (X.qs.map V.ref) (k : Int) = some (.ref qa) := atI_nat (j := k) (by rw [List.getElem?_map, e3]; rfl)
        have atA : atI (X.as.map V.ref) (k : Int) = some (.ref a) := atI_nat (j := k) (by rw [List.getElem?_map, e2]; rfl)
        have dg : DGet H2 qa (.str z) (some (.ref u)) := by
          rw [← e5]
          exact DGet.k (k := Sum.inr z) hq
        obtain ⟨⟨dx, ha⟩, hd⟩ := id hM
        cases e6 with
        | num i h1 hu' =>
          refine ⟨_, rfl, _, rfl, X.M, _, _, .ref qa, rfl, rfl, SqL.of S2.hM, atQ, _, rfl, qa, .ref u, rfl, dg, u, _, _, _, rfl, rfl, SqT.of hu', atI_nat (j := 0) rfl, rfl, _, rfl, ?_⟩
          rw [neV' (k := 0) (m := 2) (by decide)]
          exact ⟨_, rfl, _, rfl, _, rfl, sz (by simp), last⟩
        | mod h1 h2 hu' =>
          refine ⟨_, rfl, _, rfl, X.M, _, _, .ref qa, rfl, rfl, SqL.of S2.hM, atQ, _, rfl, qa, .ref u, rfl, dg, u, _, _, _, rfl, rfl, SqT.of hu', atI_nat (j := 0) rfl, rfl, _, rfl, ?_⟩
          rw [neV' (k := 1) (m := 2) (by decide)]
          exact ⟨_, rfl, _, rfl, _, rfl, sz (by simp), last⟩
        | @fn _ b L' dL j' n' p' r' h1 h2 h3 h4' hu' =>
          refine ⟨_, rfl, _, rfl, X.M, _, _, .ref qa, rfl, rfl, SqL.of S2.hM, atQ, _, rfl, qa, .ref u, rfl, dg, u, _, _, _, rfl, rfl, SqT.of hu', atI_nat (j := 0) rfl, rfl, _, rfl, ?_⟩
          rw [show decide (V.int 2 = V.int 2) = true from rfl]
          refine ⟨_, rfl, _, rfl, X.M, _, _, .ref qa, rfl, rfl, SqL.of S2.hM, atQ, _, rfl, qa, .ref u, rfl, dg, ?_⟩
          refine ⟨_, rfl, _, rfl, X.Lm, _, _, .ref a, rfl, rfl, SqL.of S2.hL, atA, a, dx, _, rfl, ha, mF_no _ _ _ (by decide +kernel) (by decide +kernel) (by decide +kernel), _, rfl, a, d, n, p, z, kvs, rfl, hM, ?_⟩
          rw [e4]
          refine ⟨_, rfl, u, _, _, _, rfl, rfl, SqT.of hu', atI_nat (j := 1) rfl, _, rfl, u, _, _, _, rfl, rfl, SqT.of hu', atI_nat (j := 2) rfl, sz (by simp), fun T' hT' => ?_⟩
          have s3 : Same H2 (upd H2 T' (.tup [.ref L', .int (j' : Int), .str r'])) := fun c o e => by rw [upd_ne (ne_of_none e hT')]; exact e
          exact q _ T' L' j' r' (fun c o e h => s3 _ _ (c02 c o e h)) (hP2.new (hP2.ne hT')) upd_same (LtR.kt (kt_same s3) ⟨b, dL, n', p', h1, h2, h3, h4'⟩)
    · rw [show decide (V.int d2 = V.int 1) = false from decide_eq_false (fun e => hd2 (by cases e; rfl))]
      exact ⟨_, rfl, _, rfl, _, rfl, sz (by simp), last⟩
end
end D24
set_option maxHeartbeats 4000000
/-! k24: a function answers right -/
namespace D24
open PySem PySem.Spec PyProof.Rows L2 HM XW XR K11 XM XSo XV XS NdefX XT
/-- what is due, what is said, as tuples -/
inductive DT (H : Hp) (R : Sum (V × Addr) PyData) (t : Addr) : Prop
  | thing {v : V} {u : Addr} : R = .inl (v, u) → H t = some (.tup [.str "thing", .ref u]) → DT H R t
  | fault {d : PyData} {G : Addr} : R = .inr d → H t = some (.tup [.str "fault", .ref G]) → Rg AllA H (.ref G) d → DT H R t
inductive ST (H : Hp) (R : Sum (V × Addr) PyData) (t : Addr) : Prop
  | thing {v : V} {u : Addr} : R = .inl (v, u) → H t = some (.tup [.str "thing", v]) → ST H R t
  | fault {d : PyData} {G : Addr} : R = .inr d → H t = some (.tup [.str "fault", .ref G]) → Rg AllA H (.ref G) d → ST H R t
theorem DT.same {H H' : Hp} {R : Sum (V × Addr) PyData} {t : Addr} (k : Same H H') : DT H R t → DT H' R t
  | .thing e h => .thing e (k _ _ h)
  | .fault e h r => .fault e (k _ _ h) (r.kq (kq_kt (kt_same k)))
theorem DuQ.of {H : Hp} {Q : VK} {R : Sum (V × Addr) PyData} (h : ∀ (H' : Hp) (t : Addr), Same H H' → DT H' R t → Q (.ref t) H') : DuQ H Q R :=
  ⟨fun _ _ H' t e k h1 => h H' t k (.thing e h1), fun _ H' t _ e k h1 r => h H' t k (.fault e h1 r)⟩
theorem SdQ.of {H : Hp} {Q : VK} {R : Sum (V × Addr) PyData} (h : ∀ (H' : Hp) (t : Addr), Same H H' → ST H' R t → Q (.ref t) H') : SdQ H Q R :=
  ⟨fun _ _ H' t e k h1 => h H' t k (.thing e h1), fun _ H' t _ e k h1 r => h H' t k (.fault e h1 r)⟩
theorem ag_of {X : Pm} {H : Hp} {cs : List (Nat × Int)} {j : Nat} {ws : List Str} {R : Sum (V × Addr) PyData} {t1 t2 : Addr} (S : Wh X H) (ck : CkOk X.fs.length cs) (h16 : cs.length ≤ 16) (hj : j < X.fs.length) (hw : ∀ w ∈ ws, nmOk w) (hR : Wk X H cs j ws R) (d : DT H R t1) (s : ST H R t2) : AgR X H t2 t1 := by
  cases d with
  | thing e h =>
    cases s with
    | thing e' h' =>
      rw [e] at e'
      cases e'
      exact .thing h' h (hR.kd _ _ e)
    | fault e' h' r =>
      rw [e] at e'
      cases e'
  | fault e h r =>
    cases s with
    | thing e' h' =>
      rw [e] at e'
      cases e'
    | fault e' h' r' =>
      rw [e] at e'
      cases e'
      exact .fault h' h r' r (hR.sm S ck h16 hj hw _ e)
def spRt (C D : Addr) : Sp := fun vs H Q _ => ∃ (X : Pm) (u c L : Addr) (j : Nat) (r : Str) (ys : List V) (cs : List (Nat × Int)), X.C = C ∧ X.D = D ∧ vs = [.ref X.F, .ref X.M, .ref X.Lm, .ref u, .ref c] ∧ Wh X H ∧ H u = some (.tup [.ref L, .int j, .str r]) ∧ LtR X H L j r ∧
  H c = some (.lst ys) ∧ RgAll AllA H ys (csD cs) ∧ CkOk X.fs.length cs ∧ cs.length ≤ 16 ∧ ∀ H', Same H H' → Q (.bl true) H'
section
variable {w : World} {K : PySem.W.Frag} {mg : Str → Option Value} {base : Heap} {f fD fT fH fU fS fA C D : Addr} {fd fdD fdT fdH fdU fdS fdA : FuncData}
theorem ok_rt (F : FnP K "_law_right" sRt f fd) (T : ClT K mg C D)
    (GT : FnOk pr w K mg base CX0 1 fT fdT ["thing"] (spTo C D)) (FT : FnP K "told" sTo fT fdT) (gT : mg "told" = some (.ref fT))
    (GH : FnOk pr w K mg base CX0 1 fH fdH ["_law_modules", "_law_chain_here"] spHd) (FH : FnP K "_law_handed" sHd fH fdH) (gH : mg "_law_handed" = some (.ref fH))
    (GU : FnOk pr w K mg base CX0 2 fU fdU ["_law_facts_here", "_law_models", "_law_chain_here", "_law_at_here", "_law_road_here"] spDu) (FU : FnP K "_law_due" sDu fU fdU) (gU : mg "_law_due" = some (.ref fU))
    (GS : FnG pr w K mg base CX0 8 fS fdS ["_law_late", "_law_handed_here"] (spSd C D)) (FS : FnP K "_law_said" sSd fS fdS) (gS : mg "_law_said" = some (.ref fS))
    (GA : FnG pr w K mg base CX0 3 fA fdA ["_law_said_here", "_law_due_here", "_law_facts_here", "_law_models"] (spAg C D)) (FA : FnP K "_law_agrees" sAg fA fdA) (gA : mg "_law_agrees" = some (.ref fA))
    (mr : mg "range" = none) (mp : mg "repr" = none) : FnG pr w K mg base CX0 9 f fd ["_law_facts_here", "_law_models", "_law_modules", "_law_function", "_law_chain_here"] (spRt C D) := by
  have bT : Binds K fdT ["thing"] [] := FT.bindsN fun _ _ _ _ _ _ us hl => match us, hl with | [_], _ => rfl
  have bH : Binds K fdH ["_law_modules", "_law_chain_here"] [] := FH.bindsN fun _ _ _ _ _ _ us hl => match us, hl with | [_, _], _ => rfl
  have bU : Binds K fdU ["_law_facts_here", "_law_models", "_law_chain_here", "_law_at_here", "_law_road_here"] [] := FU.bindsN fun _ _ _ _ _ _ us hl => match us, hl with | [_, _, _, _, _], _ => rfl
  have bS : Binds K fdS ["_law_late", "_law_handed_here"] [] := FS.bindsN fun _ _ _ _ _ _ us hl => match us, hl with | [_, _], _ => rfl
  have bA : Binds K fdA ["_law_said_here", "_law_due_here", "_law_facts_here", "_law_models"] [] := FA.bindsN fun _ _ _ _ _ _ us hl => match us, hl with | [_, _, _, _], _ => rfl
  refine okG F scRt (fun vs H Q E h => ?_) (fun cdv A outer s H vs Q E hcd hr hgd h => ?_)
  · obtain ⟨X, u, c, L, j, r, ys, cs, _, _, rfl, _⟩ := h
    rfl
  · obtain ⟨X, u, c, L, j, r, ys, cs, hC, hD, rfl, S, eu, hLt, ec, rc, ck, h16, q⟩ := h
    subst hC hD
    have hr1 : Room 1 (A.deeper (envOfC "_law_right" (defScope sRt) s.heap.objs.size f cdv)) := hr.mono (by decide)
    have hr2 : Room 2 (A.deeper (envOfC "_law_right" (defScope sRt) s.heap.objs.size f cdv)) := hr.mono (by decide)
    have hr3 : Room 3 (A.deeper (envOfC "_law_right" (defScope sRt) s.heap.objs.size f cdv)) := hr.mono (by decide)
    refine ⟨_, PSs.nox (pss_cons (ps_asg (pv 3) (pg_tup (by rfl) (pgs_cons (pg_name (i := 5) scRt.nd rfl (.inl rfl)) (pgs_cons (pg_name (i := 6) scRt.nd rfl (.inl rfl)) (pgs_cons (pg_name (i := 7) scRt.nd rfl (.inl rfl)) pgs_nil)))))
      (pss_cons (ps_set (i := 8) scRt.nd rfl (.inl rfl) (pe_call GH hr1 (by rfl) gH FH.kp bH .nil pass0 (pa_cons (pv 2) (pa_cons (pv 4) pa_nil))))
      (pss_cons (ps_set (i := 9) scRt.nd rfl (.inl rfl) (pe_call GU hr2 (by rfl) gU FU.kp bU .nil pass0 (pa_cons (pv 0) (pa_cons (pv 1) (pa_cons (pv 4) (pa_cons (pv 6) (pa_cons (pe_split (pv 7) pe_str) pa_nil)))))))
      (pss_cons (ps_for PassesOwn.never rfl (pi_range1 (by rfl) mr (pa_cons pe_int pa_nil)) (pg_name (i := 10) scRt.nd rfl (.inl rfl)) (pss_cons (ps_if (pt_cmpR op_ne (pe_callB (call_reprA hr hgd) (by rfl) mp (by decide +kernel) (pa_cons (pe_call GT hr1 (by rfl) gT FT.kp bT .nil pass0 (pa_cons (pv 5) pa_nil)) pa_nil)) (pe_callB (call_reprA hr hgd) (by rfl) mp (by decide +kernel) (pa_cons (pe_tup (pa_cons pe_str (pa_cons (pe_ix ix_tup (pe_ix ix_list (pv 0) (pv 6) (fun _ _ => rfl)) pe_int (fun _ _ => rfl)) (pa_cons (pv 7) pa_nil)))) pa_nil)) (nomark _)) (pss_one (ps_ret pe_bl)) pss_nil)
      (pss_one (ps_if (PW.pt (pw_or (pt_not (pt_val (pe_callG GA hr3 hgd (by rfl) gA FA.kp bA .nil pass0 (pa_cons (pe_callG GS hr hgd (by rfl) gS FS.kp bS .nil pass0 (pa_cons (pv 5) (pa_cons (pv 8) pa_nil))) (pa_cons (pv 9) (pa_cons (pv 0) (pa_cons (pv 1) pa_nil))))))) (pw_or1 (pt_cmpR (XQ.op_neP hr.units) (pv 8) (pe_call GH hr1 (by rfl) gH FH.kp bH .nil pass0 (pa_cons (pv 2) (pa_cons (pv 4) pa_nil))) (nomark _))))) (pss_one (ps_ret pe_bl)) pss_nil))))
      (pss_one (ps_ret (pe_cmpR op_eq (pe_callB (call_reprA hr hgd) (by rfl) mp (by decide +kernel) (pa_cons (pe_call GT hr1 (by rfl) gT FT.kp bT .nil pass0 (pa_cons (pv 5) pa_nil)) pa_nil)) (pe_callB (call_reprA hr hgd) (by rfl) mp (by decide +kernel) (pa_cons (pe_tup (pa_cons pe_str (pa_cons (pe_ix ix_tup (pe_ix ix_list (pv 0) (pv 6) (fun _ _ => rfl)) pe_int (fun _ _ => rfl)) (pa_cons (pv 7) pa_nil)))) pa_nil)) (nomark _)))))))), ?_⟩
    have neT : ∀ x : Str, decide (V.str x = V.str x) = true := fun x => decide_eq_true rfl
    obtain ⟨a, dl, n, p, hf, haj, hL, hrd⟩ := id hLt
    obtain ⟨hpt, ws, rfl, hne, h4, hws⟩ := hrd
    have hw : ∀ w ∈ ws, nmOk w := fun w h => S.okN w (hws w h)
    have hj : j < X.fs.length := (List.getElem?_eq_some_iff.mp hf).1
    obtain ⟨R, hR⟩ := S.wk cs hne hj
    have hlA : ∀ x ∈ cs, x.1 < X.as.length := fun x hx => by
      rw [S.la]
      exact (ck.lt x hx).1
    obtain ⟨f1, f2, f3⟩ := S.okA hf
    have hn : n.natAbs < 10 ^ 60 := by
      have h1 : 1 ≤ n := f1
      have h2 : n < 10 ^ 60 := f2
      omega
    have sm := sm_fun hn hpt
    have hl := len_pt h4 hw
    refine ⟨_, rfl, u, _, rfl, SqT.of eu, rfl, _, _, rfl, _, _, rfl, _, _, rfl, rfl, ?_⟩
    refine ⟨_, rfl, _, rfl, X.Lm, c, X.as, ys, cs, rfl, S.hL, ec, rc, hlA, h16, fun H1 Ld hs s1 fLd eLd hd1 => ?_⟩
    refine ⟨_, rfl, _, rfl, _, rfl, _, rfl, _, rfl, ⟨_, rfl⟩, _, _, rfl, rfl, by decide +kernel, sz (by omega), fun t ht => ?_⟩
    rw [split_pt hne hw]
    have s2 : Same H1 (upd H1 t (.lst (ws.map V.str))) := fun b o e => by rw [upd_ne (ne_of_none e ht)]; exact e
    have et2 : (upd H1 t (.lst (ws.map V.str))) t = some (.lst (ws.map V.str)) := upd_same
    obtain ⟨H2, e2⟩ : ∃ H2, (upd H1 t (.lst (ws.map V.str))) = H2 := ⟨_, rfl⟩
    rw [e2] at s2 et2 ⊢
    have s02 := s1.trans s2
    refine ⟨X, c, t, j, ws, ys, cs, R, rfl, S.same s02, s02 _ _ ec, rc.kq (kq_kt (kt_same s02)), ck, h16, hj, et2, hne, h4, hR.same s02, DuQ.of fun H3 t1 s23 dt => ?_⟩
    have s03 := s02.trans s23
    have s13 := s2.trans s23
    refine ⟨2, rfl, by decide, by decide, ?_⟩
    refine for_it (n := 2) walk_range (fun m σ H' => ∃ v10 : Option V, σ = [some (.ref X.F), some (.ref X.M), some (.ref X.Lm), some (.ref u), some (.ref c), some (.ref L), some (.int (j : Int)), some (.str (Txt.join (Str.ofString ".") ws)), some (.ref Ld), some (.ref t1), v10] ∧ Same H3 H')
      ⟨none, rfl, Same.refl H3⟩ (fun _ _ _ _ _ => trivial) ?_ ?_
    · rintro m x σ H4' H4 hm ⟨v10, rfl, s34⟩ ⟨rfl, rfl⟩
      have s04 := s03.trans s34
      have S4 := S.same s04
      obtain ⟨a4, d4, qa4, kvs4, mvs4, ks4, g41, _, _, hM4, _⟩ := S4.row j n p hf
      rw [haj] at g41
      cases g41
      obtain ⟨⟨dx4, hma4⟩, hd4⟩ := id hM4
      obtain ⟨xs4, x4, eF4, ex4, hx4⟩ := S4.fact hf
      refine ⟨_, rfl, _, rfl, .inr (.inr ⟨L, dl, a, _, dx4, n, p, d4, rfl, s04 _ _ hL, hma4, fun t5 ht5 => ?_⟩)⟩
      have s45 : Same H4 (upd H4 t5 (.tup [.str "function", .int n, .str (Txt.join (Str.ofString ".") ws)])) := fun b o e => by rw [upd_ne (ne_of_none e ht5)]; exact e
      have et5 : (upd H4 t5 (.tup [.str "function", .int n, .str (Txt.join (Str.ofString ".") ws)])) t5 = some (.tup [.str "function", .int n, .str (Txt.join (Str.ofString ".") ws)]) := upd_same
      obtain ⟨H5, e5⟩ : ∃ H5, upd H4 t5 (.tup [.str "function", .int n, .str (Txt.join (Str.ofString ".") ws)]) = H5 := ⟨_, rfl⟩
      rw [e5] at s45 et5 ⊢
      refine .inr ⟨t5, .tuple [.str "function", .int n, .str (Txt.join (Str.ofString ".") ws)], rfl, .tup (SqT.of et5) (.cons (.str _) (.cons (.int _) (.cons (.str _) .nil))), sm.sh, sm.nd, Nat.le_trans sm.dp (by decide), shown_ok sm (by decide), _, rfl, _, rfl, X.F, xs4, _, .ref x4, rfl, rfl, SqL.of (s45 _ _ eF4), atI_nat ex4, x4, _, _, _, rfl, rfl, SqT.of (s45 _ _ hx4), atI_nat (j := 0) rfl, _, rfl, sz (by simp), fun t6 ht6 => ?_⟩
      have s46 : Same H4 (upd H5 t6 (.tup [.str "function", .int n, .str (Txt.join (Str.ofString ".") ws)])) := fun b o e => by rw [upd_ne (ne_of_none (s45 _ _ e) ht6)]; exact s45 _ _ e
      have et6 : (upd H5 t6 (.tup [.str "function", .int n, .str (Txt.join (Str.ofString ".") ws)])) t6 = some (.tup [.str "function", .int n, .str (Txt.join (Str.ofString ".") ws)]) := upd_same
      obtain ⟨H6, e6⟩ : ∃ H6, upd H5 t6 (.tup [.str "function", .int n, .str (Txt.join (Str.ofString ".") ws)]) = H6 := ⟨_, rfl⟩
      rw [e6] at s46 et6 ⊢
      refine .inr ⟨t6, .tuple [.str "function", .int n, .str (Txt.join (Str.ofString ".") ws)], rfl, .tup (SqT.of et6) (.cons (.str _) (.cons (.int _) (.cons (.str _) .nil))), sm.sh, sm.nd, Nat.le_trans sm.dp (by decide), shown_ok sm (by decide), rfl, _, rfl, ?_⟩
      rw [neT]
      have s06 := s04.trans s46
      have s16 := (s13.trans s34).trans s46
      have cn6 : Cn X H6 Ld hs cs := ⟨s16 _ _ eLd, hd1.kt (kt_same s16), ck, h16⟩
      refine ⟨_, rfl, _, rfl, X, L, Ld, j, ws, hs, cs, R, rfl, rfl, rfl, S.same s06, hLt.kt (kt_same s06), cn6, hne, h4, hw, hR.same s06, SdQ.of fun H7 t2 s67 stt => ?_⟩
      have s07 := s06.trans s67
      have S7 := S.same s07
      have dt7 := dt.same ((s34.trans s46).trans s67)
      refine ⟨_, rfl, _, rfl, _, rfl, X, t2, t1, rfl, rfl, rfl, S7, ag_of S7 ck h16 hj hw (hR.same s07) dt7 stt, fun H8 s78 => ⟨_, rfl, ?_⟩⟩
      have s08 := s07.trans s78
      refine ⟨_, rfl, _, rfl, _, rfl, X.Lm, c, X.as, ys, cs, rfl, (S.same s08).hL, s08 _ _ ec, rc.kq (kq_kt (kt_same s08)), hlA, h16, fun H9 t3 hs3 s89 ft3 et3 hd3 => ?_⟩
      have s19 := ((s16.trans s67).trans s78).trans s89
      refine ⟨Ld, t3, hs, hs3, rfl, rfl, SqL.of (s19 _ _ eLd), SqL.of et3, (hd1.kt (kt_same s19)).pair hd3, _, rfl, ?_⟩
      exact ⟨_, rfl, (((s34.trans s46).trans s67).trans s78).trans s89⟩
    · rintro σ H4 ⟨v10, rfl, s34⟩
      have s04 := s03.trans s34
      have S4 := S.same s04
      obtain ⟨a4, d4, qa4, kvs4, mvs4, ks4, g41, _, _, hM4, _⟩ := S4.row j n p hf
      rw [haj] at g41
      cases g41
      obtain ⟨⟨dx4, hma4⟩, hd4⟩ := id hM4
      obtain ⟨xs4, x4, eF4, ex4, hx4⟩ := S4.fact hf
      refine ⟨_, rfl, _, rfl, .inr (.inr ⟨L, dl, a, _, dx4, n, p, d4, rfl, s04 _ _ hL, hma4, fun t5 ht5 => ?_⟩)⟩
      have s45 : Same H4 (upd H4 t5 (.tup [.str "function", .int n, .str (Txt.join (Str.ofString ".") ws)])) := fun b o e => by rw [upd_ne (ne_of_none e ht5)]; exact e
      have et5 : (upd H4 t5 (.tup [.str "function", .int n, .str (Txt.join (Str.ofString ".") ws)])) t5 = some (.tup [.str "function", .int n, .str (Txt.join (Str.ofString ".") ws)]) := upd_same
      obtain ⟨H5, e5⟩ : ∃ H5, upd H4 t5 (.tup [.str "function", .int n, .str (Txt.join (Str.ofString ".") ws)]) = H5 := ⟨_, rfl⟩
      rw [e5] at s45 et5 ⊢
      refine .inr ⟨t5, .tuple [.str "function", .int n, .str (Txt.join (Str.ofString ".") ws)], rfl, .tup (SqT.of et5) (.cons (.str _) (.cons (.int _) (.cons (.str _) .nil))), sm.sh, sm.nd, Nat.le_trans sm.dp (by decide), shown_ok sm (by decide), _, rfl, _, rfl, X.F, xs4, _, .ref x4, rfl, rfl, SqL.of (s45 _ _ eF4), atI_nat ex4, x4, _, _, _, rfl, rfl, SqT.of (s45 _ _ hx4), atI_nat (j := 0) rfl, _, rfl, sz (by simp), fun t6 ht6 => ?_⟩
      have s46 : Same H4 (upd H5 t6 (.tup [.str "function", .int n, .str (Txt.join (Str.ofString ".") ws)])) := fun b o e => by rw [upd_ne (ne_of_none (s45 _ _ e) ht6)]; exact s45 _ _ e
      have et6 : (upd H5 t6 (.tup [.str "function", .int n, .str (Txt.join (Str.ofString ".") ws)])) t6 = some (.tup [.str "function", .int n, .str (Txt.join (Str.ofString ".") ws)]) := upd_same
      obtain ⟨H6, e6⟩ : ∃ H6, upd H5 t6 (.tup [.str "function", .int n, .str (Txt.join (Str.ofString ".") ws)]) = H6 := ⟨_, rfl⟩
      rw [e6] at s46 et6 ⊢
      refine .inr ⟨t6, .tuple [.str "function", .int n, .str (Txt.join (Str.ofString ".") ws)], rfl, .tup (SqT.of et6) (.cons (.str _) (.cons (.int _) (.cons (.str _) .nil))), sm.sh, sm.nd, Nat.le_trans sm.dp (by decide), shown_ok sm (by decide), rfl, ?_⟩
      rw [neT]
      exact q H6 (s04.trans s46)
end
end D24
set_option maxHeartbeats 8000000
/-! k24: the law -/
namespace D24
open PySem PySem.Spec PyProof.Rows L2 HM XW XR K11 XM XSo
abbrev sLaw : Stmt := top 40
abbrev nLaw : List Str := ["_law_script", "_law_pot_here", "_law_facts_here", "_law_names_here", "_law_modules", "_law_models", "_law_functions_here", "_law_k", "_law_function", "_law_chain_here", "_law_which", "_law_name_here", "_law_number_here", "_law_path"]
theorem scLaw : FnScope nLaw ["_law_script"] (defScope sLaw) := ⟨rfl, rfl, rfl, by decide +kernel, rfl, by decide +kernel, by decide +kernel⟩
def spLaw (K : PySem.W.Frag) : Sp := fun vs H Q _ => ∃ (a : Addr) (ns : List Int), vs = [.ref a] ∧ SqL K H a (ns.map V.int) ∧ ns.length ≤ 63 ∧ ∀ H', Q (.bl true) H'
structure Cr (X : Pm) (l tl : Addr) (fl : List V) (u L : Addr) (j : Nat) (r : Str) (Lc : Addr) (ys : List V) (cs : List (Nat × Int)) (H0 H : Hp) : Prop where
  S : Wh X H
  hP : PotAt H l
  et : H tl = some (.lst fl)
  fe : ∀ v ∈ fl, FnE X H v
  eu : H u = some (.tup [.ref L, .int j, .str r])
  hL : LtR X H L j r
  ec : H Lc = some (.lst ys)
  rc : RgAll AllA H ys (csD cs)
  k : Same H0 H
section
variable {X : Pm} {l tl u L Lc : Addr} {fl ys : List V} {j : Nat} {r : Str} {cs : List (Nat × Int)} {H0 H H' : Hp}
theorem cs_ne {l : Addr} (hP : PotAt H l) (h : H Lc = some (.lst ys)) (rc : RgAll AllA H ys (csD cs)) : Lc ≠ l := fun z => by
  obtain ⟨p0, p1, e, _⟩ := hP
  rw [z, e] at h
  cases h
  cases cs with
  | nil => cases rc
  | cons c cs =>
    cases rc with
    | cons h r =>
      obtain ⟨x, hx, _⟩ := rg_place h
      cases hx
theorem Cr.ch (B : Cr X l tl fl u L j r Lc ys cs H0 H) (nol : ∀ c o, H0 c = some o → c ≠ l) (k : Ch l H H') (hP : PotAt H' l) : Cr X l tl fl u L j r Lc ys cs H0 H' := by
  have kt := kt_ch B.hP k
  exact ⟨B.S.keep B.hP k, hP, k _ _ B.et (fl_ne B.hP B.et B.fe), fun v hv => (B.fe v hv).mono kt (fun i y b => b.ch B.hP k), kt _ _ B.eu (.inl ⟨_, rfl⟩), B.hL.kt kt, k _ _ B.ec (cs_ne B.hP B.ec B.rc), B.rc.kq (kq_kt kt), fun c o e => k _ _ (B.k c o e) (nol c o e)⟩
theorem Cr.same (B : Cr X l tl fl u L j r Lc ys cs H0 H) (k : Same H H') : Cr X l tl fl u L j r Lc ys cs H0 H' :=
  ⟨B.S.same k, (by
    obtain ⟨p0, p1, e, h⟩ := B.hP
    exact ⟨p0, p1, k _ _ e, h⟩), k _ _ B.et, fun v hv => (B.fe v hv).mono (kt_same k) (fun i y b => b.same k), k _ _ B.eu, B.hL.kt (kt_same k), k _ _ B.ec, B.rc.kq (kq_kt (kt_same k)), B.k.trans k⟩
theorem Cr.bd (B : Cr X l tl fl u L j r Lc ys cs H0 H) (f1 : ∀ c ∈ X.ds, H0 c = none) (f2 : ∀ c ∈ X.qs, H0 c = none) (S : Wh X H') (bd : Bd X H H') : Cr X l tl fl u L j r Lc ys cs H0 H' :=
  ⟨S, (by
    obtain ⟨p0, p1, e, h⟩ := B.hP
    exact ⟨p0, p1, bd.a _ _ e (fun m y => by cases y), h⟩), bd.a _ _ B.et (fun m y => by cases y), fun v hv => (B.fe v hv).mono bd.kt bd.c, bd.a _ _ B.eu (fun m y => by cases y), B.hL.kt bd.kt, bd.a _ _ B.ec (fun m y => by cases y), B.rc.kq (kq_kt bd.kt),
    fun c o e => bd.b c o (B.k c o e) (fun hc => by rw [f1 c hc] at e; cases e) (fun hc => by rw [f2 c hc] at e; cases e)⟩
end
section
variable {w : World} {K : PySem.W.Frag} {mg : Str → Option Value} {base : Heap} {f fP fD fF fN fW fI fC fM fT fR fB fK C D : Addr} {fd fdP fdD fdF fdN fdW fdI fdC fdM fdT fdR fdB fdK : FuncData}
theorem ok_law (F : FnP K "law" sLaw f fd) (T : ClT K mg C D)
    (GP : FnOk pr w K mg base CX0 2 fP fdP ["_law_script", "_law_k"] (spPot K)) (FP : FnP K "_law_pot" sPot fP fdP) (gP : mg "_law_pot" = some (.ref fP))
    (GD : FnOk pr w K mg base CX0 1 fD fdD DP spDraw) (FD : FnP K "_law_draw" sDraw fD fdD) (gD : mg "_law_draw" = some (.ref fD))
    (GF : FnOk pr w K mg base CX0 4 fF fdF ["_law_pot_here", "_law_room"] spFs) (FF : FnP K "_law_facts" sFs fF fdF) (gF : mg "_law_facts" = some (.ref fF))
    (GN : FnOk pr w K mg base CX0 3 fN fdN ["_law_pot_here", "_law_room"] spNms) (FN : FnP K "_law_names" sNms fN fdN) (gN : mg "_law_names" = some (.ref fN))
    (GW : FnOk pr w K mg base CX0 4 fW fdW ["_law_pot_here", "_law_facts_here", "_law_names_here", "_law_modules"] (spWb C D)) (FW : FnP K "_law_web" sWb fW fdW) (gW : mg "_law_web" = some (.ref fW))
    (MI : Mk K C fI) (GI : FnOk pr w K mg base CX0 1 fI fdI ["self", "number", "path"] (spMI C)) (bI : Binds K fdI ["self", "number", "path"] [])
    (GC : FnOk pr w K mg base CX0 2 fC fdC ["_law_pot_here", "_law_facts_here"] (spCh K)) (FC : FnP K "_law_chain" sCh fC fdC) (gC : mg "_law_chain" = some (.ref fC))
    (GM : FnOk pr w K mg base CX0 3 fM fdM ["_law_pot_here", "_law_facts_here", "_law_names_here", "_law_modules", "_law_models"] (spFn C D)) (FM : FnP K "_law_functions" sFn fM fdM) (gM : mg "_law_functions" = some (.ref fM))
    (GT : FnOk pr w K mg base CX0 2 fT fdT ["_law_pot_here", "_law_functions_here", "_law_modules", "_law_models"] (spTk C D)) (FT : FnP K "_law_taken" sTk fT fdT) (gT : mg "_law_taken" = some (.ref fT))
    (GR : FnG pr w K mg base CX0 9 fR fdR ["_law_facts_here", "_law_models", "_law_modules", "_law_function", "_law_chain_here"] (spRt C D)) (FR : FnP K "_law_right" sRt fR fdR) (gR : mg "_law_right" = some (.ref fR))
    (GB : FnOk pr w K mg base CX0 3 fB fdB ["_law_modules", "_law_models", "_law_which", "_law_name_here", "_law_kind_here"] (spBo C D)) (FB : FnP K "_law_bound" sBo fB fdB) (gB : mg "_law_bound" = some (.ref fB))
    (GK : FnOk pr w K mg base CX0 3 fK fdK ["_law_pot_here", "_law_facts_here", "_law_names_here"] spKd) (FK : FnP K "_law_kind" sKd fK fdK) (gK : mg "_law_kind" = some (.ref fK))
    (mr : mg "range" = none) (mx : mg "max" = none) (mn : mg "min" = none) (ml : mg "len" = none) : FnG pr w K mg base CX0 10 f fd ["_law_script"] (spLaw K) := by
  have bP : Binds K fdP ["_law_script", "_law_k"] [] := FP.bindsN fun _ _ _ _ _ _ us hl => match us, hl with | [_, _], _ => rfl
  have bD : Binds K fdD DP [] := FD.bindsN fun _ _ _ _ _ _ us hl => match us, hl with | [_, _], _ => rfl
  have bF : Binds K fdF ["_law_pot_here", "_law_room"] [] := FF.bindsN fun _ _ _ _ _ _ us hl => match us, hl with | [_, _], _ => rfl
  have bN : Binds K fdN ["_law_pot_here", "_law_room"] [] := FN.bindsN fun _ _ _ _ _ _ us hl => match us, hl with | [_, _], _ => rfl
  have bW : Binds K fdW ["_law_pot_here", "_law_facts_here", "_law_names_here", "_law_modules"] [] := FW.bindsN fun _ _ _ _ _ _ us hl => match us, hl with | [_, _, _, _], _ => rfl
  have bC : Binds K fdC ["_law_pot_here", "_law_facts_here"] [] := FC.bindsN fun _ _ _ _ _ _ us hl => match us, hl with | [_, _], _ => rfl
  have bM : Binds K fdM ["_law_pot_here", "_law_facts_here", "_law_names_here", "_law_modules", "_law_models"] [] := FM.bindsN fun _ _ _ _ _ _ us hl => match us, hl with | [_, _, _, _, _], _ => rfl
  have bT : Binds K fdT ["_law_pot_here", "_law_functions_here", "_law_modules", "_law_models"] [] := FT.bindsN fun _ _ _ _ _ _ us hl => match us, hl with | [_, _, _, _], _ => rfl
  have bR : Binds K fdR ["_law_facts_here", "_law_models", "_law_modules", "_law_function", "_law_chain_here"] [] := FR.bindsN fun _ _ _ _ _ _ us hl => match us, hl with | [_, _, _, _, _], _ => rfl
  have bB : Binds K fdB ["_law_modules", "_law_models", "_law_which", "_law_name_here", "_law_kind_here"] [] := FB.bindsN fun _ _ _ _ _ _ us hl => match us, hl with | [_, _, _, _, _], _ => rfl
  have bK : Binds K fdK ["_law_pot_here", "_law_facts_here", "_law_names_here"] [] := FK.bindsN fun _ _ _ _ _ _ us hl => match us, hl with | [_, _, _], _ => rfl
  refine okG F scLaw (fun vs H Q E h => ?_) (fun cdv A outer s H vs Q E hcd hr hgd h => ?_)
  · obtain ⟨a, ns, rfl, _⟩ := h
    rfl
  · obtain ⟨a, sc, rfl, hS, hlS, q⟩ := h
    have hr1 : Room 1 (A.deeper (envOfC "law" (defScope sLaw) s.heap.objs.size f cdv)) := hr.mono (by decide)
    have hr2 : Room 2 (A.deeper (envOfC "law" (defScope sLaw) s.heap.objs.size f cdv)) := hr.mono (by decide)
    have hr3 : Room 3 (A.deeper (envOfC "law" (defScope sLaw) s.heap.objs.size f cdv)) := hr.mono (by decide)
    have hr4 : Room 4 (A.deeper (envOfC "law" (defScope sLaw) s.heap.objs.size f cdv)) := hr.mono (by decide)
    refine ⟨_, PSs.nox (pss_cons (ps_set (i := 1) scLaw.nd rfl (.inl rfl) (pe_call GP hr2 (by rfl) gP FP.kp bP .nil pass0 (pa_cons (pv 0) (pa_cons pe_int pa_nil))))
      (pss_cons (ps_set (i := 2) scLaw.nd rfl (.inl rfl) (pe_call GF hr4 (by rfl) gF FF.kp bF .nil pass0 (pa_cons (pv 1) (pa_cons (pe_op op_add pe_int (pe_call GD hr1 (by rfl) gD FD.kp bD .nil pass0 (pa_cons (pv 1) (pa_cons pe_int pa_nil)))) pa_nil))))
      (pss_cons (ps_set (i := 3) scLaw.nd rfl (.inl rfl) (pe_call GN hr3 (by rfl) gN FN.kp bN .nil pass0 (pa_cons (pv 1) (pa_cons (pe_op op_add pe_int (pe_call GD hr1 (by rfl) gD FD.kp bD .nil pass0 (pa_cons (pv 1) (pa_cons pe_int pa_nil)))) pa_nil))))
      (pss_cons (ps_setLc (i := 4) (own := [("_law_number_here", 12), ("_law_path", 13)]) (g := gTup K 2 (gCons (gName 12) (gCons (gName 13) gNil))) (tt := tYes) (te := tMake C (spMI C) [] E0 (tCons (tVar 12) (tCons (tVar 13) tNil))) (by rfl) scLaw.nd rfl rfl (sw_true rfl rfl rfl (by decide +kernel)) (pi_list (pv 2))
          (blkOk_by (own := [("_law_number_here", 12), ("_law_path", 13)]) (N := nLaw) (sc := defScope sLaw) (by decide +kernel)) (fun _ _ _ _ _ => (pg_tup (by rfl) (pgs_cons (pg_name (i := 12) scLaw.nd rfl (.inl rfl)) (pgs_cons (pg_name (i := 13) scLaw.nd rfl (.inl rfl)) pgs_nil)))) (fun _ _ _ _ _ => pts_nil)
          (fun _ _ _ _ _ => pe_make MI GI hr2 (by rfl) T.mC bI .nil pass0 (pa_cons (pv 12) (pa_cons (pv 13) pa_nil))))
      (pss_cons (ps_set (i := 5) scLaw.nd rfl (.inl rfl) (pe_call GW hr4 (by rfl) gW FW.kp bW .nil pass0 (pa_cons (pv 1) (pa_cons (pv 2) (pa_cons (pv 3) (pa_cons (pv 4) pa_nil))))))
      (pss_cons (ps_set (i := 6) scLaw.nd rfl (.inl rfl) (pe_call GM hr3 (by rfl) gM FM.kp bM .nil pass0 (pa_cons (pv 1) (pa_cons (pv 2) (pa_cons (pv 3) (pa_cons (pv 4) (pa_cons (pv 5) pa_nil)))))))
      (pss_cons (ps_for PassesOwn.never rfl (pi_range2 (by rfl) mr (pa_cons pe_int (pa_cons (pe_callB (call_max2 rfl) (by rfl) mx (by decide +kernel) (pa_cons pe_int (pa_cons (pe_callB (call_min2 rfl) (by rfl) mn (by decide +kernel)
            (pa_cons (pe_callB call_len_seq (by rfl) ml PySem.boot_len (pa_cons (pv 0) pa_nil)) (pa_cons pe_int pa_nil))) pa_nil))) pa_nil))) (pg_name (i := 7) scLaw.nd rfl (.inl rfl)) (pss_cons (ps_set (i := 1) scLaw.nd rfl (.inl rfl) (pe_call GP hr2 (by rfl) gP FP.kp bP .nil pass0 (pa_cons (pv 0) (pa_cons (pv 7) pa_nil))))
      (pss_cons (ps_set (i := 8) scLaw.nd rfl (.inl rfl) (pe_call GT hr2 (by rfl) gT FT.kp bT .nil pass0 (pa_cons (pv 1) (pa_cons (pv 6) (pa_cons (pv 4) (pa_cons (pv 5) pa_nil))))))
      (pss_cons (ps_set (i := 9) scLaw.nd rfl (.inl rfl) (pe_call GC hr2 (by rfl) gC FC.kp bC .nil pass0 (pa_cons (pv 1) (pa_cons (pv 2) pa_nil))))
      (pss_cons (ps_if (pt_not (pt_val (pe_callG GR hr hgd (by rfl) gR FR.kp bR .nil pass0 (pa_cons (pv 2) (pa_cons (pv 5) (pa_cons (pv 4) (pa_cons (pv 8) (pa_cons (pv 9) pa_nil)))))))) (pss_one (ps_ret pe_bl)) pss_nil)
      (pss_one (ps_if (pt_cmpR op_eq (pe_call GD hr1 (by rfl) gD FD.kp bD .nil pass0 (pa_cons (pv 1) (pa_cons pe_int pa_nil))) pe_int (nomark _)) (pss_cons (ps_set (i := 10) scLaw.nd rfl (.inl rfl) (pe_call GD hr1 (by rfl) gD FD.kp bD .nil pass0 (pa_cons (pv 1) (pa_cons (pe_callB call_len_seq (by rfl) ml PySem.boot_len (pa_cons (pv 2) pa_nil)) pa_nil))))
      (pss_cons (ps_set (i := 11) scLaw.nd rfl (.inl rfl) (pe_ix ix_list (pe_split (pe_ix ix_tup (pv 8) pe_int (fun _ _ => rfl)) pe_str) (pe_call GD hr1 (by rfl) gD FD.kp bD .nil pass0 (pa_cons (pv 1) (pa_cons (pe_callB call_len_seq (by rfl) ml PySem.boot_len (pa_cons (pe_split (pe_ix ix_tup (pv 8) pe_int (fun _ _ => rfl)) pe_str) pa_nil)) pa_nil))) (fun _ _ => rfl)))
      (pss_cons (ps_expr (pe_call GB hr3 (by rfl) gB FB.kp bB .nil pass0 (pa_cons (pv 4) (pa_cons (pv 5) (pa_cons (pv 10) (pa_cons (pv 11) (pa_cons (pe_call GK hr3 (by rfl) gK FK.kp bK .nil pass0 (pa_cons (pv 1) (pa_cons (pv 2) (pa_cons (pv 3) pa_nil)))) pa_nil)))))))
      (pss_one (ps_if (pt_not (pt_val (pe_callG GR hr hgd (by rfl) gR FR.kp bR .nil pass0 (pa_cons (pv 2) (pa_cons (pv 5) (pa_cons (pv 4) (pa_cons (pv 8) (pa_cons (pv 9) pa_nil)))))))) (pss_one (ps_ret pe_bl)) pss_nil))))) pss_nil)))))))
      (pss_one (ps_ret pe_bl))))))))), ?_⟩
    refine ⟨_, rfl, a, sc, 0, rfl, by decide, hS, fun l0 p0 p1 hl0 pk0 => ?_⟩
    have hP1 : PotAt (upd H l0 (.lst [.int p0, .int p1])) l0 := ⟨p0, p1, upd_same, pk0⟩
    have s01 : Same H (upd H l0 (.lst [.int p0, .int p1])) := fun c o e => by rw [upd_ne (ne_of_none e hl0)]; exact e
    have ofCh : ∀ {H' : Hp}, Ch l0 (upd H l0 (.lst [.int p0, .int p1])) H' → Same H H' := fun c b o e => c b o (s01 b o e) (ne_of_none e hl0)
    refine ⟨_, rfl, _, rfl, l0, _, pa hP1, pb hP1, rfl, by decide, by decide, ph hP1, pk hP1, fun H2 d2 c2 hP2 d20 d21 => ?_⟩
    obtain ⟨k2, rfl⟩ : ∃ k : Nat, d2 = (k : Int) := ⟨d2.toNat, by omega⟩
    refine ⟨_, _, rfl, rfl, l0, 2 + k2, ?_, hP2, by omega, fun H4 tF xs fs c4 hP4 fF eF rF okF lenF => ?_⟩
    · show [V.ref l0, V.int (2 + (k2 : Int))] = [V.ref l0, V.int ((2 + k2 : Nat) : Int)]
      rw [Int.natCast_add]
      rfl
    have c04 : Ch l0 (upd H l0 (.lst [.int p0, .int p1])) H4 := Ch.trans c2 c4
    have ntF : tF ≠ l0 := fun z => by rw [z, ph hP2] at fF; cases fF
    refine ⟨_, rfl, _, rfl, l0, _, pa hP4, pb hP4, rfl, by decide, by decide, ph hP4, pk hP4, fun H5 d5 c5 hP5 d50 d51 => ?_⟩
    obtain ⟨k5, rfl⟩ : ∃ k : Nat, d5 = (k : Int) := ⟨d5.toNat, by omega⟩
    refine ⟨_, _, rfl, rfl, l0, 2 + k5, ?_, hP5, by omega, fun H6 tN ns c6 hP6 fN eN hnd hok hlN => ?_⟩
    · show [V.ref l0, V.int (2 + (k5 : Int))] = [V.ref l0, V.int ((2 + k5 : Nat) : Int)]
      rw [Int.natCast_add]
      rfl
    have c46 : Ch l0 H4 H6 := Ch.trans c5 c6
    have s06 : Same H H6 := ofCh (Ch.trans c04 c46)
    have eF6 := c46 tF _ eF ntF
    have rF6 : RgAll AllA H6 xs (fsD fs) := rF.kq (Kq.ofCh c46 trivial hP4)
    have hlx : xs.length = fs.length := by rw [rF.len, List.length_map]
    -- the modules
    refine ⟨_, rfl, tF, rfl, ⟨_, SqL.of eF6⟩, fun L7 hL7 => ?_⟩
    refine lc_list (xs := xs) (fun i H' => ∃ as ds : List Addr, as.length = i ∧ ds.length = i ∧ Same H6 H' ∧ H' L7 = some (.lst (as.map V.ref)) ∧ ds.Nodup ∧ as.Nodup ∧ (∀ d ∈ ds, H6 d = none ∧ H' d = some (.dK [])) ∧ (∀ b ∈ as, ∃ o, H' b = some o ∧ ∀ l, o ≠ .lst l) ∧
        ∀ j n p, j < i → fs[j]? = some (n, p) → ∃ a d, as[j]? = some a ∧ ds[j]? = some d ∧ MdAt C H' a n p d [])
      ⟨[], [], rfl, rfl, fun c o e => by rw [upd_ne (ne_of_none e hL7)]; exact e, upd_same, List.nodup_nil, List.nodup_nil, fun d hd => (by cases hd), fun d hd => (by cases hd), fun j n p h => absurd h (Nat.not_lt_zero _)⟩
      (fun i H' _ ⟨_, _, _, _, k, _⟩ => SqL.of (k _ _ eF6)) ?_ ?_
    · rintro i x H7 hx ⟨as, ds, la, ld, k7, eL, nd, na, hds, has, rows⟩
      obtain ⟨dd, hdd, rg⟩ := rF6.get i hx
      obtain ⟨⟨n, p⟩, hf, rfl⟩ : ∃ np, fs[i]? = some np ∧ dd = D24.fD np := by
        rw [List.getElem?_map] at hdd
        cases e : fs[i]? with
        | none =>
          rw [e] at hdd
          cases hdd
        | some np =>
          rw [e] at hdd
          exact ⟨np, rfl, (Option.some.inj hdd).symm⟩
      obtain ⟨xa, rfl, hxa⟩ := rg_fact rg
      have hil : i < xs.length := (List.getElem?_eq_some_iff.mp hx).1
      refine ⟨xa, _, rfl, SqT.of (k7 _ _ hxa), rfl, _, _, rfl, _, _, rfl, rfl, rfl, _, rfl, _, rfl, fun y dy hy hdy hne => ⟨y, dy, n, p, rfl, upd_same, fun d H8 hd0 ey ed kp => ⟨rfl, ?_⟩⟩⟩
      have dny : d ≠ y := fun z => by rw [z, upd_same] at hd0; cases hd0
      have dnd : d ≠ dy := fun z => by rw [z, upd_ne hne, upd_same] at hd0; cases hd0
      have hd7 : H7 d = none := by rw [upd_ne dny, upd_ne dnd] at hd0; exact hd0
      have k78 : Same H7 H8 := fun c o e => kp c o (by rw [upd_ne (ne_of_none e hy), upd_ne (ne_of_none e hdy)]; exact e) (ne_of_none e hy)
      have eL8 := k78 _ _ eL
      have k89 : ∀ c o, H8 c = some o → (∀ l, o ≠ .lst l) → (upd H8 L7 (.lst (as.map V.ref ++ [.ref y]))) c = some o := fun c o e h => by
        rw [upd_ne (fun z => by rw [z, eL8] at e; cases e; exact h _ rfl)]
        exact e
      refine ⟨_, eL8, small1000 (by rw [List.length_map]; omega), as ++ [y], ds ++ [d], by rw [List.length_append, la]; rfl, by rw [List.length_append, ld]; rfl, fun c o e => ?_, ?_, ?_, ?_, fun b hb => ?_, fun b hb => ?_, fun j m z hj hz => ?_⟩
      · rw [upd_ne (ne_of_none e hL7)]
        exact k78 _ _ (k7 _ _ e)
      · rw [upd_same, List.map_append]
        rfl
      · rw [List.nodup_append]
        refine ⟨nd, List.nodup_cons.mpr ⟨by simp, List.nodup_nil⟩, fun b hb c hc => ?_⟩
        rw [List.mem_singleton.mp hc]
        exact ne_of_none (hds b hb).2 hd7
      · rw [List.nodup_append]
        refine ⟨na, List.nodup_cons.mpr ⟨by simp, List.nodup_nil⟩, fun b hb c hc => ?_⟩
        rw [List.mem_singleton.mp hc]
        obtain ⟨o, eo, _⟩ := has b hb
        exact ne_of_none eo hy
      · rcases List.mem_append.mp hb with z | z
        · exact ⟨(hds b z).1, k89 _ _ (k78 _ _ (hds b z).2) fun l e => by cases e⟩
        · rw [List.mem_singleton.mp z]
          exact ⟨k7.free hd7, k89 _ _ ed fun l e => by cases e⟩
      · rcases List.mem_append.mp hb with z | z
        · obtain ⟨o, eo, ho⟩ := has b z
          exact ⟨o, k89 _ _ (k78 _ _ eo) ho, ho⟩
        · rw [List.mem_singleton.mp z]
          exact ⟨_, k89 _ _ ey (fun l e => by cases e), (fun l e => by cases e)⟩
      · by_cases hji : j = i
        · subst hji
          rw [hf] at hz
          cases hz
          refine ⟨y, d, by rw [List.getElem?_append_right (by omega), la]; simp, by rw [List.getElem?_append_right (by omega), ld]; simp, ⟨⟨dy, k89 _ _ ey fun l e => by cases e⟩, k89 _ _ ed fun l e => by cases e⟩⟩
        · obtain ⟨a', d', g1, g2, ⟨⟨dx', hm⟩, hd'⟩⟩ := rows j m z (by omega) hz
          refine ⟨a', d', by rw [List.getElem?_append_left (by omega)]; exact g1, by rw [List.getElem?_append_left (by omega)]; exact g2, ⟨⟨dx', k89 _ _ (k78 _ _ hm) fun l e => by cases e⟩, k89 _ _ (k78 _ _ hd') fun l e => by cases e⟩⟩
    rintro H7 ⟨as, ds, la, ld, k7, eL7, ndd, naa, hds, _, rows⟩
    have neF : fs ≠ [] := fun z => by
      rw [z] at lenF
      simp at lenF
      omega
    have neN : ns ≠ [] := fun z => by
      rw [z] at hlN
      simp at hlN
      omega
    have hP7 : PotAt H7 l0 := by
      obtain ⟨p0, p1, e, k⟩ := hP6
      exact ⟨p0, p1, k7 _ _ e, k⟩
    have P0 : Pre C tF L7 tN fs ns as ds H7 := ⟨⟨xs, k7 _ _ eF6, rF6.kq fun c o e _ => k7 _ _ e⟩, okF, neF, by omega, k7 _ _ eN, hok, neN, by omega, eL7, by rw [la, hlx], by rw [ld, hlx], ndd, naa, fun d hd => (hds d hd).2,
      fun j n p hf => rows j n p (by rw [hlx]; exact (List.getElem?_eq_some_iff.mp hf).1) hf⟩
    refine ⟨_, rfl, _, rfl, _, rfl, _, rfl, l0, tF, L7, tN, fs, ns, as, ds, rfl, hP7, P0, fun H8 M qs S8 hP8 hq8 k8 => ?_⟩
    have f0d : ∀ c ∈ ds, H c = none := fun c hc => s06.free (hds c hc).1
    have f0q : ∀ c ∈ qs, H c = none := fun c hc => (s06.trans k7).free (hq8 c hc)
    have s08 : Same H H8 := fun c o e => k8 c o (k7 _ _ (s06 _ _ e)) (ne_of_none e hl0) (fun hc => by rw [f0d c hc] at e; cases e)
    clear hds rows P0 hq8
    obtain ⟨X, eX⟩ : ∃ X : Pm, X = Pm.mk C D tF M L7 tN fs ns as ds qs := ⟨_, rfl⟩
    have xC : X.C = C := by rw [eX]
    have xD : X.D = D := by rw [eX]
    obtain rfl : X.F = tF := by rw [eX]
    obtain rfl : X.M = M := by rw [eX]
    obtain rfl : X.Lm = L7 := by rw [eX]
    obtain rfl : X.N = tN := by rw [eX]
    have xf : X.fs = fs := by rw [eX]
    have xn : X.ns = ns := by rw [eX]
    have xd : X.ds = ds := by rw [eX]
    have xq : X.qs = qs := by rw [eX]
    rw [← eX] at S8
    rw [← xd] at f0d
    rw [← xq] at f0q
    refine ⟨_, rfl, _, rfl, _, rfl, _, rfl, _, rfl, X, l0, xC, xD, rfl, hP8, S8, fun H9 tl fl ftl ntl B9 hfne hf4 => ?_⟩
    have s09 : Same H H9 := fun c o e => B9.k c o (s08 _ _ e) (ne_of_none e hl0) (fun hc => by rw [f0d c hc] at e; cases e) (fun hc => by rw [f0q c hc] at e; cases e)
    have hS9 : SqL K H9 a (sc.map V.int) := s09.seq hS
    have hbl : ((sc.map V.int).length : Int) ≤ 63 := by
      rw [List.length_map]
      omega
    have l16 := S8.l4
    have l20 := S8.lN
    have lf0 : 0 < X.fs.length := List.length_pos_iff.mpr S8.neF
    refine ⟨_, rfl, a, _, rfl, .inl hS9, _, _, rfl, _, _, rfl, _, _, rfl, ?_, for_it walk_range (fun i σ H' => ∃ (v1 v7 v8 v9 v10 v11 : Option V), σ = [some (.ref a), v1, some (.ref X.F), some (.ref X.N), some (.ref X.Lm), some (.ref X.M), some (.ref tl), v7, v8, v9, v10, v11, none, none] ∧
        Same H H' ∧ Wh X H' ∧ H' tl = some (.lst fl) ∧ ∀ v ∈ fl, FnE X H' v)
      ⟨_, _, _, _, _, _, rfl, s09, B9.S, B9.et, B9.fe⟩ (fun _ _ _ _ _ => trivial) ?_ ?_⟩
    · refine ⟨by decide, by decide, ?_, ?_⟩ <;> split <;> split <;> omega
    · rintro i x σ H10' H10 hi ⟨v1, v7, v8, v9, v10, v11, rfl, s10, S10, etl, fe10⟩ ⟨rfl, rfl⟩
      have hi60 : i < 60 := by
        split at hi <;> split at hi <;> omega
      refine ⟨_, rfl, _, rfl, a, sc, 1 + i, ?_, by omega, s10.seq hS, fun l q0 q1 hl pkl => ?_⟩
      · show [V.ref a, V.int (1 + (i : Int))] = [V.ref a, V.int ((1 + i : Nat) : Int)]
        rw [Int.natCast_add]
        rfl
      have hP : PotAt (upd H10 l (.lst [.int q0, .int q1])) l := ⟨q0, q1, upd_same, pkl⟩
      have sN : Same H10 (upd H10 l (.lst [.int q0, .int q1])) := fun c o e => by rw [upd_ne (ne_of_none e hl)]; exact e
      have nol : ∀ c o, H c = some o → c ≠ l := fun c o e y => by
        have e2 := s10 _ _ e
        rw [y, hl] at e2
        cases e2
      have SN := S10.same sN
      obtain ⟨HN, eN'⟩ : ∃ HN, upd H10 l (.lst [.int q0, .int q1]) = HN := ⟨_, rfl⟩
      rw [eN'] at hP sN SN ⊢
      have feN : ∀ v ∈ fl, FnE X HN v := fun v hv => (fe10 v hv).mono (kt_same sN) (fun i y b => b.same sN)
      refine ⟨_, rfl, _, rfl, _, rfl, _, rfl, X, l, tl, fl, xC, xD, rfl, hP, SN, sN _ _ etl, hfne, hf4, feN, fun H11 u L j r c11 hP11 eu hLt => ?_⟩
      have S11 := SN.keep hP c11
      have et11 := c11 _ _ (sN _ _ etl) (fl_ne hP (sN _ _ etl) feN)
      have fe11 : ∀ v ∈ fl, FnE X H11 v := fun v hv => (feN v hv).mono (kt_ch hP c11) (fun i y b => b.ch hP c11)
      obtain ⟨xs1, eF1, rF1⟩ := S11.hF
      have hlx1 : xs1.length = X.fs.length := by rw [rF1.len, List.length_map]
      refine ⟨_, rfl, _, rfl, l, X.F, xs1, rfl, hP11, (S11.ne hP11).1, eF1, by omega, by omega, fun H12 Lc ys cs c12 hP12 fLc e12 r12 ck12 l12 => ?_⟩
      have ck : CkOk X.fs.length cs := by rw [← hlx1]; exact ck12
      have h16 : cs.length ≤ 16 := by omega
      have kt12 := kt_ch hP11 c12
      have B12 : Cr X l tl fl u L j r Lc ys cs H H12 := ⟨S11.keep hP11 c12, hP12, c12 _ _ et11 (fl_ne hP11 et11 fe11), fun v hv => (fe11 v hv).mono kt12 (fun i y b => b.ch hP11 c12), kt12 _ _ eu (.inl ⟨_, rfl⟩), hLt.kt kt12, e12, r12,
        fun c o e => c12 _ _ (c11 _ _ (sN _ _ (s10 _ _ e)) (nol c o e)) (nol c o e)⟩
      refine ⟨_, rfl, _, rfl, _, rfl, _, rfl, _, rfl, X, u, Lc, L, j, r, ys, cs, xC, xD, rfl, B12.S, B12.eu, B12.hL, B12.ec, B12.rc, ck, h16, fun H13 s13 => ⟨_, rfl, ?_⟩⟩
      have B13 := B12.same s13
      have hP13 := B13.hP
      refine ⟨_, rfl, l, _, pa hP13, pb hP13, rfl, by decide, by decide, ph hP13, pk hP13, fun HZ db cZ hPZ db0 db1 => ⟨rfl, _, rfl, ?_⟩⟩
      have BZ := B13.ch nol cZ hPZ
      by_cases hdb : db = 0
      · rw [show decide (V.int db = V.int 0) = true from decide_eq_true (by rw [hdb])]
        obtain ⟨xsZ, eFZ, rFZ⟩ := BZ.S.hF
        have hlxZ : xsZ.length = X.fs.length := by rw [rFZ.len, List.length_map]
        refine ⟨_, rfl, _, rfl, X.F, xsZ, rfl, .inl (SqL.of eFZ), l, _, pa hPZ, pb hPZ, rfl, by omega, lg16 (by omega) (by omega), ph hPZ, pk hPZ, fun HP bb cP hPP b0 b1 => ?_⟩
        obtain ⟨jb, rfl⟩ : ∃ k : Nat, bb = (k : Int) := ⟨bb.toNat, by omega⟩
        have hjb : jb < X.fs.length := by omega
        have BP := BZ.ch nol cP hPP
        obtain ⟨_, _, _, _, _, _, _, hpt, ws, hrw, hne, h4, hws⟩ := id BP.hL
        have hw : ∀ w ∈ ws, nmOk w := fun w h => S8.okN w (hws w h)
        have hlr := len_pt h4 hw
        have spl : Txt.split r (Str.ofString ".") = ws := by rw [hrw]; exact split_pt hne hw
        have hrl : r.length ≤ 40 := by rw [hrw]; exact hlr
        have wpos : 0 < ws.length := List.length_pos_iff.mpr hne
        refine ⟨_, rfl, u, _, _, _, rfl, rfl, SqT.of BP.eu, atI_nat (j := 2) rfl, ⟨_, rfl⟩, _, _, rfl, rfl, by decide +kernel, sz (by omega), fun t1 ht1 => ?_⟩
        rw [spl]
        have sA : Same HP (upd HP t1 (.lst (ws.map V.str))) := fun b o e => by rw [upd_ne (ne_of_none e ht1)]; exact e
        have eA : (upd HP t1 (.lst (ws.map V.str))) t1 = some (.lst (ws.map V.str)) := upd_same
        obtain ⟨HA, eHA⟩ : ∃ HA, upd HP t1 (.lst (ws.map V.str)) = HA := ⟨_, rfl⟩
        rw [eHA] at sA eA ⊢
        have BA := BP.same sA
        refine ⟨_, rfl, _, rfl, u, _, _, _, rfl, rfl, SqT.of BA.eu, atI_nat (j := 2) rfl, ⟨_, rfl⟩, _, _, rfl, rfl, by decide +kernel, sz (by omega), fun t2 ht2 => ?_⟩
        rw [spl]
        have sB : Same HA (upd HA t2 (.lst (ws.map V.str))) := fun b o e => by rw [upd_ne (ne_of_none e ht2)]; exact e
        have eB : (upd HA t2 (.lst (ws.map V.str))) t2 = some (.lst (ws.map V.str)) := upd_same
        obtain ⟨HB, eHB⟩ : ∃ HB, upd HA t2 (.lst (ws.map V.str)) = HB := ⟨_, rfl⟩
        rw [eHB] at sB eB ⊢
        have BB := BA.same sB
        have hPB := BB.hP
        refine ⟨t2, _, rfl, .inl (SqL.of eB), l, _, pa hPB, pb hPB, rfl, by rw [List.length_map]; omega, by rw [List.length_map]; exact lg16 (by omega) (by omega), ph hPB, pk hPB, fun HQ zz cQ hPQ z0 z1 => ?_⟩
        obtain ⟨iz, rfl⟩ : ∃ k : Nat, zz = (k : Int) := ⟨zz.toNat, by omega⟩
        have hiz : iz < ws.length := by rw [List.length_map] at z1; omega
        have BQ := BB.ch nol cQ hPQ
        have e1Q := cQ _ _ (sB _ _ eA) (strs_ne hPB (sB _ _ eA))
        obtain ⟨z, ez⟩ : ∃ z, ws[iz] = z := ⟨_, rfl⟩
        have hzn : z ∈ X.ns := ez ▸ hws _ (List.getElem_mem hiz)
        refine ⟨t1, _, _, .str z, rfl, rfl, SqL.of e1Q, atI_nat (j := iz) (by rw [List.getElem?_map, List.getElem?_eq_getElem hiz, ez]; rfl), ?_⟩
        refine ⟨_, rfl, _, rfl, _, rfl, _, rfl, _, rfl, _, rfl, _, rfl, X, l, rfl, hPQ, BQ.S, fun HU uu cU hPU hkU => ?_⟩
        have BU := BQ.ch nol cU hPU
        refine ⟨X, jb, z, uu, xC, xD, rfl, BU.S, hkU, hjb, hzn, fun HV SV bd => ?_⟩
        have BV := BU.bd f0d f0q SV bd
        refine ⟨_, rfl, _, rfl, _, rfl, _, rfl, _, rfl, X, u, Lc, L, j, r, ys, cs, xC, xD, rfl, BV.S, BV.eu, BV.hL, BV.ec, BV.rc, ck, h16, fun HW sW => ⟨_, rfl, ?_⟩⟩
        have BW := BV.same sW
        exact ⟨_, _, _, _, _, _, rfl, BW.k, BW.S, BW.et, BW.fe⟩
      · rw [show decide (V.int db = V.int 0) = false from decide_eq_false (fun e => hdb (by cases e; rfl))]
        exact ⟨_, _, _, _, _, _, rfl, BZ.k, BZ.S, BZ.et, BZ.fe⟩
    · rintro σ H10 ⟨v1, v7, v8, v9, v10, v11, rfl, _⟩
      exact q H10
end
end D24
set_option maxHeartbeats 0
/-! k24: the head, and the theorem -/
namespace D24
open PySem PySem.Spec PyProof.Rows L2 HM XW XR K11 XM XSo XV XS NdefX XH
abbrev dd (x : Str) (st : Stmt) : He.DefD := ⟨(x, none), x, x, defArgs st, defBody st, defScope st, [], []⟩
abbrev md (c m q : Str) (st : Stmt) : He.DefD := ⟨(c, some m), m, q, defArgs st, defBody st, defScope st, [], []⟩
def fn : List He.DefD := [md "Module" "__init__" "Module.__init__" sMI, md "Module" "bind" "Module.bind" sMB, md "Module" "has" "Module.has" sMH, md "Module" "thing_of" "Module.thing_of" sMT, md "Module" "bound" "Module.bound" sMO, md "Late" "__init__" "Late.__init__" sLI, dd "told" sTo, dd "places" sPl, dd "ring_of" sRi, dd "look" sLk, dd "last_name" sLn, dd "look_for_module" sLm, dd "last_module" sLs, dd "follow" sFo, dd "asked" sAk, dd "_law_at" sAt, dd "_law_pot" sPot, dd "_law_draw" sDraw, dd "_law_name" sNm, dd "_law_names" sNms, dd "_law_number" sNum, dd "_law_road" sRd, dd "_law_facts" sFs, dd "_law_kind" sKd, dd "_law_bound" sBo, dd "_law_web" sWb, dd "_law_told" sLt, dd "_law_chain" sCh, dd "_law_fault" sFl, dd "_law_handed" sHd, dd "_law_is_the" sIs, dd "_law_agrees" sAg, dd "_law_due" sDu, dd "_law_said" sSd, dd "_law_functions" sFn, dd "_law_taken" sTk, dd "_law_right" sRt, dd "law" sLaw]
def fa : List He.Fa := [.glo "Fault", .glo "Module", .glo "Late", .glo "told", .glo "places", .glo "ring_of", .glo "look", .glo "last_name", .glo "look_for_module", .glo "last_module", .glo "follow", .glo "asked", .glo "_law_at", .glo "_law_pot", .glo "_law_draw", .glo "_law_name", .glo "_law_names", .glo "_law_number", .glo "_law_road", .glo "_law_facts", .glo "_law_kind", .glo "_law_bound", .glo "_law_web", .glo "_law_told", .glo "_law_chain", .glo "_law_fault", .glo "_law_handed", .glo "_law_is_the", .glo "_law_agrees", .glo "_law_due", .glo "_law_said", .glo "_law_functions", .glo "_law_taken", .glo "_law_right", .glo "law", .free "isinstance", .free "sorted", .free "repr", .free "list", .free "range", .free "max", .free "min", .free "len", .free "divmod", .free "tuple", .free "enumerate", .free "super", .cls "Module", .cls "Late", .noat "Module" "number", .noat "Module" "path", .noat "Module" "things", .noat "Late" "home", .noat "Late" "road", .meth "Module" "bind", .meth "Module" "has", .meth "Module" "thing_of", .meth "Module" "bound", .mkr "Module", .mkr "Late"]
def sf : List SupD := [⟨"Fault", "Fault.__init__", defArgs sInitF, defBody sInitF, defScope sInitF⟩]
def insB (K : PySem.W.Frag) (x : Str) : Bool := He.eqO (PySem.W.findIn K (.ref (He.ga K x)) "__class__") (some (some (.builtin "object.__class__"))) && (He.eqO (PySem.W.specialIn K (.builtin "object.__class__") "__get__") (some (some (.builtin "getset_descriptor.__get__"))) &&
  (decide (PySem.W.takesIn K (.builtin "object.__class__") = some true) && (decide (PySem.W.mroIn K (He.ga K x) (.type "object") = some true) && decide (PySem.W.kitOne K (.ref (He.ga K x)) (.ref (He.ga K x)) = some true))))
theorem insB_ok {K : PySem.W.Frag} {x : Str} (c : Cls K (He.ga K x)) (h : insB K x = true) : C8.InsC K (He.ga K x) := by
  obtain ⟨h1, h⟩ := He.ba h
  obtain ⟨h2, h⟩ := He.ba h
  obtain ⟨h3, h⟩ := He.ba h
  obtain ⟨h4, h5⟩ := He.ba h
  exact ⟨c, He.eqO_ok h1, He.eqO_ok h2, of_decide_eq_true h3, of_decide_eq_true h4, of_decide_eq_true h5⟩
def fltB (K : PySem.W.Frag) : Bool := He.eqO (PySem.W.findIn K (.ref (He.ga K "Fault")) "__init__") (some (some (.ref (He.ma K (He.ga K "Fault") "__init__")))) && (decide (PySem.W.typeIn K (.ref (He.ma K (He.ga K "Fault") "__init__")) = some (.type "function")) &&
  (supCB K (He.ga K "Fault") && (He.eqO (PySem.W.findIn K (.ref (He.ga K "Fault")) "fault") (some none) && (xfB K (He.ga K "Fault") && decide (PySem.W.exmOne K (.ref (He.ga K "Fault")) (.ref (He.ga K "Fault")) = some true)))))
def ex (K : PySem.W.Frag) : Bool := insB K "Module" && (insB K "Late" && (decide (PySem.W.kitOne K (.ref (He.ga K "Late")) (.ref (He.ga K "Module")) = some false) && (decide (PySem.W.kitOne K (.ref (He.ga K "Module")) (.ref (He.ga K "Late")) = some false) &&
  (decide (PySem.W.kitOne K (.type "int") (.ref (He.ga K "Module")) = some false) && (decide (PySem.W.kitOne K (.type "int") (.ref (He.ga K "Late")) = some false) && (He.eqO (PySem.W.findIn K (.ref (He.ga K "Module")) "__eq__") (some (some (.builtin "object.__eq__"))) && fltB K))))))
def loose : List Str := [("MadeError" : Str), ("Fault" : Str), ("Module" : Str), ("Late" : Str), ("told" : Str), ("places" : Str), ("ring_of" : Str), ("look" : Str), ("last_name" : Str), ("look_for_module" : Str), ("last_module" : Str), ("follow" : Str), ("asked" : Str), ("_law_at" : Str), ("_law_pot" : Str), ("_law_draw" : Str), ("_law_name" : Str), ("_law_names" : Str), ("_law_number" : Str), ("_law_road" : Str), ("_law_facts" : Str), ("_law_kind" : Str), ("_law_bound" : Str), ("_law_web" : Str), ("_law_told" : Str), ("_law_chain" : Str), ("_law_fault" : Str), ("_law_handed" : Str), ("_law_is_the" : Str), ("_law_agrees" : Str), ("_law_due" : Str), ("_law_said" : Str), ("_law_functions" : Str), ("_law_taken" : Str), ("_law_right" : Str)]
abbrev R : PySem.W.OpenRow := PySem.W.OpenLaw.row PySem.Challenge.rw_halfmade_k24_whole_asked_late
abbrev hk : PySem.W.Hook := hookY 6 pr.main.file fa fn sf [] ex
def ob (s : PySem.W.SharedT) : AlY := obsY 6 pr.main.file fa fn sf [] ex (HandSHeadRun.getT s)
theorem ob_eq (s : PySem.W.SharedT) : ob s = hk.obs s.abs := obsY_eq (HandSHeadRun.getT_eq s)
theorem run (w : World) : HandSHeadRun.RunEq R (PySem.W.view R.prog [40]) hk ob 4000 loose w := by
  intro os
  kernel_rfl
theorem supBinds {K : PySem.W.Frag} {C f c : Addr} {cl : List (Str × Addr)} {fd : FuncData} {name qual : Str} {params : Arguments} {body : List Stmt} {scope : Scope} {ps : List Str} (S : SupF K pr C f ⟨name, qual, params, body, scope, cl, c⟩ fd)
    (h : ∀ (doc pm ctv : Value) (us : List Value), us.length = ps.length → bindArgs (NF.fd ⟨name, qual, params, body, scope, cl, c⟩ doc pm ctv) ⟨us, []⟩ = pure (ps.zip us)) : Binds K fd ps [] := by
  obtain ⟨oc, od, osl, doc, pm, ctv, rfl, _⟩ := S.ex
  exact .all (h doc pm ctv)
theorem facts {w : World} {K : PySem.W.Frag} {h : Heap} {mg : Str → Option Value} {f : Addr} (X : K.In h) (G : h.Ns mainGlobals mg) (hfa : mg ("law" : Str) = some (.ref f)) (c : SaysY pr.main.file fa fn sf [] ex h K) : LawG PySem.Challenge.rw_halfmade_k24_whole_asked_late w K CX0 10 63 "_law_script" mg f h := by
  have c0 : He.SaysD fa fn K := c.d
  obtain ⟨fd0, F0⟩ := c0.def_ 0 (d := md "Module" "__init__" "Module.__init__" sMI) rfl
  obtain ⟨fd1, F1⟩ := c0.def_ 1 (d := md "Module" "bind" "Module.bind" sMB) rfl
  obtain ⟨fd2, F2⟩ := c0.def_ 2 (d := md "Module" "has" "Module.has" sMH) rfl
  obtain ⟨fd3, F3⟩ := c0.def_ 3 (d := md "Module" "thing_of" "Module.thing_of" sMT) rfl
  obtain ⟨fd4, F4⟩ := c0.def_ 4 (d := md "Module" "bound" "Module.bound" sMO) rfl
  obtain ⟨fd5, F5⟩ := c0.def_ 5 (d := md "Late" "__init__" "Late.__init__" sLI) rfl
  obtain ⟨fd6, F6⟩ := c0.def_ 6 (d := dd "told" sTo) rfl
  obtain ⟨fd7, F7⟩ := c0.def_ 7 (d := dd "places" sPl) rfl
  obtain ⟨fd8, F8⟩ := c0.def_ 8 (d := dd "ring_of" sRi) rfl
  obtain ⟨fd9, F9⟩ := c0.def_ 9 (d := dd "look" sLk) rfl
  obtain ⟨fd10, F10⟩ := c0.def_ 10 (d := dd "last_name" sLn) rfl
  obtain ⟨fd11, F11⟩ := c0.def_ 11 (d := dd "look_for_module" sLm) rfl
  obtain ⟨fd12, F12⟩ := c0.def_ 12 (d := dd "last_module" sLs) rfl
  obtain ⟨fd13, F13⟩ := c0.def_ 13 (d := dd "follow" sFo) rfl
  obtain ⟨fd14, F14⟩ := c0.def_ 14 (d := dd "asked" sAk) rfl
  obtain ⟨fd15, F15⟩ := c0.def_ 15 (d := dd "_law_at" sAt) rfl
  obtain ⟨fd16, F16⟩ := c0.def_ 16 (d := dd "_law_pot" sPot) rfl
  obtain ⟨fd17, F17⟩ := c0.def_ 17 (d := dd "_law_draw" sDraw) rfl
  obtain ⟨fd18, F18⟩ := c0.def_ 18 (d := dd "_law_name" sNm) rfl
  obtain ⟨fd19, F19⟩ := c0.def_ 19 (d := dd "_law_names" sNms) rfl
  obtain ⟨fd20, F20⟩ := c0.def_ 20 (d := dd "_law_number" sNum) rfl
  obtain ⟨fd21, F21⟩ := c0.def_ 21 (d := dd "_law_road" sRd) rfl
  obtain ⟨fd22, F22⟩ := c0.def_ 22 (d := dd "_law_facts" sFs) rfl
  obtain ⟨fd23, F23⟩ := c0.def_ 23 (d := dd "_law_kind" sKd) rfl
  obtain ⟨fd24, F24⟩ := c0.def_ 24 (d := dd "_law_bound" sBo) rfl
  obtain ⟨fd25, F25⟩ := c0.def_ 25 (d := dd "_law_web" sWb) rfl
  obtain ⟨fd26, F26⟩ := c0.def_ 26 (d := dd "_law_told" sLt) rfl
  obtain ⟨fd27, F27⟩ := c0.def_ 27 (d := dd "_law_chain" sCh) rfl
  obtain ⟨fd28, F28⟩ := c0.def_ 28 (d := dd "_law_fault" sFl) rfl
  obtain ⟨fd29, F29⟩ := c0.def_ 29 (d := dd "_law_handed" sHd) rfl
  obtain ⟨fd30, F30⟩ := c0.def_ 30 (d := dd "_law_is_the" sIs) rfl
  obtain ⟨fd31, F31⟩ := c0.def_ 31 (d := dd "_law_agrees" sAg) rfl
  obtain ⟨fd32, F32⟩ := c0.def_ 32 (d := dd "_law_due" sDu) rfl
  obtain ⟨fd33, F33⟩ := c0.def_ 33 (d := dd "_law_said" sSd) rfl
  obtain ⟨fd34, F34⟩ := c0.def_ 34 (d := dd "_law_functions" sFn) rfl
  obtain ⟨fd35, F35⟩ := c0.def_ 35 (d := dd "_law_taken" sTk) rfl
  obtain ⟨fd36, F36⟩ := c0.def_ 36 (d := dd "_law_right" sRt) rfl
  obtain ⟨fd37, F37⟩ := c0.def_ 37 (d := dd "law" sLaw) rfl
  have g : ∀ (i : Nat) {x : Str}, fa[i]? = some (.glo x) → mg x = some (.ref (He.ga K x)) := fun i x e => He.glo_ok X G (c0.fact i e)
  have fr : ∀ (i : Nat) {x : Str}, fa[i]? = some (.free x) → mg x = none := fun i x e => He.free_ok X G (c0.fact i e)
  obtain ⟨y1, y⟩ := He.ba (show ex K = true from c.more)
  obtain ⟨y2, y⟩ := He.ba y
  obtain ⟨y3, y⟩ := He.ba y
  obtain ⟨y4, y⟩ := He.ba y
  obtain ⟨y5, y⟩ := He.ba y
  obtain ⟨y6, y⟩ := He.ba y
  obtain ⟨y7, y⟩ := He.ba y
  obtain ⟨x1, x⟩ := He.ba (show fltB K = true from y)
  obtain ⟨x2, x⟩ := He.ba x
  obtain ⟨x3, x⟩ := He.ba x
  obtain ⟨x4, x⟩ := He.ba x
  obtain ⟨x5, x6⟩ := He.ba x
  have T : ClT K mg (He.ga K "Module") (He.ga K "Late") := ⟨insB_ok (He.cls_ok (c0.fact 47 (f := .cls "Module") rfl)) y1, insB_ok (He.cls_ok (c0.fact 48 (f := .cls "Late") rfl)) y2, of_decide_eq_true y3, of_decide_eq_true y4, of_decide_eq_true y5, of_decide_eq_true y6,
    He.noat_ok (c0.fact 49 (f := .noat "Module" "number") rfl), He.noat_ok (c0.fact 50 (f := .noat "Module" "path") rfl), He.noat_ok (c0.fact 51 (f := .noat "Module" "things") rfl), He.noat_ok (c0.fact 52 (f := .noat "Late" "home") rfl), He.noat_ok (c0.fact 53 (f := .noat "Late" "road") rfl), g 1 (x := "Module") rfl, g 2 (x := "Late") rfl⟩
  have EQ : XQ.EqC K (He.ga K "Module") := ⟨T.c1.hm, He.eqO_ok y7⟩
  have IF : InF K mg (He.ga K "Fault") (He.ma K (He.ga K "Fault") "__init__") := ⟨g 0 (x := "Fault") rfl, He.eqO_ok x1, of_decide_eq_true x2, supCB_ok x3, He.eqO_ok x4, xfB_ok x5⟩
  have xm := of_decide_eq_true x6
  obtain ⟨sb1, se1⟩ := c.sup ⟨"Fault", "Fault.__init__", defArgs sInitF, defBody sInitF, defScope sInitF⟩ (List.mem_cons_self)
  obtain ⟨cl1, c1, fdF, S1⟩ := supF_of (prog := pr) sb1 se1
  have mtB := He.meth_ok (c0.fact 54 (f := .meth "Module" "bind") rfl)
  have mtH := He.meth_ok (c0.fact 55 (f := .meth "Module" "has") rfl)
  have mtT := He.meth_ok (c0.fact 56 (f := .meth "Module" "thing_of") rfl)
  have mtO := He.meth_ok (c0.fact 57 (f := .meth "Module" "bound") rfl)
  have MM := He.mkr_ok (c0.fact 58 (f := .mkr "Module") rfl)
  have ML := He.mkr_ok (c0.fact 59 (f := .mkr "Late") rfl)
  have e := hfa.symm.trans (g 34 (x := "law") rfl)
  cases e
  refine ⟨fd37, [], spLaw K, (fun p hp => nomatch hp), (fun p hp => nomatch hp), (fun p hp => nomatch hp), fun s u => ?_, fun H a ns hl hb hH hS => ⟨a, ns, rfl, hS, hl, fun _ => rfl⟩, fun base hK hN hTB => ?_⟩
  · exact FunD.bindsA (ps := ["_law_script"]) F37 (fun _ _ _ _ _ _ us hl => match us, hl with | [_], _ => rfl) s [u] rfl
  · have mi := fr 35 (x := "isinstance") rfl
    have ms := fr 36 (x := "sorted") rfl
    have mp := fr 37 (x := "repr") rfl
    have mli := fr 38 (x := "list") rfl
    have mr := fr 39 (x := "range") rfl
    have mx := fr 40 (x := "max") rfl
    have mn := fr 41 (x := "min") rfl
    have ml := fr 42 (x := "len") rfl
    have mdv := fr 43 (x := "divmod") rfl
    have mt := fr 44 (x := "tuple") rfl
    have me := fr 45 (x := "enumerate") rfl
    have msu := fr 46 (x := "super") rfl
    have bI : Binds K fd0 ["self", "number", "path"] [] := F0.bindsN fun _ _ _ _ _ _ us hl => match us, hl with | [_, _, _], _ => rfl
    have bB : Binds K fd1 ["self", "name", "thing"] [] := F1.bindsN fun _ _ _ _ _ _ us hl => match us, hl with | [_, _, _], _ => rfl
    have bH : Binds K fd2 ["self", "name"] [] := F2.bindsN fun _ _ _ _ _ _ us hl => match us, hl with | [_, _], _ => rfl
    have bT : Binds K fd3 ["self", "name"] [] := F3.bindsN fun _ _ _ _ _ _ us hl => match us, hl with | [_, _], _ => rfl
    have bO : Binds K fd4 ["self"] [] := F4.bindsN fun _ _ _ _ _ _ us hl => match us, hl with | [_], _ => rfl
    have bL : Binds K fd5 ["self", "home", "road"] [] := F5.bindsN fun _ _ _ _ _ _ us hl => match us, hl with | [_, _, _], _ => rfl
    have bF : Binds K fdF ["self", "fault"] [] := supBinds S1 fun _ _ _ us hl => match us, hl with | [_, _], _ => rfl
    have GF : FnG pr w K mg base CX0 1 (He.ma K (He.ga K "Fault") "__init__") fdF ["self", "fault"] (spIF K (He.ga K "Fault")) := ok_iF IF.sc S1 IF.no1 msu
    have GI := ok_mi (P := pr) (w := w) (base := base) F0 T
    have GB := ok_mb (P := pr) (w := w) (base := base) F1 T
    have GH := ok_mh (P := pr) (w := w) (base := base) F2 T
    have GT := ok_mt (P := pr) (w := w) (base := base) F3 T
    have GO := ok_mo (P := pr) (w := w) (base := base) F4 T ms
    have GL := ok_li (P := pr) (w := w) (base := base) F5 T
    have Gto := ok_to (P := pr) (w := w) (base := base) F6 T mi
    have Gpl := ok_pl (P := pr) (w := w) (base := base) F7 T
    have Gri := ok_ri (P := pr) (w := w) (base := base) F8 EQ Gpl F7 (g 4 (x := "places") rfl) me mt
    have Glk := ok_lk (w := w) (base := base) F9 T GH mtH bH GT mtT bT Gri F8 (g 5 (x := "ring_of") rfl) IF GF bF
    have Gln := ok_ln (w := w) (mg := mg) (base := base) F10 
    have Glm := ok_lm (w := w) (base := base) F11 T Glk F9 (g 6 (x := "look") rfl) IF GF bF mi
    have Gls := ok_ls (w := w) (base := base) F12 Glm F11 (g 8 (x := "look_for_module") rfl)
    have Gfo := ok_fo (w := w) (base := base) F13 Glk F9 (g 6 (x := "look") rfl) Gls F12 (g 9 (x := "last_module") rfl) Gln F10 (g 7 (x := "last_name") rfl)
    have Gak := ok_ak (w := w) (base := base) F14 T Gfo F13 (g 10 (x := "follow") rfl)
    have Gpot := ok_pot (P := pr) (w := w) (base := base) F16 F15 (g 12 (x := "_law_at") rfl) ml mx
    have Gdr := ok_draw (P := pr) (w := w) (base := base) F17 mdv
    have Gnm := ok_nm (P := pr) (w := w) (base := base) F18 Gdr F17 (g 14 (x := "_law_draw") rfl) mr
    have Gnms := ok_nms (P := pr) (w := w) (base := base) F19 Gnm F18 (g 15 (x := "_law_name") rfl) mr
    have Gnum := ok_num (P := pr) (w := w) (base := base) F20 Gdr F17 (g 14 (x := "_law_draw") rfl)
    have Grd := ok_rd (P := pr) (w := w) (base := base) F21 Gdr F17 (g 14 (x := "_law_draw") rfl) mr ml
    have Gfs := ok_fs (P := pr) (w := w) (base := base) F22 Gdr F17 (g 14 (x := "_law_draw") rfl) Gnms F19 (g 16 (x := "_law_names") rfl) Grd F21 (g 18 (x := "_law_road") rfl) mr ml
    have Gkd := ok_kd (P := pr) (w := w) (base := base) F23 Gdr F17 (g 14 (x := "_law_draw") rfl) Grd F21 (g 18 (x := "_law_road") rfl) Gnum F20 (g 17 (x := "_law_number") rfl) ml
    have Gbo := ok_bo (P := pr) (w := w) (base := base) F24 T ML GL bL GB mtB bB
    have Gwb := ok_wb (P := pr) (w := w) (base := base) F25 Gdr F17 (g 14 (x := "_law_draw") rfl) Gkd F23 (g 20 (x := "_law_kind") rfl) Gbo F24 (g 21 (x := "_law_bound") rfl) ml mr
    have Glt := ok_lt (P := pr) (w := w) (mg := mg) (base := base) F26 
    have Gch := ok_ch (P := pr) (w := w) (base := base) F27 Gdr F17 (g 14 (x := "_law_draw") rfl) ml mr mli
    have Gfl := ok_fl (P := pr) (w := w) (base := base) F28 mt
    have Ghd := ok_hd (P := pr) (w := w) (mg := mg) (base := base) F29 
    have Gis := ok_is (P := pr) (w := w) (base := base) F30 T Gto F6 (g 3 (x := "told") rfl) Glt F26 (g 23 (x := "_law_told") rfl) GO mtO bO mi mp ms
    have Gag := ok_ag (w := w) (base := base) F31 Gis F30 (g 27 (x := "_law_is_the") rfl) mp
    have Gdu := ok_du (w := w) (base := base) F32 Gfl F28 (g 25 (x := "_law_fault") rfl)
    have Gsd := ok_sd (w := w) (base := base) F33 IF xm Gak F14 (g 11 (x := "asked") rfl)
    have Gfn := ok_fn (w := w) (base := base) F34 T Gdr F17 (g 14 (x := "_law_draw") rfl) Grd F21 (g 18 (x := "_law_road") rfl) ML GL bL GB mtB bB ml mr
    have Gtk := ok_tk (w := w) (base := base) F35 T Gdr F17 (g 14 (x := "_law_draw") rfl) GT mtT bT ml
    have Grt := ok_rt (w := w) (base := base) F36 T Gto F6 (g 3 (x := "told") rfl) Ghd F29 (g 26 (x := "_law_handed") rfl) Gdu F32 (g 29 (x := "_law_due") rfl) Gsd F33 (g 30 (x := "_law_said") rfl) Gag F31 (g 28 (x := "_law_agrees") rfl) mr mp
    exact ok_law F37 T Gpot F16 (g 13 (x := "_law_pot") rfl) Gdr F17 (g 14 (x := "_law_draw") rfl) Gfs F22 (g 19 (x := "_law_facts") rfl) Gnms F19 (g 16 (x := "_law_names") rfl) Gwb F25 (g 22 (x := "_law_web") rfl) MM GI bI Gch F27 (g 24 (x := "_law_chain") rfl) Gfn F34 (g 31 (x := "_law_functions") rfl) Gtk F35 (g 32 (x := "_law_taken") rfl) Grt F36 (g 33 (x := "_law_right") rfl) Gbo F24 (g 21 (x := "_law_bound") rfl) Gkd F23 (g 20 (x := "_law_kind") rfl) mr mx mn ml
end D24
open PySem PySem.W PySem.Calls PyProof.Rows
theorem PySem.Challenge.cw_halfmade_k24_whole_asked_late_holds : PySem.Challenge.rw_halfmade_k24_whole_asked_late.Holds := by
  w_on; o_law
  refine HandSHeadRun.head_any (r := D24.R) (q := view D24.R.prog [40]) (H := D24.hk) (ob := D24.ob) (M := 4000) (loose := D24.loose) (d := HandSHeadRun.topDef D24.R.prog 40) (kwd := []) D24.ob_eq
    (by kernel_rfl) (fun s => by kernel_rfl) D24.run (by kernel_rfl) (by kernel_rfl) (by kernel_rfl) (by rfl) (by first | assumption | decide +kernel) (by decide +kernel) ⟨rfl, rfl, rfl, rfl, rfl, by decide +kernel⟩ ?hw ?hc
  case hw => w_witness2
  case hc =>
    refine HM.walkG (l := PySem.Challenge.rw_halfmade_k24_whole_asked_late) (n := 63) (k := 10) (x := "_law_script") (CX := fun _ => L2.CX0) rfl (by decide) (by kernel_rfl) ⟨rfl, by decide, by decide⟩ (fun w mg fa h Y G hmg0 => ?_) (fun _ _ _ _ _ z => z)
    obtain ⟨K, KX, c⟩ := Y
    have hmg : mg ("law" : PySem.Str) = some (.ref fa) := by
      have e : (HandSHeadRun.topDef D24.R.prog 40).name = ("law" : PySem.Str) := by kernel_rfl
      rw [← e]
      exact hmg0
    exact ⟨K, KX, D24.facts KX G hmg c⟩

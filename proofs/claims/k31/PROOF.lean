import PyProof.Rows.All
import Wide.All
import OpenK.AllK
import Wide.FinOn
import HandS.ForMost
import HandS.AnyAll
import HandS.GenOver
import HandS.EndTab
import HandS.Walk
import HandS.HeadHook4
import HandS.HeadWalk
import HandS.Head2
import HandS.Defaults
import HandS.IsInst
import HandS.Wide
import HandS.Flow
import HandS.StrMore
import PyProof.ReprRoads
import HandS.ExcCtx
import HandS.HotCalls
import HandS.ExcInit
import HandS.Nested
import KE.KExcSuper
import KE.KSuperObj
import PyProof.Rows.NameDeclared
import HandS.FStr
import HandS.ExcField
import HandS.ExcValue
import HandS.ExcInitHot
import KE.KExcIs
import PyProof.ReprBulk
import HandS.ExcIs
import HandS.Codes
import PyProof.Rows.StrCountLaw
import PyProof.Rows.RegReprOcc
import PyProof.EqLayable
import HandS.Dict
import HandS.WrittenGet
import HandS.Zip
import HandS.WideBits
import HandS.Comp
import HandS.Text
import KE.IntTextLaws
import PyProof.Rows.ReprOcc
import HandS.RaiseMore
import PyProof.Rows.SortStr
import PyProof.Rows.StrMeet
import HandS.Iter
import KE.GoesEnum
import HandS.SetFor
import PyProof.Rows.SetFrom
import PyProof.Rows.SetObj
import PyProof.WalksMore
import HandS.Finally
import PyProof.RulesFinally
import HandS.CallSlots
import HandS.TupAny
import HandS.TupMul
import HandS.More
import HandS.Conv
import HandS.Rev
import HandS.DictComp
import HandS.ListItems
import HandS.HeadEnd
import PySem.Challenge.RW_halfmade_k31_whole_runs_in_order
set_option Elab.async false
set_option linter.all false
set_option maxRecDepth 100000
set_option maxHeartbeats 4000000
namespace GxA
open PySem PySem.Spec PyProof.Rows L2 GxR

/-- the frame of a generator expression that captures nothing -/
def genCx (X : Cx) (N : List Str) (A' : Around) (s4 : Shared) (H4 : Hp) (cenv : Env) (fp : List Addr) : Cx :=
  { X with A := A', N := N, s_0 := s4, H_0 := H4, env := cenv, outer := X.stack, stack := cenv :: X.stack, ex := fp, fn := fun _ => false, calm := true, pn := [], xe := fun _ _ => False }

/-- the generator's own scope: no cells, nothing captured -/
structure GenN (scope : Scope) : Prop where
  kind : scope.kind = .function
  co : scope.isCoroutine = false
  cell : ∀ y ∈ scope.names, y.2 ≠ .cell
  free : ∀ y ∈ scope.names, y.2 ≠ .free
  dot : scope.names.lookup (".0" : Str) = some NameKind.local

theorem clo_nil (cells : List (Str × Addr)) : ∀ (l : List (Str × NameKind)) (acc : List (Str × Addr)), (∀ y ∈ l, y.2 ≠ .free) → cloFrom cells l acc = acc
  | [], _, _ => rfl
  | (n, k) :: r, acc, h => by
    have hk : (k == NameKind.free) = false := by
      have := h (n, k) List.mem_cons_self
      cases k <;> first | rfl | exact absurd rfl this
    unfold cloFrom
    rw [hk]
    exact clo_nil cells r acc fun y hy => h y (List.mem_cons_of_mem _ hy)

theorem lookup_mem {α : Type} : ∀ {l : List (Str × α)} {n : Str} {c : α}, l.lookup n = some c → ∃ n', (n', c) ∈ l
  | (k, v) :: r, n, c, h => by
    rw [List.lookup_cons] at h
    cases hb : n == k with
    | true =>
      rw [hb] at h
      cases h
      exact ⟨k, List.mem_cons_self⟩
    | false =>
      rw [hb] at h
      obtain ⟨n', hn⟩ := lookup_mem h
      exact ⟨n', List.mem_cons_of_mem _ hn⟩

section
variable {X : Cx} {pins : List (Addr × Obj)} {σ : L2.St} {H : Hp} {s : Shared}
/-- only the generators' table has changed -/
theorem inv_gens {s' : Shared} (I : Inv X pins σ H s) (hh : s'.heap = s.heap) (ho : s'.os = s.os) (hb : AllBare s'.gens) : Inv X pins σ H s' := by
  obtain ⟨h, g, d, t, o⟩ := s
  obtain ⟨h', g', d', t', o'⟩ := s'
  dsimp only at hh ho hb
  subst hh
  subst ho
  exact ⟨I.ok, I.os, hb, I.base, I.loc, I.cell, I.free, I.freeC, I.pin, I.hok, I.len⟩
/-- slots may be forgotten -/
theorem inv_wipe (I : Inv X pins σ H s) (n : Nat) (hn : X.N.length = n) : Inv X pins (List.replicate n none) H s := by
  obtain ⟨m, hm, _⟩ := I.loc
  refine ⟨I.ok, I.os, I.bare, I.base, ⟨m, hm, fun i x v _ e _ => ?_⟩, I.cell, I.free, I.freeC, I.pin, I.hok, by rw [List.length_replicate, hn]⟩
  rw [List.getElem?_replicate] at e
  split at e <;> cases e
end

section
variable {X : Cx} {pins : List (Addr × Obj)} {σ : L2.St} {H : Hp} {s : Shared}
theorem stk_lt (I : Inv X pins σ H s) {b : Addr} (hb : b ∈ frs X.stack) : b < s.heap.objs.size := by
  rcases List.mem_cons.mp (I.stkSub b hb) with e | e
  · rw [e]
    exact I.lt
  · refine Nat.lt_of_not_le fun h => I.nofs h e
theorem genCx_ok {N : List Str} {A' : Around} {scope : Scope} {code : Value} {fp : List Addr} (I : Inv X pins σ H s) (S : GenN scope)
    (hA : A'.frames = some (genEnv scope [] s.heap.objs.size code builtinsNs X.env :: X.stack)) (hAh : A'.handled = none) (hfp : ∀ b ∈ fp, FpOk X pins H b) (hlt : ∀ b ∈ fp, b < s.heap.objs.size) :
    (genCx X N A' s H (genEnv scope [] s.heap.objs.size code builtinsNs X.env) fp).Ok where
  mod := I.ok.mod
  kind := S.kind
  glob := I.ok.glob
  blt := rfl
  above := Nat.le_refl _
  inj := fun x y c e => nomatch (show (none : Option Addr) = some c from e)
  has := fun x h => by
    rcases h with h | h
    · obtain ⟨n', hm⟩ := lookup_mem (show scope.names.lookup x = some .cell from h)
      exact absurd rfl (S.cell _ hm)
    · obtain ⟨n', hm⟩ := lookup_mem (show scope.names.lookup x = some .free from h)
      exact absurd rfl (S.free _ hm)
  cab := fun x c e _ => nomatch (show false = true from e)
  hd := fun _ => hAh
  frames := hA
  stk := .inr ⟨rfl, rfl⟩
  exf := fun b hb => ⟨Nat.ne_of_lt (hlt b hb), fun x c e => nomatch (show (none : Option Addr) = some c from e)⟩
  bs := I.bs
  bsz := Nat.le_trans I.ok.bsz I.sz
  noex := fun b o e hb => by
    rcases (hfp b hb).2.2.2.1 with z | z
    · exact I.ok.noex b o e z
    · exact absurd (Nat.lt_of_lt_of_le (Heap.lt_size (I.ok.bs b o e).1) z) (Nat.lt_irrefl _)
  exfs := fun b hb hs => by
    rcases List.mem_cons.mp (I.stkSub b hs) with z | z
    · exact (hfp b hb).2.1 z
    · exact (hfp b hb).2.2.1 z
  funs := I.stack
  frf := I.stkFree
theorem genCx_inv {N : List Str} {A' : Around} {scope : Scope} {code : Value} {fp : List Addr} {h5 : Heap} {gs : Array GenState} {tk : Nat} {m : Str → Option Value} {a : Addr} {go : Obj} (I : Inv X pins σ H s)
    (hok : (genCx X N A' s H (genEnv scope [] s.heap.objs.size code builtinsNs X.env) fp).Ok) (k5 : ∀ b o, s.heap.get? b = some o → h5.get? b = some o) (hn : h5.Ns s.heap.objs.size m) (ha : h5.get? a = some go) (hac : s.heap.objs.size < a)
    (hgo : ∀ v, go.data ≠ .cell v) (hgb : AllBare gs) :
    Inv (genCx X N A' s H (genEnv scope [] s.heap.objs.size code builtinsNs X.env) fp) [(a, go)] (List.replicate N.length none) H { s with gens := gs, toks := tk, heap := h5 } where
  ok := hok
  os := rfl
  bare := hgb
  base := Un.kept k5
  loc := ⟨m, hn, fun i x v _ e _ => by
    rw [List.getElem?_replicate] at e
    split at e <;> cases e⟩
  cell := fun x c e => nomatch (show (none : Option Addr) = some c from e)
  free := I.hok.fresh (Nat.le_refl _)
  freeC := fun x c e => nomatch (show (none : Option Addr) = some c from e)
  pin := fun p hp => by
    have e : p = (a, go) := by
      rcases List.mem_append.mp hp with z | z
      · cases z
      · exact List.mem_singleton.mp z
    subst e
    refine ⟨ha, I.hok.fresh (Nat.le_of_lt hac), Nat.ne_of_gt hac, fun hb => ?_, hgo⟩
    exact absurd (Nat.lt_trans (stk_lt I hb) hac) (Nat.lt_irrefl _)
  hok := (I.kept (t' := tk) k5).hok
  len := List.length_replicate
end

/-! ### the loop of the generator -/
section
variable {X : Cx} {tg elt iter : Expr} {scope : Scope} {pos : Pos} {it : Addr} {B : Around} {J : It} {fp : List Addr} {tn : Nat → Heap → Prop} {g : TG} {te : TE} {pn0 : List (Addr × Obj)} {Q : VK}
/-- what the generator's end leaves -/
def GRz (X : Cx) (pn0 : List (Addr × Obj)) (Q : VK) : Nat → Shared → Shared → Prop := fun _ _ s => ∃ σ H, Inv X pn0 σ H s ∧ Q (.bl true) H
/-- what it hands out: True, and it may go on; or False, and it is left -/
def GYz (X : Cx) (pn0 : List (Addr × Obj)) (Q : VK) : Protocol := fun _ _ v s kap => ∃ b σ H, v = .bool b ∧ Inv X pn0 σ H s ∧
  if b = true then ∀ s', s'.heap = s.heap → s'.os = s.os → AllBare s'.gens → kap (.send .none) s' else Q (.bl false) H
/-- the turns -/
def GTurn (J : It) (g : TG) (te : TE) (k : Nat) (Q : VK) (W : Nat → Nat → Hp → Prop) : Prop := ∀ i m H, W i m H →
  (J.stop i H ∧ Q (.bl true) H) ∨ (J.go i H ∧ ∃ Nx : Hp → Prop, (∀ H', Nx H' → ∃ m', m' < m ∧ W (i + 1) m' H') ∧
    ∀ x H', J.yld i H x H' → g x (List.replicate k none) H' fun σ2 H2 => te σ2 H2 fun v H3 => ∃ b, v = .bl b ∧ if b = true then Nx H3 else Q (.bl false) H3)
theorem seg_all {W : Nat → Nat → Hp → Prop} (hA : B.over (.compLoop (.GeneratorExp elt [⟨tg, iter, [], 0⟩] scope pos) 0 (.ref it) .none X.env) [] = X.A) (hxe : X.xe = fun _ _ => False) (hcalm : X.calm = true) (hco : X.env.scope.isCoroutine = false)
    (T : Turn X.prog X.w X.K tg J fp it tn) (hf : ∀ b ∈ fp, b ≠ X.env.locals ∧ b ∉ X.fs ∧ (b ∈ X.ex ∨ X.s_0.heap.objs.size ≤ b) ∧ (∀ x c, X.env.cells.lookup x = some c → c ≠ b) ∧ ∀ p ∈ X.pn ++ pn0, p.1 ≠ b)
    (hg : PG X tg g) (he : PE X elt te) (turn : GTurn J g te X.N.length Q W) :
    ∀ (m n : Nat), m < n → ∀ (i : Nat) (s₀ s : Shared) (σ : L2.St) (H : Hp), Inv X pn0 σ H s → tn i s.heap → (∀ b ∈ fp, H b = none) → W i m H →
      Seg (model X.prog X.w) B (fun n s₀ r s₁ => r = .ok .next ∧ GRz X pn0 Q n s₀ s₁) (GYz X pn0 Q) n s₀ (.compLoop (.GeneratorExp elt [⟨tg, iter, [], 0⟩] scope pos) 0 (.ref it) .none X.env)
        ((model X.prog X.w).den (.compLoop (.GeneratorExp elt [⟨tg, iter, [], 0⟩] scope pos) 0 (.ref it) .none X.env)) [] s := by
  intro m
  induction m using Nat.strongRecOn with
  | _ m ih =>
  intro n hmn i s₀ s σ H I st fr w
  have I' := inv_wipe I X.N.length rfl
  have noX : ∀ (e : Value) (s' : Shared), X.xe e s' → False := fun e s' h => by
    rw [hxe] at h
    exact h
  have stat : ∀ {H' : Hp}, (∀ b ∈ fp, H' b = none) → ∀ b ∈ fp, FpOk X pn0 H' b := fun hn b hb => ⟨hn b hb, hf b hb⟩
  show Seg _ B _ _ _ s₀ _ ((compTurn (.GeneratorExp elt [⟨tg, iter, [], 0⟩] scope pos) 0 (.ref it) .none X.env).onRaise (leaving X.env)) [] s
  rw [compTurn_gen, Sem.onRaise_eq_wrap]
  refine seg_bind_wrap (wpAny_standAt ?_)
  rcases turn i m H w with ⟨stop, q⟩ | ⟨go, Nx, hN, step⟩
  · refine seg_bind_wrap ?_
    rw [hA]
    refine wpAny_mono (T.done X rfl rfl rfl hcalm i pn0 s _ H X.xe I' (stat fr) st stop) (fun r s1 h1 => ?_) fun e s' h => (noX e s' h).elim
    obtain ⟨rfl, I1⟩ := h1
    exact seg_end (.ok .next) ⟨rfl, _, H, I1, q⟩
  · refine seg_bind_wrap ?_
    rw [hA]
    refine wpAny_mono (T.item X rfl rfl rfl hcalm i pn0 s _ H X.xe I' (stat fr) st go) (fun r s1 h1 => ?_) fun e s' h => (noX e s' h).elim
    obtain ⟨u, rfl, h1⟩ := h1
    refine seg_bind_wrap ?_
    rw [hA]
    refine wpAny_mono h1 (fun _ s2 h2 => ?_) fun e s' h => (noX e s' h).elim
    obtain ⟨x, H2, I2, r2, y2, st2, fr2⟩ := h2
    have I2' := I2.pinned (stat fr2) (T.obj _ _ st2)
    refine seg_bind_wrap ?_
    rw [hA]
    refine wpAny_mono (hg.run _ s2 _ H2 x u _ I2' r2 (step x H2 y2)) (fun _ s3 h3 => ?_) fun e s' h => (noX e s' h).elim
    obtain ⟨σ3, H3, I3, q3⟩ := h3
    have hy : ∀ v, yieldOut X.env v = yieldValue v := fun v => by simp only [yieldOut, hco, Bool.false_eq_true, if_false]
    simp only [hy]
    refine seg_bind_wrap ?_
    refine (wpAny_of_eq (a := true) (by rfl) ?_)
    simp only [if_true]
    rw [Sem.bind_eq_wrap', Sem.bind_eq_wrap', Sem.wrap_wrap, Sem.wrap_wrap]
    refine seg_wrap ?_
    rw [hA]
    refine wpAny_mono (he.run _ s3 σ3 H3 _ I3 q3) (fun y s4 h4 => ?_) fun e s' h => (noX e s' h).elim
    obtain ⟨v, H4, I4, r4, b, rfl, q4⟩ := h4
    obtain rfl : y = Value.bool b := r4
    have I5 := I4.unpinned
    have st4 : tn (i + 1) s4.heap := T.keep _ _ _ st2 fun b hb o e => (I4.pin (b, o) (List.mem_append_right _ (List.mem_append_right _ (mem_pinsAt hb e)))).1
    have fr4 : ∀ b ∈ fp, H4 b = none := fun b hb => by
      obtain ⟨o, e, d⟩ := T.obj _ _ st2 b hb
      exact (I4.pin (b, o) (List.mem_append_right _ (List.mem_append_right _ (mem_pinsAt hb e)))).2.1
    obtain ⟨n', rfl⟩ : ∃ n', n = n' + 1 := ⟨n - 1, by omega⟩
    refine seg_at (seg_yield rfl rfl rfl ⟨b, σ3, H4, rfl, I5, ?_⟩)
    cases b with
    | false => exact q4
    | true =>
      obtain ⟨m', hm', w'⟩ := hN H4 q4
      rw [if_pos rfl]
      intro s' e1 e2 e3
      exact seg_again rfl (ih m' hm' n' (by omega) (i + 1) s' s' σ3 H4 (inv_gens I5 e1 e2 e3) (by rw [e1]; exact st4) fr4 w')
/-- its start -/
theorem seg_start {W : Nat → Nat → Hp → Prop} (hA : B.over (.compLoop (.GeneratorExp elt [⟨tg, iter, [], 0⟩] scope pos) 0 (.ref it) .none X.env) [] = X.A) (hxe : X.xe = fun _ _ => False) (hcalm : X.calm = true) (hco : X.env.scope.isCoroutine = false)
    (T : Turn X.prog X.w X.K tg J fp it tn) (hf : ∀ b ∈ fp, b ≠ X.env.locals ∧ b ∉ X.fs ∧ (b ∈ X.ex ∨ X.s_0.heap.objs.size ≤ b) ∧ (∀ x c, X.env.cells.lookup x = some c → c ≠ b) ∧ ∀ p ∈ X.pn ++ pn0, p.1 ≠ b)
    (hg : PG X tg g) (he : PE X elt te) (turn : GTurn J g te X.N.length Q W) (m : Nat) (s₀ s : Shared) (σ : L2.St) (H : Hp) (I : Inv X pn0 σ H s) (st : tn 0 s.heap) (fr : ∀ b ∈ fp, H b = none) (w0 : W 0 m H) :
      Seg (model X.prog X.w) B (fun n s₀ r s₁ => r = .ok .next ∧ GRz X pn0 Q n s₀ s₁) (GYz X pn0 Q) (m + 1) s₀ (.compStart (.GeneratorExp elt [⟨tg, iter, [], 0⟩] scope pos) 0 (.ref it) .none X.env)
        ((model X.prog X.w).den (.compStart (.GeneratorExp elt [⟨tg, iter, [], 0⟩] scope pos) 0 (.ref it) .none X.env)) [] s := by
  have loop := seg_all (iter := iter) (scope := scope) (pos := pos) hA hxe hcalm hco T hf hg he turn m (m + 1) (Nat.lt_succ_self _) 0 s₀ s σ H I st fr w0
  show Seg _ B _ _ _ s₀ _ ((compStart (.GeneratorExp elt [⟨tg, iter, [], 0⟩] scope pos) 0 (.ref it) .none X.env).onRaise (leaving X.env)) [] s
  unfold compStart
  rw [Sem.onRaise_eq_wrap]
  show Seg _ B _ _ _ s₀ _ ((ask >>= _).wrap _ _ _ _) [] s
  refine seg_bind_wrap (wpAny_askSetting ?_)
  split
  · exact seg_again rfl loop
  · first
      | exact seg_bind_wrap (wpAny_rule (seg_bind_wrap (wpAny_standAt (seg_bind_wrap (T.self _ 0 s _ _ st (seg_again rfl loop))))))
      | (refine seg_bind_wrap (wpAny_rule ?_); show Seg _ B _ _ _ s₀ _ ((standAt iter.pos >>= _).wrap _ _ _ _) [] s; exact seg_bind_wrap (wpAny_standAt (seg_bind_wrap (T.self _ 0 s _ _ st (seg_again rfl loop)))))
end
/-! ### all(..) -/
section
variable {X : Cx} {A : Around} {a : Addr} {g : Nat} {go : Obj} {pn0 : List (Addr × Obj)} {Q : VK} {R : Result → Shared → Prop}
theorem gens_set {s : Shared} {n : Nat} {x : GenState} (h : n < s.gens.size) : (s.setGen n x).gens[n]? = some x := by
  simp [Shared.setGen, h]
theorem bare_set {s : Shared} {n : Nat} {x : GenState} (h : AllBare s.gens) (hx : x.bare = true) : AllBare (s.setGen n x).gens := by
  intro y hy
  rcases Array.mem_or_eq_of_mem_setIfInBounds (show y ∈ s.gens.setIfInBounds n x from hy) with z | z
  · exact h y z
  · rw [z]
    exact hx
theorem all_loop (hh : A.handled = none) (hroom : A.depth < recursionLimit) (hgo : go.cls = .type "generator" ∧ (∃ nm qn, go.data = .fields #[.int g 0, nm, qn]) ∧ go.slots = #[]) (hpn : (a, go) ∈ pn0)
    (hR : ∀ b s σ H, Inv X pn0 σ H s → Q (.bl b) H → R (.ok (.ret (.bool b))) s) :
    ∀ (n : Nat) (s : Shared) (gs : GenState) (σ : L2.St) (H : Hp), Inv X pn0 σ H s → s.gens[g]? = some gs →
      gs.Goes (model X.prog X.w) A.in1.in1 (fun n s₀ r s₁ => r = .ok .next ∧ GRz X pn0 Q n s₀ s₁) (GYz X pn0 Q) n (.send .none) (s.setGen g .running) →
      codeAny (model X.prog X.w) A (.builtin "all.loop" ⟨[.ref a], []⟩) R s := by
  have step : ∀ n : Nat, (∀ m, n = m + 1 → ∀ (s : Shared) (gs : GenState) (σ : L2.St) (H : Hp), Inv X pn0 σ H s → s.gens[g]? = some gs →
      gs.Goes (model X.prog X.w) A.in1.in1 (fun n s₀ r s₁ => r = .ok .next ∧ GRz X pn0 Q n s₀ s₁) (GYz X pn0 Q) m (.send .none) (s.setGen g .running) →
      codeAny (model X.prog X.w) A (.builtin "all.loop" ⟨[.ref a], []⟩) R s) → ∀ (s : Shared) (gs : GenState) (σ : L2.St) (H : Hp), Inv X pn0 σ H s → s.gens[g]? = some gs →
      gs.Goes (model X.prog X.w) A.in1.in1 (fun n s₀ r s₁ => r = .ok .next ∧ GRz X pn0 Q n s₀ s₁) (GYz X pn0 Q) n (.send .none) (s.setGen g .running) →
      codeAny (model X.prog X.w) A (.builtin "all.loop" ⟨[.ref a], []⟩) R s := by
    intro n ih s gs σ H I hgs hgoes
    refine codeAny_builtin F.entry_all_loop ?_
    rw [Around.under_plainId F.plain_all_loop _]
    show wpAny _ A.in1 (pyNext (.ref a) >>= _) _ _ s
    have hlt : g < s.gens.size := by
      rcases Nat.lt_or_ge g s.gens.size with h | h
      · exact h
      · rw [Array.getElem?_eq_none h] at hgs
        cases hgs
    have hgen : s.heap.IsGen a g := by
      obtain ⟨h1, ⟨nm, qn, h2⟩, h3⟩ := hgo
      exact ⟨go, nm, qn, (I.pin (a, go) (List.mem_append_right _ hpn)).1, h1, h2, h3⟩
    refine wpAny_bind (GenW.wpAny_gsz (n := g + 1) hlt ?_)
    refine wpAny_pyNext_genexpQ (A := A.in1) (P := GRz X pn0 Q) hh I.nolimit hroom hgen hgs hgoes (fun v s₁ gs' hb hv hsz => ?_) (fun s₁ hp h' hk hsz => ?_)
    · obtain ⟨b, σ1, H1, rfl, I1, q1⟩ := hv
      have hsz1 : g < s₁.gens.size := by
        have : g + 1 ≤ (s₁.setGen g gs').gens.size := hsz
        rw [GenW.setGen_size] at this
        exact this
      have J1 : Inv X pn0 σ1 H1 (s₁.setGen g gs') := inv_gens I1 rfl rfl (bare_set I1.bare hb)
      refine wpAny_bind (wpAny_holding (wpAny_truthy_bool ?_))
      refine wpAny_bind (wpAny_letGo ?_)
      cases b with
      | true =>
        rw [if_pos rfl] at q1
        simp only [if_true]
        have q2 := q1 ((s₁.setGen g gs').setGen g .running) rfl rfl (bare_set J1.bare rfl)
        cases n with
        | zero => exact q2.elim
        | succ m => exact wpAny_pure ⟨plainId_quiet F.plain_all_loop _, ih m rfl _ gs' σ1 H1 J1 (gens_set hsz1) q2⟩
      | false =>
        simp only [Bool.false_eq_true, if_false]
        exact wpAny_bind (wpAny_rule (wpAny_pure (hR false _ σ1 H1 J1 q1)))
    · obtain ⟨σ1, H1, I1, q1⟩ := hp
      have J1 : Inv X pn0 σ1 H1 (s₁.setGen g .finished) := inv_gens I1 rfl rfl (bare_set I1.bare rfl)
      exact wpAny_bind (wpAny_rule (wpAny_pure (hR true _ σ1 H1 (J1.kept (t' := s₁.toks) hk) q1)))
  intro n
  induction n with
  | zero => exact step 0 fun m e => by cases e
  | succ n ih =>
    refine step (n + 1) fun m e => ?_
    cases e
    exact ih
end

/-! ### the rule -/
/-- all(elt for tg in iter), nothing captured; k: how many names the generator's frame has (those of the target) -/
def tAllG (P : Addr) (wi : TI) (g : TG) (te : TE) (k : Nat) : TE := fun σ H Q => wi σ H fun J H1 => TabG H1 P ∧ ∀ H2, Tabbed P H1 H2 → ∃ W : Nat → Nat → Hp → Prop, (∃ m, W 0 m H2) ∧ GTurn J g te k Q W
section
variable {X : Cx} {c P : Addr} {tg elt iter : Expr} {p pos gpos : Pos} {scope : Scope} {wi : TI} {g : TG} {te : TE} {N : List Str} {k : Nat}
theorem pe_allG (hr : Room (k + 1) X.A) (hgl : Gl X "all") (hm : X.mg "all" = none) (TB : TabB X.base X.mg c P) (hcode : X.env.code = .ref c) (S : GenN scope) (hi : PI X tg iter wi)
    (hg : ∀ A' s4 H4 cenv fp, cenv.scope = scope → PG (genCx X N A' s4 H4 cenv fp) tg g) (he : ∀ A' s4 H4 cenv fp, cenv.scope = scope → Room k A' → PE (genCx X N A' s4 H4 cenv fp) elt te)
    (hs : ∀ v, genFold iter X.env v = pure v)
    (hst : starEach [.GeneratorExp elt [⟨tg, iter, [], 0⟩] scope gpos] X.env = (false, eval (.GeneratorExp elt [⟨tg, iter, [], 0⟩] scope gpos) X.env) :: starEach [] X.env := by rfl) (hb : bootBuiltins "all" = some (.builtin "all") := by decide +kernel) :
    PE X (.Call (.Name "all" p) [.GeneratorExp elt [⟨tg, iter, [], 0⟩] scope gpos] [] pos) (tAllG P wi g te N.length) := by
  refine ⟨fun pins s σ H Q I h => ?_⟩
  refine wpAny_Call_Name_kw (ld_blt I hgl hm hb ?_)
  refine PyProof.Rows.callWith_builtin1 ?_ hst (by rfl)
  rw [hst]
  show wpAny _ _ (spliced ((false, eval (.GeneratorExp elt [⟨tg, iter, [], 0⟩] scope gpos) X.env) :: backTo pos (starEach [] X.env))) _ _ s
  refine Calls.spliced_cons ?_
  have hclos : closureFor scope X.env = pure [] := by
    rw [closure_ok (fun y hy e => absurd e (S.free y hy)), clo_nil _ _ _ S.free]
  refine wpAny_GeneratorExp_make S.co hclos S.cell S.dot S.kind (by have := hr.dp; omega) ?_ hs
  refine thn (hi.run pins s σ H _ I h) fun xv s1 h1 => thn h1 fun itv s2 h2 => ?_
  obtain ⟨it, fp, tn, J, H1, rfl, I1, T, st1, f1, ⟨ps, hP, ht⟩, hW⟩ := h2
  refine ⟨I1.nolimit, ?_⟩
  have hPs : s2.heap.get? P = some { cls := .none, data := .fields ps } := I1.hok P _ hP
  have cd : PySem.W.CodeHd s2.heap c P := TB.code.keeps fun b u e => I1.bk b u e
  have hlt1 : ∀ b ∈ fp, b < s2.heap.objs.size := fun b hb => by
    obtain ⟨o, e, _⟩ := T.obj _ _ st1 b hb
    exact Heap.lt_size e
  have cont : ∀ (code : Value) (h3 : Heap) (tk : Nat) (more : Array Value), Heap.ExtBut P s2.heap h3 → s2.heap.objs.size ≤ h3.objs.size → h3.get? P = some { cls := .none, data := .fields (ps ++ more) } → TriplesOk (ps ++ more).toList →
      wpAny (model X.prog X.w) X.A (builtinsFor X.env.globals X.env.builtins) (fun bi s₄ =>
        ∀ h', h'.Ns s₄.heap.objs.size (fun y => if y = ".0" then some (.ref it) else none) → Heap.SameBut s₄.heap.objs.size (s₄.heap.push { cls := .type "frame", data := .dict #[] }) h' →
          wpAny (model X.prog X.w) X.A (spliced (backTo pos (starEach [] X.env))) (fun vs s' => wpAny (model X.prog X.w) X.A (call (.builtin "all") (.ref h'.objs.size :: vs)) (EP X pins σ Q) X.xe s') X.xe { s₄ with
            gens := s₄.gens.push (.fresh (.compStart (.GeneratorExp elt [⟨tg, iter, [], 0⟩] scope gpos) 0 (.ref it) .none (genEnv scope [] s₄.heap.objs.size code bi X.env))),
            toks := s₄.toks + 1 + 1 + 1,
            heap := h'.push { cls := .type "generator", data := .fields #[.int s₄.gens.size 0, .str "<genexpr>" (s₄.toks + 1), .str (X.env.qual ++ "<genexpr>") (s₄.toks + 1 + 1)] } }) X.xe { s2 with heap := h3, toks := tk } := by
    intro code h3 tk more hx hsz hP3 ht3
    obtain ⟨bm, ob, e1, e2, e3, e4, e5, e6, e7, e8⟩ := TB.bm
    have keep3 : ∀ b u, b ≠ P → s2.heap.get? b = some u → h3.get? b = some u := fun b u hb e => hx b u hb e
    refine wpAny_builtinsFor (m := X.mg) (by rw [I1.ok.glob]; exact (I1.mod.glob.keeps I1.bk).extBut hx TB.gP) e1 e2 (keep3 _ _ e4 (I1.bk _ _ e5)) e6 e7 e8 ?_
    intro h' hn' hs'
    have I3 : Inv X pins σ (upd H1 P (.tbl (ps ++ more))) { s2 with heap := h3, toks := tk } := inv_tab (more := more) (h' := h3) (g' := s2.gens) (d' := s2.drawn) (t' := tk) I1 hP keep3 hP3 I1.bare
    obtain ⟨W, ⟨m0, w0⟩, turn⟩ := hW _ ⟨⟨ps ++ more, upd_same, ht3⟩, fun b hb => upd_ne hb⟩
    have nP : ∀ b ∈ fp, b ≠ P := fun b hb z => by
      have := (f1 b hb).1
      rw [z, hP] at this
      cases this
    have fr3 : ∀ b ∈ fp, upd H1 P (.tbl (ps ++ more)) b = none := fun b hb => by
      rw [upd_ne (nP b hb)]
      exact (f1 b hb).1
    have f3 : ∀ b ∈ fp, FpOk X pins (upd H1 P (.tbl (ps ++ more))) b := fun b hb => ⟨fr3 b hb, (f1 b hb).2⟩
    have st3 : tn 0 h3 := T.keep _ _ _ st1 fun b hb o e => keep3 b o (nP b hb) e
    have hlt3 : ∀ b ∈ fp, b < h3.objs.size := fun b hb => Nat.lt_of_lt_of_le (hlt1 b hb) hsz
    obtain ⟨cenv, hcenv⟩ : ∃ cenv, genEnv scope [] h3.objs.size code builtinsNs X.env = cenv := ⟨_, rfl⟩
    have sz' : h'.objs.size = h3.objs.size + 1 := by rw [hs'.1, Heap.size_push]
    have keep' : ∀ b o, h3.get? b = some o → h'.get? b = some o := fun b o e => hs'.extBut b o (Nat.ne_of_lt (Heap.lt_size e)) (Heap.get?_push_of_some _ e)
    have Ok' : (genCx X N ((X.A.in1.in1).over (.compLoop (.GeneratorExp elt [⟨tg, iter, [], 0⟩] scope gpos) 0 (.ref it) .none cenv) []) { s2 with heap := h3, toks := tk } (upd H1 P (.tbl (ps ++ more))) cenv fp).Ok := by
      rw [← hcenv]
      refine genCx_ok I3 S ?_ hr.hd f3 hlt3
      show pushEnvs [_] (pushEnvs [] X.A.frames) = _
      rw [I1.ok.frames]
      rfl
    have hRoom : Room k ((X.A.in1.in1).over (.compLoop (.GeneratorExp elt [⟨tg, iter, [], 0⟩] scope gpos) 0 (.ref it) .none cenv) []) := by
      refine ⟨hr.hd, ?_, ?_⟩
      · have := hr.dp
        show X.A.depth + 0 + 1 + 3 * k + 5 < _
        omega
      · have := hr.un
        show X.A.units + 1 + 1 + 0 + 3 + 16 * k + 200 < _
        omega
    have hsc : cenv.scope = scope := by
      rw [← hcenv]
      rfl
    have hloc : cenv.locals = h3.objs.size := by
      rw [← hcenv]
      rfl
    have hcel : cenv.cells = [] := by
      rw [← hcenv]
      rfl
    obtain ⟨go, hgo⟩ : ∃ go : Obj, { cls := .type "generator", data := .fields #[.int s2.gens.size 0, .str "<genexpr>" (tk + 1), .str (X.env.qual ++ "<genexpr>") (tk + 1 + 1)] } = go := ⟨_, rfl⟩
    have keep5 : ∀ b o, h3.get? b = some o → (h'.push go).get? b = some o := fun b o e => Heap.get?_push_of_some _ (keep' b o e)
    have bare5 : AllBare (s2.gens.push (.fresh (.compStart (.GeneratorExp elt [⟨tg, iter, [], 0⟩] scope gpos) 0 (.ref it) .none cenv))) := I1.bare.push rfl
    have I5 : Inv (genCx X N ((X.A.in1.in1).over (.compLoop (.GeneratorExp elt [⟨tg, iter, [], 0⟩] scope gpos) 0 (.ref it) .none cenv) []) { s2 with heap := h3, toks := tk } (upd H1 P (.tbl (ps ++ more))) cenv fp) [(h'.objs.size, go)] (List.replicate N.length none)
        (upd H1 P (.tbl (ps ++ more))) { s2 with gens := s2.gens.push (.fresh (.compStart (.GeneratorExp elt [⟨tg, iter, [], 0⟩] scope gpos) 0 (.ref it) .none cenv)), toks := tk + 1 + 1 + 1, heap := h'.push go } := by
      subst hcenv
      refine genCx_inv (m := fun y => if y = ".0" then some (.ref it) else none) I3 Ok' keep5 (hn'.push _) (Heap.get?_push_size _ (by rw [← hgo]; rfl)) (by show h3.objs.size < h'.objs.size; omega) (fun v z => ?_) bare5
      rw [← hgo] at z
      cases z
    have hf5 : ∀ b ∈ fp, b ≠ cenv.locals ∧ b ∉ frs X.stack ∧ (b ∈ fp ∨ h3.objs.size ≤ b) ∧ (∀ x c, cenv.cells.lookup x = some c → c ≠ b) ∧ ∀ p ∈ [] ++ [(h'.objs.size, go)], p.1 ≠ b := fun b hb => by
      refine ⟨?_, fun z => ?_, .inl hb, fun x c e => ?_, fun p hp => ?_⟩
      · rw [hloc]
        exact Nat.ne_of_lt (hlt3 b hb)
      · rcases List.mem_cons.mp (I1.stkSub b z) with q | q
        · exact (f1 b hb).2.1 q
        · exact (f1 b hb).2.2.1 q
      · rw [hcel] at e
        cases e
      · have e : p = (h'.objs.size, go) := List.mem_singleton.mp hp
        subst e
        exact Nat.ne_of_gt (Nat.lt_trans (hlt3 b hb) (by rw [sz']; exact Nat.lt_succ_self _))
    have loop := seg_start (X := genCx X N ((X.A.in1.in1).over (.compLoop (.GeneratorExp elt [⟨tg, iter, [], 0⟩] scope gpos) 0 (.ref it) .none cenv) []) { s2 with heap := h3, toks := tk } (upd H1 P (.tbl (ps ++ more))) cenv fp)
      (B := X.A.in1.in1) (iter := iter) (scope := scope) (pos := gpos) (tn := tn) (pn0 := [(h'.objs.size, go)]) (W := W) rfl rfl rfl (by show cenv.scope.isCoroutine = false; rw [hsc]; exact S.co) T hf5 (hg _ _ _ _ _ hsc) (he _ _ _ _ _ hsc hRoom) turn m0
    refine Calls.spliced_nil ?_
    refine call_function_tree F.kind_all F.plain_all F.entry_all (F.args_all1 _) ?_
    unfold Builtin.«all»
    refine wpAny_bind (m := oneArg "all" _) (wpAny_pure ?_)
    have hgen : (h'.push go).IsGen h'.objs.size s2.gens.size := ⟨go, _, _, Heap.get?_push_size _ (by rw [← hgo]; rfl), by rw [← hgo], by rw [← hgo], by rw [← hgo]⟩
    subst hcenv
    subst hgo
    refine wpAny_bind (wpAny_pyIter_gen hgen ?_)
    refine wpAny_pure ⟨plainId_quiet F.plain_all_loop _, ?_⟩
    refine all_loop (X := (genCx X N ((X.A.in1.in1).over (.compLoop (.GeneratorExp elt [⟨tg, iter, [], 0⟩] scope gpos) 0 (.ref it) .none (genEnv scope [] h3.objs.size code builtinsNs X.env)) []) { s2 with heap := h3, toks := tk } (upd H1 P (.tbl (ps ++ more))) (genEnv scope [] h3.objs.size code builtinsNs X.env) fp)) (Q := Q) (A := X.A)
      (go := { cls := .type "generator", data := .fields #[.int s2.gens.size 0, .str "<genexpr>" (tk + 1), .str (X.env.qual ++ "<genexpr>") (tk + 1 + 1)] }) (pn0 := [(h'.objs.size, _)]) hr.hd (by have := hr.dp; omega) ⟨rfl, ⟨_, _, rfl⟩, rfl⟩ (List.mem_singleton.mpr rfl)
      (fun b s' σ' H' J q => ?_) (m0 + 1) _ _ _ _ I5 (Array.getElem?_push_size ..) ⟨rfl, ?_⟩
    · obtain ⟨hh, gg, dd, tt, oo⟩ := s'
      obtain rfl : oo = s2.os := J.os
      have I7 := I3.call (h' := hh) (g' := gg) (d' := dd) (t' := tt) (ch := fp) J.base J.hok J.bare fun b hb => ⟨(f1 b hb).2.2.2.1, (f1 b hb).2.1, (f1 b hb).2.2.2.2.1, (f1 b hb).2.2.2.2.2⟩
      exact ⟨.bl b, H', I7, rfl, q⟩
    · have I6 := inv_gens (s' := ({ s2 with gens := s2.gens.push (.fresh (.compStart (.GeneratorExp elt [⟨tg, iter, [], 0⟩] scope gpos) 0 (.ref it) .none (genEnv scope [] h3.objs.size code builtinsNs X.env))), toks := tk + 1 + 1 + 1, heap := h'.push { cls := .type "generator", data := .fields #[.int s2.gens.size 0, .str "<genexpr>" (tk + 1), .str (X.env.qual ++ "<genexpr>") (tk + 1 + 1)] } } : Shared).setGen s2.gens.size .running) I5 rfl rfl (bare_set I5.bare rfl)
      exact loop _ _ _ _ I6 (T.keep _ _ _ st3 fun b _ o e => keep5 b o e) fr3 w0
  cases hf : codeAmong gpos ps.toList with
  | none =>
    refine wpAny_genexprCodeX hcode (cd.code hPs ht) (cd.tab hPs) hf fun c' h' tk hx hge hlt hco' _ htab' _ => ?_
    obtain ⟨o1, vs, f1, tf, fl, tg, inF, tx, tt, op, _, _, _, _, _, _, _, _, _, htr, _⟩ := hco'
    exact cont _ h' tk _ hx (Nat.le_trans hge (Nat.le_of_lt hlt)) htab'.2 htr
  | some cv =>
    refine wpAny_genexprCode_hit hcode (cd.code hPs ht) hf ?_
    exact cont cv s2.heap s2.toks #[] (Heap.ExtBut.refl _ _) (Nat.le_refl _) (by simpa using hPs) (by simpa using ht)
end
/-! ### the turns, over a walk -/
theorem all_it {J : It} {n : Nat} {G : Hp → Prop} {Y : Nat → Hp → V → Hp → Prop} (wk : Walk J n G Y) {g : TG} {te : TE} {k : Nat} {Q : VK} {H2 : Hp} (Pv : Nat → Hp → Prop) (h0 : Pv 0 H2) (hG : ∀ i H, i ≤ n → Pv i H → G H)
    (hs : ∀ i x H H', i < n → Pv i H → Y i H x H' → g x (List.replicate k none) H' fun σ2 H2 => te σ2 H2 fun v H3 => ∃ b, v = .bl b ∧ if b = true then Pv (i + 1) H3 else Q (.bl false) H3) (hd : ∀ H, Pv n H → Q (.bl true) H) :
    ∃ W : Nat → Nat → Hp → Prop, (∃ m, W 0 m H2) ∧ GTurn J g te k Q W := by
  refine ⟨fun i m H => m = n - i ∧ i ≤ n ∧ Pv i H, ⟨n, by simp, Nat.zero_le _, h0⟩, fun i m H hw => ?_⟩
  obtain ⟨rfl, hi, p⟩ := hw
  by_cases hlt : i < n
  · exact .inr ⟨wk.goes i H hlt (hG i H hi p), Pv (i + 1), fun H' p' => ⟨n - (i + 1), by omega, rfl, hlt, p'⟩, fun x H' y => hs i x H H' hlt p (wk.yields i H x H' hlt (hG i H hi p) y)⟩
  · obtain rfl : i = n := by omega
    exact .inl ⟨wk.stops H (hG i H hi p), hd H p⟩
end GxA
set_option maxHeartbeats 4000000
namespace HM
open PySem PySem.Spec PyProof.Rows L2

/-! ### a promise of a def that is called where no repr is under way -/
structure FnG (P : Program) (w : World) (K : PySem.W.Frag) (mg : Str → Option Value) (base : Heap) (CX : CXT) (k : Nat) (f : Addr) (fd : FuncData) (ps : List Str) (sp : Sp) : Prop where
  len : ∀ vs H Q E, sp vs H Q E → vs.length = ps.length
  run : ∀ (A : Around) (outer : List Env) (s : Shared) (H : Hp) (args : Args) (us : List Value) (vs : List V) (Q : VK) (E : XK), Room k A → A.guards = some [] → Env0 P w K mg base A outer s H → BindsTo s fd args (ps.zip us) → Vals vs us →
    sp vs H Q E → codeAny (model P w) A (.call (.ref f) args) (CR CX outer P w H s Q E) s
section
variable {P : Program} {w : World} {K : PySem.W.Frag} {mg : Str → Option Value} {base : Heap} {CX : CXT} {k : Nat} {f : Addr} {fd : FuncData} {ps : List Str} {sp : Sp}
theorem FnG.of (F : FnOk P w K mg base CX k f fd ps sp) : FnG P w K mg base CX k f fd ps sp := ⟨F.len, fun A o s H a us vs Q E hr _ => F.run A o s H a us vs Q E hr⟩
theorem FnG.mono {j : Nat} (F : FnG P w K mg base CX k f fd ps sp) (h : k ≤ j) : FnG P w K mg base CX j f fd ps sp := ⟨F.len, fun A o s H a us vs Q E hr => F.run A o s H a us vs Q E (hr.mono h)⟩
variable {x qual : Str} {params : Arguments} {body : List Stmt} {scope : Scope} {dvs : List V} {kws : List (Str × V)} {N : List Str}
/-- the def's code object, by its place -/
def CodeAt (K : PySem.W.Frag) (f : Addr) (cdv : Value) : Prop := ∀ p, f = He.fAd K p → cdv = .ref (He.codeOf K p)
theorem codeAt_of {oc : Value} {od : Option Addr} {osl : Array (Option Value)} (lk : K.lookup f = some ⟨oc, od, .func fd, osl⟩) (hc : PySem.W.codeIn K fd.code qual = true) : CodeAt K f fd.code := fun p e => by
  obtain ⟨c, hc⟩ := He.codeIn_ref hc
  rw [e] at lk
  rw [He.codeOf_eq lk hc]
  exact hc
/-- a def by its body, the code object told -/
theorem ok_code (F : FunD K x qual params body scope dvs kws f fd) (S : FnScope N ps scope) (len : ∀ vs H Q E, sp vs H Q E → vs.length = ps.length)
    (hbody : ∀ (cdv : Value) (A : Around) (outer : List Env) (s : Shared) (H : Hp) (vs : List V) (Q : VK) (E : XK), CodeAt K f cdv → Room k (A.deeper (envOfC qual scope s.heap.objs.size f cdv)) → sp vs H Q E →
      ∃ t, PSs (cxOf CX0 P w K mg base N qual scope f cdv A outer s H E).nox body t ∧ t { nx := fun _ H' => Q .non H', rt := Q } (start N vs) H) : FnOk P w K mg base CX0 (k + 1) f fd ps sp := by
  obtain ⟨oc, od, dV, kV, doc, pm, an, cdv, ct, osl, rfl, lk, hcd, _, _⟩ := F.ex
  refine fn_of lk hcd S len fun A outer s H vs Q E hr hsp => ?_
  obtain ⟨t, h, q⟩ := hbody cdv A outer s H vs Q E (codeAt_of lk hcd) hr hsp
  exact ⟨t, h.nox, q⟩
theorem okG (F : FunD K x qual params body scope dvs kws f fd) (S : FnScope N ps scope) (len : ∀ vs H Q E, sp vs H Q E → vs.length = ps.length)
    (hbody : ∀ (cdv : Value) (A : Around) (outer : List Env) (s : Shared) (H : Hp) (vs : List V) (Q : VK) (E : XK), CodeAt K f cdv → Room k (A.deeper (envOfC qual scope s.heap.objs.size f cdv)) → (A.deeper (envOfC qual scope s.heap.objs.size f cdv)).guards = some [] → sp vs H Q E →
      ∃ t, PSs (cxOf CX P w K mg base N qual scope f cdv A outer s H E) body t ∧ t { nx := fun _ H' => Q .non H', rt := Q } (start N vs) H) : FnG P w K mg base CX (k + 1) f fd ps sp := by
  obtain ⟨oc, od, dV, kV, doc, pm, an, cdv, ct, osl, rfl, lk, hcd, _, _⟩ := F.ex
  refine ⟨len, fun A outer s H args us vs Q E hr hgd e0 hb r hsp => ?_⟩
  have hK : K.In s.heap := e0.mod.kin.keeps fun b o e => (e0.bs b o e).1
  have hL : s.heap.NoLimit := e0.mod.nolimit.keeps fun b o e => (e0.bs b o e).1
  refine codeAny_call_function hr.depth (hK _ _ lk) rfl S.co S.gen rfl (PySem.W.codeRec_of hK hcd) (hb _ _ _ _ ?_)
  refine wpAny_newFunctionEnv_cells S.kind (fun ⟨n, v⟩ hy => (S.par n (List.of_mem_zip hy).1).elim .inl fun q => .inr ⟨q, PySem.W.cellsFrom_some _ _ _ (.inl q)⟩) fun env he s1 hx => ?_
  subst he
  refine ⟨hL.keeps hx.toInCall.keep, codeAny_func ?_⟩
  obtain ⟨t, ht, hq⟩ := hbody cdv A outer s H vs Q E (codeAt_of lk hcd) (hr.deeper _) (by first | exact hgd | (rw [← hgd]; rfl)) hsp
  refine wpAny_mono (ht.run [] s1 (start N vs) H _ (inv_start S hr.hd e0 (len _ _ _ _ hsp) r hx) hq) (fun fl s' hs => ?_) fun e s' hs => hs
  have fin : ∀ {σ' : L2.St} {H' : Hp} {v : V} {u : Value}, Inv (cxOf CX P w K mg base N qual scope f cdv A outer s H E) [] σ' H' s' → RelV v u → Q v H' → CE outer P w H s Q u s' := fun {_ H' v _} J rv q => ⟨v, H', J.os, J.bare, J.base, J.hok, rv, q⟩
  match fl, hs with
  | .ret u, ⟨v, σ', H', J, rv, q⟩ => exact fin J rv q
  | .next, ⟨σ', H', J, q⟩ => exact fin (v := V.non) (u := Value.none) J rfl q
  | .brk, ⟨_, _, _, q⟩ => exact q.elim
  | .cont, ⟨_, _, _, q⟩ => exact q.elim
end
section
variable {X : Cx} {CX : CXT} {k : Nat} {f : Addr} {fd : FuncData} {ps : List Str} {sp : Sp} {dvs : List V} {ds : List Value} {E : XK} {x : Str} {p pos : Pos} {e : Expr} {es : List Expr} {t : TA}
theorem run_G {pins : List (Addr × Obj)} {σ : L2.St} {H : Hp} {s : Shared} {Q : VK} {us : List Value} {vs : List V} (F : FnG X.prog X.w X.K X.mg X.base CX k f fd ps sp) (hr : Room k X.A) (hg : X.A.guards = some []) (hb : Binds X.K fd ps ds) (hd : Vals dvs ds) (hx : Passes CX X E)
    (I : Inv X pins σ H s) (r : Vals vs us) (h : sp (vs ++ dvs) H Q E) : wpAny (model X.prog X.w) X.A (call (.ref f) us) (EP X pins σ Q) X.xe s := by
  have r2 : Vals (vs ++ dvs) (us ++ ds) := r.append hd
  refine wpAny_call (codeAny_mono (F.run X.A X.stack s H ⟨us, []⟩ (us ++ ds) (vs ++ dvs) Q E hr hg I.env0 (hb s us I.kIn (by rw [← r2.length]; exact F.len _ _ _ _ h)) r2 h) fun r s' hq => ?_)
  match r, hq with
  | .error e, hq => exact hx pins σ H s e s' I hq
  | .ok (.ret u), hq => exact I.after hq
theorem pe_callG (F : FnG X.prog X.w X.K X.mg X.base CX k f fd ps sp) (hr : Room k X.A) (hgd : X.A.guards = some []) (hg : Gl X x) (hm : X.mg x = some (.ref f)) (hk : PySem.W.keepIn X.K (.ref f) = true) (hb : Binds X.K fd ps ds) (hd : Vals dvs ds) (hx : Passes CX X E)
    (ha : PA X (e :: es) t) (hdb : (x == ("__debug__" : Str)) = false := by decide) (he : starEach (e :: es) X.env = (false, eval e X.env) :: starEach es X.env := by rfl) (hpl : (backTo pos (starEach es X.env)).any (·.1) = false := by rfl) :
    PE X (.Call (.Name x p) (e :: es) [] pos) (tCall sp dvs E t) :=
  ⟨fun pins s σ H Q I h => wpAny_Call_Name_kw (ld_glob I hg hm (PySem.W.callWith_K (h₀ := X.base) I.ok.mod.kin hk (thn (ha.run pos pins s σ H _ I h) fun us s1 ⟨vs, H1, I1, r, q⟩ => ⟨I1.kIn, run_G F hr hgd hb hd hx I1 r q⟩) he hpl) hdb)⟩
theorem pe_callG0 (F : FnG X.prog X.w X.K X.mg X.base CX k f fd ps sp) (hr : Room k X.A) (hgd : X.A.guards = some []) (hg : Gl X x) (hm : X.mg x = some (.ref f)) (hk : PySem.W.keepIn X.K (.ref f) = true) (hb : Binds X.K fd ps ds) (hd : Vals dvs ds) (hx : Passes CX X E)
    (hdb : (x == ("__debug__" : Str)) = false := by decide) : PE X (.Call (.Name x p) [] [] pos) (tCall sp dvs E tNil) :=
  ⟨fun pins s σ H Q I h => wpAny_Call_Name_kw (ld_glob I hg hm (PySem.W.callWith_K0 I.kIn hk (run_G (us := []) F hr hgd hb hd hx I .nil h)) hdb)⟩
end

/-! ### the law's own call, by a promise that asks that no repr is under way -/
section
variable {P : Program} {w : World} {K : PySem.W.Frag} {mg mb : Str → Option Value} {CX : CXT} {k : Nat} {fa a : Addr} {cs : List (Addr × Addr)} {fd : FuncData} {x : Str} {sp : Sp} {s₁ : Shared} {vs : List Value} {ns : List Int}
abbrev emptyT : Obj := { cls := .none, data := .fields #[] }
abbrev scriptO (vs : List Value) : Obj := { cls := .type "list", data := .seq vs.toArray }
open Classical in
/-- what is tracked when the law is called: the tables and the script -/
noncomputable def H0 (K : PySem.W.Frag) (cs : List (Addr × Addr)) (a : Addr) (vs : List Value) (ns : List Int) : Hp := fun b =>
  if b ∈ cs.map (·.2) then some (.tbl #[]) else if b = a ∧ K.lookup a = none then some (.frz (scriptO vs) (.lst (ns.map V.int))) else none
theorem H0_tab {b : Addr} (h : b ∈ cs.map (·.2)) : H0 K cs a vs ns b = some (.tbl #[]) := if_pos h
theorem H0_script (h : a ∉ cs.map (·.2)) (hk : K.lookup a = none) : H0 K cs a vs ns a = some (.frz (scriptO vs) (.lst (ns.map V.int))) := (if_neg h).trans (if_pos ⟨rfl, hk⟩)
theorem H0_some {b : Addr} {u : HO} (h : H0 K cs a vs ns b = some u) : (b ∈ cs.map (·.2) ∧ u = .tbl #[]) ∨ (b = a ∧ K.lookup a = none ∧ u = .frz (scriptO vs) (.lst (ns.map V.int))) := by
  by_cases h1 : b ∈ cs.map (·.2)
  · rw [H0_tab h1] at h
    exact .inl ⟨h1, (Option.some.inj h).symm⟩
  · by_cases h2 : b = a ∧ K.lookup a = none
    · have e : H0 K cs a vs ns b = some (.frz (scriptO vs) (.lst (ns.map V.int))) := (if_neg h1).trans (if_pos h2)
      rw [e] at h
      exact .inr ⟨h2.1, h2.2, (Option.some.inj h).symm⟩
    · have e : H0 K cs a vs ns b = none := (if_neg h1).trans (if_neg h2)
      rw [e] at h
      cases h
theorem law_callG (KX : K.In s₁.heap) (hns : s₁.heap.Ns mainGlobals mg) (hb : s₁.heap.Ns builtinsNs mb) (hbb : ∀ x : Str, x ≠ "__name__" → mb x = bootBuiltins x) (hlim : s₁.heap.NoLimit) (hg : s₁.gens = #[])
    (hT : ∀ p ∈ cs, s₁.heap.get? p.2 = some emptyT) (nT : ∀ p ∈ cs, K.lookup p.2 = none) (C : ∀ p ∈ cs, PySem.W.CodeHd s₁.heap p.1 p.2)
    (hbm : ∃ (bm : Addr) (ob : Obj), mg "__builtins__" = some (.ref bm) ∧ bm ≠ builtinsNs ∧ s₁.heap.get? bm = some ob ∧ ob.cls = .type "module" ∧ ob.dict = some builtinsNs ∧ ob.data = .plain)
    (ha : s₁.heap.get? a = some (scriptO vs)) (hi : IntsAre vs ns) (hl : ns.length ≤ sizeLine) (hr : Room k callerA)
    (F : ∀ base : Heap, K.In base → base.Ns mainGlobals mg → (∀ p ∈ cs, GxR.TabB base mg p.1 p.2) → FnG P w K mg base CX k fa fd [x] sp) (hbind : ∀ (s : Shared) (u : Value), BindsTo s fd ⟨[u], []⟩ [(x, u)])
    (hsp : ∀ H : Hp, (∀ p ∈ cs, H p.2 = some (.tbl #[])) → SqL K H a (ns.map V.int) → sp [.ref a] H (fun v _ => v = .bl true) fun _ _ _ => False)
    (hCX : ∀ H e s', CX [] H s₁ (fun _ _ _ => False) e s' → False) :
    codeAny (model P w) callerA (.call (.ref fa) ⟨[.ref a], []⟩) (fun r s' => r = .ok (.ret (.bool true)) ∧ OldK s₁.heap s'.heap ∧ s'.os = s₁.os ∧ AllBare s'.gens) s₁ := by
  have tabO : ∀ b ∈ cs.map (·.2), s₁.heap.get? b = some emptyT := fun b hb => by
    obtain ⟨p, hp, rfl⟩ := List.mem_map.mp hb
    exact hT p hp
  have aT : a ∉ cs.map (·.2) := fun z => by
    have q := (tabO a z).symm.trans ha
    cases q
  have rv := vals_ints hi
  have hlen : vs.length = ns.length := hi.length
  have sq : SqL K (H0 K cs a vs ns) a (ns.map V.int) := by
    cases q : K.lookup a with
    | none => exact .inl (.inr ⟨_, H0_script aT q⟩)
    | some o =>
      have e := (KX a o q).symm.trans ha
      cases e
      refine .inr ⟨_, vs.toArray, _, q, rfl, rfl, rfl, ?_, by simpa using rv⟩
      rw [List.size_toArray, hlen]
      exact hl
  have ok : HOk P w (H0 K cs a vs ns) s₁.heap := fun b u e => by
    rcases H0_some e with ⟨h1, rfl⟩ | ⟨rfl, _, rfl⟩
    · exact tabO b h1
    · exact ⟨ha, by rw [List.length_map]; exact hl, vs, _, rv, ha⟩
  -- what is neither a list nor an empty table is not tracked
  have free : ∀ {b : Addr} {o : Obj}, s₁.heap.get? b = some o → (∀ q n, o.data ≠ .seq q n) → o.data ≠ .fields #[] → H0 K cs a vs ns b = none := fun {b o} e h1 h2 => by
    cases q : H0 K cs a vs ns b with
    | none => rfl
    | some u =>
      rcases H0_some q with ⟨z, _⟩ | ⟨z, _⟩
      · rw [tabO b z] at e
        cases e
        exact absurd rfl h2
      · rw [z, ha] at e
        cases e
        exact absurd rfl (h1 _ _)
  have dict : ∀ {b : Addr} {o : Obj} {es : Array DictEntry} {ep : Nat}, s₁.heap.get? b = some o → o.data = .dict es ep → H0 K cs a vs ns b = none := fun {b o es ep} e d => free e (fun q n z => by rw [d] at z; cases z) fun z => by rw [d] at z; cases z
  have nsK : ∀ {b : Addr} {m : Str → Option Value}, s₁.heap.Ns b m → (hidT s₁.heap (H0 K cs a vs ns)).Ns b m := fun {b m} ⟨o, es, ep, e, d, r⟩ => ⟨o, es, ep, hidT_get e (dict e d), d, r⟩
  have kin : K.In (hidT s₁.heap (H0 K cs a vs ns)) := fun b o e => hidT_get (KX b o e) (by
    cases q : H0 K cs a vs ns b with
    | none => rfl
    | some u =>
      rcases H0_some q with ⟨z, _⟩ | ⟨rfl, z, _⟩
      · obtain ⟨p, hp, rfl⟩ := List.mem_map.mp z
        rw [nT p hp] at e
        cases e
      · rw [z] at e
        cases e)
  have mod : L2.Mod K mg (hidT s₁.heap (H0 K cs a vs ns)) := by
    obtain ⟨mc, l1, l2⟩ := hlim
    exact ⟨kin, nsK hns, ⟨mb, nsK hb, hbb⟩, mc, nsK l1, l2⟩
  have tb : ∀ p ∈ cs, GxR.TabB (hidT s₁.heap (H0 K cs a vs ns)) mg p.1 p.2 := fun p hp => by
    obtain ⟨og, eg, pg, g1, g2, _⟩ := hns
    obtain ⟨bm, ob, b1, b2, b3, b4, b5, b6⟩ := hbm
    obtain ⟨oc, us, file, tf, fl, tg, inF, tx, tt, c1, c2, c3, c4, c5, c6, c7, c8, c9, c10⟩ := C p hp
    have keepB : H0 K cs a vs ns bm = none := free b3 (fun q n z => by rw [b6] at z; cases z) fun z => by rw [b6] at z; cases z
    have keepC : H0 K cs a vs ns p.1 = none := free c1 (fun q n z => by rw [c3] at z; cases z) fun z => by
      rw [c3] at z
      cases z
      simp at c4
    refine ⟨⟨oc, us, file, tf, fl, tg, inF, tx, tt, hidT_get c1 keepC, c2, c3, c4, c5, c6, c7, c8, c9, c10⟩, ⟨bm, ob, b1, b2, fun z => ?_, fun z => ?_, hidT_get b3 keepB, b4, b5, b6⟩, fun z => ?_⟩
    · rw [z, g1] at b3
      cases b3
      rw [g2] at b6
      cases b6
    · rw [z, hT p hp] at b3
      cases b3
      cases b6
    · rw [z, hT p hp] at g1
      cases g1
      cases g2
  have e0 : Env0 P w K mg (hidT s₁.heap (H0 K cs a vs ns)) callerA [] s₁ (H0 K cs a vs ns) :=
    ⟨rfl, mod, fun b o e => of_hidT e, Nat.le_of_eq (hidT_size _ _), trivial, fun b hb => absurd (show b ∈ ([] : List Addr) from hb) (by simp), ok, .of_eq hg⟩
  refine codeAny_mono ((F _ kin (nsK hns) tb).run callerA [] s₁ (H0 K cs a vs ns) ⟨[.ref a], []⟩ [.ref a] [.ref a] _ _ hr rfl e0 (hbind s₁ (.ref a)) (.cons rfl .nil) (hsp _ (fun p hp => H0_tab (List.mem_map.mpr ⟨p, hp, rfl⟩)) sq)) fun r s' h => ?_
  match r, h with
  | .error e, h => exact (hCX _ e s' h).elim
  | .ok (.ret u), ⟨v, H', os, bare, un, ok', rr, q⟩ =>
    obtain rfl : v = .bl true := q
    obtain rfl : u = Value.bool true := rr
    have same : ∀ b o, b ∉ cs.map (·.2) → s₁.heap.get? b = some o → s'.heap.get? b = some o := fun b o nb e => by
      cases q : H0 K cs a vs ns b with
      | none => exact un.keep b o e q (by intro z; exact absurd (show b ∈ ([] : List Addr) from z) (by simp)) (by simp)
      | some u =>
        rcases H0_some q with ⟨z, _⟩ | ⟨rfl, _, rfl⟩
        · exact absurd z nb
        · obtain ⟨e1, _⟩ := ok' _ _ (un.frzs _ _ _ q)
          rw [ha] at e
          cases e
          exact e1
    have grown : ∀ p ∈ cs, ∃ more : Array Value, s'.heap.get? p.2 = some { cls := .none, data := .fields more } := fun p hp => by
      obtain ⟨more, z⟩ := un.tbls p.2 #[] (H0_tab (List.mem_map.mpr ⟨p, hp, rfl⟩))
      exact ⟨_, ok' p.2 _ z⟩
    refine ⟨rfl, ⟨fun b o e => ?_, fun b o e => ?_⟩, os, bare⟩
    · by_cases hb : b ∈ cs.map (·.2)
      · obtain ⟨p, hp, rfl⟩ := List.mem_map.mp hb
        obtain ⟨more, hm⟩ := grown p hp
        rw [hT p hp] at e
        cases e
        exact .inr (.inl ⟨((C p hp).tab (hT p hp)).isCodeTable, rfl, #[], more, rfl, by rw [Array.empty_append]; exact hm⟩)
      · exact .inl (same b o hb e)
    · by_cases hb : b ∈ cs.map (·.2)
      · obtain ⟨p, hp, rfl⟩ := List.mem_map.mp hb
        exact (grown p hp).elim fun more hm => ⟨_, hm⟩
      · exact ⟨o, same b o hb e⟩
end
/-- what the head's heap h must tell of the law -/
def LawG (l : PySem.W.OpenLaw) (w : World) (K : PySem.W.Frag) (CX : CXT) (k n : Nat) (x : Str) (mg : Str → Option Value) (fa : Addr) (h : Heap) : Prop :=
  ∃ (fd : FuncData) (cs : List (Addr × Addr)) (sp : Sp), (∀ p ∈ cs, h.get? p.2 = some emptyT) ∧ (∀ p ∈ cs, K.lookup p.2 = none) ∧ (∀ p ∈ cs, PySem.W.CodeHd h p.1 p.2) ∧ (∀ (s : Shared) (u : Value), BindsTo s fd ⟨[u], []⟩ [(x, u)]) ∧
    (∀ (H : Hp) (a : Addr) (ns : List Int), ns.length ≤ n → (∀ z ∈ ns, Builtin.Int.intBits z ≤ 1048576) → (∀ p ∈ cs, H p.2 = some (.tbl #[])) → SqL K H a (ns.map V.int) → sp [.ref a] H (fun v _ => v = .bl true) fun _ _ _ => False) ∧
    ∀ base : Heap, K.In base → base.Ns mainGlobals mg → (∀ p ∈ cs, GxR.TabB base mg p.1 p.2) → FnG l.prog w K mg base CX k fa fd [x] sp
theorem walkG {l : PySem.W.OpenLaw} {n k : Nat} {q : Program} {loose : List Str} {XP : (Str → Option Value) → Heap → Prop} {YP : World → Heap → Prop} {d : DefRec} {CX : World → CXT} {x : Str}
    (hn : l.most = some n) (hn2 : n ≤ sizeLine) (hdf : d.params.defaults = []) (hr : Room k callerA)
    (F : ∀ (w : World) (mg : Str → Option Value) (fa : Addr) (h : Heap), YP w h → h.Ns mainGlobals mg → mg d.name = some (.ref fa) → ∃ K : PySem.W.Frag, K.In h ∧ LawG l w K (CX w) k n x mg fa h)
    (hCX : ∀ (w : World) (H : Hp) (s : Shared) (e : Value) (s' : Shared), CX w [] H s (fun _ _ _ => False) e s' → False) :
    PySem.W.WalkO q loose XP YP l.row.toRowW d [] (fun f vs => PySem.call f vs) := by
  refine Att.attach_callB hn hdf fun w s₀ s₁ mg mb fa o pm cd doc a vs ns G Y ho hd hcd hmg hobj hints hlen hbits hg => ?_
  obtain ⟨K, KX, fd, cs, sp, h1, h2, h3, h4, h5, h6⟩ := F w mg fa _ Y G.T.g hmg
  exact law_callG KX G.T.g G.T.b G.T.builtins G.T.nolimit hg h1 h2 h3 G.T.bmain hobj hints (Nat.le_trans hlen hn2) hr h6 h4 (fun H hH hS => h5 H a ns hlen hbits hH hS) fun H e s' => hCX w H s₁ e s'

/-! ### tables of code objects, in the abstract heap -/
def TabsOk (Ps : List Addr) (H : Hp) : Prop := ∀ P ∈ Ps, GxR.TabG H P
/-- what is no table is as it was -/
def Sm (H H' : Hp) : Prop := ∀ b o, H b = some o → (∀ ps, o ≠ .tbl ps) → H' b = some o
theorem Sm.refl (H : Hp) : Sm H H := fun _ _ e _ => e
theorem Sm.trans {H H1 H2 : Hp} (a : Sm H H1) (b : Sm H1 H2) : Sm H H2 := fun c o e n => b c o (a c o e n) n
theorem Sm.new {H : Hp} {p : Addr} {o : HO} (h : H p = none) : Sm H (upd H p o) := fun b u e _ => by
  rw [upd_ne (ne_of_none e h)]
  exact e
theorem Sm.over {H H1 : Hp} {p : Addr} {o : HO} (a : Sm H H1) (h : H p = none) : Sm H (upd H1 p o) := fun b u e n => by
  rw [upd_ne (ne_of_none e h)]
  exact a b u e n
theorem Sm.lst {H H1 : Hp} {p : Addr} {xs : List V} (a : Sm H H1) (h : H p = some (.lst xs)) : H1 p = some (.lst xs) := a p _ h fun _ z => by cases z
theorem Sm.tup {H H1 : Hp} {p : Addr} {xs : List V} (a : Sm H H1) (h : H p = some (.tup xs)) : H1 p = some (.tup xs) := a p _ h fun _ z => by cases z
theorem Sm.seq {K : PySem.W.Frag} {H H1 : Hp} {p : Addr} {xs : List V} (a : Sm H H1) (h : SqL K H p xs) : SqL K H1 p xs := by
  rcases h with (h | ⟨o, h⟩) | h
  · exact .inl (.inl (a.lst h))
  · exact .inl (.inr ⟨o, a _ _ h fun _ z => by cases z⟩)
  · exact .inr h
theorem TabsOk.new {Ps : List Addr} {H : Hp} {p : Addr} {o : HO} (t : TabsOk Ps H) (h : H p = none) : TabsOk Ps (upd H p o) := fun P hP => by
  obtain ⟨ps, e, k⟩ := t P hP
  exact ⟨ps, by rw [upd_ne (ne_of_none e h)]; exact e, k⟩
theorem TabsOk.ne {Ps : List Addr} {H : Hp} {P p : Addr} {u : HO} (t : TabsOk Ps H) (hP : P ∈ Ps) (e : H p = some u) (n : ∀ ps, u ≠ .tbl ps) : p ≠ P := fun z => by
  obtain ⟨ps, e2, _⟩ := t P hP
  rw [z, e2] at e
  exact n ps (Option.some.inj e).symm
theorem TabsOk.put {Ps : List Addr} {H : Hp} {p : Addr} {o u : HO} (t : TabsOk Ps H) (e : H p = some u) (n : ∀ ps, u ≠ .tbl ps) : TabsOk Ps (upd H p o) := fun P hP => by
  have np := t.ne hP e n
  obtain ⟨ps, e2, k⟩ := t P hP
  exact ⟨ps, by rw [upd_ne (Ne.symm np)]; exact e2, k⟩
theorem TabsOk.tabbed {Ps : List Addr} {H H' : Hp} {P : Addr} (t : TabsOk Ps H) (h : GxR.Tabbed P H H') : TabsOk Ps H' := fun R hR => by
  by_cases e : R = P
  · rw [e]
    exact h.1
  · obtain ⟨ps, e2, k⟩ := t R hR
    exact ⟨ps, by rw [h.2 R e]; exact e2, k⟩
theorem sm_tabbed {H H' : Hp} {P : Addr} (t : GxR.TabG H P) (h : GxR.Tabbed P H H') : Sm H H' := fun b o e n => by
  by_cases z : b = P
  · obtain ⟨ps, e2, _⟩ := t
    rw [z, e2] at e
    exact absurd (Option.some.inj e).symm (n ps)
  · rw [h.2 b z]
    exact e
/-! ### repr of data -/
/-- repr(x), x a list or a tuple of data -/
def rReprD (K : PySem.W.Frag) : List V → Hp → VK → Prop := fun xs H Q => ∃ (a : Addr) (d : PyData), xs = [.ref a] ∧ Dp K H (.ref a) d ∧ d.showable = true ∧ d.hasDict = false ∧ d.depth ≤ 60 ∧ d.shown.length ≤ sizeLine ∧ Q (.str d.shown) H
theorem call_reprD {X : Cx} {k : Nat} (hr : Room k X.A) (hg : X.A.guards = some []) : CallR X (.builtin "repr") (rReprD X.K) := by
  intro pins s σ H xs us Q I r h
  obtain ⟨a, d, rfl, hd, hs, hn, hp, hl, q⟩ := h
  match us, r with
  | [_], .cons r1 .nil =>
    obtain ⟨as, rd⟩ := Dp.reads I d _ _ hd r1
    cases r1
    have := hr.un
    exact repr_of_reads' rd hs (fun z => by rw [hn] at z; cases z) hg (by omega) (fun _ _ e => e) (fun h' u tk kp => ⟨.str d.shown, H, I.kept kp, ⟨u, rfl⟩, q⟩) hl
/-- repr of a truth -/
def rReprB : List V → Hp → VK → Prop := fun xs H Q => ∃ b, xs = [.bl b] ∧ Q (.str (if b then "True" else "False")) H
end HM
set_option maxHeartbeats 4000000
namespace XT
open PySem PySem.Spec PyProof.Rows L2 HM
open L2N (Zn)
/-! ### try with clauses of both forms, with and without a name -/
/-- the exception at a, caught: noted in our frame, out of what is tracked -/
structure Grd (X : Cx) (pins : List (Addr × Obj)) (a : Addr) (cls : Value) (d : Option Addr) (σ : L2.St) (H : Hp) (B : Heap) (sI s : Shared) : Prop where
  inv : Inv X pins σ H sI
  nb : ∀ b o, sI.heap.get? b = some o → b ∉ frs X.stack → B.get? b = some o
  fl : HandSPX.FlyingZ B (X.env :: X.outer) a (Zn cls d) s.heap
  up : sI.heap.UpToSlots s.heap
  na : H a = none
  os : s.os = sI.os
  ag : AllBare s.gens
section
variable {X : Cx} {pins : List (Addr × Obj)} {a : Addr} {cls : Value} {d : Option Addr} {σ : L2.St} {H : Hp} {B : Heap} {sI s : Shared}
theorem Grd.now (g : Grd X pins a cls d σ H B sI s) : Inv X pins σ H s := g.inv.landed g.nb g.fl.1 g.up g.os g.ag
theorem Grd.on {h : Heap} (g : Grd X pins a cls d σ H B sI s) (f : HandSPX.FlyingZ B (X.env :: X.outer) a (Zn cls d) h) (u : s.heap.UpToSlots h) : Grd X pins a cls d σ H B sI { s with heap := h } :=
  ⟨g.inv, g.nb, f, g.up.trans u, g.na, g.os, g.ag⟩
/-- its object, and that it is no frame of ours -/
theorem Grd.ob (g : Grd X pins a cls d σ H B sI s) (hf : X.env.frame = some X.env.locals) : ∃ (oe : Obj) (vs : Array Value), s.heap.get? a = some oe ∧ Zn cls d oe ∧ oe.data = .fields vs ∧ a ≠ X.env.locals ∧ a ∉ X.fs := by
  obtain ⟨oe, vs, he, hz, hd⟩ := g.fl.there
  have out : a ∉ frs (X.env :: X.outer) := fun hm => by
    obtain ⟨_, o2, e2, no⟩ := g.fl.2.2.1.mem hm
    rw [he] at e2
    cases e2
    exact no _ hd
  refine ⟨oe, vs, he, hz, hd, fun z => out ?_, fun hm => out ?_⟩
  · exact List.mem_filterMap.mpr ⟨X.env, .head _, by rw [hf, z]⟩
  · obtain ⟨e, he2, q⟩ := List.mem_filterMap.mp hm
    exact List.mem_filterMap.mpr ⟨e, .tail _ he2, q⟩
theorem grd_of {W : WX} {xe E₁ : Value → Shared → Prop} {u : Value} {s' : Shared} {Q : Unit → Shared → Prop} (ok : X.Ok) (hs : X.stack = X.env :: X.outer) (hf : X.env.frame = some X.env.locals) (x : L2N.XE (X.tr (X.pn ++ pins) xe) W u s')
    (hq : ∀ a cls d σ H B sI s3, u = .ref a → Grd X pins a cls d σ H B sI s3 → W cls d σ H → Q () s3) :
    wpAny (model X.prog X.w) X.A (noteFrame u X.env) (fun _ s₂ => wpAny (model X.prog X.w) X.A (setFlight u none) Q E₁ s₂) E₁ s' := by
  obtain ⟨a, B, sI, p2, σ, H, cls, d, rfl, J, nb, up, sky, na, os, ag, w⟩ := x
  have sk : Sky B (X.env :: X.outer) a (Zn cls d) X.env.locals s'.heap := by
    rw [← hs]
    exact sky
  exact L2N.Sky.land Zn.steady (by rw [ok.frames, hs]) hf sk fun h fl up2 => hq a cls d σ H B sI _ rfl ⟨J.ofTry ok, nb, fl, up.trans up2, na, os, ag⟩ w
/-- no clause took it: it goes on -/
theorem clause_none {Wout : WX} {D : Ends} (g : Grd X pins a cls d σ H B sI s) (hs : X.stack = X.env :: X.outer) (hf : X.env.frame = some X.env.locals) (tk : L2N.Takes X Wout) (w : Wout cls d σ H) :
    wpAny (model X.prog X.w) X.A (handleBy (.ref a) X.env []) (SP X pins D) X.xe s := by
  refine wpAny_handleBy_nil ?_
  obtain ⟨_, _, _, oe, vs, T, oT, ts, he, hz, hd, h1, _⟩ := id g.fl
  unfold PySem.passOn
  refine wpAny_bind (wpAny_field he hd h1 ?_)
  rw [if_neg (show ¬ (Value.ref T == Value.none) = true by simp)]
  have goes : wpAny (model X.prog X.w) X.A (setFlight (.ref a) X.env.frame) (fun _ s4 => wpAny (model X.prog X.w) X.A (throw (.ref a) : Sem Flow) (SP X pins D) X.xe s4) X.xe s := by
    rw [hf]
    refine HandSPX.setFlight_upZ g.fl fun h4 held up4 => wpAny_throw (tk _ _ ⟨a, B, sI, pins, σ, H, cls, d, rfl, g.inv, g.nb, g.up.trans up4, .inr (.inr ?_), g.na, g.os, g.ag, w⟩)
    rw [hs]
    exact held
  first | exact wpAny_bind (wpAny_pure (wpAny_bind goes)) | exact wpAny_bind goes
variable {x : Str} {c : Value} {b : Bool} {b₀ : Stmt} {suite : List Stmt} {hds : List ExceptHandler} {np pos' : Pos} {Q : Flow → Shared → Prop} {E : Value → Shared → Prop} {nm : Option Str}
/-- the clause's class is asked -/
theorem clause_ask (g : Grd X pins a cls d σ H B sI s) (hf : X.env.frame = some X.env.locals) (hc : Names X x c) (hb : PySem.W.exmOne X.K cls c = some b) {Q2 : Bool → Shared → Prop} {E2 E3 : Value → Shared → Prop} (h : Q2 b s) :
    wpAny (model X.prog X.w) (X.A.mark (some (.ref a))) (eval (.Name x np) X.env) (fun v s₁ => wpAny (model X.prog X.w) (X.A.mark (some (.ref a))) (excMatches (.ref a) v) Q2 E2 s₁) E3 s := by
  obtain ⟨oe, vs, he, hz, hd, n1, n2⟩ := g.ob hf
  have S := g.now.suite he hd g.na n1 n2
  have L1 : PySem.W.Looks (model X.prog X.w) s.heap (typeOf (.ref a)) cls := fun A Q E s k q => wpAny_typeOf_ref (k _ _ he) (by rw [hz.1]; exact q)
  have L2' := (PySem.W.exm_one (M := model X.prog X.w) g.now.kIn L1 hb).here (A := X.A.mark (some (.ref a))) (E := E2) h
  obtain ⟨hg, hdb, hm | ⟨hm, hv, hn⟩⟩ := hc
  · exact ld_glob (X := X.suite a ((a, oe) :: (X.pn ++ pins))) S hg hm L2' hdb
  · exact ld_blt (X := X.suite a ((a, oe) :: (X.pn ++ pins))) S hg hm hv L2' hn hdb
end
/-- what is wished of an exception of the body, clause by clause: (class, slot of the name, the suite's reading) -/
abbrev Cls3 := Value × Option Nat × (Addr → Value → Option Addr → TS)
/-- behind a suite with a name the name is gone -/
def unset (i : Nat) (D : Ends) : Ends := { nx := fun σ H => D.nx (σ.set i none) H, rt := D.rt, bk := fun σ H => D.bk (σ.set i none) H, ct := fun σ H => D.ct (σ.set i none) H }
def wCl (K : PySem.W.Frag) (Wout : WX) (D : Ends) : List Cls3 → WX
  | [] => Wout
  | (c, o, ts) :: r => fun cls d σ H => ∃ b, PySem.W.exmOne K cls c = some b ∧ (b = false → wCl K Wout D r cls d σ H) ∧ (b = true → ∀ a, H a = none → match o with
    | none => ts a cls d D σ H
    | some i => ts a cls d (unset i D) (σ.set i (some (.ref a))) H)
inductive ClOk (X : Cx) : List ExceptHandler → List Cls3 → Prop
  | nil : ClOk X [] []
  | plain {x : Str} {c : Value} {ts : Addr → Value → Option Addr → TS} {b₀ : Stmt} {suite : List Stmt} {np pos' : Pos} {hds : List ExceptHandler} {l : List Cls3} (hc : Names X x c)
      (hsu : ∀ (a : Addr) (oe : Obj) (cls : Value) (d : Option Addr) (pn : List (Addr × Obj)), Zn cls d oe → (∃ vs, oe.data = .fields vs) → PSs (X.suite a ((a, oe) :: pn)) (b₀ :: suite) (ts a cls d)) (r : ClOk X hds l) :
      ClOk X (.ExceptHandler (some (.Name x np)) none (b₀ :: suite) pos' :: hds) ((c, none, ts) :: l)
  | named {x n : Str} {i : Nat} {c : Value} {ts : Addr → Value → Option Addr → TS} {b₀ : Stmt} {suite : List Stmt} {np pos' : Pos} {hds : List ExceptHandler} {l : List Cls3} (hc : Names X x c) (hi : X.N[i]? = some n) (hln : X.env.kindOf n = some .local)
      (hsu : ∀ (a : Addr) (oe : Obj) (cls : Value) (d : Option Addr) (pn : List (Addr × Obj)), Zn cls d oe → (∃ vs, oe.data = .fields vs) → PSs (X.suite a ((a, oe) :: pn)) (b₀ :: suite) (ts a cls d)) (r : ClOk X hds l) :
      ClOk X (.ExceptHandler (some (.Name x np)) (some n) (b₀ :: suite) pos' :: hds) ((c, some i, ts) :: l)
section
variable {X : Cx} {pins : List (Addr × Obj)}
theorem clauses {Wout : WX} {D : Ends} {a : Addr} {cls : Value} {d : Option Addr} {σ : L2.St} {H : Hp} {B : Heap} {sI s : Shared} {hds : List ExceptHandler} {l : List Cls3} (ok : X.Ok) (hN : X.N.Nodup) (g : Grd X pins a cls d σ H B sI s) (hs : X.stack = X.env :: X.outer) (hf : X.env.frame = some X.env.locals)
    (tk : L2N.Takes X Wout) (hk : ClOk X hds l) : wCl X.K Wout D l cls d σ H → wpAny (model X.prog X.w) X.A (handleBy (.ref a) X.env hds) (SP X pins D) X.xe s := by
  induction hk with
  | nil => exact fun w => clause_none g hs hf tk w
  | plain hc hsu r ih =>
    rintro ⟨b, hb, hno, hyes⟩
    refine wpAny_handleBy_cons (codeAny_handlers_test (clause_ask g hf hc hb ?_)) (by intro z; cases z)
    cases b with
    | false => exact ih (hno rfl)
    | true =>
      refine codeAny_handlers_suite (HandSPX.lands_againZ g.fl fun h4 fl4 up4 => ?_)
      have g4 := g.on fl4 up4
      obtain ⟨oe, vs, he, hz, hd, n1, n2⟩ := g4.ob hf
      refine wpAny_mono ((hsu a oe cls d (X.pn ++ pins) hz ⟨_, hd⟩).run [] _ _ H _ (g4.now.suite he hd g.na n1 n2) (hyes rfl a g.na)) (fun f s6 q => ?_) fun _ _ z => False.elim z
      match f, q with
      | .next, ⟨_, _, S, q⟩ => exact ⟨_, _, S.unsuite ok, q⟩
      | .brk, ⟨_, _, S, q⟩ => exact ⟨_, _, S.unsuite ok, q⟩
      | .cont, ⟨_, _, S, q⟩ => exact ⟨_, _, S.unsuite ok, q⟩
      | .ret _, ⟨_, _, _, S, r6, q⟩ => exact ⟨_, _, _, S.unsuite ok, r6, q⟩
  | @named x n i c ts b₀ suite np pos' hds2 l2 hc hi hln hsu r ih =>
    rintro ⟨b, hb, hno, hyes⟩
    refine wpAny_handleBy_cons (codeAny_handlers_test (clause_ask g hf hc hb ?_)) (by intro z; cases z)
    cases b with
    | false => exact ih (hno rfl)
    | true =>
      refine codeAny_handlers_suite_as (HandSPX.lands_againZ g.fl fun h4 fl4 up4 => ?_)
      have g4 := g.on fl4 up4
      obtain ⟨oe, vs, he, hz, hd, n1, n2⟩ := g4.ob hf
      refine store_ok (X := X.suite a ((a, oe) :: (X.pn ++ pins))) (v := .ref a) (g4.now.suite he hd g.na n1 n2) hN hi (.inl hln) rfl (fun s5 S5 => ?_) (.inr hln)
      refine wpAny_mono ((hsu a oe cls d (X.pn ++ pins) hz ⟨_, hd⟩).run [] s5 _ H _ S5 (hyes rfl a g.na)) (fun f s6 q => ?_) fun _ _ z => False.elim z
      have goes : ∀ {σ6 : L2.St} {H6 : Hp} {P : Shared → Prop}, Inv (X.suite a ((a, oe) :: (X.pn ++ pins))) [] σ6 H6 s6 → (∀ s7, Inv X pins (σ6.set i none) H6 s7 → P s7) → wpAny (model X.prog X.w) X.A (do bindName X.env n .none; unbindBehindTheSuite X.env n pos') (fun _ s7 => P s7) X.xe s6 :=
        fun S6 hq => gone_ok (S6.unsuite ok) hN hi hln hq
      match f, q with
      | .next, ⟨_, _, S, q⟩ => exact goes S fun s7 J => ⟨_, _, J, q⟩
      | .brk, ⟨_, _, S, q⟩ => exact goes S fun s7 J => ⟨_, _, J, q⟩
      | .cont, ⟨_, _, S, q⟩ => exact goes S fun s7 J => ⟨_, _, J, q⟩
      | .ret _, ⟨_, _, _, S, r6, q⟩ => exact goes S fun s7 J => ⟨_, _, _, J, r6, q⟩
variable {body : List Stmt} {h₀ : ExceptHandler} {hds : List ExceptHandler} {l : List Cls3} {pos : Pos} {tb : WX → TS} {Wout : WX}
/-- THE RULE -/
theorem ps_tryC (hs : X.stack = X.env :: X.outer) (hf : X.env.frame = some X.env.locals) (hN : X.N.Nodup) (tk : L2N.Takes X Wout)
    (hb : ∀ (W : WX) (pn : List (Addr × Obj)) (xe : Value → Shared → Prop), (∀ q ∈ X.pn, q ∈ pn) → L2N.Takes (X.tr pn xe) W → PassesOwn (model X.prog X.w) X.A X.env xe → PSs (X.tr pn xe) body (tb W))
    (hh : ClOk X (h₀ :: hds) l) : PS X (.Try body (h₀ :: hds) [] [] pos) (fun D σ H => tb (wCl X.K Wout D l) D σ H) := by
  refine ⟨fun pins s σ H D I h => wpAny_Try_except ?_⟩
  have ok := I.ok
  refine wpAny_mono ((hb (wCl X.K Wout D l) (X.pn ++ pins) _ (fun q hq => List.mem_append_left _ hq) (fun u s2 xx => ?_) PassesOwn.looking).run [] s σ H D (I.toTry _) h) (fun f s1 q => ?_) fun e s1 he => he
  · exact grd_of ok hs hf xx fun a cls d σ2 H2 B sI s3 e g w => by
      subst e
      exact clauses ok hN g hs hf tk hh w
  · match f, q with
    | .next, ⟨_, _, J, q⟩ => exact wpAny_execs_nil ⟨_, _, J.ofTry ok, q⟩
    | .brk, ⟨_, _, J, q⟩ => exact ⟨_, _, J.ofTry ok, q⟩
    | .cont, ⟨_, _, J, q⟩ => exact ⟨_, _, J.ofTry ok, q⟩
    | .ret _, ⟨_, _, _, J, r, q⟩ => exact ⟨_, _, _, J.ofTry ok, r, q⟩
end
theorem takes_no {X : Cx} : L2N.Takes X (fun _ _ _ _ => False) := fun _ _ ⟨_, _, _, _, _, _, _, _, _, _, _, _, _, _, _, _, w⟩ => w.elim
end XT
set_option maxHeartbeats 4000000
namespace XS
open PySem PySem.Spec PyProof.Rows L2 HM NdefX
/-- what the class at C says, so that super().__init__ in it is ValueError's -/
structure SupC (K : PySem.W.Frag) (C : Addr) : Prop where
  oex : OexC K C
  opq : PySem.W.nsIn K cStatics "thirdparty.any" = some none
  sup : PySem.W.ks_superIn K C C "__init__" = some (some (.builtin "ValueError.__init__"))
  ve : PySem.W.subIn K (.ref C) (.type "ValueError") = some true
  slf : PySem.W.subIn K (.ref C) (.ref C) = some true
/-- the written __init__ of the class at C: a function with the one captured cell -/
structure SupF (K : PySem.W.Frag) (prog : Program) (C f : Addr) (F : NF) (fd : FuncData) : Prop where
  ex : ∃ (oc : Value) (od : Option Addr) (osl : Array (Option Value)) (doc pm ctv : Value), fd = F.fd doc pm ctv ∧ K.lookup f = some ⟨oc, od, .func fd, osl⟩
  cd : PySem.W.codeIn K (.ref F.c) F.qual = true
  cl : ∃ (c : Addr) (ob : Obj), F.cl = [((("__class__" : Str)), c)] ∧ K.lookup c = some ob ∧ ob.data = .cell (some (.ref C))
  fil : ∃ (ob : Obj) (vs : Array Value) (file : Str) (tf : Tok), K.lookup F.c = some ob ∧ ob.data = .fields vs ∧ vs[2]? = some (.str file tf) ∧ ((prog.main.file : Str) == file) = true
  kp : PySem.W.keepIn K (.ref f) = true
section
variable {X : Cx} {C a u : Addr} {pins : List (Addr × Obj)} {σ : L2.St} {H : Hp} {A : Around} {E : Value → Shared → Prop} {s : Shared}
/-- the bound ValueError.__init__ called: the exception's args are laid anew -/
theorem wrap_ok {us : List Value} {Q : Value → Shared → Prop} (T : OexC X.K C) (I : Inv X pins σ H s) (e : H a = some (exo a C none)) (hu : s.heap.get? u = some (PySem.W.kxs_mw "ValueError.__init__" a)) (hl : us.length ≤ sizeLine) (h : ∀ s', Inv X pins σ H s' → Q .none s') :
    wpAny (model X.prog X.w) A (call (.ref u) us) Q E s := by
  obtain ⟨nm, q, N, bs, bm, sn, sub, ab, col, dd, k0, k1, k2, k3, k5, hC, hbm⟩ := T.cls
  obtain ⟨t1, ho⟩ := exo_at I.hok e
  obtain ⟨hp, g, d, t, os⟩ := s
  refine wpAny_call (codeAny_of_tree ?_)
  show wpAny _ A.in1 (callAny (.ref u) ⟨us, []⟩) _ _ _
  simp only [callAny]
  refine wpAny_bind (wpAny_load hu ?_)
  simp only [PySem.W.kxs_mw, show (Value.type "method-wrapper" == Value.type "method" || Value.type "method-wrapper" == Value.type "builtin_function_or_method" || Value.type "method-wrapper" == Value.type "method-wrapper") = true by decide, if_true]
  refine PySem.W.KFB.if_so (by decide) ?_
  refine wpAny_bind (PySem.W.check_bound_init F.excBase_ValueError.toExcCallFacts (I.kIn _ _ hC) ho rfl ?_)
  refine wpAny_bind (wpAny_pure (wpAny_pure ?_))
  refine ⟨plainId_quiet F.excBase_ValueError.init.plain _, codeAny_builtin F.excBase_ValueError.initEntry ?_⟩
  refine PySem.W.exc_init_tree (cls := .ref C) (t0 := t1) (dv := none) (c2 := .none) (c3 := .none) (b4 := .bool false) ho hl fun h' k e' _ => ?_
  have J := I.write (t' := t) (x := a) (e := a) (o := exo a C none) (by rw [e]; exact True.intro) (.inl rfl) k ⟨_, e'⟩ (exo_ok e')
  have eu : upd H a (exo a C none) = H := by
    funext b
    by_cases hb : b = a
    · rw [hb, upd_same, e]
    · rw [upd_ne hb]
  rw [eu] at J
  exact h _ J
end
section
variable {P : Program} {w : World} {K : PySem.W.Frag} {mg : Str → Option Value} {base : Heap} {CX : CXT} {k : Nat} {C f : Addr} {F : NF} {fd : FuncData} {ps px : List Str} {sp : Sp} {N : List Str}
/-- THE RULE for a written __init__ that begins with super().__init__(e) -/
theorem okSup {e : Expr} {rest : List Stmt} {p0 p1 p2 p3 p4 : Pos} {ar : Arg} (T : SupC K C) (FF : SupF K P C f F fd) (hps : ps = ("self" : Str) :: px) (S : NScope N ps ["__class__"] F.scope)
    (hbd : F.body = .Expr (.Call (.Attribute (.Call (.Name "super" p0) [] [] p1) "__init__" p2) [e] [] p3) p4 :: rest) (hpar : (F.params.posonlyargs ++ F.params.args).head? = some ar) (har : ar.arg = ("self" : Str))
    (hsu : F.scope.names.lookup ("super" : Str) = some .globalImplicit) (msu : mg "super" = none) (htop : (P.main.scope.names.lookup ("super" : Str)).isSome = false) (len : ∀ vs H Q E, sp vs H Q E → vs.length = ps.length)
    (hcall : ∀ L : Addr, ∃ pl : Sem Bool, eval (.Call (.Attribute (.Call (.Name "super" p0) [] [] p1) "__init__" p2) [e] [] p3) (envF F f L) = (do
      let ov ← attributeBase (.Call (.Name "super" p0) [] [] p1) "__init__" (envF F f L) (eval (.Call (.Name "super" p0) [] [] p1) (envF F f L))
      standAt p2.atName
      let (g, fst) ← holding [ov] (getMethod ov "__init__" pl)
      callWith p3 g fst (backTo p3 (starEach [e] (envF F f L))) []))
    (he : ∀ env : Env, starEach [e] env = (false, eval e env) :: starEach [] env) (hi : ∀ L : Addr, interactive (envF F f L) = false) (hsw : ∀ L : Addr, swapsWith (.Call (.Attribute (.Call (.Name "super" p0) [] [] p1) "__init__" p2) [e] [] p3) none p4.line (envF F f L) = pure false)
    (hbody : ∀ (A : Around) (outer : List Env) (s : Shared) (H : Hp) (vs : List V) (Q : VK) (E : XK), Room k (A.deeper (envF F f s.heap.objs.size)) → (A.deeper (envF F f s.heap.objs.size)).guards = some [] → sp vs H Q E →
      ∃ (a : Addr) (vr : List V) (te : TE) (t : TS), vs = .ref a :: vr ∧ PE (ncx CX P w K mg base N F f A outer s H E) e te ∧ PSs (ncx CX P w K mg base N F f A outer s H E) rest t ∧ H a = some (exo a C none) ∧
        te (startF N vs [none]) H fun _ H1 => H1 a = some (exo a C none) ∧ t { nx := fun _ H' => Q .non H', rt := Q } (startF N vs [none]) H1) :
    FnG P w K mg base CX (k + 1) f fd ps sp := by
  obtain ⟨oc, od, osl, doc, pm, ctv, rfl, lk⟩ := FF.ex
  obtain ⟨cc, ob, hcl, lcc, dcc⟩ := FF.cl
  obtain ⟨oco, vs2, file, tf, lco, dco, v2, hfile⟩ := FF.fil
  refine ⟨len, fun A outer s H args us vs Q E hr hgd e0 hb r hsp => ?_⟩
  have hK : K.In s.heap := e0.mod.kin.keeps fun b o e => (e0.bs b o e).1
  have hL : s.heap.NoLimit := e0.mod.nolimit.keeps fun b o e => (e0.bs b o e).1
  obtain ⟨a, vr, te, t, hvs, hpe, hpt, ha, hte⟩ := hbody A outer s H vs Q E (hr.deeper _) (by first | exact hgd | (rw [← hgd]; rfl)) hsp
  have Ce : CellsAt F.cl ["__class__"] [none] s.heap H := by
    refine ⟨rfl, fun y c e => ?_, fun x y c e1 e2 => ?_, fun i y hy => ?_⟩
    · rw [hcl] at e
      have e2 := PySem.mem_of_lookup e
      rw [List.mem_singleton] at e2
      cases e2
      refine ⟨(e0.bs _ _ (e0.mod.kin _ _ lcc)).2, _, ob, hK _ _ lcc, dcc⟩
    · rw [hcl] at e1 e2
      have e3 := PySem.mem_of_lookup e1
      have e4 := PySem.mem_of_lookup e2
      rw [List.mem_singleton] at e3 e4
      cases e3
      cases e4
      rfl
    · have e5 := List.mem_of_getElem? hy
      rw [List.mem_singleton] at e5
      subst e5
      refine ⟨cc, by rw [hcl]; rfl, fun v hv => ?_⟩
      have hi0 : i = 0 := by
        have := (List.getElem?_eq_some_iff.mp hy).1
        simpa using this
      subst hi0
      cases hv
  refine codeAny_call_function hr.depth (hK _ _ lk) rfl S.co S.gen rfl (PySem.W.codeRec_of hK FF.cd) (hb _ _ _ _ ?_)
  refine wpAny_newFunctionEnv S.nocell (fun ⟨n, _⟩ hy => S.par n (List.of_mem_zip hy).1) (fun h₁ hns hsb => ⟨hL.fresh _ hsb, ?_⟩) S.kind
  show codeAny _ _ (.func F.body (envF F f s.heap.objs.size)) _ _
  have kp : ∀ b o, s.heap.get? b = some o → h₁.get? b = some o := fun b o e => hsb.extBut b o (Nat.ne_of_lt (Heap.lt_size e)) (Heap.get?_push_of_some _ e)
  have I : Inv (ncx CX P w K mg base N F f A outer s H E) [] (startF N vs [none]) H { s with heap := h₁, toks := s.toks + (ps.zip us).length } := inv_startN S hr.hd e0 (len _ _ _ _ hsp) r Ce hns kp
  refine ks_codeAny_funcAt ?_
  rw [hbd]
  obtain ⟨pl, hcl2⟩ := hcall s.heap.objs.size
  obtain ⟨nm, q, N', bs, bm, sn, sub, ab, col, dd, k0, k1, k2, k3, k5, hC, hbm⟩ := T.oex.cls
  have nC : a ≠ C := fun z => by
    have e1 := (e0.bs _ _ (e0.mod.kin _ _ hC)).2
    rw [← z, ha] at e1
    cases e1
  obtain ⟨ur, rfl⟩ : ∃ ur, us = .ref a :: ur := by
    rw [hvs] at r
    cases r with
    | cons r1 r2 =>
      cases r1
      exact ⟨_, rfl⟩
  obtain ⟨mb, hb1, hb2⟩ := I.mod.blt
  have hx0 : h₁.get? a = some _ := (exo_at I.hok ha).choose_spec
  have hD0 : h₁.get? C = some _ := kp _ _ (hK _ _ hC)
  have hK1 : K.In h₁ := fun b o z => kp _ _ (hK b o z)
  refine ks_wpAt_execs_cons (ks_wpAt_Expr_any (ks_wpAt_MethodCall (pl := pl) ?_ hcl2) (hi _) (hsw _))
  have hsf : h₁.get? f = some _ := kp _ _ (hK _ _ lk)
  refine ks_wpAt_super_base hsu (S.frk "__class__" (by simp)) (by decide) rfl hsf rfl hpar rfl (kp _ _ (hK _ _ lco)) dco v2 hfile htop ?_
  rw [loadName_read (env := envF F f s.heap.objs.size) S.kind hsu]
  refine Calls.loadGlobal_builtin (I.mod.glob.keeps I.bk) msu (hb1.keeps I.bk) ((hb2 "super" (by decide)).trans (show bootBuiltins "super" = some (.type "super") by decide +kernel)) ⟨rfl, ?_⟩
  refine wpAny_loadName_free S.kind (S.frk "__class__" (by simp)) (c := cc) (by show F.cl.lookup _ = _; rw [hcl]; rfl) ⟨ob, kp _ _ (hK _ _ lcc), dcc⟩ ?_
  rw [har]
  have ndp : ps.Nodup := by
    have z := S.nd.sublist (List.take_sublist (ps.length + 1) N)
    have z2 : N.take (ps.length + 1) = ps ++ [("__class__" : Str)] := S.pre
    rw [z2] at z
    exact (List.nodup_append.mp z).1
  refine wpAny_loadName_local S.kind (S.par "self" (by rw [hps]; exact List.mem_cons_self)) hns (v := .ref a) (zip_look (i := 0) ndp (by rw [hps]; rfl) rfl) ?_
  refine ks_wpAny_isType_cls hD0 rfl ⟨rfl, ?_⟩
  refine ks_wpAny_call_super hD0 rfl hx0 rfl (fun c z => by cases z) (PySem.W.looks_subIn hK1 T.slf) fun h2 hso kk2 => ?_
  have hK2 : K.In h2 := fun b o z => kk2 _ _ (hK1 b o z)
  obtain ⟨cdC, hcd⟩ : ∃ cd, PySem.W.clsIn K C = some cd := ⟨_, by
    unfold PySem.W.clsIn
    rw [hC]⟩
  have hm := T.sup
  unfold PySem.W.ks_superIn at hm
  rw [hcd] at hm
  have inst : PySem.W.InstAt h2 a _ C none := ⟨kk2 _ _ hx0, rfl, rfl, trivial⟩
  refine PySem.W.kxs_getMethod PySem.W.kxs_ValueError hso (PySem.W.looks_opaque hK2 T.opq) (l₀ := _) (fun A Q E s k q => wpAny_bind ((PySem.W.looks_clsIn hK2 hcd) A _ E s k (wpAny_pure q))) rfl hK2 hm (inst.type.andThen (PySem.W.looks_subIn hK2 T.ve)) nC (by decide) ?_
  have I2 := (I.kept (t' := s.toks + (ps.zip (Value.ref a :: ur)).length) kk2).kept (t' := s.toks + (ps.zip (Value.ref a :: ur)).length + 1) (h' := h2.push (PySem.W.kxs_mw "ValueError.__init__" a)) fun b o z => Heap.get?_push_of_some _ z
  have hu : (h2.push (PySem.W.kxs_mw "ValueError.__init__" a)).get? h2.objs.size = some (PySem.W.kxs_mw "ValueError.__init__" a) := Heap.get?_push_at rfl rfl
  have hl1 : h₁.objs.size ≤ h2.objs.size := Nat.le_of_lt (Heap.lt_size hso)
  have I3 : Inv (ncx CX P w K mg base N F f A outer s H E) [(h2.objs.size, PySem.W.kxs_mw "ValueError.__init__" a)] (startF N vs [none]) H ⟨h2.push (PySem.W.kxs_mw "ValueError.__init__" a), s.gens, s.drawn, s.toks + (ps.zip (Value.ref a :: ur)).length + 1, s.os⟩ := by
    refine I2.pins_of fun p hp => ?_
    rw [List.mem_singleton] at hp
    subst hp
    refine ⟨hu, ?_, ?_, ?_, fun v z => by cases z⟩
    · exact (I.kept (t' := 0) kk2).hok.fresh (Nat.le_refl _)
    · exact Nat.ne_of_gt (I.kept (t' := 0) kk2).lt
    · exact (I.kept (t' := 0) kk2).nofs (Nat.le_refl _)
  show wpAny _ _ (callWith p3 (.ref h2.objs.size) [] (backTo p3 (starEach [e] (envF F f s.heap.objs.size))) []) _ _ _
  rw [he]
  refine PySem.W.kxs_callWith (i := "ValueError.__init__") (x := a) rfl (PySem.Calls.evalArgs_plain ?_)
  refine Calls.spliced_cons (thn (hpe.run _ _ _ H _ I3 hte) fun u1 s5 ⟨y, H5, I5, r5, ea, q5⟩ => ?_)
  have pu := (I5.pin (h2.objs.size, PySem.W.kxs_mw "ValueError.__init__" a) (List.mem_append.mpr (.inr List.mem_cons_self))).1
  refine Calls.spliced_nil ⟨pu, ?_⟩
  refine wrap_ok (us := [u1]) T.oex I5 ea pu (by show 1 ≤ sizeLine; decide) fun s6 I6 => ?_
  show PySem.wpAt _ _ _ (execs rest (envF F f s.heap.objs.size)) _ _ _
  refine PySem.wpAt_of_wpAny (wpAny_mono (hpt.run [] s6 _ H5 _ (I6.pins_of fun p hp => nomatch hp) q5) (fun fl s' hs => ?_) fun er s' hs => hs)
  have fin : ∀ {σ' : L2.St} {H' : Hp} {v : V} {u : Value}, Inv (ncx CX P w K mg base N F f A outer s H E) [] σ' H' s' → RelV v u → Q v H' → CE outer P w H s Q u s' := fun {_ H' v _} J rv q => ⟨v, H', J.os, J.bare, J.base, J.hok, rv, q⟩
  match fl, hs with
  | .ret u, ⟨v, σ', H', J, rv, q⟩ => exact fin J rv q
  | .next, ⟨σ', H', J, q⟩ => exact fin (v := V.non) (u := Value.none) J rfl q
  | .brk, ⟨_, _, _, q⟩ => exact q.elim
  | .cont, ⟨_, _, _, q⟩ => exact q.elim
end
end XS
set_option maxHeartbeats 4000000
namespace XV
open PySem PySem.Spec PyProof.Rows L2 HM XS
open L2N (Zn)
/-! ### small data: what repr can show -/
structure SmD (n : Nat) (d : PyData) : Prop where
  sh : d.showable = true
  nd : d.hasDict = false
  dp : d.depth ≤ 60
  lv : d.leavesShort 100 = true
  bk : d.bulk ≤ n
theorem SmD.len {n : Nat} {d : PyData} (s : SmD n d) : d.shown.length ≤ 102 * n + 100 := by
  have h := PyData.shown_le_bulk 100 (by decide) d s.lv
  have h2 := Nat.mul_le_mul_left 102 s.bk
  omega
section
variable {X : Cx}
/-- {x!r}, x a list or a tuple of data -/
def tFmtD (K : PySem.W.Frag) (te : TE) : TE := fun σ H Q => te σ H fun x H1 => ∃ (a : Addr) (d : PyData), x = .ref a ∧ Dp K H1 (.ref a) d ∧ SmD 10000 d ∧ Q (.str d.shown) H1
theorem pe_fmtD {e : Expr} {te : TE} {pos : Pos} {k : Nat} (hr : Room k X.A) (hg : X.A.guards = some []) (he : PE X e te) : PE X (.FormattedValue e 114 none pos) (tFmtD X.K te) := by
  refine ⟨fun pins s σ H Q I h => wpAny_FormattedValue_repr (thn (he.run pins s σ H _ I h) fun v s1 hv => ?_)⟩
  obtain ⟨x, H1, I1, r1, a, d, rfl, hd, sm, q⟩ := hv
  obtain ⟨as, rd⟩ := Dp.reads I1 d _ _ hd r1
  cases r1
  have := hr.un
  have := sm.dp
  have hl : d.shown.length ≤ sizeLine := Nat.le_trans sm.len (by decide)
  refine pyReprObj_of_reads rd sm.sh (fun z => by rw [sm.nd] at z; cases z) hg (by omega) (fun _ _ e => e) (fun h' u tk kp => ?_) hl
  exact wpAny_formatField_str ⟨.str d.shown, H1, (I1.kept (t' := 0) kp).tok _, ⟨_, rfl⟩, q⟩ ⟨.str d.shown, H1, (I1.kept (t' := 0) kp).tok _, ⟨_, rfl⟩, q⟩ hl
end
/-! ### an own exception with a written __init__, made -/
theorem guards_make {A : Around} {C : Addr} {us : List Value} {kw : List (Str × Value)} (h : A.guards = some []) : (A.under (.builtin "type.__call__" ⟨.ref C :: us, kw⟩)).guards = some [] := by
  rw [← h]
  rfl
section
variable {X : Cx} {CX : CXT} {x : Str} {C fI : Addr} {k : Nat} {fd : FuncData} {ps : List Str} {sp : Sp} {e : Expr} {es : List Expr} {ta : TA} {p pos : Pos}
/-- C(e, ..): the call, told before its value is put to use -/
theorem mk_run {pins : List (Addr × Obj)} {σ : L2.St} {H1 : Hp} {vs : List V} {us : List Value} {R : Value → Shared → Prop} {s1 : Shared} {Q : Addr → Hp → Prop} (T : OexC X.K C) (iC : PySem.W.findIn X.K (.ref C) "__init__" = some (some (.ref fI))) (tI : PySem.W.typeIn X.K (.ref fI) = some (.type "function"))
    (F1 : FnG X.prog X.w X.K X.mg X.base CX k fI fd ps sp) (hr : Room (k + 1) X.A) (hg : X.A.guards = some []) (hb : Binds X.K fd ps []) (hx : Passes CX X (fun _ _ _ => False)) (I1 : Inv X pins σ H1 s1) (r1 : Vals vs us) (hz : vs.length ≤ 1000)
    (hsp : ∀ a, H1 a = none → sp (.ref a :: vs) (upd H1 a (exo a C none)) (fun v H2 => v = .non ∧ Q a H2) fun _ _ _ => False)
    (fin : ∀ (a : Addr) (hp2 : Heap) (s2 : Shared) (H2 : Hp), s1.heap.objs.size ≤ a → H1 a = none → (∀ b o, s1.heap.get? b = some o → hp2.get? b = some o) → Inv X pins σ (upd H1 a (exo a C none)) { s1 with heap := hp2 } → s2.os = s1.os → AllBare s2.gens →
      Un (frs X.stack) [] (upd H1 a (exo a C none)) H2 hp2 s2.heap → HOk X.prog X.w H2 s2.heap → Q a H2 → R (.ref a) s2) : wpAny (model X.prog X.w) X.A (call (.ref C) us) R X.xe s1 := by
  obtain ⟨nm, q, N, bs, bm, sn, sub, ab, col, dd, k0, k1, k2, k3, k5, hC, hbm⟩ := T.cls
  obtain ⟨hp, g, dr, tk, os⟩ := s1
  have hn : H1 (hp.objs.size + 1) = none := I1.hok.fresh (Nat.le_succ _)
  have hq := hsp (hp.objs.size + 1) hn
  have kk : ∀ b o, hp.get? b = some o → ((hp.push (PySem.W.kdv_tup us)).push (PySem.HandSPX.excO C hp.objs.size)).get? b = some o := fun b o e => Heap.get?_push_of_some _ (Heap.get?_push_of_some _ e)
  have hget : ((hp.push (PySem.W.kdv_tup us)).push (PySem.HandSPX.excO C hp.objs.size)).get? (hp.objs.size + 1) = some (PySem.HandSPX.excO C hp.objs.size) := by heap_get
  have I2 := I1.laid (t' := tk) (a := hp.objs.size + 1) (o := exo (hp.objs.size + 1) C none) (h' := (hp.push (PySem.W.kdv_tup us)).push (PySem.HandSPX.excO C hp.objs.size)) kk (Nat.le_succ _) (exo_ok hget)
  have r2 : Vals (V.ref (hp.objs.size + 1) :: vs) (Value.ref (hp.objs.size + 1) :: us) := .cons rfl r1
  have hl : (Value.ref (hp.objs.size + 1) :: us ++ []).length = ps.length := by
    rw [List.append_nil, ← r2.length]
    exact F1.len _ _ _ _ hq
  have b2 := hb _ (Value.ref (hp.objs.size + 1) :: us) I2.kIn hl
  rw [List.append_nil] at b2
  have hus : us.length ≤ sizeLine := by
    rw [← Paired.length r1, sizeLine_eq]
    omega
  have run := F1.run _ X.stack _ _ ⟨Value.ref (hp.objs.size + 1) :: us, []⟩ _ _ _ (fun _ _ _ => False) (hr.make C us []) (guards_make hg) (I2.env0.make C us []) b2 r2 hq
  refine wpAny_call (PySem.HandSPX.call_own F.excBase_ValueError (fun Y => PySem.HandSPX.refsVE_contains Y bm hbm) (I1.kIn _ _ hC) (PySem.W.looks_findIn I1.kIn iC) (fun self => PySem.W.bind_fn I1.kIn self tI) hus (codeAny_mono run fun r s' h => ?_))
  match r, h with
  | .error er, h => exact hx pins σ _ _ er s' I2 h
  | .ok (.ret u), ⟨v, H2, os2, bare2, un2, hok2, rv, ev, q2⟩ =>
    subst ev
    exact ⟨rv, fin _ _ s' H2 (Nat.le_succ _) hn kk I2 os2 bare2 un2 hok2 q2⟩
/-- C(e, ..) as a value -/
def tMkV (C : Addr) (sp : Sp) (ta : TA) : TE := fun σ H Q => ta σ H fun vs H1 => vs.length ≤ 1000 ∧ ∀ a, H1 a = none → sp (.ref a :: vs) (upd H1 a (exo a C none)) (fun v H2 => v = .non ∧ Q (.ref a) H2) fun _ _ _ => False
theorem pe_mkV (T : OexC X.K C) (iC : PySem.W.findIn X.K (.ref C) "__init__" = some (some (.ref fI))) (tI : PySem.W.typeIn X.K (.ref fI) = some (.type "function"))
    (F1 : FnG X.prog X.w X.K X.mg X.base CX k fI fd ps sp) (hr : Room (k + 1) X.A) (hgd : X.A.guards = some []) (hb : Binds X.K fd ps []) (hx : Passes CX X (fun _ _ _ => False)) (hg : Gl X x) (hm : X.mg x = some (.ref C)) (ha : PA X (e :: es) ta)
    (hdb : (x == ("__debug__" : Str)) = false := by decide) (he : starEach (e :: es) X.env = (false, eval e X.env) :: starEach es X.env := by rfl) (hpl : (backTo pos (starEach es X.env)).any (·.1) = false := by rfl) :
    PE X (.Call (.Name x p) (e :: es) [] pos) (tMkV C sp ta) := by
  refine ⟨fun pins s σ H Q I h => wpAny_Call_Name_kw (ld_glob I hg hm ?_ hdb)⟩
  refine PySem.W.callWith_K (h₀ := X.base) I.ok.mod.kin T.kC (thn (ha.run pos pins s σ H _ I h) fun us s1 ⟨vs, H1, I1, r1, hz, q1⟩ => ⟨I1.kIn, ?_⟩) he hpl
  refine mk_run (Q := fun a H2 => Q (.ref a) H2) T iC tI F1 hr hgd hb hx I1 r1 hz q1 fun a hp2 s2 H2 _ _ _ I2 os2 bare2 un2 hok2 q2 => ?_
  obtain ⟨h2, g2, d2, t2, os'⟩ := s2
  obtain rfl : os' = s1.os := os2
  have J := I2.call (h' := h2) (g' := g2) (d' := d2) (t' := t2) (ch := []) un2 hok2 bare2 (fun b z => absurd z (by simp))
  exact ⟨.ref a, H2, J, rfl, q2⟩
/-- C(e, ..), to be raised -/
def tMkR (C : Addr) (sp : Sp) (ta : TA) : L2.St → Hp → XK → Prop := fun σ H Q => ta σ H fun vs H1 => vs.length ≤ 1000 ∧ ∀ a, H1 a = none → sp (.ref a :: vs) (upd H1 a (exo a C none))
  (fun v H2 => v = .non ∧ ∃ (d : Addr) (fs : List (Str × V)), H2 a = some (exo a C (some d)) ∧ H2 d = some (exd d fs) ∧ H1 d = none ∧ Q (.ref C) (some d) (upd (del H2 a) d (.xd fs))) fun _ _ _ => False
theorem pmk_mkR (T : OexC X.K C) (iC : PySem.W.findIn X.K (.ref C) "__init__" = some (some (.ref fI))) (tI : PySem.W.typeIn X.K (.ref fI) = some (.type "function"))
    (F1 : FnG X.prog X.w X.K X.mg X.base CX k fI fd ps sp) (hr : Room (k + 1) X.A) (hgd : X.A.guards = some []) (hb : Binds X.K fd ps []) (hx : Passes CX X (fun _ _ _ => False)) (hg : Gl X x) (hm : X.mg x = some (.ref C)) (ha : PA X (e :: es) ta)
    (hdb : (x == ("__debug__" : Str)) = false := by decide) (he : starEach (e :: es) X.env = (false, eval e X.env) :: starEach es X.env := by rfl) (hpl : (backTo pos (starEach es X.env)).any (·.1) = false := by rfl) :
    L2N.PMk X (.Call (.Name x p) (e :: es) [] pos) (tMkR C sp ta) := by
  intro pins s σ H Q I h
  refine wpAny_Call_Name_kw (ld_glob I hg hm ?_ hdb)
  refine PySem.W.callWith_K (h₀ := X.base) I.ok.mod.kin T.kC (thn (ha.run pos pins s σ H _ I h) fun us s1 ⟨vs, H1, I1, r1, hz, q1⟩ => ⟨I1.kIn, ?_⟩) he hpl
  refine mk_run (Q := fun a H2 => ∃ (d : Addr) (fs : List (Str × V)), H2 a = some (exo a C (some d)) ∧ H2 d = some (exd d fs) ∧ H1 d = none ∧ Q (.ref C) (some d) (upd (del H2 a) d (.xd fs))) T iC tI F1 hr hgd hb hx I1 r1 hz q1 fun a hp2 s2 H2 sz _ kk I2 os2 bare2 un2 hok2 q2 => ?_
  obtain ⟨d, fs, ea, ed, hd1, q3⟩ := q2
  obtain ⟨h2, g2, d2, t2, os'⟩ := s2
  obtain ⟨hp, g, dr, tk, os⟩ := s1
  obtain ⟨t0, G, J, kG, ge, hoe, na⟩ := mk_end0 (d2 := d2) (t2 := t2) I1 sz kk un2 hok2 os2 bare2 ea ed hd1
  exact ⟨a, _, _, ⟨G, g2, d2, t2, os'⟩, _, .ref C, some d, rfl, J, kG, ge, hoe, ⟨rfl, rfl, fun vs hv => by cases hv; rfl⟩, rfl, rfl, na, rfl, bare2, raises_own T.exC T.tyC, q3⟩
end
end XV
set_option maxHeartbeats 4000000
namespace XV
open PySem PySem.Spec PyProof.Rows L2 HM XS L2H
open L2N (Zn)
/-! ### isinstance of an exception -/
/-- an exception of the class at D stands at a, tracked: without a dict, or with one -/
def ExAt (H : Hp) (a D : Addr) : Prop := H a = some (ExO (.ref D) a) ∨ ∃ (dx : Addr) (fs : List (Str × V)), H a = some (exo a D (some dx)) ∧ H dx = some (exd dx fs)
section
variable {X : Cx} {pins : List (Addr × Obj)} {σ : L2.St} {H : Hp} {s : Shared}
theorem exd_obj {P : Program} {w : World} {h : Heap} {dx : Addr} {fs : List (Str × V)} (hok : HOk P w H h) (e : H dx = some (exd dx fs)) : ∃ o, h.get? dx = some o := by
  obtain ⟨mA, ⟨o, _, _, ho, _⟩, _⟩ := exd_at hok e
  exact ⟨o, ho⟩
theorem inst_of (I : Inv X pins σ H s) {a D : Addr} (h : ExAt H a D) : ∃ (ox : Obj) (od : Option Obj), PySem.W.InstAt s.heap a ox D od := by
  rcases h with h | ⟨dx, fs, h, hd⟩
  · obtain ⟨⟨oe, vs, e, z, d, _⟩, _, _⟩ := I.hok a _ h
    refine ⟨oe, none, e, z.1, by unfold PySem.W.notCls; rw [d], ?_⟩
    rw [z.2]
    exact True.intro
  · obtain ⟨t1, e⟩ := exo_at I.hok h
    obtain ⟨o, ho⟩ := exd_obj I.hok hd
    exact ⟨_, some o, e, rfl, rfl, ho⟩
def rIsX (K : PySem.W.Frag) : List V → Hp → VK → Prop := fun xs H Q => ∃ (a D : Addr) (c : V) (u : Value) (b : Bool), xs = [.ref a, c] ∧ ExAt H a D ∧ ExcC K D ∧ ClsV c u ∧ PySem.W.kitOne K (.ref D) u = some b ∧ Q (.bl b) H
theorem isX_run {a D : Addr} {ox : Obj} {od : Option Obj} {u : Value} {b : Bool} {Q : VK} (I : Inv X pins σ H s) (J : PySem.W.InstAt s.heap a ox D od) (C : ExcC X.K D) (e : PySem.W.kitOne X.K (.ref D) u = some b) (q : Q (.bl b) H) :
    wpAny (model X.prog X.w) X.A (call (.builtin "isinstance") [.ref a, u]) (EP X pins σ Q) X.xe s := by
  have hcl : (PySem.W.clsIn X.K D).isSome = true := by
    obtain ⟨cd, hc, _⟩ := PySem.W.any_some C.hd
    rw [hc]
    rfl
  exact PySem.W.kia_one (PySem.W.kitx_exc hcl C.hg C.hk C.hs C.ha C.hn C.ht C.hm) I.kIn J e (fun z => nomatch z) fun tk => ⟨.bl b, H, I.tok tk, rfl, q⟩
theorem call_isX : CallR X (.builtin "isinstance") (rIsX X.K) := by
  intro pins s σ H xs us Q I r h
  obtain ⟨a, D, c, u, b, rfl, hx, C, hc, e, q⟩ := h
  match us, r with
  | [_, _], .cons r1 (.cons r2 .nil) =>
    cases r1
    have := hc.eq r2
    subst this
    obtain ⟨ox, od, J⟩ := inst_of I hx
    exact isX_run I J C e q
/-- the exception p that is handled: its class, its dict -/
structure PnC (X : Cx) (p : Addr × Obj) (D : Addr) (d : Option Addr) : Prop where
  hot : Hot1 X.A p
  mem : p ∈ X.pn
  z : Zn (.ref D) d p.2
  f : ∃ vs, p.2.data = .fields vs
/-- its dict, where it has one, is tracked -/
def DiOk (H : Hp) (d : Option Addr) : Prop := d = none ∨ ∃ (dd : Addr) (fs : List (Str × V)), d = some dd ∧ H dd = some (.xd fs)
theorem pn_inst {p : Addr × Obj} {D : Addr} {d : Option Addr} (c : PnC X p D d) (I : Inv X pins σ H s) (h : DiOk H d) : ∃ od, PySem.W.InstAt s.heap p.1 p.2 D od := by
  have e := (I.pin p (List.mem_append_left _ c.mem)).1
  obtain ⟨vs, hv⟩ := c.f
  have no : PySem.W.notCls p.2 = true := by
    unfold PySem.W.notCls
    rw [hv]
  rcases h with h | ⟨dd, fs, h, hd⟩
  · refine ⟨none, e, c.z.1, no, ?_⟩
    rw [c.z.2.1, h]
    exact True.intro
  · have hx : ObjOk X.prog X.w H s.heap dd (.xd fs) := I.hok dd _ hd
    obtain ⟨mA, ⟨o, _, _, ho, _⟩, _⟩ := hx
    refine ⟨some o, e, c.z.1, no, ?_⟩
    rw [c.z.2.1, h]
    exact ho
def rIsP (K : PySem.W.Frag) (p : Addr × Obj) (D : Addr) (d : Option Addr) : List V → Hp → VK → Prop := fun xs H Q => ∃ (c : V) (u : Value) (b : Bool), xs = [.ref p.1, c] ∧ DiOk H d ∧ ClsV c u ∧ PySem.W.kitOne K (.ref D) u = some b ∧ Q (.bl b) H
theorem call_isP {p : Addr × Obj} {D : Addr} {d : Option Addr} (c : PnC X p D d) (C : ExcC X.K D) : CallR X (.builtin "isinstance") (rIsP X.K p D d) := by
  intro pins s σ H xs us Q I r h
  obtain ⟨cv, u, b, rfl, hd, hc, e, q⟩ := h
  match us, r with
  | [_, _], .cons r1 (.cons r2 .nil) =>
    cases r1
    have := hc.eq r2
    subst this
    obtain ⟨od, J⟩ := pn_inst c I hd
    exact isX_run I J C e q
/-! ### e.f, e a tracked exception -/
def tXg (K : PySem.W.Frag) (n : Str) (te : TE) : TE := fun σ H Q => te σ H fun x H1 => ∃ (a D dx : Addr) (fs : List (Str × V)) (v : V), x = .ref a ∧ XfC K D ∧ PySem.W.findIn K (.ref D) n = some none ∧ H1 a = some (exo a D (some dx)) ∧ H1 dx = some (exd dx fs) ∧ fs.lookup n = some v ∧ Q v H1
theorem pe_xg {e : Expr} {te : TE} {pos : Pos} {n : Str} (he : PE X e te) (hb : attributeBase e n X.env (eval e X.env) = eval e X.env := by rfl) : PE X (.Attribute e n pos) (tXg X.K n te) := by
  refine ⟨fun pins s σ H Q I h => attr_of hb (thn (he.run pins s σ H _ I h) fun u s1 hh => ?_)⟩
  obtain ⟨x, H1, I1, rx, a, D, dx, fs, v, rfl, T, hno, ha, hd, l, q⟩ := hh
  cases rx
  obtain ⟨t1, e1⟩ := exo_at I1.hok ha
  obtain ⟨mA, hns, hr⟩ := exd_at I1.hok hd
  obtain ⟨od, ho, hl⟩ := lookIn_ns hns
  obtain ⟨u, hu, ru⟩ := RelO.some_of (v := v) (o := mA n) (by rw [← l]; exact hr n)
  have J : PySem.W.InstAt s1.heap a _ D (some od) := ⟨e1, rfl, rfl, ho⟩
  exact HandSPX.exc_get I1.kIn J T.ga T.gg T.exC (PySem.W.findObj_own T.hdC hno rfl (by rw [hl, hu])) (handed_of ru) ⟨v, H1, I1.tok _, ru, q⟩
/-- [..].count(True) -/
def rCntB (K : PySem.W.Frag) : V → List V → Hp → VK → Prop := fun x xs H Q => ∃ (p : Addr) (bs : List Bool) (b : Bool), x = .ref p ∧ xs = [.bl b] ∧ SqL K H p (bs.map V.bl) ∧ Q (.int (bs.count b : Nat)) H
theorem bools_of : ∀ {bs : List Bool} {us : List Value}, Vals (bs.map V.bl) us → us = bs.map Value.bool
  | [], _, .nil => rfl
  | b :: bs, _, .cons r t => by
    rw [bools_of t]
    cases r
    rfl
def eqb (b : Bool) : Value → Bool
  | .bool c => c == b
  | _ => false
theorem eqb_count (b : Bool) : ∀ bs : List Bool, (bs.map Value.bool).countP (eqb b) = bs.count b
  | [] => rfl
  | c :: bs => by
    rw [List.map_cons, List.countP_cons, List.count_cons, eqb_count b bs]
    rfl
theorem mt_countB : MtR X "list.count" (rCntB X.K) := by
  intro pins s σ H x xs v us Q I rx rxs h
  obtain ⟨p, bs, b, rfl, rfl, hs, q⟩ := h
  cases rx
  obtain ⟨u, rfl, ru⟩ := rxs.one
  cases ru
  obtain ⟨its, rv, ⟨⟨cls, dd, data, sl⟩, n, ho, hc, hdn, hd⟩, hlen⟩ := I.list hs
  simp only at hc hd
  subst hc hd
  have hi := bools_of rv
  subst hi
  refine call_meets PySem.F.slot_list_count ⟨_, ho, rfl⟩ PySem.F.entry_list_count (PySem.F.args_list_count_2 _ _) (SeqAt.list_countAt p _ n dd sl (.bool b) (eqb b)) ⟨ho, fun y hy => ?_, ?_⟩
  · have hy2 : y ∈ bs.map Value.bool := by simpa using hy
    obtain ⟨c, _, rfl⟩ := List.mem_map.mp hy2
    exact SeqAt.EqAt.bool_bool c b
  · refine ⟨.int (bs.count b : Nat), H, I.tok _, ⟨s.toks, ?_⟩, q⟩
    show Value.int (((bs.map Value.bool).toArray.toList.countP (eqb b) : Nat) : Int) s.toks = _
    rw [show (bs.map Value.bool).toArray.toList = bs.map Value.bool from rfl, eqb_count]
end
/-! ### calls while an exception is handled, of which the callee is told -/
structure FnQ (P : Program) (w : World) (K : PySem.W.Frag) (mg : Str → Option Value) (base : Heap) (k : Nat) (f : Addr) (fd : FuncData) (ps : List Str) (sp : Addr × Obj → Sp) : Prop where
  len : ∀ p vs H Q E, sp p vs H Q E → vs.length = ps.length
  run : ∀ (A : Around) (outer : List Env) (s : Shared) (H : Hp) (args : Args) (us : List Value) (vs : List V) (Q : VK) (E : XK) (p : Addr × Obj), RoomH k A → Hot1 A p → PinOk outer H s p → Env0 P w K mg base A outer s H → BindsTo s fd args (ps.zip us) → Vals vs us → sp p vs H Q E →
    codeAny (model P w) A (.call (.ref f) args) (CR CX0 outer P w H s Q E) s
section
variable {P : Program} {w : World} {K : PySem.W.Frag} {mg : Str → Option Value} {base : Heap} {k : Nat} {f : Addr} {fd : FuncData} {ps N : List Str} {sp : Addr × Obj → Sp} {x qual : Str} {params : Arguments} {body : List Stmt} {scope : Scope} {dvs : List V} {kws : List (Str × V)}
theorem okQ (F : FunD K x qual params body scope dvs kws f fd) (S : FnScope N ps scope) (len : ∀ p vs H Q E, sp p vs H Q E → vs.length = ps.length)
    (hbody : ∀ (cdv : Value) (A : Around) (outer : List Env) (s : Shared) (H : Hp) (vs : List V) (Q : VK) (E : XK) (p : Addr × Obj), Hot1 A p → RoomH k (A.deeper (envOfC qual scope s.heap.objs.size f cdv)) → sp p vs H Q E →
      ∃ t, PSs (cxH CX0 P w K mg base N qual scope f cdv A outer s H E p).nox body t ∧ t { nx := fun _ H' => Q .non H', rt := Q } (start N vs) H) : FnQ P w K mg base (k + 1) f fd ps sp := by
  obtain ⟨oc, od, dV, kV, doc, pm, an, cdv, ct, osl, rfl, lk, hcd, _, _⟩ := F.ex
  refine ⟨len, fun A outer s H args us vs Q E p hr hot hpin e0 hb r hsp => ?_⟩
  have hK : K.In s.heap := e0.mod.kin.keeps fun b o e => (e0.bs b o e).1
  have hL : s.heap.NoLimit := e0.mod.nolimit.keeps fun b o e => (e0.bs b o e).1
  refine codeAny_call_function hr.depth (hK _ _ lk) rfl S.co S.gen rfl (PySem.W.codeRec_of hK hcd) (hb _ _ _ _ ?_)
  refine wpAny_newFunctionEnv_cells S.kind (fun ⟨n, v⟩ hy => (S.par n (List.of_mem_zip hy).1).elim .inl fun q => .inr ⟨q, PySem.W.cellsFrom_some _ _ _ (.inl q)⟩) fun env he s1 hx => ?_
  subst he
  refine ⟨hL.keeps hx.toInCall.keep, codeAny_func ?_⟩
  obtain ⟨t, ht, hq⟩ := hbody cdv A outer s H vs Q E p hot (hr.deeper _) hsp
  refine wpAny_mono (ht.nox.run [] s1 (start N vs) H _ (inv_startH S hpin e0 (len _ _ _ _ _ hsp) r hx) hq) (fun fl s' hs => ?_) fun e s' hs => hs
  have fin : ∀ {σ' : L2.St} {H' : Hp} {v : V} {u : Value}, Inv (cxH CX0 P w K mg base N qual scope f cdv A outer s H E p) [] σ' H' s' → RelV v u → Q v H' → CE outer P w H s Q u s' := fun {_ H' v _} J rv q => ⟨v, H', J.os, J.bare, J.base, J.hok, rv, q⟩
  match fl, hs with
  | .ret u, ⟨v, σ', H', J, rv, q⟩ => exact fin J rv q
  | .next, ⟨σ', H', J, q⟩ => exact fin (v := V.non) (u := Value.none) J rfl q
  | .brk, ⟨_, _, _, q⟩ => exact q.elim
  | .cont, ⟨_, _, _, q⟩ => exact q.elim
end
section
variable {X : Cx} {k : Nat} {f : Addr} {fd : FuncData} {ps : List Str} {sp : Addr × Obj → Sp} {x : Str} {p : Addr × Obj} {q pos : Pos} {e : Expr} {es : List Expr} {t : TA}
theorem pe_callQ (F : FnQ X.prog X.w X.K X.mg X.base k f fd ps sp) (hr : RoomH k X.A) (hot : Hot1 X.A p) (hp : p ∈ X.pn) (hg : Gl X x) (hm : X.mg x = some (.ref f)) (hk : PySem.W.keepIn X.K (.ref f) = true) (hb : Binds X.K fd ps [])
    (ha : PA X (e :: es) t) (hdb : (x == ("__debug__" : Str)) = false := by decide) (he : starEach (e :: es) X.env = (false, eval e X.env) :: starEach es X.env := by rfl) (hpl : (backTo pos (starEach es X.env)).any (·.1) = false := by rfl) :
    PE X (.Call (.Name x q) (e :: es) [] pos) (tCall (sp p) [] E0 t) := by
  refine ⟨fun pins s σ H Q I h => wpAny_Call_Name_kw (ld_glob I hg hm ?_ hdb)⟩
  refine PySem.W.callWith_K (h₀ := X.base) I.ok.mod.kin hk (thn (ha.run pos pins s σ H _ I h) fun us s1 ⟨vs, H1, I1, r, hsp⟩ => ⟨I1.kIn, ?_⟩) he hpl
  have hsp : sp p (vs ++ []) H1 Q E0 := hsp
  rw [List.append_nil] at hsp
  have b := hb s1 us I1.kIn (by rw [List.append_nil, ← r.length]; exact F.len _ _ _ _ _ hsp)
  rw [List.append_nil] at b
  have P1 := I1.pin p (List.mem_append_left _ hp)
  have hpin : PinOk X.stack H1 s1 p := ⟨P1.1, P1.2.1, fun hm => (List.mem_cons.mp (I1.stkSub p.1 hm)).elim P1.2.2.1 P1.2.2.2.1, P1.2.2.2.2⟩
  refine wpAny_call (codeAny_mono (F.run X.A X.stack s1 H1 ⟨us, []⟩ us vs Q E0 p hr hot hpin I1.env0 b r hsp) fun r s' hq => ?_)
  match r, hq with
  | .error e, hq => exact hq.elim
  | .ok (.ret u), hq => exact I1.after hq
end
end XV
set_option maxHeartbeats 4000000
namespace XH
open PySem PySem.Spec PyProof.Rows L2 HM XS NdefX He
/-! ### what the head tells of classes with a written __init__ that says super().__init__ -/
/-- such an __init__: its class's name, its qualified name, what it is made of -/
structure SupD where
  cls : Str
  qual : Str
  params : Arguments
  body : List Stmt
  scope : Scope
abbrev FnZ : Type := Option (Str × Str × Arguments × FuncBody × Scope × Addr × Addr)
def SupD.f (K : PySem.W.Frag) (s : SupD) : Addr := ma K (ga K s.cls) "__init__"
def fnZ (K : PySem.W.Frag) (f : Addr) : FnZ := match K.lookup f with
  | some ⟨_, _, .func fd, _⟩ => some (fd.name, fd.qualname, fd.params, fd.body, fd.scope, fd.globals, fd.builtins)
  | _ => none
def SupD.val (s : SupD) : FnZ := some (("__init__" : Str), s.qual, s.params, FuncBody.stmts s.body, s.scope, mainGlobals, builtinsNs)
def cellB (K : PySem.W.Frag) (c C : Addr) : Bool := match K.lookup c with
  | some ⟨_, _, .cell (some (.ref D)), _⟩ => decide (D = C)
  | _ => false
theorem cellB_ok {K : PySem.W.Frag} {c C : Addr} (h : cellB K c C = true) : ∃ ob, K.lookup c = some ob ∧ ob.data = .cell (some (.ref C)) := by
  unfold cellB at h
  split at h
  · rename_i oc od D osl e
    have : D = C := of_decide_eq_true h
    subst this
    exact ⟨_, e, rfl⟩
  · cases h
def fileB (K : PySem.W.Frag) (c : Addr) (file : Str) : Bool := match K.lookup c with
  | some ⟨_, _, .fields vs, _⟩ => (match (vs[2]? : Option Value) with
    | some (.str fl _) => file == fl
    | _ => false)
  | _ => false
theorem fileB_ok {K : PySem.W.Frag} {c : Addr} {file : Str} (h : fileB K c file = true) : ∃ (ob : Obj) (vs : Array Value) (fl : Str) (tf : Tok), K.lookup c = some ob ∧ ob.data = .fields vs ∧ vs[2]? = some (.str fl tf) ∧ (file == fl) = true := by
  unfold fileB at h
  split at h
  · rename_i oc od vs osl e
    split at h
    · rename_i fl tf e2
      exact ⟨_, vs, fl, tf, e, rfl, e2, h⟩
    · cases h
  · cases h
def supB (K : PySem.W.Frag) (file : Str) (s : SupD) : Bool := PySem.W.keepIn K (.ref (s.f K)) && match K.lookup (s.f K) with
  | some ⟨_, _, .func fd, _⟩ => (match fd.closure, fd.defaults, fd.kwdefaults, fd.annotations, fd.code with
    | [(y, c)], .none, .none, none, .ref cc => decide (y = "__class__") && (cellB K c (ga K s.cls) && (PySem.W.codeIn K (.ref cc) s.qual && fileB K cc file))
    | _, _, _, _, _ => false)
  | _ => false
theorem supF_of {K : PySem.W.Frag} {prog : Program} {s : SupD} (h : supB K prog.main.file s = true) (e : fnZ K (s.f K) = s.val) :
    ∃ (cl : List (Str × Addr)) (c : Addr) (fd : FuncData), SupF K prog (ga K s.cls) (s.f K) ⟨"__init__", s.qual, s.params, s.body, s.scope, cl, c⟩ fd := by
  unfold supB at h
  obtain ⟨kp, h⟩ := ba h
  unfold fnZ at e
  split at h
  · rename_i oc od fd osl hk
    rw [hk] at e
    split at h
    · rename_i y c cc h1 h2 h3 h4 h5
      obtain ⟨hy, h⟩ := ba h
      obtain ⟨hc, h⟩ := ba h
      obtain ⟨hq, hf⟩ := ba h
      have hy2 : y = "__class__" := of_decide_eq_true hy
      subst hy2
      obtain ⟨n1, n2, n3, n4, n5, n6, n7, n8, n9, n10, n11, n12, n13, n14, n15⟩ := fd
      dsimp only at h1 h2 h3 h4 h5
      subst h1 h2 h3 h4 h5
      have e2 : (some (n1, n2, n3, n4, n5, n6, n15) : FnZ) = some (("__init__" : Str), s.qual, s.params, FuncBody.stmts s.body, s.scope, mainGlobals, builtinsNs) := e
      simp only [Option.some.injEq, Prod.mk.injEq] at e2
      obtain ⟨z1, z2, z3, z4, z5, z6, z7⟩ := e2
      subst z1 z2 z3 z4 z5 z6 z7
      obtain ⟨ob, k1, k2⟩ := cellB_ok hc
      exact ⟨_, cc, _, ⟨oc, od, osl, n10, n11, n14, rfl, hk⟩, hq, ⟨c, ob, rfl, k1, k2⟩, fileB_ok hf, kp⟩
    · cases h
  · cases h
/-- an exception class over ValueError -/
def oexB (K : PySem.W.Frag) (C : Addr) : Bool := (match K.lookup C with
  | some ⟨.type t, _, .cls cd, sl⟩ => (match cd.mro, sl.toList with
    | .ref D :: bm, [_, _, _, _, some (.builtin n), _] => decide (t = "type") && (decide (D = C) && (decide (n = "ValueError.__new__") && (!cd.hasDel && (cd.hasDict && HandSPX.refsVE bm))))
    | _, _ => false)
  | _ => false) && (eqO (PySem.W.findIn K (.ref C) "__setattr__") (some (some (.builtin "object.__setattr__"))) && (decide (PySem.W.subIn K (.ref C) (.type "BaseException") = some true) && (decide (PySem.W.typeIn K (.ref C) = some (.type "type")) && PySem.W.keepIn K (.ref C))))
theorem oexB_ok {K : PySem.W.Frag} {C : Addr} (h : oexB K C = true) : OexC K C := by
  obtain ⟨h, h2⟩ := ba h
  obtain ⟨k1, h2⟩ := ba h2
  obtain ⟨k2, h2⟩ := ba h2
  obtain ⟨k3, k4⟩ := ba h2
  refine ⟨?_, eqO_ok k1, of_decide_eq_true k2, of_decide_eq_true k3, k4⟩
  split at h
  · rename_i t dd cd sl hk
    split at h
    · rename_i D bm s0 s1 s2 s3 n s5 hm hs
      obtain ⟨q1, h⟩ := ba h
      obtain ⟨q2, h⟩ := ba h
      obtain ⟨q3, h⟩ := ba h
      obtain ⟨q4, h⟩ := ba h
      obtain ⟨q5, q6⟩ := ba h
      have e1 : t = "type" := of_decide_eq_true q1
      have e2 : D = C := of_decide_eq_true q2
      have e3 : n = "ValueError.__new__" := of_decide_eq_true q3
      subst e1 e2 e3
      obtain ⟨c1, c2, c3, c4, c5, c6, c7, c8, c9, c10, c11⟩ := cd
      dsimp only at hm q4 q5
      have e4 : c11 = false := by simpa using q4
      subst hm e4 q5
      have hsl : sl = #[s0, s1, s2, s3, some (.builtin "ValueError.__new__"), s5] := by
        apply Array.ext'
        rw [hs]
      subst hsl
      exact ⟨_, _, _, _, bm, _, _, _, _, _, s0, s1, s2, s3, s5, hk, q6⟩
    · cases h
  · cases h
def supCB (K : PySem.W.Frag) (C : Addr) : Bool := oexB K C && (eqO (PySem.W.nsIn K cStatics "thirdparty.any") (some none) && (eqO (PySem.W.ks_superIn K C C "__init__") (some (some (.builtin "ValueError.__init__"))) && (decide (PySem.W.subIn K (.ref C) (.type "ValueError") = some true) && decide (PySem.W.subIn K (.ref C) (.ref C) = some true))))
theorem supCB_ok {K : PySem.W.Frag} {C : Addr} (h : supCB K C = true) : SupC K C := by
  obtain ⟨h1, h⟩ := ba h
  obtain ⟨h2, h⟩ := ba h
  obtain ⟨h3, h⟩ := ba h
  obtain ⟨h4, h5⟩ := ba h
  exact ⟨oexB_ok h1, eqO_ok h2, eqO_ok h3, of_decide_eq_true h4, of_decide_eq_true h5⟩
/-- what isinstance asks of an exception's class -/
def excCB (K : PySem.W.Frag) (D : Addr) : Bool := eqO (PySem.W.findIn K (.ref D) "__getattribute__") (some (some (.builtin "BaseException.__getattribute__"))) && (eqO (PySem.W.findIn K (.ref D) "__getattr__") (some none) && (decide (PySem.W.subIn K (.ref D) (.type "BaseException") = some true) && (PySem.W.hasDictIn K D &&
  (eqO (PySem.W.findIn K (.ref D) "__class__") (some (some (.builtin "object.__class__"))) && (eqO (PySem.W.specialIn K (.builtin "object.__class__") "__get__") (some (some (.builtin "getset_descriptor.__get__"))) && (decide (PySem.W.takesIn K (.builtin "object.__class__") = some true) && decide (PySem.W.mroIn K D (.type "object") = some true)))))))
theorem excCB_ok {K : PySem.W.Frag} {D : Addr} (h : excCB K D = true) : ExcC K D := by
  obtain ⟨h1, h⟩ := ba h
  obtain ⟨h2, h⟩ := ba h
  obtain ⟨h3, h⟩ := ba h
  obtain ⟨h4, h⟩ := ba h
  obtain ⟨h5, h⟩ := ba h
  obtain ⟨h6, h⟩ := ba h
  obtain ⟨h7, h8⟩ := ba h
  exact ⟨eqO_ok h1, eqO_ok h2, of_decide_eq_true h3, h4, eqO_ok h5, eqO_ok h6, of_decide_eq_true h7, of_decide_eq_true h8⟩
/-! ### the hook -/
def asY (g : Addr → Option Obj) (n : Nat) : List Addr := asD g n ++ [cStatics]
structure SaysY (file : Str) (fa : List Fa) (fn : List DefD) (sf : List SupD) (tf : List Defn) (ex : PySem.W.Frag → Bool) (h : Heap) (K : PySem.W.Frag) : Prop where
  d : SaysD fa fn K
  more : ex K = true
  sup : ∀ s ∈ sf, supB K file s = true ∧ fnZ K (s.f K) = s.val
  hd : ∀ p ∈ tf, PySem.W.codeHdIn K (cT K p).1 (cT K p).2 = true
  out : ∀ p ∈ tf, K.lookup (cT K p).2 = none
  empty : ∀ p ∈ tf, h.get? (cT K p).2 = some { cls := .none, data := .fields #[] }
abbrev AlY : Type := AlD × Bool × List FnZ
def obsK (file : Str) (fa : List Fa) (fn : List DefD) (sf : List SupD) (tf : List Defn) (ex : PySem.W.Frag → Bool) (g : Addr → Option Obj) (K : PySem.W.Frag) : AlY := (obsD fa fn K, (ex K && (tabsB g tf K && sf.all (supB K file))), sf.map fun s => fnZ K (s.f K))
def obsY (n : Nat) (file : Str) (fa : List Fa) (fn : List DefD) (sf : List SupD) (tf : List Defn) (ex : PySem.W.Frag → Bool) (g : Addr → Option Obj) : AlY := obsK file fa fn sf tf ex g (frT g (asY g n))
def valY (fn : List DefD) (sf : List SupD) : AlY := (valD fn, true, sf.map SupD.val)
theorem saysY_of {n : Nat} {file : Str} {fa : List Fa} {fn : List DefD} {sf : List SupD} {tf : List Defn} {ex : PySem.W.Frag → Bool} {h : Heap} (e : obsY n file fa fn sf tf ex h.get? = valY fn sf) : SaysY file fa fn sf tf ex h (frT h.get? (asY h.get? n)) := by
  have e1 : obsD fa fn (frT h.get? (asY h.get? n)) = valD fn := congrArg (fun z : AlY => z.1) e
  have e2 : (ex (frT h.get? (asY h.get? n)) && (tabsB h.get? tf (frT h.get? (asY h.get? n)) && sf.all (supB (frT h.get? (asY h.get? n)) file))) = true := congrArg (fun z : AlY => z.2.1) e
  have e3 : sf.map (fun s => fnZ (frT h.get? (asY h.get? n)) (s.f (frT h.get? (asY h.get? n)))) = sf.map SupD.val := congrArg (fun z : AlY => z.2.2) e
  obtain ⟨h1, h2⟩ := ba e2
  obtain ⟨h3, h4⟩ := ba h2
  have tab : ∀ p ∈ tf, PySem.W.codeHdIn (frT h.get? (asY h.get? n)) (cT (frT h.get? (asY h.get? n)) p).1 (cT (frT h.get? (asY h.get? n)) p).2 = true ∧ ∃ o, h.get? (cT (frT h.get? (asY h.get? n)) p).2 = some o ∧ emptyTab o = true := fun p hp => by
    obtain ⟨q1, q2⟩ := ba (List.all_eq_true.mp h3 p hp)
    refine ⟨q1, ?_⟩
    cases q : h.get? (cT (frT h.get? (asY h.get? n)) p).2 with
    | none =>
      rw [q] at q2
      cases q2
    | some o =>
      rw [q] at q2
      exact ⟨o, rfl, q2⟩
  refine ⟨e1, h1, fun s hs => ⟨List.all_eq_true.mp h4 s hs, ?_⟩, fun p hp => (tab p hp).1, fun p hp => ?_, fun p hp => ?_⟩
  · exact (List.map_inj_left.mp e3) s hs
  · obtain ⟨_, o, q, z⟩ := tab p hp
    exact frT_none q z
  · obtain ⟨_, o, q, z⟩ := tab p hp
    rw [q, emptyTab_eq z]
def hookY (n : Nat) (file : Str) (fa : List Fa) (fn : List DefD) (sf : List SupD) (tf : List Defn) (ex : PySem.W.Frag → Bool) : PySem.W.Hook where
  α := AlY
  obs := fun s => obsY n file fa fn sf tf ex s.heap.get?
  val := fun _ => valY fn sf
  says := fun _ h => ∃ K : PySem.W.Frag, K.In h ∧ SaysY file fa fn sf tf ex h K
  of := fun _ _ e => ⟨_, frT_in, saysY_of e⟩
  keeps := fun _ _ _ ⟨K, hK, c⟩ k => ⟨K, PySem.W.Frag.In.keeps hK k, ⟨c.d, c.more, c.sup, c.hd, c.out, fun p hp => k _ _ (c.empty p hp)⟩⟩
theorem obsY_eq {n : Nat} {file : Str} {fa : List Fa} {fn : List DefD} {sf : List SupD} {tf : List Defn} {ex : PySem.W.Frag → Bool} {g : Addr → Option Obj} {s : Shared} (h : ∀ a, g a = s.heap.get? a) : obsY n file fa fn sf tf ex g = (hookY n file fa fn sf tf ex).obs s := by
  have e : g = s.heap.get? := funext h
  rw [e]
  rfl
end XH
set_option maxHeartbeats 1000000
namespace K11
open PySem PyProof.Rows SX
/-! ### the mathematics of names and paths: texts as lists of code points -/
def low (c : Nat) : Bool := decide (97 ≤ c) && decide (c ≤ 122)
def nameL (w : List Nat) : Bool := (decide (1 ≤ w.length) && decide (w.length ≤ 8)) && w.all low
def parts (l : List Nat) : List (List Nat) := TL.spl [46] 0 [] l
def pathL (l : List Nat) : Bool := decide ((parts l).length ≤ 4) && (parts l).all nameL
theorem pre_dot (r : List Nat) : TL.pre [46] (46 :: r) = true := by
  show ((46 :: r).take 1 == [46]) = true
  simp
theorem pre_no {c : Nat} (r : List Nat) (h : c ≠ 46) : TL.pre [46] (c :: r) = false := TL.pre_of_head [] r h
theorem spl_dot (acc r : List Nat) : TL.spl [46] 0 acc (46 :: r) = acc :: TL.spl [46] 0 [] r := TL.spl_hit (pre_dot r)
theorem spl_no (acc r : List Nat) {c : Nat} (h : c ≠ 46) : TL.spl [46] 0 acc (c :: r) = TL.spl [46] 0 (acc ++ [c]) r := TL.spl_miss (pre_no r h)
theorem spl_nil' (acc : List Nat) : TL.spl [46] 0 acc [] = [acc] := TL.spl_nil [46] 0 acc
theorem spl_ne (l : List Nat) : ∀ acc, TL.spl [46] 0 acc l ≠ [] := by
  induction l with
  | nil =>
    intro acc
    rw [spl_nil']
    exact List.cons_ne_nil _ _
  | cons c r ih =>
    intro acc
    by_cases h : c = 46
    · subst h
      rw [spl_dot]
      exact List.cons_ne_nil _ _
    · rw [spl_no acc r h]
      exact ih _
theorem spl_snoc_dot (l : List Nat) : ∀ acc, TL.spl [46] 0 acc (l ++ [46]) = TL.spl [46] 0 acc l ++ [[]] := by
  induction l with
  | nil =>
    intro acc
    show TL.spl [46] 0 acc [46] = _
    rw [spl_dot, spl_nil', spl_nil']
    rfl
  | cons c r ih =>
    intro acc
    by_cases h : c = 46
    · subst h
      show TL.spl [46] 0 acc (46 :: (r ++ [46])) = _
      rw [spl_dot, spl_dot, ih]
      rfl
    · show TL.spl [46] 0 acc (c :: (r ++ [46])) = _
      rw [spl_no _ _ h, spl_no _ _ h, ih]
theorem spl_snoc {c : Nat} (hc : c ≠ 46) (l : List Nat) : ∀ acc i w, TL.spl [46] 0 acc l = i ++ [w] → TL.spl [46] 0 acc (l ++ [c]) = i ++ [w ++ [c]] := by
  induction l with
  | nil =>
    intro acc i w e
    rw [spl_nil'] at e
    show TL.spl [46] 0 acc [c] = _
    rw [spl_no _ _ hc, spl_nil']
    have e2 : [] ++ [acc] = i ++ [w] := e
    obtain ⟨e3, e4⟩ := List.append_inj' e2 rfl
    subst e3
    rw [List.cons.inj e4 |>.1]
    rfl
  | cons d r ih =>
    intro acc i w e
    by_cases h : d = 46
    · subst h
      show TL.spl [46] 0 acc (46 :: (r ++ [c])) = _
      rw [spl_dot] at e ⊢
      cases i with
      | nil =>
        have e2 := (List.cons.inj e).2
        exact absurd e2 (spl_ne r [])
      | cons a i =>
        obtain ⟨e2, e3⟩ := List.cons.inj e
        rw [ih [] i w e3, e2]
        rfl
    · show TL.spl [46] 0 acc (d :: (r ++ [c])) = _
      rw [spl_no _ _ h] at e ⊢
      exact ih _ i w e
theorem joinL_cons (S p : List Nat) {l : List (List Nat)} (h : l ≠ []) : TL.joinL S (p :: l) = p ++ (S ++ TL.joinL S l) := by
  cases l with
  | nil => exact absurd rfl h
  | cons q r => rfl
theorem joinL_snoc (S y : List Nat) : ∀ {l : List (List Nat)}, l ≠ [] → TL.joinL S (l ++ [y]) = TL.joinL S l ++ S ++ y
  | [], h => absurd rfl h
  | [p], _ => by
    show p ++ (S ++ y) = p ++ S ++ y
    rw [List.append_assoc]
  | p :: q :: r, _ => by
    show TL.joinL S (p :: ((q :: r) ++ [y])) = _
    rw [joinL_cons S p (by simp), joinL_cons S p (List.cons_ne_nil q r), joinL_snoc S y (List.cons_ne_nil q r)]
    simp [List.append_assoc]
theorem join_spl (l : List Nat) : ∀ acc, TL.joinL [46] (TL.spl [46] 0 acc l) = acc ++ l := by
  induction l with
  | nil =>
    intro acc
    rw [spl_nil']
    simp [TL.joinL]
  | cons c r ih =>
    intro acc
    by_cases h : c = 46
    · subst h
      rw [spl_dot, joinL_cons _ _ (spl_ne r []), ih]
      simp
    · rw [spl_no _ _ h, ih]
      simp
theorem join_parts (l : List Nat) : TL.joinL [46] (parts l) = l := join_spl l []
theorem parts_ne (l : List Nat) : parts l ≠ [] := spl_ne l []
theorem spl_nodot (l : List Nat) (h : 46 ∉ l) : ∀ acc, TL.spl [46] 0 acc l = [acc ++ l] := by
  induction l with
  | nil =>
    intro acc
    rw [spl_nil', List.append_nil]
  | cons c r ih =>
    intro acc
    have hc : c ≠ 46 := fun e => h (by rw [e]; exact List.mem_cons_self)
    rw [spl_no _ _ hc, ih (fun z => h (List.mem_cons_of_mem _ z))]
    simp
theorem spl_dot_len (l : List Nat) (h : 46 ∈ l) : ∀ acc, 2 ≤ (TL.spl [46] 0 acc l).length := by
  induction l with
  | nil => cases h
  | cons c r ih =>
    intro acc
    by_cases hc : c = 46
    · subst hc
      rw [spl_dot, List.length_cons]
      have := List.length_pos_iff.mpr (spl_ne r [])
      omega
    · rw [spl_no _ _ hc]
      refine ih ?_ _
      rcases List.mem_cons.mp h with z | z
      · exact absurd z.symm hc
      · exact z
theorem low_dot : low 46 = false := by decide
/-- a name is a path of one part -/
theorem name_one (l : List Nat) : nameL l = (decide ((parts l).length = 1) && (parts l).all nameL) := by
  by_cases h : 46 ∈ l
  · have h1 : nameL l = false := by
      unfold nameL
      have : l.all low = false := by
        rw [List.all_eq_false]
        exact ⟨46, h, by rw [low_dot]; exact Bool.false_ne_true⟩
      rw [this, Bool.and_false]
    have h2 := spl_dot_len l h []
    have h3 : decide ((parts l).length = 1) = false := decide_eq_false (by unfold parts; omega)
    rw [h1, h3, Bool.false_and]
  · have e : parts l = [l] := spl_nodot l h []
    rw [e]
    simp
/-- the beginnings of a list of words -/
def begs (ws : List (List Nat)) : List (List Nat) := (List.range ws.length).map fun i => TL.joinL [46] (ws.take (i + 1))
theorem begs_len (ws : List (List Nat)) : (begs ws).length = ws.length := by
  unfold begs
  rw [List.length_map, List.length_range]
theorem begs_get {ws : List (List Nat)} {i : Nat} (h : i < ws.length) : (begs ws)[i]? = some (TL.joinL [46] (ws.take (i + 1))) := by
  unfold begs
  rw [List.getElem?_map, List.getElem?_range h]
  rfl
theorem take_snoc {α : Type} {xs : List α} {i : Nat} {x : α} (h : xs[i]? = some x) : xs.take (i + 1) = xs.take i ++ [x] := by
  rw [List.take_add_one, h]
  rfl
theorem begs_step {ws : List (List Nat)} {i : Nat} {y : List Nat} (h : ws[i + 1]? = some y) : TL.joinL [46] (ws.take (i + 1)) ++ [46] ++ y = TL.joinL [46] (ws.take (i + 1 + 1)) := by
  have hi := (List.getElem?_eq_some_iff.mp h).1
  rw [take_snoc h, joinL_snoc]
  intro e
  have := congrArg List.length e
  rw [List.length_take, List.length_nil] at this
  omega
/-! ### signs of the alphabet -/
abbrev abc0 : List Nat := [97, 98, 99, 100, 101, 102, 103, 104, 105, 106, 107, 108, 109, 110, 111, 112, 113, 114, 115, 116, 117, 118, 119, 120, 121, 122]
theorem cnt_abc (c : Nat) : cnt c abc0 = if low c = true then 1 else 0 := by
  simp only [cnt_cons, cnt_nil]
  by_cases h : low c = true
  · rw [if_pos h]
    unfold low at h
    obtain ⟨h1, h2⟩ := Bool.and_eq_true_iff.mp h
    have a1 := of_decide_eq_true h1
    have a2 := of_decide_eq_true h2
    obtain ⟨k, hk, rfl⟩ : ∃ k, k < 26 ∧ c = 97 + k := ⟨c - 97, by omega, by omega⟩
    have : ∀ k, k < 26 → ((if 97 = 97 + k then (1 : Int) else 0) + ((if 98 = 97 + k then 1 else 0) + ((if 99 = 97 + k then 1 else 0) + ((if 100 = 97 + k then 1 else 0) + ((if 101 = 97 + k then 1 else 0) + ((if 102 = 97 + k then 1 else 0) + ((if 103 = 97 + k then 1 else 0) + ((if 104 = 97 + k then 1 else 0) + ((if 105 = 97 + k then 1 else 0) + ((if 106 = 97 + k then 1 else 0) + ((if 107 = 97 + k then 1 else 0) + ((if 108 = 97 + k then 1 else 0) + ((if 109 = 97 + k then 1 else 0) + ((if 110 = 97 + k then 1 else 0) + ((if 111 = 97 + k then 1 else 0) + ((if 112 = 97 + k then 1 else 0) + ((if 113 = 97 + k then 1 else 0) + ((if 114 = 97 + k then 1 else 0) + ((if 115 = 97 + k then 1 else 0) + ((if 116 = 97 + k then 1 else 0) + ((if 117 = 97 + k then 1 else 0) + ((if 118 = 97 + k then 1 else 0) + ((if 119 = 97 + k then 1 else 0) + ((if 120 = 97 + k then 1 else 0) + ((if 121 = 97 + k then 1 else 0) + ((if 122 = 97 + k then 1 else 0) + 0)))))))))))))))))))))))))) = 1 := by decide +kernel
    exact this k hk
  · rw [if_neg h]
    have hc : c < 97 ∨ 122 < c := by
      refine Classical.byContradiction fun z => h ?_
      unfold low
      rw [decide_eq_true (show 97 ≤ c by omega), decide_eq_true (show c ≤ 122 by omega)]
      rfl
    have ne : ∀ k : Nat, 97 ≤ k → k ≤ 122 → (if k = c then (1 : Int) else 0) = 0 := fun k h1 h2 => if_neg (by omega)
    rw [ne 97 (by decide) (by decide), ne 98 (by decide) (by decide), ne 99 (by decide) (by decide), ne 100 (by decide) (by decide), ne 101 (by decide) (by decide), ne 102 (by decide) (by decide), ne 103 (by decide) (by decide), ne 104 (by decide) (by decide), ne 105 (by decide) (by decide), ne 106 (by decide) (by decide), ne 107 (by decide) (by decide), ne 108 (by decide) (by decide), ne 109 (by decide) (by decide), ne 110 (by decide) (by decide), ne 111 (by decide) (by decide), ne 112 (by decide) (by decide), ne 113 (by decide) (by decide), ne 114 (by decide) (by decide), ne 115 (by decide) (by decide), ne 116 (by decide) (by decide), ne 117 (by decide) (by decide), ne 118 (by decide) (by decide), ne 119 (by decide) (by decide), ne 120 (by decide) (by decide), ne 121 (by decide) (by decide), ne 122 (by decide) (by decide)]
    rfl
/-- how many of the signs are small letters -/
def lows (w : List Nat) : Nat := (w.filter low).length
theorem lows_le (w : List Nat) : lows w ≤ w.length := List.length_filter_le _ _
theorem lows_all (w : List Nat) : (lows w = w.length) ↔ w.all low = true := by
  unfold lows
  rw [List.length_filter_eq_length_iff, List.all_eq_true]
/-- the law's word -/
theorem word_name (w : List Nat) : (decide (lows w = w.length) && (decide (0 < lows w) && decide (lows w < 9))) = nameL w := by
  unfold nameL
  by_cases h : w.all low = true
  · have e := (lows_all w).mpr h
    rw [h, e, decide_eq_true rfl]
    by_cases h1 : 1 ≤ w.length
    · by_cases h2 : w.length ≤ 8
      · simp [h1, h2, show 0 < w.length by omega, show w.length < 9 by omega]
      · simp [h2, show ¬ w.length < 9 by omega]
    · simp [h1, show ¬ 0 < w.length by omega]
  · have e : ¬ lows w = w.length := fun z => h ((lows_all w).mp z)
    rw [decide_eq_false e, Bool.eq_false_iff.mpr h, Bool.and_false, Bool.false_and]
/-- one sign between a and z -/
theorem between (c : Nat) : (if (!decide ([c] < [97])) = true then !decide ([122] < [c]) else false) = low c := by
  have l1 : ∀ a b : Nat, decide ([a] < [b]) = decide (a < b) := fun a b => by
    by_cases h : a < b
    · rw [decide_eq_true h, decide_eq_true (show [a] < [b] from List.Lex.rel h)]
    · rw [decide_eq_false h]
      refine decide_eq_false fun z => ?_
      cases z with
      | rel q => exact h q
      | cons q => cases q
  rw [l1, l1]
  unfold low
  by_cases h1 : c < 97 <;> by_cases h2 : 122 < c <;> simp [h1, h2, Nat.not_le] <;> omega
end K11
set_option maxHeartbeats 4000000
namespace XD
open PySem PySem.Spec PyProof.Rows L2 HM SX K11
/-! ### things: what rows are judged over -/
inductive Th where
  | non
  | bl (b : Bool)
  | int (i : Int)
  | str (l : List Nat)
  | tup (ts : List Th)
  | lst
  | dct
mutual
inductive Tt (K : PySem.W.Frag) (H : Hp) : V → Th → Prop
  | non : Tt K H .non .non
  | bl (b : Bool) : Tt K H (.bl b) (.bl b)
  | int (i : Int) : Tt K H (.int i) (.int i)
  | str (l : List Nat) (h : l.length ≤ 900) : Tt K H (.str (S l)) (.str l)
  | tup {a : Addr} {xs : List V} {ts : List Th} : SqT K H a xs → TtAll K H xs ts → Tt K H (.ref a) (.tup ts)
  | lst {a : Addr} {xs : List V} : SqL K H a xs → Tt K H (.ref a) .lst
  | dct {a : Addr} {kvs : List (Key × V)} : H a = some (.dK kvs) → Tt K H (.ref a) .dct
inductive TtAll (K : PySem.W.Frag) (H : Hp) : List V → List Th → Prop
  | nil : TtAll K H [] []
  | cons {v : V} {vs : List V} {t : Th} {ts : List Th} : Tt K H v t → TtAll K H vs ts → TtAll K H (v :: vs) (t :: ts)
end
theorem sqT_sm {K : PySem.W.Frag} {H H' : Hp} {a : Addr} {xs : List V} (s : Sm H H') (h : SqT K H a xs) : SqT K H' a xs := by
  rcases h with (h | ⟨o, h⟩) | h
  · exact .inl (.inl (s.tup h))
  · exact .inl (.inr ⟨o, s _ _ h fun _ z => by cases z⟩)
  · exact .inr h
mutual
theorem Tt.sm {K : PySem.W.Frag} {H H' : Hp} (s : Sm H H') : ∀ {v : V} {t : Th}, Tt K H v t → Tt K H' v t
  | _, _, .non => .non
  | _, _, .bl b => .bl b
  | _, _, .int i => .int i
  | _, _, .str l h => .str l h
  | _, _, .tup h r => .tup (sqT_sm s h) (TtAll.sm s r)
  | _, _, .lst h => .lst (s.seq h)
  | _, _, .dct h => .dct (s _ _ h fun _ z => by cases z)
theorem TtAll.sm {K : PySem.W.Frag} {H H' : Hp} (s : Sm H H') : ∀ {vs : List V} {ts : List Th}, TtAll K H vs ts → TtAll K H' vs ts
  | _, _, .nil => .nil
  | _, _, .cons h r => .cons (Tt.sm s h) (TtAll.sm s r)
end
theorem TtAll.len {K : PySem.W.Frag} {H : Hp} : ∀ {vs : List V} {ts : List Th}, TtAll K H vs ts → vs.length = ts.length
  | _, _, .nil => rfl
  | _, _, .cons h r => by rw [List.length_cons, List.length_cons, TtAll.len r]
theorem TtAll.get {K : PySem.W.Frag} {H : Hp} : ∀ {vs : List V} {ts : List Th} (i : Nat) {v : V}, TtAll K H vs ts → vs[i]? = some v → ∃ t, ts[i]? = some t ∧ Tt K H v t
  | _, _, _, _, .nil, h => by cases h
  | _, _, 0, _, .cons h r, e => by
    cases e
    exact ⟨_, rfl, h⟩
  | _, _, i + 1, _, .cons h r, e => TtAll.get i r e
/-- a thing's type -/
def tyN : Th → String
  | .non => "NoneType"
  | .bl _ => "bool"
  | .int _ => "int"
  | .str _ => "str"
  | .tup _ => "tuple"
  | .lst => "list"
  | .dct => "dict"
theorem Tt.ty {K : PySem.W.Frag} {H : Hp} {v : V} {t : Th} (h : Tt K H v t) : TyX K H v (.type (tyN t)) := by
  cases h with
  | non => exact .base .non
  | bl b => exact .base (.bl b)
  | int i => exact .base (.int i)
  | str l h => exact .base (.str _)
  | tup h r =>
    rcases h with (h | ⟨o, h⟩) | ⟨o, its, n, h1, h2, _⟩
    · exact .base (.tup h)
    · exact .fTuple h
    · exact .kTuple h1 h2
  | lst h =>
    rcases h with (h | ⟨o, h⟩) | ⟨o, its, n, h1, h2, _⟩
    · exact .base (.lst h)
    · exact .base (.frz h)
    · exact .kList h1 h2
  | dct h => exact .base (.dK h)
def isS : Th → Bool | .str _ => true | _ => false
def isT : Th → Bool | .tup _ => true | _ => false
def isI : Th → Bool | .bl _ => true | .int _ => true | _ => false
def isB : Th → Bool | .bl _ => true | _ => false
theorem kS (t : Th) : kitB (tyN t) "str" = some (isS t) := by
  cases t with
  | non => decide +kernel
  | bl b => exact (by decide +kernel : kitB "bool" "str" = some false)
  | int i => exact (by decide +kernel : kitB "int" "str" = some false)
  | str l => exact (by decide +kernel : kitB "str" "str" = some true)
  | tup ts => exact (by decide +kernel : kitB "tuple" "str" = some false)
  | lst => decide +kernel
  | dct => decide +kernel
theorem kT (t : Th) : kitB (tyN t) "tuple" = some (isT t) := by
  cases t with
  | non => decide +kernel
  | bl b => exact (by decide +kernel : kitB "bool" "tuple" = some false)
  | int i => exact (by decide +kernel : kitB "int" "tuple" = some false)
  | str l => exact (by decide +kernel : kitB "str" "tuple" = some false)
  | tup ts => exact (by decide +kernel : kitB "tuple" "tuple" = some true)
  | lst => decide +kernel
  | dct => decide +kernel
theorem kI (t : Th) : kitB (tyN t) "int" = some (isI t) := by
  cases t with
  | non => decide +kernel
  | bl b => exact (by decide +kernel : kitB "bool" "int" = some true)
  | int i => exact (by decide +kernel : kitB "int" "int" = some true)
  | str l => exact (by decide +kernel : kitB "str" "int" = some false)
  | tup ts => exact (by decide +kernel : kitB "tuple" "int" = some false)
  | lst => decide +kernel
  | dct => decide +kernel
theorem kB (t : Th) : kitB (tyN t) "bool" = some (isB t) := by
  cases t with
  | non => decide +kernel
  | bl b => exact (by decide +kernel : kitB "bool" "bool" = some true)
  | int i => exact (by decide +kernel : kitB "int" "bool" = some false)
  | str l => exact (by decide +kernel : kitB "str" "bool" = some false)
  | tup ts => exact (by decide +kernel : kitB "tuple" "bool" = some false)
  | lst => decide +kernel
  | dct => decide +kernel
/-! ### d.get(k), d a written dict with texts for keys -/
def KGet (K : PySem.W.Frag) (w : World) (p : Addr) (z : Str) (o : Option V) : Prop := ∃ es n r, K.lookup p = some ⟨.type "dict", none, .dict es n, #[]⟩ ∧ PySem.W.KeysLit w.params es.toList ∧ (p == sysModules) = false ∧ PySem.W.nsIn K p z = some r ∧ RelO o r
def tKGet (K : PySem.W.Frag) (w : World) (td ty : TE) : TE := fun σ H Q => td σ H fun x H1 => ∃ (p : Addr) (es : Array DictEntry) (n : Nat), x = .ref p ∧ K.lookup p = some ⟨.type "dict", none, .dict es n, #[]⟩ ∧ ty σ H1 fun y H2 => ∃ z o, y = .str z ∧ KGet K w p z o ∧ Q (o.getD .non) H2
section
variable {X : Cx} {o e : Expr} {apos cpos : Pos} {td ty : TE}
theorem pe_kget (ho : PE X o td) (he : PE X e ty) (m : M1 X o "get" apos e cpos) : PE X (.Call (.Attribute o "get" apos) [e] [] cpos) (tKGet X.K X.w td ty) := by
  refine ⟨fun pins s σ H Q I h => ?_⟩
  refine wpAny_Call_method m.base m.few m.line PySem.F.plainAttrs_dict PySem.F.slot_dict_get PySem.F.type_dict_get (thn (ho.run pins s σ H _ I h) fun u s1 ⟨x, H1, I1, rx, p, es, n, ex, hl, q1⟩ => ?_)
  subst ex
  cases rx
  refine ⟨⟨_, I1.kIn _ _ hl, rfl⟩, fun b z => ?_, ?_⟩
  · cases z
    exact ⟨_, I1.kIn _ _ hl, rfl⟩
  rw [m.trees]
  refine Calls.callWith_builtin rfl (Calls.evalArgs_plain (Calls.spliced_cons (thn (he.run pins s1 σ H1 _ I1 q1) fun iv s2 ⟨y, H2, I2, ry, z, ov, ey, g, q2⟩ => Calls.spliced_nil ?_)))
  subst ey
  obtain ⟨t, rfl⟩ := ry
  obtain ⟨es2, n2, r, hl2, hk, hs, hn, hr⟩ := g
  have hm := PySem.W.mapOf_K (prog := X.prog) (w := X.w) I2.kIn hl2 hk
  refine call_meetsIn PySem.F.slot_dict_get hm.typeIs PySem.F.entry_dict_get (PySem.F.args_dict_get_2 _ _) (meets_dict_get (strKind X.prog X.w) p (strKind_is X.prog X.w z t) hs) ⟨_, hm, _, H2, I2.tok _, ?_, q2⟩
  rw [PySem.W.find_K hl2 hn]
  exact hr.getD rfl
end
/-- zip of two tuples -/
theorem walk_zipT {K : PySem.W.Frag} {a b : Addr} {xs ys : List V} {n : Nat} (hn : n = min xs.length ys.length) : Walk (RZ.ItzT K a b) n (fun H => SqT K H a xs ∧ SqT K H b ys) (YPair (fun i => xs[i]?) (fun i => ys[i]?)) := by
  subst hn
  refine ⟨fun i _ hi q => ?_, fun _ q => ⟨xs, ys, q.1, q.2, by omega⟩, fun i H v H' _ q y => ?_⟩
  · have h1 : i < xs.length := by omega
    have h2 : i < ys.length := by omega
    exact ⟨xs, ys, xs[i], ys[i], q.1, q.2, by simp [h1], by simp [h2]⟩
  · obtain ⟨T, x, z, h1, h2, h3, h4, h5⟩ := y
    exact ⟨T, x, z, h1, h2, h3, h4 xs q.1, h5 ys q.2⟩
end XD
set_option maxHeartbeats 4000000
/-! The draws of the laws, apart from any row: a pot of a cell's digits and a running number. -/
namespace XW
open PySem PySem.Spec PyProof.Rows L2 HM
/-- the k-th cell, or 0 -/
def spAt (K : PySem.W.Frag) : Sp := fun vs H Q _ => ∃ (a : Addr) (ns : List Int) (k : Nat), vs = [.ref a, .int k] ∧ SqL K H a (ns.map V.int) ∧ Q (.int (ns.getD k 0)) H
/-- a pot: what is left of the cell's digits, and the running number -/
structure PotOk (p0 p1 : Int) : Prop where
  h0 : 0 ≤ p0
  h1 : 0 ≤ p1
  h2 : p1 < 2147483648
def PotAt (H : Hp) (l : Addr) : Prop := ∃ p0 p1, H l = some (.lst [.int p0, .int p1]) ∧ PotOk p0 p1
def spPot (K : PySem.W.Frag) : Sp := fun vs H Q _ => ∃ (a : Addr) (ns : List Int) (k : Nat), vs = [.ref a, .int k] ∧ k ≤ 100 ∧ SqL K H a (ns.map V.int) ∧ ∀ l p0 p1, H l = none → PotOk p0 p1 → Q (.ref l) (upd H l (.lst [.int p0, .int p1]))
/-- a draw: some number below many; the pot goes on -/
def spDraw : Sp := fun vs H Q _ => ∃ (l : Addr) (many p0 p1 : Int), vs = [.ref l, .int many] ∧ 0 < many ∧ many.natAbs.log2 < 9000 ∧ H l = some (.lst [.int p0, .int p1]) ∧ PotOk p0 p1 ∧
  ∀ H' d, (∀ b o, H b = some o → b ≠ l → H' b = some o) → PotAt H' l → 0 ≤ d → d < many → Q (.int d) H'
/-! ### heaps that go on but for a pot -/
def Ch (l : Addr) (H H' : Hp) : Prop := ∀ b o, H b = some o → b ≠ l → H' b = some o
theorem Ch.refl (l : Addr) (H : Hp) : Ch l H H := fun _ _ e _ => e
theorem Ch.trans {l : Addr} {H H1 H2 : Hp} (a : Ch l H H1) (b : Ch l H1 H2) : Ch l H H2 := fun c o e n => b c o (a c o e n) n
theorem Ch.new {l : Addr} {H : Hp} {p : Addr} {o : HO} (h : H p = none) : Ch l H (upd H p o) := fun b u e _ => by
  rw [upd_ne (ne_of_none e h)]
  exact e
/-- a new thing is changed -/
theorem Ch.over {l : Addr} {H H1 : Hp} {p : Addr} {o : HO} (a : Ch l H H1) (h : H p = none) : Ch l H (upd H1 p o) := fun b u e n => by
  rw [upd_ne (ne_of_none e h)]
  exact a b u e n
theorem Ch.free {l : Addr} {H H1 : Hp} {p : Addr} (a : Ch l H H1) (h : H1 p = none) (n : p ≠ l) : H p = none := by
  cases e : H p with
  | none => rfl
  | some o =>
    rw [a p o e n] at h
    cases h
theorem map_snoc {α : Type} (f : α → V) (xs : List α) (x : α) : xs.map f ++ [f x] = (xs ++ [x]).map f := by simp
theorem PotAt.new {l : Addr} {H : Hp} {p : Addr} {o : HO} (h : PotAt H l) (hp : p ≠ l) : PotAt (upd H p o) l := by
  obtain ⟨p0, p1, e, k⟩ := h
  exact ⟨p0, p1, by rw [upd_ne (Ne.symm hp)]; exact e, k⟩
theorem PotAt.ne {l : Addr} {H : Hp} {p : Addr} (h : PotAt H l) (hp : H p = none) : p ≠ l := by
  obtain ⟨p0, p1, e, k⟩ := h
  exact fun z => by
    rw [z, e] at hp
    cases hp
theorem draw_of {l : Addr} {H : Hp} {many : Int} {Q : VK} {E : XK} (hP : PotAt H l) (h0 : 0 < many) (h1 : many.natAbs.log2 < 9000) (q : ∀ H' d, Ch l H H' → PotAt H' l → 0 ≤ d → d < many → Q (.int d) H') : spDraw ([.ref l, .int many] ++ []) H Q E := by
  obtain ⟨p0, p1, e, k⟩ := hP
  exact ⟨l, many, p0, p1, rfl, h0, h1, e, k, q⟩
theorem len_join (a : Str) (ys : List Str) : (Txt.join a ys).length ≤ (ys.map (·.length)).sum + ys.length * a.length := by
  rw [TL.join_eq]
  exact StrLaws.join_length_le a ys
theorem str_len (x y : Str) : (x ++ y).length = x.length + y.length := strLen_append x y
/-! ### signs that a text may have -/
def okS (z : Str) : Prop := ∀ c ∈ z.cps.toList, c < 1114112
theorem okS_cut {z : Str} (h : okS z) (lo hi : Option Int) : okS (cutS z lo hi) := fun c hc => h c (List.mem_of_mem_drop (List.mem_of_mem_take hc))
theorem okS_app {x y : Str} (hx : okS x) (hy : okS y) : okS (x ++ y) := fun c hc => by
  have e : (x ++ y).cps.toList = x.cps.toList ++ y.cps.toList := TL.tl_append x y
  rw [e] at hc
  rcases List.mem_append.mp hc with z | z
  · exact hx c z
  · exact hy c z
theorem okS_one {c : Nat} (h : c < 1114112) : okS ⟨#[c]⟩ := fun d hd => by
  have e : d = c := by simpa using hd
  rw [e]
  exact h
theorem okS_strJoin {a : Str} (ha : okS a) : ∀ {ys : List Str}, (∀ y ∈ ys, okS y) → okS (Str.join a ys)
  | [], _ => fun c hc => by
    have : c ∈ ([] : List Nat) := hc
    cases this
  | [x], h => h x List.mem_cons_self
  | x :: z :: r, h => okS_app (okS_app (h x List.mem_cons_self) ha) (okS_strJoin ha fun y hy => h y (List.mem_cons_of_mem _ hy))
theorem okS_join {a : Str} (ha : okS a) {ys : List Str} (h : ∀ y ∈ ys, okS y) : okS (Txt.join a ys) := by
  rw [TL.join_eq]
  exact okS_strJoin ha h
abbrev abc : Str := Str.ofString "abcdefghijklmnopqrstuvwxyz"
theorem abc_len : abc.cps.toList.length = 26 := by decide +kernel
/-- the scope of the outer comprehension of the words -/
def lcScope : Expr → Scope
  | .ListComp _ _ sc _ => sc
  | _ => { kind := .function, names := [], isGenerator := false, isCoroutine := false }
def asgVal : Stmt → Expr
  | .Assign _ v _ => v
  | _ => .Constant .none 0 ⟨0, 0, 0, 0⟩
/-- a comprehension's scope within a def's -/
abbrev relab (sc outer : Scope) : Scope := relabel sc (envOfC "" outer 0 0 .none)
/-- sep.join(list) -/
def rJoin (K : PySem.W.Frag) : V → List V → Hp → VK → Prop := fun x xs H Q => ∃ a p, ∃ ys : List Str, x = .str a ∧ xs = [.ref p] ∧ (SqL K H p (ys.map V.str) ∨ SqT K H p (ys.map V.str)) ∧ (ys.map (·.length)).sum + ys.length * a.length ≤ 16777216 ∧ Q (.str (Txt.join a ys)) H
theorem sum_ones : ∀ (ws : List Str), (∀ z ∈ ws, z.length = 1 ∧ okS z) → (ws.map (·.length)).sum = ws.length
  | [], _ => rfl
  | z :: ws, h => by
    have h1 := (h z List.mem_cons_self).1
    have h2 := sum_ones ws fun y hy => h y (List.mem_cons_of_mem _ hy)
    rw [List.map_cons, List.sum_cons, List.length_cons]
    omega
end XW
set_option maxHeartbeats 4000000
/-! Data that laws draw and hand on: trees of tuples, lists, texts, numbers and empty dicts; what is kept while pots go on. -/
namespace XR
open PySem PySem.Spec PyProof.Rows L2 HM XW K11
/-! a pot's numbers -/
theorem PotAt.ex {H : Hp} {l : Addr} (h : PotAt H l) : ∃ q : Int × Int, H l = some (.lst [.int q.1, .int q.2]) ∧ PotOk q.1 q.2 := by
  obtain ⟨a, b, c, d⟩ := h
  exact ⟨(a, b), c, d⟩
noncomputable def pa {H : Hp} {l : Addr} (h : PotAt H l) : Int := (PotAt.ex h).choose.1
noncomputable def pb {H : Hp} {l : Addr} (h : PotAt H l) : Int := (PotAt.ex h).choose.2
theorem ph {H : Hp} {l : Addr} (h : PotAt H l) : H l = some (.lst [.int (pa h), .int (pb h)]) := (PotAt.ex h).choose_spec.1
theorem pk {H : Hp} {l : Addr} (h : PotAt H l) : PotOk (pa h) (pb h) := (PotAt.ex h).choose_spec.2
mutual
inductive Rg (Av : Addr → Prop) (H : Hp) : V → PyData → Prop
  | non : Rg Av H .non .none
  | bl (b : Bool) : Rg Av H (.bl b) (.bool b)
  | int (i : Int) : Rg Av H (.int i) (.int i)
  | str (x : Str) : Rg Av H (.str x) (.str x)
  | lst {a : Addr} {xs : List V} {ds : List PyData} : ¬ Av a → H a = some (.lst xs) → RgAll Av H xs ds → Rg Av H (.ref a) (.list ds)
  | tup {a : Addr} {xs : List V} {ds : List PyData} : H a = some (.tup xs) → RgAll Av H xs ds → Rg Av H (.ref a) (.tuple ds)
  | dct {a : Addr} : ¬ Av a → H a = some (.dK []) → Rg Av H (.ref a) (.dict [])
inductive RgAll (Av : Addr → Prop) (H : Hp) : List V → List PyData → Prop
  | nil : RgAll Av H [] []
  | cons {v : V} {vs : List V} {d : PyData} {ds : List PyData} : Rg Av H v d → RgAll Av H vs ds → RgAll Av H (v :: vs) (d :: ds)
end
/-- tuples are kept, and lists and dicts that aren't among Av -/
def Kq (Av : Addr → Prop) (H H' : Hp) : Prop := ∀ b o, H b = some o → ((∃ xs, o = .tup xs) ∨ (¬ Av b ∧ ((∃ xs, o = .lst xs) ∨ ∃ kvs, o = .dK kvs))) → H' b = some o
theorem Kq.refl (Av : Addr → Prop) (H : Hp) : Kq Av H H := fun _ _ e _ => e
theorem Kq.trans {Av : Addr → Prop} {H H1 H2 : Hp} (a : Kq Av H H1) (b : Kq Av H1 H2) : Kq Av H H2 := fun c o e n => b c o (a c o e n) n
theorem Kq.new {Av : Addr → Prop} {H : Hp} {p : Addr} {o : HO} (h : H p = none) : Kq Av H (upd H p o) := fun b u e _ => by
  rw [upd_ne (ne_of_none e h)]
  exact e
theorem Kq.over {Av : Addr → Prop} {H H1 : Hp} {p : Addr} {o : HO} (a : Kq Av H H1) (h : H p = none) : Kq Av H (upd H1 p o) := fun b u e n => by
  rw [upd_ne (ne_of_none e h)]
  exact a b u e n
/-- a list among Av is changed -/
theorem Kq.put {Av : Addr → Prop} {H : Hp} {p : Addr} {o : HO} {xs : List V} (h : H p = some (.lst xs)) (hp : Av p) : Kq Av H (upd H p o) := fun b u e n => by
  by_cases z : b = p
  · subst z
    rw [h] at e
    cases e
    rcases n with ⟨ys, n⟩ | ⟨n, _⟩
    · cases n
    · exact absurd hp n
  · rw [upd_ne z]
    exact e
theorem Kq.mono {Av Bv : Addr → Prop} {H H' : Hp} (k : Kq Av H H') (h : ∀ b, Av b → Bv b) : Kq Bv H H' := fun b o e n => k b o e (n.imp id fun z => ⟨fun y => z.1 (h b y), z.2⟩)
theorem Kq.ofSm {Av : Addr → Prop} {H H' : Hp} (k : Sm H H') : Kq Av H H' := fun b o e n => k b o e fun ps z => by
  subst z
  rcases n with ⟨xs, n⟩ | ⟨_, ⟨xs, n⟩ | ⟨xs, n⟩⟩ <;> cases n
theorem Kq.ofCh {l : Addr} {H H' : Hp} {Av : Addr → Prop} (k : Ch l H H') (hl : Av l) (hP : PotAt H l) : Kq Av H H' := fun b o e n => by
  refine k b o e fun z => ?_
  subst z
  obtain ⟨p0, p1, e2, _⟩ := hP
  rw [e2] at e
  cases e
  rcases n with ⟨ys, n⟩ | ⟨n, _⟩
  · cases n
  · exact n hl
mutual
theorem Rg.kq {Av : Addr → Prop} {H H' : Hp} (k : Kq Av H H') : ∀ {v : V} {d : PyData}, Rg Av H v d → Rg Av H' v d
  | _, _, .non => .non
  | _, _, .bl b => .bl b
  | _, _, .int i => .int i
  | _, _, .str x => .str x
  | _, _, .lst n h r => .lst n (k _ _ h (.inr ⟨n, .inl ⟨_, rfl⟩⟩)) (RgAll.kq k r)
  | _, _, .tup h r => .tup (k _ _ h (.inl ⟨_, rfl⟩)) (RgAll.kq k r)
  | _, _, .dct n h => .dct n (k _ _ h (.inr ⟨n, .inr ⟨_, rfl⟩⟩))
theorem RgAll.kq {Av : Addr → Prop} {H H' : Hp} (k : Kq Av H H') : ∀ {vs : List V} {ds : List PyData}, RgAll Av H vs ds → RgAll Av H' vs ds
  | _, _, .nil => .nil
  | _, _, .cons h r => .cons (Rg.kq k h) (RgAll.kq k r)
end
mutual
theorem Rg.mono {Av Bv : Addr → Prop} {H : Hp} (k : ∀ b, Bv b → Av b) : ∀ {v : V} {d : PyData}, Rg Av H v d → Rg Bv H v d
  | _, _, .non => .non
  | _, _, .bl b => .bl b
  | _, _, .int i => .int i
  | _, _, .str x => .str x
  | _, _, .lst n h r => .lst (fun z => n (k _ z)) h (RgAll.mono k r)
  | _, _, .tup h r => .tup h (RgAll.mono k r)
  | _, _, .dct n h => .dct (fun z => n (k _ z)) h
theorem RgAll.mono {Av Bv : Addr → Prop} {H : Hp} (k : ∀ b, Bv b → Av b) : ∀ {vs : List V} {ds : List PyData}, RgAll Av H vs ds → RgAll Bv H vs ds
  | _, _, .nil => .nil
  | _, _, .cons h r => .cons (Rg.mono k h) (RgAll.mono k r)
end
theorem RgAll.len {Av : Addr → Prop} {H : Hp} : ∀ {vs : List V} {ds : List PyData}, RgAll Av H vs ds → vs.length = ds.length
  | _, _, .nil => rfl
  | _, _, .cons h r => by rw [List.length_cons, List.length_cons, RgAll.len r]
theorem RgAll.get {Av : Addr → Prop} {H : Hp} : ∀ {vs : List V} {ds : List PyData} (i : Nat) {v : V}, RgAll Av H vs ds → vs[i]? = some v → ∃ d, ds[i]? = some d ∧ Rg Av H v d
  | _, _, _, _, .nil, h => by cases h
  | _, _, 0, _, .cons h r, e => by
    cases e
    exact ⟨_, rfl, h⟩
  | _, _, i + 1, _, .cons h r, e => RgAll.get i r e
theorem RgAll.get' {Av : Addr → Prop} {H : Hp} : ∀ {vs : List V} {ds : List PyData} (i : Nat) {d : PyData}, RgAll Av H vs ds → ds[i]? = some d → ∃ v, vs[i]? = some v ∧ Rg Av H v d
  | _, _, _, _, .nil, h => by cases h
  | _, _, 0, _, .cons h r, e => by
    cases e
    exact ⟨_, rfl, h⟩
  | _, _, i + 1, _, .cons h r, e => RgAll.get' i r e
theorem RgAll.append {Av : Addr → Prop} {H : Hp} : ∀ {vs ws : List V} {ds es : List PyData}, RgAll Av H vs ds → RgAll Av H ws es → RgAll Av H (vs ++ ws) (ds ++ es)
  | _, _, _, _, .nil, r => r
  | _, _, _, _, .cons h r, t => .cons h (RgAll.append r t)
theorem RgAll.snoc {Av : Addr → Prop} {H : Hp} {vs : List V} {ds : List PyData} {v : V} {d : PyData} (r : RgAll Av H vs ds) (h : Rg Av H v d) : RgAll Av H (vs ++ [v]) (ds ++ [d]) := r.append (.cons h .nil)
theorem RgAll.strs {Av : Addr → Prop} {H : Hp} : ∀ ws : List Str, RgAll Av H (ws.map V.str) (ws.map PyData.str)
  | [] => .nil
  | w :: ws => .cons (.str w) (RgAll.strs ws)
/-! ### what rows are drawn -/
def nmOk (z : Str) : Prop := nameL z.cps.toList = true
def ptOk (z : Str) : Prop := ∃ ws : List Str, z = Txt.join "." ws ∧ 1 ≤ ws.length ∧ ws.length ≤ 4 ∧ ∀ w ∈ ws, nmOk w
def greatW : List Str := ["NOMODULE", "NONAME", "HALF", "FLAT", "NOTASK", "ALL"]
def wdsOk (ws : List Str) : Prop := ws.length ≤ 3 ∧ ws.Nodup ∧ ∀ w ∈ ws, w ∈ greatW ∨ nmOk w
inductive LineOk : PyData → Prop
  | set {z : Str} {n : Int} : nmOk z → n.natAbs < 10 ^ 60 → LineOk (.tuple [.str "set", .str z, .int n])
  | road {w z p : Str} : w ∈ (["now", "take", "late", "ask"] : List Str) → nmOk z → ptOk p → LineOk (.tuple [.str w, .str z, .str p])
  | draw {z p y : Str} : nmOk z → ptOk p → nmOk y → LineOk (.tuple [.str "draw", .str z, .str p, .str y])
  | note {p : Str} : ptOk p → LineOk (.tuple [.str "note", .str p])
  | fail {z : Str} : nmOk z → LineOk (.tuple [.str "fail", .str z])
mutual
/-- a row, n tries at most one within another, c rows all counted -/
inductive OkR : Nat → Nat → PyData → Prop
  | line {n : Nat} {d : PyData} : LineOk d → OkR n 1 d
  | tri {n c1 c2 : Nat} {as bs : List PyData} {ws : List Str} : OkRs n c1 as → wdsOk ws → OkRs n c2 bs → OkR (n + 1) (c1 + c2 + 1) (.tuple [.str "try", .tuple as, .tuple (ws.map PyData.str), .tuple bs])
inductive OkRs : Nat → Nat → List PyData → Prop
  | nil {n : Nat} : OkRs n 0 []
  | cons {n c e : Nat} {d : PyData} {ds : List PyData} : OkR n c d → OkRs n e ds → OkRs n (c + e) (d :: ds)
end
theorem OkRs.snoc {n : Nat} : ∀ {c e : Nat} {ds : List PyData} {d : PyData}, OkRs n c ds → OkR n e d → OkRs n (c + e) (ds ++ [d])
  | _, e, _, _, .nil, h => by
    have := OkRs.cons h OkRs.nil
    rw [Nat.add_zero] at this
    rw [Nat.zero_add]
    exact this
  | _, e, _, _, .cons h r, k => by
    rw [Nat.add_assoc]
    exact .cons h (OkRs.snoc r k)
theorem OkRs.len {n : Nat} : ∀ {c : Nat} {ds : List PyData}, OkRs n c ds → ds.length ≤ c
  | _, _, .nil => Nat.le_refl _
  | _, _, .cons h r => by
    have := OkRs.len r
    rw [List.length_cons]
    cases h <;> omega
/-! ### a name's letters -/
theorem nm_len {z : Str} (h : nmOk z) : z.length ≤ 8 ∧ 1 ≤ z.length := by
  have h2 : nameL z.cps.toList = true := h
  unfold nameL at h2
  obtain ⟨h3, _⟩ := Bool.and_eq_true_iff.mp h2
  obtain ⟨h4, h5⟩ := Bool.and_eq_true_iff.mp h3
  have a := of_decide_eq_true h4
  have b := of_decide_eq_true h5
  rw [Array.length_toList] at a b
  exact ⟨b, a⟩
theorem nm_low {z : Str} (h : nmOk z) : ∀ c ∈ z.cps.toList, low c = true := by
  have h2 : nameL z.cps.toList = true := h
  unfold nameL at h2
  exact List.all_eq_true.mp (Bool.and_eq_true_iff.mp h2).2
def lowS (z : Str) : Prop := z.length = 1 ∧ ∀ c ∈ z.cps.toList, low c = true
theorem join0_all {Pr : Nat → Prop} : ∀ {ys : List Str}, (∀ y ∈ ys, ∀ c ∈ y.cps.toList, Pr c) → ∀ c ∈ (Str.join (Str.ofString "") ys).cps.toList, Pr c
  | [], _ => fun c hc => by
    have : c ∈ ([] : List Nat) := hc
    cases this
  | [x], h => h x List.mem_cons_self
  | x :: z :: r, h => fun c hc => by
    have e : (Str.join (Str.ofString "") (x :: z :: r)).cps.toList = (x ++ Str.ofString "").cps.toList ++ (Str.join (Str.ofString "") (z :: r)).cps.toList := TL.tl_append _ _
    have e2 : (x ++ Str.ofString "").cps.toList = x.cps.toList ++ (Str.ofString "").cps.toList := TL.tl_append _ _
    rw [e, e2] at hc
    rcases List.mem_append.mp hc with y | y
    · rcases List.mem_append.mp y with y | y
      · exact h x List.mem_cons_self c y
      · have : (Str.ofString "").cps.toList = [] := by decide +kernel
        rw [this] at y
        cases y
    · exact join0_all (fun y hy => h y (List.mem_cons_of_mem _ hy)) c y
theorem str_add_len (a b : Str) : (a ++ b).length = a.length + b.length := strLen_append a b
theorem join0_len : ∀ (ys : List Str), (Str.join (Str.ofString "") ys).length = (ys.map (·.length)).sum
  | [] => rfl
  | [x] => by simp [Str.join]
  | x :: z :: r => by
    have e : Str.join (Str.ofString "") (x :: z :: r) = (x ++ Str.ofString "") ++ Str.join (Str.ofString "") (z :: r) := rfl
    have e0 : (Str.ofString "").length = 0 := by decide +kernel
    rw [e, str_add_len, str_add_len, e0, join0_len (z :: r), Nat.add_zero]
    simp only [List.map_cons, List.sum_cons]
theorem nm_join {ys : List Str} (h : ∀ y ∈ ys, lowS y) (h1 : 1 ≤ ys.length) (h8 : ys.length ≤ 8) : nmOk (Txt.join (Str.ofString "") ys) := by
  rw [TL.join_eq]
  have hs : ∀ l : List Str, (∀ y ∈ l, lowS y) → (l.map (·.length)).sum = l.length := fun l => by
    induction l with
    | nil => intro _; rfl
    | cons a l ih =>
      intro hh
      rw [List.map_cons, List.sum_cons, ih (fun y hy => hh y (List.mem_cons_of_mem _ hy)), (hh a List.mem_cons_self).1, List.length_cons]
      omega
  have hl : (Str.join (Str.ofString "") ys).cps.toList.length = ys.length := by
    rw [Array.length_toList]
    exact (join0_len ys).trans (hs ys h)
  unfold nmOk nameL
  rw [hl, decide_eq_true h1, decide_eq_true h8, List.all_eq_true.mpr (join0_all fun y hy => (h y hy).2)]
  rfl
theorem abc_low : ∀ d ∈ abc.cps.toList, low d = true := by decide +kernel
end XR
set_option maxHeartbeats 4000000
/-! Bodies as texts: the mathematics. -/
namespace XT2
open PySem PySem.Spec PyProof.Rows L2 HM XW XR K11 SX TL
/-! ### numbers -/
abbrev numT (i : Int) : Str := Str.ofString (toString i)
def numC (i : Int) : List Nat := match i with
  | .ofNat n => numL n
  | .negSucc n => 45 :: numL (n + 1)
theorem tl_numT (i : Int) : tl (numT i) = numC i := by
  cases i with
  | ofNat n => exact tl_num n
  | negSucc n =>
    show (Str.ofString ("-" ++ Nat.repr (n + 1))).cps.toList = 45 :: numL (n + 1)
    rw [signs_ofString]
    show ("-" ++ Nat.repr (n + 1)).toList.map Char.toNat = _
    rw [String.toList_append, List.map_append, Nat.toList_repr]
    rfl
theorem numC_ok (i : Int) : ∀ c ∈ numC i, c = 45 ∨ (48 ≤ c ∧ c ≤ 57) := by
  cases i with
  | ofNat n => exact fun c hc => .inr (numL_digits n c hc)
  | negSucc n =>
    intro c hc
    rcases List.mem_cons.mp hc with z | z
    · exact .inl z
    · exact .inr (numL_digits (n + 1) c z)
theorem numC_len {i : Int} (h : i.natAbs < 10 ^ 60) : (numC i).length ≤ 61 := by
  cases i with
  | ofNat n =>
    have := numL_len (n := n) (k := 60) (by decide) h
    show (numL n).length ≤ 61
    omega
  | negSucc n =>
    have := numL_len (n := n + 1) (k := 60) (by decide) h
    show (numL (n + 1)).length + 1 ≤ 61
    omega
theorem num_back {i : Int} (h : i.natAbs < 10 ^ 60) : intText? (numT i) = some i ∧ (numT i).length ≤ 640 := by
  have hl := numC_len h
  have e := tl_numT i
  have h2 : (numT i).length ≤ 61 := by
    rw [len_tl, e]
    exact hl
  refine ⟨?_, by omega⟩
  cases i with
  | ofNat n => exact int_num (by have : (numL n).length ≤ 61 := hl; omega)
  | negSucc n =>
    have e2 := intText_neg (x := numT (.negSucc n)) (cs := numL (n + 1)) e (numL_digits _) (numL_ne _) (by omega)
    rw [numL_val] at e2
    exact e2
/-! ### rows as lines -/
def partT : PyData → Str
  | .str x => x
  | .int i => numT i
  | _ => Str.ofString ""
abbrev blank : Str := Str.ofString " "
abbrev lf : Str := Str.ofString "\n"
theorem tl_blank : tl blank = [32] := by decide +kernel
theorem tl_lf : tl lf = [10] := by decide +kernel
def lineT (ps : List PyData) : Str := Txt.join blank (ps.map partT)
def caughtT (ws : List Str) : Str := Txt.join blank (Str.ofString "caught" :: ws)
/-- signs that texts of parts may have -/
def goodC (c : Nat) : Prop := c ≠ 32 ∧ c ≠ 10
def goodW (z : Str) : Prop := (∀ c ∈ tl z, goodC c) ∧ z.length ≤ 61
theorem good_nm {z : Str} (h : nmOk z) : goodW z := by
  refine ⟨fun c hc => ?_, by have := (nm_len h).1; omega⟩
  have := nm_low h c hc
  unfold low at this
  obtain ⟨h1, _⟩ := Bool.and_eq_true_iff.mp this
  have h2 := of_decide_eq_true h1
  exact ⟨by omega, by omega⟩
theorem mem_joinL {s : Nat} : ∀ {parts : List (List Nat)} {c : Nat}, c ∈ joinL [s] parts → c = s ∨ ∃ p ∈ parts, c ∈ p
  | [], c, h => by cases h
  | [p], c, h => .inr ⟨p, List.mem_singleton.mpr rfl, h⟩
  | p :: q :: r, c, h => by
    have h2 : c ∈ p ++ ([s] ++ joinL [s] (q :: r)) := h
    rcases List.mem_append.mp h2 with z | z
    · exact .inr ⟨p, List.mem_cons_self, z⟩
    · rcases List.mem_append.mp z with z | z
      · exact .inl (List.mem_singleton.mp z)
      · rcases mem_joinL z with y | ⟨y, hy, hc⟩
        · exact .inl y
        · exact .inr ⟨y, List.mem_cons_of_mem _ hy, hc⟩
theorem tl_dot : tl (Str.ofString ".") = [46] := by decide +kernel
theorem good_pt {z : Str} (h : ptOk z) : goodW z := by
  obtain ⟨ws, rfl, h1, h4, hw⟩ := h
  refine ⟨fun c hc => ?_, ?_⟩
  · rw [join_eq, tl_join, tl_dot] at hc
    rcases mem_joinL hc with y | ⟨p, hp, hc⟩
    · exact ⟨by omega, by omega⟩
    · obtain ⟨z, hz, rfl⟩ := List.mem_map.mp hp
      exact (good_nm (hw z hz)).1 c hc
  · have h := len_join (Str.ofString ".") ws
    have h1 : (Str.ofString ".").length = 1 := by decide +kernel
    have go : ∀ l : List Str, (∀ w ∈ l, nmOk w) → (l.map (·.length)).sum ≤ 8 * l.length := fun l => by
      induction l with
      | nil => intro _; exact Nat.le_refl _
      | cons a l ih =>
        intro hh
        have := (nm_len (hh a List.mem_cons_self)).1
        have := ih fun y hy => hh y (List.mem_cons_of_mem _ hy)
        rw [List.map_cons, List.sum_cons, List.length_cons]
        omega
    have := go ws hw
    rw [h1] at h
    omega
theorem good_num {i : Int} (h : i.natAbs < 10 ^ 60) : goodW (numT i) := by
  refine ⟨fun c hc => ?_, ?_⟩
  · rw [tl_numT] at hc
    rcases numC_ok i c hc with z | z
    · exact ⟨by omega, by omega⟩
    · exact ⟨by omega, by omega⟩
  · rw [len_tl, tl_numT]
    exact numC_len h
theorem good_great : ∀ z ∈ greatW, (∀ c ∈ tl z, goodC c) ∧ z.length ≤ 8 := by
  unfold goodC
  decide +kernel
theorem good_lit : ∀ z ∈ (["set", "now", "take", "late", "ask", "draw", "note", "fail", "caught", "done", "try"] : List Str), (∀ c ∈ tl z, goodC c) ∧ z.length ≤ 6 := by
  unfold goodC
  decide +kernel
def rowWords : List Str := ["set", "now", "take", "late", "ask", "draw", "note", "fail"]
/-- what a line's parts are -/
structure LineF (ps : List PyData) : Prop where
  len : 2 ≤ ps.length ∧ ps.length ≤ 4
  parts : ∀ p ∈ ps, (∃ x, p = .str x) ∨ ∃ i : Int, p = .int i ∧ i.natAbs < 10 ^ 60
  good : ∀ p ∈ ps, goodW (partT p)
  head : ∃ w r, ps = .str w :: r ∧ w ∈ rowWords
  kind : (∃ z n, ps = [.str "set", .str z, .int n] ∧ n.natAbs < 10 ^ 60) ∨ (∃ ws : List Str, ps = ws.map PyData.str ∧ ∃ w r, ws = w :: r ∧ w ≠ Str.ofString "set")
theorem lineF {d : PyData} (h : LineOk d) : ∃ ps, d = .tuple ps ∧ LineF ps := by
  have gl : ∀ {z : Str}, z ∈ (["set", "now", "take", "late", "ask", "draw", "note", "fail", "caught", "done", "try"] : List Str) → goodW z := fun {z} hz => ⟨(good_lit z hz).1, by have := (good_lit z hz).2; omega⟩
  cases h with
  | @set z n hz hn =>
    refine ⟨_, rfl, ⟨by show 2 ≤ 3; decide, by show 3 ≤ 4; decide⟩, fun p hp => ?_, fun p hp => ?_, ⟨_, _, rfl, by decide⟩, .inl ⟨_, _, rfl, hn⟩⟩
    · simp only [List.mem_cons, List.not_mem_nil, or_false] at hp
      rcases hp with rfl | rfl | rfl
      · exact .inl ⟨_, rfl⟩
      · exact .inl ⟨_, rfl⟩
      · exact .inr ⟨_, rfl, hn⟩
    · simp only [List.mem_cons, List.not_mem_nil, or_false] at hp
      rcases hp with rfl | rfl | rfl
      · exact gl (by decide)
      · exact good_nm hz
      · exact good_num hn
  | @road w z p hw hz hp =>
    have hw2 : w ∈ rowWords ∧ w ≠ Str.ofString "set" ∧ w ∈ (["set", "now", "take", "late", "ask", "draw", "note", "fail", "caught", "done", "try"] : List Str) := by
      revert w
      decide
    refine ⟨_, rfl, ⟨by show 2 ≤ 3; decide, by show 3 ≤ 4; decide⟩, fun q hq => ?_, fun q hq => ?_, ⟨_, _, rfl, hw2.1⟩, .inr ⟨[w, z, p], rfl, w, _, rfl, hw2.2.1⟩⟩
    · simp only [List.mem_cons, List.not_mem_nil, or_false] at hq
      rcases hq with rfl | rfl | rfl <;> exact .inl ⟨_, rfl⟩
    · simp only [List.mem_cons, List.not_mem_nil, or_false] at hq
      rcases hq with rfl | rfl | rfl
      · exact gl hw2.2.2
      · exact good_nm hz
      · exact good_pt hp
  | @draw z p y hz hp hy =>
    refine ⟨_, rfl, ⟨by show 2 ≤ 4; decide, by show 4 ≤ 4; decide⟩, fun q hq => ?_, fun q hq => ?_, ⟨_, _, rfl, by decide⟩, .inr ⟨["draw", z, p, y], rfl, _, _, rfl, by decide⟩⟩
    · simp only [List.mem_cons, List.not_mem_nil, or_false] at hq
      rcases hq with rfl | rfl | rfl | rfl <;> exact .inl ⟨_, rfl⟩
    · simp only [List.mem_cons, List.not_mem_nil, or_false] at hq
      rcases hq with rfl | rfl | rfl | rfl
      · exact gl (by decide)
      · exact good_nm hz
      · exact good_pt hp
      · exact good_nm hy
  | @note p hp =>
    refine ⟨_, rfl, ⟨by show 2 ≤ 2; decide, by show 2 ≤ 4; decide⟩, fun q hq => ?_, fun q hq => ?_, ⟨_, _, rfl, by decide⟩, .inr ⟨["note", p], rfl, _, _, rfl, by decide⟩⟩
    · simp only [List.mem_cons, List.not_mem_nil, or_false] at hq
      rcases hq with rfl | rfl <;> exact .inl ⟨_, rfl⟩
    · simp only [List.mem_cons, List.not_mem_nil, or_false] at hq
      rcases hq with rfl | rfl
      · exact gl (by decide)
      · exact good_pt hp
  | @fail z hz =>
    refine ⟨_, rfl, ⟨by show 2 ≤ 2; decide, by show 2 ≤ 4; decide⟩, fun q hq => ?_, fun q hq => ?_, ⟨_, _, rfl, by decide⟩, .inr ⟨["fail", z], rfl, _, _, rfl, by decide⟩⟩
    · simp only [List.mem_cons, List.not_mem_nil, or_false] at hq
      rcases hq with rfl | rfl <;> exact .inl ⟨_, rfl⟩
    · simp only [List.mem_cons, List.not_mem_nil, or_false] at hq
      rcases hq with rfl | rfl
      · exact gl (by decide)
      · exact good_nm hz
theorem blank_k : blank.cps.all (· < 256) = true := by decide +kernel
/-- words with blanks between, split -/
theorem split_words {ws : List Str} (hne : ws ≠ []) (h : ∀ w ∈ ws, ∀ c ∈ tl w, goodC c) : Txt.split (Txt.join blank ws) blank = ws := split_join tl_blank blank_k hne fun p hp hc => (h p hp 32 hc).1 rfl
theorem nolf_words {ws : List Str} (h : ∀ w ∈ ws, ∀ c ∈ tl w, goodC c) : 10 ∉ tl (Txt.join blank ws) := fun hc => by
  rw [join_eq, tl_join, tl_blank] at hc
  rcases mem_joinL hc with y | ⟨p, hp, hc⟩
  · omega
  · obtain ⟨z, hz, rfl⟩ := List.mem_map.mp hp
    exact (h z hz 10 hc).2 rfl
theorem len_words {ws : List Str} {n : Nat} (h : ∀ w ∈ ws, w.length ≤ n) : (Txt.join blank ws).length ≤ (n + 1) * ws.length := by
  have h2 := len_join blank ws
  have h1 : blank.length = 1 := by decide +kernel
  have go : ∀ l : List Str, (∀ w ∈ l, w.length ≤ n) → (l.map (·.length)).sum ≤ n * l.length := fun l => by
    induction l with
    | nil => intro _; exact Nat.zero_le _
    | cons a l ih =>
      intro hh
      have h3 := hh a List.mem_cons_self
      have h4 := ih fun y hy => hh y (List.mem_cons_of_mem _ hy)
      rw [List.map_cons, List.sum_cons, List.length_cons, Nat.mul_succ]
      omega
  have := go ws h
  rw [h1, Nat.mul_one] at h2
  rw [Nat.add_mul, Nat.one_mul]
  omega
theorem map_good {ps : List PyData} (h : LineF ps) : ∀ w ∈ ps.map partT, ∀ c ∈ tl w, goodC c := fun w hw => by
  obtain ⟨p, hp, rfl⟩ := List.mem_map.mp hw
  exact (h.good p hp).1
theorem line_split {ps : List PyData} (h : LineF ps) : Txt.split (lineT ps) blank = ps.map partT := by
  refine split_words (fun e => ?_) (map_good h)
  have := h.len.1
  rw [List.map_eq_nil_iff.mp e] at this
  simp at this
theorem line_nolf {ps : List PyData} (h : LineF ps) : 10 ∉ tl (lineT ps) := nolf_words (map_good h)
theorem line_len {ps : List PyData} (h : LineF ps) : (lineT ps).length ≤ 248 := by
  have := len_words (ws := ps.map partT) (n := 61) fun w hw => by
    obtain ⟨p, hp, rfl⟩ := List.mem_map.mp hw
    exact (h.good p hp).2
  rw [List.length_map] at this
  have h4 := h.len.2
  have : (61 + 1) * ps.length ≤ 62 * 4 := Nat.mul_le_mul_left 62 h4
  unfold lineT
  omega
theorem split_try : Txt.split (Str.ofString "try") blank = [Str.ofString "try"] := by
  have := split_words (ws := [Str.ofString "try"]) (by simp) (fun w hw => by rw [List.mem_singleton.mp hw]; exact (good_lit _ (by decide)).1)
  exact this
theorem line_ne_try {ps : List PyData} (h : LineF ps) : lineT ps ≠ Str.ofString "try" := fun e => by
  have h1 := line_split h
  rw [e, split_try] at h1
  have h2 := congrArg List.length h1
  rw [List.length_map] at h2
  have := h.len.1
  simp at h2
  omega
theorem caught_good {ws : List Str} (h : wdsOk ws) : ∀ w ∈ Str.ofString "caught" :: ws, (∀ c ∈ tl w, goodC c) ∧ w.length ≤ 8 := fun w hw => by
  rcases List.mem_cons.mp hw with rfl | hw
  · exact ⟨(good_lit _ (by decide)).1, by have := (good_lit (Str.ofString "caught") (by decide)).2; omega⟩
  · rcases h.2.2 w hw with z | z
    · exact good_great w z
    · exact ⟨(good_nm z).1, (nm_len z).1⟩
theorem caught_split {ws : List Str} (h : wdsOk ws) : Txt.split (caughtT ws) blank = Str.ofString "caught" :: ws := split_words (by simp) fun w hw => (caught_good h w hw).1
theorem caught_nolf {ws : List Str} (h : wdsOk ws) : 10 ∉ tl (caughtT ws) := nolf_words fun w hw => (caught_good h w hw).1
theorem caught_len {ws : List Str} (h : wdsOk ws) : (caughtT ws).length ≤ 36 := by
  have h1 := len_words (ws := Str.ofString "caught" :: ws) (n := 8) fun w hw => (caught_good h w hw).2
  have h2 := h.1
  rw [List.length_cons] at h1
  have : (8 + 1) * (ws.length + 1) ≤ 9 * 4 := Nat.mul_le_mul_left 9 (by omega)
  unfold caughtT
  omega
mutual
/-- the lines of a row: n tries at most one within another, c rows all counted -/
inductive LnR : Nat → Nat → PyData → List Str → Prop
  | line {n : Nat} {ps : List PyData} : LineF ps → LnR n 1 (.tuple ps) [lineT ps]
  | tri {n c1 c2 : Nat} {as bs : List PyData} {ws la lb : List Str} : LnRs n c1 as la → wdsOk ws → LnRs n c2 bs lb →
      LnR (n + 1) (c1 + c2 + 1) (.tuple [.str "try", .tuple as, .tuple (ws.map PyData.str), .tuple bs]) (Str.ofString "try" :: (la ++ caughtT ws :: (lb ++ [Str.ofString "done"])))
inductive LnRs : Nat → Nat → List PyData → List Str → Prop
  | nil {n : Nat} : LnRs n 0 [] []
  | cons {n c e : Nat} {d : PyData} {ds : List PyData} {l ls : List Str} : LnR n c d l → LnRs n e ds ls → LnRs n (c + e) (d :: ds) (l ++ ls)
end
mutual
theorem lnR_of : ∀ {n c : Nat} {d : PyData}, OkR n c d → ∃ l, LnR n c d l
  | _, _, _, .line h => by
    obtain ⟨ps, rfl, hf⟩ := lineF h
    exact ⟨_, .line hf⟩
  | _, _, _, .tri h1 hw h2 => by
    obtain ⟨la, k1⟩ := lnRs_of h1
    obtain ⟨lb, k2⟩ := lnRs_of h2
    exact ⟨_, .tri k1 hw k2⟩
theorem lnRs_of : ∀ {n c : Nat} {ds : List PyData}, OkRs n c ds → ∃ l, LnRs n c ds l
  | _, _, _, .nil => ⟨_, .nil⟩
  | _, _, _, .cons h1 h2 => by
    obtain ⟨la, k1⟩ := lnR_of h1
    obtain ⟨lb, k2⟩ := lnRs_of h2
    exact ⟨_, .cons k1 k2⟩
end
/-- the text of lines -/
def tx : List Str → List Nat
  | [] => []
  | l :: ls => tl l ++ (10 :: tx ls)
theorem tx_app : ∀ a b : List Str, tx (a ++ b) = tx a ++ tx b
  | [], b => rfl
  | l :: a, b => by
    show tl l ++ (10 :: tx (a ++ b)) = tl l ++ (10 :: tx a) ++ tx b
    rw [tx_app a b]
    simp
mutual
theorem lnR_len : ∀ {n c : Nat} {d : PyData} {l : List Str}, LnR n c d l → (tx l).length ≤ 249 * c ∧ l.length ≤ 3 * c ∧ ∀ z ∈ l, 10 ∉ tl z ∧ z.length ≤ 248
  | _, _, _, _, .line h => by
    have h1 := line_len h
    refine ⟨?_, by simp, fun z hz => ?_⟩
    · show (tl (lineT _) ++ [10]).length ≤ _
      rw [List.length_append, ← len_tl]
      simp
      omega
    · rw [List.mem_singleton.mp hz]
      exact ⟨line_nolf h, h1⟩
  | _, _, _, _, .tri h1 hw h2 => by
    obtain ⟨a1, a2, a3⟩ := lnRs_len h1
    obtain ⟨b1, b2, b3⟩ := lnRs_len h2
    have hc := caught_len hw
    have e3 : (tl (Str.ofString "try")).length = 3 := by decide +kernel
    have e4 : (tl (Str.ofString "done")).length = 4 := by decide +kernel
    refine ⟨?_, ?_, fun z hz => ?_⟩
    · show (tl (Str.ofString "try") ++ (10 :: tx (_ ++ caughtT _ :: (_ ++ [Str.ofString "done"])))).length ≤ _
      rw [tx_app]
      show (tl (Str.ofString "try") ++ (10 :: (tx _ ++ (tl (caughtT _) ++ (10 :: tx (_ ++ [Str.ofString "done"])))))).length ≤ _
      rw [tx_app]
      have e5 : (tx [Str.ofString "done"]).length = 5 := by decide +kernel
      simp only [List.length_append, List.length_cons, e3, e5, ← len_tl]
      omega
    · simp only [List.length_append, List.length_cons, List.length_nil]
      omega
    · simp only [List.mem_cons, List.mem_append, List.not_mem_nil, or_false] at hz
      rcases hz with rfl | hz | rfl | hz | rfl
      · exact ⟨by decide +kernel, by decide +kernel⟩
      · exact a3 z hz
      · exact ⟨caught_nolf hw, by omega⟩
      · exact b3 z hz
      · exact ⟨by decide +kernel, by decide +kernel⟩
theorem lnRs_len : ∀ {n c : Nat} {ds : List PyData} {l : List Str}, LnRs n c ds l → (tx l).length ≤ 249 * c ∧ l.length ≤ 3 * c ∧ ∀ z ∈ l, 10 ∉ tl z ∧ z.length ≤ 248
  | _, _, _, _, .nil => ⟨Nat.le_refl _, Nat.le_refl _, fun z hz => by cases hz⟩
  | _, _, _, _, .cons h1 h2 => by
    obtain ⟨a1, a2, a3⟩ := lnR_len h1
    obtain ⟨b1, b2, b3⟩ := lnRs_len h2
    refine ⟨?_, ?_, fun z hz => ?_⟩
    · rw [tx_app, List.length_append]
      omega
    · rw [List.length_append]
      omega
    · rcases List.mem_append.mp hz with y | y
      · exact a3 z y
      · exact b3 z y
end
/-- lines are found again -/
theorem split_tx : ∀ {ls : List Str}, (∀ z ∈ ls, 10 ∉ tl z) → spl [10] 0 [] (tx ls) = ls.map tl ++ [[]]
  | [], _ => by rw [show tx [] = [] from rfl, spl_nil]; rfl
  | l :: ls, h => by
    show spl [10] 0 [] (tl l ++ ([10] ++ tx ls)) = _
    rw [spl_part1 (S := []) (h l List.mem_cons_self), split_tx fun z hz => h z (List.mem_cons_of_mem _ hz)]
    rfl
theorem S_tl (z : Str) : S (tl z) = z := mk_tl z
theorem lines_split {ls : List Str} (h : ∀ z ∈ ls, 10 ∉ tl z) : Txt.split (S (tx ls)) lf = ls ++ [Str.ofString ""] := by
  have e : lf = S [10] := by decide +kernel
  rw [e, split_S (by simp) (by decide), split_tx h, List.map_append, List.map_map]
  have e2 : (S ∘ tl) = (id : Str → Str) := funext S_tl
  rw [e2, List.map_id]
  rfl
/-- the first word of a line that begins no row -/
def noRow (z : Str) : Prop := ∃ w r, Txt.split z blank = w :: r ∧ w ∈ (["", "caught", "done"] : List Str)
def someRow (z : Str) : Prop := ∃ w r, Txt.split z blank = w :: r ∧ w ∉ (["", "caught", "done"] : List Str)
theorem noRow_caught {ws : List Str} (h : wdsOk ws) : noRow (caughtT ws) := ⟨_, _, caught_split h, by decide⟩
theorem noRow_done : noRow (Str.ofString "done") := by
  have e := split_words (ws := [Str.ofString "done"]) (by simp) (fun w hw => by rw [List.mem_singleton.mp hw]; exact (good_lit _ (by decide)).1)
  exact ⟨_, _, e, by decide⟩
theorem noRow_nil : noRow (Str.ofString "") := by
  have e := split_words (ws := [Str.ofString ""]) (by simp) (fun w hw => by
    rw [List.mem_singleton.mp hw]
    intro c hc
    have : tl (Str.ofString "") = [] := by decide +kernel
    rw [this] at hc
    cases hc)
  exact ⟨_, _, e, by decide⟩
theorem someRow_try : someRow (Str.ofString "try") := ⟨_, _, split_try, by decide⟩
theorem rowWords_some : ∀ w ∈ rowWords, w ∉ (["", "caught", "done"] : List Str) := by decide
theorem someRow_line {ps : List PyData} (h : LineF ps) : someRow (lineT ps) := by
  obtain ⟨w, r, e, hw⟩ := h.head
  refine ⟨w, r.map partT, ?_, rowWords_some w hw⟩
  rw [line_split h, e]
  rfl
/-! ### texts by their signs -/
theorem S_app (a b : List Nat) : S a ++ S b = S (a ++ b) := ext_tl (tl_append _ _)
theorem join0_S : ∀ ls : List (List Nat), Txt.join (Str.ofString "") (ls.map S) = S ls.flatten := fun ls => by
  rw [join_eq]
  refine ext_tl ?_
  rw [tl_join]
  have e : tl (Str.ofString "") = [] := by decide +kernel
  rw [e, List.map_map]
  have e2 : (tl ∘ S) = (id : List Nat → List Nat) := funext fun a => by simp [S, tl]
  rw [e2, List.map_id]
  show joinL [] ls = ls.flatten
  have go : ∀ l : List (List Nat), joinL [] l = l.flatten := fun l => by
    induction l with
    | nil => rfl
    | cons a l ih =>
      cases l with
      | nil => simp [joinL]
      | cons b r =>
        show a ++ ([] ++ joinL [] (b :: r)) = _
        rw [ih]
        simp
  exact go ls
end XT2
set_option maxHeartbeats 4000000
/-! What repr can show; repr of numbers and of data by one rule -/
namespace XM
open PySem PySem.Spec PyProof.Rows L2 HM XW XR K11 SX XT2
theorem log_small {i : Int} (h : i.natAbs < 10 ^ 60) : i.natAbs.log2 < 1920 := by
  by_cases h0 : i.natAbs = 0
  · rw [h0]
    decide
  · refine (Nat.log2_lt h0).mpr (Nat.lt_of_lt_of_le h ?_)
    have : (10 : Nat) ^ 60 ≤ 2 ^ 1920 := by decide +kernel
    exact this
def ascS (z : Str) : Prop := ∀ c ∈ z.cps.toList, c < 16 ^ 8
theorem asc_nm {z : Str} (h : nmOk z) : ascS z := fun c hc => by
  have := nm_low h c hc
  unfold low at this
  obtain ⟨_, h2⟩ := Bool.and_eq_true_iff.mp this
  have := of_decide_eq_true h2
  have e : (16 : Nat) ^ 8 = 4294967296 := by decide
  omega
theorem asc_pt {z : Str} (h : ptOk z) : ascS z := fun c hc => by
  obtain ⟨ws, rfl, h1, h4, hw⟩ := h
  have hc2 : c ∈ TL.tl (Txt.join (Str.ofString ".") ws) := hc
  rw [TL.join_eq, TL.tl_join, tl_dot] at hc2
  have e : (16 : Nat) ^ 8 = 4294967296 := by decide
  rcases mem_joinL hc2 with y | ⟨p, hp, hc⟩
  · omega
  · obtain ⟨z, hz, rfl⟩ := List.mem_map.mp hp
    exact asc_nm (hw z hz) c hc
structure SmX (d : PyData) (n b : Nat) : Prop where
  sh : d.showable = true
  nd : d.hasDict = false
  lv : d.leavesShort 100 = true
  dp : d.depth ≤ n
  bk : d.bulk ≤ b
structure SmA (ds : List PyData) (n b : Nat) : Prop where
  sh : PyData.showableAll ds = true
  nd : PyData.hasDictAll ds = false
  lv : PyData.leavesShortAll 100 ds = true
  dp : PyData.depthAll ds ≤ n
  bk : PyData.bulkAll ds ≤ b
theorem SmA.nil {n : Nat} : SmA [] n 0 := ⟨rfl, rfl, rfl, Nat.zero_le _, Nat.le_refl _⟩
theorem SmA.cons {d : PyData} {ds : List PyData} {n a b : Nat} (x : SmX d n a) (y : SmA ds n b) : SmA (d :: ds) n (a + 1 + b) := by
  refine ⟨?_, ?_, ?_, ?_, ?_⟩
  · rw [PyData.showableAll, x.sh, y.sh]
    rfl
  · rw [PyData.hasDictAll, x.nd, y.nd]
    rfl
  · rw [PyData.leavesShortAll, x.lv, y.lv]
    rfl
  · rw [PyData.depthAll]
    exact Nat.max_le.mpr ⟨x.dp, y.dp⟩
  · rw [PyData.bulkAll]
    have := x.bk
    have := y.bk
    omega
theorem SmA.tup {ds : List PyData} {n b : Nat} (x : SmA ds n b) : SmX (.tuple ds) (n + 1) b := by
  refine ⟨?_, ?_, ?_, ?_, ?_⟩
  · rw [PyData.showable, x.sh]
  · rw [PyData.hasDict, x.nd]
  · rw [PyData.leavesShort, x.lv]
  · rw [PyData.depth]
    have := x.dp
    omega
  · rw [PyData.bulk]
    exact x.bk
theorem SmX.mono {d : PyData} {n m a b : Nat} (x : SmX d n a) (h1 : n ≤ m) (h2 : a ≤ b) : SmX d m b := ⟨x.sh, x.nd, x.lv, Nat.le_trans x.dp h1, Nat.le_trans x.bk h2⟩
theorem SmA.mono {d : List PyData} {n m a b : Nat} (x : SmA d n a) (h1 : n ≤ m) (h2 : a ≤ b) : SmA d m b := ⟨x.sh, x.nd, x.lv, Nat.le_trans x.dp h1, Nat.le_trans x.bk h2⟩
theorem sm_str {z : Str} {n : Nat} (h : ascS z) (hl : z.length ≤ 61) : SmX (.str z) n 61 := by
  refine ⟨rfl, rfl, ?_, Nat.zero_le _, hl⟩
  rw [PyData.leavesShort, List.all_eq_true]
  exact fun c hc => decide_eq_true (h c hc)
theorem sm_int {i : Int} {n : Nat} (h : i.natAbs < 10 ^ 60) : SmX (.int i) n 61 := by
  refine ⟨decide_eq_true (log_small h), rfl, decide_eq_true ?_, Nat.zero_le _, Nat.zero_le _⟩
  have : (PyData.shown (.int i)).length ≤ 61 := by
    show (numT i).length ≤ 61
    rw [TL.len_tl, tl_numT]
    exact numC_len h
  omega
theorem shown_ok {d : PyData} {n b : Nat} (h : SmX d n b) (hb : b ≤ 100000) : d.shown.length ≤ sizeLine := by
  have h1 := PyData.shown_le_bulk 100 (by decide) d h.lv
  have h2 := Nat.mul_le_mul_left 102 (Nat.le_trans h.bk hb)
  have : (102 : Nat) * 100000 + 100 ≤ sizeLine := by decide
  omega
/-- repr of a number, or of a list or a tuple of data -/
def rReprA (K : PySem.W.Frag) : List V → Hp → VK → Prop := fun xs H Q => (∃ i : Int, xs = [.int i] ∧ i.natAbs < 10 ^ 60 ∧ Q (.str (PyData.shown (.int i))) H) ∨ rReprD K xs H Q
theorem call_reprA {X : Cx} {k : Nat} (hr : Room k X.A) (hg : X.A.guards = some []) : CallR X (.builtin "repr") (rReprA X.K) := by
  intro pins s σ H xs us Q I r h
  rcases h with ⟨i, e, hi, q⟩ | h
  · refine SkE.call_repr_int pins s σ H xs us Q I r ⟨i, e, ?_, q⟩
    have := log_small hi
    omega
  · exact call_reprD hr hg pins s σ H xs us Q I r h
end XM
/-! two sorted lists of the same texts are the same list -/
namespace XSo
open PySem PySem.Spec PyProof.Rows
def leS (a b : Str) : Prop := a.cps.toList ≤ b.cps.toList
theorem le_of {a b : Str} (h : ltCps b.cps.toList a.cps.toList = false) : leS a b := by
  rw [ltCps_eq] at h
  exact List.not_lt.mp (of_decide_eq_false h)
theorem pw_rising : ∀ (l : List Str) (p : Str), risingS p l = true → (p :: l).Pairwise leS
  | [], p, _ => List.pairwise_singleton _ _
  | x :: r, p, h => by
    rw [risingS, Bool.and_eq_true] at h
    have h1 : leS p x := le_of (by simpa using h.1)
    have ih := pw_rising r x h.2
    refine List.pairwise_cons.mpr ⟨fun y hy => ?_, ih⟩
    rcases List.mem_cons.mp hy with e | e
    · rw [e]
      exact h1
    · exact List.le_trans h1 ((List.pairwise_cons.mp ih).1 y e)
theorem pw_sorted : ∀ {l : List Str}, sortedS l = true → l.Pairwise leS
  | [], _ => List.Pairwise.nil
  | x :: r, h => pw_rising r x h
theorem str_ext {a b : Str} (h : a.cps.toList = b.cps.toList) : a = b := by
  cases a
  cases b
  exact congrArg Str.mk (Array.ext' h)
theorem sorted_same {xs ys : List Str} (p : xs.Perm ys) (hx : sortedS xs = true) (hy : sortedS ys = true) : xs = ys :=
  p.eq_of_pairwise (fun a b _ _ h1 h2 => str_ext (List.le_antisymm h1 h2)) (pw_sorted hx) (pw_sorted hy)
end XSo
set_option maxHeartbeats 4000000
/-! for i, x in enumerate(t), t a tuple -/
namespace XEn
open PySem PySem.Spec PyProof.Rows L2
theorem new_one {v : Value} {o : Obj} {H : Heap → Prop} (B : Begins v o H) :
    Meets (Builtin.«enumerate.__new__» ⟨[.type "enumerate", v], []⟩) (fun _ R s => H s.heap ∧
      R (.ok (.ret (.ref (s.heap.push o).objs.size))) { s with heap := (s.heap.push o).push { cls := .type "enumerate", data := .fields #[.none, .bool false, .ref s.heap.objs.size, rawInt 0, .none, .none] } }) :=
  .of_wp fun prog w A R s h => by
    obtain ⟨hp, g, d, tk, os⟩ := s
    obtain ⟨h1, h⟩ := h
    have hsub := sub_enumerate
    have go : ∀ {A' : Around} {E : Value → Shared → Prop} {Q : Value → Shared → Prop}, Q (.ref hp.objs.size) ⟨hp.push o, g, d, tk, os⟩ → wpAny (model prog w) A' (pyIter v) Q E ⟨hp, g, d, tk, os⟩ :=
      fun q => B.iter prog w _ _ ⟨hp, g, d, tk, os⟩ _ h1 q
    wp_walk using go
    refine wpAny_stack_any fun st => wpAny_pure ?_
    split
    · rename_i c _ _ _ _ _
      cases (c == Value.type "enumerate")
      · wp_walk using go
        exact ⟨_, rfl, h⟩
      · wp_walk using go
        exact ⟨_, rfl, h⟩
    · wp_walk using go
      exact ⟨_, rfl, h⟩
theorem call_one {prog : Program} {w : World} {A : Around} {E : Value → Shared → Prop} {s : Shared} {v : Value} {o : Obj} {H : Heap → Prop} {Q : Value → Shared → Prop} (B : Begins v o H) (h1 : H s.heap)
    (h : ∀ h', IsEnum h' (s.heap.objs.size + 1) s.heap.objs.size 0 .none → h'.get? s.heap.objs.size = some o → h'.objs.size = s.heap.objs.size + 2 →
      (∀ b o, s.heap.get? b = some o → h'.get? b = some o) → Q (.ref (s.heap.objs.size + 1)) { s with heap := h' }) :
    wpAny (model prog w) A (call (.type "enumerate") [v]) Q E s := by
  refine callType_new F.called_enumerate (by decide) (F.typeCall_enumerate_1 _) (F.newCall_enumerate_1 _) (fun obj => F.args_object_init_2 obj _) F.entry_enumerate_new (new_one B) ⟨h1, ?_⟩
  have hz : (s.heap.push o).objs.size = s.heap.objs.size + 1 := Heap.size_push ..
  show _ ∧ _
  rw [hz]
  have he : IsEnum ((s.heap.push o).push { cls := .type "enumerate", data := .fields #[.none, .bool false, .ref s.heap.objs.size, rawInt 0, .none, .none] }) (s.heap.objs.size + 1) s.heap.objs.size 0 .none := by
    have q := Heap.get?_push_size (s.heap.push o) (o := { cls := .type "enumerate", data := .fields #[.none, .bool false, .ref s.heap.objs.size, rawInt 0, .none, .none] }) rfl
    rw [hz] at q
    exact q
  exact ⟨⟨_, he, rfl⟩, h _ he (Heap.get?_push_of_some _ (Heap.get?_push_size _ B.free)) (by rw [Heap.size_push, hz]) fun b u x => Heap.get?_push_of_some _ (Heap.get?_push_of_some _ x)⟩
def IteT (K : PySem.W.Frag) (a : Addr) : It :=
  ⟨fun i H => ∃ (xs : List V) (x : V), SqT K H a xs ∧ xs[i]? = some x, fun i H v H' => ∃ T x, v = .ref T ∧ H T = none ∧ H' = upd H T (.tup [.int (i : Nat), x]) ∧ ∀ xs, SqT K H a xs → xs[i]? = some x, fun i H => ∃ xs : List V, SqT K H a xs ∧ xs.length = i⟩
theorem turn_enumT {P : Program} {w : World} {K : PySem.W.Frag} {elts : List Expr} {kk : Nat} {tpos : Pos} (a e it : Addr) :
    Turn P w K (.Tuple elts kk tpos) (IteT K a) [e, it] e (fun i h => (∃ old, IsEnum h e it ((i : Nat) : Int) old) ∧ h.IsTupleIter it a i ∧ e ≠ it ∧ a ≠ it ∧ a ≠ e) where
  mem := by simp
  obj := fun i h st b hb => by
    obtain ⟨⟨old, he⟩, ⟨o, ho, hc, hd⟩, _⟩ := st
    have e' : b = e ∨ b = it := by simpa using hb
    rcases e' with z | z
    · rw [z]; exact ⟨_, he, fun v q => nomatch q⟩
    · rw [z]; exact ⟨o, ho, fun v q => by rw [hd] at q; cases q⟩
  keep := fun i h h' st k => by
    obtain ⟨⟨old, he⟩, hi, r⟩ := st
    exact ⟨⟨old, k e (by simp) _ he⟩, hi.at fun o q => k it (by simp) o q, r⟩
  item := by
    intro X hP hw hK hc i pins s σ H E I hf st hg
    subst hP hw hK
    obtain ⟨⟨old, he⟩, hit, hne, hai, hae⟩ := st
    obtain ⟨xs, x, hq, hx⟩ := hg
    obtain ⟨its, rv, p, hz⟩ := I.tuple hq
    obtain ⟨u, hu, ru⟩ := rv.get hx
    have hel : e < s.heap.objs.size := Heap.lt_size he
    have hil : it < s.heap.objs.size := by obtain ⟨_, q, _⟩ := hit; exact Heap.lt_size q
    have hlt : i < its.toArray.size := by
      rw [List.size_toArray]
      exact (List.getElem?_eq_some_iff.mp hu).1
    have D := Draws.tuple (prog := X.prog) (w := X.w) (A := X.A.in1) (show X.A.in1.handled = none from I.ok.hd hc) it a hai its.toArray
    refine wpAny_pyNext_enum_itemC (c := ((i : Nat) : Int)) D he ⟨hit, p⟩ hlt hne (by simp only [List.mem_cons, List.not_mem_nil, or_false, not_or]; exact ⟨hne, Ne.symm hae⟩) fun y h' tk hP ho hst hT hsz hk => ?_
    obtain ⟨hit', _⟩ := hst
    have ey : y = u := by
      have : its.toArray[i]? = some y := hP
      rw [List.getElem?_toArray, hu] at this
      cases this
      rfl
    subst ey
    refine ⟨_, rfl, wpAny_letOwnedTupleGo_enum (s := { s with heap := h', toks := tk + 1 }) ho fun h'' he' sb => ?_⟩
    have hT2 : h''.get? s.heap.objs.size = some { cls := .type "tuple", data := .seq #[.int i tk, y] } := (sb.2 _ (Nat.ne_of_gt hel)).trans hT
    have new : ObjOk X.prog X.w (upd H s.heap.objs.size (.tup [.int (i : Nat), x])) h'' s.heap.objs.size (.tup [.int (i : Nat), x]) :=
      ⟨by show 2 ≤ sizeLine; decide, [.int i tk, y], .cons ⟨_, rfl⟩ (.cons ru .nil), ⟨_, hT2, rfl, _, rfl⟩⟩
    have I1 : Inv X pins σ (upd H s.heap.objs.size (.tup [.int (i : Nat), x])) { s with heap := h'', toks := tk + 1 } :=
      I.turnedNew (ch := [e, it]) (fun b ob hb q => (sb.2 b (fun z => hb (by simp [z]))).trans (hk b ob (fun z => hb (by simp [z])) (fun z => hb (by simp [z])) q)) hf (Nat.le_refl _) new
    refine ⟨.ref s.heap.objs.size, _, I1, rfl, ⟨_, x, rfl, I.hok.fresh (Nat.le_refl _), rfl, fun ys hy => by rw [I.tuple_inj hy hq]; exact hx⟩, ⟨⟨y, ?_⟩, hit'.at fun o q => (sb.2 it (Ne.symm hne)).trans q, hne, hai, hae⟩, fun b hb => ?_⟩
    · have e1 : ((i + 1 : Nat) : Int) = (i : Int) + 1 := by omega
      rw [e1]; exact he'
    · have hb' : b < s.heap.objs.size := by
        have e' : b = e ∨ b = it := by simpa using hb
        rcases e' with z | z
        · rw [z]; exact hel
        · rw [z]; exact hil
      rw [upd_ne (Nat.ne_of_lt hb')]
      exact (hf b hb).1
  done := by
    intro X hP hw hK hc i pins s σ H E I hf st hg
    subst hP hw hK
    obtain ⟨⟨old, he⟩, hit, hne, hai, hae⟩ := st
    obtain ⟨xs, hq, hx⟩ := hg
    obtain ⟨its, rv, p, hz⟩ := I.tuple hq
    obtain ⟨f0, f1, f2, f3, f4, f5⟩ := hf it (by simp)
    have D := Draws.tuple (prog := X.prog) (w := X.w) (A := X.A.in1) (show X.A.in1.handled = none from I.ok.hd hc) it a hai its.toArray
    have hl : its.toArray.size = i := by
      rw [List.size_toArray, ← rv.length]
      exact hx
    refine wpAny_pyNext_enum_endD D he ⟨by rw [hl]; exact hit, p⟩ fun h' eb => ⟨rfl, I.turned (t' := s.toks) (fun b o hb q => eb b o hb q) f0 f1 f3 f4 f5⟩
  self := fun A i s Q E st h => let ⟨⟨_, he⟩, _⟩ := st; wpAny_pyIter_enum he h
def iEnumT (K : PySem.W.Frag) (ta : TA) : TI := fun σ H R => ta σ H fun vs H1 => ∃ a xs, vs = [.ref a] ∧ SqT K H1 a xs ∧ R (IteT K a) H1
theorem pi_enumT {X : Cx} {e : Expr} {ta : TA} {p pos tpos : Pos} {elts : List Expr} {kk : Nat} (hg : Gl X "enumerate") (hm : X.mg "enumerate" = none) (ha : PA X [e] ta) (hs : starEach [e] X.env = [(false, eval e X.env)] := by rfl) :
    PI X (.Tuple elts kk tpos) (.Call (.Name "enumerate" p) [e] [] pos) (iEnumT X.K ta) := by
  refine ⟨fun pins s σ H R I h => ?_⟩
  refine Call_ (ld_blt I hg hm boot_enumerate (PyProof.Rows.callWith_type1 (thn (ha.run pos pins s σ H _ I h) fun us s1 ⟨vs, H1, I1, r1, q1⟩ => ?_) hs rfl))
  obtain ⟨a, xs, ex, hq, q⟩ := q1
  subst ex
  cases r1 with
  | cons r rr =>
    cases rr
    cases r
    obtain ⟨its, rv, p', hz⟩ := I1.tuple hq
    have hal : a < s1.heap.objs.size := p'.lt
    refine call_one (begins_tuple a its.toArray) p' fun h' he hit hsz hk => wpAny_pyIter_enum he ?_
    have I2 : Inv X pins σ H1 { s1 with heap := h' } := I1.kept (t' := s1.toks) hk
    refine ⟨s1.heap.objs.size + 1, [s1.heap.objs.size + 1, s1.heap.objs.size], _, _, H1, rfl, I2, turn_enumT a (s1.heap.objs.size + 1) s1.heap.objs.size, ⟨⟨.none, he⟩, ⟨_, hit, rfl, rfl⟩, Nat.succ_ne_self _, Nat.ne_of_lt hal, Nat.ne_of_lt (Nat.lt_succ_of_lt hal)⟩, fun b hb => ?_, q⟩
    have e' : b = s1.heap.objs.size + 1 ∨ b = s1.heap.objs.size := by simpa using hb
    have hle : s1.heap.objs.size ≤ b := by
      rcases e' with z | z
      · rw [z]; exact Nat.le_add_right _ _
      · rw [z]; exact Nat.le_refl _
    exact I1.fpOk hle (I1.hok.fresh hle)
theorem walk_enumT {K : PySem.W.Frag} {a : Addr} {xs : List V} : Walk (IteT K a) xs.length (fun H => SqT K H a xs) (YPair (fun i => some (.int (i : Nat))) (fun i => xs[i]?)) := by
  refine ⟨fun i _ hi q => ⟨xs, xs[i], q, by simp [hi]⟩, fun _ q => ⟨xs, q, rfl⟩, fun i H v H' _ q y => ?_⟩
  obtain ⟨T, x, h1, h2, h3, h4⟩ := y
  exact ⟨T, .int i, x, h1, h2, h3, rfl, h4 xs q⟩
end XEn
set_option maxHeartbeats 4000000
/-! all(..) of a generator expression with one or two clauses, tests, captured names -/
namespace XG
open PySem PySem.Spec PyProof.Rows L2 GxR GxA
/-- the last clause's turns: Fin at its end, W by turn and measure -/
def TurnL (J : It) (g : TG) (tt : TT) (te : TE) (Q : VK) (Fin : Nat → L2.St → Hp → Prop) (W : Nat → Nat → L2.St → Hp → Prop) : Prop := ∀ i m σ H, W i m σ H →
  (J.stop i H ∧ ∃ m', m' ≤ m ∧ Fin m' σ H) ∨ (J.go i H ∧ ∀ x H', J.yld i H x H' → g x σ H' fun σ2 H2 => tt σ2 H2 fun b H3 =>
    if b = true then te σ2 H3 fun v H4 => ∃ b', v = .bl b' ∧ if b' = true then ∃ m', m' < m ∧ W (i + 1) m' σ2 H4 else Q (.bl false) H4
    else ∃ m', m' < m ∧ W (i + 1) m' σ2 H3)
theorem inv_sub {X : Cx} {pins pins' : List (Addr × Obj)} {σ : L2.St} {H : Hp} {s : Shared} (I : Inv X pins σ H s) (h : ∀ p ∈ pins', p ∈ pins) : Inv X pins' σ H s :=
  I.pins_of fun p hp => I.pin p (List.mem_append_right _ (h p hp))
section
variable {X : Cx} {tg elt iter : Expr} {ifs : List Expr} {it : Addr} {B : Around} {J : It} {fp : List Addr} {tn : Nat → Heap → Prop} {g : TG} {tt : TT} {te : TE} {pn0 pins : List (Addr × Obj)} {Q : VK} {e : Expr} {d : Nat} {fs : List Frame} {Fin : Nat → L2.St → Hp → Prop} {W : Nat → Nat → L2.St → Hp → Prop}
theorem seg_last (hA : B.over (.compLoop e d (.ref it) .none X.env) fs = X.A) (hfs : splitAtGen fs = none) (hfg : fs.any Frame.guarded = false) (hxe : X.xe = fun _ _ => False) (hcalm : X.calm = true) (hco : X.env.scope.isCoroutine = false)
    (hden : ∃ hd, (model X.prog X.w).den (.compLoop e d (.ref it) .none X.env) = (compTurn e d (.ref it) .none X.env).onRaise hd)
    (hturn : compTurn e d (.ref it) .none X.env = (do
      standAt iter.pos
      match ← pyNext (.ref it) with
      | none => pure (.done .next)
      | some v =>
        letOwnedTupleGo tg (.ref it) v
        assign tg X.env v
        let mut ok := true
        for c in ifs do
          if ok then ok ← isTrue c X.env (eval c X.env)
        if ok then
          (do let v ← eval elt X.env; standAt elt.pos; let _ ← yieldOut X.env v)
        again (.compLoop e d (.ref it) .none X.env)))
    (hq : (Code.compLoop e d (.ref it) .none X.env).quiet = true)
    (T : Turn X.prog X.w X.K tg J fp it tn) (hf : ∀ b ∈ fp, b ≠ X.env.locals ∧ b ∉ X.fs ∧ (b ∈ X.ex ∨ X.s_0.heap.objs.size ≤ b) ∧ (∀ x c, X.env.cells.lookup x = some c → c ≠ b) ∧ ∀ p ∈ X.pn ++ pins, p.1 ≠ b)
    (hp0 : ∀ p ∈ pn0, p ∈ pins) (hg : PG X tg g) (ht : PTs X ifs tt) (he : PE X elt te) (turn : TurnL J g tt te Q Fin W)
    (M : Nat) (hend : ∀ (m n : Nat) (s₀ s : Shared) (σ : L2.St) (H : Hp), m ≤ M → m < n → Inv X pins σ H s → Fin m σ H →
      Seg (model X.prog X.w) B (fun n s₀ r s₁ => r = .ok .next ∧ GRz X pn0 Q n s₀ s₁) (GYz X pn0 Q) n s₀ (.compLoop e d (.ref it) .none X.env) (leafOf (.ok .next)) fs s) :
    ∀ (m n : Nat), m ≤ M → m < n → ∀ (i : Nat) (s₀ s : Shared) (σ : L2.St) (H : Hp), Inv X pins σ H s → tn i s.heap → (∀ b ∈ fp, H b = none) → W i m σ H →
      Seg (model X.prog X.w) B (fun n s₀ r s₁ => r = .ok .next ∧ GRz X pn0 Q n s₀ s₁) (GYz X pn0 Q) n s₀ (.compLoop e d (.ref it) .none X.env)
        ((model X.prog X.w).den (.compLoop e d (.ref it) .none X.env)) fs s := by
  intro m
  induction m using Nat.strongRecOn with
  | _ m ih =>
  intro n hM hmn i s₀ s σ H I st fr w
  have noX : ∀ (e : Value) (s' : Shared), X.xe e s' → False := fun e s' h => by
    rw [hxe] at h
    exact h
  have stat : ∀ {H' : Hp}, (∀ b ∈ fp, H' b = none) → ∀ b ∈ fp, FpOk X pins H' b := fun hn b hb => ⟨hn b hb, hf b hb⟩
  obtain ⟨hd, hden'⟩ := hden
  rw [hden', hturn, Sem.onRaise_eq_wrap]
  refine seg_bind_wrap (wpAny_standAt ?_)
  rcases turn i m σ H w with ⟨stop, m', hm', q⟩ | ⟨go, step⟩
  · refine seg_bind_wrap ?_
    rw [hA]
    refine wpAny_mono (T.done X rfl rfl rfl hcalm i pins s _ H X.xe I (stat fr) st stop) (fun r s1 h1 => ?_) fun e s' h => (noX e s' h).elim
    obtain ⟨rfl, I1⟩ := h1
    exact hend m' n s₀ s1 σ H (by omega) (by omega) I1 q
  · refine seg_bind_wrap ?_
    rw [hA]
    refine wpAny_mono (T.item X rfl rfl rfl hcalm i pins s _ H X.xe I (stat fr) st go) (fun r s1 h1 => ?_) fun e s' h => (noX e s' h).elim
    obtain ⟨u, rfl, h1⟩ := h1
    refine seg_bind_wrap ?_
    rw [hA]
    refine wpAny_mono h1 (fun _ s2 h2 => ?_) fun e s' h => (noX e s' h).elim
    obtain ⟨x, H2, I2, r2, y2, st2, fr2⟩ := h2
    have I2' := I2.pinned (stat fr2) (T.obj _ _ st2)
    refine seg_bind_wrap ?_
    rw [hA]
    refine wpAny_mono (hg.run _ s2 _ H2 x u _ I2' r2 (step x H2 y2)) (fun _ s3 h3 => ?_) fun e s' h => (noX e s' h).elim
    obtain ⟨σ3, H3, I3, q3⟩ := h3
    have hy : ∀ v, yieldOut X.env v = yieldValue v := fun v => by simp only [yieldOut, hco, Bool.false_eq_true, if_false]
    simp only [hy]
    have back : ∀ (n' : Nat) (s₀ s4 : Shared) (σ4 : L2.St) (H4 : Hp), Inv X (pins ++ pinsAt fp s2.heap) σ4 H4 s4 → (∃ m', m' < m ∧ m' < n' ∧ W (i + 1) m' σ4 H4) →
        Seg (model X.prog X.w) B (fun n s₀ r s₁ => r = .ok .next ∧ GRz X pn0 Q n s₀ s₁) (GYz X pn0 Q) n' s₀ (.compLoop e d (.ref it) .none X.env) (.pure (.again (.compLoop e d (.ref it) .none X.env))) fs s4 := by
      intro n' s₀ s4 σ4 H4 I4 ⟨m', hm, hn, w'⟩
      have st4 : tn (i + 1) s4.heap := T.keep _ _ _ st2 fun b hb o e => (I4.pin (b, o) (List.mem_append_right _ (List.mem_append_right _ (mem_pinsAt hb e)))).1
      have fr4 : ∀ b ∈ fp, H4 b = none := fun b hb => by
        obtain ⟨o, e, d⟩ := T.obj _ _ st2 b hb
        exact (I4.pin (b, o) (List.mem_append_right _ (List.mem_append_right _ (mem_pinsAt hb e)))).2.1
      exact seg_again hq (ih m' hm n' (by omega) hn (i + 1) s₀ s4 σ4 H4 I4.unpinned st4 fr4 w')
    refine seg_bind_wrap ?_
    rw [hA]
    refine wpAny_mono (ht.run _ s3 σ3 H3 _ I3 q3) (fun ok s4 h4 => ?_) fun e s' h => (noX e s' h).elim
    obtain ⟨H4, I4, q4⟩ := h4
    cases ok with
    | false =>
      obtain ⟨m', hm, w'⟩ := q4
      exact back n s₀ s4 σ3 H4 I4 ⟨m', hm, by omega, w'⟩
    | true =>
      rw [if_pos rfl] at q4
      simp only [if_true]
      rw [Sem.bind_eq_wrap', Sem.bind_eq_wrap', Sem.wrap_wrap, Sem.wrap_wrap]
      refine seg_wrap ?_
      rw [hA]
      refine wpAny_mono (he.run _ s4 σ3 H4 _ I4 q4) (fun y s5 h5 => ?_) fun e s' h => (noX e s' h).elim
      obtain ⟨v, H5, I5, r5, b, rfl, q5⟩ := h5
      obtain rfl : y = Value.bool b := r5
      obtain ⟨n', rfl⟩ : ∃ n', n = n' + 1 := ⟨n - 1, by omega⟩
      refine seg_at (seg_yield hfs rfl hfg ⟨b, σ3, H5, rfl, inv_sub I5 fun p hp => List.mem_append_left _ (hp0 p hp), ?_⟩)
      cases b with
      | false => exact q5
      | true =>
        obtain ⟨m', hm', w'⟩ := q5
        rw [if_pos rfl]
        intro s' e1 e2 e3
        exact back n' s' s' σ3 H5 (inv_gens I5 e1 e2 e3) ⟨m', hm', by omega, w'⟩
end

/-! ### two clauses -/
/-- the first clause's turns -/
def TurnO (J : It) (g : TG) (tt : TT) (wi1 : TI) (Q : VK) (W : Nat → Nat → L2.St → Hp → Prop) (W1 : It → Nat → Nat → Nat → L2.St → Hp → Prop) : Prop := ∀ i m σ H, W i m σ H →
  (J.stop i H ∧ Q (.bl true) H) ∨ (J.go i H ∧ ∀ x H', J.yld i H x H' → g x σ H' fun σ2 H2 => tt σ2 H2 fun b H3 =>
    if b = true then wi1 σ2 H3 fun J1 H4 => ∃ m', m' < m ∧ W1 J1 (i + 1) 0 m' σ2 H4
    else ∃ m', m' < m ∧ W (i + 1) m' σ2 H3)
theorem compTurn2_outG (elt t0 i0 t1 i1 : Expr) (ifs0 ifs1 : List Expr) (scope : Scope) (pos : Pos) (it acc : Value) (env : Env) :
    compTurn (.GeneratorExp elt [⟨t0, i0, ifs0, 0⟩, ⟨t1, i1, ifs1, 0⟩] scope pos) 0 it acc env = (do
      standAt i0.pos
      match ← pyNext it with
      | none => pure (.done .next)
      | some v =>
        letOwnedTupleGo t0 it v
        assign t0 env v
        let mut ok := true
        for c in ifs0 do
          if ok then ok ← isTrue c env (eval c env)
        if ok then
          let x ← eval i1 env
          standAt i1.pos
          let x ← foldedSetIterable i1 env x
          let _ ← runOwn (.compStart (.GeneratorExp elt [⟨t0, i0, ifs0, 0⟩, ⟨t1, i1, ifs1, 0⟩] scope pos) 1 (← holding [x] (pyIter x)) acc env) env
        again (.compLoop (.GeneratorExp elt [⟨t0, i0, ifs0, 0⟩, ⟨t1, i1, ifs1, 0⟩] scope pos) 0 it acc env)) := by rfl
section
variable {X : Cx} {tg elt iter tg1 iter1 : Expr} {ifs ifs1 : List Expr} {it : Addr} {B : Around} {J : It} {fp : List Addr} {tn : Nat → Heap → Prop} {g g1 : TG} {tt tt1 : TT} {te : TE} {wi1 : TI} {pn0 : List (Addr × Obj)} {Q : VK} {scope : Scope} {pos : Pos} {W : Nat → Nat → L2.St → Hp → Prop} {W1 : It → Nat → Nat → Nat → L2.St → Hp → Prop}
theorem seg_out (hA : B.over (.compLoop (.GeneratorExp elt [⟨tg, iter, ifs, 0⟩, ⟨tg1, iter1, ifs1, 0⟩] scope pos) 0 (.ref it) .none X.env) [] = X.A) (hxe : X.xe = fun _ _ => False) (hcalm : X.calm = true) (hco : X.env.scope.isCoroutine = false)
    (T : Turn X.prog X.w X.K tg J fp it tn) (hf : ∀ b ∈ fp, b ≠ X.env.locals ∧ b ∉ X.fs ∧ (b ∈ X.ex ∨ X.s_0.heap.objs.size ≤ b) ∧ (∀ x c, X.env.cells.lookup x = some c → c ≠ b) ∧ ∀ p ∈ X.pn ++ pn0, p.1 ≠ b)
    (hg : PG X tg g) (ht : PTs X ifs tt) (hi1 : PI X tg1 iter1 wi1) (hg1 : PG X tg1 g1) (ht1 : PTs X ifs1 tt1) (he : PE X elt te) (hs1 : ∀ x, foldedSetIterable iter1 X.env x = pure x)
    (turn : TurnO J g tt wi1 Q W W1) (turn1 : ∀ J1 i, TurnL J1 g1 tt1 te Q (fun m σ H => W i m σ H) (W1 J1 i)) :
    ∀ (m n : Nat), m < n → ∀ (i : Nat) (s₀ s : Shared) (σ : L2.St) (H : Hp), Inv X pn0 σ H s → tn i s.heap → (∀ b ∈ fp, H b = none) → W i m σ H →
      Seg (model X.prog X.w) B (fun n s₀ r s₁ => r = .ok .next ∧ GRz X pn0 Q n s₀ s₁) (GYz X pn0 Q) n s₀ (.compLoop (.GeneratorExp elt [⟨tg, iter, ifs, 0⟩, ⟨tg1, iter1, ifs1, 0⟩] scope pos) 0 (.ref it) .none X.env)
        ((model X.prog X.w).den (.compLoop (.GeneratorExp elt [⟨tg, iter, ifs, 0⟩, ⟨tg1, iter1, ifs1, 0⟩] scope pos) 0 (.ref it) .none X.env)) [] s := by
  intro m
  induction m using Nat.strongRecOn with
  | _ m ih =>
  intro n hmn i s₀ s σ H I st fr w
  have noX : ∀ (e : Value) (s' : Shared), X.xe e s' → False := fun e s' h => by
    rw [hxe] at h
    exact h
  have stat : ∀ {H' : Hp}, (∀ b ∈ fp, H' b = none) → ∀ b ∈ fp, FpOk X pn0 H' b := fun hn b hb => ⟨hn b hb, hf b hb⟩
  show Seg _ B _ _ _ s₀ _ ((compTurn (.GeneratorExp elt [⟨tg, iter, ifs, 0⟩, ⟨tg1, iter1, ifs1, 0⟩] scope pos) 0 (.ref it) .none X.env).onRaise (leaving X.env)) [] s
  rw [compTurn2_outG, Sem.onRaise_eq_wrap]
  refine seg_bind_wrap (wpAny_standAt ?_)
  rcases turn i m σ H w with ⟨stop, q⟩ | ⟨go, step⟩
  · refine seg_bind_wrap ?_
    rw [hA]
    refine wpAny_mono (T.done X rfl rfl rfl hcalm i pn0 s _ H X.xe I (stat fr) st stop) (fun r s1 h1 => ?_) fun e s' h => (noX e s' h).elim
    obtain ⟨rfl, I1⟩ := h1
    exact seg_end (.ok .next) ⟨rfl, _, H, I1, q⟩
  · refine seg_bind_wrap ?_
    rw [hA]
    refine wpAny_mono (T.item X rfl rfl rfl hcalm i pn0 s _ H X.xe I (stat fr) st go) (fun r s1 h1 => ?_) fun e s' h => (noX e s' h).elim
    obtain ⟨u, rfl, h1⟩ := h1
    refine seg_bind_wrap ?_
    rw [hA]
    refine wpAny_mono h1 (fun _ s2 h2 => ?_) fun e s' h => (noX e s' h).elim
    obtain ⟨x, H2, I2, r2, y2, st2, fr2⟩ := h2
    have I2' := I2.pinned (stat fr2) (T.obj _ _ st2)
    refine seg_bind_wrap ?_
    rw [hA]
    refine wpAny_mono (hg.run _ s2 _ H2 x u _ I2' r2 (step x H2 y2)) (fun _ s3 h3 => ?_) fun e s' h => (noX e s' h).elim
    obtain ⟨σ3, H3, I3, q3⟩ := h3
    have back : ∀ (n' : Nat) (s₀ s4 : Shared) (σ4 : L2.St) (H4 : Hp), Inv X (pn0 ++ pinsAt fp s2.heap) σ4 H4 s4 → (∃ m', m' < m ∧ m' < n' ∧ W (i + 1) m' σ4 H4) →
        Seg (model X.prog X.w) B (fun n s₀ r s₁ => r = .ok .next ∧ GRz X pn0 Q n s₀ s₁) (GYz X pn0 Q) n' s₀ (.compLoop (.GeneratorExp elt [⟨tg, iter, ifs, 0⟩, ⟨tg1, iter1, ifs1, 0⟩] scope pos) 0 (.ref it) .none X.env) (.pure (.again (.compLoop (.GeneratorExp elt [⟨tg, iter, ifs, 0⟩, ⟨tg1, iter1, ifs1, 0⟩] scope pos) 0 (.ref it) .none X.env))) [] s4 := by
      intro n' s₀ s4 σ4 H4 I4 ⟨m', hm, hn, w'⟩
      have st4 : tn (i + 1) s4.heap := T.keep _ _ _ st2 fun b hb o e => (I4.pin (b, o) (List.mem_append_right _ (List.mem_append_right _ (mem_pinsAt hb e)))).1
      have fr4 : ∀ b ∈ fp, H4 b = none := fun b hb => by
        obtain ⟨o, e, d⟩ := T.obj _ _ st2 b hb
        exact (I4.pin (b, o) (List.mem_append_right _ (List.mem_append_right _ (mem_pinsAt hb e)))).2.1
      exact seg_again rfl (ih m' hm n' hn (i + 1) s₀ s4 σ4 H4 I4.unpinned st4 fr4 w')
    refine seg_bind_wrap ?_
    rw [hA]
    refine wpAny_mono (ht.run _ s3 σ3 H3 _ I3 q3) (fun ok s4 h4 => ?_) fun e s' h => (noX e s' h).elim
    obtain ⟨H4, I4, q4⟩ := h4
    cases ok with
    | false =>
      obtain ⟨m', hm, w'⟩ := q4
      exact back n s₀ s4 σ3 H4 I4 ⟨m', hm, by omega, w'⟩
    | true =>
      rw [if_pos rfl] at q4
      simp only [if_true]
      refine seg_bind_wrap ?_
      rw [hA]
      refine wpAny_mono (hi1.run _ s4 σ3 H4 _ I4 q4) (fun xv s5 h5 => ?_) fun e s' h => (noX e s' h).elim
      refine seg_bind_wrap (wpAny_standAt ?_)
      refine seg_bind_wrap (wpAny_of_eq (hs1 xv) ?_)
      refine seg_bind_wrap ?_
      rw [hA]
      refine wpAny_holding (wpAny_mono h5 (fun itv s6 h6 => ?_) fun e s' h => (noX e s' h).elim)
      obtain ⟨it1, fp1, tn1, J1, H6, rfl, I6, T1, st6, f6, m', hm', w6⟩ := h6
      refine seg_call fun p => ?_
      have hf6 : ∀ b ∈ fp1, b ≠ X.env.locals ∧ b ∉ X.fs ∧ (b ∈ X.ex ∨ X.s_0.heap.objs.size ≤ b) ∧ (∀ x c, X.env.cells.lookup x = some c → c ≠ b) ∧ ∀ p ∈ X.pn ++ (pn0 ++ pinsAt fp s2.heap), p.1 ≠ b := fun b hb => (f6 b hb).2
      have fr6 : ∀ b ∈ fp1, H6 b = none := fun b hb => (f6 b hb).1
      have loop := fun fr (hfr : B.over (.compLoop (.GeneratorExp elt [⟨tg, iter, ifs, 0⟩, ⟨tg1, iter1, ifs1, 0⟩] scope pos) 1 (.ref it1) .none X.env) [fr] = X.A) (h1 : splitAtGen [fr] = none) (h2 : [fr].any Frame.guarded = false) hend =>
        seg_last (e := .GeneratorExp elt [⟨tg, iter, ifs, 0⟩, ⟨tg1, iter1, ifs1, 0⟩] scope pos) (d := 1) (it := it1) (iter := iter1) (tg := tg1) (ifs := ifs1) (elt := elt) (fs := [fr]) (B := B) (pn0 := pn0) (pins := pn0 ++ pinsAt fp s2.heap) (Q := Q)
          (Fin := fun m' σ H => W (i + 1) m' σ H) (W := W1 J1 (i + 1)) hfr h1 h2 hxe hcalm hco ⟨_, rfl⟩ rfl rfl T1 hf6 (fun p hp => List.mem_append_left _ hp) hg1 ht1 he (turn1 J1 (i + 1)) m' hend m' n (Nat.le_refl _) (by omega) 0 s₀ s6 σ3 H6 I6 st6 fr6 w6
      show Seg _ B _ _ _ s₀ _ ((compStart (.GeneratorExp elt [⟨tg, iter, ifs, 0⟩, ⟨tg1, iter1, ifs1, 0⟩] scope pos) 1 (.ref it1) .none X.env).onRaise _) _ s6
      unfold compStart
      rw [Sem.onRaise_eq_wrap]
      show Seg _ B _ _ _ s₀ _ ((ask >>= _).wrap _ _ _ _) _ s6
      refine seg_bind_wrap (wpAny_askSetting ?_)
      split
      · refine seg_again rfl (loop _ (by rw [← hA]; rfl) rfl rfl fun m2 n2 s₂ s7 σ7 H7 hm2 hn2 I7 q7 => ?_)
        exact seg_leaf (.ok .next) (back n2 s₂ s7 σ7 H7 I7 ⟨m2, by omega, hn2, q7⟩)
      · refine seg_bind_wrap (wpAny_rule ?_)
        show Seg _ B _ _ _ s₀ _ ((standAt iter1.pos >>= _).wrap _ _ _ _) _ s6
        refine seg_bind_wrap (wpAny_standAt (seg_bind_wrap (T1.self _ 0 s6 _ _ st6 (seg_again rfl (loop _ (by rw [← hA]; rfl) rfl rfl fun m2 n2 s₂ s7 σ7 H7 hm2 hn2 I7 q7 => ?_)))))
        exact seg_leaf (.ok .next) (back n2 s₂ s7 σ7 H7 I7 ⟨m2, by omega, hn2, q7⟩)
end
end XG
set_option maxHeartbeats 4000000
namespace XG
open PySem PySem.Spec PyProof.Rows L2 GxR GxA
/-- the frame of a generator expression; the names are the def's -/
abbrev gcx (X : Cx) (A' : Around) (s4 : Shared) (H4 : Hp) (cenv : Env) (fp : List Addr) : Cx :=
  { X with A := A', s_0 := s4, H_0 := H4, env := cenv, outer := X.stack, stack := cenv :: X.stack, ex := fp, fn := fun _ => false, calm := true, pn := [], xe := fun _ _ => False }
structure GenS (scope : Scope) : Prop where
  co : scope.isCoroutine = false
  cell : ∀ y ∈ scope.names, y.2 ≠ .cell
  dot : scope.names.lookup (".0" : Str) = some NameKind.local
section
variable {X : Cx} {pins : List (Addr × Obj)} {σ : L2.St} {H : Hp} {s : Shared} {scope : Scope} {own : List (Str × Nat)} {fp : List Addr} {code : Value} {A' : Around}
theorem clo_mem (I : Inv X pins σ H s) (ok : BlkOk X.N X.env.scope scope own) {y : Str} {c : Addr} (hm : (y, c) ∈ cloFrom X.env.cells scope.names []) : X.env.cells.lookup y = some c ∧ (y, NameKind.free) ∈ scope.names := by
  rcases cloFrom_mem hm with hm | ⟨h1, rfl⟩
  · cases hm
  · have hfree : ∃ c, X.env.cells.lookup y = some c := by
      rcases ok.free _ h1 rfl with k | k
      · exact I.ok.has _ (.inl k)
      · exact I.ok.has _ (.inr k)
    obtain ⟨c, hc⟩ := hfree
    rw [hc]
    exact ⟨rfl, h1⟩
theorem clo_look (I : Inv X pins σ H s) (ok : BlkOk X.N X.env.scope scope own) {y : Str} (hl : scope.names.lookup y = some .free) : ∃ c, (cloFrom X.env.cells scope.names []).lookup y = some c ∧ X.env.cells.lookup y = some c := by
  have hy : (y, NameKind.free) ∈ scope.names := PySem.mem_of_lookup hl
  obtain ⟨c', e'⟩ := L2.mem_lookup (cloFrom_has (cells := X.env.cells) (acc := []) hy)
  exact ⟨c', e', (clo_mem I ok (PySem.mem_of_lookup e')).1⟩
theorem clo_in (I : Inv X pins σ H s) (ok : BlkOk X.N X.env.scope scope own) {y : Str} {c : Addr} (h : (cloFrom X.env.cells scope.names []).lookup y = some c) : X.env.cells.lookup y = some c := (clo_mem I ok (PySem.mem_of_lookup h)).1
theorem gcx_ok (I : Inv X pins σ H s) (S : GenS scope) (ok : BlkOk X.N X.env.scope scope own)
    (hA : A'.frames = some (genEnv scope (cloFrom X.env.cells scope.names []) s.heap.objs.size code builtinsNs X.env :: X.stack)) (hAh : A'.handled = none) (hfp : ∀ b ∈ fp, FpOk X pins H b) (hlt : ∀ b ∈ fp, b < s.heap.objs.size) :
    (gcx X A' s H (genEnv scope (cloFrom X.env.cells scope.names []) s.heap.objs.size code builtinsNs X.env) fp).Ok where
  mod := I.ok.mod
  kind := ok.kind
  glob := I.ok.glob
  blt := rfl
  above := Nat.le_refl _
  inj := fun x y c e1 e2 => I.ok.inj x y c (clo_in I ok e1) (clo_in I ok e2)
  has := fun x h => by
    rcases h with h | h
    · obtain ⟨n', hm⟩ := GxA.lookup_mem (show scope.names.lookup x = some .cell from h)
      exact absurd rfl (S.cell _ hm)
    · obtain ⟨c, h1, _⟩ := clo_look I ok (show scope.names.lookup x = some .free from h)
      exact ⟨c, h1⟩
  cab := fun x c e _ => nomatch (show false = true from e)
  hd := fun _ => hAh
  frames := hA
  stk := .inr ⟨rfl, rfl⟩
  exf := fun b hb => ⟨Nat.ne_of_lt (hlt b hb), fun x c e => (hfp b hb).2.2.2.2.1 x c (clo_in I ok e)⟩
  bs := I.bs
  bsz := Nat.le_trans I.ok.bsz I.sz
  noex := fun b o e hb => by
    rcases (hfp b hb).2.2.2.1 with z | z
    · exact I.ok.noex b o e z
    · exact absurd (Nat.lt_of_lt_of_le (Heap.lt_size (I.ok.bs b o e).1) z) (Nat.lt_irrefl _)
  exfs := fun b hb hs => by
    rcases List.mem_cons.mp (I.stkSub b hs) with z | z
    · exact (hfp b hb).2.1 z
    · exact (hfp b hb).2.2.1 z
  funs := I.stack
  frf := I.stkFree
theorem gcx_inv {h5 : Heap} {gs : Array GenState} {tk : Nat} {m : Str → Option Value} {a : Addr} {go : Obj} (I : Inv X pins σ H s) (S : GenS scope) (ok : BlkOk X.N X.env.scope scope own) (hN : X.N.Nodup)
    (hok : (gcx X A' s H (genEnv scope (cloFrom X.env.cells scope.names []) s.heap.objs.size code builtinsNs X.env) fp).Ok) (k5 : ∀ b o, s.heap.get? b = some o → h5.get? b = some o) (hn : h5.Ns s.heap.objs.size m) (ha : h5.get? a = some go) (hac : s.heap.objs.size < a)
    (hgo : ∀ v, go.data ≠ .cell v) (hgb : AllBare gs) :
    Inv (gcx X A' s H (genEnv scope (cloFrom X.env.cells scope.names []) s.heap.objs.size code builtinsNs X.env) fp) [(a, go)] (wipe σ (own.map (·.2))) H { s with gens := gs, toks := tk, heap := h5 } where
  ok := hok
  os := rfl
  bare := hgb
  base := Un.kept k5
  loc := ⟨m, hn, fun i y v e1 e2 e3 => by
    obtain ⟨e2, hne⟩ := wipe_some e2
    have no : ∀ k, scope.names.lookup y = some k → ¬ (k = .local ∨ k = .cell) := fun k e hh => by
      rcases ok.own _ (PySem.mem_of_lookup e) hh with e' | e'
      · obtain ⟨p, hp, hpy⟩ := List.mem_map.mp e'
        have e3 := ok.ix p hp
        have : p.1 = y := hpy
        rw [this] at e3
        exact hne (List.mem_map.mpr ⟨p, hp, nodup_ix hN e3 e1⟩)
      · exact e' (List.mem_of_getElem? e1)
    have hfr : scope.names.lookup y = some .free := by
      rcases (show Vis scope y from e3) with e3 | e3 | e3
      · exact absurd (.inl rfl) (no _ e3)
      · exact absurd (.inr rfl) (no _ e3)
      · exact e3
    obtain ⟨m0, hn0, hl⟩ := I.loc
    have hvis : Vis X.env.scope y := (ok.free _ (PySem.mem_of_lookup hfr) rfl).elim (fun k => .inr (.inl k)) (fun k => .inr (.inr k))
    obtain ⟨w, r, q⟩ := hl i y v e1 e2 hvis
    refine ⟨w, r, .inr ⟨.inr hfr, ?_⟩⟩
    obtain ⟨c, h1, h2⟩ := clo_look I ok hfr
    rcases q with ⟨k, _⟩ | ⟨_, c', e', z⟩
    · have k : X.env.scope.names.lookup y = some .local := k
      rcases ok.free _ (PySem.mem_of_lookup hfr) rfl with k' | k' <;> rw [show X.env.scope.names.lookup y = _ from k'] at k <;> cases k
    · rw [h2] at e'; cases e'
      exact ⟨c, h1, z.keeps k5⟩⟩
  cell := fun y c e => by
    obtain ⟨w, z⟩ := I.cell y c (clo_in I ok e)
    exact ⟨w, z.keeps k5⟩
  free := I.hok.fresh (Nat.le_refl _)
  freeC := fun y c e => I.freeC y c (clo_in I ok e)
  pin := fun p hp => by
    have e : p = (a, go) := by
      rcases List.mem_append.mp hp with z | z
      · cases z
      · exact List.mem_singleton.mp z
    subst e
    refine ⟨ha, I.hok.fresh (Nat.le_of_lt hac), Nat.ne_of_gt hac, fun hb => ?_, hgo⟩
    exact absurd (Nat.lt_trans (stk_lt I hb) hac) (Nat.lt_irrefl _)
  hok := (I.kept (t' := tk) k5).hok
  len := by rw [wipe_length]; exact I.len
end
theorem eval_GeneratorExpN (elt target iter : Expr) (ifs : List Expr) (gs : List Comprehension) (scope : Scope) (pos : Pos) (env : Env) (hco : scope.isCoroutine = false) :
    eval (.GeneratorExp elt (⟨target, iter, ifs, 0⟩ :: gs) scope pos) env = (do
      let x ← eval iter env
      standAt iter.pos
      let x ← genFold iter env x
      let it ← holding [x] (pyIter x)
      enterFrame
      let cl ← closureFor scope env
      let code ← genexprCode env pos (env.qual ++ "<genexpr>") scope
      let bi ← builtinsFor env.globals env.builtins
      let cenv ← newFunctionEnv scope env.globals cl [(".0", it)] (env.qual ++ "<genexpr>.") none code none bi
      newGenerator (.compStart (.GeneratorExp elt (⟨target, iter, ifs, 0⟩ :: gs) scope pos) 0 it .none cenv) "<genexpr>" (env.qual ++ "<genexpr>")) := by
  rw [arm_eval_GeneratorExp]
  simp only [hco, Bool.false_eq_true, if_false]
  cases iter <;> rfl
section
variable {M : Model} {A : Around} {E : Value → Shared → Prop} {s : Shared}
theorem wpAny_GenN_make {env : Env} {elt target iter : Expr} {ifs : List Expr} {gs : List Comprehension} {scope : Scope} {cl : List (Str × Addr)} {pos : Pos} {Q : Value → Shared → Prop}
    (hco : scope.isCoroutine = false) (hclos : closureFor scope env = pure cl) (hcell : ∀ y ∈ scope.names, y.2 ≠ .cell) (h0 : scope.names.lookup (".0" : Str) = some NameKind.local) (hkind : scope.kind = .function)
    (hroom : A.depth < recursionLimit)
    (h : wpAny M A (eval iter env) (fun xv s₁ => wpAny M A (pyIter xv) (fun it s₂ => s₂.heap.NoLimit ∧
      wpAny M A (genexprCode env pos (env.qual ++ "<genexpr>") scope) (fun code s₃ => wpAny M A (builtinsFor env.globals env.builtins) (fun bi s₄ =>
        ∀ h', h'.Ns s₄.heap.objs.size (fun y => if y = ".0" then some it else none) → Heap.SameBut s₄.heap.objs.size (s₄.heap.push { cls := .type "frame", data := .dict #[] }) h' →
          Q (.ref h'.objs.size) { s₄ with
            gens := s₄.gens.push (.fresh (.compStart (.GeneratorExp elt (⟨target, iter, ifs, 0⟩ :: gs) scope pos) 0 it .none (genEnv scope cl s₄.heap.objs.size code bi env))),
            toks := s₄.toks + 1 + 1 + 1,
            heap := h'.push { cls := .type "generator", data := .fields #[.int s₄.gens.size 0, .str "<genexpr>" (s₄.toks + 1), .str (env.qual ++ "<genexpr>") (s₄.toks + 1 + 1)] } }) E s₃) E s₂) E s₁) E s)
    (hs : ∀ x, genFold iter env x = pure x) :
    wpAny M A (eval (.GeneratorExp elt (⟨target, iter, ifs, 0⟩ :: gs) scope pos) env) Q E s := by
  rw [eval_GeneratorExpN _ _ _ _ _ _ _ _ hco, hclos]
  refine wpAny_bind (wpAny_mono h (fun xv s₁ h₁ => ?_) fun _ _ e => e)
  refine wpAny_bind (wpAny_standAt ?_)
  refine wpAny_bind (wpAny_of_eq (hs xv) ?_)
  refine wpAny_bind (wpAny_holding (wpAny_mono h₁ (fun it s₂ h₂ => ?_) fun _ _ e => e))
  refine wpAny_bind (wpAny_enterFrame h₂.1 hroom ?_)
  refine wpAny_bind (wpAny_pure ?_)
  refine wpAny_bind (wpAny_mono h₂.2 (fun code s₃ h₃ => ?_) fun _ _ e => e)
  refine wpAny_bind (wpAny_mono h₃ (fun bi s₄ h₄ => ?_) fun _ _ e => e)
  have hbinds : ∀ y ∈ ([((".0" : Str), it)] : List (Str × Value)), scope.names.lookup y.1 = some NameKind.local := by
    intro y hy
    rcases List.mem_cons.mp hy with rfl | hy
    · exact h0
    · cases hy
  refine wpAny_bind (wpAny_newFunctionEnv hcell hbinds (fun h' hn' hs' => ?_) hkind)
  have e : (fun y : Str => ([((".0" : Str), it)] : List (Str × Value)).reverse.lookup y) = fun y : Str => if y = (".0" : Str) then some it else none := by
    funext y
    by_cases hy : y = ".0"
    · subst hy; simp
    · have : (y == (".0" : Str)) = false := by simpa using hy
      simp [List.lookup, this, hy]
  rw [e] at hn'
  simp only [newGenerator, newFields]
  refine wpAny_bind (wpAny_newGen (wpAny_bind (wpAny_mkText (wpAny_bind (wpAny_mkText (wpAny_newObj_type ?_ (by size_fits)))))))
  exact h₄ h' hn' hs'
end
end XG
set_option maxHeartbeats 4000000
namespace XG
open PySem PySem.Spec PyProof.Rows L2 GxR GxA
/-- how such a generator begins, in its own frame -/
def Starts (X : Cx) (E : Expr) (tg : Expr) (St : It → L2.St → Hp → VK → Prop) : Prop := ∀ (B : Around) (it : Addr) (fp : List Addr) (tn : Nat → Heap → Prop) (J : It) (pn0 : List (Addr × Obj)) (Q : VK) (σ : L2.St) (H : Hp),
  B.over (.compLoop E 0 (.ref it) .none X.env) [] = X.A → Turn X.prog X.w X.K tg J fp it tn →
  (∀ b ∈ fp, b ≠ X.env.locals ∧ b ∉ X.fs ∧ (b ∈ X.ex ∨ X.s_0.heap.objs.size ≤ b) ∧ (∀ x c, X.env.cells.lookup x = some c → c ≠ b) ∧ ∀ p ∈ X.pn ++ pn0, p.1 ≠ b) → St J σ H Q →
  ∃ n, ∀ (s₀ s : Shared), Inv X pn0 σ H s → tn 0 s.heap → (∀ b ∈ fp, H b = none) →
    Seg (model X.prog X.w) B (fun n s₀ r s₁ => r = .ok .next ∧ GRz X pn0 Q n s₀ s₁) (GYz X pn0 Q) n s₀ (.compStart E 0 (.ref it) .none X.env) ((model X.prog X.w).den (.compStart E 0 (.ref it) .none X.env)) [] s
def St1 (g : TG) (tt : TT) (te : TE) : It → L2.St → Hp → VK → Prop := fun J σ H Q => ∃ W : Nat → Nat → L2.St → Hp → Prop, (∃ m, W 0 m σ H) ∧ TurnL J g tt te Q (fun _ _ H => Q (.bl true) H) W
def St2 (g : TG) (tt : TT) (wi1 : TI) (g1 : TG) (tt1 : TT) (te : TE) : It → L2.St → Hp → VK → Prop := fun J σ H Q => ∃ (W : Nat → Nat → L2.St → Hp → Prop) (W1 : It → Nat → Nat → Nat → L2.St → Hp → Prop), (∃ m, W 0 m σ H) ∧ TurnO J g tt wi1 Q W W1 ∧ ∀ J1 i, TurnL J1 g1 tt1 te Q (fun m σ H => W i m σ H) (W1 J1 i)
section
variable {X : Cx} {tg elt iter tg1 iter1 : Expr} {ifs ifs1 : List Expr} {scope : Scope} {pos : Pos} {g g1 : TG} {tt tt1 : TT} {te : TE} {wi1 : TI}
theorem starts1 (hxe : X.xe = fun _ _ => False) (hcalm : X.calm = true) (hco : X.env.scope.isCoroutine = false) (hg : PG X tg g) (ht : PTs X ifs tt) (he : PE X elt te) : Starts X (.GeneratorExp elt [⟨tg, iter, ifs, 0⟩] scope pos) tg (St1 g tt te) := by
  rintro B it fp tn J pn0 Q σ H hA T hf ⟨W, ⟨m, w0⟩, turn⟩
  refine ⟨m + 1, fun s₀ s I st fr => ?_⟩
  have loop := seg_last (e := .GeneratorExp elt [⟨tg, iter, ifs, 0⟩] scope pos) (d := 0) (it := it) (iter := iter) (tg := tg) (ifs := ifs) (elt := elt) (fs := []) (B := B) (pn0 := pn0) (pins := pn0) (Q := Q) hA rfl rfl hxe hcalm hco ⟨_, rfl⟩ rfl rfl T hf (fun p hp => hp) hg ht he turn m
    (fun m2 n2 s₂ s7 σ7 H7 hm2 hn2 I7 q7 => seg_end (.ok .next) ⟨rfl, _, H7, I7, q7⟩) m (m + 1) (Nat.le_refl _) (Nat.lt_succ_self _) 0 s₀ s σ H I st fr w0
  show Seg _ B _ _ _ s₀ _ ((compStart (.GeneratorExp elt [⟨tg, iter, ifs, 0⟩] scope pos) 0 (.ref it) .none X.env).onRaise (leaving X.env)) [] s
  unfold compStart
  rw [Sem.onRaise_eq_wrap]
  show Seg _ B _ _ _ s₀ _ ((ask >>= _).wrap _ _ _ _) [] s
  refine seg_bind_wrap (wpAny_askSetting ?_)
  split
  · exact seg_again rfl loop
  · first
      | exact seg_bind_wrap (wpAny_rule (seg_bind_wrap (wpAny_standAt (seg_bind_wrap (T.self _ 0 s _ _ st (seg_again rfl loop))))))
      | (refine seg_bind_wrap (wpAny_rule ?_); show Seg _ B _ _ _ s₀ _ ((standAt iter.pos >>= _).wrap _ _ _ _) [] s; exact seg_bind_wrap (wpAny_standAt (seg_bind_wrap (T.self _ 0 s _ _ st (seg_again rfl loop)))))
theorem starts2 (hxe : X.xe = fun _ _ => False) (hcalm : X.calm = true) (hco : X.env.scope.isCoroutine = false) (hg : PG X tg g) (ht : PTs X ifs tt) (hi1 : PI X tg1 iter1 wi1) (hg1 : PG X tg1 g1) (ht1 : PTs X ifs1 tt1) (he : PE X elt te) (hs1 : ∀ x, foldedSetIterable iter1 X.env x = pure x) :
    Starts X (.GeneratorExp elt [⟨tg, iter, ifs, 0⟩, ⟨tg1, iter1, ifs1, 0⟩] scope pos) tg (St2 g tt wi1 g1 tt1 te) := by
  rintro B it fp tn J pn0 Q σ H hA T hf ⟨W, W1, ⟨m, w0⟩, turn, turn1⟩
  refine ⟨m + 1, fun s₀ s I st fr => ?_⟩
  have loop := seg_out (iter := iter) (scope := scope) (pos := pos) hA hxe hcalm hco T hf hg ht hi1 hg1 ht1 he hs1 turn turn1 m (m + 1) (Nat.lt_succ_self _) 0 s₀ s σ H I st fr w0
  show Seg _ B _ _ _ s₀ _ ((compStart (.GeneratorExp elt [⟨tg, iter, ifs, 0⟩, ⟨tg1, iter1, ifs1, 0⟩] scope pos) 0 (.ref it) .none X.env).onRaise (leaving X.env)) [] s
  unfold compStart
  rw [Sem.onRaise_eq_wrap]
  show Seg _ B _ _ _ s₀ _ ((ask >>= _).wrap _ _ _ _) [] s
  refine seg_bind_wrap (wpAny_askSetting ?_)
  split
  · exact seg_again rfl loop
  · first
      | exact seg_bind_wrap (wpAny_rule (seg_bind_wrap (wpAny_standAt (seg_bind_wrap (T.self _ 0 s _ _ st (seg_again rfl loop))))))
      | (refine seg_bind_wrap (wpAny_rule ?_); show Seg _ B _ _ _ s₀ _ ((standAt iter.pos >>= _).wrap _ _ _ _) [] s; exact seg_bind_wrap (wpAny_standAt (seg_bind_wrap (T.self _ 0 s _ _ st (seg_again rfl loop)))))
end
/-- all(..): P the table of the def's code object, vs the slots of the generator's own names -/
def tAllX (P : Addr) (wi : TI) (St : It → L2.St → Hp → VK → Prop) (vs : List Nat) : TE := fun σ H Q => wi σ H fun J H1 => TabG H1 P ∧ ∀ H2, Tabbed P H1 H2 → St J (wipe σ vs) H2 Q
section
variable {X : Cx} {c P : Addr} {tg elt iter : Expr} {ifs : List Expr} {gs : List Comprehension} {p pos gpos : Pos} {scope : Scope} {own : List (Str × Nat)} {wi : TI} {St : It → L2.St → Hp → VK → Prop} {k : Nat}
theorem pe_allX (hr : Room (k + 1) X.A) (hgd : X.A.guards = some []) (hgl : Gl X "all") (hm : X.mg "all" = none) (TB : TabB X.base X.mg c P) (hcode : X.env.code = .ref c) (S : GenS scope) (ok : BlkOk X.N X.env.scope scope own) (hN : X.N.Nodup) (hi : PI X tg iter wi)
    (hst : ∀ A' s4 H4 cenv fp, cenv.scope = scope → Room k A' → A'.guards = some [] → Starts (gcx X A' s4 H4 cenv fp) (.GeneratorExp elt (⟨tg, iter, ifs, 0⟩ :: gs) scope gpos) tg St)
    (hs : ∀ v, genFold iter X.env v = pure v)
    (hse : starEach [.GeneratorExp elt (⟨tg, iter, ifs, 0⟩ :: gs) scope gpos] X.env = (false, eval (.GeneratorExp elt (⟨tg, iter, ifs, 0⟩ :: gs) scope gpos) X.env) :: starEach [] X.env := by rfl) (hb : bootBuiltins "all" = some (.builtin "all") := by decide +kernel) :
    PE X (.Call (.Name "all" p) [.GeneratorExp elt (⟨tg, iter, ifs, 0⟩ :: gs) scope gpos] [] pos) (tAllX P wi St (own.map (·.2))) := by
  refine ⟨fun pins s σ H Q I h => ?_⟩
  refine wpAny_Call_Name_kw (ld_blt I hgl hm hb ?_)
  refine PyProof.Rows.callWith_builtin1 ?_ hse (by rfl)
  rw [hse]
  show wpAny _ _ (spliced ((false, eval (.GeneratorExp elt (⟨tg, iter, ifs, 0⟩ :: gs) scope gpos) X.env) :: backTo pos (starEach [] X.env))) _ _ s
  refine Calls.spliced_cons ?_
  have hclos : closureFor scope X.env = pure (cloFrom X.env.cells scope.names []) := closure_ok fun y hy e => by
    rcases ok.free y hy e with k | k
    · exact I.ok.has _ (.inl k)
    · exact I.ok.has _ (.inr k)
  refine wpAny_GenN_make S.co hclos S.cell S.dot ok.kind (by have := hr.dp; omega) ?_ hs
  refine thn (hi.run pins s σ H _ I h) fun xv s1 h1 => thn h1 fun itv s2 h2 => ?_
  obtain ⟨it, fp, tn, J, H1, rfl, I1, T, st1, f1, ⟨ps, hP, ht⟩, hW⟩ := h2
  refine ⟨I1.nolimit, ?_⟩
  have hPs : s2.heap.get? P = some { cls := .none, data := .fields ps } := I1.hok P _ hP
  have cd : PySem.W.CodeHd s2.heap c P := TB.code.keeps fun b u e => I1.bk b u e
  have hlt1 : ∀ b ∈ fp, b < s2.heap.objs.size := fun b hb => by
    obtain ⟨o, e, _⟩ := T.obj _ _ st1 b hb
    exact Heap.lt_size e
  have cont : ∀ (code : Value) (h3 : Heap) (tk : Nat) (more : Array Value), Heap.ExtBut P s2.heap h3 → s2.heap.objs.size ≤ h3.objs.size → h3.get? P = some { cls := .none, data := .fields (ps ++ more) } → TriplesOk (ps ++ more).toList →
      wpAny (model X.prog X.w) X.A (builtinsFor X.env.globals X.env.builtins) (fun bi s₄ =>
        ∀ h', h'.Ns s₄.heap.objs.size (fun y => if y = ".0" then some (.ref it) else none) → Heap.SameBut s₄.heap.objs.size (s₄.heap.push { cls := .type "frame", data := .dict #[] }) h' →
          wpAny (model X.prog X.w) X.A (spliced (backTo pos (starEach [] X.env))) (fun vs s' => wpAny (model X.prog X.w) X.A (call (.builtin "all") (.ref h'.objs.size :: vs)) (EP X pins σ Q) X.xe s') X.xe { s₄ with
            gens := s₄.gens.push (.fresh (.compStart (.GeneratorExp elt (⟨tg, iter, ifs, 0⟩ :: gs) scope gpos) 0 (.ref it) .none (genEnv scope (cloFrom X.env.cells scope.names []) s₄.heap.objs.size code bi X.env))),
            toks := s₄.toks + 1 + 1 + 1,
            heap := h'.push { cls := .type "generator", data := .fields #[.int s₄.gens.size 0, .str "<genexpr>" (s₄.toks + 1), .str (X.env.qual ++ "<genexpr>") (s₄.toks + 1 + 1)] } }) X.xe { s2 with heap := h3, toks := tk } := by
    intro code h3 tk more hx hsz hP3 ht3
    obtain ⟨bm, ob, e1, e2, e3, e4, e5, e6, e7, e8⟩ := TB.bm
    have keep3 : ∀ b u, b ≠ P → s2.heap.get? b = some u → h3.get? b = some u := fun b u hb e => hx b u hb e
    refine wpAny_builtinsFor (m := X.mg) (by rw [I1.ok.glob]; exact (I1.mod.glob.keeps I1.bk).extBut hx TB.gP) e1 e2 (keep3 _ _ e4 (I1.bk _ _ e5)) e6 e7 e8 ?_
    intro h' hn' hs'
    have I3 : Inv X pins σ (upd H1 P (.tbl (ps ++ more))) { s2 with heap := h3, toks := tk } := inv_tab (more := more) (h' := h3) (g' := s2.gens) (d' := s2.drawn) (t' := tk) I1 hP keep3 hP3 I1.bare
    have hSt := hW _ ⟨⟨ps ++ more, upd_same, ht3⟩, fun b hb => upd_ne hb⟩
    have nP : ∀ b ∈ fp, b ≠ P := fun b hb z => by
      have := (f1 b hb).1
      rw [z, hP] at this
      cases this
    have fr3 : ∀ b ∈ fp, upd H1 P (.tbl (ps ++ more)) b = none := fun b hb => by
      rw [upd_ne (nP b hb)]
      exact (f1 b hb).1
    have f3 : ∀ b ∈ fp, FpOk X pins (upd H1 P (.tbl (ps ++ more))) b := fun b hb => ⟨fr3 b hb, (f1 b hb).2⟩
    have st3 : tn 0 h3 := T.keep _ _ _ st1 fun b hb o e => keep3 b o (nP b hb) e
    have hlt3 : ∀ b ∈ fp, b < h3.objs.size := fun b hb => Nat.lt_of_lt_of_le (hlt1 b hb) hsz
    obtain ⟨cenv, hcenv⟩ : ∃ cenv, genEnv scope (cloFrom X.env.cells scope.names []) h3.objs.size code builtinsNs X.env = cenv := ⟨_, rfl⟩
    have sz' : h'.objs.size = h3.objs.size + 1 := by rw [hs'.1, Heap.size_push]
    have keep' : ∀ b o, h3.get? b = some o → h'.get? b = some o := fun b o e => hs'.extBut b o (Nat.ne_of_lt (Heap.lt_size e)) (Heap.get?_push_of_some _ e)
    have Ok' : (gcx X ((X.A.in1.in1).over (.compLoop (.GeneratorExp elt (⟨tg, iter, ifs, 0⟩ :: gs) scope gpos) 0 (.ref it) .none cenv) []) { s2 with heap := h3, toks := tk } (upd H1 P (.tbl (ps ++ more))) cenv fp).Ok := by
      rw [← hcenv]
      refine gcx_ok I3 S ok ?_ hr.hd f3 hlt3
      show pushEnvs [_] (pushEnvs [] X.A.frames) = _
      rw [I1.ok.frames]
      rfl
    have hRoom : Room k ((X.A.in1.in1).over (.compLoop (.GeneratorExp elt (⟨tg, iter, ifs, 0⟩ :: gs) scope gpos) 0 (.ref it) .none cenv) []) := by
      refine ⟨hr.hd, ?_, ?_⟩
      · have := hr.dp
        show X.A.depth + 0 + 1 + 3 * k + 5 < _
        omega
      · have := hr.un
        show X.A.units + 1 + 1 + 0 + 3 + 16 * k + 200 < _
        omega
    have hG : ((X.A.in1.in1).over (.compLoop (.GeneratorExp elt (⟨tg, iter, ifs, 0⟩ :: gs) scope gpos) 0 (.ref it) .none cenv) []).guards = some [] := by
      rw [← hgd]
      rfl
    have hsc : cenv.scope = scope := by
      rw [← hcenv]
      rfl
    have hloc : cenv.locals = h3.objs.size := by
      rw [← hcenv]
      rfl
    have hcel : cenv.cells = cloFrom X.env.cells scope.names [] := by
      rw [← hcenv]
      rfl
    obtain ⟨go, hgo⟩ : ∃ go : Obj, { cls := .type "generator", data := .fields #[.int s2.gens.size 0, .str "<genexpr>" (tk + 1), .str (X.env.qual ++ "<genexpr>") (tk + 1 + 1)] } = go := ⟨_, rfl⟩
    have keep5 : ∀ b o, h3.get? b = some o → (h'.push go).get? b = some o := fun b o e => Heap.get?_push_of_some _ (keep' b o e)
    have bare5 : AllBare (s2.gens.push (.fresh (.compStart (.GeneratorExp elt (⟨tg, iter, ifs, 0⟩ :: gs) scope gpos) 0 (.ref it) .none cenv))) := I1.bare.push rfl
    have I5 : Inv (gcx X ((X.A.in1.in1).over (.compLoop (.GeneratorExp elt (⟨tg, iter, ifs, 0⟩ :: gs) scope gpos) 0 (.ref it) .none cenv) []) { s2 with heap := h3, toks := tk } (upd H1 P (.tbl (ps ++ more))) cenv fp) [(h'.objs.size, go)] (wipe σ (own.map (·.2)))
        (upd H1 P (.tbl (ps ++ more))) { s2 with gens := s2.gens.push (.fresh (.compStart (.GeneratorExp elt (⟨tg, iter, ifs, 0⟩ :: gs) scope gpos) 0 (.ref it) .none cenv)), toks := tk + 1 + 1 + 1, heap := h'.push go } := by
      subst hcenv
      refine gcx_inv (m := fun y => if y = ".0" then some (.ref it) else none) I3 S ok hN Ok' keep5 (hn'.push _) (Heap.get?_push_size _ (by rw [← hgo]; rfl)) (by show h3.objs.size < h'.objs.size; omega) (fun v z => ?_) bare5
      rw [← hgo] at z
      cases z
    have hf5 : ∀ b ∈ fp, b ≠ cenv.locals ∧ b ∉ frs X.stack ∧ (b ∈ fp ∨ h3.objs.size ≤ b) ∧ (∀ x c, cenv.cells.lookup x = some c → c ≠ b) ∧ ∀ p ∈ [] ++ [(h'.objs.size, go)], p.1 ≠ b := fun b hb => by
      refine ⟨?_, fun z => ?_, .inl hb, fun x c e => ?_, fun p hp => ?_⟩
      · rw [hloc]
        exact Nat.ne_of_lt (hlt3 b hb)
      · rcases List.mem_cons.mp (I1.stkSub b z) with q | q
        · exact (f1 b hb).2.1 q
        · exact (f1 b hb).2.2.1 q
      · rw [hcel] at e
        exact (f1 b hb).2.2.2.2.1 x c (clo_in I1 ok e)
      · have e : p = (h'.objs.size, go) := List.mem_singleton.mp hp
        subst e
        exact Nat.ne_of_gt (Nat.lt_trans (hlt3 b hb) (by rw [sz']; exact Nat.lt_succ_self _))
    obtain ⟨m0, loop⟩ := hst _ { s2 with heap := h3, toks := tk } (upd H1 P (.tbl (ps ++ more))) cenv fp hsc hRoom hG X.A.in1.in1 it fp tn J [(h'.objs.size, go)] Q _ _ rfl T hf5 hSt
    refine Calls.spliced_nil ?_
    refine call_function_tree F.kind_all F.plain_all F.entry_all (F.args_all1 _) ?_
    unfold Builtin.«all»
    refine wpAny_bind (m := oneArg "all" _) (wpAny_pure ?_)
    have hgen : (h'.push go).IsGen h'.objs.size s2.gens.size := ⟨go, _, _, Heap.get?_push_size _ (by rw [← hgo]; rfl), by rw [← hgo], by rw [← hgo], by rw [← hgo]⟩
    subst hcenv
    subst hgo
    refine wpAny_bind (wpAny_pyIter_gen hgen ?_)
    refine wpAny_pure ⟨plainId_quiet F.plain_all_loop _, ?_⟩
    refine all_loop (X := (gcx X ((X.A.in1.in1).over (.compLoop (.GeneratorExp elt (⟨tg, iter, ifs, 0⟩ :: gs) scope gpos) 0 (.ref it) .none (genEnv scope (cloFrom X.env.cells scope.names []) h3.objs.size code builtinsNs X.env)) []) { s2 with heap := h3, toks := tk } (upd H1 P (.tbl (ps ++ more))) (genEnv scope (cloFrom X.env.cells scope.names []) h3.objs.size code builtinsNs X.env) fp)) (Q := Q) (A := X.A)
      (go := { cls := .type "generator", data := .fields #[.int s2.gens.size 0, .str "<genexpr>" (tk + 1), .str (X.env.qual ++ "<genexpr>") (tk + 1 + 1)] }) (pn0 := [(h'.objs.size, _)]) hr.hd (by have := hr.dp; omega) ⟨rfl, ⟨_, _, rfl⟩, rfl⟩ (List.mem_singleton.mpr rfl)
      (fun b s' σ' H' J q => ?_) m0 _ _ _ _ I5 (Array.getElem?_push_size ..) ⟨rfl, ?_⟩
    · obtain ⟨hh, gg, dd, tt, oo⟩ := s'
      obtain rfl : oo = s2.os := J.os
      have I7 := I3.call (h' := hh) (g' := gg) (d' := dd) (t' := tt) (ch := fp) J.base J.hok J.bare fun b hb => ⟨(f1 b hb).2.2.2.1, (f1 b hb).2.1, (f1 b hb).2.2.2.2.1, (f1 b hb).2.2.2.2.2⟩
      exact ⟨.bl b, H', I7, rfl, q⟩
    · have I6 := inv_gens (s' := ({ s2 with gens := s2.gens.push (.fresh (.compStart (.GeneratorExp elt (⟨tg, iter, ifs, 0⟩ :: gs) scope gpos) 0 (.ref it) .none (genEnv scope (cloFrom X.env.cells scope.names []) h3.objs.size code builtinsNs X.env))), toks := tk + 1 + 1 + 1, heap := h'.push { cls := .type "generator", data := .fields #[.int s2.gens.size 0, .str "<genexpr>" (tk + 1), .str (X.env.qual ++ "<genexpr>") (tk + 1 + 1)] } } : Shared).setGen s2.gens.size .running) I5 rfl rfl (bare_set I5.bare rfl)
      exact loop _ _ I6 (T.keep _ _ _ st3 fun b _ o e => keep5 b o e) fr3
  cases hf : codeAmong gpos ps.toList with
  | none =>
    refine wpAny_genexprCodeX hcode (cd.code hPs ht) (cd.tab hPs) hf fun c' h' tk hx hge hlt hco' _ htab' _ => ?_
    obtain ⟨o1, vs, f1, tf, fl, tg, inF, tx, tt, op, _, _, _, _, _, _, _, _, _, htr, _⟩ := hco'
    exact cont _ h' tk _ hx (Nat.le_trans hge (Nat.le_of_lt hlt)) htab'.2 htr
  | some cv =>
    refine wpAny_genexprCode_hit hcode (cd.code hPs ht) hf ?_
    exact cont cv s2.heap s2.toks #[] (Heap.ExtBut.refl _ _) (Nat.le_refl _) (by simpa using hPs) (by simpa using ht)
end
end XG
set_option maxHeartbeats 4000000
namespace XE
open PySem PySem.Spec PyProof.Rows L2 HM
/-! ### len(set(t)), t a tuple of texts -/
/-- how many unlike ones are among the first i -/
def dst (ys : List Str) : Nat → Nat
  | 0 => 0
  | i + 1 => if decide (ys.getD i "" ∈ ys.take i) = true then dst ys i else dst ys i + 1
theorem dst_le (ys : List Str) : ∀ i, dst ys i ≤ i
  | 0 => Nat.le_refl _
  | i + 1 => by
    have := dst_le ys i
    unfold dst
    split <;> omega
theorem take_getD {ys : List Str} {i : Nat} (h : i < ys.length) : ys.take (i + 1) = ys.take i ++ [ys.getD i ""] := by
  rw [List.take_add_one, List.getD_eq_getElem?_getD, List.getElem?_eq_getElem h]
  rfl
theorem dst_all (ys : List Str) : ∀ i, i ≤ ys.length → (dst ys i = i ↔ (ys.take i).Nodup)
  | 0, _ => by simp [dst]
  | i + 1, h => by
    have ih := dst_all ys i (by omega)
    have hl := dst_le ys i
    rw [take_getD (by omega)]
    unfold dst
    by_cases hm : ys.getD i "" ∈ ys.take i
    · rw [if_pos (decide_eq_true hm)]
      refine ⟨fun z => by omega, fun z => ?_⟩
      have := (List.nodup_append.mp z).2.2 _ hm _ (List.mem_singleton.mpr rfl)
      exact absurd rfl this
    · rw [if_neg (by rw [decide_eq_false hm]; exact Bool.false_ne_true)]
      refine ⟨fun z => ?_, fun z => ?_⟩
      · have h1 := ih.mp (by omega)
        refine List.nodup_append.mpr ⟨h1, by simp, fun a ha b hb => ?_⟩
        rw [List.mem_singleton.mp hb]
        exact fun e => hm (e ▸ ha)
      · have := ih.mpr (List.nodup_append.mp z).1
        omega
abbrev eS (led : Bool) : Obj := { cls := .type "set", dict := none, data := .set #[] 0 (.fresh 0 0 led) }
section
variable {P : Program} {w : World} {A : Around} {E : Value → Shared → Prop} {s : Shared}
theorem set_loop {I : Addr} {fp wr : List Addr} {G : Array GenState → Array GenState → Prop} {n : Nat} {Pv : Nat → Value → Prop} {St : Nat → Shared → Prop} {R : Result → Shared → Prop} (wk : WalksS P w A.in1 I fp wr G n Pv St) (S : Addr) (out : S ∉ fp) (ys : List Str) (hn : n = ys.length) (hb : n + 1 < scanBound)
    (hv : ∀ i v, Pv i v → ∃ t, v = .str (ys.getD i "") t) : ∀ (k i : Nat) (s : Shared), n - i = k → i ≤ n → St i s → s.heap.SetOf (strKind P w) S (fun y => decide (y ∈ ys.take i)) (dst ys i) →
      (∀ s', Moved (S :: wr) G s s' → s'.heap.SetOf (strKind P w) S (fun y => decide (y ∈ ys.take n)) (dst ys n) → R (.ok (.ret .none)) s') → codeAny (model P w) A (.builtin "set.update.loop" ⟨[.ref S, .ref I], []⟩) R s := by
  have outW : S ∉ wr := fun z => out (wk.sub _ z)
  have more : ∀ b ∈ wr, b ∈ S :: wr := fun b z => .tail _ z
  have stays : ∀ {s1 s2 : Shared} {T : Str → Bool} {c : Nat}, Moved wr G s1 s2 → s1.heap.SetOf (strKind P w) S T c → s2.heap.SetOf (strKind P w) S T c := fun m ⟨o, es, ep, t, ho, r⟩ => ⟨o, es, ep, t, m.heap S _ outW ho, r⟩
  intro k
  induction k with
  | zero =>
    intro i s e1 e2 st hS hR
    obtain rfl : i = n := by omega
    refine codeAny_builtin F.entry_set_update_loop ?_
    rw [Around.under_plainId F.plain_set_update_loop _]
    show wpAny _ A.in1 (pyNext (.ref I) >>= _) _ _ s
    refine wpAny_bind (wk.done s _ _ st fun s2 m => ?_)
    exact wpAny_pure (hR s2 (m.mono more) (stays m hS))
  | succ k ih =>
    intro i s e1 e2 st hS hR
    have lt : i < n := by omega
    refine codeAny_builtin F.entry_set_update_loop ?_
    rw [Around.under_plainId F.plain_set_update_loop _]
    show wpAny _ A.in1 (pyNext (.ref I) >>= _) _ _ s
    refine wpAny_bind (wk.item i s _ _ lt st fun v s2 hP st2 m => ?_)
    obtain ⟨t, rfl⟩ := hv i v hP
    have hS2 := stays m hS
    show wpAny _ A.in1 (holding [Value.str (ys.getD i "") t] (setAdd S (.str (ys.getD i "") t)) >>= _) _ _ s2
    refine wpAny_bind (wpAny_holding ?_)
    unfold setAdd
    refine wpAny_holding (wpAny_bind ((strKind P w).pyHash (k := ys.getD i "") (strKind_is _ _ _ _) ?_))
    have room : dst ys i + 1 < scanBound := by
      have := dst_le ys i
      omega
    refine wpAny_setAddHashed_of (knd := strKind P w) (s := { s2 with toks := s2.toks + 1 }) (strKind_is _ _ _ _) rfl hS2 room fun h3 sb hS3 => ?_
    have hS4 : h3.SetOf (strKind P w) S (fun y => decide (y ∈ ys.take (i + 1))) (dst ys (i + 1)) := SetOf_congr hS3 (fun y => by
      rw [take_getD (by omega)]
      simp [List.mem_append]) rfl
    refine wpAny_pure ⟨plainId_quiet F.plain_set_update_loop _, ih (i + 1) _ (by omega) lt (wk.frame _ s2 _ _ st2 (Nat.le_succ _) fun b hb o e => ?_) hS4 fun s5 m5 hS5 => ?_⟩
    · exact (sb.2 b fun z => out (z ▸ hb)).trans e
    · exact hR s5 (Moved.trans wk.gtrans ((m.mono more).then_heap (Nat.le_succ _) fun b o hb e => (sb.2 b fun z => hb (by rw [z]; exact .head _)).trans e) m5) hS5
theorem new_set (a : Value) {Q : Value → Shared → Prop} (h : ∀ led, Q (.ref s.heap.objs.size) { s with heap := s.heap.push (eS led) }) : codeAny (model P w) A (.call (.builtin "set.__new__") ⟨[.type "set", a], []⟩) (wants Q E) s := code_set_new_1 a h
/-- set(t) -/
theorem call_setS {l : Addr} {items : Array Value} {ys : List Str} {Q : Value → Shared → Prop} (hh : A.handled = none) (hl : s.heap.IsTuple l items) (hi : ∀ (i : Nat) (v : Value), items[i]? = some v → ∃ t, v = Value.str (ys.getD i "") t) (hz : items.size = ys.length) (hb : items.size + 1 < scanBound)
    (h : ∀ (h2 : Heap) (tk : Nat), h2.SetOf (strKind P w) s.heap.objs.size (fun y => decide (y ∈ ys.take items.size)) (dst ys items.size) → (∀ b o, s.heap.get? b = some o → h2.get? b = some o) → Q (.ref s.heap.objs.size) { s with heap := h2, toks := tk }) :
    wpAny (model P w) A (call (.type "set") [.ref l]) Q E s := by
  obtain ⟨c, tl, hmro⟩ := F.called_set.mro
  have m1 := F.called_set.made
  have m2 := F.called_set.sub
  refine wpAny_call (codeAny_of_tree ?_)
  show wpAny _ _ (callAny (.type "set") _) _ _ _
  refine wpAny_pure ⟨Code.quiet_builtin _ (by decide +kernel), codeAny_builtin F.entry_type_call ?_⟩
  rw [Around.under_plain (weight_type_call_type "set" [.ref l] []) rfl]
  have m3 := F.called_set.notType
  have m4 := F.called_set.canCreate
  have m5 := F.typeCall_set_1 (.ref l)
  repeat (any_goals (first | assumption | wp_step))
  refine codeAny_mono (new_set (.ref l) (E := E) (Q := fun obj s1 => ∃ led, obj = .ref s.heap.objs.size ∧ s1 = { s with heap := s.heap.push (eS led) }) fun led => ⟨led, rfl, rfl⟩) fun r s1 hr => ?_
  match r, hr with
  | .error e, hr => exact hr
  | .ok (.ret obj), ⟨led, e1, e2⟩ =>
    subst e1 e2
    have hS : (s.heap.push (eS led)).get? s.heap.objs.size = some (eS led) := Heap.get?_push_size _ rfl
    have hT : Shared.TypeIs { s with heap := s.heap.push (eS led) } (.ref s.heap.objs.size) "set" := ⟨_, hS, rfl⟩
    have m6 := F.called_set.init.lookup
    have m7 := F.called_set.init.bind (.ref s.heap.objs.size)
    repeat (any_goals (first | assumption | wp_step))
    refine codeAny_mono (codeAny_call_builtin (R := wants (fun r s2 => r = .none ∧ ∃ h2 tk, s2 = { s with heap := h2, toks := tk } ∧ h2.SetOf (strKind P w) s.heap.objs.size (fun y => decide (y ∈ ys.take items.size)) (dst ys items.size) ∧ ∀ b o, s.heap.get? b = some o → h2.get? b = some o) E)
      F.called_set.init.plain F.entry_set_init (check_set_init_1 hT ?_)) fun r2 s2 hr2 => ?_
    · obtain ⟨⟨oc, od, odt, osl⟩, hol, hcl, nl, hdl⟩ := hl
      simp only at hcl hdl
      subst hcl hdl
      have hol2 : (s.heap.push (eS led)).get? l = some { cls := .type "tuple", dict := od, data := .seq items nl, slots := osl } := Heap.get?_push_of_some _ hol
      have m8 := F.sub_tuple_set
      have m9 := F.sub_tuple_frozenset
      have m10 : (Value.type "tuple" == Value.type "dict") = false := by decide
      have tup : (s.heap.push (eS led)).IsTuple l items := ⟨_, hol2, rfl, nl, rfl⟩
      unfold Builtin.«set.__init__» noKeywords Builtin.Frozenset.updateFrom
      generalize hPI : pyIter = PI
      wp_walk
      subst hPI
      refine wpAny_pyIter_tuple tup (wpAny_bind (wpAny_runValue ?_))
      have lS : l < s.heap.objs.size := Heap.lt_size hol
      have hz1 : (s.heap.push (eS led)).objs.size = s.heap.objs.size + 1 := Heap.size_push ..
      have neI : l ≠ (s.heap.push (eS led)).objs.size := by
        rw [hz1]
        exact Nat.ne_of_lt (Nat.lt_succ_of_lt lS)
      have outS : s.heap.objs.size ∉ [(s.heap.push (eS led)).objs.size, l] := by
        rw [hz1]
        simp only [List.mem_cons, List.not_mem_nil, or_false, not_or]
        exact ⟨Nat.ne_of_lt (Nat.lt_succ_self _), Nat.ne_of_gt lS⟩
      refine set_loop ((Walks.tuple (by simp [hh]) _ l neI items).toS) s.heap.objs.size outS ys hz hb hi (items.size - 0) 0 _ (by omega) (Nat.zero_le _) ⟨⟨_, Heap.get?_push_size _ rfl, rfl, rfl⟩, tup.push _⟩ ?_ ?_
      · exact SetOf_congr ((setObjOf_fresh (knd := strKind P w) led).setOf (Heap.get?_push_of_some _ hS) (by unfold scanBound; omega)) (fun y => by simp) rfl
      · intro s3 m hS3
        obtain ⟨h3, g3, d3, t3, os3⟩ := s3
        obtain rfl : g3 = s.gens := m.gens
        obtain rfl : d3 = s.drawn := m.drawn
        obtain rfl : os3 = s.os := m.os
        refine wpAny_pure ?_
        show wpAny _ _ (ret Value.none) _ _ _
        refine wpAny_pure ⟨rfl, h3, t3, rfl, hS3, fun b o e => ?_⟩
        have lb : b < s.heap.objs.size := Heap.lt_size e
        refine m.heap b o ?_ (Heap.get?_push_of_some _ (Heap.get?_push_of_some _ e))
        rw [hz1]
        simp only [List.mem_cons, List.not_mem_nil, or_false, not_or]
        exact ⟨Nat.ne_of_lt lb, Nat.ne_of_lt (Nat.lt_succ_of_lt lb)⟩
    · match r2, hr2 with
      | .error e, hr2 => exact hr2
      | .ok (.ret v), ⟨e1, h2, tk, e2, hS2, kp⟩ =>
        subst e1 e2
        repeat (any_goals (first | assumption | wp_step))
        exact h h2 tk hS2 kp
end
section
variable {X : Cx}
def tLenSetS (K : PySem.W.Frag) (ta : TE) : TE := fun σ H Q => ta σ H fun x H1 => ∃ (l : Addr) (ys : List Str), x = .ref l ∧ SqT K H1 l (ys.map V.str) ∧ ys.length < 1000 ∧ Q (.int (dst ys ys.length)) H1
theorem strs_at {ys : List Str} {its : List Value} (r : Vals (ys.map V.str) its) : ∀ (i : Nat) (v : Value), its.toArray[i]? = some v → ∃ t, v = .str (ys.getD i "") t := fun i v h => by
  have h2 : its[i]? = some v := by simpa using h
  have hi : i < ys.length := by
    have := (List.getElem?_eq_some_iff.mp h2).1
    have e := r.length
    rw [List.length_map] at e
    omega
  have h3 : (ys.map V.str)[i]? = some (.str ys[i]) := by rw [List.getElem?_map, List.getElem?_eq_getElem hi]; rfl
  obtain ⟨u, hu, ⟨t, rfl⟩⟩ := r.get h3
  rw [h2] at hu
  cases hu
  refine ⟨t, ?_⟩
  rw [List.getD_eq_getElem?_getD, List.getElem?_eq_getElem hi]
  rfl
theorem pe_lenSetS {a : Expr} {ta : TE} {p p2 q pos : Pos} (hc : X.calm = true) (hg : Gl X "len") (hm : X.mg "len" = none) (hg2 : Gl X "set") (hm2 : X.mg "set" = none) (ha : PE X a ta) (na : starEach [a] X.env = (false, eval a X.env) :: starEach [] X.env := by rfl) :
    PE X (.Call (.Name "len" p) [.Call (.Name "set" p2) [a] [] q] [] pos) (tLenSetS X.K ta) := by
  refine ⟨fun pins s σ H Q I h => Call_ (ld_blt I hg hm PySem.boot_len (PyProof.Rows.callWith_builtin1 (PyProof.Rows.args_cons (Call_ (ld_blt I hg2 hm2 PyProof.Rows.boot_set ?_)) rfl) rfl rfl))⟩
  refine PyProof.Rows.callWith_type1 (PyProof.Rows.args_cons (thn (ha.run pins s σ H _ I h) fun v s1 ⟨x, H1, I1, r1, l, ys, ex, hq, hl, q1⟩ => PyProof.Rows.args_nil ?_) na) na rfl
  subst ex
  cases r1
  obtain ⟨its, r, pl, hz⟩ := I1.tuple hq
  have hlen : its.toArray.size = ys.length := by rw [List.size_toArray, ← r.length, List.length_map]
  refine call_setS (ys := ys) (I1.ok.hd hc) (by obtain ⟨o, h1, h2, h3⟩ := pl; exact ⟨o, h1, h2, h3⟩) (strs_at r) hlen (by unfold scanBound; omega) fun h2 tk hS kp => ?_
  rw [hlen] at hS
  refine PyProof.Rows.args_nil ?_
  obtain ⟨o, es, ep, t, ho, hex, hd, _, _, _, hf, hn⟩ := hS
  have le := dst_le ys ys.length
  exact call_len_set ho hex hd hf (by rw [hn]; omega) ⟨.int (dst ys ys.length), H1, (I1.kept (t' := tk) kp).tok _, ⟨_, by rw [hn]⟩, q1⟩
end
end XE
set_option maxHeartbeats 4000000
/-! try: .. except ..: .. finally: .., where the suite raises nothing and goes to its end: the clauses are never looked at. -/
namespace XF
open PySem PySem.Spec PyProof.Rows L2
/-- the suite, then the finally suite -/
def tThruF (t tf : TS) : TS := fun D σ H => t { nx := fun σ' H' => tf D σ' H', rt := fun _ _ => False, bk := fun _ _ => False, ct := fun _ _ => False } σ H
section
variable {X : Cx} {body : List Stmt} {h₀ : ExceptHandler} {hs : List ExceptHandler} {f₀ : Stmt} {fs : List Stmt} {t tf : TS} {pos : Pos}
theorem ps_try_thruF (hb : PSs X.nox body t) (hf : PSs X.nox (f₀ :: fs) tf) : PS X (.Try body (h₀ :: hs) [] (f₀ :: fs) pos) (tThruF t tf) := by
  refine ⟨fun pins s σ H D I h => ?_⟩
  refine wpAny_Try_except_finally (wpAny_mono (hb.run pins s σ H _ (I.wish _) h) (fun f s1 q => ?_) fun e s1 z => z.elim)
  have q' := q.unwish
  cases f with
  | next =>
    obtain ⟨σ', H', I', q2⟩ := q'
    refine wpAny_execs_nil ?_
    refine wpAny_mono (hf.run pins s1 σ' H' D (I'.wish _) q2) (fun g s2 q3 => ?_) fun _ _ z => z.elim
    have q4 : SP X pins D g s2 := q3.unwish
    cases g <;> exact q4
  | ret v =>
    obtain ⟨_, _, _, _, _, z⟩ := q'
    exact z.elim
  | brk =>
    obtain ⟨_, _, _, z⟩ := q'
    exact z.elim
  | cont =>
    obtain ⟨_, _, _, z⟩ := q'
    exact z.elim
end
end XF
set_option maxHeartbeats 4000000
/-! Data by value over the hand layer: tuples are values, what can be changed stands in a store by its number; how that lies in the abstract heap -/
namespace DL
open PySem PySem.Spec PyProof.Rows L2 HM
inductive D where
  | non | bl (b : Bool) | int (i : Int) | str (x : Str) | tup (xs : List D) | ktup (xs : List D) | ref (i : Nat) | klst (xs : List D)
inductive O where
  | lst (xs : List D) | dct (kvs : List (Key × D)) | dcT (kvs : List (List Key × D)) | ins (c : String) (fs : List (Str × D)) | frz (o : O)
abbrev Sto := List O
abbrev Ex := String × List (Str × D)
inductive Res (α : Type) where
  | ok (a : α) (s : Sto) | ex (x : Ex) (s : Sto) | no
def Res.bind {α β : Type} (r : Res α) (k : α → Sto → Res β) : Res β := match r with
  | .ok a s => k a s
  | .ex x s => .ex x s
  | .no => .no
@[simp] theorem Res.bind_ok {α β : Type} (a : α) (s : Sto) (k : α → Sto → Res β) : (Res.ok a s).bind k = k a s := rfl
@[simp] theorem Res.bind_ex {α β : Type} (x : Ex) (s : Sto) (k : α → Sto → Res β) : (Res.ex x s : Res α).bind k = .ex x s := rfl
@[simp] theorem Res.bind_no {α β : Type} (k : α → Sto → Res β) : (Res.no : Res α).bind k = .no := rfl
/-- what is fixed through a law: the written part, the classes by their names, the tables of code objects; hs: slots that hold exceptions -/
structure Wd where
  K : PySem.W.Frag
  cls : String → Option Addr
  Ps : List Addr
  hs : List (Nat × Addr) := []
/-- a tuple of the written part -/
def KTup (K : PySem.W.Frag) (a : Addr) (vs : List V) : Prop := SqT K (fun _ => none) a vs
theorem KTup.sq {K : PySem.W.Frag} {H : Hp} {a : Addr} {vs : List V} (h : KTup K a vs) : SqT K H a vs := by
  rcases h with (h | ⟨_, h⟩) | h
  · cases h
  · cases h
  · exact .inr h
/-- a list of the written part -/
def KLst (K : PySem.W.Frag) (a : Addr) (vs : List V) : Prop := SqL K (fun _ => none) a vs
theorem KLst.sq {K : PySem.W.Frag} {H : Hp} {a : Addr} {vs : List V} (h : KLst K a vs) : SqL K H a vs := by
  rcases h with (h | ⟨_, h⟩) | h
  · cases h
  · cases h
  · exact .inr h
mutual
inductive RD (Γ : Wd) (ρ : List Addr) (H : Hp) : V → D → Prop
  | non : RD Γ ρ H .non .non
  | bl (b : Bool) : RD Γ ρ H (.bl b) (.bl b)
  | int (i : Int) : RD Γ ρ H (.int i) (.int i)
  | str (x : Str) : RD Γ ρ H (.str x) (.str x)
  | tup {a : Addr} {vs : List V} {xs : List D} : H a = some (.tup vs) → RDs Γ ρ H vs xs → RD Γ ρ H (.ref a) (.tup xs)
  | ktup {a : Addr} {vs : List V} {xs : List D} : KTup Γ.K a vs → RDs Γ ρ H vs xs → RD Γ ρ H (.ref a) (.ktup xs)
  | ref {i : Nat} {a : Addr} : ρ[i]? = some a → RD Γ ρ H (.ref a) (.ref i)
  | klst {a : Addr} {vs : List V} {xs : List D} : KLst Γ.K a vs → RDs Γ ρ H vs xs → RD Γ ρ H (.ref a) (.klst xs)
inductive RDs (Γ : Wd) (ρ : List Addr) (H : Hp) : List V → List D → Prop
  | nil : RDs Γ ρ H [] []
  | cons {v : V} {d : D} {vs : List V} {ds : List D} : RD Γ ρ H v d → RDs Γ ρ H vs ds → RDs Γ ρ H (v :: vs) (d :: ds)
end
/-- keys or names alike, values by RD -/
inductive RKs {κ : Type} (Γ : Wd) (ρ : List Addr) (H : Hp) : List (κ × V) → List (κ × D) → Prop
  | nil : RKs Γ ρ H [] []
  | cons {k : κ} {v : V} {d : D} {vs : List (κ × V)} {ds : List (κ × D)} : RD Γ ρ H v d → RKs Γ ρ H vs ds → RKs Γ ρ H ((k, v) :: vs) ((k, d) :: ds)
def RU (Γ : Wd) (ρ : List Addr) (H : Hp) : HO → O → Prop
  | u, .lst xs => ∃ vs, u = .lst vs ∧ RDs Γ ρ H vs xs
  | u, .dct kvs => ∃ vs, u = .dK vs ∧ RKs Γ ρ H vs kvs
  | u, .dcT kvs => ∃ vs, u = .dT vs ∧ RKs Γ ρ H vs kvs
  | u, .ins c fs => ∃ C dx vs, u = .ins C dx vs ∧ Γ.cls c = some C ∧ RKs Γ ρ H vs fs
  | u, .frz o => ∃ od u', u = .frz od u' ∧ RU Γ ρ H u' o
/-- what goes on being so -/
structure Ext (ρ : List Addr) (H : Hp) (ρ' : List Addr) (H' : Hp) : Prop where
  pre : ρ <+: ρ'
  tup : ∀ a vs, H a = some (.tup vs) → H' a = some (.tup vs)
  frz : ∀ a o u, H a = some (.frz o u) → H' a = some (.frz o u)
  xd : ∀ a fs, H a = some (.xd fs) → H' a = some (.xd fs)
theorem Ext.refl (ρ : List Addr) (H : Hp) : Ext ρ H ρ H := ⟨List.prefix_refl ρ, fun _ _ e => e, fun _ _ _ e => e, fun _ _ e => e⟩
theorem Ext.trans {ρ ρ1 ρ2 : List Addr} {H H1 H2 : Hp} (a : Ext ρ H ρ1 H1) (b : Ext ρ1 H1 ρ2 H2) : Ext ρ H ρ2 H2 :=
  ⟨a.pre.trans b.pre, fun c v e => b.tup c v (a.tup c v e), fun c o v e => b.frz c o v (a.frz c o v e), fun c v e => b.xd c v (a.xd c v e)⟩
theorem Ext.at {ρ ρ' : List Addr} {H H' : Hp} (x : Ext ρ H ρ' H') {i : Nat} {a : Addr} (h : ρ[i]? = some a) : ρ'[i]? = some a := by
  obtain ⟨t, rfl⟩ := x.pre
  rw [List.getElem?_append_left (List.getElem?_eq_some_iff.mp h).1]
  exact h
/-- what a description leans on: numbers and tuples -/
structure Ex0 (ρ : List Addr) (H : Hp) (ρ' : List Addr) (H' : Hp) : Prop where
  pre : ρ <+: ρ'
  tup : ∀ a vs, H a = some (.tup vs) → H' a = some (.tup vs)
theorem Ext.x0 {ρ ρ' : List Addr} {H H' : Hp} (x : Ext ρ H ρ' H') : Ex0 ρ H ρ' H' := ⟨x.pre, x.tup⟩
theorem Ex0.at {ρ ρ' : List Addr} {H H' : Hp} (x : Ex0 ρ H ρ' H') {i : Nat} {a : Addr} (h : ρ[i]? = some a) : ρ'[i]? = some a := by
  obtain ⟨t, rfl⟩ := x.pre
  rw [List.getElem?_append_left (List.getElem?_eq_some_iff.mp h).1]
  exact h
mutual
theorem RD.ext0 {Γ : Wd} {ρ ρ' : List Addr} {H H' : Hp} (x : Ex0 ρ H ρ' H') : ∀ {v : V} {d : D}, RD Γ ρ H v d → RD Γ ρ' H' v d
  | _, _, .non => .non
  | _, _, .bl b => .bl b
  | _, _, .int i => .int i
  | _, _, .str z => .str z
  | _, _, .tup h r => .tup (x.tup _ _ h) (RDs.ext0 x r)
  | _, _, .ktup h r => .ktup h (RDs.ext0 x r)
  | _, _, .ref h => .ref (x.at h)
  | _, _, .klst h r => .klst h (RDs.ext0 x r)
theorem RDs.ext0 {Γ : Wd} {ρ ρ' : List Addr} {H H' : Hp} (x : Ex0 ρ H ρ' H') : ∀ {v : List V} {d : List D}, RDs Γ ρ H v d → RDs Γ ρ' H' v d
  | _, _, .nil => .nil
  | _, _, .cons h r => .cons (RD.ext0 x h) (RDs.ext0 x r)
end
theorem RKs.ext0 {κ : Type} {Γ : Wd} {ρ ρ' : List Addr} {H H' : Hp} (x : Ex0 ρ H ρ' H') : ∀ {v : List (κ × V)} {d : List (κ × D)}, RKs Γ ρ H v d → RKs Γ ρ' H' v d
  | _, _, .nil => .nil
  | _, _, .cons h r => .cons (h.ext0 x) (r.ext0 x)
theorem RU.ext0 {Γ : Wd} {ρ ρ' : List Addr} {H H' : Hp} (x : Ex0 ρ H ρ' H') : ∀ (o : O) {u : HO}, RU Γ ρ H u o → RU Γ ρ' H' u o
  | .lst _, _, ⟨vs, e, r⟩ => ⟨vs, e, r.ext0 x⟩
  | .dct _, _, ⟨vs, e, r⟩ => ⟨vs, e, r.ext0 x⟩
  | .dcT _, _, ⟨vs, e, r⟩ => ⟨vs, e, r.ext0 x⟩
  | .ins _ _, _, ⟨C, dx, vs, e, c, r⟩ => ⟨C, dx, vs, e, c, r.ext0 x⟩
  | .frz o, _, ⟨od, u', e, r⟩ => ⟨od, u', e, RU.ext0 x o r⟩
theorem RD.ext {Γ : Wd} {ρ ρ' : List Addr} {H H' : Hp} (x : Ext ρ H ρ' H') {v : V} {d : D} (h : RD Γ ρ H v d) : RD Γ ρ' H' v d := h.ext0 x.x0
theorem RDs.ext {Γ : Wd} {ρ ρ' : List Addr} {H H' : Hp} (x : Ext ρ H ρ' H') {v : List V} {d : List D} (h : RDs Γ ρ H v d) : RDs Γ ρ' H' v d := h.ext0 x.x0
theorem RKs.ext {κ : Type} {Γ : Wd} {ρ ρ' : List Addr} {H H' : Hp} (x : Ext ρ H ρ' H') {v : List (κ × V)} {d : List (κ × D)} (h : RKs Γ ρ H v d) : RKs Γ ρ' H' v d := h.ext0 x.x0
theorem RU.ext {Γ : Wd} {ρ ρ' : List Addr} {H H' : Hp} (x : Ext ρ H ρ' H') (o : O) {u : HO} (h : RU Γ ρ H u o) : RU Γ ρ' H' u o := RU.ext0 x.x0 o h
/-- the store lies in the heap -/
structure Rel (Γ : Wd) (ρ : List Addr) (H : Hp) (s : Sto) : Prop where
  len : ρ.length = s.length
  nd : ρ.Nodup
  obj : ∀ (i : Nat) (a : Addr) (o : O), ρ[i]? = some a → s[i]? = some o → ∃ u, H a = some u ∧ RU Γ ρ H u o
  tab : TabsOk Γ.Ps H
theorem Rel.get {Γ : Wd} {ρ : List Addr} {H : Hp} {s : Sto} (r : Rel Γ ρ H s) {i : Nat} {o : O} (h : s[i]? = some o) : ∃ a u, ρ[i]? = some a ∧ H a = some u ∧ RU Γ ρ H u o := by
  have hi : i < ρ.length := by
    rw [r.len]
    exact (List.getElem?_eq_some_iff.mp h).1
  have e := List.getElem?_eq_getElem hi
  obtain ⟨u, h1, h2⟩ := r.obj i _ o e h
  exact ⟨_, u, e, h1, h2⟩
/-- by the address -/
theorem Rel.at {Γ : Wd} {ρ : List Addr} {H : Hp} {s : Sto} (r : Rel Γ ρ H s) {i : Nat} {o : O} {a : Addr} (ha : ρ[i]? = some a) (h : s[i]? = some o) : ∃ u, H a = some u ∧ RU Γ ρ H u o := r.obj i a o ha h
theorem Rel.ref {Γ : Wd} {ρ : List Addr} {H : Hp} {s : Sto} (r : Rel Γ ρ H s) {i : Nat} {v : V} (h : RD Γ ρ H v (.ref i)) : ∃ a, v = .ref a ∧ ρ[i]? = some a := by
  cases h with
  | ref h => exact ⟨_, rfl, h⟩
theorem Rel.fresh {Γ : Wd} {ρ : List Addr} {H : Hp} {s : Sto} (r : Rel Γ ρ H s) {p : Addr} (h : H p = none) : p ∉ ρ := fun hp => by
  obtain ⟨i, hi⟩ := List.mem_iff_getElem?.mp hp
  have hl : i < s.length := by
    rw [← r.len]
    exact (List.getElem?_eq_some_iff.mp hi).1
  obtain ⟨u, e, _⟩ := r.obj i p _ hi (List.getElem?_eq_getElem hl)
  rw [h] at e
  cases e
/-- can be changed: no tuple, nothing locked, no table, no exception's dict -/
def Free : HO → Bool
  | .lst _ => true
  | .dK _ => true
  | .dT _ => true
  | .ins _ _ _ => true
  | _ => false
theorem Ext.put {ρ : List Addr} {H : Hp} {a : Addr} {u u' : HO} (h : H a = some u) (f : Free u = true) : Ext ρ H ρ (upd H a u') := by
  have ne : ∀ (b : Addr) (w : HO), H b = some w → Free w = false → b ≠ a := fun b w e n z => by
    rw [z, h] at e
    cases e
    rw [f] at n
    cases n
  exact ⟨List.prefix_refl ρ, fun b vs e => by rw [upd_ne (ne b _ e rfl)]; exact e, fun b o w e => by rw [upd_ne (ne b _ e rfl)]; exact e, fun b w e => by rw [upd_ne (ne b _ e rfl)]; exact e⟩
theorem Ext.new {ρ ρ' : List Addr} {H : Hp} {p : Addr} {o : HO} (h : H p = none) (hp : ρ <+: ρ') : Ext ρ H ρ' (upd H p o) :=
  ⟨hp, fun b vs e => by rw [upd_ne (ne_of_none e h)]; exact e, fun b o w e => by rw [upd_ne (ne_of_none e h)]; exact e, fun b w e => by rw [upd_ne (ne_of_none e h)]; exact e⟩
theorem tabs_put {Ps : List Addr} {H : Hp} {a : Addr} {u u' : HO} (t : TabsOk Ps H) (h : H a = some u) (f : Free u = true) : TabsOk Ps (upd H a u') :=
  t.put h fun ps z => by rw [z] at f; cases f
/-- an object changed -/
theorem Rel.put {Γ : Wd} {ρ : List Addr} {H : Hp} {s : Sto} (r : Rel Γ ρ H s) {i : Nat} {a : Addr} {u u' : HO} {o' : O} (ha : ρ[i]? = some a) (h : H a = some u) (f : Free u = true) (n : RU Γ ρ H u' o') : Rel Γ ρ (upd H a u') (s.set i o') := by
  have x : Ext ρ H ρ (upd H a u') := Ext.put h f
  refine ⟨by rw [List.length_set]; exact r.len, r.nd, fun j b o hb ho => ?_, tabs_put r.tab h f⟩
  by_cases hj : j = i
  · subst hj
    rw [ha] at hb
    cases hb
    have hl : j < s.length := by
      rw [← r.len]
      exact (List.getElem?_eq_some_iff.mp ha).1
    rw [List.getElem?_set_self hl] at ho
    cases ho
    exact ⟨u', upd_same, RU.ext x _ n⟩
  · rw [List.getElem?_set_ne (Ne.symm hj)] at ho
    obtain ⟨w, e, q⟩ := r.obj j b o hb ho
    refine ⟨w, ?_, RU.ext x _ q⟩
    rw [upd_ne (fun z => hj (by
      subst z
      exact (List.getElem?_inj (List.getElem?_eq_some_iff.mp hb).1 r.nd).mp (hb.trans ha.symm)))]
    exact e
/-- a new object -/
theorem Rel.new {Γ : Wd} {ρ : List Addr} {H : Hp} {s : Sto} (r : Rel Γ ρ H s) {p : Addr} {u : HO} {o : O} (h : H p = none) (n : RU Γ ρ H u o) : Rel Γ (ρ ++ [p]) (upd H p u) (s ++ [o]) := by
  have x : Ext ρ H (ρ ++ [p]) (upd H p u) := Ext.new h (List.prefix_append ρ [p])
  refine ⟨by rw [List.length_append, List.length_append, r.len]; rfl, ?_, fun j b o2 hb ho => ?_, r.tab.new h⟩
  · rw [List.nodup_append]
    exact ⟨r.nd, List.nodup_cons.mpr ⟨by simp, List.nodup_nil⟩, fun b hb c hc z => by
      rw [List.mem_singleton.mp hc] at z
      rw [z] at hb
      exact r.fresh h hb⟩
  · by_cases hj : j < ρ.length
    · rw [List.getElem?_append_left hj] at hb
      rw [List.getElem?_append_left (by rw [← r.len]; exact hj)] at ho
      obtain ⟨w, e, q⟩ := r.obj j b o2 hb ho
      exact ⟨w, by rw [upd_ne (ne_of_none e h)]; exact e, RU.ext x _ q⟩
    · rw [List.getElem?_append_right (by omega)] at hb
      rw [List.getElem?_append_right (by rw [← r.len]; omega)] at ho
      have e0 : j - ρ.length = 0 := by
        have := (List.getElem?_eq_some_iff.mp hb).1
        simp at this
        omega
      rw [e0] at hb
      rw [← r.len, e0] at ho
      cases hb
      cases ho
      exact ⟨u, upd_same, RU.ext x _ n⟩
/-- something new that has no number: a tuple, an exception's dict, an instance's dict -/
theorem Rel.side {Γ : Wd} {ρ : List Addr} {H : Hp} {s : Sto} (r : Rel Γ ρ H s) {p : Addr} {u : HO} (h : H p = none) : Rel Γ ρ (upd H p u) s := by
  have x : Ext ρ H ρ (upd H p u) := Ext.new h (List.prefix_refl ρ)
  exact ⟨r.len, r.nd, fun j b o hb ho => by
    obtain ⟨w, e, q⟩ := r.obj j b o hb ho
    exact ⟨w, by rw [upd_ne (ne_of_none e h)]; exact e, RU.ext x _ q⟩, r.tab.new h⟩
theorem new_at {ρ : List Addr} {p : Addr} : (ρ ++ [p])[ρ.length]? = some p := by simp
theorem RDs.length {Γ : Wd} {ρ : List Addr} {H : Hp} : ∀ {vs : List V} {ds : List D}, RDs Γ ρ H vs ds → vs.length = ds.length
  | _, _, .nil => rfl
  | _, _, .cons _ r => by rw [List.length_cons, List.length_cons, r.length]
theorem RDs.get {Γ : Wd} {ρ : List Addr} {H : Hp} : ∀ {vs : List V} {ds : List D} {i : Nat} {d : D}, RDs Γ ρ H vs ds → ds[i]? = some d → ∃ v, vs[i]? = some v ∧ RD Γ ρ H v d
  | _, _, 0, _, .cons h _, e => by cases e; exact ⟨_, rfl, h⟩
  | _, _, i + 1, _, .cons _ r, e => r.get (i := i) e
theorem RDs.append {Γ : Wd} {ρ : List Addr} {H : Hp} : ∀ {vs ws : List V} {ds es : List D}, RDs Γ ρ H vs ds → RDs Γ ρ H ws es → RDs Γ ρ H (vs ++ ws) (ds ++ es)
  | _, _, _, _, .nil, s => s
  | _, _, _, _, .cons h r, s => .cons h (r.append s)
theorem RDs.one {Γ : Wd} {ρ : List Addr} {H : Hp} {v : V} {d : D} (h : RD Γ ρ H v d) : RDs Γ ρ H [v] [d] := .cons h .nil
theorem RDs.set {Γ : Wd} {ρ : List Addr} {H : Hp} {v : V} {d : D} (h : RD Γ ρ H v d) : ∀ {vs : List V} {ds : List D} (i : Nat), RDs Γ ρ H vs ds → RDs Γ ρ H (vs.set i v) (ds.set i d)
  | _, _, _, .nil => .nil
  | _, _, 0, .cons _ r => .cons h r
  | _, _, i + 1, .cons q r => .cons q (r.set h i)
theorem RDs.take {Γ : Wd} {ρ : List Addr} {H : Hp} : ∀ {vs : List V} {ds : List D} (i : Nat), RDs Γ ρ H vs ds → RDs Γ ρ H (vs.take i) (ds.take i)
  | _, _, 0, _ => .nil
  | _, _, _ + 1, .nil => .nil
  | _, _, i + 1, .cons q r => .cons q (r.take i)
theorem RDs.drop {Γ : Wd} {ρ : List Addr} {H : Hp} : ∀ {vs : List V} {ds : List D} (i : Nat), RDs Γ ρ H vs ds → RDs Γ ρ H (vs.drop i) (ds.drop i)
  | _, _, 0, r => r
  | _, _, _ + 1, .nil => .nil
  | _, _, i + 1, .cons q r => r.drop i
theorem RDs.reverse {Γ : Wd} {ρ : List Addr} {H : Hp} : ∀ {vs : List V} {ds : List D}, RDs Γ ρ H vs ds → RDs Γ ρ H vs.reverse ds.reverse
  | _, _, .nil => .nil
  | _, _, .cons q r => by
    rw [List.reverse_cons, List.reverse_cons]
    exact r.reverse.append (.one q)
theorem RDs.erase {Γ : Wd} {ρ : List Addr} {H : Hp} : ∀ {vs : List V} {ds : List D} (i : Nat), RDs Γ ρ H vs ds → RDs Γ ρ H (vs.eraseIdx i) (ds.eraseIdx i)
  | _, _, _, .nil => .nil
  | _, _, 0, .cons _ r => r
  | _, _, i + 1, .cons q r => .cons q (r.erase i)
theorem RDs.dropLast {Γ : Wd} {ρ : List Addr} {H : Hp} {vs : List V} {ds : List D} (r : RDs Γ ρ H vs ds) : RDs Γ ρ H vs.dropLast ds.dropLast := by
  rw [List.dropLast_eq_take, List.dropLast_eq_take, r.length]
  exact r.take _
/-! ### slots -/
abbrev Env := List (Option D)
structure REnv (Γ : Wd) (ρ : List Addr) (H : Hp) (σ : L2.St) (env : Env) : Prop where
  len : σ.length = env.length
  at_ : ∀ (i : Nat) (d : D), env[i]? = some (some d) → ∃ v, σ[i]? = some (some v) ∧ RD Γ ρ H v d
  hs : ∀ p ∈ Γ.hs, σ[p.1]? = some (some (.ref p.2))
theorem REnv.ext {Γ : Wd} {ρ ρ' : List Addr} {H H' : Hp} {σ : L2.St} {env : Env} (x : Ext ρ H ρ' H') (r : REnv Γ ρ H σ env) : REnv Γ ρ' H' σ env :=
  ⟨r.len, fun i d e => by
    obtain ⟨v, h1, h2⟩ := r.at_ i d e
    exact ⟨v, h1, h2.ext x⟩, r.hs⟩
theorem REnv.set {Γ : Wd} {ρ : List Addr} {H : Hp} {σ : L2.St} {env : Env} {i : Nat} {v : V} {d : D} (r : REnv Γ ρ H σ env) (h : RD Γ ρ H v d) (hi : (Γ.hs.all fun p => p.1 != i) = true) : REnv Γ ρ H (σ.set i (some v)) (env.set i (some d)) := by
  refine ⟨by rw [List.length_set, List.length_set]; exact r.len, fun j e he => ?_, fun p hp => ?_⟩
  · by_cases hj : j = i
    · subst hj
      have hl : j < env.length := by
        have := (List.getElem?_eq_some_iff.mp he).1
        rw [List.length_set] at this
        exact this
      rw [List.getElem?_set_self hl] at he
      cases he
      exact ⟨v, List.getElem?_set_self (by rw [r.len]; exact hl), h⟩
    · rw [List.getElem?_set_ne (Ne.symm hj)] at he
      obtain ⟨w, h1, h2⟩ := r.at_ j e he
      exact ⟨w, by rw [List.getElem?_set_ne (Ne.symm hj)]; exact h1, h2⟩
  · have := List.all_eq_true.mp hi p hp
    have hne : p.1 ≠ i := by simpa using this
    rw [List.getElem?_set_ne (Ne.symm hne)]
    exact r.hs p hp
theorem REnv.unset {Γ : Wd} {ρ : List Addr} {H : Hp} {σ : L2.St} {env : Env} {i : Nat} {o : Option V} (r : REnv Γ ρ H σ env) (hi : (Γ.hs.all fun p => p.1 != i) = true) : REnv Γ ρ H (σ.set i o) (env.set i none) := by
  refine ⟨by rw [List.length_set, List.length_set]; exact r.len, fun j e he => ?_, fun p hp => ?_⟩
  · by_cases hj : j = i
    · subst hj
      have hl : j < env.length := by
        have := (List.getElem?_eq_some_iff.mp he).1
        rw [List.length_set] at this
        exact this
      rw [List.getElem?_set_self hl] at he
      cases he
    · rw [List.getElem?_set_ne (Ne.symm hj)] at he
      obtain ⟨w, h1, h2⟩ := r.at_ j e he
      exact ⟨w, by rw [List.getElem?_set_ne (Ne.symm hj)]; exact h1, h2⟩
  · have := List.all_eq_true.mp hi p hp
    have hne : p.1 ≠ i := by simpa using this
    rw [List.getElem?_set_ne (Ne.symm hne)]
    exact r.hs p hp
/-! ### exceptions -/
def RX (Γ : Wd) (ρ : List Addr) (H : Hp) (c : Value) (d : Option Addr) (x : Ex) : Prop :=
  ∃ C, Γ.cls x.1 = some C ∧ c = .ref C ∧ ((d = none ∧ x.2 = []) ∨ ∃ dx vs, d = some dx ∧ H dx = some (.xd vs) ∧ RKs Γ ρ H vs x.2)
end DL
set_option maxHeartbeats 4000000
/-! Readings by functions over the store; names, constants, operators, displays, tests -/
namespace DL
open PySem PySem.Spec PyProof.Rows L2 HM
abbrev DEx := Env → Sto → Res D
abbrev DTe := Env → Sto → Res Bool
abbrev DAr := Env → Sto → Res (List D)
inductive SR where
  | nx (env : Env) (s : Sto) | rt (d : D) (s : Sto) | bk (env : Env) (s : Sto) | ct (env : Env) (s : Sto) | ex (x : Ex) (env : Env) (s : Sto) | no
abbrev DSt := Env → Sto → SR
def Ans (Γ : Wd) (W : WX) (σ : L2.St) (ρ : List Addr) (H : Hp) (r : Res D) (Q : VK) : Prop := match r with
  | .ok d s => ∀ ρ' H' v, Ext ρ H ρ' H' → Rel Γ ρ' H' s → RD Γ ρ' H' v d → Q v H'
  | .ex x s => ∀ ρ' H' c d, Ext ρ H ρ' H' → Rel Γ ρ' H' s → RX Γ ρ' H' c d x → W c d σ H'
  | .no => False
def AnsB (Γ : Wd) (W : WX) (σ : L2.St) (ρ : List Addr) (H : Hp) (r : Res Bool) (Q : Bool → Hp → Prop) : Prop := match r with
  | .ok b s => ∀ ρ' H', Ext ρ H ρ' H' → Rel Γ ρ' H' s → Q b H'
  | .ex x s => ∀ ρ' H' c d, Ext ρ H ρ' H' → Rel Γ ρ' H' s → RX Γ ρ' H' c d x → W c d σ H'
  | .no => False
def AnsA (Γ : Wd) (W : WX) (σ : L2.St) (ρ : List Addr) (H : Hp) (r : Res (List D)) (Q : List V → Hp → Prop) : Prop := match r with
  | .ok ds s => ∀ ρ' H' vs, Ext ρ H ρ' H' → Rel Γ ρ' H' s → RDs Γ ρ' H' vs ds → Q vs H'
  | .ex x s => ∀ ρ' H' c d, Ext ρ H ρ' H' → Rel Γ ρ' H' s → RX Γ ρ' H' c d x → W c d σ H'
  | .no => False
def AnsS (Γ : Wd) (W : WX) (ρ : List Addr) (H : Hp) (r : SR) (E : Ends) : Prop := match r with
  | .nx env s => ∀ ρ' H' σ', Ext ρ H ρ' H' → Rel Γ ρ' H' s → REnv Γ ρ' H' σ' env → E.nx σ' H'
  | .rt d s => ∀ ρ' H' v, Ext ρ H ρ' H' → Rel Γ ρ' H' s → RD Γ ρ' H' v d → E.rt v H'
  | .bk env s => ∀ ρ' H' σ', Ext ρ H ρ' H' → Rel Γ ρ' H' s → REnv Γ ρ' H' σ' env → E.bk σ' H'
  | .ct env s => ∀ ρ' H' σ', Ext ρ H ρ' H' → Rel Γ ρ' H' s → REnv Γ ρ' H' σ' env → E.ct σ' H'
  | .ex x env s => ∀ ρ' H' σ' c d, Ext ρ H ρ' H' → Rel Γ ρ' H' s → REnv Γ ρ' H' σ' env → RX Γ ρ' H' c d x → W c d σ' H'
  | .no => False
def dE (Γ : Wd) (W : WX) (f : DEx) : TE := fun σ H Q => ∃ ρ env s, REnv Γ ρ H σ env ∧ Rel Γ ρ H s ∧ Ans Γ W σ ρ H (f env s) Q
def dT (Γ : Wd) (W : WX) (f : DTe) : TT := fun σ H Q => ∃ ρ env s, REnv Γ ρ H σ env ∧ Rel Γ ρ H s ∧ AnsB Γ W σ ρ H (f env s) Q
def dA (Γ : Wd) (W : WX) (f : DAr) : TA := fun σ H Q => ∃ ρ env s, REnv Γ ρ H σ env ∧ Rel Γ ρ H s ∧ AnsA Γ W σ ρ H (f env s) Q
def dS (Γ : Wd) (W : WX) (f : DSt) : TS := fun E σ H => ∃ ρ env s, REnv Γ ρ H σ env ∧ Rel Γ ρ H s ∧ AnsS Γ W ρ H (f env s) E
theorem PE.weak {X : Cx} {e : Expr} {t t' : TE} (h : PE X e t) (f : ∀ σ H Q, t' σ H Q → t σ H Q) : PE X e t' := ⟨fun pins s σ H Q I q => h.run pins s σ H Q I (f σ H Q q)⟩
theorem PT.weak {X : Cx} {e : Expr} {t t' : TT} (h : PT X e t) (f : ∀ σ H Q, t' σ H Q → t σ H Q) : PT X e t' := ⟨fun pins s σ H Q I q => h.run pins s σ H Q I (f σ H Q q)⟩
theorem PA.weak {X : Cx} {e : List Expr} {t t' : TA} (h : PA X e t) (f : ∀ σ H Q, t' σ H Q → t σ H Q) : PA X e t' := ⟨fun pos pins s σ H Q I q => h.run pos pins s σ H Q I (f σ H Q q)⟩
theorem PS.weak {X : Cx} {e : Stmt} {t t' : TS} (h : PS X e t) (f : ∀ E σ H, t' E σ H → t E σ H) : PS X e t' := ⟨fun pins s σ H E I q => h.run pins s σ H E I (f E σ H q)⟩
theorem PSs.weak {X : Cx} {e : List Stmt} {t t' : TS} (h : PSs X e t) (f : ∀ E σ H, t' E σ H → t E σ H) : PSs X e t' := ⟨fun pins s σ H E I q => h.run pins s σ H E I (f E σ H q)⟩
theorem PE.or {X : Cx} {e : Expr} {t t' : TE} (h : PE X e t) (h' : PE X e t') : PE X e (fun σ H Q => t σ H Q ∨ t' σ H Q) := ⟨fun pins s σ H Q I q => q.elim (h.run pins s σ H Q I) (h'.run pins s σ H Q I)⟩
section
variable {Γ : Wd} {W : WX} {σ : L2.St} {ρ ρ1 : List Addr} {H H1 : Hp}
theorem Ans.ext {r : Res D} {Q : VK} (h : Ans Γ W σ ρ H r Q) (x : Ext ρ H ρ1 H1) : Ans Γ W σ ρ1 H1 r Q := by
  cases r with
  | ok d s => exact fun ρ' H' v y => h ρ' H' v (x.trans y)
  | ex e s => exact fun ρ' H' c d y => h ρ' H' c d (x.trans y)
  | no => exact h
theorem AnsB.ext {r : Res Bool} {Q : Bool → Hp → Prop} (h : AnsB Γ W σ ρ H r Q) (x : Ext ρ H ρ1 H1) : AnsB Γ W σ ρ1 H1 r Q := by
  cases r with
  | ok d s => exact fun ρ' H' y => h ρ' H' (x.trans y)
  | ex e s => exact fun ρ' H' c d y => h ρ' H' c d (x.trans y)
  | no => exact h
theorem AnsA.ext {r : Res (List D)} {Q : List V → Hp → Prop} (h : AnsA Γ W σ ρ H r Q) (x : Ext ρ H ρ1 H1) : AnsA Γ W σ ρ1 H1 r Q := by
  cases r with
  | ok d s => exact fun ρ' H' v y => h ρ' H' v (x.trans y)
  | ex e s => exact fun ρ' H' c d y => h ρ' H' c d (x.trans y)
  | no => exact h
theorem AnsS.ext {r : SR} {E : Ends} (h : AnsS Γ W ρ H r E) (x : Ext ρ H ρ1 H1) : AnsS Γ W ρ1 H1 r E := by
  cases r with
  | nx d s => exact fun ρ' H' v y => h ρ' H' v (x.trans y)
  | rt d s => exact fun ρ' H' v y => h ρ' H' v (x.trans y)
  | bk d s => exact fun ρ' H' v y => h ρ' H' v (x.trans y)
  | ct d s => exact fun ρ' H' v y => h ρ' H' v (x.trans y)
  | ex e n s => exact fun ρ' H' v c d y => h ρ' H' v c d (x.trans y)
  | no => exact h
theorem Ans.mono {r : Res D} {Q Q' : VK} (h : Ans Γ W σ ρ H r Q) (f : ∀ v H1, Q v H1 → Q' v H1) : Ans Γ W σ ρ H r Q' := by
  cases r with
  | ok d s => exact fun ρ' H' v x rs rd => f _ _ (h ρ' H' v x rs rd)
  | ex e s => exact h
  | no => exact h
theorem AnsB.mono {r : Res Bool} {Q Q' : Bool → Hp → Prop} (h : AnsB Γ W σ ρ H r Q) (f : ∀ v H1, Q v H1 → Q' v H1) : AnsB Γ W σ ρ H r Q' := by
  cases r with
  | ok d s => exact fun ρ' H' x rs => f _ _ (h ρ' H' x rs)
  | ex e s => exact h
  | no => exact h
theorem AnsA.mono {r : Res (List D)} {Q Q' : List V → Hp → Prop} (h : AnsA Γ W σ ρ H r Q) (f : ∀ v H1, Q v H1 → Q' v H1) : AnsA Γ W σ ρ H r Q' := by
  cases r with
  | ok d s => exact fun ρ' H' v x rs rd => f _ _ (h ρ' H' v x rs rd)
  | ex e s => exact h
  | no => exact h
/-- what follows behind a value -/
theorem Ans.bind {r : Res D} {k : D → Sto → Res D} {Q : VK} (h : Ans Γ W σ ρ H (r.bind k) Q) : Ans Γ W σ ρ H r (fun v H1 => ∃ ρ1 s1 d, Ext ρ H ρ1 H1 ∧ Rel Γ ρ1 H1 s1 ∧ RD Γ ρ1 H1 v d ∧ Ans Γ W σ ρ1 H1 (k d s1) Q) := by
  cases r with
  | ok d s => exact fun ρ' H' v x rs rd => ⟨ρ', s, d, x, rs, rd, Ans.ext (r := k d s) h x⟩
  | ex e s => exact h
  | no => exact h
theorem Ans.bindB {r : Res D} {k : D → Sto → Res Bool} {Q : Bool → Hp → Prop} (h : AnsB Γ W σ ρ H (r.bind k) Q) : Ans Γ W σ ρ H r (fun v H1 => ∃ ρ1 s1 d, Ext ρ H ρ1 H1 ∧ Rel Γ ρ1 H1 s1 ∧ RD Γ ρ1 H1 v d ∧ AnsB Γ W σ ρ1 H1 (k d s1) Q) := by
  cases r with
  | ok d s => exact fun ρ' H' v x rs rd => ⟨ρ', s, d, x, rs, rd, AnsB.ext (r := k d s) h x⟩
  | ex e s => exact h
  | no => exact h
theorem Ans.bindA {r : Res D} {k : D → Sto → Res (List D)} {Q : List V → Hp → Prop} (h : AnsA Γ W σ ρ H (r.bind k) Q) : Ans Γ W σ ρ H r (fun v H1 => ∃ ρ1 s1 d, Ext ρ H ρ1 H1 ∧ Rel Γ ρ1 H1 s1 ∧ RD Γ ρ1 H1 v d ∧ AnsA Γ W σ ρ1 H1 (k d s1) Q) := by
  cases r with
  | ok d s => exact fun ρ' H' v x rs rd => ⟨ρ', s, d, x, rs, rd, AnsA.ext (r := k d s) h x⟩
  | ex e s => exact h
  | no => exact h
theorem AnsB.bind {r : Res Bool} {k : Bool → Sto → Res D} {Q : VK} (h : Ans Γ W σ ρ H (r.bind k) Q) : AnsB Γ W σ ρ H r (fun b H1 => ∃ ρ1 s1, Ext ρ H ρ1 H1 ∧ Rel Γ ρ1 H1 s1 ∧ Ans Γ W σ ρ1 H1 (k b s1) Q) := by
  cases r with
  | ok d s => exact fun ρ' H' x rs => ⟨ρ', s, x, rs, Ans.ext (r := k d s) h x⟩
  | ex e s => exact h
  | no => exact h
theorem AnsB.bindB {r : Res Bool} {k : Bool → Sto → Res Bool} {Q : Bool → Hp → Prop} (h : AnsB Γ W σ ρ H (r.bind k) Q) : AnsB Γ W σ ρ H r (fun b H1 => ∃ ρ1 s1, Ext ρ H ρ1 H1 ∧ Rel Γ ρ1 H1 s1 ∧ AnsB Γ W σ ρ1 H1 (k b s1) Q) := by
  cases r with
  | ok d s => exact fun ρ' H' x rs => ⟨ρ', s, x, rs, AnsB.ext (r := k d s) h x⟩
  | ex e s => exact h
  | no => exact h
theorem AnsA.bind {r : Res (List D)} {k : List D → Sto → Res D} {Q : VK} (h : Ans Γ W σ ρ H (r.bind k) Q) : AnsA Γ W σ ρ H r (fun v H1 => ∃ ρ1 s1 d, Ext ρ H ρ1 H1 ∧ Rel Γ ρ1 H1 s1 ∧ RDs Γ ρ1 H1 v d ∧ Ans Γ W σ ρ1 H1 (k d s1) Q) := by
  cases r with
  | ok d s => exact fun ρ' H' v x rs rd => ⟨ρ', s, d, x, rs, rd, Ans.ext (r := k d s) h x⟩
  | ex e s => exact h
  | no => exact h
theorem AnsA.bindA {r : Res (List D)} {k : List D → Sto → Res (List D)} {Q : List V → Hp → Prop} (h : AnsA Γ W σ ρ H (r.bind k) Q) : AnsA Γ W σ ρ H r (fun v H1 => ∃ ρ1 s1 d, Ext ρ H ρ1 H1 ∧ Rel Γ ρ1 H1 s1 ∧ RDs Γ ρ1 H1 v d ∧ AnsA Γ W σ ρ1 H1 (k d s1) Q) := by
  cases r with
  | ok d s => exact fun ρ' H' v x rs rd => ⟨ρ', s, d, x, rs, rd, AnsA.ext (r := k d s) h x⟩
  | ex e s => exact h
  | no => exact h
end
/-! ### operators by values -/
def up {α : Type} : Option (α × Sto) → Res α
  | some (a, s) => .ok a s
  | none => .no
@[simp] theorem up_some {α : Type} (a : α) (s : Sto) : up (some (a, s)) = .ok a s := rfl
@[simp] theorem up_none {α : Type} : up (none : Option (α × Sto)) = .no := rfl
/-- what is wanted behind a value -/
abbrev Go (Γ : Wd) (ρ : List Addr) (H : Hp) (s : Sto) (d : D) (Q : VK) : Prop := ∀ ρ' H' v, Ext ρ H ρ' H' → Rel Γ ρ' H' s → RD Γ ρ' H' v d → Q v H'
abbrev DOp2 := D → D → Sto → Option (D × Sto)
abbrev DOp1 := D → Sto → Option (D × Sto)
abbrev DOpN := List D → Sto → Option (D × Sto)
abbrev DOpM := D → List D → Sto → Option (D × Sto)
def Op2 (Γ : Wd) (r : R2) (o : DOp2) : Prop := ∀ ρ H s x y dx dy d s' Q, Rel Γ ρ H s → RD Γ ρ H x dx → RD Γ ρ H y dy → o dx dy s = some (d, s') → Go Γ ρ H s' d Q → r x y H Q
def Op1 (Γ : Wd) (r : V → Hp → VK → Prop) (o : DOp1) : Prop := ∀ ρ H s x dx d s' Q, Rel Γ ρ H s → RD Γ ρ H x dx → o dx s = some (d, s') → Go Γ ρ H s' d Q → r x H Q
def OpN (Γ : Wd) (r : List V → Hp → VK → Prop) (o : DOpN) : Prop := ∀ ρ H s x dx d s' Q, Rel Γ ρ H s → RDs Γ ρ H x dx → o dx s = some (d, s') → Go Γ ρ H s' d Q → r x H Q
def OpM (Γ : Wd) (r : V → List V → Hp → VK → Prop) (o : DOpM) : Prop := ∀ ρ H s x xs dx dxs d s' Q, Rel Γ ρ H s → RD Γ ρ H x dx → RDs Γ ρ H xs dxs → o dx dxs s = some (d, s') → Go Γ ρ H s' d Q → r x xs H Q
theorem Ans.up {Γ : Wd} {W : WX} {σ : L2.St} {ρ : List Addr} {H : Hp} {o : Option (D × Sto)} {Q : VK} (h : Ans Γ W σ ρ H (DL.up o) Q) : ∃ d s, o = some (d, s) ∧ Go Γ ρ H s d Q := by
  cases o with
  | none => exact h.elim
  | some p => exact ⟨p.1, p.2, rfl, h⟩
section
variable {X : Cx} {Γ : Wd} {W : WX} {a b e : Expr} {f g : DEx} {pos : Pos} {es : List Expr}
def eVar (i : Nat) : DEx := fun env s => match env[i]? with
  | some (some d) => .ok d s
  | _ => .no
def eC (d : D) : DEx := fun _ s => .ok d s
theorem dE_const {v : V} {d : D} (h : PE X e (tC v)) (hv : ∀ ρ H, RD Γ ρ H v d) : PE X e (dE Γ W (eC d)) :=
  PE.weak h fun σ H Q ⟨ρ, env, s, _, rs, q⟩ => q ρ H v (Ext.refl ρ H) rs (hv ρ H)
theorem de_int {i j} : PE X (.Constant (.int i) j pos) (dE Γ W (eC (.int i))) := dE_const pe_int fun _ _ => .int _
theorem de_bl {i j} : PE X (.Constant (.bool i) j pos) (dE Γ W (eC (.bl i))) := dE_const pe_bl fun _ _ => .bl _
theorem de_str {i j} : PE X (.Constant (.str i) j pos) (dE Γ W (eC (.str i))) := dE_const pe_str fun _ _ => .str _
theorem de_non {j} : PE X (.Constant .none j pos) (dE Γ W (eC .non)) := dE_const pe_non fun _ _ => .non
theorem de_var (i : Nat) {x : Str} (h : PE X (.Name x pos) (tVar i)) : PE X (.Name x pos) (dE Γ W (eVar i)) :=
  PE.weak h fun σ H Q ⟨ρ, env, s, re, rs, q⟩ => by
    unfold eVar at q
    split at q
    · rename_i d hd
      obtain ⟨v, h1, h2⟩ := re.at_ i d hd
      exact ⟨v, h1, q ρ H v (Ext.refl ρ H) rs h2⟩
    · exact q.elim
/-- a name of the def, in slot i -/
theorem dv (i : Nat) {x : Str} {pos : Pos} (hN : X.N[i]? = some x := by rfl) (hv : Vis X.env.scope x := by first | exact Or.inl rfl | exact Or.inr (Or.inl rfl) | exact Or.inr (Or.inr rfl)) (hd : (x == ("__debug__" : Str)) = false := by decide)
    (hcd : (x == ("__classdict__" : Str)) = false := by decide) : PE X (.Name x pos) (dE Γ W (eVar i)) := de_var i (pe_var hN hv hd hcd)
/-- a module's number -/
theorem de_gint {x : Str} {i : Int} (hg : Gl X x) (hm : ∃ t, X.mg x = some (.int i t)) (hd : (x == ("__debug__" : Str)) = false := by decide) : PE X (.Name x pos) (dE Γ W (eC (.int i))) := by
  obtain ⟨t, hm⟩ := hm
  exact dE_const (pe_glob hg hm (v := .int i) ⟨t, rfl⟩ hd) fun _ _ => .int _
/-- a module's tuple -/
theorem de_gtup {x : Str} {p : Addr} {d : D} (hg : Gl X x) (hm : X.mg x = some (.ref p)) (hp : ∀ ρ H, RD Γ ρ H (.ref p) d) (hd : (x == ("__debug__" : Str)) = false := by decide) : PE X (.Name x pos) (dE Γ W (eC d)) :=
  dE_const (pe_glob hg hm (v := .ref p) rfl hd) hp
def e2 (o : DOp2) (f g : DEx) : DEx := fun env s => (f env s).bind fun x s1 => (g env s1).bind fun y s2 => up (o x y s2)
def e1 (o : DOp1) (f : DEx) : DEx := fun env s => (f env s).bind fun x s1 => up (o x s1)
theorem to_op2 {r : R2} {o : DOp2} (ho : Op2 Γ r o) : ∀ σ H Q, dE Γ W (e2 o f g) σ H Q → tOp r (dE Γ W f) (dE Γ W g) σ H Q := fun σ H Q ⟨ρ, env, s, re, rs, q⟩ => by
  refine ⟨ρ, env, s, re, rs, ?_⟩
  refine q.bind.mono ?_
  rintro v H1 ⟨ρ1, s1, d1, x1, rs1, rd1, q1⟩
  refine ⟨ρ1, env, s1, re.ext x1, rs1, ?_⟩
  refine q1.bind.mono ?_
  rintro y H2 ⟨ρ2, s2, d2, x2, rs2, rd2, q2⟩
  obtain ⟨d, s3, e, q3⟩ := q2.up
  exact ho ρ2 H2 s2 v y d1 d2 d s3 Q rs2 (rd1.ext x2) rd2 e q3
end
end DL
set_option maxHeartbeats 4000000
/-! Operators over the store -/
namespace DL
open PySem PySem.Spec PyProof.Rows L2 HM
def rdL (s : Sto) (i : Nat) : Option (List D) := match s[i]? with
  | some (.lst xs) => some xs
  | some (.frz (.lst xs)) => some xs
  | _ => none
def rdD (s : Sto) (i : Nat) : Option (List (Key × D)) := match s[i]? with
  | some (.dct kvs) => some kvs
  | some (.frz (.dct kvs)) => some kvs
  | _ => none
def wrL (s : Sto) (i : Nat) : Option (List D) := match s[i]? with
  | some (.lst xs) => some xs
  | _ => none
def wrD (s : Sto) (i : Nat) : Option (List (Key × D)) := match s[i]? with
  | some (.dct kvs) => some kvs
  | _ => none
def insA (s : Sto) (i : Nat) : Option (String × List (Str × D)) := match s[i]? with
  | some (.ins c fs) => some (c, fs)
  | _ => none
section
variable {Γ : Wd} {ρ : List Addr} {H : Hp} {s : Sto} {i : Nat} {v : V}
theorem get_ref (h : RD Γ ρ H v (.ref i)) : ∃ a, v = .ref a ∧ ρ[i]? = some a := by
  cases h with
  | ref h => exact ⟨_, rfl, h⟩
theorem get_tup {xs : List D} (h : RD Γ ρ H v (.tup xs)) : ∃ a vs, v = .ref a ∧ H a = some (.tup vs) ∧ RDs Γ ρ H vs xs := by
  cases h with
  | tup h r => exact ⟨_, _, rfl, h, r⟩
theorem get_ktup {xs : List D} (h : RD Γ ρ H v (.ktup xs)) : ∃ a vs, v = .ref a ∧ KTup Γ.K a vs ∧ RDs Γ ρ H vs xs := by
  cases h with
  | ktup h r => exact ⟨_, _, rfl, h, r⟩
theorem get_int {n : Int} (h : RD Γ ρ H v (.int n)) : v = .int n := by cases h; rfl
theorem get_str {n : Str} (h : RD Γ ρ H v (.str n)) : v = .str n := by cases h; rfl
theorem get_bl {n : Bool} (h : RD Γ ρ H v (.bl n)) : v = .bl n := by cases h; rfl
theorem get_non (h : RD Γ ρ H v .non) : v = .non := by cases h; rfl
theorem rel_wrL {xs : List D} (r : Rel Γ ρ H s) (e : wrL s i = some xs) (h : RD Γ ρ H v (.ref i)) : ∃ a vs, v = .ref a ∧ ρ[i]? = some a ∧ H a = some (.lst vs) ∧ RDs Γ ρ H vs xs := by
  obtain ⟨a, rfl, ha⟩ := get_ref h
  unfold wrL at e
  split at e
  · rename_i ys hs
    cases e
    obtain ⟨u, hu, vs, rfl, rv⟩ := r.at ha hs
    exact ⟨a, vs, rfl, ha, hu, rv⟩
  · cases e
theorem rel_rdL {xs : List D} (r : Rel Γ ρ H s) (e : rdL s i = some xs) (h : RD Γ ρ H v (.ref i)) : ∃ a vs, v = .ref a ∧ ρ[i]? = some a ∧ Rd H a (.lst vs) ∧ RDs Γ ρ H vs xs := by
  obtain ⟨a, rfl, ha⟩ := get_ref h
  unfold rdL at e
  split at e
  · rename_i ys hs
    cases e
    obtain ⟨u, hu, vs, rfl, rv⟩ := r.at ha hs
    exact ⟨a, vs, rfl, ha, .inl hu, rv⟩
  · rename_i ys hs
    cases e
    obtain ⟨u, hu, od, u', rfl, vs, rfl, rv⟩ := r.at ha hs
    exact ⟨a, vs, rfl, ha, .inr ⟨od, hu⟩, rv⟩
  · cases e
theorem rel_wrD {xs : List (Key × D)} (r : Rel Γ ρ H s) (e : wrD s i = some xs) (h : RD Γ ρ H v (.ref i)) : ∃ a vs, v = .ref a ∧ ρ[i]? = some a ∧ H a = some (.dK vs) ∧ RKs Γ ρ H vs xs := by
  obtain ⟨a, rfl, ha⟩ := get_ref h
  unfold wrD at e
  split at e
  · rename_i ys hs
    cases e
    obtain ⟨u, hu, vs, rfl, rv⟩ := r.at ha hs
    exact ⟨a, vs, rfl, ha, hu, rv⟩
  · cases e
theorem rel_rdD {xs : List (Key × D)} (r : Rel Γ ρ H s) (e : rdD s i = some xs) (h : RD Γ ρ H v (.ref i)) : ∃ a vs, v = .ref a ∧ ρ[i]? = some a ∧ Rd H a (.dK vs) ∧ RKs Γ ρ H vs xs := by
  obtain ⟨a, rfl, ha⟩ := get_ref h
  unfold rdD at e
  split at e
  · rename_i ys hs
    cases e
    obtain ⟨u, hu, vs, rfl, rv⟩ := r.at ha hs
    exact ⟨a, vs, rfl, ha, .inl hu, rv⟩
  · rename_i ys hs
    cases e
    obtain ⟨u, hu, od, u', rfl, vs, rfl, rv⟩ := r.at ha hs
    exact ⟨a, vs, rfl, ha, .inr ⟨od, hu⟩, rv⟩
  · cases e
theorem rel_ins {c : String} {fs : List (Str × D)} (r : Rel Γ ρ H s) (e : insA s i = some (c, fs)) (h : RD Γ ρ H v (.ref i)) : ∃ a C dx vs, v = .ref a ∧ ρ[i]? = some a ∧ Γ.cls c = some C ∧ H a = some (.ins C dx vs) ∧ RKs Γ ρ H vs fs := by
  obtain ⟨a, rfl, ha⟩ := get_ref h
  unfold insA at e
  split at e
  · rename_i c' fs' hs
    cases e
    obtain ⟨u, hu, C, dx, vs, rfl, hc, rv⟩ := r.at ha hs
    exact ⟨a, C, dx, vs, rfl, ha, hc, hu, rv⟩
  · cases e
end
section
variable {Γ : Wd} {ρ : List Addr} {H : Hp} {s : Sto} {Q : VK}
theorem RU.mkL {vs : List V} {xs : List D} (h : RDs Γ ρ H vs xs) : RU Γ ρ H (.lst vs) (.lst xs) := ⟨vs, rfl, h⟩
theorem RU.mkD {vs : List (Key × V)} {xs : List (Key × D)} (h : RKs Γ ρ H vs xs) : RU Γ ρ H (.dK vs) (.dct xs) := ⟨vs, rfl, h⟩
/-- a new list, dict -/
theorem Go.new {o : O} {u : HO} (r : Rel Γ ρ H s) (n : RU Γ ρ H u o) (q : Go Γ ρ H (s ++ [o]) (.ref s.length) Q) : ∀ p, H p = none → Q (.ref p) (upd H p u) := fun p hp =>
  q (ρ ++ [p]) (upd H p u) (.ref p) (Ext.new hp (List.prefix_append _ _)) (r.new hp n) (.ref (by rw [← r.len]; exact new_at))
/-- a new tuple -/
theorem Go.tup {xs : List D} {vs : List V} (r : Rel Γ ρ H s) (n : RDs Γ ρ H vs xs) (q : Go Γ ρ H s (.tup xs) Q) : ∀ p, H p = none → Q (.ref p) (upd H p (.tup vs)) := fun p hp =>
  q ρ (upd H p (.tup vs)) (.ref p) (Ext.new hp (List.prefix_refl _)) (r.side hp) (.tup upd_same (n.ext (Ext.new hp (List.prefix_refl _))))
theorem Go.here {d : D} {v : V} (q : Go Γ ρ H s d Q) (r : Rel Γ ρ H s) (h : RD Γ ρ H v d) : Q v H := q ρ H v (Ext.refl ρ H) r h
/-- an object changed -/
theorem Go.put {d : D} {v : V} {i : Nat} {a : Addr} {u u' : HO} {o : O} (r : Rel Γ ρ H s) (ha : ρ[i]? = some a) (h : H a = some u) (f : Free u = true) (n : RU Γ ρ H u' o) (q : Go Γ ρ H (s.set i o) d Q) (hd : RD Γ ρ H v d) : Q v (upd H a u') :=
  q ρ (upd H a u') v (Ext.put h f) (r.put ha h f n) (hd.ext (Ext.put h f))
end
theorem RDs.nil_iff {Γ : Wd} {ρ : List Addr} {H : Hp} {vs : List V} {ds : List D} (r : RDs Γ ρ H vs ds) : vs = [] ↔ ds = [] := by
  cases r with
  | nil => simp
  | cons _ _ => simp
/-! ### + - * // % ** -/
def oAdd : DOp2 := fun x y s => match x, y with
  | .int i, .int j => some (.int (i + j), s)
  | .str i, .str j => if i.length + j.length ≤ sizeLine then some (.str (i ++ j), s) else none
  | .tup xs, .tup ys => if xs.length + ys.length ≤ sizeLine then some (.tup (xs ++ ys), s) else none
  | .ref i, .ref j => match wrL s i, wrL s j with
    | some xs, some ys => if xs.length + ys.length ≤ sizeLine then some (.ref s.length, s ++ [.lst (xs ++ ys)]) else none
    | _, _ => none
  | _, _ => none
def rAdd4 (K : PySem.W.Frag) : R2 := fun x y H Q => rI0 (fun i j => .int (i + j)) x y H Q ∨ (∃ i j, x = .str i ∧ y = .str j ∧ i.length + j.length ≤ sizeLine ∧ Q (.str (i ++ j)) H) ∨ rCatA K x y H Q ∨ rCat x y H Q
theorem op_add4 {X : Cx} {Γ : Wd} (hK : X.K = Γ.K) : OpR X (binaryOp .Add) (rAdd4 Γ.K) := by
  rw [← hK]
  exact op_add.or (op_add_str.or (op_catA.or op_cat))
theorem op2_add {Γ : Wd} : Op2 Γ (rAdd4 Γ.K) oAdd := by
  intro ρ H s x y dx dy d s' Q r hx hy e q
  unfold oAdd at e
  split at e
  · cases e
    rw [get_int hx, get_int hy]
    exact .inl ⟨_, _, rfl, rfl, q.here r (.int _)⟩
  · split at e
    · rename_i hl
      cases e
      rw [get_str hx, get_str hy]
      exact .inr (.inl ⟨_, _, rfl, rfl, hl, q.here r (.str _)⟩)
    · cases e
  · split at e
    · rename_i hl
      cases e
      obtain ⟨a, vs, rfl, ha, rv⟩ := get_tup hx
      obtain ⟨b, ws, rfl, hb, rw'⟩ := get_tup hy
      refine .inr (.inr (.inl ⟨a, b, vs, ws, rfl, rfl, SqT.of ha, SqT.of hb, by rw [rv.length, rw'.length]; exact hl, fun z => ?_, fun z z2 => ?_, fun z z2 p hp => ?_⟩))
      · subst z
        cases rv
        exact q.here r (.tup hb rw')
      · subst z2
        cases rw'
        exact q.here r (.tup ha (by rw [List.append_nil]; exact rv))
      · exact Go.tup r (rv.append rw') q p hp
    · cases e
  · split at e
    · rename_i hi hj
      split at e
      · rename_i hl
        cases e
        obtain ⟨a, vs, rfl, ha, h1, rv⟩ := rel_wrL r hi hx
        obtain ⟨b, ws, rfl, hb, h2, rw'⟩ := rel_wrL r hj hy
        exact .inr (.inr (.inr ⟨a, b, vs, ws, rfl, rfl, h1, h2, by rw [rv.length, rw'.length]; exact hl, Go.new r (RU.mkL (rv.append rw')) q⟩))
      · cases e
    · cases e
  · cases e
def oSub : DOp2 := fun x y s => match x, y with
  | .int i, .int j => some (.int (i - j), s)
  | _, _ => none
theorem op2_sub {Γ : Wd} : Op2 Γ (rI0 fun i j => .int (i - j)) oSub := by
  intro ρ H s x y dx dy d s' Q r hx hy e q
  unfold oSub at e
  split at e
  · cases e
    rw [get_int hx, get_int hy]
    exact ⟨_, _, rfl, rfl, q.here r (.int _)⟩
  · cases e
open Classical in
noncomputable def oMul : DOp2 := fun x y s => match x, y with
  | .int i, .int j => if CMulW i j then some (.int (i * j), s) else none
  | .tup xs, .int k => if xs ≠ [] ∧ 2 ≤ k ∧ k ≤ 1000 ∧ xs.length ≤ 1000 then some (.tup (List.replicate k.toNat xs).flatten, s) else none
  | _, _ => none
theorem RDs.rep {Γ : Wd} {ρ : List Addr} {H : Hp} {vs : List V} {ds : List D} (r : RDs Γ ρ H vs ds) : ∀ k : Nat, RDs Γ ρ H (List.replicate k vs).flatten (List.replicate k ds).flatten
  | 0 => .nil
  | k + 1 => by
    rw [List.replicate_succ, List.replicate_succ, List.flatten_cons, List.flatten_cons]
    exact r.append (r.rep k)
def rMul2 (K : PySem.W.Frag) : R2 := fun x y H Q => rI CMulW (fun i j => .int (i * j)) x y H Q ∨ rRepT K x y H Q
theorem op_mul2 {X : Cx} {Γ : Wd} (hK : X.K = Γ.K) : OpR X (binaryOp .Mult) (rMul2 Γ.K) := by
  rw [← hK]
  exact op_mulW.or op_repT
theorem op2_mul {Γ : Wd} : Op2 Γ (rMul2 Γ.K) oMul := by
  intro ρ H s x y dx dy d s' Q r hx hy e q
  unfold oMul at e
  split at e
  · split at e
    · rename_i hc
      cases e
      rw [get_int hx, get_int hy]
      exact .inl ⟨_, _, rfl, rfl, hc, q.here r (.int _)⟩
    · cases e
  · split at e
    · rename_i hc
      cases e
      obtain ⟨h1, h2, h3, h4⟩ := hc
      obtain ⟨a, vs, rfl, ha, rv⟩ := get_tup hx
      rw [get_int hy]
      exact .inr ⟨a, _, vs, rfl, rfl, SqT.of ha, fun z => h1 (rv.nil_iff.mp z), h2, h3, by rw [rv.length]; exact h4, Go.tup r (rv.rep _) q⟩
    · cases e
  · cases e
def oFdiv : DOp2 := fun x y s => match x, y with
  | .int i, .int j => if 0 < j ∧ j.natAbs.log2 < 9000 then some (.int (i / j), s) else none
  | _, _ => none
theorem op2_fdiv {Γ : Wd} : Op2 Γ (rI CDivW fun i j => .int (i / j)) oFdiv := by
  intro ρ H s x y dx dy d s' Q r hx hy e q
  unfold oFdiv at e
  split at e
  · split at e
    · rename_i hc
      cases e
      rw [get_int hx, get_int hy]
      exact ⟨_, _, rfl, rfl, hc, q.here r (.int _)⟩
    · cases e
  · cases e
def oMod : DOp2 := fun x y s => match x, y with
  | .int i, .int j => if 0 < j then some (.int (i % j), s) else none
  | _, _ => none
theorem op2_mod {Γ : Wd} : Op2 Γ (rI (fun _ j => 0 < j) fun i j => .int (i % j)) oMod := by
  intro ρ H s x y dx dy d s' Q r hx hy e q
  unfold oMod at e
  split at e
  · split at e
    · rename_i hc
      cases e
      rw [get_int hx, get_int hy]
      exact ⟨_, _, rfl, rfl, hc, q.here r (.int _)⟩
    · cases e
  · cases e
def oPow : DOp2 := fun x y s => match x, y with
  | .int i, .int j => if 0 ≤ j ∧ j ≤ 1000000 ∧ i.natAbs < 2 ^ 64 then some (.int (i ^ j.toNat), s) else none
  | _, _ => none
theorem op2_pow {Γ : Wd} : Op2 Γ (rI CPow fun i j => .int (i ^ j.toNat)) oPow := by
  intro ρ H s x y dx dy d s' Q r hx hy e q
  unfold oPow at e
  split at e
  · split at e
    · rename_i hc
      cases e
      rw [get_int hx, get_int hy]
      exact ⟨_, _, rfl, rfl, hc, q.here r (.int _)⟩
    · cases e
  · cases e
def oNeg : DOp1 := fun x s => match x with
  | .int i => some (.int (-i), s)
  | _ => none
theorem op1_neg {Γ : Wd} : Op1 Γ (rU fun i => .int (-i)) oNeg := by
  intro ρ H s x dx d s' Q r hx e q
  unfold oNeg at e
  split at e
  · cases e
    rw [get_int hx]
    exact ⟨_, rfl, q.here r (.int _)⟩
  · cases e
section
variable {X : Cx} {Γ : Wd} {W : WX} {a b e : Expr} {f g : DEx} {pos : Pos} {es : List Expr}
theorem de_bin {op : Operator} {r : R2} {o : DOp2} (ho : OpR X (binaryOp op) r) (hs : Op2 Γ r o) (ha : PE X a (dE Γ W f)) (hb : PE X b (dE Γ W g)) : PE X (.BinOp a op b pos) (dE Γ W (e2 o f g)) := PE.weak (pe_op ho ha hb) (to_op2 hs)
theorem de_add (hK : X.K = Γ.K) (ha : PE X a (dE Γ W f)) (hb : PE X b (dE Γ W g)) : PE X (.BinOp a .Add b pos) (dE Γ W (e2 oAdd f g)) := de_bin (op_add4 hK) op2_add ha hb
theorem de_sub (ha : PE X a (dE Γ W f)) (hb : PE X b (dE Γ W g)) : PE X (.BinOp a .Sub b pos) (dE Γ W (e2 oSub f g)) := de_bin op_sub op2_sub ha hb
theorem de_mul (hK : X.K = Γ.K) (ha : PE X a (dE Γ W f)) (hb : PE X b (dE Γ W g)) : PE X (.BinOp a .Mult b pos) (dE Γ W (e2 oMul f g)) := de_bin (op_mul2 hK) op2_mul ha hb
theorem de_fdiv (ha : PE X a (dE Γ W f)) (hb : PE X b (dE Γ W g)) : PE X (.BinOp a .FloorDiv b pos) (dE Γ W (e2 oFdiv f g)) := de_bin op_fdivW op2_fdiv ha hb
theorem de_mod (ha : PE X a (dE Γ W f)) (hb : PE X b (dE Γ W g)) : PE X (.BinOp a .Mod b pos) (dE Γ W (e2 oMod f g)) := de_bin op_mod op2_mod ha hb
theorem de_pow (ha : PE X a (dE Γ W f)) (hb : PE X b (dE Γ W g)) : PE X (.BinOp a .Pow b pos) (dE Γ W (e2 oPow f g)) := de_bin op_pow op2_pow ha hb
theorem to_op1 {r : V → Hp → VK → Prop} {o : DOp1} (ho : Op1 Γ r o) : ∀ σ H Q, dE Γ W (e1 o f) σ H Q → tUn r (dE Γ W f) σ H Q := fun σ H Q ⟨ρ, env, s, re, rs, q⟩ => by
  refine ⟨ρ, env, s, re, rs, ?_⟩
  refine q.bind.mono ?_
  rintro v H1 ⟨ρ1, s1, d1, x1, rs1, rd1, q1⟩
  obtain ⟨d, s3, e, q3⟩ := q1.up
  exact ho ρ1 H1 s1 v d1 d s3 Q rs1 rd1 e q3
theorem de_neg (ha : PE X a (dE Γ W f)) : PE X (.UnaryOp .USub a pos) (dE Γ W (e1 oNeg f)) := PE.weak (pe_un un_neg ha) (to_op1 op1_neg)
end
end DL
set_option maxHeartbeats 4000000
/-! Comparisons, tests, subscripts, displays over the store -/
namespace DL
open PySem PySem.Spec PyProof.Rows L2 HM
/-! ### flat things, keys -/
def flatD : D → Bool
  | .non => true
  | .bl _ => true
  | .int _ => true
  | .str _ => true
  | _ => false
def eqF : D → D → Bool
  | .non, .non => true
  | .bl a, .bl b => a == b
  | .bl a, .int b => (if a then 1 else 0) == b
  | .int a, .bl b => a == (if b then 1 else 0)
  | .int a, .int b => a == b
  | .str a, .str b => a == b
  | _, _ => false
def inD (x : D) (xs : List D) : Bool := xs.any fun y => eqF y x
def keyD : D → Option Key
  | .int i => some (.inl i)
  | .str z => some (.inr z)
  | _ => none
def dK : Key → D
  | .inl i => .int i
  | .inr z => .str z
section
variable {Γ : Wd} {ρ : List Addr} {H : Hp}
theorem flat_of {v : V} {d : D} (h : RD Γ ρ H v d) (f : flatD d = true) : flatV v = true := by
  cases h <;> first | rfl | exact f
theorem eqF_of {v w : V} {d e : D} (h : RD Γ ρ H v d) (h' : RD Γ ρ H w e) (f : flatD d = true) (f' : flatD e = true) : eqV v w = eqF d e := by
  cases h <;> cases h' <;> first | rfl | cases f | cases f'
theorem flats_of : ∀ {vs : List V} {ds : List D}, RDs Γ ρ H vs ds → ds.all flatD = true → vs.all flatV = true
  | _, _, .nil, _ => rfl
  | _, _, .cons h r, f => by
    rw [List.all_cons, Bool.and_eq_true] at f ⊢
    exact ⟨flat_of h f.1, flats_of r f.2⟩
theorem inV_of {v : V} {d : D} (h : RD Γ ρ H v d) (f : flatD d = true) : ∀ {vs : List V} {ds : List D}, RDs Γ ρ H vs ds → ds.all flatD = true → inV v vs = inD d ds
  | _, _, .nil, _ => rfl
  | _, _, .cons h1 r, fs => by
    rw [List.all_cons, Bool.and_eq_true] at fs
    have ih := inV_of h f r fs.2
    unfold inV inD at ih ⊢
    rw [List.any_cons, List.any_cons, ih, eqF_of h1 h fs.1 f]
theorem key_of {v : V} {d : D} {k : Key} (h : RD Γ ρ H v d) (e : keyD d = some k) : v = kV k := by
  cases h <;> cases e <;> rfl
theorem key_rd {Γ : Wd} {ρ : List Addr} {H : Hp} (k : Key) : RD Γ ρ H (kV k) (dK k) := by
  cases k with
  | inl i => exact .int i
  | inr z => exact .str z
end
section
variable {κ : Type} [DecidableEq κ]
def valD (kvs : List (κ × D)) (k : κ) : Option D := (kvs.find? fun kv => decide (kv.1 = k)).map (·.2)
def putD (kvs : List (κ × D)) (k : κ) (v : D) : List (κ × D) :=
  if (valD kvs k).isSome = true then kvs.map (fun kv => if kv.1 = k then (kv.1, v) else kv) else kvs ++ [(k, v)]
def dropD (kvs : List (κ × D)) (k : κ) : List (κ × D) := kvs.filter fun kv => decide (kv.1 ≠ k)
variable {Γ : Wd} {ρ : List Addr} {H : Hp}
theorem RKs.length {κ : Type} : ∀ {vs : List (κ × V)} {ds : List (κ × D)}, RKs Γ ρ H vs ds → vs.length = ds.length
  | _, _, .nil => rfl
  | _, _, .cons _ r => by rw [List.length_cons, List.length_cons, r.length]
theorem RKs.val (k : κ) : ∀ {vs : List (κ × V)} {ds : List (κ × D)}, RKs Γ ρ H vs ds → (valV vs k = none ∧ valD ds k = none) ∨ ∃ v d, valV vs k = some v ∧ valD ds k = some d ∧ RD Γ ρ H v d
  | _, _, .nil => .inl ⟨rfl, rfl⟩
  | _, _, @RKs.cons _ _ _ _ k' v d vs ds h r => by
    by_cases e : k' = k
    · refine .inr ⟨v, d, valV_pos e, ?_, h⟩
      simp [valD, List.find?_cons, e]
    · rw [valV_neg e]
      have e2 : valD ((k', d) :: ds) k = valD ds k := by simp [valD, List.find?_cons, e]
      rw [e2]
      exact r.val k
theorem RKs.some_ {k : κ} {d : D} {vs : List (κ × V)} {ds : List (κ × D)} (r : RKs Γ ρ H vs ds) (e : valD ds k = some d) : ∃ v, valV vs k = some v ∧ RD Γ ρ H v d := by
  rcases r.val k with ⟨_, h⟩ | ⟨v, d', h1, h2, h3⟩
  · rw [h] at e
    cases e
  · rw [h2] at e
    cases e
    exact ⟨v, h1, h3⟩
theorem RKs.none_ {k : κ} {vs : List (κ × V)} {ds : List (κ × D)} (r : RKs Γ ρ H vs ds) (e : valD ds k = none) : valV vs k = none := by
  rcases r.val k with ⟨h, _⟩ | ⟨v, d', h1, h2, h3⟩
  · exact h
  · rw [h2] at e
    cases e
theorem RKs.isSome (k : κ) {vs : List (κ × V)} {ds : List (κ × D)} (r : RKs Γ ρ H vs ds) : (valV vs k).isSome = (valD ds k).isSome := by
  rcases r.val k with ⟨h, h'⟩ | ⟨v, d', h1, h2, h3⟩
  · rw [h, h']
    rfl
  · rw [h1, h2]
    rfl
theorem RKs.append {κ : Type} : ∀ {vs ws : List (κ × V)} {ds es : List (κ × D)}, RKs Γ ρ H vs ds → RKs Γ ρ H ws es → RKs Γ ρ H (vs ++ ws) (ds ++ es)
  | _, _, _, _, .nil, s => s
  | _, _, _, _, .cons h r, s => .cons h (r.append s)
theorem RKs.repl {v : V} {d : D} (h : RD Γ ρ H v d) (k : κ) : ∀ {vs : List (κ × V)} {ds : List (κ × D)}, RKs Γ ρ H vs ds → RKs Γ ρ H (vs.map fun kv => if kv.1 = k then (kv.1, v) else kv) (ds.map fun kv => if kv.1 = k then (kv.1, d) else kv)
  | _, _, .nil => .nil
  | _, _, @RKs.cons _ _ _ _ k' v' d' vs ds h' r => by
    rw [List.map_cons, List.map_cons]
    by_cases e : k' = k
    · rw [if_pos e, if_pos e]
      exact .cons h (r.repl h k)
    · rw [if_neg e, if_neg e]
      exact .cons h' (r.repl h k)
theorem RKs.put {v : V} {d : D} (h : RD Γ ρ H v d) (k : κ) {vs : List (κ × V)} {ds : List (κ × D)} (r : RKs Γ ρ H vs ds) : RKs Γ ρ H (putK vs k v) (putD ds k d) := by
  unfold putK putD
  rw [valV_any, r.isSome k]
  split
  · exact r.repl h k
  · exact r.append (.cons h .nil)
theorem RKs.drop (k : κ) : ∀ {vs : List (κ × V)} {ds : List (κ × D)}, RKs Γ ρ H vs ds → RKs Γ ρ H (dropK vs k) (dropD ds k)
  | _, _, .nil => .nil
  | _, _, @RKs.cons _ _ _ _ k' v' d' vs ds h' r => by
    have ih := r.drop k
    unfold dropK dropD at ih ⊢
    rw [List.filter_cons, List.filter_cons]
    by_cases e : k' = k
    · have e1 : decide (k' ≠ k) = false := by simp [e]
      simp only [e1]
      exact ih
    · have e1 : decide (k' ≠ k) = true := by simp [e]
      simp only [e1]
      exact .cons h' ih
theorem RKs.get {κ : Type} : ∀ {vs : List (κ × V)} {ds : List (κ × D)} {i : Nat} {k : κ} {d : D}, RKs Γ ρ H vs ds → ds[i]? = some (k, d) → ∃ v, vs[i]? = some (k, v) ∧ RD Γ ρ H v d
  | _, _, 0, _, _, .cons h _, e => by cases e; exact ⟨_, rfl, h⟩
  | _, _, i + 1, _, _, .cons _ r, e => r.get (i := i) e
theorem RKs.keys {κ : Type} : ∀ {vs : List (κ × V)} {ds : List (κ × D)}, RKs Γ ρ H vs ds → vs.map (·.1) = ds.map (·.1)
  | _, _, .nil => rfl
  | _, _, .cons _ r => by rw [List.map_cons, List.map_cons, r.keys]
end
/-! ### data, read out of the store -/
mutual
inductive Py (s : Sto) : D → PyData → Prop
  | non : Py s .non .none
  | bl (b : Bool) : Py s (.bl b) (.bool b)
  | int (i : Int) : Py s (.int i) (.int i)
  | str (x : Str) : Py s (.str x) (.str x)
  | tup {xs : List D} {ds : List PyData} : Pys s xs ds → Py s (.tup xs) (.tuple ds)
  | ktup {xs : List D} {ds : List PyData} : Pys s xs ds → Py s (.ktup xs) (.tuple ds)
  | lst {i : Nat} {xs : List D} {ds : List PyData} : rdL s i = some xs → Pys s xs ds → Py s (.ref i) (.list ds)
inductive Pys (s : Sto) : List D → List PyData → Prop
  | nil : Pys s [] []
  | cons {x : D} {d : PyData} {xs : List D} {ds : List PyData} : Py s x d → Pys s xs ds → Pys s (x :: xs) (d :: ds)
end
mutual
theorem Py.fn {s : Sto} : ∀ {x : D} {d e : PyData}, Py s x d → Py s x e → d = e
  | _, _, _, .non, .non => rfl
  | _, _, _, .bl _, .bl _ => rfl
  | _, _, _, .int _, .int _ => rfl
  | _, _, _, .str _, .str _ => rfl
  | _, _, _, .tup a, .tup b => by rw [Pys.fn a b]
  | _, _, _, .ktup a, .ktup b => by rw [Pys.fn a b]
  | _, _, _, .lst e a, .lst e' b => by
    rw [e] at e'
    cases e'
    rw [Pys.fn a b]
theorem Pys.fn {s : Sto} : ∀ {x : List D} {d e : List PyData}, Pys s x d → Pys s x e → d = e
  | _, _, _, .nil, .nil => rfl
  | _, _, _, .cons a b, .cons a' b' => by rw [Py.fn a a', Pys.fn b b']
end
mutual
theorem Py.dp {Γ : Wd} {ρ : List Addr} {H : Hp} {s : Sto} (r : Rel Γ ρ H s) : ∀ {x : D} {d : PyData} {v : V}, Py s x d → RD Γ ρ H v x → Dp Γ.K H v d
  | _, _, _, .non, h => by cases h; exact .non
  | _, _, _, .bl b, h => by cases h; exact .bl b
  | _, _, _, .int b, h => by cases h; exact .int b
  | _, _, _, .str b, h => by cases h; exact .str b
  | _, _, _, .tup a, h => by
    cases h with
    | tup h1 h2 => exact .tup (SqT.of h1) (Pys.dp r a h2)
  | _, _, _, .ktup a, h => by
    cases h with
    | ktup h1 h2 => exact .tup h1.sq (Pys.dp r a h2)
  | _, _, _, .lst e a, h => by
    obtain ⟨p, vs, rfl, _, h1, h2⟩ := rel_rdL r e h
    exact .lst (.inl h1) (Pys.dp r a h2)
theorem Pys.dp {Γ : Wd} {ρ : List Addr} {H : Hp} {s : Sto} (r : Rel Γ ρ H s) : ∀ {x : List D} {d : List PyData} {v : List V}, Pys s x d → RDs Γ ρ H v x → DpAll Γ.K H v d
  | _, _, _, .nil, h => by cases h; exact .nil
  | _, _, _, .cons a b, h => by
    cases h with
    | cons h1 h2 => exact .cons (Py.dp r a h1) (Pys.dp r b h2)
end
/-! ### == and != -/
open Classical in
noncomputable def eqD (s : Sto) (x y : D) : Option Bool := match x, y with
  | .str a, .str b => some (decide (a = b))
  | .int a, .int b => some (decide (a = b))
  | .bl a, .bl b => some (decide (a = b))
  | .str _, .non => some false
  | .non, .str _ => some false
  | .int _, .non => some false
  | .non, .int _ => some false
  | .int _, .str _ => some false
  | .str _, .int _ => some false
  | x, y => if h : ∃ p : PyData × PyData, Py s x p.1 ∧ Py s y p.2 ∧ SeqAt.shaped p.1 = true ∧ SeqAt.shaped p.2 = true then some (PyData.eqv h.choose.1 h.choose.2) else none
noncomputable def oEq : DOp2 := fun x y s => (eqD s x y).map fun b => (.bl b, s)
noncomputable def oNe : DOp2 := fun x y s => (eqD s x y).map fun b => (.bl (!b), s)
theorem eqD_data {s : Sto} {x y : D} {d e : PyData} (hx : Py s x d) (hy : Py s y e) (h1 : SeqAt.shaped d = true) (h2 : SeqAt.shaped e = true) : eqD s x y = some (PyData.eqv d e) := by
  have key : ∀ h : ∃ p : PyData × PyData, Py s x p.1 ∧ Py s y p.2 ∧ SeqAt.shaped p.1 = true ∧ SeqAt.shaped p.2 = true, PyData.eqv h.choose.1 h.choose.2 = PyData.eqv d e := fun h => by
    have q := h.choose_spec
    rw [Py.fn q.1 hx, Py.fn q.2.1 hy]
  unfold eqD
  split
  · cases hx; cases hy; simp [PyData.eqv, Bool.beq_eq_decide_eq]
  · cases hx; cases hy; simp [PyData.eqv, Bool.beq_eq_decide_eq]
  · cases hx; cases hy; simp [PyData.eqv, Bool.beq_eq_decide_eq]
  · cases hx; cases hy; rfl
  · cases hx; cases hy; rfl
  · cases hx; cases hy; rfl
  · cases hx; cases hy; rfl
  · cases hx; cases hy; rfl
  · cases hx; cases hy; rfl
  · rw [dif_pos ⟨(d, e), hx, hy, h1, h2⟩, key]
def rEq2 (K : PySem.W.Frag) : R2 := fun x y H Q => rEq x y H Q ∨ rEqD K x y H Q
def rNe2 (K : PySem.W.Frag) : R2 := fun x y H Q => rNe x y H Q ∨ rNeD K x y H Q
theorem op_eq2 {X : Cx} {Γ : Wd} (hK : X.K = Γ.K) (hu : X.A.units + 64 < cLine) : OpR X (compareOp .Eq) (rEq2 Γ.K) := by
  rw [← hK]
  exact op_eq.or (op_eqD hu)
theorem op_ne2 {X : Cx} {Γ : Wd} (hK : X.K = Γ.K) (hu : X.A.units + 64 < cLine) : OpR X (compareOp .NotEq) (rNe2 Γ.K) := by
  rw [← hK]
  exact op_ne.or (op_neD hu)
theorem eqD_cases {Γ : Wd} {ρ : List Addr} {H : Hp} {s : Sto} {x y : D} {v w : V} {b : Bool} (r : Rel Γ ρ H s) (hx : RD Γ ρ H v x) (hy : RD Γ ρ H w y) (e : eqD s x y = some b) :
    (scal v w = true ∧ decide (v = w) = b) ∨ ∃ d e, Dp Γ.K H v d ∧ Dp Γ.K H w e ∧ SeqAt.shaped d = true ∧ SeqAt.shaped e = true ∧ PyData.eqv d e = b := by
  unfold eqD at e
  split at e
  · cases e; cases hx; cases hy; exact .inl ⟨rfl, by simp⟩
  · cases e; cases hx; cases hy; exact .inl ⟨rfl, by simp⟩
  · cases e; cases hx; cases hy; exact .inl ⟨rfl, by simp⟩
  · cases e; cases hx; cases hy; exact .inl ⟨rfl, by simp⟩
  · cases e; cases hx; cases hy; exact .inl ⟨rfl, by simp⟩
  · cases e; cases hx; cases hy; exact .inl ⟨rfl, by simp⟩
  · cases e; cases hx; cases hy; exact .inl ⟨rfl, by simp⟩
  · cases e; cases hx; cases hy; exact .inl ⟨rfl, by simp⟩
  · cases e; cases hx; cases hy; exact .inl ⟨rfl, by simp⟩
  · split at e
    · rename_i h
      have q := h.choose_spec
      exact .inr ⟨_, _, q.1.dp r hx, q.2.1.dp r hy, q.2.2.1, q.2.2.2, Option.some.inj e⟩
    · cases e
theorem op2_eq {Γ : Wd} : Op2 Γ (rEq2 Γ.K) oEq := by
  intro ρ H s x y dx dy d s' Q r hx hy e q
  unfold oEq at e
  cases h : eqD s dx dy with
  | none => rw [h] at e; cases e
  | some b =>
    rw [h] at e
    cases e
    have q := q.here r (.bl b)
    rcases eqD_cases r hx hy h with ⟨h1, rfl⟩ | ⟨d, e, h1, h2, h3, h4, rfl⟩
    · exact .inl ⟨h1, q⟩
    · exact .inr ⟨d, e, h1, h2, h3, h4, q⟩
theorem op2_ne {Γ : Wd} : Op2 Γ (rNe2 Γ.K) oNe := by
  intro ρ H s x y dx dy d s' Q r hx hy e q
  unfold oNe at e
  cases h : eqD s dx dy with
  | none => rw [h] at e; cases e
  | some b =>
    rw [h] at e
    cases e
    have q := q.here r (.bl (!b))
    rcases eqD_cases r hx hy h with ⟨h1, rfl⟩ | ⟨d, e, h1, h2, h3, h4, rfl⟩
    · exact .inl ⟨h1, q⟩
    · exact .inr ⟨d, e, h1, h2, h3, h4, q⟩
/-! ### < <= > >=, is None -/
def oLt : DOp2 := fun x y s => match x, y with
  | .int i, .int j => some (.bl (decide (i < j)), s)
  | .str i, .str j => some (.bl (decide (i.cps.toList < j.cps.toList)), s)
  | _, _ => none
def oLe : DOp2 := fun x y s => match x, y with
  | .int i, .int j => some (.bl (decide (i ≤ j)), s)
  | .str i, .str j => some (.bl (!decide (j.cps.toList < i.cps.toList)), s)
  | _, _ => none
def oGt : DOp2 := fun x y s => match x, y with
  | .int i, .int j => some (.bl (decide (j < i)), s)
  | .str i, .str j => some (.bl (decide (j.cps.toList < i.cps.toList)), s)
  | _, _ => none
def oGe : DOp2 := fun x y s => match x, y with
  | .int i, .int j => some (.bl (decide (j ≤ i)), s)
  | .str i, .str j => some (.bl (!decide (i.cps.toList < j.cps.toList)), s)
  | _, _ => none
def rCmp2 (p : Int → Int → Bool) (q : Str → Str → Bool) : R2 := fun x y H Q => rI0 (fun i j => .bl (p i j)) x y H Q ∨ ∃ i j, x = .str i ∧ y = .str j ∧ Q (.bl (q i j)) H
theorem op2_cmp {Γ : Wd} {p : Int → Int → Bool} {q : Str → Str → Bool} {o : DOp2} (ho : o = fun x y s => match x, y with
  | .int i, .int j => some (.bl (p i j), s)
  | .str i, .str j => some (.bl (q i j), s)
  | _, _ => none) : Op2 Γ (rCmp2 p q) o := by
  intro ρ H s x y dx dy d s' Q r hx hy e g
  subst ho
  simp only at e
  split at e
  · cases e
    rw [get_int hx, get_int hy]
    exact .inl ⟨_, _, rfl, rfl, g.here r (.bl _)⟩
  · cases e
    rw [get_str hx, get_str hy]
    exact .inr ⟨_, _, rfl, rfl, g.here r (.bl _)⟩
  · cases e
theorem op2_lt {Γ : Wd} : Op2 Γ (rCmp2 (fun i j => decide (i < j)) fun i j => decide (i.cps.toList < j.cps.toList)) oLt := op2_cmp rfl
theorem op2_le {Γ : Wd} : Op2 Γ (rCmp2 (fun i j => decide (i ≤ j)) fun i j => !decide (j.cps.toList < i.cps.toList)) oLe := op2_cmp rfl
theorem op2_gt {Γ : Wd} : Op2 Γ (rCmp2 (fun i j => decide (j < i)) fun i j => decide (j.cps.toList < i.cps.toList)) oGt := op2_cmp rfl
theorem op2_ge {Γ : Wd} : Op2 Γ (rCmp2 (fun i j => decide (j ≤ i)) fun i j => !decide (i.cps.toList < j.cps.toList)) oGe := op2_cmp rfl
theorem op_lt2 {X : Cx} : OpR X (compareOp .Lt) (rCmp2 (fun i j => decide (i < j)) fun i j => decide (i.cps.toList < j.cps.toList)) := op_lt.or op_lt_str
theorem op_le2 {X : Cx} : OpR X (compareOp .LtE) (rCmp2 (fun i j => decide (i ≤ j)) fun i j => !decide (j.cps.toList < i.cps.toList)) := op_le.or op_le_str
theorem op_gt2 {X : Cx} : OpR X (compareOp .Gt) (rCmp2 (fun i j => decide (j < i)) fun i j => decide (j.cps.toList < i.cps.toList)) := op_gt.or op_gt_str
theorem op_ge2 {X : Cx} : OpR X (compareOp .GtE) (rCmp2 (fun i j => decide (j ≤ i)) fun i j => !decide (i.cps.toList < j.cps.toList)) := op_ge.or op_ge_str
def isN : D → Bool
  | .non => true
  | _ => false
def oIsN : DOp2 := fun x y s => match y with
  | .non => some (.bl (isN x), s)
  | _ => none
def oNotN : DOp2 := fun x y s => match y with
  | .non => some (.bl (!isN x), s)
  | _ => none
theorem isN_of {Γ : Wd} {ρ : List Addr} {H : Hp} {v : V} {d : D} (h : RD Γ ρ H v d) : decide (v = .non) = isN d := by
  cases h <;> simp [isN]
theorem op2_isN {Γ : Wd} : Op2 Γ (fun x y H Q => y = .non ∧ Q (.bl (decide (x = .non))) H) oIsN := by
  intro ρ H s x y dx dy d s' Q r hx hy e q
  unfold oIsN at e
  split at e
  · cases e
    refine ⟨get_non hy, ?_⟩
    rw [isN_of hx]
    exact q.here r (.bl _)
  · cases e
theorem op2_notN {Γ : Wd} : Op2 Γ (fun x y H Q => y = .non ∧ Q (.bl (!decide (x = .non))) H) oNotN := by
  intro ρ H s x y dx dy d s' Q r hx hy e q
  unfold oNotN at e
  split at e
  · cases e
    refine ⟨get_non hy, ?_⟩
    rw [isN_of hx]
    exact q.here r (.bl _)
  · cases e
/-! ### in, not in -/
def inS (s : Sto) (x y : D) : Option Bool := match y with
  | .tup xs => if flatD x && xs.all flatD then some (inD x xs) else none
  | .ktup xs => if flatD x && xs.all flatD then some (inD x xs) else none
  | .ref i => match rdL s i with
    | some xs => if flatD x && xs.all flatD then some (inD x xs) else none
    | none => none
  | .str t => match x with
    | .str z => some (!(Builtin.Str.occurrences t z 0 t.length 1).isEmpty)
    | _ => none
  | _ => none
def inDk (s : Sto) (x y : D) : Option Bool := match y with
  | .ref i => match rdD s i, keyD x with
    | some kvs, some k => some (valD kvs k).isSome
    | _, _ => none
  | _ => none
def isDct (s : Sto) (y : D) : Bool := match y with
  | .ref i => (rdD s i).isSome
  | _ => false
def oInS : DOp2 := fun x y s => (inS s x y).map fun b => (.bl b, s)
def oNinS : DOp2 := fun x y s => (inS s x y).map fun b => (.bl (!b), s)
def oInK : DOp2 := fun x y s => (inDk s x y).map fun b => (.bl b, s)
def oNinK : DOp2 := fun x y s => (inDk s x y).map fun b => (.bl (!b), s)
def oIn : DOp2 := fun x y s => if isDct s y then oInK x y s else oInS x y s
def oNin : DOp2 := fun x y s => if isDct s y then oNinK x y s else oNinS x y s
def rIn2 (K : PySem.W.Frag) (neg : Bool) : R2 := fun x y H Q => rIn K neg x y H Q ∨ ∃ i j, x = .str i ∧ y = .str j ∧ Q (.bl (if neg then !(!(Builtin.Str.occurrences j i 0 j.length 1).isEmpty) else !(Builtin.Str.occurrences j i 0 j.length 1).isEmpty)) H
theorem op_in2 {X : Cx} {Γ : Wd} (hK : X.K = Γ.K) : OpR X (compareOp .In) (rIn2 Γ.K false) := by
  rw [← hK]
  exact op_in_seq.or op_in_str
theorem op_nin2 {X : Cx} {Γ : Wd} (hK : X.K = Γ.K) : OpR X (compareOp .NotIn) (rIn2 Γ.K true) := by
  rw [← hK]
  exact op_notIn_seq.or op_notin_str
theorem inS_of {Γ : Wd} {ρ : List Addr} {H : Hp} {s : Sto} {x y : D} {v w : V} {b : Bool} {neg : Bool} {Q : VK} (r : Rel Γ ρ H s) (hx : RD Γ ρ H v x) (hy : RD Γ ρ H w y) (e : inS s x y = some b) (q : Q (.bl (if neg then !b else b)) H) : rIn2 Γ.K neg v w H Q := by
  unfold inS at e
  split at e
  · split at e
    · rename_i hc
      cases e
      rw [Bool.and_eq_true] at hc
      obtain ⟨a, vs, rfl, ha, rv⟩ := get_tup hy
      exact .inl ⟨a, vs, rfl, .inr (SqT.of ha), flat_of hx hc.1, flats_of rv hc.2, by rw [inV_of hx hc.1 rv hc.2]; exact q⟩
    · cases e
  · split at e
    · rename_i hc
      cases e
      rw [Bool.and_eq_true] at hc
      obtain ⟨a, vs, rfl, ha, rv⟩ := get_ktup hy
      exact .inl ⟨a, vs, rfl, .inr ha.sq, flat_of hx hc.1, flats_of rv hc.2, by rw [inV_of hx hc.1 rv hc.2]; exact q⟩
    · cases e
  · split at e
    · rename_i xs hs
      split at e
      · rename_i hc
        cases e
        rw [Bool.and_eq_true] at hc
        obtain ⟨a, vs, rfl, _, ha, rv⟩ := rel_rdL r hs hy
        exact .inl ⟨a, vs, rfl, .inl (.inl ha), flat_of hx hc.1, flats_of rv hc.2, by rw [inV_of hx hc.1 rv hc.2]; exact q⟩
      · cases e
    · cases e
  · split at e
    · cases e
      rw [get_str hx, get_str hy]
      exact .inr ⟨_, _, rfl, rfl, q⟩
    · cases e
  · cases e
theorem op2_inS {Γ : Wd} : Op2 Γ (rIn2 Γ.K false) oInS := by
  intro ρ H s x y dx dy d s' Q r hx hy e q
  unfold oInS at e
  cases h : inS s dx dy with
  | none => rw [h] at e; cases e
  | some b =>
    rw [h] at e
    cases e
    exact inS_of r hx hy h (q.here r (.bl b))
theorem op2_ninS {Γ : Wd} : Op2 Γ (rIn2 Γ.K true) oNinS := by
  intro ρ H s x y dx dy d s' Q r hx hy e q
  unfold oNinS at e
  cases h : inS s dx dy with
  | none => rw [h] at e; cases e
  | some b =>
    rw [h] at e
    cases e
    exact inS_of r hx hy h (q.here r (.bl (!b)))
section
variable {X : Cx} {Γ : Wd} {W : WX} {a b c e : Expr} {f g h : DEx} {pos : Pos} {es : List Expr}
/-- by the operands: one rule or another -/
theorem de_or2 (P : D → D → Sto → Bool) {o1 o2 : DOp2} (h1 : PE X e (dE Γ W (e2 o1 f g))) (h2 : PE X e (dE Γ W (e2 o2 f g))) : PE X e (dE Γ W (e2 (fun x y s => if P x y s then o1 x y s else o2 x y s) f g)) :=
  PE.weak (PE.or h1 h2) fun σ H Q ⟨ρ, env, s, re, rs, q⟩ => by
    cases ha : f env s with
    | no => exact .inl ⟨ρ, env, s, re, rs, by simpa [e2, ha] using q⟩
    | ex x s1 => exact .inl ⟨ρ, env, s, re, rs, by simpa [e2, ha] using q⟩
    | ok x s1 =>
      cases hb : g env s1 with
      | no => exact .inl ⟨ρ, env, s, re, rs, by simpa [e2, ha, hb] using q⟩
      | ex y s2 => exact .inl ⟨ρ, env, s, re, rs, by simpa [e2, ha, hb] using q⟩
      | ok y s2 =>
        cases hp : P x y s2 with
        | true => exact .inl ⟨ρ, env, s, re, rs, by simpa [e2, ha, hb, hp] using q⟩
        | false => exact .inr ⟨ρ, env, s, re, rs, by simpa [e2, ha, hb, hp] using q⟩
theorem de_cmp {op : CmpOp} {r : R2} {o : DOp2} (ho : OpR X (compareOp op) r) (hs : Op2 Γ r o) (ha : PE X a (dE Γ W f)) (hb : PE X b (dE Γ W g)) (hm : behindInMarks op b = false) : PE X (.Compare a [op] [b] pos) (dE Γ W (e2 o f g)) := PE.weak (pe_cmpR ho ha hb hm) (to_op2 hs)
theorem de_eq (hK : X.K = Γ.K) (hu : X.A.units + 64 < cLine) (ha : PE X a (dE Γ W f)) (hb : PE X b (dE Γ W g)) : PE X (.Compare a [.Eq] [b] pos) (dE Γ W (e2 oEq f g)) := de_cmp (op_eq2 hK hu) op2_eq ha hb (nomark _)
theorem de_ne (hK : X.K = Γ.K) (hu : X.A.units + 64 < cLine) (ha : PE X a (dE Γ W f)) (hb : PE X b (dE Γ W g)) : PE X (.Compare a [.NotEq] [b] pos) (dE Γ W (e2 oNe f g)) := de_cmp (op_ne2 hK hu) op2_ne ha hb (nomark _)
theorem de_lt (ha : PE X a (dE Γ W f)) (hb : PE X b (dE Γ W g)) : PE X (.Compare a [.Lt] [b] pos) (dE Γ W (e2 oLt f g)) := de_cmp op_lt2 op2_lt ha hb (nomark _)
theorem de_le (ha : PE X a (dE Γ W f)) (hb : PE X b (dE Γ W g)) : PE X (.Compare a [.LtE] [b] pos) (dE Γ W (e2 oLe f g)) := de_cmp op_le2 op2_le ha hb (nomark _)
theorem de_gt (ha : PE X a (dE Γ W f)) (hb : PE X b (dE Γ W g)) : PE X (.Compare a [.Gt] [b] pos) (dE Γ W (e2 oGt f g)) := de_cmp op_gt2 op2_gt ha hb (nomark _)
theorem de_ge (ha : PE X a (dE Γ W f)) (hb : PE X b (dE Γ W g)) : PE X (.Compare a [.GtE] [b] pos) (dE Γ W (e2 oGe f g)) := de_cmp op_ge2 op2_ge ha hb (nomark _)
theorem de_isN (ha : PE X a (dE Γ W f)) (hb : PE X b (dE Γ W g)) : PE X (.Compare a [.Is] [b] pos) (dE Γ W (e2 oIsN f g)) := de_cmp op_isN op2_isN ha hb (nomark _)
theorem de_notN (ha : PE X a (dE Γ W f)) (hb : PE X b (dE Γ W g)) : PE X (.Compare a [.IsNot] [b] pos) (dE Γ W (e2 oNotN f g)) := de_cmp op_notN op2_notN ha hb (nomark _)
theorem inDk_of {ρ : List Addr} {H : Hp} {s : Sto} {x y : D} {v w : V} {k : Bool} (r : Rel Γ ρ H s) (hx : RD Γ ρ H v x) (hy : RD Γ ρ H w y) (e : inDk s x y = some k) : ∃ a o, w = .ref a ∧ DGet H a v o ∧ o.isSome = k := by
  unfold inDk at e
  split at e
  · split at e
    · rename_i kvs k' h1 h2
      cases e
      obtain ⟨a, vs, rfl, _, ha, rv⟩ := rel_rdD r h1 hy
      exact ⟨a, _, rfl, .inl ⟨vs, k', ha, key_of hx h2, rfl⟩, rv.isSome k'⟩
    · cases e
  · cases e
theorem de_inK (hu : X.A.units + 1 < cLine) (ha : PE X a (dE Γ W f)) (hb : PE X b (dE Γ W g)) (hm : behindInMarks .In b = false) : PE X (.Compare a [.In] [b] pos) (dE Γ W (e2 oInK f g)) :=
  PE.weak (pe_cmp (pc_din hu ha hb) hm) fun σ H Q ⟨ρ, env, s, re, rs, q⟩ => by
    refine ⟨ρ, env, s, re, rs, q.bind.mono ?_⟩
    rintro v H1 ⟨ρ1, s1, d1, x1, rs1, rd1, q1⟩
    refine ⟨ρ1, env, s1, re.ext x1, rs1, q1.bind.mono ?_⟩
    rintro y H2 ⟨ρ2, s2, d2, x2, rs2, rd2, q2⟩
    obtain ⟨d, s3, e, q3⟩ := q2.up
    unfold oInK at e
    cases h : inDk s2 d1 d2 with
    | none => rw [h] at e; cases e
    | some k =>
      rw [h] at e
      cases e
      obtain ⟨p, o, rfl, h1, rfl⟩ := inDk_of rs2 (rd1.ext x2) rd2 h
      exact ⟨p, o, rfl, h1, q3.here rs2 (.bl _)⟩
theorem de_ninK (hu : X.A.units + 1 < cLine) (ha : PE X a (dE Γ W f)) (hb : PE X b (dE Γ W g)) (hm : behindInMarks .NotIn b = false) : PE X (.Compare a [.NotIn] [b] pos) (dE Γ W (e2 oNinK f g)) :=
  PE.weak (pe_cmp (pc_dnotin hu ha hb) hm) fun σ H Q ⟨ρ, env, s, re, rs, q⟩ => by
    refine ⟨ρ, env, s, re, rs, q.bind.mono ?_⟩
    rintro v H1 ⟨ρ1, s1, d1, x1, rs1, rd1, q1⟩
    refine ⟨ρ1, env, s1, re.ext x1, rs1, q1.bind.mono ?_⟩
    rintro y H2 ⟨ρ2, s2, d2, x2, rs2, rd2, q2⟩
    obtain ⟨d, s3, e, q3⟩ := q2.up
    unfold oNinK at e
    cases h : inDk s2 d1 d2 with
    | none => rw [h] at e; cases e
    | some k =>
      rw [h] at e
      cases e
      obtain ⟨p, o, rfl, h1, rfl⟩ := inDk_of rs2 (rd1.ext x2) rd2 h
      exact ⟨p, o, rfl, h1, q3.here rs2 (.bl _)⟩
theorem de_in (hK : X.K = Γ.K) (hu : X.A.units + 64 < cLine) (ha : PE X a (dE Γ W f)) (hb : PE X b (dE Γ W g)) (hm : behindInMarks .In b = false) : PE X (.Compare a [.In] [b] pos) (dE Γ W (e2 oIn f g)) :=
  de_or2 (fun _ y s => isDct s y) (de_inK (by omega) ha hb hm) (de_cmp (op_in2 hK) op2_inS ha hb hm)
theorem de_nin (hK : X.K = Γ.K) (hu : X.A.units + 64 < cLine) (ha : PE X a (dE Γ W f)) (hb : PE X b (dE Γ W g)) (hm : behindInMarks .NotIn b = false) : PE X (.Compare a [.NotIn] [b] pos) (dE Γ W (e2 oNin f g)) :=
  de_or2 (fun _ y s => isDct s y) (de_ninK (by omega) ha hb hm) (de_cmp (op_nin2 hK) op2_ninS ha hb hm)
end
end DL
set_option maxHeartbeats 4000000
/-! Subscripts, slices, tests, displays, attributes, calls of built-ins over the store -/
namespace DL
open PySem PySem.Spec PyProof.Rows L2 HM
theorem RDs.atI {Γ : Wd} {ρ : List Addr} {H : Hp} {vs : List V} {ds : List D} {i : Int} {d : D} (r : RDs Γ ρ H vs ds) (e : L2.atI ds i = some d) : ∃ v, L2.atI vs i = some v ∧ RD Γ ρ H v d := by
  unfold L2.atI at e ⊢
  rw [r.length]
  cases h : ixN ds.length i with
  | none => rw [h] at e; cases e
  | some j =>
    rw [h] at e
    exact r.get (i := j) e
def ixS (s : Sto) (x y : D) : Option D := match x, y with
  | .tup xs, .int i => atI xs i
  | .ktup xs, .int i => atI xs i
  | .klst xs, .int i => atI xs i
  | .str z, .int i => if z.length ≤ sizeLine then (atI z.cps.toList i).map fun c => .str ⟨#[c]⟩ else none
  | .ref l, .int i => match rdL s l with
    | some xs => atI xs i
    | none => none
  | _, _ => none
def ixK (s : Sto) (x y : D) : Option D := match x with
  | .ref l => match rdD s l, keyD y with
    | some kvs, some k => valD kvs k
    | _, _ => none
  | _ => none
def oIxS : DOp2 := fun x y s => (ixS s x y).map fun d => (d, s)
def oIxK : DOp2 := fun x y s => (ixK s x y).map fun d => (d, s)
def oIx : DOp2 := fun x y s => if isDct s x then oIxK x y s else oIxS x y s
theorem op2_ixS {Γ : Wd} : Op2 Γ (rIx Γ.K) oIxS := by
  intro ρ H s x y dx dy d s' Q r hx hy e q
  unfold oIxS at e
  cases h : ixS s dx dy with
  | none => rw [h] at e; cases e
  | some b =>
    rw [h] at e
    cases e
    unfold ixS at h
    split at h
    · obtain ⟨a, vs, rfl, ha, rv⟩ := get_tup hx
      obtain ⟨v, h1, h2⟩ := rv.atI h
      rw [get_int hy]
      exact .inr (.inl ⟨a, vs, _, v, rfl, rfl, SqT.of ha, h1, q.here r h2⟩)
    · obtain ⟨a, vs, rfl, ha, rv⟩ := get_ktup hx
      obtain ⟨v, h1, h2⟩ := rv.atI h
      rw [get_int hy]
      exact .inr (.inl ⟨a, vs, _, v, rfl, rfl, ha.sq, h1, q.here r h2⟩)
    · cases hx with
      | @klst a vs _ ha rv =>
        obtain ⟨v, h1, h2⟩ := rv.atI h
        rw [get_int hy]
        exact .inl ⟨a, vs, _, v, rfl, rfl, ha.sq, h1, q.here r h2⟩
    · split at h
      · rename_i hz
        cases h1 : atI _ _ with
        | none => rw [h1] at h; cases h
        | some c =>
          rw [h1] at h
          cases h
          rw [get_str hx, get_int hy]
          exact .inr (.inr ⟨_, _, c, rfl, rfl, hz, h1, q.here r (.str _)⟩)
      · cases h
    · split at h
      · rename_i hs
        obtain ⟨a, vs, rfl, _, ha, rv⟩ := rel_rdL r hs hx
        obtain ⟨v, h1, h2⟩ := rv.atI h
        rw [get_int hy]
        exact .inl ⟨a, vs, _, v, rfl, rfl, .inl ha, h1, q.here r h2⟩
      · cases h
    · cases h
section
variable {X : Cx} {Γ : Wd} {W : WX} {a b c e : Expr} {f g h : DEx} {pos p2 : Pos} {es : List Expr}
theorem ix_seqG (hK : X.K = Γ.K) : IxR X (rIx Γ.K) := by
  rw [← hK]
  exact ix_seq
theorem de_ixK (hu : X.A.units + 1 < cLine) (ha : PE X a (dE Γ W f)) (hb : PE X b (dE Γ W g)) (hs : NoSl b) : PE X (.Subscript a b pos) (dE Γ W (e2 oIxK f g)) :=
  PE.weak (pe_dget hu ha hb hs) fun σ H Q ⟨ρ, env, s, re, rs, q⟩ => by
    refine ⟨ρ, env, s, re, rs, q.bind.mono ?_⟩
    rintro v H1 ⟨ρ1, s1, d1, x1, rs1, rd1, q1⟩
    refine ⟨ρ1, env, s1, re.ext x1, rs1, q1.bind.mono ?_⟩
    rintro y H2 ⟨ρ2, s2, d2, x2, rs2, rd2, q2⟩
    obtain ⟨d, s3, e, q3⟩ := q2.up
    unfold oIxK at e
    cases h : ixK s2 d1 d2 with
    | none => rw [h] at e; cases e
    | some k =>
      rw [h] at e
      cases e
      unfold ixK at h
      split at h
      · split at h
        · rename_i kvs k' h1 h2
          obtain ⟨p, vs, rfl, _, hp, rv⟩ := rel_rdD rs2 h1 (rd1.ext x2)
          obtain ⟨w, h3, h4⟩ := rv.some_ h
          exact ⟨p, w, rfl, .inl ⟨vs, k', hp, key_of rd2 h2, h3.symm⟩, q3.here rs2 h4⟩
        · cases h
      · cases h
/-- x[y] -/
theorem de_ix (hK : X.K = Γ.K) (hu : X.A.units + 64 < cLine) (ha : PE X a (dE Γ W f)) (hb : PE X b (dE Γ W g)) (hs : PlainIx b) : PE X (.Subscript a b pos) (dE Γ W (e2 oIx f g)) :=
  de_or2 (fun x _ s => isDct s x) (de_ixK (by omega) ha hb hs) (PE.weak (pe_ix (ix_seqG hK) ha hb hs) (to_op2 op2_ixS))
/-! ### slices -/
def partD : D → Option Int
  | .int i => some i
  | _ => none
/-- a part of a slice -/
inductive Part where
  | out
  | at_ (f : DEx)
def ePart : Part → Env → Sto → Res (Option Int)
  | .out, _, s => .ok none s
  | .at_ f, env, s => (f env s).bind fun x s1 => match partD x with
    | some i => .ok (some i) s1
    | none => .no
def AnsO (Γ : Wd) (W : WX) (σ : L2.St) (ρ : List Addr) (H : Hp) (r : Res (Option Int)) (Q : Option Int → Hp → Prop) : Prop := match r with
  | .ok b s => ∀ ρ' H', Ext ρ H ρ' H' → Rel Γ ρ' H' s → Q b H'
  | .ex x s => ∀ ρ' H' c d, Ext ρ H ρ' H' → Rel Γ ρ' H' s → RX Γ ρ' H' c d x → W c d σ H'
  | .no => False
def dO (Γ : Wd) (W : WX) (p : Part) : TO := fun σ H Q => ∃ ρ env s, REnv Γ ρ H σ env ∧ Rel Γ ρ H s ∧ AnsO Γ W σ ρ H (ePart p env s) Q
theorem PO.weak {X : Cx} {e : Option Expr} {t t' : TO} (h : PO X e t) (f : ∀ σ H Q, t' σ H Q → t σ H Q) : PO X e t' := ⟨fun pins s σ H Q I q => h.run pins s σ H Q I (f σ H Q q)⟩
theorem do_none : PO X none (dO Γ W .out) := PO.weak po_none fun σ H Q ⟨ρ, env, s, re, rs, q⟩ => q ρ H (Ext.refl ρ H) rs
theorem do_some (ha : PE X a (dE Γ W f)) : PO X (some a) (dO Γ W (.at_ f)) := PO.weak (po_some ha) fun σ H Q ⟨ρ, env, s, re, rs, q⟩ => by
  refine ⟨ρ, env, s, re, rs, ?_⟩
  replace q : AnsO Γ W σ ρ H ((f env s).bind fun x s1 => match partD x with
    | some i => .ok (some i) s1
    | none => .no) Q := q
  cases hf : f env s with
  | no => rw [hf] at q; exact q
  | ex x s1 => rw [hf] at q; exact q
  | ok x s1 =>
    rw [hf] at q
    intro ρ' H' v x1 rs1 rd1
    simp only [Res.bind_ok] at q
    split at q
    · rename_i i hi
      have hx : x = .int i := by
        unfold partD at hi
        split at hi
        · cases hi; rfl
        · cases hi
      subst hx
      exact ⟨i, get_int rd1, q ρ' H' x1 rs1⟩
    · exact q.elim
abbrev DOpS := D → Option Int → Option Int → Sto → Option (D × Sto)
def cutD (xs : List D) (lo hi : Option Int) : List D := (xs.drop (HT.sIx xs.length 0 lo)).take (HT.sIx xs.length xs.length hi - HT.sIx xs.length 0 lo)
def oSl : DOpS := fun x lo hi s => match x with
  | .tup xs => some (.tup (cutD xs lo hi), s)
  | .str z => if z.length ≤ sizeLine then some (.str (cutS z lo hi), s) else none
  | .ref i => match rdL s i with
    | some xs => some (.ref s.length, s ++ [.lst (cutD xs lo hi)])
    | none => none
  | .klst xs => some (.ref s.length, s ++ [.lst (cutD xs lo hi)])
  | _ => none
def eSl (f : DEx) (lo hi : Part) : DEx := fun env s => (f env s).bind fun x s1 => (ePart lo env s1).bind fun l s2 => (ePart hi env s2).bind fun u s3 => up (oSl x l u s3)
def rSl3 (K : PySem.W.Frag) : V → Option Int → Option Int → Hp → VK → Prop := fun x lo hi H Q => rSlA K x lo hi H Q ∨ rSlS x lo hi H Q ∨ rSlL K x lo hi H Q
theorem sl_3 (hK : X.K = Γ.K) : SlR X (rSl3 Γ.K) := by
  rw [← hK]
  exact sl_tupA.or (sl_str.or sl_list)
theorem RDs.cut {Γ : Wd} {ρ : List Addr} {H : Hp} {vs : List V} {ds : List D} (r : RDs Γ ρ H vs ds) (lo hi : Option Int) : RDs Γ ρ H (cutV vs lo hi) (cutD ds lo hi) := by
  unfold cutV cutD
  rw [r.length]
  exact (r.drop _).take _
theorem AnsO.bind {σ : L2.St} {ρ : List Addr} {H : Hp} {r : Res (Option Int)} {k : Option Int → Sto → Res D} {Q : VK} (h : Ans Γ W σ ρ H (r.bind k) Q) : AnsO Γ W σ ρ H r (fun b H1 => ∃ ρ1 s1, Ext ρ H ρ1 H1 ∧ Rel Γ ρ1 H1 s1 ∧ Ans Γ W σ ρ1 H1 (k b s1) Q) := by
  cases r with
  | ok d s => exact fun ρ' H' x rs => ⟨ρ', s, x, rs, Ans.ext (r := k d s) h x⟩
  | ex e s => exact h
  | no => exact h
theorem AnsO.mono {σ : L2.St} {ρ : List Addr} {H : Hp} {r : Res (Option Int)} {Q Q' : Option Int → Hp → Prop} (h : AnsO Γ W σ ρ H r Q) (f : ∀ v H1, Q v H1 → Q' v H1) : AnsO Γ W σ ρ H r Q' := by
  cases r with
  | ok d s => exact fun ρ' H' x rs => f _ _ (h ρ' H' x rs)
  | ex e s => exact h
  | no => exact h
theorem cut_whole {xs : List V} {lo hi : Option Int} (h : HT.sIx xs.length 0 lo = 0 ∧ HT.sIx xs.length xs.length hi = xs.length) : cutV xs lo hi = xs := by
  unfold cutV
  rw [h.1, h.2, List.drop_zero, Nat.sub_zero, List.take_length]
theorem de_sl {lo hi : Option Expr} {l u : Part} (hK : X.K = Γ.K) (ha : PE X a (dE Γ W f)) (hl : PO X lo (dO Γ W l)) (hh : PO X hi (dO Γ W u)) : PE X (.Subscript a (.Slice lo hi none p2) pos) (dE Γ W (eSl f l u)) :=
  PE.weak (pe_slice (sl_3 hK) ha hl hh) fun σ H Q ⟨ρ, env, s, re, rs, q⟩ => by
    refine ⟨ρ, env, s, re, rs, q.bind.mono ?_⟩
    rintro v H1 ⟨ρ1, s1, d1, x1, rs1, rd1, q1⟩
    refine ⟨ρ1, env, s1, re.ext x1, rs1, (AnsO.bind q1).mono ?_⟩
    rintro i H2 ⟨ρ2, s2, x2, rs2, q2⟩
    refine ⟨ρ2, env, s2, (re.ext x1).ext x2, rs2, (AnsO.bind q2).mono ?_⟩
    rintro j H3 ⟨ρ3, s3, x3, rs3, q3⟩
    obtain ⟨d, s4, e, q4⟩ := q3.up
    have rd3 := (rd1.ext x2).ext x3
    unfold oSl at e
    split at e
    · cases e
      obtain ⟨p, vs, rfl, hp, rv⟩ := get_tup rd3
      refine .inl ⟨p, vs, rfl, SqT.of hp, fun hw => ?_, fun hw => Go.tup rs3 (rv.cut i j) q4⟩
      have rc := rv.cut i j
      rw [cut_whole hw] at rc
      exact q4.here rs3 (.tup hp rc)
    · split at e
      · rename_i hz
        cases e
        rw [get_str rd3]
        exact .inr (.inl ⟨_, rfl, hz, q4.here rs3 (.str _)⟩)
      · cases e
    · split at e
      · rename_i hs
        cases e
        obtain ⟨p, vs, rfl, _, hp, rv⟩ := rel_rdL rs3 hs rd3
        exact .inr (.inr ⟨p, vs, rfl, .inl hp, Go.new rs3 (RU.mkL (rv.cut i j)) q4⟩)
      · cases e
    · cases e
      cases rd3 with
      | @klst p vs _ hp rv => exact .inr (.inr ⟨p, vs, rfl, hp.sq, Go.new rs3 (RU.mkL (rv.cut i j)) q4⟩)
    · cases e
/-! ### argument lists, displays -/
def aNil : DAr := fun _ s => .ok [] s
def aCons (f : DEx) (r : DAr) : DAr := fun env s => (f env s).bind fun x s1 => (r env s1).bind fun xs s2 => .ok (x :: xs) s2
variable {t : DAr}
theorem da_nil : PA X [] (dA Γ W aNil) := PA.weak pa_nil fun σ H Q ⟨ρ, env, s, re, rs, q⟩ => q ρ H [] (Ext.refl ρ H) rs .nil
theorem da_cons (ha : PE X a (dE Γ W f)) (hr : PA X es (dA Γ W t)) (hs : starEach (a :: es) X.env = (false, eval a X.env) :: starEach es X.env := by rfl) : PA X (a :: es) (dA Γ W (aCons f t)) :=
  PA.weak (pa_cons ha hr hs) fun σ H Q ⟨ρ, env, s, re, rs, q⟩ => by
    refine ⟨ρ, env, s, re, rs, (Ans.bindA q).mono ?_⟩
    rintro v H1 ⟨ρ1, s1, d1, x1, rs1, rd1, q1⟩
    refine ⟨ρ1, env, s1, re.ext x1, rs1, (AnsA.bindA q1).mono ?_⟩
    rintro vs H2 ⟨ρ2, s2, d2, x2, rs2, rd2, q2⟩
    exact q2 ρ2 H2 (v :: vs) (Ext.refl _ _) rs2 (.cons (rd1.ext x2) rd2)
def eN (o : DOpN) (t : DAr) : DEx := fun env s => (t env s).bind fun xs s1 => up (o xs s1)
def oTup : DOpN := fun xs s => if xs.length ≤ sizeLine then some (.tup xs, s) else none
def oLst : DOpN := fun xs s => if xs.length ≤ sizeLine then some (.ref s.length, s ++ [.lst xs]) else none
theorem to_opN {r : List V → Hp → VK → Prop} {o : DOpN} (ho : OpN Γ r o) : ∀ σ H Q, dE Γ W (eN o t) σ H Q → dA Γ W t σ H (fun vs H1 => r vs H1 Q) := fun σ H Q ⟨ρ, env, s, re, rs, q⟩ => by
  refine ⟨ρ, env, s, re, rs, (AnsA.bind q).mono ?_⟩
  rintro v H1 ⟨ρ1, s1, d1, x1, rs1, rd1, q1⟩
  obtain ⟨d, s3, e, q3⟩ := q1.up
  exact ho ρ1 H1 s1 v d1 d s3 Q rs1 rd1 e q3
theorem de_tup {x1} (h : PA X es (dA Γ W t)) : PE X (.Tuple es x1 pos) (dE Γ W (eN oTup t)) :=
  PE.weak (pe_tup h) (to_opN (r := fun xs H1 Q => xs.length ≤ sizeLine ∧ ∀ p, H1 p = none → Q (.ref p) (upd H1 p (.tup xs))) fun ρ H s x dx d s' Q r hx e q => by
    unfold oTup at e
    split at e
    · rename_i hl
      cases e
      exact ⟨by rw [hx.length]; exact hl, Go.tup r hx q⟩
    · cases e)
theorem de_lst (h : PA X es (dA Γ W t)) : PE X (.List es pos) (dE Γ W (eN oLst t)) :=
  PE.weak (pe_lst h) (to_opN (r := fun xs H1 Q => xs.length ≤ sizeLine ∧ ∀ p, H1 p = none → Q (.ref p) (upd H1 p (.lst xs))) fun ρ H s x dx d s' Q r hx e q => by
    unfold oLst at e
    split at e
    · rename_i hl
      cases e
      exact ⟨by rw [hx.length]; exact hl, Go.new r (RU.mkL hx) q⟩
    · cases e)
/-! ### tests -/
def truD (s : Sto) : D → Option Bool
  | .non => some false
  | .bl b => some b
  | .int i => some (i != 0)
  | .str z => if z.length ≤ sizeLine then some ((z.length : Int) != 0) else none
  | .tup xs => some (!xs.isEmpty)
  | .ktup xs => some (!xs.isEmpty)
  | .ref i => match s[i]? with
    | some (.lst xs) => some (!xs.isEmpty)
    | some (.frz (.lst xs)) => some (!xs.isEmpty)
    | some (.dct kvs) => some (!kvs.isEmpty)
    | _ => none
  | .klst _ => none
def tB1 (f : DEx) : DTe := fun env s => (f env s).bind fun x s1 => match x with
  | .bl b => .ok b s1
  | _ => .no
def tTru (f : DEx) : DTe := fun env s => (f env s).bind fun x s1 => match truD s1 x with
  | some b => .ok b s1
  | none => .no
theorem RDs.isEmpty {Γ : Wd} {ρ : List Addr} {H : Hp} {vs : List V} {ds : List D} (r : RDs Γ ρ H vs ds) : vs.isEmpty = ds.isEmpty := by cases r <;> rfl
theorem RKs.isEmpty {κ : Type} {Γ : Wd} {ρ : List Addr} {H : Hp} {vs : List (κ × V)} {ds : List (κ × D)} (r : RKs Γ ρ H vs ds) : vs.isEmpty = ds.isEmpty := by cases r <;> rfl
theorem tru_of {ρ : List Addr} {H : Hp} {s : Sto} {v : V} {d : D} {k : Bool} (r : Rel Γ ρ H s) (h : RD Γ ρ H v d) (e : truD s d = some k) : TruV Γ.K v H k := by
  unfold truD at e
  split at e
  · cases e; cases h; rfl
  · cases e; cases h; rfl
  · cases e; cases h; rfl
  · split at e
    · rename_i hz
      cases e; cases h; exact ⟨hz, rfl⟩
    · cases e
  · cases e
    obtain ⟨p, vs, rfl, hp, rv⟩ := get_tup h
    exact .inr (.inl ⟨vs, SqT.of hp, by rw [rv.isEmpty]⟩)
  · cases e
    obtain ⟨p, vs, rfl, hp, rv⟩ := get_ktup h
    exact .inr (.inl ⟨vs, hp.sq, by rw [rv.isEmpty]⟩)
  · split at e
    · rename_i xs hs
      cases e
      obtain ⟨p, vs, rfl, _, hp, rv⟩ := rel_rdL r (show rdL s _ = some xs by unfold rdL; rw [hs]) h
      exact .inl ⟨vs, .inl hp, by rw [rv.isEmpty]⟩
    · rename_i xs hs
      cases e
      obtain ⟨p, vs, rfl, _, hp, rv⟩ := rel_rdL r (show rdL s _ = some xs by unfold rdL; rw [hs]) h
      exact .inl ⟨vs, .inl hp, by rw [rv.isEmpty]⟩
    · rename_i xs hs
      cases e
      obtain ⟨p, vs, rfl, _, hp, rv⟩ := rel_wrD r (show wrD s _ = some xs by unfold wrD; rw [hs]) h
      exact .inr (.inr ⟨vs, hp, by rw [rv.isEmpty]⟩)
    · cases e
  · cases e
variable {u w : DTe}
/-- a test by its value, True or False -/
theorem dt_val (h : PE X e (dE Γ W f)) (he : ∀ whole, isTrue e X.env whole = (do let v ← whole; standAt e.pos; holding [v] (truthy v)) := by intro _; rfl) : PT X e (dT Γ W (tB1 f)) :=
  PT.weak (pt_val h he) fun σ H Q ⟨ρ, env, s, re, rs, q⟩ => by
    refine ⟨ρ, env, s, re, rs, (Ans.bindB q).mono ?_⟩
    rintro v H1 ⟨ρ1, s1, d1, x1, rs1, rd1, q1⟩
    split at q1
    · exact ⟨_, get_bl rd1, q1 ρ1 H1 (Ext.refl _ _) rs1⟩
    · exact q1.elim
theorem dt_tru (hK : X.K = Γ.K) (h : PE X e (dE Γ W f)) (he : ∀ whole, isTrue e X.env whole = (do let v ← whole; standAt e.pos; holding [v] (truthy v)) := by intro _; rfl) : PT X e (dT Γ W (tTru f)) :=
  PT.weak (pt_truth h he) fun σ H Q ⟨ρ, env, s, re, rs, q⟩ => by
    refine ⟨ρ, env, s, re, rs, (Ans.bindB q).mono ?_⟩
    rintro v H1 ⟨ρ1, s1, d1, x1, rs1, rd1, q1⟩
    split at q1
    · rename_i k hk
      exact ⟨k, by rw [hK]; exact tru_of rs1 rd1 hk, q1 ρ1 H1 (Ext.refl _ _) rs1⟩
    · exact q1.elim
/-- a comparison as a test -/
theorem PT.ofTest {t : TE} (h : PT X e (tTest t)) (ht : ∀ σ H Q, dE Γ W f σ H Q → t σ H Q) : PT X e (dT Γ W (tB1 f)) :=
  PT.weak h fun σ H Q ⟨ρ, env, s, re, rs, q⟩ => by
    refine ht σ H _ ⟨ρ, env, s, re, rs, (Ans.bindB q).mono ?_⟩
    rintro v H1 ⟨ρ1, s1, d1, x1, rs1, rd1, q1⟩
    split at q1
    · exact ⟨_, get_bl rd1, q1 ρ1 H1 (Ext.refl _ _) rs1⟩
    · exact q1.elim
theorem pt_of_cmp {op : CmpOp} {b : Expr} (h : PE X (.Compare a [op] [b] pos) (dE Γ W f)) (hc : ∀ t, PE X (.Compare a [op] [b] pos) t → PT X (.Compare a [op] [b] pos) (tTest t)) : PT X (.Compare a [op] [b] pos) (dT Γ W (tB1 f)) :=
  PT.ofTest (hc _ h) fun _ _ _ q => q
theorem dt_and1 (ha : PT X a (dT Γ W u)) : PW X (.BoolOp .And [a] pos) (dT Γ W u) := pw_and1 ha
theorem dt_or1 (ha : PT X a (dT Γ W u)) : PW X (.BoolOp .Or [a] pos) (dT Γ W u) := pw_or1 ha
def tAnd2 (u w : DTe) : DTe := fun env s => (u env s).bind fun b s1 => if b = true then w env s1 else .ok false s1
def tOr2 (u w : DTe) : DTe := fun env s => (u env s).bind fun b s1 => if b = true then .ok true s1 else w env s1
def tNot1 (u : DTe) : DTe := fun env s => (u env s).bind fun b s1 => .ok (!b) s1
theorem PW.weak {X : Cx} {e : Expr} {t t' : TT} (h : PW X e t) (f : ∀ σ H Q, t' σ H Q → t σ H Q) : PW X e t' := ⟨fun wh pins s σ H Q I q => h.run wh pins s σ H Q I (f σ H Q q)⟩
theorem dt_and (ha : PT X a (dT Γ W u)) (hb : PW X (.BoolOp .And (b :: es) pos) (dT Γ W w)) : PW X (.BoolOp .And (a :: b :: es) pos) (dT Γ W (tAnd2 u w)) :=
  PW.weak (pw_and ha hb) fun σ H Q ⟨ρ, env, s, re, rs, q⟩ => by
    refine ⟨ρ, env, s, re, rs, (AnsB.bindB q).mono ?_⟩
    rintro v H1 ⟨ρ1, s1, x1, rs1, q1⟩
    cases v with
    | true => exact ⟨ρ1, env, s1, re.ext x1, rs1, q1⟩
    | false => exact q1 ρ1 H1 (Ext.refl _ _) rs1
theorem dt_or (ha : PT X a (dT Γ W u)) (hb : PW X (.BoolOp .Or (b :: es) pos) (dT Γ W w)) : PW X (.BoolOp .Or (a :: b :: es) pos) (dT Γ W (tOr2 u w)) :=
  PW.weak (pw_or ha hb) fun σ H Q ⟨ρ, env, s, re, rs, q⟩ => by
    refine ⟨ρ, env, s, re, rs, (AnsB.bindB q).mono ?_⟩
    rintro v H1 ⟨ρ1, s1, x1, rs1, q1⟩
    cases v with
    | false => exact ⟨ρ1, env, s1, re.ext x1, rs1, q1⟩
    | true => exact q1 ρ1 H1 (Ext.refl _ _) rs1
theorem dt_not (ha : PT X a (dT Γ W u)) : PT X (.UnaryOp .Not a pos) (dT Γ W (tNot1 u)) :=
  PT.weak (pt_not ha) fun σ H Q ⟨ρ, env, s, re, rs, q⟩ => by
    refine ⟨ρ, env, s, re, rs, (AnsB.bindB q).mono ?_⟩
    rintro v H1 ⟨ρ1, s1, x1, rs1, q1⟩
    exact q1 ρ1 H1 (Ext.refl _ _) rs1
/-! ### .. as values -/
def eAnd (f g : DEx) : DEx := fun env s => (f env s).bind fun x s1 => match x with
  | .bl true => g env s1
  | .bl false => .ok (.bl false) s1
  | _ => .no
def eOr (f g : DEx) : DEx := fun env s => (f env s).bind fun x s1 => match x with
  | .bl false => g env s1
  | .bl true => .ok (.bl true) s1
  | _ => .no
def eNot (f : DEx) : DEx := fun env s => (f env s).bind fun x s1 => match x with
  | .bl b => .ok (.bl (!b)) s1
  | _ => .no
def eIf (u : DTe) (f g : DEx) : DEx := fun env s => (u env s).bind fun b s1 => if b = true then f env s1 else g env s1
theorem de_one {op} (h : PE X a (dE Γ W f)) : PE X (.BoolOp op [a] pos) (dE Γ W f) := pe_one h
theorem de_and (ha : PE X a (dE Γ W f)) (hb : PE X (.BoolOp .And (b :: es) pos) (dE Γ W g)) : PE X (.BoolOp .And (a :: b :: es) pos) (dE Γ W (eAnd f g)) :=
  PE.weak (pe_and ha hb) fun σ H Q ⟨ρ, env, s, re, rs, q⟩ => by
    refine ⟨ρ, env, s, re, rs, (Ans.bind q).mono ?_⟩
    rintro v H1 ⟨ρ1, s1, d1, x1, rs1, rd1, q1⟩
    split at q1
    · exact ⟨true, get_bl rd1, iteT ⟨ρ1, env, s1, re.ext x1, rs1, q1⟩⟩
    · exact ⟨false, get_bl rd1, iteF (q1 ρ1 H1 _ (Ext.refl _ _) rs1 (.bl _))⟩
    · exact q1.elim
theorem de_orV (ha : PE X a (dE Γ W f)) (hb : PE X (.BoolOp .Or (b :: es) pos) (dE Γ W g)) : PE X (.BoolOp .Or (a :: b :: es) pos) (dE Γ W (eOr f g)) :=
  PE.weak (pe_or ha hb) fun σ H Q ⟨ρ, env, s, re, rs, q⟩ => by
    refine ⟨ρ, env, s, re, rs, (Ans.bind q).mono ?_⟩
    rintro v H1 ⟨ρ1, s1, d1, x1, rs1, rd1, q1⟩
    split at q1
    · exact ⟨false, get_bl rd1, iteF ⟨ρ1, env, s1, re.ext x1, rs1, q1⟩⟩
    · exact ⟨true, get_bl rd1, iteT (q1 ρ1 H1 _ (Ext.refl _ _) rs1 (.bl _))⟩
    · exact q1.elim
theorem de_not (ha : PE X a (dE Γ W f)) : PE X (.UnaryOp .Not a pos) (dE Γ W (eNot f)) :=
  PE.weak (pe_not ha) fun σ H Q ⟨ρ, env, s, re, rs, q⟩ => by
    refine ⟨ρ, env, s, re, rs, (Ans.bind q).mono ?_⟩
    rintro v H1 ⟨ρ1, s1, d1, x1, rs1, rd1, q1⟩
    split at q1
    · exact ⟨_, get_bl rd1, q1 ρ1 H1 _ (Ext.refl _ _) rs1 (.bl _)⟩
    · exact q1.elim
theorem de_if (hc : PT X c (dT Γ W u)) (ha : PE X a (dE Γ W f)) (hb : PE X b (dE Γ W g)) : PE X (.IfExp c a b pos) (dE Γ W (eIf u f g)) :=
  PE.weak (pe_ifExp hc ha hb) fun σ H Q ⟨ρ, env, s, re, rs, q⟩ => by
    refine ⟨ρ, env, s, re, rs, (AnsB.bind q).mono ?_⟩
    rintro v H1 ⟨ρ1, s1, x1, rs1, q1⟩
    cases v with
    | true => exact ⟨ρ1, env, s1, re.ext x1, rs1, q1⟩
    | false => exact ⟨ρ1, env, s1, re.ext x1, rs1, q1⟩
/-- a < b < c -/
def eChain (o o' : DOp2) (f g h : DEx) : DEx := fun env s => (f env s).bind fun x s1 => (g env s1).bind fun y s2 => (up (o x y s2)).bind fun z s3 => match z with
  | .bl true => (h env s3).bind fun w s4 => up (o' y w s4)
  | .bl false => .ok (.bl false) s3
  | _ => .no
theorem to_chain {r r' : R2} {o o' : DOp2} (ho : Op2 Γ r o) (ho' : Op2 Γ r' o') : ∀ σ H Q, dE Γ W (eChain o o' f g h) σ H Q → tChain r r' (dE Γ W f) (dE Γ W g) (dE Γ W h) σ H Q := fun σ H Q ⟨ρ, env, s, re, rs, q⟩ => by
  refine ⟨ρ, env, s, re, rs, (Ans.bind q).mono ?_⟩
  rintro v H1 ⟨ρ1, s1, d1, x1, rs1, rd1, q1⟩
  refine ⟨ρ1, env, s1, re.ext x1, rs1, (Ans.bind q1).mono ?_⟩
  rintro y H2 ⟨ρ2, s2, d2, x2, rs2, rd2, q2⟩
  cases ho2 : o d1 d2 s2 with
  | none => rw [ho2] at q2; exact q2.elim
  | some p =>
    rw [ho2] at q2
    refine ho ρ2 H2 s2 v y d1 d2 p.1 p.2 _ rs2 (rd1.ext x2) rd2 ho2 fun ρ3 H3 z x3 rs3 rd3 => ?_
    have q3 := Ans.ext (r := match p.1 with
      | .bl true => (h env p.2).bind fun w s4 => up (o' d2 w s4)
      | .bl false => .ok (.bl false) p.2
      | _ => .no) q2 x3
    split at q3
    · rename_i e
      rw [e] at rd3
      refine ⟨true, get_bl rd3, iteT ⟨ρ3, env, p.2, ((re.ext x1).ext x2).ext x3, rs3, (Ans.bind q3).mono ?_⟩⟩
      rintro w H4 ⟨ρ4, s4, d4, x4, rs4, rd4, q4⟩
      obtain ⟨d, s5, e5, q5⟩ := q4.up
      exact ho' ρ4 H4 s4 y w d2 d4 d s5 Q rs4 ((rd2.ext x3).ext x4) rd4 e5 q5
    · rename_i e
      rw [e] at rd3
      exact ⟨false, get_bl rd3, iteF (q3 ρ3 H3 _ (Ext.refl _ _) rs3 (.bl _))⟩
    · exact q3.elim
end
end DL
set_option maxHeartbeats 4000000
/-! Tests by comparisons, attributes, isinstance, built-in functions and methods over the store -/
namespace DL
open PySem PySem.Spec PyProof.Rows L2 HM
section
variable {X : Cx} {Γ : Wd} {W : WX} {a b c e : Expr} {f g h : DEx} {pos p p2 apos cpos : Pos} {es : List Expr} {t : DAr}
theorem PT.or {X : Cx} {e : Expr} {t t' : TT} (h : PT X e t) (h' : PT X e t') : PT X e (fun σ H Q => t σ H Q ∨ t' σ H Q) := ⟨fun pins s σ H Q I q => q.elim (h.run pins s σ H Q I) (h'.run pins s σ H Q I)⟩
theorem dt_or2 (P : D → D → Sto → Bool) {o1 o2 : DOp2} (h1 : PT X e (dT Γ W (tB1 (e2 o1 f g)))) (h2 : PT X e (dT Γ W (tB1 (e2 o2 f g)))) : PT X e (dT Γ W (tB1 (e2 (fun x y s => if P x y s then o1 x y s else o2 x y s) f g))) :=
  PT.weak (PT.or h1 h2) fun σ H Q ⟨ρ, env, s, re, rs, q⟩ => by
    cases ha : f env s with
    | no => exact .inl ⟨ρ, env, s, re, rs, by simpa [tB1, e2, ha] using q⟩
    | ex x s1 => exact .inl ⟨ρ, env, s, re, rs, by simpa [tB1, e2, ha] using q⟩
    | ok x s1 =>
      cases hb : g env s1 with
      | no => exact .inl ⟨ρ, env, s, re, rs, by simpa [tB1, e2, ha, hb] using q⟩
      | ex y s2 => exact .inl ⟨ρ, env, s, re, rs, by simpa [tB1, e2, ha, hb] using q⟩
      | ok y s2 =>
        cases hp : P x y s2 with
        | true => exact .inl ⟨ρ, env, s, re, rs, by simpa [tB1, e2, ha, hb, hp] using q⟩
        | false => exact .inr ⟨ρ, env, s, re, rs, by simpa [tB1, e2, ha, hb, hp] using q⟩
theorem dt_cmp {op : CmpOp} {r : R2} {o : DOp2} (ho : OpR X (compareOp op) r) (hs : Op2 Γ r o) (ha : PE X a (dE Γ W f)) (hb : PE X b (dE Γ W g)) (hm : behindInMarks op b = false) : PT X (.Compare a [op] [b] pos) (dT Γ W (tB1 (e2 o f g))) := PT.ofTest (pt_cmpR ho ha hb hm) (to_op2 hs)
theorem dt_eq (hK : X.K = Γ.K) (hu : X.A.units + 64 < cLine) (ha : PE X a (dE Γ W f)) (hb : PE X b (dE Γ W g)) : PT X (.Compare a [.Eq] [b] pos) (dT Γ W (tB1 (e2 oEq f g))) := dt_cmp (op_eq2 hK hu) op2_eq ha hb (nomark _)
theorem dt_ne (hK : X.K = Γ.K) (hu : X.A.units + 64 < cLine) (ha : PE X a (dE Γ W f)) (hb : PE X b (dE Γ W g)) : PT X (.Compare a [.NotEq] [b] pos) (dT Γ W (tB1 (e2 oNe f g))) := dt_cmp (op_ne2 hK hu) op2_ne ha hb (nomark _)
theorem dt_lt (ha : PE X a (dE Γ W f)) (hb : PE X b (dE Γ W g)) : PT X (.Compare a [.Lt] [b] pos) (dT Γ W (tB1 (e2 oLt f g))) := dt_cmp op_lt2 op2_lt ha hb (nomark _)
theorem dt_le (ha : PE X a (dE Γ W f)) (hb : PE X b (dE Γ W g)) : PT X (.Compare a [.LtE] [b] pos) (dT Γ W (tB1 (e2 oLe f g))) := dt_cmp op_le2 op2_le ha hb (nomark _)
theorem dt_gt (ha : PE X a (dE Γ W f)) (hb : PE X b (dE Γ W g)) : PT X (.Compare a [.Gt] [b] pos) (dT Γ W (tB1 (e2 oGt f g))) := dt_cmp op_gt2 op2_gt ha hb (nomark _)
theorem dt_ge (ha : PE X a (dE Γ W f)) (hb : PE X b (dE Γ W g)) : PT X (.Compare a [.GtE] [b] pos) (dT Γ W (tB1 (e2 oGe f g))) := dt_cmp op_ge2 op2_ge ha hb (nomark _)
theorem dt_isN (ha : PE X a (dE Γ W f)) (hb : PE X b (dE Γ W g)) : PT X (.Compare a [.Is] [b] pos) (dT Γ W (tB1 (e2 oIsN f g))) := dt_cmp op_isN op2_isN ha hb (nomark _)
theorem dt_notN (ha : PE X a (dE Γ W f)) (hb : PE X b (dE Γ W g)) : PT X (.Compare a [.IsNot] [b] pos) (dT Γ W (tB1 (e2 oNotN f g))) := dt_cmp op_notN op2_notN ha hb (nomark _)
theorem to_inK : ∀ σ H Q, dE Γ W (e2 oInK f g) σ H Q → tDIn (dE Γ W f) (dE Γ W g) σ H Q := fun σ H Q ⟨ρ, env, s, re, rs, q⟩ => by
  refine ⟨ρ, env, s, re, rs, q.bind.mono ?_⟩
  rintro v H1 ⟨ρ1, s1, d1, x1, rs1, rd1, q1⟩
  refine ⟨ρ1, env, s1, re.ext x1, rs1, q1.bind.mono ?_⟩
  rintro y H2 ⟨ρ2, s2, d2, x2, rs2, rd2, q2⟩
  obtain ⟨d, s3, e, q3⟩ := q2.up
  unfold oInK at e
  cases h : inDk s2 d1 d2 with
  | none => rw [h] at e; cases e
  | some k =>
    rw [h] at e
    cases e
    obtain ⟨p, o, rfl, h1, rfl⟩ := inDk_of rs2 (rd1.ext x2) rd2 h
    exact ⟨p, o, rfl, h1, q3.here rs2 (.bl _)⟩
theorem to_ninK : ∀ σ H Q, dE Γ W (e2 oNinK f g) σ H Q → tDNotIn (dE Γ W f) (dE Γ W g) σ H Q := fun σ H Q ⟨ρ, env, s, re, rs, q⟩ => by
  refine ⟨ρ, env, s, re, rs, q.bind.mono ?_⟩
  rintro v H1 ⟨ρ1, s1, d1, x1, rs1, rd1, q1⟩
  refine ⟨ρ1, env, s1, re.ext x1, rs1, q1.bind.mono ?_⟩
  rintro y H2 ⟨ρ2, s2, d2, x2, rs2, rd2, q2⟩
  obtain ⟨d, s3, e, q3⟩ := q2.up
  unfold oNinK at e
  cases h : inDk s2 d1 d2 with
  | none => rw [h] at e; cases e
  | some k =>
    rw [h] at e
    cases e
    obtain ⟨p, o, rfl, h1, rfl⟩ := inDk_of rs2 (rd1.ext x2) rd2 h
    exact ⟨p, o, rfl, h1, q3.here rs2 (.bl _)⟩
theorem dt_in (hK : X.K = Γ.K) (hu : X.A.units + 64 < cLine) (ha : PE X a (dE Γ W f)) (hb : PE X b (dE Γ W g)) (hm : behindInMarks .In b = false) : PT X (.Compare a [.In] [b] pos) (dT Γ W (tB1 (e2 oIn f g))) :=
  dt_or2 (fun _ y s => isDct s y) (PT.ofTest (pt_cmp (pc_din (by omega) ha hb) hm) to_inK) (dt_cmp (op_in2 hK) op2_inS ha hb hm)
theorem dt_nin (hK : X.K = Γ.K) (hu : X.A.units + 64 < cLine) (ha : PE X a (dE Γ W f)) (hb : PE X b (dE Γ W g)) (hm : behindInMarks .NotIn b = false) : PT X (.Compare a [.NotIn] [b] pos) (dT Γ W (tB1 (e2 oNin f g))) :=
  dt_or2 (fun _ y s => isDct s y) (PT.ofTest (pt_cmp (pc_dnotin (by omega) ha hb) hm) to_ninK) (dt_cmp (op_nin2 hK) op2_ninS ha hb hm)
/-! ### attributes -/
/-- what is known of the classes whose instances are made -/
def ClsOk (Γ : Wd) (f : Str) : Prop := ∀ c C, Γ.cls c = some C → Cls Γ.K C ∧ NoAttr Γ.K C f
def oFld (n : Str) : DOp1 := fun x s => match x with
  | .ref i => match insA s i with
    | some (_, fs) => (fs.lookup n).map fun d => (d, s)
    | none => none
  | _ => none
theorem RKs.lookup {ρ : List Addr} {H : Hp} {n : Str} {d : D} : ∀ {vs : List (Str × V)} {ds : List (Str × D)}, RKs Γ ρ H vs ds → ds.lookup n = some d → ∃ v, vs.lookup n = some v ∧ RD Γ ρ H v d
  | _, _, @RKs.cons _ _ _ _ k v d' vs ds h r, e => by
    rw [List.lookup_cons] at e ⊢
    cases hk : n == k with
    | true =>
      rw [hk] at e
      cases e
      exact ⟨v, rfl, h⟩
    | false =>
      rw [hk] at e
      exact RKs.lookup r e
theorem RKs.lookup_none {ρ : List Addr} {H : Hp} {n : Str} : ∀ {vs : List (Str × V)} {ds : List (Str × D)}, RKs Γ ρ H vs ds → ds.lookup n = none → vs.lookup n = none
  | _, _, .nil, _ => rfl
  | _, _, @RKs.cons _ _ _ _ k v d' vs ds h r, e => by
    rw [List.lookup_cons] at e ⊢
    cases hk : n == k with
    | true => rw [hk] at e; cases e
    | false =>
      rw [hk] at e
      exact RKs.lookup_none r e
theorem de_fld {n : Str} (hK : X.K = Γ.K) (hc : ClsOk Γ n) (ha : PE X a (dE Γ W f)) (hb : attributeBase a n X.env (eval a X.env) = eval a X.env := by rfl) : PE X (.Attribute a n pos) (dE Γ W (e1 (oFld n) f)) :=
  PE.weak (pe_fld ha hb) (to_op1 (r := fun x H1 Q => ∃ a C dx fs v, x = .ref a ∧ H1 a = some (.ins C dx fs) ∧ Cls X.K C ∧ NoAttr X.K C n ∧ fs.lookup n = some v ∧ Q v H1) fun ρ H s x dx d s' Q r hx e q => by
    unfold oFld at e
    split at e
    · split at e
      · rename_i c fs hi
        obtain ⟨p, C, dd, vs, rfl, _, hC, hp, rv⟩ := rel_ins r hi hx
        cases hl : fs.lookup n with
        | none => rw [hl] at e; cases e
        | some d' =>
          rw [hl] at e
          cases e
          obtain ⟨v, h1, h2⟩ := rv.lookup hl
          rw [hK]
          exact ⟨p, C, dd, vs, v, rfl, hp, (hc c C hC).1, (hc c C hC).2, h1, q.here r h2⟩
      · cases e
    · cases e)
/-! ### isinstance, of a built-in class -/
def tyD (s : Sto) : D → Option String
  | .non => some "NoneType"
  | .bl _ => some "bool"
  | .int _ => some "int"
  | .str _ => some "str"
  | .tup _ => some "tuple"
  | .ktup _ => none
  | .ref i => match s[i]? with
    | some (.lst _) => some "list"
    | some (.frz (.lst _)) => some "list"
    | some (.dct _) => some "dict"
    | some (.frz (.dct _)) => some "dict"
    | some (.dcT _) => some "dict"
    | _ => none
  | .klst _ => none
def oIsT (T : String) : DOp1 := fun x s => match tyD s x with
  | some t => (kitB t T).map fun b => (.bl b, s)
  | none => none
theorem tyD_of {ρ : List Addr} {H : Hp} {s : Sto} {v : V} {d : D} {t : String} (r : Rel Γ ρ H s) (h : RD Γ ρ H v d) (e : tyD s d = some t) : TyX Γ.K H v (.type t) := by
  unfold tyD at e
  split at e
  · cases e; cases h; exact .base .non
  · cases e; cases h; exact .base (.bl _)
  · cases e; cases h; exact .base (.int _)
  · cases e; cases h; exact .base (.str _)
  · cases e
    obtain ⟨a, vs, rfl, ha, _⟩ := get_tup h
    exact .base (.tup ha)
  · cases e
  · obtain ⟨a, rfl, ha⟩ := get_ref h
    split at e
    · rename_i hs
      cases e
      obtain ⟨u, hu, vs, rfl, _⟩ := r.at ha hs
      exact .base (.lst hu)
    · rename_i hs
      cases e
      obtain ⟨u, hu, od, u', rfl, vs, rfl, _⟩ := r.at ha hs
      exact .base (.frz hu)
    · rename_i hs
      cases e
      obtain ⟨u, hu, vs, rfl, _⟩ := r.at ha hs
      exact .base (.dK hu)
    · rename_i hs
      cases e
      obtain ⟨u, hu, od, u', rfl, vs, rfl, _⟩ := r.at ha hs
      exact .fDict hu
    · rename_i hs
      cases e
      obtain ⟨u, hu, vs, rfl, _⟩ := r.at ha hs
      exact .base (.dT hu)
    · cases e
  · cases e
theorem de_isT {T : String} {x : Str} (hK : X.K = Γ.K) (hi : X.mg "isinstance" = none) (hg : Gl X "isinstance") (hgT : Gl X x) (hmT : X.mg x = none) (hv : bootBuiltins x = some (.type T)) (ha : PE X a (dE Γ W f)) (hn : x ≠ "__name__" := by decide) (hdb : (x == ("__debug__" : Str)) = false := by decide)
    (h1 : starEach [a, .Name x p2] X.env = (false, eval a X.env) :: starEach [.Name x p2] X.env := by rfl) :
    PE X (.Call (.Name "isinstance" p) [a, .Name x p2] [] pos) (dE Γ W (e1 (oIsT T) f)) :=
  PE.weak (pe_callB (call_isi (X := X)) hg hi (by decide +kernel) (pa_cons ha (pa_cons (pe_bltn (v := .ty T) hgT hmT hv rfl hn hdb) pa_nil) h1) (he := h1)) (to_op1 (r := fun x H1 Q => rIsi X.K [x, .ty T] H1 Q) fun ρ H s x dx d s' Q r hx e q => by
    unfold oIsT at e
    split at e
    · rename_i t ht
      cases hk : kitB t T with
      | none => rw [hk] at e; cases e
      | some b =>
        rw [hk] at e
        cases e
        exact ⟨x, .ty T, .type t, .type T, b, rfl, .ty T, by rw [hK]; exact tyD_of r hx ht, kit_ty hk, q.here r (.bl b)⟩
    · cases e)
/-! ### built-in functions by their arguments -/
theorem de_callB {id : String} {x : Str} {r : List V → Hp → VK → Prop} {o : DOpN} (hc : CallR X (.builtin id) r) (ho : OpN Γ r o) (hg : Gl X x) (hm : X.mg x = none) (hv : bootBuiltins x = some (.builtin id)) (ha : PA X (e :: es) (dA Γ W t)) (hn : x ≠ "__name__" := by decide) (hdb : (x == ("__debug__" : Str)) = false := by decide)
    (he : starEach (e :: es) X.env = (false, eval e X.env) :: starEach es X.env := by rfl) (hpl : (backTo pos (starEach es X.env)).any (·.1) = false := by rfl) : PE X (.Call (.Name x p) (e :: es) [] pos) (dE Γ W (eN o t)) :=
  PE.weak (pe_callB hc hg hm hv ha hn hdb he hpl) (to_opN ho)
theorem de_callTy {T : String} {x : Str} {r : List V → Hp → VK → Prop} {o : DOpN} (hc : CallR X (.type T) r) (ho : OpN Γ r o) (hg : Gl X x) (hm : X.mg x = none) (hv : bootBuiltins x = some (.type T)) (ha : PA X (e :: es) (dA Γ W t)) (hn : x ≠ "__name__" := by decide) (hdb : (x == ("__debug__" : Str)) = false := by decide)
    (he : starEach (e :: es) X.env = (false, eval e X.env) :: starEach es X.env := by rfl) (hpl : (backTo pos (starEach es X.env)).any (·.1) = false := by rfl) : PE X (.Call (.Name x p) (e :: es) [] pos) (dE Γ W (eN o t)) :=
  PE.weak (pe_callTy hc hg hm hv ha hn hdb he hpl) (to_opN ho)
/-- methods of built-in things -/
def eM (o : DOpM) (f : DEx) (t : DAr) : DEx := fun env s => (f env s).bind fun x s1 => (t env s1).bind fun xs s2 => up (o x xs s2)
def eM0 (o : DOpM) (f : DEx) : DEx := fun env s => (f env s).bind fun x s1 => up (o x [] s1)
/-- the receiver's kind, told ahead of the arguments -/
def KindIs (Γ : Wd) (T : String) (P : D → Sto → Bool) : Prop := ∀ ρ H s x dx, Rel Γ ρ H s → RD Γ ρ H x dx → P dx s = true → tyV Γ.K T x H
def eMk (P : D → Sto → Bool) (o : DOpM) (f : DEx) (t : DAr) : DEx := fun env s => (f env s).bind fun x s1 => if P x s1 = true then (t env s1).bind fun xs s2 => up (o x xs s2) else .no
def eMk0 (P : D → Sto → Bool) (o : DOpM) (f : DEx) : DEx := fun env s => (f env s).bind fun x s1 => if P x s1 = true then up (o x [] s1) else .no
theorem de_bm {T id : String} {name : Str} {r : V → List V → Hp → VK → Prop} {o : DOpM} {P : D → Sto → Bool} (hK : X.K = Γ.K) (pa : PlainAttrs T) (slot : Slot T name id) (hty : typeOf (.builtin id) = pure (.type "method_descriptor")) (hm : MtR X id r) (hk : KindIs Γ T P) (ho : OpM Γ r o) (hf : PE X a (dE Γ W f)) (ha : PA X (e :: es) (dA Γ W t))
    (hbase : attributeBase a name X.env (eval a X.env) = eval a X.env := by rfl)
    (hfew : ((backTo cpos (starEach (e :: es) X.env)).all (fun x => !x.1) && (backToKw cpos (keywordEach [] X.env)).all (fun x => x.1.isSome)
      && decide ((e :: es).length + ([] : List Keyword).length + (if ([] : List Keyword).isEmpty then 0 else 1) < 30)) = true := by rfl)
    (hline : (apos.endLine == cpos.line) = true := by rfl) (hs : starEach (e :: es) X.env = (false, eval e X.env) :: starEach es X.env := by rfl) (hplain : (backTo cpos (starEach es X.env)).any (·.1) = false := by rfl) :
    PE X (.Call (.Attribute a name apos) (e :: es) [] cpos) (dE Γ W (eMk P o f t)) :=
  PE.weak (pe_bm pa slot hty hm hf ha hbase hfew hline hs hplain) fun σ H Q ⟨ρ, env, s, re, rs, q⟩ => by
    refine ⟨ρ, env, s, re, rs, q.bind.mono ?_⟩
    rintro v H1 ⟨ρ1, s1, d1, x1, rs1, rd1, q1⟩
    split at q1
    · rename_i hp
      rw [hK]
      refine ⟨hk ρ1 H1 s1 v d1 rs1 rd1 hp, ρ1, env, s1, re.ext x1, rs1, (AnsA.bind q1).mono ?_⟩
      rintro vs H2 ⟨ρ2, s2, d2, x2, rs2, rd2, q2⟩
      obtain ⟨d, s3, e, q3⟩ := q2.up
      exact ho ρ2 H2 s2 v vs d1 d2 d s3 Q rs2 (rd1.ext x2) rd2 e q3
    · exact q1.elim
theorem de_bm0 {T id : String} {name : Str} {r : V → List V → Hp → VK → Prop} {o : DOpM} {P : D → Sto → Bool} (hK : X.K = Γ.K) (pa : PlainAttrs T) (slot : Slot T name id) (hty : typeOf (.builtin id) = pure (.type "method_descriptor")) (hm : MtR X id r) (hk : KindIs Γ T P) (ho : OpM Γ r o) (hf : PE X a (dE Γ W f))
    (hbase : attributeBase a name X.env (eval a X.env) = eval a X.env := by rfl) (hline : (apos.endLine == cpos.line) = true := by rfl) : PE X (.Call (.Attribute a name apos) [] [] cpos) (dE Γ W (eMk0 P o f)) :=
  PE.weak (pe_bm0 pa slot hty hm hf hbase hline) fun σ H Q ⟨ρ, env, s, re, rs, q⟩ => by
    refine ⟨ρ, env, s, re, rs, q.bind.mono ?_⟩
    rintro v H1 ⟨ρ1, s1, d1, x1, rs1, rd1, q1⟩
    split at q1
    · rename_i hp
      rw [hK]
      obtain ⟨d, s3, e, q3⟩ := q1.up
      exact ⟨hk ρ1 H1 s1 v d1 rs1 rd1 hp, ho ρ1 H1 s1 v [] d1 [] d s3 Q rs1 rd1 .nil e q3⟩
    · exact q1.elim
def isLst (x : D) (s : Sto) : Bool := match x with
  | .ref i => (rdL s i).isSome
  | _ => false
def isStr (x : D) (_ : Sto) : Bool := match x with
  | .str _ => true
  | _ => false
theorem kind_lst : KindIs Γ "list" isLst := fun ρ H s x dx r hx h => by
  unfold isLst at h
  split at h
  · rename_i i
    cases hl : rdL s i with
    | none => rw [hl] at h; cases h
    | some xs =>
      obtain ⟨a, vs, rfl, _, ha, _⟩ := rel_rdL r hl hx
      exact .inl ⟨rfl, vs, .inl ha⟩
  · cases h
theorem kind_str : KindIs Γ "str" isStr := fun ρ H s x dx r hx h => by
  unfold isStr at h
  split at h
  · rw [get_str hx]
    exact rfl
  · cases h
end
end DL
set_option maxHeartbeats 4000000
/-! The built-ins that the programs use, over the store -/
namespace DL
open PySem PySem.Spec PyProof.Rows L2 HM
theorem RDs.one_inv {Γ : Wd} {ρ : List Addr} {H : Hp} {vs : List V} {d : D} (r : RDs Γ ρ H vs [d]) : ∃ v, vs = [v] ∧ RD Γ ρ H v d := by
  cases r with
  | cons h r => cases r; exact ⟨_, rfl, h⟩
theorem RDs.two_inv {Γ : Wd} {ρ : List Addr} {H : Hp} {vs : List V} {d e : D} (r : RDs Γ ρ H vs [d, e]) : ∃ v w, vs = [v, w] ∧ RD Γ ρ H v d ∧ RD Γ ρ H w e := by
  cases r with
  | cons h r =>
    cases r with
    | cons h' r => cases r; exact ⟨_, _, rfl, h, h'⟩
theorem RDs.nil_inv {Γ : Wd} {ρ : List Addr} {H : Hp} {vs : List V} (r : RDs Γ ρ H vs []) : vs = [] := by
  cases r; rfl
/-! ### len -/
def lenD (s : Sto) : D → Option Nat
  | .tup xs => some xs.length
  | .ktup xs => some xs.length
  | .klst xs => some xs.length
  | .str z => if z.length ≤ sizeLine then some z.length else none
  | .ref i => match s[i]? with
    | some (.lst xs) => some xs.length
    | some (.frz (.lst xs)) => some xs.length
    | some (.dct kvs) => some kvs.length
    | some (.frz (.dct kvs)) => some kvs.length
    | _ => none
  | _ => none
def oLen : DOpN := fun xs s => match xs with
  | [x] => (lenD s x).map fun n => (.int n, s)
  | _ => none
theorem call_lenR {X : Cx} : CallR X (.builtin "len") (fun xs H Q => ∃ a kvs, xs = [V.ref a] ∧ Rd H a (.dK kvs) ∧ Q (.int kvs.length) H) := by
  intro pins s σ H xs us Q I r h
  obtain ⟨a, kvs, rfl, hd, q⟩ := h
  obtain ⟨u, rfl, ru⟩ := vals1 r
  cases ru
  exact d_len I hd fun t s' I' => ⟨.int kvs.length, H, I', ⟨t, rfl⟩, q⟩
def rLen3 (K : PySem.W.Frag) : List V → Hp → VK → Prop := fun xs H Q => (∃ p ys, xs = [.ref p] ∧ (SqL K H p ys ∨ SqT K H p ys) ∧ Q (.int ys.length) H) ∨ (∃ z, xs = [.str z] ∧ z.length ≤ sizeLine ∧ Q (.int z.length) H) ∨ ∃ a kvs, xs = [V.ref a] ∧ Rd H a (.dK kvs) ∧ Q (.int kvs.length) H
theorem call_len3 {X : Cx} {Γ : Wd} (hK : X.K = Γ.K) : CallR X (.builtin "len") (rLen3 Γ.K) := by
  rw [← hK]
  exact call_len_seq.or (call_len_str.or call_lenR)
theorem opN_len {Γ : Wd} : OpN Γ (rLen3 Γ.K) oLen := by
  intro ρ H s x dx d s' Q r hx e q
  unfold oLen at e
  split at e
  · rename_i x1
    obtain ⟨v, rfl, hv⟩ := hx.one_inv
    cases hl : lenD s x1 with
    | none => rw [hl] at e; cases e
    | some n =>
      rw [hl] at e
      cases e
      have q := q.here r (.int _)
      unfold lenD at hl
      split at hl
      · cases hl
        obtain ⟨a, vs, rfl, ha, rv⟩ := get_tup hv
        exact .inl ⟨a, vs, rfl, .inr (SqT.of ha), by rw [rv.length]; exact q⟩
      · cases hl
        obtain ⟨a, vs, rfl, ha, rv⟩ := get_ktup hv
        exact .inl ⟨a, vs, rfl, .inr ha.sq, by rw [rv.length]; exact q⟩
      · cases hl
        cases hv with
        | @klst a vs _ ha rv => exact .inl ⟨a, vs, rfl, .inl ha.sq, by rw [rv.length]; exact q⟩
      · split at hl
        · rename_i hz
          cases hl
          rw [get_str hv]
          exact .inr (.inl ⟨_, rfl, hz, q⟩)
        · cases hl
      · obtain ⟨a, rfl, ha⟩ := get_ref hv
        split at hl
        · rename_i hs
          cases hl
          obtain ⟨u, hu, vs, rfl, rv⟩ := r.at ha hs
          exact .inl ⟨a, vs, rfl, .inl (SqL.of hu), by rw [rv.length]; exact q⟩
        · rename_i hs
          cases hl
          obtain ⟨u, hu, od, u', rfl, vs, rfl, rv⟩ := r.at ha hs
          exact .inl ⟨a, vs, rfl, .inl (.inl (.inr ⟨_, hu⟩)), by rw [rv.length]; exact q⟩
        · rename_i hs
          cases hl
          obtain ⟨u, hu, vs, rfl, rv⟩ := r.at ha hs
          exact .inr (.inr ⟨a, vs, rfl, .inl hu, by rw [rv.length]; exact q⟩)
        · rename_i hs
          cases hl
          obtain ⟨u, hu, od, u', rfl, vs, rfl, rv⟩ := r.at ha hs
          exact .inr (.inr ⟨a, vs, rfl, .inr ⟨_, hu⟩, by rw [rv.length]; exact q⟩)
        · cases hl
      · cases hl
  · cases e
/-! ### max, min, divmod -/
def oMax : DOpN := fun xs s => match xs with
  | [.int i, .int j] => some (.int (if j > i then j else i), s)
  | _ => none
def oMin : DOpN := fun xs s => match xs with
  | [.int i, .int j] => some (.int (if j < i then j else i), s)
  | _ => none
theorem opN_max {Γ : Wd} : OpN Γ (fun xs H Q => ∃ i j, xs = [.int i, .int j] ∧ Q (.int (if j > i then j else i)) H) oMax := by
  intro ρ H s x dx d s' Q r hx e q
  unfold oMax at e
  split at e
  · cases e
    obtain ⟨v, w, rfl, hv, hw⟩ := hx.two_inv
    rw [get_int hv, get_int hw]
    exact ⟨_, _, rfl, q.here r (.int _)⟩
  · cases e
theorem opN_min {Γ : Wd} : OpN Γ (fun xs H Q => ∃ i j, xs = [.int i, .int j] ∧ Q (.int (if j < i then j else i)) H) oMin := by
  intro ρ H s x dx d s' Q r hx e q
  unfold oMin at e
  split at e
  · cases e
    obtain ⟨v, w, rfl, hv, hw⟩ := hx.two_inv
    rw [get_int hv, get_int hw]
    exact ⟨_, _, rfl, q.here r (.int _)⟩
  · cases e
def oDivmod : DOpN := fun xs s => match xs with
  | [.int i, .int j] => if 0 < j ∧ j.natAbs.log2 < 9000 then some (.tup [.int (i / j), .int (i % j)], s) else none
  | _ => none
theorem opN_divmod {Γ : Wd} : OpN Γ (fun xs H Q => ∃ i j, xs = [.int i, .int j] ∧ CDivP i j ∧ ∀ p, H p = none → Q (.ref p) (upd H p (.tup [.int (i / j), .int (i % j)]))) oDivmod := by
  intro ρ H s x dx d s' Q r hx e q
  unfold oDivmod at e
  split at e
  · split at e
    · rename_i hc
      cases e
      obtain ⟨v, w, rfl, hv, hw⟩ := hx.two_inv
      rw [get_int hv, get_int hw]
      exact ⟨_, _, rfl, ⟨hc.1, PyProof.noPylong_of_log2 hc.2⟩, Go.tup r (.cons (.int _) (.cons (.int _) .nil)) q⟩
    · cases e
  · cases e
/-! ### list, tuple, dict -/
def keysD (kvs : List (Key × D)) : List D := kvs.map fun kv => dK kv.1
theorem RKs.keysV {Γ : Wd} {ρ : List Addr} {H : Hp} : ∀ {vs : List (Key × V)} {ds : List (Key × D)}, RKs Γ ρ H vs ds → RDs Γ ρ H (vs.map fun kv => kV kv.1) (keysD ds)
  | _, _, .nil => .nil
  | _, _, .cons _ r => .cons (key_rd _) r.keysV
def oList : DOpN := fun xs s => match xs with
  | [.tup ys] => some (.ref s.length, s ++ [.lst ys])
  | [.ref i] => match rdL s i with
    | some ys => some (.ref s.length, s ++ [.lst ys])
    | none => match rdD s i with
      | some kvs => some (.ref s.length, s ++ [.lst (keysD kvs)])
      | none => none
  | _ => none
def rList2 (K : PySem.W.Frag) : List V → Hp → VK → Prop := fun xs H Q => (∃ p ys, xs = [.ref p] ∧ (SqL K H p ys ∨ SqT K H p ys) ∧ ∀ l, H l = none → Q (.ref l) (upd H l (.lst ys))) ∨
  ∃ (a : Addr) (kvs : List (Key × V)), xs = [.ref a] ∧ Rd H a (.dK kvs) ∧ ∀ p, H p = none → Q (.ref p) (upd H p (.lst (kvs.map fun kv => kV kv.1)))
theorem call_list2 {X : Cx} {Γ : Wd} (hK : X.K = Γ.K) (hc : X.calm = true) : CallR X (.type "list") (rList2 Γ.K) := by
  rw [← hK]
  exact call_list_of.or (call_listD hc)
theorem opN_list {Γ : Wd} : OpN Γ (rList2 Γ.K) oList := by
  intro ρ H s x dx d s' Q r hx e q
  unfold oList at e
  split at e
  · cases e
    obtain ⟨v, rfl, hv⟩ := hx.one_inv
    obtain ⟨a, vs, rfl, ha, rv⟩ := get_tup hv
    exact .inl ⟨a, vs, rfl, .inr (SqT.of ha), Go.new r (RU.mkL rv) q⟩
  · obtain ⟨v, rfl, hv⟩ := hx.one_inv
    split at e
    · rename_i hs
      cases e
      obtain ⟨a, vs, rfl, _, ha, rv⟩ := rel_rdL r hs hv
      exact .inl ⟨a, vs, rfl, .inl (.inl ha), Go.new r (RU.mkL rv) q⟩
    · split at e
      · rename_i hs
        cases e
        obtain ⟨a, vs, rfl, _, ha, rv⟩ := rel_rdD r hs hv
        exact .inr ⟨a, vs, rfl, ha, Go.new r (RU.mkL rv.keysV) q⟩
      · cases e
  · cases e
def oTuple : DOpN := fun xs s => match xs with
  | [.tup ys] => some (.tup ys, s)
  | [.ref i] => match rdL s i with
    | some ys => some (.tup ys, s)
    | none => none
  | _ => none
def rTuple1 (K : PySem.W.Frag) : List V → Hp → VK → Prop := fun xs H Q => ∃ p ys, xs = [.ref p] ∧ ((SqL K H p ys ∧ ∀ l, H l = none → Q (.ref l) (upd H l (.tup ys))) ∨ (SqT K H p ys ∧ Q (.ref p) H))
theorem call_tuple1 {X : Cx} {Γ : Wd} (hK : X.K = Γ.K) : CallR X (.type "tuple") (rTuple1 Γ.K) := by
  rw [← hK]
  exact call_tuple_of
theorem opN_tuple {Γ : Wd} : OpN Γ (rTuple1 Γ.K) oTuple := by
  intro ρ H s x dx d s' Q r hx e q
  unfold oTuple at e
  split at e
  · cases e
    obtain ⟨v, rfl, hv⟩ := hx.one_inv
    obtain ⟨a, vs, rfl, ha, rv⟩ := get_tup hv
    exact ⟨a, vs, rfl, .inr ⟨SqT.of ha, q.here r (.tup ha rv)⟩⟩
  · obtain ⟨v, rfl, hv⟩ := hx.one_inv
    split at e
    · rename_i hs
      cases e
      obtain ⟨a, vs, rfl, _, ha, rv⟩ := rel_rdL r hs hv
      exact ⟨a, vs, rfl, .inl ⟨.inl ha, Go.tup r rv q⟩⟩
    · cases e
  · cases e
def oDict : DOpN := fun xs s => match xs with
  | [.ref i] => match rdD s i with
    | some kvs => some (.ref s.length, s ++ [.dct kvs])
    | none => none
  | _ => none
theorem opN_dict {Γ : Wd} : OpN Γ (fun xs H Q => ∃ (a : Addr) (kvs : List (Key × V)), xs = [.ref a] ∧ Rd H a (.dK kvs) ∧ ∀ p, H p = none → Q (.ref p) (upd H p (.dK kvs))) oDict := by
  intro ρ H s x dx d s' Q r hx e q
  unfold oDict at e
  split at e
  · obtain ⟨v, rfl, hv⟩ := hx.one_inv
    split at e
    · rename_i hs
      cases e
      obtain ⟨a, vs, rfl, _, ha, rv⟩ := rel_rdD r hs hv
      exact ⟨a, vs, rfl, ha, Go.new r (RU.mkD rv) q⟩
    · cases e
  · cases e
/-! ### sorted, of texts -/
def strsD : List D → Option (List Str)
  | [] => some []
  | .str z :: r => (strsD r).map fun zs => z :: zs
  | _ :: _ => none
theorem strsD_map : ∀ (zs : List Str), strsD (zs.map D.str) = some zs
  | [] => rfl
  | z :: r => by
    show (strsD (r.map D.str)).map _ = _
    rw [strsD_map r]
    rfl
theorem strsD_of {Γ : Wd} {ρ : List Addr} {H : Hp} : ∀ {vs : List V} {ds : List D} {zs : List Str}, RDs Γ ρ H vs ds → strsD ds = some zs → vs = zs.map V.str
  | _, _, _, .nil, e => by cases e; rfl
  | _, _, _, @RDs.cons _ _ _ v d vs ds h r, e => by
    cases d with
    | str z =>
      replace e : (strsD ds).map (fun zs => z :: zs) = some _ := e
      cases hz : strsD ds with
      | none => rw [hz] at e; cases e
      | some ws =>
        rw [hz] at e
        cases e
        rw [get_str h, strsD_of r hz]
        rfl
    | _ => cases e
def leB (a b : Str) : Bool := !ltCps b.cps.toList a.cps.toList
def srt (zs : List Str) : List Str := zs.mergeSort leB
theorem leB_iff {a b : Str} : leB a b = true ↔ XSo.leS a b := by
  unfold leB
  constructor
  · intro h
    exact XSo.le_of (by simpa using h)
  · intro h
    rw [ltCps_eq]
    simp only [Bool.not_eq_true', decide_eq_false_iff_not]
    exact List.not_lt.mpr h
theorem srt_perm (zs : List Str) : (srt zs).Perm zs := List.mergeSort_perm zs leB
theorem srt_pw (zs : List Str) : (srt zs).Pairwise XSo.leS := by
  have h := List.pairwise_mergeSort (le := leB) (fun a b c h1 h2 => leB_iff.mpr (List.le_trans (leB_iff.mp h1) (leB_iff.mp h2))) (fun a b => by
    rw [Bool.or_eq_true, leB_iff, leB_iff]
    exact List.le_total _ _) zs
  exact h.imp fun h => leB_iff.mp h
theorem srt_sorted (zs : List Str) : sortedS (srt zs) = true := by
  apply sortedS_of_pairwise
  refine (srt_pw zs).imp fun {a b} h => ?_
  have := leB_iff.mpr h
  unfold leB at this
  simpa using this
theorem srt_eq {ys zs : List Str} (p : ys.Perm zs) (h : sortedS ys = true) : ys = srt zs := XSo.sorted_same (p.trans (srt_perm zs).symm) h (srt_sorted zs)
def keyS : List (Key × D) → Option (List Str)
  | [] => some []
  | (.inr z, _) :: r => (keyS r).map fun zs => z :: zs
  | _ :: _ => none
def oSorted : DOpN := fun xs s => match xs with
  | [.ref i] => match rdL s i with
    | some ys => match strsD ys with
      | some zs => if zs.length < 64 then some (.ref s.length, s ++ [.lst ((srt zs).map D.str)]) else none
      | none => none
    | none => match rdD s i with
      | some kvs => match keyS kvs with
        | some zs => if zs.length < 64 then some (.ref s.length, s ++ [.lst ((srt zs).map D.str)]) else none
        | none => none
      | none => none
  | _ => none
def rSorted2 (K : PySem.W.Frag) : List V → Hp → VK → Prop := fun xs H Q => rSortedS K xs H Q ∨ ∃ (a : Addr) (kvs : List (Key × V)) (ks : List Str), xs = [.ref a] ∧ Rd H a (.dK kvs) ∧ kvs.map (·.1) = ks.map Sum.inr ∧ ks.length < 64 ∧
    ∀ ys p, ys.Perm ks → sortedS ys = true → H p = none → Q (.ref p) (upd H p (.lst (ys.map V.str)))
theorem call_sorted2 {X : Cx} {Γ : Wd} (hK : X.K = Γ.K) (hc : X.calm = true) : CallR X (.builtin "sorted") (rSorted2 Γ.K) := by
  rw [← hK]
  exact cr_sortedS.or (call_sortedD hc)
theorem RDs.strs {Γ : Wd} {ρ : List Addr} {H : Hp} : ∀ (zs : List Str), RDs Γ ρ H (zs.map V.str) (zs.map D.str)
  | [] => .nil
  | z :: r => .cons (.str z) (RDs.strs r)
theorem keyS_of : ∀ {kvs : List (Key × D)} {zs : List Str}, keyS kvs = some zs → kvs.map (·.1) = zs.map Sum.inr
  | [], _, e => by cases e; rfl
  | (.inr z, d) :: r, zs, e => by
    unfold keyS at e
    cases hz : keyS r with
    | none => rw [hz] at e; cases e
    | some ws =>
      rw [hz] at e
      cases e
      rw [List.map_cons, List.map_cons, keyS_of hz]
  | (.inl z, d) :: r, zs, e => by cases e
theorem opN_sorted {Γ : Wd} : OpN Γ (rSorted2 Γ.K) oSorted := by
  intro ρ H s x dx d s' Q r hx e q
  unfold oSorted at e
  split at e
  · obtain ⟨v, rfl, hv⟩ := hx.one_inv
    split at e
    · rename_i ys hs
      split at e
      · rename_i zs hz
        split at e
        · rename_i hl
          cases e
          obtain ⟨a, vs, rfl, _, ha, rv⟩ := rel_rdL r hs hv
          refine .inl ⟨a, zs, rfl, by rw [← strsD_of rv hz]; exact .inl ha, hl, fun ys p hp hy hn => ?_⟩
          rw [srt_eq hp hy]
          exact Go.new r (RU.mkL (RDs.strs _)) q p hn
        · cases e
      · cases e
    · split at e
      · rename_i kvs hs
        split at e
        · rename_i zs hz
          split at e
          · rename_i hl
            cases e
            obtain ⟨a, vs, rfl, _, ha, rv⟩ := rel_rdD r hs hv
            refine .inr ⟨a, vs, zs, rfl, ha, by rw [rv.keys]; exact keyS_of hz, hl, fun ys p hp hy hn => ?_⟩
            rw [srt_eq hp hy]
            exact Go.new r (RU.mkL (RDs.strs _)) q p hn
          · cases e
        · cases e
      · cases e
  · cases e
/-! ### methods of lists -/
def oAppend : DOpM := fun x xs s => match x, xs with
  | .ref i, [y] => match wrL s i with
    | some ys => if ys.length < sizeLine then some (.non, s.set i (.lst (ys ++ [y]))) else none
    | none => none
  | _, _ => none
theorem opM_append {Γ : Wd} : OpM Γ rAppend oAppend := by
  intro ρ H s x xs dx dxs d s' Q r hx hxs e q
  unfold oAppend at e
  split at e
  · obtain ⟨v, rfl, hv⟩ := hxs.one_inv
    split at e
    · rename_i hs
      split at e
      · rename_i hl
        cases e
        obtain ⟨a, vs, rfl, ha, h1, rv⟩ := rel_wrL r hs hx
        exact ⟨a, vs, v, rfl, rfl, h1, by rw [rv.length]; exact hl, Go.put r ha h1 rfl (RU.mkL (rv.append (.one hv))) q .non⟩
      · cases e
    · cases e
  · cases e
def oExtend : DOpM := fun x xs s => match x, xs with
  | .ref i, [.ref j] => match wrL s i, wrL s j with
    | some ys, some zs => if ys.length + zs.length ≤ sizeLine then some (.non, s.set i (.lst (ys ++ zs))) else none
    | _, _ => none
  | _, _ => none
theorem opM_extend {Γ : Wd} : OpM Γ rExtend oExtend := by
  intro ρ H s x xs dx dxs d s' Q r hx hxs e q
  unfold oExtend at e
  split at e
  · obtain ⟨v, rfl, hv⟩ := hxs.one_inv
    split at e
    · rename_i hs hs2
      split at e
      · rename_i hl
        cases e
        obtain ⟨a, vs, rfl, ha, h1, rv⟩ := rel_wrL r hs hx
        obtain ⟨b, ws, rfl, hb, h2, rw'⟩ := rel_wrL r hs2 hv
        exact ⟨a, b, vs, ws, rfl, rfl, h1, h2, by rw [rv.length, rw'.length]; exact hl, Go.put r ha h1 rfl (RU.mkL (rv.append rw')) q .non⟩
      · cases e
    · cases e
  · cases e
def oPop : DOpM := fun x xs s => match x, xs with
  | .ref i, [] => match wrL s i with
    | some ys => (ys[ys.length - 1]?).map fun y => (y, s.set i (.lst ys.dropLast))
    | none => none
  | _, _ => none
theorem opM_pop {Γ : Wd} : OpM Γ rPop oPop := by
  intro ρ H s x xs dx dxs d s' Q r hx hxs e q
  unfold oPop at e
  split at e
  · rw [hxs.nil_inv]
    split at e
    · rename_i ys hs
      cases hl : ys[ys.length - 1]? with
      | none => rw [hl] at e; cases e
      | some y =>
        rw [hl] at e
        cases e
        obtain ⟨a, vs, rfl, ha, h1, rv⟩ := rel_wrL r hs hx
        obtain ⟨v, h2, h3⟩ := rv.get hl
        exact ⟨a, vs, v, rfl, rfl, h1, by rw [rv.length]; exact h2, Go.put r ha h1 rfl (RU.mkL rv.dropLast) q h3⟩
    · cases e
  · cases e
def oPopAt : DOpM := fun x xs s => match x, xs with
  | .ref i, [.int k] => match wrL s i with
    | some ys => if -(2 ^ 63) ≤ k ∧ k < 2 ^ 63 then match seqIndex? k ys.length with
        | some j => (ys[j]?).map fun y => (y, s.set i (.lst (ys.eraseIdx j)))
        | none => none
      else none
    | none => none
  | _, _ => none
theorem opM_popAt {Γ : Wd} : OpM Γ rPopAt oPopAt := by
  intro ρ H s x xs dx dxs d s' Q r hx hxs e q
  unfold oPopAt at e
  split at e
  · obtain ⟨v, rfl, hv⟩ := hxs.one_inv
    split at e
    · rename_i ys hs
      split at e
      · rename_i hk
        split at e
        · rename_i j hj
          cases hl : ys[j]? with
          | none => rw [hl] at e; cases e
          | some y =>
            rw [hl] at e
            cases e
            obtain ⟨a, vs, rfl, ha, h1, rv⟩ := rel_wrL r hs hx
            obtain ⟨w, h2, h3⟩ := rv.get hl
            rw [get_int hv]
            exact ⟨a, vs, _, j, w, rfl, rfl, h1, hk.1, hk.2, by rw [rv.length]; exact hj, h2, Go.put r ha h1 rfl (RU.mkL (rv.erase j)) q h3⟩
        · cases e
      · cases e
    · cases e
  · cases e
def oReverse : DOpM := fun x xs s => match x, xs with
  | .ref i, [] => match wrL s i with
    | some ys => some (.non, s.set i (.lst ys.reverse))
    | none => none
  | _, _ => none
theorem opM_reverse {Γ : Wd} : OpM Γ rReverse oReverse := by
  intro ρ H s x xs dx dxs d s' Q r hx hxs e q
  unfold oReverse at e
  split at e
  · rw [hxs.nil_inv]
    split at e
    · rename_i ys hs
      cases e
      obtain ⟨a, vs, rfl, ha, h1, rv⟩ := rel_wrL r hs hx
      exact ⟨a, vs, rfl, rfl, h1, Go.put r ha h1 rfl (RU.mkL rv.reverse) q .non⟩
    · cases e
  · cases e
def oClear : DOpM := fun x xs s => match x, xs with
  | .ref i, [] => match wrL s i with
    | some ys => some (.non, s.set i (.lst []))
    | none => none
  | _, _ => none
theorem opM_clear {Γ : Wd} : OpM Γ rClear oClear := by
  intro ρ H s x xs dx dxs d s' Q r hx hxs e q
  unfold oClear at e
  split at e
  · rw [hxs.nil_inv]
    split at e
    · rename_i ys hs
      cases e
      obtain ⟨a, vs, rfl, ha, h1, rv⟩ := rel_wrL r hs hx
      exact ⟨a, vs, rfl, rfl, h1, Go.put r ha h1 rfl (RU.mkL .nil) q .non⟩
    · cases e
  · cases e
/-! ### methods of texts -/
def oSplit : DOpM := fun x xs s => match x, xs with
  | .str a, [.str b] => if (b.length == 0) = false ∧ a.length + 2 ≤ sizeLine then some (.ref s.length, s ++ [.lst ((Txt.split a b).map D.str)]) else none
  | _, _ => none
theorem opM_split {Γ : Wd} : OpM Γ (fun x xs H Q => ∃ a b, x = .str a ∧ xs = [.str b] ∧ (b.length == 0) = false ∧ a.length + 2 ≤ sizeLine ∧ rNewStrs (Txt.split a b) H Q) oSplit := by
  intro ρ H s x xs dx dxs d s' Q r hx hxs e q
  unfold oSplit at e
  split at e
  · obtain ⟨v, rfl, hv⟩ := hxs.one_inv
    split at e
    · rename_i hc
      cases e
      rw [get_str hx, get_str hv]
      exact ⟨_, _, rfl, rfl, hc.1, hc.2, Go.new r (RU.mkL (RDs.strs _)) q⟩
    · cases e
  · cases e
def seqD (s : Sto) : D → Option (List D)
  | .tup xs => some xs
  | .ref i => rdL s i
  | _ => none
def oJoin : DOpM := fun x xs s => match x, xs with
  | .str a, [y] => match seqD s y with
    | some ds => match strsD ds with
      | some ys => if (ys.map (·.length)).sum + ys.length * a.length ≤ 16777216 then some (.str (Txt.join a ys), s) else none
      | none => none
    | none => none
  | _, _ => none
def rJoinK (K : PySem.W.Frag) : V → List V → Hp → VK → Prop := fun x xs H Q => ∃ a p, ∃ ys : List Str, x = .str a ∧ xs = [.ref p] ∧ (SqL K H p (ys.map V.str) ∨ SqT K H p (ys.map V.str)) ∧
    (ys.map (·.length)).sum + ys.length * a.length ≤ 16777216 ∧ Q (.str (Txt.join a ys)) H
theorem mt_joinK {X : Cx} {Γ : Wd} (hK : X.K = Γ.K) : MtR X "str.join" (rJoinK Γ.K) := by
  rw [← hK]
  exact mt_join
theorem opM_join {Γ : Wd} : OpM Γ (rJoinK Γ.K) oJoin := by
  intro ρ H s x xs dx dxs d s' Q r hx hxs e q
  unfold oJoin at e
  split at e
  · obtain ⟨v, rfl, hv⟩ := hxs.one_inv
    split at e
    · rename_i ds hd
      split at e
      · rename_i ys hy
        split at e
        · rename_i hl
          cases e
          rw [get_str hx]
          unfold seqD at hd
          split at hd
          · cases hd
            obtain ⟨p, vs, rfl, hp, rv⟩ := get_tup hv
            exact ⟨_, p, ys, rfl, rfl, .inr (by rw [← strsD_of rv hy]; exact SqT.of hp), hl, q.here r (.str _)⟩
          · obtain ⟨p, vs, rfl, _, hp, rv⟩ := rel_rdL r hd hv
            exact ⟨_, p, ys, rfl, rfl, .inl (by rw [← strsD_of rv hy]; exact .inl hp), hl, q.here r (.str _)⟩
          · cases hd
        · cases e
      · cases e
    · cases e
  · cases e
end DL
set_option maxHeartbeats 4000000
/-! Statements over the store -/
namespace DL
open PySem PySem.Spec PyProof.Rows L2 HM
def Res.st {α : Type} (r : Res α) (env : Env) (k : α → Sto → SR) : SR := match r with
  | .ok a s => k a s
  | .ex x s => .ex x env s
  | .no => .no
@[simp] theorem Res.st_ok {α : Type} (a : α) (s : Sto) (env : Env) (k : α → Sto → SR) : (Res.ok a s).st env k = k a s := rfl
@[simp] theorem Res.st_ex {α : Type} (x : Ex) (s : Sto) (env : Env) (k : α → Sto → SR) : (Res.ex x s : Res α).st env k = .ex x env s := rfl
@[simp] theorem Res.st_no {α : Type} (env : Env) (k : α → Sto → SR) : (Res.no : Res α).st env k = .no := rfl
section
variable {Γ : Wd} {W : WX} {σ : L2.St} {ρ ρ1 : List Addr} {H H1 : Hp} {env : Env} {E : Ends}
theorem AnsS.bind {r : Res D} {k : D → Sto → SR} (re : REnv Γ ρ H σ env) (h : AnsS Γ W ρ H (r.st env k) E) : Ans Γ W σ ρ H r (fun v H1 => ∃ ρ1 s1 d, Ext ρ H ρ1 H1 ∧ Rel Γ ρ1 H1 s1 ∧ RD Γ ρ1 H1 v d ∧ AnsS Γ W ρ1 H1 (k d s1) E) := by
  cases r with
  | ok d s => exact fun ρ' H' v x rs rd => ⟨ρ', s, d, x, rs, rd, AnsS.ext (r := k d s) h x⟩
  | ex e s => exact fun ρ' H' c d x rs rx => h ρ' H' σ c d x rs (re.ext x) rx
  | no => exact h
theorem AnsS.bindB {r : Res Bool} {k : Bool → Sto → SR} (re : REnv Γ ρ H σ env) (h : AnsS Γ W ρ H (r.st env k) E) : AnsB Γ W σ ρ H r (fun b H1 => ∃ ρ1 s1, Ext ρ H ρ1 H1 ∧ Rel Γ ρ1 H1 s1 ∧ AnsS Γ W ρ1 H1 (k b s1) E) := by
  cases r with
  | ok d s => exact fun ρ' H' x rs => ⟨ρ', s, x, rs, AnsS.ext (r := k d s) h x⟩
  | ex e s => exact fun ρ' H' c d x rs rx => h ρ' H' σ c d x rs (re.ext x) rx
  | no => exact h
end
def sNil : DSt := fun env s => .nx env s
def sSeq (f g : DSt) : DSt := fun env s => match f env s with
  | .nx env' s' => g env' s'
  | r => r
def sNo : DSt := fun _ _ => .no
def sExpr (f : DEx) : DSt := fun env s => (f env s).st env fun _ s1 => .nx env s1
def sRet (f : DEx) : DSt := fun env s => (f env s).st env fun d s1 => .rt d s1
def sRetN : DSt := fun _ s => .rt .non s
def sIf (u : DTe) (f g : DSt) : DSt := fun env s => (u env s).st env fun b s1 => if b = true then f env s1 else g env s1
def sBk : DSt := fun env s => .bk env s
def sCt : DSt := fun env s => .ct env s
section
variable {X : Cx} {Γ : Wd} {W : WX} {a b c e o i : Expr} {f g h : DEx} {u : DTe} {j k : DSt} {pos p p2 pos' : Pos} {es : List Expr} {t : DAr} {st : Stmt} {sts : List Stmt}
theorem ds_nil : PSs X [] (dS Γ W sNil) := PSs.weak pss_nil fun E σ H ⟨ρ, env, s, re, rs, q⟩ => q ρ H σ (Ext.refl _ _) rs re
theorem ds_cons (h1 : PS X st (dS Γ W j)) (h2 : PSs X sts (dS Γ W k)) : PSs X (st :: sts) (dS Γ W (sSeq j k)) :=
  PSs.weak (pss_cons h1 h2) fun E σ H ⟨ρ, env, s, re, rs, q⟩ => by
    refine ⟨ρ, env, s, re, rs, ?_⟩
    unfold sSeq at q
    cases hj : j env s with
    | nx env' s' =>
      rw [hj] at q
      exact fun ρ' H' σ' x rs' re' => ⟨ρ', env', s', re', rs', AnsS.ext q x⟩
    | rt d s' => rw [hj] at q; exact q
    | bk d s' => rw [hj] at q; exact q
    | ct d s' => rw [hj] at q; exact q
    | ex x d s' => rw [hj] at q; exact q
    | no => rw [hj] at q; exact q
theorem ds_one (h1 : PS X st (dS Γ W j)) : PSs X [st] (dS Γ W j) := pss_one h1
theorem ds_never : PS X st (dS Γ W sNo) := PS.weak ps_never fun E σ H ⟨ρ, env, s, re, rs, q⟩ => q
theorem ds_pass : PS X (.Pass pos) (dS Γ W sNil) := PS.weak ps_pass fun E σ H ⟨ρ, env, s, re, rs, q⟩ => q ρ H σ (Ext.refl _ _) rs re
theorem ds_break : PS X (.Break pos) (dS Γ W sBk) := PS.weak ps_break fun E σ H ⟨ρ, env, s, re, rs, q⟩ => q ρ H σ (Ext.refl _ _) rs re
theorem ds_continue : PS X (.Continue pos) (dS Γ W sCt) := PS.weak ps_continue fun E σ H ⟨ρ, env, s, re, rs, q⟩ => q ρ H σ (Ext.refl _ _) rs re
theorem ds_expr (ha : PE X e (dE Γ W f)) (hs : swapsWith e none pos.line X.env = pure false := by rfl) : PS X (.Expr e pos) (dS Γ W (sExpr f)) :=
  PS.weak (ps_expr ha hs) fun E σ H ⟨ρ, env, s, re, rs, q⟩ => by
    refine ⟨ρ, env, s, re, rs, (AnsS.bind re q).mono ?_⟩
    rintro v H1 ⟨ρ1, s1, d1, x1, rs1, rd1, q1⟩
    exact q1 ρ1 H1 σ (Ext.refl _ _) rs1 (re.ext x1)
theorem ds_ret (ha : PE X e (dE Γ W f)) : PS X (.Return (some e) pos) (dS Γ W (sRet f)) :=
  PS.weak (ps_ret ha) fun E σ H ⟨ρ, env, s, re, rs, q⟩ => by
    refine ⟨ρ, env, s, re, rs, (AnsS.bind re q).mono ?_⟩
    rintro v H1 ⟨ρ1, s1, d1, x1, rs1, rd1, q1⟩
    exact q1 ρ1 H1 v (Ext.refl _ _) rs1 rd1
theorem ds_retN : PS X (.Return none pos) (dS Γ W sRetN) := PS.weak ps_retN fun E σ H ⟨ρ, env, s, re, rs, q⟩ => q ρ H .non (Ext.refl _ _) rs .non
theorem ds_if {aa bb : List Stmt} (hc : PT X c (dT Γ W u)) (ha : PSs X aa (dS Γ W j)) (hb : PSs X bb (dS Γ W k)) : PS X (.If c aa bb pos) (dS Γ W (sIf u j k)) :=
  PS.weak (ps_if hc ha hb) fun E σ H ⟨ρ, env, s, re, rs, q⟩ => by
    refine ⟨ρ, env, s, re, rs, (AnsS.bindB re q).mono ?_⟩
    rintro v H1 ⟨ρ1, s1, x1, rs1, q1⟩
    cases v with
    | true => exact ⟨ρ1, env, s1, re.ext x1, rs1, q1⟩
    | false => exact ⟨ρ1, env, s1, re.ext x1, rs1, q1⟩
/-! ### targets: names, and tuples of them -/
end
inductive Tg where
  | nm (i : Nat) | tp (ts : List Tg)
mutual
def asg : Tg → D → Env → Option Env
  | .nm i, d, env => some (env.set i (some d))
  | .tp ts, .tup xs, env => asgs ts xs env
  | .tp _, _, _ => none
def asgs : List Tg → List D → Env → Option Env
  | [], [], env => some env
  | t :: ts, d :: ds, env => (asg t d env).bind (asgs ts ds)
  | _, _, _ => none
end
mutual
def gOf (K : PySem.W.Frag) : Tg → TG
  | .nm i => gName i
  | .tp ts => gTup K ts.length (gsOf K ts)
def gsOf (K : PySem.W.Frag) : List Tg → TGs
  | [] => gNil
  | t :: ts => gCons (gOf K t) (gsOf K ts)
end
mutual
def slots : Tg → List Nat
  | .nm i => [i]
  | .tp ts => slotss ts
def slotss : List Tg → List Nat
  | [] => []
  | t :: ts => slots t ++ slotss ts
end
/-- like but for some slots -/
structure But (vs : List Nat) (σ σ' : L2.St) : Prop where
  len : σ'.length = σ.length
  at_ : ∀ j, j ∉ vs → σ'[j]? = σ[j]?
theorem But.refl (vs : List Nat) (σ : L2.St) : But vs σ σ := ⟨rfl, fun _ _ => rfl⟩
theorem asgs_len : ∀ {ts : List Tg} {ds : List D} {env env' : Env}, asgs ts ds env = some env' → ts.length = ds.length
  | [], [], _, _, _ => rfl
  | [], _ :: _, _, _, e => by simp [asgs] at e
  | _ :: _, [], _, _, e => by simp [asgs] at e
  | t :: ts, d :: ds, env, env', e => by
    rw [asgs] at e
    cases h : asg t d env with
    | none => rw [h] at e; cases e
    | some env1 =>
      rw [h] at e
      rw [List.length_cons, List.length_cons, asgs_len (ts := ts) (ds := ds) e]
mutual
theorem gOf_ok {Γ : Wd} {ρ : List Addr} {H : Hp} {Q : L2.St → Hp → Prop} : ∀ (t : Tg) {v : V} {d : D} {σ : L2.St} {env env' : Env}, ((slots t).all fun i => Γ.hs.all fun p => p.1 != i) = true → REnv Γ ρ H σ env → RD Γ ρ H v d → asg t d env = some env' →
    (∀ σ', REnv Γ ρ H σ' env' → But (slots t) σ σ' → Q σ' H) → gOf Γ.K t v σ H Q
  | .nm i, v, d, σ, env, env', hh, re, rd, e, q => by
    rw [asg] at e
    cases e
    refine q _ (re.set rd (by simpa [slots] using hh)) ⟨by simp, fun j hj => ?_⟩
    exact List.getElem?_set_ne (fun z => hj (by simp [slots, z]))
  | .tp ts, v, d, σ, env, env', hh, re, rd, e, q => by
    cases d with
    | tup xs =>
      rw [asg] at e
      obtain ⟨a, vs, rfl, ha, rv⟩ := get_tup rd
      refine ⟨a, vs, rfl, SqT.of ha, by rw [rv.length, asgs_len e], ?_⟩
      exact gsOf_ok ts hh re rv e q
    | _ => simp [asg] at e
theorem gsOf_ok {Γ : Wd} {ρ : List Addr} {H : Hp} {Q : L2.St → Hp → Prop} : ∀ (ts : List Tg) {vs : List V} {ds : List D} {σ : L2.St} {env env' : Env}, ((slotss ts).all fun i => Γ.hs.all fun p => p.1 != i) = true → REnv Γ ρ H σ env → RDs Γ ρ H vs ds → asgs ts ds env = some env' →
    (∀ σ', REnv Γ ρ H σ' env' → But (slotss ts) σ σ' → Q σ' H) → gsOf Γ.K ts vs σ H Q
  | [], vs, ds, σ, env, env', hh, re, rd, e, q => by
    cases ds with
    | nil =>
      rw [asgs] at e
      cases e
      exact ⟨rd.nil_inv, q σ re (But.refl _ _)⟩
    | cons d ds => simp [asgs] at e
  | t :: ts, vs, ds, σ, env, env', hh, re, rd, e, q => by
    cases rd with
    | nil => simp [asgs] at e
    | @cons v d vs ds rd rds =>
      rw [asgs] at e
      rw [slotss, List.all_append, Bool.and_eq_true] at hh
      cases h : asg t d env with
      | none => rw [h] at e; cases e
      | some env1 =>
        rw [h] at e
        refine ⟨v, vs, rfl, gOf_ok t hh.1 re rd h fun σ1 re1 b1 => ?_⟩
        refine gsOf_ok ts hh.2 re1 rds e fun σ2 re2 b2 => q σ2 re2 ⟨b2.len.trans b1.len, fun j hj => ?_⟩
        rw [slotss, List.mem_append, not_or] at hj
        rw [b2.at_ j hj.2, b1.at_ j hj.1]
end
def sAsg (t : Tg) (f : DEx) : DSt := fun env s => (f env s).st env fun d s1 => match asg t d env with
  | some env' => .nx env' s1
  | none => .no
section
variable {X : Cx} {Γ : Wd} {W : WX} {a b c e o i : Expr} {f g h : DEx} {u : DTe} {j k : DSt} {pos p p2 pos' tpos : Pos} {es : List Expr} {t : DAr} {st : Stmt} {sts : List Stmt}
theorem to_asg {tg : Tg} (hh : ((slots tg).all fun i => Γ.hs.all fun p => p.1 != i) = true) : ∀ E σ H, dS Γ W (sAsg tg f) E σ H → tAsg (dE Γ W f) (gOf Γ.K tg) E σ H := fun E σ H ⟨ρ, env, s, re, rs, q⟩ => by
  refine ⟨ρ, env, s, re, rs, (AnsS.bind re q).mono ?_⟩
  rintro v H1 ⟨ρ1, s1, d1, x1, rs1, rd1, q1⟩
  split at q1
  · rename_i env' he
    exact gOf_ok tg hh (re.ext x1) rd1 he fun σ' re' _ => q1 ρ1 H1 σ' (Ext.refl _ _) rs1 re'
  · exact q1.elim
/-- name = e -/
theorem ds_set {n : Nat} {x : Str} (hN : X.N.Nodup) (hi : X.N[n]? = some x) (hx : Loc X.env.scope x) (ha : PE X e (dE Γ W f)) (hs : swapsWith e (some (.Name x pos')) pos.line X.env = pure false := by rfl)
    (hf : X.fn x = true ∨ X.env.scope.names.lookup x = some .local := by first | exact .inl rfl | exact .inr rfl | assumption) (hh : ((slots (.nm n)).all fun i => Γ.hs.all fun p => p.1 != i) = true := by rfl) : PS X (.Assign [.Name x pos'] e pos) (dS Γ W (sAsg (.nm n) f)) :=
  PS.weak (ps_set hN hi hx ha hs hf) (to_asg hh)
/-- a, b = e -/
theorem ds_asg {tg : Tg} {te : Expr} (hK : X.K = Γ.K) (ha : PE X e (dE Γ W f)) (hg : PG X te (gOf X.K tg)) (hs : swapsWithSole [te] e pos.line X.env = pure false := by rfl) (hw : swappedStores [te] e X.env = pure none := by rfl)
    (h1 : (assignEach [te] X.env).map (·.2) = [assign te X.env] := by rfl) (hh : ((slots tg).all fun i => Γ.hs.all fun p => p.1 != i) = true := by rfl) : PS X (.Assign [te] e pos) (dS Γ W (sAsg tg f)) := by
  rw [hK] at hg
  exact PS.weak (ps_asg ha hg hs hw h1) (to_asg hh)
/-- a, b = e1, e2: plain local names; no tuple is made -/
def sPar (n m : Nat) (t : DAr) : DSt := fun env s => (t env s).st env fun ds s1 => match ds with
  | [x, y] => .nx ((env.set n (some x)).set m (some y)) s1
  | _ => .no
theorem AnsS.bindA {σ : L2.St} {ρ : List Addr} {H : Hp} {env : Env} {E : Ends} {r : Res (List D)} {k : List D → Sto → SR} (re : REnv Γ ρ H σ env) (h : AnsS Γ W ρ H (r.st env k) E) : AnsA Γ W σ ρ H r (fun v H1 => ∃ ρ1 s1 d, Ext ρ H ρ1 H1 ∧ Rel Γ ρ1 H1 s1 ∧ RDs Γ ρ1 H1 v d ∧ AnsS Γ W ρ1 H1 (k d s1) E) := by
  cases r with
  | ok d s => exact fun ρ' H' v x rs rd => ⟨ρ', s, d, x, rs, rd, AnsS.ext (r := k d s) h x⟩
  | ex e s => exact fun ρ' H' c d x rs rx => h ρ' H' σ c d x rs (re.ext x) rx
  | no => exact h
theorem ds_par {n m : Nat} {x y : Str} {px py pt : Pos} {kt k2 pt2} (hc : X.calm = true) (hN : X.N.Nodup) (hi : X.N[n]? = some x) (hj : X.N[m]? = some y) (hij : n ≠ m)
    (hx : X.env.scope.names.lookup x = some .local) (hy : X.env.scope.names.lookup y = some .local) (ha : PA X [a, b] (dA Γ W t))
    (hw : swappedStores [.Tuple [.Name x px, .Name y py] kt pt] (.Tuple [a, b] k2 pt2) X.env = pure (some [x, y]))
    (hs : swapsWithSole [.Tuple [.Name x px, .Name y py] kt pt] (.Tuple [a, b] k2 pt2) pos.line X.env = pure false := by rfl) (hh : (([n, m] : List Nat).all fun i => Γ.hs.all fun p => p.1 != i) = true := by rfl) :
    PS X (.Assign [.Tuple [.Name x px, .Name y py] kt pt] (.Tuple [a, b] k2 pt2) pos) (dS Γ W (sPar n m t)) :=
  PS.weak (ps_par hc hN hi hj hij hx hy ha hw hs) fun E σ H ⟨ρ, env, s, re, rs, q⟩ => by
    refine ⟨ρ, env, s, re, rs, (AnsS.bindA re q).mono ?_⟩
    rintro vs H1 ⟨ρ1, s1, d1, x1, rs1, rd1, q1⟩
    simp only [List.all_cons, List.all_nil, Bool.and_true, Bool.and_eq_true] at hh
    split at q1
    · obtain ⟨v, w, rfl, hv, hw'⟩ := rd1.two_inv
      exact ⟨v, w, rfl, q1 ρ1 H1 _ (Ext.refl _ _) rs1 (((re.ext x1).set hv hh.1).set hw' hh.2)⟩
    · exact q1.elim
/-! ### o[i] = v -/
def setL (s : Sto) (o i v : D) : Option Sto := match o, i with
  | .ref l, .int n => match wrL s l with
    | some xs => (ixN xs.length n).map fun j => s.set l (.lst (xs.set j v))
    | none => none
  | _, _ => none
def keysT : List D → Option (List Key)
  | [] => some []
  | d :: r => match keyD d, keysT r with
    | some k, some ks => some (k :: ks)
    | _, _ => none
def setK (s : Sto) (o i v : D) : Option Sto := match o with
  | .ref l => match s[l]? with
    | some (.dct kvs) => match keyD i with
      | some k => if kvs.length < sizeLine then some (s.set l (.dct (putD kvs k v))) else none
      | none => none
    | some (.dcT kvs) => match i with
      | .tup ds => match keysT ds with
        | some k => if kvs.length < sizeLine then some (s.set l (.dcT (putD kvs k v))) else none
        | none => none
      | _ => none
    | _ => none
  | _ => none
def isL (s : Sto) (o : D) : Bool := match o with
  | .ref l => (wrL s l).isSome
  | _ => false
def sPutG (set : Sto → D → D → D → Option Sto) (fo fi fv : DEx) : DSt := fun env s => (fv env s).st env fun v s1 => (fo env s1).st env fun o s2 => (fi env s2).st env fun i s3 => match set s3 o i v with
  | some s4 => .nx env s4
  | none => .no
def setD (s : Sto) (o i v : D) : Option Sto := if isL s o then setL s o i v else setK s o i v
def sPut (fo fi fv : DEx) : DSt := sPutG setD fo fi fv
theorem keysT_of {ρ : List Addr} {H : Hp} : ∀ {vs : List V} {ds : List D} {k : List Key}, RDs Γ ρ H vs ds → keysT ds = some k → vs = k.map kV
  | _, _, _, .nil, e => by cases e; rfl
  | _, _, _, @RDs.cons _ _ _ v d vs ds h r, e => by
    unfold keysT at e
    split at e
    · rename_i k ks h1 h2
      cases e
      rw [key_of h h1, keysT_of r h2]
      rfl
    · cases e
theorem ds_putK (hu : X.A.units + 1 < cLine) (ho : PE X o (dE Γ W f)) (hi : PE X i (dE Γ W g)) (hv : PE X e (dE Γ W h)) (hs : swapsWith e (some (.Subscript o i pos')) pos.line X.env = pure false := by rfl) :
    PS X (.Assign [.Subscript o i pos'] e pos) (dS Γ W (sPutG setK f g h)) :=
  PS.weak (ps_dput hu ho hi hv hs) fun E σ H ⟨ρ, env, s, re, rs, q⟩ => by
    refine ⟨ρ, env, s, re, rs, (AnsS.bind re q).mono ?_⟩
    rintro v H1 ⟨ρ1, s1, d1, x1, rs1, rd1, q1⟩
    have re1 := re.ext x1
    refine ⟨ρ1, env, s1, re1, rs1, (AnsS.bind re1 q1).mono ?_⟩
    rintro w H2 ⟨ρ2, s2, d2, x2, rs2, rd2, q2⟩
    have re2 := re1.ext x2
    refine ⟨ρ2, env, s2, re2, rs2, (AnsS.bind re2 q2).mono ?_⟩
    rintro y H3 ⟨ρ3, s3, d3, x3, rs3, rd3, q3⟩
    have rd1' := (rd1.ext x2).ext x3
    have rd2' := rd2.ext x3
    have re3 := re2.ext x3
    split at q3
    · rename_i s4 h4
      unfold setK at h4
      split at h4
      · rename_i l
        obtain ⟨p, rfl, hp⟩ := get_ref rd2'
        split at h4
        · rename_i kvs hs
          split at h4
          · rename_i key hk
            split at h4
            · rename_i hl
              cases h4
              obtain ⟨u, hu', vs, rfl, rv⟩ := rs3.at hp hs
              have n := RU.mkD (rv.put rd1' key)
              refine ⟨p, _, rfl, .inl ⟨vs, key, hu', key_of rd3 hk, by rw [rv.length]; exact hl, rfl⟩, ?_⟩
              exact q3 ρ3 _ σ (Ext.put hu' rfl) (rs3.put hp hu' rfl n) (re3.ext (Ext.put hu' rfl))
            · cases h4
          · cases h4
        · rename_i kvs hs
          split at h4
          · rename_i ds
            split at h4
            · rename_i key hk
              split at h4
              · rename_i hl
                cases h4
                obtain ⟨u, hu', vs, rfl, rv⟩ := rs3.at hp hs
                obtain ⟨bt, bs, rfl, hb, rb⟩ := get_tup rd3
                have n : RU Γ ρ3 H3 (.dT (putK vs key v)) (.dcT (putD kvs key d1)) := ⟨_, rfl, rv.put rd1' key⟩
                refine ⟨p, _, rfl, .inr ⟨vs, key, bt, hu', rfl, by rw [← keysT_of rb hk]; exact hb, by rw [rv.length]; exact hl, rfl⟩, ?_⟩
                exact q3 ρ3 _ σ (Ext.put hu' rfl) (rs3.put hp hu' rfl n) (re3.ext (Ext.put hu' rfl))
              · cases h4
            · cases h4
          · cases h4
        · cases h4
      · cases h4
    · exact q3.elim
theorem ds_putL (ho : PE X o (dE Γ W f)) (hi : PE X i (dE Γ W g)) (hv : PE X e (dE Γ W h))
    (ha : ∀ v, assign (.Subscript o i pos') X.env v = (do
      let ov ← holding [v] (eval o X.env)
      let iv ← holding [v, ov] (eval i X.env)
      standAt pos'
      holding [v, ov, iv] (setItem ov iv v)
      release [v, ov, iv] []) := by intro _; rfl)
    (hs : swapsWithSole [.Subscript o i pos'] e pos.line X.env = pure false := by rfl) (hw : swappedStores [.Subscript o i pos'] e X.env = pure none := by rfl)
    (h1 : (assignEach [.Subscript o i pos'] X.env).map (·.2) = [assign (.Subscript o i pos') X.env] := by rfl) :
    PS X (.Assign [.Subscript o i pos'] e pos) (dS Γ W (sPutG setL f g h)) :=
  PS.weak (ps_asg hv (pg_sub ho hi set_list ha) hs hw h1) fun E σ H ⟨ρ, env, s, re, rs, q⟩ => by
    refine ⟨ρ, env, s, re, rs, (AnsS.bind re q).mono ?_⟩
    rintro v H1 ⟨ρ1, s1, d1, x1, rs1, rd1, q1⟩
    have re1 := re.ext x1
    refine ⟨ρ1, env, s1, re1, rs1, (AnsS.bind re1 q1).mono ?_⟩
    rintro w H2 ⟨ρ2, s2, d2, x2, rs2, rd2, q2⟩
    have re2 := re1.ext x2
    refine ⟨ρ2, env, s2, re2, rs2, (AnsS.bind re2 q2).mono ?_⟩
    rintro y H3 ⟨ρ3, s3, d3, x3, rs3, rd3, q3⟩
    have rd1' := (rd1.ext x2).ext x3
    have rd2' := rd2.ext x3
    have re3 := re2.ext x3
    split at q3
    · rename_i s4 h4
      unfold setL at h4
      split at h4
      · split at h4
        · rename_i xs hs
          obtain ⟨p, vs, rfl, hp, h2, rv⟩ := rel_wrL rs3 hs rd2'
          rw [get_int rd3]
          cases hj : ixN xs.length _ with
          | none => rw [hj] at h4; cases h4
          | some n =>
            rw [hj] at h4
            cases h4
            refine ⟨p, vs, _, n, rfl, rfl, h2, by rw [rv.length]; exact hj, ?_⟩
            exact q3 ρ3 _ σ (Ext.put h2 rfl) (rs3.put hp h2 rfl (RU.mkL (rv.set rd1' n))) (re3.ext (Ext.put h2 rfl))
        · cases h4
      · cases h4
    · exact q3.elim
theorem PS.or {X : Cx} {e : Stmt} {t t' : TS} (h : PS X e t) (h' : PS X e t') : PS X e (fun E σ H => t E σ H ∨ t' E σ H) := ⟨fun pins s σ H E I q => q.elim (h.run pins s σ H E I) (h'.run pins s σ H E I)⟩
theorem ds_put (hu : X.A.units + 64 < cLine) (ho : PE X o (dE Γ W f)) (hi : PE X i (dE Γ W g)) (hv : PE X e (dE Γ W h))
    (ha : ∀ v, assign (.Subscript o i pos') X.env v = (do
      let ov ← holding [v] (eval o X.env)
      let iv ← holding [v, ov] (eval i X.env)
      standAt pos'
      holding [v, ov, iv] (setItem ov iv v)
      release [v, ov, iv] []) := by intro _; rfl)
    (hs : swapsWithSole [.Subscript o i pos'] e pos.line X.env = pure false := by rfl) (hw : swappedStores [.Subscript o i pos'] e X.env = pure none := by rfl)
    (h1 : (assignEach [.Subscript o i pos'] X.env).map (·.2) = [assign (.Subscript o i pos') X.env] := by rfl) (hs2 : swapsWith e (some (.Subscript o i pos')) pos.line X.env = pure false := by rfl) :
    PS X (.Assign [.Subscript o i pos'] e pos) (dS Γ W (sPut f g h)) :=
  PS.weak (PS.or (ds_putL ho hi hv ha hs hw h1) (ds_putK (by omega) ho hi hv hs2)) fun E σ H ⟨ρ, env, s, re, rs, q⟩ => by
    cases hv : h env s with
    | no => exact .inl ⟨ρ, env, s, re, rs, by simpa [sPut, sPutG, hv] using q⟩
    | ex x s1 => exact .inl ⟨ρ, env, s, re, rs, by simpa [sPut, sPutG, hv] using q⟩
    | ok v s1 =>
      cases hf : f env s1 with
      | no => exact .inl ⟨ρ, env, s, re, rs, by simpa [sPut, sPutG, hv, hf] using q⟩
      | ex x s2 => exact .inl ⟨ρ, env, s, re, rs, by simpa [sPut, sPutG, hv, hf] using q⟩
      | ok o s2 =>
        cases hg : g env s2 with
        | no => exact .inl ⟨ρ, env, s, re, rs, by simpa [sPut, sPutG, hv, hf, hg] using q⟩
        | ex x s3 => exact .inl ⟨ρ, env, s, re, rs, by simpa [sPut, sPutG, hv, hf, hg] using q⟩
        | ok i s3 =>
          cases hl : isL s3 o with
          | true => exact .inl ⟨ρ, env, s, re, rs, by simpa [sPut, sPutG, setD, hv, hf, hg, hl] using q⟩
          | false => exact .inr ⟨ρ, env, s, re, rs, by simpa [sPut, sPutG, setD, hv, hf, hg, hl] using q⟩
/-! ### o.f = v, del d[k], {} -/
def putFD (n : Str) (d : D) : List (Str × D) → List (Str × D)
  | [] => [(n, d)]
  | (g, x) :: r => if g = n then (g, d) :: r else (g, x) :: putFD n d r
theorem RKs.putF {ρ : List Addr} {H : Hp} {n : Str} {v : V} {d : D} (hd : RD Γ ρ H v d) : ∀ {vs : List (Str × V)} {ds : List (Str × D)}, RKs Γ ρ H vs ds → RKs Γ ρ H (L2.putF n v vs) (putFD n d ds)
  | _, _, .nil => .cons hd .nil
  | _, _, @RKs.cons _ _ _ _ k v' d' vs ds h r => by
    unfold L2.putF putFD
    by_cases e : k = n
    · rw [if_pos e, if_pos e]
      exact .cons hd r
    · rw [if_neg e, if_neg e]
      exact .cons h (r.putF hd)
def sFldP (n : Str) (fo fv : DEx) : DSt := fun env s => (fv env s).st env fun v s1 => (fo env s1).st env fun o s2 => match o with
  | .ref i => match insA s2 i with
    | some (c, fs) => if fs.length < 1000 then .nx env (s2.set i (.ins c (putFD n v fs))) else .no
    | none => .no
  | _ => .no
theorem ds_fld {n : Str} (hK : X.K = Γ.K) (hc : ClsOk Γ n) (ho : PE X o (dE Γ W f)) (hv : PE X e (dE Γ W g)) (hs : swapsWith e (some (.Attribute o n pos')) pos.line X.env = pure false := by rfl) : PS X (.Assign [.Attribute o n pos'] e pos) (dS Γ W (sFldP n f g)) :=
  PS.weak (ps_fld ho hv hs) fun E σ H ⟨ρ, env, s, re, rs, q⟩ => by
    refine ⟨ρ, env, s, re, rs, (AnsS.bind re q).mono ?_⟩
    rintro v H1 ⟨ρ1, s1, d1, x1, rs1, rd1, q1⟩
    have re1 := re.ext x1
    refine ⟨ρ1, env, s1, re1, rs1, (AnsS.bind re1 q1).mono ?_⟩
    rintro w H2 ⟨ρ2, s2, d2, x2, rs2, rd2, q2⟩
    have re2 := re1.ext x2
    split at q2
    · split at q2
      · rename_i c fs hi
        split at q2
        · rename_i hl
          obtain ⟨p, C, dx, vs, rfl, hp, hC, hA, rv⟩ := rel_ins rs2 hi rd2
          rw [hK]
          refine ⟨p, C, dx, vs, rfl, hA, (hc c C hC).1, (hc c C hC).2, by rw [rv.length]; exact hl, ?_⟩
          have nu : RU Γ ρ2 H2 (.ins C dx (L2.putF n v vs)) (.ins c (putFD n d1 fs)) := ⟨C, dx, _, rfl, hC, rv.putF (rd1.ext x2)⟩
          exact q2 ρ2 _ σ (Ext.put hA rfl) (rs2.put hp hA rfl nu) (re2.ext (Ext.put hA rfl))
        · exact q2.elim
      · exact q2.elim
    · exact q2.elim
def sDel (fo fi : DEx) : DSt := fun env s => (fo env s).st env fun o s1 => (fi env s1).st env fun i s2 => match o with
  | .ref l => match wrD s2 l, keyD i with
    | some kvs, some k => if (valD kvs k).isSome = true then .nx env (s2.set l (.dct (dropD kvs k))) else .no
    | _, _ => .no
  | _ => .no
theorem ds_del (ho : PE X o (dE Γ W f)) (hi : PE X i (dE Γ W g)) : PS X (.Delete [.Subscript o i tpos] pos) (dS Γ W (sDel f g)) :=
  PS.weak (ps_ddel ho hi) fun E σ H ⟨ρ, env, s, re, rs, q⟩ => by
    refine ⟨ρ, env, s, re, rs, (AnsS.bind re q).mono ?_⟩
    rintro v H1 ⟨ρ1, s1, d1, x1, rs1, rd1, q1⟩
    have re1 := re.ext x1
    refine ⟨ρ1, env, s1, re1, rs1, (AnsS.bind re1 q1).mono ?_⟩
    rintro w H2 ⟨ρ2, s2, d2, x2, rs2, rd2, q2⟩
    have re2 := re1.ext x2
    split at q2
    · split at q2
      · rename_i kvs k hk hi
        split at q2
        · rename_i hl
          obtain ⟨p, vs, rfl, hp, hA, rv⟩ := rel_wrD rs2 hk (rd1.ext x2)
          refine ⟨p, vs, k, rfl, hA, key_of rd2 hi, by rw [rv.isSome]; exact hl, ?_⟩
          exact q2 ρ2 _ σ (Ext.put hA rfl) (rs2.put hp hA rfl (RU.mkD (rv.drop k))) (re2.ext (Ext.put hA rfl))
        · exact q2.elim
      · exact q2.elim
    · exact q2.elim
def eDnew : DEx := fun _ s => .ok (.ref s.length) (s ++ [.dct []])
def eDnewT : DEx := fun _ s => .ok (.ref s.length) (s ++ [.dcT []])
theorem de_dnew : PE X (.Dict [] [] pos) (dE Γ W eDnew) := PE.weak pe_dnewK fun σ H Q ⟨ρ, env, s, re, rs, q⟩ => Go.new rs (RU.mkD .nil) q
theorem de_dnewT : PE X (.Dict [] [] pos) (dE Γ W eDnewT) := PE.weak pe_dnewT fun σ H Q ⟨ρ, env, s, re, rs, q⟩ => Go.new (o := .dcT []) (u := .dT []) rs ⟨_, rfl, .nil⟩ q
end
end DL
set_option maxHeartbeats 4000000
/-! What loops walk, loops, comprehensions over the store -/
namespace DL
open PySem PySem.Spec PyProof.Rows L2 HM
/-- what is walked: its items, and what must stay so meanwhile -/
structure Src where
  items : List D
  ok : Sto → Prop
abbrev DIt := Env → Sto → Res Src
def WalkD (Γ : Wd) (J : It) (ρ0 : List Addr) (H0 : Hp) (src : Src) : Prop :=
  ∃ G Y, Walk J src.items.length G Y ∧ ∀ ρ H s, Ext ρ0 H0 ρ H → Rel Γ ρ H s → src.ok s → G H ∧ ∀ i x H' d, src.items[i]? = some d → Y i H x H' → Ext ρ H ρ H' ∧ Rel Γ ρ H' s ∧ RD Γ ρ H' x d
def AnsI (Γ : Wd) (W : WX) (σ : L2.St) (ρ : List Addr) (H : Hp) (r : Res Src) (R : It → Hp → Prop) : Prop := match r with
  | .ok src s => ∀ ρ' H' J, Ext ρ H ρ' H' → Rel Γ ρ' H' s → WalkD Γ J ρ' H' src → R J H'
  | .ex x s => ∀ ρ' H' c d, Ext ρ H ρ' H' → Rel Γ ρ' H' s → RX Γ ρ' H' c d x → W c d σ H'
  | .no => False
def dI (Γ : Wd) (W : WX) (f : DIt) : TI := fun σ H R => ∃ ρ env s, REnv Γ ρ H σ env ∧ Rel Γ ρ H s ∧ AnsI Γ W σ ρ H (f env s) R
theorem PI.weak {X : Cx} {tg e : Expr} {t t' : TI} (h : PI X tg e t) (f : ∀ σ H R, t' σ H R → t σ H R) : PI X tg e t' := ⟨fun pins s σ H R I q => h.run pins s σ H R I (f σ H R q)⟩
theorem PI.or {X : Cx} {tg e : Expr} {t t' : TI} (h : PI X tg e t) (h' : PI X tg e t') : PI X tg e (fun σ H R => t σ H R ∨ t' σ H R) := ⟨fun pins s σ H R I q => q.elim (h.run pins s σ H R I) (h'.run pins s σ H R I)⟩
section
variable {Γ : Wd} {ρ : List Addr} {H : Hp} {s : Sto}
theorem Ans.bindI {W : WX} {σ : L2.St} {r : Res D} {k : D → Sto → Res Src} {R : It → Hp → Prop} (h : AnsI Γ W σ ρ H (r.bind k) R) : Ans Γ W σ ρ H r (fun v H1 => ∃ ρ1 s1 d, Ext ρ H ρ1 H1 ∧ Rel Γ ρ1 H1 s1 ∧ RD Γ ρ1 H1 v d ∧ AnsI Γ W σ ρ1 H1 (k d s1) R) := by
  have up : ∀ {ρ1 : List Addr} {H1 : Hp} (q : Res Src), AnsI Γ W σ ρ H q R → Ext ρ H ρ1 H1 → AnsI Γ W σ ρ1 H1 q R := fun q h x => by
    cases q with
    | ok d s => exact fun ρ' H' v y => h ρ' H' v (x.trans y)
    | ex e s => exact fun ρ' H' c d y => h ρ' H' c d (x.trans y)
    | no => exact h
  cases r with
  | ok d s => exact fun ρ' H' v x rs rd => ⟨ρ', s, d, x, rs, rd, up _ h x⟩
  | ex e s => exact h
  | no => exact h
theorem AnsA.bindI {W : WX} {σ : L2.St} {r : Res (List D)} {k : List D → Sto → Res Src} {R : It → Hp → Prop} (h : AnsI Γ W σ ρ H (r.bind k) R) : AnsA Γ W σ ρ H r (fun v H1 => ∃ ρ1 s1 d, Ext ρ H ρ1 H1 ∧ Rel Γ ρ1 H1 s1 ∧ RDs Γ ρ1 H1 v d ∧ AnsI Γ W σ ρ1 H1 (k d s1) R) := by
  have up : ∀ {ρ1 : List Addr} {H1 : Hp} (q : Res Src), AnsI Γ W σ ρ H q R → Ext ρ H ρ1 H1 → AnsI Γ W σ ρ1 H1 q R := fun q h x => by
    cases q with
    | ok d s => exact fun ρ' H' v y => h ρ' H' v (x.trans y)
    | ex e s => exact fun ρ' H' c d y => h ρ' H' c d (x.trans y)
    | no => exact h
  cases r with
  | ok d s => exact fun ρ' H' v x rs rd => ⟨ρ', s, d, x, rs, rd, up _ h x⟩
  | ex e s => exact h
  | no => exact h
/-! ### the sources -/
theorem walkD_list {i : Nat} {a : Addr} {vs : List V} {xs : List D} (ha : ρ[i]? = some a) (rv : RDs Γ ρ H vs xs) : WalkD Γ (Itl Γ.K a) ρ H ⟨xs, fun s => rdL s i = some xs⟩ := by
  refine ⟨fun H => ∃ ws, SqL Γ.K H a ws ∧ ws.length = xs.length, fun j H x H' => H' = H ∧ ∀ ws, SqL Γ.K H a ws → ws[j]? = some x, ⟨fun j H hj ⟨ws, q, l⟩ => ⟨ws, ws[j], q, by simp [show j < ws.length by rw [l]; exact hj]⟩, fun H ⟨ws, q, l⟩ => ⟨ws, q, by rw [l]; exact Nat.le_refl _⟩, fun j H x H' hj ⟨ws, q, l⟩ y => y⟩, ?_⟩
  intro ρ' H' s x rs ok
  obtain ⟨b, ws, eb, hb, h1, rw'⟩ := rel_rdL rs ok (v := .ref a) (.ref (x.at ha))
  cases eb
  refine ⟨⟨ws, .inl h1, rw'.length⟩, fun j y H2 d hd ⟨e, hy⟩ => ?_⟩
  subst e
  obtain ⟨w, h2, h3⟩ := rw'.get hd
  have := hy ws (.inl h1)
  rw [h2] at this
  cases this
  exact ⟨Ext.refl _ _, rs, h3⟩
theorem walkD_tup {a : Addr} {vs : List V} {xs : List D} (ha : H a = some (.tup vs)) (rv : RDs Γ ρ H vs xs) : WalkD Γ (Itt Γ.K a) ρ H ⟨xs, fun _ => True⟩ := by
  refine ⟨fun H => SqT Γ.K H a vs, YAt vs, by rw [← rv.length]; exact walk_tup, ?_⟩
  intro ρ' H' s x rs _
  refine ⟨SqT.of (x.tup _ _ ha), fun j y H2 d hd ⟨e, hy⟩ => ?_⟩
  subst e
  obtain ⟨w, h2, h3⟩ := rv.get hd
  rw [h2] at hy
  cases hy
  exact ⟨Ext.refl _ _, rs, h3.ext x⟩
theorem walkD_range (lo : Int) (n : Nat) : WalkD Γ (Itr lo n) ρ H ⟨(List.range n).map fun i => .int (lo + (i : Nat)), fun _ => True⟩ := by
  refine ⟨fun _ => True, YFn fun i => .int (lo + (i : Nat)), by rw [List.length_map, List.length_range]; exact walk_range, ?_⟩
  intro ρ' H' s x rs _
  refine ⟨trivial, fun j y H2 d hd ⟨e, hy⟩ => ?_⟩
  subst e hy
  rw [List.getElem?_map] at hd
  cases hr : (List.range n)[j]? with
  | none => rw [hr] at hd; cases hd
  | some k =>
    rw [hr] at hd
    cases hd
    have : k = j := by
      rw [List.getElem?_range] at hr
      · cases hr; rfl
      · have := (List.getElem?_eq_some_iff.mp hr).1
        rw [List.length_range] at this
        exact this
    subst this
    exact ⟨Ext.refl _ _, rs, .int _⟩
theorem pairY {ρ' : List Addr} {H' : Hp} {s' : Sto} {xs ys : Nat → Option V} {j : Nat} {y : V} {H2 : Hp} {d e : D} (rs : Rel Γ ρ' H' s') (h : YPair xs ys j H' y H2) (hx : ∀ v, xs j = some v → RD Γ ρ' H' v d) (hy : ∀ v, ys j = some v → RD Γ ρ' H' v e) :
    Ext ρ' H' ρ' H2 ∧ Rel Γ ρ' H2 s' ∧ RD Γ ρ' H2 y (.tup [d, e]) := by
  obtain ⟨T, x, z, rfl, hT, rfl, h1, h2⟩ := h
  have x2 : Ext ρ' H' ρ' (upd H' T (.tup [x, z])) := Ext.new hT (List.prefix_refl _)
  exact ⟨x2, rs.side hT, .tup upd_same (.cons ((hx _ h1).ext x2) (.cons ((hy _ h2).ext x2) .nil))⟩
def enumD (xs : List D) : List D := (List.range xs.length).zipWith (fun i x => .tup [.int (i : Nat), x]) xs
theorem enumD_get {xs : List D} {j : Nat} {d : D} (h : (enumD xs)[j]? = some d) : ∃ x, xs[j]? = some x ∧ d = .tup [.int (j : Nat), x] := by
  unfold enumD at h
  rw [List.getElem?_zipWith] at h
  cases h1 : (List.range xs.length)[j]? with
  | none => rw [h1] at h; cases h
  | some k =>
    cases h2 : xs[j]? with
    | none => rw [h1, h2] at h; cases h
    | some x =>
      rw [h1, h2] at h
      cases h
      have : k = j := by
        have hl : j < xs.length := (List.getElem?_eq_some_iff.mp h2).1
        rw [List.getElem?_range hl] at h1
        cases h1
        rfl
      subst this
      exact ⟨x, rfl, rfl⟩
theorem enumD_len (xs : List D) : (enumD xs).length = xs.length := by
  unfold enumD
  rw [List.length_zipWith, List.length_range, Nat.min_self]
theorem walkD_enumT {a : Addr} {vs : List V} {xs : List D} (ha : H a = some (.tup vs)) (rv : RDs Γ ρ H vs xs) : WalkD Γ (XEn.IteT Γ.K a) ρ H ⟨enumD xs, fun _ => True⟩ := by
  refine ⟨fun H => SqT Γ.K H a vs, YPair (fun i => some (.int (i : Nat))) (fun i => vs[i]?), by show Walk _ (enumD xs).length _ _; rw [enumD_len, ← rv.length]; exact XEn.walk_enumT, ?_⟩
  intro ρ' H' s x rs _
  refine ⟨SqT.of (x.tup _ _ ha), fun j y H2 d hd hy => ?_⟩
  obtain ⟨x1, h1, rfl⟩ := enumD_get hd
  obtain ⟨w, h2, h3⟩ := rv.get h1
  refine pairY rs hy (fun v e => by cases e; exact .int _) fun v e => ?_
  rw [h2] at e
  cases e
  exact h3.ext x
theorem walkD_enumL {i : Nat} {a : Addr} {vs : List V} {xs : List D} (ha : ρ[i]? = some a) (rv : RDs Γ ρ H vs xs) : WalkD Γ (Ite Γ.K a) ρ H ⟨enumD xs, fun s => rdL s i = some xs⟩ := by
  refine ⟨fun H => ∃ ws, SqL Γ.K H a ws ∧ ws.length = xs.length, fun j H v H' => ∃ T x, v = .ref T ∧ H T = none ∧ H' = upd H T (.tup [.int (j : Nat), x]) ∧ ∀ xs, SqL Γ.K H a xs → xs[j]? = some x, ⟨fun j H hj ⟨ws, q, l⟩ => ?_, fun H ⟨ws, q, l⟩ => ⟨ws, q, ?_⟩, fun j H x H' hj ⟨ws, q, l⟩ y => y⟩, ?_⟩
  · have hj2 : j < ws.length := by
      rw [l, ← enumD_len]
      exact hj
    exact ⟨ws, ws[j], q, by simp [hj2]⟩
  · show ws.length ≤ (enumD xs).length
    rw [enumD_len, l]
    exact Nat.le_refl _
  intro ρ' H' s x rs ok
  obtain ⟨b, ws, eb, hb, h1, rw'⟩ := rel_rdL rs ok (v := .ref a) (.ref (x.at ha))
  cases eb
  refine ⟨⟨ws, .inl h1, rw'.length⟩, fun j y H2 d hd ⟨T, z, e1, e2, e3, e4⟩ => ?_⟩
  obtain ⟨x1, h2, rfl⟩ := enumD_get hd
  obtain ⟨w, h3, h4⟩ := rw'.get h2
  have := e4 ws (.inl h1)
  rw [h3] at this
  cases this
  exact pairY (xs := fun i => some (.int (i : Nat))) (ys := fun i => ws[i]?) rs ⟨T, _, _, e1, e2, e3, rfl, h3⟩ (fun v e => by cases e; exact .int _) fun v e => by
    rw [h3] at e
    cases e
    exact h4
def zipD (xs ys : List D) : List D := xs.zipWith (fun x y => .tup [x, y]) ys
theorem zipD_get {xs ys : List D} {j : Nat} {d : D} (h : (zipD xs ys)[j]? = some d) : ∃ x y, xs[j]? = some x ∧ ys[j]? = some y ∧ d = .tup [x, y] := by
  unfold zipD at h
  rw [List.getElem?_zipWith] at h
  cases h1 : xs[j]? with
  | none => rw [h1] at h; cases h
  | some x =>
    cases h2 : ys[j]? with
    | none => rw [h1, h2] at h; cases h
    | some y =>
      rw [h1, h2] at h
      cases h
      exact ⟨x, y, rfl, rfl, rfl⟩
theorem walkD_zipT {a b : Addr} {vs ws : List V} {xs ys : List D} (ha : H a = some (.tup vs)) (rv : RDs Γ ρ H vs xs) (hb : SqT Γ.K (fun _ => none) b ws ∨ H b = some (.tup ws)) (rw' : RDs Γ ρ H ws ys) : WalkD Γ (RZ.ItzT Γ.K a b) ρ H ⟨zipD xs ys, fun _ => True⟩ := by
  refine ⟨fun H => SqT Γ.K H a vs ∧ SqT Γ.K H b ws, YPair (fun i => vs[i]?) (fun i => ws[i]?), XD.walk_zipT (by show (zipD xs ys).length = _; unfold zipD; rw [List.length_zipWith, rv.length, rw'.length]), ?_⟩
  intro ρ' H' s x rs _
  refine ⟨⟨SqT.of (x.tup _ _ ha), ?_⟩, fun j y H2 d hd hy => ?_⟩
  · rcases hb with hb | hb
    · exact KTup.sq hb
    · exact SqT.of (x.tup _ _ hb)
  · obtain ⟨x1, y1, h1, h2, rfl⟩ := zipD_get hd
    obtain ⟨v1, g1, g2⟩ := rv.get h1
    obtain ⟨w1, g3, g4⟩ := rw'.get h2
    refine pairY rs hy (fun v e => ?_) fun v e => ?_
    · rw [g1] at e; cases e; exact g2.ext x
    · rw [g3] at e; cases e; exact g4.ext x
theorem frz_of {i : Nat} {a : Addr} {kvs : List (Key × D)} (r : Rel Γ ρ H s) (ha : ρ[i]? = some a) (hs : s[i]? = some (.frz (.dct kvs))) : ∃ od vs, H a = some (.frz od (.dK vs)) ∧ RKs Γ ρ H vs kvs := by
  obtain ⟨u, hu, od, u', rfl, vs, rfl, rv⟩ := r.at ha hs
  exact ⟨od, vs, hu, rv⟩
theorem walkD_keys {a : Addr} {od : Obj} {vs : List (Key × V)} {kvs : List (Key × D)} (ha : H a = some (.frz od (.dK vs))) (rv : RKs Γ ρ H vs kvs) : WalkD Γ (Itk a od vs) ρ H ⟨keysD kvs, fun _ => True⟩ := by
  refine ⟨_, _, by show Walk _ (keysD kvs).length _ _; unfold keysD; rw [List.length_map, ← rv.length]; exact walk_keys, ?_⟩
  intro ρ' H' s x rs _
  refine ⟨x.frz _ _ _ ha, fun j y H2 d hd ⟨e, k, v, h1, h2⟩ => ?_⟩
  subst e h2
  unfold keysD at hd
  rw [List.getElem?_map] at hd
  cases hk : kvs[j]? with
  | none => rw [hk] at hd; cases hd
  | some kv =>
    rw [hk] at hd
    cases hd
    obtain ⟨v', g1, _⟩ := rv.get (k := kv.1) (d := kv.2) hk
    rw [h1] at g1
    cases g1
    exact ⟨Ext.refl _ _, rs, key_rd _⟩
theorem walkD_vals {a : Addr} {od : Obj} {vs : List (Key × V)} {kvs : List (Key × D)} (ha : H a = some (.frz od (.dK vs))) (rv : RKs Γ ρ H vs kvs) : WalkD Γ (Itd a od vs) ρ H ⟨kvs.map (·.2), fun _ => True⟩ := by
  refine ⟨_, _, by show Walk _ (kvs.map (·.2)).length _ _; rw [List.length_map, ← rv.length]; exact walk_values, ?_⟩
  intro ρ' H' s x rs _
  refine ⟨x.frz _ _ _ ha, fun j y H2 d hd ⟨e, k, h1⟩ => ?_⟩
  subst e
  rw [List.getElem?_map] at hd
  cases hk : kvs[j]? with
  | none => rw [hk] at hd; cases hd
  | some kv =>
    rw [hk] at hd
    cases hd
    obtain ⟨v', g1, g2⟩ := rv.get (k := kv.1) (d := kv.2) hk
    rw [h1] at g1
    cases g1
    exact ⟨Ext.refl _ _, rs, g2.ext x⟩
def itemsD (kvs : List (Key × D)) : List D := kvs.map fun kv => .tup [dK kv.1, kv.2]
theorem walkD_items {a : Addr} {od : Obj} {vs : List (Key × V)} {kvs : List (Key × D)} (ha : H a = some (.frz od (.dK vs))) (rv : RKs Γ ρ H vs kvs) : WalkD Γ (Iti a od vs) ρ H ⟨itemsD kvs, fun _ => True⟩ := by
  refine ⟨_, _, by show Walk _ (itemsD kvs).length _ _; unfold itemsD; rw [List.length_map, ← rv.length]; exact walk_items, ?_⟩
  intro ρ' H' s x rs _
  refine ⟨x.frz _ _ _ ha, fun j y H2 d hd hy => ?_⟩
  unfold itemsD at hd
  rw [List.getElem?_map] at hd
  cases hk : kvs[j]? with
  | none => rw [hk] at hd; cases hd
  | some kv =>
    rw [hk] at hd
    cases hd
    obtain ⟨v', g1, g2⟩ := rv.get (k := kv.1) (d := kv.2) hk
    refine pairY rs hy (fun v e => ?_) fun v e => ?_
    · rw [g1] at e; cases e; exact key_rd _
    · rw [g1] at e; cases e; exact g2.ext x
def charsD (z : Str) : List D := z.cps.toList.map fun c => .str ⟨#[c]⟩
theorem walkD_str (z : Str) : WalkD Γ (Its z) ρ H ⟨charsD z, fun _ => True⟩ := by
  refine ⟨_, _, by show Walk _ (charsD z).length _ _; unfold charsD; rw [List.length_map, Array.length_toList]; exact walk_str, ?_⟩
  intro ρ' H' s x rs _
  refine ⟨trivial, fun j y H2 d hd ⟨e, c, h1, h2⟩ => ?_⟩
  subst e h2
  unfold charsD at hd
  rw [List.getElem?_map, Array.getElem?_toList, h1] at hd
  cases hd
  exact ⟨Ext.refl _ _, rs, .str _⟩
end
/-! ### expressions that are walked -/
/-- a thing as it is walked: a list, a tuple, a dict that is locked, a text -/
def srcD (s : Sto) : D → Option Src
  | .tup xs => some ⟨xs, fun _ => True⟩
  | .str z => some ⟨charsD z, fun _ => True⟩
  | .ref i => match s[i]? with
    | some (.lst xs) => some ⟨xs, fun s => rdL s i = some xs⟩
    | some (.frz (.lst xs)) => some ⟨xs, fun s => rdL s i = some xs⟩
    | some (.frz (.dct kvs)) => some ⟨keysD kvs, fun _ => True⟩
    | _ => none
  | _ => none
def iE (f : DEx) : DIt := fun env s => (f env s).bind fun x s1 => match srcD s1 x with
  | some src => .ok src s1
  | none => .no
section
variable {X : Cx} {Γ : Wd} {W : WX} {tg a b e : Expr} {f g : DEx} {pos p p2 apos cpos tpos : Pos} {t : DAr} {es : List Expr} {elts : List Expr} {kk : Nat}
/-- by the value that is walked -/
theorem di_E (hK : X.K = Γ.K) (ha : PE X a (dE Γ W f)) : PI X tg a (dI Γ W (iE f)) := by
  have h1 := pi_list (tg := tg) ha
  have h2 := pi_tup (tg := tg) ha
  have h3 := pi_keys (tg := tg) ha
  have h4 := pi_str (tg := tg) ha
  rw [hK] at h1 h2
  refine PI.weak (PI.or h1 (PI.or h2 (PI.or h3 h4))) fun σ H R ⟨ρ, env, s, re, rs, q⟩ => ?_
  cases hf : f env s with
  | no =>
    refine .inl ⟨ρ, env, s, re, rs, ?_⟩
    unfold iE at q
    rw [hf] at q
    exact q.elim
  | ex x s1 =>
    refine .inl ⟨ρ, env, s, re, rs, ?_⟩
    unfold iE at q
    rw [hf] at q ⊢
    exact q
  | ok x s1 =>
    unfold iE at q
    rw [hf, Res.bind_ok] at q
    split at q
    · rename_i src hs
      unfold srcD at hs
      split at hs
      · cases hs
        refine .inr (.inl ⟨ρ, env, s, re, rs, ?_⟩)
        rw [hf]
        intro ρ' H' v x1 rs1 rd1
        obtain ⟨a', vs, rfl, ha', rv⟩ := get_tup rd1
        exact ⟨a', rfl, ⟨vs, SqT.of ha'⟩, q ρ' H' _ x1 rs1 (walkD_tup ha' rv)⟩
      · cases hs
        refine .inr (.inr (.inr ⟨ρ, env, s, re, rs, ?_⟩))
        rw [hf]
        intro ρ' H' v x1 rs1 rd1
        exact ⟨_, get_str rd1, q ρ' H' _ x1 rs1 (walkD_str _)⟩
      · split at hs
        · rename_i i xs hi
          cases hs
          refine .inl ⟨ρ, env, s, re, rs, ?_⟩
          rw [hf]
          intro ρ' H' v x1 rs1 rd1
          obtain ⟨a', vs, rfl, ha', h5, rv⟩ := rel_rdL rs1 (show rdL s1 _ = some xs by unfold rdL; rw [hi]) rd1
          exact ⟨a', rfl, ⟨vs, .inl h5⟩, q ρ' H' _ x1 rs1 (walkD_list ha' rv)⟩
        · rename_i i xs hi
          cases hs
          refine .inl ⟨ρ, env, s, re, rs, ?_⟩
          rw [hf]
          intro ρ' H' v x1 rs1 rd1
          obtain ⟨a', vs, rfl, ha', h5, rv⟩ := rel_rdL rs1 (show rdL s1 _ = some xs by unfold rdL; rw [hi]) rd1
          exact ⟨a', rfl, ⟨vs, .inl h5⟩, q ρ' H' _ x1 rs1 (walkD_list ha' rv)⟩
        · rename_i i kvs hi
          cases hs
          refine .inr (.inr (.inl ⟨ρ, env, s, re, rs, ?_⟩))
          rw [hf]
          intro ρ' H' v x1 rs1 rd1
          obtain ⟨a', rfl, ha'⟩ := get_ref rd1
          obtain ⟨od, vs, h5, rv⟩ := frz_of rs1 ha' hi
          exact ⟨a', od, rfl, .inl ⟨vs, h5, q ρ' H' _ x1 rs1 (walkD_keys h5 rv)⟩⟩
        · cases hs
      · cases hs
    · exact q.elim
def iRange1 (f : DEx) : DIt := fun env s => (f env s).bind fun x s1 => match x with
  | .int j => if -(2 ^ 62) ≤ j ∧ j < 2 ^ 62 then .ok ⟨(List.range j.toNat).map fun i => .int ((0 : Int) + (i : Nat)), fun _ => True⟩ s1 else .no
  | _ => .no
theorem di_range1 (hg : Gl X "range") (hm : X.mg "range" = none) (ha : PE X a (dE Γ W f)) (hs : starEach [a] X.env = [(false, eval a X.env)] := by rfl) (hs2 : starEach [a] X.env = (false, eval a X.env) :: starEach [] X.env := by rfl) : PI X tg (.Call (.Name "range" p) [a] [] pos) (dI Γ W (iRange1 f)) :=
  PI.weak (pi_range1 hg hm (pa_cons ha pa_nil hs2) hs) fun σ H R ⟨ρ, env, s, re, rs, q⟩ => by
    refine ⟨ρ, env, s, re, rs, (Ans.bindI q).mono ?_⟩
    rintro v H1 ⟨ρ1, s1, d1, x1, rs1, rd1, q1⟩
    split at q1
    · split at q1
      · rename_i hj
        rw [get_int rd1]
        exact ⟨_, rfl, hj.1, hj.2, q1 ρ1 H1 _ (Ext.refl _ _) rs1 (walkD_range 0 _)⟩
      · exact q1.elim
    · exact q1.elim
def iRange2 (f g : DEx) : DIt := fun env s => (f env s).bind fun x s1 => (g env s1).bind fun y s2 => match x, y with
  | .int i, .int j => if -(2 ^ 62) ≤ i ∧ i < 2 ^ 62 ∧ -(2 ^ 62) ≤ j ∧ j < 2 ^ 62 then .ok ⟨(List.range (j - i).toNat).map fun k => .int (i + (k : Nat)), fun _ => True⟩ s2 else .no
  | _, _ => .no
theorem di_range2 (hg : Gl X "range") (hm : X.mg "range" = none) (ha : PE X a (dE Γ W f)) (hb : PE X b (dE Γ W g)) (h1 : starEach [a, b] X.env = [(false, eval a X.env), (false, eval b X.env)] := by rfl) (h2 : starEach [b] X.env = [(false, eval b X.env)] := by rfl) (h3 : starEach [a, b] X.env = (false, eval a X.env) :: starEach [b] X.env := by rfl) (h4 : starEach [b] X.env = (false, eval b X.env) :: starEach [] X.env := by rfl) : PI X tg (.Call (.Name "range" p) [a, b] [] pos) (dI Γ W (iRange2 f g)) :=
  PI.weak (pi_range2 hg hm (pa_cons ha (pa_cons hb pa_nil h4) h3) h1 h2) fun σ H R ⟨ρ, env, s, re, rs, q⟩ => by
    refine ⟨ρ, env, s, re, rs, (Ans.bindI q).mono ?_⟩
    rintro v H1 ⟨ρ1, s1, d1, x1, rs1, rd1, q1⟩
    refine ⟨ρ1, env, s1, re.ext x1, rs1, (Ans.bindI q1).mono ?_⟩
    rintro w H2 ⟨ρ2, s2, d2, x2, rs2, rd2, q2⟩
    split at q2
    · split at q2
      · rename_i hj
        rw [get_int (rd1.ext x2), get_int rd2]
        exact ⟨_, _, rfl, hj, q2 ρ2 H2 _ (Ext.refl _ _) rs2 (walkD_range _ _)⟩
      · exact q2.elim
    · exact q2.elim
/-- enumerate(x), x a list or a tuple -/
def iEnum (f : DEx) : DIt := fun env s => (f env s).bind fun x s1 => match x with
  | .tup xs => .ok ⟨enumD xs, fun _ => True⟩ s1
  | .ref i => match rdL s1 i with
    | some xs => .ok ⟨enumD xs, fun s => rdL s i = some xs⟩ s1
    | none => .no
  | _ => .no
theorem di_enum (hK : X.K = Γ.K) (hg : Gl X "enumerate") (hm : X.mg "enumerate" = none) (ha : PE X a (dE Γ W f)) (hs : starEach [a] X.env = [(false, eval a X.env)] := by rfl) (hs2 : starEach [a] X.env = (false, eval a X.env) :: starEach [] X.env := by rfl) : PI X (.Tuple elts kk tpos) (.Call (.Name "enumerate" p) [a] [] pos) (dI Γ W (iEnum f)) := by
  have h1 := pi_enum (elts := elts) (kk := kk) (tpos := tpos) (p := p) (pos := pos) hg hm (pa_cons ha pa_nil hs2) hs
  have h2 := XEn.pi_enumT (elts := elts) (kk := kk) (tpos := tpos) (p := p) (pos := pos) hg hm (pa_cons ha pa_nil hs2) hs
  rw [hK] at h1 h2
  refine PI.weak (PI.or h1 h2) fun σ H R ⟨ρ, env, s, re, rs, q⟩ => ?_
  cases hf : f env s with
  | no =>
    unfold iEnum at q
    rw [hf] at q
    exact q.elim
  | ex x s1 =>
    refine .inl ⟨ρ, env, s, re, rs, ?_⟩
    unfold iEnum at q
    rw [hf] at q ⊢
    exact q
  | ok x s1 =>
    unfold iEnum at q
    rw [hf, Res.bind_ok] at q
    split at q
    · refine .inr ⟨ρ, env, s, re, rs, ?_⟩
      rw [hf]
      intro ρ' H' v x1 rs1 rd1
      obtain ⟨a', vs, rfl, ha', rv⟩ := get_tup rd1
      exact ⟨a', vs, rfl, SqT.of ha', q ρ' H' _ x1 rs1 (walkD_enumT ha' rv)⟩
    · split at q
      · rename_i xs hi
        refine .inl ⟨ρ, env, s, re, rs, ?_⟩
        rw [hf]
        intro ρ' H' v x1 rs1 rd1
        obtain ⟨a', vs, rfl, ha', h5, rv⟩ := rel_rdL rs1 hi rd1
        exact ⟨a', vs, rfl, .inl h5, q ρ' H' _ x1 rs1 (walkD_enumL ha' rv)⟩
      · exact q.elim
    · exact q.elim
/-- d.items(), d.values(), d locked -/
def iItems (f : DEx) : DIt := fun env s => (f env s).bind fun x s1 => match x with
  | .ref i => match s1[i]? with
    | some (.frz (.dct kvs)) => .ok ⟨itemsD kvs, fun _ => True⟩ s1
    | _ => .no
  | _ => .no
def iVals (f : DEx) : DIt := fun env s => (f env s).bind fun x s1 => match x with
  | .ref i => match s1[i]? with
    | some (.frz (.dct kvs)) => .ok ⟨kvs.map (·.2), fun _ => True⟩ s1
    | _ => .no
  | _ => .no
theorem di_items (ha : PE X a (dE Γ W f)) (hbase : attributeBase a "items" X.env (eval a X.env) = eval a X.env := by rfl) (hline : (apos.endLine == cpos.line) = true := by rfl) : PI X (.Tuple elts kk tpos) (.Call (.Attribute a "items" apos) [] [] cpos) (dI Γ W (iItems f)) :=
  PI.weak (pi_items ha hbase hline) fun σ H R ⟨ρ, env, s, re, rs, q⟩ => by
    refine ⟨ρ, env, s, re, rs, (Ans.bindI q).mono ?_⟩
    rintro v H1 ⟨ρ1, s1, d1, x1, rs1, rd1, q1⟩
    split at q1
    · split at q1
      · rename_i kvs hi
        obtain ⟨a', rfl, ha'⟩ := get_ref rd1
        obtain ⟨od, vs, h5, rv⟩ := frz_of rs1 ha' hi
        exact ⟨a', od, vs, rfl, h5, q1 ρ1 H1 _ (Ext.refl _ _) rs1 (walkD_items h5 rv)⟩
      · exact q1.elim
    · exact q1.elim
theorem di_vals (ha : PE X a (dE Γ W f)) (hbase : attributeBase a "values" X.env (eval a X.env) = eval a X.env := by rfl) (hline : (apos.endLine == cpos.line) = true := by rfl) : PI X tg (.Call (.Attribute a "values" apos) [] [] cpos) (dI Γ W (iVals f)) :=
  PI.weak (pi_values ha hbase hline) fun σ H R ⟨ρ, env, s, re, rs, q⟩ => by
    refine ⟨ρ, env, s, re, rs, (Ans.bindI q).mono ?_⟩
    rintro v H1 ⟨ρ1, s1, d1, x1, rs1, rd1, q1⟩
    split at q1
    · split at q1
      · rename_i kvs hi
        obtain ⟨a', rfl, ha'⟩ := get_ref rd1
        obtain ⟨od, vs, h5, rv⟩ := frz_of rs1 ha' hi
        exact ⟨a', od, vs, rfl, h5, q1 ρ1 H1 _ (Ext.refl _ _) rs1 (walkD_vals h5 rv)⟩
      · exact q1.elim
    · exact q1.elim
end
end DL
set_option maxHeartbeats 4000000
/-! Loops, locks, comprehensions over the store -/
namespace DL
open PySem PySem.Spec PyProof.Rows L2 HM
abbrev wNo : WX := fun _ _ _ _ => False
open Classical in
noncomputable def forL (t : Tg) (body : DSt) (ok : Sto → Prop) : List D → Env → Sto → SR
  | [], env, s => if ok s then .nx env s else .no
  | x :: r, env, s => if ok s then match asg t x env with
      | some env1 => match body env1 s with
        | .nx e s' => forL t body ok r e s'
        | .ct e s' => forL t body ok r e s'
        | .bk e s' => .nx e s'
        | q => q
      | none => .no
    else .no
noncomputable def sFor (t : Tg) (f : DIt) (body : DSt) : DSt := fun env s => (f env s).st env fun src s1 => forL t body src.ok src.items env s1
theorem AnsS.bindI {Γ : Wd} {W : WX} {σ : L2.St} {ρ : List Addr} {H : Hp} {env : Env} {E : Ends} {r : Res Src} {k : Src → Sto → SR} {R : It → Hp → Prop} (re : REnv Γ ρ H σ env) (h : AnsS Γ W ρ H (r.st env k) E)
    (q : ∀ src s1 ρ1 H1 J, Ext ρ H ρ1 H1 → Rel Γ ρ1 H1 s1 → WalkD Γ J ρ1 H1 src → AnsS Γ W ρ1 H1 (k src s1) E → R J H1) : AnsI Γ W σ ρ H r R := by
  cases r with
  | ok d s => exact fun ρ' H' J x rs wd => q d s ρ' H' J x rs wd (AnsS.ext (r := k d s) h x)
  | ex e s => exact fun ρ' H' c d x rs rx => h ρ' H' σ c d x rs (re.ext x) rx
  | no => exact h
theorem Ans.bindIt {Γ : Wd} {W : WX} {σ : L2.St} {ρ : List Addr} {H : Hp} {Q : VK} {r : Res Src} {k : Src → Sto → Res D} {R : It → Hp → Prop} (h : Ans Γ W σ ρ H (r.bind k) Q)
    (q : ∀ src s1 ρ1 H1 J, Ext ρ H ρ1 H1 → Rel Γ ρ1 H1 s1 → WalkD Γ J ρ1 H1 src → Ans Γ W σ ρ1 H1 (k src s1) Q → R J H1) : AnsI Γ W σ ρ H r R := by
  cases r with
  | ok d s => exact fun ρ' H' J x rs wd => q d s ρ' H' J x rs wd (Ans.ext (r := k d s) h x)
  | ex e s => exact h
  | no => exact h
theorem drop_cons {α : Type} {xs : List α} {i : Nat} (h : i < xs.length) : ∃ d, xs[i]? = some d ∧ xs.drop i = d :: xs.drop (i + 1) := ⟨xs[i], by simp [h], by rw [List.drop_eq_getElem_cons h]⟩
theorem forL_ok {Γ : Wd} {W : WX} {ρ : List Addr} {H : Hp} {t : Tg} {body : DSt} {ok : Sto → Prop} {ds : List D} {env : Env} {s : Sto} {E : Ends} (h : AnsS Γ W ρ H (forL t body ok ds env s) E) : ok s := by
  cases ds with
  | nil =>
    rw [forL] at h
    split at h
    · assumption
    · exact h.elim
  | cons d ds =>
    rw [forL] at h
    split at h
    · assumption
    · exact h.elim
section
variable {X : Cx} {Γ : Wd} {W : WX} {tg iter a b e c : Expr} {f g : DEx} {u : DTe} {j k : DSt} {pos p p2 apos cpos tpos spos py : Pos} {it : DIt} {sts : List Stmt} {t : Tg}
theorem ds_for (hK : X.K = Γ.K) (hp : PassesOwn (model X.prog X.w) X.A X.env X.xe) (hc : X.calm = true) (hi : PI X tg iter (dI Γ W it)) (hg : PG X tg (gOf X.K t)) (hb : PSs X sts (dS Γ W j))
    (hs : ∀ x, foldedSetIterable iter X.env x = pure x := by intro _; rfl) (hh : ((slots t).all fun i => Γ.hs.all fun p => p.1 != i) = true := by rfl) : PS X (.For tg iter sts [] pos) (dS Γ W (sFor t it j)) := by
  rw [hK] at hg
  refine PS.weak (ps_for hp hc hi hg hb hs) fun E σ H ⟨ρ, env, s, re, rs, q⟩ => ?_
  refine ⟨ρ, env, s, re, rs, AnsS.bindI re q fun src s1 ρ1 H1 J x1 rs1 wd q1 => ?_⟩
  obtain ⟨G, Y, w, hw⟩ := wd
  refine for_it w (fun i σ H => ∃ ρ2 env s2, Ext ρ1 H1 ρ2 H ∧ REnv Γ ρ2 H σ env ∧ Rel Γ ρ2 H s2 ∧ AnsS Γ W ρ2 H (forL t j src.ok (src.items.drop i) env s2) E) ⟨ρ1, env, s1, Ext.refl _ _, re.ext x1, rs1, by rw [List.drop_zero]; exact q1⟩ (fun i σ H hi ⟨ρ2, env2, s2, x2, re2, rs2, q2⟩ => (hw ρ2 H s2 x2 rs2 (forL_ok q2)).1) ?_ ?_
  · rintro i x σ2 H2 H3 hi ⟨ρ2, env2, s2, x2, re2, rs2, q2⟩ hy
    have hok := forL_ok q2
    obtain ⟨d, hd, e⟩ := drop_cons hi
    rw [e, forL, if_pos hok] at q2
    obtain ⟨x3, rs3, rd3⟩ := (hw ρ2 H2 s2 x2 rs2 hok).2 i x H3 d hd hy
    have re3 := re2.ext x3
    have q3 := AnsS.ext q2 x3
    cases ha : asg t d env2 with
    | none =>
      rw [ha] at q3
      exact q3.elim
    | some env3 =>
      rw [ha] at q3
      refine gOf_ok t hh re3 rd3 ha fun σ4 re4 _ => ⟨ρ2, env3, s2, re4, rs3, ?_⟩
      simp only at q3
      cases hj : j env3 s2 with
      | nx e' s' =>
        rw [hj] at q3
        exact fun ρ' H' σ' y rs' re' => ⟨ρ', e', s', (x2.trans x3).trans y, re', rs', AnsS.ext q3 y⟩
      | ct e' s' =>
        rw [hj] at q3
        exact fun ρ' H' σ' y rs' re' => ⟨ρ', e', s', (x2.trans x3).trans y, re', rs', AnsS.ext q3 y⟩
      | bk e' s' => rw [hj] at q3; exact q3
      | rt d' s' => rw [hj] at q3; exact q3
      | ex y e' s' => rw [hj] at q3; exact q3
      | no => rw [hj] at q3; exact q3
  · rintro σ2 H2 ⟨ρ2, env2, s2, x2, re2, rs2, q2⟩
    have hok := forL_ok q2
    rw [List.drop_length, forL, if_pos hok] at q2
    exact q2 ρ2 H2 σ2 (Ext.refl _ _) rs2 re2
/-! ### while -/
noncomputable def whileF (u : DTe) (body : DSt) : Nat → Env → Sto → SR
  | 0, _, _ => .no
  | n + 1, env, s => (u env s).st env fun b s1 => if b = true then match body env s1 with
      | .nx e s' => whileF u body n e s'
      | .ct e s' => whileF u body n e s'
      | .bk e s' => .nx e s'
      | q => q
    else .nx env s1
open Classical in
noncomputable def sWhile (u : DTe) (body : DSt) : DSt := fun env s => if h : ∃ n, whileF u body n env s ≠ .no then whileF u body h.choose env s else .no
theorem whileF_mono {u : DTe} {body : DSt} : ∀ {n : Nat} {env : Env} {s : Sto}, whileF u body n env s ≠ .no → whileF u body (n + 1) env s = whileF u body n env s
  | 0, _, _, h => absurd rfl h
  | n + 1, env, s, h => by
    rw [whileF] at h
    rw [whileF, whileF]
    cases hu : u env s with
    | no => rfl
    | ex x s1 => rfl
    | ok b s1 =>
      rw [hu] at h
      simp only [Res.st_ok] at h ⊢
      cases b with
      | false => rfl
      | true =>
        simp only [if_true] at h ⊢
        cases hb : body env s1 with
        | nx e s' =>
          rw [hb] at h
          exact whileF_mono h
        | ct e s' =>
          rw [hb] at h
          exact whileF_mono h
        | bk e s' => rfl
        | rt d s' => rfl
        | ex y e s' => rfl
        | no => rfl
theorem whileF_le {u : DTe} {body : DSt} {n m : Nat} {env : Env} {s : Sto} (h : whileF u body n env s ≠ .no) (hm : n ≤ m) : whileF u body m env s = whileF u body n env s := by
  induction hm with
  | refl => rfl
  | @step m' hm ih => rw [whileF_mono (by rw [ih]; exact h), ih]
theorem sWhile_eq {u : DTe} {body : DSt} {n : Nat} {env : Env} {s : Sto} (h : whileF u body n env s ≠ .no) : sWhile u body env s = whileF u body n env s := by
  unfold sWhile
  have hex : ∃ n, whileF u body n env s ≠ .no := ⟨n, h⟩
  rw [dif_pos hex]
  rcases Nat.le_total n hex.choose with hl | hl
  · exact whileF_le h hl
  · exact (whileF_le hex.choose_spec hl).symm
theorem ds_while (hp : PassesOwn (model X.prog X.w) X.A X.env X.xe) (hc : PT X c (dT Γ W u)) (hb : PSs X sts (dS Γ W j)) : PS X (.While c sts [] pos) (dS Γ W (sWhile u j)) :=
  PS.weak (ps_while hp hc hb) fun E σ H ⟨ρ, env, s, re, rs, q⟩ => by
    unfold sWhile at q
    split at q
    · rename_i hex
      obtain ⟨n, hn⟩ : ∃ n, n = hex.choose := ⟨_, rfl⟩
      rw [← hn] at q
      clear hn
      refine ⟨fun m σ H => ∃ ρ env s, REnv Γ ρ H σ env ∧ Rel Γ ρ H s ∧ AnsS Γ W ρ H (whileF u j m env s) E, ⟨n, ρ, env, s, re, rs, q⟩, ?_⟩
      rintro m σ1 H1 ⟨ρ1, env1, s1, re1, rs1, q1⟩
      cases m with
      | zero => exact q1.elim
      | succ m =>
        rw [whileF] at q1
        refine ⟨ρ1, env1, s1, re1, rs1, (AnsS.bindB re1 q1).mono ?_⟩
        rintro b H2 ⟨ρ2, s2, x2, rs2, q2⟩
        have re2 := re1.ext x2
        cases b with
        | false => exact q2 ρ2 H2 σ1 (Ext.refl _ _) rs2 re2
        | true =>
          simp only [if_true] at q2 ⊢
          refine ⟨fun σ' H' => ∃ ρ env s, REnv Γ ρ H' σ' env ∧ Rel Γ ρ H' s ∧ AnsS Γ W ρ H' (whileF u j m env s) E, fun σ' H' h => ⟨m, Nat.lt_succ_self m, h⟩, ρ2, env1, s2, re2, rs2, ?_⟩
          cases hj : j env1 s2 with
          | nx e' s' =>
            rw [hj] at q2
            exact fun ρ' H' σ' y rs' re' => ⟨ρ', e', s', re', rs', AnsS.ext q2 y⟩
          | ct e' s' =>
            rw [hj] at q2
            exact fun ρ' H' σ' y rs' re' => ⟨ρ', e', s', re', rs', AnsS.ext q2 y⟩
          | bk e' s' => rw [hj] at q2; exact q2
          | rt d' s' => rw [hj] at q2; exact q2
          | ex y e' s' => rw [hj] at q2; exact q2
          | no => rw [hj] at q2; exact q2
    · exact q.elim
/-! ### a dict locked while it is walked -/
theorem Rel.lock {ρ : List Addr} {H : Hp} {s : Sto} (r : Rel Γ ρ H s) {i : Nat} {a : Addr} {u : HO} {o : O} (ha : ρ[i]? = some a) (h : H a = some u) (f : Free u = true) (n : RU Γ ρ H u o) (od : Obj) : Rel Γ ρ (upd H a (.frz od u)) (s.set i (.frz o)) := r.put ha h f ⟨od, u, rfl, n⟩
theorem Rel.unlock {ρ : List Addr} {H : Hp} {s : Sto} (r : Rel Γ ρ H s) {i : Nat} {a : Addr} {od : Obj} {u : HO} {o : O} (ha : ρ[i]? = some a) (h : H a = some (.frz od u)) (n : RU Γ ρ H u o) : Rel Γ ρ (upd H a u) (s.set i o) := by
  have ne : ∀ (b : Addr) (w : HO), H b = some w → (∀ o' u', w ≠ .frz o' u') → b ≠ a := fun b w e nf z => by
    rw [z, h] at e
    cases e
    exact nf _ _ rfl
  have x : Ex0 ρ H ρ (upd H a u) := ⟨List.prefix_refl ρ, fun b vs e => by rw [upd_ne (ne b _ e fun _ _ z => by cases z)]; exact e⟩
  refine ⟨by rw [List.length_set]; exact r.len, r.nd, fun m b o2 hb ho => ?_, r.tab.put h fun ps z => by cases z⟩
  by_cases hm : m = i
  · subst hm
    rw [ha] at hb
    cases hb
    have hl : m < s.length := by
      rw [← r.len]
      exact (List.getElem?_eq_some_iff.mp ha).1
    rw [List.getElem?_set_self hl] at ho
    cases ho
    exact ⟨u, upd_same, RU.ext0 x _ n⟩
  · rw [List.getElem?_set_ne (Ne.symm hm)] at ho
    obtain ⟨w, e, q⟩ := r.obj m b o2 hb ho
    refine ⟨w, ?_, RU.ext0 x _ q⟩
    rw [upd_ne (fun z => hm (by
      subst z
      exact (List.getElem?_inj (List.getElem?_eq_some_iff.mp hb).1 r.nd).mp (hb.trans ha.symm)))]
    exact e
theorem Ext.unlock {ρ ρ' : List Addr} {H H' : Hp} {a : Addr} {od : Obj} {u : HO} (h : H a = some u) (f : Free u = true) (x : Ext ρ (upd H a (.frz od u)) ρ' H') : Ext ρ H ρ' (upd H' a u) := by
  have ne : ∀ (b : Addr) (w : HO), H b = some w → Free w = false → b ≠ a := fun b w e n z => by
    rw [z, h] at e
    cases e
    rw [f] at n
    cases n
  have st : ∀ (b : Addr) (w : HO), H b = some w → Free w = false → (upd H a (.frz od u)) b = some w := fun b w e n => by
    rw [upd_ne (ne b w e n)]
    exact e
  exact ⟨x.pre, fun b vs e => by rw [upd_ne (ne b _ e rfl)]; exact x.tup _ _ (st b _ e rfl), fun b o w e => by rw [upd_ne (ne b _ e rfl)]; exact x.frz _ _ _ (st b _ e rfl), fun b w e => by rw [upd_ne (ne b _ e rfl)]; exact x.xd _ _ (st b _ e rfl)⟩
def eLock (fi f : DEx) : DEx := fun env s => match fi env s with
  | .ok (.ref i) _ => match s[i]? with
    | some (.dct kvs) => match f env (s.set i (.frz (.dct kvs))) with
      | .ok d s' => .ok d (s'.set i (.dct kvs))
      | _ => .no
    | _ => f env s
  | _ => f env s
def sLock (fi : DEx) (f : DSt) : DSt := fun env s => match fi env s with
  | .ok (.ref i) _ => match s[i]? with
    | some (.dct kvs) => match f env (s.set i (.frz (.dct kvs))) with
      | .nx e s' => .nx e (s'.set i (.dct kvs))
      | .rt d s' => .rt d (s'.set i (.dct kvs))
      | .bk e s' => .bk e (s'.set i (.dct kvs))
      | .ct e s' => .ct e (s'.set i (.dct kvs))
      | _ => .no
    | _ => f env s
  | _ => f env s
theorem de_lock (fi : DEx) (h : PE X e (dE Γ W f)) : PE X e (dE Γ W (eLock fi f)) :=
  PE.weak (PE.or h (pe_lock h)) fun σ H Q ⟨ρ, env, s, re, rs, q⟩ => by
    unfold eLock at q
    split at q
    · rename_i i s0 hfi
      split at q
      · rename_i kvs hs
        obtain ⟨a', u', ha', hu', n⟩ := rs.get hs
        have n' := n
        obtain ⟨vs, rfl, rv⟩ := n'
        refine .inr ⟨a', _, hu', trivial, fun od => ⟨ρ, env, _, re.ext (Ext.put hu' rfl), rs.lock ha' hu' rfl n od, ?_⟩⟩
        cases hf : f env (s.set i (.frz (.dct kvs))) with
        | no => rw [hf] at q; exact q.elim
        | ex y s' => rw [hf] at q; exact q.elim
        | ok d s' =>
          rw [hf] at q
          intro ρ' H' v x rs' rd
          have hfz := x.frz a' od (.dK vs) upd_same
          have xu := Ext.unlock hu' rfl x
          have x0 : Ex0 ρ' H' ρ' (upd H' a' (.dK vs)) := ⟨List.prefix_refl _, fun b ws e => by
            rw [upd_ne (fun z => by rw [z, hfz] at e; cases e)]
            exact e⟩
          have n2 : RU Γ ρ' H' (.dK vs) (.dct kvs) := RU.ext x (.dct kvs) (RU.ext (Ext.put hu' rfl) (.dct kvs) n)
          exact ⟨hfz, q ρ' _ v xu (rs'.unlock (x.at ha') hfz n2) (rd.ext0 x0)⟩
      · exact .inl ⟨ρ, env, s, re, rs, q⟩
    · exact .inl ⟨ρ, env, s, re, rs, q⟩
theorem ds_lock {st : Stmt} (fi : DEx) (h : PS X st (dS Γ W j)) : PS X st (dS Γ W (sLock fi j)) :=
  PS.weak (PS.or h (ps_lock h)) fun E σ H ⟨ρ, env, s, re, rs, q⟩ => by
    unfold sLock at q
    split at q
    · rename_i i s0 hfi
      split at q
      · rename_i kvs hs
        obtain ⟨a', u', ha', hu', n⟩ := rs.get hs
        have n' := n
        obtain ⟨vs, rfl, rv⟩ := n'
        refine .inr ⟨a', _, hu', trivial, fun od => ⟨ρ, env, _, re.ext (Ext.put hu' rfl), rs.lock ha' hu' rfl n od, ?_⟩⟩
        have key : ∀ {ρ' : List Addr} {H' : Hp} {s' : Sto}, Ext ρ (upd H a' (.frz od (.dK vs))) ρ' H' → Rel Γ ρ' H' s' → H' a' = some (.frz od (.dK vs)) ∧ Ext ρ H ρ' (upd H' a' (.dK vs)) ∧ Ex0 ρ' H' ρ' (upd H' a' (.dK vs)) ∧ Rel Γ ρ' (upd H' a' (.dK vs)) (s'.set i (.dct kvs)) := fun {ρ' H' s'} x rs' => by
          have hfz := x.frz a' od (.dK vs) upd_same
          refine ⟨hfz, Ext.unlock hu' rfl x, ⟨List.prefix_refl _, fun b ws e => ?_⟩, rs'.unlock (x.at ha') hfz (RU.ext x (.dct kvs) (RU.ext (Ext.put hu' rfl) (.dct kvs) n))⟩
          rw [upd_ne (fun z => by rw [z, hfz] at e; cases e)]
          exact e
        have env0 : ∀ {ρ' : List Addr} {H' H2 : Hp} {σ' : L2.St} {e : Env}, Ex0 ρ' H' ρ' H2 → REnv Γ ρ' H' σ' e → REnv Γ ρ' H2 σ' e := fun x re' => ⟨re'.len, fun m d hd => by
          obtain ⟨v, h1, h2⟩ := re'.at_ m d hd
          exact ⟨v, h1, h2.ext0 x⟩, re'.hs⟩
        cases hf : j env (s.set i (.frz (.dct kvs))) with
        | no => rw [hf] at q; exact q.elim
        | ex y e' s' => rw [hf] at q; exact q.elim
        | nx e' s' =>
          rw [hf] at q
          intro ρ' H' σ' x rs' re'
          obtain ⟨h1, h2, h3, h4⟩ := key x rs'
          exact ⟨h1, q ρ' _ σ' h2 h4 (env0 h3 re')⟩
        | bk e' s' =>
          rw [hf] at q
          intro ρ' H' σ' x rs' re'
          obtain ⟨h1, h2, h3, h4⟩ := key x rs'
          exact ⟨h1, q ρ' _ σ' h2 h4 (env0 h3 re')⟩
        | ct e' s' =>
          rw [hf] at q
          intro ρ' H' σ' x rs' re'
          obtain ⟨h1, h2, h3, h4⟩ := key x rs'
          exact ⟨h1, q ρ' _ σ' h2 h4 (env0 h3 re')⟩
        | rt d s' =>
          rw [hf] at q
          intro ρ' H' v x rs' rd
          obtain ⟨h1, h2, h3, h4⟩ := key x rs'
          exact ⟨h1, q ρ' _ v h2 h4 (rd.ext0 h3)⟩
      · exact .inl ⟨ρ, env, s, re, rs, q⟩
    · exact .inl ⟨ρ, env, s, re, rs, q⟩
/-! ### comprehensions -/
def wipeD (env : Env) : List Nat → Env
  | [] => env
  | v :: vs => (wipeD env vs).set v none
theorem REnv.wipe {ρ : List Addr} {H : Hp} {σ : L2.St} {env : Env} (re : REnv Γ ρ H σ env) : ∀ (vs : List Nat), (vs.all fun i => Γ.hs.all fun p => p.1 != i) = true → REnv Γ ρ H (L2.wipe σ vs) (wipeD env vs)
  | [], _ => re
  | v :: vs, h => by
    rw [List.all_cons, Bool.and_eq_true] at h
    exact (re.wipe vs h.2).unset h.1
theorem wipe_but {vs : List Nat} {σ σ' : L2.St} (b : But vs σ σ') : L2.wipe σ' vs = L2.wipe σ vs := by
  apply List.ext_getElem?
  intro i
  have out : ∀ (ws : List Nat) (τ : L2.St), i ∉ ws → (L2.wipe τ ws)[i]? = τ[i]? := fun ws τ h => wipe_out h
  by_cases hi : i ∈ vs
  · have at_ : ∀ (ws : List Nat) (τ : L2.St), i ∈ ws → (L2.wipe τ ws)[i]? = if i < τ.length then some none else none := fun ws τ h => by
      induction ws with
      | nil => cases h
      | cons v ws ih =>
        unfold L2.wipe
        by_cases hv : v = i
        · subst hv
          rw [List.getElem?_set_self']
          by_cases hl : v < τ.length
          · rw [if_pos hl, List.getElem?_eq_getElem (by rw [wipe_len]; exact hl)]
            rfl
          · rw [if_neg hl, List.getElem?_eq_none (by rw [wipe_len]; omega)]
            rfl
        · rw [List.getElem?_set_ne hv]
          exact ih (by
            rcases List.mem_cons.mp h with z | z
            · exact absurd z.symm hv
            · exact z)
    rw [at_ vs σ' hi, at_ vs σ hi, b.len]
  · rw [out vs σ' hi, out vs σ hi, b.at_ i hi]
where wipe_len {τ : L2.St} {ws : List Nat} : (L2.wipe τ ws).length = τ.length := wipe_length τ ws
theorem But.mono {vs ws : List Nat} {σ σ' : L2.St} (b : But vs σ σ') (h : ∀ i ∈ vs, i ∈ ws) : But ws σ σ' := ⟨b.len, fun j hj => b.at_ j fun z => hj (h j z)⟩
def tYesD : DTe := fun _ s => .ok true s
open Classical in
noncomputable def lcL (t : Tg) (tt : DTe) (te : DEx) (ok : Sto → Prop) (n : Nat) : List D → Env → Sto → Res D
  | [], _, s => if ok s then .ok (.ref n) s else .no
  | x :: r, env, s => if ok s then match asg t x env with
      | some env1 => match tt env1 s with
        | .ok true s1 => match te env1 s1 with
          | .ok y s2 => match wrL s2 n with
            | some acc => if acc.length < sizeLine then lcL t tt te ok n r env (s2.set n (.lst (acc ++ [y]))) else .no
            | none => .no
          | _ => .no
        | .ok false s1 => lcL t tt te ok n r env s1
        | _ => .no
      | none => .no
    else .no
noncomputable def eLc (t : Tg) (own : List Nat) (it : DIt) (tt : DTe) (te : DEx) : DEx := fun env s => (it env s).bind fun src s1 => lcL t tt te src.ok s1.length src.items (wipeD env own) (s1 ++ [.lst []])
theorem lcL_ok {ρ : List Addr} {H : Hp} {σ : L2.St} {tt : DTe} {te : DEx} {ok : Sto → Prop} {n : Nat} {ds : List D} {env : Env} {s : Sto} {Q : VK} (h : Ans Γ W σ ρ H (lcL t tt te ok n ds env s) Q) : ok s := by
  cases ds with
  | nil =>
    rw [lcL] at h
    split at h
    · assumption
    · exact h.elim
  | cons d ds =>
    rw [lcL] at h
    split at h
    · assumption
    · exact h.elim
theorem to_lc {own : List Nat} {tt : DTe} {te : DEx} (hsub : ∀ i ∈ slots t, i ∈ own) (hh : (own.all fun i => Γ.hs.all fun p => p.1 != i) = true) : ∀ σ H Q, dE Γ W (eLc t own it tt te) σ H Q → tLc (dI Γ W it) (gOf Γ.K t) (dT Γ wNo tt) (dE Γ wNo te) own σ H Q := fun σ H Q ⟨ρ, env, s, re, rs, q⟩ => by
  have hht : ((slots t).all fun i => Γ.hs.all fun p => p.1 != i) = true := List.all_eq_true.mpr fun i hi => List.all_eq_true.mp hh i (hsub i hi)
  refine ⟨ρ, env, s, re, rs, Ans.bindIt q fun src s1 ρ1 H1 J x1 rs1 wd q1 => ?_⟩
  intro Dn hDn
  obtain ⟨G, Y, w, hw⟩ := wd
  have xn : Ext ρ1 H1 (ρ1 ++ [Dn]) (upd H1 Dn (.lst [])) := Ext.new hDn (List.prefix_append _ _)
  have rsn := rs1.new (o := .lst []) (u := .lst []) hDn (RU.mkL .nil)
  have atn : (ρ1 ++ [Dn])[s1.length]? = some Dn := by rw [← rs1.len]; exact new_at
  refine lc_it w (fun i H => ∃ ρ2 s2, Ext (ρ1 ++ [Dn]) (upd H1 Dn (.lst [])) ρ2 H ∧ Rel Γ ρ2 H s2 ∧ Ans Γ W σ ρ2 H (lcL t tt te src.ok s1.length (src.items.drop i) (wipeD env own) s2) Q) ⟨_, _, Ext.refl _ _, rsn, by rw [List.drop_zero]; exact Ans.ext q1 xn⟩ (fun i H hi ⟨ρ2, s2, x2, rs2, q2⟩ => (hw ρ2 H s2 (xn.trans x2) rs2 (lcL_ok q2)).1) ?_ ?_
  · rintro i x H2 H3 hi ⟨ρ2, s2, x2, rs2, q2⟩ hy
    have hok := lcL_ok q2
    obtain ⟨d, hd, e⟩ := drop_cons hi
    rw [e, lcL, if_pos hok] at q2
    obtain ⟨x3, rs3, rd3⟩ := (hw ρ2 H2 s2 (xn.trans x2) rs2 hok).2 i x H3 d hd hy
    have x13 := (xn.trans x2).trans x3
    have re3 := (re.ext (x1.trans x13)).wipe own hh
    have q3 := Ans.ext q2 x3
    clear q2
    cases ha : asg t d (wipeD env own) with
    | none => rw [ha] at q3; exact q3.elim
    | some env3 =>
      rw [ha] at q3
      simp only at q3
      refine gOf_ok t hht re3 rd3 ha fun σ4 re4 b4 => ⟨?_, ρ2, env3, s2, re4, rs3, ?_⟩
      · have e1 := wipe_but (b4.mono hsub)
        rw [e1]
        exact wipe_but ⟨wipe_length _ _, fun j hj => wipe_out hj⟩
      · cases ht : tt env3 s2 with
        | no => rw [ht] at q3; exact q3.elim
        | ex y s' => rw [ht] at q3; exact q3.elim
        | ok b s3 =>
          rw [ht] at q3
          intro ρ5 H5 x5 rs5
          have q5 := Ans.ext q3 x5
          cases b with
          | false => exact ⟨ρ5, s3, (x2.trans x3).trans x5, rs5, q5⟩
          | true =>
            refine iteT ⟨ρ5, env3, s3, re4.ext x5, rs5, ?_⟩
            simp only at q5
            cases he : te env3 s3 with
            | no => rw [he] at q5; exact q5.elim
            | ex y s' => rw [he] at q5; exact q5.elim
            | ok y s4 =>
              rw [he] at q5
              intro ρ6 H6 v x6 rs6 rd6
              have q6 := Ans.ext q5 x6
              simp only at q6
              have x06 := ((x2.trans x3).trans x5).trans x6
              split at q6
              · rename_i acc hacc
                split at q6
                · rename_i hl
                  obtain ⟨b', ws, eb, hb', h6, rw6⟩ := rel_wrL rs6 hacc (v := .ref Dn) (.ref (x06.at atn))
                  cases eb
                  refine ⟨ws, h6, by rw [rw6.length]; exact hl, ρ6, _, x06.trans (Ext.put h6 rfl), rs6.put hb' h6 rfl (RU.mkL (rw6.append (.one rd6))), ?_⟩
                  exact Ans.ext q6 (Ext.put h6 rfl)
                · exact q6.elim
              · exact q6.elim
  · rintro H2 ⟨ρ2, s2, x2, rs2, q2⟩
    have hok := lcL_ok q2
    rw [List.drop_length, lcL, if_pos hok] at q2
    exact q2 ρ2 H2 (.ref Dn) (Ext.refl _ _) rs2 (.ref (x2.at atn))
theorem dts_nil : PTs X [] (dT Γ W tYesD) := ⟨fun pins s σ H Q I ⟨ρ, env, s', re, rs, q⟩ => pts_nil.run pins s σ H Q I (q ρ H (Ext.refl _ _) rs)⟩
theorem dts_one (h : PT X c (dT Γ W u)) : PTs X [c] (dT Γ W u) := pts_one h
variable {elt : Expr} {ifs : List Expr} {scope : Scope} {own : List (Str × Nat)} {tt : DTe} {te : DEx}
theorem de_lc (hK : X.K = Γ.K) (hc : X.calm = true) (hN : X.N.Nodup) (hi : PI X tg iter (dI Γ W it)) (ok : BlkOk X.N X.env.scope scope own)
    (hg : ∀ (s : Shared) (H : Hp) (C : Addr) (cl : List (Str × Addr)) (fp : List Addr), PG (X.blk s H scope (compEnvC scope cl C X.env) fp) tg (gOf X.K t)) (ht : ∀ (s : Shared) (H : Hp) (C : Addr) (cl : List (Str × Addr)) (fp : List Addr), PTs (X.blk s H scope (compEnvC scope cl C X.env) fp) ifs (dT Γ wNo tt))
    (he : ∀ (s : Shared) (H : Hp) (C : Addr) (cl : List (Str × Addr)) (fp : List Addr), PE (X.blk s H scope (compEnvC scope cl C X.env) fp) elt (dE Γ wNo te)) (hs : ∀ x, foldedSetIterable iter X.env x = pure x := by intro _; rfl)
    (hsub : ∀ i ∈ slots t, i ∈ own.map (·.2) := by decide) (hh : ((own.map (·.2)).all fun i => Γ.hs.all fun p => p.1 != i) = true := by rfl) :
    PE X (.ListComp elt [⟨tg, iter, ifs, 0⟩] scope pos) (dE Γ W (eLc t (own.map (·.2)) it tt te)) := by
  rw [hK] at hg
  exact PE.weak (pe_lc hc hN hi ok hg ht he hs) (to_lc hsub hh)
/-- name = [..] -/
theorem ds_setLc {n : Nat} {y : Str} (hK : X.K = Γ.K) (hc : X.calm = true) (hN : X.N.Nodup) (hy : X.N[n]? = some y) (hyl : X.env.scope.names.lookup y = some .local)
    (hsw : swapsWith (.ListComp elt [⟨tg, iter, ifs, 0⟩] scope pos) (some (.Name y py)) spos.line X.env = pure true) (hi : PI X tg iter (dI Γ W it)) (ok : BlkOk X.N X.env.scope scope own)
    (hg : ∀ (s : Shared) (H : Hp) (C : Addr) (cl : List (Str × Addr)) (fp : List Addr), PG (X.blk s H scope (compEnvC scope cl C X.env) fp) tg (gOf X.K t)) (ht : ∀ (s : Shared) (H : Hp) (C : Addr) (cl : List (Str × Addr)) (fp : List Addr), PTs (X.blk s H scope (compEnvC scope cl C X.env) fp) ifs (dT Γ wNo tt))
    (he : ∀ (s : Shared) (H : Hp) (C : Addr) (cl : List (Str × Addr)) (fp : List Addr), PE (X.blk s H scope (compEnvC scope cl C X.env) fp) elt (dE Γ wNo te)) (hs : ∀ x, foldedSetIterable iter X.env x = pure x := by intro _; rfl)
    (hsub : ∀ i ∈ slots t, i ∈ own.map (·.2) := by decide) (hh : ((own.map (·.2)).all fun i => Γ.hs.all fun p => p.1 != i) = true := by rfl) (hhn : ((slots (.nm n)).all fun i => Γ.hs.all fun p => p.1 != i) = true := by rfl) :
    PS X (.Assign [.Name y py] (.ListComp elt [⟨tg, iter, ifs, 0⟩] scope pos) spos) (dS Γ W (sAsg (.nm n) (eLc t (own.map (·.2)) it tt te))) := by
  rw [hK] at hg
  refine PS.weak (ps_setLc hc hN hy hyl hsw hi ok hg ht he hs) fun E σ H h => ?_
  refine to_lc hsub hh σ H _ ?_
  exact to_asg (tg := .nm n) hhn E σ H h
end
end DL
set_option maxHeartbeats 4000000
/-! Defs, methods, new instances over the store -/
namespace DL
open PySem PySem.Spec PyProof.Rows L2 HM
abbrev Fn := List D → Sto → Res D
def fin : SR → Res D
  | .nx _ s => .ok .non s
  | .rt d s => .ok d s
  | .ex x _ s => .ex x s
  | _ => .no
def runFn (np n : Nat) (j : DSt) : Fn := fun ds s => if ds.length = np then fin (j (ds.map some ++ List.replicate (n - np) none) s) else .no
def spD (Γ : Wd) (g : Fn) : Sp := fun vs H Q E => ∃ ρ s ds, Rel Γ ρ H s ∧ RDs Γ ρ H vs ds ∧ Ans Γ (fun c d _ H' => E c d H') [] ρ H (g ds s) Q
theorem REnv.start {Γ : Wd} {ρ : List Addr} {H : Hp} {vs : List V} {ds : List D} (hh : Γ.hs = []) (r : RDs Γ ρ H vs ds) (n : Nat) : REnv Γ ρ H (vs.map some ++ List.replicate (n - vs.length) none) (ds.map some ++ List.replicate (n - ds.length) none) := by
  refine ⟨by simp [r.length], fun i d e => ?_, fun p hp => by rw [hh] at hp; cases hp⟩
  by_cases hi : i < ds.length
  · rw [List.getElem?_append_left (by rw [List.length_map]; exact hi), List.getElem?_map] at e
    cases hd : ds[i]? with
    | none => rw [hd] at e; cases e
    | some d' =>
      rw [hd] at e
      cases e
      obtain ⟨v, h1, h2⟩ := r.get hd
      exact ⟨v, by rw [List.getElem?_append_left (by rw [List.length_map, r.length]; exact hi), List.getElem?_map, h1]; rfl, h2⟩
  · rw [List.getElem?_append_right (by rw [List.length_map]; omega), List.getElem?_replicate] at e
    split at e <;> cases e
section
variable {P : Program} {w : World} {K : PySem.W.Frag} {mg : Str → Option Value} {base : Heap} {k : Nat} {f : Addr} {fd : FuncData} {ps N : List Str} {x qual : Str} {params : Arguments} {body : List Stmt} {scope : Scope} {dvs : List V} {kws : List (Str × V)} {Γ : Wd} {j : DSt}
/-- a def by its body -/
theorem fnD (hh : Γ.hs = []) (F : FunD K x qual params body scope dvs kws f fd) (S : FnScope N ps scope)
    (hbody : ∀ (cdv : Value) (A : Around) (outer : List PySem.Env) (s : Shared) (H : Hp) (E : XK), CodeAt K f cdv → Room k (A.deeper (envOfC qual scope s.heap.objs.size f cdv)) → (A.deeper (envOfC qual scope s.heap.objs.size f cdv)).guards = some [] →
      PSs (cxOf (L2N.CX P w) P w K mg base N qual scope f cdv A outer s H E) body (dS Γ (fun c d _ H' => E c d H') j)) : FnG P w K mg base (L2N.CX P w) (k + 1) f fd ps (spD Γ (runFn ps.length N.length j)) := by
  refine okG F S (fun vs H Q E h => ?_) (fun cdv A outer s H vs Q E hcd hr hgd h => ⟨_, hbody cdv A outer s H E hcd hr hgd, ?_⟩)
  · obtain ⟨ρ, s, ds, rs, rd, q⟩ := h
    unfold runFn at q
    split at q
    · rename_i hl
      rw [rd.length, hl]
    · exact q.elim
  · obtain ⟨ρ, s', ds, rs, rd, q⟩ := h
    unfold runFn at q
    split at q
    · rename_i hl
      have re := REnv.start hh rd N.length
      refine ⟨ρ, _, s', re, rs, ?_⟩
      rw [hl]
      cases hj : j (ds.map some ++ List.replicate (N.length - ps.length) none) s' with
      | nx e s2 =>
        rw [hj] at q
        exact fun ρ' H' σ' x rs' re' => q ρ' H' .non x rs' .non
      | rt d s2 => rw [hj] at q; exact q
      | ex y e s2 =>
        rw [hj] at q
        exact fun ρ' H' σ' c d x rs' re' rx => q ρ' H' c d x rs' rx
      | bk e s2 => rw [hj] at q; exact q.elim
      | ct e s2 => rw [hj] at q; exact q.elim
      | no => rw [hj] at q; exact q.elim
    · exact q.elim
/-- a def that is never come to -/
theorem fnD_no : FnG P w K mg base (L2N.CX P w) k f fd ps (spD Γ fun _ _ => .no) :=
  ⟨fun vs H Q E ⟨ρ, s, ds, rs, rd, q⟩ => q.elim, fun A o s H a us vs Q E _ _ _ _ _ ⟨ρ, s', ds, rs, rd, q⟩ => q.elim⟩
end
def eCall (g : Fn) (t : DAr) : DEx := fun env s => (t env s).bind fun ds s1 => g ds s1
section
variable {X : Cx} {k : Nat} {f C : Addr} {fd : FuncData} {ps : List Str} {sp : Sp} {x m : Str} {p pos apos : Pos} {e o : Expr} {es : List Expr} {Γ : Wd} {W : WX} {g : Fn} {t : DAr} {h : DEx}
theorem run_GS {pins : List (Addr × Obj)} {σ : L2.St} {H : Hp} {s : Shared} {Q : VK} {us : List Value} {vs : List V} (F : FnG X.prog X.w X.K X.mg X.base (L2N.CX X.prog X.w) k f fd ps sp) (hr : Room k X.A) (hg : X.A.guards = some []) (hb : Binds X.K fd ps []) (tk : L2N.Takes X W)
    (I : Inv X pins σ H s) (r : Vals vs us) (h : sp vs H Q (WE W σ)) : wpAny (model X.prog X.w) X.A (call (.ref f) us) (EP X pins σ Q) X.xe s := by
  have b := hb s us I.kIn (by rw [List.append_nil, ← r.length]; exact F.len _ _ _ _ h)
  rw [List.append_nil] at b
  refine wpAny_call (codeAny_mono (F.run X.A X.stack s H ⟨us, []⟩ us vs Q (WE W σ) hr hg I.env0 b r h) fun r s' hq => ?_)
  match r, hq with
  | .error e, hq => exact L2N.passAt tk σ pins H s e s' I hq
  | .ok (.ret u), hq => exact I.after hq
theorem to_call {σ : L2.St} {H : Hp} {Q : VK} (h : dE Γ W (eCall g t) σ H Q) : dA Γ W t σ H fun vs H1 => spD Γ g vs H1 Q (WE W σ) := by
  obtain ⟨ρ, env, s, re, rs, q⟩ := h
  refine ⟨ρ, env, s, re, rs, (AnsA.bind q).mono ?_⟩
  rintro vs H1 ⟨ρ1, s1, ds, x1, rs1, rd1, q1⟩
  refine ⟨ρ1, s1, ds, rs1, rd1, ?_⟩
  cases hg : g ds s1 with
  | ok d s2 => rw [hg] at q1; exact q1
  | ex y s2 => rw [hg] at q1; exact q1
  | no => rw [hg] at q1; exact q1
/-- f(e, ..) -/
theorem de_call (F : FnG X.prog X.w X.K X.mg X.base (L2N.CX X.prog X.w) k f fd ps (spD Γ g)) (hr : Room k X.A) (hgd : X.A.guards = some []) (hg : Gl X x) (hm : X.mg x = some (.ref f)) (hk : PySem.W.keepIn X.K (.ref f) = true) (hb : Binds X.K fd ps []) (tk : L2N.Takes X W)
    (ha : PA X (e :: es) (dA Γ W t)) (hdb : (x == ("__debug__" : Str)) = false := by decide) (he : starEach (e :: es) X.env = (false, eval e X.env) :: starEach es X.env := by rfl) (hpl : (backTo pos (starEach es X.env)).any (·.1) = false := by rfl) :
    PE X (.Call (.Name x p) (e :: es) [] pos) (dE Γ W (eCall g t)) :=
  ⟨fun pins s σ H Q I h => wpAny_Call_Name_kw (ld_glob I hg hm (PySem.W.callWith_K (h₀ := X.base) I.ok.mod.kin hk (thn (ha.run pos pins s σ H _ I (to_call h)) fun us s1 ⟨vs, H1, I1, r, q⟩ => ⟨I1.kIn, run_GS F hr hgd hb tk I1 r q⟩) he hpl) hdb)⟩
/-- f() -/
theorem de_call0 (F : FnG X.prog X.w X.K X.mg X.base (L2N.CX X.prog X.w) k f fd ps (spD Γ g)) (hr : Room k X.A) (hgd : X.A.guards = some []) (hg : Gl X x) (hm : X.mg x = some (.ref f)) (hk : PySem.W.keepIn X.K (.ref f) = true) (hb : Binds X.K fd ps []) (tk : L2N.Takes X W)
    (hdb : (x == ("__debug__" : Str)) = false := by decide) : PE X (.Call (.Name x p) [] [] pos) (dE Γ W (eCall g aNil)) :=
  ⟨fun pins s σ H Q I h => by
    obtain ⟨ρ, env, s', re, rs, q⟩ := h
    refine wpAny_Call_Name_kw (ld_glob I hg hm (PySem.W.callWith_K0 I.kIn hk (run_GS (us := []) F hr hgd hb tk I .nil ⟨ρ, s', [], rs, .nil, ?_⟩)) hdb)
    have q' : Ans Γ W σ ρ H (g [] s') Q := q
    cases hg : g [] s' with
    | ok d s2 => rw [hg] at q'; exact q'
    | ex y s2 => rw [hg] at q'; exact q'
    | no => rw [hg] at q'; exact q'⟩
/-! ### methods -/
open Classical in
noncomputable def eMeth (c : String) (m : Str) (g : Fn) (h : DEx) (t : DAr) : DEx := fun env s => (h env s).bind fun x s1 => match x with
  | .ref i => match insA s1 i with
    | some (c', fs) => if c' = c ∧ fs.lookup m = none then (t env s1).bind fun ds s2 => g (x :: ds) s2 else .no
    | none => .no
  | _ => .no
theorem to_meth {c : String} {t0 : TA} {σ : L2.St} {H : Hp} {Q : VK} (hc : Γ.cls c = some C) (ht : ∀ {σ : L2.St} {H : Hp} {R : List V → Hp → Prop}, dA Γ W t σ H R → t0 σ H R) (q0 : dE Γ W (eMeth c m g h t) σ H Q) :
    dE Γ W h σ H fun x H1 => ∃ a dx fs, x = .ref a ∧ H1 a = some (.ins C dx fs) ∧ fs.lookup m = none ∧ t0 σ H1 fun vs H2 => spD Γ g (x :: vs) H2 Q (WE W σ) := by
  obtain ⟨ρ, env, s, re, rs, q⟩ := q0
  refine ⟨ρ, env, s, re, rs, (Ans.bind q).mono ?_⟩
  rintro v H1 ⟨ρ1, s1, d1, x1, rs1, rd1, q1⟩
  split at q1
  · split at q1
    · rename_i c' fs hi
      split at q1
      · rename_i hcm
        obtain ⟨rfl, hl⟩ := hcm
        obtain ⟨a, C', dx, vs, rfl, ha, hC, hA, rv⟩ := rel_ins rs1 hi rd1
        rw [hc] at hC
        cases hC
        refine ⟨a, dx, vs, rfl, hA, rv.lookup_none hl, ht ⟨ρ1, env, s1, re.ext x1, rs1, (AnsA.bind q1).mono ?_⟩⟩
        rintro ws H2 ⟨ρ2, s2, ds, x2, rs2, rd2, q2⟩
        refine ⟨ρ2, s2, _, rs2, .cons (rd1.ext x2) rd2, ?_⟩
        cases hg : g _ s2 with
        | ok d s2 => rw [hg] at q2; exact q2
        | ex y s2 => rw [hg] at q2; exact q2
        | no => rw [hg] at q2; exact q2
      · exact q1.elim
    · exact q1.elim
  · exact q1.elim
/-- o.m(e, ..) -/
theorem de_meth {c : String} {pl : Sem Bool} (hc : Γ.cls c = some C) (he : PE X o (dE Γ W h)) (cl : Cls X.K C) (hm : Meth X.K C m f) (F : FnG X.prog X.w X.K X.mg X.base (L2N.CX X.prog X.w) k f fd ps (spD Γ g)) (hr : Room k X.A) (hgd : X.A.guards = some []) (hb : Binds X.K fd ps []) (tk : L2N.Takes X W) (ha : PA X (e :: es) (dA Γ W t))
    (hst : starEach (e :: es) X.env = (false, eval e X.env) :: starEach es X.env := by rfl) (hpl : (backTo pos (starEach es X.env)).any (·.1) = false := by rfl)
    (ht : eval (.Call (.Attribute o m apos) (e :: es) [] pos) X.env = (do
      let ov ← eval o X.env
      standAt apos.atName
      let (f, first) ← holding [ov] (getMethod ov m pl)
      callWith pos f first (backTo pos (starEach (e :: es) X.env)) (backToKw pos (keywordEach [] X.env))) := by rfl) :
    PE X (.Call (.Attribute o m apos) (e :: es) [] pos) (dE Γ W (eMeth c m g h t)) :=
  ⟨fun pins s σ H Q I q0 => PySem.W.methodCall_KW (pl := pl) (thn (he.run pins s σ H _ I (to_meth (t0 := dA Γ W t) hc (fun z => z) q0)) fun u s1 ⟨x, H1, I1, rx, a, dx, fs, ex, ea, l, q⟩ => by
    subst ex
    obtain rfl : u = Value.ref a := rx
    refine getmeth_ok I1 ea cl hm l ?_
    exact PySem.W.callWith_K (first := [.ref a]) (h₀ := X.base) I.ok.mod.kin hm.kp (thn (ha.run pos pins s1 σ H1 _ I1 q) fun us s2 ⟨vs, H2, I2, r, q2⟩ => ⟨I2.kIn, run_GS (us := .ref a :: us) (vs := .ref a :: vs) F hr hgd hb tk I2 (.cons rfl r) q2⟩) hst hpl) ht⟩
/-- o.m() -/
theorem de_meth0 {c : String} {pl : Sem Bool} (hc : Γ.cls c = some C) (he : PE X o (dE Γ W h)) (cl : Cls X.K C) (hm : Meth X.K C m f) (F : FnG X.prog X.w X.K X.mg X.base (L2N.CX X.prog X.w) k f fd ps (spD Γ g)) (hr : Room k X.A) (hgd : X.A.guards = some []) (hb : Binds X.K fd ps []) (tk : L2N.Takes X W)
    (ht : eval (.Call (.Attribute o m apos) [] [] pos) X.env = (do
      let ov ← eval o X.env
      standAt apos.atName
      let (f, first) ← holding [ov] (getMethod ov m pl)
      callWith pos f first (backTo pos (starEach [] X.env)) (backToKw pos (keywordEach [] X.env))) := by rfl) :
    PE X (.Call (.Attribute o m apos) [] [] pos) (dE Γ W (eMeth c m g h aNil)) :=
  ⟨fun pins s σ H Q I q0 => PySem.W.methodCall_KW (pl := pl) (thn (he.run pins s σ H _ I (to_meth (t := aNil) (t0 := tNil) hc (fun ⟨ρ, env, s, re, rs, q⟩ => q ρ _ [] (Ext.refl _ _) rs .nil) q0)) fun u s1 ⟨x, H1, I1, rx, a, dx, fs, ex, ea, l, q⟩ => by
    subst ex
    obtain rfl : u = Value.ref a := rx
    exact getmeth_ok I1 ea cl hm l (PySem.W.callWith_K0 (first := [.ref a]) I1.kIn hm.kp (run_GS (us := [.ref a]) (vs := [.ref a]) F hr hgd hb tk I1 (.cons rfl .nil) q))) ht⟩
/-! ### C(e, ..) -/
def eMake (c : String) (g : Fn) (t : DAr) : DEx := fun env s => (t env s).bind fun ds s1 => (g (.ref s1.length :: ds) (s1 ++ [.ins c []])).bind fun v s2 => match v with
  | .non => .ok (.ref s1.length) s2
  | _ => .no
theorem guards_mk {A : Around} {C : Addr} {us : List Value} {kw : List (Str × Value)} (h : A.guards = some []) : (A.under (.builtin "type.__call__" ⟨.ref C :: us, kw⟩)).guards = some [] := by
  rw [← h]
  rfl
theorem run_makeS {pins : List (Addr × Obj)} {σ : L2.St} {H : Hp} {s : Shared} {Q : VK} {us : List Value} {vs : List V} (M : Mk X.K C f) (F : FnG X.prog X.w X.K X.mg X.base (L2N.CX X.prog X.w) k f fd ps sp) (hr : Room (k + 1) X.A) (hgd : X.A.guards = some []) (hb : Binds X.K fd ps [])
    (tk : L2N.Takes X W) (I : Inv X pins σ H s) (r : Vals vs us)
    (h : ∀ x dx, H x = none → H dx = none → dx ≠ x → sp (.ref x :: vs) (upd (upd H dx (.own x)) x (.ins C dx [])) (fun v H2 => v = .non ∧ Q (.ref x) H2) (WE W σ)) :
    wpAny (model X.prog X.w) X.A (call (.ref C) us) (EP X pins σ Q) X.xe s := by
  have hq := h (s.heap.objs.size + 1) s.heap.objs.size (I.hok.fresh (Nat.le_succ _)) (I.hok.fresh (Nat.le_refl _)) (Nat.ne_of_lt (Nat.lt_succ_self _))
  have I2 := Inv.made (C := C) I
  have r2 : Vals (V.ref (s.heap.objs.size + 1) :: vs) (Value.ref (s.heap.objs.size + 1) :: us) := .cons rfl r
  have b := hb _ (Value.ref (s.heap.objs.size + 1) :: us) I2.kIn (by
    rw [List.append_nil]
    have e := r2.length
    rw [F.len _ _ _ _ hq] at e
    exact e.symm)
  rw [List.append_nil] at b
  refine wpAny_call (make_map (f := f) I.kIn M.makes M.init (beq_iff_eq.mp M.fn) (codeAny_mono (F.run _ X.stack _ _ ⟨Value.ref (s.heap.objs.size + 1) :: us, []⟩ _ _ _ (WE W σ) (hr.make C us []) (guards_mk hgd) (I2.env0.make C us []) b r2 hq) fun r s' hq' => ?_))
  match r, hq' with
  | .error e, hq' => exact L2N.passAt tk σ pins _ _ e s' I2 hq'
  | .ok (.ret u), hq' =>
    obtain ⟨v, H', I3, rv, ev, q3⟩ := I2.after hq'
    subst ev
    exact ⟨rv, ⟨V.ref (s.heap.objs.size + 1), H', I3, rfl, q3⟩⟩
theorem to_make {c : String} {σ : L2.St} {H : Hp} {Q : VK} (hc : Γ.cls c = some C) (q0 : dE Γ W (eMake c g t) σ H Q) :
    dA Γ W t σ H fun vs H1 => ∀ x dx, H1 x = none → H1 dx = none → dx ≠ x → spD Γ g (.ref x :: vs) (upd (upd H1 dx (.own x)) x (.ins C dx [])) (fun v H2 => v = .non ∧ Q (.ref x) H2) (WE W σ) := by
  obtain ⟨ρ, env, s, re, rs, q⟩ := q0
  refine ⟨ρ, env, s, re, rs, (AnsA.bind q).mono ?_⟩
  rintro vs H1 ⟨ρ1, s1, ds, x1, rs1, rd1, q1⟩ x dx hx hdx hne
  have hx2 : (upd H1 dx (.own x)) x = none := by rw [upd_ne (Ne.symm hne)]; exact hx
  have xs : Ext ρ1 H1 ρ1 (upd H1 dx (.own x)) := Ext.new hdx (List.prefix_refl _)
  have xn : Ext ρ1 (upd H1 dx (.own x)) (ρ1 ++ [x]) (upd (upd H1 dx (.own x)) x (.ins C dx [])) := Ext.new hx2 (List.prefix_append _ _)
  have rsn := (rs1.side (p := dx) (u := .own x) hdx).new (o := .ins c []) (u := .ins C dx []) hx2 ⟨C, dx, [], rfl, hc, .nil⟩
  have atn : (ρ1 ++ [x])[s1.length]? = some x := by rw [← rs1.len]; exact new_at
  refine ⟨_, _, _, rsn, .cons (.ref atn) (rd1.ext (xs.trans xn)), ?_⟩
  have q2 := (Ans.ext q1 (xs.trans xn)).bind
  cases hg : g (.ref s1.length :: ds) (s1 ++ [.ins c []]) with
  | no => rw [hg] at q2; exact q2
  | ex y s2 => rw [hg] at q2; exact q2
  | ok d s2 =>
    rw [hg] at q2
    intro ρ' H' v y rs' rd'
    obtain ⟨ρ2, s3, d2, x2, rs2, rd2, q3⟩ := q2 ρ' H' v y rs' rd'
    cases d2 with
    | non => exact ⟨get_non rd2, q3 ρ2 H' (.ref x) (Ext.refl _ _) rs2 (.ref (x2.at atn))⟩
    | _ => exact q3.elim
theorem de_make {c : String} (hc : Γ.cls c = some C) (M : Mk X.K C f) (F : FnG X.prog X.w X.K X.mg X.base (L2N.CX X.prog X.w) k f fd ps (spD Γ g)) (hr : Room (k + 1) X.A) (hgd : X.A.guards = some []) (hg : Gl X x) (hm : X.mg x = some (.ref C)) (hb : Binds X.K fd ps []) (tk : L2N.Takes X W)
    (ha : PA X (e :: es) (dA Γ W t)) (hdb : (x == ("__debug__" : Str)) = false := by decide) (he : starEach (e :: es) X.env = (false, eval e X.env) :: starEach es X.env := by rfl) (hpl : (backTo pos (starEach es X.env)).any (·.1) = false := by rfl) :
    PE X (.Call (.Name x p) (e :: es) [] pos) (dE Γ W (eMake c g t)) :=
  ⟨fun pins s σ H Q I h => wpAny_Call_Name_kw (ld_glob I hg hm (PySem.W.callWith_K (h₀ := X.base) I.ok.mod.kin M.kp (thn (ha.run pos pins s σ H _ I (to_make hc h)) fun us s1 ⟨vs, H1, I1, r, q⟩ => ⟨I1.kIn, run_makeS M F hr hgd hb tk I1 r q⟩) he hpl) hdb)⟩
end
end DL
set_option maxHeartbeats 4000000
/-! all(..) over generator expressions, by values -/
namespace DL
open PySem PySem.Spec PyProof.Rows L2 HM XG GxR
theorem Rel.tabbed {Γ : Wd} {ρ : List Addr} {H H' : Hp} {s : Sto} {P : Addr} (r : Rel Γ ρ H s) (hP : P ∈ Γ.Ps) (h : Tabbed P H H') : Rel Γ ρ H' s ∧ Ext ρ H ρ H' := by
  obtain ⟨ps, hp, _⟩ := r.tab P hP
  have ne : ∀ (b : Addr) (w : HO), H b = some w → (∀ ps, w ≠ .tbl ps) → H' b = some w := fun b w e n => by
    rw [h.2 b (fun z => by rw [z, hp] at e; cases e; exact n _ rfl)]
    exact e
  have x : Ext ρ H ρ H' := ⟨List.prefix_refl _, fun b vs e => ne b _ e (fun _ z => by cases z), fun b o w e => ne b _ e (fun _ z => by cases z), fun b w e => ne b _ e (fun _ z => by cases z)⟩
  refine ⟨⟨r.len, r.nd, fun i a o ha ho => ?_, r.tab.tabbed h⟩, x⟩
  obtain ⟨u, e, n⟩ := r.obj i a o ha ho
  refine ⟨u, ne a u e (fun ps z => ?_), RU.ext x o n⟩
  subst z
  cases o with
  | lst xs => obtain ⟨_, z, _⟩ := n; cases z
  | dct xs => obtain ⟨_, z, _⟩ := n; cases z
  | dcT xs => obtain ⟨_, z, _⟩ := n; cases z
  | ins c xs => obtain ⟨_, _, _, z, _⟩ := n; cases z
  | frz o => obtain ⟨_, _, z, _⟩ := n; cases z
theorem REnv.but {Γ : Wd} {ρ : List Addr} {H : Hp} {σ σ' : L2.St} {env : Env} {vs : List Nat} (re : REnv Γ ρ H σ env) (b : But vs σ σ') (hv : ∀ i ∈ vs, ∀ d, env[i]? ≠ some (some d)) (hh : (vs.all fun i => Γ.hs.all fun p => p.1 != i) = true) : REnv Γ ρ H σ' env := by
  refine ⟨b.len.trans re.len, fun i d e => ?_, fun p hp => ?_⟩
  · obtain ⟨v, h1, h2⟩ := re.at_ i d e
    exact ⟨v, by rw [b.at_ i (fun z => hv i z d e)]; exact h1, h2⟩
  · rw [b.at_ p.1 (fun z => ?_)]
    · exact re.hs p hp
    · have := List.all_eq_true.mp (List.all_eq_true.mp hh _ z) p hp
      simp at this
theorem wipeD_none {env : Env} : ∀ {vs : List Nat} {i : Nat}, i ∈ vs → ∀ d, (wipeD env vs)[i]? ≠ some (some d)
  | v :: vs, i, h, d, e => by
    unfold wipeD at e
    by_cases hi : v = i
    · subst hi
      rw [List.getElem?_set_self'] at e
      cases hq : (wipeD env vs)[v]? with
      | none => rw [hq] at e; cases e
      | some o => rw [hq] at e; cases e
    · rw [List.getElem?_set_ne hi] at e
      exact wipeD_none ((List.mem_cons.mp h).resolve_left fun z => hi z.symm) d e
mutual
theorem asg_out : ∀ (t : Tg) {d : D} {env env' : Env}, asg t d env = some env' → ∀ j, j ∉ slots t → env'[j]? = env[j]?
  | .nm i, d, env, env', e, j, hj => by
    rw [asg] at e
    cases e
    exact List.getElem?_set_ne (fun z => hj (by simp [slots, z]))
  | .tp ts, d, env, env', e, j, hj => by
    cases d with
    | tup xs => exact asgs_out ts e j hj
    | _ => simp [asg] at e
theorem asgs_out : ∀ (ts : List Tg) {ds : List D} {env env' : Env}, asgs ts ds env = some env' → ∀ j, j ∉ slotss ts → env'[j]? = env[j]?
  | [], [], env, env', e, j, hj => by
    rw [asgs] at e
    cases e
    rfl
  | [], _ :: _, env, env', e, j, hj => by simp [asgs] at e
  | t :: ts, [], env, env', e, j, hj => by simp [asgs] at e
  | t :: ts, d :: ds, env, env', e, j, hj => by
    rw [asgs] at e
    rw [slotss, List.mem_append, not_or] at hj
    cases h : asg t d env with
    | none => rw [h] at e; cases e
    | some env1 =>
      rw [h] at e
      exact (asgs_out ts e j hj.2).trans (asg_out t h j hj.1)
end
mutual
theorem asg_len : ∀ (t : Tg) {d : D} {env env' : Env}, asg t d env = some env' → env'.length = env.length
  | .nm i, d, env, env', e => by
    rw [asg] at e
    cases e
    exact List.length_set
  | .tp ts, d, env, env', e => by
    cases d with
    | tup xs => exact asgs_len' ts e
    | _ => simp [asg] at e
theorem asgs_len' : ∀ (ts : List Tg) {ds : List D} {env env' : Env}, asgs ts ds env = some env' → env'.length = env.length
  | [], [], env, env', e => by
    rw [asgs] at e
    cases e
    rfl
  | [], _ :: _, env, env', e => by simp [asgs] at e
  | t :: ts, [], env, env', e => by simp [asgs] at e
  | t :: ts, d :: ds, env, env', e => by
    rw [asgs] at e
    cases h : asg t d env with
    | none => rw [h] at e; cases e
    | some env1 =>
      rw [h] at e
      exact (asgs_len' ts e).trans (asg_len t h)
end
open Classical in
noncomputable def allL (t : Tg) (tt : DTe) (te : DEx) (ok : Sto → Prop) (env : Env) : List D → Sto → Res Bool
  | [], s => if ok s then .ok true s else .no
  | x :: r, s => if ok s then match asg t x env with
      | some env1 => match tt env1 s with
        | .ok true s1 => match te env1 s1 with
          | .ok (.bl true) s2 => allL t tt te ok env r s2
          | .ok (.bl false) s2 => .ok false s2
          | _ => .no
        | .ok false s1 => allL t tt te ok env r s1
        | _ => .no
      | none => .no
    else .no
open Classical in
noncomputable def allL2 (t : Tg) (tt : DTe) (it1 : DIt) (t1 : Tg) (tt1 : DTe) (te : DEx) (ok : Sto → Prop) (env : Env) : List D → Sto → Res Bool
  | [], s => if ok s then .ok true s else .no
  | x :: r, s => if ok s then match asg t x env with
      | some env1 => match tt env1 s with
        | .ok true s1 => match it1 env1 s1 with
          | .ok src s2 => match allL t1 tt1 te src.ok env1 src.items s2 with
            | .ok true s3 => allL2 t tt it1 t1 tt1 te ok env r s3
            | .ok false s3 => .ok false s3
            | _ => .no
          | _ => .no
        | .ok false s1 => allL2 t tt it1 t1 tt1 te ok env r s1
        | _ => .no
      | none => .no
    else .no
open Classical in
noncomputable def cost2 (t : Tg) (tt : DTe) (it1 : DIt) (t1 : Tg) (tt1 : DTe) (te : DEx) (env : Env) : List D → Sto → Nat
  | [], s => 0
  | x :: r, s => 1 + match asg t x env with
      | some env1 => match tt env1 s with
        | .ok true s1 => match it1 env1 s1 with
          | .ok src s2 => src.items.length + match allL t1 tt1 te src.ok env1 src.items s2 with
            | .ok true s3 => cost2 t tt it1 t1 tt1 te env r s3
            | _ => 0
          | _ => 0
        | .ok false s1 => cost2 t tt it1 t1 tt1 te env r s1
        | _ => 0
      | none => 0
def Res.bd : Res Bool → Res D
  | .ok b s => .ok (.bl b) s
  | .ex x s => .ex x s
  | .no => .no
noncomputable def eAll (t : Tg) (own : List Nat) (it : DIt) (tt : DTe) (te : DEx) : DEx := fun env s => (it env s).bind fun src s1 => (allL t tt te src.ok (wipeD env own) src.items s1).bd
noncomputable def eAll2 (t : Tg) (own : List Nat) (it : DIt) (tt : DTe) (it1 : DIt) (t1 : Tg) (tt1 : DTe) (te : DEx) : DEx := fun env s => (it env s).bind fun src s1 => (allL2 t tt it1 t1 tt1 te src.ok (wipeD env own) src.items s1).bd
section
variable {Γ : Wd} {W : WX} {ρ : List Addr} {H : Hp} {σ0 : L2.St} {Q : VK} {t t1 : Tg} {tt tt1 : DTe} {te : DEx} {it1 : DIt} {ok : Sto → Prop} {env : Env} {ds : List D} {s : Sto}
theorem allL_okS {r : Bool} {s' : Sto} (h : allL t tt te ok env ds s = .ok r s') : ok s := by
  cases ds with
  | nil => rw [allL] at h; split at h; assumption; cases h
  | cons d ds => rw [allL] at h; split at h; assumption; cases h
theorem allL2_okS {r : Bool} {s' : Sto} (h : allL2 t tt it1 t1 tt1 te ok env ds s = .ok r s') : ok s := by
  cases ds with
  | nil => rw [allL2] at h; split at h; assumption; cases h
  | cons d ds => rw [allL2] at h; split at h; assumption; cases h
theorem allL_ex : ∀ {ds : List D} {s : Sto} {y : Ex} {s' : Sto}, allL t tt te ok env ds s = .ex y s' → False
  | [], s, y, s', h => by
    rw [allL] at h
    split at h <;> cases h
  | d :: ds, s, y, s', h => by
    rw [allL] at h
    split at h
    · split at h
      · split at h
        · split at h
          · exact allL_ex h
          · cases h
          · cases h
        · exact allL_ex h
        · cases h
      · cases h
    · cases h
theorem allL2_ex : ∀ {ds : List D} {s : Sto} {y : Ex} {s' : Sto}, allL2 t tt it1 t1 tt1 te ok env ds s = .ex y s' → False
  | [], s, y, s', h => by
    rw [allL2] at h
    split at h <;> cases h
  | d :: ds, s, y, s', h => by
    rw [allL2] at h
    split at h
    · split at h
      · split at h
        · split at h
          · split at h
            · exact allL2_ex h
            · cases h
            · cases h
          · cases h
        · exact allL2_ex h
        · cases h
      · cases h
    · cases h
/-- where a clause's loop stands -/
def AtL (Γ : Wd) (t : Tg) (tt : DTe) (te : DEx) (env : Env) (src : Src) (ρ1 : List Addr) (H1 : Hp) (Q : VK) (rest : Sto → Nat) (GF : Sto → Prop) (i m : Nat) (σ : L2.St) (H : Hp) : Prop :=
  ∃ ρ2 s2 r s3, Ext ρ1 H1 ρ2 H ∧ Rel Γ ρ2 H s2 ∧ REnv Γ ρ2 H σ env ∧ i ≤ src.items.length ∧ allL t tt te src.ok env (src.items.drop i) s2 = .ok r s3 ∧ m = (src.items.length - i) + (if r = true then rest s3 else 0) ∧
      (if r = true then GF s3 else ∀ ρ' H' v, Ext ρ1 H1 ρ' H' → Rel Γ ρ' H' s3 → RD Γ ρ' H' v (.bl false) → Q v H')
/-- one clause's turn; at the end (all True) Fin is reached -/
theorem turnL_of {J : It} {src : Src} {ρ1 : List Addr} {H1 : Hp} {Fin : Nat → L2.St → Hp → Prop} {rest : Sto → Nat} {GF : Sto → Prop} {Wn : Nat → Nat → L2.St → Hp → Prop} (wd : WalkD Γ J ρ1 H1 src) (hv : ∀ i ∈ slots t, ∀ d, env[i]? ≠ some (some d)) (hh : ((slots t).all fun i => Γ.hs.all fun p => p.1 != i) = true)
    (fin : ∀ ρ' H' σ' s', Ext ρ1 H1 ρ' H' → Rel Γ ρ' H' s' → REnv Γ ρ' H' σ' env → GF s' → Fin (rest s') σ' H')
    (hWn : ∀ i m σ H, AtL Γ t tt te env src ρ1 H1 Q rest GF i m σ H → Wn i m σ H) : ∀ i m σ H, AtL Γ t tt te env src ρ1 H1 Q rest GF i m σ H →
  (J.stop i H ∧ ∃ m', m' ≤ m ∧ Fin m' σ H) ∨ (J.go i H ∧ ∀ x H', J.yld i H x H' → gOf Γ.K t x σ H' fun σ2 H2 => dT Γ wNo tt σ2 H2 fun b H3 =>
    if b = true then dE Γ wNo te σ2 H3 fun v H4 => ∃ b', v = .bl b' ∧ if b' = true then ∃ m', m' < m ∧ Wn (i + 1) m' σ2 H4 else Q (.bl false) H4
    else ∃ m', m' < m ∧ Wn (i + 1) m' σ2 H3) := by
  obtain ⟨G, Y, w, hw⟩ := wd
  rintro i m σ H ⟨ρ2, s2, r, s3, x2, rs2, re2, hi, hr, rfl, hq⟩
  have hok := allL_okS hr
  have hG := (hw ρ2 H s2 x2 rs2 hok).1
  by_cases hlt : i < src.items.length
  · refine .inr ⟨w.goes i H hlt hG, fun x H' hy => ?_⟩
    obtain ⟨d, hd, e⟩ := drop_cons hlt
    rw [e, allL, if_pos hok] at hr
    obtain ⟨x3, rs3, rd3⟩ := (hw ρ2 H s2 x2 rs2 hok).2 i x H' d hd (w.yields i H x H' hlt hG hy)
    have x23 := x2.trans x3
    cases ha : asg t d env with
    | none => rw [ha] at hr; cases hr
    | some env3 =>
      rw [ha] at hr
      simp only at hr
      refine gOf_ok t hh (re2.ext x3) rd3 ha fun σ4 re4 b4 => ⟨ρ2, env3, s2, re4, rs3, ?_⟩
      have reB : REnv Γ ρ2 H' σ4 env := (re2.ext x3).but b4 hv hh
      cases ht : tt env3 s2 with
      | no => rw [ht] at hr; cases hr
      | ex y s' => rw [ht] at hr; cases hr
      | ok b s4 =>
        rw [ht] at hr
        intro ρ5 H5 x5 rs5
        cases b with
        | false =>
          refine ⟨_, ?_, hWn _ _ _ _ ⟨ρ5, s4, r, s3, x23.trans x5, rs5, reB.ext x5, hlt, hr, rfl, hq⟩⟩
          omega
        | true =>
          refine iteT ⟨ρ5, env3, s4, re4.ext x5, rs5, ?_⟩
          simp only at hr
          cases he : te env3 s4 with
          | no => rw [he] at hr; cases hr
          | ex y s' => rw [he] at hr; cases hr
          | ok y s5 =>
            rw [he] at hr
            intro ρ6 H6 v x6 rs6 rd6
            cases y with
            | bl b =>
              cases rd6
              refine ⟨b, rfl, ?_⟩
              cases b with
              | true =>
                refine iteT ⟨_, ?_, hWn _ _ _ _ ⟨ρ6, s5, r, s3, (x23.trans x5).trans x6, rs6, (reB.ext x5).ext x6, hlt, hr, rfl, hq⟩⟩
                omega
              | false =>
                cases hr
                exact hq ρ6 H6 (.bl false) ((x23.trans x5).trans x6) rs6 (.bl _)
            | _ => cases hr
  · have hi' : i = src.items.length := by omega
    subst hi'
    rw [List.drop_length, allL, if_pos hok] at hr
    cases hr
    refine .inl ⟨w.stops H hG, rest s2, ?_, fin ρ2 H σ s2 x2 rs2 re2 hq⟩
    rw [if_pos rfl]
    omega

theorem to_all {P : Addr} {own : List Nat} {it : DIt} (hP : P ∈ Γ.Ps) (hsub : ∀ i ∈ slots t, i ∈ own) (hh : (own.all fun i => Γ.hs.all fun p => p.1 != i) = true) : ∀ σ H Q, dE Γ W (eAll t own it tt te) σ H Q → tAllX P (dI Γ W it) (St1 (gOf Γ.K t) (dT Γ wNo tt) (dE Γ wNo te)) own σ H Q := fun σ H Q ⟨ρ, env, s, re, rs, q⟩ => by
  have hht : ((slots t).all fun i => Γ.hs.all fun p => p.1 != i) = true := List.all_eq_true.mpr fun i hi => List.all_eq_true.mp hh i (hsub i hi)
  refine ⟨ρ, env, s, re, rs, Ans.bindIt q fun src s1 ρ1 H1 J x1 rs1 wd q1 => ?_⟩
  refine ⟨rs1.tab P hP, fun H2 tb => ?_⟩
  obtain ⟨rs2, x2⟩ := rs1.tabbed hP tb
  have re2 := ((re.ext x1).ext x2).wipe own hh
  obtain ⟨r, s3, hr, q2⟩ : ∃ r s3, allL t tt te src.ok (wipeD env own) src.items s1 = .ok r s3 ∧ ∀ ρ' H' v, Ext ρ1 H1 ρ' H' → Rel Γ ρ' H' s3 → RD Γ ρ' H' v (.bl r) → Q v H' := by
    cases hr : allL t tt te src.ok (wipeD env own) src.items s1 with
    | ok r s3 => rw [hr] at q1; exact ⟨r, s3, rfl, q1⟩
    | ex y s3 =>
      exfalso
      exact allL_ex hr
    | no => rw [hr] at q1; exact q1.elim
  refine ⟨AtL Γ t tt te (wipeD env own) src ρ1 H1 Q (fun _ => 0) (fun s' => r = true ∧ s' = s3), ⟨src.items.length, ρ1, s1, r, s3, x2, rs2, re2, Nat.zero_le _, hr, ?_, ?_⟩, turnL_of (rest := fun _ => 0) (GF := fun s' => r = true ∧ s' = s3) wd (fun i hi => wipeD_none (hsub i hi)) hht ?_ fun _ _ _ _ h => h⟩
  · simp
  · cases r with
    | true => exact iteT ⟨rfl, rfl⟩
    | false => exact iteF fun ρ' H' v x rs' rd => q2 ρ' H' v x rs' rd
  · rintro ρ' H' σ' s' x rs' re' ⟨rfl, rfl⟩
    exact q2 ρ' H' (.bl true) x rs' (.bl _)
/-- where the first clause's loop stands, of two -/
def AtO (Γ : Wd) (t : Tg) (tt : DTe) (it1 : DIt) (t1 : Tg) (tt1 : DTe) (te : DEx) (env0 : Env) (src : Src) (ρ1 : List Addr) (H1 : Hp) (r : Bool) (s3 : Sto) (i m : Nat) (σ : L2.St) (H : Hp) : Prop :=
  ∃ ρ2 s2, Ext ρ1 H1 ρ2 H ∧ Rel Γ ρ2 H s2 ∧ REnv Γ ρ2 H σ env0 ∧ i ≤ src.items.length ∧ allL2 t tt it1 t1 tt1 te src.ok env0 (src.items.drop i) s2 = .ok r s3 ∧ m = cost2 t tt it1 t1 tt1 te env0 (src.items.drop i) s2
def AtI (Γ : Wd) (t : Tg) (tt : DTe) (it1 : DIt) (t1 : Tg) (tt1 : DTe) (te : DEx) (env0 : Env) (src : Src) (ρ1 : List Addr) (H1 : Hp) (Q : VK) (r : Bool) (s3 : Sto) (J1 : It) (i j m : Nat) (σ : L2.St) (H : Hp) : Prop :=
  ∃ (src1 : Src) (env1 : Env) (ρ4 : List Addr) (H4 : Hp), env1.length = env0.length ∧ (∀ k, k ∉ slots t → env1[k]? = env0[k]?) ∧ i ≤ src.items.length ∧ Ext ρ1 H1 ρ4 H4 ∧ WalkD Γ J1 ρ4 H4 src1 ∧
      AtL Γ t1 tt1 te env1 src1 ρ4 H4 Q (fun s' => cost2 t tt it1 t1 tt1 te env0 (src.items.drop i) s') (fun s' => allL2 t tt it1 t1 tt1 te src.ok env0 (src.items.drop i) s' = .ok r s3) j m σ H
theorem to_all2 {P : Addr} {own : List Nat} {it : DIt} (hP : P ∈ Γ.Ps) (hsub : ∀ i ∈ slots t, i ∈ own) (hsub1 : ∀ i ∈ slots t1, i ∈ own) (hdis : ∀ i ∈ slots t1, i ∉ slots t) (hh : (own.all fun i => Γ.hs.all fun p => p.1 != i) = true) :
    ∀ σ H Q, dE Γ W (eAll2 t own it tt it1 t1 tt1 te) σ H Q → tAllX P (dI Γ W it) (St2 (gOf Γ.K t) (dT Γ wNo tt) (dI Γ wNo it1) (gOf Γ.K t1) (dT Γ wNo tt1) (dE Γ wNo te)) own σ H Q := fun σ H Q ⟨ρ, env, s, re, rs, q⟩ => by
  have hht : ((slots t).all fun i => Γ.hs.all fun p => p.1 != i) = true := List.all_eq_true.mpr fun i hi => List.all_eq_true.mp hh i (hsub i hi)
  have hht1 : ((slots t1).all fun i => Γ.hs.all fun p => p.1 != i) = true := List.all_eq_true.mpr fun i hi => List.all_eq_true.mp hh i (hsub1 i hi)
  refine ⟨ρ, env, s, re, rs, Ans.bindIt q fun src s1 ρ1 H1 J x1 rs1 wd q1 => ?_⟩
  refine ⟨rs1.tab P hP, fun H2 tb => ?_⟩
  obtain ⟨rs2, x2⟩ := rs1.tabbed hP tb
  have re2 := ((re.ext x1).ext x2).wipe own hh
  obtain ⟨env0, henv0⟩ : ∃ e, wipeD env own = e := ⟨_, rfl⟩
  have hv : ∀ i ∈ slots t, ∀ d, env0[i]? ≠ some (some d) := fun i hi => by rw [← henv0]; exact wipeD_none (hsub i hi)
  have hv1 : ∀ i ∈ slots t1, ∀ d, env0[i]? ≠ some (some d) := fun i hi => by rw [← henv0]; exact wipeD_none (hsub1 i hi)
  rw [henv0] at re2 q1
  obtain ⟨r, s3, hr, q2⟩ : ∃ r s3, allL2 t tt it1 t1 tt1 te src.ok env0 src.items s1 = .ok r s3 ∧ ∀ ρ' H' v, Ext ρ1 H1 ρ' H' → Rel Γ ρ' H' s3 → RD Γ ρ' H' v (.bl r) → Q v H' := by
    cases hr : allL2 t tt it1 t1 tt1 te src.ok env0 src.items s1 with
    | ok r s3 => rw [hr] at q1; exact ⟨r, s3, rfl, q1⟩
    | ex y s3 =>
      exfalso
      exact allL2_ex hr
    | no => rw [hr] at q1; exact q1.elim
  obtain ⟨G, Y, w, hw⟩ := wd
  refine ⟨AtO Γ t tt it1 t1 tt1 te env0 src ρ1 H1 r s3, AtI Γ t tt it1 t1 tt1 te env0 src ρ1 H1 Q r s3,
    ⟨_, ρ1, s1, x2, rs2, re2, Nat.zero_le _, hr, rfl⟩, ?_, ?_⟩
  · rintro i m σ H ⟨ρ2, s2, x2, rs2, re2, hi, hr2, rfl⟩
    have hok := allL2_okS hr2
    have hG := (hw ρ2 H s2 x2 rs2 hok).1
    by_cases hlt : i < src.items.length
    · refine .inr ⟨w.goes i H hlt hG, fun x H' hy => ?_⟩
      obtain ⟨d, hd, e⟩ := drop_cons hlt
      rw [e, allL2, if_pos hok] at hr2
      rw [e, cost2]
      obtain ⟨x3, rs3, rd3⟩ := (hw ρ2 H s2 x2 rs2 hok).2 i x H' d hd (w.yields i H x H' hlt hG hy)
      have x23 := x2.trans x3
      cases ha : asg t d env0 with
      | none => rw [ha] at hr2; cases hr2
      | some env3 =>
        rw [ha] at hr2
        simp only at hr2 ⊢
        refine gOf_ok t hht (re2.ext x3) rd3 ha fun σ4 re4 b4 => ⟨ρ2, env3, s2, re4, rs3, ?_⟩
        have reB : REnv Γ ρ2 H' σ4 env0 := (re2.ext x3).but b4 hv hht
        cases ht : tt env3 s2 with
        | no => rw [ht] at hr2; cases hr2
        | ex y s' => rw [ht] at hr2; cases hr2
        | ok b s4 =>
          rw [ht] at hr2
          intro ρ5 H5 x5 rs5
          cases b with
          | false => exact ⟨cost2 t tt it1 t1 tt1 te env0 (src.items.drop (i + 1)) s4, by simp only; omega, ρ5, s4, x23.trans x5, rs5, reB.ext x5, hlt, hr2, rfl⟩
          | true =>
            refine iteT ⟨ρ5, env3, s4, re4.ext x5, rs5, ?_⟩
            simp only at hr2 ⊢
            cases hi1 : it1 env3 s4 with
            | no => rw [hi1] at hr2; cases hr2
            | ex y s' => rw [hi1] at hr2; cases hr2
            | ok src1 s5 =>
              rw [hi1] at hr2
              intro ρ6 H6 J1 x6 rs6 wd6
              simp only at hr2 ⊢
              have x16 := (x23.trans x5).trans x6
              cases hin : allL t1 tt1 te src1.ok env3 src1.items s5 with
              | no => rw [hin] at hr2; cases hr2
              | ex y s' => rw [hin] at hr2; cases hr2
              | ok r' s6 =>
                rw [hin] at hr2
                refine ⟨src1.items.length + (if r' = true then cost2 t tt it1 t1 tt1 te env0 (src.items.drop (i + 1)) s6 else 0), ?_, src1, env3, ρ6, H6, asg_len t ha, asg_out t ha, hlt, x16, wd6, ρ6, s5, r', s6, Ext.refl _ _, rs6, (re4.ext x5).ext x6, Nat.zero_le _, hin, by simp, ?_⟩
                · cases r' with
                  | true => simp
                  | false => simp
                · cases r' with
                  | true => exact iteT hr2
                  | false =>
                    cases hr2
                    exact iteF fun ρ' H' v x rs' rd => q2 ρ' H' v (x16.trans x) rs' rd
    · have hi' : i = src.items.length := by omega
      subst hi'
      rw [List.drop_length, allL2, if_pos hok] at hr2
      cases hr2
      exact .inl ⟨w.stops H hG, q2 ρ2 H (.bl true) x2 rs2 (.bl _)⟩
  · intro J1 i j m σ H hw1
    obtain ⟨src1, env1, ρ4, H4, hl1, he1, hi, x4, wd4, hw1⟩ := hw1
    have hv1' : ∀ k ∈ slots t1, ∀ d, env1[k]? ≠ some (some d) := fun k hk d => by
      rw [he1 k (hdis k hk)]
      exact hv1 k hk d
    refine turnL_of (Fin := AtO Γ t tt it1 t1 tt1 te env0 src ρ1 H1 r s3 i) (Wn := AtI Γ t tt it1 t1 tt1 te env0 src ρ1 H1 Q r s3 J1 i) wd4 hv1' hht1 (fun ρ' H' σ' s' x rs' re' gf => ⟨ρ', s', x4.trans x, rs', ⟨re'.len.trans hl1, fun k d e => ?_, re'.hs⟩, hi, gf, rfl⟩) (fun j m σ H h => ⟨src1, env1, ρ4, H4, hl1, he1, hi, x4, wd4, h⟩) j m σ H hw1
    by_cases hk : k ∈ slots t
    · exact absurd e (hv k hk d)
    · rw [← he1 k hk] at e
      exact re'.at_ k d e

end
section
variable {X : Cx} {Γ : Wd} {W : WX} {c P : Addr} {tg tg1 elt iter iter1 : Expr} {ifs ifs1 : List Expr} {p pos gpos : Pos} {scope : Scope} {own : List (Str × Nat)} {k : Nat} {t t1 : Tg} {tt tt1 : DTe} {te : DEx} {it it1 : DIt}
/-- all(elt for tg in iter if ..) -/
theorem de_all (hP : P ∈ Γ.Ps) (hK : X.K = Γ.K) (hr : Room (k + 1) X.A) (hgd : X.A.guards = some []) (hgl : Gl X "all") (hm : X.mg "all" = none) (TB : TabB X.base X.mg c P) (hcode : X.env.code = .ref c) (S : GenS scope) (ok : BlkOk X.N X.env.scope scope own) (hN : X.N.Nodup) (hi : PI X tg iter (dI Γ W it))
    (hb : ∀ A' s4 H4 cenv fp, cenv.scope = scope → Room k A' → A'.guards = some [] → PG (gcx X A' s4 H4 cenv fp) tg (gOf X.K t) ∧ PTs (gcx X A' s4 H4 cenv fp) ifs (dT Γ wNo tt) ∧ PE (gcx X A' s4 H4 cenv fp) elt (dE Γ wNo te))
    (hs : ∀ v, genFold iter X.env v = pure v := by intro _; rfl) (hsub : ∀ i ∈ slots t, i ∈ own.map (·.2) := by decide) (hh : ((own.map (·.2)).all fun i => Γ.hs.all fun p => p.1 != i) = true := by rfl)
    (hse : starEach [.GeneratorExp elt [⟨tg, iter, ifs, 0⟩] scope gpos] X.env = (false, eval (.GeneratorExp elt [⟨tg, iter, ifs, 0⟩] scope gpos) X.env) :: starEach [] X.env := by rfl) :
    PE X (.Call (.Name "all" p) [.GeneratorExp elt [⟨tg, iter, ifs, 0⟩] scope gpos] [] pos) (dE Γ W (eAll t (own.map (·.2)) it tt te)) := by
  rw [hK] at hb
  refine PE.weak (pe_allX hr hgd hgl hm TB hcode S ok hN hi (fun A' s4 H4 cenv fp hsc hR hG => ?_) hs hse) (to_all hP hsub hh)
  obtain ⟨h1, h2, h3⟩ := hb A' s4 H4 cenv fp hsc hR hG
  exact starts1 rfl rfl (by show cenv.scope.isCoroutine = false; rw [hsc]; exact S.co) h1 h2 h3
/-- all(elt for tg in iter if .. for tg1 in iter1 if ..) -/
theorem de_all2 (hP : P ∈ Γ.Ps) (hK : X.K = Γ.K) (hr : Room (k + 1) X.A) (hgd : X.A.guards = some []) (hgl : Gl X "all") (hm : X.mg "all" = none) (TB : TabB X.base X.mg c P) (hcode : X.env.code = .ref c) (S : GenS scope) (ok : BlkOk X.N X.env.scope scope own) (hN : X.N.Nodup) (hi : PI X tg iter (dI Γ W it))
    (hb : ∀ A' s4 H4 cenv fp, cenv.scope = scope → Room k A' → A'.guards = some [] → PG (gcx X A' s4 H4 cenv fp) tg (gOf X.K t) ∧ PTs (gcx X A' s4 H4 cenv fp) ifs (dT Γ wNo tt) ∧ PI (gcx X A' s4 H4 cenv fp) tg1 iter1 (dI Γ wNo it1) ∧ PG (gcx X A' s4 H4 cenv fp) tg1 (gOf X.K t1) ∧ PTs (gcx X A' s4 H4 cenv fp) ifs1 (dT Γ wNo tt1) ∧ PE (gcx X A' s4 H4 cenv fp) elt (dE Γ wNo te))
    (hs : ∀ v, genFold iter X.env v = pure v := by intro _; rfl) (hs1 : ∀ env v, foldedSetIterable iter1 env v = pure v := by intro _ _; rfl) (hsub : ∀ i ∈ slots t, i ∈ own.map (·.2) := by decide) (hsub1 : ∀ i ∈ slots t1, i ∈ own.map (·.2) := by decide) (hdis : ∀ i ∈ slots t1, i ∉ slots t := by decide) (hh : ((own.map (·.2)).all fun i => Γ.hs.all fun p => p.1 != i) = true := by rfl)
    (hse : starEach [.GeneratorExp elt [⟨tg, iter, ifs, 0⟩, ⟨tg1, iter1, ifs1, 0⟩] scope gpos] X.env = (false, eval (.GeneratorExp elt [⟨tg, iter, ifs, 0⟩, ⟨tg1, iter1, ifs1, 0⟩] scope gpos) X.env) :: starEach [] X.env := by rfl) :
    PE X (.Call (.Name "all" p) [.GeneratorExp elt [⟨tg, iter, ifs, 0⟩, ⟨tg1, iter1, ifs1, 0⟩] scope gpos] [] pos) (dE Γ W (eAll2 t (own.map (·.2)) it tt it1 t1 tt1 te)) := by
  rw [hK] at hb
  refine PE.weak (pe_allX hr hgd hgl hm TB hcode S ok hN hi (fun A' s4 H4 cenv fp hsc hR hG => ?_) hs hse) (to_all2 hP hsub hsub1 hdis hh)
  obtain ⟨h1, h2, h3, h4, h5, h6⟩ := hb A' s4 H4 cenv fp hsc hR hG
  exact starts2 rfl rfl (by show cenv.scope.isCoroutine = false; rw [hsc]; exact S.co) h1 h2 h3 h4 h5 h6 (hs1 _)
end
/-! ### several dicts locked -/
def eLocks (is : List Nat) (f : DEx) : DEx := match is with
  | [] => f
  | i :: is => eLock (eC (.ref i)) (eLocks is f)
theorem de_locks {X : Cx} {Γ : Wd} {W : WX} {e : Expr} {f : DEx} (h : PE X e (dE Γ W f)) : ∀ (is : List Nat), PE X e (dE Γ W (eLocks is f))
  | [] => h
  | i :: is => de_lock _ (de_locks h is)
def eLockA (g : Env → Sto → List Nat) (f : DEx) : DEx := fun env s => eLocks (g env s) f env s
theorem de_lockA {X : Cx} {Γ : Wd} {W : WX} {e : Expr} {f : DEx} (g : Env → Sto → List Nat) (h : PE X e (dE Γ W f)) : PE X e (dE Γ W (eLockA g f)) :=
  ⟨fun pins s σ H Q I ⟨ρ, env, s', re, rs, q⟩ => (de_locks h (g env s')).run pins s σ H Q I ⟨ρ, env, s', re, rs, q⟩⟩
end DL
set_option maxHeartbeats 4000000
/-! More rules: chains, displays, a written dict's get, len(set(..)), zip, repr, try that raises nothing -/
namespace DL
open PySem PySem.Spec PyProof.Rows L2 HM
section
variable {X : Cx} {Γ : Wd} {W : WX} {a b c e : Expr} {f g h : DEx} {pos : Pos}
theorem de_chainLe (ha : PE X a (dE Γ W f)) (hb : PE X b (dE Γ W g)) (hc : PE X c (dE Γ W h)) (hm : lastMarks [.LtE, .LtE] [b, c] = false := by with_unfolding_all rfl) : PE X (.Compare a [.LtE, .LtE] [b, c] pos) (dE Γ W (eChain oLe oLe f g h)) :=
  PE.weak (pe_chain op_le2 op_le2 ha hb hc hm) (to_chain op2_le op2_le)
/-- a truth asked: the value of an expression that is a truth -/
def tB (f : DEx) : DTe := fun env s => (f env s).bind fun x s1 => match x with
  | .bl b => .ok b s1
  | _ => .no
theorem dt_chainLe (ha : PE X a (dE Γ W f)) (hb : PE X b (dE Γ W g)) (hc : PE X c (dE Γ W h)) (hm : lastMarks [.LtE, .LtE] [b, c] = false := by with_unfolding_all rfl) : PT X (.Compare a [.LtE, .LtE] [b, c] pos) (dT Γ W (tB (eChain oLe oLe f g h))) :=
  PT.weak (pt_chain op_le2 op_le2 ha hb hc hm) fun σ H Q ⟨ρ, env, s, re, rs, q⟩ => by
    refine to_chain op2_le op2_le σ H _ ⟨ρ, env, s, re, rs, (Ans.bindB q).mono ?_⟩
    rintro v H1 ⟨ρ1, s1, d1, x1, rs1, rd1, q1⟩
    cases d1 with
    | bl b =>
      cases rd1
      exact ⟨b, rfl, q1 ρ1 H1 (Ext.refl _ _) rs1⟩
    | _ => exact q1.elim
/-! ### {'a': e, ..} -/
def pairsD : List (Str × DEx) → Env → Sto → Res (List (Key × D))
  | [], _, s => .ok [] s
  | (k, f) :: r, env, s => (f env s).bind fun v s1 => (pairsD r env s1).bind fun kvs s2 => .ok ((.inr k, v) :: kvs) s2
def mergeD (kvs more : List (Key × D)) : List (Key × D) := more.foldl (fun acc kv => putD acc kv.1 kv.2) kvs
theorem RKs.merge {ρ : List Addr} {H : Hp} : ∀ {ms : List (Key × V)} {ds : List (Key × D)} {vs : List (Key × V)} {es : List (Key × D)}, RKs Γ ρ H ms ds → RKs Γ ρ H vs es → RKs Γ ρ H (mergeK vs ms) (mergeD es ds)
  | _, _, _, _, .nil, r => r
  | _, _, vs, es, .cons (k := k) (v := v) (d := d) (vs := ms) (ds := ds) hd hr, r => by
    show RKs Γ ρ H (mergeK (putK vs k v) ms) (mergeD (putD es k d) ds)
    exact RKs.merge hr (r.put hd k)
def eDisp (kfs : List (Str × DEx)) : DEx := fun env s => (pairsD kfs env (s ++ [.dct []])).bind fun kvs s2 => match s2[s.length]? with
  | some (.dct []) => .ok (.ref s.length) (s2.set s.length (.dct (mergeD [] kvs)))
  | _ => .no
def AnsP (Γ : Wd) (W : WX) (σ : L2.St) (ρ : List Addr) (H : Hp) (r : Res (List (Key × D))) (Q : List (Key × V) → Hp → Prop) : Prop := match r with
  | .ok ds s => ∀ ρ' H' vs, Ext ρ H ρ' H' → Rel Γ ρ' H' s → RKs Γ ρ' H' vs ds → Q vs H'
  | .ex x s => ∀ ρ' H' c d, Ext ρ H ρ' H' → Rel Γ ρ' H' s → RX Γ ρ' H' c d x → W c d σ H'
  | .no => False
theorem AnsP.ext {σ : L2.St} {ρ ρ1 : List Addr} {H H1 : Hp} {r : Res (List (Key × D))} {Q : List (Key × V) → Hp → Prop} (h : AnsP Γ W σ ρ H r Q) (x : Ext ρ H ρ1 H1) : AnsP Γ W σ ρ1 H1 r Q := by
  cases r with
  | ok d s => exact fun ρ' H' v y => h ρ' H' v (x.trans y)
  | ex e s => exact fun ρ' H' c d y => h ρ' H' c d (x.trans y)
  | no => exact h
theorem pairs_ok {σ : L2.St} {env : Env} : ∀ (kfs : List (Str × DEx)) {ρ : List Addr} {H : Hp} {s : Sto} {Q : List (Key × V) → Hp → Prop} {P : List (V × V) → Hp → Prop}, REnv Γ ρ H σ env → Rel Γ ρ H s → AnsP Γ W σ ρ H (pairsD kfs env s) Q →
    (∀ kvs H2, kvs.length = kfs.length → Q kvs H2 → P (kvs.map fun kv => (kV kv.1, kv.2)) H2) → tPairs (kfs.map fun kf => (tC (.str kf.1), dE Γ W kf.2)) σ H P
  | [], ρ, H, s, Q, P, re, rs, q, hP => hP [] H rfl (q ρ H [] (Ext.refl _ _) rs .nil)
  | (k, f) :: r, ρ, H, s, Q, P, re, rs, q, hP => by
    refine ⟨ρ, env, s, re, rs, ?_⟩
    unfold pairsD at q
    show Ans Γ W σ ρ H (f env s) _
    cases hf : f env s with
    | no => rw [hf] at q; exact q.elim
    | ex y s' => rw [hf] at q; exact q
    | ok d s1 =>
      rw [hf] at q
      intro ρ1 H1 v x1 rs1 rd1
      have q1 := AnsP.ext (r := (pairsD r env s1).bind fun kvs s2 => .ok ((.inr k, d) :: kvs) s2) q x1
      refine pairs_ok (env := env) (σ := σ) r (Q := fun kvs H2 => Q ((.inr k, v) :: kvs) H2) (re.ext x1) rs1 ?_ fun kvs H2 hl q2 => hP ((.inr k, v) :: kvs) H2 (by rw [List.length_cons, List.length_cons, hl]) q2
      cases hp : pairsD r env s1 with
      | no => rw [hp] at q1; exact q1.elim
      | ex y s' => rw [hp] at q1; exact q1
      | ok ds s2 =>
        rw [hp] at q1
        exact fun ρ2 H2 vs x2 rs2 rk2 => q1 ρ2 H2 _ x2 rs2 (.cons (rd1.ext x2) rk2)
theorem to_disp (kfs : List (Str × DEx)) (hl : kfs.length ≤ 15) : ∀ σ H Q, dE Γ W (eDisp kfs) σ H Q → tDisp (kfs.map fun kf => (tC (.str kf.1), dE Γ W kf.2)) σ H Q := fun σ H Q ⟨ρ, env, s, re, rs, q⟩ p hp => by
  have xn : Ext ρ H (ρ ++ [p]) (upd H p (.dK [])) := Ext.new hp (List.prefix_append _ _)
  have rsn := rs.new (o := .dct []) (u := .dK []) hp (RU.mkD .nil)
  have atn : (ρ ++ [p])[s.length]? = some p := by rw [← rs.len]; exact new_at
  unfold eDisp at q
  refine pairs_ok kfs (Q := fun kvs H2 => ∃ ρ2 s2 ds, Ext (ρ ++ [p]) (upd H p (.dK [])) ρ2 H2 ∧ Rel Γ ρ2 H2 s2 ∧ RKs Γ ρ2 H2 kvs ds ∧ Ans Γ W σ ρ2 H2 (match s2[s.length]? with
    | some (.dct []) => .ok (.ref s.length) (s2.set s.length (.dct (mergeD [] ds)))
    | _ => .no) Q) (re.ext xn) rsn ?_ ?_
  · cases hd : pairsD kfs env (s ++ [.dct []]) with
    | no => rw [hd] at q; exact q.elim
    | ex y s' =>
      rw [hd] at q
      exact fun ρ' H' c d x => q ρ' H' c d (xn.trans x)
    | ok ds s2 =>
      rw [hd] at q
      exact fun ρ2 H2 vs x2 rs2 rk2 => ⟨ρ2, s2, ds, x2, rs2, rk2, Ans.ext q (xn.trans x2)⟩
  · rintro kvs H2 hk ⟨ρ2, s2, ds, x2, rs2, rk2, q2⟩
    split at q2
    · rename_i hs
      obtain ⟨u, hu, n⟩ := rs2.at (x2.at atn) hs
      obtain ⟨vs, rfl, rv⟩ := n
      cases rv
      refine ⟨hu, kvs, rfl, by omega, ?_⟩
      exact q2 ρ2 _ (.ref p) (Ext.put hu rfl) (rs2.put (x2.at atn) hu rfl (RU.mkD (rk2.merge .nil))) (.ref (x2.at atn))
    · exact q2.elim
theorem de_disp {keys : List (Option Expr)} {values : List Expr} (kfs : List (Str × DEx)) (hp : PPs X pos keys values (kfs.map fun kf => (tC (.str kf.1), dE Γ W kf.2))) (hall : keys.all (·.isSome) = true := by rfl) (hl : keys.length = values.length := by rfl) (h0 : keys ≠ [] := by exact List.cons_ne_nil _ _)
    (h15 : keys.length ≤ 15 := by decide) (hk : kfs.length ≤ 15 := by decide) : PE X (.Dict keys values pos) (dE Γ W (eDisp kfs)) := PE.weak (pe_disp hp hall hl h0 h15) (to_disp kfs hk)
/-! ### a written dict's get -/
def eKget (tb : List (Str × D)) (f : DEx) : DEx := fun env s => (f env s).bind fun x s1 => match x with
  | .str z => .ok ((tb.lookup z).getD .non) s1
  | _ => .no
/-- what is known of a dict of the written part -/
structure KDic (Γ : Wd) (w : World) (p : Addr) (tb : List (Str × D)) : Prop where
  es : ∃ (es : Array DictEntry) (n : Nat), Γ.K.lookup p = some ⟨.type "dict", none, .dict es n, #[]⟩
  get : ∀ z, ∃ o, XD.KGet Γ.K w p z o ∧ match tb.lookup z with
    | some d => ∃ v, o = some v ∧ ∀ ρ H, RD Γ ρ H v d
    | none => o = none
theorem de_kget {x : Str} {xp apos cpos : Pos} {p : Addr} {tb : List (Str × D)} (hK : X.K = Γ.K) (kd : KDic Γ X.w p tb) (hg : Gl X x) (hm : X.mg x = some (.ref p)) (he : PE X e (dE Γ W f)) (m : M1 X (.Name x xp) "get" apos e cpos) (hd : (x == ("__debug__" : Str)) = false := by decide) :
    PE X (.Call (.Attribute (.Name x xp) "get" apos) [e] [] cpos) (dE Γ W (eKget tb f)) := by
  refine PE.weak (XD.pe_kget (pe_glob hg hm (v := .ref p) rfl hd) he m) fun σ H Q ⟨ρ, env, s, re, rs, q⟩ => ?_
  obtain ⟨es, n, he⟩ := kd.es
  rw [hK]
  refine ⟨p, es, n, rfl, he, ρ, env, s, re, rs, (Ans.bind q).mono ?_⟩
  rintro v H1 ⟨ρ1, s1, d1, x1, rs1, rd1, q1⟩
  cases d1 with
  | str z =>
    cases rd1
    obtain ⟨o, h1, h2⟩ := kd.get z
    refine ⟨z, o, rfl, h1, ?_⟩
    have q2 := q1
    cases hz : tb.lookup z with
    | some d =>
      rw [hz] at h2
      obtain ⟨v, rfl, h3⟩ := h2
      refine q1 ρ1 H1 v (Ext.refl _ _) rs1 ?_
      rw [hz]
      exact h3 _ _
    | none =>
      rw [hz] at h2
      subst h2
      refine q1 ρ1 H1 .non (Ext.refl _ _) rs1 ?_
      rw [hz]
      exact .non
  | _ => exact q1.elim
/-! ### len(set(..)) of a tuple of texts -/
def eLenSet (f : DEx) : DEx := fun env s => (f env s).bind fun x s1 => match x with
  | .tup xs => match strsD xs with
    | some ys => if ys.length < 1000 then .ok (.int (XE.dst ys ys.length : Nat)) s1 else .no
    | none => .no
  | _ => .no
theorem de_lenSet {p p2 q : Pos} (hK : X.K = Γ.K) (hc : X.calm = true) (hg : Gl X "len") (hm : X.mg "len" = none) (hg2 : Gl X "set") (hm2 : X.mg "set" = none) (ha : PE X a (dE Γ W f)) (na : starEach [a] X.env = (false, eval a X.env) :: starEach [] X.env := by rfl) :
    PE X (.Call (.Name "len" p) [.Call (.Name "set" p2) [a] [] q] [] pos) (dE Γ W (eLenSet f)) := by
  refine PE.weak (XE.pe_lenSetS hc hg hm hg2 hm2 ha na) fun σ H Q ⟨ρ, env, s, re, rs, q⟩ => ?_
  refine ⟨ρ, env, s, re, rs, (Ans.bind q).mono ?_⟩
  rintro v H1 ⟨ρ1, s1, d1, x1, rs1, rd1, q1⟩
  cases d1 with
  | tup xs =>
    simp only at q1
    split at q1
    · rename_i ys hy
      split at q1
      · rename_i hl
        cases rd1 with
        | tup h1 h2 =>
          have e := strsD_of h2 hy
          subst e
          exact ⟨_, ys, rfl, SqT.of h1, hl, q1 ρ1 H1 (.int _) (Ext.refl _ _) rs1 (.int _)⟩
      · exact q1.elim
    · exact q1.elim
  | _ => exact q1.elim
/-! ### zip -/
def seqT : D → Option (List D)
  | .tup xs => some xs
  | .ktup xs => some xs
  | _ => none
def iZip (t : DAr) : DIt := fun env s => (t env s).bind fun ds s1 => match ds with
  | [.tup xs, y] => match seqT y with
    | some ys => .ok ⟨zipD xs ys, fun _ => True⟩ s1
    | none => .no
  | _ => .no
theorem di_zip {e e2 : Expr} {t : DAr} {p tpos : Pos} {elts : List Expr} {kk : Nat} (hK : X.K = Γ.K) (hg : Gl X "zip") (hm : X.mg "zip" = none) (ha : PA X [e, e2] (dA Γ W t))
    (hs : starEach [e, e2] X.env = (false, eval e X.env) :: starEach [e2] X.env := by rfl) (hpl : (backTo pos (starEach [e2] X.env)).any (·.1) = false := by rfl) :
    PI X (.Tuple elts kk tpos) (.Call (.Name "zip" p) [e, e2] [] pos) (dI Γ W (iZip t)) := by
  refine PI.weak (RZ.pi_zipA hg hm ha hs hpl) fun σ H R ⟨ρ, env, s, re, rs, q⟩ => ?_
  refine ⟨ρ, env, s, re, rs, (AnsA.bindI q).mono ?_⟩
  rintro vs H1 ⟨ρ1, s1, ds, x1, rs1, rd1, q1⟩
  split at q1
  · rename_i xs y
    obtain ⟨v, w, rfl, h1, h2⟩ := rd1.two_inv
    split at q1
    · rename_i ys hy
      rw [hK]
      cases h1 with
      | @tup a va _ ha rv =>
        cases y with
        | tup ys2 =>
          cases hy
          cases h2 with
          | tup hb rw' => exact ⟨_, _, _, _, rfl, .inr ⟨SqT.of ha, SqT.of hb, q1 ρ1 H1 _ (Ext.refl _ _) rs1 (walkD_zipT ha rv (.inr hb) rw')⟩⟩
        | ktup ys2 =>
          cases hy
          cases h2 with
          | ktup hb rw' => exact ⟨_, _, _, _, rfl, .inr ⟨SqT.of ha, hb.sq, q1 ρ1 H1 _ (Ext.refl _ _) rs1 (walkD_zipT ha rv (.inl hb) rw')⟩⟩
        | _ => cases hy
    · exact q1.elim
  · exact q1.elim
/-! ### try whose suite raises nothing -/
def sThru (j : DSt) : DSt := fun env s => match j env s with
  | .ex _ _ _ => .no
  | r => r
theorem ds_thru {body : List Stmt} {h₀ : ExceptHandler} {hs : List ExceptHandler} {j : DSt} (hb : PSs X.nox body (dS Γ wNo j)) : PS X (.Try body (h₀ :: hs) [] [] pos) (dS Γ W (sThru j)) :=
  PS.weak (ps_try_thru0 hb) fun E σ H ⟨ρ, env, s, re, rs, q⟩ => by
    refine ⟨ρ, env, s, re, rs, ?_⟩
    unfold sThru at q
    cases hj : j env s with
    | ex y e s' => rw [hj] at q; exact q.elim
    | no => rw [hj] at q; exact q.elim
    | nx e s' => rw [hj] at q; exact q
    | rt e s' => rw [hj] at q; exact q
    | bk e s' => rw [hj] at q; exact q
    | ct e s' => rw [hj] at q; exact q
def sThruF (j k : DSt) : DSt := fun env s => match j env s with
  | .nx env1 s1 => match k env1 s1 with
    | .ex _ _ _ => .no
    | r => r
  | _ => .no
theorem ds_thruF {body : List Stmt} {h₀ : ExceptHandler} {hs : List ExceptHandler} {f₀ : Stmt} {fs : List Stmt} {j k : DSt} (hb : PSs X.nox body (dS Γ wNo j)) (hf : PSs X.nox (f₀ :: fs) (dS Γ wNo k)) : PS X (.Try body (h₀ :: hs) [] (f₀ :: fs) pos) (dS Γ W (sThruF j k)) :=
  PS.weak (XF.ps_try_thruF hb hf) fun E σ H ⟨ρ, env, s, re, rs, q⟩ => by
    refine ⟨ρ, env, s, re, rs, ?_⟩
    unfold sThruF at q
    cases hj : j env s with
    | ex y e s' => rw [hj] at q; exact q.elim
    | no => rw [hj] at q; exact q.elim
    | rt e s' => rw [hj] at q; exact q.elim
    | bk e s' => rw [hj] at q; exact q.elim
    | ct e s' => rw [hj] at q; exact q.elim
    | nx e1 s1 =>
      rw [hj] at q
      intro ρ1 H1 σ1 x1 rs1 re1
      refine ⟨ρ1, e1, s1, re1, rs1, ?_⟩
      have q1 := AnsS.ext q x1
      cases hk : k e1 s1 with
      | ex y e s' => simp only [hk] at q1; exact q1.elim
      | no => simp only [hk] at q1; exact q1.elim
      | nx e s' => simp only [hk] at q1; exact q1
      | rt e s' => simp only [hk] at q1; exact q1
      | bk e s' => simp only [hk] at q1; exact q1
      | ct e s' => simp only [hk] at q1; exact q1
end
end DL
set_option maxHeartbeats 4000000
/-! repr of data: numbers, texts, tuples, lists, dicts -/
namespace DL
open PySem PySem.Spec PyProof.Rows L2 HM
def keyP : Key → PyData
  | .inl i => .int i
  | .inr x => .str x
mutual
/-- data, as it stands in the heap -/
inductive Rp (K : PySem.W.Frag) (H : Hp) : V → PyData → Prop
  | non : Rp K H .non .none
  | bl (b : Bool) : Rp K H (.bl b) (.bool b)
  | int (i : Int) : Rp K H (.int i) (.int i)
  | str (x : Str) : Rp K H (.str x) (.str x)
  | tup {a : Addr} {vs : List V} {ds : List PyData} : SqT K H a vs → Rps K H vs ds → Rp K H (.ref a) (.tuple ds)
  | lst {a : Addr} {vs : List V} {ds : List PyData} : Rd H a (.lst vs) → Rps K H vs ds → Rp K H (.ref a) (.list ds)
  | dct {a : Addr} {vs : List (Key × V)} {ds : List PyData} : Rd H a (.dK vs) → Rps K H (vs.map (·.2)) ds → Rp K H (.ref a) (.dict ((vs.map fun kv => keyP kv.1).zip ds))
inductive Rps (K : PySem.W.Frag) (H : Hp) : List V → List PyData → Prop
  | nil : Rps K H [] []
  | cons {v : V} {d : PyData} {vs : List V} {ds : List PyData} : Rp K H v d → Rps K H vs ds → Rps K H (v :: vs) (d :: ds)
end
mutual
inductive PyR (s : Sto) : D → PyData → Prop
  | non : PyR s .non .none
  | bl (b : Bool) : PyR s (.bl b) (.bool b)
  | int (i : Int) : PyR s (.int i) (.int i)
  | str (x : Str) : PyR s (.str x) (.str x)
  | tup {xs : List D} {ds : List PyData} : PyRs s xs ds → PyR s (.tup xs) (.tuple ds)
  | ktup {xs : List D} {ds : List PyData} : PyRs s xs ds → PyR s (.ktup xs) (.tuple ds)
  | lst {i : Nat} {xs : List D} {ds : List PyData} : rdL s i = some xs → PyRs s xs ds → PyR s (.ref i) (.list ds)
  | dct {i : Nat} {xs : List (Key × D)} {ds : List PyData} : rdD s i = some xs → PyRs s (xs.map (·.2)) ds → PyR s (.ref i) (.dict ((xs.map fun kv => keyP kv.1).zip ds))
inductive PyRs (s : Sto) : List D → List PyData → Prop
  | nil : PyRs s [] []
  | cons {x : D} {d : PyData} {xs : List D} {ds : List PyData} : PyR s x d → PyRs s xs ds → PyRs s (x :: xs) (d :: ds)
end
theorem rdL_rdD {s : Sto} {i : Nat} {xs : List D} {kvs : List (Key × D)} (h : rdL s i = some xs) (h' : rdD s i = some kvs) : False := by
  unfold rdL at h
  unfold rdD at h'
  split at h
  · rename_i ys e
    rw [e] at h'
    cases h'
  · rename_i ys e
    rw [e] at h'
    cases h'
  · cases h
mutual
theorem PyR.fn {s : Sto} : ∀ {x : D} {d e : PyData}, PyR s x d → PyR s x e → d = e
  | _, _, _, .non, .non => rfl
  | _, _, _, .bl _, .bl _ => rfl
  | _, _, _, .int _, .int _ => rfl
  | _, _, _, .str _, .str _ => rfl
  | _, _, _, .tup h, .tup h' => by rw [PyRs.fn h h']
  | _, _, _, .ktup h, .ktup h' => by rw [PyRs.fn h h']
  | _, _, _, .lst a h, .lst b h' => by
    rw [a] at b
    cases b
    rw [PyRs.fn h h']
  | _, _, _, .dct a h, .dct b h' => by
    rw [a] at b
    cases b
    rw [PyRs.fn h h']
  | _, _, _, .lst a _, .dct b _ => (rdL_rdD a b).elim
  | _, _, _, .dct a _, .lst b _ => (rdL_rdD b a).elim
theorem PyRs.fn {s : Sto} : ∀ {x : List D} {d e : List PyData}, PyRs s x d → PyRs s x e → d = e
  | _, _, _, .nil, .nil => rfl
  | _, _, _, .cons h r, .cons h' r' => by rw [PyR.fn h h', PyRs.fn r r']
end
theorem RKs.vals {Γ : Wd} {ρ : List Addr} {H : Hp} : ∀ {vs : List (Key × V)} {ds : List (Key × D)}, RKs Γ ρ H vs ds → RDs Γ ρ H (vs.map (·.2)) (ds.map (·.2))
  | _, _, .nil => .nil
  | _, _, .cons h r => .cons h r.vals
mutual
theorem PyR.rp {Γ : Wd} {ρ : List Addr} {H : Hp} {s : Sto} (r : Rel Γ ρ H s) : ∀ {x : D} {d : PyData} {v : V}, PyR s x d → RD Γ ρ H v x → Rp Γ.K H v d
  | _, _, _, .non, .non => .non
  | _, _, _, .bl b, .bl _ => .bl b
  | _, _, _, .int b, .int _ => .int b
  | _, _, _, .str b, .str _ => .str b
  | _, _, _, .tup h, .tup a q => .tup (SqT.of a) (PyRs.rp r h q)
  | _, _, _, .ktup h, .ktup a q => .tup a.sq (PyRs.rp r h q)
  | _, _, _, .lst e h, hv => by
    obtain ⟨a, vs, rfl, ha, h1, rv⟩ := rel_rdL r e hv
    exact .lst h1 (PyRs.rp r h rv)
  | _, _, _, .dct e h, hv => by
    obtain ⟨a, vs, rfl, ha, h1, rv⟩ := rel_rdD r e hv
    have hk := rv.keys
    rename_i xs ds
    have e2 : (xs.map fun kv => keyP kv.1) = vs.map fun kv => keyP kv.1 := by
      have : (xs.map (·.1)).map keyP = (vs.map (·.1)).map keyP := by rw [hk]
      rw [List.map_map, List.map_map] at this
      exact this
    rw [e2]
    exact .dct h1 (PyRs.rp r h rv.vals)
theorem PyRs.rp {Γ : Wd} {ρ : List Addr} {H : Hp} {s : Sto} (r : Rel Γ ρ H s) : ∀ {x : List D} {d : List PyData} {v : List V}, PyRs s x d → RDs Γ ρ H v x → Rps Γ.K H v d
  | _, _, _, .nil, .nil => .nil
  | _, _, _, .cons h t, .cons q u => .cons (PyR.rp r h q) (PyRs.rp r t u)
end
section
variable {X : Cx} {pins : List (Addr × Obj)} {σ : L2.St} {H : Hp} {s : Shared}
theorem rd_some {a : Addr} {u : HO} (h : Rd H a u) : ∃ o, H a = some o := by
  rcases h with h | ⟨o, h⟩
  · exact ⟨_, h⟩
  · exact ⟨_, h⟩
theorem Rps.length {K : PySem.W.Frag} {H : Hp} : ∀ {vs : List V} {ds : List PyData}, Rps K H vs ds → vs.length = ds.length
  | _, _, .nil => rfl
  | _, _, .cons _ r => by rw [List.length_cons, List.length_cons, r.length]
theorem keys_reads {w : World} {P : Program} {h : Heap} : ∀ {es : List DictEntry} {vs : List (Key × Value)} {ks : List (Key × V)}, KV ks vs → Pairs (mixKind P w) es vs → ReadsAll h (es.map (·.key)) (ks.map fun kv => keyP kv.1) [] ∧ Vals (ks.map (·.2)) (es.map (·.val))
  | _, _, _, .nil, .nil => ⟨.nil, .nil⟩
  | e :: es, (k, u) :: vs, (k', v) :: ks, .cons hkv hr, .cons hk hvl hp => by
    obtain ⟨ek, hv⟩ := hkv
    have ek : k' = k := ek
    subst ek
    obtain ⟨h1, h2⟩ := keys_reads (h := h) hr hp
    refine ⟨?_, .cons (by show L2.RelV v e.val; rw [hvl]; exact hv) h2⟩
    have hk' : keyIs k' e.key = true := hk
    have rk : Reads h e.key (keyP k') [] := by
      rcases keyIs_shape hk' with ⟨i, t, rfl, e2⟩ | ⟨x, t, rfl, e2⟩
      · rw [e2]
        exact .int i t
      · rw [e2]
        exact .str x t
    exact ReadsAll.cons rk h1
mutual
theorem Rp.reads (I : Inv X pins σ H s) : ∀ {d : PyData} {v : V} {u : Value}, Rp X.K H v d → RelV v u → ∃ as, Reads s.heap u d as ∧ ∀ a ∈ as, ∃ o, H a = some o
  | _, _, _, .non, r => by
    cases r
    exact ⟨_, Reads.none, by simp⟩
  | _, _, _, .bl b, r => by
    cases r
    exact ⟨_, Reads.bool b, by simp⟩
  | _, _, _, .int i, r => by
    obtain ⟨t, rfl⟩ := r
    exact ⟨_, Reads.int i t, by simp⟩
  | _, _, _, .str x, r => by
    obtain ⟨t, rfl⟩ := r
    exact ⟨_, Reads.str x t, by simp⟩
  | _, _, _, .tup hs ha, r => by
    cases r
    obtain ⟨its, rv, ⟨o, ho, hc, n, hd⟩, _⟩ := I.tuple hs
    obtain ⟨as, hr, hm⟩ := Rps.reads I ha rv
    exact ⟨_, Reads.tuple ho hc hd hr, hm⟩
  | _, _, _, .lst hs ha, r => by
    cases r
    obtain ⟨its, rv, ⟨o, n, ho, hc, _, hd⟩, _⟩ := I.list (.inl hs)
    obtain ⟨as, hr, hm⟩ := Rps.reads I ha rv
    exact ⟨_, Reads.list ho hc hd hr, fun a h => (List.mem_cons.mp h).elim (fun e => by rw [e]; exact rd_some hs) (hm a)⟩
  | _, _, _, .dct (a := a0) (ds := ds) (vs := ks) hs ha, r => by
    cases r
    have ok : ObjOk X.prog X.w H s.heap a0 (.dK ks) := by
      rcases hs with h | ⟨o, h⟩
      · exact I.hok _ _ h
      · exact (I.hok _ _ h).2
    obtain ⟨_, _, vs, kv, o, es, ep, ho, hx, hd, _, hp, _⟩ := ok
    obtain ⟨h1, h2⟩ := keys_reads (h := s.heap) kv hp
    obtain ⟨as, hr, hm⟩ := Rps.reads I ha h2
    have hl : (ks.map fun kv => keyP kv.1).length = ds.length := by
      rw [List.length_map, ← ha.length, List.length_map]
    refine ⟨_, Reads.dict (kvs := (ks.map fun kv => keyP kv.1).zip ds) ho hx.1 hd (as := []) (bs := as) ?_ ?_, ?_⟩
    · rw [List.map_fst_zip (by omega)]
      exact h1
    · rw [List.map_snd_zip (by omega)]
      exact hr
    · intro a h
      rcases List.mem_cons.mp h with e | h
      · rw [e]
        exact rd_some hs
      · exact hm a (by simpa using h)
theorem Rps.reads (I : Inv X pins σ H s) : ∀ {ds : List PyData} {vs : List V} {us : List Value}, Rps X.K H vs ds → Vals vs us → ∃ as, ReadsAll s.heap us ds as ∧ ∀ a ∈ as, ∃ o, H a = some o
  | _, _, _, .nil, r => by
    cases r
    exact ⟨_, ReadsAll.nil, by simp⟩
  | _, _, _, .cons h1 h2, r => by
    cases r with
    | cons r1 r2 =>
      obtain ⟨as, q1, m1⟩ := Rp.reads I h1 r1
      obtain ⟨bs, q2, m2⟩ := Rps.reads I h2 r2
      exact ⟨_, ReadsAll.cons q1 q2, fun a h => (List.mem_append.mp h).elim (m1 a) (m2 a)⟩
end
/-- repr(x) -/
def OkR (d : PyData) : Prop := d.showable = true ∧ d.depth ≤ 60 ∧ d.shown.length ≤ sizeLine
def bigD : D → Bool
  | .tup _ => true
  | .ktup _ => true
  | .ref _ => true
  | .int _ => true
  | _ => false
open Classical in
noncomputable def oRepr : DOpN := fun xs s => match xs with
  | [x] => if h : bigD x = true ∧ ∃ d, PyR s x d ∧ OkR d then some (.str h.2.choose.shown, s) else none
  | _ => none
theorem repr_eq {s : Sto} {x : D} {d : PyData} (hb : bigD x = true) (h : PyR s x d) (ok : OkR d) : oRepr [x] s = some (.str d.shown, s) := by
  unfold oRepr
  have hx : bigD x = true ∧ ∃ d, PyR s x d ∧ OkR d := ⟨hb, d, h, ok⟩
  simp only [dif_pos hx]
  rw [PyR.fn hx.2.choose_spec.1 h]
def rReprX (K : PySem.W.Frag) : List V → Hp → VK → Prop := fun xs H Q => (∃ i : Int, xs = [.int i] ∧ i.natAbs.log2 < 1920 ∧ Q (.str (toString i)) H) ∨ ∃ a d, xs = [.ref a] ∧ Rp K H (.ref a) d ∧ OkR d ∧ Q (.str d.shown) H
theorem call_reprX {X : Cx} {k : Nat} (hr : Room k X.A) (hg : X.A.guards = some []) (hsys : ∃ o, X.K.lookup sysModules = some o) : CallR X (.builtin "repr") (rReprX X.K) := by
  intro pins s σ H xs us Q I r h
  rcases h with ⟨i, e, hi, q⟩ | ⟨a, d, rfl, hd, ⟨hs, hp, hl⟩, q⟩
  · exact SkE.call_repr_int pins s σ H xs us Q I r ⟨i, e, hi, q⟩
  · match us, r with
    | [_], .cons r1 .nil =>
      obtain ⟨as, rd, hm⟩ := Rp.reads I hd r1
      cases r1
      have := hr.un
      obtain ⟨o, ho⟩ := hsys
      refine repr_of_reads' rd hs (fun _ z => ?_) hg (by omega) (fun _ _ e => e) (fun h' u tk kp => ⟨.str d.shown, H, I.kept kp, ⟨u, rfl⟩, q⟩) hl
      obtain ⟨o2, h2⟩ := hm _ z
      have := (I.bs _ _ (I.ok.mod.kin _ _ ho)).2
      rw [this] at h2
      cases h2
theorem opN_repr {Γ : Wd} : OpN Γ (rReprX Γ.K) oRepr := by
  intro ρ H s x dx d s' Q r hx e q
  unfold oRepr at e
  split at e
  · rename_i y
    split at e
    · rename_i hy
      cases e
      obtain ⟨v, rfl, hv⟩ := hx.one_inv
      obtain ⟨h1, h2⟩ := hy.2.choose_spec
      have q1 := q ρ H _ (Ext.refl _ _) r (.str _)
      have rp := PyR.rp r h1 hv
      have hb := hy.1
      generalize hy.2.choose = dd at h1 h2 q1 rp
      cases hv with
      | int i =>
        cases h1
        exact .inl ⟨i, rfl, by simpa [PyData.showable] using h2.1, q1⟩
      | tup ha hs => exact .inr ⟨_, dd, rfl, rp, h2, q1⟩
      | ktup ha hs => exact .inr ⟨_, dd, rfl, rp, h2, q1⟩
      | ref ha => exact .inr ⟨_, dd, rfl, rp, h2, q1⟩
      | _ => cases hb
    · cases e
  · cases e
end
end DL
set_option maxHeartbeats 4000000
/-! The rules by name, as the printed derivations use them -/
namespace DL
open PySem PySem.Spec PyProof.Rows L2 HM
theorem Room.u64 {k : Nat} {A : Around} (r : Room k A) : A.units + 64 < cLine := by have := r.un; omega
section
variable {X : Cx} {Γ : Wd} {W : WX} {a b e : Expr} {f g : DEx} {t : DAr} {pos p cpos apos : Pos} {es : List Expr}
theorem de_len (hK : X.K = Γ.K) (hg : Gl X "len") (hm : X.mg "len" = none) (ha : PE X a (dE Γ W f)) (he : starEach [a] X.env = (false, eval a X.env) :: starEach [] X.env := by rfl) : PE X (.Call (.Name "len" p) [a] [] pos) (dE Γ W (eN oLen (aCons f aNil))) :=
  de_callB (call_len3 hK) opN_len hg hm PySem.boot_len (da_cons ha da_nil he) (he := he)
theorem de_max (hc : X.calm = true) (hg : Gl X "max") (hm : X.mg "max" = none) (ha : PE X a (dE Γ W f)) (hb : PE X b (dE Γ W g)) (h1 : starEach [a, b] X.env = (false, eval a X.env) :: starEach [b] X.env := by rfl) (h2 : starEach [b] X.env = (false, eval b X.env) :: starEach [] X.env := by rfl) (h3 : (backTo pos (starEach [b] X.env)).any (·.1) = false := by rfl) : PE X (.Call (.Name "max" p) [a, b] [] pos) (dE Γ W (eN oMax (aCons f (aCons g aNil)))) :=
  de_callB (call_max2 hc) opN_max hg hm (by decide +kernel) (da_cons ha (da_cons hb da_nil h2) h1) (he := h1) (hpl := h3)
theorem de_min (hc : X.calm = true) (hg : Gl X "min") (hm : X.mg "min" = none) (ha : PE X a (dE Γ W f)) (hb : PE X b (dE Γ W g)) (h1 : starEach [a, b] X.env = (false, eval a X.env) :: starEach [b] X.env := by rfl) (h2 : starEach [b] X.env = (false, eval b X.env) :: starEach [] X.env := by rfl) (h3 : (backTo pos (starEach [b] X.env)).any (·.1) = false := by rfl) : PE X (.Call (.Name "min" p) [a, b] [] pos) (dE Γ W (eN oMin (aCons f (aCons g aNil)))) :=
  de_callB (call_min2 hc) opN_min hg hm (by decide +kernel) (da_cons ha (da_cons hb da_nil h2) h1) (he := h1) (hpl := h3)
theorem de_divmod (hg : Gl X "divmod") (hm : X.mg "divmod" = none) (ha : PE X a (dE Γ W f)) (hb : PE X b (dE Γ W g)) (h1 : starEach [a, b] X.env = (false, eval a X.env) :: starEach [b] X.env := by rfl) (h2 : starEach [b] X.env = (false, eval b X.env) :: starEach [] X.env := by rfl) (h3 : (backTo pos (starEach [b] X.env)).any (·.1) = false := by rfl) : PE X (.Call (.Name "divmod" p) [a, b] [] pos) (dE Γ W (eN oDivmod (aCons f (aCons g aNil)))) :=
  de_callB call_divmodW opN_divmod hg hm (by decide +kernel) (da_cons ha (da_cons hb da_nil h2) h1) (he := h1) (hpl := h3)
theorem de_sorted (hK : X.K = Γ.K) (hc : X.calm = true) (hg : Gl X "sorted") (hm : X.mg "sorted" = none) (ha : PE X a (dE Γ W f)) (he : starEach [a] X.env = (false, eval a X.env) :: starEach [] X.env := by rfl) : PE X (.Call (.Name "sorted" p) [a] [] pos) (dE Γ W (eN oSorted (aCons f aNil))) :=
  de_callB (call_sorted2 hK hc) opN_sorted hg hm (by decide +kernel) (da_cons ha da_nil he) (he := he)
theorem de_repr {k : Nat} (hK : X.K = Γ.K) (hr : Room k X.A) (hgd : X.A.guards = some []) (hsys : ∃ o, Γ.K.lookup sysModules = some o) (hg : Gl X "repr") (hm : X.mg "repr" = none) (ha : PE X a (dE Γ W f)) (he : starEach [a] X.env = (false, eval a X.env) :: starEach [] X.env := by rfl) : PE X (.Call (.Name "repr" p) [a] [] pos) (dE Γ W (eN oRepr (aCons f aNil))) :=
  de_callB (r := rReprX Γ.K) (by rw [← hK]; exact call_reprX hr hgd (by rw [hK]; exact hsys)) opN_repr hg hm (by decide +kernel) (da_cons ha da_nil he) (he := he)
theorem de_list (hK : X.K = Γ.K) (hc : X.calm = true) (hg : Gl X "list") (hm : X.mg "list" = none) (ha : PE X a (dE Γ W f)) (he : starEach [a] X.env = (false, eval a X.env) :: starEach [] X.env := by rfl) : PE X (.Call (.Name "list" p) [a] [] pos) (dE Γ W (eN oList (aCons f aNil))) :=
  de_callTy (call_list2 hK hc) opN_list hg hm (by decide +kernel) (da_cons ha da_nil he) (he := he)
theorem de_tuple (hK : X.K = Γ.K) (hg : Gl X "tuple") (hm : X.mg "tuple" = none) (ha : PE X a (dE Γ W f)) (he : starEach [a] X.env = (false, eval a X.env) :: starEach [] X.env := by rfl) : PE X (.Call (.Name "tuple" p) [a] [] pos) (dE Γ W (eN oTuple (aCons f aNil))) :=
  de_callTy (call_tuple1 hK) opN_tuple hg hm (by decide +kernel) (da_cons ha da_nil he) (he := he)
theorem de_dict (hg : Gl X "dict") (hm : X.mg "dict" = none) (ha : PE X a (dE Γ W f)) (he : starEach [a] X.env = (false, eval a X.env) :: starEach [] X.env := by rfl) : PE X (.Call (.Name "dict" p) [a] [] pos) (dE Γ W (eN oDict (aCons f aNil))) :=
  de_callTy call_dictD opN_dict hg hm (by decide +kernel) (da_cons ha da_nil he) (he := he)
theorem de_append (hK : X.K = Γ.K) (ha : PE X a (dE Γ W f)) (hb : PE X b (dE Γ W g)) (hbase : attributeBase a "append" X.env (eval a X.env) = eval a X.env := by rfl)
    (hfew : ((backTo cpos (starEach [b] X.env)).all (fun x => !x.1) && (backToKw cpos (keywordEach [] X.env)).all (fun x => x.1.isSome) && decide (([b] : List Expr).length + ([] : List Keyword).length + (if ([] : List Keyword).isEmpty then 0 else 1) < 30)) = true := by rfl)
    (hline : (apos.endLine == cpos.line) = true := by rfl) (hs : starEach [b] X.env = (false, eval b X.env) :: starEach [] X.env := by rfl) : PE X (.Call (.Attribute a "append" apos) [b] [] cpos) (dE Γ W (eMk isLst oAppend f (aCons g aNil))) :=
  de_bm hK PySem.F.plainAttrs_list PySem.F.slot_list_append PySem.F.type_list_append mt_append kind_lst opM_append ha (da_cons hb da_nil hs) hbase hfew hline hs
theorem de_pop (hK : X.K = Γ.K) (ha : PE X a (dE Γ W f)) (hbase : attributeBase a "pop" X.env (eval a X.env) = eval a X.env := by rfl) (hline : (apos.endLine == cpos.line) = true := by rfl) : PE X (.Call (.Attribute a "pop" apos) [] [] cpos) (dE Γ W (eMk0 isLst oPop f)) :=
  de_bm0 hK PySem.F.plainAttrs_list PySem.F.slot_list_pop PySem.F.type_list_pop mt_pop kind_lst opM_pop ha hbase hline
theorem de_reverse (hK : X.K = Γ.K) (ha : PE X a (dE Γ W f)) (hbase : attributeBase a "reverse" X.env (eval a X.env) = eval a X.env := by rfl) (hline : (apos.endLine == cpos.line) = true := by rfl) : PE X (.Call (.Attribute a "reverse" apos) [] [] cpos) (dE Γ W (eMk0 isLst oReverse f)) :=
  de_bm0 hK PySem.F.plainAttrs_list PySem.F.slot_list_reverse PySem.F.type_list_reverse mt_reverse kind_lst opM_reverse ha hbase hline
theorem de_clear (hK : X.K = Γ.K) (ha : PE X a (dE Γ W f)) (hbase : attributeBase a "clear" X.env (eval a X.env) = eval a X.env := by rfl) (hline : (apos.endLine == cpos.line) = true := by rfl) : PE X (.Call (.Attribute a "clear" apos) [] [] cpos) (dE Γ W (eMk0 isLst oClear f)) :=
  de_bm0 hK PySem.F.plainAttrs_list PySem.F.slot_list_clear PySem.F.type_list_clear mt_clear kind_lst opM_clear ha hbase hline
theorem de_split (hK : X.K = Γ.K) (ha : PE X a (dE Γ W f)) (hb : PE X b (dE Γ W g)) (hbase : attributeBase a "split" X.env (eval a X.env) = eval a X.env := by rfl)
    (hfew : ((backTo cpos (starEach [b] X.env)).all (fun x => !x.1) && (backToKw cpos (keywordEach [] X.env)).all (fun x => x.1.isSome) && decide (([b] : List Expr).length + ([] : List Keyword).length + (if ([] : List Keyword).isEmpty then 0 else 1) < 30)) = true := by rfl)
    (hline : (apos.endLine == cpos.line) = true := by rfl) (hs : starEach [b] X.env = (false, eval b X.env) :: starEach [] X.env := by rfl) : PE X (.Call (.Attribute a "split" apos) [b] [] cpos) (dE Γ W (eMk isStr oSplit f (aCons g aNil))) :=
  de_bm hK PySem.F.plainAttrs_str PySem.F.slot_str_split PySem.F.type_str_split mt_split kind_str opM_split ha (da_cons hb da_nil hs) hbase hfew hline hs
theorem de_join (hK : X.K = Γ.K) (ha : PE X a (dE Γ W f)) (hb : PE X b (dE Γ W g)) (hbase : attributeBase a "join" X.env (eval a X.env) = eval a X.env := by rfl)
    (hfew : ((backTo cpos (starEach [b] X.env)).all (fun x => !x.1) && (backToKw cpos (keywordEach [] X.env)).all (fun x => x.1.isSome) && decide (([b] : List Expr).length + ([] : List Keyword).length + (if ([] : List Keyword).isEmpty then 0 else 1) < 30)) = true := by rfl)
    (hline : (apos.endLine == cpos.line) = true := by rfl) (hs : starEach [b] X.env = (false, eval b X.env) :: starEach [] X.env := by rfl) : PE X (.Call (.Attribute a "join" apos) [b] [] cpos) (dE Γ W (eMk isStr oJoin f (aCons g aNil))) :=
  de_bm hK PySem.F.plainAttrs_str PySem.F.slot_str_join PySem.F.type_str_join (mt_joinK hK) kind_str opM_join ha (da_cons hb da_nil hs) hbase hfew hline hs
/-- o[i], x = e -/
def sSubNm (n : Nat) (fo fi fv : DEx) : DSt := fun env s => (fv env s).st env fun v s1 => match v with
  | .tup [y, z] => (fo env s1).st env fun o s2 => (fi env s2).st env fun i s3 => match setL s3 o i y with
    | some s4 => .nx (env.set n (some z)) s4
    | none => .no
  | _ => .no
theorem ds_subNm {o i : Expr} {h : DEx} {n : Nat} {x : Str} {tp pos' px : Pos} {kt : Nat} (hK : X.K = Γ.K) (hc : X.calm = true) (hN : X.N.Nodup) (hxi : X.N[n]? = some x) (hx : Loc X.env.scope x) (ho : PE X o (dE Γ W f)) (hi : PE X i (dE Γ W g)) (hv : PE X e (dE Γ W h))
    (ha : ∀ v, assign (.Subscript o i pos') X.env v = (do
      let ov ← holding [v] (eval o X.env)
      let iv ← holding [v, ov] (eval i X.env)
      standAt pos'
      holding [v, ov, iv] (setItem ov iv v)
      release [v, ov, iv] []) := by intro _; rfl)
    (hs1 : (assignEach [.Subscript o i pos', .Name x px] X.env).map (·.2) = assign (.Subscript o i pos') X.env :: (assignEach [.Name x px] X.env).map (·.2) := by rfl) (hs2 : (assignEach [.Name x px] X.env).map (·.2) = assign (.Name x px) X.env :: (assignEach [] X.env).map (·.2) := by rfl)
    (hn : (assignEach [.Subscript o i pos', .Name x px] X.env).length = 2 := by rfl) (hst : (assignEach [.Subscript o i pos', .Name x px] X.env).findIdx? (·.1) = none := by rfl)
    (hs : swapsWithSole [.Tuple [.Subscript o i pos', .Name x px] kt tp] e pos.line X.env = pure false := by rfl) (hw : swappedStores [.Tuple [.Subscript o i pos', .Name x px] kt tp] e X.env = pure none := by rfl)
    (h1 : (assignEach [.Tuple [.Subscript o i pos', .Name x px] kt tp] X.env).map (·.2) = [assign (.Tuple [.Subscript o i pos', .Name x px] kt tp) X.env] := by rfl)
    (hf : X.fn x = true ∨ X.env.scope.names.lookup x = some .local := by first | exact .inl rfl | exact .inr rfl | assumption) (hh : (Γ.hs.all fun p => p.1 != n) = true := by rfl) :
    PS X (.Assign [.Tuple [.Subscript o i pos', .Name x px] kt tp] e pos) (dS Γ W (sSubNm n f g h)) :=
  PS.weak (ps_asg hv (pg_tup hc (pgs_cons (pg_sub ho hi set_list ha) (pgs_cons (pg_name hN hxi hx hf) pgs_nil hs2) hs1) hn hst) hs hw h1) fun E σ H ⟨ρ, env, s, re, rs, q⟩ => by
    refine ⟨ρ, env, s, re, rs, (AnsS.bind re q).mono ?_⟩
    rintro v H1 ⟨ρ1, s1, d1, x1, rs1, rd1, q1⟩
    split at q1
    · rename_i y z
      cases rd1 with
      | tup ha rds =>
        obtain ⟨vy, vz, rfl, ry, rz⟩ := rds.two_inv
        rw [hK]
        refine ⟨_, [vy, vz], rfl, SqT.of ha, rfl, vy, [vz], rfl, ?_⟩
        have re1 := re.ext x1
        refine ⟨ρ1, env, s1, re1, rs1, (AnsS.bind re1 q1).mono ?_⟩
        rintro w H2 ⟨ρ2, s2, d2, x2, rs2, rd2, q2⟩
        have re2 := re1.ext x2
        refine ⟨ρ2, env, s2, re2, rs2, (AnsS.bind re2 q2).mono ?_⟩
        rintro u H3 ⟨ρ3, s3, d3, x3, rs3, rd3, q3⟩
        have ry' := (ry.ext x2).ext x3
        have rz' := (rz.ext x2).ext x3
        have rd2' := rd2.ext x3
        have re3 := re2.ext x3
        split at q3
        · rename_i s4 h4
          unfold setL at h4
          split at h4
          · split at h4
            · rename_i xs hs
              obtain ⟨p, vs, rfl, hp, h2, rv⟩ := rel_wrL rs3 hs rd2'
              rw [get_int rd3]
              cases hj : ixN xs.length _ with
              | none => rw [hj] at h4; cases h4
              | some n' =>
                rw [hj] at h4
                cases h4
                refine ⟨p, vs, _, n', rfl, rfl, h2, by rw [rv.length]; exact hj, vz, [], rfl, rfl, ?_⟩
                have xp : Ext ρ3 H3 ρ3 (upd H3 p (.lst (vs.set n' vy))) := Ext.put h2 rfl
                exact q3 ρ3 _ _ xp (rs3.put hp h2 rfl (RU.mkL (rv.set ry' n'))) ((re3.ext xp).set (rz'.ext xp) hh)
            · cases h4
          · cases h4
        · exact q3.elim
    · exact q1.elim
end
end DL
set_option maxHeartbeats 4000000
/-! The head of a row for the by-value layer: defs, classes, written tuples and dicts, tables of code objects -/
namespace DH
open PySem PySem.Spec PyProof.Rows L2 HM XS NdefX He XH DL
def asZ (g : Addr → Option Obj) (n : Nat) : List Addr := asD g n ++ [cStatics, sysModules]
structure SaysZ (file : Str) (fa : List Fa) (fn : List DefD) (ts : List Tab) (sf : List SupD) (tf : List Defn) (ex : PySem.W.Frag → Bool) (w : World) (h : Heap) (K : PySem.W.Frag) : Prop where
  t : SaysT fa fn ts w K
  more : ex K = true
  sup : ∀ s ∈ sf, supB K file s = true ∧ fnZ K (s.f K) = s.val
  hd : ∀ p ∈ tf, PySem.W.codeHdIn K (cT K p).1 (cT K p).2 = true
  out : ∀ p ∈ tf, K.lookup (cT K p).2 = none
  empty : ∀ p ∈ tf, h.get? (cT K p).2 = some { cls := .none, data := .fields #[] }
abbrev AlZ : Type := AlT × Bool × List FnZ
def obsK (file : Str) (fa : List Fa) (fn : List DefD) (ts : List Tab) (sf : List SupD) (tf : List Defn) (ex : PySem.W.Frag → Bool) (g : Addr → Option Obj) (K : PySem.W.Frag) : AlZ := (obsT fa fn ts K, (ex K && (tabsB g tf K && sf.all (supB K file))), sf.map fun s => fnZ K (s.f K))
def obsZ (n : Nat) (file : Str) (fa : List Fa) (fn : List DefD) (ts : List Tab) (sf : List SupD) (tf : List Defn) (ex : PySem.W.Frag → Bool) (g : Addr → Option Obj) : AlZ := obsK file fa fn ts sf tf ex g (frT g (asZ g n))
def valZ (fn : List DefD) (ts : List Tab) (sf : List SupD) (w : World) : AlZ := (valT fn ts w, true, sf.map SupD.val)
theorem saysZ_of {n : Nat} {file : Str} {fa : List Fa} {fn : List DefD} {ts : List Tab} {sf : List SupD} {tf : List Defn} {ex : PySem.W.Frag → Bool} {w : World} {h : Heap} (e : obsZ n file fa fn ts sf tf ex h.get? = valZ fn ts sf w) : SaysZ file fa fn ts sf tf ex w h (frT h.get? (asZ h.get? n)) := by
  have e1 : obsT fa fn ts (frT h.get? (asZ h.get? n)) = valT fn ts w := congrArg (fun z : AlZ => z.1) e
  have e2 : (ex (frT h.get? (asZ h.get? n)) && (tabsB h.get? tf (frT h.get? (asZ h.get? n)) && sf.all (supB (frT h.get? (asZ h.get? n)) file))) = true := congrArg (fun z : AlZ => z.2.1) e
  have e3 : sf.map (fun s => fnZ (frT h.get? (asZ h.get? n)) (s.f (frT h.get? (asZ h.get? n)))) = sf.map SupD.val := congrArg (fun z : AlZ => z.2.2) e
  obtain ⟨h1, h2⟩ := ba e2
  obtain ⟨h3, h4⟩ := ba h2
  have tab : ∀ p ∈ tf, PySem.W.codeHdIn (frT h.get? (asZ h.get? n)) (cT (frT h.get? (asZ h.get? n)) p).1 (cT (frT h.get? (asZ h.get? n)) p).2 = true ∧ ∃ o, h.get? (cT (frT h.get? (asZ h.get? n)) p).2 = some o ∧ emptyTab o = true := fun p hp => by
    obtain ⟨q1, q2⟩ := ba (List.all_eq_true.mp h3 p hp)
    refine ⟨q1, ?_⟩
    cases q : h.get? (cT (frT h.get? (asZ h.get? n)) p).2 with
    | none =>
      rw [q] at q2
      cases q2
    | some o =>
      rw [q] at q2
      exact ⟨o, rfl, q2⟩
  refine ⟨e1, h1, fun s hs => ⟨List.all_eq_true.mp h4 s hs, ?_⟩, fun p hp => (tab p hp).1, fun p hp => ?_, fun p hp => ?_⟩
  · exact (List.map_inj_left.mp e3) s hs
  · obtain ⟨_, o, q, z⟩ := tab p hp
    exact frT_none q z
  · obtain ⟨_, o, q, z⟩ := tab p hp
    rw [q, emptyTab_eq z]
def hookZ (n : Nat) (file : Str) (fa : List Fa) (fn : List DefD) (ts : List Tab) (sf : List SupD) (tf : List Defn) (ex : PySem.W.Frag → Bool) : PySem.W.Hook where
  α := AlZ
  obs := fun s => obsZ n file fa fn ts sf tf ex s.heap.get?
  val := fun w => valZ fn ts sf w
  says := fun w h => ∃ K : PySem.W.Frag, K.In h ∧ SaysZ file fa fn ts sf tf ex w h K
  of := fun _ _ e => ⟨_, frT_in, saysZ_of e⟩
  keeps := fun _ _ _ ⟨K, hK, c⟩ k => ⟨K, PySem.W.Frag.In.keeps hK k, ⟨c.t, c.more, c.sup, c.hd, c.out, fun p hp => k _ _ (c.empty p hp)⟩⟩
theorem obsZ_eq {n : Nat} {file : Str} {fa : List Fa} {fn : List DefD} {ts : List Tab} {sf : List SupD} {tf : List Defn} {ex : PySem.W.Frag → Bool} {g : Addr → Option Obj} {s : Shared} (h : ∀ a, g a = s.heap.get? a) : obsZ n file fa fn ts sf tf ex g = (hookZ n file fa fn ts sf tf ex).obs s := by
  have e : g = s.heap.get? := funext h
  rw [e]
  rfl
/-! ### written tuples of texts, and dicts from texts to them -/
theorem keys_no {P : Params} {z : Str} : ∀ {es : List DictEntry} {ks : List Str}, es.map He.keyOf = He.keysIn P ks → z ∉ ks → es.find? (·.key.isStr z) = none ∧ es.any (·.refKey) = false
  | [], _, _, _ => ⟨rfl, rfl⟩
  | e :: r, [], h, _ => by cases h
  | e :: r, k :: ks, h, hz => by
    have h1 : He.keyOf e :: r.map He.keyOf = some (k, PyData.keyHash P k) :: He.keysIn P ks := h
    injection h1 with h2 h3
    obtain ⟨i1, i2⟩ := keys_no h3 fun y => hz (List.mem_cons_of_mem _ y)
    unfold He.keyOf at h2
    split at h2
    · rename_i x t q
      have h4 := Option.some.inj h2
      obtain ⟨h5, _⟩ := Prod.mk.inj h4
      have hne : (e.key.isStr z) = false := by
        rw [q, h5]
        show (k == z) = false
        exact beq_eq_false_iff_ne.mpr fun y => hz (by rw [← y]; exact List.mem_cons_self)
      refine ⟨?_, ?_⟩
      · rw [List.find?_cons, hne]
        exact i1
      · rw [List.any_cons, i2]
        unfold DictEntry.refKey
        rw [q]
        rfl
    · cases h2
def tupAt (K : PySem.W.Frag) (a : Addr) (zs : List Str) : Bool := match K.lookup a with
  | some ⟨.type c, _, .seq its _, _⟩ => decide (c = "tuple") && (decide (its.size ≤ sizeLine) && He.relAll (zs.map V.str) its.toList)
  | _ => false
theorem RDs.strs {Γ : Wd} {ρ : List Addr} {H : Hp} : ∀ zs : List Str, RDs Γ ρ H (zs.map V.str) (zs.map D.str)
  | [] => .nil
  | z :: zs => .cons (.str z) (RDs.strs zs)
def ktS (zs : List Str) : D := .ktup (zs.map D.str)
theorem tupAt_rd {Γ : Wd} {a : Addr} {zs : List Str} (h : tupAt Γ.K a zs = true) (ρ : List Addr) (H : Hp) : RD Γ ρ H (.ref a) (ktS zs) := by
  refine .ktup (vs := zs.map V.str) ?_ (RDs.strs zs)
  unfold tupAt at h
  split at h
  · rename_i c od its n osl q
    obtain ⟨h1, h2⟩ := He.ba h
    obtain ⟨h3, h4⟩ := He.ba h2
    exact .inr ⟨_, its, n, q, congrArg Value.type (of_decide_eq_true h1), rfl, of_decide_eq_true h3, He.relAll_ok h4⟩
  · cases h
def dicB (x : Str) (tb : List (Str × List Str)) (K : PySem.W.Frag) : Bool := tb.all fun p => match PySem.W.nsIn K (He.ga K x) p.1 with
  | some (some (.ref tp)) => tupAt K tp p.2
  | _ => false
theorem lookup_tb {z : Str} : ∀ {tb : List (Str × List Str)}, (z ∈ tb.map (·.1) → ∃ ks, (z, ks) ∈ tb ∧ (tb.map fun p => (p.1, ktS p.2)).lookup z = some (ktS ks)) ∧ (z ∉ tb.map (·.1) → (tb.map fun p => (p.1, ktS p.2)).lookup z = none)
  | [] => ⟨(fun h => by cases h), fun _ => rfl⟩
  | (k, v) :: r => by
    obtain ⟨i1, i2⟩ := lookup_tb (z := z) (tb := r)
    by_cases h : z = k
    · subst h
      exact ⟨fun _ => ⟨v, .head _, by simp⟩, fun hn => absurd (by simp) hn⟩
    · have hb : (z == k) = false := beq_eq_false_iff_ne.mpr h
      refine ⟨fun hm => ?_, fun hn => ?_⟩
      · have hm' : z ∈ r.map (·.1) := by simpa [h] using hm
        obtain ⟨ks, m, e⟩ := i1 hm'
        exact ⟨ks, .tail _ m, by rw [List.map_cons, List.lookup_cons, hb]; exact e⟩
      · rw [List.map_cons, List.lookup_cons, hb]
        exact i2 fun y => hn (by rw [List.map_cons]; exact List.mem_cons_of_mem _ y)
theorem kdic_of {Γ : Wd} {w : World} {x : Str} {tb : List (Str × List Str)} (h : He.dicW Γ.K (He.ga Γ.K x) = some (He.keysIn w.params (tb.map (·.1)))) (hb : dicB x tb Γ.K = true) : KDic Γ w (He.ga Γ.K x) (tb.map fun p => (p.1, ktS p.2)) := by
  obtain ⟨es, n, D⟩ := He.dicW_ok h
  have hk : es.toList.map He.keyOf = He.keysIn w.params (tb.map (·.1)) := by
    unfold He.dicW at h
    rw [D.at_] at h
    have h1 : (match decide (("dict" : String) = "dict") && ((#[] : Array (Option Value)).isEmpty && !(He.ga Γ.K x == sysModules)) with
      | true => some (es.toList.map He.keyOf)
      | false => none) = some (He.keysIn w.params (tb.map (·.1))) := h
    rw [D.low] at h1
    exact Option.some.inj h1
  refine ⟨⟨es, n, D.at_⟩, fun z => ?_⟩
  obtain ⟨k1, k2⟩ := lookup_tb (z := z) (tb := tb)
  by_cases hz : z ∈ tb.map (·.1)
  · obtain ⟨ks, hm, e⟩ := k1 hz
    have h2 := List.all_eq_true.mp hb (z, ks) hm
    dsimp only at h2
    split at h2
    · rename_i tp q
      refine ⟨some (.ref tp), ⟨es, n, _, D.at_, D.lit, D.low, q, rfl⟩, ?_⟩
      rw [e]
      exact ⟨_, rfl, fun ρ H => tupAt_rd h2 ρ H⟩
    · cases h2
  · obtain ⟨i1, i2⟩ := keys_no hk hz
    refine ⟨none, ⟨es, n, none, D.at_, D.lit, D.low, ?_, trivial⟩, ?_⟩
    · unfold PySem.W.nsIn
      rw [D.at_]
      dsimp only
      rw [i1, i2]
      rfl
    · rw [k2 hz]
/-! ### the world's one habit that the head asks for -/
def setF (w : World) (b : Bool) : World := { w with params := { w.params with followText := fun s => if s = "special-get-raises" then b else w.params.followText s } }
theorem setF_eq (w : World) : setF w (w.params.followText "special-get-raises") = w := by
  obtain ⟨dr, pa⟩ := w
  obtain ⟨p1, p2, p3, p4, p5, p6, p7, p8, p9, p10, p11, p12, p13, p14, p15, p16⟩ := pa
  have e : (fun s => if s = "special-get-raises" then p6 "special-get-raises" else p6 s) = p6 := funext fun s => by
    by_cases h : s = "special-get-raises"
    · rw [if_pos h, h]
    · rw [if_neg h]
  unfold setF
  dsimp only
  rw [e]
/-! ### the law's call -/
/-- the script, as it is handed in -/
inductive Scr : List Int → D → Sto → Prop
  | lst (ns : List Int) : Scr ns (.ref 0) [.lst (ns.map D.int)]
  | frz (ns : List Int) : Scr ns (.ref 0) [.frz (.lst (ns.map D.int))]
  | klst (ns : List Int) : Scr ns (.klst (ns.map D.int)) []
theorem RDs.ints {Γ : Wd} {ρ : List Addr} {H : Hp} : ∀ zs : List Int, RDs Γ ρ H (zs.map V.int) (zs.map D.int)
  | [] => .nil
  | z :: zs => .cons (.int z) (RDs.ints zs)
theorem start {Γ : Wd} {g : Fn} {H : Hp} {a : Addr} {ns : List Int} (ht : TabsOk Γ.Ps H) (h : SqL Γ.K H a (ns.map V.int)) (hg : ∀ d s, Scr ns d s → ∃ s', g [d] s = .ok (.bl true) s') : spD Γ g [.ref a] H (fun v _ => v = .bl true) fun _ _ _ => False := by
  have fin : ∀ (ρ : List Addr) (d : D) (s : Sto), Scr ns d s → Rel Γ ρ H s → RD Γ ρ H (.ref a) d → spD Γ g [.ref a] H (fun v _ => v = .bl true) fun _ _ _ => False := fun ρ d s sc rs rd => by
    obtain ⟨s', e⟩ := hg d s sc
    refine ⟨ρ, s, [d], rs, .cons rd .nil, ?_⟩
    rw [e]
    exact fun ρ' H' v _ _ r => get_bl r
  have one : ∀ (o : O) (u : HO), H a = some u → RU Γ [a] H u o → Rel Γ [a] H [o] := fun o u hu ru => ⟨rfl, by simp, fun i b o' hb ho => by
    match i, hb, ho with
    | 0, hb, ho =>
      cases hb
      cases ho
      exact ⟨u, hu, ru⟩, ht⟩
  rcases h with (h | ⟨od, h⟩) | h
  · exact fin [a] _ _ (.lst ns) (one _ _ h ⟨_, rfl, RDs.ints ns⟩) (.ref rfl)
  · exact fin [a] _ _ (.frz ns) (one _ _ h ⟨od, _, rfl, _, rfl, RDs.ints ns⟩) (.ref rfl)
  · exact fin [] _ _ (.klst ns) ⟨rfl, by simp, fun i b o hb _ => by simp at hb, ht⟩ (.klst (.inr h) (RDs.ints ns))
theorem noCX {P : Program} {w : World} {H : Hp} {s : Shared} {e : Value} {s' : Shared} (h : L2N.CX P w [] H s (fun _ _ _ => False) e s') : False := by
  obtain ⟨_, _, _, _, _, _, _, _, _, _, _, _, z⟩ := h
  exact z
end DH
set_option maxHeartbeats 4000000
/-! Walking the by-value programs: what is wanted behind a value, behind a statement -/
namespace DL
open PySem PySem.Spec PyProof.Rows L2 HM
def Res.wp {α : Type} (r : Res α) (Q : α → Sto → Prop) (X : Ex → Sto → Prop) : Prop := match r with
  | .ok a s => Q a s
  | .ex x s => X x s
  | .no => False
theorem Res.wp_congr {α : Type} {r r' : Res α} {Q : α → Sto → Prop} {X : Ex → Sto → Prop} (h : r = r') : r.wp Q X = r'.wp Q X := by rw [h]
@[simp] theorem wp_ok {α : Type} {a : α} {s : Sto} {Q : α → Sto → Prop} {X : Ex → Sto → Prop} : (Res.ok a s).wp Q X = Q a s := rfl
@[simp] theorem wp_ex {α : Type} {x : Ex} {s : Sto} {Q : α → Sto → Prop} {X : Ex → Sto → Prop} : (Res.ex x s).wp Q X = X x s := rfl
@[simp] theorem wp_no {α : Type} {Q : α → Sto → Prop} {X : Ex → Sto → Prop} : (Res.no : Res α).wp Q X = False := rfl
@[simp ↓] theorem wp_bind {α β : Type} {r : Res α} {k : α → Sto → Res β} {Q : β → Sto → Prop} {X : Ex → Sto → Prop} : (r.bind k).wp Q X = r.wp (fun a s => (k a s).wp Q X) X := by
  cases r <;> rfl
theorem Res.wp.mono {α : Type} {r : Res α} {Q Q' : α → Sto → Prop} {X X' : Ex → Sto → Prop} (h : r.wp Q X) (f : ∀ a s, Q a s → Q' a s) (g : ∀ x s, X x s → X' x s := by exact fun _ _ z => z) : r.wp Q' X' := by
  cases r with
  | ok a s => exact f a s h
  | ex x s => exact g x s h
  | no => exact h
/-- no exception -/
abbrev nX : Ex → Sto → Prop := fun _ _ => False
theorem Res.wp.no {α : Type} {r : Res α} {Q Q' : α → Sto → Prop} {X' : Ex → Sto → Prop} (h : r.wp Q nX) (f : ∀ a s, Q a s → Q' a s) : r.wp Q' X' := h.mono f fun _ _ z => z.elim
theorem Res.wp.ex {α : Type} {r : Res α} {Q : α → Sto → Prop} (h : r.wp Q nX) : ∃ a s, r = .ok a s ∧ Q a s := by
  cases r with
  | ok a s => exact ⟨a, s, rfl, h⟩
  | ex x s => exact h.elim
  | no => exact h.elim
theorem Res.wp.of {α : Type} {r : Res α} {a : α} {s : Sto} {Q : α → Sto → Prop} {X : Ex → Sto → Prop} (h : r = .ok a s) (q : Q a s) : r.wp Q X := by rw [h]; exact q
/-- one way or another -/
def BrS (b : Bool) (j k : DSt) (env : Env) (s : Sto) : SR := if b = true then j env s else k env s
@[simp ↓] theorem BrS_true {j k : DSt} {env : Env} {s : Sto} : BrS true j k env s = j env s := by simp [BrS]
@[simp ↓] theorem BrS_false {j k : DSt} {env : Env} {s : Sto} : BrS false j k env s = k env s := by simp [BrS]
theorem BrS_dec_true {p : Prop} [Decidable p] {j k : DSt} {env : Env} {s : Sto} (h : p) : BrS (decide p) j k env s = j env s := by simp [BrS, h]
theorem BrS_dec_false {p : Prop} [Decidable p] {j k : DSt} {env : Env} {s : Sto} (h : ¬p) : BrS (decide p) j k env s = k env s := by simp [BrS, h]
def BrE (b : Bool) (f g : DEx) (env : Env) (s : Sto) : Res D := if b = true then f env s else g env s
@[simp ↓] theorem BrE_true {f g : DEx} {env : Env} {s : Sto} : BrE true f g env s = f env s := by simp [BrE]
@[simp ↓] theorem BrE_false {f g : DEx} {env : Env} {s : Sto} : BrE false f g env s = g env s := by simp [BrE]
def BrT (b : Bool) (f g : DTe) (env : Env) (s : Sto) : Res Bool := if b = true then f env s else g env s
@[simp ↓] theorem BrT_true {f g : DTe} {env : Env} {s : Sto} : BrT true f g env s = f env s := by simp [BrT]
@[simp ↓] theorem BrT_false {f g : DTe} {env : Env} {s : Sto} : BrT false f g env s = g env s := by simp [BrT]
def BrA (b : Bool) (t : DAr) (env : Env) (s : Sto) : Res (List D) := if b = true then t env s else .no
@[simp ↓] theorem BrA_true {t : DAr} {env : Env} {s : Sto} : BrA true t env s = t env s := by simp [BrA]
@[simp] theorem BrA_false {t : DAr} {env : Env} {s : Sto} : BrA false t env s = .no := by simp [BrA]
def tC (b : Bool) : DTe := fun _ s => .ok b s
structure Post where
  nx : Env → Sto → Prop
  rt : D → Sto → Prop
  bk : Env → Sto → Prop
  ct : Env → Sto → Prop
  ex : Ex → Env → Sto → Prop
def SR.wp (r : SR) (P : Post) : Prop := match r with
  | .nx e s => P.nx e s
  | .rt d s => P.rt d s
  | .bk e s => P.bk e s
  | .ct e s => P.ct e s
  | .ex x e s => P.ex x e s
  | .no => False
theorem SR.wp_congr {r r' : SR} {P : Post} (h : r = r') : r.wp P = r'.wp P := by rw [h]
@[simp] theorem swp_nx {e : Env} {s : Sto} {P : Post} : (SR.nx e s).wp P = P.nx e s := rfl
@[simp] theorem swp_rt {d : D} {s : Sto} {P : Post} : (SR.rt d s).wp P = P.rt d s := rfl
@[simp] theorem swp_bk {e : Env} {s : Sto} {P : Post} : (SR.bk e s).wp P = P.bk e s := rfl
@[simp] theorem swp_ct {e : Env} {s : Sto} {P : Post} : (SR.ct e s).wp P = P.ct e s := rfl
@[simp] theorem swp_ex {x : Ex} {e : Env} {s : Sto} {P : Post} : (SR.ex x e s).wp P = P.ex x e s := rfl
@[simp] theorem swp_no {P : Post} : SR.no.wp P = False := rfl
/-- then g -/
def Post.seq (P : Post) (g : DSt) : Post := ⟨fun e s => (g e s).wp P, P.rt, P.bk, P.ct, P.ex⟩
@[simp] theorem seq_nx {P : Post} {g : DSt} {e : Env} {s : Sto} : (P.seq g).nx e s = (g e s).wp P := rfl
@[simp] theorem seq_rt {P : Post} {g : DSt} {d : D} {s : Sto} : (P.seq g).rt d s = P.rt d s := rfl
@[simp] theorem seq_bk {P : Post} {g : DSt} {d : Env} {s : Sto} : (P.seq g).bk d s = P.bk d s := rfl
@[simp] theorem seq_ct {P : Post} {g : DSt} {d : Env} {s : Sto} : (P.seq g).ct d s = P.ct d s := rfl
@[simp] theorem seq_ex {P : Post} {g : DSt} {x : Ex} {d : Env} {s : Sto} : (P.seq g).ex x d s = P.ex x d s := rfl
/-- a def's end -/
def Post.fn (Q : D → Sto → Prop) (X : Ex → Sto → Prop) : Post := ⟨fun _ s => Q .non s, Q, fun _ _ => False, fun _ _ => False, fun x _ s => X x s⟩
@[simp] theorem fn_nx {Q : D → Sto → Prop} {X : Ex → Sto → Prop} {e : Env} {s : Sto} : (Post.fn Q X).nx e s = Q .non s := rfl
@[simp] theorem fn_rt {Q : D → Sto → Prop} {X : Ex → Sto → Prop} {d : D} {s : Sto} : (Post.fn Q X).rt d s = Q d s := rfl
@[simp] theorem fn_ex {Q : D → Sto → Prop} {X : Ex → Sto → Prop} {x : Ex} {e : Env} {s : Sto} : (Post.fn Q X).ex x e s = X x s := rfl
/-- with another thing wanted at the end -/
def Post.to (P : Post) (M : Env → Sto → Prop) : Post := ⟨M, P.rt, P.bk, P.ct, P.ex⟩
@[simp] theorem to_nx {P : Post} {M : Env → Sto → Prop} {e : Env} {s : Sto} : (P.to M).nx e s = M e s := rfl
@[simp] theorem to_rt {P : Post} {M : Env → Sto → Prop} {d : D} {s : Sto} : (P.to M).rt d s = P.rt d s := rfl
@[simp] theorem to_bk {P : Post} {M : Env → Sto → Prop} {e : Env} {s : Sto} : (P.to M).bk e s = P.bk e s := rfl
@[simp] theorem to_ct {P : Post} {M : Env → Sto → Prop} {e : Env} {s : Sto} : (P.to M).ct e s = P.ct e s := rfl
@[simp] theorem to_ex {P : Post} {M : Env → Sto → Prop} {x : Ex} {e : Env} {s : Sto} : (P.to M).ex x e s = P.ex x e s := rfl
/-- all five weakened -/
theorem SR.wp.mono {r : SR} {P P' : Post} (h : r.wp P) (h1 : ∀ e s, P.nx e s → P'.nx e s) (h2 : ∀ d s, P.rt d s → P'.rt d s) (h3 : ∀ e s, P.bk e s → P'.bk e s) (h4 : ∀ e s, P.ct e s → P'.ct e s) (h5 : ∀ x e s, P.ex x e s → P'.ex x e s) : r.wp P' := by
  cases r with
  | nx e s => exact h1 _ _ h
  | rt d s => exact h2 _ _ h
  | bk e s => exact h3 _ _ h
  | ct e s => exact h4 _ _ h
  | ex x e s => exact h5 _ _ _ h
  | no => exact h
/-- cut: what holds between two statements -/
theorem SR.wp.cut {r : SR} {P : Post} (M : Env → Sto → Prop) (h : r.wp (P.to M)) (k : ∀ e s, M e s → P.nx e s) : r.wp P := h.mono k (fun _ _ z => z) (fun _ _ z => z) (fun _ _ z => z) (fun _ _ _ z => z)
theorem SR.wp.of {r : SR} {P : Post} {e : Env} {s : Sto} (h : r = .nx e s) (q : P.nx e s) : r.wp P := by rw [h]; exact q
@[simp ↓] theorem wp_run {np n : Nat} {j : DSt} {ds : List D} {s : Sto} {Q : D → Sto → Prop} {X : Ex → Sto → Prop} : (runFn np n j ds s).wp Q X = (BrS (decide (ds.length = np)) j sNo (ds.map some ++ List.replicate (n - np) none) s).wp (Post.fn Q X) := by
  unfold runFn BrS
  by_cases h : ds.length = np
  · simp only [h, decide_true, if_true]
    cases j _ s <;> rfl
  · simp [h, sNo]
section
variable {f g h : DEx} {u w : DTe} {env : Env} {s : Sto} {P : Post} {Q : D → Sto → Prop} {QB : Bool → Sto → Prop} {QA : List D → Sto → Prop} {X : Ex → Sto → Prop} {j k : DSt} {t : DAr}
def kX (P : Post) (env : Env) : Ex → Sto → Prop := fun x s => P.ex x env s
@[simp ↓] theorem kX_app {x : Ex} : kX P env x s = P.ex x env s := rfl
theorem wp_st {α : Type} {r : Res α} {kk : α → Sto → SR} : (r.st env kk).wp P = r.wp (fun a s => (kk a s).wp P) (kX P env) := by cases r <;> rfl
@[simp ↓] theorem wp_seq : (sSeq j k env s).wp P = (j env s).wp (P.seq k) := by
  unfold sSeq
  cases j env s <;> rfl
@[simp ↓] theorem wp_nil : (sNil env s).wp P = P.nx env s := rfl
@[simp ↓] theorem wp_sNo : (sNo env s).wp P = False := rfl
@[simp ↓] theorem wp_bk : (sBk env s).wp P = P.bk env s := rfl
@[simp ↓] theorem wp_ct : (sCt env s).wp P = P.ct env s := rfl
@[simp ↓] theorem wp_retN : (sRetN env s).wp P = P.rt .non s := rfl
@[simp ↓] theorem wp_ret : (sRet f env s).wp P = (f env s).wp P.rt (kX P env) := by
  unfold sRet
  rw [wp_st]
  rfl
def kExpr (env : Env) (P : Post) : D → Sto → Prop := fun _ s => P.nx env s
@[simp ↓] theorem kExpr_app {d : D} : kExpr env P d s = P.nx env s := rfl
@[simp ↓] theorem wp_expr : (sExpr f env s).wp P = (f env s).wp (kExpr env P) (kX P env) := by
  unfold sExpr
  rw [wp_st]
  rfl
def kIf (j k : DSt) (env : Env) (P : Post) : Bool → Sto → Prop := fun b s1 => (BrS b j k env s1).wp P
@[simp ↓] theorem kIf_app {b : Bool} : kIf j k env P b s = (BrS b j k env s).wp P := rfl
@[simp ↓] theorem wp_if : (sIf u j k env s).wp P = (u env s).wp (kIf j k env P) (kX P env) := by
  unfold sIf
  rw [wp_st]
  rfl
def asgS (tg : Tg) (d : D) (env : Env) (s : Sto) : SR := match asg tg d env with
  | some env' => .nx env' s
  | none => .no
@[simp ↓] theorem asgS_nm {i : Nat} {d : D} : (asgS (.nm i) d env s).wp P = P.nx (env.set i (some d)) s := by simp [asgS, asg]
def kAsg (tg : Tg) (env : Env) (P : Post) : D → Sto → Prop := fun d s1 => (asgS tg d env s1).wp P
@[simp ↓] theorem kAsg_app {tg : Tg} {d : D} : kAsg tg env P d s = (asgS tg d env s).wp P := rfl
@[simp ↓] theorem wp_asg {tg : Tg} : (sAsg tg f env s).wp P = (f env s).wp (kAsg tg env P) (kX P env) := by
  unfold sAsg
  rw [wp_st]
  rfl
def parS (n m : Nat) (ds : List D) (env : Env) (s : Sto) : SR := match ds with
  | [x, y] => .nx ((env.set n (some x)).set m (some y)) s
  | _ => .no
@[simp ↓] theorem parS_two {n m : Nat} {x y : D} : (parS n m [x, y] env s).wp P = P.nx ((env.set n (some x)).set m (some y)) s := rfl
def kPar (n m : Nat) (env : Env) (P : Post) : List D → Sto → Prop := fun ds s1 => (parS n m ds env s1).wp P
@[simp ↓] theorem kPar_app {n m : Nat} {ds : List D} : kPar n m env P ds s = (parS n m ds env s).wp P := rfl
@[simp ↓] theorem wp_par {n m : Nat} : (sPar n m t env s).wp P = (t env s).wp (kPar n m env P) (kX P env) := by
  unfold sPar
  rw [wp_st]
  rfl
/-- o[i] = v, the three told -/
def setS (s : Sto) (o i v : D) (env : Env) : SR := match setD s o i v with
  | some s4 => .nx env s4
  | none => .no
def kPut3 (o v : D) (env : Env) (P : Post) : D → Sto → Prop := fun i s3 => (setS s3 o i v env).wp P
@[simp ↓] theorem kPut3_app {o v i : D} : kPut3 o v env P i s = (setS s o i v env).wp P := rfl
def kPut2 (fi : DEx) (v : D) (env : Env) (P : Post) : D → Sto → Prop := fun o s2 => (fi env s2).wp (kPut3 o v env P) (kX P env)
@[simp ↓] theorem kPut2_app {fi : DEx} {o v : D} : kPut2 fi v env P o s = (fi env s).wp (kPut3 o v env P) (kX P env) := rfl
def kPut1 (fo fi : DEx) (env : Env) (P : Post) : D → Sto → Prop := fun v s1 => (fo env s1).wp (kPut2 fi v env P) (kX P env)
@[simp ↓] theorem kPut1_app {fo fi : DEx} {v : D} : kPut1 fo fi env P v s = (fo env s).wp (kPut2 fi v env P) (kX P env) := rfl
@[simp ↓] theorem wp_put {fo fi fv : DEx} : (sPut fo fi fv env s).wp P = (fv env s).wp (kPut1 fo fi env P) (kX P env) := by
  unfold sPut sPutG
  simp only [wp_st]
  rfl
def fldS (n : Str) (v o : D) (s2 : Sto) (env : Env) : SR := match o with
  | .ref i => match insA s2 i with
    | some (c, fs) => if fs.length < 1000 then .nx env (s2.set i (.ins c (putFD n v fs))) else .no
    | none => .no
  | _ => .no
def kFld2 (n : Str) (v : D) (env : Env) (P : Post) : D → Sto → Prop := fun o s2 => (fldS n v o s2 env).wp P
@[simp ↓] theorem kFld2_app {n : Str} {v o : D} : kFld2 n v env P o s = (fldS n v o s env).wp P := rfl
def kFld1 (n : Str) (fo : DEx) (env : Env) (P : Post) : D → Sto → Prop := fun v s1 => (fo env s1).wp (kFld2 n v env P) (kX P env)
@[simp ↓] theorem kFld1_app {n : Str} {fo : DEx} {v : D} : kFld1 n fo env P v s = (fo env s).wp (kFld2 n v env P) (kX P env) := rfl
@[simp ↓] theorem wp_fldP {n : Str} {fo fv : DEx} : (sFldP n fo fv env s).wp P = (fv env s).wp (kFld1 n fo env P) (kX P env) := by
  unfold sFldP
  simp only [wp_st]
  rfl
def delS (o i : D) (s2 : Sto) (env : Env) : SR := match o with
  | .ref l => match wrD s2 l, keyD i with
    | some kvs, some k => if (valD kvs k).isSome = true then .nx env (s2.set l (.dct (dropD kvs k))) else .no
    | _, _ => .no
  | _ => .no
def kDel2 (o : D) (env : Env) (P : Post) : D → Sto → Prop := fun i s2 => (delS o i s2 env).wp P
@[simp ↓] theorem kDel2_app {o i : D} : kDel2 o env P i s = (delS o i s env).wp P := rfl
def kDel1 (fi : DEx) (env : Env) (P : Post) : D → Sto → Prop := fun o s1 => (fi env s1).wp (kDel2 o env P) (kX P env)
@[simp ↓] theorem kDel1_app {fi : DEx} {o : D} : kDel1 fi env P o s = (fi env s).wp (kDel2 o env P) (kX P env) := rfl
@[simp ↓] theorem wp_del {fo fi : DEx} : (sDel fo fi env s).wp P = (fo env s).wp (kDel1 fi env P) (kX P env) := by
  unfold sDel
  simp only [wp_st]
  rfl
def subS (n : Nat) (z : D) (r : Option Sto) (env : Env) : SR := match r with
  | some s4 => .nx (env.set n (some z)) s4
  | none => .no
@[simp ↓] theorem subS_some {n : Nat} {z : D} {s4 : Sto} : (subS n z (some s4) env).wp P = P.nx (env.set n (some z)) s4 := rfl
def kSub3 (n : Nat) (y z o : D) (env : Env) (P : Post) : D → Sto → Prop := fun i s3 => (subS n z (setL s3 o i y) env).wp P
@[simp ↓] theorem kSub3_app {n : Nat} {y z o i : D} : kSub3 n y z o env P i s = (subS n z (setL s o i y) env).wp P := rfl
def kSub2 (n : Nat) (fi : DEx) (y z : D) (env : Env) (P : Post) : D → Sto → Prop := fun o s2 => (fi env s2).wp (kSub3 n y z o env P) (kX P env)
@[simp ↓] theorem kSub2_app {n : Nat} {fi : DEx} {y z o : D} : kSub2 n fi y z env P o s = (fi env s).wp (kSub3 n y z o env P) (kX P env) := rfl
def two1 (n : Nat) (fo fi : DEx) (env : Env) (P : Post) (v : D) (s1 : Sto) : Prop := match v with
  | .tup [y, z] => (fo env s1).wp (kSub2 n fi y z env P) (kX P env)
  | _ => False
@[simp ↓] theorem two1_app {n : Nat} {fo fi : DEx} {y z : D} : two1 n fo fi env P (.tup [y, z]) s = (fo env s).wp (kSub2 n fi y z env P) (kX P env) := rfl
@[simp ↓] theorem wp_subNm {n : Nat} {fo fi fv : DEx} : (sSubNm n fo fi fv env s).wp P = (fv env s).wp (two1 n fo fi env P) (kX P env) := by
  unfold sSubNm
  rw [wp_st]
  congr 1
  funext v s1
  unfold two1
  split
  · simp only [wp_st]
    rfl
  · rename_i hne
    cases v with
    | tup xs =>
      match xs, hne with
      | [], _ => rfl
      | [_], _ => rfl
      | [y, z], hne => exact (hne y z rfl).elim
      | _ :: _ :: _ :: _, _ => rfl
    | _ => rfl
def Post.thru (P : Post) : Post := ⟨P.nx, P.rt, P.bk, P.ct, fun _ _ _ => False⟩
@[simp ↓] theorem thru_nx {e : Env} : P.thru.nx e s = P.nx e s := rfl
@[simp ↓] theorem thru_rt {d : D} : P.thru.rt d s = P.rt d s := rfl
@[simp ↓] theorem thru_bk {e : Env} : P.thru.bk e s = P.bk e s := rfl
@[simp ↓] theorem thru_ct {e : Env} : P.thru.ct e s = P.ct e s := rfl
@[simp ↓] theorem thru_ex {x : Ex} {e : Env} : P.thru.ex x e s = False := rfl
@[simp ↓] theorem wp_thru : (sThru j env s).wp P = (j env s).wp P.thru := by
  unfold sThru
  cases j env s <;> rfl
def Post.thruF (P : Post) (k : DSt) : Post := ⟨fun e s => (k e s).wp P.thru, fun _ _ => False, fun _ _ => False, fun _ _ => False, fun _ _ _ => False⟩
@[simp ↓] theorem thruF_nx {e : Env} : (P.thruF k).nx e s = (k e s).wp P.thru := rfl
@[simp ↓] theorem thruF_ex {x : Ex} {e : Env} : (P.thruF k).ex x e s = False := rfl
@[simp ↓] theorem wp_thruF : (sThruF j k env s).wp P = (j env s).wp (P.thruF k) := by
  unfold sThruF
  cases hj : j env s with
  | nx e s1 =>
    rw [swp_nx]
    dsimp only [thruF_nx]
    cases hk : k e s1 <;> rfl
  | _ => rfl
/-! ### values -/
def kE2b (o : DOp2) (x : D) (Q : D → Sto → Prop) (X : Ex → Sto → Prop) : D → Sto → Prop := fun y s2 => (up (o x y s2)).wp Q X
@[simp ↓] theorem kE2b_app {o : DOp2} {x y : D} : kE2b o x Q X y s = (up (o x y s)).wp Q X := rfl
def kE2 (o : DOp2) (g : DEx) (env : Env) (Q : D → Sto → Prop) (X : Ex → Sto → Prop) : D → Sto → Prop := fun x s1 => (g env s1).wp (kE2b o x Q X) X
@[simp ↓] theorem kE2_app {o : DOp2} {x : D} : kE2 o g env Q X x s = (g env s).wp (kE2b o x Q X) X := rfl
@[simp ↓] theorem wp_e2 {o : DOp2} : (e2 o f g env s).wp Q X = (f env s).wp (kE2 o g env Q X) X := by
  unfold e2
  simp only [wp_bind]
  rfl
def kE1 (o : DOp1) (Q : D → Sto → Prop) (X : Ex → Sto → Prop) : D → Sto → Prop := fun x s1 => (up (o x s1)).wp Q X
@[simp ↓] theorem kE1_app {o : DOp1} {x : D} : kE1 o Q X x s = (up (o x s)).wp Q X := rfl
@[simp ↓] theorem wp_e1 {o : DOp1} : (e1 o f env s).wp Q X = (f env s).wp (kE1 o Q X) X := by
  unfold e1
  simp only [wp_bind]
  rfl
@[simp ↓] theorem wp_eC {d : D} : (eC d env s).wp Q X = Q d s := rfl
def varS (o : Option (Option D)) (s : Sto) : Res D := match o with
  | some (some d) => .ok d s
  | _ => .no
@[simp ↓] theorem varS_some {d : D} : (varS (some (some d)) s).wp Q X = Q d s := rfl
@[simp ↓] theorem wp_eVar {i : Nat} : (eVar i env s).wp Q X = (varS env[i]? s).wp Q X := rfl
@[simp ↓] theorem wp_aNil : (aNil env s).wp QA X = QA [] s := rfl
def kArg2 (x : D) (Q : List D → Sto → Prop) : List D → Sto → Prop := fun xs s2 => Q (x :: xs) s2
@[simp ↓] theorem kArg2_app {x : D} {xs : List D} : kArg2 x QA xs s = QA (x :: xs) s := rfl
def kArg (t : DAr) (env : Env) (Q : List D → Sto → Prop) (X : Ex → Sto → Prop) : D → Sto → Prop := fun x s1 => (t env s1).wp (kArg2 x Q) X
@[simp ↓] theorem kArg_app {x : D} : kArg t env QA X x s = (t env s).wp (kArg2 x QA) X := rfl
@[simp ↓] theorem wp_aCons : (aCons f t env s).wp QA X = (f env s).wp (kArg t env QA X) X := by
  unfold aCons
  simp only [wp_bind, wp_ok]
  rfl
def kN (o : DOpN) (Q : D → Sto → Prop) (X : Ex → Sto → Prop) : List D → Sto → Prop := fun xs s1 => (up (o xs s1)).wp Q X
@[simp ↓] theorem kN_app {o : DOpN} {xs : List D} : kN o Q X xs s = (up (o xs s)).wp Q X := rfl
@[simp ↓] theorem wp_eN {o : DOpN} : (eN o t env s).wp Q X = (t env s).wp (kN o Q X) X := by
  unfold eN
  simp only [wp_bind]
  rfl
def kCall (gf : Fn) (Q : D → Sto → Prop) (X : Ex → Sto → Prop) : List D → Sto → Prop := fun ds s1 => (gf ds s1).wp Q X
@[simp ↓] theorem kCall_app {gf : Fn} {xs : List D} : kCall gf Q X xs s = (gf xs s).wp Q X := rfl
@[simp ↓] theorem wp_call {gf : Fn} : (eCall gf t env s).wp Q X = (t env s).wp (kCall gf Q X) X := by
  unfold eCall
  simp only [wp_bind]
  rfl
def kMk2 (o : DOpM) (x : D) (Q : D → Sto → Prop) (X : Ex → Sto → Prop) : List D → Sto → Prop := fun xs s2 => (up (o x xs s2)).wp Q X
@[simp ↓] theorem kMk2_app {o : DOpM} {x : D} {xs : List D} : kMk2 o x Q X xs s = (up (o x xs s)).wp Q X := rfl
def kMk (p : D → Sto → Bool) (o : DOpM) (t : DAr) (env : Env) (Q : D → Sto → Prop) (X : Ex → Sto → Prop) : D → Sto → Prop := fun x s1 => (BrA (p x s1) t env s1).wp (kMk2 o x Q X) X
@[simp ↓] theorem kMk_app {p : D → Sto → Bool} {o : DOpM} {x : D} : kMk p o t env Q X x s = (BrA (p x s) t env s).wp (kMk2 o x Q X) X := rfl
@[simp ↓] theorem wp_mk {p : D → Sto → Bool} {o : DOpM} : (eMk p o f t env s).wp Q X = (f env s).wp (kMk p o t env Q X) X := by
  unfold eMk
  simp only [wp_bind]
  congr 1
  funext x s1
  unfold kMk
  cases p x s1 with
  | true => simp only [if_true, wp_bind, BrA_true]; rfl
  | false => simp
@[simp ↓] theorem wp_mk0 {p : D → Sto → Bool} {o : DOpM} : (eMk0 p o f env s).wp Q X = (f env s).wp (kMk p o aNil env Q X) X := by
  unfold eMk0
  simp only [wp_bind]
  congr 1
  funext x s1
  unfold kMk
  cases p x s1 with
  | true => simp only [if_true, BrA_true, wp_aNil]; rfl
  | false => simp
def methB (s : Sto) (c : String) (m : Str) (x : D) : Bool := match x with
  | .ref i => match insA s i with
    | some (c', fs) => decide (c' = c) && (fs.lookup m).isNone
    | none => false
  | _ => false
def kMeth2 (gf : Fn) (x : D) (Q : D → Sto → Prop) (X : Ex → Sto → Prop) : List D → Sto → Prop := fun xs s2 => (gf (x :: xs) s2).wp Q X
@[simp ↓] theorem kMeth2_app {gf : Fn} {x : D} {xs : List D} : kMeth2 gf x Q X xs s = (gf (x :: xs) s).wp Q X := rfl
def kMeth (c : String) (m : Str) (gf : Fn) (t : DAr) (env : Env) (Q : D → Sto → Prop) (X : Ex → Sto → Prop) : D → Sto → Prop := fun x s1 => (BrA (methB s1 c m x) t env s1).wp (kMeth2 gf x Q X) X
@[simp ↓] theorem kMeth_app {c : String} {m : Str} {gf : Fn} {x : D} : kMeth c m gf t env Q X x s = (BrA (methB s c m x) t env s).wp (kMeth2 gf x Q X) X := rfl
@[simp ↓] theorem wp_meth {c : String} {m : Str} {gf : Fn} : (eMeth c m gf f t env s).wp Q X = (f env s).wp (kMeth c m gf t env Q X) X := by
  unfold eMeth
  simp only [wp_bind]
  congr 1
  funext x s1
  unfold kMeth
  cases x with
  | ref i =>
    dsimp only [methB]
    cases h : insA s1 i with
    | none => simp
    | some p =>
      obtain ⟨c', fs⟩ := p
      dsimp only
      by_cases h1 : c' = c ∧ fs.lookup m = none
      · rw [if_pos h1, h1.1, h1.2, wp_bind]
        simp only [decide_true, Option.isNone_none, Bool.and_self, BrA_true]
        rfl
      · rw [if_neg h1]
        have : (decide (c' = c) && (fs.lookup m).isNone) = false := by
          rw [Bool.and_eq_false_iff]
          by_cases h2 : c' = c
          · right
            rw [Option.isNone_eq_false_iff, Option.isSome_iff_ne_none]
            exact fun z => h1 ⟨h2, z⟩
          · left
            simpa using h2
        rw [this, BrA_false, wp_no, wp_no]
  | _ => simp [methB]
def nonR (v d : D) (s : Sto) : Res D := match v with
  | .non => .ok d s
  | _ => .no
@[simp ↓] theorem nonR_non {d : D} : (nonR .non d s).wp Q X = Q d s := rfl
def kMake2 (d : D) (Q : D → Sto → Prop) (X : Ex → Sto → Prop) : D → Sto → Prop := fun v s2 => (nonR v d s2).wp Q X
@[simp ↓] theorem kMake2_app {d v : D} : kMake2 d Q X v s = (nonR v d s).wp Q X := rfl
def kMake (c : String) (gf : Fn) (Q : D → Sto → Prop) (X : Ex → Sto → Prop) : List D → Sto → Prop := fun ds s1 => (gf (.ref s1.length :: ds) (s1 ++ [.ins c []])).wp (kMake2 (.ref s1.length) Q X) X
@[simp ↓] theorem kMake_app {c : String} {gf : Fn} {ds : List D} : kMake c gf Q X ds s = (gf (.ref s.length :: ds) (s ++ [.ins c []])).wp (kMake2 (.ref s.length) Q X) X := rfl
@[simp ↓] theorem wp_make {c : String} {gf : Fn} : (eMake c gf t env s).wp Q X = (t env s).wp (kMake c gf Q X) X := by
  unfold eMake
  simp only [wp_bind]
  rfl
def kIfE (f g : DEx) (env : Env) (Q : D → Sto → Prop) (X : Ex → Sto → Prop) : Bool → Sto → Prop := fun b s1 => (BrE b f g env s1).wp Q X
@[simp ↓] theorem kIfE_app {b : Bool} : kIfE f g env Q X b s = (BrE b f g env s).wp Q X := rfl
@[simp ↓] theorem wp_iff : (eIf u f g env s).wp Q X = (u env s).wp (kIfE f g env Q X) X := by
  unfold eIf
  simp only [wp_bind]
  rfl
def blR (x : D) (s : Sto) : Res Bool := match x with
  | .bl b => .ok b s
  | _ => .no
@[simp ↓] theorem blR_bl {b : Bool} : (blR (.bl b) s).wp QB X = QB b s := rfl
def kB (QB : Bool → Sto → Prop) (X : Ex → Sto → Prop) : D → Sto → Prop := fun x s1 => (blR x s1).wp QB X
@[simp ↓] theorem kB_app {x : D} : kB QB X x s = (blR x s).wp QB X := rfl
@[simp ↓] theorem wp_tB1 : (tB1 f env s).wp QB X = (f env s).wp (kB QB X) X := by
  unfold tB1
  simp only [wp_bind]
  rfl
@[simp ↓] theorem wp_tB : (tB f env s).wp QB X = (f env s).wp (kB QB X) X := by
  unfold tB
  simp only [wp_bind]
  rfl
def truR (s : Sto) (x : D) : Res Bool := match truD s x with
  | some b => .ok b s
  | none => .no
def kT (QB : Bool → Sto → Prop) (X : Ex → Sto → Prop) : D → Sto → Prop := fun x s1 => (truR s1 x).wp QB X
@[simp ↓] theorem kT_app {x : D} : kT QB X x s = (truR s x).wp QB X := rfl
@[simp ↓] theorem wp_tTru : (tTru f env s).wp QB X = (f env s).wp (kT QB X) X := by
  unfold tTru
  simp only [wp_bind]
  rfl
@[simp ↓] theorem wp_tC {b : Bool} : (tC b env s).wp QB X = QB b s := rfl
@[simp ↓] theorem wp_tYes : (tYesD env s).wp QB X = QB true s := rfl
def kIfT (u w : DTe) (env : Env) (Q : Bool → Sto → Prop) (X : Ex → Sto → Prop) : Bool → Sto → Prop := fun b s1 => (BrT b u w env s1).wp Q X
@[simp ↓] theorem kIfT_app {b : Bool} : kIfT u w env QB X b s = (BrT b u w env s).wp QB X := rfl
@[simp ↓] theorem wp_tAnd2 : (tAnd2 u w env s).wp QB X = (u env s).wp (kIfT w (tC false) env QB X) X := by
  unfold tAnd2
  simp only [wp_bind]
  rfl
@[simp ↓] theorem wp_tOr2 : (tOr2 u w env s).wp QB X = (u env s).wp (kIfT (tC true) w env QB X) X := by
  unfold tOr2
  simp only [wp_bind]
  rfl
def kNot (QB : Bool → Sto → Prop) : Bool → Sto → Prop := fun b s1 => QB (!b) s1
@[simp ↓] theorem kNot_app {b : Bool} : kNot QB b s = QB (!b) s := rfl
@[simp ↓] theorem wp_tNot1 : (tNot1 u env s).wp QB X = (u env s).wp (kNot QB) X := by
  unfold tNot1
  simp only [wp_bind, wp_ok]
  rfl
def kNotD (Q : D → Sto → Prop) : Bool → Sto → Prop := fun b s1 => Q (.bl (!b)) s1
@[simp ↓] theorem kNotD_app {b : Bool} : kNotD Q b s = Q (.bl (!b)) s := rfl
@[simp ↓] theorem wp_eNot : (eNot f env s).wp Q X = (f env s).wp (kB (kNotD Q) X) X := by
  unfold eNot
  simp only [wp_bind]
  congr 1
  funext x s1
  cases x <;> rfl
@[simp ↓] theorem wp_eAnd : (eAnd f g env s).wp Q X = (f env s).wp (kB (kIfE g (eC (.bl false)) env Q X) X) X := by
  unfold eAnd
  simp only [wp_bind]
  congr 1
  funext x s1
  cases x with
  | bl b => cases b <;> rfl
  | _ => rfl
@[simp ↓] theorem wp_eOr : (eOr f g env s).wp Q X = (f env s).wp (kB (kIfE (eC (.bl true)) g env Q X) X) X := by
  unfold eOr
  simp only [wp_bind]
  congr 1
  funext x s1
  cases x with
  | bl b => cases b <;> rfl
  | _ => rfl
@[simp ↓] theorem wp_eDnew : (eDnew env s).wp Q X = Q (.ref s.length) (s ++ [.dct []]) := rfl
end
end DL
set_option maxHeartbeats 4000000
/-! The operators, by what stands in the store: rules for simp -/
namespace DL
open PySem PySem.Spec PyProof.Rows L2 HM
/-- what stands at a number -/
def at_ (s : Sto) (p : Nat) : Option O := s[p]?
section
variable {s t : Sto} {p q : Nat} {o : O}
theorem at_lt (h : at_ s p = some o) : p < s.length := (List.getElem?_eq_some_iff.mp h).1
@[simp] theorem at_set_self (h : p < s.length) : at_ (s.set p o) p = some o := by simp [at_, h]
@[simp] theorem at_set_ne (h : q ≠ p) : at_ (s.set q o) p = at_ s p := List.getElem?_set_ne h
@[simp] theorem at_app_l (h : p < s.length) : at_ (s ++ t) p = at_ s p := List.getElem?_append_left h
@[simp] theorem at_app_len : at_ (s ++ o :: t) s.length = some o := by simp [at_]
theorem at_app_r (h : s.length ≤ p) : at_ (s ++ t) p = at_ t (p - s.length) := List.getElem?_append_right h
@[simp] theorem at_cons_0 : at_ (o :: t) 0 = some o := rfl
@[simp] theorem at_cons_s : at_ (o :: t) (p + 1) = at_ t p := rfl
@[simp] theorem set_app_l (h : p < s.length) : (s ++ t).set p o = s.set p o ++ t := List.set_append_left p o h
theorem at_none (h : s.length ≤ p) : at_ s p = none := List.getElem?_eq_none h
end
section
variable {s : Sto} {env : Env} {p i : Nat} {x y v : D} {xs ys : List D} {a b : Int} {z : Str} {P : Post} {kvs : List (Key × D)} {fs : List (Str × D)} {c : String}
@[simp] theorem rdL_def : rdL s p = match at_ s p with
  | some (.lst xs) => some xs
  | some (.frz (.lst xs)) => some xs
  | _ => none := rfl
@[simp] theorem rdD_def : rdD s p = match at_ s p with
  | some (.dct kvs) => some kvs
  | some (.frz (.dct kvs)) => some kvs
  | _ => none := rfl
@[simp] theorem wrL_def : wrL s p = match at_ s p with
  | some (.lst xs) => some xs
  | _ => none := rfl
@[simp] theorem wrD_def : wrD s p = match at_ s p with
  | some (.dct kvs) => some kvs
  | _ => none := rfl
@[simp] theorem insA_def : insA s p = match at_ s p with
  | some (.ins c fs) => some (c, fs)
  | _ => none := rfl
@[simp] theorem isDct_ref : isDct s (.ref p) = (rdD s p).isSome := rfl
@[simp] theorem isDct_tup : isDct s (.tup xs) = false := rfl
@[simp] theorem isDct_ktup : isDct s (.ktup xs) = false := rfl
@[simp] theorem isDct_klst : isDct s (.klst xs) = false := rfl
@[simp] theorem isDct_str : isDct s (.str z) = false := rfl
@[simp] theorem isDct_int : isDct s (.int a) = false := rfl
@[simp] theorem isDct_non : isDct s .non = false := rfl
@[simp ↓] theorem asgS_tp2 {i j : Nat} {x y : D} : (asgS (.tp [.nm i, .nm j]) (.tup [x, y]) env s).wp P = P.nx ((env.set i (some x)).set j (some y)) s := by simp [asgS, asg, asgs]
@[simp] theorem isEmpty_snoc {α : Type} {x : α} {xs : List α} : (xs ++ [x]).isEmpty = false := by simp
/-! ### indices -/
theorem atI_lt {α : Type} {xs : List α} (h0 : 0 ≤ a) (h1 : a < xs.length) : atI xs a = xs[a.toNat]? := by simp [atI, ixN, h0, h1]
@[simp] theorem atI_nat0 {α : Type} {x : α} {xs : List α} : atI (x :: xs) 0 = some x := by rw [atI_lt (by decide) (by rw [List.length_cons]; omega)]; rfl
@[simp] theorem atI_nat1 {α : Type} {x y : α} {xs : List α} : atI (x :: y :: xs) 1 = some y := by rw [atI_lt (by decide) (by simp only [List.length_cons]; omega)]; rfl
@[simp] theorem atI_nat2 {α : Type} {x y z : α} {xs : List α} : atI (x :: y :: z :: xs) 2 = some z := by rw [atI_lt (by decide) (by simp only [List.length_cons]; omega)]; rfl
@[simp] theorem atI_nat3 {α : Type} {x y z w : α} {xs : List α} : atI (x :: y :: z :: w :: xs) 3 = some w := by rw [atI_lt (by decide) (by simp only [List.length_cons]; omega)]; rfl
theorem ixN_last {n : Nat} (h : n ≠ 0) : ixN n (-1) = some (n - 1) := by
  have h1 : ¬ (0 : Int) ≤ -1 := by decide
  have h2 : -(n : Int) ≤ -1 := by omega
  have h3 : (-1 + (n : Int)).toNat = n - 1 := by omega
  simp only [ixN, if_neg h1, if_pos h2, h3]
@[simp] theorem atI_last {α : Type} {x : α} {xs : List α} : atI (xs ++ [x]) (-1) = some x := by
  unfold atI
  rw [ixN_last (by simp)]
  simp
@[simp] theorem atI_last1 {α : Type} {x : α} : atI [x] (-1) = some x := by
  unfold atI
  rw [ixN_last (by simp)]
  simp
@[simp] theorem ixN_nat0 {n : Nat} : ixN (n + 1) 0 = some 0 := by
  have : (0 : Int) < ((n + 1 : Nat) : Int) := by omega
  simp only [ixN, if_pos (Int.le_refl 0), if_pos this]
  rfl
@[simp] theorem ixN_nat1 {n : Nat} : ixN (n + 1 + 1) 1 = some 1 := by
  have h : (1 : Int) < ((n + 1 + 1 : Nat) : Int) := by omega
  have h0 : (0 : Int) ≤ 1 := by decide
  simp only [ixN, if_pos h0, if_pos h]
  rfl
theorem ixN_lt {n : Nat} (h0 : 0 ≤ a) (h1 : a < n) : ixN n a = some a.toNat := by simp [ixN, h0, h1]
@[simp] theorem oIx_def : oIx x y s = if isDct s x then oIxK x y s else oIxS x y s := rfl
@[simp] theorem oIxS_def : oIxS x y s = (ixS s x y).map fun d => (d, s) := rfl
@[simp] theorem oIxK_def : oIxK x y s = (ixK s x y).map fun d => (d, s) := rfl
@[simp] theorem ixS_tup : ixS s (.tup xs) (.int a) = atI xs a := rfl
@[simp] theorem ixS_ktup : ixS s (.ktup xs) (.int a) = atI xs a := rfl
@[simp] theorem ixS_klst : ixS s (.klst xs) (.int a) = atI xs a := rfl
@[simp] theorem ixS_ref : ixS s (.ref p) (.int a) = match rdL s p with
  | some xs => atI xs a
  | none => none := rfl
@[simp] theorem keyD_int : keyD (.int a) = some (.inl a) := rfl
@[simp] theorem keyD_str : keyD (.str z) = some (.inr z) := rfl
@[simp] theorem ixK_ref : ixK s (.ref p) y = match rdD s p, keyD y with
  | some kvs, some k => valD kvs k
  | _, _ => none := rfl
/-! ### numbers -/
@[simp] theorem oAdd_int : oAdd (.int a) (.int b) s = some (.int (a + b), s) := rfl
@[simp] theorem oSub_int : oSub (.int a) (.int b) s = some (.int (a - b), s) := rfl
@[simp] theorem oNeg_int : oNeg (.int a) s = some (.int (-a), s) := rfl
theorem oMul_int (h : CMulW a b) : oMul (.int a) (.int b) s = some (.int (a * b), s) := by simp [oMul, h]
theorem oFdiv_int (h : 0 < b) (h2 : b.natAbs.log2 < 9000) : oFdiv (.int a) (.int b) s = some (.int (a / b), s) := by simp [oFdiv, h, h2]
theorem oMod_int (h : 0 < b) : oMod (.int a) (.int b) s = some (.int (a % b), s) := by simp [oMod, h]
theorem oPow_int (h0 : 0 ≤ b) (h1 : b ≤ 1000000) (h : a.natAbs < 2 ^ 64) : oPow (.int a) (.int b) s = some (.int (a ^ b.toNat), s) := by simp [oPow, h0, h1, h]
@[simp] theorem oLt_int : oLt (.int a) (.int b) s = some (.bl (decide (a < b)), s) := rfl
@[simp] theorem oLe_int : oLe (.int a) (.int b) s = some (.bl (decide (a ≤ b)), s) := rfl
@[simp] theorem oGt_int : oGt (.int a) (.int b) s = some (.bl (decide (b < a)), s) := rfl
@[simp] theorem oGe_int : oGe (.int a) (.int b) s = some (.bl (decide (b ≤ a)), s) := rfl
@[simp] theorem oEq_int : oEq (.int a) (.int b) s = some (.bl (decide (a = b)), s) := rfl
@[simp] theorem oNe_int : oNe (.int a) (.int b) s = some (.bl (!decide (a = b)), s) := rfl
@[simp] theorem oEq_str {z w : Str} : oEq (.str z) (.str w) s = some (.bl (decide (z = w)), s) := rfl
@[simp] theorem oNe_str {z w : Str} : oNe (.str z) (.str w) s = some (.bl (!decide (z = w)), s) := rfl
@[simp] theorem oIsN_def : oIsN x .non s = some (.bl (isN x), s) := rfl
@[simp] theorem oNotN_def : oNotN x .non s = some (.bl (!isN x), s) := rfl
@[simp] theorem isN_non : isN .non = true := rfl
@[simp] theorem isN_int : isN (.int a) = false := rfl
@[simp] theorem isN_str : isN (.str z) = false := rfl
@[simp] theorem isN_tup : isN (.tup xs) = false := rfl
@[simp] theorem isN_ktup : isN (.ktup xs) = false := rfl
@[simp] theorem isN_ref : isN (.ref p) = false := rfl
@[simp] theorem isN_bl {t : Bool} : isN (.bl t) = false := rfl
/-! ### displays, fields -/
theorem oTup_ok (h : xs.length ≤ 1000) : oTup xs s = some (.tup xs, s) := by
  have : xs.length ≤ sizeLine := Nat.le_trans h (by decide)
  simp [oTup, this]
theorem oLst_ok (h : xs.length ≤ 1000) : oLst xs s = some (.ref s.length, s ++ [.lst xs]) := by
  have : xs.length ≤ sizeLine := Nat.le_trans h (by decide)
  simp [oLst, this]
@[simp] theorem oTup_nil : oTup [] s = some (.tup [], s) := oTup_ok (by simp)
@[simp] theorem oTup_1 : oTup [x] s = some (.tup [x], s) := oTup_ok (by simp)
@[simp] theorem oTup_2 : oTup [x, y] s = some (.tup [x, y], s) := oTup_ok (by simp)
@[simp] theorem oTup_3 : oTup [x, y, v] s = some (.tup [x, y, v], s) := oTup_ok (by simp)
@[simp] theorem oTup_4 {w : D} : oTup [x, y, v, w] s = some (.tup [x, y, v, w], s) := oTup_ok (by simp)
@[simp] theorem oLst_nil : oLst [] s = some (.ref s.length, s ++ [.lst []]) := oLst_ok (by simp)
@[simp] theorem oLst_1 : oLst [x] s = some (.ref s.length, s ++ [.lst [x]]) := oLst_ok (by simp)
@[simp] theorem oLst_2 : oLst [x, y] s = some (.ref s.length, s ++ [.lst [x, y]]) := oLst_ok (by simp)
@[simp] theorem oFld_ref {n : Str} : oFld n (.ref p) s = match insA s p with
  | some (_, fs) => (fs.lookup n).map fun d => (d, s)
  | none => none := rfl
@[simp] theorem fldS_ref {n : Str} : fldS n v (.ref p) s env = match insA s p with
  | some (c, fs) => if fs.length < 1000 then .nx env (s.set p (.ins c (putFD n v fs))) else .no
  | none => .no := rfl
@[simp] theorem methB_ref {m : Str} : methB s c m (.ref p) = match insA s p with
  | some (c', fs) => decide (c' = c) && (fs.lookup m).isNone
  | none => false := rfl
@[simp] theorem setS_def : setS s x y v env = match setD s x y v with
  | some s4 => .nx env s4
  | none => .no := rfl
@[simp] theorem setD_def : setD s x y v = if isL s x then setL s x y v else setK s x y v := rfl
@[simp] theorem isL_ref : isL s (.ref p) = (wrL s p).isSome := rfl
@[simp] theorem setL_ref : setL s (.ref p) (.int a) v = match wrL s p with
  | some xs => (ixN xs.length a).map fun j => s.set p (.lst (xs.set j v))
  | none => none := rfl
theorem setK_dct (h : at_ s p = some (.dct kvs)) {k : Key} (hk : keyD y = some k) (hl : kvs.length < 1000000) : setK s (.ref p) y v = some (s.set p (.dct (putD kvs k v))) := by
  have : kvs.length < sizeLine := Nat.lt_of_lt_of_le hl (by decide)
  have h' : s[p]? = some (.dct kvs) := h
  simp [setK, h', hk, this]
@[simp] theorem truR_def : truR s x = match truD s x with
  | some b => .ok b s
  | none => .no := rfl
@[simp] theorem truD_bl {t : Bool} : truD s (.bl t) = some t := rfl
@[simp] theorem truD_non : truD s .non = some false := rfl
@[simp] theorem truD_int : truD s (.int a) = some (a != 0) := rfl
@[simp] theorem truD_tup : truD s (.tup xs) = some (!xs.isEmpty) := rfl
@[simp] theorem truD_ref : truD s (.ref p) = match at_ s p with
    | some (.lst xs) => some (!xs.isEmpty)
    | some (.frz (.lst xs)) => some (!xs.isEmpty)
    | some (.dct kvs) => some (!kvs.isEmpty)
    | _ => none := rfl
@[simp] theorem isLst_ref : isLst (.ref p) s = (rdL s p).isSome := rfl
@[simp] theorem isStr_str : isStr (.str z) s = true := rfl
theorem oAppend_ok (h : at_ s p = some (.lst xs)) (hl : xs.length < 1000000) : oAppend (.ref p) [y] s = some (.non, s.set p (.lst (xs ++ [y]))) := by
  have : xs.length < sizeLine := Nat.lt_of_lt_of_le hl (by decide)
  simp [oAppend, h, this]
@[simp] theorem oLen_def : oLen [x] s = (lenD s x).map fun n : Nat => (.int n, s) := by
  simp only [oLen]
  cases lenD s x <;> rfl
@[simp] theorem lenD_tup : lenD s (.tup xs) = some xs.length := rfl
@[simp] theorem lenD_ktup : lenD s (.ktup xs) = some xs.length := rfl
@[simp] theorem lenD_klst : lenD s (.klst xs) = some xs.length := rfl
@[simp] theorem lenD_ref : lenD s (.ref p) = match at_ s p with
    | some (.lst xs) => some xs.length
    | some (.frz (.lst xs)) => some xs.length
    | some (.dct kvs) => some kvs.length
    | some (.frz (.dct kvs)) => some kvs.length
    | _ => none := rfl
theorem lenD_str (h : z.length ≤ 1000000) : lenD s (.str z) = some z.length := by
  have : z.length ≤ sizeLine := Nat.le_trans h (by decide)
  simp [lenD, this]
theorem oDivmod_ok (h : 0 < b) (h2 : b.natAbs.log2 < 9000) : oDivmod [.int a, .int b] s = some (.tup [.int (a / b), .int (a % b)], s) := by simp [oDivmod, h, h2]
@[simp] theorem oMax_ok : oMax [.int a, .int b] s = some (.int (if b > a then b else a), s) := rfl
@[simp] theorem oMin_ok : oMin [.int a, .int b] s = some (.int (if b < a then b else a), s) := rfl
end
end DL
set_option maxHeartbeats 4000000
/-! Walking loops, comprehensions, all(..), slices, locks -/
namespace DL
open PySem PySem.Spec PyProof.Rows L2 HM
section
variable {f g h : DEx} {u w : DTe} {env : Env} {s : Sto} {P : Post} {Q : D → Sto → Prop} {QB : Bool → Sto → Prop} {QA : List D → Sto → Prop} {QI : Src → Sto → Prop} {X : Ex → Sto → Prop} {j k : DSt} {t : DAr} {it : DIt} {tg : Tg}
/-! ### sources -/
def srcR (s : Sto) (x : D) : Res Src := match srcD s x with
  | some src => .ok src s
  | none => .no
def kSrc (QI : Src → Sto → Prop) (X : Ex → Sto → Prop) : D → Sto → Prop := fun x s1 => (srcR s1 x).wp QI X
@[simp ↓] theorem kSrc_app {x : D} : kSrc QI X x s = (srcR s x).wp QI X := rfl
@[simp ↓] theorem wp_iE : (iE f env s).wp QI X = (f env s).wp (kSrc QI X) X := by
  unfold iE
  simp only [wp_bind]
  rfl
@[simp] theorem srcR_tup {xs : List D} : srcR s (.tup xs) = .ok ⟨xs, fun _ => True⟩ s := rfl
@[simp] theorem srcR_str {z : Str} : srcR s (.str z) = .ok ⟨charsD z, fun _ => True⟩ s := rfl
@[simp] theorem srcR_ref {i : Nat} : srcR s (.ref i) = match at_ s i with
    | some (.lst xs) => .ok ⟨xs, fun s => rdL s i = some xs⟩ s
    | some (.frz (.lst xs)) => .ok ⟨xs, fun s => rdL s i = some xs⟩ s
    | some (.frz (.dct kvs)) => .ok ⟨keysD kvs, fun _ => True⟩ s
    | _ => .no := by
  unfold srcR srcD at_
  dsimp only
  cases h : s[i]? with
  | none => rfl
  | some o =>
    cases o with
    | lst xs => rfl
    | frz o => cases o <;> rfl
    | _ => rfl
open Classical in
/-- range(j); the bounds are not to be reckoned out -/
noncomputable def rngR (x : D) (s : Sto) : Res Src := if h : ∃ j : Int, x = .int j ∧ -(2 ^ 62) ≤ j ∧ j < 2 ^ 62 then .ok ⟨(List.range h.choose.toNat).map fun i => .int ((0 : Int) + (i : Nat)), fun _ => True⟩ s else .no
theorem rngR_eq {x : D} : rngR x s = (match x with
  | .int j => if -(2 ^ 62) ≤ j ∧ j < 2 ^ 62 then .ok ⟨(List.range j.toNat).map fun i => .int ((0 : Int) + (i : Nat)), fun _ => True⟩ s else .no
  | _ => .no) := by
  unfold rngR
  cases x with
  | int j =>
    by_cases hj : -(2 ^ 62) ≤ j ∧ j < 2 ^ 62
    · have hx : ∃ j' : Int, D.int j = .int j' ∧ -(2 ^ 62) ≤ j' ∧ j' < 2 ^ 62 := ⟨j, rfl, hj⟩
      rw [dif_pos hx]
      have e : hx.choose = j := (D.int.inj hx.choose_spec.1).symm
      simp only [e]
      rw [if_pos hj]
    · have hx : ¬∃ j' : Int, D.int j = .int j' ∧ -(2 ^ 62) ≤ j' ∧ j' < 2 ^ 62 := fun ⟨j', e, h⟩ => hj (by cases e; exact h)
      rw [dif_neg hx]
      simp only
      rw [if_neg hj]
  | _ => exact dif_neg fun ⟨j', e, h⟩ => by cases e
theorem rngR_ok {j : Int} (h1 : 0 ≤ j) (h2 : j < 1000000) : rngR (.int j) s = .ok ⟨(List.range j.toNat).map fun i => .int ((0 : Int) + (i : Nat)), fun _ => True⟩ s := by
  have h3 : -(2 ^ 62 : Int) ≤ j := by omega
  have h4 : j < (2 ^ 62 : Int) := by omega
  rw [rngR_eq]
  exact if_pos ⟨h3, h4⟩
def kRng (QI : Src → Sto → Prop) (X : Ex → Sto → Prop) : D → Sto → Prop := fun x s1 => (rngR x s1).wp QI X
@[simp ↓] theorem kRng_app {x : D} : kRng QI X x s = (rngR x s).wp QI X := rfl
@[simp ↓] theorem wp_range1 : (iRange1 f env s).wp QI X = (f env s).wp (kRng QI X) X := by
  unfold iRange1
  simp only [wp_bind]
  congr 1
  funext x s1
  have e : kRng QI X x s1 = (rngR x s1).wp QI X := rfl
  rw [e, rngR_eq (s := s1) (x := x)]
  first
    | done
    | (cases x <;> rfl)
def enumR (s : Sto) (x : D) : Res Src := match x with
  | .tup xs => .ok ⟨enumD xs, fun _ => True⟩ s
  | .ref i => match rdL s i with
    | some xs => .ok ⟨enumD xs, fun s => rdL s i = some xs⟩ s
    | none => .no
  | _ => .no
@[simp] theorem enumR_tup {xs : List D} : enumR s (.tup xs) = .ok ⟨enumD xs, fun _ => True⟩ s := rfl
def kEnum (QI : Src → Sto → Prop) (X : Ex → Sto → Prop) : D → Sto → Prop := fun x s1 => (enumR s1 x).wp QI X
@[simp ↓] theorem kEnum_app {x : D} : kEnum QI X x s = (enumR s x).wp QI X := rfl
@[simp ↓] theorem wp_enum : (iEnum f env s).wp QI X = (f env s).wp (kEnum QI X) X := by
  unfold iEnum
  simp only [wp_bind]
  rfl
def itmR (s : Sto) (x : D) : Res Src := match x with
  | .ref i => match at_ s i with
    | some (.frz (.dct kvs)) => .ok ⟨itemsD kvs, fun _ => True⟩ s
    | _ => .no
  | _ => .no
@[simp] theorem itmR_ref {i : Nat} : itmR s (.ref i) = match at_ s i with
    | some (.frz (.dct kvs)) => .ok ⟨itemsD kvs, fun _ => True⟩ s
    | _ => .no := rfl
def kItm (QI : Src → Sto → Prop) (X : Ex → Sto → Prop) : D → Sto → Prop := fun x s1 => (itmR s1 x).wp QI X
@[simp ↓] theorem kItm_app {x : D} : kItm QI X x s = (itmR s x).wp QI X := rfl
@[simp ↓] theorem wp_items : (iItems f env s).wp QI X = (f env s).wp (kItm QI X) X := by
  unfold iItems
  simp only [wp_bind]
  rfl
def zipR (ds : List D) (s : Sto) : Res Src := match ds with
  | [.tup xs, y] => match seqT y with
    | some ys => .ok ⟨zipD xs ys, fun _ => True⟩ s
    | none => .no
  | _ => .no
@[simp] theorem zipR_tt {xs ys : List D} : zipR [.tup xs, .tup ys] s = .ok ⟨zipD xs ys, fun _ => True⟩ s := rfl
@[simp] theorem zipR_tk {xs ys : List D} : zipR [.tup xs, .ktup ys] s = .ok ⟨zipD xs ys, fun _ => True⟩ s := rfl
def kZip (QI : Src → Sto → Prop) (X : Ex → Sto → Prop) : List D → Sto → Prop := fun x s1 => (zipR x s1).wp QI X
@[simp ↓] theorem kZip_app {x : List D} : kZip QI X x s = (zipR x s).wp QI X := rfl
@[simp ↓] theorem wp_zip : (iZip t env s).wp QI X = (t env s).wp (kZip QI X) X := by
  unfold iZip
  simp only [wp_bind]
  rfl
/-! ### for -/
def kFor (tg : Tg) (body : DSt) (env : Env) (P : Post) : Src → Sto → Prop := fun src s1 => (forL tg body src.ok src.items env s1).wp P
@[simp ↓] theorem kFor_app {src : Src} : kFor tg j env P src s = (forL tg j src.ok src.items env s).wp P := rfl
@[simp ↓] theorem wp_for : (sFor tg it j env s).wp P = (it env s).wp (kFor tg j env P) (kX P env) := by
  unfold sFor
  rw [wp_st]
  rfl
theorem forL_inv {ok : Sto → Prop} (I : List D → Env → Sto → Prop) : ∀ {items : List D} {env : Env} {s : Sto}, I items env s → (∀ rest env s, I rest env s → ok s) →
    (∀ x rest env s, I (x :: rest) env s → ∃ env1, asg tg x env = some env1 ∧ (j env1 s).wp ⟨I rest, P.rt, P.nx, I rest, P.ex⟩) → (∀ env s, I [] env s → P.nx env s) → (forL tg j ok items env s).wp P
  | [], env, s, h0, hok, _, he => by
    unfold forL
    rw [if_pos (hok _ _ _ h0)]
    exact he env s h0
  | x :: rest, env, s, h0, hok, st, he => by
    unfold forL
    rw [if_pos (hok _ _ _ h0)]
    obtain ⟨env1, e1, hb⟩ := st x rest env s h0
    rw [e1]
    dsimp only
    cases hj : j env1 s with
    | nx e s' => rw [hj] at hb; exact forL_inv I hb hok st he
    | ct e s' => rw [hj] at hb; exact forL_inv I hb hok st he
    | bk e s' => rw [hj] at hb; exact hb
    | rt d s' => rw [hj] at hb; exact hb
    | ex y e s' => rw [hj] at hb; exact hb
    | no => rw [hj] at hb; exact hb
/-! ### comprehensions -/
def kLc (tg : Tg) (u : DTe) (f : DEx) (envw : Env) (Q : D → Sto → Prop) (X : Ex → Sto → Prop) : Src → Sto → Prop := fun src s1 => (lcL tg u f src.ok s1.length src.items envw (s1 ++ [.lst []])).wp Q X
@[simp ↓] theorem kLc_app {src : Src} : kLc tg u f env Q X src s = (lcL tg u f src.ok s.length src.items env (s ++ [.lst []])).wp Q X := rfl
@[simp ↓] theorem wp_lc {own : List Nat} : (eLc tg own it u f env s).wp Q X = (it env s).wp (kLc tg u f (wipeD env own) Q X) X := by
  unfold eLc
  simp only [wp_bind]
  rfl
/-- what is found so far stands at n -/
theorem lcL_inv {ok : Sto → Prop} {n : Nat} (I : List D → List D → Sto → Prop) : ∀ {items acc : List D} {s : Sto}, I items acc s → (∀ rest acc s, I rest acc s → ok s) →
    (∀ x rest acc s, I (x :: rest) acc s → ∃ env1, asg tg x env = some env1 ∧ (u env1 s).wp (fun b s1 => if b = true then (f env1 s1).wp (fun y s2 => at_ s2 n = some (.lst acc) ∧ acc.length < 1000000 ∧ I rest (acc ++ [y]) (s2.set n (.lst (acc ++ [y])))) nX else I rest acc s1) nX) →
    (∀ acc s, I [] acc s → Q (.ref n) s) → (lcL tg u f ok n items env s).wp Q X
  | [], acc, s, h0, hok, _, he => by
    unfold lcL
    rw [if_pos (hok _ _ _ h0)]
    exact he acc s h0
  | x :: rest, acc, s, h0, hok, st, he => by
    unfold lcL
    rw [if_pos (hok _ _ _ h0)]
    obtain ⟨env1, e1, hb⟩ := st x rest acc s h0
    rw [e1]
    dsimp only
    obtain ⟨b, s1, eb, hb⟩ := hb.ex
    rw [eb]
    cases b with
    | true =>
      obtain ⟨y, s2, ey, h1, h2, h3⟩ := Res.wp.ex (show (f env1 s1).wp _ nX from hb)
      dsimp only
      rw [ey]
      dsimp only
      have h1' : s2[n]? = some (.lst acc) := h1
      have h2' : acc.length < sizeLine := Nat.lt_of_lt_of_le h2 (by decide)
      simp only [wrL, h1', h2', if_true]
      exact lcL_inv I h3 hok st he
    | false => exact lcL_inv I hb hok st he
/-! ### all -/
def kBd (Q : D → Sto → Prop) : Bool → Sto → Prop := fun b s => Q (.bl b) s
@[simp ↓] theorem kBd_app {b : Bool} : kBd Q b s = Q (.bl b) s := rfl
theorem wp_bd {r : Res Bool} : r.bd.wp Q X = r.wp (kBd Q) X := by cases r <;> rfl
def kAll (tg : Tg) (u : DTe) (f : DEx) (envw : Env) (Q : D → Sto → Prop) (X : Ex → Sto → Prop) : Src → Sto → Prop := fun src s1 => (allL tg u f src.ok envw src.items s1).wp (kBd Q) X
@[simp ↓] theorem kAll_app {src : Src} : kAll tg u f env Q X src s = (allL tg u f src.ok env src.items s).wp (kBd Q) X := rfl
@[simp ↓] theorem wp_all {own : List Nat} : (eAll tg own it u f env s).wp Q X = (it env s).wp (kAll tg u f (wipeD env own) Q X) X := by
  unfold eAll
  simp only [wp_bind, wp_bd]
  rfl
/-- a value that leaves the store as it was, but for new things -/
def PQ (s : Sto) (v : D) : D → Sto → Prop := fun d s' => d = v ∧ s <+: s'
def PQB (s : Sto) (v : Bool) : Bool → Sto → Prop := fun d s' => d = v ∧ s <+: s'
theorem at_pre {s s' : Sto} {p : Nat} {o : O} (h : s <+: s') (e : at_ s p = some o) : at_ s' p = some o := by
  obtain ⟨r, rfl⟩ := h
  rw [at_app_l (at_lt e)]
  exact e
theorem pre_app (s r : Sto) : s <+: s ++ r := List.prefix_append s r
theorem allL_pure {ok : Sto → Prop} (p : D → Bool) : ∀ {items : List D} {s : Sto}, (∀ s', s <+: s' → ok s') → (∀ x ∈ items, ∃ env1, asg tg x env = some env1 ∧ ∀ s', s <+: s' → (f env1 s').wp (PQ s' (.bl (p x))) nX) →
    (allL tg tYesD f ok env items s).wp (PQB s (items.all p)) X
  | [], s, hok, _ => by
    unfold allL
    rw [if_pos (hok s (List.prefix_refl s))]
    exact ⟨rfl, List.prefix_refl s⟩
  | x :: r, s, hok, h => by
    unfold allL
    rw [if_pos (hok s (List.prefix_refl s))]
    obtain ⟨env1, e1, hb⟩ := h x List.mem_cons_self
    rw [e1]
    dsimp only [tYesD]
    obtain ⟨d, s2, e2, rfl, pre⟩ := (hb s (List.prefix_refl s)).ex
    rw [e2]
    cases hp : p x with
    | false =>
      dsimp only
      exact ⟨by simp [hp], pre⟩
    | true =>
      dsimp only
      refine (allL_pure p (fun s' h' => hok s' (pre.trans h')) (fun y hy => ?_)).mono (fun b s' hq => ?_)
      · obtain ⟨env2, e3, h3⟩ := h y (List.mem_cons_of_mem _ hy)
        exact ⟨env2, e3, fun s' h' => h3 s' (pre.trans h')⟩
      · exact ⟨by rw [hq.1]; simp [hp], pre.trans hq.2⟩
/-! ### chains, slices, written dicts, sets -/
def kCh3 (o' : DOp2) (y : D) (Q : D → Sto → Prop) (X : Ex → Sto → Prop) : D → Sto → Prop := fun w s4 => (up (o' y w s4)).wp Q X
@[simp ↓] theorem kCh3_app {o' : DOp2} {y x : D} : kCh3 o' y Q X x s = (up (o' y x s)).wp Q X := rfl
def chR (o' : DOp2) (y : D) (h : DEx) (env : Env) (Q : D → Sto → Prop) (X : Ex → Sto → Prop) (b : Bool) (s : Sto) : Prop := if b = true then (h env s).wp (kCh3 o' y Q X) X else Q (.bl false) s
@[simp ↓] theorem chR_true {o' : DOp2} {y : D} : chR o' y h env Q X true s = (h env s).wp (kCh3 o' y Q X) X := by simp [chR]
@[simp ↓] theorem chR_false {o' : DOp2} {y : D} : chR o' y h env Q X false s = Q (.bl false) s := by simp [chR]
def kCh2 (o o' : DOp2) (x : D) (h : DEx) (env : Env) (Q : D → Sto → Prop) (X : Ex → Sto → Prop) : D → Sto → Prop := fun y s2 => (up (o x y s2)).wp (kB (chR o' y h env Q X) X) X
@[simp ↓] theorem kCh2_app {o o' : DOp2} {x y : D} : kCh2 o o' x h env Q X y s = (up (o x y s)).wp (kB (chR o' y h env Q X) X) X := rfl
def kCh1 (o o' : DOp2) (g h : DEx) (env : Env) (Q : D → Sto → Prop) (X : Ex → Sto → Prop) : D → Sto → Prop := fun x s1 => (g env s1).wp (kCh2 o o' x h env Q X) X
@[simp ↓] theorem kCh1_app {o o' : DOp2} {x : D} : kCh1 o o' g h env Q X x s = (g env s).wp (kCh2 o o' x h env Q X) X := rfl
@[simp ↓] theorem wp_chain {o o' : DOp2} : (eChain o o' f g h env s).wp Q X = (f env s).wp (kCh1 o o' g h env Q X) X := by
  unfold eChain
  simp only [wp_bind]
  congr 1
  funext x s1
  unfold kCh1
  congr 1
  funext y s2
  unfold kCh2
  congr 1
  funext z s3
  cases z with
  | bl b =>
    cases b with
    | true => simp only [wp_bind, kB_app, blR_bl, chR_true]; rfl
    | false => rfl
  | _ => rfl
def ptR (x : D) (s : Sto) : Res (Option Int) := match partD x with
  | some i => .ok (some i) s
  | none => .no
@[simp] theorem ptR_int {i : Int} : ptR (.int i) s = .ok (some i) s := rfl
def kPt (QO : Option Int → Sto → Prop) (X : Ex → Sto → Prop) : D → Sto → Prop := fun x s1 => (ptR x s1).wp QO X
@[simp ↓] theorem kPt_app {QO : Option Int → Sto → Prop} {x : D} : kPt QO X x s = (ptR x s).wp QO X := rfl
@[simp ↓] theorem wp_pOut {QO : Option Int → Sto → Prop} : (ePart .out env s).wp QO X = QO none s := rfl
@[simp ↓] theorem wp_pAt {QO : Option Int → Sto → Prop} : (ePart (.at_ f) env s).wp QO X = (f env s).wp (kPt QO X) X := by
  show ((f env s).bind _).wp QO X = _
  simp only [wp_bind]
  rfl
def kSl3 (x : D) (l : Option Int) (Q : D → Sto → Prop) (X : Ex → Sto → Prop) : Option Int → Sto → Prop := fun r s3 => (up (oSl x l r s3)).wp Q X
@[simp ↓] theorem kSl3_app {x : D} {l r : Option Int} : kSl3 x l Q X r s = (up (oSl x l r s)).wp Q X := rfl
def kSl2 (x : D) (hi : Part) (env : Env) (Q : D → Sto → Prop) (X : Ex → Sto → Prop) : Option Int → Sto → Prop := fun l s2 => (ePart hi env s2).wp (kSl3 x l Q X) X
@[simp ↓] theorem kSl2_app {x : D} {hi : Part} {l : Option Int} : kSl2 x hi env Q X l s = (ePart hi env s).wp (kSl3 x l Q X) X := rfl
def kSl1 (lo hi : Part) (env : Env) (Q : D → Sto → Prop) (X : Ex → Sto → Prop) : D → Sto → Prop := fun x s1 => (ePart lo env s1).wp (kSl2 x hi env Q X) X
@[simp ↓] theorem kSl1_app {x : D} {lo hi : Part} : kSl1 lo hi env Q X x s = (ePart lo env s).wp (kSl2 x hi env Q X) X := rfl
@[simp ↓] theorem wp_sl {lo hi : Part} : (eSl f lo hi env s).wp Q X = (f env s).wp (kSl1 lo hi env Q X) X := by
  unfold eSl
  simp only [wp_bind]
  rfl
def kgR (tb : List (Str × D)) (x : D) (s : Sto) : Res D := match x with
  | .str z => .ok ((tb.lookup z).getD .non) s
  | _ => .no
@[simp] theorem kgR_str {tb : List (Str × D)} {z : Str} : kgR tb (.str z) s = .ok ((tb.lookup z).getD .non) s := rfl
def kKg (tb : List (Str × D)) (Q : D → Sto → Prop) (X : Ex → Sto → Prop) : D → Sto → Prop := fun x s1 => (kgR tb x s1).wp Q X
@[simp ↓] theorem kKg_app {tb : List (Str × D)} {x : D} : kKg tb Q X x s = (kgR tb x s).wp Q X := rfl
@[simp ↓] theorem wp_kget {tb : List (Str × D)} : (eKget tb f env s).wp Q X = (f env s).wp (kKg tb Q X) X := by
  unfold eKget
  simp only [wp_bind]
  rfl
/-! ### dicts that are walked are locked -/
theorem wp_lock {fi : DEx} {i : Nat} {kvs : List (Key × D)} {s1 : Sto} (h1 : fi env s = .ok (.ref i) s1) (h2 : at_ s i = some (.dct kvs)) (h3 : (f env (s.set i (.frz (.dct kvs)))).wp (fun d s' => Q d (s'.set i (.dct kvs))) nX) : (eLock fi f env s).wp Q X := by
  have h2' : s[i]? = some (.dct kvs) := h2
  unfold eLock
  rw [h1]
  dsimp only
  rw [h2']
  dsimp only
  obtain ⟨d, s', e, q⟩ := h3.ex
  rw [e]
  exact q
theorem wp_sLock {fi : DEx} {i : Nat} {kvs : List (Key × D)} {s1 : Sto} (h1 : fi env s = .ok (.ref i) s1) (h2 : at_ s i = some (.dct kvs)) (h3 : (j env (s.set i (.frz (.dct kvs)))).wp ⟨fun e s' => P.nx e (s'.set i (.dct kvs)), fun e s' => P.rt e (s'.set i (.dct kvs)), fun e s' => P.bk e (s'.set i (.dct kvs)), fun e s' => P.ct e (s'.set i (.dct kvs)), fun _ _ _ => False⟩) : (sLock fi j env s).wp P := by
  have h2' : s[i]? = some (.dct kvs) := h2
  unfold sLock
  rw [h1]
  dsimp only
  rw [h2']
  dsimp only
  cases hj : j env (s.set i (.frz (.dct kvs))) with
  | nx e s' => rw [hj] at h3; exact h3
  | rt e s' => rw [hj] at h3; exact h3
  | bk e s' => rw [hj] at h3; exact h3
  | ct e s' => rw [hj] at h3; exact h3
  | ex x e s' => rw [hj] at h3; exact h3.elim
  | no => rw [hj] at h3; exact h3.elim
end
end DL
set_option maxHeartbeats 4000000
/-! What the laws draw: cells, pots, digits -/
namespace S0
open PySem PySem.Spec PyProof.Rows L2 HM DL
noncomputable def d__law_at : DSt := (sRet (eIf (tB1 (e2 oLt (eVar 1) (eN oLen (aCons (eVar 0) aNil)))) (e2 oIx (eVar 0) (eVar 1)) (eC (.int 0))))
noncomputable def f__law_at : Fn := runFn 2 2 d__law_at
noncomputable def d__law_pot : DSt := (sSeq (sAsg (.nm 2) (eCall f__law_at (aCons (eVar 0) (aCons (eVar 1) aNil))))
    (sRet (eN oLst (aCons (eN oMax (aCons (eC (.int 0)) (aCons (e2 oSub (eVar 2) (e2 oPow (eC (.int 10)) (eC (.int 18)))) aNil))) (aCons (e2 oAdd (e2 oMod (e2 oPow (e2 oAdd (e2 oMod (eVar 2) (eC (.int 2147483629))) (e2 oMul (eC (.int 40503)) (e2 oAdd (eVar 1) (eC (.int 1))))) (eC (.int 3))) (eC (.int 2147483563))) (eC (.int 1))) aNil)))))
noncomputable def f__law_pot : Fn := runFn 2 3 d__law_pot
noncomputable def d__law_draw : DSt := (sSeq (sIf (tB1 (e2 oGt (e2 oIx (eVar 0) (eC (.int 0))) (eC (.int 0)))) (sSeq (sSubNm 2 (eVar 0) (eC (.int 0)) (eN oDivmod (aCons (e2 oIx (eVar 0) (eC (.int 0))) (aCons (eVar 1) aNil))))
    (sRet (eVar 2))) sNil)
    (sSeq (sPut (eVar 0) (eC (.int 1)) (e2 oMod (e2 oAdd (e2 oMul (e2 oIx (eVar 0) (eC (.int 1))) (eC (.int 39373))) (eC (.int 7919))) (eC (.int 2147483629))))
    (sRet (e2 oMod (e2 oFdiv (e2 oMod (e2 oMul (e2 oIx (eVar 0) (eC (.int 1))) (e2 oIx (eVar 0) (eC (.int 1)))) (eC (.int 2147483587))) (eC (.int 7))) (eVar 1)))))
noncomputable def f__law_draw : Fn := runFn 2 3 d__law_draw

structure PotOk (a b : Int) : Prop where
  h0 : 0 ≤ a
  h1 : 0 ≤ b
  h2 : b < 2147483648
theorem log2_lt {n k : Nat} (hk : k ≠ 0) (h : n < 2 ^ k) : n.log2 < k := by
  by_cases hn : n = 0
  · subst hn
    simp
    omega
  · exact (Nat.log2_lt hn).mpr h
theorem log31 {b : Int} (h1 : 0 ≤ b) (h2 : b < 2147483648) : b.natAbs.log2 < 31 := log2_lt (by decide) (by omega)
/-- what a draw leaves -/
def DrQ (p : Nat) (n : Int) (s : Sto) : D → Sto → Prop := fun d s' => ∃ k a' b', d = .int k ∧ 0 ≤ k ∧ k < n ∧ PotOk a' b' ∧ s' = s.set p (.lst [.int a', .int b'])
theorem draw_ok {p : Nat} {a b n : Int} {s : Sto} (hp : at_ s p = some (.lst [.int a, .int b])) (hb : PotOk a b) (hn : 0 < n) (hl : n.natAbs.log2 < 9000) : (f__law_draw [.ref p, .int n] s).wp (DrQ p n s) nX := by
  have hpl := at_lt hp
  have l1 := log31 hb.h1 hb.h2
  unfold f__law_draw d__law_draw
  simp [hp]
  by_cases ha : 0 < a
  · simp [BrS, ha, hp, oDivmod_ok hn hl]
    exact ⟨_, _, _, rfl, Int.emod_nonneg _ (by omega), Int.emod_lt_of_pos _ hn, ⟨Int.ediv_nonneg hb.h0 (by omega), hb.h1, hb.h2⟩, rfl⟩
  · have c1 : CMulW b 39373 := by
      have : (39373 : Int).natAbs.log2 < 100 := by decide +kernel
      unfold CMulW
      omega
    have d : 0 ≤ (b * 39373 + 7919) % 2147483629 ∧ (b * 39373 + 7919) % 2147483629 < 2147483629 := ⟨Int.emod_nonneg _ (by decide), Int.emod_lt_of_pos _ (by decide)⟩
    obtain ⟨q, hq⟩ : ∃ q, (b * 39373 + 7919) % 2147483629 = q := ⟨_, rfl⟩
    rw [hq] at d
    have l2 := log31 d.1 (by omega)
    have c2 : CMulW q q := by
      unfold CMulW
      omega
    have m1 : ∀ {x : Int} {s : Sto}, oMod (.int x) (.int 2147483629) s = some (.int (x % 2147483629), s) := oMod_int (by decide)
    have m2 : ∀ {x : Int} {s : Sto}, oMod (.int x) (.int 2147483587) s = some (.int (x % 2147483587), s) := oMod_int (by decide)
    have m3 : ∀ {x : Int} {s : Sto}, oFdiv (.int x) (.int 7) s = some (.int (x / 7), s) := oFdiv_int (by decide) (by decide +kernel)
    simp [BrS, ha, hp, hpl, oMul_int c1, m1, hq, oMul_int c2, m2, m3, oMod_int hn]
    exact ⟨_, _, _, rfl, Int.emod_nonneg _ (by omega), Int.emod_lt_of_pos _ hn, ⟨hb.h0, d.1, by omega⟩, rfl⟩
end S0
set_option maxHeartbeats 4000000
/-! Names, paths, rows, bodies: what the program tells of good ones -/
namespace S1
open PySem PySem.Spec PyProof.Rows L2 HM DL
def k_GREAT_WORDS : D := .ktup [.str "NOMODULE", .str "NONAME", .str "HALF", .str "FLAT", .str "NOTASK", .str "ALL"]
def tb_PARTS : List (Str × D) := [("set", .ktup [.str "name", .str "number"]), ("now", .ktup [.str "name", .str "path"]), ("take", .ktup [.str "name", .str "path"]), ("draw", .ktup [.str "name", .str "path", .str "name"]), ("late", .ktup [.str "name", .str "path"]), ("ask", .ktup [.str "name", .str "path"]), ("note", .ktup [.str "path"]), ("fail", .ktup [.str "name"])]
abbrev noF : Fn := fun _ _ => .no
noncomputable def d_is_name : DSt := (sSeq (sIf (tNot1 (tTru (e1 (oIsT "str") (eVar 0)))) (sRet (eC (.bl false))) sNil)
    (sSeq (sIf (tNot1 (tB (eChain oLe oLe (eC (.int 1)) (eN oLen (aCons (eVar 0) aNil)) (eC (.int 8))))) (sRet (eC (.bl false))) sNil)
    (sRet (eAll (.nm 1) [1] (iE (eVar 0)) tYesD (eChain oLe oLe (eC (.str "a")) (eVar 1) (eC (.str "z")))))))
noncomputable def f_is_name : Fn := runFn 1 2 d_is_name
noncomputable def d_is_path : DSt := (sSeq (sIf (tNot1 (tTru (e1 (oIsT "str") (eVar 0)))) (sRet (eC (.bl false))) sNil)
    (sSeq (sAsg (.nm 1) (eMk isStr oSplit (eVar 0) (aCons (eC (.str ".")) aNil)))
    (sRet (eAnd (e2 oLe (eN oLen (aCons (eVar 1) aNil)) (eC (.int 4))) (eAll (.nm 2) [2] (iE (eVar 1)) tYesD (eCall f_is_name (aCons (eVar 2) aNil)))))))
noncomputable def f_is_path : Fn := runFn 1 3 d_is_path
noncomputable def d_begins_with_text : DSt := (sRet (eAnd (e1 (oIsT "tuple") (eVar 0)) (eAnd (e2 oGt (eN oLen (aCons (eVar 0) aNil)) (eC (.int 0))) (e1 (oIsT "str") (e2 oIx (eVar 0) (eC (.int 0)))))))
noncomputable def f_begins_with_text : Fn := runFn 1 1 d_begins_with_text
noncomputable def d_is_whole : DSt := (sRet (eAnd (e1 (oIsT "int") (eVar 0)) (eNot (e1 (oIsT "bool") (eVar 0)))))
noncomputable def f_is_whole : Fn := runFn 1 1 d_is_whole
noncomputable def d_is_part : DSt := (sSeq (sIf (tB1 (e2 oEq (eVar 1) (eC (.str "name")))) (sRet (eCall f_is_name (aCons (eVar 0) aNil))) sNil)
    (sSeq (sIf (tB1 (e2 oEq (eVar 1) (eC (.str "path")))) (sRet (eCall f_is_path (aCons (eVar 0) aNil))) sNil)
    (sRet (eCall f_is_whole (aCons (eVar 0) aNil)))))
noncomputable def f_is_part : Fn := runFn 2 2 d_is_part
noncomputable def d_is_line : DSt := (sSeq (sAsg (.nm 1) (eKget tb_PARTS (e2 oIx (eVar 0) (eC (.int 0)))))
    (sSeq (sIf (tOr2 (tB1 (e2 oIsN (eVar 1) (eC .non))) (tB1 (e2 oNe (eN oLen (aCons (eVar 0) aNil)) (e2 oAdd (eN oLen (aCons (eVar 1) aNil)) (eC (.int 1)))))) (sRet (eC (.bl false))) sNil)
    (sRet (eAll (.tp [(.nm 2), (.nm 3)]) [2, 3] (iZip (aCons (eSl (eVar 0) (.at_ (eC (.int 1))) .out) (aCons (eVar 1) aNil))) tYesD (eCall f_is_part (aCons (eVar 2) (aCons (eVar 3) aNil)))))))
noncomputable def f_is_line : Fn := runFn 1 4 d_is_line
noncomputable def d_is_word : DSt := (sRet (eOr (eCall f_is_name (aCons (eVar 0) aNil)) (eAnd (e1 (oIsT "str") (eVar 0)) (e2 oIn (eVar 0) (eC k_GREAT_WORDS)))))
noncomputable def f_is_word : Fn := runFn 1 1 d_is_word
noncomputable def d_are_words : DSt := (sSeq (sIf (tOr2 (tNot1 (tTru (e1 (oIsT "tuple") (eVar 0)))) (tNot1 (tTru (eAll (.nm 1) [1] (iE (eVar 0)) tYesD (eCall f_is_word (aCons (eVar 1) aNil)))))) (sRet (eC (.bl false))) sNil)
    (sRet (e2 oEq (eLenSet (eVar 0)) (eN oLen (aCons (eVar 0) aNil)))))
noncomputable def f_are_words : Fn := runFn 1 2 d_are_words
noncomputable def d_room_behind_rows (g_room_behind_row : Fn) : DSt := (sSeq (sIf (tNot1 (tTru (e1 (oIsT "tuple") (eVar 0)))) (sRet (eC .non)) sNil)
    (sSeq (sAsg (.nm 3) (eVar 1))
    (sSeq (sFor (.nm 4) (iE (eVar 0))
    (sSeq (sAsg (.nm 3) (eCall g_room_behind_row (aCons (eVar 4) (aCons (eVar 3) (aCons (eVar 2) aNil)))))
    (sIf (tB1 (e2 oIsN (eVar 3) (eC .non))) (sRet (eC .non)) sNil)))
    (sRet (eVar 3)))))
noncomputable def d_room_behind_row (g_room_behind_rows : Fn) : DSt := (sSeq (sIf (tOr2 (tB1 (e2 oEq (eVar 1) (eC (.int 0)))) (tNot1 (tTru (eCall f_begins_with_text (aCons (eVar 0) aNil))))) (sRet (eC .non)) sNil)
    (sSeq (sIf (tB1 (e2 oNe (e2 oIx (eVar 0) (eC (.int 0))) (eC (.str "try")))) (sRet (eIf (tTru (eCall f_is_line (aCons (eVar 0) aNil))) (e2 oSub (eVar 1) (eC (.int 1))) (eC .non))) sNil)
    (sSeq (sIf (tOr2 (tB1 (e2 oEq (eVar 2) (eC (.int 0)))) (tOr2 (tB1 (e2 oNe (eN oLen (aCons (eVar 0) aNil)) (eC (.int 4)))) (tNot1 (tTru (eCall f_are_words (aCons (e2 oIx (eVar 0) (eC (.int 2))) aNil)))))) (sRet (eC .non)) sNil)
    (sSeq (sAsg (.nm 3) (eCall g_room_behind_rows (aCons (e2 oIx (eVar 0) (eC (.int 1))) (aCons (e2 oSub (eVar 1) (eC (.int 1))) (aCons (e2 oSub (eVar 2) (eC (.int 1))) aNil)))))
    (sRet (eIf (tB1 (e2 oIsN (eVar 3) (eC .non))) (eC .non) (eCall g_room_behind_rows (aCons (e2 oIx (eVar 0) (eC (.int 3))) (aCons (eVar 3) (aCons (e2 oSub (eVar 2) (eC (.int 1))) aNil))))))))))
noncomputable def scc_room_behind_rows : Nat → Fn × Fn
  | 0 => (noF, noF)
  | n + 1 => (runFn 3 5 (d_room_behind_rows (scc_room_behind_rows n).2), runFn 3 4 (d_room_behind_row (scc_room_behind_rows n).1))
noncomputable def f_room_behind_rows (n : Nat) : Fn := (scc_room_behind_rows n).1
noncomputable def f_room_behind_row (n : Nat) : Fn := (scc_room_behind_rows n).2
theorem f_room_behind_rows_succ (n : Nat) : f_room_behind_rows (n + 1) = runFn 3 5 (d_room_behind_rows (f_room_behind_row n)) := rfl
theorem f_room_behind_row_succ (n : Nat) : f_room_behind_row (n + 1) = runFn 3 4 (d_room_behind_row (f_room_behind_rows n)) := rfl
noncomputable def d_is_body : DSt := (sRet (e2 oNotN (eCall (f_room_behind_rows 8) (aCons (eVar 0) (aCons (eC (.int 40)) (aCons (eC (.int 3)) aNil)))) (eC .non)))
noncomputable def f_is_body : Fn := runFn 1 1 d_is_body
@[simp] theorem kit_NoneType_str : kitB "NoneType" "str" = some false := by decide +kernel
@[simp] theorem kit_NoneType_int : kitB "NoneType" "int" = some false := by decide +kernel
@[simp] theorem kit_NoneType_bool : kitB "NoneType" "bool" = some false := by decide +kernel
@[simp] theorem kit_NoneType_tuple : kitB "NoneType" "tuple" = some false := by decide +kernel
@[simp] theorem kit_NoneType_list : kitB "NoneType" "list" = some false := by decide +kernel
@[simp] theorem kit_NoneType_dict : kitB "NoneType" "dict" = some false := by decide +kernel
@[simp] theorem kit_bool_str : kitB "bool" "str" = some false := by decide +kernel
@[simp] theorem kit_bool_int : kitB "bool" "int" = some true := by decide +kernel
@[simp] theorem kit_bool_bool : kitB "bool" "bool" = some true := by decide +kernel
@[simp] theorem kit_bool_tuple : kitB "bool" "tuple" = some false := by decide +kernel
@[simp] theorem kit_bool_list : kitB "bool" "list" = some false := by decide +kernel
@[simp] theorem kit_bool_dict : kitB "bool" "dict" = some false := by decide +kernel
@[simp] theorem kit_int_str : kitB "int" "str" = some false := by decide +kernel
@[simp] theorem kit_int_int : kitB "int" "int" = some true := by decide +kernel
@[simp] theorem kit_int_bool : kitB "int" "bool" = some false := by decide +kernel
@[simp] theorem kit_int_tuple : kitB "int" "tuple" = some false := by decide +kernel
@[simp] theorem kit_int_list : kitB "int" "list" = some false := by decide +kernel
@[simp] theorem kit_int_dict : kitB "int" "dict" = some false := by decide +kernel
@[simp] theorem kit_str_str : kitB "str" "str" = some true := by decide +kernel
@[simp] theorem kit_str_int : kitB "str" "int" = some false := by decide +kernel
@[simp] theorem kit_str_bool : kitB "str" "bool" = some false := by decide +kernel
@[simp] theorem kit_str_tuple : kitB "str" "tuple" = some false := by decide +kernel
@[simp] theorem kit_str_list : kitB "str" "list" = some false := by decide +kernel
@[simp] theorem kit_str_dict : kitB "str" "dict" = some false := by decide +kernel
@[simp] theorem kit_tuple_str : kitB "tuple" "str" = some false := by decide +kernel
@[simp] theorem kit_tuple_int : kitB "tuple" "int" = some false := by decide +kernel
@[simp] theorem kit_tuple_bool : kitB "tuple" "bool" = some false := by decide +kernel
@[simp] theorem kit_tuple_tuple : kitB "tuple" "tuple" = some true := by decide +kernel
@[simp] theorem kit_tuple_list : kitB "tuple" "list" = some false := by decide +kernel
@[simp] theorem kit_tuple_dict : kitB "tuple" "dict" = some false := by decide +kernel
@[simp] theorem kit_list_str : kitB "list" "str" = some false := by decide +kernel
@[simp] theorem kit_list_int : kitB "list" "int" = some false := by decide +kernel
@[simp] theorem kit_list_bool : kitB "list" "bool" = some false := by decide +kernel
@[simp] theorem kit_list_tuple : kitB "list" "tuple" = some false := by decide +kernel
@[simp] theorem kit_list_list : kitB "list" "list" = some true := by decide +kernel
@[simp] theorem kit_list_dict : kitB "list" "dict" = some false := by decide +kernel
@[simp] theorem kit_dict_str : kitB "dict" "str" = some false := by decide +kernel
@[simp] theorem kit_dict_int : kitB "dict" "int" = some false := by decide +kernel
@[simp] theorem kit_dict_bool : kitB "dict" "bool" = some false := by decide +kernel
@[simp] theorem kit_dict_tuple : kitB "dict" "tuple" = some false := by decide +kernel
@[simp] theorem kit_dict_list : kitB "dict" "list" = some false := by decide +kernel
@[simp] theorem kit_dict_dict : kitB "dict" "dict" = some true := by decide +kernel

section
variable {s : Sto} {X : Ex → Sto → Prop}
@[simp] theorem oIsT_def {T : String} {x : D} : oIsT T x s = match tyD s x with
  | some t => (kitB t T).map fun b => (.bl b, s)
  | none => none := rfl
@[simp] theorem ty_str {z : Str} : tyD s (.str z) = some "str" := rfl
@[simp] theorem ty_int {z : Int} : tyD s (.int z) = some "int" := rfl
@[simp] theorem ty_bl {z : Bool} : tyD s (.bl z) = some "bool" := rfl
@[simp] theorem ty_tup {z : List D} : tyD s (.tup z) = some "tuple" := rfl
@[simp] theorem ty_non : tyD s .non = some "NoneType" := rfl
@[simp] theorem ty_ref {i : Nat} : tyD s (.ref i) = match at_ s i with
    | some (.lst _) => some "list"
    | some (.frz (.lst _)) => some "list"
    | some (.dct _) => some "dict"
    | some (.frz (.dct _)) => some "dict"
    | some (.dcT _) => some "dict"
    | _ => none := rfl
def smallB (c : Nat) : Bool := decide (97 ≤ c) && decide (c ≤ 122)
def nameB (z : Str) : Bool := decide (1 ≤ z.length) && (decide (z.length ≤ 8) && z.cps.toList.all smallB)
theorem cps_a : (("a" : Str)).cps.toList = [97] := by decide +kernel
theorem cps_z : (("z" : Str)).cps.toList = [122] := by decide +kernel
theorem lt_one {a b : Nat} : ([a] < [b]) ↔ a < b := by simp [List.cons_lt_cons_iff]
@[simp] theorem oLe_str {z w : Str} : oLe (.str z) (.str w) s = some (.bl (!decide (w.cps.toList < z.cps.toList)), s) := rfl
def chB : D → Bool
  | .str w => w.cps.toList.all smallB
  | _ => false
theorem chars_all (z : Str) : (charsD z).all chB = z.cps.toList.all smallB := by
  unfold charsD
  rw [List.all_map]
  congr 1
  funext c
  simp [chB]
theorem is_name_str {z : Str} (hz : z.length ≤ 1000000) : (f_is_name [.str z] s).wp (PQ s (.bl (nameB z))) X := by
  unfold f_is_name d_is_name
  simp [lenD_str hz]
  by_cases h1 : 1 ≤ z.length
  · by_cases h8 : z.length ≤ 8
    · have h1' : (1 : Int) ≤ (z.length : Int) := by omega
      have h8' : (z.length : Int) ≤ 8 := by omega
      simp [h1', h8', wipeD]
      refine (allL_pure chB (fun _ _ => trivial) fun x hx => ?_).mono fun b s' hb => ?_
      · obtain ⟨c, _, rfl⟩ := List.mem_map.mp hx
        refine ⟨_, rfl, fun s' _ => ?_⟩
        simp [cps_a, cps_z, lt_one]
        by_cases g1 : c < 97
        · have e : chB (.str ⟨#[c]⟩) = false := by simp [chB, smallB]; omega
          simp [g1]
          exact ⟨by rw [e], List.prefix_refl _⟩
        · have g1' : 97 ≤ c := by omega
          simp [g1, cps_z, lt_one]
          refine ⟨?_, List.prefix_refl _⟩
          by_cases g2 : c ≤ 122
          · have g3 : ¬122 < c := by omega
            simp [chB, smallB, g1', g2, g3]
          · have g3 : 122 < c := by omega
            simp [chB, smallB, g1', g2, g3]
      · obtain ⟨rfl, pre⟩ := hb
        simp
        exact ⟨by simp [nameB, h1, h8, chars_all], pre⟩
    · have h1' : (1 : Int) ≤ (z.length : Int) := by omega
      have h8' : ¬(z.length : Int) ≤ 8 := by omega
      simp [h1', h8']
      exact ⟨by simp [nameB, h8], List.prefix_refl _⟩
  · have h1' : ¬(1 : Int) ≤ (z.length : Int) := by omega
    simp [h1']
    exact ⟨by simp [nameB, h1], List.prefix_refl _⟩
def pathB (z : Str) : Bool := decide ((Txt.split z ".").length ≤ 4) && (Txt.split z ".").all nameB
def nmB : D → Bool
  | .str w => nameB w
  | _ => false
theorem is_path_str {z : Str} (hz : z.length ≤ 100000) (hs : ∀ w ∈ Txt.split z ".", w.length ≤ 1000000) : (f_is_path [.str z] s).wp (PQ s (.bl (pathB z))) X := by
  have hz' : z.length + 2 ≤ sizeLine := Nat.le_trans (Nat.add_le_add_right hz 2) (by decide)
  have hd : ((Str.ofString ".").length == 0) = false := by decide +kernel
  have osp : oSplit (.str z) [.str (Str.ofString ".")] s = some (.ref s.length, s ++ [.lst ((Txt.split z ".").map D.str)]) := by
    simp only [oSplit, hd, hz', and_self, if_true]
  unfold f_is_path d_is_path
  simp [osp]
  by_cases h4 : (Txt.split z ".").length ≤ 4
  · have h4' : ((Txt.split z ".").length : Int) ≤ 4 := by omega
    simp [h4', wipeD]
    refine (allL_pure nmB (fun s' h => ?_) fun x hx => ?_).mono fun b s' hb => ?_
    · simp [at_pre h at_app_len]
    · obtain ⟨w, hw, rfl⟩ := List.mem_map.mp hx
      refine ⟨_, rfl, fun s' _ => ?_⟩
      simp
      exact is_name_str (hs w hw)
    · obtain ⟨rfl, pre⟩ := hb
      simp
      refine ⟨?_, (pre_app _ _).trans pre⟩
      simp only [pathB, h4, decide_true, Bool.true_and, List.all_map]
      rfl
  · have h4' : ¬((Txt.split z ".").length : Int) ≤ 4 := by omega
    simp [h4']
    exact ⟨by simp [pathB, h4], pre_app _ _⟩
/-! ### lines -/
inductive PartOk : D → D → Prop
  | name {z : Str} : nameB z = true → PartOk (.str z) (.str "name")
  | path {z : Str} : pathB z = true → z.length ≤ 1000 → PartOk (.str z) (.str "path")
  | num {i : Int} : PartOk (.int i) (.str "number")
theorem nameB_len {z : Str} (h : nameB z = true) : z.length ≤ 8 := by
  simp [nameB] at h
  exact h.2.1
theorem pathB_len {z w : Str} (h : pathB z = true) (hw : w ∈ Txt.split z ".") : w.length ≤ 1000000 := by
  simp only [pathB, Bool.and_eq_true, List.all_eq_true] at h
  exact Nat.le_trans (nameB_len (h.2 w hw)) (by decide)
theorem name_yes {z : Str} (h : nameB z = true) : (f_is_name [.str z] s).wp (PQ s (.bl true)) X := by
  have := is_name_str (s := s) (X := X) (z := z) (Nat.le_trans (nameB_len h) (by decide))
  rwa [h] at this
theorem path_yes {z : Str} (h : pathB z = true) (hl : z.length ≤ 1000) : (f_is_path [.str z] s).wp (PQ s (.bl true)) X := by
  have := is_path_str (s := s) (X := X) (z := z) (Nat.le_trans hl (by decide)) fun w hw => pathB_len h hw
  rwa [h] at this
theorem part_yes {x k : D} (h : PartOk x k) : (f_is_part [x, k] s).wp (PQ s (.bl true)) X := by
  have e1 : ¬(Str.ofString "path" = Str.ofString "name") := by decide +kernel
  have e2 : ¬(Str.ofString "number" = Str.ofString "name") := by decide +kernel
  have e3 : ¬(Str.ofString "number" = Str.ofString "path") := by decide +kernel
  cases h with
  | name h =>
    unfold f_is_part d_is_part
    simp
    exact name_yes h
  | path h hl =>
    unfold f_is_part d_is_part
    simp [e1]
    exact path_yes h hl
  | num =>
    unfold f_is_part d_is_part
    simp [e2, e3]
    unfold f_is_whole d_is_whole
    simp
    exact ⟨rfl, List.prefix_refl _⟩
inductive Parts : List D → List D → Prop
  | nil : Parts [] []
  | cons {x k : D} {xs ks : List D} : PartOk x k → Parts xs ks → Parts (x :: xs) (k :: ks)
theorem Parts.len {xs ks : List D} (h : Parts xs ks) : xs.length = ks.length := by
  induction h with
  | nil => rfl
  | cons _ _ ih => simp [ih]
theorem Parts.zip {xs ks : List D} (h : Parts xs ks) : ∀ x ∈ zipD xs ks, ∃ a b, x = .tup [a, b] ∧ PartOk a b := by
  induction h with
  | nil => intro x hx; simp [zipD] at hx
  | @cons a b xs ks h r ih =>
    intro x hx
    simp only [zipD, List.zipWith_cons_cons, List.mem_cons] at hx
    rcases hx with rfl | hx
    · exact ⟨a, b, rfl, h⟩
    · exact ih x hx
/-- a row that is no try -/
inductive LineOk : D → Prop
  | mk {w : Str} {ps ks : List D} : tb_PARTS.lookup w = some (.ktup ks) → ks.length ≤ 3 → Parts ps ks → LineOk (.tup (.str w :: ps))
theorem all_true {xs : List D} : xs.all (fun _ => true) = true := by simp
theorem cut1 {x : D} {xs : List D} : DL.cutD (x :: xs) (some 1) none = xs := by
  unfold DL.cutD
  have e1 : HT.sIx (x :: xs).length 0 (some 1) = 1 := by
    simp [HT.sIx]
  have e2 : HT.sIx (x :: xs).length (x :: xs).length none = (x :: xs).length := rfl
  rw [e1, e2]
  simp
theorem line_yes {r : D} (h : LineOk r) : (f_is_line [r] s).wp (PQ s (.bl true)) X := by
  cases h with
  | @mk w ps ks hk hl hp =>
    have hlen := hp.len
    have osl : oSl (.tup (.str w :: ps)) (some 1) none s = some (.tup ps, s) := by
      show some (D.tup (DL.cutD (.str w :: ps) (some 1) none), s) = _
      rw [cut1]
    unfold f_is_line d_is_line
    simp [hk, hlen, osl, wipeD]
    refine (allL_pure (fun _ => true) (fun _ _ => trivial) fun x hx => ?_).mono fun b s' hb => ?_
    · obtain ⟨a, b, rfl, hab⟩ := hp.zip x hx
      refine ⟨_, rfl, fun s' _ => ?_⟩
      simp
      exact part_yes hab
    · obtain ⟨rfl, pre⟩ := hb
      simp
      exact ⟨by simp, pre⟩
theorem no_try : tb_PARTS.lookup (Str.ofString "try") = none := by decide +kernel
theorem row_yes {r : D} {n : Nat} {room tries : Int} (h : LineOk r) (hr : 0 < room) : (f_room_behind_row (n + 1) [r, .int room, .int tries] s).wp (PQ s (.int (room - 1))) X := by
  cases h with
  | @mk w ps ks hk hl hp =>
    have hne : ¬(w = Str.ofString "try") := fun z => by rw [z, no_try] at hk; cases hk
    have hr0 : ¬(room = 0) := by omega
    rw [f_room_behind_row_succ]
    unfold d_room_behind_row
    simp [hr0]
    unfold f_begins_with_text d_begins_with_text
    have hpos : (0 : Int) < ((ps.length : Nat) : Int) + 1 := by omega
    simp [hpos]
    simp [hne]
    refine (line_yes (.mk hk hl hp)).no fun d s' hd => ?_
    obtain ⟨rfl, pre⟩ := hd
    simp
    exact ⟨rfl, pre⟩
theorem rows_yes {rs : List D} {n : Nat} {room tries : Int} (h : ∀ r ∈ rs, LineOk r) (hr : rs.length ≤ room) : (f_room_behind_rows (n + 2) [.tup rs, .int room, .int tries] s).wp (PQ s (.int (room - rs.length))) X := by
  rw [f_room_behind_rows_succ]
  unfold d_room_behind_rows
  simp
  refine forL_inv (fun rest env s' => ∃ z, env = [some (.tup rs), some (.int room), some (.int tries), some (.int (room - (rs.length - rest.length))), z] ∧ s <+: s' ∧ rest.length ≤ rs.length ∧ ∀ r ∈ rest, LineOk r) ⟨none, by simp, List.prefix_refl _, Nat.le_refl _, h⟩ (fun _ _ _ _ => trivial) ?_ ?_
  · rintro x rest env s' ⟨z, rfl, pre, hl, hrest⟩
    refine ⟨_, rfl, ?_⟩
    simp at hl
    simp
    refine (row_yes (hrest x List.mem_cons_self) (by omega)).no fun d s2 hd => ?_
    obtain ⟨rfl, pre2⟩ := hd
    simp
    exact ⟨by omega, pre.trans pre2, by omega, fun r hr => hrest r (List.mem_cons_of_mem _ hr)⟩
  · rintro env s' ⟨z, rfl, pre, _, _⟩
    simp
    exact ⟨rfl, pre⟩
theorem body_yes {rs : List D} (h : ∀ r ∈ rs, LineOk r) (hr : rs.length ≤ 40) : (f_is_body [.tup rs] s).wp (PQ s (.bl true)) X := by
  unfold f_is_body d_is_body
  simp
  refine (rows_yes (n := 6) h (by omega)).no fun d s' hd => ?_
  obtain ⟨rfl, pre⟩ := hd
  simp
  exact ⟨rfl, pre⟩
end
end S1
set_option maxHeartbeats 4000000
/-! Good finders are let -/
namespace S2
open PySem PySem.Spec PyProof.Rows L2 HM DL S1
/-- the dicts that a list in slot 0 has -/
def dictsOf (env : DL.Env) (s : Sto) : List Nat := match (env[0]? : Option (Option D)) with
  | some (some (.ref i)) => ((rdL s i).getD []).filterMap fun d => match d with
    | .ref j => some j
    | _ => none
  | _ => []
noncomputable def d_check_finders : DSt := (sSeq (sIf (tOr2 (tNot1 (tTru (e1 (oIsT "list") (eVar 0)))) (tNot1 (tTru (eAll (.nm 1) [1] (iE (eVar 0)) tYesD (e1 (oIsT "dict") (eVar 1)))))) sNo sNil)
    (sSeq (sIf (tNot1 (tTru (eLockA dictsOf (eAll2 (.nm 1) [1, 2] (iE (eVar 0)) tYesD (iE (eVar 1)) (.nm 2) tYesD (eCall f_is_path (aCons (eVar 2) aNil)))))) sNo sNil)
    (sIf (tNot1 (tTru (eLockA dictsOf (eAll2 (.nm 1) [1, 2] (iE (eVar 0)) tYesD (iE (eVar 1)) (.nm 2) tYesD (eCall f_is_body (aCons (e2 oIx (eVar 1) (eVar 2)) aNil)))))) sNo sNil)))
noncomputable def f_check_finders : Fn := runFn 1 3 d_check_finders

section
variable {s : Sto} {X : Ex → Sto → Prop} {env : DL.Env} {f : DEx} {v : D}
theorem set_back {s r : Sto} {i : Nat} {o o' : O} (h : at_ s i = some o) : (s.set i o' ++ r).set i o = s ++ r := by
  have hl := at_lt h
  rw [set_app_l (by simpa using hl), List.set_set]
  congr 1
  apply List.ext_getElem?
  intro j
  by_cases e : j = i
  · subst e
    rw [List.getElem?_set_self hl]
    exact h.symm
  · rw [List.getElem?_set_ne (Ne.symm e)]
/-- dicts locked, walked, unlocked -/
theorem wp_locks : ∀ {is : List Nat} {s : Sto}, is.Nodup → (∀ i ∈ is, ∃ kvs, at_ s i = some (.dct kvs)) → (∀ sL : Sto, sL.length = s.length → (∀ i ∈ is, ∀ kvs, at_ s i = some (.dct kvs) → at_ sL i = some (.frz (.dct kvs))) → (∀ i, i ∉ is → at_ sL i = at_ s i) → (f env sL).wp (PQ sL v) nX) →
    (eLocks is f env s).wp (PQ s v) nX
  | [], s, _, _, h => by
    unfold eLocks
    exact (h s rfl (fun i hi => by cases hi) (fun _ _ => rfl)).no fun _ _ z => z
  | i :: is, s, nd, hd, h => by
    unfold eLocks
    obtain ⟨kvs, hk⟩ := hd i List.mem_cons_self
    have hl := at_lt hk
    obtain ⟨n1, n2⟩ := List.nodup_cons.mp nd
    refine wp_lock (i := i) (kvs := kvs) rfl hk ?_
    have far : ∀ j, j ≠ i → at_ (s.set i (.frz (.dct kvs))) j = at_ s j := fun j hj => at_set_ne (Ne.symm hj)
    refine (wp_locks n2 (fun j hj => ?_) fun sL e1 e2 e3 => h sL (by simpa using e1) (fun j hj kv hv => ?_) fun j hj => ?_).mono fun d s' hq => ?_
    · have hne : j ≠ i := fun z => n1 (z ▸ hj)
      rw [far j hne]
      exact hd j (List.mem_cons_of_mem _ hj)
    · rcases List.mem_cons.mp hj with rfl | hj'
      · rw [hk] at hv
        cases hv
        rw [e3 _ n1]
        exact at_set_self hl
      · have hne : j ≠ i := fun z => n1 (z ▸ hj')
        exact e2 j hj' kv (by rw [far j hne]; exact hv)
    · rw [List.mem_cons, not_or] at hj
      rw [e3 j hj.2]
      exact far j hj.1
    · obtain ⟨rfl, r, rfl⟩ := hq
      refine ⟨rfl, r, ?_⟩
      rw [set_back hk]
theorem allL2_pure {tg tg1 : Tg} {it1 : DIt} {te : DEx} {ok : Sto → Prop} : ∀ {items : List D} {s : Sto}, (∀ s', s <+: s' → ok s') →
    (∀ x ∈ items, ∃ env1 src, asg tg x env = some env1 ∧ (∀ s', s <+: s' → it1 env1 s' = .ok src s' ∧ src.ok s') ∧ ∀ y ∈ src.items, ∃ env2, asg tg1 y env1 = some env2 ∧ ∀ s', s <+: s' → (te env2 s').wp (PQ s' (.bl true)) nX) →
    (allL2 tg tYesD it1 tg1 tYesD te ok env items s).wp (PQB s true) X
  | [], s, hok, _ => by
    unfold allL2
    rw [if_pos (hok s (List.prefix_refl s))]
    exact ⟨rfl, List.prefix_refl s⟩
  | x :: r, s, hok, h => by
    unfold allL2
    rw [if_pos (hok s (List.prefix_refl s))]
    obtain ⟨env1, src, e1, e2, h2⟩ := h x List.mem_cons_self
    rw [e1]
    dsimp only [tYesD]
    rw [(e2 s (List.prefix_refl s)).1]
    dsimp only
    have := allL_pure (X := nX) (env := env1) (tg := tg1) (f := te) (fun _ => true) (items := src.items) (s := s) (fun s' p => (e2 s' p).2) h2
    obtain ⟨b, s3, e3, hb, pre⟩ := this.ex
    have hb' : (src.items.all fun _ => true) = true := by simp
    rw [e3, hb, hb']
    dsimp only
    refine (allL2_pure (fun s' p => hok s' (pre.trans p)) fun y hy => ?_).mono fun b s' hq => ⟨hq.1, pre.trans hq.2⟩
    obtain ⟨env2, src2, k1, k2, k3⟩ := h y (List.mem_cons_of_mem _ hy)
    exact ⟨env2, src2, k1, fun s' p => k2 s' (pre.trans p), fun z hz => by
      obtain ⟨env3, q1, q2⟩ := k3 z hz
      exact ⟨env3, q1, fun s' p => q2 s' (pre.trans p)⟩⟩
def kAll2 (tg : Tg) (it1 : DIt) (tg1 : Tg) (te : DEx) (envw : DL.Env) (Q : D → Sto → Prop) (X : Ex → Sto → Prop) : Src → Sto → Prop := fun src s1 => (allL2 tg tYesD it1 tg1 tYesD te src.ok envw src.items s1).wp (kBd Q) X
@[simp ↓] theorem kAll2_app {tg : Tg} {it1 : DIt} {tg1 : Tg} {te : DEx} {Q : D → Sto → Prop} {src : Src} : kAll2 tg it1 tg1 te env Q X src s = (allL2 tg tYesD it1 tg1 tYesD te src.ok env src.items s).wp (kBd Q) X := rfl
@[simp ↓] theorem wp_all2 {tg : Tg} {own : List Nat} {it it1 : DIt} {tg1 : Tg} {te : DEx} {Q : D → Sto → Prop} : (eAll2 tg own it tYesD it1 tg1 tYesD te env s).wp Q X = (it env s).wp (kAll2 tg it1 tg1 te (wipeD env own) Q X) X := by
  unfold eAll2
  simp only [wp_bind, wp_bd]
  rfl
/-- a finder that is right -/
def FinOk (kvs : List (Key × D)) : Prop := ∀ kv ∈ kvs, ∃ z rs, kv = (.inr z, .tup rs) ∧ pathB z = true ∧ z.length ≤ 1000 ∧ (∀ r ∈ rs, LineOk r) ∧ rs.length ≤ 40
structure FinsAt (s : Sto) (L : Nat) (fs : List (Nat × List (Key × D))) : Prop where
  l : at_ s L = some (.lst (fs.map fun f => .ref f.1))
  d : ∀ f ∈ fs, at_ s f.1 = some (.dct f.2)
  nd : (fs.map (·.1)).Nodup
  ok : ∀ f ∈ fs, FinOk f.2
theorem dictsOf_eq {L : Nat} {fs : List (Nat × List (Key × D))} {e : List (Option D)} (h : at_ s L = some (.lst (fs.map fun f => .ref f.1))) : dictsOf (some (.ref L) :: e) s = fs.map (·.1) := by
  have h' : s[L]? = some (.lst (fs.map fun f => .ref f.1)) := h
  simp only [dictsOf, List.getElem?_cons_zero, rdL, h', Option.getD_some]
  clear h h'
  induction fs with
  | nil => rfl
  | cons f fs ih => simp [ih]
theorem FinsAt.pre {s' : Sto} {L : Nat} {fs : List (Nat × List (Key × D))} (h : FinsAt s L fs) (p : s <+: s') : FinsAt s' L fs := ⟨at_pre p h.l, fun f hf => at_pre p (h.d f hf), h.nd, h.ok⟩
theorem lockA_yes {te : DEx} {L : Nat} {fs : List (Nat × List (Key × D))} (h : FinsAt s L fs) (hte : ∀ f ∈ fs, ∀ kv ∈ f.2, ∀ s', at_ s' f.1 = some (.frz (.dct f.2)) → (te [some (.ref L), some (.ref f.1), some (dK kv.1)] s').wp (PQ s' (.bl true)) nX) :
    (eLockA dictsOf (eAll2 (.nm 1) [1, 2] (iE (eVar 0)) tYesD (iE (eVar 1)) (.nm 2) tYesD te) [some (.ref L), none, none] s).wp (PQ s (.bl true)) nX := by
  have hds : ∀ i ∈ fs.map (·.1), ∃ kvs, at_ s i = some (.dct kvs) := fun i hi => by
    obtain ⟨f, hf, rfl⟩ := List.mem_map.mp hi
    exact ⟨_, h.d f hf⟩
  have hL : L ∉ fs.map (·.1) := fun z => by
    obtain ⟨kvs, e⟩ := hds L z
    rw [h.l] at e
    cases e
  unfold eLockA
  rw [dictsOf_eq h.l]
  refine wp_locks h.nd hds fun sL e1 e2 e3 => ?_
  have hl : at_ sL L = some (.lst (fs.map fun f => .ref f.1)) := by rw [e3 L hL]; exact h.l
  have hf : ∀ f ∈ fs, at_ sL f.1 = some (.frz (.dct f.2)) := fun f hf => e2 f.1 (List.mem_map.mpr ⟨f, hf, rfl⟩) f.2 (h.d f hf)
  simp [hl, wipeD]
  refine (allL2_pure (fun s' p => ?_) fun x hx => ?_).mono (fun b s1 hb => ?_) (fun _ _ z => z)
  · simp [at_pre p hl]
  · obtain ⟨f, hm, rfl⟩ := List.mem_map.mp hx
    refine ⟨_, ⟨keysD f.2, fun _ => True⟩, rfl, fun s' p => ⟨?_, trivial⟩, fun y hy => ?_⟩
    · have e : at_ s' f.1 = some (.frz (.dct f.2)) := at_pre p (hf f hm)
      have e' : s'[f.1]? = some (.frz (.dct f.2)) := e
      simp [iE, eVar, srcD, e']
    · obtain ⟨kv, hk, rfl⟩ := List.mem_map.mp hy
      exact ⟨_, rfl, fun s' p => hte f hm kv hk s' (at_pre p (hf f hm))⟩
  · obtain ⟨rfl, p⟩ := hb
    exact ⟨rfl, p⟩
theorem check_yes {L : Nat} {fs : List (Nat × List (Key × D))} (h : FinsAt s L fs) : (f_check_finders [.ref L] s).wp (PQ s .non) X := by
  unfold f_check_finders d_check_finders
  simp [h.l, wipeD]
  refine (allL_pure (fun _ => true) (fun s' p => ?_) fun x hx => ?_).mono (fun b s1 hb => ?_) (fun _ _ z => z)
  · simp [at_pre p h.l]
  · obtain ⟨f, hf, rfl⟩ := List.mem_map.mp hx
    refine ⟨_, rfl, fun s' p => ?_⟩
    simp [at_pre p (h.d f hf)]
    exact ⟨rfl, List.prefix_refl _⟩
  obtain ⟨hb, p1⟩ := hb
  rw [all_true] at hb
  subst hb
  simp
  refine (lockA_yes (h.pre p1) fun f hf kv hk s' _ => ?_).no fun d s2 hd => ?_
  · obtain ⟨z, rs, rfl, hz, hl, _, _⟩ := h.ok f hf kv hk
    simp [dK]
    exact path_yes hz hl
  obtain ⟨rfl, p2⟩ := hd
  simp
  refine (lockA_yes (h.pre (p1.trans p2)) fun f hf kv hk s' e => ?_).no fun d s3 hd => ?_
  · obtain ⟨z, rs, rfl, hz, hl, _, _⟩ := h.ok f hf kv hk
    obtain ⟨v, hv⟩ : ∃ v, valD f.2 (.inr z) = some v := by
      cases e : valD f.2 (.inr z) with
      | some v => exact ⟨v, rfl⟩
      | none =>
        simp only [valD, Option.map_eq_none_iff, List.find?_eq_none] at e
        exact (e _ hk (by simp)).elim
    have hm : ∃ k, (k, v) ∈ f.2 := by
      simp only [valD, Option.map_eq_some_iff] at hv
      obtain ⟨q, hq, rfl⟩ := hv
      exact ⟨q.1, List.mem_of_find?_eq_some hq⟩
    obtain ⟨k, hm⟩ := hm
    obtain ⟨z', rs', e', _, _, h3, h4⟩ := h.ok f hf _ hm
    cases e'
    simp [dK, e, hv]
    exact body_yes h3 h4
  obtain ⟨rfl, p3⟩ := hd
  simp
  exact ⟨rfl, (p1.trans p2).trans p3⟩
end
end S2
set_option maxHeartbeats 4000000
/-! Runs: the state of a house in the store, and what its methods do to it (no body fails) -/
namespace S3
open PySem PySem.Spec PyProof.Rows L2 HM DL S1 S2
noncomputable def d_Runs_init : DSt := (sSeq (sExpr (eCall f_check_finders (aCons (eVar 1) aNil)))
    (sSeq (sFldP "finders" (eVar 0) (eLc (.nm 2) [2] (iE (eVar 1)) tYesD (eN oDict (aCons (eVar 2) aNil))))
    (sSeq (sFldP "modules" (eVar 0) eDnew)
    (sSeq (sFldP "standing" (eVar 0) eDnew)
    (sSeq (sFldP "failed" (eVar 0) eDnew)
    (sSeq (sFldP "entries" (eVar 0) (eN oLst aNil))
    (sSeq (sFldP "begun" (eVar 0) (eN oLst aNil))
    (sSeq (sFldP "chain" (eVar 0) (eN oLst aNil))
    (sFldP "fallen" (eVar 0) eDnew)))))))))
noncomputable def f_Runs_init : Fn := runFn 2 3 d_Runs_init
noncomputable def d_Runs_paper : DSt := (sRet (eN oList (aCons (e1 (oFld "begun") (eVar 0)) aNil)))
noncomputable def f_Runs_paper : Fn := runFn 1 1 d_Runs_paper
noncomputable def d_Runs_log : DSt := (sRet (eN oList (aCons (e1 (oFld "entries") (eVar 0)) aNil)))
noncomputable def f_Runs_log : Fn := runFn 1 1 d_Runs_log
noncomputable def d_check_path : DSt := (sIf (tNot1 (tTru (eCall f_is_path (aCons (eVar 0) aNil)))) sNo sNil)
noncomputable def f_check_path : Fn := runFn 1 1 d_check_path
noncomputable def d_Runs_body_at : DSt := (sSeq (sFor (.nm 2) (iE (e1 (oFld "finders") (eVar 0)))
    (sIf (tB1 (e2 oIn (eVar 1) (eVar 2))) (sRet (e2 oIx (eVar 2) (eVar 1))) sNil))
    (sRet (eC .non)))
noncomputable def f_Runs_body_at : Fn := runFn 2 3 d_Runs_body_at
noncomputable def d_Module_init : DSt := (sSeq (sFldP "number" (eVar 0) (eVar 1))
    (sSeq (sFldP "path" (eVar 0) (eVar 2))
    (sFldP "things" (eVar 0) eDnew)))
noncomputable def f_Module_init : Fn := runFn 3 3 d_Module_init
noncomputable def d_Runs_write_down : DSt := (sSeq (sIf (tNot1 (tTru (e1 (oFld "chain") (eVar 0)))) (sSeq (sExpr (eMk isLst oAppend (e1 (oFld "begun") (eVar 0)) (aCons (eN oTup (aCons (e1 (oFld "number") (eVar 1)) (aCons (eC .non) (aCons (eC .non) aNil)))) aNil)))
    sRetN) sNil)
    (sSeq (sAsg (.tp [(.nm 2), (.nm 3)]) (e2 oIx (e1 (oFld "chain") (eVar 0)) (e1 oNeg (eC (.int 1)))))
    (sExpr (eMk isLst oAppend (e1 (oFld "begun") (eVar 0)) (aCons (eN oTup (aCons (e1 (oFld "number") (eVar 1)) (aCons (e1 (oFld "number") (eVar 2)) (aCons (eVar 3) aNil)))) aNil)))))
noncomputable def f_Runs_write_down : Fn := runFn 2 4 d_Runs_write_down
noncomputable def d_Module_bind : DSt := (sPut (e1 (oFld "things") (eVar 0)) (eVar 1) (eVar 2))
noncomputable def f_Module_bind : Fn := runFn 3 3 d_Module_bind
noncomputable def d_Runs_running : DSt := (sRet (e2 oIx (e2 oIx (e1 (oFld "chain") (eVar 0)) (e1 oNeg (eC (.int 1)))) (eC (.int 0))))
noncomputable def f_Runs_running : Fn := runFn 1 1 d_Runs_running
noncomputable def d_Module_bound : DSt := (sRet (eN oSorted (aCons (e1 (oFld "things") (eVar 0)) aNil)))
noncomputable def f_Module_bound : Fn := runFn 1 1 d_Module_bound
noncomputable def d_Runs_note : DSt := (sSeq (sAsg (.nm 2) (eC .non))
    (sSeq (sIf (tB1 (e2 oIn (eVar 1) (e1 (oFld "standing") (eVar 0)))) (sAsg (.nm 2) (eN oTuple (aCons (eMeth "Module" "bound" f_Module_bound (e2 oIx (e1 (oFld "standing") (eVar 0)) (eVar 1)) aNil) aNil))) sNil)
    (sExpr (eMk isLst oAppend (e1 (oFld "entries") (eVar 0)) (aCons (eN oTup (aCons (eC (.str "note")) (aCons (e1 (oFld "number") (eMeth "Runs" "running" f_Runs_running (eVar 0) aNil)) (aCons (eVar 2) aNil)))) aNil)))))
noncomputable def f_Runs_note : Fn := runFn 2 3 d_Runs_note
noncomputable def d_Runs_taken (g_Runs_taken_alone : Fn) : DSt := (sRet (eMeth "Runs" "taken_alone" g_Runs_taken_alone (eVar 0) (aCons (eVar 1) aNil)))
noncomputable def d_Runs_taken_alone (g_Runs_begin : Fn) : DSt := (sSeq (sIf (tB1 (e2 oIn (eVar 1) (e1 (oFld "standing") (eVar 0)))) (sSeq (sAsg (.nm 2) (e2 oIx (e1 (oFld "standing") (eVar 0)) (eVar 1)))
    (sSeq (sExpr (eMk isLst oAppend (e1 (oFld "entries") (eVar 0)) (aCons (eN oTup (aCons (eC (.str "have")) (aCons (e1 (oFld "number") (eVar 2)) aNil))) aNil)))
    (sRet (eVar 2)))) sNil)
    (sSeq (sIf (tB1 (e2 oIn (eVar 1) (e1 (oFld "fallen") (eVar 0)))) (sSeq (sAsg (.tp [(.nm 3), (.nm 4)]) (e2 oIx (e1 (oFld "fallen") (eVar 0)) (eVar 1)))
    (sSeq (sExpr (eMk isLst oAppend (e1 (oFld "entries") (eVar 0)) (aCons (eN oTup (aCons (eC (.str "again")) (aCons (eVar 3) aNil))) aNil)))
    sNo)) sNil)
    (sSeq (sAsg (.nm 5) (eMeth "Runs" "body_at" f_Runs_body_at (eVar 0) (aCons (eVar 1) aNil)))
    (sSeq (sIf (tB1 (e2 oIsN (eVar 5) (eC .non))) sNo sNil)
    (sRet (eMeth "Runs" "begin" g_Runs_begin (eVar 0) (aCons (eVar 1) (aCons (eVar 5) aNil))))))))
noncomputable def d_Runs_begin (g_Runs_run : Fn) : DSt := (sSeq (sAsg (.nm 3) (eMake "Module" f_Module_init (aCons (e2 oAdd (eN oLen (aCons (e1 (oFld "modules") (eVar 0)) aNil)) (eC (.int 1))) (aCons (eVar 1) aNil))))
    (sSeq (sPut (e1 (oFld "modules") (eVar 0)) (e1 (oFld "number") (eVar 3)) (eVar 3))
    (sSeq (sPut (e1 (oFld "standing") (eVar 0)) (eVar 1) (eVar 3))
    (sSeq (sThru (sExpr (eMeth "Runs" "run" g_Runs_run (eVar 0) (aCons (eC (.str "begin")) (aCons (eVar 3) (aCons (eVar 2) aNil))))))
    (sRet (eVar 3))))))
noncomputable def d_Runs_run (g_Runs_do_row : Fn) : DSt := (sSeq (sExpr (eMk isLst oAppend (e1 (oFld "entries") (eVar 0)) (aCons (eN oTup (aCons (eVar 1) (aCons (e1 (oFld "number") (eVar 2)) (aCons (e1 (oFld "path") (eVar 2)) aNil)))) aNil)))
    (sSeq (sExpr (eMeth "Runs" "write_down" f_Runs_write_down (eVar 0) (aCons (eVar 2) aNil)))
    (sSeq (sAsg (.nm 4) (e1 (oFld "chain") (eVar 0)))
    (sSeq (sFldP "chain" (eVar 0) (e2 oAdd (eVar 4) (eN oLst (aCons (eN oTup (aCons (eVar 2) (aCons (eC (.int 0)) aNil))) aNil))))
    (sSeq (sThruF (sFor (.tp [(.nm 5), (.nm 6)]) (iEnum (eVar 3))
    (sSeq (sPut (e1 (oFld "chain") (eVar 0)) (e1 oNeg (eC (.int 1))) (eN oTup (aCons (eVar 2) (aCons (eVar 5) aNil))))
    (sExpr (eMeth "Runs" "do_row" g_Runs_do_row (eVar 0) (aCons (eVar 6) aNil))))) (sFldP "chain" (eVar 0) (eVar 4)))
    (sExpr (eMk isLst oAppend (e1 (oFld "entries") (eVar 0)) (aCons (eN oTup (aCons (eC (.str "end")) (aCons (e1 (oFld "number") (eVar 2)) aNil))) aNil))))))))
noncomputable def d_Runs_do_row (g_Runs_do : Fn) : DSt := (sThru (sExpr (eMeth "Runs" "do" g_Runs_do (eVar 0) (aCons (eVar 1) aNil))))
noncomputable def d_Runs_do (g_Runs_taken : Fn) : DSt := (sSeq (sAsg (.nm 2) (e2 oIx (eVar 1) (eC (.int 0))))
    (sIf (tB1 (e2 oEq (eVar 2) (eC (.str "set")))) (sExpr (eMeth "Module" "bind" f_Module_bind (eMeth "Runs" "running" f_Runs_running (eVar 0) aNil) (aCons (e2 oIx (eVar 1) (eC (.int 1))) (aCons (e2 oIx (eVar 1) (eC (.int 2))) aNil)))) (sIf (tB1 (e2 oEq (eVar 2) (eC (.str "take")))) (sSeq (sAsg (.nm 3) (eMeth "Runs" "taken" g_Runs_taken (eVar 0) (aCons (e2 oIx (eVar 1) (eC (.int 2))) aNil)))
    (sExpr (eMeth "Module" "bind" f_Module_bind (eMeth "Runs" "running" f_Runs_running (eVar 0) aNil) (aCons (e2 oIx (eVar 1) (eC (.int 1))) (aCons (eVar 3) aNil))))) (sIf (tB1 (e2 oEq (eVar 2) (eC (.str "note")))) (sExpr (eMeth "Runs" "note" f_Runs_note (eVar 0) (aCons (e2 oIx (eVar 1) (eC (.int 1))) aNil))) sNil))))
noncomputable def scc_Runs_taken : Nat → Fn × Fn × Fn × Fn × Fn × Fn
  | 0 => (noF, noF, noF, noF, noF, noF)
  | n + 1 => (runFn 2 2 (d_Runs_taken (scc_Runs_taken n).2.1), runFn 2 6 (d_Runs_taken_alone (scc_Runs_taken n).2.2.1), runFn 3 5 (d_Runs_begin (scc_Runs_taken n).2.2.2.1), runFn 4 8 (d_Runs_run (scc_Runs_taken n).2.2.2.2.1), runFn 2 3 (d_Runs_do_row (scc_Runs_taken n).2.2.2.2.2), runFn 2 4 (d_Runs_do (scc_Runs_taken n).1))
noncomputable def f_Runs_taken (n : Nat) : Fn := (scc_Runs_taken n).1
noncomputable def f_Runs_taken_alone (n : Nat) : Fn := (scc_Runs_taken n).2.1
noncomputable def f_Runs_begin (n : Nat) : Fn := (scc_Runs_taken n).2.2.1
noncomputable def f_Runs_run (n : Nat) : Fn := (scc_Runs_taken n).2.2.2.1
noncomputable def f_Runs_do_row (n : Nat) : Fn := (scc_Runs_taken n).2.2.2.2.1
noncomputable def f_Runs_do (n : Nat) : Fn := (scc_Runs_taken n).2.2.2.2.2
theorem f_Runs_taken_succ (n : Nat) : f_Runs_taken (n + 1) = runFn 2 2 (d_Runs_taken (f_Runs_taken_alone n)) := rfl
theorem f_Runs_taken_alone_succ (n : Nat) : f_Runs_taken_alone (n + 1) = runFn 2 6 (d_Runs_taken_alone (f_Runs_begin n)) := rfl
theorem f_Runs_begin_succ (n : Nat) : f_Runs_begin (n + 1) = runFn 3 5 (d_Runs_begin (f_Runs_run n)) := rfl
theorem f_Runs_run_succ (n : Nat) : f_Runs_run (n + 1) = runFn 4 8 (d_Runs_run (f_Runs_do_row n)) := rfl
theorem f_Runs_do_row_succ (n : Nat) : f_Runs_do_row (n + 1) = runFn 2 3 (d_Runs_do_row (f_Runs_do n)) := rfl
theorem f_Runs_do_succ (n : Nat) : f_Runs_do (n + 1) = runFn 2 4 (d_Runs_do (f_Runs_taken n)) := rfl
noncomputable def d_Runs_take : DSt := (sSeq (sExpr (eCall f_check_path (aCons (eVar 1) aNil)))
    (sSeq (sFldP "fallen" (eVar 0) eDnew)
    (sThru (sRet (e1 (oFld "number") (eMeth "Runs" "taken" (f_Runs_taken 60) (eVar 0) (aCons (eVar 1) aNil)))))))
noncomputable def f_Runs_take : Fn := runFn 2 3 d_Runs_take

/-! ### the state -/
structure HG where
  (r fi mo st fa en be ch fl : Nat)
  fs : List (Nat × List (Key × D))
  ads : List (Nat × Nat)
def runsF (g : HG) : List (Str × D) := [("finders", .ref g.fi), ("modules", .ref g.mo), ("standing", .ref g.st), ("failed", .ref g.fa), ("entries", .ref g.en), ("begun", .ref g.be), ("chain", .ref g.ch), ("fallen", .ref g.fl)]
def modF (n : Int) (p : Str) (t : Nat) : List (Str × D) := [("number", .int n), ("path", .str p), ("things", .ref t)]
theorem runsF_len {g : HG} : (runsF g).length < 1000 := by simp [runsF]
@[simp] theorem rf_finders {g : HG} : (runsF g).lookup ("finders" : Str) = some (.ref g.fi) := rfl
@[simp] theorem rf_modules {g : HG} : (runsF g).lookup ("modules" : Str) = some (.ref g.mo) := rfl
@[simp] theorem rf_standing {g : HG} : (runsF g).lookup ("standing" : Str) = some (.ref g.st) := rfl
@[simp] theorem rf_failed {g : HG} : (runsF g).lookup ("failed" : Str) = some (.ref g.fa) := rfl
@[simp] theorem rf_entries {g : HG} : (runsF g).lookup ("entries" : Str) = some (.ref g.en) := rfl
@[simp] theorem rf_begun {g : HG} : (runsF g).lookup ("begun" : Str) = some (.ref g.be) := rfl
@[simp] theorem rf_chain {g : HG} : (runsF g).lookup ("chain" : Str) = some (.ref g.ch) := rfl
@[simp] theorem rf_fallen {g : HG} : (runsF g).lookup ("fallen" : Str) = some (.ref g.fl) := rfl
@[simp] theorem rm_running {g : HG} : (runsF g).lookup ("running" : Str) = none := rfl
@[simp] theorem rm_write_down {g : HG} : (runsF g).lookup ("write_down" : Str) = none := rfl
@[simp] theorem rm_note {g : HG} : (runsF g).lookup ("note" : Str) = none := rfl
@[simp] theorem rm_taken {g : HG} : (runsF g).lookup ("taken" : Str) = none := rfl
@[simp] theorem rm_taken_alone {g : HG} : (runsF g).lookup ("taken_alone" : Str) = none := rfl
@[simp] theorem rm_begin {g : HG} : (runsF g).lookup ("begin" : Str) = none := rfl
@[simp] theorem rm_run {g : HG} : (runsF g).lookup ("run" : Str) = none := rfl
@[simp] theorem rm_do_row {g : HG} : (runsF g).lookup ("do_row" : Str) = none := rfl
@[simp] theorem rm_do {g : HG} : (runsF g).lookup ("do" : Str) = none := rfl
@[simp] theorem rm_take {g : HG} : (runsF g).lookup ("take" : Str) = none := rfl
@[simp] theorem rm_log {g : HG} : (runsF g).lookup ("log" : Str) = none := rfl
@[simp] theorem rm_paper {g : HG} : (runsF g).lookup ("paper" : Str) = none := rfl
@[simp] theorem rm_body_at {g : HG} : (runsF g).lookup ("body_at" : Str) = none := rfl
@[simp] theorem rp_chain {g : HG} {n : Nat} : putFD ("chain" : Str) (.ref n) (runsF g) = runsF { g with ch := n } := rfl
@[simp] theorem rp_fallen {g : HG} {n : Nat} : putFD ("fallen" : Str) (.ref n) (runsF g) = runsF { g with fl := n } := rfl
@[simp] theorem mf_number {n : Int} {p : Str} {t : Nat} : (modF n p t).lookup ("number" : Str) = some (.int n) := rfl
@[simp] theorem mf_path {n : Int} {p : Str} {t : Nat} : (modF n p t).lookup ("path" : Str) = some (.str p) := rfl
@[simp] theorem mf_things {n : Int} {p : Str} {t : Nat} : (modF n p t).lookup ("things" : Str) = some (.ref t) := rfl
@[simp] theorem mm_bind {n : Int} {p : Str} {t : Nat} : (modF n p t).lookup ("bind" : Str) = none := rfl
@[simp] theorem mm_bound {n : Int} {p : Str} {t : Nat} : (modF n p t).lookup ("bound" : Str) = none := rfl

/-- what is told: of each module its path and its names, the log, the paper -/
structure AS where
  ms : List (Str × List Str)
  log : List D
  pap : List D
abbrev Ro := Nat → Nat × Nat
def stdD (ms : List (Str × List Str)) (ads : List (Nat × Nat)) : List (Key × D) := List.zipWith (fun m a => (.inr m.1, .ref a.1)) ms ads
structure MdAt (s : Sto) (ro : Ro) (c i mi ti : Nat) (path : Str) (keys : List Str) : Prop where
  m : at_ s mi = some (.ins "Module" (modF ((i : Int) + 1) path ti))
  t : ∃ kvs, at_ s ti = some (.dct kvs) ∧ kvs.map (·.1) = keys.map Sum.inr
  rm : ro mi = (c, 21 + 3 * i)
  rt : ro ti = (c, 22 + 3 * i)
/-- the chain, by the places of the modules -/
def chnOf (ads : List (Nat × Nat)) (ln : List (Nat × Nat)) : List D := ln.map fun q => .tup [.ref ((ads.getD q.1 (0, 0)).1), .int (q.2 : Nat)]
structure HAt (s : Sto) (ro : Ro) (c : Nat) (g : HG) (A : AS) (ln : List (Nat × Nat)) : Prop where
  r : at_ s g.r = some (.ins "Runs" (runsF g))
  fi : at_ s g.fi = some (.lst (g.fs.map fun f => .ref f.1))
  fd : ∀ (j : Nat) (f : Nat × List (Key × D)), g.fs[j]? = some f → at_ s f.1 = some (.dct f.2) ∧ ro f.1 = (c, 20 + 3 * j)
  mo : ∃ kvs : List (Key × D), at_ s g.mo = some (.dct kvs) ∧ kvs.map (·.1) = (List.range A.ms.length).map fun i : Nat => Sum.inl ((i : Int) + 1)
  st : at_ s g.st = some (.dct (stdD A.ms g.ads))
  en : at_ s g.en = some (.lst A.log)
  be : at_ s g.be = some (.lst A.pap)
  ch : at_ s g.ch = some (.lst (chnOf g.ads ln))
  fl : at_ s g.fl = some (.dct [])
  len : g.ads.length = A.ms.length
  md : ∀ (i : Nat) (a : Nat × Nat) (m : Str × List Str), g.ads[i]? = some a → A.ms[i]? = some m → MdAt s ro c i a.1 a.2 m.1 m.2
  rr : ro g.r = (c, 0)
  rfi : ro g.fi = (c, 1)
  rmo : ro g.mo = (c, 2)
  rst : ro g.st = (c, 3)
  ren : ro g.en = (c, 4)
  rbe : ro g.be = (c, 5)
  rch : ro g.ch = (c, 1000000 + ln.length)
  rfl_ : ro g.fl = (c, 7)
  few : A.ms.length < 1000
  fewf : g.fs.length < 1000
  hln : ∀ q ∈ ln, q.1 < A.ms.length
/-- touched by a deed of house c whose chain has d members -/
def Tch (c d : Nat) (q : Nat × Nat) : Prop := q.1 = c ∧ (q.2 < 1000000 ∨ 1000000 + d ≤ q.2)
structure Fr (c d : Nat) (s : Sto) (ro : Ro) (s' : Sto) (ro' : Ro) : Prop where
  len : s.length ≤ s'.length
  rq : ∀ p, p < s.length → ro' p = ro p
  at_ : ∀ p, p < s.length → ¬Tch c d (ro p) → DL.at_ s' p = DL.at_ s p
theorem Fr.refl (c d : Nat) (s : Sto) (ro : Ro) : Fr c d s ro s ro := ⟨Nat.le_refl _, fun _ _ => rfl, fun _ _ _ => rfl⟩
theorem Fr.trans {c d : Nat} {s s1 s2 : Sto} {ro ro1 ro2 : Ro} (a : Fr c d s ro s1 ro1) (b : Fr c d s1 ro1 s2 ro2) : Fr c d s ro s2 ro2 :=
  ⟨Nat.le_trans a.len b.len, fun p h => by rw [b.rq p (Nat.lt_of_lt_of_le h a.len), a.rq p h], fun p h n => by rw [b.at_ p (Nat.lt_of_lt_of_le h a.len) (by rw [a.rq p h]; exact n), a.at_ p h n]⟩
theorem Fr.less {c d : Nat} {s s1 : Sto} {ro ro1 : Ro} (a : Fr c (d + 1) s ro s1 ro1) : Fr c d s ro s1 ro1 :=
  ⟨a.len, a.rq, fun p h n => a.at_ p h fun z => n ⟨z.1, by rcases z.2 with z | z <;> omega⟩⟩
theorem Fr.pre {c d : Nat} {s s1 : Sto} {ro : Ro} (h : s <+: s1) : Fr c d s ro s1 ro := ⟨h.length_le, fun _ _ => rfl, fun p hp _ => by
  obtain ⟨r, rfl⟩ := h
  exact at_app_l hp⟩
/-- one thing of the house is changed -/
theorem Fr.set {c d k p : Nat} {s : Sto} {ro : Ro} {o : O} (h : ro p = (c, k)) (hk : k < 1000000 ∨ 1000000 + d ≤ k) : Fr c d s ro (s.set p o) ro := ⟨by simp, fun _ _ => rfl, fun q _ n => by
  by_cases e : p = q
  · subst e
    exact (n (by rw [h]; exact ⟨rfl, hk⟩)).elim
  · exact at_set_ne e⟩
section
variable {s s' : Sto} {ro ro' : Ro} {c d k : Nat} {g : HG} {A : AS} {ln : List (Nat × Nat)} {X : Ex → Sto → Prop}
theorem HAt.log (H : HAt s ro c g A ln) {l : List D} (e : at_ s' g.en = some (.lst l)) (hag : ∀ p, p < s.length → ro p ≠ (c, 4) → at_ s' p = at_ s p) : HAt s' ro c g { A with log := l } ln := by
  have tr : ∀ {p j : Nat} {o : O}, at_ s p = some o → ro p = (c, j) → j ≠ 4 → at_ s' p = some o := fun e r n => (hag _ (at_lt e) (by rw [r]; simpa using n)).trans e
  exact {
    r := tr H.r H.rr (by omega)
    fi := tr H.fi H.rfi (by omega)
    fd := fun j f e => ⟨tr (H.fd j f e).1 (H.fd j f e).2 (by omega), (H.fd j f e).2⟩
    mo := (by obtain ⟨kvs, e, z⟩ := H.mo; exact ⟨kvs, tr e H.rmo (by omega), z⟩)
    st := tr H.st H.rst (by omega)
    en := e
    be := tr H.be H.rbe (by omega)
    ch := tr H.ch H.rch (by omega)
    fl := tr H.fl H.rfl_ (by omega)
    len := H.len
    md := (fun i a m ha hm => (fun q => ⟨tr q.m q.rm (by omega), (by obtain ⟨kvs, e, z⟩ := q.t; exact ⟨kvs, tr e q.rt (by omega), z⟩), q.rm, q.rt⟩) (H.md i a m ha hm))
    rr := H.rr
    rfi := H.rfi
    rmo := H.rmo
    rst := H.rst
    ren := H.ren
    rbe := H.rbe
    rch := H.rch
    rfl_ := H.rfl_
    few := H.few
    fewf := H.fewf
    hln := H.hln }
theorem HAt.paper (H : HAt s ro c g A ln) {l : List D} (e : at_ s' g.be = some (.lst l)) (hag : ∀ p, p < s.length → ro p ≠ (c, 5) → at_ s' p = at_ s p) : HAt s' ro c g { A with pap := l } ln := by
  have tr : ∀ {p j : Nat} {o : O}, at_ s p = some o → ro p = (c, j) → j ≠ 5 → at_ s' p = some o := fun e r n => (hag _ (at_lt e) (by rw [r]; simpa using n)).trans e
  exact {
    r := tr H.r H.rr (by omega)
    fi := tr H.fi H.rfi (by omega)
    fd := fun j f e => ⟨tr (H.fd j f e).1 (H.fd j f e).2 (by omega), (H.fd j f e).2⟩
    mo := (by obtain ⟨kvs, e, z⟩ := H.mo; exact ⟨kvs, tr e H.rmo (by omega), z⟩)
    st := tr H.st H.rst (by omega)
    en := tr H.en H.ren (by omega)
    be := e
    ch := tr H.ch H.rch (by omega)
    fl := tr H.fl H.rfl_ (by omega)
    len := H.len
    md := (fun i a m ha hm => (fun q => ⟨tr q.m q.rm (by omega), (by obtain ⟨kvs, e, z⟩ := q.t; exact ⟨kvs, tr e q.rt (by omega), z⟩), q.rm, q.rt⟩) (H.md i a m ha hm))
    rr := H.rr
    rfi := H.rfi
    rmo := H.rmo
    rst := H.rst
    ren := H.ren
    rbe := H.rbe
    rch := H.rch
    rfl_ := H.rfl_
    few := H.few
    fewf := H.fewf
    hln := H.hln }
theorem HAt.chain (H : HAt s ro c g A ln) {l : List (Nat × Nat)} (e : at_ s' g.ch = some (.lst (chnOf g.ads l))) (hl : l.length = ln.length) (hq : ∀ q ∈ l, q.1 < A.ms.length) (hag : ∀ p, p < s.length → ro p ≠ (c, (1000000 + ln.length)) → at_ s' p = at_ s p) : HAt s' ro c g A l := by
  have tr : ∀ {p j : Nat} {o : O}, at_ s p = some o → ro p = (c, j) → j ≠ (1000000 + ln.length) → at_ s' p = some o := fun e r n => (hag _ (at_lt e) (by rw [r]; simpa using n)).trans e
  exact {
    r := tr H.r H.rr (by omega)
    fi := tr H.fi H.rfi (by omega)
    fd := fun j f e => ⟨tr (H.fd j f e).1 (H.fd j f e).2 (by have h1 := (List.getElem?_eq_some_iff.mp e).1; have h2 := H.fewf; omega), (H.fd j f e).2⟩
    mo := (by obtain ⟨kvs, e, z⟩ := H.mo; exact ⟨kvs, tr e H.rmo (by omega), z⟩)
    st := tr H.st H.rst (by omega)
    en := tr H.en H.ren (by omega)
    be := tr H.be H.rbe (by omega)
    ch := e
    fl := tr H.fl H.rfl_ (by omega)
    len := H.len
    md := (fun i a m ha hm => (fun q => ⟨tr q.m q.rm (by have h1 := (List.getElem?_eq_some_iff.mp hm).1; have h2 := H.few; omega), (by obtain ⟨kvs, e, z⟩ := q.t; exact ⟨kvs, tr e q.rt (by have h1 := (List.getElem?_eq_some_iff.mp hm).1; have h2 := H.few; omega), z⟩), q.rm, q.rt⟩) (H.md i a m ha hm))
    rr := H.rr
    rfi := H.rfi
    rmo := H.rmo
    rst := H.rst
    ren := H.ren
    rbe := H.rbe
    rch := (by rw [hl]; exact H.rch)
    rfl_ := H.rfl_
    few := H.few
    fewf := H.fewf
    hln := hq }
/-- a name bound in the i-th module -/
theorem std_set {ms : List (Str × List Str)} {ads : List (Nat × Nat)} {i : Nat} {m : Str × List Str} {ks : List Str} (h : ms[i]? = some m) : stdD (ms.set i (m.1, ks)) ads = stdD ms ads := by
  unfold stdD
  apply List.ext_getElem?
  intro j
  rw [List.getElem?_zipWith, List.getElem?_zipWith]
  by_cases e : i = j
  · subst e
    rw [List.getElem?_set_self (List.getElem?_eq_some_iff.mp h).1, h]
    cases ads[i]? <;> rfl
  · rw [List.getElem?_set_ne e]
theorem HAt.bind (H : HAt s ro c g A ln) {i : Nat} {a : Nat × Nat} {m : Str × List Str} {ks : List Str} {kvs : List (Key × D)} (hia : g.ads[i]? = some a) (him : A.ms[i]? = some m) (e : at_ s' a.2 = some (.dct kvs)) (hk : kvs.map (·.1) = ks.map Sum.inr) (hag : ∀ p, p < s.length → ro p ≠ (c, (22 + 3 * i)) → at_ s' p = at_ s p) : HAt s' ro c g { A with ms := A.ms.set i (m.1, ks) } ln := by
  have tr : ∀ {p j : Nat} {o : O}, at_ s p = some o → ro p = (c, j) → j ≠ (22 + 3 * i) → at_ s' p = some o := fun e r n => (hag _ (at_lt e) (by rw [r]; simpa using n)).trans e
  exact {
    r := tr H.r H.rr (by omega)
    fi := tr H.fi H.rfi (by omega)
    fd := fun j f e => ⟨tr (H.fd j f e).1 (H.fd j f e).2 (by omega), (H.fd j f e).2⟩
    mo := (by obtain ⟨kvs, e, z⟩ := H.mo; exact ⟨kvs, tr e H.rmo (by omega), by rw [List.length_set]; exact z⟩)
    st := (by rw [std_set him]; exact tr H.st H.rst (by omega))
    en := tr H.en H.ren (by omega)
    be := tr H.be H.rbe (by omega)
    ch := tr H.ch H.rch (by have h1 := (List.getElem?_eq_some_iff.mp him).1; have h2 := H.few; omega)
    fl := tr H.fl H.rfl_ (by omega)
    len := (by rw [List.length_set]; exact H.len)
    md := (fun j b n hb hn => by
      by_cases e0 : i = j
      · subst e0
        rw [List.getElem?_set_self (List.getElem?_eq_some_iff.mp him).1] at hn
        rw [hia] at hb
        cases hn
        cases hb
        have q := H.md i a m hia him
        exact ⟨tr q.m q.rm (by omega), ⟨_, e, hk⟩, q.rm, q.rt⟩
      · rw [List.getElem?_set_ne e0] at hn
        have q := H.md j b n hb hn
        refine ⟨tr q.m q.rm (by omega), ?_, q.rm, q.rt⟩
        obtain ⟨kvs, e, z⟩ := q.t
        exact ⟨kvs, tr e q.rt (by omega), z⟩)
    rr := H.rr
    rfi := H.rfi
    rmo := H.rmo
    rst := H.rst
    ren := H.ren
    rbe := H.rbe
    rch := H.rch
    rfl_ := H.rfl_
    few := (by rw [List.length_set]; exact H.few)
    fewf := H.fewf
    hln := (by rw [List.length_set]; exact H.hln) }
/-- what others do leaves a house as it was -/
theorem HAt.frame (H : HAt s ro c g A ln) (hro : ∀ p, p < s.length → ro' p = ro p) (hag : ∀ p, p < s.length → (ro p).1 = c → at_ s' p = at_ s p) : HAt s' ro' c g A ln := by
  have tr : ∀ {p j : Nat} {o : O}, at_ s p = some o → ro p = (c, j) → at_ s' p = some o := fun e r => (hag _ (at_lt e) (by rw [r])).trans e
  have rr : ∀ {p j : Nat} {o : O}, at_ s p = some o → ro p = (c, j) → ro' p = (c, j) := fun e r => (hro _ (at_lt e)).trans r
  obtain ⟨mk, me, mz⟩ := H.mo
  exact { r := tr H.r H.rr, fi := tr H.fi H.rfi, fd := fun j f e => ⟨tr (H.fd j f e).1 (H.fd j f e).2, rr (H.fd j f e).1 (H.fd j f e).2⟩, mo := ⟨mk, tr me H.rmo, mz⟩, st := tr H.st H.rst, en := tr H.en H.ren, be := tr H.be H.rbe, ch := tr H.ch H.rch, fl := tr H.fl H.rfl_, len := H.len, md := (fun i a m ha hm => (fun q => ⟨tr q.m q.rm, (by obtain ⟨kvs, e, z⟩ := q.t; exact ⟨kvs, tr e q.rt, z⟩), rr q.m q.rm, (by obtain ⟨kvs, e, z⟩ := q.t; exact rr e q.rt)⟩) (H.md i a m ha hm)), rr := rr H.r H.rr, rfi := rr H.fi H.rfi, rmo := rr me H.rmo, rst := rr H.st H.rst, ren := rr H.en H.ren, rbe := rr H.be H.rbe, rch := rr H.ch H.rch, rfl_ := rr H.fl H.rfl_, few := H.few, fewf := H.fewf, hln := H.hln }
theorem HAt.pre (H : HAt s ro c g A ln) (h : s <+: s') : HAt s' ro c g A ln := H.frame (fun _ _ => rfl) fun p hp _ => by
  obtain ⟨r, rfl⟩ := h
  exact at_app_l hp
theorem ne_ro {p q : Nat} {a b : Nat × Nat} (h1 : ro p = a) (h2 : ro q = b) (h : a ≠ b) : p ≠ q := fun z => h (by rw [← h1, ← h2, z])
theorem ag_set {p : Nat} {o : O} {a : Nat × Nat} (h : ro p = a) : ∀ q, q < s.length → ro q ≠ a → at_ (s.set p o) q = at_ s q := fun q _ n => at_set_ne fun z => n (by rw [← z]; exact h)
end
end S3
set_option maxHeartbeats 4000000
/-! Runs: bind, running, write_down, note, body_at -/
namespace S3
open PySem PySem.Spec PyProof.Rows L2 HM DL S1 S2
section
variable {s s' : Sto} {ro ro' : Ro} {c d k : Nat} {g : HG} {A : AS} {ln : List (Nat × Nat)} {X : Ex → Sto → Prop}
def putKey (ks : List Str) (z : Str) : List Str := if z ∈ ks then ks else ks ++ [z]
def bindA (A : AS) (i : Nat) (z : Str) : AS := match A.ms[i]? with
  | some m => { A with ms := A.ms.set i (m.1, putKey m.2 z) }
  | none => A
theorem val_isSome {kvs : List (Key × D)} {k : Key} : (valD kvs k).isSome = true ↔ k ∈ kvs.map (·.1) := by
  simp only [valD, Option.isSome_map, List.find?_isSome, List.mem_map, decide_eq_true_eq]
theorem put_keys {kvs : List (Key × D)} {ks : List Str} {z : Str} {v : D} (h : kvs.map (·.1) = ks.map Sum.inr) : (putD kvs (.inr z) v).map (·.1) = (putKey ks z).map Sum.inr := by
  unfold putD putKey
  by_cases hz : z ∈ ks
  · have h1 : (valD kvs (.inr z)).isSome = true := val_isSome.mpr (by rw [h]; exact List.mem_map.mpr ⟨z, hz, rfl⟩)
    rw [if_pos h1, if_pos hz, List.map_map, ← h]
    congr 1
    funext kv
    simp only [Function.comp]
    split <;> rfl
  · have h1 : ¬(valD kvs (.inr z)).isSome = true := fun y => by
      have := val_isSome.mp y
      rw [h] at this
      obtain ⟨w, hw, e⟩ := List.mem_map.mp this
      cases e
      exact hz hw
    rw [if_neg h1, if_neg hz, List.map_append, List.map_append, h]
    rfl
theorem putKey_len {ks : List Str} {z : Str} : (putKey ks z).length ≤ ks.length + 1 := by
  unfold putKey
  split <;> simp
theorem bind_ok {i : Nat} {a : Nat × Nat} {m : Str × List Str} {z : Str} {v : D} (H : HAt s ro c g A ln) (ha : g.ads[i]? = some a) (hm : A.ms[i]? = some m) (hk : m.2.length < 1000) :
    (f_Module_bind [.ref a.1, .str z, v] s).wp (fun d s' => HAt s' ro c g (bindA A i z) ln ∧ Fr c ln.length s ro s' ro) X := by
  have q := H.md i a m ha hm
  obtain ⟨kvs, e, hkv⟩ := q.t
  have hl : kvs.length = m.2.length := by
    have := congrArg List.length hkv
    simpa using this
  have i1 := (List.getElem?_eq_some_iff.mp hm).1
  have f1 := H.few
  unfold f_Module_bind d_Module_bind
  simp [q.m, e, setK_dct e (y := .str z) rfl (by omega : kvs.length < 1000000)]
  refine ⟨?_, Fr.set q.rt (by omega)⟩
  unfold bindA
  rw [hm]
  exact H.bind ha hm (at_set_self (at_lt e)) (put_keys hkv) (ag_set q.rt)
theorem getD_ads {ads : List (Nat × Nat)} {i : Nat} {a : Nat × Nat} (h : ads[i]? = some a) : ads.getD i (0, 0) = a := by simp [List.getD, h]
theorem chn_last {ads l : List (Nat × Nat)} {i r : Nat} {a : Nat × Nat} (h : ads[i]? = some a) : chnOf ads (l ++ [(i, r)]) = chnOf ads l ++ [.tup [.ref a.1, .int (r : Nat)]] := by
  simp [chnOf, List.getD, h]
theorem running_ok {i r : Nat} {a : Nat × Nat} {l : List (Nat × Nat)} (H : HAt s ro c g A (l ++ [(i, r)])) (ha : g.ads[i]? = some a) : (f_Runs_running [.ref g.r] s).wp (fun d s' => d = .ref a.1 ∧ s' = s) X := by
  have e := H.ch
  rw [chn_last ha] at e
  unfold f_Runs_running d_Runs_running
  simp [H.r, e]
/-- by whom, at which row -/
def byD (ln : List (Nat × Nat)) : D × D := match ln.getLast? with
  | some q => (.int ((q.1 : Nat) + 1 : Int), .int (q.2 : Nat))
  | none => (.non, .non)
theorem write_ok {i : Nat} {a : Nat × Nat} {m : Str × List Str} (H : HAt s ro c g A ln) (ha : g.ads[i]? = some a) (hm : A.ms[i]? = some m) (hp : A.pap.length < 100000) :
    (f_Runs_write_down [.ref g.r, .ref a.1] s).wp (fun d s' => HAt s' ro c g { A with pap := A.pap ++ [.tup [.int ((i : Nat) + 1 : Int), (byD ln).1, (byD ln).2]] } ln ∧ Fr c ln.length s ro s' ro) X := by
  have q := H.md i a m ha hm
  have hap : ∀ y, oAppend (.ref g.be) [y] s = some (.non, s.set g.be (.lst (A.pap ++ [y]))) := fun y => oAppend_ok H.be (by omega)
  unfold f_Runs_write_down d_Runs_write_down
  rcases List.eq_nil_or_concat ln with rfl | ⟨l, x, rfl⟩
  · have e := H.ch
    simp only [chnOf, List.map_nil] at e
    simp [H.r, e, q.m, H.be, hap]
    exact ⟨H.paper (at_set_self (at_lt H.be)) (ag_set H.rbe), Fr.set H.rbe (by omega)⟩
  · obtain ⟨j, r⟩ := x
    have hj : j < A.ms.length := H.hln (j, r) (by simp)
    obtain ⟨b, hb⟩ : ∃ b, g.ads[j]? = some b := ⟨_, List.getElem?_eq_getElem (by rw [H.len]; exact hj)⟩
    have qj := H.md j b _ hb (List.getElem?_eq_getElem hj)
    have e := H.ch
    rw [List.concat_eq_append] at e ⊢
    rw [chn_last hb] at e
    have hby : byD (l ++ [(j, r)]) = (.int ((j : Nat) + 1 : Int), .int (r : Nat)) := by simp [byD]
    simp [H.r, e, q.m, qj.m, H.be, hap]
    rw [List.concat_eq_append] at H
    rw [hby]
    exact ⟨H.paper (at_set_self (at_lt H.be)) (ag_set H.rbe), Fr.set H.rbe (by omega)⟩
end
end S3
set_option maxHeartbeats 4000000
/-! Runs: note, body_at -/
namespace S3
open PySem PySem.Spec PyProof.Rows L2 HM DL S1 S2
section
variable {s s' : Sto} {ro ro' : Ro} {c d k : Nat} {g : HG} {A : AS} {ln : List (Nat × Nat)} {X : Ex → Sto → Prop}
def fnd (ms : List (Str × List Str)) (p : Str) : Option Nat := ms.findIdx? fun m => decide (m.1 = p)
theorem std_val {p : Str} : ∀ {ms : List (Str × List Str)} {ads : List (Nat × Nat)}, ads.length = ms.length → (fnd ms p = none ∧ valD (stdD ms ads) (.inr p) = none) ∨ ∃ i a m, ms[i]? = some m ∧ ads[i]? = some a ∧ m.1 = p ∧ fnd ms p = some i ∧ valD (stdD ms ads) (.inr p) = some (.ref a.1)
  | [], ads, _ => .inl ⟨rfl, rfl⟩
  | m :: ms, [], h => by cases h
  | m :: ms, a :: ads, h => by
    by_cases e : m.1 = p
    · refine .inr ⟨0, a, m, rfl, rfl, e, ?_, ?_⟩
      · simp [fnd, List.findIdx?_cons, e]
      · simp [valD, stdD, e]
    · have hv : valD (stdD (m :: ms) (a :: ads)) (.inr p) = valD (stdD ms ads) (.inr p) := by
        have e' : ¬((Sum.inr m.1 : Key) = .inr p) := fun z => e (Sum.inr.inj z)
        simp [valD, stdD, e']
      have hf : fnd (m :: ms) p = (fnd ms p).map (· + 1) := by simp [fnd, List.findIdx?_cons, e]
      rcases std_val (p := p) (ms := ms) (ads := ads) (by simpa using h) with ⟨h1, h2⟩ | ⟨i, b, n, h1, h2, h3, h4, h5⟩
      · exact .inl ⟨by rw [hf, h1]; rfl, by rw [hv, h2]⟩
      · exact .inr ⟨i + 1, b, n, h1, h2, h3, by rw [hf, h4]; rfl, by rw [hv, h5]⟩
def namesD (ms : List (Str × List Str)) (p : Str) : D := match fnd ms p with
  | some i => (match ms[i]? with
    | some m => .tup ((srt m.2).map D.str)
    | none => .non)
  | none => .non
def noteA (A : AS) (i : Nat) (p : Str) : AS := { A with log := A.log ++ [.tup [.str "note", .int ((i : Nat) + 1 : Int), namesD A.ms p]] }
theorem keyS_of : ∀ {kvs : List (Key × D)} {ks : List Str}, kvs.map (·.1) = ks.map Sum.inr → keyS kvs = some ks
  | [], [], _ => rfl
  | [], _ :: _, h => by cases h
  | _ :: _, [], h => by cases h
  | (k, v) :: kvs, z :: ks, h => by
    simp only [List.map_cons, List.cons.injEq] at h
    obtain ⟨rfl, h⟩ := h
    simp [keyS, keyS_of h]
theorem sorted_ok {t : Nat} {kvs : List (Key × D)} {ks : List Str} (e : at_ s t = some (.dct kvs)) (hk : kvs.map (·.1) = ks.map Sum.inr) (hl : ks.length < 64) : oSorted [.ref t] s = some (.ref s.length, s ++ [.lst ((srt ks).map D.str)]) := by
  have e' : s[t]? = some (.dct kvs) := e
  simp [oSorted, rdL, rdD, e', keyS_of hk, hl]
theorem bound_ok {i : Nat} {a : Nat × Nat} {m : Str × List Str} (H : HAt s ro c g A ln) (ha : g.ads[i]? = some a) (hm : A.ms[i]? = some m) (hk : m.2.length < 64) :
    (f_Module_bound [.ref a.1] s).wp (fun d s' => d = .ref s.length ∧ s' = s ++ [.lst ((srt m.2).map D.str)]) X := by
  have q := H.md i a m ha hm
  obtain ⟨kvs, e, hkv⟩ := q.t
  unfold f_Module_bound d_Module_bound
  simp [q.m, sorted_ok e hkv hk]
theorem oTuple_l {i : Nat} {xs : List D} (h : at_ s i = some (.lst xs)) : oTuple [.ref i] s = some (.tup xs, s) := by
  have h' : s[i]? = some (.lst xs) := h
  simp [oTuple, rdL, h']
@[simp] theorem oIn_def {x y : D} : oIn x y s = if isDct s y then oInK x y s else oInS x y s := rfl
@[simp] theorem oInK_def {x y : D} : oInK x y s = (inDk s x y).map fun b => (.bl b, s) := rfl
@[simp] theorem inDk_ref {x : D} {i : Nat} : inDk s x (.ref i) = match rdD s i, keyD x with
    | some kvs, some k => some (valD kvs k).isSome
    | _, _ => none := rfl
theorem note_ok {i r : Nat} {l : List (Nat × Nat)} {p : Str} (H : HAt s ro c g A (l ++ [(i, r)])) (hsm : ∀ m ∈ A.ms, m.2.length < 64) (hlog : A.log.length < 100000) :
    (f_Runs_note [.ref g.r, .str p] s).wp (fun d s' => HAt s' ro c g (noteA A i p) (l ++ [(i, r)]) ∧ Fr c (l ++ [(i, r)]).length s ro s' ro) X := by
  have hi : i < A.ms.length := H.hln (i, r) (by simp)
  obtain ⟨ai, hai⟩ : ∃ b, g.ads[i]? = some b := ⟨_, List.getElem?_eq_getElem (by rw [H.len]; exact hi)⟩
  have fin : ∀ (s1 : Sto) (nm : D), s <+: s1 → nm = namesD A.ms p → (sExpr (eMk isLst oAppend (e1 (oFld (Str.ofString "entries")) (eVar 0)) (aCons (eN oTup (aCons (eC (.str "note")) (aCons (e1 (oFld (Str.ofString "number")) (eMeth "Runs" "running" f_Runs_running (eVar 0) aNil)) (aCons (eVar 2) aNil)))) aNil)) [some (.ref g.r), some (.str p), some nm] s1).wp
      (Post.fn (fun d s' => HAt s' ro c g (noteA A i p) (l ++ [(i, r)]) ∧ Fr c (l ++ [(i, r)]).length s ro s' ro) X) := by
    rintro s1 nm pre rfl
    have H1 := H.pre pre
    have q := H1.md i ai _ hai (List.getElem?_eq_getElem hi)
    simp [H1.r, H1.en]
    refine (running_ok H1 hai).no ?_
    rintro _ _ ⟨rfl, rfl⟩
    simp [q.m, oAppend_ok H1.en (by omega : A.log.length < 1000000)]
    exact ⟨H1.log (at_set_self (at_lt H1.en)) (ag_set H1.ren), (Fr.pre pre).trans (Fr.set H1.ren (by omega))⟩
  unfold f_Runs_note d_Runs_note
  rcases std_val (p := p) H.len with ⟨h1, h2⟩ | ⟨j, a, m, h1, h2, h3, h4, h5⟩
  · have z := fin s .non (List.prefix_refl _) (by simp [namesD, h1])
    simp [H.r, H.st, h2] at z ⊢
    exact z
  · have qj := H.md j a m h2 h1
    simp [H.r, H.st, h5, qj.m]
    refine (bound_ok H h2 h1 (hsm m (List.mem_of_getElem? h1))).no ?_
    rintro _ _ ⟨rfl, rfl⟩
    have z := fin (s ++ [.lst ((srt m.2).map D.str)]) (.tup ((srt m.2).map D.str)) (pre_app _ _) (by simp [namesD, h4, h1])
    simp [oTuple_l (at_app_len (s := s) (t := []))] at z ⊢
    exact z
/-- what the first finder that has a path has -/
def lookF : List (Nat × List (Key × D)) → Str → Option D
  | [], _ => none
  | f :: r, p => match valD f.2 (.inr p) with
    | some v => some v
    | none => lookF r p
theorem body_at_ok {p : Str} (H : HAt s ro c g A ln) : (f_Runs_body_at [.ref g.r, .str p] s).wp (fun d s' => d = (lookF g.fs p).getD .non ∧ s' = s) X := by
  unfold f_Runs_body_at d_Runs_body_at
  simp [H.r, H.fi]
  refine forL_inv (fun rest env s' => ∃ (fs : List (Nat × List (Key × D))) (z : Option D), rest = fs.map (fun f => .ref f.1) ∧ env = [some (.ref g.r), some (.str p), z] ∧ s' = s ∧ (∀ f ∈ fs, at_ s f.1 = some (.dct f.2)) ∧ lookF g.fs p = lookF fs p) ⟨g.fs, none, rfl, rfl, rfl, fun f hf => ?_, rfl⟩ ?_ ?_ ?_
  · obtain ⟨j, hj⟩ := List.mem_iff_getElem?.mp hf
    exact (H.fd j f hj).1
  · rintro rest env s' ⟨fs, z, rfl, rfl, rfl, _, _⟩
    simp [H.fi]
  · rintro x rest env s' ⟨fs, z, e1, rfl, rfl, h1, h2⟩
    cases fs with
    | nil => cases e1
    | cons f fs =>
      simp only [List.map_cons, List.cons.injEq] at e1
      obtain ⟨rfl, rfl⟩ := e1
      refine ⟨_, rfl, ?_⟩
      have hf := h1 f List.mem_cons_self
      cases hv : valD f.2 (.inr p) with
      | some v =>
        simp [hf, hv]
        rw [h2]
        simp [lookF, hv]
      | none =>
        simp [hf, hv]
        exact ⟨fs, rfl, fun f' b' hf' => h1 (f', b') (List.mem_cons_of_mem _ hf'), by rw [h2]; simp [lookF, hv]⟩
  · rintro env s' ⟨fs, z, e1, rfl, rfl, h1, h2⟩
    have : fs = [] := by
      cases fs with
      | nil => rfl
      | cons _ _ => cases e1
    subst this
    simp
    rw [h2]
    simp [lookF]
end
end S3
set_option maxHeartbeats 4000000
/-! What takings make of a house, apart from any store -/
namespace S3
open PySem PySem.Spec PyProof.Rows L2 HM DL S1 S2
abbrev Ln := List (Nat × Nat)
def rowA (tk : AS → Ln → Str → AS × Nat) (i : Nat) (ln : Ln) (r : Nat) (row : D) (A : AS) : AS := match row with
  | .tup [_, .str z, .int _] => bindA A i z
  | .tup [_, .str z, .str p] => bindA (tk A (ln ++ [(i, r)]) p).1 i z
  | .tup [_, .str p] => noteA A i p
  | _ => A
def rowsA (tk : AS → Ln → Str → AS × Nat) (i : Nat) (ln : Ln) : Nat → List D → AS → AS
  | _, [], A => A
  | r, x :: xs, A => rowsA tk i ln (r + 1) xs (rowA tk i ln r x A)
def beginA (A : AS) (p : Str) (ln : Ln) : AS := ⟨A.ms ++ [(p, [])], A.log ++ [.tup [.str "begin", .int ((A.ms.length : Nat) + 1 : Int), .str p]], A.pap ++ [.tup [.int ((A.ms.length : Nat) + 1 : Int), (byD ln).1, (byD ln).2]]⟩
def haveA (A : AS) (i : Nat) : AS := { A with log := A.log ++ [.tup [.str "have", .int ((i : Nat) + 1 : Int)]] }
def endA (A : AS) (i : Nat) : AS := { A with log := A.log ++ [.tup [.str "end", .int ((i : Nat) + 1 : Int)]] }
def takeA (bd : Str → List D) : Nat → AS → Ln → Str → AS × Nat
  | 0, A, _, p => match fnd A.ms p with
    | some i => (haveA A i, i)
    | none => (A, 0)
  | n + 1, A, ln, p => match fnd A.ms p with
    | some i => (haveA A i, i)
    | none => (endA (rowsA (takeA bd n) A.ms.length ln 0 (bd p) (beginA A p ln)) A.ms.length, A.ms.length)
theorem takeA_have {bd : Str → List D} {n : Nat} {A : AS} {ln : Ln} {p : Str} {i : Nat} (h : fnd A.ms p = some i) : takeA bd n A ln p = (haveA A i, i) := by
  cases n <;> simp [takeA, h]
theorem takeA_new {bd : Str → List D} {n : Nat} {A : AS} {ln : Ln} {p : Str} (h : fnd A.ms p = none) : takeA bd (n + 1) A ln p = (endA (rowsA (takeA bd n) A.ms.length ln 0 (bd p) (beginA A p ln)) A.ms.length, A.ms.length) := by
  simp [takeA, h]
abbrev paths (A : AS) : List Str := A.ms.map (·.1)
inductive RowOk (ps : List Str) : D → Prop
  | set (z : Str) (i : Int) : RowOk ps (.tup [.str "set", .str z, .int i])
  | take (z p : Str) : p ∈ ps → RowOk ps (.tup [.str "take", .str z, .str p])
  | note (p : Str) : RowOk ps (.tup [.str "note", .str p])
structure Good (ps : List Str) (A : AS) : Prop where
  nd : (paths A).Nodup
  sub : ∀ q ∈ paths A, q ∈ ps
  pp : A.pap.length ≤ A.ms.length
/-- what can only grow; i: the module whose body runs, if there is one -/
structure Grow (i : Nat) (A A' : AS) : Prop where
  pre : paths A <+: paths A'
  old : ∀ (j : Nat) (m : Str × List Str), j ≠ i → A.ms[j]? = some m → A'.ms[j]? = some m
  new : ∀ (j : Nat) (m : Str × List Str), A.ms.length ≤ j → A'.ms[j]? = some m → m.2.length ≤ 40
def phi (ps : List Str) (A : AS) : Nat := A.log.length + 42 * (ps.length - A.ms.length)
theorem nodup_sub : ∀ {l ps : List Str}, l.Nodup → (∀ q ∈ l, q ∈ ps) → l.length ≤ ps.length
  | [], _, _, _ => Nat.zero_le _
  | x :: l, ps, nd, sub => by
    obtain ⟨n1, n2⟩ := List.nodup_cons.mp nd
    have hx := sub x List.mem_cons_self
    have := nodup_sub (l := l) (ps := ps.erase x) n2 fun q hq => (List.mem_erase_of_ne (fun z => n1 (by rw [← z]; exact hq))).mpr (sub q (List.mem_cons_of_mem _ hq))
    rw [List.length_erase_of_mem hx] at this
    have hp : 0 < ps.length := List.length_pos_of_mem hx
    rw [List.length_cons]
    omega
theorem Good.few {ps : List Str} {A : AS} (h : Good ps A) : A.ms.length ≤ ps.length := by
  have := nodup_sub h.nd h.sub
  simpa using this
theorem fnd_none {ms : List (Str × List Str)} {p : Str} (h : fnd ms p = none) : p ∉ ms.map (·.1) := fun z => by
  obtain ⟨m, hm, rfl⟩ := List.mem_map.mp z
  simp only [fnd, List.findIdx?_eq_none_iff] at h
  simpa using h m hm
theorem fnd_some {ms : List (Str × List Str)} {p : Str} {i : Nat} (h : fnd ms p = some i) : ∃ m, ms[i]? = some m ∧ m.1 = p := by
  simp only [fnd, List.findIdx?_eq_some_iff_getElem] at h
  obtain ⟨hi, h1, _⟩ := h
  exact ⟨_, List.getElem?_eq_getElem hi, by simpa using h1⟩
theorem Good.more {ps : List Str} {A : AS} {p : Str} (h : Good ps A) (hp : p ∈ ps) (hn : fnd A.ms p = none) : A.ms.length < ps.length := by
  have := nodup_sub (l := p :: paths A) (List.nodup_cons.mpr ⟨fnd_none hn, h.nd⟩) fun q hq => by
    rcases List.mem_cons.mp hq with rfl | hq
    · exact hp
    · exact h.sub q hq
  simp at this
  omega
theorem Good.begin {ps : List Str} {A : AS} {p : Str} {ln : Ln} (h : Good ps A) (hp : p ∈ ps) (hn : fnd A.ms p = none) : Good ps (beginA A p ln) := by
  refine ⟨?_, fun q hq => ?_, ?_⟩
  · simp only [paths, beginA, List.map_append, List.map_cons, List.map_nil]
    rw [List.nodup_append]
    exact ⟨h.nd, by simp, fun a ha b hb z => by
      rw [List.mem_singleton.mp hb] at z
      rw [z] at ha
      exact fnd_none hn ha⟩
  · simp only [paths, beginA, List.map_append, List.map_cons, List.map_nil, List.mem_append, List.mem_singleton] at hq
    rcases hq with hq | rfl
    · exact h.sub q hq
    · exact hp
  · have := h.pp
    simp [beginA]
    omega
theorem bindA_paths {A : AS} {i : Nat} {z : Str} : paths (bindA A i z) = paths A := by
  unfold bindA
  cases h : A.ms[i]? with
  | none => rfl
  | some m =>
    simp only [paths]
    apply List.ext_getElem?
    intro j
    rw [List.getElem?_map, List.getElem?_map]
    by_cases e : i = j
    · subst e
      rw [List.getElem?_set_self (List.getElem?_eq_some_iff.mp h).1, h]
      rfl
    · rw [List.getElem?_set_ne e]
theorem bindA_len {A : AS} {i : Nat} {z : Str} : (bindA A i z).ms.length = A.ms.length := by
  have := congrArg List.length (bindA_paths (A := A) (i := i) (z := z))
  simpa using this
theorem bindA_log {A : AS} {i : Nat} {z : Str} : (bindA A i z).log = A.log ∧ (bindA A i z).pap = A.pap := by
  unfold bindA
  cases A.ms[i]? <;> exact ⟨rfl, rfl⟩
theorem bindA_ne {A : AS} {i j : Nat} {z : Str} (h : j ≠ i) : (bindA A i z).ms[j]? = A.ms[j]? := by
  unfold bindA
  cases A.ms[i]? with
  | none => rfl
  | some m => exact List.getElem?_set_ne (Ne.symm h)
theorem bindA_at {A : AS} {i : Nat} {z : Str} {m : Str × List Str} (h : A.ms[i]? = some m) : (bindA A i z).ms[i]? = some (m.1, putKey m.2 z) := by
  unfold bindA
  rw [h]
  exact List.getElem?_set_self (List.getElem?_eq_some_iff.mp h).1
/-- behind a row, a body, a taking -/
structure Stp (ps : List Str) (i : Nat) (A A' : AS) (k : Nat) : Prop where
  gd : Good ps A'
  gr : Grow i A A'
  ph : phi ps A' ≤ phi ps A + k
  le : A.ms.length ≤ A'.ms.length
theorem Grow.len {i : Nat} {A A' : AS} (h : Grow i A A') : A.ms.length ≤ A'.ms.length := by
  have := h.pre.length_le
  simpa using this
theorem Grow.trans {i : Nat} {A A1 A2 : AS} (a : Grow i A A1) (b : Grow i A1 A2) (hi : i < A.ms.length) : Grow i A A2 :=
  ⟨a.pre.trans b.pre, fun j m n e => b.old j m n (a.old j m n e), fun j m hj e => by
    by_cases h : j < A1.ms.length
    · have e1 := List.getElem?_eq_getElem h
      have e2 := b.old j _ (by omega) e1
      rw [e] at e2
      cases e2
      exact a.new j _ hj e1
    · exact b.new j m (by omega) e⟩
theorem Stp.trans {ps : List Str} {i k l : Nat} {A A1 A2 : AS} (a : Stp ps i A A1 k) (b : Stp ps i A1 A2 l) (hi : i < A.ms.length) : Stp ps i A A2 (k + l) :=
  ⟨b.gd, a.gr.trans b.gr hi, by have := a.ph; have := b.ph; omega, Nat.le_trans a.le b.le⟩
theorem bind_stp {ps : List Str} {A : AS} {i : Nat} {z : Str} (h : Good ps A) : Stp ps i A (bindA A i z) 0 := by
  have hl := bindA_len (A := A) (i := i) (z := z)
  obtain ⟨h1, h2⟩ := bindA_log (A := A) (i := i) (z := z)
  refine ⟨⟨by rw [bindA_paths]; exact h.nd, by rw [bindA_paths]; exact h.sub, by rw [h2, hl]; exact h.pp⟩, ⟨by rw [bindA_paths]; exact List.prefix_refl _, fun j m n e => by rw [bindA_ne n]; exact e, fun j m hj e => ?_⟩, by simp [phi, h1, hl], by omega⟩
  have := (List.getElem?_eq_some_iff.mp e).1
  omega
theorem note_stp {ps : List Str} {A : AS} {i j : Nat} {p : Str} (h : Good ps A) : Stp ps j A (noteA A i p) 1 :=
  ⟨⟨h.nd, h.sub, h.pp⟩, ⟨List.prefix_refl _, fun _ _ _ e => e, fun j m hj e => by have := (List.getElem?_eq_some_iff.mp e).1; simp only [noteA] at this; omega⟩, by simp [phi, noteA]; omega, Nat.le_refl _⟩
theorem take_stp {ps : List Str} {bd : Str → List D} (hbd : ∀ q ∈ ps, (∀ r ∈ bd q, RowOk ps r) ∧ (bd q).length ≤ 40) : ∀ (n : Nat) {A : AS} {ln : Ln} {p : Str} {i : Nat}, Good ps A → ps.length ≤ A.ms.length + n → p ∈ ps → A.ms.length ≤ i →
    Stp ps i A (takeA bd n A ln p).1 1 ∧ ∃ m, (takeA bd n A ln p).1.ms[(takeA bd n A ln p).2]? = some m ∧ m.1 = p := by
  intro n
  induction n with
  | zero =>
    intro A ln p i h hn hp hi
    cases hf : fnd A.ms p with
    | none => have := h.more hp hf; omega
    | some j =>
      rw [takeA_have hf]
      exact ⟨⟨⟨h.nd, h.sub, h.pp⟩, ⟨List.prefix_refl _, fun _ _ _ e => e, fun j m hj e => by have := (List.getElem?_eq_some_iff.mp e).1; simp only [haveA] at this; omega⟩, by simp [phi, haveA]; omega, Nat.le_refl _⟩, fnd_some hf⟩
  | succ n ih =>
    intro A ln p i h hn hp hi
    cases hf : fnd A.ms p with
    | some j =>
      rw [takeA_have hf]
      exact ⟨⟨⟨h.nd, h.sub, h.pp⟩, ⟨List.prefix_refl _, fun _ _ _ e => e, fun j m hj e => by have := (List.getElem?_eq_some_iff.mp e).1; simp only [haveA] at this; omega⟩, by simp [phi, haveA]; omega, Nat.le_refl _⟩, fnd_some hf⟩
    | none =>
      rw [takeA_new hf]
      have hmore := h.more hp hf
      have hg := h.begin (ln := ln) hp hf
      have rows : ∀ (xs : List D) (r : Nat) (B : AS), Good ps B → (∀ x ∈ xs, RowOk ps x) → A.ms.length < B.ms.length → ps.length ≤ B.ms.length + n → xs.length + r ≤ 40 → (∃ m, B.ms[A.ms.length]? = some m ∧ m.2.length ≤ r) →
          Stp ps A.ms.length B (rowsA (takeA bd n) A.ms.length ln r xs B) xs.length ∧ ∃ m, (rowsA (takeA bd n) A.ms.length ln r xs B).ms[A.ms.length]? = some m ∧ m.2.length ≤ 40 := by
        intro xs
        induction xs with
        | nil =>
          intro r B gB _ hl _ hr ⟨m, e, hm⟩
          exact ⟨⟨gB, ⟨List.prefix_refl _, fun _ _ _ e => e, fun j m hj e => by have := (List.getElem?_eq_some_iff.mp e).1; simp only [rowsA] at this; omega⟩, by simp [rowsA], Nat.le_refl _⟩, m, e, by omega⟩
        | cons x xs ihx =>
          intro r B gB hx hl hn2 hr ⟨m, e, hm⟩
          rw [List.length_cons] at hr
          have one : Stp ps A.ms.length B (rowA (takeA bd n) A.ms.length ln r x B) 1 ∧ ∃ m, (rowA (takeA bd n) A.ms.length ln r x B).ms[A.ms.length]? = some m ∧ m.2.length ≤ r + 1 := by
            cases hx x List.mem_cons_self with
            | set z i =>
              have b := bind_stp (i := A.ms.length) (z := z) gB
              refine ⟨⟨b.gd, b.gr, Nat.le_trans b.ph (by omega), b.le⟩, _, bindA_at e, ?_⟩
              have := putKey_len (ks := m.2) (z := z)
              simp only
              omega
            | take z q hq =>
              obtain ⟨t, _⟩ := ih (A := B) (ln := ln ++ [(A.ms.length, r)]) (p := q) (i := B.ms.length) gB hn2 hq (Nat.le_refl _)
              have t' : Stp ps A.ms.length B (takeA bd n B (ln ++ [(A.ms.length, r)]) q).1 1 := ⟨t.gd, ⟨t.gr.pre, fun j m _ e => t.gr.old j m (by have := (List.getElem?_eq_some_iff.mp e).1; omega) e, t.gr.new⟩, t.ph, t.le⟩
              have b := bind_stp (i := A.ms.length) (z := z) t.gd
              have e2 := t.gr.old A.ms.length m (by omega) e
              refine ⟨t'.trans b hl, _, bindA_at e2, ?_⟩
              have := putKey_len (ks := m.2) (z := z)
              simp only
              omega
            | note q =>
              exact ⟨note_stp gB, m, e, by omega⟩
          obtain ⟨o1, m1, e1, k1⟩ := one
          have hl1 := o1.le
          obtain ⟨o2, m2, e2, k2⟩ := ihx (r + 1) _ o1.gd (fun y hy => hx y (List.mem_cons_of_mem _ hy)) (by omega) (by omega) (by omega) ⟨m1, e1, k1⟩
          refine ⟨?_, m2, e2, k2⟩
          have := o1.trans o2 hl
          rw [List.length_cons, Nat.add_comm]
          exact this
      have hbl : (beginA A p ln).ms.length = A.ms.length + 1 := by simp [beginA]
      obtain ⟨o, m, e, hk⟩ := rows (bd p) 0 (beginA A p ln) hg (hbd p hp).1 (by omega) (by omega) (by have := (hbd p hp).2; omega) ⟨(p, []), by simp [beginA], by simp⟩
      have hpre : paths A <+: paths (beginA A p ln) := by simp [paths, beginA]
      have ole := o.le
      refine ⟨⟨⟨o.gd.nd, o.gd.sub, o.gd.pp⟩, ⟨hpre.trans o.gr.pre, fun j m' hj e' => ?_, fun j m' hj e' => ?_⟩, ?_, ?_⟩, ?_⟩
      · have hjl := (List.getElem?_eq_some_iff.mp e').1
        refine o.gr.old j m' (by omega) ?_
        simp only [beginA]
        rw [List.getElem?_append_left hjl]
        exact e'
      · by_cases ej : j = A.ms.length
        · subst ej
          have e'' : (rowsA (takeA bd n) A.ms.length ln 0 (bd p) (beginA A p ln)).ms[A.ms.length]? = some m' := e'
          rw [e] at e''
          cases e''
          exact hk
        · exact o.gr.new j m' (by omega) e'
      · have h1 := o.ph
        have h2 := (hbd p hp).2
        have h3 : (endA (rowsA (takeA bd n) A.ms.length ln 0 (bd p) (beginA A p ln)) A.ms.length).log.length = (rowsA (takeA bd n) A.ms.length ln 0 (bd p) (beginA A p ln)).log.length + 1 := by simp [endA]
        have h4 : (beginA A p ln).log.length = A.log.length + 1 := by simp [beginA]
        have h5 : (endA (rowsA (takeA bd n) A.ms.length ln 0 (bd p) (beginA A p ln)) A.ms.length).ms = (rowsA (takeA bd n) A.ms.length ln 0 (bd p) (beginA A p ln)).ms := rfl
        simp only [phi, h4, hbl] at h1
        simp only [phi, h3, h5]
        omega
      · show A.ms.length ≤ (rowsA (takeA bd n) A.ms.length ln 0 (bd p) (beginA A p ln)).ms.length
        omega
      · refine ⟨m, e, ?_⟩
        have e0 : (beginA A p ln).ms[A.ms.length]? = some (p, []) := by simp [beginA]
        have q1 : (paths (beginA A p ln))[A.ms.length]? = some p := by simp only [paths, List.getElem?_map, e0]; rfl
        obtain ⟨t, ht⟩ := o.gr.pre
        have q2 : (paths (rowsA (takeA bd n) A.ms.length ln 0 (bd p) (beginA A p ln)))[A.ms.length]? = some p := by
          rw [← ht, List.getElem?_append_left (List.getElem?_eq_some_iff.mp q1).1]
          exact q1
        simp only [paths, List.getElem?_map, e] at q2
        exact Option.some.inj q2
end S3
set_option maxHeartbeats 4000000
/-! Runs: a module begins, the chain grows and falls back -/
namespace S3
open PySem PySem.Spec PyProof.Rows L2 HM DL S1 S2
@[simp] theorem set_app_len {s t : Sto} {o o' : O} : (s ++ o :: t).set s.length o' = s ++ o' :: t := by
  rw [List.set_append_right _ _ (Nat.le_refl _)]
  simp
@[simp] theorem at_app_len1 {s t : Sto} {o o' : O} : at_ (s ++ o :: o' :: t) (s.length + 1) = some o' := by
  rw [at_app_r (by omega)]
  have : s.length + 1 - s.length = 1 := by omega
  rw [this]
  rfl
@[simp] theorem at_app_len2 {s t : Sto} {o o' o2 : O} : at_ (s ++ o :: o' :: o2 :: t) (s.length + 2) = some o2 := by
  rw [at_app_r (by omega)]
  have : s.length + 2 - s.length = 2 := by omega
  rw [this]
  rfl
section
variable {s s' : Sto} {ro ro' : Ro} {c d k : Nat} {g : HG} {A : AS} {ln : Ln} {X : Ex → Sto → Prop}
theorem minit_ok {n : Int} {p : Str} : (f_Module_init [.ref s.length, .int n, .str p] (s ++ [.ins "Module" []])).wp (fun d s' => d = .non ∧ s' = s ++ [.ins "Module" (modF n p (s.length + 1)), .dct []]) X := by
  have p1 : ∀ v, putFD ("number" : Str) v [] = [(("number" : Str), v)] := fun _ => rfl
  have p2 : ∀ v x, putFD ("path" : Str) v [(("number" : Str), x)] = [(("number" : Str), x), (("path" : Str), v)] := fun _ _ => rfl
  have p3 : ∀ v x y, putFD ("things" : Str) v [(("number" : Str), x), (("path" : Str), y)] = [(("number" : Str), x), (("path" : Str), y), (("things" : Str), v)] := fun _ _ _ => rfl
  unfold f_Module_init d_Module_init
  simp [p1, p2, p3, modF]
def roNew (ro : Ro) (c n mi ti : Nat) : Ro := fun q => if q = mi then (c, 21 + 3 * n) else if q = ti then (c, 22 + 3 * n) else ro q
theorem getElem?_snoc {α : Type} {xs : List α} {x y : α} {i : Nat} (h : (xs ++ [x])[i]? = some y) : (i < xs.length ∧ xs[i]? = some y) ∨ (i = xs.length ∧ y = x) := by
  by_cases hi : i < xs.length
  · rw [List.getElem?_append_left hi] at h
    exact .inl ⟨hi, h⟩
  · have h1 := (List.getElem?_eq_some_iff.mp h).1
    simp at h1
    have e : i = xs.length := by omega
    subst e
    simp at h
    exact .inr ⟨rfl, h.symm⟩
theorem chn_pre {ads ads' : List (Nat × Nat)} {ln : Ln} (h : ads <+: ads') (hl : ∀ q ∈ ln, q.1 < ads.length) : chnOf ads' ln = chnOf ads ln := by
  unfold chnOf
  apply List.map_congr_left
  intro q hq
  obtain ⟨t, rfl⟩ := h
  simp only [List.getD, List.getElem?_append_left (hl q hq)]
theorem HAt.newmod (H : HAt s ro c g A ln) {mi ti : Nat} {p : Str} {kvs : List (Key × D)} (hmi : s.length ≤ mi) (hti : s.length ≤ ti) (hne : mi ≠ ti) (e1 : at_ s' mi = some (.ins "Module" (modF ((A.ms.length : Nat) + 1 : Int) p ti))) (e2 : at_ s' ti = some (.dct []))
    (e3 : at_ s' g.mo = some (.dct kvs)) (e3' : kvs.map (·.1) = (List.range (A.ms.length + 1)).map fun i : Nat => Sum.inl ((i : Int) + 1)) (e4 : at_ s' g.st = some (.dct (stdD (A.ms ++ [(p, [])]) (g.ads ++ [(mi, ti)]))))
    (hag : ∀ q, q < s.length → ro q ≠ (c, 2) → ro q ≠ (c, 3) → at_ s' q = at_ s q) (hfew : A.ms.length + 1 < 1000) : HAt s' (roNew ro c A.ms.length mi ti) c { g with ads := g.ads ++ [(mi, ti)] } { A with ms := A.ms ++ [(p, [])] } ln := by
  have tr : ∀ {q j : Nat} {o : O}, at_ s q = some o → ro q = (c, j) → j ≠ 2 → j ≠ 3 → at_ s' q = some o := fun e r n1 n2 => (hag _ (at_lt e) (by rw [r]; simpa using n1) (by rw [r]; simpa using n2)).trans e
  have rr : ∀ {q j : Nat} {o : O}, at_ s q = some o → ro q = (c, j) → roNew ro c A.ms.length mi ti q = (c, j) := fun e r => by
    have := at_lt e
    unfold roNew
    rw [if_neg (by omega), if_neg (by omega)]
    exact r
  obtain ⟨mk, me, mz⟩ := H.mo
  have hc : chnOf (g.ads ++ [(mi, ti)]) ln = chnOf g.ads ln := chn_pre (List.prefix_append _ _) fun q hq => by rw [H.len]; exact H.hln q hq
  exact {
    r := tr H.r H.rr (by omega) (by omega)
    fi := tr H.fi H.rfi (by omega) (by omega)
    fd := fun j f e => ⟨tr (H.fd j f e).1 (H.fd j f e).2 (by omega) (by omega), rr (H.fd j f e).1 (H.fd j f e).2⟩
    mo := ⟨kvs, e3, by rw [List.length_append]; exact e3'⟩
    st := e4
    en := tr H.en H.ren (by omega) (by omega)
    be := tr H.be H.rbe (by omega) (by omega)
    ch := by
      show at_ s' g.ch = some (.lst (chnOf (g.ads ++ [(mi, ti)]) ln))
      rw [hc]
      exact tr H.ch H.rch (by omega) (by omega)
    fl := tr H.fl H.rfl_ (by omega) (by omega)
    len := by simp [H.len]
    md := fun i a m ha hm => by
      rcases getElem?_snoc ha with ⟨i1, ha⟩ | ⟨i1, rfl⟩
      · rcases getElem?_snoc hm with ⟨i2, hm⟩ | ⟨i2, rfl⟩
        · have q := H.md i a m ha hm
          refine ⟨tr q.m q.rm (by omega) (by omega), ?_, rr q.m q.rm, ?_⟩
          · obtain ⟨kvs, e, z⟩ := q.t
            exact ⟨kvs, tr e q.rt (by omega) (by omega), z⟩
          · obtain ⟨kvs, e, z⟩ := q.t
            exact rr e q.rt
        · have := H.len
          omega
      · rcases getElem?_snoc hm with ⟨i2, hm⟩ | ⟨i2, rfl⟩
        · have := H.len
          omega
        · rw [i2]
          refine ⟨e1, ⟨[], e2, rfl⟩, ?_, ?_⟩
          · simp [roNew]
          · simp [roNew, Ne.symm hne]
    rr := rr H.r H.rr
    rfi := rr H.fi H.rfi
    rmo := rr me H.rmo
    rst := rr H.st H.rst
    ren := rr H.en H.ren
    rbe := rr H.be H.rbe
    rch := rr H.ch H.rch
    rfl_ := rr H.fl H.rfl_
    few := by simpa using hfew
    fewf := H.fewf
    hln := fun q hq => by
      have := H.hln q hq
      simp
      omega }
def roCh (ro : Ro) (c q d : Nat) : Ro := fun p => if p = q then (c, 1000000 + d) else ro p
theorem HAt.push (H : HAt s ro c g A ln) {q i r : Nat} (hq : s.length ≤ q) (e : at_ s' q = some (.lst (chnOf g.ads (ln ++ [(i, r)])))) (er : at_ s' g.r = some (.ins "Runs" (runsF { g with ch := q }))) (hag : ∀ p, p < s.length → ro p ≠ (c, 0) → at_ s' p = at_ s p) (hi : i < A.ms.length) :
    HAt s' (roCh ro c q (ln.length + 1)) c { g with ch := q } A (ln ++ [(i, r)]) := by
  have tr : ∀ {p j : Nat} {o : O}, at_ s p = some o → ro p = (c, j) → j ≠ 0 → at_ s' p = some o := fun e r n => (hag _ (at_lt e) (by rw [r]; simpa using n)).trans e
  have rr : ∀ {p j : Nat} {o : O}, at_ s p = some o → ro p = (c, j) → roCh ro c q (ln.length + 1) p = (c, j) := fun e r => by
    have := at_lt e
    unfold roCh
    rw [if_neg (by omega)]
    exact r
  obtain ⟨mk, me, mz⟩ := H.mo
  exact {
    r := er
    fi := tr H.fi H.rfi (by omega)
    fd := fun j f e => ⟨tr (H.fd j f e).1 (H.fd j f e).2 (by omega), rr (H.fd j f e).1 (H.fd j f e).2⟩
    mo := ⟨mk, tr me H.rmo (by omega), mz⟩
    st := tr H.st H.rst (by omega)
    en := tr H.en H.ren (by omega)
    be := tr H.be H.rbe (by omega)
    ch := e
    fl := tr H.fl H.rfl_ (by omega)
    len := H.len
    md := fun i a m ha hm => (fun q => ⟨tr q.m q.rm (by omega), (by obtain ⟨kvs, e, z⟩ := q.t; exact ⟨kvs, tr e q.rt (by omega), z⟩), rr q.m q.rm, (by obtain ⟨kvs, e, z⟩ := q.t; exact rr e q.rt)⟩) (H.md i a m ha hm)
    rr := rr H.r H.rr
    rfi := rr H.fi H.rfi
    rmo := rr me H.rmo
    rst := rr H.st H.rst
    ren := rr H.en H.ren
    rbe := rr H.be H.rbe
    rch := by simp [roCh]
    rfl_ := rr H.fl H.rfl_
    few := H.few
    fewf := H.fewf
    hln := fun x hx => by
      rcases List.mem_append.mp hx with hx | hx
      · exact H.hln x hx
      · rw [List.mem_singleton.mp hx]
        exact hi }
theorem HAt.pop {x : Nat × Nat} {ch0 : Nat} (H : HAt s ro c g A (ln ++ [x])) (e : at_ s ch0 = some (.lst (chnOf g.ads ln))) (r0 : ro ch0 = (c, 1000000 + ln.length)) : HAt (s.set g.r (.ins "Runs" (runsF { g with ch := ch0 }))) ro c { g with ch := ch0 } A ln := by
  have hag := ag_set (s := s) (o := .ins "Runs" (runsF { g with ch := ch0 })) H.rr
  have tr : ∀ {p j : Nat} {o : O}, at_ s p = some o → ro p = (c, j) → j ≠ 0 → at_ (s.set g.r (.ins "Runs" (runsF { g with ch := ch0 }))) p = some o := fun e r n => (hag _ (at_lt e) (by rw [r]; simpa using n)).trans e
  obtain ⟨mk, me, mz⟩ := H.mo
  exact {
    r := at_set_self (at_lt H.r)
    fi := tr H.fi H.rfi (by omega)
    fd := fun j f e => ⟨tr (H.fd j f e).1 (H.fd j f e).2 (by omega), (H.fd j f e).2⟩
    mo := ⟨mk, tr me H.rmo (by omega), mz⟩
    st := tr H.st H.rst (by omega)
    en := tr H.en H.ren (by omega)
    be := tr H.be H.rbe (by omega)
    ch := tr e r0 (by omega)
    fl := tr H.fl H.rfl_ (by omega)
    len := H.len
    md := fun i a m ha hm => (fun q => ⟨tr q.m q.rm (by omega), (by obtain ⟨kvs, e, z⟩ := q.t; exact ⟨kvs, tr e q.rt (by omega), z⟩), q.rm, q.rt⟩) (H.md i a m ha hm)
    rr := H.rr
    rfi := H.rfi
    rmo := H.rmo
    rst := H.rst
    ren := H.ren
    rbe := H.rbe
    rch := r0
    rfl_ := H.rfl_
    few := H.few
    fewf := H.fewf
    hln := fun x hx => H.hln x (List.mem_append.mpr (.inl hx)) }
end
end S3
set_option maxHeartbeats 4000000
/-! Runs: rows are done, bodies run, paths are taken -/
namespace S3
open PySem PySem.Spec PyProof.Rows L2 HM DL S1 S2
structure Bds (ps : List Str) (bd : Str → List D) (fs : List (Nat × List (Key × D))) : Prop where
  few : ps.length ≤ 100
  hb : ∀ q ∈ ps, (∀ r ∈ bd q, RowOk ps r) ∧ (bd q).length ≤ 40
  hf : ∀ q ∈ ps, lookF fs q = some (.tup (bd q))
def Sml (A : AS) : Prop := ∀ (j : Nat) (m : Str × List Str), A.ms[j]? = some m → m.2.length ≤ 40
section
variable {s s' : Sto} {ro ro' : Ro} {c d k : Nat} {g : HG} {A : AS} {ln : Ln} {X : Ex → Sto → Prop} {ps : List Str} {bd : Str → List D} {fs : List (Nat × List (Key × D))}
theorem row_stp (hbd : ∀ q ∈ ps, (∀ r ∈ bd q, RowOk ps r) ∧ (bd q).length ≤ 40) {n i r : Nat} {B : AS} {x : D} {m : Str × List Str} (gB : Good ps B) (hx : RowOk ps x) (hl : i < B.ms.length) (hn2 : ps.length ≤ B.ms.length + n) (e : B.ms[i]? = some m) (hm : m.2.length ≤ r) :
    Stp ps i B (rowA (takeA bd n) i ln r x B) 1 ∧ ∃ m, (rowA (takeA bd n) i ln r x B).ms[i]? = some m ∧ m.2.length ≤ r + 1 := by
  cases hx with
  | set z v =>
    have b := bind_stp (i := i) (z := z) gB
    refine ⟨⟨b.gd, b.gr, Nat.le_trans b.ph (by omega), b.le⟩, _, bindA_at e, ?_⟩
    have := putKey_len (ks := m.2) (z := z)
    simp only
    omega
  | take z q hq =>
    obtain ⟨t, _⟩ := take_stp hbd n (A := B) (ln := ln ++ [(i, r)]) (p := q) (i := B.ms.length) gB hn2 hq (Nat.le_refl _)
    have t' : Stp ps i B (takeA bd n B (ln ++ [(i, r)]) q).1 1 := ⟨t.gd, ⟨t.gr.pre, fun j m _ e => t.gr.old j m (by have := (List.getElem?_eq_some_iff.mp e).1; omega) e, t.gr.new⟩, t.ph, t.le⟩
    have b := bind_stp (i := i) (z := z) t.gd
    have e2 := t.gr.old i m (by omega) e
    refine ⟨t'.trans b hl, _, bindA_at e2, ?_⟩
    have := putKey_len (ks := m.2) (z := z)
    simp only
    omega
  | note q => exact ⟨note_stp gB, m, e, by omega⟩
/-- what a taking leaves -/
def TkQ (bd : Str → List D) (n c : Nat) (s : Sto) (ro : Ro) (g : HG) (A : AS) (ln : Ln) (p : Str) : D → Sto → Prop := fun d s' => ∃ ro' ads', HAt s' ro' c { g with ads := ads' } (takeA bd n A ln p).1 ln ∧ g.ads <+: ads' ∧ Fr c ln.length s ro s' ro' ∧ ∃ a, ads'[(takeA bd n A ln p).2]? = some a ∧ d = .ref a.1
/-- what a row leaves -/
def RwQ (bd : Str → List D) (n c : Nat) (s : Sto) (ro : Ro) (g : HG) (A : AS) (ln : Ln) (i r : Nat) (x : D) : D → Sto → Prop := fun d s' => ∃ ro' ads', HAt s' ro' c { g with ads := ads' } (rowA (takeA bd n) i ln r x A) (ln ++ [(i, r)]) ∧ g.ads <+: ads' ∧ Fr c (ln.length + 1) s ro s' ro'
/-- the taking of paths, n of which may begin -/
def Sim (ps : List Str) (bd : Str → List D) (fs : List (Nat × List (Key × D))) (c n K : Nat) : Prop := ∀ (s : Sto) (ro : Ro) (g : HG) (A : AS) (ln : Ln) (p : Str) (X : Ex → Sto → Prop), ln.length + n ≤ 900 → HAt s ro c g A ln → g.fs = fs → Good ps A → ps.length ≤ A.ms.length + n → p ∈ ps → phi ps A < 50000 → Sml A → (f_Runs_taken K [.ref g.r, .str p] s).wp (TkQ bd n c s ro g A ln p) X
theorem phi_log {A : AS} (h : phi ps A < 50000) : A.log.length < 50000 := by unfold phi at h; omega
theorem do_ok {n K i r : Nat} {x : D} (hbd' : ∀ q ∈ ps, (∀ r ∈ bd q, RowOk ps r) ∧ (bd q).length ≤ 40) (hS : Sim ps bd fs c n K) (H : HAt s ro c g A (ln ++ [(i, r)])) (hfs : g.fs = fs) (hg : Good ps A) (hn : ps.length ≤ A.ms.length + n) (hx : RowOk ps x) (hp : phi ps A < 50000) (hsm : Sml A) (hlb : ln.length + 1 + n ≤ 900) :
    (f_Runs_do (K + 1) [.ref g.r, x] s).wp (RwQ bd n c s ro g A ln i r x) X := by
  have hi : i < A.ms.length := H.hln (i, r) (by simp)
  obtain ⟨ai, hai⟩ : ∃ b, g.ads[i]? = some b := ⟨_, List.getElem?_eq_getElem (by rw [H.len]; exact hi)⟩
  have hmi := List.getElem?_eq_getElem hi
  have q := H.md i ai _ hai hmi
  have hki := hsm i _ hmi
  have n1 : ¬(Str.ofString "take" = Str.ofString "set") := by decide +kernel
  have n2 : ¬(Str.ofString "note" = Str.ofString "set") := by decide +kernel
  have n3 : ¬(Str.ofString "note" = Str.ofString "take") := by decide +kernel
  show (runFn 2 4 (d_Runs_do (f_Runs_taken K)) [.ref g.r, x] s).wp _ _
  unfold d_Runs_do
  cases hx with
  | set z v =>
    simp [H.r]
    refine (running_ok H hai).no ?_
    rintro _ _ ⟨rfl, rfl⟩
    simp [q.m]
    refine (bind_ok H hai hmi (by omega)).no ?_
    rintro d s' ⟨h1, h2⟩
    simp
    exact ⟨ro, g.ads, h1, List.prefix_refl _, by simpa using h2⟩
  | take z p hpp =>
    simp [H.r, n1]
    refine (hS s ro g A (ln ++ [(i, r)]) p _ (by simp; omega) H hfs hg hn hpp hp hsm).mono ?_
    rintro _ s1 ⟨ro1, ads1, H1, pre1, F1, a1, ha1, rfl⟩
    simp
    have H1r : at_ s1 g.r = some (.ins "Runs" (runsF { g with ads := ads1 })) := H1.r
    simp [H1r]
    have hai1 : ads1[i]? = some ai := by
      obtain ⟨t, rfl⟩ := pre1
      rw [List.getElem?_append_left (by rw [H.len]; exact hi)]
      exact hai
    obtain ⟨t, _⟩ := take_stp (bd := bd) (ps := ps) hbd' n (A := A) (ln := ln ++ [(i, r)]) (p := p) (i := A.ms.length) hg hn hpp (Nat.le_refl _)
    have e2 := t.gr.old i _ (by omega) hmi
    have q1 := H1.md i ai _ hai1 e2
    refine (running_ok H1 hai1).no ?_
    rintro _ _ ⟨rfl, rfl⟩
    simp [q1.m]
    refine (bind_ok H1 hai1 e2 (by omega)).no ?_
    rintro d s' ⟨h1, h2⟩
    simp
    exact ⟨ro1, ads1, h1, pre1, by simpa using F1.trans h2⟩
  | note p =>
    simp [H.r, n2, n3]
    refine (note_ok H (fun m hm => ?_) (by have := phi_log hp; omega)).no ?_
    · obtain ⟨j, hj⟩ := List.mem_iff_getElem?.mp hm
      have := hsm j m hj
      omega
    rintro d s' ⟨h1, h2⟩
    simp
    exact ⟨ro, g.ads, h1, List.prefix_refl _, by simpa using h2⟩
end
end S3
set_option maxHeartbeats 4000000
/-! Runs: bodies run, modules begin, paths are taken -/
namespace S3
open PySem PySem.Spec PyProof.Rows L2 HM DL S1 S2
def enumF : Nat → List D → List D
  | _, [] => []
  | r, x :: xs => .tup [.int (r : Nat), x] :: enumF (r + 1) xs
theorem enumF_eq : ∀ (xs : List D) (r : Nat), (List.range' r xs.length).zipWith (fun i x => D.tup [.int (i : Nat), x]) xs = enumF r xs
  | [], _ => rfl
  | x :: xs, r => by
    rw [List.length_cons, List.range'_succ, List.zipWith_cons_cons, enumF_eq xs (r + 1)]
    rfl
theorem enumD_eq (xs : List D) : enumD xs = enumF 0 xs := by
  rw [← enumF_eq]
  unfold enumD
  rw [List.range_eq_range']
section
variable {s s' : Sto} {ro ro' : Ro} {c d k : Nat} {g : HG} {A : AS} {ln : Ln} {X : Ex → Sto → Prop} {ps : List Str} {bd : Str → List D} {fs : List (Nat × List (Key × D))}
theorem do_row_ok {n K i r : Nat} {x : D} (hbd : ∀ q ∈ ps, (∀ r ∈ bd q, RowOk ps r) ∧ (bd q).length ≤ 40) (hS : Sim ps bd fs c n K) (H : HAt s ro c g A (ln ++ [(i, r)])) (hfs : g.fs = fs) (hg : Good ps A) (hn : ps.length ≤ A.ms.length + n) (hx : RowOk ps x) (hp : phi ps A < 50000) (hsm : Sml A) (hlb : ln.length + 1 + n ≤ 900) :
    (f_Runs_do_row (K + 2) [.ref g.r, x] s).wp (RwQ bd n c s ro g A ln i r x) X := by
  show (runFn 2 3 (d_Runs_do_row (f_Runs_do (K + 1))) [.ref g.r, x] s).wp _ _
  unfold d_Runs_do_row
  simp [H.r]
  refine (do_ok hbd hS H hfs hg hn hx hp hsm hlb).no ?_
  intro d s' h
  simp
  exact h
theorem oAdd_lst {i j : Nat} {xs ys : List D} (h1 : at_ s i = some (.lst xs)) (h2 : at_ s j = some (.lst ys)) (hl : xs.length + ys.length ≤ 1000000) : oAdd (.ref i) (.ref j) s = some (.ref s.length, s ++ [.lst (xs ++ ys)]) := by
  have h1' : s[i]? = some (.lst xs) := h1
  have h2' : s[j]? = some (.lst ys) := h2
  have : xs.length + ys.length ≤ sizeLine := Nat.le_trans hl (by decide)
  simp [oAdd, wrL, h1', h2', this]
theorem chn_len {ads : List (Nat × Nat)} {ln : Ln} : (chnOf ads ln).length = ln.length := by simp [chnOf]
theorem Sml.step {i kk : Nat} {A A' : AS} (h : Sml A) (o : Stp ps i A A' kk) {m : Str × List Str} (e : A'.ms[i]? = some m) (hm : m.2.length ≤ 40) : Sml A' := fun j m' e' => by
  by_cases hj : j = i
  · subst hj
    rw [e] at e'
    cases e'
    exact hm
  · by_cases hl : j < A.ms.length
    · have e1 := List.getElem?_eq_getElem hl
      have e2 := o.gr.old j _ hj e1
      rw [e'] at e2
      cases e2
      exact h j _ e1
    · exact o.gr.new j m' (by omega) e'
/-- a body runs -/
theorem run_ok {n K : Nat} {p : Str} {a : Nat × Nat} (hB : Bds ps bd fs) (hS : Sim ps bd fs c n K) (H : HAt s ro c g { A with ms := A.ms ++ [(p, [])] } ln) (hfs : g.fs = fs) (hg : Good ps A) (hf : fnd A.ms p = none) (hn : ps.length ≤ A.ms.length + (n + 1)) (hpp : p ∈ ps) (hp : phi ps A < 50000) (hsm : Sml A) (ha : g.ads[A.ms.length]? = some a) (hln : ln.length + (n + 1) ≤ 900) :
    (f_Runs_run (K + 3) [.ref g.r, .str "begin", .ref a.1, .tup (bd p)] s).wp (fun d s' => ∃ ro' ads', HAt s' ro' c { g with ads := ads' } (takeA bd (n + 1) A ln p).1 ln ∧ g.ads <+: ads' ∧ Fr c ln.length s ro s' ro') X := by
  have hm0 : (A.ms ++ [(p, ([] : List Str))])[A.ms.length]? = some (p, []) := by simp
  have q := H.md A.ms.length a _ ha hm0
  have hpap := hg.pp
  have hfew := hg.few
  have hBf := hB.few
  have hlog := phi_log hp
  rw [takeA_new hf]
  show (runFn 4 8 (d_Runs_run (f_Runs_do_row (K + 2))) [.ref g.r, .str "begin", .ref a.1, .tup (bd p)] s).wp _ _
  unfold d_Runs_run
  have hlg : at_ s g.en = some (.lst A.log) := H.en
  simp [H.r, hlg, q.m, oAppend_ok hlg (by omega : A.log.length < 1000000)]
  have H1 := H.log (l := A.log ++ [.tup [.str "begin", .int ((A.ms.length : Nat) + 1 : Int), .str p]]) (at_set_self (s := s) (o := .lst (A.log ++ [.tup [.str "begin", .int ((A.ms.length : Nat) + 1 : Int), .str p]])) (at_lt hlg)) (ag_set H.ren)
  have F1 := Fr.set (c := c) (d := ln.length) (s := s) (ro := ro) (o := .lst (A.log ++ [.tup [.str "begin", .int ((A.ms.length : Nat) + 1 : Int), .str p]])) H.ren (by omega)
  obtain ⟨s1, hs1⟩ : ∃ s1, s.set g.en (.lst (A.log ++ [.tup [.str "begin", .int ((A.ms.length : Nat) + 1 : Int), .str p]])) = s1 := ⟨_, rfl⟩
  rw [hs1] at H1 F1
  rw [hs1]
  simp [H1.r]
  refine (write_ok H1 ha hm0 (by simp only; omega)).no ?_
  rintro _ s2 ⟨H2, F2⟩
  have F2 := F1.trans F2
  clear F1
  simp
  have H2' : HAt s2 ro c g (beginA A p ln) ln := H2
  clear H2 H1 hs1
  have q2 := H2'.md A.ms.length a (p, []) ha (by simp [beginA])
  have hch := H2'.ch
  simp [H2'.r]
  have hlt : g.r < s2.length := at_lt H2'.r
  have hltc : g.ch < s2.length := at_lt hch
  have e1 : at_ (s2 ++ [.lst [.tup [.ref a.1, .int 0]]]) g.ch = some (.lst (chnOf g.ads ln)) := by rw [at_app_l hltc]; exact hch
  have e2 : at_ (s2 ++ [.lst [.tup [.ref a.1, .int 0]]]) s2.length = some (.lst [.tup [.ref a.1, .int 0]]) := at_app_len
  simp [oAdd_lst e1 e2 (by rw [chn_len]; simp; omega)]
  have e3 : at_ (s2 ++ [.lst [.tup [.ref a.1, .int 0]], .lst (chnOf g.ads ln ++ [.tup [.ref a.1, .int 0]])]) g.r = some (.ins "Runs" (runsF g)) := by rw [at_app_l hlt]; exact H2'.r
  simp [e3, runsF_len, set_app_l hlt]
  obtain ⟨s3, hs3⟩ : ∃ s3, s2.set g.r (.ins "Runs" (runsF { g with ch := s2.length + 1 })) ++ [.lst [.tup [.ref a.1, .int 0]], .lst (chnOf g.ads ln ++ [.tup [.ref a.1, .int 0]])] = s3 := ⟨_, rfl⟩
  have hl2 : (s2.set g.r (.ins "Runs" (runsF { g with ch := s2.length + 1 }))).length = s2.length := by simp
  have H3 : HAt s3 (roCh ro c (s2.length + 1) (ln.length + 1)) c { g with ch := s2.length + 1 } (beginA A p ln) (ln ++ [(A.ms.length, 0)]) := by
    refine H2'.push (by omega) ?_ ?_ (fun y hy hne => ?_) (by simp [beginA])
    · rw [chn_last ha, ← hs3]
      have := at_app_len1 (s := s2.set g.r (.ins "Runs" (runsF { g with ch := s2.length + 1 }))) (t := []) (o := .lst [.tup [.ref a.1, .int 0]]) (o' := .lst (chnOf g.ads ln ++ [.tup [.ref a.1, .int 0]]))
      rw [hl2] at this
      exact this
    · rw [← hs3, at_app_l (by rw [hl2]; exact hlt)]
      exact at_set_self hlt
    · rw [← hs3, at_app_l (by rw [hl2]; exact hy)]
      exact at_set_ne fun z => hne (by rw [← z]; exact H2'.rr)
  have F3 : Fr c ln.length s2 ro s3 (roCh ro c (s2.length + 1) (ln.length + 1)) := by
    refine ⟨by rw [← hs3]; simp, fun y hy => ?_, fun y hy hne => ?_⟩
    · unfold roCh
      rw [if_neg (by omega)]
    · rw [← hs3, at_app_l (by rw [hl2]; exact hy)]
      exact at_set_ne fun z => hne (by rw [← z, H2'.rr]; exact ⟨rfl, .inl (by omega)⟩)
  have hc3 : at_ s3 g.ch = some (.lst (chnOf g.ads ln)) := by
    rw [← hs3, at_app_l (by rw [hl2]; exact hltc), at_set_ne (ne_ro H2'.rr H2'.rch (by simp; omega))]
    exact hch
  have rc3 : roCh ro c (s2.length + 1) (ln.length + 1) g.ch = (c, 1000000 + ln.length) := by
    unfold roCh
    rw [if_neg (by omega)]
    exact H2'.rch
  rw [hs3]
  have F := F2.trans F3
  clear F2 F3
  generalize roCh ro c (s2.length + 1) (ln.length + 1) = ro3 at H3 F rc3
  rw [enumD_eq]
  have hb := hB.hb p hpp
  have gB := hg.begin (ln := ln) hpp hf
  have bl : (beginA A p ln).ms.length = A.ms.length + 1 := by simp [beginA]
  have phB : phi ps (beginA A p ln) + 41 ≤ phi ps A := by
    have := hg.more hpp hf
    have : (beginA A p ln).log.length = A.log.length + 1 := by simp [beginA]
    simp only [phi, bl, this]
    omega
  have sB : Sml (beginA A p ln) := fun j m e => by
    rcases getElem?_snoc e with ⟨_, e⟩ | ⟨_, rfl⟩
    · exact hsm j m e
    · simp
  refine forL_inv (fun rest env s' => ∃ (r r0 : Nat) (xs : List D) (ro' : Ro) (ads' : List (Nat × Nat)) (B : AS) (z1 z2 : Option D), rest = enumF r xs ∧ env = [some (.ref g.r), some (.str "begin"), some (.ref a.1), some (.tup (bd p)), some (.ref g.ch), z1, z2, none] ∧ HAt s' ro' c { g with ch := s2.length + 1, ads := ads' } B (ln ++ [(A.ms.length, r0)]) ∧ g.ads <+: ads' ∧ Fr c (ln.length + 1) s3 ro3 s' ro' ∧
      rowsA (takeA bd n) A.ms.length ln r xs B = rowsA (takeA bd n) A.ms.length ln 0 (bd p) (beginA A p ln) ∧ (∀ x ∈ xs, RowOk ps x) ∧ Good ps B ∧ A.ms.length < B.ms.length ∧ phi ps B + 41 ≤ phi ps A + r ∧ r + xs.length = (bd p).length ∧ Sml B ∧ ∃ m, B.ms[A.ms.length]? = some m ∧ m.2.length ≤ r)
    ⟨0, 0, bd p, ro3, g.ads, beginA A p ln, none, none, rfl, rfl, H3, List.prefix_refl _, Fr.refl _ _ _ _, rfl, hb.1, gB, by omega, by omega, by omega, sB, (p, []), by simp [beginA], by simp⟩ (fun _ _ _ _ => trivial) ?_ ?_
  · rintro x rest env s' ⟨r, r0, xs, ro', ads', B, z1, z2, e0, rfl, HB, pre, FB, eB, hxs, gdB, lB, phB', rl, sB', m, em, hm⟩
    cases xs with
    | nil => cases e0
    | cons x xs =>
      simp only [enumF, List.cons.injEq] at e0
      obtain ⟨rfl, rfl⟩ := e0
      refine ⟨[some (.ref g.r), some (.str "begin"), some (.ref a.1), some (.tup (bd p)), some (.ref g.ch), some (.int (r : Nat)), some x, none], rfl, ?_⟩
      have hai : ads'[A.ms.length]? = some a := by
        obtain ⟨t, rfl⟩ := pre
        rw [List.getElem?_append_left (List.getElem?_eq_some_iff.mp ha).1]
        exact ha
      have hr' : at_ s' g.r = some (.ins "Runs" (runsF { g with ch := s2.length + 1, ads := ads' })) := HB.r
      have hc' : at_ s' (s2.length + 1) = some (.lst (chnOf ads' ln ++ [.tup [.ref a.1, .int (r0 : Nat)]])) := by
        have := HB.ch
        rw [chn_last hai] at this
        exact this
      have ixl : ixN (chnOf ads' ln ++ [D.tup [.ref a.1, .int (r0 : Nat)]]).length (-1) = some (chnOf ads' ln).length := by
        rw [ixN_last (by simp)]
        simp
      simp [hr', hc']
      rw [show ((chnOf ads' ln).length + 1) = (chnOf ads' ln ++ [D.tup [.ref a.1, .int (r0 : Nat)]]).length by simp, ixl]
      simp
      have ec : chnOf ads' (ln ++ [(A.ms.length, r)]) = chnOf ads' ln ++ [.tup [.ref a.1, .int (r : Nat)]] := chn_last hai
      have HC : HAt (s'.set (s2.length + 1) (.lst (chnOf ads' ln ++ [.tup [.ref a.1, .int (r : Nat)]]))) ro' c { g with ch := s2.length + 1, ads := ads' } B (ln ++ [(A.ms.length, r)]) := by
        have h0 := HB.rch
        refine HB.chain (l := ln ++ [(A.ms.length, r)]) ?_ (by simp) (fun y hy => ?_) (ag_set h0)
        · show at_ _ (s2.length + 1) = _
          rw [ec]
          exact at_set_self (at_lt hc')
        · rcases List.mem_append.mp hy with hy | hy
          · exact HB.hln y (List.mem_append.mpr (.inl hy))
          · rw [List.mem_singleton.mp hy]
            exact lB
      have FC : Fr c (ln.length + 1) s' ro' (s'.set (s2.length + 1) (.lst (chnOf ads' ln ++ [.tup [.ref a.1, .int (r : Nat)]]))) ro' := Fr.set HB.rch (by simp)
      have rlt : r < 40 := by have := hb.2; rw [List.length_cons] at rl; omega
      have hset : (chnOf ads' ln ++ [D.tup [.ref a.1, .int (r0 : Nat)]]).set (chnOf ads' ln).length (.tup [.ref a.1, .int (r : Nat)]) = chnOf ads' ln ++ [.tup [.ref a.1, .int (r : Nat)]] := by simp
      have hrC : at_ (s'.set (s2.length + 1) (.lst (chnOf ads' ln ++ [.tup [.ref a.1, .int (r : Nat)]]))) g.r = some (.ins "Runs" (runsF { g with ch := s2.length + 1, ads := ads' })) := HC.r
      simp [hrC]
      refine (do_row_ok hB.hb hS HC hfs gdB (by omega) (hxs x List.mem_cons_self) (by omega) sB' (by omega)).no ?_
      rintro _ s'' ⟨ro'', ads'', HD, preD, FD⟩
      obtain ⟨o1, m1, em1, hm1⟩ := row_stp (ln := ln) hB.hb (n := n) gdB (hxs x List.mem_cons_self) lB (by omega) em hm
      have ol := o1.le
      have oph := o1.ph
      simp
      exact ⟨r + 1, r, xs, rfl, ro'', ads'', _, HD, pre.trans preD, (FB.trans FC).trans FD, eB, fun y hy => hxs y (List.mem_cons_of_mem _ hy), o1.gd, by omega, by omega, by rw [List.length_cons] at rl; omega, sB'.step o1 em1 (by omega), m1.1, m1.2, em1, hm1⟩
  · rintro env s' ⟨r, r0, xs, ro', ads', B, z1, z2, e0, rfl, HB, pre, FB, eB, hxs, gdB, lB, phB', rl, sB', m, em, hm⟩
    have hxs0 : xs = [] := by
      cases xs with
      | nil => rfl
      | cons _ _ => cases e0
    subst hxs0
    have eB' : B = rowsA (takeA bd n) A.ms.length ln 0 (bd p) (beginA A p ln) := eB
    have hai : ads'[A.ms.length]? = some a := by
      obtain ⟨t, rfl⟩ := pre
      rw [List.getElem?_append_left (List.getElem?_eq_some_iff.mp ha).1]
      exact ha
    have hr' : at_ s' g.r = some (.ins "Runs" (runsF { g with ch := s2.length + 1, ads := ads' })) := HB.r
    have hlq : ∀ q ∈ ln, q.1 < g.ads.length := fun q hq => by
      have h1 := H2'.hln q hq
      have h2 := H2'.len
      omega
    have hc4 : at_ s' g.ch = some (.lst (chnOf ads' ln)) := by
      rw [chn_pre pre hlq, FB.at_ g.ch (at_lt hc3) (by rw [rc3]; rintro ⟨_, z | z⟩ <;> omega)]
      exact hc3
    have rc4 : ro' g.ch = (c, 1000000 + ln.length) := by
      rw [FB.rq g.ch (at_lt hc3)]
      exact rc3
    have HP := HB.pop hc4 rc4
    have FP : Fr c ln.length s' ro' (s'.set g.r (.ins "Runs" (runsF { g with ads := ads' }))) ro' := Fr.set HB.rr (by omega)
    simp [hr', runsF_len]
    have HP' : HAt (s'.set g.r (.ins "Runs" (runsF { g with ads := ads' }))) ro' c { g with ads := ads' } B ln := HP
    have qe := HP'.md A.ms.length a m hai em
    have hen : at_ (s'.set g.r (.ins "Runs" (runsF { g with ads := ads' }))) g.en = some (.lst B.log) := HP'.en
    have hr2 : at_ (s'.set g.r (.ins "Runs" (runsF { g with ads := ads' }))) g.r = some (.ins "Runs" (runsF { g with ads := ads' })) := HP'.r
    have hbl : B.log.length < 1000000 := by
      have := hb.2
      simp only [phi] at phB' hp
      simp at rl
      omega
    simp [hr2, hen, qe.m, oAppend_ok hen hbl]
    rw [← eB']
    exact ⟨ro', ads', HP'.log (at_set_self (at_lt hen)) (ag_set HP'.ren), pre, (F.trans (FB.less.trans FP)).trans (Fr.set HP'.ren (by omega))⟩
end
end S3
set_option maxHeartbeats 4000000
/-! Runs: modules begin, paths are taken -/
namespace S3
open PySem PySem.Spec PyProof.Rows L2 HM DL S1 S2
section
variable {s s' : Sto} {ro ro' : Ro} {c d k : Nat} {g : HG} {A : AS} {ln : Ln} {X : Ex → Sto → Prop} {ps : List Str} {bd : Str → List D} {fs : List (Nat × List (Key × D))}
theorem put_new {kvs : List (Key × D)} {k : Key} {v : D} (h : k ∉ kvs.map (·.1)) : putD kvs k v = kvs ++ [(k, v)] := by
  unfold putD
  rw [if_neg fun z => h (val_isSome.mp z)]
theorem std_keys {ms : List (Str × List Str)} {ads : List (Nat × Nat)} (h : ads.length = ms.length) : (stdD ms ads).map (·.1) = ms.map fun m => Sum.inr m.1 := by
  unfold stdD
  apply List.ext_getElem?
  intro j
  rw [List.getElem?_map, List.getElem?_map, List.getElem?_zipWith]
  cases e : ms[j]? with
  | none => rfl
  | some m =>
    have : j < ads.length := by rw [h]; exact (List.getElem?_eq_some_iff.mp e).1
    rw [List.getElem?_eq_getElem this]
    rfl
theorem std_snoc {ms : List (Str × List Str)} {ads : List (Nat × Nat)} {m : Str × List Str} {a : Nat × Nat} (h : ads.length = ms.length) : stdD (ms ++ [m]) (ads ++ [a]) = stdD ms ads ++ [(.inr m.1, .ref a.1)] := by
  unfold stdD
  rw [List.zipWith_append h.symm]
  rfl
theorem begin_ok {n K : Nat} {p : Str} (hB : Bds ps bd fs) (hS : Sim ps bd fs c n K) (H : HAt s ro c g A ln) (hfs : g.fs = fs) (hg : Good ps A) (hf : fnd A.ms p = none) (hn : ps.length ≤ A.ms.length + (n + 1)) (hpp : p ∈ ps) (hp : phi ps A < 50000) (hsm : Sml A) (hln : ln.length + (n + 1) ≤ 900) :
    (f_Runs_begin (K + 4) [.ref g.r, .str p, .tup (bd p)] s).wp (TkQ bd (n + 1) c s ro g A ln p) X := by
  obtain ⟨kvs, hmo, hkv⟩ := H.mo
  have hfew := hg.few
  have hBf := hB.few
  have hmore := hg.more hpp hf
  have hl : kvs.length = A.ms.length := by
    have := congrArg List.length hkv
    simpa using this
  show (runFn 3 5 (d_Runs_begin (f_Runs_run (K + 3))) [.ref g.r, .str p, .tup (bd p)] s).wp _ _
  unfold d_Runs_begin
  simp [H.r, hmo]
  refine minit_ok.no ?_
  rintro _ _ ⟨rfl, rfl⟩
  rw [hl]
  simp
  obtain ⟨sN, hsN⟩ : ∃ sN, s ++ [.ins "Module" (modF ((A.ms.length : Nat) + 1 : Int) p (s.length + 1)), .dct []] = sN := ⟨_, rfl⟩
  have pre : s <+: sN := by rw [← hsN]; exact pre_app _ _
  have HN := H.pre pre
  have eM : at_ sN s.length = some (.ins "Module" (modF ((A.ms.length : Nat) + 1 : Int) p (s.length + 1))) := by rw [← hsN]; exact at_app_len
  have eT : at_ sN (s.length + 1) = some (.dct []) := by rw [← hsN]; exact at_app_len1
  have eMo : at_ sN g.mo = some (.dct kvs) := at_pre pre hmo
  have hslN : s.length + 2 = sN.length := by rw [← hsN]; simp
  rw [hsN]
  simp [HN.r, eM, eMo, setK_dct eMo (y := .int ((A.ms.length : Nat) + 1 : Int)) rfl (by omega : kvs.length < 1000000)]
  obtain ⟨kvs', hkv'⟩ : ∃ kvs', putD kvs (.inl ((A.ms.length : Nat) + 1 : Int)) (.ref s.length) = kvs' := ⟨_, rfl⟩
  have keys' : kvs'.map (·.1) = (List.range (A.ms.length + 1)).map fun i : Nat => Sum.inl ((i : Int) + 1) := by
    rw [← hkv', put_new (by
      rw [hkv]
      intro z
      obtain ⟨j, hj, e⟩ := List.mem_map.mp z
      have hj := List.mem_range.mp hj
      have e := Sum.inl.inj e
      omega), List.map_append, hkv, List.range_succ, List.map_append]
    rfl
  rw [hkv']
  have nmo : g.mo ≠ g.st := ne_ro H.rmo H.rst (by simp)
  have nr : g.mo ≠ g.r := ne_ro H.rmo H.rr (by simp)
  have nsr : g.st ≠ g.r := ne_ro H.rst H.rr (by simp)
  have er2 : at_ (sN.set g.mo (.dct kvs')) g.r = some (.ins "Runs" (runsF g)) := by rw [at_set_ne nr]; exact HN.r
  have es2 : at_ (sN.set g.mo (.dct kvs')) g.st = some (.dct (stdD A.ms g.ads)) := by rw [at_set_ne nmo]; exact HN.st
  have hsl : (stdD A.ms g.ads).length < 1000000 := by
    unfold stdD
    rw [List.length_zipWith]
    omega
  simp [er2, es2, setK_dct es2 (y := .str p) rfl hsl]
  have hst : putD (stdD A.ms g.ads) (.inr p) (.ref s.length) = stdD (A.ms ++ [(p, [])]) (g.ads ++ [(s.length, s.length + 1)]) := by
    rw [std_snoc H.len, put_new]
    rw [std_keys H.len]
    intro z
    obtain ⟨m, hm, e⟩ := List.mem_map.mp z
    exact fnd_none hf (List.mem_map.mpr ⟨m, hm, Sum.inr.inj e⟩)
  rw [hst]
  obtain ⟨s4, hs4⟩ : ∃ s4, (sN.set g.mo (.dct kvs')).set g.st (.dct (stdD (A.ms ++ [(p, [])]) (g.ads ++ [(s.length, s.length + 1)]))) = s4 := ⟨_, rfl⟩
  rw [hs4]
  have lmo := at_lt hmo
  have lst := at_lt H.st
  have far : ∀ q, q < sN.length → q ≠ g.mo → q ≠ g.st → at_ s4 q = at_ sN q := fun q _ h1 h2 => by
    rw [← hs4, at_set_ne (Ne.symm h2), at_set_ne (Ne.symm h1)]
  have lN : s.length ≤ sN.length := by omega
  have H4 : HAt s4 (roNew ro c A.ms.length s.length (s.length + 1)) c { g with ads := g.ads ++ [(s.length, s.length + 1)] } { A with ms := A.ms ++ [(p, [])] } ln := by
    refine H.newmod (kvs := kvs') (Nat.le_refl _) (by omega) (by omega) ?_ ?_ ?_ keys' ?_ (fun q hq h1 h2 => ?_) (by omega)
    · rw [far _ (by omega) (by omega) (by omega)]
      exact eM
    · rw [far _ (by omega) (by omega) (by omega)]
      exact eT
    · rw [← hs4, at_set_ne (Ne.symm nmo)]
      exact at_set_self (by omega)
    · rw [← hs4]
      exact at_set_self (by simp; omega)
    · have n1 : q ≠ g.mo := fun z => h1 (by rw [z]; exact H.rmo)
      have n2 : q ≠ g.st := fun z => h2 (by rw [z]; exact H.rst)
      rw [far q (by omega) n1 n2, ← hsN]
      exact at_app_l hq
  have F4 : Fr c ln.length s ro s4 (roNew ro c A.ms.length s.length (s.length + 1)) := by
    refine ⟨by rw [← hs4]; simp; omega, fun q hq => ?_, fun q hq hT => ?_⟩
    · unfold roNew
      rw [if_neg (by omega), if_neg (by omega)]
    · have n1 : q ≠ g.mo := fun z => hT (by rw [z, H.rmo]; exact ⟨rfl, .inl (by omega)⟩)
      have n2 : q ≠ g.st := fun z => hT (by rw [z, H.rst]; exact ⟨rfl, .inl (by omega)⟩)
      rw [far q (by omega) n1 n2, ← hsN]
      exact at_app_l hq
  have ha : (g.ads ++ [(s.length, s.length + 1)])[A.ms.length]? = some (s.length, s.length + 1) := by
    rw [← H.len]
    simp
  have hr4 : at_ s4 g.r = some (.ins "Runs" (runsF { g with ads := g.ads ++ [(s.length, s.length + 1)] })) := H4.r
  simp [hr4]
  refine (run_ok (a := (s.length, s.length + 1)) hB hS H4 hfs hg hf hn hpp hp hsm ha hln).no ?_
  rintro _ s5 ⟨ro5, ads5, H5, pre5, F5⟩
  simp
  refine ⟨ro5, ads5, H5, (List.prefix_append _ _).trans pre5, F4.trans F5, (s.length, s.length + 1), ?_, rfl⟩
  rw [takeA_new hf]
  obtain ⟨t, rfl⟩ := pre5
  show (g.ads ++ [(s.length, s.length + 1)] ++ t)[A.ms.length]? = _
  rw [List.getElem?_append_left (by rw [List.length_append, H.len]; simp)]
  exact ha
theorem alone_ok {n K : Nat} {p : Str} (hB : Bds ps bd fs) (hnx : fnd A.ms p = none → (f_Runs_begin K [.ref g.r, .str p, .tup (bd p)] s).wp (TkQ bd n c s ro g A ln p) X) (H : HAt s ro c g A ln) (hfs : g.fs = fs) (hpp : p ∈ ps) (hp : phi ps A < 50000) :
    (f_Runs_taken_alone (K + 1) [.ref g.r, .str p] s).wp (TkQ bd n c s ro g A ln p) X := by
  show (runFn 2 6 (d_Runs_taken_alone (f_Runs_begin K)) [.ref g.r, .str p] s).wp _ _
  unfold d_Runs_taken_alone
  rcases std_val (p := p) H.len with ⟨h1, h2⟩ | ⟨j, a, m, h1, h2, h3, h4, h5⟩
  · have hv : valD ([] : List (Key × D)) (.inr p) = none := rfl
    simp [H.r, H.st, h2, H.fl, hv]
    refine (body_at_ok H).no ?_
    rintro _ _ ⟨rfl, rfl⟩
    rw [hfs, hB.hf p hpp]
    simp [H.r]
    exact hnx h1
  · have q := H.md j a m h2 h1
    simp [H.r, H.st, h5, q.m, H.en, oAppend_ok H.en (by have := phi_log hp; omega : A.log.length < 1000000)]
    rw [show TkQ bd n c s ro g A ln p = _ from rfl]
    unfold TkQ
    rw [takeA_have h4]
    exact ⟨ro, g.ads, H.log (at_set_self (at_lt H.en)) (ag_set H.ren), List.prefix_refl _, Fr.set H.ren (by omega), a, h2, rfl⟩
theorem taken_ok (hB : Bds ps bd fs) : ∀ (n K : Nat), 6 * n + 2 ≤ K → Sim ps bd fs c n K := by
  intro n
  induction n with
  | zero =>
    intro K hK s ro g A ln p X hlb H hfs hg hn hpp hp hsm
    obtain ⟨K', rfl⟩ : ∃ K', K = K' + 2 := ⟨K - 2, by omega⟩
    show (runFn 2 2 (d_Runs_taken (f_Runs_taken_alone (K' + 1))) [.ref g.r, .str p] s).wp _ _
    unfold d_Runs_taken
    simp [H.r]
    exact alone_ok hB (fun z => by have := hg.more hpp z; omega) H hfs hpp hp
  | succ n ih =>
    intro K hK s ro g A ln p X hlb H hfs hg hn hpp hp hsm
    obtain ⟨K', rfl⟩ : ∃ K', K = K' + 6 := ⟨K - 6, by omega⟩
    show (runFn 2 2 (d_Runs_taken (f_Runs_taken_alone (K' + 5))) [.ref g.r, .str p] s).wp _ _
    unfold d_Runs_taken
    simp [H.r]
    exact alone_ok hB (fun z => begin_ok hB (ih K' (by omega)) H hfs hg z (by omega) hpp hp hsm hlb) H hfs hpp hp
def roFl (ro : Ro) (c q : Nat) : Ro := fun p => if p = q then (c, 7) else ro p
theorem HAt.newfl (H : HAt s ro c g A ln) {q : Nat} (hq : s.length ≤ q) (e : at_ s' q = some (.dct [])) (er : at_ s' g.r = some (.ins "Runs" (runsF { g with fl := q }))) (hag : ∀ p, p < s.length → ro p ≠ (c, 0) → at_ s' p = at_ s p) : HAt s' (roFl ro c q) c { g with fl := q } A ln := by
  have tr : ∀ {p j : Nat} {o : O}, at_ s p = some o → ro p = (c, j) → j ≠ 0 → at_ s' p = some o := fun e r n => (hag _ (at_lt e) (by rw [r]; simpa using n)).trans e
  have rr : ∀ {p j : Nat} {o : O}, at_ s p = some o → ro p = (c, j) → roFl ro c q p = (c, j) := fun e r => by
    have := at_lt e
    unfold roFl
    rw [if_neg (by omega)]
    exact r
  obtain ⟨mk, me, mz⟩ := H.mo
  exact {
    r := er
    fi := tr H.fi H.rfi (by omega)
    fd := fun j f e => ⟨tr (H.fd j f e).1 (H.fd j f e).2 (by omega), rr (H.fd j f e).1 (H.fd j f e).2⟩
    mo := ⟨mk, tr me H.rmo (by omega), mz⟩
    st := tr H.st H.rst (by omega)
    en := tr H.en H.ren (by omega)
    be := tr H.be H.rbe (by omega)
    ch := tr H.ch H.rch (by omega)
    fl := e
    len := H.len
    md := fun i a m ha hm => (fun q => ⟨tr q.m q.rm (by omega), (by obtain ⟨kvs, e, z⟩ := q.t; exact ⟨kvs, tr e q.rt (by omega), z⟩), rr q.m q.rm, (by obtain ⟨kvs, e, z⟩ := q.t; exact rr e q.rt)⟩) (H.md i a m ha hm)
    rr := rr H.r H.rr
    rfi := rr H.fi H.rfi
    rmo := rr me H.rmo
    rst := rr H.st H.rst
    ren := rr H.en H.ren
    rbe := rr H.be H.rbe
    rch := rr H.ch H.rch
    rfl_ := by simp [roFl]
    few := H.few
    fewf := H.fewf
    hln := H.hln }
/-- a taking from outside -/
theorem take_ok {n : Nat} {p : Str} (hB : Bds ps bd fs) (hn8 : n ≤ 9) (H : HAt s ro c g A []) (hfs : g.fs = fs) (hg : Good ps A) (hn : ps.length ≤ A.ms.length + n) (hpp : p ∈ ps) (hp : phi ps A < 50000) (hsm : Sml A) (hpath : pathB p = true) (hpl : p.length ≤ 1000) :
    (f_Runs_take [.ref g.r, .str p] s).wp (fun d s' => ∃ ro' g', g'.r = g.r ∧ g'.fs = g.fs ∧ HAt s' ro' c g' (takeA bd n A [] p).1 [] ∧ Fr c 0 s ro s' ro' ∧ d = .int (((takeA bd n A [] p).2 : Nat) + 1 : Int)) X := by
  unfold f_Runs_take d_Runs_take
  simp
  unfold f_check_path d_check_path
  simp
  refine (path_yes hpath hpl).no ?_
  rintro _ s1 ⟨rfl, pre⟩
  have H1 := H.pre pre
  have hlt := at_lt H1.r
  have e1 : at_ (s1 ++ [.dct []]) g.r = some (.ins "Runs" (runsF g)) := by rw [at_app_l hlt]; exact H1.r
  simp [e1, runsF_len, set_app_l hlt]
  obtain ⟨s2, hs2⟩ : ∃ s2, s1.set g.r (.ins "Runs" (runsF { g with fl := s1.length })) ++ [.dct []] = s2 := ⟨_, rfl⟩
  have hl2 : (s1.set g.r (.ins "Runs" (runsF { g with fl := s1.length }))).length = s1.length := by simp
  have H2 : HAt s2 (roFl ro c s1.length) c { g with fl := s1.length } A [] := by
    refine H1.newfl (Nat.le_refl _) ?_ ?_ fun y hy hne => ?_
    · have := at_app_len (s := s1.set g.r (.ins "Runs" (runsF { g with fl := s1.length }))) (t := []) (o := .dct [])
      rw [hl2] at this
      rw [← hs2]
      exact this
    · rw [← hs2, at_app_l (by rw [hl2]; exact hlt)]
      exact at_set_self hlt
    · rw [← hs2, at_app_l (by rw [hl2]; exact hy)]
      exact at_set_ne fun z => hne (by rw [← z]; exact H1.rr)
  have F2 : Fr c 0 s1 ro s2 (roFl ro c s1.length) := by
    refine ⟨by rw [← hs2]; simp, fun y hy => ?_, fun y hy hne => ?_⟩
    · unfold roFl
      rw [if_neg (by omega)]
    · rw [← hs2, at_app_l (by rw [hl2]; exact hy)]
      exact at_set_ne fun z => hne (by rw [← z, H1.rr]; exact ⟨rfl, .inl (by omega)⟩)
  rw [hs2]
  have hr2 : at_ s2 g.r = some (.ins "Runs" (runsF { g with fl := s1.length })) := H2.r
  simp [hr2]
  refine (taken_ok hB n 60 (by omega) s2 _ { g with fl := s1.length } A [] p _ (by simp; omega) H2 hfs hg hn hpp hp hsm).mono ?_
  rintro _ s3 ⟨ro3, ads3, H3, pre3, F3, a, ha, rfl⟩
  obtain ⟨_, m, hm, _⟩ := take_stp hB.hb n (A := A) (ln := []) (p := p) (i := A.ms.length) hg hn hpp (Nat.le_refl _)
  have q := H3.md _ a m ha hm
  simp [q.m]
  exact ⟨ro3, { g with fl := s1.length, ads := ads3 }, rfl, rfl, H3, ((Fr.pre pre).trans F2).trans F3⟩
end
end S3
set_option maxHeartbeats 4000000
/-! Runs: a new house; its log and paper -/
namespace S3
open PySem PySem.Spec PyProof.Rows L2 HM DL S1 S2
theorem pf0 {v  : D} : putFD ("finders" : Str) v [] = [(("finders" : Str), v)] := rfl
theorem pf1 {v x0 : D} : putFD ("modules" : Str) v [(("finders" : Str), x0)] = [(("finders" : Str), x0), (("modules" : Str), v)] := rfl
theorem pf2 {v x0 x1 : D} : putFD ("standing" : Str) v [(("finders" : Str), x0), (("modules" : Str), x1)] = [(("finders" : Str), x0), (("modules" : Str), x1), (("standing" : Str), v)] := rfl
theorem pf3 {v x0 x1 x2 : D} : putFD ("failed" : Str) v [(("finders" : Str), x0), (("modules" : Str), x1), (("standing" : Str), x2)] = [(("finders" : Str), x0), (("modules" : Str), x1), (("standing" : Str), x2), (("failed" : Str), v)] := rfl
theorem pf4 {v x0 x1 x2 x3 : D} : putFD ("entries" : Str) v [(("finders" : Str), x0), (("modules" : Str), x1), (("standing" : Str), x2), (("failed" : Str), x3)] = [(("finders" : Str), x0), (("modules" : Str), x1), (("standing" : Str), x2), (("failed" : Str), x3), (("entries" : Str), v)] := rfl
theorem pf5 {v x0 x1 x2 x3 x4 : D} : putFD ("begun" : Str) v [(("finders" : Str), x0), (("modules" : Str), x1), (("standing" : Str), x2), (("failed" : Str), x3), (("entries" : Str), x4)] = [(("finders" : Str), x0), (("modules" : Str), x1), (("standing" : Str), x2), (("failed" : Str), x3), (("entries" : Str), x4), (("begun" : Str), v)] := rfl
theorem pf6 {v x0 x1 x2 x3 x4 x5 : D} : putFD ("chain" : Str) v [(("finders" : Str), x0), (("modules" : Str), x1), (("standing" : Str), x2), (("failed" : Str), x3), (("entries" : Str), x4), (("begun" : Str), x5)] = [(("finders" : Str), x0), (("modules" : Str), x1), (("standing" : Str), x2), (("failed" : Str), x3), (("entries" : Str), x4), (("begun" : Str), x5), (("chain" : Str), v)] := rfl
theorem pf7 {v x0 x1 x2 x3 x4 x5 x6 : D} : putFD ("fallen" : Str) v [(("finders" : Str), x0), (("modules" : Str), x1), (("standing" : Str), x2), (("failed" : Str), x3), (("entries" : Str), x4), (("begun" : Str), x5), (("chain" : Str), x6)] = [(("finders" : Str), x0), (("modules" : Str), x1), (("standing" : Str), x2), (("failed" : Str), x3), (("entries" : Str), x4), (("begun" : Str), x5), (("chain" : Str), x6), (("fallen" : Str), v)] := rfl
section
variable {s s' : Sto} {ro ro' : Ro} {c d k : Nat} {g : HG} {A : AS} {ln : Ln} {X : Ex → Sto → Prop} {ps : List Str} {bd : Str → List D} {fs : List (Nat × List (Key × D))}
def refsF (n : Nat) : Nat → List D
  | 0 => []
  | k + 1 => refsF n k ++ [.ref (n + 1 + k)]
theorem oDict_ok {i : Nat} {kvs : List (Key × D)} (h : at_ s i = some (.dct kvs)) : oDict [.ref i] s = some (.ref s.length, s ++ [.dct kvs]) := by
  have h' : s[i]? = some (.dct kvs) := h
  simp [oDict, rdD, h']
theorem refsF_len {n : Nat} : ∀ k, (refsF n k).length = k
  | 0 => rfl
  | k + 1 => by simp [refsF, refsF_len k]
def CpI (s : Sto) (fs : List (Nat × List (Key × D))) (rest acc : List D) (s' : Sto) : Prop := ∃ dn fs2, fs = dn ++ fs2 ∧ rest = fs2.map (fun f => .ref f.1) ∧ acc = refsF s.length dn.length ∧ s' = s ++ .lst acc :: dn.map (fun f => .dct f.2)
/-- [dict(f) for f in finders] -/
theorem copies_ok {L : Nat} {env : DL.Env} {ok : Sto → Prop} (hok : ∀ r : Sto, ok (s ++ r)) (h : FinsAt s L fs) (hf : fs.length < 1000) (Q : D → Sto → Prop) (hQ : Q (.ref s.length) (s ++ .lst (refsF s.length fs.length) :: fs.map fun f => .dct f.2)) (hen : env.length = 3) :
    (lcL (.nm 2) tYesD (eN oDict (aCons (eVar 2) aNil)) ok s.length (fs.map fun f => .ref f.1) env (s ++ [.lst []])).wp Q X := by
  have hL := at_lt h.l
  refine lcL_inv (CpI s fs) (acc := []) ⟨[], fs, rfl, rfl, rfl, rfl⟩ ?_ ?_ ?_
  · rintro rest acc s' ⟨dn, fs2, rfl, rfl, rfl, rfl⟩
    exact hok _
  · rintro x rest acc s' ⟨dn, fs2, rfl, e0, rfl, rfl⟩
    cases fs2 with
    | nil => cases e0
    | cons f fs2 =>
      simp only [List.map_cons, List.cons.injEq] at e0
      obtain ⟨rfl, rfl⟩ := e0
      refine ⟨_, rfl, ?_⟩
      have hfd := h.d f (by simp)
      have e1 : at_ (s ++ .lst (refsF s.length dn.length) :: dn.map fun f => .dct f.2) f.1 = some (.dct f.2) := by rw [at_app_l (at_lt hfd)]; exact hfd
      have hv : (env.set 2 (some (.ref f.1)))[2]? = some (some (.ref f.1)) := List.getElem?_set_self (by omega)
      simp [hv, oDict_ok e1]
      refine ⟨by rw [refsF_len]; simp at hf; omega, dn ++ [f], fs2, by simp, rfl, ?_, ?_⟩
      · simp [refsF]
        omega
      · simp [refsF]
  · rintro acc s' ⟨dn, fs2, e1, e2, rfl, rfl⟩
    have : fs2 = [] := by
      cases fs2 with
      | nil => rfl
      | cons _ _ => cases e2
    subst this
    simp at e1
    subst e1
    exact hQ
theorem refsF_get {n : Nat} : ∀ {k : Nat}, refsF n k = (List.range k).map fun j => D.ref (n + 1 + j)
  | 0 => rfl
  | k + 1 => by rw [refsF, refsF_get, List.range_succ, List.map_append]; rfl
/-- the roles of a new house's things -/
def roHouse (ro : Ro) (c l r fi N : Nat) : Ro := fun p => if p < l then ro p else if p = r then (c, 0) else if p = fi then (c, 1) else if p = N then (c, 2) else if p = N + 1 then (c, 3) else if p = N + 3 then (c, 4) else if p = N + 4 then (c, 5) else if p = N + 5 then (c, 1000000) else if p = N + 6 then (c, 7) else (c, 20 + 3 * (p - fi - 1))
theorem rinit_ok {L : Nat} (h : FinsAt s L fs) (hf : fs.length < 1000) (ro : Ro) (c : Nat) : (f_Runs_init [.ref s.length, .ref L] (s ++ [.ins "Runs" []])).wp (fun d s' => d = .non ∧ ∃ g ro', g.r = s.length ∧ g.fs.map (·.2) = fs.map (·.2) ∧ HAt s' ro' c g ⟨[], [], []⟩ [] ∧ s.length ≤ s'.length ∧ ∀ p, p < s.length → ro' p = ro p ∧ at_ s' p = at_ s p) X := by
  unfold f_Runs_init d_Runs_init
  simp
  refine (check_yes (h.pre (pre_app _ _))).no ?_
  rintro _ S1 ⟨rfl, pre⟩
  have hi : at_ S1 s.length = some (.ins "Runs" []) := at_pre pre at_app_len
  have hold : ∀ p, p < s.length → at_ S1 p = at_ s p := fun p hp => by
    obtain ⟨t, rfl⟩ := pre
    rw [List.append_assoc]
    exact at_app_l hp
  have h1 := (h.pre (pre_app _ [.ins "Runs" []])).pre pre
  have hlt := at_lt hi
  simp [h1.l, wipeD]
  refine copies_ok (fun r => ?_) h1 hf _ ?_ rfl
  · have : at_ (S1 ++ r) L = some (.lst (fs.map fun f => .ref f.1)) := by rw [at_app_l (at_lt h1.l)]; exact h1.l
    simp [this]
  obtain ⟨S2, hS2⟩ : ∃ S2, S1 ++ .lst (refsF S1.length fs.length) :: fs.map (fun f => .dct f.2) = S2 := ⟨_, rfl⟩
  have hl2 : S2.length = S1.length + 1 + fs.length := by rw [← hS2]; simp; omega
  have hlt2 : s.length < S2.length := by omega
  have hi2 : at_ S2 s.length = some (.ins "Runs" []) := by rw [← hS2, at_app_l hlt]; exact hi
  rw [hS2]
  simp [hi2, pf0, pf1, pf2, pf3, pf4, pf5, pf6, pf7, hlt2]
  obtain ⟨fs', hfs'⟩ : ∃ fs', fs.mapIdx (fun j f => (S1.length + 1 + j, f.2)) = fs' := ⟨_, rfl⟩
  have hget : ∀ j, fs'[j]? = (fs[j]?).map fun f => (S1.length + 1 + j, f.2) := fun j => by rw [← hfs', List.getElem?_mapIdx]
  obtain ⟨g, hg⟩ : ∃ g : HG, g = ⟨s.length, S1.length, S2.length, S2.length + 1, S2.length + 2, S2.length + 3, S2.length + 4, S2.length + 5, S2.length + 6, fs', []⟩ := ⟨_, rfl⟩
  obtain ⟨F, hF⟩ : ∃ F, S2.set s.length (.ins "Runs" (runsF g)) ++ [O.dct [], O.dct [], O.dct [], O.lst [], O.lst [], O.lst [], O.dct []] = F := ⟨_, rfl⟩
  have hFe : S2.set s.length (.ins "Runs" [(Str.ofString "finders", D.ref S1.length), (Str.ofString "modules", D.ref S2.length), (Str.ofString "standing", D.ref (S2.length + 1)), (Str.ofString "failed", D.ref (S2.length + 2)), (Str.ofString "entries", D.ref (S2.length + 3)), (Str.ofString "begun", D.ref (S2.length + 4)), (Str.ofString "chain", D.ref (S2.length + 5)), (Str.ofString "fallen", D.ref (S2.length + 6))]) ++ [O.dct [], O.dct [], O.dct [], O.lst [], O.lst [], O.lst [], O.dct []] = F := by
    rw [← hF, hg]
    rfl
  rw [hFe]
  have lF : F.length = S2.length + 7 := by rw [← hF]; simp
  have t : ∀ k, at_ F (S2.length + k) = at_ [O.dct [], O.dct [], O.dct [], O.lst [], O.lst [], O.lst [], O.dct []] k := fun k => by
    rw [← hF, at_app_r (by simp)]
    congr 1
    simp
  have u : ∀ p, p < S2.length → p ≠ s.length → at_ F p = at_ S2 p := fun p hp hn => by
    rw [← hF, at_app_l (by simpa using hp)]
    exact at_set_ne (Ne.symm hn)
  have v : ∀ p, p < S1.length → at_ S2 p = at_ S1 p := fun p hp => by rw [← hS2]; exact at_app_l hp
  have hro : ∀ p, ¬p < s.length → p ≠ s.length → p ≠ S1.length → p < S2.length → roHouse ro c s.length s.length S1.length S2.length p = (c, 20 + 3 * (p - S1.length - 1)) := fun p h1 h2 h3 h4 => by
    unfold roHouse
    rw [if_neg h1, if_neg h2, if_neg h3, if_neg (by omega), if_neg (by omega), if_neg (by omega), if_neg (by omega), if_neg (by omega), if_neg (by omega)]
  have dl : ∀ j f, fs[j]? = some f → at_ S2 (S1.length + 1 + j) = some (.dct f.2) := fun j f e => by
    rw [← hS2, at_app_r (by omega)]
    have : S1.length + 1 + j - S1.length = j + 1 := by omega
    rw [this]
    show (fs.map fun f => O.dct f.2)[j]? = _
    rw [List.getElem?_map, e]
    rfl
  refine ⟨g, by rw [hg], ?_, roHouse ro c s.length s.length S1.length S2.length, ?_, by omega, fun p hp => ⟨?_, ?_⟩⟩
  · rw [hg]
    apply List.ext_getElem?
    intro j
    rw [List.getElem?_map, List.getElem?_map, hget]
    cases fs[j]? <;> rfl
  · have fl' : fs'.length = fs.length := by rw [← hfs']; simp
    subst hg
    exact {
      r := by
        show at_ F s.length = _
        rw [← hF, at_app_l (by simpa using hlt2)]
        exact at_set_self hlt2
      fi := by
        show at_ F S1.length = some (.lst (fs'.map fun f => .ref f.1))
        rw [u _ (by omega) (by omega), ← hS2, at_app_len, refsF_get]
        congr 2
        apply List.ext_getElem?
        intro j
        rw [List.getElem?_map, List.getElem?_map, hget]
        by_cases hj : j < fs.length
        · rw [List.getElem?_eq_getElem hj, List.getElem?_range hj]
          rfl
        · have e1 : fs[j]? = none := List.getElem?_eq_none (by omega)
          have e2 : (List.range fs.length)[j]? = none := List.getElem?_eq_none (by rw [List.length_range]; omega)
          rw [e1, e2]
          rfl
      fd := fun j f e => by
        have e : fs'[j]? = some f := e
        rw [hget] at e
        cases hj : fs[j]? with
        | none => rw [hj] at e; cases e
        | some f0 =>
          rw [hj] at e
          cases e
          have := (List.getElem?_eq_some_iff.mp hj).1
          refine ⟨?_, ?_⟩
          · rw [u _ (by simp only; omega) (by simp only; omega)]
            exact dl j f0 hj
          · rw [hro _ (by simp only; omega) (by simp only; omega) (by simp only; omega) (by simp only; omega)]
            have : S1.length + 1 + j - S1.length - 1 = j := by omega
            simp only [this]
      mo := ⟨[], t 0, rfl⟩
      st := t 1
      en := t 3
      be := t 4
      ch := t 5
      fl := t 6
      len := rfl
      md := fun i a m ha => by simp at ha
      rr := by
        show roHouse ro c s.length s.length S1.length S2.length s.length = _
        simp [roHouse]
      rfi := by
        show roHouse ro c s.length s.length S1.length S2.length S1.length = _
        unfold roHouse
        rw [if_neg (by omega), if_neg (by omega), if_pos rfl]
      rmo := by
        show roHouse ro c s.length s.length S1.length S2.length S2.length = _
        unfold roHouse
        rw [if_neg (by omega), if_neg (by omega), if_neg (by omega), if_pos rfl]
      rst := by
        show roHouse ro c s.length s.length S1.length S2.length (S2.length + 1) = _
        unfold roHouse
        rw [if_neg (by omega), if_neg (by omega), if_neg (by omega), if_neg (by omega), if_pos rfl]
      ren := by
        show roHouse ro c s.length s.length S1.length S2.length (S2.length + 3) = _
        unfold roHouse
        rw [if_neg (by omega), if_neg (by omega), if_neg (by omega), if_neg (by omega), if_neg (by omega), if_pos rfl]
      rbe := by
        show roHouse ro c s.length s.length S1.length S2.length (S2.length + 4) = _
        unfold roHouse
        rw [if_neg (by omega), if_neg (by omega), if_neg (by omega), if_neg (by omega), if_neg (by omega), if_neg (by omega), if_pos rfl]
      rch := by
        show roHouse ro c s.length s.length S1.length S2.length (S2.length + 5) = _
        unfold roHouse
        rw [if_neg (by omega), if_neg (by omega), if_neg (by omega), if_neg (by omega), if_neg (by omega), if_neg (by omega), if_neg (by omega), if_pos rfl]
        rfl
      rfl_ := by
        show roHouse ro c s.length s.length S1.length S2.length (S2.length + 6) = _
        unfold roHouse
        rw [if_neg (by omega), if_neg (by omega), if_neg (by omega), if_neg (by omega), if_neg (by omega), if_neg (by omega), if_neg (by omega), if_neg (by omega), if_pos rfl]
      few := by simp
      fewf := by
        show fs'.length < 1000
        omega
      hln := fun q hq => by cases hq }
  · unfold roHouse
    rw [if_pos hp]
  · rw [u p (by omega) (by omega), v p (by omega)]
    exact hold p hp
theorem log_ok (H : HAt s ro c g A ln) : (f_Runs_log [.ref g.r] s).wp (fun d s' => d = .ref s.length ∧ s' = s ++ [.lst A.log]) X := by
  have h' : s[g.en]? = some (.lst A.log) := H.en
  have o : oList [.ref g.en] s = some (.ref s.length, s ++ [.lst A.log]) := by simp [oList, rdL, h']
  unfold f_Runs_log d_Runs_log
  simp [H.r, o]
theorem paper_ok (H : HAt s ro c g A ln) : (f_Runs_paper [.ref g.r] s).wp (fun d s' => d = .ref s.length ∧ s' = s ++ [.lst A.pap]) X := by
  have h' : s[g.be]? = some (.lst A.pap) := H.be
  have o : oList [.ref g.be] s = some (.ref s.length, s ++ [.lst A.pap]) := by simp [oList, rdL, h']
  unfold f_Runs_paper d_Runs_paper
  simp [H.r, o]
end
end S3
set_option maxHeartbeats 4000000
/-! k31: the program by values, and that the written text keeps to it (printed by gen.py) -/
namespace G31
open PySem PySem.Spec PyProof.Rows L2 HM DL S0 S1 S2 S3
def top (i : Nat) : Stmt := PySem.Challenge.pw_halfmade_k31_whole_runs_in_order.main.body.getD i (.Pass ⟨0, 0, 0, 0⟩)
abbrev s__law_at : Stmt := top 36
theorem sc__law_at : FnScope ["_law_script", "_law_k"] ["_law_script", "_law_k"] (defScope s__law_at) := ⟨rfl, rfl, rfl, by decide +kernel, rfl, by decide +kernel, by decide +kernel⟩
abbrev s__law_pot : Stmt := top 37
theorem sc__law_pot : FnScope ["_law_script", "_law_k", "_law_cell"] ["_law_script", "_law_k"] (defScope s__law_pot) := ⟨rfl, rfl, rfl, by decide +kernel, rfl, by decide +kernel, by decide +kernel⟩
abbrev s__law_draw : Stmt := top 38
theorem sc__law_draw : FnScope ["_law_pot_here", "_law_many", "_law_digit"] ["_law_pot_here", "_law_many"] (defScope s__law_draw) := ⟨rfl, rfl, rfl, by decide +kernel, rfl, by decide +kernel, by decide +kernel⟩
abbrev s__law_name : Stmt := top 39
theorem sc__law_name : FnScope ["_law_pot_here", "_law_taken_here", "_law_letters", "_law_name_here", "_law_way", "_law_k", "_law_letter"] ["_law_pot_here", "_law_taken_here"] (defScope s__law_name) := ⟨rfl, rfl, rfl, by decide +kernel, rfl, by decide +kernel, by decide +kernel⟩
abbrev s__law_number : Stmt := top 40
theorem sc__law_number : FnScope ["_law_pot_here"] ["_law_pot_here"] (defScope s__law_number) := ⟨rfl, rfl, rfl, by decide +kernel, rfl, by decide +kernel, by decide +kernel⟩
abbrev s__law_row : Stmt := top 41
theorem sc__law_row : FnScope ["_law_pot_here", "_law_paths", "_law_names", "_law_way", "_law_name_here", "_law_path"] ["_law_pot_here", "_law_paths", "_law_names"] (defScope s__law_row) := ⟨rfl, rfl, rfl, by decide +kernel, rfl, by decide +kernel, by decide +kernel⟩
abbrev s__law_stock : Stmt := top 42
theorem sc__law_stock : FnScope ["_law_pot_here", "_law_most", "_law_paths", "_law_k", "_law_names", "_law_stock_here", "_law_path"] ["_law_pot_here"] (defScope s__law_stock) := ⟨rfl, rfl, rfl, by decide +kernel, rfl, by decide +kernel, by decide +kernel⟩
abbrev s__law_dealt : Stmt := top 43
theorem sc__law_dealt : FnScope ["_law_pot_here", "_law_stock_here", "_law_finders", "_law_path", "_law_body", "_law_at_here", "_law_k"] ["_law_pot_here", "_law_stock_here"] (defScope s__law_dealt) := ⟨rfl, rfl, rfl, by decide +kernel, rfl, by decide +kernel, by decide +kernel⟩
abbrev s_is_name : Stmt := top 11
theorem sc_is_name : FnScope ["thing", "sign"] ["thing"] (defScope s_is_name) := ⟨rfl, rfl, rfl, by decide +kernel, rfl, by decide +kernel, by decide +kernel⟩
abbrev s_is_path : Stmt := top 12
theorem sc_is_path : FnScope ["thing", "names", "name"] ["thing"] (defScope s_is_path) := ⟨rfl, rfl, rfl, by decide +kernel, rfl, by decide +kernel, by decide +kernel⟩
abbrev s_begins_with_text : Stmt := top 26
theorem sc_begins_with_text : FnScope ["thing"] ["thing"] (defScope s_begins_with_text) := ⟨rfl, rfl, rfl, by decide +kernel, rfl, by decide +kernel, by decide +kernel⟩
abbrev s_is_whole : Stmt := top 22
theorem sc_is_whole : FnScope ["thing"] ["thing"] (defScope s_is_whole) := ⟨rfl, rfl, rfl, by decide +kernel, rfl, by decide +kernel, by decide +kernel⟩
abbrev s_is_part : Stmt := top 23
theorem sc_is_part : FnScope ["thing", "kind"] ["thing", "kind"] (defScope s_is_part) := ⟨rfl, rfl, rfl, by decide +kernel, rfl, by decide +kernel, by decide +kernel⟩
abbrev s_is_line : Stmt := top 27
theorem sc_is_line : FnScope ["row", "kinds", "part", "kind"] ["row"] (defScope s_is_line) := ⟨rfl, rfl, rfl, by decide +kernel, rfl, by decide +kernel, by decide +kernel⟩
abbrev s_is_word : Stmt := top 24
theorem sc_is_word : FnScope ["thing"] ["thing"] (defScope s_is_word) := ⟨rfl, rfl, rfl, by decide +kernel, rfl, by decide +kernel, by decide +kernel⟩
abbrev s_are_words : Stmt := top 25
theorem sc_are_words : FnScope ["thing", "word"] ["thing"] (defScope s_are_words) := ⟨rfl, rfl, rfl, by decide +kernel, rfl, by decide +kernel, by decide +kernel⟩
abbrev s_room_behind_rows : Stmt := top 29
theorem sc_room_behind_rows : FnScope ["rows", "room", "tries", "left", "row"] ["rows", "room", "tries"] (defScope s_room_behind_rows) := ⟨rfl, rfl, rfl, by decide +kernel, rfl, by decide +kernel, by decide +kernel⟩
abbrev s_room_behind_row : Stmt := top 28
theorem sc_room_behind_row : FnScope ["row", "room", "tries", "left"] ["row", "room", "tries"] (defScope s_room_behind_row) := ⟨rfl, rfl, rfl, by decide +kernel, rfl, by decide +kernel, by decide +kernel⟩
abbrev s_is_body : Stmt := top 30
theorem sc_is_body : FnScope ["thing"] ["thing"] (defScope s_is_body) := ⟨rfl, rfl, rfl, by decide +kernel, rfl, by decide +kernel, by decide +kernel⟩
abbrev s_check_finders : Stmt := top 33
theorem sc_check_finders : FnScope ["finders", "finder", "path"] ["finders"] (defScope s_check_finders) := ⟨rfl, rfl, rfl, by decide +kernel, rfl, by decide +kernel, by decide +kernel⟩
abbrev s_Runs_init : Stmt := inClass (top 34) 0
theorem sc_Runs_init : FnScope ["self", "finders", "finder"] ["self", "finders"] (defScope s_Runs_init) := ⟨rfl, rfl, rfl, by decide +kernel, rfl, by decide +kernel, by decide +kernel⟩
abbrev s__law_house : Stmt := top 44
theorem sc__law_house : FnScope ["_law_stock_here"] ["_law_stock_here"] (defScope s__law_house) := ⟨rfl, rfl, rfl, by decide +kernel, rfl, by decide +kernel, by decide +kernel⟩
abbrev s_Runs_paper : Stmt := inClass (top 34) 4
theorem sc_Runs_paper : FnScope ["self"] ["self"] (defScope s_Runs_paper) := ⟨rfl, rfl, rfl, by decide +kernel, rfl, by decide +kernel, by decide +kernel⟩
abbrev s_Runs_log : Stmt := inClass (top 34) 3
theorem sc_Runs_log : FnScope ["self"] ["self"] (defScope s_Runs_log) := ⟨rfl, rfl, rfl, by decide +kernel, rfl, by decide +kernel, by decide +kernel⟩
abbrev s_check_path : Stmt := top 32
theorem sc_check_path : FnScope ["path"] ["path"] (defScope s_check_path) := ⟨rfl, rfl, rfl, by decide +kernel, rfl, by decide +kernel, by decide +kernel⟩
abbrev s_Runs_body_at : Stmt := inClass (top 34) 9
theorem sc_Runs_body_at : FnScope ["self", "path", "finder"] ["self", "path"] (defScope s_Runs_body_at) := ⟨rfl, rfl, rfl, by decide +kernel, rfl, by decide +kernel, by decide +kernel⟩
abbrev s_Module_init : Stmt := inClass (top 14) 0
theorem sc_Module_init : FnScope ["self", "number", "path"] ["self", "number", "path"] (defScope s_Module_init) := ⟨rfl, rfl, rfl, by decide +kernel, rfl, by decide +kernel, by decide +kernel⟩
abbrev s_Runs_write_down : Stmt := inClass (top 34) 14
theorem sc_Runs_write_down : FnScope ["self", "module", "by", "row"] ["self", "module"] (defScope s_Runs_write_down) := ⟨rfl, rfl, rfl, by decide +kernel, rfl, by decide +kernel, by decide +kernel⟩
abbrev s_Module_bind : Stmt := inClass (top 14) 1
theorem sc_Module_bind : FnScope ["self", "name", "thing"] ["self", "name", "thing"] (defScope s_Module_bind) := ⟨rfl, rfl, rfl, by decide +kernel, rfl, by decide +kernel, by decide +kernel⟩
abbrev s_Runs_running : Stmt := inClass (top 34) 18
theorem sc_Runs_running : FnScope ["self"] ["self"] (defScope s_Runs_running) := ⟨rfl, rfl, rfl, by decide +kernel, rfl, by decide +kernel, by decide +kernel⟩
abbrev s_Module_bound : Stmt := inClass (top 14) 4
theorem sc_Module_bound : FnScope ["self"] ["self"] (defScope s_Module_bound) := ⟨rfl, rfl, rfl, by decide +kernel, rfl, by decide +kernel, by decide +kernel⟩
abbrev s_Runs_note : Stmt := inClass (top 34) 19
theorem sc_Runs_note : FnScope ["self", "path", "names"] ["self", "path"] (defScope s_Runs_note) := ⟨rfl, rfl, rfl, by decide +kernel, rfl, by decide +kernel, by decide +kernel⟩
abbrev s_Runs_taken : Stmt := inClass (top 34) 10
theorem sc_Runs_taken : FnScope ["self", "path"] ["self", "path"] (defScope s_Runs_taken) := ⟨rfl, rfl, rfl, by decide +kernel, rfl, by decide +kernel, by decide +kernel⟩
abbrev s_Runs_taken_alone : Stmt := inClass (top 34) 11
theorem sc_Runs_taken_alone : FnScope ["self", "path", "module", "number", "fault", "body"] ["self", "path"] (defScope s_Runs_taken_alone) := ⟨rfl, rfl, rfl, by decide +kernel, rfl, by decide +kernel, by decide +kernel⟩
abbrev s_Runs_begin : Stmt := inClass (top 34) 12
theorem sc_Runs_begin : FnScope ["self", "path", "body", "module", "e"] ["self", "path", "body"] (defScope s_Runs_begin) := ⟨rfl, rfl, rfl, by decide +kernel, rfl, by decide +kernel, by decide +kernel⟩
abbrev s_Runs_run : Stmt := inClass (top 34) 15
theorem sc_Runs_run : FnScope ["self", "word", "module", "body", "ahead", "at", "row", "e"] ["self", "word", "module", "body"] (defScope s_Runs_run) := ⟨rfl, rfl, rfl, by decide +kernel, rfl, by decide +kernel, by decide +kernel⟩
abbrev s_Runs_do_row : Stmt := inClass (top 34) 16
theorem sc_Runs_do_row : FnScope ["self", "row", "e"] ["self", "row"] (defScope s_Runs_do_row) := ⟨rfl, rfl, rfl, by decide +kernel, rfl, by decide +kernel, by decide +kernel⟩
abbrev s_Runs_do : Stmt := inClass (top 34) 17
theorem sc_Runs_do : FnScope ["self", "row", "word", "module"] ["self", "row"] (defScope s_Runs_do) := ⟨rfl, rfl, rfl, by decide +kernel, rfl, by decide +kernel, by decide +kernel⟩
abbrev s_Runs_take : Stmt := inClass (top 34) 1
theorem sc_Runs_take : FnScope ["self", "path", "e"] ["self", "path"] (defScope s_Runs_take) := ⟨rfl, rfl, rfl, by decide +kernel, rfl, by decide +kernel, by decide +kernel⟩
abbrev s__law_taken : Stmt := top 46
theorem sc__law_taken : FnScope ["_law_house_here", "_law_path", "_law_number_here", "_law_by", "_law_row_here", "_law_at_here", "_law_one"] ["_law_house_here", "_law_path"] (defScope s__law_taken) := ⟨rfl, rfl, rfl, by decide +kernel, rfl, by decide +kernel, by decide +kernel⟩
abbrev s__law_done : Stmt := top 45
theorem sc__law_done : FnScope ["_law_house_here", "_law_number_here", "_law_row_here", "_law_names"] ["_law_house_here", "_law_number_here", "_law_row_here"] (defScope s__law_done) := ⟨rfl, rfl, rfl, by decide +kernel, rfl, by decide +kernel, by decide +kernel⟩
abbrev s__law_right : Stmt := top 47
theorem sc__law_right : FnScope ["_law_house_here", "_law_own", "_law_turn", "_law_log", "_law_paper"] ["_law_house_here", "_law_own"] (defScope s__law_right) := ⟨rfl, rfl, rfl, by decide +kernel, rfl, by decide +kernel, by decide +kernel⟩
abbrev s_law : Stmt := top 48
theorem sc_law : FnScope ["_law_script", "_law_pot_here", "_law_stock_here", "_law_finders", "_law_kept", "_law_houses", "_law_owns", "_law_paths", "_law_cell", "_law_at_here", "_law_path", "_law_held", "_law_shown"] ["_law_script"] (defScope s_law) := ⟨rfl, rfl, rfl, by decide +kernel, rfl, by decide +kernel, by decide +kernel⟩
def clsOf (K : PySem.W.Frag) (c : String) : Option Addr := if c = "Module" then some (He.ga K "Module") else if c = "Runs" then some (He.ga K "Runs") else none
def tf : List He.Defn := [("is_name", none), ("is_path", none), ("is_line", none), ("are_words", none), ("check_finders", none)]
abbrev PsK (K : PySem.W.Frag) : List Addr := (tf.map (He.cT K)).map (·.2)
abbrev Γ (K : PySem.W.Frag) : Wd := ⟨K, clsOf K, PsK K, []⟩
theorem cls_Module {K : PySem.W.Frag} : (Γ K).cls "Module" = some (He.ga K "Module") := by
  show clsOf K "Module" = _
  unfold clsOf
  rw [if_pos rfl]
theorem cls_Runs {K : PySem.W.Frag} : (Γ K).cls "Runs" = some (He.ga K "Runs") := by
  show clsOf K "Runs" = _
  unfold clsOf
  rw [if_neg (by decide), if_pos rfl]

noncomputable def d__law_name : DSt := (sSeq (sAsg (.nm 2) (eC (.str "abcdefghijklmnopqrstuvwxyz")))
    (sSeq (sAsg (.nm 3) (eMk isStr oJoin (eC (.str "")) (aCons (eLc (.nm 5) [5] (iRange1 (e2 oAdd (eC (.int 1)) (e2 oMul (eCall f__law_draw (aCons (eVar 0) (aCons (eC (.int 2)) aNil))) (eCall f__law_draw (aCons (eVar 0) (aCons (eC (.int 8)) aNil)))))) tYesD (e2 oIx (eVar 2) (eCall f__law_draw (aCons (eVar 0) (aCons (eC (.int 26)) aNil))))) aNil)))
    (sSeq (sAsg (.nm 4) (eCall f__law_draw (aCons (eVar 0) (aCons (eC (.int 9)) aNil))))
    (sSeq (sIf (tB1 (e2 oEq (eVar 4) (eC (.int 0)))) (sAsg (.nm 3) (e2 oIx (eN oLst (aCons (eC (.str "begin")) (aCons (eC (.str "end")) (aCons (eC (.str "fail")) (aCons (eC (.str "have")) (aCons (eC (.str "again")) (aCons (eC (.str "note")) (aCons (eC (.str "anew")) (aCons (eC (.str "take")) (aCons (eC (.str "set")) (aCons (eC (.str "done")) aNil))))))))))) (eCall f__law_draw (aCons (eVar 0) (aCons (eC (.int 10)) aNil))))) sNil)
    (sSeq (sIf (tAnd2 (tB1 (e2 oEq (eVar 4) (eC (.int 1)))) (tB1 (e2 oNe (eVar 1) (eN oLst aNil)))) (sAsg (.nm 3) (eSl (e2 oAdd (e2 oIx (eVar 1) (e1 oNeg (eC (.int 1)))) (eVar 3)) .out (.at_ (eC (.int 8))))) sNil)
    (sSeq (sIf (tB1 (e2 oIn (eVar 3) (eVar 1))) (sAsg (.nm 3) (e2 oIx (eLc (.nm 6) [6] (iE (eVar 2)) (tB1 (e2 oNin (eVar 6) (eVar 1))) (eVar 6)) (eC (.int 0)))) sNil)
    (sSeq (sExpr (eMk isLst oAppend (eVar 1) (aCons (eVar 3) aNil)))
    (sRet (eVar 3)))))))))
noncomputable def f__law_name : Fn := runFn 2 7 d__law_name
noncomputable def d__law_number : DSt := (sSeq (sIf (tB1 (e2 oEq (eCall f__law_draw (aCons (eVar 0) (aCons (eC (.int 3)) aNil))) (eC (.int 0)))) (sRet (e2 oAdd (e2 oSub (eCall f__law_draw (aCons (eVar 0) (aCons (e2 oSub (e2 oMul (eC (.int 2)) (e2 oPow (eC (.int 10)) (eC (.int 60)))) (eC (.int 1))) aNil))) (e2 oPow (eC (.int 10)) (eC (.int 60)))) (eC (.int 1)))) sNil)
    (sRet (e2 oSub (eCall f__law_draw (aCons (eVar 0) (aCons (eC (.int 9)) aNil))) (eC (.int 4)))))
noncomputable def f__law_number : Fn := runFn 1 1 d__law_number
noncomputable def d__law_row : DSt := (sSeq (sAsg (.nm 3) (eCall f__law_draw (aCons (eVar 0) (aCons (eC (.int 6)) aNil))))
    (sSeq (sAsg (.nm 4) (e2 oIx (eVar 2) (eCall f__law_draw (aCons (eVar 0) (aCons (eN oLen (aCons (eVar 2) aNil)) aNil)))))
    (sSeq (sAsg (.nm 5) (e2 oIx (eVar 1) (eCall f__law_draw (aCons (eVar 0) (aCons (eN oLen (aCons (eVar 1) aNil)) aNil)))))
    (sSeq (sIf (tB1 (e2 oLt (eVar 3) (eC (.int 2)))) (sRet (eN oTup (aCons (eC (.str "set")) (aCons (eVar 4) (aCons (eCall f__law_number (aCons (eVar 0) aNil)) aNil))))) sNil)
    (sSeq (sIf (tB1 (e2 oLt (eVar 3) (eC (.int 5)))) (sRet (eN oTup (aCons (eC (.str "take")) (aCons (eVar 4) (aCons (eVar 5) aNil))))) sNil)
    (sRet (eN oTup (aCons (eC (.str "note")) (aCons (eVar 5) aNil)))))))))
noncomputable def f__law_row : Fn := runFn 3 6 d__law_row
noncomputable def d__law_stock : DSt := (sSeq (sAsg (.nm 1) (e2 oIx (eN oLst (aCons (eC (.int 6)) (aCons (eC (.int 6)) (aCons (eC (.int 6)) (aCons (eC (.int 40)) (aCons (eC (.int 6)) (aCons (eC (.int 6)) (aCons (eC (.int 6)) (aCons (eC (.int 6)) aNil))))))))) (eCall f__law_draw (aCons (eVar 0) (aCons (eC (.int 8)) aNil)))))
    (sSeq (sAsg (.nm 2) (eN oLst aNil))
    (sSeq (sFor (.nm 3) (iRange1 (e2 oAdd (eC (.int 1)) (eCall f__law_draw (aCons (eVar 0) (aCons (eC (.int 8)) aNil)))))
    (sExpr (eCall f__law_name (aCons (eVar 0) (aCons (eVar 2) aNil)))))
    (sSeq (sAsg (.nm 4) (eN oList (aCons (eVar 2) aNil)))
    (sSeq (sExpr (eCall f__law_name (aCons (eVar 0) (aCons (eVar 4) aNil))))
    (sSeq (sAsg (.nm 5) eDnew)
    (sSeq (sFor (.nm 6) (iE (eVar 2))
    (sPut (eVar 5) (eVar 6) (eN oTuple (aCons (eLc (.nm 3) [3] (iRange1 (eCall f__law_draw (aCons (eVar 0) (aCons (e2 oAdd (eVar 1) (eC (.int 1))) aNil)))) tYesD (eCall f__law_row (aCons (eVar 0) (aCons (eVar 2) (aCons (eVar 4) aNil))))) aNil))))
    (sRet (eVar 5)))))))))
noncomputable def f__law_stock : Fn := runFn 1 7 d__law_stock
noncomputable def d__law_dealt : DSt := (sSeq (sAsg (.nm 2) (eLc (.nm 6) [6] (iRange1 (e2 oAdd (eC (.int 1)) (eCall f__law_draw (aCons (eVar 0) (aCons (eC (.int 3)) aNil))))) tYesD eDnew))
    (sSeq (sLock (eVar 1) (sFor (.tp [(.nm 3), (.nm 4)]) (iItems (eVar 1))
    (sSeq (sAsg (.nm 5) (eCall f__law_draw (aCons (eVar 0) (aCons (eN oLen (aCons (eVar 2) aNil)) aNil))))
    (sSeq (sPut (e2 oIx (eVar 2) (eVar 5)) (eVar 3) (eVar 4))
    (sIf (tAnd2 (tB1 (e2 oLt (e2 oAdd (eVar 5) (eC (.int 1))) (eN oLen (aCons (eVar 2) aNil)))) (tB1 (e2 oEq (eCall f__law_draw (aCons (eVar 0) (aCons (eC (.int 2)) aNil))) (eC (.int 0))))) (sPut (e2 oIx (eVar 2) (e1 oNeg (eC (.int 1)))) (eVar 3) (e2 oAdd (eSl (eVar 4) (.at_ (eC (.int 1))) .out) (eN oTup (aCons (eN oTup (aCons (eC (.str "note")) (aCons (eVar 3) aNil))) aNil)))) sNil)))))
    (sRet (eVar 2))))
noncomputable def f__law_dealt : Fn := runFn 2 7 d__law_dealt
noncomputable def d__law_house : DSt := (sRet (eDisp [("stock", (eVar 0)), ("table", eDnew), ("names", eDnew), ("log", (eN oLst aNil)), ("paper", (eN oLst aNil)), ("line", (eN oLst aNil))]))
noncomputable def f__law_house : Fn := runFn 1 1 d__law_house
noncomputable def d__law_taken (g__law_done : Fn) : DSt := (sSeq (sIf (tB1 (e2 oIn (eVar 1) (e2 oIx (eVar 0) (eC (.str "table"))))) (sSeq (sExpr (eMk isLst oAppend (e2 oIx (eVar 0) (eC (.str "log"))) (aCons (eN oTup (aCons (eC (.str "have")) (aCons (e2 oIx (e2 oIx (eVar 0) (eC (.str "table"))) (eVar 1)) aNil))) aNil)))
    (sRet (e2 oIx (e2 oIx (eVar 0) (eC (.str "table"))) (eVar 1)))) sNil)
    (sSeq (sAsg (.nm 2) (e2 oAdd (eN oLen (aCons (e2 oIx (eVar 0) (eC (.str "names"))) aNil)) (eC (.int 1))))
    (sSeq (sPut (e2 oIx (eVar 0) (eC (.str "names"))) (eVar 2) eDnew)
    (sSeq (sPut (e2 oIx (eVar 0) (eC (.str "table"))) (eVar 1) (eVar 2))
    (sSeq (sExpr (eMk isLst oAppend (e2 oIx (eVar 0) (eC (.str "log"))) (aCons (eN oTup (aCons (eC (.str "begin")) (aCons (eVar 2) (aCons (eVar 1) aNil)))) aNil)))
    (sSeq (sAsg (.tp [(.nm 3), (.nm 4)]) (eIf (tB1 (e2 oNe (e2 oIx (eVar 0) (eC (.str "line"))) (eN oLst aNil))) (e2 oIx (e2 oIx (eVar 0) (eC (.str "line"))) (e1 oNeg (eC (.int 1)))) (eN oTup (aCons (eC .non) (aCons (eC .non) aNil)))))
    (sSeq (sExpr (eMk isLst oAppend (e2 oIx (eVar 0) (eC (.str "paper"))) (aCons (eN oTup (aCons (eVar 2) (aCons (eVar 3) (aCons (eVar 4) aNil)))) aNil)))
    (sSeq (sExpr (eMk isLst oAppend (e2 oIx (eVar 0) (eC (.str "line"))) (aCons (eN oTup (aCons (eVar 2) (aCons (eC (.int 0)) aNil))) aNil)))
    (sSeq (sFor (.tp [(.nm 5), (.nm 6)]) (iEnum (e2 oIx (e2 oIx (eVar 0) (eC (.str "stock"))) (eVar 1)))
    (sSeq (sPut (e2 oIx (eVar 0) (eC (.str "line"))) (e1 oNeg (eC (.int 1))) (eN oTup (aCons (eVar 2) (aCons (eVar 5) aNil))))
    (sExpr (eCall g__law_done (aCons (eVar 0) (aCons (eVar 2) (aCons (eVar 6) aNil)))))))
    (sSeq (sExpr (eMk0 isLst oPop (e2 oIx (eVar 0) (eC (.str "line")))))
    (sSeq (sExpr (eMk isLst oAppend (e2 oIx (eVar 0) (eC (.str "log"))) (aCons (eN oTup (aCons (eC (.str "end")) (aCons (eVar 2) aNil))) aNil)))
    (sRet (eVar 2)))))))))))))
noncomputable def d__law_done (g__law_taken : Fn) : DSt := (sSeq (sIf (tB1 (e2 oEq (e2 oIx (eVar 2) (eC (.int 0))) (eC (.str "take")))) (sExpr (eCall g__law_taken (aCons (eVar 0) (aCons (e2 oIx (eVar 2) (eC (.int 2))) aNil)))) sNil)
    (sIf (tB1 (e2 oEq (e2 oIx (eVar 2) (eC (.int 0))) (eC (.str "note")))) (sSeq (sAsg (.nm 3) (eC .non))
    (sSeq (sIf (tB1 (e2 oIn (e2 oIx (eVar 2) (eC (.int 1))) (e2 oIx (eVar 0) (eC (.str "table"))))) (sAsg (.nm 3) (eN oTuple (aCons (eN oSorted (aCons (e2 oIx (e2 oIx (eVar 0) (eC (.str "names"))) (e2 oIx (e2 oIx (eVar 0) (eC (.str "table"))) (e2 oIx (eVar 2) (eC (.int 1))))) aNil)) aNil))) sNil)
    (sExpr (eMk isLst oAppend (e2 oIx (eVar 0) (eC (.str "log"))) (aCons (eN oTup (aCons (eC (.str "note")) (aCons (eVar 1) (aCons (eVar 3) aNil)))) aNil))))) (sPut (e2 oIx (e2 oIx (eVar 0) (eC (.str "names"))) (eVar 1)) (e2 oIx (eVar 2) (eC (.int 1))) (eC (.bl true)))))
noncomputable def scc__law_taken : Nat → Fn × Fn
  | 0 => (noF, noF)
  | n + 1 => (runFn 2 7 (d__law_taken (scc__law_taken n).2), runFn 3 4 (d__law_done (scc__law_taken n).1))
noncomputable def f__law_taken (n : Nat) : Fn := (scc__law_taken n).1
noncomputable def f__law_done (n : Nat) : Fn := (scc__law_taken n).2
theorem f__law_taken_succ (n : Nat) : f__law_taken (n + 1) = runFn 2 7 (d__law_taken (f__law_done n)) := rfl
theorem f__law_done_succ (n : Nat) : f__law_done (n + 1) = runFn 3 4 (d__law_done (f__law_taken n)) := rfl
noncomputable def d__law_right : DSt := (sSeq (sFor (.nm 2) (iRange1 (eC (.int 2)))
    (sSeq (sPar 3 4 (aCons (eMeth "Runs" "log" f_Runs_log (eVar 0) aNil) (aCons (eMeth "Runs" "paper" f_Runs_paper (eVar 0) aNil) aNil)))
    (sSeq (sIf (tOr2 (tB1 (e2 oNe (eN oRepr (aCons (eVar 3) aNil)) (eN oRepr (aCons (e2 oIx (eVar 1) (eC (.str "log"))) aNil)))) (tB1 (e2 oNe (eN oRepr (aCons (eVar 4) aNil)) (eN oRepr (aCons (e2 oIx (eVar 1) (eC (.str "paper"))) aNil))))) (sRet (eC (.bl false))) sNil)
    (sSeq (sExpr (eMk0 isLst oReverse (eVar 3)))
    (sSeq (sExpr (eMk isLst oAppend (eVar 3) (aCons (eN oTup (aCons (eC (.str "end")) (aCons (eC (.int 1)) aNil))) aNil)))
    (sExpr (eMk0 isLst oClear (eVar 4))))))))
    (sRet (eC (.bl true))))
noncomputable def f__law_right : Fn := runFn 2 5 d__law_right
noncomputable def d_law : DSt := (sSeq (sAsg (.nm 1) (eCall f__law_pot (aCons (eVar 0) (aCons (eC (.int 0)) aNil))))
    (sSeq (sAsg (.nm 2) (eCall f__law_stock (aCons (eVar 1) aNil)))
    (sSeq (sAsg (.nm 3) (eCall f__law_dealt (aCons (eVar 1) (aCons (eVar 2) aNil))))
    (sSeq (sAsg (.nm 4) (eN oRepr (aCons (eVar 3) aNil)))
    (sSeq (sAsg (.nm 5) (eN oLst (aCons (eMake "Runs" f_Runs_init (aCons (eVar 3) aNil)) (aCons (eMake "Runs" f_Runs_init (aCons (eVar 3) aNil)) aNil))))
    (sSeq (sAsg (.nm 6) (eN oLst (aCons (eCall f__law_house (aCons (eVar 2) aNil)) (aCons (eCall f__law_house (aCons (eVar 2) aNil)) aNil))))
    (sSeq (sAsg (.nm 7) (eN oList (aCons (eVar 2) aNil)))
    (sSeq (sFor (.nm 8) (iE (e2 oAdd (eN oLst (aCons (eCall f__law_at (aCons (eVar 0) (aCons (eC (.int 1)) aNil))) aNil)) (eSl (eVar 0) (.at_ (eC (.int 2))) (.at_ (eC (.int 41))))))
    (sSeq (sAsg (.nm 9) (e2 oMod (e2 oFdiv (eVar 8) (eN oLen (aCons (eVar 7) aNil))) (eC (.int 2))))
    (sSeq (sAsg (.nm 10) (e2 oIx (eVar 7) (e2 oMod (eVar 8) (eN oLen (aCons (eVar 7) aNil)))))
    (sSeq (sAsg (.nm 11) (eN oLst (aCons (eMeth "Runs" "log" f_Runs_log (e2 oIx (eVar 5) (eVar 9)) aNil) (aCons (eMeth "Runs" "paper" f_Runs_paper (e2 oIx (eVar 5) (eVar 9)) aNil) aNil))))
    (sSeq (sAsg (.nm 12) (eN oRepr (aCons (eVar 11) aNil)))
    (sSeq (sIf (tB1 (e2 oNe (eN oRepr (aCons (eMeth "Runs" "take" f_Runs_take (e2 oIx (eVar 5) (eVar 9)) (aCons (eVar 10) aNil)) aNil)) (eN oRepr (aCons (eCall (f__law_taken 30) (aCons (e2 oIx (eVar 6) (eVar 9)) (aCons (eVar 10) aNil))) aNil)))) (sRet (eC (.bl false))) sNil)
    (sSeq (sIf (tOr2 (tB1 (e2 oEq (eN oRepr (aCons (eN oLst (aCons (eMeth "Runs" "log" f_Runs_log (e2 oIx (eVar 5) (eVar 9)) aNil) (aCons (eMeth "Runs" "paper" f_Runs_paper (e2 oIx (eVar 5) (eVar 9)) aNil) aNil))) aNil)) (eVar 12))) (tB1 (e2 oNe (eN oRepr (aCons (eVar 11) aNil)) (eVar 12)))) (sRet (eC (.bl false))) sNil)
    (sIf (tOr2 (tNot1 (tTru (eCall f__law_right (aCons (e2 oIx (eVar 5) (eVar 9)) (aCons (e2 oIx (eVar 6) (eVar 9)) aNil))))) (tNot1 (tTru (eCall f__law_right (aCons (e2 oIx (eVar 5) (e2 oSub (eC (.int 1)) (eVar 9))) (aCons (e2 oIx (eVar 6) (e2 oSub (eC (.int 1)) (eVar 9))) aNil)))))) (sRet (eC (.bl false))) sNil))))))))
    (sRet (e2 oEq (eN oRepr (aCons (eVar 3) aNil)) (eVar 4)))))))))))
noncomputable def f_law : Fn := runFn 1 13 d_law
structure Row (w : World) (K : PySem.W.Frag) (mg : Str → Option Value) (base : Heap) where
  d__law_at : FuncData
  F__law_at : FunD K "_law_at" "_law_at" (defArgs s__law_at) (defBody s__law_at) (defScope s__law_at) [] [] (He.fAd K ("_law_at", none)) d__law_at
  g__law_at : mg "_law_at" = some (.ref (He.fAd K ("_law_at", none)))
  d__law_pot : FuncData
  F__law_pot : FunD K "_law_pot" "_law_pot" (defArgs s__law_pot) (defBody s__law_pot) (defScope s__law_pot) [] [] (He.fAd K ("_law_pot", none)) d__law_pot
  g__law_pot : mg "_law_pot" = some (.ref (He.fAd K ("_law_pot", none)))
  d__law_draw : FuncData
  F__law_draw : FunD K "_law_draw" "_law_draw" (defArgs s__law_draw) (defBody s__law_draw) (defScope s__law_draw) [] [] (He.fAd K ("_law_draw", none)) d__law_draw
  g__law_draw : mg "_law_draw" = some (.ref (He.fAd K ("_law_draw", none)))
  d__law_name : FuncData
  F__law_name : FunD K "_law_name" "_law_name" (defArgs s__law_name) (defBody s__law_name) (defScope s__law_name) [] [] (He.fAd K ("_law_name", none)) d__law_name
  g__law_name : mg "_law_name" = some (.ref (He.fAd K ("_law_name", none)))
  d__law_number : FuncData
  F__law_number : FunD K "_law_number" "_law_number" (defArgs s__law_number) (defBody s__law_number) (defScope s__law_number) [] [] (He.fAd K ("_law_number", none)) d__law_number
  g__law_number : mg "_law_number" = some (.ref (He.fAd K ("_law_number", none)))
  d__law_row : FuncData
  F__law_row : FunD K "_law_row" "_law_row" (defArgs s__law_row) (defBody s__law_row) (defScope s__law_row) [] [] (He.fAd K ("_law_row", none)) d__law_row
  g__law_row : mg "_law_row" = some (.ref (He.fAd K ("_law_row", none)))
  d__law_stock : FuncData
  F__law_stock : FunD K "_law_stock" "_law_stock" (defArgs s__law_stock) (defBody s__law_stock) (defScope s__law_stock) [] [] (He.fAd K ("_law_stock", none)) d__law_stock
  g__law_stock : mg "_law_stock" = some (.ref (He.fAd K ("_law_stock", none)))
  d__law_dealt : FuncData
  F__law_dealt : FunD K "_law_dealt" "_law_dealt" (defArgs s__law_dealt) (defBody s__law_dealt) (defScope s__law_dealt) [] [] (He.fAd K ("_law_dealt", none)) d__law_dealt
  g__law_dealt : mg "_law_dealt" = some (.ref (He.fAd K ("_law_dealt", none)))
  d_is_name : FuncData
  F_is_name : FunD K "is_name" "is_name" (defArgs s_is_name) (defBody s_is_name) (defScope s_is_name) [] [] (He.fAd K ("is_name", none)) d_is_name
  g_is_name : mg "is_name" = some (.ref (He.fAd K ("is_name", none)))
  d_is_path : FuncData
  F_is_path : FunD K "is_path" "is_path" (defArgs s_is_path) (defBody s_is_path) (defScope s_is_path) [] [] (He.fAd K ("is_path", none)) d_is_path
  g_is_path : mg "is_path" = some (.ref (He.fAd K ("is_path", none)))
  d_begins_with_text : FuncData
  F_begins_with_text : FunD K "begins_with_text" "begins_with_text" (defArgs s_begins_with_text) (defBody s_begins_with_text) (defScope s_begins_with_text) [] [] (He.fAd K ("begins_with_text", none)) d_begins_with_text
  g_begins_with_text : mg "begins_with_text" = some (.ref (He.fAd K ("begins_with_text", none)))
  d_is_whole : FuncData
  F_is_whole : FunD K "is_whole" "is_whole" (defArgs s_is_whole) (defBody s_is_whole) (defScope s_is_whole) [] [] (He.fAd K ("is_whole", none)) d_is_whole
  g_is_whole : mg "is_whole" = some (.ref (He.fAd K ("is_whole", none)))
  d_is_part : FuncData
  F_is_part : FunD K "is_part" "is_part" (defArgs s_is_part) (defBody s_is_part) (defScope s_is_part) [] [] (He.fAd K ("is_part", none)) d_is_part
  g_is_part : mg "is_part" = some (.ref (He.fAd K ("is_part", none)))
  d_is_line : FuncData
  F_is_line : FunD K "is_line" "is_line" (defArgs s_is_line) (defBody s_is_line) (defScope s_is_line) [] [] (He.fAd K ("is_line", none)) d_is_line
  g_is_line : mg "is_line" = some (.ref (He.fAd K ("is_line", none)))
  d_is_word : FuncData
  F_is_word : FunD K "is_word" "is_word" (defArgs s_is_word) (defBody s_is_word) (defScope s_is_word) [] [] (He.fAd K ("is_word", none)) d_is_word
  g_is_word : mg "is_word" = some (.ref (He.fAd K ("is_word", none)))
  d_are_words : FuncData
  F_are_words : FunD K "are_words" "are_words" (defArgs s_are_words) (defBody s_are_words) (defScope s_are_words) [] [] (He.fAd K ("are_words", none)) d_are_words
  g_are_words : mg "are_words" = some (.ref (He.fAd K ("are_words", none)))
  d_room_behind_rows : FuncData
  F_room_behind_rows : FunD K "room_behind_rows" "room_behind_rows" (defArgs s_room_behind_rows) (defBody s_room_behind_rows) (defScope s_room_behind_rows) [] [] (He.fAd K ("room_behind_rows", none)) d_room_behind_rows
  g_room_behind_rows : mg "room_behind_rows" = some (.ref (He.fAd K ("room_behind_rows", none)))
  d_room_behind_row : FuncData
  F_room_behind_row : FunD K "room_behind_row" "room_behind_row" (defArgs s_room_behind_row) (defBody s_room_behind_row) (defScope s_room_behind_row) [] [] (He.fAd K ("room_behind_row", none)) d_room_behind_row
  g_room_behind_row : mg "room_behind_row" = some (.ref (He.fAd K ("room_behind_row", none)))
  d_is_body : FuncData
  F_is_body : FunD K "is_body" "is_body" (defArgs s_is_body) (defBody s_is_body) (defScope s_is_body) [] [] (He.fAd K ("is_body", none)) d_is_body
  g_is_body : mg "is_body" = some (.ref (He.fAd K ("is_body", none)))
  d_check_finders : FuncData
  F_check_finders : FunD K "check_finders" "check_finders" (defArgs s_check_finders) (defBody s_check_finders) (defScope s_check_finders) [] [] (He.fAd K ("check_finders", none)) d_check_finders
  g_check_finders : mg "check_finders" = some (.ref (He.fAd K ("check_finders", none)))
  d_Runs_init : FuncData
  F_Runs_init : FunD K "__init__" "Runs.__init__" (defArgs s_Runs_init) (defBody s_Runs_init) (defScope s_Runs_init) [] [] (He.fAd K ("Runs", some "__init__")) d_Runs_init
  d__law_house : FuncData
  F__law_house : FunD K "_law_house" "_law_house" (defArgs s__law_house) (defBody s__law_house) (defScope s__law_house) [] [] (He.fAd K ("_law_house", none)) d__law_house
  g__law_house : mg "_law_house" = some (.ref (He.fAd K ("_law_house", none)))
  d_Runs_paper : FuncData
  F_Runs_paper : FunD K "paper" "Runs.paper" (defArgs s_Runs_paper) (defBody s_Runs_paper) (defScope s_Runs_paper) [] [] (He.fAd K ("Runs", some "paper")) d_Runs_paper
  d_Runs_log : FuncData
  F_Runs_log : FunD K "log" "Runs.log" (defArgs s_Runs_log) (defBody s_Runs_log) (defScope s_Runs_log) [] [] (He.fAd K ("Runs", some "log")) d_Runs_log
  d_check_path : FuncData
  F_check_path : FunD K "check_path" "check_path" (defArgs s_check_path) (defBody s_check_path) (defScope s_check_path) [] [] (He.fAd K ("check_path", none)) d_check_path
  g_check_path : mg "check_path" = some (.ref (He.fAd K ("check_path", none)))
  d_Runs_body_at : FuncData
  F_Runs_body_at : FunD K "body_at" "Runs.body_at" (defArgs s_Runs_body_at) (defBody s_Runs_body_at) (defScope s_Runs_body_at) [] [] (He.fAd K ("Runs", some "body_at")) d_Runs_body_at
  d_Module_init : FuncData
  F_Module_init : FunD K "__init__" "Module.__init__" (defArgs s_Module_init) (defBody s_Module_init) (defScope s_Module_init) [] [] (He.fAd K ("Module", some "__init__")) d_Module_init
  d_Runs_write_down : FuncData
  F_Runs_write_down : FunD K "write_down" "Runs.write_down" (defArgs s_Runs_write_down) (defBody s_Runs_write_down) (defScope s_Runs_write_down) [] [] (He.fAd K ("Runs", some "write_down")) d_Runs_write_down
  d_Module_bind : FuncData
  F_Module_bind : FunD K "bind" "Module.bind" (defArgs s_Module_bind) (defBody s_Module_bind) (defScope s_Module_bind) [] [] (He.fAd K ("Module", some "bind")) d_Module_bind
  d_Runs_running : FuncData
  F_Runs_running : FunD K "running" "Runs.running" (defArgs s_Runs_running) (defBody s_Runs_running) (defScope s_Runs_running) [] [] (He.fAd K ("Runs", some "running")) d_Runs_running
  d_Module_bound : FuncData
  F_Module_bound : FunD K "bound" "Module.bound" (defArgs s_Module_bound) (defBody s_Module_bound) (defScope s_Module_bound) [] [] (He.fAd K ("Module", some "bound")) d_Module_bound
  d_Runs_note : FuncData
  F_Runs_note : FunD K "note" "Runs.note" (defArgs s_Runs_note) (defBody s_Runs_note) (defScope s_Runs_note) [] [] (He.fAd K ("Runs", some "note")) d_Runs_note
  d_Runs_taken : FuncData
  F_Runs_taken : FunD K "taken" "Runs.taken" (defArgs s_Runs_taken) (defBody s_Runs_taken) (defScope s_Runs_taken) [] [] (He.fAd K ("Runs", some "taken")) d_Runs_taken
  d_Runs_taken_alone : FuncData
  F_Runs_taken_alone : FunD K "taken_alone" "Runs.taken_alone" (defArgs s_Runs_taken_alone) (defBody s_Runs_taken_alone) (defScope s_Runs_taken_alone) [] [] (He.fAd K ("Runs", some "taken_alone")) d_Runs_taken_alone
  d_Runs_begin : FuncData
  F_Runs_begin : FunD K "begin" "Runs.begin" (defArgs s_Runs_begin) (defBody s_Runs_begin) (defScope s_Runs_begin) [] [] (He.fAd K ("Runs", some "begin")) d_Runs_begin
  d_Runs_run : FuncData
  F_Runs_run : FunD K "run" "Runs.run" (defArgs s_Runs_run) (defBody s_Runs_run) (defScope s_Runs_run) [] [] (He.fAd K ("Runs", some "run")) d_Runs_run
  d_Runs_do_row : FuncData
  F_Runs_do_row : FunD K "do_row" "Runs.do_row" (defArgs s_Runs_do_row) (defBody s_Runs_do_row) (defScope s_Runs_do_row) [] [] (He.fAd K ("Runs", some "do_row")) d_Runs_do_row
  d_Runs_do : FuncData
  F_Runs_do : FunD K "do" "Runs.do" (defArgs s_Runs_do) (defBody s_Runs_do) (defScope s_Runs_do) [] [] (He.fAd K ("Runs", some "do")) d_Runs_do
  d_Runs_take : FuncData
  F_Runs_take : FunD K "take" "Runs.take" (defArgs s_Runs_take) (defBody s_Runs_take) (defScope s_Runs_take) [] [] (He.fAd K ("Runs", some "take")) d_Runs_take
  d__law_taken : FuncData
  F__law_taken : FunD K "_law_taken" "_law_taken" (defArgs s__law_taken) (defBody s__law_taken) (defScope s__law_taken) [] [] (He.fAd K ("_law_taken", none)) d__law_taken
  g__law_taken : mg "_law_taken" = some (.ref (He.fAd K ("_law_taken", none)))
  d__law_done : FuncData
  F__law_done : FunD K "_law_done" "_law_done" (defArgs s__law_done) (defBody s__law_done) (defScope s__law_done) [] [] (He.fAd K ("_law_done", none)) d__law_done
  g__law_done : mg "_law_done" = some (.ref (He.fAd K ("_law_done", none)))
  d__law_right : FuncData
  F__law_right : FunD K "_law_right" "_law_right" (defArgs s__law_right) (defBody s__law_right) (defScope s__law_right) [] [] (He.fAd K ("_law_right", none)) d__law_right
  g__law_right : mg "_law_right" = some (.ref (He.fAd K ("_law_right", none)))
  d_law : FuncData
  F_law : FunD K "law" "law" (defArgs s_law) (defBody s_law) (defScope s_law) [] [] (He.fAd K ("law", none)) d_law
  g_law : mg "law" = some (.ref (He.fAd K ("law", none)))
  m_all : mg "all" = none
  m_bool : mg "bool" = none
  m_dict : mg "dict" = none
  m_divmod : mg "divmod" = none
  m_enumerate : mg "enumerate" = none
  m_int : mg "int" = none
  m_isinstance : mg "isinstance" = none
  m_len : mg "len" = none
  m_list : mg "list" = none
  m_max : mg "max" = none
  m_range : mg "range" = none
  m_repr : mg "repr" = none
  m_set : mg "set" = none
  m_sorted : mg "sorted" = none
  m_str : mg "str" = none
  m_tuple : mg "tuple" = none
  m_zip : mg "zip" = none
  i_LETTERS_AT_MOST : ∃ t, mg "LETTERS_AT_MOST" = some (.int 8 t)
  i_NAMES_AT_MOST : ∃ t, mg "NAMES_AT_MOST" = some (.int 4 t)
  i_ROWS_AT_MOST : ∃ t, mg "ROWS_AT_MOST" = some (.int 40 t)
  i_TRIES_AT_MOST : ∃ t, mg "TRIES_AT_MOST" = some (.int 3 t)
  g_GREAT_WORDS : mg "GREAT_WORDS" = some (.ref (He.ga K "GREAT_WORDS"))
  t_GREAT_WORDS : ∀ ρ H, RD (Γ K) ρ H (.ref (He.ga K "GREAT_WORDS")) k_GREAT_WORDS
  g_PARTS : mg "PARTS" = some (.ref (He.ga K "PARTS"))
  k_PARTS : KDic (Γ K) w (He.ga K "PARTS") tb_PARTS
  cl_Module : Cls K (He.ga K "Module")
  cl_Runs : Cls K (He.ga K "Runs")
  gc_Module : mg "Module" = some (.ref (He.ga K "Module"))
  mk_Module : Mk K (He.ga K "Module") (He.fAd K ("Module", some "__init__"))
  gc_Runs : mg "Runs" = some (.ref (He.ga K "Runs"))
  mk_Runs : Mk K (He.ga K "Runs") (He.fAd K ("Runs", some "__init__"))
  mt_Module_bind : Meth K (He.ga K "Module") "bind" (He.fAd K ("Module", some "bind"))
  mt_Module_bound : Meth K (He.ga K "Module") "bound" (He.fAd K ("Module", some "bound"))
  mt_Runs_begin : Meth K (He.ga K "Runs") "begin" (He.fAd K ("Runs", some "begin"))
  mt_Runs_body_at : Meth K (He.ga K "Runs") "body_at" (He.fAd K ("Runs", some "body_at"))
  mt_Runs_do : Meth K (He.ga K "Runs") "do" (He.fAd K ("Runs", some "do"))
  mt_Runs_do_row : Meth K (He.ga K "Runs") "do_row" (He.fAd K ("Runs", some "do_row"))
  mt_Runs_log : Meth K (He.ga K "Runs") "log" (He.fAd K ("Runs", some "log"))
  mt_Runs_note : Meth K (He.ga K "Runs") "note" (He.fAd K ("Runs", some "note"))
  mt_Runs_paper : Meth K (He.ga K "Runs") "paper" (He.fAd K ("Runs", some "paper"))
  mt_Runs_run : Meth K (He.ga K "Runs") "run" (He.fAd K ("Runs", some "run"))
  mt_Runs_running : Meth K (He.ga K "Runs") "running" (He.fAd K ("Runs", some "running"))
  mt_Runs_take : Meth K (He.ga K "Runs") "take" (He.fAd K ("Runs", some "take"))
  mt_Runs_taken : Meth K (He.ga K "Runs") "taken" (He.fAd K ("Runs", some "taken"))
  mt_Runs_taken_alone : Meth K (He.ga K "Runs") "taken_alone" (He.fAd K ("Runs", some "taken_alone"))
  mt_Runs_write_down : Meth K (He.ga K "Runs") "write_down" (He.fAd K ("Runs", some "write_down"))
  na_Module_begun : NoAttr K (He.ga K "Module") "begun"
  na_Module_chain : NoAttr K (He.ga K "Module") "chain"
  na_Module_entries : NoAttr K (He.ga K "Module") "entries"
  na_Module_failed : NoAttr K (He.ga K "Module") "failed"
  na_Module_fallen : NoAttr K (He.ga K "Module") "fallen"
  na_Module_finders : NoAttr K (He.ga K "Module") "finders"
  na_Module_modules : NoAttr K (He.ga K "Module") "modules"
  na_Module_number : NoAttr K (He.ga K "Module") "number"
  na_Module_path : NoAttr K (He.ga K "Module") "path"
  na_Module_standing : NoAttr K (He.ga K "Module") "standing"
  na_Module_things : NoAttr K (He.ga K "Module") "things"
  na_Runs_begun : NoAttr K (He.ga K "Runs") "begun"
  na_Runs_chain : NoAttr K (He.ga K "Runs") "chain"
  na_Runs_entries : NoAttr K (He.ga K "Runs") "entries"
  na_Runs_failed : NoAttr K (He.ga K "Runs") "failed"
  na_Runs_fallen : NoAttr K (He.ga K "Runs") "fallen"
  na_Runs_finders : NoAttr K (He.ga K "Runs") "finders"
  na_Runs_modules : NoAttr K (He.ga K "Runs") "modules"
  na_Runs_number : NoAttr K (He.ga K "Runs") "number"
  na_Runs_path : NoAttr K (He.ga K "Runs") "path"
  na_Runs_standing : NoAttr K (He.ga K "Runs") "standing"
  na_Runs_things : NoAttr K (He.ga K "Runs") "things"
  T_is_name : GxR.TabB base mg (He.cT K ("is_name", none)).1 (He.cT K ("is_name", none)).2
  T_is_path : GxR.TabB base mg (He.cT K ("is_path", none)).1 (He.cT K ("is_path", none)).2
  T_is_line : GxR.TabB base mg (He.cT K ("is_line", none)).1 (He.cT K ("is_line", none)).2
  T_are_words : GxR.TabB base mg (He.cT K ("are_words", none)).1 (He.cT K ("are_words", none)).2
  T_check_finders : GxR.TabB base mg (He.cT K ("check_finders", none)).1 (He.cT K ("check_finders", none)).2
  sys : ∃ o, K.lookup sysModules = some o
section
variable {P : Program} {w : World} {K : PySem.W.Frag} {mg : Str → Option Value} {base : Heap}
theorem Row.b__law_at (R : Row w K mg base) : Binds K R.d__law_at ["_law_script", "_law_k"] [] := R.F__law_at.bindsN fun _ _ _ _ _ _ us hl => match us, hl with | [_, _], _ => rfl
theorem Row.b__law_pot (R : Row w K mg base) : Binds K R.d__law_pot ["_law_script", "_law_k"] [] := R.F__law_pot.bindsN fun _ _ _ _ _ _ us hl => match us, hl with | [_, _], _ => rfl
theorem Row.b__law_draw (R : Row w K mg base) : Binds K R.d__law_draw ["_law_pot_here", "_law_many"] [] := R.F__law_draw.bindsN fun _ _ _ _ _ _ us hl => match us, hl with | [_, _], _ => rfl
theorem Row.b__law_name (R : Row w K mg base) : Binds K R.d__law_name ["_law_pot_here", "_law_taken_here"] [] := R.F__law_name.bindsN fun _ _ _ _ _ _ us hl => match us, hl with | [_, _], _ => rfl
theorem Row.b__law_number (R : Row w K mg base) : Binds K R.d__law_number ["_law_pot_here"] [] := R.F__law_number.bindsN fun _ _ _ _ _ _ us hl => match us, hl with | [_], _ => rfl
theorem Row.b__law_row (R : Row w K mg base) : Binds K R.d__law_row ["_law_pot_here", "_law_paths", "_law_names"] [] := R.F__law_row.bindsN fun _ _ _ _ _ _ us hl => match us, hl with | [_, _, _], _ => rfl
theorem Row.b__law_stock (R : Row w K mg base) : Binds K R.d__law_stock ["_law_pot_here"] [] := R.F__law_stock.bindsN fun _ _ _ _ _ _ us hl => match us, hl with | [_], _ => rfl
theorem Row.b__law_dealt (R : Row w K mg base) : Binds K R.d__law_dealt ["_law_pot_here", "_law_stock_here"] [] := R.F__law_dealt.bindsN fun _ _ _ _ _ _ us hl => match us, hl with | [_, _], _ => rfl
theorem Row.b_is_name (R : Row w K mg base) : Binds K R.d_is_name ["thing"] [] := R.F_is_name.bindsN fun _ _ _ _ _ _ us hl => match us, hl with | [_], _ => rfl
theorem Row.b_is_path (R : Row w K mg base) : Binds K R.d_is_path ["thing"] [] := R.F_is_path.bindsN fun _ _ _ _ _ _ us hl => match us, hl with | [_], _ => rfl
theorem Row.b_begins_with_text (R : Row w K mg base) : Binds K R.d_begins_with_text ["thing"] [] := R.F_begins_with_text.bindsN fun _ _ _ _ _ _ us hl => match us, hl with | [_], _ => rfl
theorem Row.b_is_whole (R : Row w K mg base) : Binds K R.d_is_whole ["thing"] [] := R.F_is_whole.bindsN fun _ _ _ _ _ _ us hl => match us, hl with | [_], _ => rfl
theorem Row.b_is_part (R : Row w K mg base) : Binds K R.d_is_part ["thing", "kind"] [] := R.F_is_part.bindsN fun _ _ _ _ _ _ us hl => match us, hl with | [_, _], _ => rfl
theorem Row.b_is_line (R : Row w K mg base) : Binds K R.d_is_line ["row"] [] := R.F_is_line.bindsN fun _ _ _ _ _ _ us hl => match us, hl with | [_], _ => rfl
theorem Row.b_is_word (R : Row w K mg base) : Binds K R.d_is_word ["thing"] [] := R.F_is_word.bindsN fun _ _ _ _ _ _ us hl => match us, hl with | [_], _ => rfl
theorem Row.b_are_words (R : Row w K mg base) : Binds K R.d_are_words ["thing"] [] := R.F_are_words.bindsN fun _ _ _ _ _ _ us hl => match us, hl with | [_], _ => rfl
theorem Row.b_room_behind_rows (R : Row w K mg base) : Binds K R.d_room_behind_rows ["rows", "room", "tries"] [] := R.F_room_behind_rows.bindsN fun _ _ _ _ _ _ us hl => match us, hl with | [_, _, _], _ => rfl
theorem Row.b_room_behind_row (R : Row w K mg base) : Binds K R.d_room_behind_row ["row", "room", "tries"] [] := R.F_room_behind_row.bindsN fun _ _ _ _ _ _ us hl => match us, hl with | [_, _, _], _ => rfl
theorem Row.b_is_body (R : Row w K mg base) : Binds K R.d_is_body ["thing"] [] := R.F_is_body.bindsN fun _ _ _ _ _ _ us hl => match us, hl with | [_], _ => rfl
theorem Row.b_check_finders (R : Row w K mg base) : Binds K R.d_check_finders ["finders"] [] := R.F_check_finders.bindsN fun _ _ _ _ _ _ us hl => match us, hl with | [_], _ => rfl
theorem Row.b_Runs_init (R : Row w K mg base) : Binds K R.d_Runs_init ["self", "finders"] [] := R.F_Runs_init.bindsN fun _ _ _ _ _ _ us hl => match us, hl with | [_, _], _ => rfl
theorem Row.b__law_house (R : Row w K mg base) : Binds K R.d__law_house ["_law_stock_here"] [] := R.F__law_house.bindsN fun _ _ _ _ _ _ us hl => match us, hl with | [_], _ => rfl
theorem Row.b_Runs_paper (R : Row w K mg base) : Binds K R.d_Runs_paper ["self"] [] := R.F_Runs_paper.bindsN fun _ _ _ _ _ _ us hl => match us, hl with | [_], _ => rfl
theorem Row.b_Runs_log (R : Row w K mg base) : Binds K R.d_Runs_log ["self"] [] := R.F_Runs_log.bindsN fun _ _ _ _ _ _ us hl => match us, hl with | [_], _ => rfl
theorem Row.b_check_path (R : Row w K mg base) : Binds K R.d_check_path ["path"] [] := R.F_check_path.bindsN fun _ _ _ _ _ _ us hl => match us, hl with | [_], _ => rfl
theorem Row.b_Runs_body_at (R : Row w K mg base) : Binds K R.d_Runs_body_at ["self", "path"] [] := R.F_Runs_body_at.bindsN fun _ _ _ _ _ _ us hl => match us, hl with | [_, _], _ => rfl
theorem Row.b_Module_init (R : Row w K mg base) : Binds K R.d_Module_init ["self", "number", "path"] [] := R.F_Module_init.bindsN fun _ _ _ _ _ _ us hl => match us, hl with | [_, _, _], _ => rfl
theorem Row.b_Runs_write_down (R : Row w K mg base) : Binds K R.d_Runs_write_down ["self", "module"] [] := R.F_Runs_write_down.bindsN fun _ _ _ _ _ _ us hl => match us, hl with | [_, _], _ => rfl
theorem Row.b_Module_bind (R : Row w K mg base) : Binds K R.d_Module_bind ["self", "name", "thing"] [] := R.F_Module_bind.bindsN fun _ _ _ _ _ _ us hl => match us, hl with | [_, _, _], _ => rfl
theorem Row.b_Runs_running (R : Row w K mg base) : Binds K R.d_Runs_running ["self"] [] := R.F_Runs_running.bindsN fun _ _ _ _ _ _ us hl => match us, hl with | [_], _ => rfl
theorem Row.b_Module_bound (R : Row w K mg base) : Binds K R.d_Module_bound ["self"] [] := R.F_Module_bound.bindsN fun _ _ _ _ _ _ us hl => match us, hl with | [_], _ => rfl
theorem Row.b_Runs_note (R : Row w K mg base) : Binds K R.d_Runs_note ["self", "path"] [] := R.F_Runs_note.bindsN fun _ _ _ _ _ _ us hl => match us, hl with | [_, _], _ => rfl
theorem Row.b_Runs_taken (R : Row w K mg base) : Binds K R.d_Runs_taken ["self", "path"] [] := R.F_Runs_taken.bindsN fun _ _ _ _ _ _ us hl => match us, hl with | [_, _], _ => rfl
theorem Row.b_Runs_taken_alone (R : Row w K mg base) : Binds K R.d_Runs_taken_alone ["self", "path"] [] := R.F_Runs_taken_alone.bindsN fun _ _ _ _ _ _ us hl => match us, hl with | [_, _], _ => rfl
theorem Row.b_Runs_begin (R : Row w K mg base) : Binds K R.d_Runs_begin ["self", "path", "body"] [] := R.F_Runs_begin.bindsN fun _ _ _ _ _ _ us hl => match us, hl with | [_, _, _], _ => rfl
theorem Row.b_Runs_run (R : Row w K mg base) : Binds K R.d_Runs_run ["self", "word", "module", "body"] [] := R.F_Runs_run.bindsN fun _ _ _ _ _ _ us hl => match us, hl with | [_, _, _, _], _ => rfl
theorem Row.b_Runs_do_row (R : Row w K mg base) : Binds K R.d_Runs_do_row ["self", "row"] [] := R.F_Runs_do_row.bindsN fun _ _ _ _ _ _ us hl => match us, hl with | [_, _], _ => rfl
theorem Row.b_Runs_do (R : Row w K mg base) : Binds K R.d_Runs_do ["self", "row"] [] := R.F_Runs_do.bindsN fun _ _ _ _ _ _ us hl => match us, hl with | [_, _], _ => rfl
theorem Row.b_Runs_take (R : Row w K mg base) : Binds K R.d_Runs_take ["self", "path"] [] := R.F_Runs_take.bindsN fun _ _ _ _ _ _ us hl => match us, hl with | [_, _], _ => rfl
theorem Row.b__law_taken (R : Row w K mg base) : Binds K R.d__law_taken ["_law_house_here", "_law_path"] [] := R.F__law_taken.bindsN fun _ _ _ _ _ _ us hl => match us, hl with | [_, _], _ => rfl
theorem Row.b__law_done (R : Row w K mg base) : Binds K R.d__law_done ["_law_house_here", "_law_number_here", "_law_row_here"] [] := R.F__law_done.bindsN fun _ _ _ _ _ _ us hl => match us, hl with | [_, _, _], _ => rfl
theorem Row.b__law_right (R : Row w K mg base) : Binds K R.d__law_right ["_law_house_here", "_law_own"] [] := R.F__law_right.bindsN fun _ _ _ _ _ _ us hl => match us, hl with | [_, _], _ => rfl
theorem Row.b_law (R : Row w K mg base) : Binds K R.d_law ["_law_script"] [] := R.F_law.bindsN fun _ _ _ _ _ _ us hl => match us, hl with | [_], _ => rfl
theorem Row.c_begun (R : Row w K mg base) : ClsOk (Γ K) "begun" := fun c C h => by
  have h : clsOf K c = some C := h
  unfold clsOf at h
  split at h
  · cases h
    exact ⟨R.cl_Module, R.na_Module_begun⟩
  split at h
  · cases h
    exact ⟨R.cl_Runs, R.na_Runs_begun⟩
  cases h
theorem Row.c_chain (R : Row w K mg base) : ClsOk (Γ K) "chain" := fun c C h => by
  have h : clsOf K c = some C := h
  unfold clsOf at h
  split at h
  · cases h
    exact ⟨R.cl_Module, R.na_Module_chain⟩
  split at h
  · cases h
    exact ⟨R.cl_Runs, R.na_Runs_chain⟩
  cases h
theorem Row.c_entries (R : Row w K mg base) : ClsOk (Γ K) "entries" := fun c C h => by
  have h : clsOf K c = some C := h
  unfold clsOf at h
  split at h
  · cases h
    exact ⟨R.cl_Module, R.na_Module_entries⟩
  split at h
  · cases h
    exact ⟨R.cl_Runs, R.na_Runs_entries⟩
  cases h
theorem Row.c_failed (R : Row w K mg base) : ClsOk (Γ K) "failed" := fun c C h => by
  have h : clsOf K c = some C := h
  unfold clsOf at h
  split at h
  · cases h
    exact ⟨R.cl_Module, R.na_Module_failed⟩
  split at h
  · cases h
    exact ⟨R.cl_Runs, R.na_Runs_failed⟩
  cases h
theorem Row.c_fallen (R : Row w K mg base) : ClsOk (Γ K) "fallen" := fun c C h => by
  have h : clsOf K c = some C := h
  unfold clsOf at h
  split at h
  · cases h
    exact ⟨R.cl_Module, R.na_Module_fallen⟩
  split at h
  · cases h
    exact ⟨R.cl_Runs, R.na_Runs_fallen⟩
  cases h
theorem Row.c_finders (R : Row w K mg base) : ClsOk (Γ K) "finders" := fun c C h => by
  have h : clsOf K c = some C := h
  unfold clsOf at h
  split at h
  · cases h
    exact ⟨R.cl_Module, R.na_Module_finders⟩
  split at h
  · cases h
    exact ⟨R.cl_Runs, R.na_Runs_finders⟩
  cases h
theorem Row.c_modules (R : Row w K mg base) : ClsOk (Γ K) "modules" := fun c C h => by
  have h : clsOf K c = some C := h
  unfold clsOf at h
  split at h
  · cases h
    exact ⟨R.cl_Module, R.na_Module_modules⟩
  split at h
  · cases h
    exact ⟨R.cl_Runs, R.na_Runs_modules⟩
  cases h
theorem Row.c_number (R : Row w K mg base) : ClsOk (Γ K) "number" := fun c C h => by
  have h : clsOf K c = some C := h
  unfold clsOf at h
  split at h
  · cases h
    exact ⟨R.cl_Module, R.na_Module_number⟩
  split at h
  · cases h
    exact ⟨R.cl_Runs, R.na_Runs_number⟩
  cases h
theorem Row.c_path (R : Row w K mg base) : ClsOk (Γ K) "path" := fun c C h => by
  have h : clsOf K c = some C := h
  unfold clsOf at h
  split at h
  · cases h
    exact ⟨R.cl_Module, R.na_Module_path⟩
  split at h
  · cases h
    exact ⟨R.cl_Runs, R.na_Runs_path⟩
  cases h
theorem Row.c_standing (R : Row w K mg base) : ClsOk (Γ K) "standing" := fun c C h => by
  have h : clsOf K c = some C := h
  unfold clsOf at h
  split at h
  · cases h
    exact ⟨R.cl_Module, R.na_Module_standing⟩
  split at h
  · cases h
    exact ⟨R.cl_Runs, R.na_Runs_standing⟩
  cases h
theorem Row.c_things (R : Row w K mg base) : ClsOk (Γ K) "things" := fun c C h => by
  have h : clsOf K c = some C := h
  unfold clsOf at h
  split at h
  · cases h
    exact ⟨R.cl_Module, R.na_Module_things⟩
  split at h
  · cases h
    exact ⟨R.cl_Runs, R.na_Runs_things⟩
  cases h
theorem Row.I_is_name (_ : Row w K mg base) : (He.cT K ("is_name", none)).2 ∈ (Γ K).Ps := List.mem_map.mpr ⟨_, List.mem_map.mpr ⟨("is_name", none), by decide, rfl⟩, rfl⟩
theorem Row.I_is_path (_ : Row w K mg base) : (He.cT K ("is_path", none)).2 ∈ (Γ K).Ps := List.mem_map.mpr ⟨_, List.mem_map.mpr ⟨("is_path", none), by decide, rfl⟩, rfl⟩
theorem Row.I_is_line (_ : Row w K mg base) : (He.cT K ("is_line", none)).2 ∈ (Γ K).Ps := List.mem_map.mpr ⟨_, List.mem_map.mpr ⟨("is_line", none), by decide, rfl⟩, rfl⟩
theorem Row.I_are_words (_ : Row w K mg base) : (He.cT K ("are_words", none)).2 ∈ (Γ K).Ps := List.mem_map.mpr ⟨_, List.mem_map.mpr ⟨("are_words", none), by decide, rfl⟩, rfl⟩
theorem Row.I_check_finders (_ : Row w K mg base) : (He.cT K ("check_finders", none)).2 ∈ (Γ K).Ps := List.mem_map.mpr ⟨_, List.mem_map.mpr ⟨("check_finders", none), by decide, rfl⟩, rfl⟩
theorem ok__law_at (R : Row w K mg base) : FnG P w K mg base (L2N.CX P w) 1 (He.fAd K ("_law_at", none)) R.d__law_at ["_law_script", "_law_k"] (spD (Γ K) f__law_at) :=
  fnD rfl R.F__law_at sc__law_at fun cdv A outer s H E hcd hr hgd => (ds_one (ds_ret (de_if (dt_lt (dv 1) (de_len rfl (by rfl) R.m_len (dv 0))) (de_ix rfl (Room.u64 hr) (dv 0) (dv 1) (fun _ _ => rfl)) de_int)))
theorem ok__law_pot (R : Row w K mg base) : FnG P w K mg base (L2N.CX P w) 2 (He.fAd K ("_law_pot", none)) R.d__law_pot ["_law_script", "_law_k"] (spD (Γ K) f__law_pot) :=
  fnD rfl R.F__law_pot sc__law_pot fun cdv A outer s H E hcd hr hgd => (ds_cons (ds_set (n := 2) sc__law_pot.nd rfl (by first | exact .inl rfl | exact .inr rfl) (de_call (ok__law_at R) (Room.mono hr (by omega)) hgd (by rfl) R.g__law_at R.F__law_at.kp R.b__law_at (L2N.takes_of rfl rfl rfl rfl) (da_cons (dv 0) (da_cons (dv 1) da_nil))))
    (ds_one (ds_ret (de_lst (da_cons (de_max rfl (by rfl) R.m_max de_int (de_sub (dv 2) (de_pow de_int de_int))) (da_cons (de_add rfl (de_mod (de_pow (de_add rfl (de_mod (dv 2) de_int) (de_mul rfl de_int (de_add rfl (dv 1) de_int))) de_int) de_int) de_int) da_nil))))))
theorem ok__law_draw (R : Row w K mg base) : FnG P w K mg base (L2N.CX P w) 1 (He.fAd K ("_law_draw", none)) R.d__law_draw ["_law_pot_here", "_law_many"] (spD (Γ K) f__law_draw) :=
  fnD rfl R.F__law_draw sc__law_draw fun cdv A outer s H E hcd hr hgd => (ds_cons (ds_if (dt_gt (de_ix rfl (Room.u64 hr) (dv 0) de_int (fun _ _ => rfl)) de_int) (ds_cons (ds_subNm (n := 2) rfl rfl sc__law_draw.nd rfl (by first | exact .inl rfl | exact .inr rfl) (dv 0) de_int (de_divmod  (by rfl) R.m_divmod (de_ix rfl (Room.u64 hr) (dv 0) de_int (fun _ _ => rfl)) (dv 1)))
    (ds_one (ds_ret (dv 2)))) ds_nil)
    (ds_cons (ds_put (Room.u64 hr) (dv 0) de_int (de_mod (de_add rfl (de_mul rfl (de_ix rfl (Room.u64 hr) (dv 0) de_int (fun _ _ => rfl)) de_int) de_int) de_int))
    (ds_one (ds_ret (de_mod (de_fdiv (de_mod (de_mul rfl (de_ix rfl (Room.u64 hr) (dv 0) de_int (fun _ _ => rfl)) (de_ix rfl (Room.u64 hr) (dv 0) de_int (fun _ _ => rfl))) de_int) de_int) (dv 1))))))
theorem ok__law_name (R : Row w K mg base) : FnG P w K mg base (L2N.CX P w) 2 (He.fAd K ("_law_name", none)) R.d__law_name ["_law_pot_here", "_law_taken_here"] (spD (Γ K) f__law_name) :=
  fnD rfl R.F__law_name sc__law_name fun cdv A outer s H E hcd hr hgd => (ds_cons (ds_set (n := 2) sc__law_name.nd rfl (by first | exact .inl rfl | exact .inr rfl) de_str)
    (ds_cons (ds_set (n := 3) sc__law_name.nd rfl (by first | exact .inl rfl | exact .inr rfl) (de_join rfl de_str (de_lc (own := [("_law_k", 5)]) rfl rfl sc__law_name.nd (di_range1 (by rfl) R.m_range (de_add rfl de_int (de_mul rfl (de_call (ok__law_draw R) (Room.mono hr (by omega)) hgd (by rfl) R.g__law_draw R.F__law_draw.kp R.b__law_draw (L2N.takes_of rfl rfl rfl rfl) (da_cons (dv 0) (da_cons de_int da_nil))) (de_call (ok__law_draw R) (Room.mono hr (by omega)) hgd (by rfl) R.g__law_draw R.F__law_draw.kp R.b__law_draw (L2N.takes_of rfl rfl rfl rfl) (da_cons (dv 0) (da_cons de_int da_nil)))))) (blkOk_by (by rfl)) (fun _ _ _ _ _ => (pg_name (i := 5) sc__law_name.nd rfl (by first | exact .inl rfl | exact .inr rfl))) (fun _ _ _ _ _ => dts_nil) (fun _ _ _ _ _ => (de_ix rfl (Room.u64 hr) (dv 2) (de_call (ok__law_draw R) (Room.mono hr (by omega)) hgd (by rfl) R.g__law_draw R.F__law_draw.kp R.b__law_draw XT.takes_no (da_cons (dv 0) (da_cons de_int da_nil))) (fun _ _ => rfl))))))
    (ds_cons (ds_set (n := 4) sc__law_name.nd rfl (by first | exact .inl rfl | exact .inr rfl) (de_call (ok__law_draw R) (Room.mono hr (by omega)) hgd (by rfl) R.g__law_draw R.F__law_draw.kp R.b__law_draw (L2N.takes_of rfl rfl rfl rfl) (da_cons (dv 0) (da_cons de_int da_nil))))
    (ds_cons (ds_if (dt_eq rfl (Room.u64 hr) (dv 4) de_int) (ds_one (ds_set (n := 3) sc__law_name.nd rfl (by first | exact .inl rfl | exact .inr rfl) (de_ix rfl (Room.u64 hr) (de_lst (da_cons de_str (da_cons de_str (da_cons de_str (da_cons de_str (da_cons de_str (da_cons de_str (da_cons de_str (da_cons de_str (da_cons de_str (da_cons de_str da_nil))))))))))) (de_call (ok__law_draw R) (Room.mono hr (by omega)) hgd (by rfl) R.g__law_draw R.F__law_draw.kp R.b__law_draw (L2N.takes_of rfl rfl rfl rfl) (da_cons (dv 0) (da_cons de_int da_nil))) (fun _ _ => rfl)))) ds_nil)
    (ds_cons (ds_if (PW.pt (dt_and (dt_eq rfl (Room.u64 hr) (dv 4) de_int) (dt_and1 (dt_ne rfl (Room.u64 hr) (dv 1) (de_lst da_nil))))) (ds_one (ds_set (n := 3) sc__law_name.nd rfl (by first | exact .inl rfl | exact .inr rfl) (de_sl rfl (de_add rfl (de_ix rfl (Room.u64 hr) (dv 1) (de_neg de_int) (fun _ _ => rfl)) (dv 3)) do_none (do_some de_int)))) ds_nil)
    (ds_cons (ds_if (dt_in rfl (Room.u64 hr) (dv 3) (dv 1) (by rfl)) (ds_one (ds_set (n := 3) sc__law_name.nd rfl (by first | exact .inl rfl | exact .inr rfl) (de_ix rfl (Room.u64 hr) (de_lc (own := [("_law_letter", 6)]) rfl rfl sc__law_name.nd (di_E rfl (dv 2)) (blkOk_by (by rfl)) (fun _ _ _ _ _ => (pg_name (i := 6) sc__law_name.nd rfl (by first | exact .inl rfl | exact .inr rfl))) (fun _ _ _ _ _ => (dts_one (dt_nin rfl (Room.u64 hr) (dv 6) (dv 1) (by rfl)))) (fun _ _ _ _ _ => (dv 6))) de_int (fun _ _ => rfl)))) ds_nil)
    (ds_cons (ds_expr (de_append rfl (dv 1) (dv 3)))
    (ds_one (ds_ret (dv 3))))))))))
theorem ok__law_number (R : Row w K mg base) : FnG P w K mg base (L2N.CX P w) 2 (He.fAd K ("_law_number", none)) R.d__law_number ["_law_pot_here"] (spD (Γ K) f__law_number) :=
  fnD rfl R.F__law_number sc__law_number fun cdv A outer s H E hcd hr hgd => (ds_cons (ds_if (dt_eq rfl (Room.u64 hr) (de_call (ok__law_draw R) (Room.mono hr (by omega)) hgd (by rfl) R.g__law_draw R.F__law_draw.kp R.b__law_draw (L2N.takes_of rfl rfl rfl rfl) (da_cons (dv 0) (da_cons de_int da_nil))) de_int) (ds_one (ds_ret (de_add rfl (de_sub (de_call (ok__law_draw R) (Room.mono hr (by omega)) hgd (by rfl) R.g__law_draw R.F__law_draw.kp R.b__law_draw (L2N.takes_of rfl rfl rfl rfl) (da_cons (dv 0) (da_cons (de_sub (de_mul rfl de_int (de_pow de_int de_int)) de_int) da_nil))) (de_pow de_int de_int)) de_int))) ds_nil)
    (ds_one (ds_ret (de_sub (de_call (ok__law_draw R) (Room.mono hr (by omega)) hgd (by rfl) R.g__law_draw R.F__law_draw.kp R.b__law_draw (L2N.takes_of rfl rfl rfl rfl) (da_cons (dv 0) (da_cons de_int da_nil))) de_int))))
theorem ok__law_row (R : Row w K mg base) : FnG P w K mg base (L2N.CX P w) 3 (He.fAd K ("_law_row", none)) R.d__law_row ["_law_pot_here", "_law_paths", "_law_names"] (spD (Γ K) f__law_row) :=
  fnD rfl R.F__law_row sc__law_row fun cdv A outer s H E hcd hr hgd => (ds_cons (ds_set (n := 3) sc__law_row.nd rfl (by first | exact .inl rfl | exact .inr rfl) (de_call (ok__law_draw R) (Room.mono hr (by omega)) hgd (by rfl) R.g__law_draw R.F__law_draw.kp R.b__law_draw (L2N.takes_of rfl rfl rfl rfl) (da_cons (dv 0) (da_cons de_int da_nil))))
    (ds_cons (ds_set (n := 4) sc__law_row.nd rfl (by first | exact .inl rfl | exact .inr rfl) (de_ix rfl (Room.u64 hr) (dv 2) (de_call (ok__law_draw R) (Room.mono hr (by omega)) hgd (by rfl) R.g__law_draw R.F__law_draw.kp R.b__law_draw (L2N.takes_of rfl rfl rfl rfl) (da_cons (dv 0) (da_cons (de_len rfl (by rfl) R.m_len (dv 2)) da_nil))) (fun _ _ => rfl)))
    (ds_cons (ds_set (n := 5) sc__law_row.nd rfl (by first | exact .inl rfl | exact .inr rfl) (de_ix rfl (Room.u64 hr) (dv 1) (de_call (ok__law_draw R) (Room.mono hr (by omega)) hgd (by rfl) R.g__law_draw R.F__law_draw.kp R.b__law_draw (L2N.takes_of rfl rfl rfl rfl) (da_cons (dv 0) (da_cons (de_len rfl (by rfl) R.m_len (dv 1)) da_nil))) (fun _ _ => rfl)))
    (ds_cons (ds_if (dt_lt (dv 3) de_int) (ds_one (ds_ret (de_tup (da_cons de_str (da_cons (dv 4) (da_cons (de_call (ok__law_number R) (Room.mono hr (by omega)) hgd (by rfl) R.g__law_number R.F__law_number.kp R.b__law_number (L2N.takes_of rfl rfl rfl rfl) (da_cons (dv 0) da_nil)) da_nil)))))) ds_nil)
    (ds_cons (ds_if (dt_lt (dv 3) de_int) (ds_one (ds_ret (de_tup (da_cons de_str (da_cons (dv 4) (da_cons (dv 5) da_nil)))))) ds_nil)
    (ds_one (ds_ret (de_tup (da_cons de_str (da_cons (dv 5) da_nil))))))))))
theorem ok__law_stock (R : Row w K mg base) : FnG P w K mg base (L2N.CX P w) 4 (He.fAd K ("_law_stock", none)) R.d__law_stock ["_law_pot_here"] (spD (Γ K) f__law_stock) :=
  fnD rfl R.F__law_stock sc__law_stock fun cdv A outer s H E hcd hr hgd => (ds_cons (ds_set (n := 1) sc__law_stock.nd rfl (by first | exact .inl rfl | exact .inr rfl) (de_ix rfl (Room.u64 hr) (de_lst (da_cons de_int (da_cons de_int (da_cons de_int (da_cons de_int (da_cons de_int (da_cons de_int (da_cons de_int (da_cons de_int da_nil))))))))) (de_call (ok__law_draw R) (Room.mono hr (by omega)) hgd (by rfl) R.g__law_draw R.F__law_draw.kp R.b__law_draw (L2N.takes_of rfl rfl rfl rfl) (da_cons (dv 0) (da_cons de_int da_nil))) (fun _ _ => rfl)))
    (ds_cons (ds_set (n := 2) sc__law_stock.nd rfl (by first | exact .inl rfl | exact .inr rfl) (de_lst da_nil))
    (ds_cons (ds_for (t := (.nm 3)) rfl (L2.passes_of rfl) rfl (di_range1 (by rfl) R.m_range (de_add rfl de_int (de_call (ok__law_draw R) (Room.mono hr (by omega)) hgd (by rfl) R.g__law_draw R.F__law_draw.kp R.b__law_draw (L2N.takes_of rfl rfl rfl rfl) (da_cons (dv 0) (da_cons de_int da_nil))))) (pg_name (i := 3) sc__law_stock.nd rfl (by first | exact .inl rfl | exact .inr rfl))
    (ds_one (ds_expr (de_call (ok__law_name R) (Room.mono hr (by omega)) hgd (by rfl) R.g__law_name R.F__law_name.kp R.b__law_name (L2N.takes_of rfl rfl rfl rfl) (da_cons (dv 0) (da_cons (dv 2) da_nil))))))
    (ds_cons (ds_set (n := 4) sc__law_stock.nd rfl (by first | exact .inl rfl | exact .inr rfl) (de_list rfl rfl (by rfl) R.m_list (dv 2)))
    (ds_cons (ds_expr (de_call (ok__law_name R) (Room.mono hr (by omega)) hgd (by rfl) R.g__law_name R.F__law_name.kp R.b__law_name (L2N.takes_of rfl rfl rfl rfl) (da_cons (dv 0) (da_cons (dv 4) da_nil))))
    (ds_cons (ds_set (n := 5) sc__law_stock.nd rfl (by first | exact .inl rfl | exact .inr rfl) de_dnew)
    (ds_cons (ds_for (t := (.nm 6)) rfl (L2.passes_of rfl) rfl (di_E rfl (dv 2)) (pg_name (i := 6) sc__law_stock.nd rfl (by first | exact .inl rfl | exact .inr rfl))
    (ds_one (ds_put (Room.u64 hr) (dv 5) (dv 6) (de_tuple rfl (by rfl) R.m_tuple (de_lc (own := [("_law_k", 3)]) rfl rfl sc__law_stock.nd (di_range1 (by rfl) R.m_range (de_call (ok__law_draw R) (Room.mono hr (by omega)) hgd (by rfl) R.g__law_draw R.F__law_draw.kp R.b__law_draw (L2N.takes_of rfl rfl rfl rfl) (da_cons (dv 0) (da_cons (de_add rfl (dv 1) de_int) da_nil)))) (blkOk_by (by rfl)) (fun _ _ _ _ _ => (pg_name (i := 3) sc__law_stock.nd rfl (by first | exact .inl rfl | exact .inr rfl))) (fun _ _ _ _ _ => dts_nil) (fun _ _ _ _ _ => (de_call (ok__law_row R) (Room.mono hr (by omega)) hgd (by rfl) R.g__law_row R.F__law_row.kp R.b__law_row XT.takes_no (da_cons (dv 0) (da_cons (dv 2) (da_cons (dv 4) da_nil))))))))))
    (ds_one (ds_ret (dv 5))))))))))
theorem ok__law_dealt (R : Row w K mg base) : FnG P w K mg base (L2N.CX P w) 2 (He.fAd K ("_law_dealt", none)) R.d__law_dealt ["_law_pot_here", "_law_stock_here"] (spD (Γ K) f__law_dealt) :=
  fnD rfl R.F__law_dealt sc__law_dealt fun cdv A outer s H E hcd hr hgd => (ds_cons (ds_setLc (own := [("_law_k", 6)]) rfl rfl sc__law_dealt.nd rfl rfl (by rfl) (di_range1 (by rfl) R.m_range (de_add rfl de_int (de_call (ok__law_draw R) (Room.mono hr (by omega)) hgd (by rfl) R.g__law_draw R.F__law_draw.kp R.b__law_draw (L2N.takes_of rfl rfl rfl rfl) (da_cons (dv 0) (da_cons de_int da_nil))))) (blkOk_by (by rfl)) (fun _ _ _ _ _ => (pg_name (i := 6) sc__law_dealt.nd rfl (by first | exact .inl rfl | exact .inr rfl))) (fun _ _ _ _ _ => dts_nil) (fun _ _ _ _ _ => de_dnew))
    (ds_cons (ds_lock (eVar 1) (ds_for (t := (.tp [(.nm 3), (.nm 4)])) rfl (L2.passes_of rfl) rfl (di_items (dv 1)) (pg_tup rfl (pgs_cons (pg_name (i := 3) sc__law_dealt.nd rfl (by first | exact .inl rfl | exact .inr rfl)) (pgs_cons (pg_name (i := 4) sc__law_dealt.nd rfl (by first | exact .inl rfl | exact .inr rfl)) pgs_nil)))
    (ds_cons (ds_set (n := 5) sc__law_dealt.nd rfl (by first | exact .inl rfl | exact .inr rfl) (de_call (ok__law_draw R) (Room.mono hr (by omega)) hgd (by rfl) R.g__law_draw R.F__law_draw.kp R.b__law_draw (L2N.takes_of rfl rfl rfl rfl) (da_cons (dv 0) (da_cons (de_len rfl (by rfl) R.m_len (dv 2)) da_nil))))
    (ds_cons (ds_put (Room.u64 hr) (de_ix rfl (Room.u64 hr) (dv 2) (dv 5) (fun _ _ => rfl)) (dv 3) (dv 4))
    (ds_one (ds_if (PW.pt (dt_and (dt_lt (de_add rfl (dv 5) de_int) (de_len rfl (by rfl) R.m_len (dv 2))) (dt_and1 (dt_eq rfl (Room.u64 hr) (de_call (ok__law_draw R) (Room.mono hr (by omega)) hgd (by rfl) R.g__law_draw R.F__law_draw.kp R.b__law_draw (L2N.takes_of rfl rfl rfl rfl) (da_cons (dv 0) (da_cons de_int da_nil))) de_int)))) (ds_one (ds_put (Room.u64 hr) (de_ix rfl (Room.u64 hr) (dv 2) (de_neg de_int) (fun _ _ => rfl)) (dv 3) (de_add rfl (de_sl rfl (dv 4) (do_some de_int) do_none) (de_tup (da_cons (de_tup (da_cons de_str (da_cons (dv 3) da_nil))) da_nil))))) ds_nil))))))
    (ds_one (ds_ret (dv 2)))))
theorem ok_is_name (R : Row w K mg base) : FnG P w K mg base (L2N.CX P w) 2 (He.fAd K ("is_name", none)) R.d_is_name ["thing"] (spD (Γ K) f_is_name) :=
  fnD rfl R.F_is_name sc_is_name fun cdv A outer s H E hcd hr hgd => (ds_cons (ds_if (dt_not (dt_tru rfl (de_isT rfl R.m_isinstance (by rfl) (by rfl) R.m_str (by decide +kernel) (dv 0)))) (ds_one (ds_ret de_bl)) ds_nil)
    (ds_cons (ds_if (dt_not (dt_chainLe de_int (de_len rfl (by rfl) R.m_len (dv 0)) (de_gint (by rfl) R.i_LETTERS_AT_MOST))) (ds_one (ds_ret de_bl)) ds_nil)
    (ds_one (ds_ret (de_all (own := [("sign", 1)]) (k := 0) R.I_is_name rfl hr hgd (by rfl) R.m_all R.T_is_name (hcd ("is_name", none) rfl) ⟨rfl, by decide +kernel, rfl⟩ (blkOk_by (by rfl)) sc_is_name.nd (di_E rfl (dv 0)) (fun _ _ _ cenv _ hsc hR hG => by obtain ⟨sc, lo, gl, ce, qu, fu, co, fr, bi⟩ := cenv; cases hsc; exact ⟨(pg_name (i := 1) sc_is_name.nd rfl (by first | exact .inl rfl | exact .inr rfl)), dts_nil, (de_chainLe de_str (dv 1) de_str)⟩))))))
theorem ok_is_path (R : Row w K mg base) : FnG P w K mg base (L2N.CX P w) 4 (He.fAd K ("is_path", none)) R.d_is_path ["thing"] (spD (Γ K) f_is_path) :=
  fnD rfl R.F_is_path sc_is_path fun cdv A outer s H E hcd hr hgd => (ds_cons (ds_if (dt_not (dt_tru rfl (de_isT rfl R.m_isinstance (by rfl) (by rfl) R.m_str (by decide +kernel) (dv 0)))) (ds_one (ds_ret de_bl)) ds_nil)
    (ds_cons (ds_set (n := 1) sc_is_path.nd rfl (by first | exact .inl rfl | exact .inr rfl) (de_split rfl (dv 0) de_str))
    (ds_one (ds_ret (de_and (de_le (de_len rfl (by rfl) R.m_len (dv 1)) (de_gint (by rfl) R.i_NAMES_AT_MOST)) (de_one (de_all (own := [("name", 2)]) (k := 2) R.I_is_path rfl hr hgd (by rfl) R.m_all R.T_is_path (hcd ("is_path", none) rfl) ⟨rfl, by decide +kernel, rfl⟩ (blkOk_by (by rfl)) sc_is_path.nd (di_E rfl (dv 1)) (fun _ _ _ cenv _ hsc hR hG => by obtain ⟨sc, lo, gl, ce, qu, fu, co, fr, bi⟩ := cenv; cases hsc; exact ⟨(pg_name (i := 2) sc_is_path.nd rfl (by first | exact .inl rfl | exact .inr rfl)), dts_nil, (de_call (ok_is_name R) (Room.mono hR (by omega)) hG (by rfl) R.g_is_name R.F_is_name.kp R.b_is_name XT.takes_no (da_cons (dv 2) da_nil))⟩))))))))
theorem ok_begins_with_text (R : Row w K mg base) : FnG P w K mg base (L2N.CX P w) 1 (He.fAd K ("begins_with_text", none)) R.d_begins_with_text ["thing"] (spD (Γ K) f_begins_with_text) :=
  fnD rfl R.F_begins_with_text sc_begins_with_text fun cdv A outer s H E hcd hr hgd => (ds_one (ds_ret (de_and (de_isT rfl R.m_isinstance (by rfl) (by rfl) R.m_tuple (by decide +kernel) (dv 0)) (de_and (de_gt (de_len rfl (by rfl) R.m_len (dv 0)) de_int) (de_one (de_isT rfl R.m_isinstance (by rfl) (by rfl) R.m_str (by decide +kernel) (de_ix rfl (Room.u64 hr) (dv 0) de_int (fun _ _ => rfl))))))))
theorem ok_is_whole (R : Row w K mg base) : FnG P w K mg base (L2N.CX P w) 1 (He.fAd K ("is_whole", none)) R.d_is_whole ["thing"] (spD (Γ K) f_is_whole) :=
  fnD rfl R.F_is_whole sc_is_whole fun cdv A outer s H E hcd hr hgd => (ds_one (ds_ret (de_and (de_isT rfl R.m_isinstance (by rfl) (by rfl) R.m_int (by decide +kernel) (dv 0)) (de_one (de_not (de_isT rfl R.m_isinstance (by rfl) (by rfl) R.m_bool (by decide +kernel) (dv 0)))))))
theorem ok_is_part (R : Row w K mg base) : FnG P w K mg base (L2N.CX P w) 5 (He.fAd K ("is_part", none)) R.d_is_part ["thing", "kind"] (spD (Γ K) f_is_part) :=
  fnD rfl R.F_is_part sc_is_part fun cdv A outer s H E hcd hr hgd => (ds_cons (ds_if (dt_eq rfl (Room.u64 hr) (dv 1) de_str) (ds_one (ds_ret (de_call (ok_is_name R) (Room.mono hr (by omega)) hgd (by rfl) R.g_is_name R.F_is_name.kp R.b_is_name (L2N.takes_of rfl rfl rfl rfl) (da_cons (dv 0) da_nil)))) ds_nil)
    (ds_cons (ds_if (dt_eq rfl (Room.u64 hr) (dv 1) de_str) (ds_one (ds_ret (de_call (ok_is_path R) (Room.mono hr (by omega)) hgd (by rfl) R.g_is_path R.F_is_path.kp R.b_is_path (L2N.takes_of rfl rfl rfl rfl) (da_cons (dv 0) da_nil)))) ds_nil)
    (ds_one (ds_ret (de_call (ok_is_whole R) (Room.mono hr (by omega)) hgd (by rfl) R.g_is_whole R.F_is_whole.kp R.b_is_whole (L2N.takes_of rfl rfl rfl rfl) (da_cons (dv 0) da_nil))))))
theorem ok_is_line (R : Row w K mg base) : FnG P w K mg base (L2N.CX P w) 7 (He.fAd K ("is_line", none)) R.d_is_line ["row"] (spD (Γ K) f_is_line) :=
  fnD rfl R.F_is_line sc_is_line fun cdv A outer s H E hcd hr hgd => (ds_cons (ds_set (n := 1) sc_is_line.nd rfl (by first | exact .inl rfl | exact .inr rfl) (de_kget rfl R.k_PARTS (by rfl) R.g_PARTS (de_ix rfl (Room.u64 hr) (dv 0) de_int (fun _ _ => rfl)) ⟨rfl, rfl, rfl, rfl⟩))
    (ds_cons (ds_if (PW.pt (dt_or (dt_isN (dv 1) de_non) (dt_or1 (dt_ne rfl (Room.u64 hr) (de_len rfl (by rfl) R.m_len (dv 0)) (de_add rfl (de_len rfl (by rfl) R.m_len (dv 1)) de_int))))) (ds_one (ds_ret de_bl)) ds_nil)
    (ds_one (ds_ret (de_all (own := [("part", 2), ("kind", 3)]) (k := 5) R.I_is_line rfl hr hgd (by rfl) R.m_all R.T_is_line (hcd ("is_line", none) rfl) ⟨rfl, by decide +kernel, rfl⟩ (blkOk_by (by rfl)) sc_is_line.nd (di_zip rfl (by rfl) R.m_zip (da_cons (de_sl rfl (dv 0) (do_some de_int) do_none) (da_cons (dv 1) da_nil))) (fun _ _ _ cenv _ hsc hR hG => by obtain ⟨sc, lo, gl, ce, qu, fu, co, fr, bi⟩ := cenv; cases hsc; exact ⟨(pg_tup rfl (pgs_cons (pg_name (i := 2) sc_is_line.nd rfl (by first | exact .inl rfl | exact .inr rfl)) (pgs_cons (pg_name (i := 3) sc_is_line.nd rfl (by first | exact .inl rfl | exact .inr rfl)) pgs_nil))), dts_nil, (de_call (ok_is_part R) (Room.mono hR (by omega)) hG (by rfl) R.g_is_part R.F_is_part.kp R.b_is_part XT.takes_no (da_cons (dv 2) (da_cons (dv 3) da_nil)))⟩))))))
theorem ok_is_word (R : Row w K mg base) : FnG P w K mg base (L2N.CX P w) 3 (He.fAd K ("is_word", none)) R.d_is_word ["thing"] (spD (Γ K) f_is_word) :=
  fnD rfl R.F_is_word sc_is_word fun cdv A outer s H E hcd hr hgd => (ds_one (ds_ret (de_orV (de_call (ok_is_name R) (Room.mono hr (by omega)) hgd (by rfl) R.g_is_name R.F_is_name.kp R.b_is_name (L2N.takes_of rfl rfl rfl rfl) (da_cons (dv 0) da_nil)) (de_one (de_and (de_isT rfl R.m_isinstance (by rfl) (by rfl) R.m_str (by decide +kernel) (dv 0)) (de_one (de_in rfl (Room.u64 hr) (dv 0) (de_gtup (by rfl) R.g_GREAT_WORDS R.t_GREAT_WORDS) (by rfl))))))))
theorem ok_are_words (R : Row w K mg base) : FnG P w K mg base (L2N.CX P w) 5 (He.fAd K ("are_words", none)) R.d_are_words ["thing"] (spD (Γ K) f_are_words) :=
  fnD rfl R.F_are_words sc_are_words fun cdv A outer s H E hcd hr hgd => (ds_cons (ds_if (PW.pt (dt_or (dt_not (dt_tru rfl (de_isT rfl R.m_isinstance (by rfl) (by rfl) R.m_tuple (by decide +kernel) (dv 0)))) (dt_or1 (dt_not (dt_tru rfl (de_all (own := [("word", 1)]) (k := 3) R.I_are_words rfl hr hgd (by rfl) R.m_all R.T_are_words (hcd ("are_words", none) rfl) ⟨rfl, by decide +kernel, rfl⟩ (blkOk_by (by rfl)) sc_are_words.nd (di_E rfl (dv 0)) (fun _ _ _ cenv _ hsc hR hG => by obtain ⟨sc, lo, gl, ce, qu, fu, co, fr, bi⟩ := cenv; cases hsc; exact ⟨(pg_name (i := 1) sc_are_words.nd rfl (by first | exact .inl rfl | exact .inr rfl)), dts_nil, (de_call (ok_is_word R) (Room.mono hR (by omega)) hG (by rfl) R.g_is_word R.F_is_word.kp R.b_is_word XT.takes_no (da_cons (dv 1) da_nil))⟩))))))) (ds_one (ds_ret de_bl)) ds_nil)
    (ds_one (ds_ret (de_eq rfl (Room.u64 hr) (de_lenSet rfl rfl (by rfl) R.m_len (by rfl) R.m_set (dv 0)) (de_len rfl (by rfl) R.m_len (dv 0))))))
theorem ok_scc_room_behind_rows (R : Row w K mg base) : ∀ n : Nat, FnG P w K mg base (L2N.CX P w) (7 + n) (He.fAd K ("room_behind_rows", none)) R.d_room_behind_rows ["rows", "room", "tries"] (spD (Γ K) (f_room_behind_rows n)) ∧ FnG P w K mg base (L2N.CX P w) (7 + n) (He.fAd K ("room_behind_row", none)) R.d_room_behind_row ["row", "room", "tries"] (spD (Γ K) (f_room_behind_row n))
  | 0 => ⟨fnD_no, fnD_no⟩
  | n + 1 => by
    obtain ⟨G_room_behind_rows, G_room_behind_row⟩ := ok_scc_room_behind_rows R n
    refine ⟨?_, ?_⟩
    · exact fnD (k := 7 + n) rfl R.F_room_behind_rows sc_room_behind_rows fun cdv A outer s H E hcd hr hgd => (ds_cons (ds_if (dt_not (dt_tru rfl (de_isT rfl R.m_isinstance (by rfl) (by rfl) R.m_tuple (by decide +kernel) (dv 0)))) (ds_one (ds_ret de_non)) ds_nil)
    (ds_cons (ds_set (n := 3) sc_room_behind_rows.nd rfl (by first | exact .inl rfl | exact .inr rfl) (dv 1))
    (ds_cons (ds_for (t := (.nm 4)) rfl (L2.passes_of rfl) rfl (di_E rfl (dv 0)) (pg_name (i := 4) sc_room_behind_rows.nd rfl (by first | exact .inl rfl | exact .inr rfl))
    (ds_cons (ds_set (n := 3) sc_room_behind_rows.nd rfl (by first | exact .inl rfl | exact .inr rfl) (de_call G_room_behind_row (Room.mono hr (by omega)) hgd (by rfl) R.g_room_behind_row R.F_room_behind_row.kp R.b_room_behind_row (L2N.takes_of rfl rfl rfl rfl) (da_cons (dv 4) (da_cons (dv 3) (da_cons (dv 2) da_nil)))))
    (ds_one (ds_if (dt_isN (dv 3) de_non) (ds_one (ds_ret de_non)) ds_nil))))
    (ds_one (ds_ret (dv 3))))))
    · exact fnD (k := 7 + n) rfl R.F_room_behind_row sc_room_behind_row fun cdv A outer s H E hcd hr hgd => (ds_cons (ds_if (PW.pt (dt_or (dt_eq rfl (Room.u64 hr) (dv 1) de_int) (dt_or1 (dt_not (dt_tru rfl (de_call (ok_begins_with_text R) (Room.mono hr (by omega)) hgd (by rfl) R.g_begins_with_text R.F_begins_with_text.kp R.b_begins_with_text (L2N.takes_of rfl rfl rfl rfl) (da_cons (dv 0) da_nil))))))) (ds_one (ds_ret de_non)) ds_nil)
    (ds_cons (ds_if (dt_ne rfl (Room.u64 hr) (de_ix rfl (Room.u64 hr) (dv 0) de_int (fun _ _ => rfl)) de_str) (ds_one (ds_ret (de_if (dt_tru rfl (de_call (ok_is_line R) (Room.mono hr (by omega)) hgd (by rfl) R.g_is_line R.F_is_line.kp R.b_is_line (L2N.takes_of rfl rfl rfl rfl) (da_cons (dv 0) da_nil))) (de_sub (dv 1) de_int) de_non))) ds_nil)
    (ds_cons (ds_if (PW.pt (dt_or (dt_eq rfl (Room.u64 hr) (dv 2) de_int) (dt_or (dt_ne rfl (Room.u64 hr) (de_len rfl (by rfl) R.m_len (dv 0)) de_int) (dt_or1 (dt_not (dt_tru rfl (de_call (ok_are_words R) (Room.mono hr (by omega)) hgd (by rfl) R.g_are_words R.F_are_words.kp R.b_are_words (L2N.takes_of rfl rfl rfl rfl) (da_cons (de_ix rfl (Room.u64 hr) (dv 0) de_int (fun _ _ => rfl)) da_nil)))))))) (ds_one (ds_ret de_non)) ds_nil)
    (ds_cons (ds_set (n := 3) sc_room_behind_row.nd rfl (by first | exact .inl rfl | exact .inr rfl) (de_call G_room_behind_rows (Room.mono hr (by omega)) hgd (by rfl) R.g_room_behind_rows R.F_room_behind_rows.kp R.b_room_behind_rows (L2N.takes_of rfl rfl rfl rfl) (da_cons (de_ix rfl (Room.u64 hr) (dv 0) de_int (fun _ _ => rfl)) (da_cons (de_sub (dv 1) de_int) (da_cons (de_sub (dv 2) de_int) da_nil)))))
    (ds_one (ds_ret (de_if (dt_isN (dv 3) de_non) de_non (de_call G_room_behind_rows (Room.mono hr (by omega)) hgd (by rfl) R.g_room_behind_rows R.F_room_behind_rows.kp R.b_room_behind_rows (L2N.takes_of rfl rfl rfl rfl) (da_cons (de_ix rfl (Room.u64 hr) (dv 0) de_int (fun _ _ => rfl)) (da_cons (dv 3) (da_cons (de_sub (dv 2) de_int) da_nil)))))))))))
theorem ok_room_behind_rows (R : Row w K mg base) (n : Nat) : FnG P w K mg base (L2N.CX P w) (7 + n) (He.fAd K ("room_behind_rows", none)) R.d_room_behind_rows ["rows", "room", "tries"] (spD (Γ K) (f_room_behind_rows n)) := (ok_scc_room_behind_rows R n).1
theorem ok_room_behind_row (R : Row w K mg base) (n : Nat) : FnG P w K mg base (L2N.CX P w) (7 + n) (He.fAd K ("room_behind_row", none)) R.d_room_behind_row ["row", "room", "tries"] (spD (Γ K) (f_room_behind_row n)) := (ok_scc_room_behind_rows R n).2

theorem ok_is_body (R : Row w K mg base) : FnG P w K mg base (L2N.CX P w) 16 (He.fAd K ("is_body", none)) R.d_is_body ["thing"] (spD (Γ K) f_is_body) :=
  fnD rfl R.F_is_body sc_is_body fun cdv A outer s H E hcd hr hgd => (ds_one (ds_ret (de_notN (de_call (ok_room_behind_rows R 8) (Room.mono hr (by omega)) hgd (by rfl) R.g_room_behind_rows R.F_room_behind_rows.kp R.b_room_behind_rows (L2N.takes_of rfl rfl rfl rfl) (da_cons (dv 0) (da_cons (de_gint (by rfl) R.i_ROWS_AT_MOST) (da_cons (de_gint (by rfl) R.i_TRIES_AT_MOST) da_nil)))) de_non)))
theorem ok_check_finders (R : Row w K mg base) : FnG P w K mg base (L2N.CX P w) 18 (He.fAd K ("check_finders", none)) R.d_check_finders ["finders"] (spD (Γ K) f_check_finders) :=
  fnD rfl R.F_check_finders sc_check_finders fun cdv A outer s H E hcd hr hgd => (ds_cons (ds_if (PW.pt (dt_or (dt_not (dt_tru rfl (de_isT rfl R.m_isinstance (by rfl) (by rfl) R.m_list (by decide +kernel) (dv 0)))) (dt_or1 (dt_not (dt_tru rfl (de_all (own := [("finder", 1)]) (k := 16) R.I_check_finders rfl hr hgd (by rfl) R.m_all R.T_check_finders (hcd ("check_finders", none) rfl) ⟨rfl, by decide +kernel, rfl⟩ (blkOk_by (by rfl)) sc_check_finders.nd (di_E rfl (dv 0)) (fun _ _ _ cenv _ hsc hR hG => by obtain ⟨sc, lo, gl, ce, qu, fu, co, fr, bi⟩ := cenv; cases hsc; exact ⟨(pg_name (i := 1) sc_check_finders.nd rfl (by first | exact .inl rfl | exact .inr rfl)), dts_nil, (de_isT rfl R.m_isinstance (by rfl) (by rfl) R.m_dict (by decide +kernel) (dv 1))⟩))))))) (ds_one ds_never) ds_nil)
    (ds_cons (ds_if (dt_not (dt_tru rfl (de_lockA dictsOf (de_all2 (own := [("finder", 1), ("path", 2)]) (k := 16) R.I_check_finders rfl hr hgd (by rfl) R.m_all R.T_check_finders (hcd ("check_finders", none) rfl) ⟨rfl, by decide +kernel, rfl⟩ (blkOk_by (by rfl)) sc_check_finders.nd (di_E rfl (dv 0)) (fun _ _ _ cenv _ hsc hR hG => by obtain ⟨sc, lo, gl, ce, qu, fu, co, fr, bi⟩ := cenv; cases hsc; exact ⟨(pg_name (i := 1) sc_check_finders.nd rfl (by first | exact .inl rfl | exact .inr rfl)), dts_nil, (di_E rfl (dv 1)), (pg_name (i := 2) sc_check_finders.nd rfl (by first | exact .inl rfl | exact .inr rfl)), dts_nil, (de_call (ok_is_path R) (Room.mono hR (by omega)) hG (by rfl) R.g_is_path R.F_is_path.kp R.b_is_path XT.takes_no (da_cons (dv 2) da_nil))⟩))))) (ds_one ds_never) ds_nil)
    (ds_one (ds_if (dt_not (dt_tru rfl (de_lockA dictsOf (de_all2 (own := [("finder", 1), ("path", 2)]) (k := 16) R.I_check_finders rfl hr hgd (by rfl) R.m_all R.T_check_finders (hcd ("check_finders", none) rfl) ⟨rfl, by decide +kernel, rfl⟩ (blkOk_by (by rfl)) sc_check_finders.nd (di_E rfl (dv 0)) (fun _ _ _ cenv _ hsc hR hG => by obtain ⟨sc, lo, gl, ce, qu, fu, co, fr, bi⟩ := cenv; cases hsc; exact ⟨(pg_name (i := 1) sc_check_finders.nd rfl (by first | exact .inl rfl | exact .inr rfl)), dts_nil, (di_E rfl (dv 1)), (pg_name (i := 2) sc_check_finders.nd rfl (by first | exact .inl rfl | exact .inr rfl)), dts_nil, (de_call (ok_is_body R) (Room.mono hR (by omega)) hG (by rfl) R.g_is_body R.F_is_body.kp R.b_is_body XT.takes_no (da_cons (de_ix rfl (Room.u64 hR) (dv 1) (dv 2) (fun _ _ => rfl)) da_nil))⟩))))) (ds_one ds_never) ds_nil))))
theorem ok_Runs_init (R : Row w K mg base) : FnG P w K mg base (L2N.CX P w) 19 (He.fAd K ("Runs", some "__init__")) R.d_Runs_init ["self", "finders"] (spD (Γ K) f_Runs_init) :=
  fnD rfl R.F_Runs_init sc_Runs_init fun cdv A outer s H E hcd hr hgd => (ds_cons (ds_expr (de_call (ok_check_finders R) (Room.mono hr (by omega)) hgd (by rfl) R.g_check_finders R.F_check_finders.kp R.b_check_finders (L2N.takes_of rfl rfl rfl rfl) (da_cons (dv 1) da_nil)))
    (ds_cons (ds_fld rfl R.c_finders (dv 0) (de_lc (own := [("finder", 2)]) rfl rfl sc_Runs_init.nd (di_E rfl (dv 1)) (blkOk_by (by rfl)) (fun _ _ _ _ _ => (pg_name (i := 2) sc_Runs_init.nd rfl (by first | exact .inl rfl | exact .inr rfl))) (fun _ _ _ _ _ => dts_nil) (fun _ _ _ _ _ => (de_dict  (by rfl) R.m_dict (dv 2)))))
    (ds_cons (ds_fld rfl R.c_modules (dv 0) de_dnew)
    (ds_cons (ds_fld rfl R.c_standing (dv 0) de_dnew)
    (ds_cons (ds_fld rfl R.c_failed (dv 0) de_dnew)
    (ds_cons (ds_fld rfl R.c_entries (dv 0) (de_lst da_nil))
    (ds_cons (ds_fld rfl R.c_begun (dv 0) (de_lst da_nil))
    (ds_cons (ds_fld rfl R.c_chain (dv 0) (de_lst da_nil))
    (ds_one (ds_fld rfl R.c_fallen (dv 0) de_dnew))))))))))
theorem ok__law_house (R : Row w K mg base) : FnG P w K mg base (L2N.CX P w) 1 (He.fAd K ("_law_house", none)) R.d__law_house ["_law_stock_here"] (spD (Γ K) f__law_house) :=
  fnD rfl R.F__law_house sc__law_house fun cdv A outer s H E hcd hr hgd => (ds_one (ds_ret (de_disp [("stock", (eVar 0)), ("table", eDnew), ("names", eDnew), ("log", (eN oLst aNil)), ("paper", (eN oLst aNil)), ("line", (eN oLst aNil))] (pps_cons pe_str (dv 0) (pps_cons pe_str de_dnew (pps_cons pe_str de_dnew (pps_cons pe_str (de_lst da_nil) (pps_cons pe_str (de_lst da_nil) (pps_cons pe_str (de_lst da_nil) pps_nil)))))))))
theorem ok_Runs_paper (R : Row w K mg base) : FnG P w K mg base (L2N.CX P w) 1 (He.fAd K ("Runs", some "paper")) R.d_Runs_paper ["self"] (spD (Γ K) f_Runs_paper) :=
  fnD rfl R.F_Runs_paper sc_Runs_paper fun cdv A outer s H E hcd hr hgd => (ds_one (ds_ret (de_list rfl rfl (by rfl) R.m_list (de_fld rfl R.c_begun (dv 0)))))
theorem ok_Runs_log (R : Row w K mg base) : FnG P w K mg base (L2N.CX P w) 1 (He.fAd K ("Runs", some "log")) R.d_Runs_log ["self"] (spD (Γ K) f_Runs_log) :=
  fnD rfl R.F_Runs_log sc_Runs_log fun cdv A outer s H E hcd hr hgd => (ds_one (ds_ret (de_list rfl rfl (by rfl) R.m_list (de_fld rfl R.c_entries (dv 0)))))
theorem ok_check_path (R : Row w K mg base) : FnG P w K mg base (L2N.CX P w) 5 (He.fAd K ("check_path", none)) R.d_check_path ["path"] (spD (Γ K) f_check_path) :=
  fnD rfl R.F_check_path sc_check_path fun cdv A outer s H E hcd hr hgd => (ds_one (ds_if (dt_not (dt_tru rfl (de_call (ok_is_path R) (Room.mono hr (by omega)) hgd (by rfl) R.g_is_path R.F_is_path.kp R.b_is_path (L2N.takes_of rfl rfl rfl rfl) (da_cons (dv 0) da_nil)))) (ds_one ds_never) ds_nil))
theorem ok_Runs_body_at (R : Row w K mg base) : FnG P w K mg base (L2N.CX P w) 1 (He.fAd K ("Runs", some "body_at")) R.d_Runs_body_at ["self", "path"] (spD (Γ K) f_Runs_body_at) :=
  fnD rfl R.F_Runs_body_at sc_Runs_body_at fun cdv A outer s H E hcd hr hgd => (ds_cons (ds_for (t := (.nm 2)) rfl (L2.passes_of rfl) rfl (di_E rfl (de_fld rfl R.c_finders (dv 0))) (pg_name (i := 2) sc_Runs_body_at.nd rfl (by first | exact .inl rfl | exact .inr rfl))
    (ds_one (ds_if (dt_in rfl (Room.u64 hr) (dv 1) (dv 2) (by rfl)) (ds_one (ds_ret (de_ix rfl (Room.u64 hr) (dv 2) (dv 1) (fun _ _ => rfl)))) ds_nil)))
    (ds_one (ds_ret de_non)))
theorem ok_Module_init (R : Row w K mg base) : FnG P w K mg base (L2N.CX P w) 1 (He.fAd K ("Module", some "__init__")) R.d_Module_init ["self", "number", "path"] (spD (Γ K) f_Module_init) :=
  fnD rfl R.F_Module_init sc_Module_init fun cdv A outer s H E hcd hr hgd => (ds_cons (ds_fld rfl R.c_number (dv 0) (dv 1))
    (ds_cons (ds_fld rfl R.c_path (dv 0) (dv 2))
    (ds_one (ds_fld rfl R.c_things (dv 0) de_dnew))))
theorem ok_Runs_write_down (R : Row w K mg base) : FnG P w K mg base (L2N.CX P w) 1 (He.fAd K ("Runs", some "write_down")) R.d_Runs_write_down ["self", "module"] (spD (Γ K) f_Runs_write_down) :=
  fnD rfl R.F_Runs_write_down sc_Runs_write_down fun cdv A outer s H E hcd hr hgd => (ds_cons (ds_if (dt_not (dt_tru rfl (de_fld rfl R.c_chain (dv 0)))) (ds_cons (ds_expr (de_append rfl (de_fld rfl R.c_begun (dv 0)) (de_tup (da_cons (de_fld rfl R.c_number (dv 1)) (da_cons de_non (da_cons de_non da_nil))))))
    (ds_one ds_retN)) ds_nil)
    (ds_cons (ds_asg (tg := (.tp [(.nm 2), (.nm 3)])) rfl (de_ix rfl (Room.u64 hr) (de_fld rfl R.c_chain (dv 0)) (de_neg de_int) (fun _ _ => rfl)) (pg_tup rfl (pgs_cons (pg_name (i := 2) sc_Runs_write_down.nd rfl (by first | exact .inl rfl | exact .inr rfl)) (pgs_cons (pg_name (i := 3) sc_Runs_write_down.nd rfl (by first | exact .inl rfl | exact .inr rfl)) pgs_nil))))
    (ds_one (ds_expr (de_append rfl (de_fld rfl R.c_begun (dv 0)) (de_tup (da_cons (de_fld rfl R.c_number (dv 1)) (da_cons (de_fld rfl R.c_number (dv 2)) (da_cons (dv 3) da_nil)))))))))
theorem ok_Module_bind (R : Row w K mg base) : FnG P w K mg base (L2N.CX P w) 1 (He.fAd K ("Module", some "bind")) R.d_Module_bind ["self", "name", "thing"] (spD (Γ K) f_Module_bind) :=
  fnD rfl R.F_Module_bind sc_Module_bind fun cdv A outer s H E hcd hr hgd => (ds_one (ds_put (Room.u64 hr) (de_fld rfl R.c_things (dv 0)) (dv 1) (dv 2)))
theorem ok_Runs_running (R : Row w K mg base) : FnG P w K mg base (L2N.CX P w) 1 (He.fAd K ("Runs", some "running")) R.d_Runs_running ["self"] (spD (Γ K) f_Runs_running) :=
  fnD rfl R.F_Runs_running sc_Runs_running fun cdv A outer s H E hcd hr hgd => (ds_one (ds_ret (de_ix rfl (Room.u64 hr) (de_ix rfl (Room.u64 hr) (de_fld rfl R.c_chain (dv 0)) (de_neg de_int) (fun _ _ => rfl)) de_int (fun _ _ => rfl))))
theorem ok_Module_bound (R : Row w K mg base) : FnG P w K mg base (L2N.CX P w) 1 (He.fAd K ("Module", some "bound")) R.d_Module_bound ["self"] (spD (Γ K) f_Module_bound) :=
  fnD rfl R.F_Module_bound sc_Module_bound fun cdv A outer s H E hcd hr hgd => (ds_one (ds_ret (de_sorted rfl rfl (by rfl) R.m_sorted (de_fld rfl R.c_things (dv 0)))))
theorem ok_Runs_note (R : Row w K mg base) : FnG P w K mg base (L2N.CX P w) 2 (He.fAd K ("Runs", some "note")) R.d_Runs_note ["self", "path"] (spD (Γ K) f_Runs_note) :=
  fnD rfl R.F_Runs_note sc_Runs_note fun cdv A outer s H E hcd hr hgd => (ds_cons (ds_set (n := 2) sc_Runs_note.nd rfl (by first | exact .inl rfl | exact .inr rfl) de_non)
    (ds_cons (ds_if (dt_in rfl (Room.u64 hr) (dv 1) (de_fld rfl R.c_standing (dv 0)) (by rfl)) (ds_one (ds_set (n := 2) sc_Runs_note.nd rfl (by first | exact .inl rfl | exact .inr rfl) (de_tuple rfl (by rfl) R.m_tuple (de_meth0 cls_Module (de_ix rfl (Room.u64 hr) (de_fld rfl R.c_standing (dv 0)) (dv 1) (fun _ _ => rfl)) R.cl_Module R.mt_Module_bound (ok_Module_bound R) (Room.mono hr (by omega)) hgd R.b_Module_bound (L2N.takes_of rfl rfl rfl rfl))))) ds_nil)
    (ds_one (ds_expr (de_append rfl (de_fld rfl R.c_entries (dv 0)) (de_tup (da_cons de_str (da_cons (de_fld rfl R.c_number (de_meth0 cls_Runs (dv 0) R.cl_Runs R.mt_Runs_running (ok_Runs_running R) (Room.mono hr (by omega)) hgd R.b_Runs_running (L2N.takes_of rfl rfl rfl rfl))) (da_cons (dv 2) da_nil)))))))))
theorem ok_scc_Runs_taken (R : Row w K mg base) : ∀ n : Nat, FnG P w K mg base (L2N.CX P w) (2 + n) (He.fAd K ("Runs", some "taken")) R.d_Runs_taken ["self", "path"] (spD (Γ K) (f_Runs_taken n)) ∧ FnG P w K mg base (L2N.CX P w) (2 + n) (He.fAd K ("Runs", some "taken_alone")) R.d_Runs_taken_alone ["self", "path"] (spD (Γ K) (f_Runs_taken_alone n)) ∧ FnG P w K mg base (L2N.CX P w) (2 + n) (He.fAd K ("Runs", some "begin")) R.d_Runs_begin ["self", "path", "body"] (spD (Γ K) (f_Runs_begin n)) ∧ FnG P w K mg base (L2N.CX P w) (2 + n) (He.fAd K ("Runs", some "run")) R.d_Runs_run ["self", "word", "module", "body"] (spD (Γ K) (f_Runs_run n)) ∧ FnG P w K mg base (L2N.CX P w) (2 + n) (He.fAd K ("Runs", some "do_row")) R.d_Runs_do_row ["self", "row"] (spD (Γ K) (f_Runs_do_row n)) ∧ FnG P w K mg base (L2N.CX P w) (2 + n) (He.fAd K ("Runs", some "do")) R.d_Runs_do ["self", "row"] (spD (Γ K) (f_Runs_do n))
  | 0 => ⟨fnD_no, fnD_no, fnD_no, fnD_no, fnD_no, fnD_no⟩
  | n + 1 => by
    obtain ⟨G_Runs_taken, G_Runs_taken_alone, G_Runs_begin, G_Runs_run, G_Runs_do_row, G_Runs_do⟩ := ok_scc_Runs_taken R n
    refine ⟨?_, ?_, ?_, ?_, ?_, ?_⟩
    · exact fnD (k := 2 + n) rfl R.F_Runs_taken sc_Runs_taken fun cdv A outer s H E hcd hr hgd => (ds_one (ds_ret (de_meth cls_Runs (dv 0) R.cl_Runs R.mt_Runs_taken_alone G_Runs_taken_alone (Room.mono hr (by omega)) hgd R.b_Runs_taken_alone (L2N.takes_of rfl rfl rfl rfl) (da_cons (dv 1) da_nil))))
    · exact fnD (k := 2 + n) rfl R.F_Runs_taken_alone sc_Runs_taken_alone fun cdv A outer s H E hcd hr hgd => (ds_cons (ds_if (dt_in rfl (Room.u64 hr) (dv 1) (de_fld rfl R.c_standing (dv 0)) (by rfl)) (ds_cons (ds_set (n := 2) sc_Runs_taken_alone.nd rfl (by first | exact .inl rfl | exact .inr rfl) (de_ix rfl (Room.u64 hr) (de_fld rfl R.c_standing (dv 0)) (dv 1) (fun _ _ => rfl)))
    (ds_cons (ds_expr (de_append rfl (de_fld rfl R.c_entries (dv 0)) (de_tup (da_cons de_str (da_cons (de_fld rfl R.c_number (dv 2)) da_nil)))))
    (ds_one (ds_ret (dv 2))))) ds_nil)
    (ds_cons (ds_if (dt_in rfl (Room.u64 hr) (dv 1) (de_fld rfl R.c_fallen (dv 0)) (by rfl)) (ds_cons (ds_asg (tg := (.tp [(.nm 3), (.nm 4)])) rfl (de_ix rfl (Room.u64 hr) (de_fld rfl R.c_fallen (dv 0)) (dv 1) (fun _ _ => rfl)) (pg_tup rfl (pgs_cons (pg_name (i := 3) sc_Runs_taken_alone.nd rfl (by first | exact .inl rfl | exact .inr rfl)) (pgs_cons (pg_name (i := 4) sc_Runs_taken_alone.nd rfl (by first | exact .inl rfl | exact .inr rfl)) pgs_nil))))
    (ds_cons (ds_expr (de_append rfl (de_fld rfl R.c_entries (dv 0)) (de_tup (da_cons de_str (da_cons (dv 3) da_nil)))))
    (ds_one ds_never))) ds_nil)
    (ds_cons (ds_set (n := 5) sc_Runs_taken_alone.nd rfl (by first | exact .inl rfl | exact .inr rfl) (de_meth cls_Runs (dv 0) R.cl_Runs R.mt_Runs_body_at (ok_Runs_body_at R) (Room.mono hr (by omega)) hgd R.b_Runs_body_at (L2N.takes_of rfl rfl rfl rfl) (da_cons (dv 1) da_nil)))
    (ds_cons (ds_if (dt_isN (dv 5) de_non) (ds_one ds_never) ds_nil)
    (ds_one (ds_ret (de_meth cls_Runs (dv 0) R.cl_Runs R.mt_Runs_begin G_Runs_begin (Room.mono hr (by omega)) hgd R.b_Runs_begin (L2N.takes_of rfl rfl rfl rfl) (da_cons (dv 1) (da_cons (dv 5) da_nil)))))))))
    · exact fnD (k := 2 + n) rfl R.F_Runs_begin sc_Runs_begin fun cdv A outer s H E hcd hr hgd => (ds_cons (ds_set (n := 3) sc_Runs_begin.nd rfl (by first | exact .inl rfl | exact .inr rfl) (de_make (C := He.ga K "Module") cls_Module R.mk_Module (ok_Module_init R) (Room.mono hr (by omega)) hgd (by rfl) R.gc_Module R.b_Module_init (L2N.takes_of rfl rfl rfl rfl) (da_cons (de_add rfl (de_len rfl (by rfl) R.m_len (de_fld rfl R.c_modules (dv 0))) de_int) (da_cons (dv 1) da_nil))))
    (ds_cons (ds_put (Room.u64 hr) (de_fld rfl R.c_modules (dv 0)) (de_fld rfl R.c_number (dv 3)) (dv 3))
    (ds_cons (ds_put (Room.u64 hr) (de_fld rfl R.c_standing (dv 0)) (dv 1) (dv 3))
    (ds_cons (ds_thru (ds_one (ds_expr (de_meth cls_Runs (dv 0) R.cl_Runs R.mt_Runs_run G_Runs_run (Room.mono hr (by omega)) hgd R.b_Runs_run XT.takes_no (da_cons de_str (da_cons (dv 3) (da_cons (dv 2) da_nil)))))))
    (ds_one (ds_ret (dv 3)))))))
    · exact fnD (k := 2 + n) rfl R.F_Runs_run sc_Runs_run fun cdv A outer s H E hcd hr hgd => (ds_cons (ds_expr (de_append rfl (de_fld rfl R.c_entries (dv 0)) (de_tup (da_cons (dv 1) (da_cons (de_fld rfl R.c_number (dv 2)) (da_cons (de_fld rfl R.c_path (dv 2)) da_nil))))))
    (ds_cons (ds_expr (de_meth cls_Runs (dv 0) R.cl_Runs R.mt_Runs_write_down (ok_Runs_write_down R) (Room.mono hr (by omega)) hgd R.b_Runs_write_down (L2N.takes_of rfl rfl rfl rfl) (da_cons (dv 2) da_nil)))
    (ds_cons (ds_set (n := 4) sc_Runs_run.nd rfl (by first | exact .inl rfl | exact .inr rfl) (de_fld rfl R.c_chain (dv 0)))
    (ds_cons (ds_fld rfl R.c_chain (dv 0) (de_add rfl (dv 4) (de_lst (da_cons (de_tup (da_cons (dv 2) (da_cons de_int da_nil))) da_nil))))
    (ds_cons (ds_thruF (ds_one (ds_for (t := (.tp [(.nm 5), (.nm 6)])) rfl PassesOwn.never rfl (di_enum rfl (by rfl) R.m_enumerate (dv 3)) (pg_tup rfl (pgs_cons (pg_name (i := 5) sc_Runs_run.nd rfl (by first | exact .inl rfl | exact .inr rfl)) (pgs_cons (pg_name (i := 6) sc_Runs_run.nd rfl (by first | exact .inl rfl | exact .inr rfl)) pgs_nil)))
    (ds_cons (ds_put (Room.u64 hr) (de_fld rfl R.c_chain (dv 0)) (de_neg de_int) (de_tup (da_cons (dv 2) (da_cons (dv 5) da_nil))))
    (ds_one (ds_expr (de_meth cls_Runs (dv 0) R.cl_Runs R.mt_Runs_do_row G_Runs_do_row (Room.mono hr (by omega)) hgd R.b_Runs_do_row XT.takes_no (da_cons (dv 6) da_nil))))))) (ds_one (ds_fld rfl R.c_chain (dv 0) (dv 4))))
    (ds_one (ds_expr (de_append rfl (de_fld rfl R.c_entries (dv 0)) (de_tup (da_cons de_str (da_cons (de_fld rfl R.c_number (dv 2)) da_nil)))))))))))
    · exact fnD (k := 2 + n) rfl R.F_Runs_do_row sc_Runs_do_row fun cdv A outer s H E hcd hr hgd => (ds_one (ds_thru (ds_one (ds_expr (de_meth cls_Runs (dv 0) R.cl_Runs R.mt_Runs_do G_Runs_do (Room.mono hr (by omega)) hgd R.b_Runs_do XT.takes_no (da_cons (dv 1) da_nil))))))
    · exact fnD (k := 2 + n) rfl R.F_Runs_do sc_Runs_do fun cdv A outer s H E hcd hr hgd => (ds_cons (ds_set (n := 2) sc_Runs_do.nd rfl (by first | exact .inl rfl | exact .inr rfl) (de_ix rfl (Room.u64 hr) (dv 1) de_int (fun _ _ => rfl)))
    (ds_one (ds_if (dt_eq rfl (Room.u64 hr) (dv 2) de_str) (ds_one (ds_expr (de_meth cls_Module (de_meth0 cls_Runs (dv 0) R.cl_Runs R.mt_Runs_running (ok_Runs_running R) (Room.mono hr (by omega)) hgd R.b_Runs_running (L2N.takes_of rfl rfl rfl rfl)) R.cl_Module R.mt_Module_bind (ok_Module_bind R) (Room.mono hr (by omega)) hgd R.b_Module_bind (L2N.takes_of rfl rfl rfl rfl) (da_cons (de_ix rfl (Room.u64 hr) (dv 1) de_int (fun _ _ => rfl)) (da_cons (de_ix rfl (Room.u64 hr) (dv 1) de_int (fun _ _ => rfl)) da_nil))))) (ds_one (ds_if (dt_eq rfl (Room.u64 hr) (dv 2) de_str) (ds_cons (ds_set (n := 3) sc_Runs_do.nd rfl (by first | exact .inl rfl | exact .inr rfl) (de_meth cls_Runs (dv 0) R.cl_Runs R.mt_Runs_taken G_Runs_taken (Room.mono hr (by omega)) hgd R.b_Runs_taken (L2N.takes_of rfl rfl rfl rfl) (da_cons (de_ix rfl (Room.u64 hr) (dv 1) de_int (fun _ _ => rfl)) da_nil)))
    (ds_one (ds_expr (de_meth cls_Module (de_meth0 cls_Runs (dv 0) R.cl_Runs R.mt_Runs_running (ok_Runs_running R) (Room.mono hr (by omega)) hgd R.b_Runs_running (L2N.takes_of rfl rfl rfl rfl)) R.cl_Module R.mt_Module_bind (ok_Module_bind R) (Room.mono hr (by omega)) hgd R.b_Module_bind (L2N.takes_of rfl rfl rfl rfl) (da_cons (de_ix rfl (Room.u64 hr) (dv 1) de_int (fun _ _ => rfl)) (da_cons (dv 3) da_nil)))))) (ds_one (ds_if (dt_eq rfl (Room.u64 hr) (dv 2) de_str) (ds_one (ds_expr (de_meth cls_Runs (dv 0) R.cl_Runs R.mt_Runs_note (ok_Runs_note R) (Room.mono hr (by omega)) hgd R.b_Runs_note (L2N.takes_of rfl rfl rfl rfl) (da_cons (de_ix rfl (Room.u64 hr) (dv 1) de_int (fun _ _ => rfl)) da_nil)))) ds_nil)))))))
theorem ok_Runs_taken (R : Row w K mg base) (n : Nat) : FnG P w K mg base (L2N.CX P w) (2 + n) (He.fAd K ("Runs", some "taken")) R.d_Runs_taken ["self", "path"] (spD (Γ K) (f_Runs_taken n)) := (ok_scc_Runs_taken R n).1
theorem ok_Runs_taken_alone (R : Row w K mg base) (n : Nat) : FnG P w K mg base (L2N.CX P w) (2 + n) (He.fAd K ("Runs", some "taken_alone")) R.d_Runs_taken_alone ["self", "path"] (spD (Γ K) (f_Runs_taken_alone n)) := (ok_scc_Runs_taken R n).2.1
theorem ok_Runs_begin (R : Row w K mg base) (n : Nat) : FnG P w K mg base (L2N.CX P w) (2 + n) (He.fAd K ("Runs", some "begin")) R.d_Runs_begin ["self", "path", "body"] (spD (Γ K) (f_Runs_begin n)) := (ok_scc_Runs_taken R n).2.2.1
theorem ok_Runs_run (R : Row w K mg base) (n : Nat) : FnG P w K mg base (L2N.CX P w) (2 + n) (He.fAd K ("Runs", some "run")) R.d_Runs_run ["self", "word", "module", "body"] (spD (Γ K) (f_Runs_run n)) := (ok_scc_Runs_taken R n).2.2.2.1
theorem ok_Runs_do_row (R : Row w K mg base) (n : Nat) : FnG P w K mg base (L2N.CX P w) (2 + n) (He.fAd K ("Runs", some "do_row")) R.d_Runs_do_row ["self", "row"] (spD (Γ K) (f_Runs_do_row n)) := (ok_scc_Runs_taken R n).2.2.2.2.1
theorem ok_Runs_do (R : Row w K mg base) (n : Nat) : FnG P w K mg base (L2N.CX P w) (2 + n) (He.fAd K ("Runs", some "do")) R.d_Runs_do ["self", "row"] (spD (Γ K) (f_Runs_do n)) := (ok_scc_Runs_taken R n).2.2.2.2.2

theorem ok_Runs_take (R : Row w K mg base) : FnG P w K mg base (L2N.CX P w) 63 (He.fAd K ("Runs", some "take")) R.d_Runs_take ["self", "path"] (spD (Γ K) f_Runs_take) :=
  fnD rfl R.F_Runs_take sc_Runs_take fun cdv A outer s H E hcd hr hgd => (ds_cons (ds_expr (de_call (ok_check_path R) (Room.mono hr (by omega)) hgd (by rfl) R.g_check_path R.F_check_path.kp R.b_check_path (L2N.takes_of rfl rfl rfl rfl) (da_cons (dv 1) da_nil)))
    (ds_cons (ds_fld rfl R.c_fallen (dv 0) de_dnew)
    (ds_one (ds_thru (ds_one (ds_ret (de_fld rfl R.c_number (de_meth cls_Runs (dv 0) R.cl_Runs R.mt_Runs_taken (ok_Runs_taken R 60) (Room.mono hr (by omega)) hgd R.b_Runs_taken XT.takes_no (da_cons (dv 1) da_nil)))))))))
theorem ok_scc__law_taken (R : Row w K mg base) : ∀ n : Nat, FnG P w K mg base (L2N.CX P w) (1 + n) (He.fAd K ("_law_taken", none)) R.d__law_taken ["_law_house_here", "_law_path"] (spD (Γ K) (f__law_taken n)) ∧ FnG P w K mg base (L2N.CX P w) (1 + n) (He.fAd K ("_law_done", none)) R.d__law_done ["_law_house_here", "_law_number_here", "_law_row_here"] (spD (Γ K) (f__law_done n))
  | 0 => ⟨fnD_no, fnD_no⟩
  | n + 1 => by
    obtain ⟨G__law_taken, G__law_done⟩ := ok_scc__law_taken R n
    refine ⟨?_, ?_⟩
    · exact fnD (k := 1 + n) rfl R.F__law_taken sc__law_taken fun cdv A outer s H E hcd hr hgd => (ds_cons (ds_if (dt_in rfl (Room.u64 hr) (dv 1) (de_ix rfl (Room.u64 hr) (dv 0) de_str (fun _ _ => rfl)) (by rfl)) (ds_cons (ds_expr (de_append rfl (de_ix rfl (Room.u64 hr) (dv 0) de_str (fun _ _ => rfl)) (de_tup (da_cons de_str (da_cons (de_ix rfl (Room.u64 hr) (de_ix rfl (Room.u64 hr) (dv 0) de_str (fun _ _ => rfl)) (dv 1) (fun _ _ => rfl)) da_nil)))))
    (ds_one (ds_ret (de_ix rfl (Room.u64 hr) (de_ix rfl (Room.u64 hr) (dv 0) de_str (fun _ _ => rfl)) (dv 1) (fun _ _ => rfl))))) ds_nil)
    (ds_cons (ds_set (n := 2) sc__law_taken.nd rfl (by first | exact .inl rfl | exact .inr rfl) (de_add rfl (de_len rfl (by rfl) R.m_len (de_ix rfl (Room.u64 hr) (dv 0) de_str (fun _ _ => rfl))) de_int))
    (ds_cons (ds_put (Room.u64 hr) (de_ix rfl (Room.u64 hr) (dv 0) de_str (fun _ _ => rfl)) (dv 2) de_dnew)
    (ds_cons (ds_put (Room.u64 hr) (de_ix rfl (Room.u64 hr) (dv 0) de_str (fun _ _ => rfl)) (dv 1) (dv 2))
    (ds_cons (ds_expr (de_append rfl (de_ix rfl (Room.u64 hr) (dv 0) de_str (fun _ _ => rfl)) (de_tup (da_cons de_str (da_cons (dv 2) (da_cons (dv 1) da_nil))))))
    (ds_cons (ds_asg (tg := (.tp [(.nm 3), (.nm 4)])) rfl (de_if (dt_ne rfl (Room.u64 hr) (de_ix rfl (Room.u64 hr) (dv 0) de_str (fun _ _ => rfl)) (de_lst da_nil)) (de_ix rfl (Room.u64 hr) (de_ix rfl (Room.u64 hr) (dv 0) de_str (fun _ _ => rfl)) (de_neg de_int) (fun _ _ => rfl)) (de_tup (da_cons de_non (da_cons de_non da_nil)))) (pg_tup rfl (pgs_cons (pg_name (i := 3) sc__law_taken.nd rfl (by first | exact .inl rfl | exact .inr rfl)) (pgs_cons (pg_name (i := 4) sc__law_taken.nd rfl (by first | exact .inl rfl | exact .inr rfl)) pgs_nil))))
    (ds_cons (ds_expr (de_append rfl (de_ix rfl (Room.u64 hr) (dv 0) de_str (fun _ _ => rfl)) (de_tup (da_cons (dv 2) (da_cons (dv 3) (da_cons (dv 4) da_nil))))))
    (ds_cons (ds_expr (de_append rfl (de_ix rfl (Room.u64 hr) (dv 0) de_str (fun _ _ => rfl)) (de_tup (da_cons (dv 2) (da_cons de_int da_nil)))))
    (ds_cons (ds_for (t := (.tp [(.nm 5), (.nm 6)])) rfl (L2.passes_of rfl) rfl (di_enum rfl (by rfl) R.m_enumerate (de_ix rfl (Room.u64 hr) (de_ix rfl (Room.u64 hr) (dv 0) de_str (fun _ _ => rfl)) (dv 1) (fun _ _ => rfl))) (pg_tup rfl (pgs_cons (pg_name (i := 5) sc__law_taken.nd rfl (by first | exact .inl rfl | exact .inr rfl)) (pgs_cons (pg_name (i := 6) sc__law_taken.nd rfl (by first | exact .inl rfl | exact .inr rfl)) pgs_nil)))
    (ds_cons (ds_put (Room.u64 hr) (de_ix rfl (Room.u64 hr) (dv 0) de_str (fun _ _ => rfl)) (de_neg de_int) (de_tup (da_cons (dv 2) (da_cons (dv 5) da_nil))))
    (ds_one (ds_expr (de_call G__law_done (Room.mono hr (by omega)) hgd (by rfl) R.g__law_done R.F__law_done.kp R.b__law_done (L2N.takes_of rfl rfl rfl rfl) (da_cons (dv 0) (da_cons (dv 2) (da_cons (dv 6) da_nil))))))))
    (ds_cons (ds_expr (de_pop rfl (de_ix rfl (Room.u64 hr) (dv 0) de_str (fun _ _ => rfl))))
    (ds_cons (ds_expr (de_append rfl (de_ix rfl (Room.u64 hr) (dv 0) de_str (fun _ _ => rfl)) (de_tup (da_cons de_str (da_cons (dv 2) da_nil)))))
    (ds_one (ds_ret (dv 2))))))))))))))
    · exact fnD (k := 1 + n) rfl R.F__law_done sc__law_done fun cdv A outer s H E hcd hr hgd => (ds_cons (ds_if (dt_eq rfl (Room.u64 hr) (de_ix rfl (Room.u64 hr) (dv 2) de_int (fun _ _ => rfl)) de_str) (ds_one (ds_expr (de_call G__law_taken (Room.mono hr (by omega)) hgd (by rfl) R.g__law_taken R.F__law_taken.kp R.b__law_taken (L2N.takes_of rfl rfl rfl rfl) (da_cons (dv 0) (da_cons (de_ix rfl (Room.u64 hr) (dv 2) de_int (fun _ _ => rfl)) da_nil))))) ds_nil)
    (ds_one (ds_if (dt_eq rfl (Room.u64 hr) (de_ix rfl (Room.u64 hr) (dv 2) de_int (fun _ _ => rfl)) de_str) (ds_cons (ds_set (n := 3) sc__law_done.nd rfl (by first | exact .inl rfl | exact .inr rfl) de_non)
    (ds_cons (ds_if (dt_in rfl (Room.u64 hr) (de_ix rfl (Room.u64 hr) (dv 2) de_int (fun _ _ => rfl)) (de_ix rfl (Room.u64 hr) (dv 0) de_str (fun _ _ => rfl)) (by rfl)) (ds_one (ds_set (n := 3) sc__law_done.nd rfl (by first | exact .inl rfl | exact .inr rfl) (de_tuple rfl (by rfl) R.m_tuple (de_sorted rfl rfl (by rfl) R.m_sorted (de_ix rfl (Room.u64 hr) (de_ix rfl (Room.u64 hr) (dv 0) de_str (fun _ _ => rfl)) (de_ix rfl (Room.u64 hr) (de_ix rfl (Room.u64 hr) (dv 0) de_str (fun _ _ => rfl)) (de_ix rfl (Room.u64 hr) (dv 2) de_int (fun _ _ => rfl)) (fun _ _ => rfl)) (fun _ _ => rfl)))))) ds_nil)
    (ds_one (ds_expr (de_append rfl (de_ix rfl (Room.u64 hr) (dv 0) de_str (fun _ _ => rfl)) (de_tup (da_cons de_str (da_cons (dv 1) (da_cons (dv 3) da_nil))))))))) (ds_one (ds_put (Room.u64 hr) (de_ix rfl (Room.u64 hr) (de_ix rfl (Room.u64 hr) (dv 0) de_str (fun _ _ => rfl)) (dv 1) (fun _ _ => rfl)) (de_ix rfl (Room.u64 hr) (dv 2) de_int (fun _ _ => rfl)) de_bl)))))
theorem ok__law_taken (R : Row w K mg base) (n : Nat) : FnG P w K mg base (L2N.CX P w) (1 + n) (He.fAd K ("_law_taken", none)) R.d__law_taken ["_law_house_here", "_law_path"] (spD (Γ K) (f__law_taken n)) := (ok_scc__law_taken R n).1
theorem ok__law_done (R : Row w K mg base) (n : Nat) : FnG P w K mg base (L2N.CX P w) (1 + n) (He.fAd K ("_law_done", none)) R.d__law_done ["_law_house_here", "_law_number_here", "_law_row_here"] (spD (Γ K) (f__law_done n)) := (ok_scc__law_taken R n).2

theorem ok__law_right (R : Row w K mg base) : FnG P w K mg base (L2N.CX P w) 2 (He.fAd K ("_law_right", none)) R.d__law_right ["_law_house_here", "_law_own"] (spD (Γ K) f__law_right) :=
  fnD rfl R.F__law_right sc__law_right fun cdv A outer s H E hcd hr hgd => (ds_cons (ds_for (t := (.nm 2)) rfl (L2.passes_of rfl) rfl (di_range1 (by rfl) R.m_range de_int) (pg_name (i := 2) sc__law_right.nd rfl (by first | exact .inl rfl | exact .inr rfl))
    (ds_cons (ds_par (n := 3) (m := 4) rfl sc__law_right.nd rfl rfl (by decide) (by rfl) (by rfl) (da_cons (de_meth0 cls_Runs (dv 0) R.cl_Runs R.mt_Runs_log (ok_Runs_log R) (Room.mono hr (by omega)) hgd R.b_Runs_log (L2N.takes_of rfl rfl rfl rfl)) (da_cons (de_meth0 cls_Runs (dv 0) R.cl_Runs R.mt_Runs_paper (ok_Runs_paper R) (Room.mono hr (by omega)) hgd R.b_Runs_paper (L2N.takes_of rfl rfl rfl rfl)) da_nil)) (by rfl))
    (ds_cons (ds_if (PW.pt (dt_or (dt_ne rfl (Room.u64 hr) (de_repr rfl hr hgd R.sys (by rfl) R.m_repr (dv 3)) (de_repr rfl hr hgd R.sys (by rfl) R.m_repr (de_ix rfl (Room.u64 hr) (dv 1) de_str (fun _ _ => rfl)))) (dt_or1 (dt_ne rfl (Room.u64 hr) (de_repr rfl hr hgd R.sys (by rfl) R.m_repr (dv 4)) (de_repr rfl hr hgd R.sys (by rfl) R.m_repr (de_ix rfl (Room.u64 hr) (dv 1) de_str (fun _ _ => rfl))))))) (ds_one (ds_ret de_bl)) ds_nil)
    (ds_cons (ds_expr (de_reverse rfl (dv 3)))
    (ds_cons (ds_expr (de_append rfl (dv 3) (de_tup (da_cons de_str (da_cons de_int da_nil)))))
    (ds_one (ds_expr (de_clear rfl (dv 4)))))))))
    (ds_one (ds_ret de_bl)))
theorem ok_law (R : Row w K mg base) : FnG P w K mg base (L2N.CX P w) 64 (He.fAd K ("law", none)) R.d_law ["_law_script"] (spD (Γ K) f_law) :=
  fnD rfl R.F_law sc_law fun cdv A outer s H E hcd hr hgd => (ds_cons (ds_set (n := 1) sc_law.nd rfl (by first | exact .inl rfl | exact .inr rfl) (de_call (ok__law_pot R) (Room.mono hr (by omega)) hgd (by rfl) R.g__law_pot R.F__law_pot.kp R.b__law_pot (L2N.takes_of rfl rfl rfl rfl) (da_cons (dv 0) (da_cons de_int da_nil))))
    (ds_cons (ds_set (n := 2) sc_law.nd rfl (by first | exact .inl rfl | exact .inr rfl) (de_call (ok__law_stock R) (Room.mono hr (by omega)) hgd (by rfl) R.g__law_stock R.F__law_stock.kp R.b__law_stock (L2N.takes_of rfl rfl rfl rfl) (da_cons (dv 1) da_nil)))
    (ds_cons (ds_set (n := 3) sc_law.nd rfl (by first | exact .inl rfl | exact .inr rfl) (de_call (ok__law_dealt R) (Room.mono hr (by omega)) hgd (by rfl) R.g__law_dealt R.F__law_dealt.kp R.b__law_dealt (L2N.takes_of rfl rfl rfl rfl) (da_cons (dv 1) (da_cons (dv 2) da_nil))))
    (ds_cons (ds_set (n := 4) sc_law.nd rfl (by first | exact .inl rfl | exact .inr rfl) (de_repr rfl hr hgd R.sys (by rfl) R.m_repr (dv 3)))
    (ds_cons (ds_set (n := 5) sc_law.nd rfl (by first | exact .inl rfl | exact .inr rfl) (de_lst (da_cons (de_make (C := He.ga K "Runs") cls_Runs R.mk_Runs (ok_Runs_init R) (Room.mono hr (by omega)) hgd (by rfl) R.gc_Runs R.b_Runs_init (L2N.takes_of rfl rfl rfl rfl) (da_cons (dv 3) da_nil)) (da_cons (de_make (C := He.ga K "Runs") cls_Runs R.mk_Runs (ok_Runs_init R) (Room.mono hr (by omega)) hgd (by rfl) R.gc_Runs R.b_Runs_init (L2N.takes_of rfl rfl rfl rfl) (da_cons (dv 3) da_nil)) da_nil))))
    (ds_cons (ds_set (n := 6) sc_law.nd rfl (by first | exact .inl rfl | exact .inr rfl) (de_lst (da_cons (de_call (ok__law_house R) (Room.mono hr (by omega)) hgd (by rfl) R.g__law_house R.F__law_house.kp R.b__law_house (L2N.takes_of rfl rfl rfl rfl) (da_cons (dv 2) da_nil)) (da_cons (de_call (ok__law_house R) (Room.mono hr (by omega)) hgd (by rfl) R.g__law_house R.F__law_house.kp R.b__law_house (L2N.takes_of rfl rfl rfl rfl) (da_cons (dv 2) da_nil)) da_nil))))
    (ds_cons (ds_set (n := 7) sc_law.nd rfl (by first | exact .inl rfl | exact .inr rfl) (de_list rfl rfl (by rfl) R.m_list (dv 2)))
    (ds_cons (ds_for (t := (.nm 8)) rfl (L2.passes_of rfl) rfl (di_E rfl (de_add rfl (de_lst (da_cons (de_call (ok__law_at R) (Room.mono hr (by omega)) hgd (by rfl) R.g__law_at R.F__law_at.kp R.b__law_at (L2N.takes_of rfl rfl rfl rfl) (da_cons (dv 0) (da_cons de_int da_nil))) da_nil)) (de_sl rfl (dv 0) (do_some de_int) (do_some de_int)))) (pg_name (i := 8) sc_law.nd rfl (by first | exact .inl rfl | exact .inr rfl))
    (ds_cons (ds_set (n := 9) sc_law.nd rfl (by first | exact .inl rfl | exact .inr rfl) (de_mod (de_fdiv (dv 8) (de_len rfl (by rfl) R.m_len (dv 7))) de_int))
    (ds_cons (ds_set (n := 10) sc_law.nd rfl (by first | exact .inl rfl | exact .inr rfl) (de_ix rfl (Room.u64 hr) (dv 7) (de_mod (dv 8) (de_len rfl (by rfl) R.m_len (dv 7))) (fun _ _ => rfl)))
    (ds_cons (ds_set (n := 11) sc_law.nd rfl (by first | exact .inl rfl | exact .inr rfl) (de_lst (da_cons (de_meth0 cls_Runs (de_ix rfl (Room.u64 hr) (dv 5) (dv 9) (fun _ _ => rfl)) R.cl_Runs R.mt_Runs_log (ok_Runs_log R) (Room.mono hr (by omega)) hgd R.b_Runs_log (L2N.takes_of rfl rfl rfl rfl)) (da_cons (de_meth0 cls_Runs (de_ix rfl (Room.u64 hr) (dv 5) (dv 9) (fun _ _ => rfl)) R.cl_Runs R.mt_Runs_paper (ok_Runs_paper R) (Room.mono hr (by omega)) hgd R.b_Runs_paper (L2N.takes_of rfl rfl rfl rfl)) da_nil))))
    (ds_cons (ds_set (n := 12) sc_law.nd rfl (by first | exact .inl rfl | exact .inr rfl) (de_repr rfl hr hgd R.sys (by rfl) R.m_repr (dv 11)))
    (ds_cons (ds_if (dt_ne rfl (Room.u64 hr) (de_repr rfl hr hgd R.sys (by rfl) R.m_repr (de_meth cls_Runs (de_ix rfl (Room.u64 hr) (dv 5) (dv 9) (fun _ _ => rfl)) R.cl_Runs R.mt_Runs_take (ok_Runs_take R) (Room.mono hr (by omega)) hgd R.b_Runs_take (L2N.takes_of rfl rfl rfl rfl) (da_cons (dv 10) da_nil))) (de_repr rfl hr hgd R.sys (by rfl) R.m_repr (de_call (ok__law_taken R 30) (Room.mono hr (by omega)) hgd (by rfl) R.g__law_taken R.F__law_taken.kp R.b__law_taken (L2N.takes_of rfl rfl rfl rfl) (da_cons (de_ix rfl (Room.u64 hr) (dv 6) (dv 9) (fun _ _ => rfl)) (da_cons (dv 10) da_nil))))) (ds_one (ds_ret de_bl)) ds_nil)
    (ds_cons (ds_if (PW.pt (dt_or (dt_eq rfl (Room.u64 hr) (de_repr rfl hr hgd R.sys (by rfl) R.m_repr (de_lst (da_cons (de_meth0 cls_Runs (de_ix rfl (Room.u64 hr) (dv 5) (dv 9) (fun _ _ => rfl)) R.cl_Runs R.mt_Runs_log (ok_Runs_log R) (Room.mono hr (by omega)) hgd R.b_Runs_log (L2N.takes_of rfl rfl rfl rfl)) (da_cons (de_meth0 cls_Runs (de_ix rfl (Room.u64 hr) (dv 5) (dv 9) (fun _ _ => rfl)) R.cl_Runs R.mt_Runs_paper (ok_Runs_paper R) (Room.mono hr (by omega)) hgd R.b_Runs_paper (L2N.takes_of rfl rfl rfl rfl)) da_nil)))) (dv 12)) (dt_or1 (dt_ne rfl (Room.u64 hr) (de_repr rfl hr hgd R.sys (by rfl) R.m_repr (dv 11)) (dv 12))))) (ds_one (ds_ret de_bl)) ds_nil)
    (ds_one (ds_if (PW.pt (dt_or (dt_not (dt_tru rfl (de_call (ok__law_right R) (Room.mono hr (by omega)) hgd (by rfl) R.g__law_right R.F__law_right.kp R.b__law_right (L2N.takes_of rfl rfl rfl rfl) (da_cons (de_ix rfl (Room.u64 hr) (dv 5) (dv 9) (fun _ _ => rfl)) (da_cons (de_ix rfl (Room.u64 hr) (dv 6) (dv 9) (fun _ _ => rfl)) da_nil))))) (dt_or1 (dt_not (dt_tru rfl (de_call (ok__law_right R) (Room.mono hr (by omega)) hgd (by rfl) R.g__law_right R.F__law_right.kp R.b__law_right (L2N.takes_of rfl rfl rfl rfl) (da_cons (de_ix rfl (Room.u64 hr) (dv 5) (de_sub de_int (dv 9)) (fun _ _ => rfl)) (da_cons (de_ix rfl (Room.u64 hr) (dv 6) (de_sub de_int (dv 9)) (fun _ _ => rfl)) da_nil)))))))) (ds_one (ds_ret de_bl)) ds_nil)))))))))
    (ds_one (ds_ret (de_eq rfl (Room.u64 hr) (de_repr rfl hr hgd R.sys (by rfl) R.m_repr (dv 3)) (dv 4))))))))))))
end
end G31
set_option maxHeartbeats 0
/-! k31: the head (printed by genH.py) -/
namespace G31
open PySem PySem.Spec PyProof.Rows L2 HM DL
abbrev dd (x : Str) (st : Stmt) : He.DefD := ⟨(x, none), x, x, defArgs st, defBody st, defScope st, [], []⟩
abbrev md (c m q : Str) (st : Stmt) : He.DefD := ⟨(c, some m), m, q, defArgs st, defBody st, defScope st, [], []⟩
def fn : List He.DefD := [dd "_law_at" s__law_at, dd "_law_pot" s__law_pot, dd "_law_draw" s__law_draw, dd "_law_name" s__law_name, dd "_law_number" s__law_number, dd "_law_row" s__law_row, dd "_law_stock" s__law_stock, dd "_law_dealt" s__law_dealt, dd "is_name" s_is_name, dd "is_path" s_is_path, dd "begins_with_text" s_begins_with_text, dd "is_whole" s_is_whole, dd "is_part" s_is_part, dd "is_line" s_is_line, dd "is_word" s_is_word, dd "are_words" s_are_words, dd "room_behind_rows" s_room_behind_rows, dd "room_behind_row" s_room_behind_row, dd "is_body" s_is_body, dd "check_finders" s_check_finders, md "Runs" "__init__" "Runs.__init__" s_Runs_init, dd "_law_house" s__law_house, md "Runs" "paper" "Runs.paper" s_Runs_paper, md "Runs" "log" "Runs.log" s_Runs_log, dd "check_path" s_check_path, md "Runs" "body_at" "Runs.body_at" s_Runs_body_at, md "Module" "__init__" "Module.__init__" s_Module_init, md "Runs" "write_down" "Runs.write_down" s_Runs_write_down, md "Module" "bind" "Module.bind" s_Module_bind, md "Runs" "running" "Runs.running" s_Runs_running, md "Module" "bound" "Module.bound" s_Module_bound, md "Runs" "note" "Runs.note" s_Runs_note, md "Runs" "taken" "Runs.taken" s_Runs_taken, md "Runs" "taken_alone" "Runs.taken_alone" s_Runs_taken_alone, md "Runs" "begin" "Runs.begin" s_Runs_begin, md "Runs" "run" "Runs.run" s_Runs_run, md "Runs" "do_row" "Runs.do_row" s_Runs_do_row, md "Runs" "do" "Runs.do" s_Runs_do, md "Runs" "take" "Runs.take" s_Runs_take, dd "_law_taken" s__law_taken, dd "_law_done" s__law_done, dd "_law_right" s__law_right, dd "law" s_law]
def fa : List He.Fa := [.glo "_law_at", .glo "_law_pot", .glo "_law_draw", .glo "_law_name", .glo "_law_number", .glo "_law_row", .glo "_law_stock", .glo "_law_dealt", .glo "is_name", .glo "is_path", .glo "begins_with_text", .glo "is_whole", .glo "is_part", .glo "is_line", .glo "is_word", .glo "are_words", .glo "room_behind_rows", .glo "room_behind_row", .glo "is_body", .glo "check_finders", .glo "_law_house", .glo "check_path", .glo "_law_taken", .glo "_law_done", .glo "_law_right", .glo "law", .free "all", .free "bool", .free "dict", .free "divmod", .free "enumerate", .free "int", .free "isinstance", .free "len", .free "list", .free "max", .free "range", .free "repr", .free "set", .free "sorted", .free "str", .free "tuple", .free "zip", .int "LETTERS_AT_MOST" 8, .int "NAMES_AT_MOST" 4, .int "ROWS_AT_MOST" 40, .int "TRIES_AT_MOST" 3, .glo "GREAT_WORDS", .glo "PARTS", .cls "Module", .cls "Runs", .glo "Module", .mkr "Module", .glo "Runs", .mkr "Runs", .meth "Module" "bind", .meth "Module" "bound", .meth "Runs" "begin", .meth "Runs" "body_at", .meth "Runs" "do", .meth "Runs" "do_row", .meth "Runs" "log", .meth "Runs" "note", .meth "Runs" "paper", .meth "Runs" "run", .meth "Runs" "running", .meth "Runs" "take", .meth "Runs" "taken", .meth "Runs" "taken_alone", .meth "Runs" "write_down", .noat "Module" "begun", .noat "Module" "chain", .noat "Module" "entries", .noat "Module" "failed", .noat "Module" "fallen", .noat "Module" "finders", .noat "Module" "modules", .noat "Module" "number", .noat "Module" "path", .noat "Module" "standing", .noat "Module" "things", .noat "Runs" "begun", .noat "Runs" "chain", .noat "Runs" "entries", .noat "Runs" "failed", .noat "Runs" "fallen", .noat "Runs" "finders", .noat "Runs" "modules", .noat "Runs" "number", .noat "Runs" "path", .noat "Runs" "standing", .noat "Runs" "things"]
def dt_PARTS : List (Str × List Str) := [("set", ["name", "number"]), ("now", ["name", "path"]), ("take", ["name", "path"]), ("draw", ["name", "path", "name"]), ("late", ["name", "path"]), ("ask", ["name", "path"]), ("note", ["path"]), ("fail", ["name"])]
def ts : List He.Tab := [(fun K => He.ga K "PARTS", dt_PARTS.map (·.1))]
def ex (K : PySem.W.Frag) : Bool := (K.lookup sysModules).isSome && (DH.tupAt K (He.ga K "GREAT_WORDS") (["NOMODULE", "NONAME", "HALF", "FLAT", "NOTASK", "ALL"] : List Str) && (DH.dicB "PARTS" dt_PARTS K))
def loose : List Str := (["_wall", "MadeError", "NoPath", "NoBody", "NoFinder", "Fault", "Failed", "LETTERS_AT_MOST", "NAMES_AT_MOST", "is_name", "is_path", "Module", "places", "ROWS_AT_MOST", "TRIES_AT_MOST", "PARTS", "GREAT_WORDS", "is_whole", "is_part", "is_word"] : List Str) ++ (["are_words", "begins_with_text", "is_line", "room_behind_row", "room_behind_rows", "is_body", "check_path", "check_finders", "Runs", "_law_at", "_law_pot", "_law_draw", "_law_name", "_law_number", "_law_row", "_law_stock", "_law_dealt", "_law_house", "_law_done", "_law_taken"] : List Str) ++ (["_law_right"] : List Str)
abbrev R : PySem.W.OpenRow := PySem.W.OpenLaw.row PySem.Challenge.rw_halfmade_k31_whole_runs_in_order
abbrev pr : Program := (PySem.Challenge.rw_halfmade_k31_whole_runs_in_order).prog
abbrev hk : PySem.W.Hook := DH.hookZ 6 pr.main.file fa fn ts [] tf ex
def ob (s : PySem.W.SharedT) : DH.AlZ := DH.obsZ 6 pr.main.file fa fn ts [] tf ex (HandSHeadRun.getT s)
theorem ob_eq (s : PySem.W.SharedT) : ob s = hk.obs s.abs := DH.obsZ_eq (HandSHeadRun.getT_eq s)
theorem run_t (w : World) : HandSHeadRun.RunEq R (PySem.W.view R.prog [48]) hk ob 4000 loose (DH.setF w true) := by
  intro os
  kernel_rfl
theorem run_f (w : World) : HandSHeadRun.RunEq R (PySem.W.view R.prog [48]) hk ob 4000 loose (DH.setF w false) := by
  intro os
  kernel_rfl
theorem run (w : World) : HandSHeadRun.RunEq R (PySem.W.view R.prog [48]) hk ob 4000 loose w := by
  rw [← DH.setF_eq w]
  cases w.params.followText "special-get-raises" with
  | true => exact run_t w
  | false => exact run_f w
end G31
set_option maxHeartbeats 0
namespace G31
open PySem PySem.Spec PyProof.Rows L2 HM DL
theorem rowOf {w : World} {K : PySem.W.Frag} {h base : Heap} {mg : Str → Option Value} (X : K.In h) (G : h.Ns mainGlobals mg) (c : DH.SaysZ pr.main.file fa fn ts [] tf ex w h K) (hTB : ∀ p ∈ tf.map (He.cT K), GxR.TabB base mg p.1 p.2) {fdL : FuncData} (FL : FunD K "law" "law" (defArgs s_law) (defBody s_law) (defScope s_law) [] [] (He.fAd K ("law", none)) fdL) : ∃ R : Row w K mg base, R.d_law = fdL := by
  have c0 : He.SaysD fa fn K := c.t.d
  obtain ⟨fd0, F0⟩ := c0.def_ 0 (d := dd "_law_at" s__law_at) rfl
  obtain ⟨fd1, F1⟩ := c0.def_ 1 (d := dd "_law_pot" s__law_pot) rfl
  obtain ⟨fd2, F2⟩ := c0.def_ 2 (d := dd "_law_draw" s__law_draw) rfl
  obtain ⟨fd3, F3⟩ := c0.def_ 3 (d := dd "_law_name" s__law_name) rfl
  obtain ⟨fd4, F4⟩ := c0.def_ 4 (d := dd "_law_number" s__law_number) rfl
  obtain ⟨fd5, F5⟩ := c0.def_ 5 (d := dd "_law_row" s__law_row) rfl
  obtain ⟨fd6, F6⟩ := c0.def_ 6 (d := dd "_law_stock" s__law_stock) rfl
  obtain ⟨fd7, F7⟩ := c0.def_ 7 (d := dd "_law_dealt" s__law_dealt) rfl
  obtain ⟨fd8, F8⟩ := c0.def_ 8 (d := dd "is_name" s_is_name) rfl
  obtain ⟨fd9, F9⟩ := c0.def_ 9 (d := dd "is_path" s_is_path) rfl
  obtain ⟨fd10, F10⟩ := c0.def_ 10 (d := dd "begins_with_text" s_begins_with_text) rfl
  obtain ⟨fd11, F11⟩ := c0.def_ 11 (d := dd "is_whole" s_is_whole) rfl
  obtain ⟨fd12, F12⟩ := c0.def_ 12 (d := dd "is_part" s_is_part) rfl
  obtain ⟨fd13, F13⟩ := c0.def_ 13 (d := dd "is_line" s_is_line) rfl
  obtain ⟨fd14, F14⟩ := c0.def_ 14 (d := dd "is_word" s_is_word) rfl
  obtain ⟨fd15, F15⟩ := c0.def_ 15 (d := dd "are_words" s_are_words) rfl
  obtain ⟨fd16, F16⟩ := c0.def_ 16 (d := dd "room_behind_rows" s_room_behind_rows) rfl
  obtain ⟨fd17, F17⟩ := c0.def_ 17 (d := dd "room_behind_row" s_room_behind_row) rfl
  obtain ⟨fd18, F18⟩ := c0.def_ 18 (d := dd "is_body" s_is_body) rfl
  obtain ⟨fd19, F19⟩ := c0.def_ 19 (d := dd "check_finders" s_check_finders) rfl
  obtain ⟨fd20, F20⟩ := c0.def_ 20 (d := md "Runs" "__init__" "Runs.__init__" s_Runs_init) rfl
  obtain ⟨fd21, F21⟩ := c0.def_ 21 (d := dd "_law_house" s__law_house) rfl
  obtain ⟨fd22, F22⟩ := c0.def_ 22 (d := md "Runs" "paper" "Runs.paper" s_Runs_paper) rfl
  obtain ⟨fd23, F23⟩ := c0.def_ 23 (d := md "Runs" "log" "Runs.log" s_Runs_log) rfl
  obtain ⟨fd24, F24⟩ := c0.def_ 24 (d := dd "check_path" s_check_path) rfl
  obtain ⟨fd25, F25⟩ := c0.def_ 25 (d := md "Runs" "body_at" "Runs.body_at" s_Runs_body_at) rfl
  obtain ⟨fd26, F26⟩ := c0.def_ 26 (d := md "Module" "__init__" "Module.__init__" s_Module_init) rfl
  obtain ⟨fd27, F27⟩ := c0.def_ 27 (d := md "Runs" "write_down" "Runs.write_down" s_Runs_write_down) rfl
  obtain ⟨fd28, F28⟩ := c0.def_ 28 (d := md "Module" "bind" "Module.bind" s_Module_bind) rfl
  obtain ⟨fd29, F29⟩ := c0.def_ 29 (d := md "Runs" "running" "Runs.running" s_Runs_running) rfl
  obtain ⟨fd30, F30⟩ := c0.def_ 30 (d := md "Module" "bound" "Module.bound" s_Module_bound) rfl
  obtain ⟨fd31, F31⟩ := c0.def_ 31 (d := md "Runs" "note" "Runs.note" s_Runs_note) rfl
  obtain ⟨fd32, F32⟩ := c0.def_ 32 (d := md "Runs" "taken" "Runs.taken" s_Runs_taken) rfl
  obtain ⟨fd33, F33⟩ := c0.def_ 33 (d := md "Runs" "taken_alone" "Runs.taken_alone" s_Runs_taken_alone) rfl
  obtain ⟨fd34, F34⟩ := c0.def_ 34 (d := md "Runs" "begin" "Runs.begin" s_Runs_begin) rfl
  obtain ⟨fd35, F35⟩ := c0.def_ 35 (d := md "Runs" "run" "Runs.run" s_Runs_run) rfl
  obtain ⟨fd36, F36⟩ := c0.def_ 36 (d := md "Runs" "do_row" "Runs.do_row" s_Runs_do_row) rfl
  obtain ⟨fd37, F37⟩ := c0.def_ 37 (d := md "Runs" "do" "Runs.do" s_Runs_do) rfl
  obtain ⟨fd38, F38⟩ := c0.def_ 38 (d := md "Runs" "take" "Runs.take" s_Runs_take) rfl
  obtain ⟨fd39, F39⟩ := c0.def_ 39 (d := dd "_law_taken" s__law_taken) rfl
  obtain ⟨fd40, F40⟩ := c0.def_ 40 (d := dd "_law_done" s__law_done) rfl
  obtain ⟨fd41, F41⟩ := c0.def_ 41 (d := dd "_law_right" s__law_right) rfl
  have g : ∀ (i : Nat) {x : Str}, fa[i]? = some (.glo x) → mg x = some (.ref (He.ga K x)) := fun i x e => He.glo_ok X G (c0.fact i e)
  have fr : ∀ (i : Nat) {x : Str}, fa[i]? = some (.free x) → mg x = none := fun i x e => He.free_ok X G (c0.fact i e)
  have y : ex K = true := c.more
  unfold ex at y
  obtain ⟨hsys, y⟩ := He.ba y
  obtain ⟨ht_GREAT_WORDS, y⟩ := He.ba y
  have hd_PARTS := y
  have te : ts.map (fun t => He.dicW K (t.1 K)) = ts.map fun t => some (He.keysIn w.params t.2) := congrArg (fun z : He.AlT => z.2) c.t
  have hdic_PARTS : He.dicW K (He.ga K "PARTS") = some (He.keysIn w.params (dt_PARTS.map (·.1))) := (List.cons.inj te).1
  have te := (List.cons.inj te).2
  exact ⟨{
    d__law_at := fd0
    F__law_at := F0
    g__law_at := g 0 (x := "_law_at") rfl
    d__law_pot := fd1
    F__law_pot := F1
    g__law_pot := g 1 (x := "_law_pot") rfl
    d__law_draw := fd2
    F__law_draw := F2
    g__law_draw := g 2 (x := "_law_draw") rfl
    d__law_name := fd3
    F__law_name := F3
    g__law_name := g 3 (x := "_law_name") rfl
    d__law_number := fd4
    F__law_number := F4
    g__law_number := g 4 (x := "_law_number") rfl
    d__law_row := fd5
    F__law_row := F5
    g__law_row := g 5 (x := "_law_row") rfl
    d__law_stock := fd6
    F__law_stock := F6
    g__law_stock := g 6 (x := "_law_stock") rfl
    d__law_dealt := fd7
    F__law_dealt := F7
    g__law_dealt := g 7 (x := "_law_dealt") rfl
    d_is_name := fd8
    F_is_name := F8
    g_is_name := g 8 (x := "is_name") rfl
    d_is_path := fd9
    F_is_path := F9
    g_is_path := g 9 (x := "is_path") rfl
    d_begins_with_text := fd10
    F_begins_with_text := F10
    g_begins_with_text := g 10 (x := "begins_with_text") rfl
    d_is_whole := fd11
    F_is_whole := F11
    g_is_whole := g 11 (x := "is_whole") rfl
    d_is_part := fd12
    F_is_part := F12
    g_is_part := g 12 (x := "is_part") rfl
    d_is_line := fd13
    F_is_line := F13
    g_is_line := g 13 (x := "is_line") rfl
    d_is_word := fd14
    F_is_word := F14
    g_is_word := g 14 (x := "is_word") rfl
    d_are_words := fd15
    F_are_words := F15
    g_are_words := g 15 (x := "are_words") rfl
    d_room_behind_rows := fd16
    F_room_behind_rows := F16
    g_room_behind_rows := g 16 (x := "room_behind_rows") rfl
    d_room_behind_row := fd17
    F_room_behind_row := F17
    g_room_behind_row := g 17 (x := "room_behind_row") rfl
    d_is_body := fd18
    F_is_body := F18
    g_is_body := g 18 (x := "is_body") rfl
    d_check_finders := fd19
    F_check_finders := F19
    g_check_finders := g 19 (x := "check_finders") rfl
    d_Runs_init := fd20
    F_Runs_init := F20
    d__law_house := fd21
    F__law_house := F21
    g__law_house := g 20 (x := "_law_house") rfl
    d_Runs_paper := fd22
    F_Runs_paper := F22
    d_Runs_log := fd23
    F_Runs_log := F23
    d_check_path := fd24
    F_check_path := F24
    g_check_path := g 21 (x := "check_path") rfl
    d_Runs_body_at := fd25
    F_Runs_body_at := F25
    d_Module_init := fd26
    F_Module_init := F26
    d_Runs_write_down := fd27
    F_Runs_write_down := F27
    d_Module_bind := fd28
    F_Module_bind := F28
    d_Runs_running := fd29
    F_Runs_running := F29
    d_Module_bound := fd30
    F_Module_bound := F30
    d_Runs_note := fd31
    F_Runs_note := F31
    d_Runs_taken := fd32
    F_Runs_taken := F32
    d_Runs_taken_alone := fd33
    F_Runs_taken_alone := F33
    d_Runs_begin := fd34
    F_Runs_begin := F34
    d_Runs_run := fd35
    F_Runs_run := F35
    d_Runs_do_row := fd36
    F_Runs_do_row := F36
    d_Runs_do := fd37
    F_Runs_do := F37
    d_Runs_take := fd38
    F_Runs_take := F38
    d__law_taken := fd39
    F__law_taken := F39
    g__law_taken := g 22 (x := "_law_taken") rfl
    d__law_done := fd40
    F__law_done := F40
    g__law_done := g 23 (x := "_law_done") rfl
    d__law_right := fd41
    F__law_right := F41
    g__law_right := g 24 (x := "_law_right") rfl
    d_law := fdL
    F_law := FL
    g_law := g 25 (x := "law") rfl
    m_all := fr 26 (x := "all") rfl
    m_bool := fr 27 (x := "bool") rfl
    m_dict := fr 28 (x := "dict") rfl
    m_divmod := fr 29 (x := "divmod") rfl
    m_enumerate := fr 30 (x := "enumerate") rfl
    m_int := fr 31 (x := "int") rfl
    m_isinstance := fr 32 (x := "isinstance") rfl
    m_len := fr 33 (x := "len") rfl
    m_list := fr 34 (x := "list") rfl
    m_max := fr 35 (x := "max") rfl
    m_range := fr 36 (x := "range") rfl
    m_repr := fr 37 (x := "repr") rfl
    m_set := fr 38 (x := "set") rfl
    m_sorted := fr 39 (x := "sorted") rfl
    m_str := fr 40 (x := "str") rfl
    m_tuple := fr 41 (x := "tuple") rfl
    m_zip := fr 42 (x := "zip") rfl
    i_LETTERS_AT_MOST := He.int_ok X G (c0.fact 43 (f := .int "LETTERS_AT_MOST" 8) rfl)
    i_NAMES_AT_MOST := He.int_ok X G (c0.fact 44 (f := .int "NAMES_AT_MOST" 4) rfl)
    i_ROWS_AT_MOST := He.int_ok X G (c0.fact 45 (f := .int "ROWS_AT_MOST" 40) rfl)
    i_TRIES_AT_MOST := He.int_ok X G (c0.fact 46 (f := .int "TRIES_AT_MOST" 3) rfl)
    g_GREAT_WORDS := g 47 (x := "GREAT_WORDS") rfl
    t_GREAT_WORDS := fun ρ H => DH.tupAt_rd (Γ := Γ K) ht_GREAT_WORDS ρ H
    g_PARTS := g 48 (x := "PARTS") rfl
    k_PARTS := DH.kdic_of (Γ := Γ K) (w := w) (x := "PARTS") (tb := dt_PARTS) hdic_PARTS hd_PARTS
    cl_Module := He.cls_ok (c0.fact 49 (f := .cls "Module") rfl)
    cl_Runs := He.cls_ok (c0.fact 50 (f := .cls "Runs") rfl)
    gc_Module := g 51 (x := "Module") rfl
    mk_Module := He.mkr_ok (c0.fact 52 (f := .mkr "Module") rfl)
    gc_Runs := g 53 (x := "Runs") rfl
    mk_Runs := He.mkr_ok (c0.fact 54 (f := .mkr "Runs") rfl)
    mt_Module_bind := He.meth_ok (c0.fact 55 (f := .meth "Module" "bind") rfl)
    mt_Module_bound := He.meth_ok (c0.fact 56 (f := .meth "Module" "bound") rfl)
    mt_Runs_begin := He.meth_ok (c0.fact 57 (f := .meth "Runs" "begin") rfl)
    mt_Runs_body_at := He.meth_ok (c0.fact 58 (f := .meth "Runs" "body_at") rfl)
    mt_Runs_do := He.meth_ok (c0.fact 59 (f := .meth "Runs" "do") rfl)
    mt_Runs_do_row := He.meth_ok (c0.fact 60 (f := .meth "Runs" "do_row") rfl)
    mt_Runs_log := He.meth_ok (c0.fact 61 (f := .meth "Runs" "log") rfl)
    mt_Runs_note := He.meth_ok (c0.fact 62 (f := .meth "Runs" "note") rfl)
    mt_Runs_paper := He.meth_ok (c0.fact 63 (f := .meth "Runs" "paper") rfl)
    mt_Runs_run := He.meth_ok (c0.fact 64 (f := .meth "Runs" "run") rfl)
    mt_Runs_running := He.meth_ok (c0.fact 65 (f := .meth "Runs" "running") rfl)
    mt_Runs_take := He.meth_ok (c0.fact 66 (f := .meth "Runs" "take") rfl)
    mt_Runs_taken := He.meth_ok (c0.fact 67 (f := .meth "Runs" "taken") rfl)
    mt_Runs_taken_alone := He.meth_ok (c0.fact 68 (f := .meth "Runs" "taken_alone") rfl)
    mt_Runs_write_down := He.meth_ok (c0.fact 69 (f := .meth "Runs" "write_down") rfl)
    na_Module_begun := He.noat_ok (c0.fact 70 (f := .noat "Module" "begun") rfl)
    na_Module_chain := He.noat_ok (c0.fact 71 (f := .noat "Module" "chain") rfl)
    na_Module_entries := He.noat_ok (c0.fact 72 (f := .noat "Module" "entries") rfl)
    na_Module_failed := He.noat_ok (c0.fact 73 (f := .noat "Module" "failed") rfl)
    na_Module_fallen := He.noat_ok (c0.fact 74 (f := .noat "Module" "fallen") rfl)
    na_Module_finders := He.noat_ok (c0.fact 75 (f := .noat "Module" "finders") rfl)
    na_Module_modules := He.noat_ok (c0.fact 76 (f := .noat "Module" "modules") rfl)
    na_Module_number := He.noat_ok (c0.fact 77 (f := .noat "Module" "number") rfl)
    na_Module_path := He.noat_ok (c0.fact 78 (f := .noat "Module" "path") rfl)
    na_Module_standing := He.noat_ok (c0.fact 79 (f := .noat "Module" "standing") rfl)
    na_Module_things := He.noat_ok (c0.fact 80 (f := .noat "Module" "things") rfl)
    na_Runs_begun := He.noat_ok (c0.fact 81 (f := .noat "Runs" "begun") rfl)
    na_Runs_chain := He.noat_ok (c0.fact 82 (f := .noat "Runs" "chain") rfl)
    na_Runs_entries := He.noat_ok (c0.fact 83 (f := .noat "Runs" "entries") rfl)
    na_Runs_failed := He.noat_ok (c0.fact 84 (f := .noat "Runs" "failed") rfl)
    na_Runs_fallen := He.noat_ok (c0.fact 85 (f := .noat "Runs" "fallen") rfl)
    na_Runs_finders := He.noat_ok (c0.fact 86 (f := .noat "Runs" "finders") rfl)
    na_Runs_modules := He.noat_ok (c0.fact 87 (f := .noat "Runs" "modules") rfl)
    na_Runs_number := He.noat_ok (c0.fact 88 (f := .noat "Runs" "number") rfl)
    na_Runs_path := He.noat_ok (c0.fact 89 (f := .noat "Runs" "path") rfl)
    na_Runs_standing := He.noat_ok (c0.fact 90 (f := .noat "Runs" "standing") rfl)
    na_Runs_things := He.noat_ok (c0.fact 91 (f := .noat "Runs" "things") rfl)
    T_is_name := hTB (He.cT K ("is_name", none)) (List.mem_map.mpr ⟨("is_name", none), by decide, rfl⟩)
    T_is_path := hTB (He.cT K ("is_path", none)) (List.mem_map.mpr ⟨("is_path", none), by decide, rfl⟩)
    T_is_line := hTB (He.cT K ("is_line", none)) (List.mem_map.mpr ⟨("is_line", none), by decide, rfl⟩)
    T_are_words := hTB (He.cT K ("are_words", none)) (List.mem_map.mpr ⟨("are_words", none), by decide, rfl⟩)
    T_check_finders := hTB (He.cT K ("check_finders", none)) (List.mem_map.mpr ⟨("check_finders", none), by decide, rfl⟩)
    sys := Option.isSome_iff_exists.mp hsys }, rfl⟩
theorem facts {w : World} {K : PySem.W.Frag} {h : Heap} {mg : Str → Option Value} {f : Addr} (math : ∀ (ns : List Int) (d : D) (s : Sto), ns.length ≤ 63 → (∀ z ∈ ns, Builtin.Int.intBits z ≤ 1048576) → DH.Scr ns d s → ∃ s1, f_law [d] s = .ok (.bl true) s1) (X : K.In h) (G : h.Ns mainGlobals mg) (hfa : mg ("law" : Str) = some (.ref f)) (c : DH.SaysZ pr.main.file fa fn ts [] tf ex w h K) : LawG PySem.Challenge.rw_halfmade_k31_whole_runs_in_order w K (L2N.CX pr w) 64 63 "_law_script" mg f h := by
  have c0 : He.SaysD fa fn K := c.t.d
  have g : ∀ (i : Nat) {x : Str}, fa[i]? = some (.glo x) → mg x = some (.ref (He.ga K x)) := fun i x e => He.glo_ok X G (c0.fact i e)
  obtain ⟨fdL, FL⟩ := c0.def_ 42 (d := dd "law" s_law) rfl
  have e := hfa.symm.trans (g 25 (x := "law") rfl)
  cases e
  refine ⟨fdL, tf.map (He.cT K), spD (Γ K) f_law, fun p hp => ?_, fun p hp => ?_, fun p hp => ?_, fun s u => ?_, fun H a ns hl hb hH hS => ?_, fun base hK hN hTB => ?_⟩
  · obtain ⟨q, hq, rfl⟩ := List.mem_map.mp hp
    exact c.empty q hq
  · obtain ⟨q, hq, rfl⟩ := List.mem_map.mp hp
    exact c.out q hq
  · obtain ⟨q, hq, rfl⟩ := List.mem_map.mp hp
    exact PySem.W.codeHd_of_K X (c.hd q hq)
  · exact FunD.bindsA (ps := ["_law_script"]) FL (fun _ _ _ _ _ _ us hl => match us, hl with | [_], _ => rfl) s [u] rfl
  · refine DH.start (Γ := Γ K) (fun P hP => ?_) hS fun d s sc => math ns d s hl hb sc
    obtain ⟨p, hp, rfl⟩ := List.mem_map.mp hP
    exact ⟨#[], hH p hp, True.intro⟩
  · obtain ⟨R, hfd⟩ := rowOf (w := w) (base := base) X G c hTB FL
    rw [← hfd]
    exact ok_law R
end G31
open PySem PySem.W PySem.Calls PyProof.Rows
theorem G31.mathHolds (math : ∀ (ns : List Int) (d : DL.D) (s : DL.Sto), ns.length ≤ 63 → (∀ z ∈ ns, Builtin.Int.intBits z ≤ 1048576) → DH.Scr ns d s → ∃ s1, G31.f_law [d] s = .ok (.bl true) s1) : PySem.Challenge.rw_halfmade_k31_whole_runs_in_order.Holds := by
  w_on; o_law
  refine HandSHeadRun.head_any (r := G31.R) (q := view G31.R.prog [48]) (H := G31.hk) (ob := G31.ob) (M := 4000) (loose := G31.loose) (d := HandSHeadRun.topDef G31.R.prog 48) (kwd := []) G31.ob_eq
    (by kernel_rfl) (fun s => by kernel_rfl) G31.run (by kernel_rfl) (by kernel_rfl) (by kernel_rfl) (by rfl) (by first | assumption | decide +kernel) (by decide +kernel) ⟨rfl, rfl, rfl, rfl, rfl, by decide +kernel⟩ ?hw ?hc
  case hw => w_witness2
  case hc =>
    refine HM.walkG (l := PySem.Challenge.rw_halfmade_k31_whole_runs_in_order) (n := 63) (k := 64) (x := "_law_script") (CX := fun w => L2N.CX G31.pr w) rfl (by decide) (by kernel_rfl) ⟨rfl, by decide, by decide⟩ (fun w mg fa h Y G hmg0 => ?_) (fun _ _ _ _ _ z => DH.noCX z)
    obtain ⟨K, KX, c⟩ := Y
    have hmg : mg ("law" : PySem.Str) = some (.ref fa) := by
      have e : (HandSHeadRun.topDef G31.R.prog 48).name = ("law" : PySem.Str) := by kernel_rfl
      rw [← e]
      exact hmg0
    exact ⟨K, KX, G31.facts math KX G hmg c⟩
set_option maxHeartbeats 4000000
/-! The law's own house of dicts: its state in the store -/
namespace S4
open PySem PySem.Spec PyProof.Rows L2 HM DL S0 S1 S2 S3
structure OG where
  (w sk tb nm lg pa li : Nat)
  ds : List Nat
def ownK (o : OG) : List (Key × D) := [(.inr "stock", .ref o.sk), (.inr "table", .ref o.tb), (.inr "names", .ref o.nm), (.inr "log", .ref o.lg), (.inr "paper", .ref o.pa), (.inr "line", .ref o.li)]
@[simp] theorem ow_stock {o : OG} : valD (ownK o) (.inr ("stock" : Str)) = some (.ref o.sk) := rfl
@[simp] theorem ow_table {o : OG} : valD (ownK o) (.inr ("table" : Str)) = some (.ref o.tb) := rfl
@[simp] theorem ow_names {o : OG} : valD (ownK o) (.inr ("names" : Str)) = some (.ref o.nm) := rfl
@[simp] theorem ow_log {o : OG} : valD (ownK o) (.inr ("log" : Str)) = some (.ref o.lg) := rfl
@[simp] theorem ow_paper {o : OG} : valD (ownK o) (.inr ("paper" : Str)) = some (.ref o.pa) := rfl
@[simp] theorem ow_line {o : OG} : valD (ownK o) (.inr ("line" : Str)) = some (.ref o.li) := rfl
def tabF : Nat → List (Str × List Str) → List (Key × D)
  | _, [] => []
  | k, m :: r => (.inr m.1, .int ((k : Nat) + 1 : Int)) :: tabF (k + 1) r
def nmF : Nat → List Nat → List (Key × D)
  | _, [] => []
  | k, a :: r => (.inl ((k : Nat) + 1 : Int), .ref a) :: nmF (k + 1) r
def lnD (ln : Ln) : List D := ln.map fun q => .tup [.int ((q.1 : Nat) + 1 : Int), .int (q.2 : Nat)]
theorem tab_val {p : Str} : ∀ {ms : List (Str × List Str)} {k : Nat}, valD (tabF k ms) (.inr p) = (fnd ms p).map fun i => .int ((k + i : Nat) + 1 : Int)
  | [], _ => rfl
  | m :: ms, k => by
    by_cases e : m.1 = p
    · simp [tabF, valD, fnd, List.findIdx?_cons, e]
    · have hf : fnd (m :: ms) p = (fnd ms p).map (· + 1) := by simp [fnd, List.findIdx?_cons, e]
      have e' : ¬((Sum.inr m.1 : Key) = .inr p) := fun z => e (Sum.inr.inj z)
      have hv : valD (tabF k (m :: ms)) (.inr p) = valD (tabF (k + 1) ms) (.inr p) := by simp [tabF, valD, e']
      rw [hv, tab_val, hf]
      cases fnd ms p with
      | none => rfl
      | some i =>
        simp
        omega
theorem nm_val : ∀ {ds : List Nat} {k i : Nat}, valD (nmF k ds) (.inl (((k + i : Nat) : Int) + 1)) = (ds[i]?).map fun a => .ref a
  | [], _, _ => rfl
  | a :: ds, k, 0 => by simp [nmF, valD]
  | a :: ds, k, i + 1 => by
    have e' : ¬((Sum.inl (((k : Nat) : Int) + 1) : Key) = .inl (((k + (i + 1) : Nat) : Int) + 1)) := fun z => by
      have := Sum.inl.inj z
      omega
    have hv : valD (nmF k (a :: ds)) (.inl (((k + (i + 1) : Nat) : Int) + 1)) = valD (nmF (k + 1) ds) (.inl (((k + 1 + i : Nat) : Int) + 1)) := by
      have e2 : k + (i + 1) = k + 1 + i := by omega
      rw [← e2]
      simp only [nmF, valD, List.find?_cons, e', decide_false]
    rw [hv, nm_val]
    rfl
theorem tab_keys : ∀ {ms : List (Str × List Str)} {k : Nat}, (tabF k ms).map (·.1) = ms.map fun m => Sum.inr m.1
  | [], _ => rfl
  | m :: ms, k => by simp [tabF, tab_keys]
theorem tab_snoc {m : Str × List Str} : ∀ {ms : List (Str × List Str)} {k : Nat}, tabF k (ms ++ [m]) = tabF k ms ++ [(.inr m.1, .int ((k + ms.length : Nat) + 1 : Int))]
  | [], _ => rfl
  | x :: ms, k => by
    simp only [List.cons_append, tabF, tab_snoc, List.length_cons]
    have : k + 1 + ms.length = k + (ms.length + 1) := by omega
    rw [this]
theorem nm_snoc {a : Nat} : ∀ {ds : List Nat} {k : Nat}, nmF k (ds ++ [a]) = nmF k ds ++ [(.inl ((k + ds.length : Nat) + 1 : Int), .ref a)]
  | [], _ => rfl
  | x :: ds, k => by
    simp only [List.cons_append, nmF, nm_snoc, List.length_cons]
    have : k + 1 + ds.length = k + (ds.length + 1) := by omega
    rw [this]
theorem tab_len : ∀ {ms : List (Str × List Str)} {k : Nat}, (tabF k ms).length = ms.length
  | [], _ => rfl
  | x :: ms, k => by simp [tabF, tab_len]
theorem nm_len : ∀ {ms : List Nat} {k : Nat}, (nmF k ms).length = ms.length
  | [], _ => rfl
  | x :: ms, k => by simp [nmF, nm_len]
theorem tab_set {m : Str × List Str} {ks : List Str} : ∀ {ms : List (Str × List Str)} {k i : Nat}, ms[i]? = some m → tabF k (ms.set i (m.1, ks)) = tabF k ms
  | [], _, _, h => by cases h
  | x :: ms, k, 0, h => by
    cases h
    rfl
  | x :: ms, k, i + 1, h => by
    have h' : ms[i]? = some m := h
    simp only [List.set_cons_succ, tabF]
    rw [tab_set h']
structure DsAt (s : Sto) (ro : Ro) (c i a : Nat) (keys : List Str) : Prop where
  d : ∃ kvs, at_ s a = some (.dct kvs) ∧ kvs.map (·.1) = keys.map Sum.inr
  r : ro a = (c, 20 + i)
structure OAt (s : Sto) (ro : Ro) (c : Nat) (o : OG) (stk : List (Key × D)) (A : AS) (ln : Ln) : Prop where
  w : at_ s o.w = some (.dct (ownK o))
  sk : at_ s o.sk = some (.dct stk)
  tb : at_ s o.tb = some (.dct (tabF 0 A.ms))
  nm : at_ s o.nm = some (.dct (nmF 0 o.ds))
  lg : at_ s o.lg = some (.lst A.log)
  pa : at_ s o.pa = some (.lst A.pap)
  li : at_ s o.li = some (.lst (lnD ln))
  ds : ∀ (i a : Nat) (m : Str × List Str), o.ds[i]? = some a → A.ms[i]? = some m → DsAt s ro c i a m.2
  len : o.ds.length = A.ms.length
  rw : ro o.w = (c, 0)
  rsk : (ro o.sk).1 = 9
  rtb : ro o.tb = (c, 1)
  rnm : ro o.nm = (c, 2)
  rlg : ro o.lg = (c, 3)
  rpa : ro o.pa = (c, 4)
  rli : ro o.li = (c, 5)
  c9 : c ≠ 9
  few : A.ms.length < 1000
  hln : ∀ q ∈ ln, q.1 < A.ms.length
section
variable {s s' : Sto} {ro ro' : Ro} {c d k : Nat} {o : OG} {stk : List (Key × D)} {A : AS} {ln : Ln} {X : Ex → Sto → Prop}
theorem OAt.log (H : OAt s ro c o stk A ln) {l : List D} (e : at_ s' o.lg = some (.lst l)) (hag : ∀ p, p < s.length → ro p ≠ (c, 3) → at_ s' p = at_ s p) : OAt s' ro c o stk { A with log := l } ln := by
  have tr : ∀ {p j : Nat} {u : O}, at_ s p = some u → ro p = (c, j) → j ≠ 3 → at_ s' p = some u := fun e r n => (hag _ (at_lt e) (by rw [r]; simpa using n)).trans e
  have ts : at_ s' o.sk = some (.dct stk) := (hag _ (at_lt H.sk) (fun z => H.c9 (by have := H.rsk; rw [z] at this; exact this))).trans H.sk
  exact {
    w := tr H.w H.rw (by omega)
    sk := ts
    tb := tr H.tb H.rtb (by omega)
    nm := tr H.nm H.rnm (by omega)
    lg := e
    pa := tr H.pa H.rpa (by omega)
    li := tr H.li H.rli (by omega)
    ds := fun i a m ha hm => (fun q => ⟨(by obtain ⟨kvs, e, z⟩ := q.d; exact ⟨kvs, tr e q.r (by omega), z⟩), q.r⟩) (H.ds i a m ha hm)
    len := H.len
    rw := H.rw
    rsk := H.rsk
    rtb := H.rtb
    rnm := H.rnm
    rlg := H.rlg
    rpa := H.rpa
    rli := H.rli
    c9 := H.c9
    few := H.few
    hln := H.hln }
theorem OAt.paper (H : OAt s ro c o stk A ln) {l : List D} (e : at_ s' o.pa = some (.lst l)) (hag : ∀ p, p < s.length → ro p ≠ (c, 4) → at_ s' p = at_ s p) : OAt s' ro c o stk { A with pap := l } ln := by
  have tr : ∀ {p j : Nat} {u : O}, at_ s p = some u → ro p = (c, j) → j ≠ 4 → at_ s' p = some u := fun e r n => (hag _ (at_lt e) (by rw [r]; simpa using n)).trans e
  have ts : at_ s' o.sk = some (.dct stk) := (hag _ (at_lt H.sk) (fun z => H.c9 (by have := H.rsk; rw [z] at this; exact this))).trans H.sk
  exact {
    w := tr H.w H.rw (by omega)
    sk := ts
    tb := tr H.tb H.rtb (by omega)
    nm := tr H.nm H.rnm (by omega)
    lg := tr H.lg H.rlg (by omega)
    pa := e
    li := tr H.li H.rli (by omega)
    ds := fun i a m ha hm => (fun q => ⟨(by obtain ⟨kvs, e, z⟩ := q.d; exact ⟨kvs, tr e q.r (by omega), z⟩), q.r⟩) (H.ds i a m ha hm)
    len := H.len
    rw := H.rw
    rsk := H.rsk
    rtb := H.rtb
    rnm := H.rnm
    rlg := H.rlg
    rpa := H.rpa
    rli := H.rli
    c9 := H.c9
    few := H.few
    hln := H.hln }
theorem OAt.line (H : OAt s ro c o stk A ln) {l : Ln} (e : at_ s' o.li = some (.lst (lnD l))) (hq : ∀ q ∈ l, q.1 < A.ms.length) (hag : ∀ p, p < s.length → ro p ≠ (c, 5) → at_ s' p = at_ s p) : OAt s' ro c o stk A l := by
  have tr : ∀ {p j : Nat} {u : O}, at_ s p = some u → ro p = (c, j) → j ≠ 5 → at_ s' p = some u := fun e r n => (hag _ (at_lt e) (by rw [r]; simpa using n)).trans e
  have ts : at_ s' o.sk = some (.dct stk) := (hag _ (at_lt H.sk) (fun z => H.c9 (by have := H.rsk; rw [z] at this; exact this))).trans H.sk
  exact {
    w := tr H.w H.rw (by omega)
    sk := ts
    tb := tr H.tb H.rtb (by omega)
    nm := tr H.nm H.rnm (by omega)
    lg := tr H.lg H.rlg (by omega)
    pa := tr H.pa H.rpa (by omega)
    li := e
    ds := fun i a m ha hm => (fun q => ⟨(by obtain ⟨kvs, e, z⟩ := q.d; exact ⟨kvs, tr e q.r (by omega), z⟩), q.r⟩) (H.ds i a m ha hm)
    len := H.len
    rw := H.rw
    rsk := H.rsk
    rtb := H.rtb
    rnm := H.rnm
    rlg := H.rlg
    rpa := H.rpa
    rli := H.rli
    c9 := H.c9
    few := H.few
    hln := hq }
theorem OAt.bind (H : OAt s ro c o stk A ln) {i a : Nat} {m : Str × List Str} {ks : List Str} {kvs : List (Key × D)} (hia : o.ds[i]? = some a) (him : A.ms[i]? = some m) (e : at_ s' a = some (.dct kvs)) (hk : kvs.map (·.1) = ks.map Sum.inr) (hag : ∀ p, p < s.length → ro p ≠ (c, (20 + i)) → at_ s' p = at_ s p) : OAt s' ro c o stk { A with ms := A.ms.set i (m.1, ks) } ln := by
  have tr : ∀ {p j : Nat} {u : O}, at_ s p = some u → ro p = (c, j) → j ≠ (20 + i) → at_ s' p = some u := fun e r n => (hag _ (at_lt e) (by rw [r]; simpa using n)).trans e
  have ts : at_ s' o.sk = some (.dct stk) := (hag _ (at_lt H.sk) (fun z => H.c9 (by have := H.rsk; rw [z] at this; exact this))).trans H.sk
  exact {
    w := tr H.w H.rw (by omega)
    sk := ts
    tb := (by rw [tab_set him]; exact tr H.tb H.rtb (by omega))
    nm := tr H.nm H.rnm (by omega)
    lg := tr H.lg H.rlg (by omega)
    pa := tr H.pa H.rpa (by omega)
    li := tr H.li H.rli (by omega)
    ds := (fun j b n hb hn => by
      by_cases e0 : i = j
      · subst e0
        rw [List.getElem?_set_self (List.getElem?_eq_some_iff.mp him).1] at hn
        rw [hia] at hb
        cases hn
        cases hb
        exact ⟨⟨_, e, hk⟩, (H.ds i a m hia him).r⟩
      · rw [List.getElem?_set_ne e0] at hn
        have q := H.ds j b n hb hn
        refine ⟨?_, q.r⟩
        obtain ⟨kvs, e, z⟩ := q.d
        exact ⟨kvs, tr e q.r (by omega), z⟩)
    len := (by rw [List.length_set]; exact H.len)
    rw := H.rw
    rsk := H.rsk
    rtb := H.rtb
    rnm := H.rnm
    rlg := H.rlg
    rpa := H.rpa
    rli := H.rli
    c9 := H.c9
    few := (by rw [List.length_set]; exact H.few)
    hln := (by rw [List.length_set]; exact H.hln) }
theorem OAt.frame (H : OAt s ro c o stk A ln) (hro : ∀ p, p < s.length → ro' p = ro p) (hag : ∀ p, p < s.length → ((ro p).1 = c ∨ (ro p).1 = 9) → at_ s' p = at_ s p) : OAt s' ro' c o stk A ln := by
  have tr : ∀ {p j : Nat} {u : O}, at_ s p = some u → ro p = (c, j) → at_ s' p = some u := fun e r => (hag _ (at_lt e) (by rw [r]; exact .inl rfl)).trans e
  have rr : ∀ {p j : Nat} {u : O}, at_ s p = some u → ro p = (c, j) → ro' p = (c, j) := fun e r => (hro _ (at_lt e)).trans r
  exact { w := tr H.w H.rw, sk := (hag _ (at_lt H.sk) (.inr H.rsk)).trans H.sk, tb := tr H.tb H.rtb, nm := tr H.nm H.rnm, lg := tr H.lg H.rlg, pa := tr H.pa H.rpa, li := tr H.li H.rli, ds := (fun i a m ha hm => (fun q => ⟨(by obtain ⟨kvs, e, z⟩ := q.d; exact ⟨kvs, tr e q.r, z⟩), (by obtain ⟨kvs, e, z⟩ := q.d; exact rr e q.r)⟩) (H.ds i a m ha hm)), len := H.len, rw := rr H.w H.rw, rsk := (by rw [hro _ (at_lt H.sk)]; exact H.rsk), rtb := rr H.tb H.rtb, rnm := rr H.nm H.rnm, rlg := rr H.lg H.rlg, rpa := rr H.pa H.rpa, rli := rr H.li H.rli, c9 := H.c9, few := H.few, hln := H.hln }
theorem OAt.pre (H : OAt s ro c o stk A ln) (h : s <+: s') : OAt s' ro c o stk A ln := H.frame (fun _ _ => rfl) fun p hp _ => by
  obtain ⟨r, rfl⟩ := h
  exact at_app_l hp
def roDs (ro : Ro) (c n a : Nat) : Ro := fun p => if p = a then (c, 20 + n) else ro p
theorem OAt.new (H : OAt s ro c o stk A ln) {a : Nat} {p : Str} (ha : s.length ≤ a) (e1 : at_ s' a = some (.dct [])) (e2 : at_ s' o.tb = some (.dct (tabF 0 (A.ms ++ [(p, [])])))) (e3 : at_ s' o.nm = some (.dct (nmF 0 (o.ds ++ [a]))))
    (hag : ∀ q, q < s.length → ro q ≠ (c, 1) → ro q ≠ (c, 2) → at_ s' q = at_ s q) (hf : A.ms.length + 1 < 1000) : OAt s' (roDs ro c A.ms.length a) c { o with ds := o.ds ++ [a] } stk { A with ms := A.ms ++ [(p, [])] } ln := by
  have tr : ∀ {p j : Nat} {u : O}, at_ s p = some u → ro p = (c, j) → j ≠ 1 → j ≠ 2 → at_ s' p = some u := fun e r n1 n2 => (hag _ (at_lt e) (by rw [r]; simpa using n1) (by rw [r]; simpa using n2)).trans e
  have ro2 : ∀ {q : Nat} {u : O}, at_ s q = some u → roDs ro c A.ms.length a q = ro q := fun e => by
    have := at_lt e
    unfold roDs
    rw [if_neg (by omega)]
  have rr : ∀ {q j : Nat} {u : O}, at_ s q = some u → ro q = (c, j) → roDs ro c A.ms.length a q = (c, j) := fun e r => (ro2 e).trans r
  have n9 : ∀ j, ro o.sk ≠ (c, j) := fun j z => H.c9 (by have := H.rsk; rw [z] at this; exact this)
  exact {
    w := tr H.w H.rw (by omega) (by omega)
    sk := (hag _ (at_lt H.sk) (n9 1) (n9 2)).trans H.sk
    tb := e2
    nm := e3
    lg := tr H.lg H.rlg (by omega) (by omega)
    pa := tr H.pa H.rpa (by omega) (by omega)
    li := tr H.li H.rli (by omega) (by omega)
    ds := fun i b m hb hm => by
      rcases getElem?_snoc hb with ⟨i1, hb⟩ | ⟨i1, rfl⟩
      · rcases getElem?_snoc hm with ⟨i2, hm⟩ | ⟨i2, rfl⟩
        · have q := H.ds i b m hb hm
          obtain ⟨kvs, e, z⟩ := q.d
          exact ⟨⟨kvs, tr e q.r (by omega) (by omega), z⟩, rr e q.r⟩
        · have := H.len
          omega
      · rcases getElem?_snoc hm with ⟨i2, hm⟩ | ⟨i2, rfl⟩
        · have := H.len
          omega
        · rw [i2]
          exact ⟨⟨[], e1, rfl⟩, by simp [roDs]⟩
    len := by simp [H.len]
    rw := rr H.w H.rw
    rsk := by rw [ro2 H.sk]; exact H.rsk
    rtb := rr H.tb H.rtb
    rnm := rr H.nm H.rnm
    rlg := rr H.lg H.rlg
    rpa := rr H.pa H.rpa
    rli := rr H.li H.rli
    c9 := H.c9
    few := by simpa using hf
    hln := fun q hq => by
      have := H.hln q hq
      simp
      omega }
end
end S4
set_option maxHeartbeats 4000000
/-! What repr and == tell, by values -/
namespace S4
open PySem PySem.Spec PyProof.Rows L2 HM DL S0 S1 S2 S3
mutual
def pyD : D → PyData
  | .non => .none
  | .bl b => .bool b
  | .int i => .int i
  | .str z => .str z
  | .tup xs => .tuple (pyDs xs)
  | .ktup xs => .tuple (pyDs xs)
  | .klst xs => .list (pyDs xs)
  | .ref _ => .none
def pyDs : List D → List PyData
  | [] => []
  | x :: xs => pyD x :: pyDs xs
end
mutual
def pure : D → Bool
  | .non => true
  | .bl _ => true
  | .int _ => true
  | .str _ => true
  | .tup xs => pures xs
  | .ktup xs => pures xs
  | .klst _ => false
  | .ref _ => false
def pures : List D → Bool
  | [] => true
  | x :: xs => pure x && pures xs
end
mutual
theorem py_of {s : Sto} : ∀ (d : D), pure d = true → PyR s d (pyD d)
  | .non, _ => .non
  | .bl b, _ => .bl b
  | .int i, _ => .int i
  | .str z, _ => .str z
  | .tup xs, h => .tup (pys_of xs h)
  | .ktup xs, h => .ktup (pys_of xs h)
  | .klst _, h => by cases h
  | .ref _, h => by cases h
theorem pys_of {s : Sto} : ∀ (ds : List D), pures ds = true → PyRs s ds (pyDs ds)
  | [], _ => .nil
  | x :: xs, h => by
    rw [pures, Bool.and_eq_true] at h
    exact .cons (py_of x h.1) (pys_of xs h.2)
end
mutual
theorem PyR.uniq {s : Sto} : ∀ {x : D} {d e : PyData}, PyR s x d → PyR s x e → d = e
  | _, _, _, .non, .non => rfl
  | _, _, _, .bl _, .bl _ => rfl
  | _, _, _, .int _, .int _ => rfl
  | _, _, _, .str _, .str _ => rfl
  | _, _, _, .tup h, .tup h' => by rw [PyRs.uniq h h']
  | _, _, _, .ktup h, .ktup h' => by rw [PyRs.uniq h h']
  | _, _, _, .lst e h, .lst e' h' => by
    rw [e] at e'
    cases e'
    rw [PyRs.uniq h h']
  | _, _, _, .lst e h, .dct e' h' => by
    simp only [rdL_def, rdD_def] at e e'
    split at e <;> simp_all
  | _, _, _, .dct e h, .lst e' h' => by
    simp only [rdL_def, rdD_def] at e e'
    split at e <;> simp_all
  | _, _, _, .dct e h, .dct e' h' => by
    rw [e] at e'
    cases e'
    rw [PyRs.uniq h h']
theorem PyRs.uniq {s : Sto} : ∀ {x : List D} {d e : List PyData}, PyRs s x d → PyRs s x e → d = e
  | _, _, _, .nil, .nil => rfl
  | _, _, _, .cons h r, .cons h' r' => by rw [PyR.uniq h h', PyRs.uniq r r']
end
theorem repr_ok {s : Sto} {x : D} {d : PyData} (h : PyR s x d) (ok : DL.OkR d) (hb : bigD x = true) : oRepr [x] s = some (.str d.shown, s) := by
  have hx : bigD x = true ∧ ∃ d, PyR s x d ∧ DL.OkR d := ⟨hb, d, h, ok⟩
  simp only [oRepr]
  rw [dif_pos hx]
  rw [PyR.uniq hx.2.choose_spec.1 h]
/-- a list of plain things -/
theorem py_list {s : Sto} {i : Nat} {xs : List D} (h : at_ s i = some (.lst xs)) (hp : pures xs = true) : PyR s (.ref i) (.list (pyDs xs)) := .lst (by simp [h]) (pys_of xs hp)
/-! ### == of lists and the empty list -/
theorem eqD_list {s : Sto} {i j : Nat} {xs : List D} (h : at_ s i = some (.lst xs)) (hx : ∃ ds, Pys s xs ds ∧ SeqAt.shaped (.list ds) = true) (hj : at_ s j = some (.lst [])) : eqD s (.ref i) (.ref j) = some xs.isEmpty := by
  obtain ⟨ds, hd, hs⟩ := hx
  have e1 : Py s (.ref i) (.list ds) := .lst (by simp [h]) hd
  have e2 : Py s (.ref j) (.list []) := .lst (by simp [hj]) .nil
  have ex : ∃ p : PyData × PyData, Py s (.ref i) p.1 ∧ Py s (.ref j) p.2 ∧ SeqAt.shaped p.1 = true ∧ SeqAt.shaped p.2 = true := ⟨(.list ds, .list []), e1, e2, hs, (show SeqAt.shaped (.list []) = true by decide)⟩
  unfold eqD
  dsimp only
  rw [dif_pos ex]
  have q := ex.choose_spec
  generalize ex.choose = p at q
  obtain ⟨p1, p2⟩ := p
  obtain ⟨q1, q2, _, _⟩ := q
  have r2 : p2 = .list [] := by
    cases q2 with
    | lst e r =>
      rw [show rdL s j = some [] by simp [hj]] at e
      cases e
      cases r
      rfl
  have r1 : ∃ ds, p1 = .list ds ∧ (ds = [] ↔ xs = []) := by
    cases q1 with
    | lst e r =>
      rw [show rdL s i = some xs by simp [h]] at e
      cases e
      refine ⟨_, rfl, ?_⟩
      cases r <;> simp
  obtain ⟨ds1, rfl, hiff⟩ := r1
  rw [r2]
  cases xs with
  | nil =>
    rw [hiff.mpr rfl]
    rfl
  | cons x xs =>
    cases ds1 with
    | nil => exact absurd (hiff.mp rfl) (by simp)
    | cons a b => rfl
end S4
set_option maxHeartbeats 4000000
/-! Logs and papers can be shown -/
namespace S4
open PySem PySem.Spec PyProof.Rows L2 HM DL S0 S1 S2 S3 XM XW
theorem s_str {z : Str} {n : Nat} (h : ascS z) (hl : z.length ≤ 8) : SmX (.str z) n 8 := by
  refine ⟨rfl, rfl, ?_, Nat.zero_le _, hl⟩
  rw [PyData.leavesShort, List.all_eq_true]
  exact fun c hc => decide_eq_true (h c hc)
theorem s_int {i : Int} {n : Nat} (h : i.natAbs < 10 ^ 60) : SmX (.int i) n 0 := by
  have := sm_int (n := n) h
  exact ⟨this.sh, this.nd, this.lv, this.dp, Nat.le_refl _⟩
theorem s_nat {k n : Nat} (h : k < 100000) : SmX (.int (k : Int)) n 0 := s_int (by
  have : (100000 : Nat) ≤ 10 ^ 60 := by decide
  omega)
theorem s_nat1 {k n : Nat} (h : k < 10000) : SmX (.int ((k : Int) + 1)) n 0 := s_int (by
  have : (100000 : Nat) ≤ 10 ^ 60 := by decide
  omega)
theorem s_non {n : Nat} : SmX .none n 0 := ⟨rfl, rfl, rfl, Nat.zero_le _, Nat.le_refl _⟩
theorem asc_name {z : Str} (h : nameB z = true) : ascS z := fun c hc => by
  simp only [nameB, Bool.and_eq_true, List.all_eq_true] at h
  have := h.2.2 c hc
  simp only [smallB, Bool.and_eq_true, decide_eq_true_eq] at this
  have e : (16 : Nat) ^ 8 = 4294967296 := by decide
  omega
theorem s_name {z : Str} {n : Nat} (h : nameB z = true) : SmX (.str z) n 8 := s_str (asc_name h) (nameB_len h)
theorem pyDs_strs : ∀ zs : List Str, pyDs (zs.map D.str) = zs.map PyData.str
  | [] => rfl
  | z :: zs => by simp [pyDs, pyD, pyDs_strs zs]
theorem pures_strs : ∀ zs : List Str, pures (zs.map D.str) = true
  | [] => rfl
  | z :: zs => by simp [pures, pure, pures_strs zs]
theorem s_names {n : Nat} : ∀ {zs : List Str}, (∀ z ∈ zs, nameB z = true) → SmA (zs.map PyData.str) n (9 * zs.length)
  | [], _ => SmA.nil
  | z :: zs, h => by
    have a := SmA.cons (s_name (n := n) (h z List.mem_cons_self)) (s_names (zs := zs) fun y hy => h y (List.mem_cons_of_mem _ hy))
    exact a.mono (Nat.le_refl _) (by rw [List.length_cons]; omega)
/-- an entry that can be shown -/
structure EntS (d : D) : Prop where
  p : pure d = true
  s : SmX (pyD d) 2 120
  t : ∃ xs, d = .tup xs
theorem ent2 {w : Str} {k : Nat} (hw : ascS w) (hl : w.length ≤ 8) (hk : k < 10000) : EntS (.tup [.str w, .int ((k : Int) + 1)]) :=
  ⟨rfl, ((SmA.cons (s_str (n := 1) hw hl) (SmA.cons (s_nat1 hk) SmA.nil)).tup).mono (Nat.le_refl _) (by omega), _, rfl⟩
theorem ent3 {w z : Str} {k : Nat} (hw : ascS w) (hl : w.length ≤ 8) (hk : k < 10000) (hz : nameB z = true) : EntS (.tup [.str w, .int ((k : Int) + 1), .str z]) :=
  ⟨rfl, ((SmA.cons (s_str (n := 1) hw hl) (SmA.cons (s_nat1 hk) (SmA.cons (s_name hz) SmA.nil))).tup).mono (Nat.le_refl _) (by omega), _, rfl⟩
theorem ent_pap {k : Nat} {ln : Ln} (hk : k < 10000) (hln : ∀ q ∈ ln, q.1 < 10000 ∧ q.2 < 10000) : EntS (.tup [.int ((k : Int) + 1), (byD ln).1, (byD ln).2]) := by
  unfold byD
  cases h : ln.getLast? with
  | none => exact ⟨rfl, ((SmA.cons (s_nat1 (n := 1) hk) (SmA.cons s_non (SmA.cons s_non SmA.nil))).tup).mono (Nat.le_refl _) (by omega), _, rfl⟩
  | some q =>
    have hq := hln q (List.mem_of_getLast? h)
    exact ⟨rfl, ((SmA.cons (s_nat1 (n := 1) hk) (SmA.cons (s_nat1 hq.1) (SmA.cons (s_nat (by omega)) SmA.nil))).tup).mono (Nat.le_refl _) (by omega), _, rfl⟩
structure Lg (nms : List Str) (A : AS) : Prop where
  nm : ∀ (j : Nat) (m : Str × List Str), A.ms[j]? = some m → m.2.Nodup ∧ ∀ k ∈ m.2, k ∈ nms
  lg : ∀ e ∈ A.log, EntS e
  pa : ∀ e ∈ A.pap, EntS e
theorem asc_lit {w : Str} (h : (w.cps.toList.all fun c => decide (c < 16 ^ 8)) = true) : ascS w := fun c hc => of_decide_eq_true (List.all_eq_true.mp h c hc)
theorem ent_note {nms : List Str} {A : AS} {i : Nat} {p : Str} (hn9 : nms.length ≤ 9) (hnn : ∀ z ∈ nms, nameB z = true) (h : Lg nms A) (hi : i < 10000) : EntS (.tup [.str "note", .int ((i : Nat) + 1 : Int), namesD A.ms p]) := by
  have w1 : ascS (Str.ofString "note") := asc_lit (by decide +kernel)
  have w2 : (Str.ofString "note").length ≤ 8 := by decide +kernel
  unfold namesD
  cases hf : fnd A.ms p with
  | none => exact ⟨rfl, ((SmA.cons (s_str (n := 1) w1 w2) (SmA.cons (s_nat1 hi) (SmA.cons s_non SmA.nil))).tup).mono (Nat.le_refl _) (by omega), _, rfl⟩
  | some j =>
    obtain ⟨m, hm, _⟩ := fnd_some hf
    dsimp only
    rw [hm]
    obtain ⟨h1, h2⟩ := h.nm j m hm
    have hl : m.2.length ≤ 9 := Nat.le_trans (nodup_sub h1 h2) hn9
    have hs : ∀ z ∈ srt m.2, nameB z = true := fun z hz => hnn z (h2 z (List.mem_mergeSort.mp hz))
    have hsl : (srt m.2).length = m.2.length := List.length_mergeSort _
    refine ⟨?_, ?_, _, rfl⟩
    · simp [pure, pures, pures_strs]
    · show SmX (.tuple [.str "note", .int ((i : Nat) + 1 : Int), .tuple (pyDs ((srt m.2).map D.str))]) 2 120
      rw [pyDs_strs]
      exact ((SmA.cons (s_str (n := 1) w1 w2) (SmA.cons (s_nat1 hi) (SmA.cons (SmA.tup (s_names (n := 0) hs)) SmA.nil))).tup).mono (Nat.le_refl _) (by omega)
theorem putKey_nd {ks : List Str} {z : Str} (h : ks.Nodup) : (putKey ks z).Nodup := by
  unfold putKey
  split
  · exact h
  · rename_i hz
    rw [List.nodup_append]
    exact ⟨h, by simp, fun a ha b hb e => hz (by rw [List.mem_singleton.mp hb] at e; rw [← e]; exact ha)⟩
theorem putKey_mem {ks : List Str} {z k : Str} (h : k ∈ putKey ks z) : k ∈ ks ∨ k = z := by
  unfold putKey at h
  split at h
  · exact .inl h
  · rcases List.mem_append.mp h with h | h
    · exact .inl h
    · exact .inr (List.mem_singleton.mp h)
theorem Lg.bind {nms : List Str} {A : AS} {i : Nat} {z : Str} (h : Lg nms A) (hz : z ∈ nms) : Lg nms (bindA A i z) := by
  obtain ⟨h1, h2⟩ := bindA_log (A := A) (i := i) (z := z)
  refine ⟨fun j m e => ?_, by rw [h1]; exact h.lg, by rw [h2]; exact h.pa⟩
  by_cases hj : j = i
  · subst hj
    cases hm : A.ms[j]? with
    | none =>
      have : (bindA A j z).ms[j]? = none := by unfold bindA; rw [hm]; exact hm
      rw [this] at e
      cases e
    | some m0 =>
      rw [bindA_at hm] at e
      cases e
      obtain ⟨q1, q2⟩ := h.nm j m0 hm
      exact ⟨putKey_nd q1, fun k hk => by
        rcases putKey_mem hk with hk | rfl
        · exact q2 k hk
        · exact hz⟩
  · rw [bindA_ne hj] at e
    exact h.nm j m e
theorem Lg.log {nms : List Str} {A : AS} {e : D} (h : Lg nms A) (he : EntS e) : Lg nms { A with log := A.log ++ [e] } := ⟨h.nm, fun x hx => by
  rcases List.mem_append.mp hx with hx | hx
  · exact h.lg x hx
  · rw [List.mem_singleton.mp hx]
    exact he, h.pa⟩
/-- the names that a row binds -/
def RowN (nms : List Str) (r : D) : Prop := ∀ w z x, r = .tup [w, .str z, x] → z ∈ nms
theorem take_lg {ps nms : List Str} {bd : Str → List D} (hbd : ∀ q ∈ ps, (∀ r ∈ bd q, RowOk ps r) ∧ (bd q).length ≤ 40) (hps : ps.length ≤ 100) (hpn : ∀ q ∈ ps, nameB q = true) (hn9 : nms.length ≤ 9) (hnn : ∀ z ∈ nms, nameB z = true) (hrn : ∀ q ∈ ps, ∀ r ∈ bd q, RowN nms r) :
    ∀ (n : Nat) {A : AS} {ln : Ln} {p : Str}, Good ps A → ps.length ≤ A.ms.length + n → p ∈ ps → (∀ q ∈ ln, q.1 < 10000 ∧ q.2 < 10000) → Lg nms A → Lg nms (takeA bd n A ln p).1 := by
  have wh : ascS (Str.ofString "have") := asc_lit (by decide +kernel)
  have wh2 : (Str.ofString "have").length ≤ 8 := by decide +kernel
  have wb : ascS (Str.ofString "begin") := asc_lit (by decide +kernel)
  have wb2 : (Str.ofString "begin").length ≤ 8 := by decide +kernel
  have we : ascS (Str.ofString "end") := asc_lit (by decide +kernel)
  have we2 : (Str.ofString "end").length ≤ 8 := by decide +kernel
  intro n
  induction n with
  | zero =>
    intro A ln p h hn hp hln hL
    cases hf : fnd A.ms p with
    | none => have := h.more hp hf; omega
    | some j =>
      rw [takeA_have hf]
      obtain ⟨m, hm, _⟩ := fnd_some hf
      have := (List.getElem?_eq_some_iff.mp hm).1
      have := h.few
      exact hL.log (ent2 wh wh2 (by omega))
  | succ n ih =>
    intro A ln p h hn hp hln hL
    cases hf : fnd A.ms p with
    | some j =>
      rw [takeA_have hf]
      obtain ⟨m, hm, _⟩ := fnd_some hf
      have := (List.getElem?_eq_some_iff.mp hm).1
      have := h.few
      exact hL.log (ent2 wh wh2 (by omega))
    | none =>
      rw [takeA_new hf]
      have hfew := h.few
      have hg := h.begin (ln := ln) hp hf
      have hbl : (beginA A p ln).ms.length = A.ms.length + 1 := by simp [beginA]
      have rows : ∀ (xs : List D) (r : Nat) (B : AS), Good ps B → (∀ x ∈ xs, RowOk ps x ∧ RowN nms x) → A.ms.length < B.ms.length → ps.length ≤ B.ms.length + n → xs.length + r ≤ 40 → (∃ m, B.ms[A.ms.length]? = some m ∧ m.2.length ≤ r) → Lg nms B → Lg nms (rowsA (takeA bd n) A.ms.length ln r xs B) := by
        intro xs
        induction xs with
        | nil => intro r B _ _ _ _ _ _ hB; exact hB
        | cons x xs ihx =>
          intro r B gB hx hl hn2 hr ⟨m, e, hm⟩ hB
          rw [List.length_cons] at hr
          obtain ⟨o1, m1, e1, k1⟩ := row_stp (ln := ln) hbd (n := n) gB (hx x List.mem_cons_self).1 hl hn2 e hm
          have ol := o1.le
          refine ihx (r + 1) _ o1.gd (fun y hy => hx y (List.mem_cons_of_mem _ hy)) (by omega) (by omega) (by omega) ⟨m1, e1, k1⟩ ?_
          have hR := (hx x List.mem_cons_self).2
          cases (hx x List.mem_cons_self).1 with
          | set z i => exact hB.bind (hR _ _ _ rfl)
          | take z q hq =>
            refine Lg.bind (ih gB hn2 hq (fun y hy => ?_) hB) (hR _ _ _ rfl)
            rcases List.mem_append.mp hy with hy | hy
            · exact hln y hy
            · rw [List.mem_singleton.mp hy]
              simp only
              omega
          | note q => exact hB.log (ent_note hn9 hnn hB (by omega))
      have lB : Lg nms (beginA A p ln) := by
        refine ⟨fun j m e => ?_, fun x hx => ?_, fun x hx => ?_⟩
        · rcases getElem?_snoc e with ⟨_, e⟩ | ⟨_, rfl⟩
          · exact hL.nm j m e
          · exact ⟨by simp, fun k hk => by cases hk⟩
        · rcases List.mem_append.mp hx with hx | hx
          · exact hL.lg x hx
          · rw [List.mem_singleton.mp hx]
            exact ent3 wb wb2 (by omega) (hpn p hp)
        · rcases List.mem_append.mp hx with hx | hx
          · exact hL.pa x hx
          · rw [List.mem_singleton.mp hx]
            exact ent_pap (by omega) hln
      have := rows (bd p) 0 (beginA A p ln) hg (fun x hx => ⟨(hbd p hp).1 x hx, hrn p hp x hx⟩) (by omega) (by omega) (by have := (hbd p hp).2; omega) ⟨(p, []), by simp [beginA], by simp⟩ lB
      exact this.log (ent2 we we2 (by omega))
/-! ### what was told stays told -/
structure More (A A' : AS) : Prop where
  lg : A.log <+: A'.log
  pa : A.pap <+: A'.pap
theorem More.refl (A : AS) : More A A := ⟨List.prefix_refl _, List.prefix_refl _⟩
theorem More.trans {A B C : AS} (a : More A B) (b : More B C) : More A C := ⟨a.lg.trans b.lg, a.pa.trans b.pa⟩
theorem bind_more {A : AS} {i : Nat} {z : Str} : More A (bindA A i z) := by
  obtain ⟨h1, h2⟩ := bindA_log (A := A) (i := i) (z := z)
  exact ⟨by rw [h1]; exact List.prefix_refl _, by rw [h2]; exact List.prefix_refl _⟩
theorem rowA_more {tk : AS → Ln → Str → AS × Nat} (h : ∀ A ln p, More A (tk A ln p).1) {i r : Nat} {ln : Ln} {x : D} {A : AS} : More A (rowA tk i ln r x A) := by
  unfold rowA
  split
  · exact bind_more
  · exact (h _ _ _).trans bind_more
  · exact ⟨List.prefix_append _ _, List.prefix_refl _⟩
  · exact More.refl _
theorem rowsA_more {tk : AS → Ln → Str → AS × Nat} (h : ∀ A ln p, More A (tk A ln p).1) {i : Nat} {ln : Ln} : ∀ {xs : List D} {r : Nat} {A : AS}, More A (rowsA tk i ln r xs A)
  | [], _, A => More.refl A
  | x :: xs, r, A => (rowA_more h).trans (rowsA_more h)
theorem takeA_more {bd : Str → List D} : ∀ (n : Nat) (A : AS) (ln : Ln) (p : Str), More A (takeA bd n A ln p).1
  | 0, A, ln, p => by
    cases hf : fnd A.ms p with
    | some i => rw [takeA_have hf]; exact ⟨List.prefix_append _ _, List.prefix_refl _⟩
    | none => simp only [takeA, hf]; exact More.refl _
  | n + 1, A, ln, p => by
    cases hf : fnd A.ms p with
    | some i => rw [takeA_have hf]; exact ⟨List.prefix_append _ _, List.prefix_refl _⟩
    | none =>
      rw [takeA_new hf]
      have a : More A (beginA A p ln) := ⟨List.prefix_append _ _, List.prefix_append _ _⟩
      have b := rowsA_more (takeA_more (bd := bd) n) (i := A.ms.length) (ln := ln) (xs := bd p) (r := 0) (A := beginA A p ln)
      exact (a.trans b).trans ⟨List.prefix_append _ _, List.prefix_refl _⟩
theorem takeA_longer {bd : Str → List D} {n : Nat} {A : AS} {ln : Ln} {p : Str} (h : fnd A.ms p ≠ none ∨ 0 < n) : A.log.length < (takeA bd n A ln p).1.log.length := by
  cases hf : fnd A.ms p with
  | some i => rw [takeA_have hf]; simp [haveA]
  | none =>
    obtain ⟨n, rfl⟩ : ∃ k, n = k + 1 := ⟨n - 1, by rcases h with h | h; exact absurd hf h; omega⟩
    rw [takeA_new hf]
    have b := (rowsA_more (takeA_more (bd := bd) n) (i := A.ms.length) (ln := ln) (xs := bd p) (r := 0) (A := beginA A p ln)).lg.length_le
    have c : (beginA A p ln).log.length = A.log.length + 1 := by simp [beginA]
    simp [endA]
    omega
/-! ### lists of entries -/
theorem pyDs_len : ∀ xs : List D, (pyDs xs).length = xs.length
  | [] => rfl
  | x :: xs => by simp [pyDs, pyDs_len xs]
theorem pyDs_append : ∀ (xs ys : List D), pyDs (xs ++ ys) = pyDs xs ++ pyDs ys
  | [], _ => rfl
  | x :: xs, ys => by simp [pyDs, pyDs_append xs ys]
theorem ents_ok : ∀ {xs : List D}, (∀ e ∈ xs, EntS e) → pures xs = true ∧ SmA (pyDs xs) 2 (121 * xs.length)
  | [], _ => ⟨rfl, SmA.nil⟩
  | x :: xs, h => by
    have hx := h x List.mem_cons_self
    obtain ⟨h1, h2⟩ := ents_ok (xs := xs) fun e he => h e (List.mem_cons_of_mem _ he)
    refine ⟨by simp [pures, hx.p, h1], ?_⟩
    exact (SmA.cons hx.s h2).mono (Nat.le_refl _) (by rw [List.length_cons]; omega)
theorem SmA.lst {ds : List PyData} {n b : Nat} (x : SmA ds n b) : SmX (.list ds) (n + 1) b := by
  refine ⟨?_, ?_, ?_, ?_, ?_⟩
  · rw [PyData.showable, x.sh]
  · rw [PyData.hasDict, x.nd]
  · rw [PyData.leavesShort, x.lv]
  · rw [PyData.depth]
    have := x.dp
    omega
  · rw [PyData.bulk]
    exact x.bk
theorem okR_of {d : PyData} {n b : Nat} (h : SmX d n b) (hn : n ≤ 60) (hb : b ≤ 100000) : DL.OkR d := ⟨h.sh, Nat.le_trans h.dp hn, shown_ok h hb⟩
theorem repr_log {s : Sto} {i : Nat} {xs : List D} (h : at_ s i = some (.lst xs)) (he : ∀ e ∈ xs, EntS e) (hl : xs.length ≤ 800) : oRepr [.ref i] s = some (.str (PyData.list (pyDs xs)).shown, s) := by
  obtain ⟨h1, h2⟩ := ents_ok he
  exact repr_ok (py_list h h1) (okR_of (SmA.lst h2) (by omega) (by omega)) rfl
/-- repr([log, paper]) -/
def two (A : AS) : PyData := .list [.list (pyDs A.log), .list (pyDs A.pap)]
theorem repr_two {s : Sto} {i j k : Nat} {A : AS} {nms : List Str} (h : at_ s k = some (.lst [.ref i, .ref j])) (hi : at_ s i = some (.lst A.log)) (hj : at_ s j = some (.lst A.pap)) (hL : Lg nms A) (hl : A.log.length ≤ 400) (hp : A.pap.length ≤ 400) : oRepr [.ref k] s = some (.str (two A).shown, s) := by
  obtain ⟨h1, h2⟩ := ents_ok hL.lg
  obtain ⟨h3, h4⟩ := ents_ok hL.pa
  refine repr_ok (d := two A) (.lst (by simp [h]) (.cons (py_list hi h1) (.cons (py_list hj h3) .nil))) (okR_of (SmA.lst (SmA.cons (SmA.lst h2) (SmA.cons (SmA.lst h4) SmA.nil))) (n := 4) (by omega) (b := 121 * A.log.length + 1 + (121 * A.pap.length + 1 + 0)) (by omega)) rfl
/-! ### longer logs are shown otherwise -/
theorem J_app {a : Str} : ∀ {ts : List Str} {x : Str} {r : List Str}, (Str.join a ts).length + x.length ≤ (Str.join a (ts ++ x :: r)).length
  | [], x, [] => by
    have e0 : (Str.join a []).length = 0 := rfl
    have e1 : Str.join a ([] ++ [x]) = x := rfl
    rw [e0, e1]
    omega
  | [], x, z :: r => by
    have e : Str.join a (x :: z :: r) = (x ++ a) ++ Str.join a (z :: r) := rfl
    have e0 : (Str.join a []).length = 0 := rfl
    rw [List.nil_append, e, str_len, str_len, e0]
    omega
  | [y], x, r => by
    have e : Str.join a (y :: x :: r) = (y ++ a) ++ Str.join a (x :: r) := rfl
    have e0 : Str.join a [y] = y := rfl
    have h := J_app (a := a) (ts := []) (x := x) (r := r)
    have e1 : (Str.join a []).length = 0 := rfl
    rw [List.nil_append, e1] at h
    rw [List.cons_append, List.nil_append, e, e0, str_len, str_len]
    omega
  | y :: z :: t, x, r => by
    have e : Str.join a (y :: z :: (t ++ x :: r)) = (y ++ a) ++ Str.join a (z :: (t ++ x :: r)) := rfl
    have e0 : Str.join a (y :: z :: t) = (y ++ a) ++ Str.join a (z :: t) := rfl
    have h := J_app (a := a) (ts := z :: t) (x := x) (r := r)
    rw [List.cons_append] at h
    rw [List.cons_append, List.cons_append, e, e0, str_len, str_len, str_len, str_len]
    omega
theorem shownAll_append : ∀ (xs ys : List PyData), PyData.shownAll (xs ++ ys) = PyData.shownAll xs ++ PyData.shownAll ys
  | [], _ => rfl
  | x :: xs, ys => by simp [PyData.shownAll, shownAll_append xs ys]
theorem lt_len {ts : List Str} : (listText ts).length = (Str.join ", " ts).length + 2 := by
  rw [listText_eq_join, str_len, str_len]
  have h1 : ((("[" : String) : Str)).length = 1 := by decide +kernel
  have h2 : ((("]" : String) : Str)).length = 1 := by decide +kernel
  rw [h1, h2]
  omega
theorem lst_le {xs ys : List D} (h : xs <+: ys) : (PyData.list (pyDs xs)).shown.length ≤ (PyData.list (pyDs ys)).shown.length := by
  obtain ⟨r, rfl⟩ := h
  rw [pyDs_append]
  show (listText _).length ≤ (listText _).length
  rw [shownAll_append, lt_len, lt_len]
  cases r with
  | nil => simp [pyDs, PyData.shownAll]
  | cons x r =>
    have := J_app (a := ", ") (ts := PyData.shownAll (pyDs xs)) (x := (pyD x).shown) (r := PyData.shownAll (pyDs r))
    simp only [pyDs, PyData.shownAll]
    omega
theorem lst_lt {xs ys : List D} (h : xs <+: ys) (hl : xs.length < ys.length) (he : ∀ e ∈ ys, EntS e) : (PyData.list (pyDs xs)).shown.length < (PyData.list (pyDs ys)).shown.length := by
  obtain ⟨r, rfl⟩ := h
  rw [pyDs_append]
  show (listText _).length < (listText _).length
  rw [shownAll_append, lt_len, lt_len]
  cases r with
  | nil => simp at hl
  | cons x r =>
    have := J_app (a := ", ") (ts := PyData.shownAll (pyDs xs)) (x := (pyD x).shown) (r := PyData.shownAll (pyDs r))
    obtain ⟨zs, rfl⟩ := (he x (by simp)).t
    have hx : 1 ≤ (pyD (.tup zs)).shown.length := by
      show 1 ≤ (tupleText _).length
      unfold tupleText
      rw [str_len, str_len]
      have h1 : ((("(" : String) : Str)).length = 1 := by decide +kernel
      rw [h1]
      omega
    simp only [pyDs, PyData.shownAll]
    omega
theorem two_len (A : AS) : (two A).shown.length = (PyData.list (pyDs A.log)).shown.length + (PyData.list (pyDs A.pap)).shown.length + 4 := by
  show (listText [(PyData.list (pyDs A.log)).shown, (PyData.list (pyDs A.pap)).shown]).length = _
  rw [lt_len]
  have e : Str.join ", " [(PyData.list (pyDs A.log)).shown, (PyData.list (pyDs A.pap)).shown] = ((PyData.list (pyDs A.log)).shown ++ ((", " : String) : Str)) ++ (PyData.list (pyDs A.pap)).shown := rfl
  have h2 : (((", " : String) : Str)).length = 2 := by decide +kernel
  rw [e, str_len, str_len, h2]
  omega
theorem two_ne {A A' : AS} {nms : List Str} (h : More A A') (hl : A.log.length < A'.log.length) (hL : Lg nms A') : (two A').shown ≠ (two A).shown := fun z => by
  have h1 := congrArg Str.length z
  rw [two_len, two_len] at h1
  have h2 := lst_lt h.lg hl hL.lg
  have h3 := lst_le h.pa
  omega
end S4
set_option maxHeartbeats 4000000
/-! k31: what is drawn: numbers, names -/
namespace G31
open PySem PySem.Spec PyProof.Rows L2 HM DL S0 S1 S2 S3 S4
/-- but for some things the store goes on -/
structure Ch (T : List Nat) (s s' : Sto) : Prop where
  len : s.length ≤ s'.length
  at_ : ∀ q, q < s.length → q ∉ T → DL.at_ s' q = DL.at_ s q
theorem Ch.refl (T : List Nat) (s : Sto) : Ch T s s := ⟨Nat.le_refl _, fun _ _ _ => rfl⟩
theorem Ch.trans {T : List Nat} {s s1 s2 : Sto} (a : Ch T s s1) (b : Ch T s1 s2) : Ch T s s2 := ⟨Nat.le_trans a.len b.len, fun q h n => by rw [b.at_ q (Nat.lt_of_lt_of_le h a.len) n, a.at_ q h n]⟩
theorem Ch.app {T : List Nat} {s r : Sto} : Ch T s (s ++ r) := ⟨by simp, fun q h _ => at_app_l h⟩
theorem Ch.set {T : List Nat} {s : Sto} {p : Nat} {o : O} (h : p ∈ T) : Ch T s (s.set p o) := ⟨by simp, fun q _ n => at_set_ne fun z => n (z ▸ h)⟩
theorem Ch.more {T T' : List Nat} {s s' : Sto} (h : Ch T s s') (hT : ∀ q ∈ T, q ∈ T') : Ch T' s s' := ⟨h.len, fun q hq n => h.at_ q hq fun z => n (hT q z)⟩
/-- what is new may be changed -/
theorem Ch.over {T T' : List Nat} {s s1 s2 : Sto} (a : Ch T s s1) (b : Ch T' s1 s2) (h : ∀ q ∈ T', q ∈ T ∨ s.length ≤ q) : Ch T s s2 := ⟨Nat.le_trans a.len b.len, fun q hq n => by
  rw [b.at_ q (Nat.lt_of_lt_of_le hq a.len) fun z => by rcases h q z with h | h; exact n h; omega, a.at_ q hq n]⟩
theorem Ch.keep {T : List Nat} {s s' : Sto} {q : Nat} {o : O} (a : Ch T s s') (e : DL.at_ s q = some o) (n : q ∉ T) : DL.at_ s' q = some o := (a.at_ q (at_lt e) n).trans e
def PotAt (s : Sto) (p : Nat) : Prop := ∃ a b, at_ s p = some (.lst [.int a, .int b]) ∧ PotOk a b
section
variable {s s' : Sto} {p : Nat} {X : Ex → Sto → Prop}
theorem PotAt.app {r : Sto} (h : PotAt s p) : PotAt (s ++ r) p := by
  obtain ⟨a, b, e, k⟩ := h
  exact ⟨a, b, by rw [at_app_l (at_lt e)]; exact e, k⟩
theorem PotAt.lt (h : PotAt s p) : p < s.length := by
  obtain ⟨a, b, e, k⟩ := h
  exact at_lt e
theorem PotAt.set {q : Nat} {o : O} (h : PotAt s p) (n : q ≠ p) : PotAt (s.set q o) p := by
  obtain ⟨a, b, e, k⟩ := h
  exact ⟨a, b, by rw [at_set_ne n]; exact e, k⟩
def DrN (p : Nat) (n : Nat) (s : Sto) : D → Sto → Prop := fun d s' => ∃ k : Nat, d = .int k ∧ k < n ∧ Ch [p] s s' ∧ PotAt s' p ∧ s'.length = s.length
theorem draw_n {n : Nat} (h : PotAt s p) (hn : 0 < n) (hl : n < 2 ^ 250) : (f__law_draw [.ref p, .int (n : Nat)] s).wp (DrN p n s) X := by
  obtain ⟨a, b, e, k⟩ := h
  have hlog : (n : Int).natAbs.log2 < 9000 := log2_lt (by decide) (by
    have : (2 : Nat) ^ 250 ≤ 2 ^ 9000 := Nat.pow_le_pow_right (by decide) (by decide)
    rw [Int.natAbs_natCast]
    exact Nat.lt_of_lt_of_le hl this)
  refine (draw_ok e k (by omega) hlog).no ?_
  rintro _ _ ⟨z, a', b', rfl, h0, h1, k', rfl⟩
  exact ⟨z.toNat, by rw [Int.toNat_of_nonneg h0], by omega, Ch.set List.mem_cons_self, ⟨a', b', at_set_self (at_lt e), k'⟩, by simp⟩
theorem draw_i {n : Int} (h : PotAt s p) (hn : 0 < n) (hl : n.natAbs < 2 ^ 250) : (f__law_draw [.ref p, .int n] s).wp (DrN p n.toNat s) X := by
  have e : (n : Int) = ((n.toNat : Nat) : Int) := (Int.toNat_of_nonneg (by omega)).symm
  rw [e]
  have : ((n.toNat : Nat) : Int).toNat = n.toNat := by omega
  rw [this]
  exact draw_n h (by omega) (by omega)
theorem small250 {n : Nat} (h : n < 2 ^ 64) : n < 2 ^ 250 := Nat.lt_of_lt_of_le h (Nat.pow_le_pow_right (by decide) (by decide))
def NumQ (p : Nat) (s : Sto) : D → Sto → Prop := fun d s' => ∃ i : Int, d = .int i ∧ i.natAbs < 10 ^ 60 ∧ Ch [p] s s' ∧ PotAt s' p
theorem number_ok (h : PotAt s p) : (f__law_number [.ref p] s).wp (NumQ p s) X := by
  have e1 : ∀ {s : Sto}, oPow (.int 10) (.int 60) s = some (.int (10 ^ 60), s) := fun {s} => oPow_int (by decide) (by decide) (by decide)
  have e2 : ∀ {s : Sto}, oMul (.int 2) (.int 1000000000000000000000000000000000000000000000000000000000000) s = some (.int (2 * 1000000000000000000000000000000000000000000000000000000000000), s) := fun {s} => oMul_int (by unfold CMulW; decide +kernel)
  unfold f__law_number d__law_number
  simp
  refine (draw_i h (by decide) (by decide +kernel)).no ?_
  rintro _ s1 ⟨k, rfl, hk, c1, p1, _⟩
  simp
  by_cases h0 : k = 0
  · simp [h0, e1, e2]
    refine (draw_i (n := 1999999999999999999999999999999999999999999999999999999999999) p1 (by decide) (by decide +kernel)).no ?_
    rintro _ s2 ⟨k2, rfl, hk2, c2, p2, _⟩
    simp [e1]
    refine ⟨_, rfl, ?_, c1.trans c2, p2⟩
    have e3 : ((1999999999999999999999999999999999999999999999999999999999999 : Int)).toNat = 1999999999999999999999999999999999999999999999999999999999999 := by decide +kernel
    rw [e3] at hk2
    omega
  · simp [h0]
    refine (draw_i p1 (by decide) (by decide +kernel)).no ?_
    rintro _ s2 ⟨k2, rfl, hk2, c2, p2, _⟩
    simp
    have : (9 : Int).toNat = 9 := rfl
    refine ⟨_, rfl, ?_, c1.trans c2, p2⟩
    have : (100 : Nat) ≤ 10 ^ 60 := by decide
    omega
end
end G31
set_option maxHeartbeats 4000000
/-! k31: names are drawn, unlike those taken -/
namespace G31
open PySem PySem.Spec PyProof.Rows L2 HM DL S0 S1 S2 S3 S4
abbrev abc : Str := Str.ofString "abcdefghijklmnopqrstuvwxyz"
def lt (c : Nat) : Str := ⟨#[c]⟩
abbrev wordsT : List Str := ["begin", "end", "fail", "have", "again", "note", "anew", "take", "set", "done"]
theorem words_ok : ∀ z ∈ wordsT, nameB z = true := by decide +kernel
theorem abc_small : ∀ c ∈ abc.cps.toList, smallB c = true := by decide +kernel
theorem abc_len : abc.cps.toList.length = 26 := by decide +kernel
theorem abc_nd : (abc.cps.toList.map lt).Nodup := by decide +kernel
theorem lt_name {c : Nat} (h : smallB c = true) : nameB (lt c) = true := by simp [nameB, lt, Str.length, h]
theorem get_map {α : Type} {xs : List α} {k : Nat} (h : k < xs.length) : ∃ x, xs[k]? = some x ∧ x ∈ xs := ⟨xs[k], List.getElem?_eq_getElem h, List.getElem_mem h⟩
theorem atI_k {α : Type} {xs : List α} {k : Nat} (h : k < xs.length) : ∃ x, atI xs (k : Int) = some x ∧ x ∈ xs := by
  rw [atI_lt (by omega) (by omega)]
  simpa using get_map h
theorem ix_str {s : Sto} {z : Str} {k : Nat} (hl : z.length ≤ 1000000) (h : k < z.cps.toList.length) : ∃ c, oIx (.str z) (.int (k : Nat)) s = some (.str (lt c), s) ∧ c ∈ z.cps.toList := by
  obtain ⟨c, hc, hm⟩ := atI_k h
  have : z.length ≤ sizeLine := Nat.le_trans hl (by decide)
  refine ⟨c, ?_, hm⟩
  simp [ixS, this, hc, lt]
theorem ix_list {s : Sto} {i k : Nat} {xs : List D} (e : at_ s i = some (.lst xs)) (h : k < xs.length) : ∃ x, oIx (.ref i) (.int (k : Nat)) s = some (x, s) ∧ x ∈ xs ∧ xs[k]? = some x := by
  obtain ⟨x, hx, hm⟩ := atI_k h
  refine ⟨x, by simp [e, hx], hm, ?_⟩
  rw [atI_lt (by omega) (by omega)] at hx
  simpa using hx
theorem strs_lt : ∀ cs : List Nat, strsD (cs.map fun c => D.str (lt c)) = some (cs.map lt)
  | [] => rfl
  | c :: cs => by simp [strsD, strs_lt cs]
theorem joinL_one : ∀ cs : List Nat, TL.joinL [] (cs.map fun c => [c]) = cs
  | [] => rfl
  | [c] => rfl
  | c :: d :: cs => by
    have h := joinL_one (d :: cs)
    have e : TL.joinL [] ([c] :: [d] :: cs.map fun c => [c]) = [c] ++ [] ++ TL.joinL [] ([d] :: cs.map fun c => [c]) := rfl
    rw [List.map_cons, List.map_cons, e]
    rw [List.map_cons] at h
    rw [h]
    rfl
theorem join_lt (cs : List Nat) : (Txt.join (Str.ofString "") (cs.map lt)).cps.toList = cs := by
  rw [TL.join_eq]
  have := TL.tl_join (Str.ofString "") (cs.map lt)
  rw [List.map_map] at this
  exact this.trans (joinL_one cs)
theorem sum_lt : ∀ cs : List Nat, ((cs.map lt).map (·.length)).sum = cs.length
  | [] => rfl
  | c :: cs => by
    have h1 : (lt c).length = 1 := rfl
    rw [List.map_cons, List.map_cons, List.sum_cons, sum_lt cs, h1, List.length_cons]
    omega
theorem join_ok {s : Sto} {i : Nat} {cs : List Nat} (e : at_ s i = some (.lst (cs.map fun c => D.str (lt c)))) (hl : cs.length ≤ 1000) : oJoin (.str (Str.ofString "")) [.ref i] s = some (.str (Txt.join (Str.ofString "") (cs.map lt)), s) := by
  have e' : s[i]? = some (.lst (cs.map fun c => D.str (lt c))) := e
  have h0 : (Str.ofString "").length = 0 := by decide +kernel
  have hs : ((cs.map lt).map (·.length)).sum + (cs.map lt).length * (Str.ofString "").length ≤ 16777216 := by
    rw [sum_lt, h0]
    omega
  simp only [oJoin, seqD, rdL, e', strs_lt, hs, if_true]
theorem join_name {cs : List Nat} (h : ∀ c ∈ cs, smallB c = true) (h1 : 1 ≤ cs.length) (h8 : cs.length ≤ 8) : nameB (Txt.join (Str.ofString "") (cs.map lt)) = true := by
  have hl : (Txt.join (Str.ofString "") (cs.map lt)).length = cs.length := (TL.len_tl _).trans (congrArg List.length (join_lt cs))
  simp only [nameB, hl, join_lt, h1, h8, decide_true, Bool.true_and, List.all_eq_true]
  exact h
theorem cut8 {x y : Str} (hx : nameB x = true) (hy : nameB y = true) : nameB (cutS (x ++ y) none (some 8)) = true := by
  simp only [nameB, Bool.and_eq_true, decide_eq_true_eq, List.all_eq_true] at hx hy ⊢
  have hl : (x ++ y).length = x.length + y.length := strLen_append x y
  have hc : (cutS (x ++ y) none (some 8)).cps.toList = ((x ++ y).cps.toList).take (HT.sIx (x ++ y).length (x ++ y).length (some 8)) := by
    simp only [cutS]
    have : HT.sIx (x ++ y).length 0 none = 0 := rfl
    rw [this]
    simp
  have h8 : HT.sIx (x ++ y).length (x ++ y).length (some 8) = min 8 (x ++ y).length := by
    simp [HT.sIx]
  rw [h8] at hc
  have hlen : (cutS (x ++ y) none (some 8)).length = min 8 (x ++ y).length := by
    rw [TL.len_tl]
    show (cutS (x ++ y) none (some 8)).cps.toList.length = _
    rw [hc, List.length_take]
    have : (x ++ y).cps.toList.length = (x ++ y).length := (TL.len_tl _).symm
    omega
  refine ⟨by omega, by omega, fun c hcm => ?_⟩
  rw [hc] at hcm
  have := List.mem_of_mem_take hcm
  have e : (x ++ y).cps.toList = x.cps.toList ++ y.cps.toList := TL.tl_append x y
  rw [e] at this
  rcases List.mem_append.mp this with z | z
  · exact hx.2.2 c z
  · exact hy.2.2 c z
theorem inD_strs {z : Str} : ∀ zs : List Str, inD (.str z) (zs.map D.str) = decide (z ∈ zs)
  | [] => rfl
  | y :: ys => by
    have ih := inD_strs (z := z) ys
    unfold inD at ih ⊢
    rw [List.map_cons, List.any_cons, ih]
    show ((y == z) || decide (z ∈ ys)) = _
    by_cases h : z = y
    · subst h
      simp
    · have hb : (y == z) = false := beq_eq_false_iff_ne.mpr fun e => h e.symm
      rw [hb, Bool.false_or]
      simp [h]
theorem flat_strs : ∀ zs : List Str, (zs.map D.str).all flatD = true
  | [] => rfl
  | z :: zs => by rw [List.map_cons, List.all_cons, flat_strs zs]; rfl
theorem in_strs {s : Sto} {i : Nat} {z : Str} {zs : List Str} (e : at_ s i = some (.lst (zs.map D.str))) : oIn (.str z) (.ref i) s = some (.bl (decide (z ∈ zs)), s) := by
  have e' : s[i]? = some (.lst (zs.map D.str)) := e
  have hf : (flatD (.str z) && (zs.map D.str).all flatD) = true := by rw [flat_strs]; rfl
  simp only [oIn, isDct, rdD, e', Option.isSome_none, oInS, inS, rdL]
  simp [hf, inD_strs, flat_strs, flatD]
theorem nin_strs {s : Sto} {i : Nat} {z : Str} {zs : List Str} (e : at_ s i = some (.lst (zs.map D.str))) : oNin (.str z) (.ref i) s = some (.bl (!decide (z ∈ zs)), s) := by
  have e' : s[i]? = some (.lst (zs.map D.str)) := e
  simp only [oNin, isDct, rdD, e', Option.isSome_none, oNinS, inS, rdL]
  simp [inD_strs, flat_strs, flatD]
theorem pys_strs {s : Sto} : ∀ {zs : List Str}, (∀ z ∈ zs, nameB z = true) → ∃ ds, Pys s (zs.map D.str) ds ∧ PyData.canLayAll0 ds = true ∧ PyData.depthAll ds = 0
  | [], _ => ⟨[], .nil, rfl, rfl⟩
  | z :: zs, h => by
    obtain ⟨ds, h1, h2, h3⟩ := pys_strs (s := s) (zs := zs) fun y hy => h y (List.mem_cons_of_mem _ hy)
    have hz : PyData.strOk z = true := by
      have hz := h z List.mem_cons_self
      simp only [nameB, Bool.and_eq_true, List.all_eq_true] at hz
      unfold PyData.strOk
      rw [← Array.all_toList, List.all_eq_true]
      intro c hc
      have := hz.2.2 c hc
      simp only [smallB, Bool.and_eq_true, decide_eq_true_eq] at this
      simp
      omega
    exact ⟨.str z :: ds, .cons (.str z) h1, by simp [PyData.canLayAll0, PyData.canLay0, hz, h2], by simp [PyData.depthAll, PyData.depth, h3]⟩
end G31
set_option maxHeartbeats 4000000
/-! k31: a name is drawn -/
namespace G31
open PySem PySem.Spec PyProof.Rows L2 HM DL S0 S1 S2 S3 S4
section
variable {s s' : Sto} {p t : Nat} {X : Ex → Sto → Prop} {zs : List Str}
theorem kE2b_of {o : DOp2} {x y d : D} {s1 : Sto} {Q : D → Sto → Prop} (h : o x y s = some (d, s1)) (q : Q d s1) : kE2b o x Q X y s := by
  rw [kE2b_app, h]
  exact q
theorem kRng_of {x : D} {src : Src} {Q : Src → Sto → Prop} (h : rngR x s = .ok src s) (q : Q src s) : kRng Q X x s := by
  rw [kRng_app, h]
  exact q
/-- letters found so far -/
def LtI (p : Nat) (s1 : Sto) (m : Nat) (rest acc : List D) (s' : Sto) : Prop := ∃ cs : List Nat, acc = cs.map (fun c => D.str (lt c)) ∧ (∀ c ∈ cs, smallB c = true) ∧ cs.length + rest.length = m ∧ Ch [p] s1 s' ∧ PotAt s' p ∧ at_ s' s1.length = some (.lst acc) ∧ p < s1.length
theorem letters_ok {ab : Str} (ha1 : ∀ c ∈ ab.cps.toList, smallB c = true) (ha2 : ab.cps.toList.length = 26) (ha3 : ab.length ≤ 1000000) {env : DL.Env} {items : List D} {Q : D → Sto → Prop} (h : PotAt s p) (he : env = [some (.ref p), some (.ref t), some (.str ab), none, none, none, none]) (hm : items.length ≤ 100)
    (hQ : ∀ (cs : List Nat) (s' : Sto), (∀ c ∈ cs, smallB c = true) → cs.length = items.length → Ch [p] s s' → PotAt s' p → at_ s' s.length = some (.lst (cs.map fun c => D.str (lt c))) → Q (.ref s.length) s') :
    (lcL (.nm 5) tYesD (e2 oIx (eVar 2) (eCall f__law_draw (aCons (eVar 0) (aCons (eC (.int 26)) aNil)))) (fun _ => True) s.length items env (s ++ [.lst []])).wp Q X := by
  subst he
  refine lcL_inv (LtI p s items.length) (acc := []) ⟨[], rfl, (fun _ z => by cases z), Nat.zero_add _, Ch.app, h.app, at_app_len, h.lt⟩ (fun _ _ _ _ => trivial) ?_ ?_
  · rintro x rest acc s' ⟨cs, rfl, h1, h2, h3, h4, h5, h6⟩
    refine ⟨_, rfl, ?_⟩
    simp
    refine (draw_i h4 (by decide) (by decide +kernel)).no ?_
    rintro _ s2 ⟨k, rfl, hk, c2, p2, l2⟩
    obtain ⟨c, hc, hm'⟩ := ix_str (s := s2) (z := ab) (k := k) ha3 (by rw [ha2]; exact hk)
    have e2 : at_ s2 s.length = some (.lst (cs.map fun c => D.str (lt c))) := c2.keep h5 (by simp; omega)
    simp only [kE2b_app, hc, up_some, wp_ok]
    refine ⟨e2, by rw [List.length_cons] at h2; omega, cs ++ [c], by rw [List.map_append]; rfl, fun d hd => ?_, by rw [List.length_append, List.length_singleton]; rw [List.length_cons] at h2; omega, ?_, ?_, ?_, h6⟩
    · rcases List.mem_append.mp hd with hd | hd
      · exact h1 d hd
      · rw [List.mem_singleton.mp hd]
        exact ha1 c hm'
    · exact (h3.trans c2).over (Ch.set (T := [s.length]) List.mem_cons_self) (fun q hq => .inr (by rw [List.mem_singleton.mp hq]; exact Nat.le_refl _))
    · exact p2.set (by omega)
    · exact at_set_self (at_lt e2)
  · rintro acc s' ⟨cs, rfl, h1, h2, h3, h4, h5, h6⟩
    exact hQ cs s' h1 (by simpa using h2) h3 h4 h5
/-- letters that are not taken -/
def FrI (L : List Nat) (zs : List Str) (s1 : Sto) (t : Nat) (rest acc : List D) (s' : Sto) : Prop := ∃ cs ds : List Nat, L = cs ++ ds ∧ rest = ds.map (fun c => D.str (lt c)) ∧ acc = ((cs.map lt).filter fun z => !decide (z ∈ zs)).map D.str ∧ at_ s' t = some (.lst (zs.map D.str)) ∧ s' = s1 ++ [.lst acc] ∧ t < s1.length
theorem free_ok {env : DL.Env} {L : List Nat} (hL : L.length = 26) {Q : D → Sto → Prop} (ht : at_ s t = some (.lst (zs.map D.str))) (he : ∃ a b c d e, env = [a, some (.ref t), b, c, d, e, none])
    (hQ : Q (.ref s.length) (s ++ [.lst (((L.map lt).filter fun z => !decide (z ∈ zs)).map D.str)])) :
    (lcL (.nm 6) (tB1 (e2 oNin (eVar 6) (eVar 1))) (eVar 6) (fun _ => True) s.length (L.map fun c => D.str (lt c)) env (s ++ [.lst []])).wp Q X := by
  obtain ⟨a, b, c, d, e, rfl⟩ := he
  refine lcL_inv (FrI L zs s t) (acc := []) ⟨[], L, rfl, rfl, rfl, by rw [at_app_l (at_lt ht)]; exact ht, rfl, at_lt ht⟩ (fun _ _ _ _ => trivial) ?_ ?_
  · rintro x rest acc s' ⟨cs, ds, e1, e2, rfl, e4, rfl, e6⟩
    cases ds with
    | nil => cases e2
    | cons y ds =>
      simp only [List.map_cons, List.cons.injEq] at e2
      obtain ⟨rfl, rfl⟩ := e2
      refine ⟨_, rfl, ?_⟩
      have hlen : ((cs.map lt).filter fun z => !decide (z ∈ zs)).length ≤ 26 := by
        have h1 := List.length_filter_le (fun z => !decide (z ∈ zs)) (cs.map lt)
        have h2 := congrArg List.length e1
        rw [hL] at h2
        simp at h1 h2
        omega
      by_cases hz : lt y ∈ zs
      · simp [nin_strs e4, hz]
        refine ⟨cs ++ [y], ds, by rw [e1]; simp, rfl, ?_, e4, ?_, e6⟩
        · simp [List.filter_append, hz]
        · rfl
      · simp [nin_strs e4, hz]
        refine ⟨by omega, cs ++ [y], ds, by rw [e1]; simp, rfl, ?_, ?_, ?_, e6⟩
        · simp [List.filter_append, hz]
        · rw [at_app_l e6]
          exact ht
        · rfl
  · rintro acc s' ⟨cs, ds, e1, e2, rfl, e4, rfl, e6⟩
    have : ds = [] := by
      cases ds with
      | nil => rfl
      | cons _ _ => cases e2
    subst this
    rw [List.append_nil] at e1
    rw [e1] at hQ
    exact hQ
theorem unlike {A B : List Str} (hn : A.Nodup) (h : B.length < A.length) : ∃ z r, A.filter (fun z => !decide (z ∈ B)) = z :: r ∧ z ∈ A ∧ z ∉ B := by
  cases e : A.filter (fun z => !decide (z ∈ B)) with
  | nil =>
    exfalso
    have := nodup_sub hn (ps := B) fun a ha => Classical.byContradiction fun hb => by
      have : a ∈ A.filter (fun z => !decide (z ∈ B)) := List.mem_filter.mpr ⟨ha, by rw [decide_eq_false hb]; rfl⟩
      rw [e] at this
      cases this
    omega
  | cons z r =>
    have hm : z ∈ A.filter (fun z => !decide (z ∈ B)) := by
      rw [e]
      exact List.mem_cons_self
    obtain ⟨h1, h2⟩ := List.mem_filter.mp hm
    refine ⟨z, r, rfl, h1, fun hb => ?_⟩
    rw [decide_eq_true hb] at h2
    cases h2
theorem strs_ne {i j : Nat} (h : at_ s i = some (.lst (zs.map D.str))) (hz : ∀ z ∈ zs, nameB z = true) (hj : at_ s j = some (.lst [])) : oNe (.ref i) (.ref j) s = some (.bl (!zs.isEmpty), s) := by
  unfold oNe
  rw [eqD_list h ?_ hj]
  · cases zs <;> rfl
  · obtain ⟨ds, h1, h2, h3⟩ := pys_strs (s := s) hz
    refine ⟨ds, h1, ?_⟩
    simp [SeqAt.shaped, PyData.canLay0, h2, PyData.depth, h3]
theorem oAdd_str {x y : Str} (h : x.length + y.length ≤ 1000000) : oAdd (.str x) (.str y) s = some (.str (x ++ y), s) := by
  have : x.length + y.length ≤ sizeLine := Nat.le_trans h (by decide)
  simp [oAdd, this]
theorem oSl_str {x : Str} {lo hi : Option Int} (h : x.length ≤ 1000000) : oSl (.str x) lo hi s = some (.str (cutS x lo hi), s) := by
  have : x.length ≤ sizeLine := Nat.le_trans h (by decide)
  simp [oSl, this]
def NmQ (p t : Nat) (zs : List Str) (s : Sto) : D → Sto → Prop := fun d s' => ∃ z, d = .str z ∧ nameB z = true ∧ z ∉ zs ∧ at_ s' t = some (.lst ((zs ++ [z]).map D.str)) ∧ Ch [p, t] s s' ∧ PotAt s' p
def NmM (p t : Nat) (s : Sto) (w : Int) (env : DL.Env) (s' : Sto) : Prop := ∃ z e5, env = [some (.ref p), some (.ref t), some (.str abc), some (.str z), some (.int w), e5, none] ∧ nameB z = true ∧ Ch [p] s s' ∧ PotAt s' p
theorem pot_ne (h : PotAt s p) (ht : at_ s t = some (.lst (zs.map D.str))) : t ≠ p := fun z => by
  obtain ⟨a, b, e, _⟩ := h
  rw [z, e] at ht
  cases zs with
  | nil => cases ht
  | cons y zs => simp at ht
def RnQ (p : Nat) (s : Sto) : D → Sto → Prop := fun d s' => ∃ z, d = .str z ∧ nameB z = true ∧ Ch [p] s s' ∧ PotAt s' p
theorem rnd_ok {ab : Str} (ha1 : ∀ c ∈ ab.cps.toList, smallB c = true) (ha2 : ab.cps.toList.length = 26) (ha3 : ab.length ≤ 1000000) {t : Nat} (h : PotAt s p) : (eMk isStr oJoin (eC (.str (Str.ofString ""))) (aCons (eLc (.nm 5) [5] (iRange1 (e2 oAdd (eC (.int 1)) (e2 oMul (eCall f__law_draw (aCons (eVar 0) (aCons (eC (.int 2)) aNil))) (eCall f__law_draw (aCons (eVar 0) (aCons (eC (.int 8)) aNil)))))) tYesD (e2 oIx (eVar 2) (eCall f__law_draw (aCons (eVar 0) (aCons (eC (.int 26)) aNil))))) aNil) [some (.ref p), some (.ref t), some (.str ab), none, none, none, none] s).wp (RnQ p s) nX := by
  simp
  refine (draw_i h (by decide) (by decide +kernel)).no ?_
  rintro _ s1 ⟨k1, rfl, hk1, c1, p1, _⟩
  simp
  refine (draw_i p1 (by decide) (by decide +kernel)).no ?_
  rintro _ s2 ⟨k2, rfl, hk2, c2, p2, _⟩
  have hk1 : k1 < 2 := hk1
  have hk2 : k2 < 8 := hk2
  have hmul : k1 * k2 < 8 := by
    have : k1 = 0 ∨ k1 = 1 := by omega
    rcases this with rfl | rfl <;> omega
  have om : oMul (.int (k1 : Nat)) (.int (k2 : Nat)) s2 = some (.int (((k1 : Nat) : Int) * (k2 : Nat)), s2) := oMul_int (by
    have a := log31 (b := (k1 : Int)) (by omega) (by omega)
    have b := log31 (b := (k2 : Int)) (by omega) (by omega)
    unfold CMulW
    omega)
  obtain ⟨m, hm0⟩ : ∃ m, k1 * k2 = m := ⟨_, rfl⟩
  have hm : (1 + ((k1 : Nat) : Int) * (k2 : Nat)) = ((1 + m : Nat) : Int) := by
    rw [← hm0]
    simp
  have hm8 : m < 8 := by rw [← hm0]; exact hmul
  have hr : rngR (.int ((1 + m : Nat) : Int)) s2 = .ok ⟨(List.range (1 + m)).map fun i => .int ((0 : Int) + (i : Nat)), fun _ => True⟩ s2 := by
    have := rngR_ok (s := s2) (j := ((1 + m : Nat) : Int)) (Int.natCast_nonneg _) (by omega)
    rw [Int.toNat_natCast] at this
    exact this
  clear hmul hm0
  refine kE2b_of om ?_
  refine kE2b_of oAdd_int ?_
  rw [hm]
  refine kRng_of hr ?_
  rw [kLc_app]
  refine letters_ok ha1 ha2 ha3 (t := t) p2 rfl (by simp; omega) fun cs s3 hcs hcl c3 p3 e3 => ?_
  have hcl' : cs.length = 1 + m := by rw [hcl, List.length_map, List.length_range]
  simp [join_ok e3 (by omega)]
  exact ⟨_, rfl, join_name hcs (by omega) (by omega), (c1.trans c2).trans c3, p3⟩
theorem name_ok (h : PotAt s p) (ht : at_ s t = some (.lst (zs.map D.str))) (hz : ∀ z ∈ zs, nameB z = true) (hl : zs.length < 20) : (f__law_name [.ref p, .ref t] s).wp (NmQ p t zs s) X := by
  have hne := pot_ne h ht
  unfold f__law_name
  rw [wp_run]
  show (d__law_name [some (.ref p), some (.ref t), none, none, none, none, none] s).wp _
  unfold d__law_name
  rw [wp_seq, wp_asg, wp_eC, kAsg_app, asgS_nm, seq_nx]
  show ((sSeq _ _) [some (.ref p), some (.ref t), some (.str abc), none, none, none, none] s).wp _
  rw [wp_seq, wp_asg]
  refine (rnd_ok (ab := abc) abc_small abc_len (by decide +kernel) (t := t) h).no ?_
  rintro _ s3 ⟨z0, rfl, hz0, c3, p3⟩
  simp
  refine (draw_i p3 (by decide) (by decide +kernel)).no ?_
  rintro _ s4 ⟨w, rfl, hw, c4, p4, _⟩
  have cc4 := c3.trans c4
  clear c3 c4 p3
  simp
  have done_ : ∀ (s7 : Sto) (z : Str) (e5 e6 : Option D), nameB z = true → z ∉ zs → Ch [p] s s7 → PotAt s7 p → ((sSeq (sExpr (eMk isLst oAppend (eVar 1) (aCons (eVar 3) aNil))) (sRet (eVar 3))) [some (.ref p), some (.ref t), some (.str abc), some (.str z), some (.int (w : Nat)), e5, e6] s7).wp (Post.fn (NmQ p t zs s) X) := by
    intro s7 z e5 e6 hz7 hzn c7 p7
    have et : at_ s7 t = some (.lst (zs.map D.str)) := c7.keep ht (by simpa using hne)
    simp [et, oAppend_ok et (by rw [List.length_map]; omega : (zs.map D.str).length < 1000000)]
    refine ⟨z, rfl, hz7, hzn, ?_, ?_, p7.set hne⟩
    · rw [at_set_self (at_lt et)]
      simp
    · exact (c7.more (by simp)).trans (Ch.set (by simp))
  refine SR.wp.cut (NmM p t s (w : Nat)) ?_ ?_
  · by_cases h0 : w = 0
    · subst h0
      simp [oLst_ok]
      have p5 : PotAt (s4 ++ [.lst (wordsT.map D.str)]) p := p4.app
      refine (draw_i p5 (by decide) (by decide +kernel)).no ?_
      rintro _ s5 ⟨k, rfl, hk, c5, p5, _⟩
      have e5 : at_ s5 s4.length = some (.lst (wordsT.map D.str)) := c5.keep at_app_len (by simp; have := p4.lt; omega)
      obtain ⟨x, hx, hm, _⟩ := ix_list (k := k) e5 hk
      obtain ⟨z, hzm, rfl⟩ := List.mem_map.mp hm
      refine kE2b_of hx ?_
      simp
      exact ⟨z, none, rfl, words_ok z hzm, cc4.trans (Ch.app.trans c5), p5⟩
    · simp [h0]
      exact ⟨z0, none, rfl, hz0, cc4, p4⟩
  · rintro env s5 ⟨z, e5, rfl, hz5, c5, p5⟩
    have et5 : at_ s5 t = some (.lst (zs.map D.str)) := c5.keep ht (by simpa using hne)
    rw [seq_nx, wp_seq]
    refine SR.wp.cut (NmM p t s (w : Nat)) ?_ ?_
    · have stay : NmM p t s (w : Nat) [some (.ref p), some (.ref t), some (.str abc), some (.str z), some (.int (w : Nat)), e5, none] s5 := ⟨z, e5, rfl, hz5, c5, p5⟩
      by_cases h1 : w = 1
      · have et5' : at_ (s5 ++ [.lst []]) t = some (.lst (zs.map D.str)) := by rw [at_app_l (at_lt et5)]; exact et5
        simp [h1, strs_ne et5' hz at_app_len]
        rcases List.eq_nil_or_concat zs with rfl | ⟨l, y, rfl⟩
        · simp
          exact ⟨z, e5, rfl, hz5, c5.trans Ch.app, p5.app⟩
        · rw [List.concat_eq_append] at hz et5' ⊢
          have hy := hz y (by simp)
          have ly := nameB_len hy
          have lz := nameB_len hz5
          have e6 : at_ (s5 ++ [.lst []]) t = some (.lst (l.map D.str ++ [.str y])) := by rw [et5']; simp
          have hl : (y ++ z).length = y.length + z.length := strLen_append y z
          have hie : (l ++ [y]).isEmpty = false := by simp
          simp [hie, e6, oAdd_str (by omega : y.length + z.length ≤ 1000000), oSl_str (by omega : (y ++ z).length ≤ 1000000)]
          exact ⟨cutS (y ++ z) none (some 8), e5, rfl, cut8 hy hz5, c5.trans Ch.app, p5.app⟩
      · have h1' : ¬((w : Nat) : Int) = 1 := by omega
        simp [h1']
        exact stay
    · rintro env s6 ⟨z6, e6, rfl, hz6, c6, p6⟩
      have et6 : at_ s6 t = some (.lst (zs.map D.str)) := c6.keep ht (by simpa using hne)
      rw [seq_nx, wp_seq]
      by_cases hin : z6 ∈ zs
      · simp [-S3.oIn_def, in_strs et6, hin, wipeD]
        refine free_ok (L := abc.cps.toList) abc_len et6 ⟨_, _, _, _, _, rfl⟩ ?_
        obtain ⟨z7, r, hf, hm, hn⟩ := unlike (B := zs) abc_nd (by rw [List.length_map, abc_len]; omega)
        rw [hf]
        obtain ⟨c, hc, rfl⟩ := List.mem_map.mp hm
        simp
        have := done_ (s6 ++ [.lst ((lt c :: r).map D.str)]) (lt c) e6 none (lt_name (abc_small c hc)) hn (c6.trans Ch.app) p6.app
        rw [wp_seq] at this
        simp at this
        exact this
      · simp [-S3.oIn_def, in_strs et6, hin]
        have := done_ s6 z6 e6 none hz6 hin c6 p6
        rw [wp_seq] at this
        simp at this
        exact this
end
end G31
set_option maxHeartbeats 4000000
/-! k31: rows, bodies, the stock -/
namespace G31
open PySem PySem.Spec PyProof.Rows L2 HM DL S0 S1 S2 S3 S4 XM
section
variable {s s' : Sto} {p t u : Nat} {X : Ex → Sto → Prop} {ps nms : List Str}
/-- a row that is drawn -/
structure RwD (ps nms : List Str) (d : D) : Prop where
  ok : RowOk ps d
  nm : RowN nms d
  ln : (∀ z ∈ ps, nameB z = true) → (∀ z ∈ nms, nameB z = true) → LineOk d ∧ pure d = true ∧ SmX (pyD d) 1 30
theorem txt_name {z : Str} (h : nameB z = true) : pathB z = true := by
  have hs : Txt.split z (Str.ofString ".") = [z] := by
    have h1 : 46 ∉ z.cps.toList := fun hc => by
      simp only [nameB, Bool.and_eq_true, List.all_eq_true] at h
      have := h.2.2 46 hc
      simp [smallB] at this
    have e : TL.tl (Str.ofString ".") = [46] := by decide +kernel
    have k : (Str.ofString ".").cps.all (· < 256) = true := by decide +kernel
    have := TL.split_join (y := Str.ofString ".") e k (parts := [z]) (by simp) fun q hq hc => by
      rw [List.mem_singleton.mp hq] at hc
      exact h1 hc
    rw [TL.join_eq] at this
    exact this
  simp only [pathB]
  rw [hs]
  simp [h]
theorem rw_set {z : Str} {i : Int} (hz : z ∈ nms) (hi : i.natAbs < 10 ^ 60) : RwD ps nms (.tup [.str "set", .str z, .int i]) :=
  ⟨.set z i, fun w z' x e => by cases e; exact hz, fun _ hn => ⟨.mk (ks := [.str "name", .str "number"]) rfl (by simp) (.cons (.name (hn z hz)) (.cons .num .nil)), rfl,
    ((SmA.cons (s_str (n := 0) (asc_lit (by decide +kernel)) (by decide +kernel)) (SmA.cons (s_name (hn z hz)) (SmA.cons (s_int hi) SmA.nil))).tup).mono (Nat.le_refl _) (by omega)⟩⟩
theorem rw_take {z q : Str} (hz : z ∈ nms) (hq : q ∈ ps) : RwD ps nms (.tup [.str "take", .str z, .str q]) :=
  ⟨.take z q hq, fun w z' x e => by cases e; exact hz, fun hp hn => ⟨.mk (ks := [.str "name", .str "path"]) rfl (by simp) (.cons (.name (hn z hz)) (.cons (.path (txt_name (hp q hq)) (Nat.le_trans (nameB_len (hp q hq)) (by decide))) .nil)), rfl,
    ((SmA.cons (s_str (n := 0) (asc_lit (by decide +kernel)) (by decide +kernel)) (SmA.cons (s_name (hn z hz)) (SmA.cons (s_name (hp q hq)) SmA.nil))).tup).mono (Nat.le_refl _) (by omega)⟩⟩
theorem rw_note {q : Str} (hq : q ∈ ps) : RwD ps nms (.tup [.str "note", .str q]) :=
  ⟨.note q, (fun w z' x e => by cases e), fun hp hn => ⟨.mk (ks := [.str "path"]) rfl (by simp) (.cons (.path (txt_name (hp q hq)) (Nat.le_trans (nameB_len (hp q hq)) (by decide))) .nil), rfl,
    ((SmA.cons (s_str (n := 0) (asc_lit (by decide +kernel)) (by decide +kernel)) (SmA.cons (s_name (hp q hq)) SmA.nil)).tup).mono (Nat.le_refl _) (by omega)⟩⟩
def RowQ (ps nms : List Str) (p : Nat) (s : Sto) : D → Sto → Prop := fun d s' => RwD ps nms d ∧ Ch [p] s s' ∧ PotAt s' p
theorem row_ok (h : PotAt s p) (ht : at_ s t = some (.lst (ps.map D.str))) (hu : at_ s u = some (.lst (nms.map D.str))) (hp : 0 < ps.length) (hn : 0 < nms.length) (hl : ps.length < 100) (hl2 : nms.length < 100) : (f__law_row [.ref p, .ref t, .ref u] s).wp (RowQ ps nms p s) X := by
  have n1 := pot_ne h ht
  have n2 := pot_ne h hu
  unfold f__law_row d__law_row
  simp
  refine (draw_i h (by decide) (by decide +kernel)).no ?_
  rintro _ s1 ⟨w, rfl, hw, c1, p1, _⟩
  have hu1 : at_ s1 u = some (.lst (nms.map D.str)) := c1.keep hu (by simpa using n2)
  simp [hu1]
  refine (draw_n (n := nms.length) p1 hn (small250 (by omega))).no ?_
  rintro _ s2 ⟨k, rfl, hk, c2, p2, _⟩
  have hu2 : at_ s2 u = some (.lst (nms.map D.str)) := c2.keep hu1 (by simpa using n2)
  obtain ⟨x, hx, hxm, _⟩ := ix_list (k := k) hu2 (by simpa using hk)
  obtain ⟨z, hz, rfl⟩ := List.mem_map.mp hxm
  refine kE2b_of hx ?_
  have ht2 : at_ s2 t = some (.lst (ps.map D.str)) := (c1.trans c2).keep ht (by simpa using n1)
  simp [ht2]
  refine (draw_n (n := ps.length) p2 hp (small250 (by omega))).no ?_
  rintro _ s3 ⟨k3, rfl, hk3, c3, p3, _⟩
  have ht3 : at_ s3 t = some (.lst (ps.map D.str)) := c3.keep ht2 (by simpa using n1)
  obtain ⟨x3, hx3, hxm3, _⟩ := ix_list (k := k3) ht3 (by simpa using hk3)
  obtain ⟨q, hq, rfl⟩ := List.mem_map.mp hxm3
  refine kE2b_of hx3 ?_
  have cc := (c1.trans c2).trans c3
  simp
  by_cases w2 : w < 2
  · have w2' : (w : Int) < 2 := by omega
    simp [w2']
    refine (number_ok p3).no ?_
    rintro _ s4 ⟨i, rfl, hi, c4, p4⟩
    simp
    exact ⟨rw_set hz hi, cc.trans c4, p4⟩
  · have w2' : ¬(w : Int) < 2 := by omega
    by_cases w5 : w < 5
    · have w5' : (w : Int) < 5 := by omega
      simp [w2', w5']
      exact ⟨rw_take hz hq, cc, p3⟩
    · have w5' : ¬(w : Int) < 5 := by omega
      simp [w2', w5']
      exact ⟨rw_note hq, cc, p3⟩
/-- rows found so far -/
def RsI (ps nms : List Str) (p t u : Nat) (s1 : Sto) (m : Nat) (rest acc : List D) (s' : Sto) : Prop := (∀ r ∈ acc, RwD ps nms r) ∧ acc.length + rest.length = m ∧ Ch [p] s1 s' ∧ PotAt s' p ∧ at_ s' s1.length = some (.lst acc) ∧ p < s1.length ∧ t < s1.length ∧ u < s1.length ∧ at_ s' t = some (.lst (ps.map D.str)) ∧ at_ s' u = some (.lst (nms.map D.str))
theorem rows_ok {env : DL.Env} {items : List D} {Q : D → Sto → Prop} (h : PotAt s p) (ht : at_ s t = some (.lst (ps.map D.str))) (hu : at_ s u = some (.lst (nms.map D.str))) (hp : 0 < ps.length) (hn : 0 < nms.length) (hl : ps.length < 100) (hl2 : nms.length < 100)
    (he : ∃ a b c d, env = [some (.ref p), a, some (.ref t), b, some (.ref u), c, d]) (hm : items.length ≤ 100)
    (hQ : ∀ (rs : List D) (s' : Sto), (∀ r ∈ rs, RwD ps nms r) → rs.length = items.length → Ch [p] s s' → PotAt s' p → at_ s' s.length = some (.lst rs) → Q (.ref s.length) s') :
    (lcL (.nm 3) tYesD (eCall f__law_row (aCons (eVar 0) (aCons (eVar 2) (aCons (eVar 4) aNil)))) (fun _ => True) s.length items env (s ++ [.lst []])).wp Q X := by
  obtain ⟨a, b, c, d, rfl⟩ := he
  have n1 := pot_ne h ht
  have n2 := pot_ne h hu
  refine lcL_inv (RsI ps nms p t u s items.length) (acc := []) ⟨(fun _ z => by cases z), Nat.zero_add _, Ch.app, h.app, at_app_len, h.lt, at_lt ht, at_lt hu, by rw [at_app_l (at_lt ht)]; exact ht, by rw [at_app_l (at_lt hu)]; exact hu⟩ (fun _ _ _ _ => trivial) ?_ ?_
  · rintro x rest acc s' ⟨h1, h2, h3, h4, h5, h6, h7, h8, h9, h10⟩
    refine ⟨_, rfl, ?_⟩
    simp
    refine (row_ok h4 h9 h10 hp hn hl hl2).no ?_
    rintro y s2 ⟨r2, c2, p2⟩
    have e2 : at_ s2 s.length = some (.lst acc) := c2.keep h5 (by simp; omega)
    refine ⟨e2, by rw [List.length_cons] at h2; omega, fun r hr => ?_, by rw [List.length_append, List.length_singleton]; rw [List.length_cons] at h2; omega, ?_, ?_, ?_, h6, h7, h8, ?_, ?_⟩
    · rcases List.mem_append.mp hr with hr | hr
      · exact h1 r hr
      · rw [List.mem_singleton.mp hr]
        exact r2
    · exact (h3.trans c2).over (Ch.set (T := [s.length]) List.mem_cons_self) (fun q hq => .inr (by rw [List.mem_singleton.mp hq]; exact Nat.le_refl _))
    · exact p2.set (by omega)
    · exact at_set_self (at_lt e2)
    · rw [at_set_ne (by omega)]
      exact c2.keep h9 (by simpa using n1)
    · rw [at_set_ne (by omega)]
      exact c2.keep h10 (by simpa using n2)
  · rintro acc s' ⟨h1, h2, h3, h4, h5, h6, h7, h8, h9, h10⟩
    exact hQ acc s' h1 (by simpa using h2) h3 h4 h5
end
end G31
set_option maxHeartbeats 4000000
/-! k31: the stock -/
namespace G31
open PySem PySem.Spec PyProof.Rows L2 HM DL S0 S1 S2 S3 S4 XM
section
variable {s s' : Sto} {p t u : Nat} {X : Ex → Sto → Prop} {ps nms : List Str}
/-- names found so far -/
structure NsAt (s : Sto) (t : Nat) (zs : List Str) : Prop where
  l : at_ s t = some (.lst (zs.map D.str))
  ok : ∀ z ∈ zs, nameB z = true
  nd : zs.Nodup
theorem nd_snoc {zs : List Str} {z : Str} (h : zs.Nodup) (hz : z ∉ zs) : (zs ++ [z]).Nodup := by
  rw [List.nodup_append]
  exact ⟨h, by simp, fun a ha b hb e => hz (by rw [List.mem_singleton.mp hb] at e; rw [← e]; exact ha)⟩
theorem name_ns {zs : List Str} (h : PotAt s p) (ht : NsAt s t zs) (hl : zs.length < 20) : (f__law_name [.ref p, .ref t] s).wp (fun _ s' => (∃ z, NsAt s' t (zs ++ [z])) ∧ Ch [p, t] s s' ∧ PotAt s' p) X := by
  refine (name_ok h ht.l ht.ok hl).no ?_
  rintro _ s1 ⟨z, rfl, hz, hn, e, c, p1⟩
  refine ⟨⟨z, e, fun y hy => ?_, nd_snoc ht.nd hn⟩, c, p1⟩
  rcases List.mem_append.mp hy with hy | hy
  · exact ht.ok y hy
  · rw [List.mem_singleton.mp hy]
    exact hz
/-- a stock that is drawn -/
structure StkD (ps nms : List Str) (kvs : List (Key × D)) : Prop where
  ks : kvs.map (·.1) = ps.map Sum.inr
  vs : ∀ kv ∈ kvs, ∃ rs, kv.2 = .tup rs ∧ (∀ r ∈ rs, RwD ps nms r) ∧ rs.length ≤ 40
  pn : ∀ z ∈ ps, nameB z = true
  nn : ∀ z ∈ nms, nameB z = true
  nd : ps.Nodup
  p1 : 0 < ps.length
  p8 : ps.length ≤ 8
  n1 : 0 < nms.length
  n9 : nms.length ≤ 9
def StQ (p : Nat) (s : Sto) : D → Sto → Prop := fun d s' => ∃ (k : Nat) (ps nms : List Str) (kvs : List (Key × D)), d = .ref k ∧ at_ s' k = some (.dct kvs) ∧ StkD ps nms kvs ∧ Ch [p] s s' ∧ PotAt s' p ∧ s.length ≤ k
/-- the first loop -/
def L1 (p : Nat) (s : Sto) (t m : Nat) (mo : Int) (rest : List D) (env : DL.Env) (s' : Sto) : Prop := ∃ (zs : List Str) (e3 : Option D), env = [some (.ref p), some (.int mo), some (.ref t), e3, none, none, none] ∧ NsAt s' t zs ∧ zs.length + rest.length = m ∧ Ch [p] s s' ∧ PotAt s' p ∧ s.length ≤ t
/-- the second loop -/
def L2 (p : Nat) (s : Sto) (t u k : Nat) (ps nms : List Str) (mo : Int) (rest : List D) (env : DL.Env) (s' : Sto) : Prop := ∃ (z1 z2 : List Str) (kvs : List (Key × D)) (e3 e6 : Option D), env = [some (.ref p), some (.int mo), some (.ref t), e3, some (.ref u), some (.ref k), e6] ∧ ps = z1 ++ z2 ∧ rest = z2.map D.str ∧ at_ s' t = some (.lst (ps.map D.str)) ∧ at_ s' u = some (.lst (nms.map D.str)) ∧ at_ s' k = some (.dct kvs) ∧ kvs.map (·.1) = z1.map Sum.inr ∧
    (∀ kv ∈ kvs, ∃ rs, kv.2 = .tup rs ∧ (∀ r ∈ rs, RwD ps nms r) ∧ rs.length ≤ 40) ∧ Ch [p] s s' ∧ PotAt s' p ∧ s.length ≤ k
theorem stock_ok (h : PotAt s p) : (f__law_stock [.ref p] s).wp (StQ p s) X := by
  unfold f__law_stock
  rw [wp_run]
  show (d__law_stock [some (.ref p), none, none, none, none, none, none] s).wp _
  unfold d__law_stock
  simp [oLst_ok]
  refine (draw_i h.app (by decide) (by decide +kernel)).no ?_
  rintro _ s1 ⟨k, rfl, hk, c1, p1, _⟩
  have hlt := h.lt
  have e1 : at_ s1 s.length = some (.lst [.int 6, .int 6, .int 6, .int 40, .int 6, .int 6, .int 6, .int 6]) := c1.keep at_app_len (by simp; omega)
  obtain ⟨x, hx, hm, _⟩ := ix_list (k := k) e1 hk
  have hmo : ∃ mo : Nat, x = .int (mo : Nat) ∧ mo ≤ 40 := by
    simp at hm
    rcases hm with rfl | rfl | rfl
    · exact ⟨6, rfl, by omega⟩
    · exact ⟨40, rfl, by omega⟩
    · exact ⟨6, rfl, by omega⟩
  obtain ⟨mo, rfl, hmo⟩ := hmo
  refine kE2b_of hx ?_
  have c1 : Ch [p] s s1 := Ch.app.trans c1
  simp
  refine (draw_i p1.app (by decide) (by decide +kernel)).no ?_
  rintro _ s2 ⟨m, rfl, hm8, c2, p2, l2⟩
  have hm8 : m < 8 := hm8
  have e2 : at_ s2 s1.length = some (.lst []) := c2.keep at_app_len (by simp; have := p1.lt; omega)
  have c2 : Ch [p] s s2 := c1.trans (Ch.app.trans c2)
  refine kE2b_of oAdd_int ?_
  have hm1 : (1 + ((m : Nat) : Int)) = ((1 + m : Nat) : Int) := by simp
  have hr : rngR (.int ((1 + m : Nat) : Int)) s2 = .ok ⟨(List.range (1 + m)).map fun i => .int ((0 : Int) + (i : Nat)), fun _ => True⟩ s2 := by
    have := rngR_ok (s := s2) (j := ((1 + m : Nat) : Int)) (Int.natCast_nonneg _) (by omega)
    rw [Int.toNat_natCast] at this
    exact this
  rw [hm1]
  refine kRng_of hr ?_
  rw [kFor_app]
  have hs1 : s.length ≤ s1.length := c1.len
  refine forL_inv (L1 p s s1.length (1 + m) (mo : Nat)) ⟨[], none, rfl, ⟨e2, (fun _ z => by cases z), List.nodup_nil⟩, by simp, c2, p2, hs1⟩ (fun _ _ _ _ => trivial) ?_ ?_
  · rintro x rest env s' ⟨zs, e3, rfl, hns, hlen, cs, ps', ht⟩
    refine ⟨_, rfl, ?_⟩
    rw [List.length_cons] at hlen
    simp
    refine (name_ns ps' hns (by omega)).no ?_
    rintro _ s'' ⟨⟨z, hz⟩, c3, p3⟩
    simp
    exact ⟨zs ++ [z], _, rfl, hz, by simp; omega, cs.over c3 (by simp; exact .inr ht), p3, ht⟩
  · rintro env s3 ⟨ps, e3, rfl, hns, hlen, c3, p3, ht⟩
    simp at hlen
    have ol : oList [.ref s1.length] s3 = some (.ref s3.length, s3 ++ [.lst (ps.map D.str)]) := by
      have h' : s3[s1.length]? = some (.lst (ps.map D.str)) := hns.l
      simp [oList, rdL, h']
    simp [ol]
    have hns4 : NsAt (s3 ++ [.lst (ps.map D.str)]) s3.length ps := ⟨at_app_len, hns.ok, hns.nd⟩
    refine (name_ns p3.app hns4 (by omega)).no ?_
    rintro _ s5 ⟨⟨z, hz⟩, c5, p5⟩
    have hs3 : s.length ≤ s3.length := c3.len
    have ltt := at_lt hns.l
    have et5 : at_ s5 s1.length = some (.lst (ps.map D.str)) := c5.keep (by rw [at_app_l ltt]; exact hns.l) (by simp; have := p1.lt; omega)
    have c5 : Ch [p] s s5 := (c3.trans Ch.app).over c5 (by simp; exact .inr hs3)
    simp
    have et6 : at_ (s5 ++ [.dct []]) s1.length = some (.lst (ps.map D.str)) := by rw [at_app_l (at_lt et5)]; exact et5
    simp [et6]
    have hs5 : s.length ≤ s5.length := c5.len
    refine forL_inv (L2 p s s1.length s3.length s5.length ps (ps ++ [z]) (mo : Nat)) ⟨[], ps, [], e3, none, rfl, rfl, rfl, et6, by rw [at_app_l (at_lt hz.l)]; exact hz.l, at_app_len, rfl, (fun _ q => by cases q), c5.trans Ch.app, p5.app, hs5⟩ ?_ ?_ ?_
    · rintro rest env s' ⟨z1, z2, kvs, f3, f6, rfl, _, rfl, h1, _⟩
      simp [h1]
    · rintro x rest env s' ⟨z1, z2, kvs, f3, f6, rfl, hps, hrest, h1, h2, h3, h4, h5, h6, h7, h8⟩
      cases z2 with
      | nil => cases hrest
      | cons y z2 =>
        simp only [List.map_cons, List.cons.injEq] at hrest
        obtain ⟨rfl, rfl⟩ := hrest
        refine ⟨_, rfl, ?_⟩
        simp
        refine (draw_n (n := mo + 1) h7 (by omega) (small250 (by omega))).no ?_
        rintro _ s'' ⟨n, rfl, hn, c9, p9, _⟩
        have hr9 : rngR (.int ((n : Nat) : Int)) s'' = .ok ⟨(List.range n).map fun i => .int ((0 : Int) + (i : Nat)), fun _ => True⟩ s'' := by
          have := rngR_ok (s := s'') (j := ((n : Nat) : Int)) (Int.natCast_nonneg _) (by omega)
          rw [Int.toNat_natCast] at this
          exact this
        refine kRng_of hr9 ?_
        rw [kLc_app]
        have np : s1.length ≠ p := pot_ne h7 h1
        have nu : s3.length ≠ p := pot_ne h7 h2
        have nk : s5.length ≠ p := fun e => by
          obtain ⟨a, b, e', _⟩ := h7
          rw [e, e'] at h3
          cases h3
        have t9 : at_ s'' s1.length = some (.lst (ps.map D.str)) := c9.keep h1 (by simpa using np)
        have u9 : at_ s'' s3.length = some (.lst ((ps ++ [z]).map D.str)) := c9.keep h2 (by simpa using nu)
        have k9 : at_ s'' s5.length = some (.dct kvs) := c9.keep h3 (by simpa using nk)
        refine rows_ok p9 t9 u9 (by omega) (by simp) (by omega) (by simp; omega) ⟨_, _, _, _, rfl⟩ (by simp; omega) fun rs s6 hrs hrl c10 p10 e10 => ?_
        have hrl' : rs.length = n := by rw [hrl, List.length_map, List.length_range]
        have k10 : at_ s6 s5.length = some (.dct kvs) := c10.keep k9 (by simpa using nk)
        have hkl : kvs.length < 1000000 := by
          have := congrArg List.length h4
          simp at this
          have := congrArg List.length hps
          simp at this
          omega
        simp [oTuple_l e10, k10, setK_dct k10 (y := .str y) rfl hkl]
        have hyn : (Sum.inr y : Key) ∉ kvs.map (·.1) := by
          rw [h4]
          intro q
          obtain ⟨y', hy', e⟩ := List.mem_map.mp q
          have e := Sum.inr.inj e
          have := hns.nd
          rw [hps, List.nodup_append] at this
          exact this.2.2 y' hy' y (by simp) e
        rw [put_new hyn]
        refine ⟨z1 ++ [y], z2, kvs ++ [(.inr y, .tup rs)], _, _, rfl, by rw [hps]; simp, rfl, ?_, ?_, at_set_self (at_lt k10), by rw [List.map_append, h4, List.map_append]; rfl, fun kv hkv => ?_, ?_, p10.set nk, h8⟩
        · rw [at_set_ne (fun e => by rw [e, t9] at k9; cases k9)]
          exact c10.keep t9 (by simpa using np)
        · rw [at_set_ne (fun e => by rw [e, u9] at k9; cases k9)]
          exact c10.keep u9 (by simpa using nu)
        · rcases List.mem_append.mp hkv with hkv | hkv
          · exact h5 kv hkv
          · rw [List.mem_singleton.mp hkv]
            exact ⟨rs, rfl, hrs, by omega⟩
        · exact ((h6.trans c9).trans c10).over (Ch.set (T := [s5.length]) List.mem_cons_self) (fun q hq => .inr (by rw [List.mem_singleton.mp hq]; exact hs5))
    · rintro env s' ⟨z1, z2, kvs, f3, f6, rfl, hps, hrest, h1, h2, h3, h4, h5, h6, h7, h8⟩
      have : z2 = [] := by
        cases z2 with
        | nil => rfl
        | cons _ _ => cases hrest
      subst this
      rw [List.append_nil] at hps
      subst hps
      simp
      exact ⟨s5.length, ps, ps ++ [z], kvs, rfl, h3, ⟨h4, h5, hns.ok, hz.ok, hns.nd, by omega, by omega, by simp, by simp; omega⟩, h6, h7, hs5⟩
end
end G31
set_option maxHeartbeats 4000000
/-! k31: the stock dealt to finders -/
namespace G31
open PySem PySem.Spec PyProof.Rows L2 HM DL S0 S1 S2 S3 S4 XM
abbrev Fs := List (Nat × List (Key × D))
/-- the first finder that has a key has this -/
def First (fs : Fs) (k : Key) (v : D) : Prop := ∃ (j : Nat) (f : Nat × List (Key × D)), fs[j]? = some f ∧ valD f.2 k = some v ∧ ∀ (i : Nat) (f' : Nat × List (Key × D)), i < j → fs[i]? = some f' → valD f'.2 k = none
theorem lookF_of : ∀ {fs : Fs} {q : Str} {v : D} {j : Nat} {f : Nat × List (Key × D)}, fs[j]? = some f → valD f.2 (.inr q) = some v → (∀ i f', i < j → fs[i]? = some f' → valD f'.2 (.inr q) = none) → lookF fs q = some v
  | [], _, _, _, _, h, _, _ => by cases h
  | g :: fs, q, v, 0, f, h, hv, _ => by
    cases h
    simp [lookF, hv]
  | g :: fs, q, v, j + 1, f, h, hv, hn => by
    have h0 := hn 0 g (by omega) rfl
    simp only [lookF, h0]
    exact lookF_of (j := j) h hv fun i f' hi e => hn (i + 1) f' (by omega) e
theorem First.look {fs : Fs} {q : Str} {v : D} (h : First fs (.inr q) v) : lookF fs q = some v := by
  obtain ⟨j, f, h1, h2, h3⟩ := h
  exact lookF_of h1 h2 h3
theorem val_app_ne {kvs : List (Key × D)} {k k' : Key} {v : D} (h : k' ≠ k) : valD (kvs ++ [(k', v)]) k = valD kvs k := by
  unfold valD
  rw [List.find?_append]
  have : [(k', v)].find? (fun kv => decide (kv.1 = k)) = none := by simp [h]
  rw [this, Option.or_none]
theorem val_app_new {kvs : List (Key × D)} {k : Key} {v : D} (h : valD kvs k = none) : valD (kvs ++ [(k, v)]) k = some v := by
  unfold valD at h ⊢
  rw [Option.map_eq_none_iff] at h
  rw [List.find?_append, h]
  simp
def addF (fs : Fs) (i : Nat) (k : Key) (v : D) : Fs := match fs[i]? with
  | some f => fs.set i (f.1, f.2 ++ [(k, v)])
  | none => fs
theorem addF_at {fs : Fs} {i : Nat} {k : Key} {v : D} {f : Nat × List (Key × D)} (h : fs[i]? = some f) : addF fs i k v = fs.set i (f.1, f.2 ++ [(k, v)]) := by simp [addF, h]
theorem addF_get {fs : Fs} {i j : Nat} {k : Key} {v : D} {f g : Nat × List (Key × D)} (h : fs[i]? = some f) (hj : (addF fs i k v)[j]? = some g) : (j = i ∧ g = (f.1, f.2 ++ [(k, v)])) ∨ (j ≠ i ∧ fs[j]? = some g) := by
  rw [addF_at h] at hj
  by_cases e : i = j
  · subst e
    rw [List.getElem?_set_self (List.getElem?_eq_some_iff.mp h).1] at hj
    cases hj
    exact .inl ⟨rfl, rfl⟩
  · rw [List.getElem?_set_ne e] at hj
    exact .inr ⟨Ne.symm e, hj⟩
theorem First.add {fs : Fs} {i : Nat} {k k' : Key} {v v' : D} {f : Nat × List (Key × D)} (h : First fs k v) (hf : fs[i]? = some f) (hk : k' ≠ k) : First (addF fs i k' v') k v := by
  obtain ⟨j, g, h1, h2, h3⟩ := h
  by_cases e : i = j
  · subst e
    rw [h1] at hf
    cases hf
    refine ⟨i, (f.1, f.2 ++ [(k', v')]), by rw [addF_at h1]; exact List.getElem?_set_self (List.getElem?_eq_some_iff.mp h1).1, by rw [val_app_ne hk]; exact h2, fun i' f' hi he => ?_⟩
    rcases addF_get h1 he with ⟨rfl, _⟩ | ⟨_, he⟩
    · omega
    · exact h3 i' f' hi he
  · refine ⟨j, g, by rw [addF_at hf, List.getElem?_set_ne e]; exact h1, h2, fun i' f' hi he => ?_⟩
    rcases addF_get hf he with ⟨rfl, rfl⟩ | ⟨_, he⟩
    · rw [val_app_ne hk]
      exact h3 i' f hi hf
    · exact h3 i' f' hi he
theorem First.fresh {fs : Fs} {i : Nat} {k : Key} {v : D} {f : Nat × List (Key × D)} (hf : fs[i]? = some f) (hn : ∀ g ∈ fs, valD g.2 k = none) : First (addF fs i k v) k v := by
  refine ⟨i, (f.1, f.2 ++ [(k, v)]), by rw [addF_at hf]; exact List.getElem?_set_self (List.getElem?_eq_some_iff.mp hf).1, val_app_new (hn f (List.mem_of_getElem? hf)), fun i' f' hi he => ?_⟩
  rcases addF_get hf he with ⟨rfl, _⟩ | ⟨_, he⟩
  · omega
  · exact hn f' (List.mem_of_getElem? he)
theorem First.later {fs : Fs} {i j : Nat} {k : Key} {v v' : D} {f g : Nat × List (Key × D)} (hj : fs[j]? = some g) (hv : valD g.2 k = some v) (hn : ∀ i f', i < j → fs[i]? = some f' → valD f'.2 k = none) (hf : fs[i]? = some f) (hlt : j < i) : First (addF fs i k v') k v := by
  refine ⟨j, g, by rw [addF_at hf, List.getElem?_set_ne (by omega)]; exact hj, hv, fun i' f' hi he => ?_⟩
  rcases addF_get hf he with ⟨rfl, _⟩ | ⟨_, he⟩
  · omega
  · exact hn i' f' hi he
theorem addF_fst {fs : Fs} {i : Nat} {k : Key} {v : D} : (addF fs i k v).map (·.1) = fs.map (·.1) := by
  unfold addF
  cases h : fs[i]? with
  | none => rfl
  | some f =>
    apply List.ext_getElem?
    intro j
    rw [List.getElem?_map, List.getElem?_map]
    by_cases e : i = j
    · subst e
      rw [List.getElem?_set_self (List.getElem?_eq_some_iff.mp h).1, h]
      rfl
    · rw [List.getElem?_set_ne e]
/-- finders in the store -/
structure FsAt (s : Sto) (L : Nat) (fs : Fs) : Prop where
  l : at_ s L = some (.lst (fs.map fun f => .ref f.1))
  d : ∀ (j : Nat) (f : Nat × List (Key × D)), fs[j]? = some f → at_ s f.1 = some (.dct f.2)
  nd : (fs.map (·.1)).Nodup
theorem map_ref {fs gs : Fs} (h : fs.map (·.1) = gs.map (·.1)) : (fs.map fun f => D.ref f.1) = gs.map fun f => D.ref f.1 := by
  have := congrArg (List.map D.ref) h
  rw [List.map_map, List.map_map] at this
  exact this
theorem FsAt.add {s : Sto} {L i : Nat} {fs : Fs} {k : Key} {v : D} {f : Nat × List (Key × D)} (h : FsAt s L fs) (hf : fs[i]? = some f) : FsAt (s.set f.1 (.dct (f.2 ++ [(k, v)]))) L (addF fs i k v) := by
  have hd := h.d i f hf
  refine ⟨?_, fun j g hg => ?_, by rw [addF_fst]; exact h.nd⟩
  · rw [at_set_ne (fun e => by rw [e, h.l] at hd; cases hd), map_ref (addF_fst (fs := fs) (i := i) (k := k) (v := v))]
    exact h.l
  · rcases addF_get hf hg with ⟨rfl, rfl⟩ | ⟨hne, hg⟩
    · exact at_set_self (at_lt hd)
    · rw [at_set_ne (fun e => hne ?_)]
      · exact h.d j g hg
      · have h1 : (fs.map (·.1))[i]? = some f.1 := by rw [List.getElem?_map, hf]; rfl
        have h2 : (fs.map (·.1))[j]? = some g.1 := by rw [List.getElem?_map, hg]; rfl
        rw [← e] at h2
        exact ((List.getElem?_inj (List.getElem?_eq_some_iff.mp h2).1 h.nd).mp (h2.trans h1.symm))
section
variable {s s' : Sto} {p t u : Nat} {X : Ex → Sto → Prop} {ps nms : List Str}
def DnI (s : Sto) (m : Nat) (rest acc : List D) (s' : Sto) : Prop := ∃ k, k + rest.length = m ∧ acc = refsF s.length k ∧ s' = s ++ .lst acc :: List.replicate k (.dct [])
theorem dnew_ok {env : DL.Env} {items : List D} {Q : D → Sto → Prop} (hl : items.length < 1000) (he : env.length = 7) (hQ : Q (.ref s.length) (s ++ .lst (refsF s.length items.length) :: List.replicate items.length (.dct []))) :
    (lcL (.nm 6) tYesD eDnew (fun _ => True) s.length items env (s ++ [.lst []])).wp Q X := by
  refine lcL_inv (DnI s items.length) (acc := []) ⟨0, Nat.zero_add _, rfl, rfl⟩ (fun _ _ _ _ => trivial) ?_ ?_
  · rintro x rest acc s' ⟨k, h1, rfl, rfl⟩
    refine ⟨_, rfl, ?_⟩
    rw [List.length_cons] at h1
    simp
    refine ⟨by rw [refsF_len]; omega, k + 1, by omega, ?_, ?_⟩
    · simp [refsF]
      omega
    · simp [refsF, List.replicate_succ']
  · rintro acc s' ⟨k, h1, rfl, rfl⟩
    simp at h1
    subst h1
    exact hQ
/-- a body that a finder may have -/
def FinE (ps nms : List Str) (kv : Key × D) : Prop := ∃ z rs, kv = (.inr z, .tup rs) ∧ z ∈ ps ∧ (∀ r ∈ rs, RwD ps nms r) ∧ rs.length ≤ 40
structure DlD (ps nms : List Str) (done : List (Key × D)) (fs : Fs) : Prop where
  ok : ∀ f ∈ fs, f.2.length ≤ done.length ∧ ∀ kv ∈ f.2, kv.1 ∈ done.map (·.1) ∧ FinE ps nms kv
  fst : ∀ kv ∈ done, First fs kv.1 kv.2
theorem DlD.none {done : List (Key × D)} {fs : Fs} {k : Key} (h : DlD ps nms done fs) (hk : k ∉ done.map (·.1)) : ∀ g ∈ fs, valD g.2 k = none := fun g hg => by
  cases e : valD g.2 k with
  | none => rfl
  | some v =>
    have := val_isSome.mp (by rw [e]; rfl : (valD g.2 k).isSome = true)
    obtain ⟨kv, hkv, rfl⟩ := List.mem_map.mp this
    exact absurd ((h.ok g hg).2 kv hkv).1 hk
theorem DlD.step {done : List (Key × D)} {fs : Fs} {z : Str} {rs : List D} {i : Nat} {f : Nat × List (Key × D)} (h : DlD ps nms done fs) (hz : (Sum.inr z : Key) ∉ done.map (·.1)) (hf : fs[i]? = some f) (he : FinE ps nms (.inr z, .tup rs)) : DlD ps nms (done ++ [(.inr z, .tup rs)]) (addF fs i (.inr z) (.tup rs)) := by
  refine ⟨fun g hg => ?_, fun kv hkv => ?_⟩
  · obtain ⟨j, hj⟩ := List.mem_iff_getElem?.mp hg
    rcases addF_get hf hj with ⟨rfl, rfl⟩ | ⟨_, hj⟩
    · have q := h.ok f (List.mem_of_getElem? hf)
      refine ⟨by simp; exact q.1, fun kv hkv => ?_⟩
      rcases List.mem_append.mp hkv with hkv | hkv
      · obtain ⟨q1, q2⟩ := q.2 kv hkv
        exact ⟨by rw [List.map_append]; exact List.mem_append.mpr (.inl q1), q2⟩
      · rw [List.mem_singleton.mp hkv]
        exact ⟨by simp, he⟩
    · have q := h.ok g (List.mem_of_getElem? hj)
      refine ⟨by simp; omega, fun kv hkv => ?_⟩
      obtain ⟨q1, q2⟩ := q.2 kv hkv
      exact ⟨by rw [List.map_append]; exact List.mem_append.mpr (.inl q1), q2⟩
  · rcases List.mem_append.mp hkv with hkv | hkv
    · exact (h.fst kv hkv).add hf fun e => hz (by rw [e]; exact List.mem_map.mpr ⟨kv, hkv, rfl⟩)
    · rw [List.mem_singleton.mp hkv]
      exact First.fresh hf (h.none hz)
/-- another body for it in a finder further on -/
theorem DlD.more {done : List (Key × D)} {fs : Fs} {z : Str} {rs rs' : List D} {i l : Nat} {f g : Nat × List (Key × D)} (h : DlD ps nms done fs) (hz : (Sum.inr z : Key) ∉ done.map (·.1)) (hf : fs[i]? = some f) (he : FinE ps nms (.inr z, .tup rs)) (hg : (addF fs i (.inr z) (.tup rs))[l]? = some g) (hil : i < l) (he' : FinE ps nms (.inr z, .tup rs')) :
    DlD ps nms (done ++ [(.inr z, .tup rs)]) (addF (addF fs i (.inr z) (.tup rs)) l (.inr z) (.tup rs')) := by
  have h1 := h.step hz hf he
  have hg0 : fs[l]? = some g := by
    rcases addF_get hf hg with ⟨rfl, _⟩ | ⟨_, hg⟩
    · omega
    · exact hg
  refine ⟨fun x hx => ?_, fun kv hkv => ?_⟩
  · obtain ⟨j, hj⟩ := List.mem_iff_getElem?.mp hx
    rcases addF_get hg hj with ⟨rfl, rfl⟩ | ⟨_, hj⟩
    · have q := h.ok g (List.mem_of_getElem? hg0)
      have q' := h1.ok g (List.mem_of_getElem? hg)
      refine ⟨by simp; exact q.1, fun kv hkv => ?_⟩
      rcases List.mem_append.mp hkv with hkv | hkv
      · exact q'.2 kv hkv
      · rw [List.mem_singleton.mp hkv]
        exact ⟨by simp, he'⟩
    · exact h1.ok x (List.mem_of_getElem? hj)
  · rcases List.mem_append.mp hkv with hkv | hkv
    · have hne : (Sum.inr z : Key) ≠ kv.1 := fun e => hz (by rw [e]; exact List.mem_map.mpr ⟨kv, hkv, rfl⟩)
      exact ((h.fst kv hkv).add hf hne).add hg hne
    · rw [List.mem_singleton.mp hkv]
      have hn := h.none hz
      refine First.later (j := i) (g := (f.1, f.2 ++ [(.inr z, .tup rs)])) (by rw [addF_at hf]; exact List.getElem?_set_self (List.getElem?_eq_some_iff.mp hf).1) (val_app_new (hn f (List.mem_of_getElem? hf))) (fun i' f' hi he => ?_) hg hil
      rcases addF_get hf he with ⟨rfl, _⟩ | ⟨_, he⟩
      · omega
      · exact hn f' (List.mem_of_getElem? he)
end
end G31
set_option maxHeartbeats 4000000
/-! k31: the stock dealt to finders -/
namespace G31
open PySem PySem.Spec PyProof.Rows L2 HM DL S0 S1 S2 S3 S4 XM
section
variable {s s' : Sto} {p t u k : Nat} {X : Ex → Sto → Prop} {ps nms : List Str} {kvs : List (Key × D)}
def DlQ (ps nms : List Str) (kvs : List (Key × D)) (p : Nat) (s : Sto) : D → Sto → Prop := fun d s' => ∃ (L : Nat) (fs : Fs), d = .ref L ∧ FsAt s' L fs ∧ DlD ps nms kvs fs ∧ Ch [p] s s' ∧ PotAt s' p ∧ (∀ f ∈ fs, s.length ≤ f.1) ∧ s.length ≤ L ∧ fs.length ≤ 3 ∧ 0 < fs.length
/-- the loop over the stock -/
def DI (ps nms : List Str) (kvs : List (Key × D)) (p k L : Nat) (s : Sto) (rest : List D) (env : DL.Env) (s' : Sto) : Prop := ∃ (z1 z2 : List (Key × D)) (fs : Fs) (e3 e4 e5 : Option D), kvs = z1 ++ z2 ∧ rest = itemsD z2 ∧ env = [some (.ref p), some (.ref k), some (.ref L), e3, e4, e5, none] ∧ FsAt s' L fs ∧ DlD ps nms z1 fs ∧ Ch [p, k] s s' ∧ PotAt s' p ∧ (∀ f ∈ fs, s.length ≤ f.1) ∧ s.length ≤ L ∧ fs.length ≤ 3 ∧ 0 < fs.length
theorem cut_drop {xs : List D} : DL.cutD xs (some 1) none = xs.tail := by
  cases xs with
  | nil => rfl
  | cons x xs => rw [cut1]; rfl
theorem oAdd_tup {xs ys : List D} (h : xs.length + ys.length ≤ 1000000) : oAdd (.tup xs) (.tup ys) s = some (.tup (xs ++ ys), s) := by
  have : xs.length + ys.length ≤ sizeLine := Nat.le_trans h (by decide)
  simp [oAdd, this]
theorem refs_map {n m : Nat} : refsF n m = ((List.range m).map fun j => ((n + 1 + j, []) : Nat × List (Key × D))).map fun f => D.ref f.1 := by
  rw [refsF_get, List.map_map]
  rfl
/-- finders[i][path] = body -/
theorem FsAt.put {L i : Nat} {fs : Fs} {z : Str} {v : D} {f : Nat × List (Key × D)} (h : FsAt s L fs) (hf : fs[i]? = some f) (hn : valD f.2 (.inr z) = none) (hl : f.2.length < 1000000) : setD s (.ref f.1) (.str z) v = some (s.set f.1 (.dct (f.2 ++ [(.inr z, v)]))) := by
  have hd := h.d i f hf
  have hk : (Sum.inr z : Key) ∉ f.2.map (·.1) := fun q => by
    have := val_isSome.mpr q
    rw [hn] at this
    cases this
  simp [hd, setK_dct hd (y := .str z) rfl hl, put_new hk]
theorem dealt_ok (h : PotAt s p) (hk : at_ s k = some (.dct kvs)) (hS : StkD ps nms kvs) : (f__law_dealt [.ref p, .ref k] s).wp (DlQ ps nms kvs p s) X := by
  have hpk : p ≠ k := fun e => by
    obtain ⟨a, b, e', _⟩ := h
    rw [← e, e'] at hk
    cases hk
  have hkl := at_lt hk
  have hpl := h.lt
  unfold f__law_dealt
  rw [wp_run]
  show (d__law_dealt [some (.ref p), some (.ref k), none, none, none, none, none] s).wp _
  unfold d__law_dealt
  rw [wp_seq, wp_asg, wp_lc, wp_range1]
  simp
  refine (draw_i h (by decide) (by decide +kernel)).no ?_
  rintro _ s1 ⟨m, rfl, hm, c1, p1, l1⟩
  have hm : m < 3 := hm
  refine kE2b_of oAdd_int ?_
  have hm1 : (1 + ((m : Nat) : Int)) = ((1 + m : Nat) : Int) := by simp
  have hr : rngR (.int ((1 + m : Nat) : Int)) s1 = .ok ⟨(List.range (1 + m)).map fun i => .int ((0 : Int) + (i : Nat)), fun _ => True⟩ s1 := by
    have := rngR_ok (s := s1) (j := ((1 + m : Nat) : Int)) (Int.natCast_nonneg _) (by omega)
    rw [Int.toNat_natCast] at this
    exact this
  rw [hm1]
  refine kRng_of hr ?_
  rw [kLc_app]
  refine dnew_ok (by simp; omega) rfl ?_
  rw [List.length_map, List.length_range]
  obtain ⟨S, hS0⟩ : ∃ S, s1 ++ .lst (refsF s1.length (1 + m)) :: List.replicate (1 + m) (.dct []) = S := ⟨_, rfl⟩
  rw [hS0]
  have kS : at_ S k = some (.dct kvs) := by rw [← hS0, at_app_l (by omega)]; exact c1.keep hk (by simpa using Ne.symm hpk)
  have pS : PotAt S p := by rw [← hS0]; exact p1.app
  have cS : Ch [p] s S := by rw [← hS0]; exact c1.trans Ch.app
  rw [kAsg_app, asgS_nm, seq_nx, wp_seq]
  show ((sLock (eVar 1) _) [some (.ref p), some (.ref k), some (.ref s1.length), none, none, none, none] S).wp _
  refine wp_sLock (i := k) (kvs := kvs) (s1 := S) rfl kS ?_
  have klS := at_lt kS
  have kF : at_ (S.set k (.frz (.dct kvs))) k = some (.frz (.dct kvs)) := at_set_self klS
  simp [kF]
  obtain ⟨fs0, hfs0⟩ : ∃ fs0 : Fs, (List.range (1 + m)).map (fun j => ((s1.length + 1 + j, []) : Nat × List (Key × D))) = fs0 := ⟨_, rfl⟩
  have hlen0 : fs0.length = 1 + m := by rw [← hfs0]; simp
  have lS : S.length = s1.length + 1 + (1 + m) := by rw [← hS0]; simp; omega
  have F0 : FsAt (S.set k (.frz (.dct kvs))) s1.length fs0 := by
    refine ⟨?_, fun j f hf => ?_, ?_⟩
    · rw [at_set_ne (by omega), ← hS0, at_app_len, refs_map, hfs0]
    · rw [← hfs0, List.getElem?_map] at hf
      by_cases hj : j < 1 + m
      · rw [List.getElem?_range hj] at hf
        cases hf
        rw [at_set_ne (by simp only; omega), ← hS0, at_app_r (by simp only; omega)]
        have : s1.length + 1 + j - s1.length = j + 1 := by omega
        simp only [this]
        show (List.replicate (1 + m) (O.dct []))[j]? = _
        rw [List.getElem?_replicate, if_pos hj]
      · rw [List.getElem?_eq_none (by simp; omega)] at hf
        cases hf
    · rw [← hfs0, List.map_map]
      show List.Pairwise _ _
      rw [List.pairwise_map]
      refine List.Pairwise.imp (fun {a b} h e => h ?_) (List.nodup_range (n := 1 + m))
      simp at e
      exact e
  have D0 : DlD ps nms [] fs0 := ⟨fun f hf => by
    rw [← hfs0] at hf
    obtain ⟨j, _, rfl⟩ := List.mem_map.mp hf
    exact ⟨by simp, fun kv hkv => by cases hkv⟩, fun kv hkv => by cases hkv⟩
  have hge0 : ∀ f ∈ fs0, s.length ≤ f.1 := fun f hf => by
    rw [← hfs0] at hf
    obtain ⟨j, _, rfl⟩ := List.mem_map.mp hf
    simp only
    omega
  refine forL_inv (DI ps nms kvs p k s1.length s) ⟨[], kvs, fs0, none, none, none, rfl, rfl, rfl, F0, D0, (cS.more (by simp)).trans (Ch.set (by simp)), pS.set (Ne.symm hpk), hge0, by omega, by omega, by omega⟩ (fun _ _ _ _ => trivial) ?_ ?_
  · rintro x rest env s' ⟨z1, z2, fs, e3, e4, e5, hkv, hrest, rfl, hF, hD, c2, p2, hge, hL, hl3, hl0⟩
    cases z2 with
    | nil => cases hrest
    | cons kv z2 =>
      simp only [itemsD, List.map_cons, List.cons.injEq] at hrest
      obtain ⟨rfl, rfl⟩ := hrest
      have hmem : kv ∈ kvs := by rw [hkv]; simp
      obtain ⟨rs, hrs, hrows, hrl⟩ := hS.vs kv hmem
      have hkey : kv.1 ∈ ps.map Sum.inr := by rw [← hS.ks]; exact List.mem_map.mpr ⟨kv, hmem, rfl⟩
      obtain ⟨z, hz, hz1⟩ := List.mem_map.mp hkey
      obtain ⟨key, v⟩ := kv
      simp only at hrs hz1
      subst hrs
      subst hz1
      have hnd : (kvs.map (·.1)).Nodup := by
        rw [hS.ks]
        show List.Pairwise _ _
        rw [List.pairwise_map]
        exact List.Pairwise.imp (fun {a b} h e => h (Sum.inr.inj e)) hS.nd
      have hnew : (Sum.inr z : Key) ∉ z1.map (·.1) := fun q => by
        rw [hkv, List.map_append, List.nodup_append] at hnd
        exact hnd.2.2 _ q _ (by simp) rfl
      have hE : FinE ps nms (.inr z, .tup rs) := ⟨z, rs, rfl, hz, hrows, hrl⟩
      have hE2 : FinE ps nms (.inr z, .tup (rs.tail ++ [.tup [.str "note", .str z]])) := ⟨z, _, rfl, hz, fun r hr => by
        rcases List.mem_append.mp hr with hr | hr
        · exact hrows r (List.mem_of_mem_tail hr)
        · rw [List.mem_singleton.mp hr]
          exact rw_note hz, by simp; omega⟩
      refine ⟨[some (.ref p), some (.ref k), some (.ref s1.length), some (.str z), some (.tup rs), e5, none], rfl, ?_⟩
      have hz1l : z1.length ≤ 8 := by
        have h1 := congrArg List.length hS.ks
        have h2 := congrArg List.length hkv
        have := hS.p8
        simp at h1 h2
        omega
      have npL : s1.length ≠ p := by omega
      simp [hF.l]
      refine (draw_n (n := fs.length) p2 hl0 (small250 (by omega))).no ?_
      rintro _ s2 ⟨i, rfl, hi, c3, p3, l3⟩
      have hF2 : FsAt s2 s1.length fs := ⟨c3.keep hF.l (by simpa using npL), fun j f hf => c3.keep (hF.d j f hf) (by simp; have := hge f (List.mem_of_getElem? hf); omega), hF.nd⟩
      obtain ⟨f, hf⟩ : ∃ f, fs[i]? = some f := ⟨_, List.getElem?_eq_getElem hi⟩
      have hfl := (hD.ok f (List.mem_of_getElem? hf)).1
      have hfg := hge f (List.mem_of_getElem? hf)
      obtain ⟨xf, hxf, _, hxf2⟩ := ix_list (k := i) hF2.l (by simpa using hi)
      have hxf3 : xf = .ref f.1 := by
        rw [List.getElem?_map, hf] at hxf2
        exact (Option.some.inj hxf2).symm
      subst hxf3
      have hput := hF2.put (v := .tup rs) hf (hD.none hnew f (List.mem_of_getElem? hf)) (by omega)
      have hF3 := hF2.add (k := .inr z) (v := .tup rs) hf
      have c4 : Ch [p, k] s (s2.set f.1 (.dct (f.2 ++ [(.inr z, .tup rs)]))) := (c2.trans (c3.more (by simp))).over (Ch.set (T := [f.1]) List.mem_cons_self) (fun q hq => .inr (by rw [List.mem_singleton.mp hq]; exact hfg))
      have p4 : PotAt (s2.set f.1 (.dct (f.2 ++ [(.inr z, .tup rs)]))) p := p3.set (by omega)
      simp only [asgS_nm, seq_nx, kAsg_app]
      rw [wp_seq, wp_put]
      simp [-DL.oIx_def, -DL.setD_def, hxf, hput]
      generalize s2.set f.1 (.dct (f.2 ++ [(.inr z, .tup rs)])) = s3 at hF3 c4 p4 ⊢
      have hge3 : ∀ g ∈ addF fs i (.inr z) (.tup rs), s.length ≤ g.1 := fun g hg => by
        have h1 : g.1 ∈ (addF fs i (.inr z) (.tup rs)).map (·.1) := List.mem_map.mpr ⟨g, hg, rfl⟩
        rw [addF_fst] at h1
        obtain ⟨g', hg', e⟩ := List.mem_map.mp h1
        rw [← e]
        exact hge g' hg'
      have hl3' : (addF fs i (.inr z) (.tup rs)).length = fs.length := by
        have := congrArg List.length (addF_fst (fs := fs) (i := i) (k := .inr z) (v := .tup rs))
        simpa using this
      have D3 := hD.step hnew hf hE
      have fin1 : ∀ s4, FsAt s4 s1.length (addF fs i (.inr z) (.tup rs)) → Ch [p, k] s s4 → PotAt s4 p → DI ps nms kvs p k s1.length s (z2.map fun kv => .tup [dK kv.1, kv.2]) [some (.ref p), some (.ref k), some (.ref s1.length), some (.str z), some (.tup rs), some (.int (i : Nat)), none] s4 := fun s4 hF4 c5 p5 => ⟨z1 ++ [(.inr z, .tup rs)], z2, _, _, _, _, by rw [hkv]; simp, rfl, rfl, hF4, D3, c5, p5, hge3, hL, by omega, by omega⟩
      simp [hF3.l, hl3']
      by_cases hlt : i + 1 < fs.length
      · have hlt' : (i : Int) + 1 < (fs.length : Int) := by omega
        simp [hlt']
        refine (draw_i p4 (by decide) (by decide +kernel)).no ?_
        rintro _ s4 ⟨b, rfl, hb, c5, p5, _⟩
        have hF4 : FsAt s4 s1.length (addF fs i (.inr z) (.tup rs)) := ⟨c5.keep hF3.l (by simpa using npL), fun j g hg => c5.keep (hF3.d j g hg) (by simp; have := hge3 g (List.mem_of_getElem? hg); omega), hF3.nd⟩
        have c6 : Ch [p, k] s s4 := c4.trans (c5.more (by simp))
        simp
        by_cases hb0 : b = 0
        · simp [hb0]
          obtain ⟨g, hg⟩ : ∃ g, (addF fs i (.inr z) (.tup rs))[fs.length - 1]? = some g := ⟨_, List.getElem?_eq_getElem (by omega)⟩
          have hg0 : fs[fs.length - 1]? = some g := by
            rcases addF_get hf hg with ⟨q, _⟩ | ⟨_, hg⟩
            · omega
            · exact hg
          have hgl := (hD.ok g (List.mem_of_getElem? hg0)).1
          have hgg := hge g (List.mem_of_getElem? hg0)
          have osl : oSl (.tup rs) (some 1) none s4 = some (.tup (rs.tail), s4) := by
            show some (D.tup (DL.cutD rs (some 1) none), s4) = _
            rw [cut_drop]
          have ixl : oIx (.ref s1.length) (.int (-1)) s4 = some (.ref g.1, s4) := by
            have : atI ((addF fs i (.inr z) (.tup rs)).map fun f => D.ref f.1) (-1) = some (.ref g.1) := by
              unfold atI
              rw [ixN_last (by rw [List.length_map, hl3']; omega)]
              simp only [List.length_map, hl3', Option.bind_some, List.getElem?_map, hg]
              rfl
            simp [hF4.l, this]
          have hput2 := hF4.put (v := .tup (rs.tail ++ [.tup [.str "note", .str z]])) hg (hD.none hnew g (List.mem_of_getElem? hg0)) (by omega)
          simp [-DL.oIx_def, -DL.setD_def, osl, oAdd_tup (by simp; omega : (rs.tail).length + [D.tup [.str "note", .str z]].length ≤ 1000000)]
          have ixl' := ixl
          simp [-DL.oIx_def, -DL.setD_def, ixl, hput2]
          refine ⟨z1 ++ [(.inr z, .tup rs)], z2, _, _, _, _, by rw [hkv]; simp, rfl, rfl, hF4.add hg, hD.more hnew hf hE hg (by omega) hE2, c6.over (Ch.set (T := [g.1]) List.mem_cons_self) (fun q hq => .inr (by rw [List.mem_singleton.mp hq]; exact hgg)), p5.set (by omega), ?_, hL, ?_, ?_⟩
          · intro g' hg'
            have h1 : g'.1 ∈ (addF (addF fs i (.inr z) (.tup rs)) (fs.length - 1) (.inr z) (.tup (rs.tail ++ [.tup [.str "note", .str z]]))).map (·.1) := List.mem_map.mpr ⟨g', hg', rfl⟩
            rw [addF_fst] at h1
            obtain ⟨g2, hg2, e⟩ := List.mem_map.mp h1
            rw [← e]
            exact hge3 g2 hg2
          · have := congrArg List.length (addF_fst (fs := addF fs i (.inr z) (.tup rs)) (i := fs.length - 1) (k := .inr z) (v := .tup (rs.tail ++ [.tup [.str "note", .str z]])))
            simp at this
            omega
          · have := congrArg List.length (addF_fst (fs := addF fs i (.inr z) (.tup rs)) (i := fs.length - 1) (k := .inr z) (v := .tup (rs.tail ++ [.tup [.str "note", .str z]])))
            simp at this
            omega
        · simp [hb0]
          exact fin1 s4 hF4 c6 p5
      · have hlt' : ¬(i : Int) + 1 < (fs.length : Int) := by omega
        simp [hlt']
        exact fin1 s3 hF3 c4 p4
  · rintro env s' ⟨z1, z2, fs, e3, e4, e5, hkv, hrest, rfl, hF, hD, c2, p2, hge, hL, hl3, hl0⟩
    have : z2 = [] := by
      cases z2 with
      | nil => rfl
      | cons _ _ => cases hrest
    subst this
    rw [List.append_nil] at hkv
    subst hkv
    simp
    have nkL : k ≠ s1.length := by omega
    refine ⟨s1.length, fs, rfl, ⟨by rw [at_set_ne nkL]; exact hF.l, fun j f hf => ?_, hF.nd⟩, hD, ?_, p2.set (Ne.symm hpk), hge, hL, hl3, hl0⟩
    · have := hge f (List.mem_of_getElem? hf)
      rw [at_set_ne (by omega)]
      exact hF.d j f hf
    · refine ⟨by rw [List.length_set]; exact c2.len, fun q hq hn => ?_⟩
      by_cases e : q = k
      · subst e
        rw [at_set_self (Nat.lt_of_lt_of_le hkl c2.len)]
        exact hk.symm
      · rw [at_set_ne (Ne.symm e)]
        exact c2.at_ q hq (by simp at hn ⊢; exact ⟨hn, e⟩)
end
end G31
set_option maxHeartbeats 4000000
/-! k31: the law's own house takes paths -/
namespace G31
open PySem PySem.Spec PyProof.Rows L2 HM DL S0 S1 S2 S3 S4
section
variable {s s' : Sto} {ro ro' : Ro} {c d k : Nat} {o : OG} {stk : List (Key × D)} {A : AS} {ln : Ln} {X : Ex → Sto → Prop} {ps : List Str} {bd : Str → List D}
def OTk (bd : Str → List D) (n c : Nat) (s : Sto) (ro : Ro) (o : OG) (stk : List (Key × D)) (A : AS) (ln : Ln) (p : Str) : D → Sto → Prop := fun d s' => ∃ ro' ds', OAt s' ro' c { o with ds := ds' } stk (takeA bd n A ln p).1 ln ∧ o.ds <+: ds' ∧ Fr c 0 s ro s' ro' ∧ d = .int (((takeA bd n A ln p).2 : Nat) + 1 : Int)
def ORw (bd : Str → List D) (n c : Nat) (s : Sto) (ro : Ro) (o : OG) (stk : List (Key × D)) (A : AS) (ln : Ln) (i r : Nat) (x : D) : D → Sto → Prop := fun d s' => ∃ ro' ds', OAt s' ro' c { o with ds := ds' } stk (rowA (takeA bd n) i ln r x A) (ln ++ [(i, r)]) ∧ o.ds <+: ds' ∧ Fr c 0 s ro s' ro'
def OSim (ps : List Str) (bd : Str → List D) (stk : List (Key × D)) (c n K : Nat) : Prop := ∀ (s : Sto) (ro : Ro) (o : OG) (A : AS) (ln : Ln) (p : Str) (X : Ex → Sto → Prop), ln.length + n ≤ 900 → OAt s ro c o stk A ln → Good ps A → ps.length ≤ A.ms.length + n → p ∈ ps → phi ps A < 50000 → Sml A → (f__law_taken K [.ref o.w, .str p] s).wp (OTk bd n c s ro o stk A ln p) X
theorem FrO.set {p k : Nat} {u : O} (h : ro p = (c, k)) : Fr c 0 s ro (s.set p u) ro := Fr.set h (by omega)
theorem oSorted_keys {t : Nat} {kvs : List (Key × D)} {ks : List Str} (e : at_ s t = some (.dct kvs)) (hk : kvs.map (·.1) = ks.map Sum.inr) (hl : ks.length < 64) : oSorted [.ref t] s = some (.ref s.length, s ++ [.lst ((srt ks).map D.str)]) := sorted_ok e hk hl
theorem done_ok {n K i r : Nat} {x : D} (hbd : ∀ q ∈ ps, (∀ r ∈ bd q, RowOk ps r) ∧ (bd q).length ≤ 40) (hS : OSim ps bd stk c n K) (H : OAt s ro c o stk A (ln ++ [(i, r)])) (hg : Good ps A) (hn : ps.length ≤ A.ms.length + n) (hx : RowOk ps x) (hp : phi ps A < 50000) (hsm : Sml A) (hlb : ln.length + 1 + n ≤ 900) :
    (f__law_done (K + 1) [.ref o.w, .int ((i : Nat) + 1 : Int), x] s).wp (ORw bd n c s ro o stk A ln i r x) X := by
  have hi : i < A.ms.length := H.hln (i, r) (by simp)
  obtain ⟨ai, hai⟩ : ∃ b, o.ds[i]? = some b := ⟨_, List.getElem?_eq_getElem (by rw [H.len]; exact hi)⟩
  have hmi := List.getElem?_eq_getElem hi
  have hki := hsm i _ hmi
  have n0 : ¬(Str.ofString "set" = Str.ofString "take") := by decide +kernel
  have n1 : ¬(Str.ofString "take" = Str.ofString "note") := by decide +kernel
  have n2 : ¬(Str.ofString "set" = Str.ofString "note") := by decide +kernel
  have n3 : ¬(Str.ofString "note" = Str.ofString "take") := by decide +kernel
  have nv : ∀ {ds : List Nat} {j a : Nat}, ds[j]? = some a → valD (nmF 0 ds) (.inl (((j : Nat) : Int) + 1)) = some (.ref a) := fun {ds j a} h => by
    have := nm_val (ds := ds) (k := 0) (i := j)
    rw [Nat.zero_add] at this
    rw [this, h]
    rfl
  show (runFn 3 4 (d__law_done (f__law_taken K)) [.ref o.w, .int ((i : Nat) + 1 : Int), x] s).wp _ _
  unfold d__law_done
  -- a name is bound
  have fin : ∀ (s1 : Sto) (ro1 : Ro) (ds1 : List Nat) (A1 : AS) (z : Str) (Q : D → Sto → Prop), OAt s1 ro1 c { o with ds := ds1 } stk A1 (ln ++ [(i, r)]) → (∃ m, A1.ms[i]? = some m ∧ m.2.length ≤ 40) → (∀ s', OAt s' ro1 c { o with ds := ds1 } stk (bindA A1 i z) (ln ++ [(i, r)]) → Fr c 0 s1 ro1 s' ro1 → Q .non s') →
      ∃ a kvs, valD (nmF 0 ds1) (.inl (((i : Nat) : Int) + 1)) = some (.ref a) ∧ at_ s1 a = some (.dct kvs) ∧ kvs.length < 1000000 ∧ Q .non (s1.set a (.dct (putD kvs (.inr z) (.bl true)))) := by
    intro s1 ro1 ds1 A1 z Q H1 ⟨m, hm, hm40⟩ hQ
    have hi1 := (List.getElem?_eq_some_iff.mp hm).1
    have hl1 : ds1.length = A1.ms.length := H1.len
    obtain ⟨a, ha⟩ : ∃ b, ds1[i]? = some b := ⟨_, List.getElem?_eq_getElem (by omega)⟩
    have q := H1.ds i a m ha hm
    obtain ⟨kvs, e, hkv⟩ := q.d
    have hl : kvs.length = m.2.length := by
      have := congrArg List.length hkv
      simpa using this
    refine ⟨a, kvs, nv ha, e, by omega, hQ _ ?_ (FrO.set q.r)⟩
    unfold bindA
    rw [hm]
    exact H1.bind ha hm (at_set_self (at_lt e)) (put_keys hkv) (ag_set q.r)
  cases hx with
  | set z v =>
    simp [n0, n2]
    obtain ⟨a, kvs, h1, h2, h3, h4⟩ := fin s ro o.ds A z (fun _ s' => ORw bd n c s ro o stk A ln i r (.tup [.str "set", .str z, .int v]) .non s') H ⟨_, hmi, hki⟩ fun s' h1 h2 => ⟨ro, o.ds, h1, List.prefix_refl _, h2⟩
    simp [H.w, H.nm, h1, h2, setK_dct h2 (y := .str z) rfl h3]
    exact h4
  | take z p hpp =>
    simp [n1]
    refine (hS s ro o A (ln ++ [(i, r)]) p _ (by simp; omega) H hg hn hpp hp hsm).mono ?_
    rintro _ s1 ⟨ro1, ds1, H1, pre1, F1, rfl⟩
    simp [n1]
    obtain ⟨t, _⟩ := take_stp hbd n (A := A) (ln := ln ++ [(i, r)]) (p := p) (i := A.ms.length) hg hn hpp (Nat.le_refl _)
    have e2 := t.gr.old i _ (by omega) hmi
    obtain ⟨a, kvs, h1, h2, h3, h4⟩ := fin s1 ro1 ds1 _ z (fun _ s' => ORw bd n c s ro o stk A ln i r (.tup [.str "take", .str z, .str p]) .non s') H1 ⟨_, e2, hki⟩ fun s' h1 h2 => ⟨ro1, ds1, h1, pre1, F1.trans h2⟩
    have w1 : at_ s1 o.w = some (.dct (ownK o)) := H1.w
    have m1 : at_ s1 o.nm = some (.dct (nmF 0 ds1)) := H1.nm
    simp [w1, m1, h1, h2, setK_dct h2 (y := .str z) rfl h3]
    exact h4
  | note p =>
    simp [n3]
    have hlog := phi_log hp
    have end_ : ∀ s1 : Sto, s <+: s1 → ORw bd n c s ro o stk A ln i r (.tup [.str "note", .str p]) .non (s1.set o.lg (.lst (A.log ++ [.tup [.str "note", .int ((i : Nat) + 1 : Int), namesD A.ms p]]))) := fun s1 pre => by
      have H1 := H.pre pre
      exact ⟨ro, o.ds, H1.log (at_set_self (at_lt H1.lg)) (ag_set H1.rlg), List.prefix_refl _, (Fr.pre pre).trans (FrO.set H1.rlg)⟩
    have tv := tab_val (ms := A.ms) (k := 0) (p := p)
    cases hf : fnd A.ms p with
    | none =>
      rw [hf] at tv
      have hnD : namesD A.ms p = .non := by simp [namesD, hf]
      have := end_ s (List.prefix_refl _)
      rw [hnD] at this
      simp [H.w, H.tb, tv, H.lg, oAppend_ok H.lg (by omega : A.log.length < 1000000)]
      exact this
    | some j =>
      rw [hf] at tv
      obtain ⟨m, hm, _⟩ := fnd_some hf
      have hj := (List.getElem?_eq_some_iff.mp hm).1
      obtain ⟨aj, haj⟩ : ∃ b, o.ds[j]? = some b := ⟨_, List.getElem?_eq_getElem (by rw [H.len]; exact hj)⟩
      obtain ⟨kvs, e, hkv⟩ := (H.ds j aj m haj hm).d
      have hnD : namesD A.ms p = .tup ((srt m.2).map D.str) := by simp [namesD, hf, hm]
      have hk40 := hsm j m hm
      have := end_ (s ++ [.lst ((srt m.2).map D.str)]) (pre_app _ _)
      rw [hnD] at this
      have nvj := nv haj
      have tv' : valD (tabF 0 A.ms) (.inr p) = some (.int (((j : Nat) : Int) + 1)) := by
        rw [tv]
        simp
      simp [H.w, H.tb, tv', H.nm, nvj, sorted_ok e hkv (by omega), oTuple_l (at_app_len (s := s) (t := []))]
      have H1 := H.pre (pre_app s [.lst ((srt m.2).map D.str)])
      simp [H1.w, H1.lg, oAppend_ok H1.lg (by omega : A.log.length < 1000000)]
      exact this
end
end G31
set_option maxHeartbeats 4000000
/-! k31: the law's own house takes paths -/
namespace G31
open PySem PySem.Spec PyProof.Rows L2 HM DL S0 S1 S2 S3 S4
section
variable {s s' : Sto} {ro ro' : Ro} {c d k : Nat} {o : OG} {stk : List (Key × D)} {A : AS} {ln : Ln} {X : Ex → Sto → Prop} {ps : List Str} {bd : Str → List D}
theorem nm_keys : ∀ {ds : List Nat} {k : Nat} {x : Key}, x ∈ (nmF k ds).map (·.1) → ∃ j, j < ds.length ∧ x = .inl (((k + j : Nat) : Int) + 1)
  | [], _, _, h => by cases h
  | a :: ds, k, x, h => by
    simp only [nmF, List.map_cons, List.mem_cons] at h
    rcases h with rfl | h
    · exact ⟨0, by simp, by simp⟩
    · obtain ⟨j, hj, rfl⟩ := nm_keys h
      exact ⟨j + 1, by simp; omega, by congr 2; omega⟩
theorem ln_pys : ∀ ln : Ln, ∃ ds, Pys s (lnD ln) ds ∧ PyData.canLayAll0 ds = true ∧ PyData.depthAll ds ≤ 1
  | [] => ⟨[], .nil, rfl, by simp [PyData.depthAll]⟩
  | q :: ln => by
    obtain ⟨ds, h1, h2, h3⟩ := ln_pys ln
    refine ⟨.tuple [.int ((q.1 : Nat) + 1 : Int), .int (q.2 : Nat)] :: ds, .cons (.tup (.cons (.int _) (.cons (.int _) .nil))) h1, ?_, ?_⟩
    · simp [PyData.canLayAll0, PyData.canLay0, h2]
    · simp [PyData.depthAll, PyData.depth, h3]
theorem ln_ne {i j : Nat} {ln : Ln} (h : at_ s i = some (.lst (lnD ln))) (hj : at_ s j = some (.lst [])) : oNe (.ref i) (.ref j) s = some (.bl (!(lnD ln).isEmpty), s) := by
  unfold oNe
  rw [eqD_list h ?_ hj]
  · rfl
  · obtain ⟨ds, h1, h2, h3⟩ := ln_pys (s := s) ln
    refine ⟨ds, h1, ?_⟩
    simp [SeqAt.shaped, PyData.canLay0, h2, PyData.depth]
    omega
theorem lnD_snoc {l : Ln} {i r : Nat} : lnD (l ++ [(i, r)]) = lnD l ++ [.tup [.int ((i : Nat) + 1 : Int), .int (r : Nat)]] := by simp [lnD]
theorem pop_ok {i : Nat} {x : D} {xs : List D} (h : at_ s i = some (.lst (xs ++ [x]))) : oPop (.ref i) [] s = some (x, s.set i (.lst xs)) := by
  have h' : s[i]? = some (.lst (xs ++ [x])) := h
  simp [oPop, wrL, h']
theorem by_ok {w li : Nat} {kvs : List (Key × D)} {e : List (Option D)} {Q : D → Sto → Prop} (hw : at_ s w = some (.dct kvs)) (hv : valD kvs (.inr (Str.ofString "line")) = some (.ref li)) (hl : at_ s li = some (.lst (lnD ln))) (hQ : Q (.tup [(byD ln).1, (byD ln).2]) s) :
    (BrE (!(lnD ln).isEmpty) (e2 oIx (e2 oIx (eVar 0) (eC (D.str (Str.ofString "line")))) (e1 oNeg (eC (D.int 1)))) (eN oTup (aCons (eC D.non) (aCons (eC D.non) aNil))) (some (.ref w) :: e) s).wp Q X := by
  rcases List.eq_nil_or_concat ln with rfl | ⟨l, x, rfl⟩
  · simp [lnD]
    exact hQ
  · obtain ⟨j, r⟩ := x
    rw [List.concat_eq_append] at hl hQ ⊢
    rw [lnD_snoc] at hl ⊢
    have hby : byD (l ++ [(j, r)]) = (.int ((j : Nat) + 1 : Int), .int (r : Nat)) := by simp [byD]
    rw [hby] at hQ
    simp [hw, hv, hl]
    exact hQ
theorem olaw_ok (hbd : ∀ q ∈ ps, (∀ r ∈ bd q, RowOk ps r) ∧ (bd q).length ≤ 40) (hps : ps.length ≤ 100) (hstk : ∀ q ∈ ps, valD stk (.inr q) = some (.tup (bd q))) : ∀ (n K : Nat), 2 * n + 1 ≤ K → OSim ps bd stk c n K := by
  intro n
  induction n with
  | zero =>
    intro K hK s ro o A ln p X hlb H hg hn hpp hp hsm
    obtain ⟨K', rfl⟩ : ∃ K', K = K' + 1 := ⟨K - 1, by omega⟩
    rw [f__law_taken_succ]
    unfold d__law_taken
    have hlog := phi_log hp
    have tv := tab_val (ms := A.ms) (k := 0) (p := p)
    cases hf : fnd A.ms p with
    | none => have := hg.more hpp hf; omega
    | some j =>
      rw [hf] at tv
      have tv' : valD (tabF 0 A.ms) (.inr p) = some (.int (((j : Nat) : Int) + 1)) := by
        rw [tv]
        simp
      have nl : o.lg ≠ o.w := ne_ro H.rlg H.rw (by simp)
      have nt : o.lg ≠ o.tb := ne_ro H.rlg H.rtb (by simp)
      simp [H.w, H.tb, tv', H.lg, oAppend_ok H.lg (by omega : A.log.length < 1000000), nl, nt]
      unfold OTk
      rw [takeA_have hf]
      exact ⟨ro, o.ds, H.log (at_set_self (at_lt H.lg)) (ag_set H.rlg), List.prefix_refl _, FrO.set H.rlg, rfl⟩
  | succ n ih =>
    intro K hK s ro o A ln p X hlb H hg hn hpp hp hsm
    obtain ⟨K', rfl⟩ : ∃ K', K = K' + 2 := ⟨K - 2, by omega⟩
    rw [f__law_taken_succ]
    unfold d__law_taken
    have hlog := phi_log hp
    have tv := tab_val (ms := A.ms) (k := 0) (p := p)
    cases hf : fnd A.ms p with
    | some j =>
      rw [hf] at tv
      have tv' : valD (tabF 0 A.ms) (.inr p) = some (.int (((j : Nat) : Int) + 1)) := by
        rw [tv]
        simp
      have nl : o.lg ≠ o.w := ne_ro H.rlg H.rw (by simp)
      have nt : o.lg ≠ o.tb := ne_ro H.rlg H.rtb (by simp)
      simp [H.w, H.tb, tv', H.lg, oAppend_ok H.lg (by omega : A.log.length < 1000000), nl, nt]
      unfold OTk
      rw [takeA_have hf]
      exact ⟨ro, o.ds, H.log (at_set_self (at_lt H.lg)) (ag_set H.rlg), List.prefix_refl _, FrO.set H.rlg, rfl⟩
    | none =>
      rw [hf] at tv
      have hmore := hg.more hpp hf
      have hnl : (nmF 0 o.ds).length = A.ms.length := by rw [nm_len]; exact H.len
      have hfew := hg.few
      have en : at_ (s ++ [.dct []]) o.nm = some (.dct (nmF 0 o.ds)) := by rw [at_app_l (at_lt H.nm)]; exact H.nm
      have ew : at_ (s ++ [.dct []]) o.w = some (.dct (ownK o)) := by rw [at_app_l (at_lt H.w)]; exact H.w
      have pn : putD (nmF 0 o.ds) (.inl (((A.ms.length : Nat) : Int) + 1)) (.ref s.length) = nmF 0 (o.ds ++ [s.length]) := by
        rw [nm_snoc, put_new]
        · rw [H.len]
          simp
        · intro z
          obtain ⟨j, hj, e⟩ := nm_keys z
          have e := Sum.inl.inj e
          have := H.len
          omega
      have pt : putD (tabF 0 A.ms) (.inr p) (.int (((A.ms.length : Nat) : Int) + 1)) = tabF 0 (A.ms ++ [(p, [])]) := by
        rw [tab_snoc, put_new]
        · simp
        · rw [tab_keys]
          intro z
          obtain ⟨m, hm, e⟩ := List.mem_map.mp z
          exact fnd_none hf (List.mem_map.mpr ⟨m, hm, Sum.inr.inj e⟩)
      simp [H.w, H.tb, tv, H.nm, hnl]
      simp [ew, en, setK_dct en (y := .int (((A.ms.length : Nat) : Int) + 1)) rfl (by omega : (nmF 0 o.ds).length < 1000000), pn]
      have nnw : o.nm ≠ o.w := ne_ro H.rnm H.rw (by simp)
      have nnt : o.nm ≠ o.tb := ne_ro H.rnm H.rtb (by simp)
      have ntw : o.tb ≠ o.w := ne_ro H.rtb H.rw (by simp)
      obtain ⟨s1, hs1⟩ : ∃ s1, (s ++ [O.dct []]).set o.nm (.dct (nmF 0 (o.ds ++ [s.length]))) = s1 := ⟨_, rfl⟩
      have l1 : s1.length = s.length + 1 := by rw [← hs1]; simp
      have lnm := at_lt H.nm
      have ltb := at_lt H.tb
      have w1 : at_ s1 o.w = some (.dct (ownK o)) := by rw [← hs1, at_set_ne nnw]; exact ew
      have t1 : at_ s1 o.tb = some (.dct (tabF 0 A.ms)) := by rw [← hs1, at_set_ne nnt, at_app_l ltb]; exact H.tb
      rw [hs1]
      have htl : (tabF 0 A.ms).length < 1000000 := by rw [tab_len]; omega
      simp [w1, t1, setK_dct t1 (y := .str p) rfl htl, pt]
      obtain ⟨s2, hs2⟩ : ∃ s2, s1.set o.tb (.dct (tabF 0 (A.ms ++ [(p, [])]))) = s2 := ⟨_, rfl⟩
      have H2 : OAt s2 (roDs ro c A.ms.length s.length) c { o with ds := o.ds ++ [s.length] } stk { A with ms := A.ms ++ [(p, [])] } ln := by
        refine H.new (Nat.le_refl _) ?_ ?_ ?_ (fun q hq h1 h2 => ?_) (by omega)
        · rw [← hs2, at_set_ne (by omega), ← hs1, at_set_ne (by omega)]
          exact at_app_len
        · rw [← hs2]
          exact at_set_self (by omega)
        · rw [← hs2, at_set_ne (Ne.symm nnt), ← hs1]
          exact at_set_self (by simp; omega)
        · have n1 : o.tb ≠ q := fun z => h1 (by rw [← z]; exact H.rtb)
          have n2 : o.nm ≠ q := fun z => h2 (by rw [← z]; exact H.rnm)
          rw [← hs2, at_set_ne n1, ← hs1, at_set_ne n2]
          exact at_app_l hq
      have F2 : Fr c 0 s ro s2 (roDs ro c A.ms.length s.length) := by
        refine ⟨by rw [← hs2]; simp; omega, fun q hq => ?_, fun q hq hT => ?_⟩
        · unfold roDs
          rw [if_neg (by omega)]
        · have n1 : o.tb ≠ q := fun z => hT (by rw [← z, H.rtb]; exact ⟨rfl, .inl (by omega)⟩)
          have n2 : o.nm ≠ q := fun z => hT (by rw [← z, H.rnm]; exact ⟨rfl, .inl (by omega)⟩)
          rw [← hs2, at_set_ne n1, ← hs1, at_set_ne n2]
          exact at_app_l hq
      rw [hs2]
      generalize roDs ro c A.ms.length s.length = ro2 at H2 F2
      have o2w : at_ s2 o.w = some (.dct (ownK o)) := H2.w
      have lg2 : at_ s2 o.lg = some (.lst A.log) := H2.lg
      simp [o2w, lg2, oAppend_ok lg2 (by omega : A.log.length < 1000000)]
      have H3 := H2.log (l := A.log ++ [.tup [.str "begin", .int ((A.ms.length : Nat) + 1 : Int), .str p]]) (at_set_self (at_lt lg2)) (ag_set H2.rlg)
      have F3 : Fr c 0 s ro (s2.set o.lg (.lst (A.log ++ [.tup [.str "begin", .int ((A.ms.length : Nat) + 1 : Int), .str p]]))) ro2 := F2.trans (FrO.set H2.rlg)
      obtain ⟨s3, hs3⟩ : ∃ s3, s2.set o.lg (.lst (A.log ++ [.tup [.str "begin", .int ((A.ms.length : Nat) + 1 : Int), .str p]])) = s3 := ⟨_, rfl⟩
      have hs3' : s2.set ({ o with ds := o.ds ++ [s.length] } : OG).lg (.lst (A.log ++ [.tup [.str "begin", .int ((A.ms.length : Nat) + 1 : Int), .str p]])) = s3 := hs3
      rw [hs3'] at H3
      rw [hs3] at F3
      rw [hs3]
      have o3w : at_ s3 o.w = some (.dct (ownK o)) := H3.w
      have li3 : at_ s3 o.li = some (.lst (lnD ln)) := H3.li
      have e4w : at_ (s3 ++ [.lst []]) o.w = some (.dct (ownK o)) := by rw [at_app_l (at_lt o3w)]; exact o3w
      have e4l : at_ (s3 ++ [.lst []]) o.li = some (.lst (lnD ln)) := by rw [at_app_l (at_lt li3)]; exact li3
      simp [o3w, ln_ne e4l at_app_len]
      have H4 := H3.pre (pre_app s3 [.lst []])
      have F4 := F3.trans (Fr.pre (pre_app s3 [.lst []]))
      refine by_ok e4w rfl e4l ?_
      simp
      have o4w : at_ (s3 ++ [.lst []]) o.w = some (.dct (ownK o)) := e4w
      have pa4 : at_ (s3 ++ [.lst []]) o.pa = some (.lst A.pap) := H4.pa
      have hpap := hg.pp
      simp [o4w, pa4, oAppend_ok pa4 (by omega : A.pap.length < 1000000)]
      have H5 := H4.paper (l := A.pap ++ [.tup [.int ((A.ms.length : Nat) + 1 : Int), (byD ln).1, (byD ln).2]]) (at_set_self (at_lt pa4)) (ag_set H4.rpa)
      have F5 : Fr c 0 s ro ((s3 ++ [O.lst []]).set o.pa (.lst (A.pap ++ [.tup [.int ((A.ms.length : Nat) + 1 : Int), (byD ln).1, (byD ln).2]]))) ro2 := F4.trans (FrO.set H4.rpa)
      obtain ⟨s5, hs5⟩ : ∃ s5, (s3 ++ [O.lst []]).set o.pa (.lst (A.pap ++ [.tup [.int ((A.ms.length : Nat) + 1 : Int), (byD ln).1, (byD ln).2]])) = s5 := ⟨_, rfl⟩
      have H5 : OAt s5 ro2 c { o with ds := o.ds ++ [s.length] } stk (beginA A p ln) ln := by
        rw [← hs5]
        exact H5
      rw [hs5] at F5
      rw [hs5]
      have o5w : at_ s5 o.w = some (.dct (ownK o)) := H5.w
      have li5 : at_ s5 o.li = some (.lst (lnD ln)) := H5.li
      have sk5 : at_ s5 o.sk = some (.dct stk) := H5.sk
      have lnl : (lnD ln).length < 1000000 := by simp [lnD]; omega
      simp [o5w, li5, oAppend_ok li5 lnl]
      have bl : (beginA A p ln).ms.length = A.ms.length + 1 := by simp [beginA]
      have H6 : OAt (s5.set o.li (.lst (lnD ln ++ [.tup [.int ((A.ms.length : Nat) + 1 : Int), .int 0]]))) ro2 c { o with ds := o.ds ++ [s.length] } stk (beginA A p ln) (ln ++ [(A.ms.length, 0)]) := by
        refine H5.line ?_ (fun q hq => ?_) (ag_set H5.rli)
        · rw [lnD_snoc]
          exact at_set_self (at_lt li5)
        · rcases List.mem_append.mp hq with hq | hq
          · exact H5.hln q hq
          · rw [List.mem_singleton.mp hq]
            simp only
            omega
      have F6 : Fr c 0 s ro (s5.set o.li (.lst (lnD ln ++ [.tup [.int ((A.ms.length : Nat) + 1 : Int), .int 0]]))) ro2 := F5.trans (FrO.set H5.rli)
      generalize s5.set o.li (.lst (lnD ln ++ [.tup [.int ((A.ms.length : Nat) + 1 : Int), .int 0]])) = s6 at H6 F6
      have o6w : at_ s6 o.w = some (.dct (ownK o)) := H6.w
      have sk6 : at_ s6 o.sk = some (.dct stk) := H6.sk
      simp [o6w, sk6, hstk p hpp, enumD_eq]
      have hb := hbd p hpp
      have gB := hg.begin (ln := ln) hpp hf
      have phB : phi ps (beginA A p ln) + 41 ≤ phi ps A := by
        have : (beginA A p ln).log.length = A.log.length + 1 := by simp [beginA]
        simp only [phi, bl, this]
        omega
      have sB : Sml (beginA A p ln) := fun j m e => by
        rcases getElem?_snoc e with ⟨_, e⟩ | ⟨_, rfl⟩
        · exact hsm j m e
        · simp
      refine forL_inv (fun rest env s' => ∃ (r r0 : Nat) (xs : List D) (ro' : Ro) (ds' : List Nat) (B : AS) (z1 z2 : Option D), rest = enumF r xs ∧ env = [some (.ref o.w), some (.str p), some (.int ((A.ms.length : Nat) + 1 : Int)), some (byD ln).1, some (byD ln).2, z1, z2] ∧ OAt s' ro' c { o with ds := ds' } stk B (ln ++ [(A.ms.length, r0)]) ∧ o.ds <+: ds' ∧ Fr c 0 s ro s' ro' ∧
          rowsA (takeA bd n) A.ms.length ln r xs B = rowsA (takeA bd n) A.ms.length ln 0 (bd p) (beginA A p ln) ∧ (∀ x ∈ xs, RowOk ps x) ∧ Good ps B ∧ A.ms.length < B.ms.length ∧ phi ps B + 41 ≤ phi ps A + r ∧ r + xs.length = (bd p).length ∧ Sml B ∧ ∃ m, B.ms[A.ms.length]? = some m ∧ m.2.length ≤ r)
        ⟨0, 0, bd p, ro2, o.ds ++ [s.length], beginA A p ln, none, none, rfl, rfl, H6, List.prefix_append _ _, F6, rfl, hb.1, gB, by omega, by omega, by omega, sB, (p, []), by simp [beginA], by simp⟩ (fun _ _ _ _ => trivial) ?_ ?_
      · rintro x rest env s' ⟨r, r0, xs, ro', ds', B, z1, z2, e0, rfl, HB, pre, FB, eB, hxs, gdB, lB, phB', rl, sB', m, em, hm⟩
        cases xs with
        | nil => cases e0
        | cons x xs =>
          simp only [enumF, List.cons.injEq] at e0
          obtain ⟨rfl, rfl⟩ := e0
          refine ⟨[some (.ref o.w), some (.str p), some (.int ((A.ms.length : Nat) + 1 : Int)), some (byD ln).1, some (byD ln).2, some (.int (r : Nat)), some x], rfl, ?_⟩
          have rlt : r < 40 := by have := hb.2; rw [List.length_cons] at rl; omega
          have bw : at_ s' o.w = some (.dct (ownK o)) := HB.w
          have bli : at_ s' o.li = some (.lst (lnD ln ++ [.tup [.int ((A.ms.length : Nat) + 1 : Int), .int (r0 : Nat)]])) := by
            have := HB.li
            rw [lnD_snoc] at this
            exact this
          have ixl : ixN (lnD ln ++ [D.tup [.int ((A.ms.length : Nat) + 1 : Int), .int (r0 : Nat)]]).length (-1) = some (lnD ln).length := by
            rw [ixN_last (by simp)]
            simp
          simp [bw, bli]
          rw [show ((lnD ln).length + 1) = (lnD ln ++ [D.tup [.int ((A.ms.length : Nat) + 1 : Int), .int (r0 : Nat)]]).length by simp, ixl]
          simp
          have HC : OAt (s'.set o.li (.lst (lnD ln ++ [.tup [.int ((A.ms.length : Nat) + 1 : Int), .int (r : Nat)]]))) ro' c { o with ds := ds' } stk B (ln ++ [(A.ms.length, r)]) := by
            refine HB.line ?_ (fun q hq => ?_) (ag_set HB.rli)
            · rw [lnD_snoc]
              exact at_set_self (at_lt bli)
            · rcases List.mem_append.mp hq with hq | hq
              · exact HB.hln q (List.mem_append.mpr (.inl hq))
              · rw [List.mem_singleton.mp hq]
                exact lB
          have FC : Fr c 0 s' ro' (s'.set o.li (.lst (lnD ln ++ [.tup [.int ((A.ms.length : Nat) + 1 : Int), .int (r : Nat)]]))) ro' := FrO.set HB.rli
          refine (done_ok hbd (ih K' (by omega)) HC gdB (by omega) (hxs x List.mem_cons_self) (by omega) sB' (by omega)).no ?_
          rintro _ s'' ⟨ro'', ds'', HD, preD, FD⟩
          obtain ⟨o1, m1, em1, hm1⟩ := row_stp (ln := ln) hbd (n := n) gdB (hxs x List.mem_cons_self) lB (by omega) em hm
          have ol := o1.le
          have oph := o1.ph
          simp
          exact ⟨r + 1, r, xs, rfl, ro'', ds'', _, HD, pre.trans preD, (FB.trans FC).trans FD, eB, fun y hy => hxs y (List.mem_cons_of_mem _ hy), o1.gd, by omega, by omega, by rw [List.length_cons] at rl; omega, sB'.step o1 em1 (by omega), m1.1, m1.2, em1, hm1⟩
      · rintro env s' ⟨r, r0, xs, ro', ds', B, z1, z2, e0, rfl, HB, pre, FB, eB, hxs, gdB, lB, phB', rl, sB', m, em, hm⟩
        have hxs0 : xs = [] := by
          cases xs with
          | nil => rfl
          | cons _ _ => cases e0
        subst hxs0
        have eB' : B = rowsA (takeA bd n) A.ms.length ln 0 (bd p) (beginA A p ln) := eB
        have bw : at_ s' o.w = some (.dct (ownK o)) := HB.w
        have bli : at_ s' o.li = some (.lst (lnD ln ++ [.tup [.int ((A.ms.length : Nat) + 1 : Int), .int (r0 : Nat)]])) := by
          have := HB.li
          rw [lnD_snoc] at this
          exact this
        simp [bw, bli, pop_ok bli]
        have HP : OAt (s'.set o.li (.lst (lnD ln))) ro' c { o with ds := ds' } stk B ln := HB.line (at_set_self (at_lt bli)) (fun q hq => HB.hln q (List.mem_append.mpr (.inl hq))) (ag_set HB.rli)
        have FP : Fr c 0 s' ro' (s'.set o.li (.lst (lnD ln))) ro' := FrO.set HB.rli
        have pw : at_ (s'.set o.li (.lst (lnD ln))) o.w = some (.dct (ownK o)) := HP.w
        have plg : at_ (s'.set o.li (.lst (lnD ln))) o.lg = some (.lst B.log) := HP.lg
        have hbl : B.log.length < 1000000 := by
          have := hb.2
          simp only [phi] at phB' hp
          simp at rl
          omega
        simp [pw, plg, oAppend_ok plg hbl]
        unfold OTk
        rw [takeA_new hf, ← eB']
        exact ⟨ro', ds', HP.log (at_set_self (at_lt plg)) (ag_set HP.rlg), pre, (FB.trans FP).trans (FrO.set HP.rlg), rfl⟩
end
end G31
set_option maxHeartbeats 4000000
/-! k31: pots, own houses, what is right -/
namespace G31
open PySem PySem.Spec PyProof.Rows L2 HM DL S0 S1 S2 S3 S4 XM
section
variable {s s' : Sto} {ro ro' : Ro} {c c' : Nat} {g : HG} {o : OG} {A : AS} {X : Ex → Sto → Prop} {ps nms : List Str} {kvs stk : List (Key × D)}
/-- the script can be read -/
def SAt (s : Sto) (d : D) (ns : List Int) : Prop := (d = .ref 0 ∧ (at_ s 0 = some (.lst (ns.map D.int)) ∨ at_ s 0 = some (.frz (.lst (ns.map D.int))))) ∨ d = .klst (ns.map D.int)
theorem SAt.keep {d : D} {ns : List Int} (h : SAt s d ns) (hd : d = .ref 0 → at_ s' 0 = at_ s 0) : SAt s' d ns := by
  rcases h with ⟨rfl, h⟩ | h
  · exact .inl ⟨rfl, by rw [hd rfl]; exact h⟩
  · exact .inr h
theorem SAt.at {d : D} {ns : List Int} (h : SAt s d ns) (k : Nat) : (f__law_at [d, .int (k : Nat)] s).wp (fun v s' => v = .int (ns.getD k 0) ∧ s' = s) X := by
  unfold f__law_at d__law_at
  have hl : lenD s d = some ns.length := by
    rcases h with ⟨rfl, h | h⟩ | rfl
    · simp [h]
    · simp [h]
    · simp
  have hi : ∀ i, oIx d (.int i) s = (atI (ns.map D.int) i).map fun x => (x, s) := fun i => by
    rcases h with ⟨rfl, h | h⟩ | rfl
    · simp [h]
    · simp [h]
    · simp
  simp [-DL.oIx_def, hl]
  by_cases hk : k < ns.length
  · have ha : atI (ns.map D.int) (k : Int) = some (.int (ns.getD k 0)) := by
      rw [atI_lt (by omega) (by simpa using hk)]
      simp [List.getD, hk]
    have hk' : (k : Int) < (ns.length : Int) := by omega
    simp [-DL.oIx_def, hk, hi, ha]
  · simp [hk]
theorem pot_ok {d : D} {ns : List Int} (h : SAt s d ns) (k : Nat) (hk : k < 100) : (f__law_pot [d, .int (k : Nat)] s).wp (fun v s' => v = .ref s.length ∧ ∃ a b, s' = s ++ [.lst [.int a, .int b]] ∧ PotOk a b) X := by
  unfold f__law_pot d__law_pot
  simp
  refine (h.at k).no ?_
  rintro _ s1 ⟨rfl, hs1⟩
  rw [hs1]
  clear hs1
  obtain ⟨cc, hcc⟩ : ∃ cc, ns.getD k 0 = cc := ⟨_, rfl⟩
  rw [hcc]
  have e1 : oPow (.int 10) (.int 18) s = some (.int 1000000000000000000, s) := oPow_int (by decide) (by decide) (by decide)
  have e2 : oMod (.int cc) (.int 2147483629) s = some (.int (cc % 2147483629), s) := oMod_int (by decide)
  have l1 := log31 (b := (k : Int) + 1) (by omega) (by omega)
  have e3 : oMul (.int 40503) (.int ((k : Int) + 1)) s = some (.int (40503 * ((k : Int) + 1)), s) := oMul_int (by
    have : (40503 : Int).natAbs.log2 < 100 := by decide +kernel
    unfold CMulW
    omega)
  have hb1 : 0 ≤ cc % 2147483629 := Int.emod_nonneg _ (by decide)
  have hb2 : cc % 2147483629 < 2147483629 := Int.emod_lt_of_pos _ (by decide)
  have e4 : oPow (.int (cc % 2147483629 + 40503 * ((k : Int) + 1))) (.int 3) s = some (.int ((cc % 2147483629 + 40503 * ((k : Int) + 1)) ^ 3), s) := oPow_int (by decide) (by decide) (by omega)
  have e5 : ∀ x, oMod (.int x) (.int 2147483563) s = some (.int (x % 2147483563), s) := fun x => oMod_int (by decide)
  simp [e1, e2, e3, e4, e5]
  refine ⟨_, _, ⟨rfl, rfl⟩, ?_, ?_, ?_⟩
  · split <;> omega
  · have := Int.emod_nonneg ((cc % 2147483629 + 40503 * ((k : Int) + 1)) ^ 3) (by decide : (2147483563 : Int) ≠ 0)
    omega
  · have := Int.emod_lt_of_pos ((cc % 2147483629 + 40503 * ((k : Int) + 1)) ^ 3) (by decide : (0 : Int) < 2147483563)
    omega
theorem pre_set {n : Nat} {u : O} (h : s <+: s') (hn : s.length ≤ n) : s <+: s'.set n u := by
  obtain ⟨r, rfl⟩ := h
  rw [List.set_append_right _ _ hn]
  exact List.prefix_append _ _
theorem rev_ok {i : Nat} {xs : List D} (h : at_ s i = some (.lst xs)) : oReverse (.ref i) [] s = some (.non, s.set i (.lst xs.reverse)) := by
  have h' : s[i]? = some (.lst xs) := h
  simp [oReverse, wrL, h']
theorem clear_ok {i : Nat} {xs : List D} (h : at_ s i = some (.lst xs)) : oClear (.ref i) [] s = some (.non, s.set i (.lst [])) := by
  have h' : s[i]? = some (.lst xs) := h
  simp [oClear, wrL, h']
/-- log and paper are as they are due -/
theorem right_ok (H : HAt s ro c g A []) (OO : OAt s ro c' o stk A []) (hL : Lg nms A) (hl : A.log.length ≤ 400) (hp : A.pap.length ≤ 400) : (f__law_right [.ref g.r, .ref o.w] s).wp (fun d s' => d = .bl true ∧ s <+: s') X := by
  unfold f__law_right
  rw [wp_run]
  show (d__law_right [some (.ref g.r), some (.ref o.w), none, none, none] s).wp _
  unfold d__law_right
  simp
  have hr : rngR (.int 2) s = .ok ⟨(List.range 2).map fun i => .int ((0 : Int) + (i : Nat)), fun _ => True⟩ s := rngR_ok (by decide) (by decide)
  rw [hr]
  simp only [wp_ok, kFor_app]
  refine forL_inv (fun rest env s' => ∃ e2 e3 e4, env = [some (.ref g.r), some (.ref o.w), e2, e3, e4] ∧ s <+: s') ⟨none, none, none, rfl, List.prefix_refl _⟩ (fun _ _ _ _ => trivial) ?_ ?_
  · rintro x rest env s1 ⟨e2, e3, e4, rfl, pre⟩
    refine ⟨_, rfl, ?_⟩
    have H1 := H.pre pre
    have O1 := OO.pre pre
    simp [H1.r]
    refine (log_ok H1).no ?_
    rintro _ _ ⟨rfl, rfl⟩
    have H2 := H1.pre (pre_app s1 [.lst A.log])
    simp [H2.r]
    refine (paper_ok H2).no ?_
    rintro _ _ ⟨rfl, rfl⟩
    have O3 := O1.pre ((pre_app s1 [.lst A.log]).trans (pre_app _ [.lst A.pap]))
    have el : at_ (s1 ++ [.lst A.log] ++ [.lst A.pap]) s1.length = some (.lst A.log) := by rw [at_app_l (by simp)]; exact at_app_len
    have ep : at_ (s1 ++ [.lst A.log] ++ [.lst A.pap]) (s1 ++ [O.lst A.log]).length = some (.lst A.pap) := at_app_len
    have r1 := repr_log el hL.lg (by omega)
    have r2 := repr_log ep hL.pa (by omega)
    have r3 := repr_log O3.lg hL.lg (by omega)
    have r4 := repr_log O3.pa hL.pa (by omega)
    have lw := O3.w
    obtain ⟨s3, hs3⟩ : ∃ s3, s1 ++ [O.lst A.log] ++ [O.lst A.pap] = s3 := ⟨_, rfl⟩
    have hs3' : s1 ++ [O.lst A.log, O.lst A.pap] = s3 := by rw [← hs3]; simp
    rw [hs3] at el ep r1 r2 r3 r4 lw
    have ll : (s1 ++ [O.lst A.log]).length = s1.length + 1 := by simp
    rw [ll] at ep r2
    simp [hs3', r1, r2, r3, r4, lw]
    have pre3 : s <+: s3 := by rw [← hs3]; exact (pre.trans (pre_app _ _)).trans (pre_app _ _)
    have hn : s.length ≤ s1.length := pre.length_le
    have e4 : at_ (s3.set s1.length (.lst A.log.reverse)) s1.length = some (.lst A.log.reverse) := at_set_self (at_lt el)
    have e5 : at_ ((s3.set s1.length (.lst A.log.reverse)).set s1.length (.lst (A.log.reverse ++ [.tup [.str "end", .int 1]]))) (s1.length + 1) = some (.lst A.pap) := by
      rw [at_set_ne (by omega), at_set_ne (by omega)]
      exact ep
    simp [el, rev_ok el, e4, oAppend_ok e4 (by simp; omega : A.log.reverse.length < 1000000)]
    simp only [List.set_set] at e5
    simp [ep, clear_ok e5]
    exact pre_set (pre_set pre3 (by omega)) (by omega)
  · rintro env s1 ⟨e2, e3, e4, rfl, pre⟩
    simp
    exact pre
/-- a new house of dicts -/
theorem house_ok {k : Nat} (hk : at_ s k = some (.dct stk)) (hc : c' ≠ 9) (hr9 : (ro k).1 = 9) : (f__law_house [.ref k] s).wp (fun d s' => d = .ref s.length ∧ ∃ o ro', o.w = s.length ∧ OAt s' ro' c' o stk ⟨[], [], []⟩ [] ∧ s.length ≤ s'.length ∧ ∀ p, p < s.length → ro' p = ro p ∧ at_ s' p = at_ s p) X := by
  have e : f__law_house [.ref k] s = .ok (.ref s.length) (s ++ [.dct (ownK ⟨s.length, k, s.length + 1, s.length + 2, s.length + 3, s.length + 4, s.length + 5, []⟩), .dct [], .dct [], .lst [], .lst [], .lst []]) := by
    unfold f__law_house d__law_house
    have hs : ((s ++ [O.dct [], O.dct [], O.dct [], O.lst [], O.lst [], O.lst []]) : Sto)[s.length]? = some (.dct []) := by simp
    simp only [runFn, fin, sRet, eDisp, pairsD, eVar, eDnew, eN, aNil, List.length_cons, List.length_nil, List.map_cons, List.map_nil, List.getElem?_cons_zero, List.cons_append, List.nil_append, Nat.sub_self, List.replicate_zero, List.append_nil, Res.bind_ok, oLst_nil, up_some, List.append_assoc, List.length_append, hs, Res.st_ok, if_true, Nat.zero_add, set_app_len, Nat.add_assoc, Nat.reduceAdd]
    rfl
  rw [e]
  obtain ⟨F, hF⟩ : ∃ F, s ++ [.dct (ownK ⟨s.length, k, s.length + 1, s.length + 2, s.length + 3, s.length + 4, s.length + 5, []⟩), .dct [], .dct [], .lst [], .lst [], .lst []] = F := ⟨_, rfl⟩
  rw [hF, wp_ok]
  have t : ∀ j, at_ F (s.length + j) = at_ [.dct (ownK ⟨s.length, k, s.length + 1, s.length + 2, s.length + 3, s.length + 4, s.length + 5, []⟩), .dct [], .dct [], .lst [], .lst [], .lst []] j := fun j => by
    rw [← hF, at_app_r (by omega)]
    congr 1
    omega
  have u : ∀ q, q < s.length → at_ F q = at_ s q := fun q hq => by rw [← hF]; exact at_app_l hq
  have kl := at_lt hk
  have rr : ∀ j, (fun q => if q < s.length then ro q else (c', q - s.length)) (s.length + j) = (c', j) := fun j => by
    simp only
    rw [if_neg (by omega)]
    congr 1
    omega
  refine ⟨rfl, ⟨s.length, k, s.length + 1, s.length + 2, s.length + 3, s.length + 4, s.length + 5, []⟩, fun q => if q < s.length then ro q else (c', q - s.length), rfl, ?_, by rw [← hF]; simp, fun q hq => ⟨by simp only; rw [if_pos hq], u q hq⟩⟩
  exact {
    w := t 0
    sk := by
      show at_ F k = _
      rw [u k kl]
      exact hk
    tb := t 1
    nm := t 2
    lg := t 3
    pa := t 4
    li := t 5
    ds := fun i a m ha => by simp at ha
    len := rfl
    rw := rr 0
    rsk := by
      show ((fun q => if q < s.length then ro q else (c', q - s.length)) k).1 = 9
      simp only
      rw [if_pos kl]
      exact hr9
    rtb := rr 1
    rnm := rr 2
    rlg := rr 3
    rpa := rr 4
    rli := rr 5
    c9 := hc
    few := by simp
    hln := fun q hq => by cases hq }
/-! ### finders are shown -/
def fPy (kvs : List (Key × D)) : PyData := .dict (kvs.map fun kv => (keyP kv.1, pyD kv.2))
def fsPy (fs : Fs) : PyData := .list (fs.map fun f => fPy f.2)
theorem fin_rows {rs : List D} (hp : ∀ z ∈ ps, nameB z = true) (hn : ∀ z ∈ nms, nameB z = true) : (∀ r ∈ rs, RwD ps nms r) → pures rs = true ∧ SmA (pyDs rs) 1 (31 * rs.length) := by
  induction rs with
  | nil => exact fun _ => ⟨rfl, SmA.nil⟩
  | cons r rs ih =>
    intro h
    obtain ⟨_, h1, h2⟩ := (h r List.mem_cons_self).ln hp hn
    obtain ⟨h3, h4⟩ := ih fun x hx => h x (List.mem_cons_of_mem _ hx)
    exact ⟨by simp [pures, h1, h3], (SmA.cons h2 h4).mono (Nat.le_refl _) (by rw [List.length_cons]; omega)⟩
theorem zip_maps {kvs : List (Key × D)} : (kvs.map fun kv => keyP kv.1).zip (pyDs (kvs.map (·.2))) = kvs.map fun kv => (keyP kv.1, pyD kv.2) := by
  induction kvs with
  | nil => rfl
  | cons kv kvs ih => simp [pyDs, ih]
structure KvS (l : List (PyData × PyData)) (b : Nat) : Prop where
  sh : PyData.showableKv l = true
  lv : PyData.leavesShortKv 100 l = true
  dp : PyData.depthKv l ≤ 2
  bk : PyData.bulkKv l ≤ b
theorem kv_ok (hp : ∀ z ∈ ps, nameB z = true) (hn : ∀ z ∈ nms, nameB z = true) : ∀ {kvs : List (Key × D)}, (∀ kv ∈ kvs, FinE ps nms kv) → pures (kvs.map (·.2)) = true ∧ KvS (kvs.map fun kv => (keyP kv.1, pyD kv.2)) (1300 * kvs.length)
  | [], _ => ⟨rfl, rfl, rfl, by simp [PyData.depthKv], by simp [PyData.bulkKv]⟩
  | kv :: kvs, h => by
    obtain ⟨h1, h2⟩ := kv_ok hp hn (kvs := kvs) fun x hx => h x (List.mem_cons_of_mem _ hx)
    obtain ⟨z, rs, rfl, hz, hrs, hl⟩ := h kv List.mem_cons_self
    obtain ⟨p1, p2⟩ := fin_rows hp hn hrs
    have q1 := s_name (n := 0) (hp z hz)
    have q2 := p2.tup
    refine ⟨by simp [pures, S4.pure, p1, h1], ?_, ?_, ?_, ?_⟩
    · show (PyData.showable (.str z) && PyData.showable (.tuple (pyDs rs)) && PyData.showableKv _) = true
      rw [q1.sh, q2.sh, h2.sh]
      rfl
    · show (PyData.leavesShort 100 (.str z) && PyData.leavesShort 100 (.tuple (pyDs rs)) && PyData.leavesShortKv 100 _) = true
      rw [q1.lv, q2.lv, h2.lv]
      rfl
    · show max (max (PyData.depth (.str z)) (PyData.depth (.tuple (pyDs rs)))) (PyData.depthKv _) ≤ 2
      have a := q1.dp
      have b := q2.dp
      have c := h2.dp
      omega
    · show PyData.bulk (.str z) + PyData.bulk (.tuple (pyDs rs)) + 2 + PyData.bulkKv _ ≤ _
      have a := q1.bk
      have b := q2.bk
      have c := h2.bk
      rw [List.length_cons]
      omega
structure FsS (ds : List PyData) (b : Nat) : Prop where
  sh : PyData.showableAll ds = true
  lv : PyData.leavesShortAll 100 ds = true
  dp : PyData.depthAll ds ≤ 3
  bk : PyData.bulkAll ds ≤ b
theorem fs_ok (hp : ∀ z ∈ ps, nameB z = true) (hn : ∀ z ∈ nms, nameB z = true) : ∀ {fs : Fs}, (∀ f ∈ fs, f.2.length ≤ 8 ∧ ∀ kv ∈ f.2, FinE ps nms kv) → (∀ f ∈ fs, at_ s f.1 = some (.dct f.2)) → PyRs s (fs.map fun f => .ref f.1) (fs.map fun f => fPy f.2) ∧ FsS (fs.map fun f => fPy f.2) (10500 * fs.length)
  | [], _, _ => ⟨.nil, rfl, rfl, by simp [PyData.depthAll], by simp [PyData.bulkAll]⟩
  | f :: fs, h, hd => by
    obtain ⟨h1, h2⟩ := fs_ok hp hn (fs := fs) (fun x hx => h x (List.mem_cons_of_mem _ hx)) fun x hx => hd x (List.mem_cons_of_mem _ hx)
    obtain ⟨k1, k2⟩ := kv_ok hp hn (h f List.mem_cons_self).2
    have hl := (h f List.mem_cons_self).1
    have hr : PyR s (.ref f.1) (fPy f.2) := by
      have := PyR.dct (s := s) (i := f.1) (xs := f.2) (by simp [hd f List.mem_cons_self]) (pys_of (s := s) (f.2.map (·.2)) k1)
      rw [zip_maps] at this
      exact this
    refine ⟨.cons hr h1, ?_, ?_, ?_, ?_⟩
    · show (PyData.showableKv _ && PyData.showableAll _) = true
      rw [k2.sh, h2.sh]
      rfl
    · show (PyData.leavesShortKv 100 _ && PyData.leavesShortAll 100 _) = true
      rw [k2.lv, h2.lv]
      rfl
    · show max (PyData.depthKv _ + 1) (PyData.depthAll _) ≤ 3
      have a := k2.dp
      have b := h2.dp
      omega
    · show PyData.bulkKv _ + 1 + PyData.bulkAll _ ≤ _
      have a := k2.bk
      have b := h2.bk
      rw [List.length_cons]
      omega
theorem repr_fs {L : Nat} {fs : Fs} (hp : ∀ z ∈ ps, nameB z = true) (hn : ∀ z ∈ nms, nameB z = true) (h : ∀ f ∈ fs, f.2.length ≤ 8 ∧ ∀ kv ∈ f.2, FinE ps nms kv) (hl : fs.length ≤ 3) (hF : FsAt s L fs) : oRepr [.ref L] s = some (.str (fsPy fs).shown, s) := by
  obtain ⟨h1, h2⟩ := fs_ok (s := s) hp hn h fun f hf => by
    obtain ⟨j, hj⟩ := List.mem_iff_getElem?.mp hf
    exact hF.d j f hj
  refine repr_ok (d := fsPy fs) (.lst (by simp [hF.l]) h1) ⟨h2.sh, ?_, ?_⟩ rfl
  · show PyData.depthAll _ + 1 ≤ 60
    have := h2.dp
    omega
  · have h3 := PyData.shown_le_bulk 100 (by decide) (fsPy fs) h2.lv
    have h4 : PyData.bulk (fsPy fs) ≤ 10500 * fs.length := h2.bk
    have : (102 : Nat) * 31500 + 100 ≤ sizeLine := by decide
    omega
end
end G31
set_option maxHeartbeats 4000000
/-! k31: a deed -/
namespace G31
open PySem PySem.Spec PyProof.Rows L2 HM DL S0 S1 S2 S3 S4 XM
noncomputable def deedD : DSt := (sSeq (sAsg (.nm 11) (eN oLst (aCons (eMeth "Runs" "log" f_Runs_log (e2 oIx (eVar 5) (eVar 9)) aNil) (aCons (eMeth "Runs" "paper" f_Runs_paper (e2 oIx (eVar 5) (eVar 9)) aNil) aNil))))
    (sSeq (sAsg (.nm 12) (eN oRepr (aCons (eVar 11) aNil)))
    (sSeq (sIf (tB1 (e2 oNe (eN oRepr (aCons (eMeth "Runs" "take" f_Runs_take (e2 oIx (eVar 5) (eVar 9)) (aCons (eVar 10) aNil)) aNil)) (eN oRepr (aCons (eCall (f__law_taken 30) (aCons (e2 oIx (eVar 6) (eVar 9)) (aCons (eVar 10) aNil))) aNil)))) (sRet (eC (.bl false))) sNil)
    (sSeq (sIf (tOr2 (tB1 (e2 oEq (eN oRepr (aCons (eN oLst (aCons (eMeth "Runs" "log" f_Runs_log (e2 oIx (eVar 5) (eVar 9)) aNil) (aCons (eMeth "Runs" "paper" f_Runs_paper (e2 oIx (eVar 5) (eVar 9)) aNil) aNil))) aNil)) (eVar 12))) (tB1 (e2 oNe (eN oRepr (aCons (eVar 11) aNil)) (eVar 12)))) (sRet (eC (.bl false))) sNil)
    (sIf (tOr2 (tNot1 (tTru (eCall f__law_right (aCons (e2 oIx (eVar 5) (eVar 9)) (aCons (e2 oIx (eVar 6) (eVar 9)) aNil))))) (tNot1 (tTru (eCall f__law_right (aCons (e2 oIx (eVar 5) (e2 oSub (eC (.int 1)) (eVar 9))) (aCons (e2 oIx (eVar 6) (e2 oSub (eC (.int 1)) (eVar 9))) aNil)))))) (sRet (eC (.bl false))) sNil)))))
section
variable {s s' : Sto} {ro ro' : Ro} {c c' d d' r w r2 w2 t : Nat} {A A2 : AS} {X : Ex → Sto → Prop} {ps nms : List Str} {stk : List (Key × D)} {bd : Str → List D}
/-- a house and the law's own one, side by side -/
def HO (ps nms : List Str) (bd : Str → List D) (stk : List (Key × D)) (s : Sto) (ro : Ro) (c c' r w : Nat) (A : AS) (t : Nat) : Prop := ∃ g o, g.r = r ∧ o.w = w ∧ HAt s ro c g A [] ∧ OAt s ro c' o stk A [] ∧ Bds ps bd g.fs ∧ Good ps A ∧ Sml A ∧ Lg nms A ∧ phi ps A ≤ 336 + t
theorem HO.frame (h : HO ps nms bd stk s ro c c' r w A t) (hro : ∀ p, p < s.length → ro' p = ro p) (hag : ∀ p, p < s.length → ((ro p).1 = c ∨ (ro p).1 = c' ∨ (ro p).1 = 9) → at_ s' p = at_ s p) : HO ps nms bd stk s' ro' c c' r w A t := by
  obtain ⟨g, o, h1, h2, h3, h4, h5⟩ := h
  exact ⟨g, o, h1, h2, h3.frame hro fun p hp e => hag p hp (.inl e), h4.frame hro fun p hp e => hag p hp (.inr e), h5⟩
theorem HO.up (h : HO ps nms bd stk s ro c c' r w A t) : HO ps nms bd stk s ro c c' r w A (t + 1) := by
  obtain ⟨g, o, h1, h2, h3, h4, h5, h6, h7, h8, h9⟩ := h
  exact ⟨g, o, h1, h2, h3, h4, h5, h6, h7, h8, by omega⟩
theorem repr_int {k : Nat} (h : k < 10000) : oRepr [.int ((k : Nat) + 1 : Int)] s = some (.str (PyData.int ((k : Nat) + 1 : Int)).shown, s) := repr_ok (.int _) (okR_of (s_nat1 (n := 0) h) (by omega) (by omega)) rfl
/-- what all know: laws, bodies, names -/
structure Kn (ps nms : List Str) (bd : Str → List D) (stk : List (Key × D)) : Prop where
  b : ∀ q ∈ ps, (∀ r ∈ bd q, RowOk ps r) ∧ (bd q).length ≤ 40
  rn : ∀ q ∈ ps, ∀ r ∈ bd q, RowN nms r
  st : ∀ q ∈ ps, valD stk (.inr q) = some (.tup (bd q))
  pn : ∀ z ∈ ps, nameB z = true
  nn : ∀ z ∈ nms, nameB z = true
  p8 : ps.length ≤ 8
  n9 : nms.length ≤ 9
theorem good_lens {A : AS} (h : Good ps A) (hp : phi ps A ≤ 376) (h8 : ps.length ≤ 8) : A.log.length ≤ 400 ∧ A.pap.length ≤ 400 ∧ A.ms.length ≤ 8 := by
  have := h.few
  have := h.pp
  unfold phi at hp
  omega
theorem deed_ok {hs os : List D} {Hh Oo : Nat} {a : Int} {q : Str} {e0 e1 e2 e3 e4 e7 e8 e11 e12 : Option D} {P : Post} (K : Kn ps nms bd stk) (h1 : HO ps nms bd stk s ro c c' r w A t) (h2 : HO ps nms bd stk s ro d d' r2 w2 A2 t)
    (n1 : c ≠ c') (n2 : c ≠ d) (n3 : c ≠ d') (n4 : c' ≠ d) (n5 : c' ≠ d') (n8 : c ≠ 8 ∧ c' ≠ 8 ∧ c ≠ 9 ∧ c' ≠ 9) (ht : t < 40) (hH : at_ s Hh = some (.lst hs)) (hO : at_ s Oo = some (.lst os)) (rH : (ro Hh).1 = 8) (rO : (ro Oo).1 = 8)
    (a1 : atI hs a = some (.ref r)) (a2 : atI hs (1 - a) = some (.ref r2)) (b1 : atI os a = some (.ref w)) (b2 : atI os (1 - a) = some (.ref w2)) (hq : q ∈ ps)
    (hP : ∀ s' ro' A' f11 f12, HO ps nms bd stk s' ro' c c' r w A' (t + 1) → HO ps nms bd stk s' ro' d d' r2 w2 A2 (t + 1) → (∀ p, p < s.length → ro' p = ro p) → (∀ p, p < s.length → ((ro p).1 = 8 ∨ (ro p).1 = 9) → at_ s' p = at_ s p) → s.length ≤ s'.length → P.nx [e0, e1, e2, e3, e4, some (.ref Hh), some (.ref Oo), e7, e8, some (.int a), some (.str q), f11, f12] s') :
    (deedD [e0, e1, e2, e3, e4, some (.ref Hh), some (.ref Oo), e7, e8, some (.int a), some (.str q), e11, e12] s).wp P := by
  obtain ⟨g, o, rfl, rfl, H, OO, hB, hg, hsm, hL, hph⟩ := h1
  obtain ⟨len1, len2, len3⟩ := good_lens hg (by omega) K.p8
  unfold deedD
  simp [hH, a1, H.r]
  refine (log_ok H).no ?_
  rintro _ _ ⟨rfl, rfl⟩
  have H1 := H.pre (pre_app s [.lst A.log])
  have hH1 : at_ (s ++ [.lst A.log]) Hh = some (.lst hs) := by rw [at_app_l (at_lt hH)]; exact hH
  simp [hH1, a1, H1.r]
  refine (paper_ok H1).no ?_
  rintro _ _ ⟨rfl, rfl⟩
  obtain ⟨s3, hs3⟩ : ∃ s3, s ++ [O.lst A.log, O.lst A.pap, O.lst [.ref s.length, .ref (s.length + 1)]] = s3 := ⟨_, rfl⟩
  have pre3 : s <+: s3 := by rw [← hs3]; exact pre_app _ _
  have l3 : s3.length = s.length + 3 := by rw [← hs3]; simp
  have el : at_ s3 s.length = some (.lst A.log) := by rw [← hs3]; exact at_app_len
  have ep : at_ s3 (s.length + 1) = some (.lst A.pap) := by rw [← hs3]; exact at_app_len1
  have eh : at_ s3 (s.length + 2) = some (.lst [.ref s.length, .ref (s.length + 1)]) := by rw [← hs3]; exact at_app_len2
  have R3 := repr_two eh el ep hL len1 len2
  simp [hs3, R3]
  obtain ⟨ro3, hro3⟩ : ∃ ro3 : Ro, (fun q => if q < s.length then ro q else (8, 0)) = ro3 := ⟨_, rfl⟩
  have ro3a : ∀ p, p < s.length → ro3 p = ro p := fun p hp => by rw [← hro3]; simp only; rw [if_pos hp]
  have ro3b : ∀ p, s.length ≤ p → ro3 p = (8, 0) := fun p hp => by rw [← hro3]; simp only; rw [if_neg (by omega)]
  have at3 : ∀ p, p < s.length → at_ s3 p = at_ s p := fun p hp => by rw [← hs3]; exact at_app_l hp
  have H3 : HAt s3 ro3 c g A [] := H.frame ro3a fun p hp _ => at3 p hp
  have O3 : OAt s3 ro3 c' o stk A [] := OO.frame ro3a fun p hp _ => at3 p hp
  have hH3 : at_ s3 Hh = some (.lst hs) := at_pre pre3 hH
  have hO3 : at_ s3 Oo = some (.lst os) := at_pre pre3 hO
  have rH3 : (ro3 Hh).1 = 8 := by rw [ro3a _ (at_lt hH)]; exact rH
  have rO3 : (ro3 Oo).1 = 8 := by rw [ro3a _ (at_lt hO)]; exact rO
  have hpl : q.length ≤ 1000 := Nat.le_trans (nameB_len (K.pn q hq)) (by decide)
  have p8 := K.p8
  simp [hH3, a1, H3.r]
  refine (take_ok (n := 8) hB (by omega) H3 rfl hg (by omega) hq (by omega) hsm (txt_name (K.pn q hq)) hpl).no ?_
  rintro _ s4 ⟨ro4, g4, hr4, hf4, H4, F4, rfl⟩
  obtain ⟨st, m, hm, _⟩ := take_stp K.b 8 (A := A) (ln := []) (p := q) (i := A.ms.length) hg (by omega) hq (Nat.le_refl _)
  have hL4 := take_lg K.b (by omega) K.pn K.n9 K.nn K.rn 8 (A := A) (ln := []) (p := q) hg (by omega) hq (fun _ z => by cases z) hL
  have hsm4 : Sml (takeA bd 8 A [] q).1 := fun j m' e' => by
    by_cases hl : j < A.ms.length
    · have e1 := List.getElem?_eq_getElem hl
      have e2 := st.gr.old j _ (by omega) e1
      rw [e'] at e2
      cases e2
      exact hsm j _ e1
    · exact st.gr.new j m' (by omega) e'
  have mo4 := takeA_more (bd := bd) 8 A [] q
  have lo4 := takeA_longer (bd := bd) (n := 8) (A := A) (ln := []) (p := q) (.inr (by omega))
  have st4 := st.gd
  have ph4 := st.ph
  obtain ⟨k1, k2, k3⟩ := good_lens st4 (by omega) K.p8
  have hi4 : (takeA bd 8 A [] q).2 < 10000 := by
    have := (List.getElem?_eq_some_iff.mp hm).1
    omega
  have ntc : ∀ {e : Nat} {x : Nat × Nat} {dd : Nat}, x.1 ≠ e → ¬Tch e dd x := fun h z => h z.1
  have hO4 : at_ s4 Oo = some (.lst os) := (F4.at_ Oo (at_lt hO3) (ntc (by rw [rO3]; omega))).trans hO3
  have hH4 : at_ s4 Hh = some (.lst hs) := (F4.at_ Hh (at_lt hH3) (ntc (by rw [rH3]; omega))).trans hH3
  have O4 : OAt s4 ro4 c' o stk A [] := O3.frame F4.rq fun p hp e => F4.at_ p hp (ntc (by omega))
  simp [repr_int hi4, hO4, b1]
  refine (olaw_ok K.b (by omega) K.st 8 30 (by omega) s4 ro4 o A [] q _ (by simp) O4 hg (by omega) hq (by omega) hsm).mono ?_
  rintro _ s5 ⟨ro5, ds5, O5, pre5, F5, rfl⟩
  simp [repr_int hi4]
  have rH4 : (ro4 Hh).1 = 8 := by rw [F4.rq Hh (at_lt hH3)]; exact rH3
  have rO4 : (ro4 Oo).1 = 8 := by rw [F4.rq Oo (at_lt hO3)]; exact rO3
  have hH5 : at_ s5 Hh = some (.lst hs) := (F5.at_ Hh (at_lt hH4) (ntc (by rw [rH4]; omega))).trans hH4
  have hO5 : at_ s5 Oo = some (.lst os) := (F5.at_ Oo (at_lt hO4) (ntc (by rw [rO4]; omega))).trans hO4
  have H5 : HAt s5 ro5 c g4 (takeA bd 8 A [] q).1 [] := H4.frame F5.rq fun p hp e => F5.at_ p hp (ntc (by omega))
  have hr5 : at_ s5 g.r = some (.ins "Runs" (runsF g4)) := by rw [← hr4]; exact H5.r
  -- what was held stays
  have keep : ∀ {p : Nat} {u : O}, s.length ≤ p → at_ s3 p = some u → at_ s5 p = some u := fun {p u} hp e => by
    have q1 := (F4.at_ p (at_lt e) (ntc (by rw [ro3b p hp]; exact Ne.symm n8.1))).trans e
    refine (F5.at_ p (at_lt q1) (ntc ?_)).trans q1
    rw [F4.rq p (at_lt e), ro3b p hp]
    exact Ne.symm n8.2.1
  generalize (takeA bd 8 A [] q).1 = A' at *
  simp [hH5, a1, hr5]
  have L5 := log_ok (X := nX) H5
  rw [hr4] at L5
  refine L5.no ?_
  rintro _ _ ⟨rfl, rfl⟩
  have H6 := H5.pre (pre_app s5 [.lst A'.log])
  have hH6 : at_ (s5 ++ [.lst A'.log]) Hh = some (.lst hs) := by rw [at_app_l (at_lt hH5)]; exact hH5
  have hr6 : at_ (s5 ++ [.lst A'.log]) g.r = some (.ins "Runs" (runsF g4)) := by rw [at_app_l (at_lt hr5)]; exact hr5
  simp [hH6, a1, hr6]
  have L6 := paper_ok (X := nX) H6
  rw [hr4] at L6
  refine L6.no ?_
  rintro _ _ ⟨rfl, rfl⟩
  obtain ⟨s8, hs8⟩ : ∃ s8, s5 ++ [O.lst A'.log, O.lst A'.pap, O.lst [.ref s5.length, .ref (s5.length + 1)]] = s8 := ⟨_, rfl⟩
  have pre8 : s5 <+: s8 := by rw [← hs8]; exact pre_app _ _
  have R8 := repr_two (s := s8) (k := s5.length + 2) (i := s5.length) (j := s5.length + 1) (A := A') (nms := nms) (by rw [← hs8]; exact at_app_len2) (by rw [← hs8]; exact at_app_len) (by rw [← hs8]; exact at_app_len1) hL4 k1 k2
  have Q8 := repr_two (s := s8) (A := A) (nms := nms) (at_pre pre8 (keep (by omega) eh)) (at_pre pre8 (keep (Nat.le_refl _) el)) (at_pre pre8 (keep (by omega) ep)) hL len1 len2
  have dne := two_ne mo4 lo4 hL4
  simp [hs8, R8, dne, Q8]
  have H8 := H5.pre pre8
  have O8 := O5.pre pre8
  have hH8 : at_ s8 Hh = some (.lst hs) := at_pre pre8 hH5
  have hO8 : at_ s8 Oo = some (.lst os) := at_pre pre8 hO5
  have ow : ({ o with ds := ds5 } : OG).w = o.w := rfl
  have T8 := right_ok (X := nX) H8 O8 hL4 k1 k2
  rw [hr4, ow] at T8
  simp [hH8, hO8, a1, b1]
  refine T8.no ?_
  rintro _ s9 ⟨rfl, pre9⟩
  have hH9 : at_ s9 Hh = some (.lst hs) := at_pre pre9 hH8
  have hO9 : at_ s9 Oo = some (.lst os) := at_pre pre9 hO8
  simp [hH9, hO9, a2, b2]
  -- the other house
  have pre59 : s5 <+: s9 := pre8.trans pre9
  have roAll : ∀ p, p < s.length → ro5 p = ro p := fun p hp => by
    rw [F5.rq p (Nat.lt_of_lt_of_le (by omega : p < s3.length) F4.len), F4.rq p (by omega), ro3a p hp]
  have l4 := F4.len
  have l5 := F5.len
  have at5 : ∀ p, p < s.length → (ro p).1 ≠ c → (ro p).1 ≠ c' → at_ s5 p = at_ s p := fun p hp x1 x2 => by
    have q1 : ro4 p = ro p := by rw [F4.rq p (by omega), ro3a p hp]
    rw [F5.at_ p (by omega) (ntc (by rw [q1]; exact x2)), F4.at_ p (by omega) (ntc (by rw [ro3a p hp]; exact x1)), at3 p hp]
  have at9 : ∀ p, p < s.length → (ro p).1 ≠ c → (ro p).1 ≠ c' → at_ s9 p = at_ s p := fun p hp x1 x2 => by
    obtain ⟨z, rfl⟩ := pre59
    rw [at_app_l (by omega)]
    exact at5 p hp x1 x2
  have T2 : HO ps nms bd stk s9 ro5 d d' r2 w2 A2 t := h2.frame roAll fun p hp e => at9 p hp (by omega) (by omega)
  obtain ⟨g2, o2, rfl, rfl, X1, X2, X3, X4, X5, X6, X7⟩ := T2
  obtain ⟨y1, y2, y3⟩ := good_lens X4 (by omega) K.p8
  have T9 := right_ok (X := nX) X1 X2 X6 y1 y2
  refine T9.no ?_
  rintro _ s10 ⟨rfl, pre10⟩
  simp
  have preE : s5 <+: s10 := pre59.trans pre10
  refine hP s10 ro5 A' _ _ ⟨g4, { o with ds := ds5 }, hr4, rfl, H5.pre preE, O5.pre preE, by rw [hf4]; exact hB, st4, hsm4, hL4, by omega⟩ ⟨g2, o2, rfl, rfl, X1.pre pre10, X2.pre pre10, X3, X4, X5, X6, by omega⟩ roAll (fun p hp e => ?_) ?_
  · obtain ⟨z, rfl⟩ := pre10
    have := pre59.length_le
    rw [at_app_l (by omega)]
    exact at9 p hp (by omega) (by omega)
  · have := preE.length_le
    omega
end
end G31
set_option maxHeartbeats 4000000
/-! k31: the law -/
namespace G31
open PySem PySem.Spec PyProof.Rows L2 HM DL S0 S1 S2 S3 S4 XM
section
variable {s s' : Sto} {ro ro' : Ro} {X : Ex → Sto → Prop} {ps nms : List Str} {kvs : List (Key × D)} {fs : Fs}
theorem lookF_snd : ∀ {fs gs : Fs} {q : Str}, fs.map (·.2) = gs.map (·.2) → lookF fs q = lookF gs q
  | [], [], _, _ => rfl
  | [], _ :: _, _, h => by cases h
  | _ :: _, [], _, h => by cases h
  | f :: fs, g :: gs, q, h => by
    simp only [List.map_cons, List.cons.injEq] at h
    simp only [lookF, h.1, lookF_snd h.2]
def bdOf (kvs : List (Key × D)) (q : Str) : List D := match valD kvs (.inr q) with
  | some (.tup rs) => rs
  | _ => []
theorem StkD.val (hS : StkD ps nms kvs) {q : Str} (hq : q ∈ ps) : ∃ rs, (Sum.inr q, D.tup rs) ∈ kvs ∧ valD kvs (.inr q) = some (.tup rs) ∧ bdOf kvs q = rs ∧ (∀ r ∈ rs, RwD ps nms r) ∧ rs.length ≤ 40 := by
  have h1 : (valD kvs (.inr q)).isSome = true := val_isSome.mpr (by rw [hS.ks]; exact List.mem_map.mpr ⟨q, hq, rfl⟩)
  obtain ⟨v, hv⟩ := Option.isSome_iff_exists.mp h1
  have hv' := hv
  simp only [valD, Option.map_eq_some_iff] at hv'
  obtain ⟨kv, hf, rfl⟩ := hv'
  have hm := List.mem_of_find?_eq_some hf
  have hk := List.find?_some hf
  simp at hk
  obtain ⟨rs, h2, h3, h4⟩ := hS.vs kv hm
  obtain ⟨k, v⟩ := kv
  simp only at hk h2
  subst hk
  subst h2
  exact ⟨rs, hm, hv, by simp [bdOf, hv], h3, h4⟩
theorem StkD.kn (hS : StkD ps nms kvs) : Kn ps nms (bdOf kvs) kvs := by
  refine ⟨fun q hq => ?_, fun q hq r hr => ?_, fun q hq => ?_, hS.pn, hS.nn, hS.p8, hS.n9⟩
  · obtain ⟨rs, _, _, e, h, hl⟩ := hS.val hq
    rw [e]
    exact ⟨fun r hr => (h r hr).ok, hl⟩
  · obtain ⟨rs, _, _, e, h, hl⟩ := hS.val hq
    rw [e] at hr
    exact (h r hr).nm
  · obtain ⟨rs, _, e0, e, h, hl⟩ := hS.val hq
    rw [e]
    exact e0
theorem bds_ok {gs : Fs} (hS : StkD ps nms kvs) (hD : DlD ps nms kvs fs) (he : gs.map (·.2) = fs.map (·.2)) : Bds ps (bdOf kvs) gs := by
  refine ⟨Nat.le_trans hS.p8 (by decide), hS.kn.b, fun q hq => ?_⟩
  obtain ⟨rs, hm, _, e, _, _⟩ := hS.val hq
  rw [lookF_snd he, (hD.fst _ hm).look, e]
theorem fins_ok {L : Nat} (hS : StkD ps nms kvs) (hF : FsAt s L fs) (hD : DlD ps nms kvs fs) : FinsAt s L fs := by
  refine ⟨hF.l, fun f hf => ?_, hF.nd, fun f hf kv hkv => ?_⟩
  · obtain ⟨j, hj⟩ := List.mem_iff_getElem?.mp hf
    exact hF.d j f hj
  · obtain ⟨z, rs, rfl, hz, hr, hl⟩ := ((hD.ok f hf).2 kv hkv).2
    exact ⟨z, rs, rfl, txt_name (hS.pn z hz), Nat.le_trans (nameB_len (hS.pn z hz)) (by decide), fun r hr' => ((hr r hr').ln hS.pn hS.nn).1, hl⟩
theorem DlD.small (hS : StkD ps nms kvs) (hD : DlD ps nms kvs fs) : ∀ f ∈ fs, f.2.length ≤ 8 ∧ ∀ kv ∈ f.2, FinE ps nms kv := fun f hf => by
  have h := hD.ok f hf
  have h1 := congrArg List.length hS.ks
  have := hS.p8
  simp at h1
  exact ⟨by omega, fun kv hkv => (h.2 kv hkv).2⟩
abbrev A0 : AS := ⟨[], [], []⟩
theorem good0 : Good ps A0 := ⟨List.nodup_nil, (fun _ h => by cases h), Nat.le_refl _⟩
theorem sml0 : Sml A0 := fun j m h => by simp at h
theorem lg0 : Lg nms A0 := ⟨(fun j m h => by simp at h), (fun _ h => by cases h), (fun _ h => by cases h)⟩
/-- what stands besides the houses -/
structure Mi (s : Sto) (ro : Ro) (Hh Oo Pp Cc L r1 r2 w1 w2 : Nat) (ps : List Str) (fs : Fs) (cs : List D) : Prop where
  h : at_ s Hh = some (.lst [.ref r1, .ref r2])
  o : at_ s Oo = some (.lst [.ref w1, .ref w2])
  p : at_ s Pp = some (.lst (ps.map D.str))
  c : at_ s Cc = some (.lst cs)
  f : FsAt s L fs
  rh : (ro Hh).1 = 8
  ro_ : (ro Oo).1 = 8
  rp : (ro Pp).1 = 8
  rc : (ro Cc).1 = 8
  rl : (ro L).1 = 8
  rf : ∀ f ∈ fs, (ro f.1).1 = 8
theorem Mi.frame {Hh Oo Pp Cc L r1 r2 w1 w2 : Nat} {cs : List D} (m : Mi s ro Hh Oo Pp Cc L r1 r2 w1 w2 ps fs cs) (hro : ∀ p, p < s.length → ro' p = ro p) (hag : ∀ p, p < s.length → (ro p).1 = 8 → at_ s' p = at_ s p) : Mi s' ro' Hh Oo Pp Cc L r1 r2 w1 w2 ps fs cs := by
  have tr : ∀ {q : Nat} {u : O}, at_ s q = some u → (ro q).1 = 8 → at_ s' q = some u := fun e r => (hag _ (at_lt e) r).trans e
  have rr : ∀ {q : Nat} {u : O}, at_ s q = some u → (ro q).1 = 8 → (ro' q).1 = 8 := fun e r => by rw [hro _ (at_lt e)]; exact r
  refine ⟨tr m.h m.rh, tr m.o m.ro_, tr m.p m.rp, tr m.c m.rc, ⟨tr m.f.l m.rl, fun j f hf => tr (m.f.d j f hf) (m.rf f (List.mem_of_getElem? hf)), m.f.nd⟩, rr m.h m.rh, rr m.o m.ro_, rr m.p m.rp, rr m.c m.rc, rr m.f.l m.rl, fun f hf => ?_⟩
  obtain ⟨j, hj⟩ := List.mem_iff_getElem?.mp hf
  exact rr (m.f.d j f hj) (m.rf f hf)
/-- the loop -/
def LI (ps nms : List Str) (kvs : List (Key × D)) (fs : Fs) (d kept : D) (p k L Hh Oo Pp Cc r1 r2 w1 w2 : Nat) (cs : List D) (rest : List D) (env : DL.Env) (s : Sto) : Prop := ∃ (ro : Ro) (A1 A2 : AS) (t : Nat) (e8 e9 e10 e11 e12 : Option D) (zs : List Int), env = [some d, some (.ref p), some (.ref k), some (.ref L), some kept, some (.ref Hh), some (.ref Oo), some (.ref Pp), e8, e9, e10, e11, e12] ∧ rest = zs.map D.int ∧ t + rest.length ≤ 40 ∧
  HO ps nms (bdOf kvs) kvs s ro 1 3 r1 w1 A1 t ∧ HO ps nms (bdOf kvs) kvs s ro 2 4 r2 w2 A2 t ∧ Mi s ro Hh Oo Pp Cc L r1 r2 w1 w2 ps fs cs
theorem atI_2a {x y : D} : atI [x, y] 0 = some x ∧ atI [x, y] (1 - 0) = some y := by constructor <;> simp
theorem atI_2b {x y : D} : atI [x, y] 1 = some y ∧ atI [x, y] (1 - 1) = some x := by constructor <;> simp
theorem step_ok {d kept : D} {p k L Hh Oo Pp Cc r1 r2 w1 w2 : Nat} {cs rest : List D} {P : Post} (hS : StkD ps nms kvs) {zs : List Int} {A1 A2 : AS} {t : Nat} {z : Int} {e9 e10 e11 e12 : Option D} (ht : t + (rest.length + 1) ≤ 40) (hr : rest = zs.map D.int)
    (h1 : HO ps nms (bdOf kvs) kvs s ro 1 3 r1 w1 A1 t) (h2 : HO ps nms (bdOf kvs) kvs s ro 2 4 r2 w2 A2 t) (m : Mi s ro Hh Oo Pp Cc L r1 r2 w1 w2 ps fs cs)
    (hP : ∀ env s', LI ps nms kvs fs d kept p k L Hh Oo Pp Cc r1 r2 w1 w2 cs rest env s' → P.nx env s') :
    ((sSeq (sAsg (.nm 9) (e2 oMod (e2 oFdiv (eVar 8) (eN oLen (aCons (eVar 7) aNil))) (eC (.int 2)))) (sSeq (sAsg (.nm 10) (e2 oIx (eVar 7) (e2 oMod (eVar 8) (eN oLen (aCons (eVar 7) aNil))))) deedD)) [some d, some (.ref p), some (.ref k), some (.ref L), some kept, some (.ref Hh), some (.ref Oo), some (.ref Pp), some (.int z), e9, e10, e11, e12] s).wp P := by
  have p1 := hS.p1
  have p8 := hS.p8
  have l1 := log31 (b := (ps.length : Int)) (by omega) (by omega)
  have o1 : oFdiv (.int z) (.int (ps.length : Nat)) s = some (.int (z / (ps.length : Nat)), s) := oFdiv_int (by omega) (by omega)
  have o2 : oMod (.int (z / (ps.length : Nat))) (.int 2) s = some (.int (z / (ps.length : Nat) % 2), s) := oMod_int (by decide)
  have o3 : oMod (.int z) (.int (ps.length : Nat)) s = some (.int (z % (ps.length : Nat)), s) := oMod_int (by omega)
  have q1 : 0 ≤ z % (ps.length : Nat) := Int.emod_nonneg _ (by omega)
  have q2 : z % (ps.length : Nat) < (ps.length : Nat) := Int.emod_lt_of_pos _ (by omega)
  obtain ⟨q, hq, hqm⟩ : ∃ q, atI (ps.map D.str) (z % (ps.length : Nat)) = some (.str q) ∧ q ∈ ps := by
    rw [atI_lt q1 (by rw [List.length_map]; exact q2), List.getElem?_map]
    have hj : (z % (ps.length : Nat)).toNat < ps.length := by omega
    rw [List.getElem?_eq_getElem hj]
    exact ⟨_, rfl, List.getElem_mem hj⟩
  simp [m.p, o1, o2, o3, hq]
  have ha : z / (ps.length : Nat) % 2 = 0 ∨ z / (ps.length : Nat) % 2 = 1 := by omega
  have fr : ∀ {s' : Sto} {ro' : Ro}, (∀ p, p < s.length → ro' p = ro p) → (∀ p, p < s.length → ((ro p).1 = 8 ∨ (ro p).1 = 9) → at_ s' p = at_ s p) → Mi s' ro' Hh Oo Pp Cc L r1 r2 w1 w2 ps fs cs := fun hro hag => m.frame hro fun p hp e => hag p hp (.inl e)
  rcases ha with ha | ha
  · rw [ha]
    refine deed_ok hS.kn h1 h2 (by decide) (by decide) (by decide) (by decide) (by decide) (by decide) (by omega) m.h m.o m.rh m.ro_ atI_2a.1 atI_2a.2 atI_2a.1 atI_2a.2 hqm fun s' ro' A' f11 f12 x1 x2 x3 x4 x5 => ?_
    exact hP _ _ ⟨ro', A', A2, t + 1, _, _, _, _, _, zs, rfl, hr, by omega, x1, x2, fr x3 x4⟩
  · rw [ha]
    refine deed_ok hS.kn h2 h1 (by decide) (by decide) (by decide) (by decide) (by decide) (by decide) (by omega) m.h m.o m.rh m.ro_ atI_2b.1 atI_2b.2 atI_2b.1 atI_2b.2 hqm fun s' ro' A' f11 f12 x1 x2 x3 x4 x5 => ?_
    exact hP _ _ ⟨ro', A1, A', t + 1, _, _, _, _, _, zs, rfl, hr, by omega, x2, x1, fr x3 x4⟩
end
end G31
set_option maxHeartbeats 4000000
/-! k31: the law -/
namespace G31
open PySem PySem.Spec PyProof.Rows L2 HM DL S0 S1 S2 S3 S4 XM
section
variable {s s' : Sto} {ro ro' : Ro} {X : Ex → Sto → Prop} {ps nms : List Str} {kvs : List (Key × D)} {fs : Fs}
theorem scr_at {ns : List Int} {d : D} (h : DH.Scr ns d s) : SAt s d ns := by
  cases h with
  | lst => exact .inl ⟨rfl, .inl rfl⟩
  | frz => exact .inl ⟨rfl, .inr rfl⟩
  | klst => exact .inr rfl
theorem SAt.lt {ns : List Int} {d : D} (h : SAt s d ns) (hd : d = .ref 0) : 0 < s.length := by
  rcases h with ⟨_, h | h⟩ | h
  · exact at_lt h
  · exact at_lt h
  · rw [hd] at h; cases h
theorem SAt.pre {ns : List Int} {d : D} (h : SAt s d ns) (p : s <+: s') : SAt s' d ns := h.keep fun hd => by
  obtain ⟨r, rfl⟩ := p
  exact at_app_l (h.lt hd)
theorem cut_map {ns : List Int} {lo hi : Option Int} : DL.cutD (ns.map D.int) lo hi = (((ns.drop (HT.sIx ns.length 0 lo)).take (HT.sIx ns.length ns.length hi - HT.sIx ns.length 0 lo)).map D.int) := by
  unfold DL.cutD
  rw [List.length_map, List.map_take, List.map_drop]
theorem SAt.sl {ns : List Int} {d : D} (h : SAt s d ns) {lo hi : Option Int} : oSl d lo hi s = some (.ref s.length, s ++ [.lst (DL.cutD (ns.map D.int) lo hi)]) := by
  rcases h with ⟨rfl, h | h⟩ | rfl
  · have h' : s[0]? = some (.lst (ns.map D.int)) := h
    simp [oSl, rdL, h']
  · have h' : s[0]? = some (.frz (.lst (ns.map D.int))) := h
    simp [oSl, rdL, h']
  · rfl
theorem keys_strs (hS : StkD ps nms kvs) : keysD kvs = ps.map D.str := by
  have h := congrArg (List.map dK) hS.ks
  rw [List.map_map, List.map_map] at h
  exact h
theorem law_wp {ns : List Int} {d : D} (hn : ns.length ≤ 63) (h : SAt s d ns) (hs : s.length ≤ 1) : (f_law [d] s).wp (fun v _ => v = .bl true) nX := by
  unfold f_law
  rw [wp_run]
  show (d_law [some d, none, none, none, none, none, none, none, none, none, none, none, none] s).wp _
  unfold d_law
  simp
  refine (pot_ok (X := nX) h 0 (by decide)).no ?_
  rintro _ _ ⟨rfl, a, b, rfl, hab⟩
  have hp1 : PotAt (s ++ [.lst [.int a, .int b]]) s.length := ⟨a, b, at_app_len, hab⟩
  have sc1 := h.pre (pre_app s [.lst [.int a, .int b]])
  simp
  refine (stock_ok hp1).no ?_
  rintro _ s2 ⟨k, ps, nms, kvs, rfl, hk, hS, c2, p2, hkl⟩
  have sc2 : SAt s2 d ns := sc1.keep fun hd => c2.at_ 0 (by simp) (by have := h.lt hd; simp; omega)
  simp
  refine (dealt_ok p2 hk hS).no ?_
  rintro _ s3 ⟨L, fs, rfl, hF, hD, c3, p3, hge, hLl, hl3, hl0⟩
  have l2 := at_lt hk
  have hkp : k ≠ s.length := by simp at hkl; omega
  have hk3 : at_ s3 k = some (.dct kvs) := c3.keep hk (by simpa using hkp)
  have sc3 : SAt s3 d ns := sc2.keep fun hd => c3.at_ 0 (by omega) (by have := h.lt hd; simp; omega)
  have hsm := hD.small hS
  simp [repr_fs hS.pn hS.nn hsm hl3 hF]
  obtain ⟨ro0, hro0⟩ : ∃ ro0 : Ro, (fun q => if q = k then (9, 0) else (8, 0)) = ro0 := ⟨_, rfl⟩
  have hFin3 := fins_ok hS hF hD
  refine (rinit_ok hFin3 (by omega) ro0 1).no ?_
  rintro _ s4 ⟨rfl, g1, ro1, hg1, hf1, H1, l4, k4⟩
  simp
  have hF4 : FsAt s4 L fs := ⟨by rw [(k4 L (at_lt hF.l)).2]; exact hF.l, fun j f hf => by rw [(k4 f.1 (at_lt (hF.d j f hf))).2]; exact hF.d j f hf, hF.nd⟩
  refine (rinit_ok (fins_ok hS hF4 hD) (by omega) ro1 2).no ?_
  rintro _ s5 ⟨rfl, g2, ro2, hg2, hf2, H2, l5, k5⟩
  simp
  have lk3 := at_lt hk3
  have hk5 : at_ s5 k = some (.dct kvs) := by rw [(k5 k (by omega)).2, (k4 k lk3).2]; exact hk3
  have lk5 := at_lt hk5
  obtain ⟨roB, hroB⟩ : ∃ roB : Ro, (fun q => if q < s5.length then ro2 q else (8, 0)) = roB := ⟨_, rfl⟩
  have rB1 : ∀ q, q < s5.length → roB q = ro2 q := fun q hq => by rw [← hroB]; simp only; rw [if_pos hq]
  have rB2 : ∀ q, s5.length ≤ q → roB q = (8, 0) := fun q hq => by rw [← hroB]; simp only; rw [if_neg (by omega)]
  have r0 : ∀ q, q < s3.length → ro2 q = ro0 q := fun q hq => by rw [(k5 q (by omega)).1, (k4 q hq).1]
  have rk : (roB k).1 = 9 := by rw [rB1 k lk5, r0 k lk3, ← hro0]; simp
  obtain ⟨s6, hs6⟩ : ∃ s6, s5 ++ [O.lst [.ref s3.length, .ref s4.length]] = s6 := ⟨_, rfl⟩
  have pre6 : s5 <+: s6 := by rw [← hs6]; exact pre_app _ _
  have l6 : s6.length = s5.length + 1 := by rw [← hs6]; simp
  rw [hs6]
  have hk6 := at_pre pre6 hk5
  refine (house_ok (ro := roB) (c' := 3) hk6 (by decide) rk).no ?_
  rintro _ s7 ⟨rfl, o1, ro7, ho1, O1, l7, k7⟩
  simp
  have hk7 : at_ s7 k = some (.dct kvs) := by rw [(k7 k (at_lt hk6)).2]; exact hk6
  have rk7 : (ro7 k).1 = 9 := by rw [(k7 k (at_lt hk6)).1]; exact rk
  refine (house_ok (ro := ro7) (c' := 4) hk7 (by decide) rk7).no ?_
  rintro _ s8 ⟨rfl, o2, ro8, ho2, O2, l8, k8⟩
  have hk8 : at_ s8 k = some (.dct kvs) := by rw [(k8 k (at_lt hk7)).2]; exact hk7
  obtain ⟨s9, hs9⟩ : ∃ s9, s8 ++ [O.lst [.ref s6.length, .ref s7.length]] = s9 := ⟨_, rfl⟩
  have pre9 : s8 <+: s9 := by rw [← hs9]; exact pre_app _ _
  have hk9 := at_pre pre9 hk8
  have ol : oList [.ref k] s9 = some (.ref s9.length, s9 ++ [.lst (ps.map D.str)]) := by
    have h' : s9[k]? = some (.dct kvs) := hk9
    simp [oList, rdL, rdD, h', keys_strs hS]
  simp [hs9, ol]
  have sc9 : SAt s9 d ns := ((sc3.keep (s' := s5) fun hd => by have := sc3.lt hd; rw [(k5 0 (by omega)).2, (k4 0 (by omega)).2]).pre pre6 |>.keep (s' := s8) fun hd => by
    have := sc3.lt hd
    rw [(k8 0 (by omega)).2, (k7 0 (by omega)).2]).pre pre9
  have sc10 := sc9.pre (pre_app s9 [.lst (ps.map D.str)])
  refine (sc10.at (X := nX) 1).no ?_
  rintro _ x10 ⟨rfl, hx10⟩
  rw [hx10]
  clear hx10
  have sc11 := sc10.pre (pre_app (s9 ++ [.lst (ps.map D.str)]) [.lst [.int (ns.getD 1 0)]])
  have osl := sc11.sl (lo := some 2) (hi := some 41)
  simp at osl
  simp [osl]
  obtain ⟨zc, hzc⟩ : ∃ zc : List Int, DL.cutD (ns.map D.int) (some 2) (some 41) = zc.map D.int ∧ zc.length ≤ 39 := by
    refine ⟨_, cut_map, ?_⟩
    rw [List.length_take, List.length_drop]
    have b1 : HT.sIx ns.length ns.length (some 41) ≤ 41 := by
      simp [HT.sIx]
      omega
    have b2 : HT.sIx ns.length 0 (some 2) = min 2 ns.length := by
      simp [HT.sIx]
    omega
  obtain ⟨hzc, hzl⟩ := hzc
  rw [hzc]
  obtain ⟨c1, hc1⟩ : ∃ c1, ns[1]?.getD 0 = c1 := ⟨_, rfl⟩
  rw [hc1]
  have oa := oAdd_lst (s := s9 ++ [O.lst (ps.map D.str), O.lst [D.int c1], O.lst (zc.map D.int)]) (i := s9.length + 1) (j := s9.length + 2) at_app_len1 at_app_len2 (by simp; omega)
  simp at oa
  simp [oa]
  obtain ⟨sE, hsE⟩ : ∃ sE, s9 ++ [O.lst (ps.map D.str), O.lst [D.int c1], O.lst (zc.map D.int), O.lst (.int c1 :: zc.map D.int)] = sE := ⟨_, rfl⟩
  have preE : s9 <+: sE := by rw [← hsE]; exact pre_app _ _
  have eP : at_ sE s9.length = some (.lst (ps.map D.str)) := by rw [← hsE]; exact at_app_len
  have eC_ : at_ sE (s9.length + 3) = some (.lst (.int c1 :: zc.map D.int)) := by
    rw [← hsE, at_app_r (by omega)]
    have : s9.length + 3 - s9.length = 3 := by omega
    rw [this]
    rfl
  rw [hsE]
  have hc3 : (fun _ : Sto => True) = fun _ => True := rfl
  simp [eC_]
  -- roles of all
  obtain ⟨roE, hroE⟩ : ∃ roE : Ro, (fun q => if q < s8.length then ro8 q else (8, 0)) = roE := ⟨_, rfl⟩
  have rE1 : ∀ q, q < s8.length → roE q = ro8 q := fun q hq => by rw [← hroE]; simp only; rw [if_pos hq]
  have rE2 : ∀ q, s8.length ≤ q → roE q = (8, 0) := fun q hq => by rw [← hroE]; simp only; rw [if_neg (by omega)]
  have pre8E : s8 <+: sE := pre9.trans preE
  have at8 : ∀ q, q < s8.length → at_ sE q = at_ s8 q := fun q hq => by
    obtain ⟨z, rfl⟩ := pre8E
    exact at_app_l hq
  have l9 : s9.length = s8.length + 1 := by rw [← hs9]; simp
  -- from the first house on
  have f56 : ∀ q, q < s5.length → at_ sE q = at_ s5 q ∧ roE q = ro2 q := fun q hq => by
    refine ⟨?_, ?_⟩
    · rw [at8 q (by omega), (k8 q (by omega)).2, (k7 q (by omega)).2, ← hs6]
      exact at_app_l hq
    · rw [rE1 q (by omega), (k8 q (by omega)).1, (k7 q (by omega)).1, rB1 q hq]
  have H2E : HAt sE roE 2 g2 A0 [] := H2.frame (fun q hq => (f56 q hq).2) fun q hq _ => (f56 q hq).1
  have H1E : HAt sE roE 1 g1 A0 [] := H1.frame (fun q hq => by rw [(f56 q (by omega)).2, (k5 q hq).1]) fun q hq _ => by rw [(f56 q (by omega)).1, (k5 q hq).2]
  have O1E : OAt sE roE 3 o1 kvs A0 [] := O1.frame (fun q hq => by rw [rE1 q (by omega), (k8 q hq).1]) fun q hq _ => by rw [at8 q (by omega), (k8 q hq).2]
  have O2E : OAt sE roE 4 o2 kvs A0 [] := O2.frame (fun q hq => rE1 q hq) fun q hq _ => at8 q hq
  have ph0 : phi ps A0 ≤ 336 + 0 := by
    have := hS.p8
    simp [phi]
    omega
  have HO1 : HO ps nms (bdOf kvs) kvs sE roE 1 3 s3.length s6.length A0 0 := ⟨g1, o1, hg1, ho1, H1E, O1E, bds_ok hS hD hf1, good0, sml0, lg0, ph0⟩
  have HO2 : HO ps nms (bdOf kvs) kvs sE roE 2 4 s4.length s7.length A0 0 := ⟨g2, o2, hg2, ho2, H2E, O2E, bds_ok hS hD hf2, good0, sml0, lg0, ph0⟩
  have old3 : ∀ q, q < s3.length → at_ sE q = at_ s3 q ∧ roE q = ro0 q := fun q hq => ⟨by rw [(f56 q (by omega)).1, (k5 q (by omega)).2, (k4 q hq).2], by rw [(f56 q (by omega)).2, r0 q hq]⟩
  have r8 : ∀ q, q ≠ k → (ro0 q).1 = 8 := fun q hq => by rw [← hro0]; simp [hq]
  have MM : Mi sE roE s5.length s8.length s9.length (s9.length + 3) L s3.length s4.length s6.length s7.length ps fs (.int c1 :: zc.map D.int) := by
    refine ⟨?_, ?_, eP, eC_, ⟨?_, fun j f hf => ?_, hF.nd⟩, ?_, ?_, ?_, ?_, ?_, fun f hf => ?_⟩
    · rw [at8 _ (by omega), (k8 _ (by omega)).2, (k7 _ (by omega)).2, ← hs6]
      exact at_app_len
    · refine at_pre preE ?_
      rw [← hs9]
      exact at_app_len
    · rw [(old3 L (at_lt hF.l)).1]
      exact hF.l
    · rw [(old3 f.1 (at_lt (hF.d j f hf))).1]
      exact hF.d j f hf
    · rw [rE1 _ (by omega), (k8 _ (by omega)).1, (k7 _ (by omega)).1, rB2 _ (Nat.le_refl _)]
    · rw [rE2 _ (Nat.le_refl _)]
    · rw [rE2 _ (by omega)]
    · rw [rE2 _ (by omega)]
    · rw [(old3 L (at_lt hF.l)).2]
      exact r8 L (by omega)
    · obtain ⟨j, hj⟩ := List.mem_iff_getElem?.mp hf
      have := hge f hf
      rw [(old3 f.1 (at_lt (hF.d j f hj))).2]
      exact r8 f.1 (by omega)
  refine forL_inv (LI ps nms kvs fs d (.str (fsPy fs).shown) s.length k L s5.length s8.length s9.length (s9.length + 3) s3.length s4.length s6.length s7.length (.int c1 :: zc.map D.int)) ⟨roE, A0, A0, 0, none, none, none, none, none, c1 :: zc, rfl, rfl, by simp; omega, HO1, HO2, MM⟩ ?_ ?_ ?_
  · rintro rest env s' ⟨ro, A1, A2, t, e8, e9, e10, e11, e12, zs, rfl, _, _, _, _, m⟩
    simp [m.c]
  · rintro x rest env s' ⟨ro, A1, A2, t, e8, e9, e10, e11, e12, zs, rfl, hr, ht, x1, x2, m⟩
    cases zs with
    | nil => cases hr
    | cons z zs =>
      simp only [List.map_cons, List.cons.injEq] at hr
      obtain ⟨rfl, rfl⟩ := hr
      rw [List.length_cons] at ht
      exact ⟨_, rfl, step_ok (cs := .int c1 :: zc.map D.int) hS ht rfl x1 x2 m fun env s'' q => q⟩
  · rintro env s' ⟨ro, A1, A2, t, e8, e9, e10, e11, e12, zs, rfl, hr, ht, x1, x2, m⟩
    simp [repr_fs hS.pn hS.nn hsm hl3 m.f]
end
theorem law_true (ns : List Int) (d : D) (s : Sto) (hn : ns.length ≤ 63) (h : DH.Scr ns d s) : ∃ s1, f_law [d] s = .ok (.bl true) s1 := by
  have hs : s.length ≤ 1 := by cases h <;> simp
  obtain ⟨v, s1, e, rfl⟩ := (law_wp hn (scr_at h) hs).ex
  exact ⟨s1, e⟩
section
end
end G31
set_option maxHeartbeats 0
theorem PySem.Challenge.cw_halfmade_k31_whole_runs_in_order_holds : PySem.Challenge.rw_halfmade_k31_whole_runs_in_order.Holds := by
  exact G31.mathHolds fun ns d s hl _ sc => G31.law_true ns d s hl sc

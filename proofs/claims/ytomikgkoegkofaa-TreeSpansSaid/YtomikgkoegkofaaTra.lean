import Derived.Test.YtomikgkoegkofaaDvb
namespace Go.Proofs.Ytomikgkoegkofaa.dv
open Go.ChangeShapes Go.WideShapes Go.ChangeAt Go.RowKit Go.Maps Go.WideMaps Go.WideElems Go.Shelf
set_option linter.unusedVariables false
attribute [local go_sem] Oper.semAt_some
/-! a range over a function whose iterator writes cells of its own between two rounds: what the statement itself lays (a record l, a block D) is told apart from what the caller keeps; the caller walks the iterator's call itself -/
/-- how a round may be left: jump none: it goes on -/
def rawPost (B : Nat) (R : Option Code → World → Prop) (U : World) : Exit → Act → World → Prop
  | .normal, _, W => KeepsFrom B U W ∧ R none W
  | .ret, _, W => KeepsFrom B U W ∧ R (some .ret) W
  | .exit id, _, W => KeepsFrom B U W ∧ R (some (.exit id)) W
  | .goto t, _, W => KeepsFrom B U W ∧ R (some (.goto t)) W
  | .panic _, _, _ => False
  | .outgrown, _, _ => False
/-- a predicate that the turn of the block l does not fell, as long as l holds no cells -/
def Light (l : Nat) (R : World → Prop) : Prop := ∀ A o o', R A → A.heap[l]? = some o → o.isCells = false → R (A.putObj l o')
/-- what may be said of a round: where the body's walk is given, yield answers -/
def Yields (F : Fence) (n : Nat) (P : Program) (B l : Nat) (ps : Array Tmp) (assign body : Code) (tmps : Array Value) (Rdy : World → Prop) (Stp : Code → World → Prop) : Prop :=
  ∀ (W : World) (args : Array Value) (I0 : World → Prop) (R : Option Code → World → Prop), args.size = ps.size → Rdy W → I0 W → Light l I0 → (∀ j, Light l (R j)) →
    (∃ a', (∀ K : Act → World → Prop, K a' W → assign.wpIn (F.inRound l) n P (Exit.then K (fun _ _ _ => False)) { tmps := (ps.zip args).foldl (fun t (p, v) => t.setIfInBounds p v) tmps, defers := [] } W) ∧
      ∀ U r, I0 U → U.heap[l]? = some (.loop r) → body.wpIn (F.inRound l) n P (rawPost B R U) a' U) →
    YieldAt F n P l args W fun e W' => (e = .returned (.bool true) ∧ Rdy W' ∧ R none W') ∨ (e = .returned (.bool false) ∧ ∃ c, Stp c W' ∧ R (some c) W')
theorem range_raw {F : Fence} {n : Nat} {P : Program} {g : Operand} {ps : Array Tmp} {assign body : Code} {Q : Exit → Act → World → Prop} {a : Act} {w : World}
    (hro : F.round = none) (h1 : 1 ≤ n) {gf : Nat} {lb : Array Value} (hg : a.eval g = .func (.func gf) #[] lb) (hFg : F.fn gf) (eg : ∀ args w, (callFunc gf args).run P w = .ok (.enter gf args) w)
    (Dn : World → Prop) (Sx : Code → World → Prop)
    (h : ∀ (W1 : World) (Rdy : World → Prop) (Stp : Code → World → Prop), W1.heap.size = w.heap.size + 2 → w.grownBy W1 none → Rdy W1 →
      (∀ A B : World, Rdy A → (∀ k o, w.heap.size ≤ k → k ≤ w.heap.size + 1 → o.isCells = false → A.heap[k]? = some o → B.heap[k]? = some o) → Rdy B) →
      (∀ c (A B : World), Stp c A → (∀ k o, w.heap.size ≤ k → k ≤ w.heap.size + 1 → o.isCells = false → A.heap[k]? = some o → B.heap[k]? = some o) → Stp c B) →
      Yields F (n - 1 - 1) P w.heap.size (w.heap.size + 1) ps assign body a.tmps Rdy Stp →
      CallsIn F (n - 1) P gf (#[.func (.yield (w.heap.size + 1)) #[] #[]] ++ lb) W1 fun e W' => (∃ v, e = .returned v) ∧ ((Rdy W' ∧ Dn W') ∨ ∃ c, Stp c W' ∧ Sx c W'))
    (hDn : Light (w.heap.size + 1) Dn) (hSx : ∀ c, Light (w.heap.size + 1) (Sx c))
    (hdone : ∀ W, Dn W → W.heap[w.heap.size]? = some (.deferred (some [])) → Q .normal { a with defers := { target := .collected w.heap.size, args := #[] } :: a.defers } W)
    (hstop : ∀ c W, Sx c W → W.heap[w.heap.size]? = some (.deferred (some [])) → c.wpIn F n P Q { a with defers := { target := .collected w.heap.size, args := #[] } :: a.defers } W) :
    (Code.rangeFunc g ps assign body).wpIn F n P Q a w := by
  refine wpIn_rangeFunc fun fn hfn => ?_
  rw [hro]
  obtain ⟨rec, hrec⟩ : ∃ rec : LoopState → Option Code → Loop, rec = fun st pe => { state := st, pending := pe, fn, tmps := a.tmps, params := ps, assign, body, defers := w.heap.size } := ⟨_, rfl⟩
  obtain ⟨W1, hW1⟩ : ∃ W1, (w.alloc (.deferred (some []))).alloc (.loop (rec .ready none)) = W1 := ⟨_, rfl⟩
  have hL1 : W1.heap[w.heap.size + 1]? = some (.loop (rec .ready none)) := by
    have := World.alloc_heap_new (w.alloc (.deferred (some []))) (.loop (rec .ready none))
    rw [World.size_alloc, hW1] at this
    exact this
  have hD1 : W1.heap[w.heap.size]? = some (.deferred (some [])) := by
    rw [← hW1]
    exact (Below.heap_alloc _ _ _ (by simp)).trans (World.alloc_heap_new w _)
  have hs1 : W1.heap.size = w.heap.size + 2 := by rw [← hW1]; simp
  have hg1 : w.grownBy W1 none := by rw [← hW1]; exact (World.grownBy_alloc w _ none).trans (World.grownBy_alloc _ _ none)
  refine ⟨w.heap.size + 1, [{ target := .collected w.heap.size, args := #[] }], W1, { target := .fn (.func gf) lb, args := #[.func (.yield (w.heap.size + 1)) #[] #[]] }, W1, gf,
    #[.func (.yield (w.heap.size + 1)) #[] #[]] ++ lb, W1, ?_, ?_, ?_, ?_, fun _ => h1, ?_⟩
  · rw [← hW1, hrec]; exact run_enterLoop_outer _ _ _ _ _
  · simp only [resolve, hg]
    simp [go_sem]
  · intro f' hf'; simp [Target.leads] at hf'; subst hf'; exact hFg
  · simp [invoke, go_sem, eg]
  refine (h W1 (fun W => W.heap[w.heap.size + 1]? = some (.loop (rec .ready none)) ∧ W.heap[w.heap.size]? = some (.deferred (some [])))
    (fun c W => W.heap[w.heap.size + 1]? = some (.loop (rec .done (some c))) ∧ W.heap[w.heap.size]? = some (.deferred (some []))) hs1 hg1 ⟨hL1, hD1⟩
    (fun A B hA hk => ⟨hk _ _ (by omega) (by omega) rfl hA.1, hk _ _ (by omega) (by omega) rfl hA.2⟩)
    (fun c A B hA hk => ⟨hk _ _ (by omega) (by omega) rfl hA.1, hk _ _ (by omega) (by omega) rfl hA.2⟩) ?_).mono ?_
  · rintro W args I0 R hps ⟨hl, hk⟩ hI0 hLI hLR ⟨a', has, hbd⟩
    have hlt : w.heap.size + 1 < W.heap.size := (Array.getElem?_eq_some_iff.1 hl).1
    have hy := run_yield (P := P) (args := args) hl (by rw [hrec]; exact hps)
    rw [hrec] at hy
    refine ⟨fn, _, assign, body, hy, roundIn_of_wpIn hfn (has _ ?_)⟩
    clear hy
    refine ⟨_, run_beginRound hl (by rw [hrec]), ?_⟩
    have hl2 : (W.putObj (w.heap.size + 1) (.loop { rec .ready none with state := .busy })).heap[w.heap.size + 1]? = some (.loop { rec .ready none with state := .busy }) := World.putObj_heap_same hlt
    have hk2 : (W.putObj (w.heap.size + 1) (.loop { rec .ready none with state := .busy })).heap[w.heap.size]? = some (.deferred (some [])) := (World.putObj_heap_other (by omega)).trans hk
    refine wpIn_mono (hbd _ _ (hLI _ _ _ hI0 hl rfl) hl2) ?_
    have fin : ∀ (jump : Option Code) (W3 : World), KeepsFrom w.heap.size (W.putObj (w.heap.size + 1) (.loop { rec .ready none with state := .busy })) W3 →
        (Instr.endRound (w.heap.size + 1) jump).run P W3 = .ok (.bool jump.isNone) (W3.putObj (w.heap.size + 1) (.loop (rec (if jump.isNone then .ready else .done) jump))) ∧
        W3.heap[w.heap.size + 1]? = some (.loop { rec .ready none with state := .busy }) ∧
        (W3.putObj (w.heap.size + 1) (.loop (rec (if jump.isNone then .ready else .done) jump))).heap[w.heap.size + 1]? = some (.loop (rec (if jump.isNone then .ready else .done) jump)) ∧
        (W3.putObj (w.heap.size + 1) (.loop (rec (if jump.isNone then .ready else .done) jump))).heap[w.heap.size]? = some (.deferred (some [])) := fun jump W3 hk3 => by
      have hl3 := hk3.same _ _ (by omega) hl2 rfl
      have := run_endRound (P := P) jump hl3
      rw [hrec] at this ⊢
      exact ⟨this, by rw [hrec] at hl3; exact hl3, World.putObj_heap_same (Array.getElem?_eq_some_iff.1 hl3).1, (World.putObj_heap_other (by omega)).trans (hk3.same _ _ (Nat.le_refl _) hk2 rfl)⟩
    rintro e a3 W3 hp
    cases e with
    | normal =>
      obtain ⟨hk3, hr3⟩ := hp
      obtain ⟨hr, hl3, hl4, hk4⟩ := fin none W3 hk3
      exact ⟨_, _, hr, .inl ⟨rfl, ⟨hl4, hk4⟩, hLR _ _ _ _ hr3 hl3 rfl⟩⟩
    | ret =>
      obtain ⟨hk3, hr3⟩ := hp
      obtain ⟨hr, hl3, hl4, hk4⟩ := fin (some .ret) W3 hk3
      exact ⟨_, _, hr, .inr ⟨rfl, .ret, ⟨hl4, hk4⟩, hLR _ _ _ _ hr3 hl3 rfl⟩⟩
    | exit id =>
      obtain ⟨hk3, hr3⟩ := hp
      obtain ⟨hr, hl3, hl4, hk4⟩ := fin (some (.exit id)) W3 hk3
      exact ⟨_, _, hr, .inr ⟨rfl, .exit id, ⟨hl4, hk4⟩, hLR _ _ _ _ hr3 hl3 rfl⟩⟩
    | goto t =>
      obtain ⟨hk3, hr3⟩ := hp
      obtain ⟨hr, hl3, hl4, hk4⟩ := fin (some (.goto t)) W3 hk3
      exact ⟨_, _, hr, .inr ⟨rfl, .goto t, ⟨hl4, hk4⟩, hLR _ _ _ _ hr3 hl3 rfl⟩⟩
    | panic ch => exact hp.elim
    | outgrown => exact hp.elim
  · rintro e W2 ⟨⟨v, rfl⟩, (⟨⟨hl, hk⟩, hd⟩ | ⟨c, ⟨hl, hk⟩, hs⟩)⟩
    · exact ⟨none, _, by have := run_endLoop (P := P) hl (by rw [hrec]; simp); rw [hrec] at this; exact this, hdone _ (hDn _ _ _ hd hl rfl) ((World.putObj_heap_other (by omega)).trans hk)⟩
    · exact ⟨some c, _, by have := run_endLoop (P := P) hl (by rw [hrec]; simp); rw [hrec] at this; exact this, hstop c _ (hSx c _ _ _ hs hl rfl) ((World.putObj_heap_other (by omega)).trans hk)⟩
end Go.Proofs.Ytomikgkoegkofaa.dv

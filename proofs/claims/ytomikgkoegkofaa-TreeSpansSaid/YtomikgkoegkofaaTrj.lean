import Derived.Test.YtomikgkoegkofaaTri
namespace Go.Proofs.Ytomikgkoegkofaa.dt
open Go.ChangeShapes Go.WideShapes Go.ChangeAt Go.RowKit Go.Maps Go.WideMaps Go.WideElems Go.Shelf Go.Proofs.Ytomikgkoegkofaa.dv
set_option linter.unusedVariables false
set_option linter.unusedSimpArgs false
attribute [local go_sem] Oper.semAt_some
/-! a range over a tree that grows while it is gone through -/
theorem KidsAt.light {W : World} {b l : Nat} {kb : List Nat} {o o' : Obj} (h : KidsAt W b kb) (ho : W.heap[l]? = some o) (hc : o.isCells = false) : KidsAt (W.putObj l o') b kb := by
  obtain ⟨s, r, v, h1, h2⟩ := h
  have hr : ∀ r, some l = some r → ∃ o : Obj, W.heap[r]? = some o ∧ o.isCells = false := fun r e => by cases e; exact ⟨o, ho, hc⟩
  exact ⟨s, r, v, h1.grownC (grownBy_putObj' W l o') hr, own_grown h2 (grownBy_putObj' W l o') (row_noncells h2 hr)⟩
def growPost (m : Nat) (J1 : List (Nat × Nat) → World → Prop) (Ix : Code → World → Prop) (b lv : Nat) (rest : List (Nat × Nat)) (U : World) : Option Code → World → Prop
  | none, W => (∃ kb, KidsAt W b kb ∧ J1 (kb.map (fun c => (c, lv + 1)) ++ rest) W) ∧ KeepM m U W
  | some c, W => Ix c W ∧ KeepM m U W
theorem grow_any {g : Operand} {p1 p2 : Tmp} {assign body : Code} {Q : Exit → Act → World → Prop} {a : Act} {w0 : World} (Bt b0 N : Nat)
    (hg : a.eval g = .func (.func 79) #[] #[.pointer (some ⟨Bt, 0, none⟩)]) (hBt : w0.cell? ⟨Bt, 0, none⟩ = some (PtrV b0))
    (J : Nat → List (Nat × Nat) → World → Prop) (Ix : Code → World → Prop) (hJ : ∀ k s, Abid w0.heap.size (J k s)) (hIx : ∀ c, Abid w0.heap.size (Ix c)) (h0 : J N [(b0, 1)] w0)
    (hb : ∀ k s W, J k s W → s.length ≤ 1000000 ∧ ∀ x ∈ s, x.2 ≤ 1000000) (hk : ∀ k x s W, J k (x :: s) W → ∃ k', k = k' + 1)
    (hround : ∀ (b lv : Nat), ∃ a', (∀ (W : World) (K : Act → World → Prop), K a' W → assign.wpIn (Fence.wide.inRound (w0.heap.size + 1)) 2 Try.prog (Exit.then K (fun _ _ _ => False)) { tmps := (a.tmps.setIfInBounds p1 (PtrV b)).setIfInBounds p2 (.int .i64 (lv : Int)), defers := [] } W) ∧
      ∀ k rest U r, J (k + 1) ((b, lv) :: rest) U → w0.heap.size + 2 ≤ U.heap.size → U.heap[w0.heap.size + 1]? = some (.loop r) → body.wpIn (Fence.wide.inRound (w0.heap.size + 1)) 2 Try.prog (rawPost w0.heap.size (growPost (w0.heap.size + 2) (J k) Ix b lv rest U) U) a' U)
    (hdone : ∀ k W, J k [] W → W.heap[w0.heap.size]? = some (.deferred (some [])) → Q .normal { a with defers := { target := .collected w0.heap.size, args := #[] } :: a.defers } W)
    (hstop : ∀ c W, Ix c W → W.heap[w0.heap.size]? = some (.deferred (some [])) → c.wpIn Fence.wide 4 Try.prog Q { a with defers := { target := .collected w0.heap.size, args := #[] } :: a.defers } W) :
    (Code.rangeFunc g #[p1, p2] assign body).wpIn Fence.wide 4 Try.prog Q a w0 := by
  refine range_raw (F := Fence.wide) (n := 4) rfl (by decide) hg trivial (enters_of Try.func79 (by kernel_rfl) rfl) (fun W => ∃ k, J k [] W) (fun c W => Ix c W) ?_ ?_ (fun c => light_abid (hIx c) (by omega)) (fun W ⟨k, h⟩ q => hdone k W h q) hstop
  · intro W1 Rdy Stp hs1 hg1 hr1 hRk hSk hYl
    have hab : ∀ (A B : World) (row : Option Nat), A.grownBy B row → (∀ r, row = some r → W1.heap.size ≤ r ∧ ∃ o : Obj, A.heap[r]? = some o ∧ Mine o) → ∀ k o, w0.heap.size ≤ k → k ≤ w0.heap.size + 1 → o.isCells = false → A.heap[k]? = some o → B.heap[k]? = some o := fun A B row hg hr k o h1 h2 _ ho =>
      (hg.block k (Array.getElem?_eq_some_iff.1 ho).1 (fun e => by have := (hr k e.symm).1; omega)).trans ho
    have hup : ∀ {A : World} {row : Option Nat}, (∀ r, row = some r → W1.heap.size ≤ r ∧ ∃ o : Obj, A.heap[r]? = some o ∧ Mine o) → ∀ r, row = some r → w0.heap.size ≤ r ∧ ∃ o : Obj, A.heap[r]? = some o ∧ Mine o := fun hr r e => by
      obtain ⟨g1, g2⟩ := hr r e
      exact ⟨by omega, g2⟩
    refine (all1_any (w0.heap.size + 1) W1.heap.size Bt b0 N (fun k s W => J k s W ∧ Rdy W ∧ W1.heap.size ≤ W.heap.size) (fun W => ∃ c, Stp c W ∧ Ix c W) W1 rfl ?_ ?_ ?_ ?_ ?_ ?_).mono ?_
    · rintro k s A B row ⟨h5, h6, h7⟩ hg hr
      exact ⟨hJ k s A B row h5 hg (hup hr), hRk A B h6 (hab A B row hg hr), Nat.le_trans h7 hg.size⟩
    · rintro A B row ⟨c, h1, h2⟩ hg hr
      exact ⟨c, hSk c A B h1 (hab A B row hg hr), hIx c A B row h2 hg (hup hr)⟩
    · rintro k s W ⟨h1, _⟩
      exact hb k s W h1
    · rintro k b lv rest W2 ⟨h5, h6, h7⟩
      obtain ⟨k', rfl⟩ := hk _ _ _ _ h5
      refine ⟨k', rfl, ?_⟩
      obtain ⟨a', ha, hbd⟩ := hround b lv
      have hl1 : w0.heap.size + 1 < w0.heap.size + 2 := by omega
      refine YieldAt.mono (hYl W2 #[PtrV b, .int .i64 (lv : Int)] (fun U => J (k' + 1) ((b, lv) :: rest) U ∧ KeepM (w0.heap.size + 2) W2 U) (growPost (w0.heap.size + 2) (J k') Ix b lv rest W2) rfl h6 ⟨h5, KeepM.refl _ _⟩ ?_ ?_ ⟨a', fun K hK => by rw [fold_two]; exact ha W2 K hK, fun U r hU hr => ?_⟩) ?_
      · rintro A o o' ⟨q1, q3⟩ ho hc
        exact ⟨light_abid (hJ _ _) (by omega) A o o' q1 ho hc, light_keep hl1 A o o' q3 ho hc⟩
      · rintro (_ | c) A o o' hq ho hc
        · obtain ⟨⟨kb, q1, q2⟩, q3⟩ := hq
          exact ⟨⟨kb, q1.light ho hc, light_abid (hJ _ _) (by omega) A o o' q2 ho hc⟩, light_keep hl1 A o o' q3 ho hc⟩
        · exact ⟨light_abid (hIx c) (by omega) A o o' hq.1 ho hc, light_keep hl1 A o o' hq.2 ho hc⟩
      · refine wpIn_mono (hbd k' rest U r hU.1 (by have := hU.2.1; omega) hr) (rawPost_mono ?_)
        rintro (_ | c) W hq
        · exact ⟨hq.1, hU.2.trans hq.2⟩
        · exact ⟨hq.1, hU.2.trans hq.2⟩
      · rintro e W' (⟨rfl, hR, ⟨kb, q1, q2⟩, q3⟩ | ⟨rfl, c, hS, hq⟩)
        · exact .inl ⟨rfl, ⟨kb, q1, q2, hR, by have := q3.1; omega⟩, by rw [hs1]; exact q3⟩
        · exact .inr ⟨rfl, ⟨c, hS, hq.1⟩, by rw [hs1]; exact hq.2⟩
    · exact cell_kept hBt hg1 (fun r e => by cases e)
    · exact ⟨hJ _ _ w0 W1 none h0 hg1 (fun r e => by cases e), hr1, Nat.le_refl _⟩
    · rintro e W' ⟨hv, (⟨k, h5, h6, _⟩ | ⟨c, h1, h2⟩)⟩
      · exact ⟨hv, .inl ⟨h6, k, h5⟩⟩
      · exact ⟨hv, .inr ⟨c, h1, h2⟩⟩
  · rintro A o o' ⟨k, h1⟩ ho hc
    exact ⟨k, light_abid (hJ _ _) (by omega) A o o' h1 ho hc⟩
/-- what has been gone through, from one stack to another -/
inductive Vis (W : World) : List (Nat × Nat) → List Nd → List (Nat × Nat) → Prop
  | nil (s : List (Nat × Nat)) : Vis W s [] s
  | cons {b lv : Nat} {rest s' : List (Nat × Nat)} {sy ru : Int} {v : Value} {kb : List Nat} {ns : List Nd} (h1 : Blk W b 65 #[.int .i64 sy, .int .i64 ru, v]) (h2 : W.ownsRow 0 53 1 v kb.length (PV kb))
      (h3 : Vis W (kb.map (fun c => (c, lv + 1)) ++ rest) ns s') : Vis W ((b, lv) :: rest) (⟨b, sy, ru, lv⟩ :: ns) s'
theorem Vis.stack {W : World} {s s' : List (Nat × Nat)} {ns : List Nd} (h : Vis W s ns s') (hs : s' = []) : StackAt W s ns := by
  induction h with
  | nil s => subst hs; exact .nil
  | cons h1 h2 h3 ih => exact .cons h1 h2 (ih hs)
theorem Vis.snoc {W : World} {s s' : List (Nat × Nat)} {ns : List Nd} (h : Vis W s ns s') {b lv : Nat} {rest : List (Nat × Nat)} {sy ru : Int} {v : Value} {kb : List Nat} (hs : s' = (b, lv) :: rest) (h1 : Blk W b 65 #[.int .i64 sy, .int .i64 ru, v]) (h2 : W.ownsRow 0 53 1 v kb.length (PV kb)) :
    Vis W s (ns ++ [⟨b, sy, ru, lv⟩]) (kb.map (fun c => (c, lv + 1)) ++ rest) := by
  induction h with
  | nil s => subst hs; exact .cons h1 h2 (.nil _)
  | cons g1 g2 g3 ih => exact .cons g1 g2 (ih hs)
/-- a turn that meets none of these nodes, and no row of nodes -/
theorem Vis.kept {W W' : World} {s s' : List (Nat × Nat)} {ns : List Nd} (h : Vis W s ns s') {row : Option Nat} (hg : W.grownBy W' row) (hn : ∀ x ∈ ns, some x.b ≠ row) (hr : ∀ r, row = some r → ∀ cs fz, W.heap[r]? ≠ some (.cells cs 53 fz)) : Vis W' s ns s' := by
  induction h with
  | nil s => exact .nil s
  | @cons b lv rest s' sy ru v kb ns h1 h2 h3 ih =>
    refine .cons (h1.grown hg (hn ⟨b, sy, ru, lv⟩ (by simp))) (own_grown h2 hg ?_) (ih fun x hx => hn x (by simp [hx]))
    cases hv : v.ownBlock with
    | none => exact .inl rfl
    | some r =>
      right
      intro e
      obtain ⟨_, cs, fz, ho⟩ := row_obj h2 r hv
      exact hr r e.symm cs fz ho
end Go.Proofs.Ytomikgkoegkofaa.dt

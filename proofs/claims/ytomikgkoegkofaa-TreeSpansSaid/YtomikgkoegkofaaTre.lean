import Derived.Test.YtomikgkoegkofaaTrd
namespace Go.Proofs.Ytomikgkoegkofaa.dt
open Go.ChangeShapes Go.WideShapes Go.ChangeAt Go.RowKit Go.Maps Go.WideMaps Go.WideElems Go.Shelf Go.Proofs.Ytomikgkoegkofaa.dv
set_option linter.unusedVariables false
set_option linter.unusedSimpArgs false
attribute [local go_sem] Oper.semAt_some
/-! a tree that lies: its nodes in their order; a range over them -/
structure Nd where
  b : Nat
  sym : Int
  rule : Int
  lv : Nat
inductive StackAt (W : World) : List (Nat × Nat) → List Nd → Prop
  | nil : StackAt W [] []
  | cons {b lv : Nat} {rest : List (Nat × Nat)} {sy ru : Int} {v : Value} {kb : List Nat} {ns : List Nd} (h1 : Blk W b 65 #[.int .i64 sy, .int .i64 ru, v]) (h2 : W.ownsRow 0 53 1 v kb.length (PV kb))
      (h3 : StackAt W (kb.map (fun c => (c, lv + 1)) ++ rest) ns) : StackAt W ((b, lv) :: rest) (⟨b, sy, ru, lv⟩ :: ns)
theorem StackAt.le {W : World} {s : List (Nat × Nat)} {ns : List Nd} (h : StackAt W s ns) : s.length ≤ ns.length := by
  induction h with
  | nil => simp
  | cons h1 h2 h3 ih => simp only [List.length_cons, List.length_append, List.length_map] at ih ⊢; omega
theorem StackAt.kept {W W' : World} {s : List (Nat × Nat)} {ns : List Nd} (h : StackAt W s ns) (hb : Below W.heap.size W W') : StackAt W' s ns := by
  induction h with
  | nil => exact .nil
  | cons h1 h2 h3 ih => exact .cons (h1.below hb h1.lt) (ownsRow_keep h2 (fun g hg _ => hb.block g hg)) ih
theorem rawPost_mono {B : Nat} {R R' : Option Code → World → Prop} {U : World} (h : ∀ j W, R j W → R' j W) : ∀ e a W, rawPost B R U e a W → rawPost B R' U e a W
  | .normal, _, _, hp => ⟨hp.1, h _ _ hp.2⟩
  | .ret, _, _, hp => ⟨hp.1, h _ _ hp.2⟩
  | .exit _, _, _, hp => ⟨hp.1, h _ _ hp.2⟩
  | .goto _, _, _, hp => ⟨hp.1, h _ _ hp.2⟩
  | .panic _, _, _, hp => hp
  | .outgrown, _, _, hp => hp
theorem light_abid {m l : Nat} {R : World → Prop} (h : Abid m R) (hl : m ≤ l) : Light l R := fun A o o' hr ho hc => h A _ (some l) hr (grownBy_putObj' A l o') (fun r e => by cases e; exact ⟨hl, o, ho, mine_other hc⟩)
theorem light_keep {m l : Nat} {W : World} (hl : l < m) : Light l (fun U => KeepM m W U) := fun A o o' hr ho hc =>
  hr.trans ⟨(grownBy_putObj' A l o').size, fun k x hk hx _ => (World.putObj_heap_other (by omega)).trans hx⟩
/-- how a round over a tree is left -/
def nodePost (m : Nat) (w : World) (I1 : World → Prop) (Ix : Code → World → Prop) (U : World) : Option Code → World → Prop
  | none, W => I1 W ∧ Below w.heap.size w W ∧ KeepM m U W
  | some c, W => Ix c W ∧ KeepM m U W
theorem fold_two (p1 p2 : Tmp) (v1 v2 : Value) (t : Array Value) : (#[p1, p2].zip #[v1, v2]).foldl (fun t (p, v) => t.setIfInBounds p v) t = (t.setIfInBounds p1 v1).setIfInBounds p2 v2 := by simp
theorem walk_any {g : Operand} {p1 p2 : Tmp} {assign body : Code} {Q : Exit → Act → World → Prop} {a : Act} {w0 : World} (w : World) (Bt b0 : Nat) (ns : List Nd)
    (hg : a.eval g = .func (.func 79) #[] #[.pointer (some ⟨Bt, 0, none⟩)]) (hB : Bt < w0.heap.size) (hBt : w0.cell? ⟨Bt, 0, none⟩ = some (PtrV b0)) (hs : StackAt w [(b0, 1)] ns) (hN : ns.length ≤ 999999) (hw : Below w.heap.size w w0)
    (I : Nat → World → Prop) (Ix : Code → World → Prop) (hI : ∀ i, Abid w0.heap.size (I i)) (hIx : ∀ c, Abid w0.heap.size (Ix c)) (h0 : I 0 w0)
    (hround : ∀ i x, ns[i]? = some x → ∃ a', (∀ (W : World) (K : Act → World → Prop), K a' W → assign.wpIn (Fence.wide.inRound (w0.heap.size + 1)) 2 Try.prog (Exit.then K (fun _ _ _ => False)) { tmps := (a.tmps.setIfInBounds p1 (PtrV x.b)).setIfInBounds p2 (.int .i64 (x.lv : Int)), defers := [] } W) ∧
      ∀ U r, I i U → Below w.heap.size w U → w0.heap.size + 2 ≤ U.heap.size → U.heap[w0.heap.size + 1]? = some (.loop r) → body.wpIn (Fence.wide.inRound (w0.heap.size + 1)) 2 Try.prog (rawPost w0.heap.size (nodePost (w0.heap.size + 2) w (I (i + 1)) Ix U) U) a' U)
    (hdone : ∀ W, I ns.length W → Below w.heap.size w W → W.heap[w0.heap.size]? = some (.deferred (some [])) → Q .normal { a with defers := { target := .collected w0.heap.size, args := #[] } :: a.defers } W)
    (hstop : ∀ c W, Ix c W → W.heap[w0.heap.size]? = some (.deferred (some [])) → c.wpIn Fence.wide 4 Try.prog Q { a with defers := { target := .collected w0.heap.size, args := #[] } :: a.defers } W) :
    (Code.rangeFunc g #[p1, p2] assign body).wpIn Fence.wide 4 Try.prog Q a w0 := by
  refine range_raw (F := Fence.wide) (n := 4) rfl (by decide) hg trivial (enters_of Try.func79 (by kernel_rfl) rfl) (fun W => I ns.length W ∧ Below w.heap.size w W) (fun c W => Ix c W) ?_ ?_ (fun c => light_abid (hIx c) (by omega)) (fun W h k => hdone W h.1 h.2 k) hstop
  · intro W1 Rdy Stp hs1 hg1 hr1 hRk hSk hYl
    have hw1 : Below w.heap.size w W1 := hw.grown hg1 hw.size (fun k e => by cases e)
    have hab : ∀ (A B : World) (row : Option Nat), A.grownBy B row → (∀ r, row = some r → W1.heap.size ≤ r ∧ ∃ o : Obj, A.heap[r]? = some o ∧ Mine o) → ∀ k o, w0.heap.size ≤ k → k ≤ w0.heap.size + 1 → o.isCells = false → A.heap[k]? = some o → B.heap[k]? = some o := fun A B row hg hr k o h1 h2 _ ho =>
      (hg.block k (Array.getElem?_eq_some_iff.1 ho).1 (fun e => by have := (hr k e.symm).1; omega)).trans ho
    refine (all1_any (w0.heap.size + 1) W1.heap.size Bt b0 ns.length (fun k s W => ∃ i, k + i = ns.length ∧ StackAt w s (ns.drop i) ∧ (∀ x ∈ s, x.2 ≤ i + 1) ∧ Below w.heap.size w W ∧ I i W ∧ Rdy W ∧ W1.heap.size ≤ W.heap.size) (fun W => ∃ c, Stp c W ∧ Ix c W) W1 rfl ?_ ?_ ?_ ?_ ?_ ?_).mono ?_
    · rintro k s A B row ⟨i, h1, h2, h3, h4, h5, h6, h7⟩ hg hr
      refine ⟨i, h1, h2, h3, h4.grown hg h4.size (fun r e => ?_), hI i A B row h5 hg (fun r e => ?_), hRk A B h6 (hab A B row hg hr), Nat.le_trans h7 hg.size⟩
      · have := (hr r e).1
        have := hw1.size
        omega
      · obtain ⟨g1, g2⟩ := hr r e
        exact ⟨by omega, g2⟩
    · rintro A B row ⟨c, h1, h2⟩ hg hr
      exact ⟨c, hSk c A B h1 (hab A B row hg hr), hIx c A B row h2 hg (fun r e => by obtain ⟨g1, g2⟩ := hr r e; exact ⟨by omega, g2⟩)⟩
    · rintro k s W ⟨i, h1, h2, h3, _⟩
      have := h2.le
      rw [List.length_drop] at this
      exact ⟨by omega, fun x hx => by have := h3 x hx; omega⟩
    · rintro k b lv rest W2 ⟨i, h1, h2, h3, h4, h5, h6, h7⟩
      generalize hd : ns.drop i = nd at h2
      cases h2 with
      | @cons _ _ _ sy ru v kb nd' g1 g2 g3 =>
        have hx : ns[i]? = some ⟨b, sy, ru, lv⟩ := by
          have := congrArg (fun l => l[0]?) hd
          simpa [List.getElem?_drop] using this
        have hlt : i < ns.length := (List.getElem?_eq_some_iff.1 hx).1
        have hd1 : ns.drop (i + 1) = nd' := by
          have := congrArg List.tail hd
          simpa [List.tail_drop] using this
        obtain ⟨k', rfl⟩ : ∃ k', k = k' + 1 := ⟨k - 1, by omega⟩
        refine ⟨k', rfl, ?_⟩
        obtain ⟨a', ha, hb⟩ := hround i _ hx
        have hl1 : w0.heap.size + 1 < w0.heap.size + 2 := by omega
        refine YieldAt.mono (hYl W2 #[PtrV b, .int .i64 (lv : Int)] (fun U => (I i U ∧ Below w.heap.size w U) ∧ KeepM (w0.heap.size + 2) W2 U) (nodePost (w0.heap.size + 2) w (I (i + 1)) Ix W2) rfl h6 ⟨⟨h5, h4⟩, KeepM.refl _ _⟩ ?_ ?_ ⟨a', fun K hK => by rw [fold_two]; exact ha W2 K hK, fun U r hU hr => ?_⟩) ?_
        · rintro A o o' ⟨⟨q1, q2⟩, q3⟩ ho hc
          exact ⟨⟨light_abid (hI i) (by omega) A o o' q1 ho hc, q2.grown (grownBy_putObj' A _ o') q2.size (fun r e => by cases e; have := hw.size; omega)⟩, light_keep hl1 A o o' q3 ho hc⟩
        · rintro (_ | c) A o o' hq ho hc
          · exact ⟨light_abid (hI (i + 1)) (by omega) A o o' hq.1 ho hc, hq.2.1.grown (grownBy_putObj' A _ o') hq.2.1.size (fun r e => by cases e; have := hw.size; omega), light_keep hl1 A o o' hq.2.2 ho hc⟩
          · exact ⟨light_abid (hIx c) (by omega) A o o' hq.1 ho hc, light_keep hl1 A o o' hq.2 ho hc⟩
        · refine wpIn_mono (hb U r hU.1.1 hU.1.2 (by have := hU.2.1; omega) hr) (rawPost_mono ?_)
          rintro (_ | c) W hq
          · exact ⟨hq.1, hq.2.1, hU.2.trans hq.2.2⟩
          · exact ⟨hq.1, hU.2.trans hq.2⟩
        · rintro e W' (⟨rfl, hR, hq⟩ | ⟨rfl, c, hS, hq⟩)
          · refine .inl ⟨rfl, ⟨kb, ⟨sy, ru, v, g1.below hq.2.1 g1.lt, ownsRow_keep g2 (fun g hg _ => hq.2.1.block g hg)⟩, i + 1, by omega, by rw [hd1]; exact g3, ?_, hq.2.1, hq.1, hR, ?_⟩, by rw [hs1]; exact hq.2.2⟩
            · intro x hx
              rcases List.mem_append.1 hx with h | h
              · obtain ⟨c, _, rfl⟩ := List.mem_map.1 h
                have := h3 (b, lv) (by simp)
                simp only at this ⊢
                omega
              · have := h3 x (List.mem_cons_of_mem _ h)
                omega
            · have := hq.2.2.1
              omega
          · exact .inr ⟨rfl, ⟨c, hS, hq.1⟩, by rw [hs1]; exact hq.2⟩
    · exact cell_kept hBt hg1 (fun r e => by cases e)
    · exact ⟨0, by omega, by simpa using hs, fun x hx => by simp at hx; subst hx; simp, hw1, hI 0 w0 W1 none h0 hg1 (fun r e => by cases e), hr1, Nat.le_refl _⟩
    · rintro e W' ⟨hv, (⟨k, i, h1, h2, _, h4, h5, h6, _⟩ | ⟨c, h1, h2⟩)⟩
      · refine ⟨hv, .inl ⟨h6, ?_, h4⟩⟩
        have h3 : ns.drop i = [] := by
          generalize ns.drop i = nd at h2
          cases h2
          rfl
        have h7 : ns.length ≤ i := List.drop_eq_nil_iff.1 h3
        obtain rfl : i = ns.length := by omega
        exact h5
      · exact ⟨hv, .inr ⟨c, h1, h2⟩⟩
  · rintro A o o' ⟨h1, h2⟩ ho hc
    exact ⟨light_abid (hI _) (by omega) A o o' h1 ho hc, h2.grown (grownBy_putObj' A _ o') h2.size (fun r e => by cases e; have := hw.size; omega)⟩
end Go.Proofs.Ytomikgkoegkofaa.dt

import Derived.Test.YthcnffieoocnkaaStak
namespace Go.Proofs.Ythcnffieoocnkaa.st
open Go.ChangeShapes Go.WideShapes Go.ChangeAt Go.RowKit Go.Maps Go.WideMaps Go.WideElems
set_option linter.unusedVariables false
/-! rows of numbers that may be written into, whatever they hold -/
theorem in_xor (x y : Int) : In64 (bits .xor .i64 x y) := by
  show In64 (IntKind.i64.wrap _)
  rw [IntKind.wrap_i64]
  unfold In64
  omega
theorem in_or (x y : Int) : In64 (bits .or .i64 x y) := by
  show In64 (IntKind.i64.wrap _)
  rw [IntKind.wrap_i64]
  unfold In64
  omega
/-- block g has n numbers at least, and may be written -/
def IntB (w : World) (g n : Nat) : Prop := ∃ cs : Array Value, Blk w g 3 cs ∧ n ≤ cs.size ∧ ∀ j, j < n → ∃ x, cs[j]? = some (.int .i64 x) ∧ In64 x
theorem IntB.lt {w : World} {g n : Nat} (h : IntB w g n) : g < w.heap.size := by
  obtain ⟨cs, hb, _⟩ := h
  exact hb.lt
theorem IntB.cell {w : World} {g n : Nat} (h : IntB w g n) (j : Nat) (hj : j < n) : ∃ x, w.cell? ⟨g, j, none⟩ = some (.int .i64 x) ∧ In64 x := by
  obtain ⟨cs, hb, _, hc⟩ := h
  obtain ⟨x, e, hx⟩ := hc j hj
  exact ⟨x, by rw [hb.cell, e], hx⟩
theorem IntB.frozen {w : World} {g n : Nat} (h : IntB w g n) (j : Nat) : w.frozen? ⟨g, j, none⟩ = false := by
  obtain ⟨cs, hb, _⟩ := h
  exact hb.frozen j
theorem IntB.set_ {w : World} {g n : Nat} (h : IntB w g n) (g' j : Nat) (x : Int) (hx : In64 x) : IntB (w.setCell ⟨g', j, none⟩ (.int .i64 x)) g n := by
  obtain ⟨cs, hb, hn, hc⟩ := h
  by_cases e : g = g'
  · subst e
    refine ⟨_, hb.set_ j _, by simpa using hn, fun i hi => ?_⟩
    obtain ⟨y, e2, hy⟩ := hc i hi
    by_cases e3 : j = i
    · subst e3
      refine ⟨x, ?_, hx⟩
      rw [Array.getElem?_setIfInBounds_self_of_lt (by omega)]
    · exact ⟨y, by rw [Array.getElem?_setIfInBounds_ne e3]; exact e2, hy⟩
  · exact ⟨cs, hb.far (p := ⟨g', j, none⟩) e _, hn, hc⟩
theorem IntB.drew {w : World} {g n : Nat} (h : IntB w g n) : IntB w.drew g n := h
theorem IntB.same {w w' : World} {g n : Nat} (h : IntB w g n) (e : w'.heap[g]? = w.heap[g]?) : IntB w' g n := by
  obtain ⟨cs, hb, hn, hc⟩ := h
  exact ⟨cs, e.trans hb, hn, hc⟩
theorem IntB.of_own {B g n cap : Nat} {w : World} {x : List Int} (h : w.ownsRow B 3 1 (.slice (some ⟨g, 0, none⟩) n cap) n (IV x)) (hin : ∀ n ∈ x, In64 n) : IntB w g n := by
  obtain ⟨hl, h | ⟨g', cap', cur, hv, hbase, hh, h1, h2, h3, h4⟩⟩ := h
  · cases h.1
  · cases hv
    refine ⟨cur, hh, by omega, fun j hj => ?_⟩
    have hxl : x.length = n := by simpa [IV] using hl
    refine ⟨x[j]'(by omega), ?_, hin _ (List.getElem_mem _)⟩
    have e : (cur.toList.take (n * 1))[j]? = cur[j]? := by
      rw [List.getElem?_take_of_lt (by omega)]
      simp
    rw [← e, h4]
    simp [IV, hxl, hj]
/-- a word whose own block may be written -/
def OwnI (B : Nat) (w : World) (row : Option Nat) (u : Value) (n : Nat) : Prop := ∃ ao ci, u = .slice ao n ci ∧ (0 < n → ∃ gi, ao = some ⟨gi, 0, none⟩ ∧ B ≤ gi ∧ some gi ≠ row ∧ IntB w gi n)
theorem OwnI.step {B : Nat} {w w' : World} {row row' : Option Nat} {u : Value} {n : Nat} (h : OwnI B w row u n) (hg : w.grownBy w' row) (hat : row' = row ∨ row' = some w.heap.size) : OwnI B w' row' u n := by
  obtain ⟨ao, ci, e, h⟩ := h
  refine ⟨ao, ci, e, fun hn => ?_⟩
  obtain ⟨gi, e2, hB, hne, hi⟩ := h hn
  refine ⟨gi, e2, hB, ?_, hi.same (hg.block gi hi.lt hne)⟩
  rcases hat with h | h
  · rw [h]; exact hne
  · rw [h]
    intro e3
    have := Option.some.inj e3
    have := hi.lt
    omega
theorem OwnI.far {B : Nat} {w w' : World} {row r2 : Option Nat} {u : Value} {n : Nat} (h : OwnI B w row u n) (hg : w.grownBy w' r2) (hr : ∀ k, r2 = some k → w.heap.size ≤ k) : OwnI B w' row u n := by
  obtain ⟨ao, ci, e, h⟩ := h
  refine ⟨ao, ci, e, fun hn => ?_⟩
  obtain ⟨gi, e2, hB, hne, hi⟩ := h hn
  refine ⟨gi, e2, hB, hne, hi.same (hg.block gi hi.lt ?_)⟩
  intro e3
  have := hr _ e3.symm
  have := hi.lt
  omega
theorem own_i {B B' : Nat} {w : World} {row : Option Nat} {v : Value} {x : List Int} {n : Nat} (h : w.ownsRow B 3 1 v n (IV x)) (hn : x.length = n) (hin : ∀ n ∈ x, In64 n) (hB : B' ≤ B) (hrow : ∀ k, row = some k → k < B) : OwnI B' w row v x.length := by
  have h' := h
  rcases h.2 with ⟨hv, h0⟩ | ⟨g, cap, cur, hv, hB2, _⟩
  · subst hv
    subst hn
    exact ⟨none, 0, by rw [h0], fun h => by omega⟩
  · subst hv
    subst hn
    refine ⟨_, cap, rfl, fun _ => ⟨g, rfl, by omega, fun e => ?_, IntB.of_own h' hin⟩⟩
    have := hrow _ e.symm
    omega
/-- own words in an own row -/
def CopU (B : Nat) (w : World) (v : Value) (ws : List (List Int)) (us : List Value) : Prop := OutU B w v ws us ∧ ∀ i, i < ws.length → ∃ u, us[i]? = some u ∧ OwnI B w v.ownBlock u (ws.getD i []).length
theorem CopU.far {B : Nat} {w w' : World} {v : Value} {ws : List (List Int)} {us : List Value} {r2 : Option Nat} (h : CopU B w v ws us) (hg : w.grownBy w' r2) (hr : ∀ k, r2 = some k → w.heap.size ≤ k) : CopU B w' v ws us :=
  ⟨h.1.far hg hr, fun i hi => by
    obtain ⟨u, e, hw⟩ := h.2 i hi
    exact ⟨u, e, hw.far hg hr⟩⟩
theorem cop_more {B : Nat} {w w' : World} {v v' u : Value} {ws : List (List Int)} {us : List Value} {x : List Int} {o : Obj} (h : CopU B w v ws us) (hx : AwayW w v.ownBlock u x) (hi : OwnI B w v.ownBlock u x.length) (h2 : w'.ownsRow B 22 1 v' (ws.length + 1) (us ++ [u])) (hg : (w.alloc o).grownBy w' v.ownBlock) (hat : v'.ownBlock = v.ownBlock ∨ v'.ownBlock = some (w.alloc o).heap.size) : CopU B w' v' (ws ++ [x]) (us ++ [u]) := by
  refine ⟨out_more h.1 hx h2 hg hat, fun i hlt => ?_⟩
  have hus : us.length = ws.length := by have := h.1.1.1; omega
  have ho := World.grownBy_alloc w o none
  by_cases hlt : i < ws.length
  · obtain ⟨u', e, hw⟩ := h.2 i hlt
    refine ⟨u', by rw [List.getElem?_append_left (by omega)]; exact e, ?_⟩
    rw [List.getD_eq_getElem?_getD, List.getElem?_append_left hlt, ← List.getD_eq_getElem?_getD]
    exact (hw.far ho (by simp)).step hg hat
  · have e : i = ws.length := by simp at *; omega
    subst e
    refine ⟨u, by rw [← hus]; simp, ?_⟩
    rw [List.getD_eq_getElem?_getD]
    simp only [List.getElem?_concat_length, Option.getD_some]
    exact (hi.far ho (by simp)).step hg hat
/-- a row of such words, between two places of memory -/
def RowsI (lo hi : Nat) (w : World) (ao : Option Addr) (ns : List Nat) : Prop := ∀ i, i < ns.length → ∃ (g : Nat) (ui : Option Addr) (ci : Nat), ao = some ⟨g, 0, none⟩ ∧ w.cell? ⟨g, i, none⟩ = some (.slice ui (ns.getD i 0) ci) ∧ (0 < ns.getD i 0 → ∃ gi, ui = some ⟨gi, 0, none⟩ ∧ lo ≤ gi ∧ gi < hi ∧ gi ≠ g ∧ IntB w gi (ns.getD i 0))
theorem cell_far {w : World} {g i g' j : Nat} {u v : Value} (h : w.cell? ⟨g, i, none⟩ = some v) (hne : g ≠ g') : (w.setCell ⟨g', j, none⟩ u).cell? ⟨g, i, none⟩ = some v := by
  have e := RowKit.Below.heap_setCell w ⟨g', j, none⟩ u g hne
  unfold World.cell? at h ⊢
  rw [e]
  exact h
theorem RowsI.set_ {lo hi : Nat} {w : World} {ao : Option Addr} {ns : List Nat} (h : RowsI lo hi w ao ns) (gk j : Nat) (x : Int) (hx : In64 x) (hne : ∀ g, ao = some ⟨g, 0, none⟩ → g ≠ gk) : RowsI lo hi (w.setCell ⟨gk, j, none⟩ (.int .i64 x)) ao ns := fun i hi => by
  obtain ⟨g, ui, ci, e1, hc, hr⟩ := h i hi
  refine ⟨g, ui, ci, e1, cell_far hc (hne g e1), fun hn => ?_⟩
  obtain ⟨gi, e2, h1, h2, h3, h4⟩ := hr hn
  exact ⟨gi, e2, h1, h2, h3, h4.set_ gk j x hx⟩
theorem RowsI.drew {lo hi : Nat} {w : World} {ao : Option Addr} {ns : List Nat} (h : RowsI lo hi w ao ns) : RowsI lo hi w.drew ao ns := h
theorem RowsI.drewN {lo hi : Nat} {w : World} {ao : Option Addr} {ns : List Nat} (h : RowsI lo hi w ao ns) (n : Nat) : RowsI lo hi (w.drewN n) ao ns := h
theorem RowsI.kp {lo hi : Nat} {S : Nat → Prop} {w w' : World} {ao : Option Addr} {ns : List Nat} (h : RowsI lo hi w ao ns) (k : Kp S w w') (hS : ∀ i, S i → w.heap.size ≤ i) : RowsI lo hi w' ao ns := fun i hi => by
  obtain ⟨g, ui, ci, e1, hc, hr⟩ := h i hi
  have hlt : g < w.heap.size := by
    rcases Nat.lt_or_ge g w.heap.size with h | h
    · exact h
    · unfold World.cell? at hc
      rw [Array.getElem?_eq_none h] at hc
      cases hc
  refine ⟨g, ui, ci, e1, ?_, fun hn => ?_⟩
  · have e := k.block g hlt (fun hs => by have := hS g hs; omega)
    unfold World.cell? at hc ⊢
    rw [e]
    exact hc
  · obtain ⟨gi, e2, h1, h2, h3, h4⟩ := hr hn
    exact ⟨gi, e2, h1, h2, h3, h4.same (k.block gi h4.lt (fun hs => by have := hS gi hs; have := h4.lt; omega))⟩
theorem rows_cop {B : Nat} {w : World} {v : Value} {ws : List (List Int)} {us : List Value} (h : CopU B w v ws us) : ∃ ao cap, v = .slice ao ws.length cap ∧ RowsI B w.heap.size w ao (ws.map List.length) := by
  obtain ⟨⟨hown, hi⟩, hc⟩ := h
  have h' := hown
  rcases hown.2 with ⟨hv, h0⟩ | ⟨g, cap, cur, hv, hB, _⟩
  · subst hv
    refine ⟨none, 0, by rw [h0], fun i hi => ?_⟩
    simp at hi
    omega
  · subst hv
    refine ⟨_, cap, rfl, fun i hi => ?_⟩
    have hi : i < ws.length := by simpa using hi
    obtain ⟨u, hu, ao, ci, e, hr⟩ := hc i hi
    have eg : (ws.map List.length).getD i 0 = (ws.getD i []).length := by
      simp [List.getD_eq_getElem?_getD, List.getElem?_map, List.getElem?_eq_getElem hi]
    rw [eg]
    subst e
    refine ⟨g, ao, ci, rfl, ?_, fun hn => ?_⟩
    · have := own_cells' h' i _ hu
      rwa [add0] at this
    · obtain ⟨gi, e2, h1, h2, h3⟩ := hr hn
      exact ⟨gi, e2, h1, h3.lt, fun e => h2 (by rw [e]; rfl), h3⟩
theorem rows_all {B : Nat} {w : World} {v : Value} {Y : List (List Int)} (h : AllIs B w v Y) (hf : ∀ x ∈ Y, Fine x) : ∃ ao cap, v = .slice ao Y.length cap ∧ RowsI B w.heap.size w ao (Y.map List.length) := by
  rcases h with ⟨rfl, rfl⟩ | ⟨g, us, rfl, hown, hi⟩
  · exact ⟨none, 0, rfl, fun i hi => absurd hi (Nat.not_lt_zero _)⟩
  · refine ⟨_, _, rfl, fun i hlt => ?_⟩
    have hlt : i < Y.length := by simpa using hlt
    obtain ⟨gi, hne, hu, hoi⟩ := hi i hlt
    have eg : (Y.map List.length).getD i 0 = (Y.getD i []).length := by
      simp [List.getD_eq_getElem?_getD, List.getElem?_map, List.getElem?_eq_getElem hlt]
    have hw := hf (Y.getD i []) (by rw [List.getD_eq_getElem?_getD, List.getElem?_eq_getElem hlt]; simp)
    rw [eg]
    refine ⟨g, some ⟨gi, 0, none⟩, (Y.getD i []).length, rfl, ?_, fun hn => ⟨gi, rfl, (hoi.lt gi rfl).1, own_lt hoi, hne, IntB.of_own hoi hw.1⟩⟩
    have := own_cells' hown i _ hu
    rwa [add0] at this
end Go.Proofs.Ythcnffieoocnkaa.st

import Derived.Test.YtomikgkoegkofaaGreatDoorDvi
namespace Go.Proofs.YtomikgkoegkofaaGreatDoor.dv
open Go.ChangeShapes Go.WideShapes Go.ChangeAt Go.RowKit Go.Maps Go.WideMaps Go.WideElems
set_option linter.unusedVariables false
set_option linter.unusedSimpArgs false
/-! a form's beginning, and a step -/
theorem RowAt.take {w : World} {ao : Option Addr} {cap : Nat} {F : List Int} (h : RowAt w (.slice ao F.length cap) F) (k : Nat) (hk : k ≤ F.length) : RowAt w (.slice ao k cap) (F.take k) := by
  obtain ⟨ao', cap', e, hl, hm, hn, hin, hc⟩ := h
  cases e
  have hL : (F.take k).length = k := by simp; omega
  refine ⟨ao, cap, by rw [hL], by omega, hm, hn, fun n hn => hin n (List.mem_of_mem_take hn), fun i hi => ?_⟩
  obtain ⟨a, e, hab, hca⟩ := hc i (by omega)
  refine ⟨a, e, hab, ?_⟩
  rw [hca, List.getD_eq_getElem?_getD, List.getD_eq_getElem?_getD, List.getElem?_take_of_lt (by omega)]
theorem RowAt.src {w : World} {v : Value} {F : List Int} (h : RowAt w v F) : SrcAt w v F := by
  obtain ⟨ao, cap, rfl, hl, hm, hn, hin, hc⟩ := h
  refine ⟨ao, cap, rfl, fun h => (by have := hn h; omega), fun ad had j u hj => ?_⟩
  have hlt : j < F.length := by have := (List.getElem?_eq_some_iff.1 hj).1; simpa [IV] using this
  obtain ⟨a, e, hab, hca⟩ := hc j hlt
  subst had
  cases e
  refine ⟨hab, ?_⟩
  rw [hca, ← hj]
  simp [IV, List.getD_eq_getElem?_getD, List.getElem?_eq_getElem hlt]
set_option maxRecDepth 100000 in
set_option maxHeartbeats 1000000 in
theorem lead_any (w : World) (v : Value) (F : List Int) (h : RowAt w v F) (hF : F.length ≤ 1000000) : Calls Tryz.prog 48 #[v] w fun e w' => ∃ u, e = .returned (.tuple #[u, .int .i64 (idxW F)]) ∧ w'.ownsRow w.heap.size 3 1 u (leadW F).length (IV ((leadW F).map fun x => -1 - x)) ∧ Below w.heap.size w w' := by
  have hix := index_any w v F h
  by_cases hr : restW F = []
  · have e1 : idxW F = -1 := by unfold idxW; rw [if_pos hr]
    have e2 : leadW F = F := by have := lead_rest F; rwa [hr, List.append_nil] at this
    rw [e1] at hix ⊢
    rw [e2]
    have hnu := numbers_any w v F h hF
    obtain ⟨ao, cap, rfl, _⟩ := h
    go_enter Tryz.func48, Tryz.ntmps48
    go_wp2_with fail
    refine hix.mono ?_
    rintro e w1 ⟨rfl, rfl⟩
    go_wp2_with fail
    refine hnu.mono ?_
    rintro e w2 ⟨u, rfl, ho, hb⟩
    go_wp2
    refine bodyPost_ret (v := .tuple #[u, .int .i64 (-1)]) (by simp [results, Tryz.results48, go_sem]) rfl ?_
    exact ⟨u, rfl, ho, hb⟩
  · have e1 : idxW F = ((leadW F).length : Int) := by unfold idxW; rw [if_neg hr]
    have hle : (leadW F).length ≤ F.length := by have := congrArg List.length (lead_rest F); simp at this; omega
    have htk : F.take (leadW F).length = leadW F := by
      have := List.take_left (l₁ := leadW F) (l₂ := restW F)
      rwa [lead_rest] at this
    rw [e1] at hix ⊢
    obtain ⟨ao, cap, rfl, hx⟩ := id h
    have hcap : (leadW F).length ≤ cap ∧ cap ≤ 9223372036854775807 := by
      obtain ⟨h1, h2, _⟩ := hx
      unfold maxLen at h2
      omega
    obtain ⟨hc1, hc2⟩ := hcap
    have h2 := h.take (leadW F).length hle
    rw [htk] at h2
    have hnu := numbers_any w (.slice ao (leadW F).length cap) (leadW F) h2 (by omega)
    clear hx h2 h htk
    generalize leadW F = L at *
    go_enter Tryz.func48, Tryz.ntmps48
    go_wp2_with fail
    refine hix.mono ?_
    rintro e w1 ⟨rfl, rfl⟩
    go_wp2_with fail
    refine hnu.mono ?_
    rintro e w2 ⟨u, rfl, ho, hb⟩
    go_wp2
    refine bodyPost_ret (v := .tuple #[u, .int .i64 L.length]) (by simp [results, Tryz.results48, go_sem]) rfl ?_
    exact ⟨u, rfl, ho, hb⟩
def fvW (F : List Int) : Int := (restW F).headD (-1)
def ruleW (R : List Rl) (k : Int) : List Int := (R.getD k.toNat ⟨0, [], 0⟩).right
def stepL (R : List Rl) (F : List Int) (k : Int) : List Int := leadW F ++ (ruleW R k ++ (restW F).tail)
theorem RowAt.drop {w : World} {ao : Option Addr} {cap : Nat} {F : List Int} (h : RowAt w (.slice ao F.length cap) F) (k : Nat) (hk : k ≤ F.length) (a : Addr) (ha : ao = some a) : RowAt w (.slice (some (a.add k)) (F.length - k) (cap - k)) (F.drop k) := by
  obtain ⟨ao', cap', e, hl, hm, hn, hin, hc⟩ := h
  cases e
  subst ha
  have hL : (F.drop k).length = F.length - k := by simp
  refine ⟨_, cap - k, by rw [hL], by omega, by omega, fun h => (by cases h), fun n hn => hin n (List.mem_of_mem_drop hn), fun i hi => ?_⟩
  obtain ⟨a', e, hab, hca⟩ := hc (k + i) (by omega)
  cases e
  refine ⟨_, rfl, by rw [add_block]; exact hab, ?_⟩
  rw [Addr.add_add, hca, List.getD_eq_getElem?_getD, List.getD_eq_getElem?_getD, List.getElem?_drop]
theorem rest_nth (F : List Int) (h : restW F ≠ []) : F.getD (leadW F).length 0 = fvW F ∧ 0 ≤ fvW F ∧ (leadW F).length < F.length ∧ F.drop ((leadW F).length + 1) = (restW F).tail := by
  have e := lead_rest F
  have hg : ∀ x l, restW F = x :: l → ¬ x < 0 := fun x l hx => by
    have := List.head?_dropWhile_not (fun x => decide (x < 0)) F
    rw [show F.dropWhile (fun x => decide (x < 0)) = x :: l from hx] at this
    simpa using this
  cases hr : restW F with
  | nil => exact absurd hr h
  | cons x l =>
    have hx := hg x l hr
    rw [hr] at e
    have hf : fvW F = x := by unfold fvW; rw [hr]; rfl
    rw [hf, hr] at *
    generalize leadW F = L at *
    subst e
    exact ⟨by simp [List.getD_eq_getElem?_getD], by omega, by simp, by simp⟩
theorem refW_err {R : List Rl} {v k : Int} (h : ¬ 0 ≤ v) : refW R v k ≠ 0 := by
  unfold refW
  rw [if_neg h]
  split <;> decide
theorem refW_ok {R : List Rl} {v k : Int} (h : refW R v k = 0) : 0 ≤ k ∧ k < R.length ∧ 0 ≤ v := by
  unfold refW at h
  split at h
  · rename_i h1
    split at h
    · rename_i h2
      simp [isRl] at h1
      exact ⟨h1.1, h1.2, h2⟩
    · exact absurd h (by decide)
  · exact absurd h (by decide)
theorem RulesAt.below {B : Nat} {w w' : World} {v : Value} {R : List Rl} (h : RulesAt B w v R) (hb : Below B w w') : RulesAt B w' v R := by
  obtain ⟨ao, cap, e, hn, hr⟩ := h
  refine ⟨ao, cap, e, hn, fun k r hk => ?_⟩
  obtain ⟨a, ea, hab, ao2, c2, h1, h2, h3, h4, h5, h6, h7, h8⟩ := hr k r hk
  have hc : ∀ n v, w.cell? (a.add n) = some v → w'.cell? (a.add n) = some v := fun n v hv => (hb.cell (p := a.add n) (by rw [add_block]; exact hab)).trans hv
  refine ⟨a, ea, hab, ao2, c2, hc _ _ h1, hc _ _ h2, hc _ _ h3, h4, h5, h6, fun j hj => ?_, h8⟩
  obtain ⟨a2, e2, hab2, hca⟩ := h7 j hj
  exact ⟨a2, e2, hab2, (hb.cell (p := a2.add j) (by rw [add_block]; exact hab2)).trans hca⟩
theorem RlAt.row {B : Nat} {w : World} {a : Addr} {k : Nat} {r : Rl} (h : RlAt B w a k r) (hB : B ≤ w.heap.size) : ∃ ao cap, w.cell? (a.add (k * 3 + 1)) = some (.slice ao r.right.length cap) ∧ RowAt w (.slice ao r.right.length cap) r.right ∧ RowUnder B w ao r.right := by
  obtain ⟨ao, cap, h1, h2, h3, h4, h5, h6, h7, h8⟩ := h
  refine ⟨ao, cap, h2, ⟨ao, cap, rfl, h4, h5, h6, h8.1, fun i hi => ?_⟩, h7⟩
  obtain ⟨a2, e2, hab, hca⟩ := h7 i hi
  exact ⟨a2, e2, by omega, hca⟩
theorem add_form (a : Addr) (n m : Nat) (hm : m ≠ 0) : a.add (n + m) = { block := (a.add n).block, off := (a.add n).off + m } := by
  unfold Addr.add
  rw [if_neg (by omega)]
  by_cases h : n = 0
  · subst h; simp
  · rw [if_neg h]; simp [Nat.add_assoc]
theorem rows_three {w : World} {v u z : Value} {x y q : List Int} {a : Nat} (hb : Blk w a 28 #[v, u, z]) (hv : SrcAt w v x) (hu : SrcAt w u y) (hz : SrcAt w z q) : RowsIn w ⟨a, 0, none⟩ [v, u, z] [x, y, q] := by
  refine ⟨rfl, hb.lt, fun i s hi => ?_⟩
  match i, hi with
  | 0, hi =>
    simp at hi
    subst hi
    exact ⟨by simpa [Addr.add] using hb.cell 0, hv⟩
  | 1, hi =>
    simp at hi
    subst hi
    exact ⟨by simpa [Addr.add] using hb.cell 1, hu⟩
  | 2, hi =>
    simp at hi
    subst hi
    exact ⟨by simpa [Addr.add] using hb.cell 2, hz⟩
  | i + 3, hi => simp at hi
end Go.Proofs.YtomikgkoegkofaaGreatDoor.dv

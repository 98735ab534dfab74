import Derived.Test.YthcnffieoocnkaaRadd
namespace Go.Proofs.Ythcnffieoocnkaa.st
open Go.ChangeShapes Go.WideShapes Go.ChangeAt Go.RowKit Go.Maps Go.WideMaps Go.WideElems
set_option linter.unusedVariables false
def WordsM (w : World) (v : Value) (L : List (List Int)) : Prop := ∃ ao cap, v = .slice ao L.length cap ∧ ∀ i, i < L.length → ∃ (a : Addr) (u : Value), ao = some a ∧ a.block < w.heap.size ∧ w.cell? (a.add i) = some u ∧ WordN w u (L.getD i [])
theorem insW_len (a : List Int) : ∀ (L : List (List Int)), (insW a L).length ≤ L.length + 1
  | [] => by simp [insW]
  | b :: L => by
    unfold insW
    split
    · simp
    · split
      · have := insW_len a L
        simp; omega
      · simp
theorem setW_snoc (X : List (List Int)) (a : List Int) : setW (X ++ [a]) = insW a (setW X) := by
  unfold setW
  rw [List.foldl_append]
  rfl
theorem setW_len (X : List (List Int)) : (setW X).length ≤ X.length := by
  have h : ∀ (X L : List (List Int)), (X.foldl (fun L a => insW a L) L).length ≤ L.length + X.length := by
    intro X
    induction X with
    | nil => intro L; simp
    | cons a X ih =>
      intro L
      rw [List.foldl_cons]
      have h1 := ih (insW a L)
      have h2 := insW_len a L
      simp only [List.length_cons]
      omega
  simpa [setW] using h X []
theorem setW_take (L : List (List Int)) (k : Nat) (h : k < L.length) : setW (L.take (k + 1)) = insW (L.getD k []) (setW (L.take k)) := by
  rw [List.take_succ_eq_append_getElem h, setW_snoc, List.getD_eq_getElem?_getD, List.getElem?_eq_getElem h]
  rfl
set_option maxRecDepth 100000 in
set_option maxHeartbeats 800000 in
theorem rof_any (w : World) (v : Value) (L : List (List Int)) (hv : WordsM w v L) (hL : L.length ≤ 2000) : Calls Try.prog 18 #[v] w fun e w' => ∃ r, e = .returned r ∧ WordsN w' r (setW L) ∧ Below w.heap.size w w' := by
  obtain ⟨ao, ca, rfl, hc⟩ := hv
  have HC := Lib.hid hc
  clear hc
  go_enter Try.func18, Try.ntmps18
  go_wp2
  go_loopw [3, 4] (fun v i wr => ∃ k : Nat, i = .int .i64 k ∧ k ≤ L.length ∧ WordsN wr v (setW (L.take k)) ∧ Below w.heap.size w wr) (fun _ i _ => L.length - (intOf i).toNat)
  case atStart => exact ⟨0, rfl, Nat.zero_le _, out_words (made_words w.heap.size w (Nat.le_refl _)), (Below.refl _ _).alloc (Nat.le_refl _) _⟩
  case round =>
    obtain ⟨k, rfl, hk, hws, hb⟩ := hrel
    by_cases h2 : k < L.length
    · obtain ⟨a, va, rfl, hab, hca, hwa⟩ := HC.out k h2
      have ca : wr.cell? (a.add k) = some va := (hb.cell (p := a.add k) (by rw [add_block]; exact hab)).trans hca
      have hst := setW_take L k h2
      have hlen : (setW (L.take k)).length ≤ 4000 := Nat.le_trans (setW_len _) (by simp; omega)
      have hadd := radd_any wr _ va _ _ hws (hwa.below hb) hlen (setW_up _)
      rw [← hst] at hadd
      have HB := Lib.hid hb
      clear hca hwa hst hws hlen hb
      go_wp2_with fail
      refine hadd.mono ?_
      rintro e w1 ⟨r, rfl, hr, hb1⟩
      clear hadd
      have HR := Lib.hid hr
      have HB1 := Lib.hid (HB.out.trans (hb1.mono HB.out.size))
      clear hr hb1
      go_wp2
      exact ⟨⟨k + 1, congrArg (Value.int .i64) (by omega), h2, HR.out, HB1.out⟩, by simp only [intOf]; omega⟩
    · obtain rfl : k = L.length := by omega
      rw [List.take_length] at hws
      have HX := Lib.hid hws
      clear hws
      go_wp2
      go_ret
      exact ⟨_, rfl, HX.out, hb⟩
def meetW (X Y : List (List Int)) : List (List Int) := X.filter fun x => decide (x ∈ Y)
theorem meetW_take (X Y : List (List Int)) (k : Nat) (h : k < X.length) : meetW (X.take (k + 1)) Y = if X.getD k [] ∈ Y then meetW (X.take k) Y ++ [X.getD k []] else meetW (X.take k) Y := by
  rw [List.take_succ_eq_append_getElem h, List.getD_eq_getElem?_getD, List.getElem?_eq_getElem h]
  unfold meetW
  rw [List.filter_append]
  simp only [Option.getD_some]
  split
  · rename_i h1
    rw [List.filter_cons_of_pos (by simpa using h1)]
    rfl
  · rename_i h1
    rw [List.filter_cons_of_neg (by simpa using h1)]
    simp
theorem mem_meetW {X Y : List (List Int)} {z : List Int} : z ∈ meetW X Y ↔ z ∈ X ∧ z ∈ Y := by simp [meetW]
set_option maxRecDepth 100000 in
set_option maxHeartbeats 800000 in
theorem rmeet_any (w : World) (v u : Value) (L M : List (List Int)) (hv : WordsN w v L) (hu : WordsN w u M) (hL : L.length ≤ 2000) (hM : M.length ≤ 2000) : Calls Try.prog 28 #[v, u] w fun e w' => ∃ r, e = .returned r ∧ WordsN w' r (setW (meetW L M)) ∧ Below w.heap.size w w' := by
  obtain ⟨ao, ca, rfl, hn, hc⟩ := hv
  have HC := Lib.hid hc
  have HU := Lib.hid hu
  clear hc hn
  obtain ⟨bo, cb, rfl, _, _⟩ := hu
  go_enter Try.func28, Try.ntmps28
  go_wp2
  go_loopw [5, 6] (fun v i wr => ∃ k : Nat, i = .int .i64 k ∧ k ≤ L.length ∧ WordsN wr v (setW (meetW (L.take k) M)) ∧ Below w.heap.size w wr) (fun _ i _ => L.length - (intOf i).toNat)
  case atStart => exact ⟨0, rfl, Nat.zero_le _, out_words (made_words w.heap.size w (Nat.le_refl _)), (Below.refl _ _).alloc (Nat.le_refl _) _⟩
  case round =>
    obtain ⟨k, rfl, hk, hws, hb⟩ := hrel
    by_cases h2 : k < L.length
    · obtain ⟨a, va, rfl, hab, hca, hwa⟩ := HC.out k h2
      have ca : wr.cell? (a.add k) = some va := (hb.cell (p := a.add k) (by rw [add_block]; exact hab)).trans hca
      have hst := meetW_take L M k h2
      have hlen : (setW (meetW (L.take k) M)).length ≤ 4000 := Nat.le_trans (setW_len _) (Nat.le_trans (List.length_filter_le _ _) (by simp; omega))
      have hhas := rhas_any wr _ va _ _ (HU.out.below hb).words (hwa.below hb).word (by unfold maxLen; omega) hwa.1
      have HW := Lib.hid hwa
      have HS := Lib.hid hws
      have HB := Lib.hid hb
      have HL := Lib.hid hlen
      clear hca hwa hws hlen hb
      by_cases hin : L.getD k [] ∈ M
      · rw [decide_eq_true hin] at hhas
        rw [if_pos hin] at hst
        go_wp2_with fail
        refine hhas.mono ?_
        rintro e w1 ⟨rfl, hq1⟩
        have hq1 : Qt wr w1 := hq1
        clear hhas
        have hb1 := HB.out.trans (hq1.below.mono HB.out.size)
        have ca1 := (hq1.cell (a.add k)).trans ca
        have hadd := radd_any w1 _ va _ _ (HS.out.below hq1.below) (HW.out.below hb1) HL.out (setW_up _)
        rw [← setW_snoc, ← hst] at hadd
        have HB1 := Lib.hid hb1
        clear hst hq1 hb1 hin ca
        go_wp2_with fail
        refine hadd.mono ?_
        rintro e w2 ⟨r, rfl, hr, hb2⟩
        clear hadd
        have HR := Lib.hid hr
        have HB2 := Lib.hid (HB1.out.trans (hb2.mono HB1.out.size))
        clear hr hb2
        go_wp2
        exact ⟨⟨k + 1, congrArg (Value.int .i64) (by omega), h2, HR.out, HB2.out⟩, by simp only [intOf]; omega⟩
      · rw [decide_eq_false hin] at hhas
        rw [if_neg hin] at hst
        have HT := Lib.hid hst
        clear hst hin
        go_wp2_with fail
        refine hhas.mono ?_
        rintro e w1 ⟨rfl, hq1⟩
        have hq1 : Qt wr w1 := hq1
        clear hhas
        have HB1 := Lib.hid (HB.out.trans (hq1.below.mono HB.out.size))
        have HS1 := Lib.hid (HS.out.below hq1.below)
        clear hq1
        go_wp2
        exact ⟨⟨k + 1, congrArg (Value.int .i64) (by omega), h2, by rw [HT.out]; exact HS1.out, HB1.out⟩, by simp only [intOf]; omega⟩
    · obtain rfl : k = L.length := by omega
      rw [List.take_length] at hws
      have HX := Lib.hid hws
      clear hws
      go_wp2
      go_ret
      exact ⟨_, rfl, HX.out, hb⟩
end Go.Proofs.Ythcnffieoocnkaa.st

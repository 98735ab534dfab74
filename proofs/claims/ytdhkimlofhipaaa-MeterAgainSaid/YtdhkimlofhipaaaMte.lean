import Derived.Test.YtdhkimlofhipaaaMtd
namespace Go.Proofs.Ytdhkimlofhipaaa.mt
open Go.ChangeShapes Go.WideShapes Go.ChangeAt Go.RowKit
set_option linter.unusedVariables false
def sm (xs : List Int) (k : Nat) : Int := ((xs.take k).map up).sum
theorem sm_zero (xs : List Int) : sm xs 0 = 0 := by simp [sm]
theorem sm_succ (xs : List Int) (k : Nat) (h : k < xs.length) : sm xs (k + 1) = sm xs k + up (xs.getD k 0) := by
  unfold sm
  rw [List.take_succ_eq_append_getElem h, List.map_append, List.sum_append, List.getD_eq_getElem?_getD, List.getElem?_eq_getElem h]
  simp
theorem sm_nonneg (xs : List Int) (k : Nat) : 0 ≤ sm xs k := by
  unfold sm
  generalize xs.take k = ys
  induction ys with
  | nil => simp
  | cons y ys ih => have := up_bd y; simp; omega
theorem sm_mono (xs : List Int) {j k : Nat} (h : j ≤ k) : sm xs j ≤ sm xs k := by
  induction k with
  | zero => obtain rfl : j = 0 := by omega
            exact Int.le_refl _
  | succ k ih =>
    by_cases e : j = k + 1
    · rw [e]; exact Int.le_refl _
    · have h1 := ih (by omega)
      by_cases hk : k < xs.length
      · have := sm_succ xs k hk; have := up_bd (xs.getD k 0); omega
      · have : sm xs (k + 1) = sm xs k := by unfold sm; rw [List.take_of_length_le (by omega), List.take_of_length_le (by omega)]
        omega
/-- where spending ends -/
theorem sm_stop (xs : List Int) (l : Int) (h0 : 0 ≤ l) : sm xs xs.length ≤ l ∨ ∃ k, k < xs.length ∧ sm xs k ≤ l ∧ l < sm xs (k + 1) := by
  have : ∀ n, n ≤ xs.length → sm xs n ≤ l ∨ ∃ k, k < xs.length ∧ sm xs k ≤ l ∧ l < sm xs (k + 1) := by
    intro n
    induction n with
    | zero => intro _; left; rw [sm_zero]; exact h0
    | succ n ih =>
      intro hn
      rcases ih (by omega) with h | h
      · by_cases h2 : sm xs (n + 1) ≤ l
        · exact .inl h2
        · exact .inr ⟨n, by omega, h, by omega⟩
      · exact .inr h
  exact this _ (Nat.le_refl _)
/-- numbers that came in -/
def ListAt (B : Nat) (w : World) (a0 : Option Addr) (xs : List Int) : Prop := 0 < xs.length → ∃ b o, a0 = some ⟨b, o, none⟩ ∧ b < B ∧ ∀ j, j < xs.length → w.cell? ⟨b, o + j, none⟩ = some (.int .i64 (xs.getD j 0))
theorem Kp.cell {S : Nat → Prop} {w w' : World} {b o : Nat} {v : Value} (k : Kp S w w') (hn : ¬ S b) (h : w.cell? ⟨b, o, none⟩ = some v) : w'.cell? ⟨b, o, none⟩ = some v := by
  have hl := lt_cell h
  have e := k.block b hl hn
  have : w'.cell? ⟨b, o, none⟩ = w.cell? ⟨b, o, none⟩ := by simp only [World.cell?, e]
  rw [this]; exact h
theorem ListAt.kept {B : Nat} {S : Nat → Prop} {w w' : World} {a0 : Option Addr} {xs : List Int} (h : ListAt B w a0 xs) (k : Kp S w w') (hS : ∀ i, S i → B ≤ i) : ListAt B w' a0 xs := fun hp => by
  obtain ⟨b, o, e, hb, hc⟩ := h hp
  exact ⟨b, o, e, hb, fun j hj => k.cell (fun hs => by have := hS _ hs; omega) (hc j hj)⟩
theorem kp1 (w : World) (g : Nat) (u : Value) : Kp (fun i => i = g) w (w.setCell ⟨g, 0, none⟩ u) := Kp.set_ (S := fun i => i = g) (Kp.refl _ w) (.inl rfl) u
set_option maxRecDepth 100000 in
set_option maxHeartbeats 400000 in
theorem spends1_ok (w : World) (B cl cm cd g cap : Nat) (a0 : Option Addr) (xs : List Int) (l s : Int) (h1 : Blk w cl 22 #[.slice a0 xs.length cap]) (h2 : Blk w cm 24 #[.pointer (some ⟨g, 0, none⟩)]) (h3 : Blk w cd 3 #[.int .i64 0]) (hm : MtAt w g l s) (hl : ListAt B w a0 xs) (hB : B ≤ g ∧ B ≤ cd) (hne : cm ≠ g ∧ cm ≠ cd ∧ g ≠ cd) (hlen : xs.length ≤ 60) (hok : sm xs xs.length ≤ l) : Calls Try.prog 13 #[.pointer (some ⟨cl, 0, none⟩), .pointer (some ⟨cm, 0, none⟩), .pointer (some ⟨cd, 0, none⟩)] w fun e w' => e = .returned (.tuple #[]) ∧ MtAt w' g (l - sm xs xs.length) (s + sm xs xs.length) ∧ Blk w' cd 3 #[.int .i64 xs.length] ∧ Kp (fun i => i = g ∨ i = cd) w w' := by
  have c1 := h1.cell 0
  go_enter Try.func13, Try.ntmps13
  go_wp2
  go_loopw [7] (fun i wr => ∃ k : Nat, k ≤ xs.length ∧ i = .int .i64 k ∧ MtAt wr g (l - sm xs k) (s + sm xs k) ∧ Blk wr cd 3 #[.int .i64 k] ∧ Kp (fun i => i = g ∨ i = cd) w wr) (fun i _ => xs.length - (intOf i).toNat)
  case atStart => exact ⟨0, Nat.zero_le _, rfl, by rw [sm_zero, Int.sub_zero, Int.add_zero]; exact hm, h3, Kp.refl _ _⟩
  case round =>
    obtain ⟨k, hk, rfl, hmr, hdr, hkp⟩ := hrel
    have c2 := (hkp.blk h2 (fun h => h.elim hne.1 hne.2.1)).cell 0
    by_cases hlt : k < xs.length
    · obtain ⟨b, o, rfl, hb, hcell⟩ := hl (by omega)
      have cx : wr.cell? ⟨b, o + k, none⟩ = some (.int .i64 (xs.getD k 0)) := hkp.cell (fun h => h.elim (fun h => by omega) (fun h => by omega)) (hcell k hlt)
      have hsu := sm_succ xs k hlt
      have hmo := sm_mono xs (show k + 1 ≤ xs.length by omega)
      generalize xs.getD k 0 = x at *
      have hsp := spend_ok wr g _ _ x hmr (by omega)
      have HS := Lib.hid hsp
      have HU := Lib.hid hsu
      have HM := Lib.hid hm
      clear hsp hsu hcell hmr hl hm hmo hok
      go_wp2_with (go_at_call 14; refine HS.out.mono ?_; rintro e w2 ⟨rfl, hm2, hk2⟩; have c3 := (hk2.blk hdr (fun h => hne.2.2 h.symm)).cell 0; have f3 := (hk2.blk hdr (fun h => hne.2.2 h.symm)).frozen 0; have d3 := hk2.blk hdr (fun h => hne.2.2 h.symm))
      have e1 : l - sm xs k - up x = l - sm xs (k + 1) := by have := HU.out; omega
      have e2 : s + sm xs k + up x = s + sm xs (k + 1) := by have := HU.out; omega
      rw [e1, e2] at hm2
      refine ⟨⟨k + 1, by omega, congrArg (Value.int .i64) (by omega), hm2.kept (kp1 _ _ _) hne.2.2, by have := d3.set_ 0 (.int .i64 ((k : Int) + 1)); simpa using this, (hkp.trans (hk2.mono (fun i hi => .inl hi))).trans ((kp1 _ _ _).mono (fun i hi => .inr hi))⟩, by simp only [intOf]; omega⟩
    · obtain rfl : k = xs.length := by omega
      have HM := Lib.hid hm
      have HO := Lib.hid hok
      clear hm hok
      go_wp2
      refine bodyPost_end (results_none rfl _ _ _) rfl ?_
      exact ⟨rfl, hmr, hdr, hkp⟩
set_option maxRecDepth 100000 in
set_option maxHeartbeats 400000 in
theorem spends1_full (w : World) (B cl cm cd g cap : Nat) (a0 : Option Addr) (xs : List Int) (l s : Int) (n : Nat) (h1 : Blk w cl 22 #[.slice a0 xs.length cap]) (h2 : Blk w cm 24 #[.pointer (some ⟨g, 0, none⟩)]) (h3 : Blk w cd 3 #[.int .i64 0]) (hm : MtAt w g l s) (hl : ListAt B w a0 xs) (hB : B ≤ g ∧ B ≤ cd) (hne : cm ≠ g ∧ cm ≠ cd ∧ g ≠ cd) (hlen : xs.length ≤ 60) (hn : n < xs.length) (hok : sm xs n ≤ l) (hno : l < sm xs (n + 1)) : Calls Try.prog 13 #[.pointer (some ⟨cl, 0, none⟩), .pointer (some ⟨cm, 0, none⟩), .pointer (some ⟨cd, 0, none⟩)] w fun e w' => e = .panicked [{ v := Full g, recovered := false }] ∧ MtAt w' g 0 (s + l) ∧ Blk w' cd 3 #[.int .i64 n] ∧ Kp (fun i => i = g ∨ i = cd) w w' := by
  have c1 := h1.cell 0
  go_enter Try.func13, Try.ntmps13
  go_wp2
  go_loopw [7] (fun i wr => ∃ k : Nat, k ≤ n ∧ i = .int .i64 k ∧ MtAt wr g (l - sm xs k) (s + sm xs k) ∧ Blk wr cd 3 #[.int .i64 k] ∧ Kp (fun i => i = g ∨ i = cd) w wr) (fun i _ => xs.length - (intOf i).toNat)
  case atStart => exact ⟨0, Nat.zero_le _, rfl, by rw [sm_zero, Int.sub_zero, Int.add_zero]; exact hm, h3, Kp.refl _ _⟩
  case round =>
    obtain ⟨k, hk, rfl, hmr, hdr, hkp⟩ := hrel
    have c2 := (hkp.blk h2 (fun h => h.elim hne.1 hne.2.1)).cell 0
    have hlt : k < xs.length := by omega
    obtain ⟨b, o, rfl, hb, hcell⟩ := hl (by omega)
    have cx : wr.cell? ⟨b, o + k, none⟩ = some (.int .i64 (xs.getD k 0)) := hkp.cell (fun h => h.elim (fun h => by omega) (fun h => by omega)) (hcell k hlt)
    have hsu := sm_succ xs k hlt
    have HM := Lib.hid hm
    clear hm hcell hl
    by_cases hkn : k < n
    · have hmo := sm_mono xs (show k + 1 ≤ n by omega)
      generalize xs.getD k 0 = x at *
      have hsp := spend_ok wr g _ _ x hmr (by omega)
      have HS := Lib.hid hsp
      have HU := Lib.hid hsu
      have HN := Lib.hid hno
      clear hsp hsu hmr hmo hok hno
      go_wp2_with (go_at_call 14; refine HS.out.mono ?_; rintro e w2 ⟨rfl, hm2, hk2⟩; have c3 := (hk2.blk hdr (fun h => hne.2.2 h.symm)).cell 0; have f3 := (hk2.blk hdr (fun h => hne.2.2 h.symm)).frozen 0; have d3 := hk2.blk hdr (fun h => hne.2.2 h.symm))
      have e1 : l - sm xs k - up x = l - sm xs (k + 1) := by have := HU.out; omega
      have e2 : s + sm xs k + up x = s + sm xs (k + 1) := by have := HU.out; omega
      rw [e1, e2] at hm2
      refine ⟨⟨k + 1, by omega, congrArg (Value.int .i64) (by omega), hm2.kept (kp1 _ _ _) hne.2.2, by have := d3.set_ 0 (.int .i64 ((k : Int) + 1)); simpa using this, (hkp.trans (hk2.mono (fun i hi => .inl hi))).trans ((kp1 _ _ _).mono (fun i hi => .inr hi))⟩, by simp only [intOf]; omega⟩
    · obtain rfl : k = n := by omega
      generalize xs.getD k 0 = x at *
      have hx : l - sm xs k < x := by
        have h0 : l - sm xs k < up x := by omega
        unfold up at h0
        split at h0
        · have := hmr.2.1; omega
        · exact h0
      have hsp := spend_full wr g _ _ x hmr hx
      rw [show s + sm xs k + (l - sm xs k) = s + l by omega] at hsp
      have HS := Lib.hid hsp
      have HU := Lib.hid hsu
      have HN := Lib.hid hno
      clear hsp hsu hmr hok hno hx
      go_wp2_with (go_at_call 14; refine HS.out.mono ?_; rintro e w2 ⟨rfl, hm2, hk2⟩)
      exact ⟨rfl, rfl, hm2, hk2.blk hdr (fun h => hne.2.2 h.symm), hkp.trans (hk2.mono (fun i hi => .inl hi))⟩
end Go.Proofs.Ytdhkimlofhipaaa.mt

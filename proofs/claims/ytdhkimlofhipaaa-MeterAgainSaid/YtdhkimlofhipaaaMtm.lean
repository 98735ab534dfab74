import Derived.Test.YtdhkimlofhipaaaMtl
namespace Go.Proofs.Ytdhkimlofhipaaa.mt
open Go.ChangeShapes Go.WideShapes Go.ChangeAt Go.RowKit
set_option linter.unusedVariables false
/-- the amounts' lowest bits -/
def low (xs : List Int) : List Int := xs.map (· % 4096)
theorem low_succ (xs : List Int) (k : Nat) (h : k < xs.length) : sm (low xs) (k + 1) = sm (low xs) k + xs.getD k 0 % 4096 := by
  rw [sm_succ _ _ (by simpa [low] using h)]
  have e : (low xs).getD k 0 = xs.getD k 0 % 4096 := by simp [low, List.getD, List.getElem?_map, List.getElem?_eq_getElem h]
  rw [e, up_pos (Int.emod_nonneg _ (by decide))]
theorem low_len (xs : List Int) : (low xs).length = xs.length := by simp [low]
theorem goes_g1 : Goes 16 := fun _ _ => by kernel_rfl
theorem goes_g2 : Goes 17 := fun _ _ => by kernel_rfl
theorem goes_g3 : Goes 18 := fun _ _ => by kernel_rfl
set_option maxRecDepth 100000 in
set_option maxHeartbeats 400000 in
theorem again1_ok (w : World) (B cl cm g cap : Nat) (a0 : Option Addr) (xs : List Int) (l s : Int) (h1 : Blk w cl 22 #[.slice a0 xs.length cap]) (h2 : Blk w cm 24 #[.pointer (some ⟨g, 0, none⟩)]) (hm : MtAt w g l s) (hl : ListAt B w a0 xs) (hB : B ≤ g) (hne : cm ≠ g) (hlen : xs.length ≤ 30) (hok : sm (low xs) xs.length ≤ l) : Calls Try.prog 16 #[.pointer (some ⟨cl, 0, none⟩), .pointer (some ⟨cm, 0, none⟩)] w fun e w' => e = .returned (.tuple #[]) ∧ MtAt w' g (l - sm (low xs) xs.length) (s + sm (low xs) xs.length) ∧ Kp (fun i => i = g) w w' := by
  have c1 := h1.cell 0
  go_enter Try.func16, Try.ntmps16
  go_wp2
  go_loopw [6] (fun i wr => ∃ k : Nat, k ≤ xs.length ∧ i = .int .i64 k ∧ MtAt wr g (l - sm (low xs) k) (s + sm (low xs) k) ∧ Kp (fun i => i = g) w wr) (fun i _ => xs.length - (intOf i).toNat)
  case atStart => exact ⟨0, Nat.zero_le _, rfl, by rw [sm_zero, Int.sub_zero, Int.add_zero]; exact hm, Kp.refl _ _⟩
  case round =>
    obtain ⟨k, hk, rfl, hmr, hkp⟩ := hrel
    have c2 := (hkp.blk h2 hne).cell 0
    by_cases hlt : k < xs.length
    · obtain ⟨b, o, rfl, hb, hcell⟩ := hl (by omega)
      have cx : wr.cell? ⟨b, o + k, none⟩ = some (.int .i64 (xs.getD k 0)) := hkp.cell (fun h => by omega) (hcell k hlt)
      have hsu := low_succ xs k hlt
      have hmo := sm_mono (low xs) (show k + 1 ≤ xs.length by omega)
      generalize xs.getD k 0 = x at *
      have hand := and4095 x
      have hx0 := Int.emod_nonneg x (show (4096 : Int) ≠ 0 by decide)
      have hsp := spend_ok wr g _ _ (x % 4096) hmr (by rw [up_pos hx0]; omega)
      try rw [up_pos hx0] at hsp
      have HS := Lib.hid hsp
      have HU := Lib.hid hsu
      have HM := Lib.hid hm
      clear hsp hsu hcell hmr hl hm hmo hok
      go_wp2_with (go_at_call 14; refine HS.out.mono ?_; rintro e w2 ⟨rfl, hm2, hk2⟩)
      have e1 : l - sm (low xs) k - x % 4096 = l - sm (low xs) (k + 1) := by have := HU.out; omega
      have e2 : s + sm (low xs) k + x % 4096 = s + sm (low xs) (k + 1) := by have := HU.out; omega
      rw [e1, e2] at hm2
      refine ⟨⟨k + 1, by omega, congrArg (Value.int .i64) (by omega), hm2, hkp.trans hk2⟩, by simp only [intOf]; omega⟩
    · obtain rfl : k = xs.length := by omega
      have HM := Lib.hid hm
      have HO := Lib.hid hok
      clear hm hok
      go_wp2
      refine bodyPost_end (results_none rfl _ _ _) rfl ?_
      exact ⟨rfl, hmr, hkp⟩
set_option maxRecDepth 100000 in
set_option maxHeartbeats 400000 in
theorem again1_full (w : World) (B cl cm g cap : Nat) (a0 : Option Addr) (xs : List Int) (l s : Int) (n : Nat) (h1 : Blk w cl 22 #[.slice a0 xs.length cap]) (h2 : Blk w cm 24 #[.pointer (some ⟨g, 0, none⟩)]) (hm : MtAt w g l s) (hl : ListAt B w a0 xs) (hB : B ≤ g) (hne : cm ≠ g) (hlen : xs.length ≤ 30) (hn : n < xs.length) (hok : sm (low xs) n ≤ l) (hno : l < sm (low xs) (n + 1)) : Calls Try.prog 16 #[.pointer (some ⟨cl, 0, none⟩), .pointer (some ⟨cm, 0, none⟩)] w fun e w' => e = .panicked [{ v := Full g, recovered := false }] ∧ MtAt w' g 0 (s + l) ∧ Kp (fun i => i = g) w w' := by
  have c1 := h1.cell 0
  go_enter Try.func16, Try.ntmps16
  go_wp2
  go_loopw [6] (fun i wr => ∃ k : Nat, k ≤ n ∧ i = .int .i64 k ∧ MtAt wr g (l - sm (low xs) k) (s + sm (low xs) k) ∧ Kp (fun i => i = g) w wr) (fun i _ => xs.length - (intOf i).toNat)
  case atStart => exact ⟨0, Nat.zero_le _, rfl, by rw [sm_zero, Int.sub_zero, Int.add_zero]; exact hm, Kp.refl _ _⟩
  case round =>
    obtain ⟨k, hk, rfl, hmr, hkp⟩ := hrel
    have c2 := (hkp.blk h2 hne).cell 0
    have hlt : k < xs.length := by omega
    obtain ⟨b, o, rfl, hb, hcell⟩ := hl (by omega)
    have cx : wr.cell? ⟨b, o + k, none⟩ = some (.int .i64 (xs.getD k 0)) := hkp.cell (fun h => by omega) (hcell k hlt)
    have hsu := low_succ xs k hlt
    have HM := Lib.hid hm
    clear hm hcell hl
    by_cases hkn : k < n
    · have hmo := sm_mono (low xs) (show k + 1 ≤ n by omega)
      generalize xs.getD k 0 = x at *
      have hand := and4095 x
      have hx0 := Int.emod_nonneg x (show (4096 : Int) ≠ 0 by decide)
      have hsp := spend_ok wr g _ _ (x % 4096) hmr (by rw [up_pos hx0]; omega)
      try rw [up_pos hx0] at hsp
      have HS := Lib.hid hsp
      have HU := Lib.hid hsu
      have HN := Lib.hid hno
      clear hsp hsu hmr hmo hok hno
      go_wp2_with (go_at_call 14; refine HS.out.mono ?_; rintro e w2 ⟨rfl, hm2, hk2⟩)
      have e1 : l - sm (low xs) k - x % 4096 = l - sm (low xs) (k + 1) := by have := HU.out; omega
      have e2 : s + sm (low xs) k + x % 4096 = s + sm (low xs) (k + 1) := by have := HU.out; omega
      rw [e1, e2] at hm2
      refine ⟨⟨k + 1, by omega, congrArg (Value.int .i64) (by omega), hm2, hkp.trans hk2⟩, by simp only [intOf]; omega⟩
    · obtain rfl : k = n := by omega
      generalize xs.getD k 0 = x at *
      have hand := and4095 x
      have hx0 := Int.emod_nonneg x (show (4096 : Int) ≠ 0 by decide)
      have hx : l - sm (low xs) k < x % 4096 := by omega
      have hsp := spend_full wr g _ _ (x % 4096) hmr hx
      rw [show s + sm (low xs) k + (l - sm (low xs) k) = s + l by omega] at hsp
      try rw [up_pos hx0] at hsp
      have HS := Lib.hid hsp
      have HU := Lib.hid hsu
      have HN := Lib.hid hno
      clear hsp hsu hmr hok hno hx
      go_wp2_with (go_at_call 14; refine HS.out.mono ?_; rintro e w2 ⟨rfl, hm2, hk2⟩)
      exact ⟨rfl, rfl, hm2, hkp.trans hk2⟩
set_option maxRecDepth 100000 in
theorem again2_ok (w : World) (cm cx g : Nat) (l s x : Int) (h2 : Blk w cm 24 #[.pointer (some ⟨g, 0, none⟩)]) (h3 : Blk w cx 3 #[.int .i64 x]) (hm : MtAt w g l s) (hx : x % 4096 ≤ l) : Calls Try.prog 17 #[.pointer (some ⟨cm, 0, none⟩), .pointer (some ⟨cx, 0, none⟩)] w fun e w' => e = .returned (.tuple #[]) ∧ (MtAt w' g (l - x % 4096) (s + x % 4096) ∧ Kp (fun i => i = g) w w') := by
  have hx0 := Int.emod_nonneg x (show (4096 : Int) ≠ 0 by decide)
  have hs := spend_ok w g l s (x % 4096) hm (by rw [up_pos hx0]; exact hx)
  rw [up_pos hx0] at hs
  have hand := and4095 x
  have c1 := h2.cell 0
  have c2 := h3.cell 0
  clear hx0 hx
  go_enter Try.func17, Try.ntmps17
  go_wp2_with fail
  refine hs.mono ?_
  rintro e w1 ⟨rfl, hm1, hk1⟩
  clear hs
  go_wp2_with fail
  refine bodyPost_end (results_none rfl _ _ _) rfl ?_
  exact ⟨rfl, hm1, hk1⟩
set_option maxRecDepth 100000 in
theorem again2_full (w : World) (cm cx g : Nat) (l s x : Int) (h2 : Blk w cm 24 #[.pointer (some ⟨g, 0, none⟩)]) (h3 : Blk w cx 3 #[.int .i64 x]) (hm : MtAt w g l s) (hx : l < x % 4096) : Calls Try.prog 17 #[.pointer (some ⟨cm, 0, none⟩), .pointer (some ⟨cx, 0, none⟩)] w fun e w' => e = .panicked [{ v := Full g, recovered := false }] ∧ (MtAt w' g 0 (s + l) ∧ Kp (fun i => i = g) w w') := by
  have hs := spend_full w g l s (x % 4096) hm hx
  have hand := and4095 x
  have c1 := h2.cell 0
  have c2 := h3.cell 0
  clear hx
  go_enter Try.func17, Try.ntmps17
  go_wp2_with fail
  refine hs.mono ?_
  rintro e w1 ⟨rfl, hm1, hk1⟩
  clear hs
  go_wp2_with fail
  exact ⟨rfl, rfl, hm1, hk1⟩
set_option maxRecDepth 100000 in
theorem again3 (w : World) (cm g : Nat) (l s : Int) (h2 : Blk w cm 24 #[.pointer (some ⟨g, 0, none⟩)]) (hm : MtAt w g l s) : Calls Try.prog 18 #[.pointer (some ⟨cm, 0, none⟩)] w fun e w' => e = .returned (.tuple #[]) ∧ (MtAt w' g l s ∧ Kp (fun i => i = g) w w') := by
  have hs := spend_ok w g l s 0 hm (by rw [up_pos (Int.le_refl 0)]; exact hm.2.1)
  rw [up_pos (Int.le_refl 0), Int.sub_zero, Int.add_zero] at hs
  have c1 := h2.cell 0
  go_enter Try.func18, Try.ntmps18
  go_wp2_with fail
  refine hs.mono ?_
  rintro e w1 ⟨rfl, hm1, hk1⟩
  clear hs
  go_wp2_with fail
  refine bodyPost_end (results_none rfl _ _ _) rfl ?_
  exact ⟨rfl, hm1, hk1⟩
end Go.Proofs.Ytdhkimlofhipaaa.mt

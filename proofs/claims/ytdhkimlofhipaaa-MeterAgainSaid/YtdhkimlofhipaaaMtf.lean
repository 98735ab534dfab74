import Derived.Test.YtdhkimlofhipaaaMte
namespace Go.Proofs.Ytdhkimlofhipaaa.mt
open Go.ChangeShapes Go.WideShapes Go.ChangeAt Go.RowKit
set_option linter.unusedVariables false
set_option maxRecDepth 100000 in
set_option maxHeartbeats 400000 in
theorem tries2_ok (w : World) (B cl cm cd g cap : Nat) (a0 : Option Addr) (xs : List Int) (l s : Int) (h1 : Blk w cl 22 #[.slice a0 xs.length cap]) (h2 : Blk w cm 24 #[.pointer (some ⟨g, 0, none⟩)]) (h3 : Blk w cd 3 #[.int .i64 0]) (hm : MtAt w g l s) (hl : ListAt B w a0 xs) (hB : B ≤ g ∧ B ≤ cd) (hne : cm ≠ g ∧ cm ≠ cd ∧ g ≠ cd) (hlen : xs.length ≤ 40) (hok : sm xs xs.length ≤ l) : Calls Try.prog 24 #[.pointer (some ⟨cl, 0, none⟩), .pointer (some ⟨cm, 0, none⟩), .pointer (some ⟨cd, 0, none⟩)] w fun e w' => e = .returned (.tuple #[]) ∧ MtAt w' g (l - sm xs xs.length) (s + sm xs xs.length) ∧ Blk w' cd 3 #[.int .i64 xs.length] ∧ Kp (fun i => i = g ∨ i = cd) w w' := by
  have c1 := h1.cell 0
  go_enter Try.func24, Try.ntmps24
  go_wp2
  go_loopw [7] (fun i wr => ∃ k : Nat, k ≤ xs.length ∧ i = .int .i64 k ∧ MtAt wr g (l - sm xs k) (s + sm xs k) ∧ Blk wr cd 3 #[.int .i64 k] ∧ Kp (fun i => i = g ∨ i = cd) w wr) (fun i _ => xs.length - (intOf i).toNat)
  case atStart => exact ⟨0, Nat.zero_le _, rfl, by rw [sm_zero, Int.sub_zero, Int.add_zero]; exact hm, h3, Kp.refl _ _⟩
  case round =>
    obtain ⟨k, hk, rfl, hmr, hdr, hkp⟩ := hrel
    have c2 := (hkp.blk h2 (fun h => h.elim hne.1 hne.2.1)).cell 0
    by_cases hlt : k < xs.length
    · obtain ⟨b, o, rfl, hb, hcell⟩ := hl (by omega)
      have cx : wr.cell? ⟨b, o + k, none⟩ = some (.int .i64 (xs.getD k 0)) := hkp.cell (fun h => h.elim (fun h => by omega) (fun h => by omega)) (hcell k hlt)
      have hsu := sm_succ xs k hlt
      have hmo := sm_mono xs (show k + 1 ≤ xs.length by omega)
      generalize xs.getD k 0 = x at *
      have hsp := spend_ok wr g _ _ x hmr (by omega)
      have HS := Lib.hid hsp
      have HU := Lib.hid hsu
      have HM := Lib.hid hm
      clear hsp hsu hcell hmr hl hm hmo hok
      go_wp2_with (go_at_call 14; refine HS.out.mono ?_; rintro e w2 ⟨rfl, hm2, hk2⟩; have c3 := (hk2.blk hdr (fun h => hne.2.2 h.symm)).cell 0; have f3 := (hk2.blk hdr (fun h => hne.2.2 h.symm)).frozen 0; have d3 := hk2.blk hdr (fun h => hne.2.2 h.symm))
      have e1 : l - sm xs k - up x = l - sm xs (k + 1) := by have := HU.out; omega
      have e2 : s + sm xs k + up x = s + sm xs (k + 1) := by have := HU.out; omega
      rw [e1, e2] at hm2
      refine ⟨⟨k + 1, by omega, congrArg (Value.int .i64) (by omega), hm2.kept (kp1 _ _ _) hne.2.2, by have := d3.set_ 0 (.int .i64 ((k : Int) + 1)); simpa using this, (hkp.trans (hk2.mono (fun i hi => .inl hi))).trans ((kp1 _ _ _).mono (fun i hi => .inr hi))⟩, by simp only [intOf]; omega⟩
    · obtain rfl : k = xs.length := by omega
      have HM := Lib.hid hm
      have HO := Lib.hid hok
      clear hm hok
      go_wp2
      refine bodyPost_end (results_none rfl _ _ _) rfl ?_
      exact ⟨rfl, hmr, hdr, hkp⟩
set_option maxRecDepth 100000 in
set_option maxHeartbeats 400000 in
theorem tries2_full (w : World) (B cl cm cd g cap : Nat) (a0 : Option Addr) (xs : List Int) (l s : Int) (n : Nat) (h1 : Blk w cl 22 #[.slice a0 xs.length cap]) (h2 : Blk w cm 24 #[.pointer (some ⟨g, 0, none⟩)]) (h3 : Blk w cd 3 #[.int .i64 0]) (hm : MtAt w g l s) (hl : ListAt B w a0 xs) (hB : B ≤ g ∧ B ≤ cd) (hne : cm ≠ g ∧ cm ≠ cd ∧ g ≠ cd) (hlen : xs.length ≤ 40) (hn : n < xs.length) (hok : sm xs n ≤ l) (hno : l < sm xs (n + 1)) : Calls Try.prog 24 #[.pointer (some ⟨cl, 0, none⟩), .pointer (some ⟨cm, 0, none⟩), .pointer (some ⟨cd, 0, none⟩)] w fun e w' => e = .panicked [{ v := Full g, recovered := false }] ∧ MtAt w' g 0 (s + l) ∧ Blk w' cd 3 #[.int .i64 n] ∧ Kp (fun i => i = g ∨ i = cd) w w' := by
  have c1 := h1.cell 0
  go_enter Try.func24, Try.ntmps24
  go_wp2
  go_loopw [7] (fun i wr => ∃ k : Nat, k ≤ n ∧ i = .int .i64 k ∧ MtAt wr g (l - sm xs k) (s + sm xs k) ∧ Blk wr cd 3 #[.int .i64 k] ∧ Kp (fun i => i = g ∨ i = cd) w wr) (fun i _ => xs.length - (intOf i).toNat)
  case atStart => exact ⟨0, Nat.zero_le _, rfl, by rw [sm_zero, Int.sub_zero, Int.add_zero]; exact hm, h3, Kp.refl _ _⟩
  case round =>
    obtain ⟨k, hk, rfl, hmr, hdr, hkp⟩ := hrel
    have c2 := (hkp.blk h2 (fun h => h.elim hne.1 hne.2.1)).cell 0
    have hlt : k < xs.length := by omega
    obtain ⟨b, o, rfl, hb, hcell⟩ := hl (by omega)
    have cx : wr.cell? ⟨b, o + k, none⟩ = some (.int .i64 (xs.getD k 0)) := hkp.cell (fun h => h.elim (fun h => by omega) (fun h => by omega)) (hcell k hlt)
    have hsu := sm_succ xs k hlt
    have HM := Lib.hid hm
    clear hm hcell hl
    by_cases hkn : k < n
    · have hmo := sm_mono xs (show k + 1 ≤ n by omega)
      generalize xs.getD k 0 = x at *
      have hsp := spend_ok wr g _ _ x hmr (by omega)
      have HS := Lib.hid hsp
      have HU := Lib.hid hsu
      have HN := Lib.hid hno
      clear hsp hsu hmr hmo hok hno
      go_wp2_with (go_at_call 14; refine HS.out.mono ?_; rintro e w2 ⟨rfl, hm2, hk2⟩; have c3 := (hk2.blk hdr (fun h => hne.2.2 h.symm)).cell 0; have f3 := (hk2.blk hdr (fun h => hne.2.2 h.symm)).frozen 0; have d3 := hk2.blk hdr (fun h => hne.2.2 h.symm))
      have e1 : l - sm xs k - up x = l - sm xs (k + 1) := by have := HU.out; omega
      have e2 : s + sm xs k + up x = s + sm xs (k + 1) := by have := HU.out; omega
      rw [e1, e2] at hm2
      refine ⟨⟨k + 1, by omega, congrArg (Value.int .i64) (by omega), hm2.kept (kp1 _ _ _) hne.2.2, by have := d3.set_ 0 (.int .i64 ((k : Int) + 1)); simpa using this, (hkp.trans (hk2.mono (fun i hi => .inl hi))).trans ((kp1 _ _ _).mono (fun i hi => .inr hi))⟩, by simp only [intOf]; omega⟩
    · obtain rfl : k = n := by omega
      generalize xs.getD k 0 = x at *
      have hx : l - sm xs k < x := by
        have h0 : l - sm xs k < up x := by omega
        unfold up at h0
        split at h0
        · have := hmr.2.1; omega
        · exact h0
      have hsp := spend_full wr g _ _ x hmr hx
      rw [show s + sm xs k + (l - sm xs k) = s + l by omega] at hsp
      have HS := Lib.hid hsp
      have HU := Lib.hid hsu
      have HN := Lib.hid hno
      clear hsp hsu hmr hok hno hx
      go_wp2_with (go_at_call 14; refine HS.out.mono ?_; rintro e w2 ⟨rfl, hm2, hk2⟩)
      exact ⟨rfl, rfl, hm2, hk2.blk hdr (fun h => hne.2.2 h.symm), hkp.trans (hk2.mono (fun i hi => .inl hi))⟩
set_option maxRecDepth 100000 in
set_option maxHeartbeats 400000 in
theorem tries1_ok (w : World) (B cl cd g cap : Nat) (a0 : Option Addr) (xs : List Int) (l s : Int) (h1 : Blk w cl 22 #[.slice a0 xs.length cap]) (h3 : Blk w cd 3 #[.int .i64 0]) (hm : MtAt w g l s) (hl : ListAt B w a0 xs) (hB : B ≤ g ∧ B ≤ cd) (hne : g ≠ cd) (hlen : xs.length ≤ 40) (hok : sm xs xs.length ≤ l) : Calls Try.prog 23 #[.pointer (some ⟨g, 0, none⟩), .pointer (some ⟨cl, 0, none⟩), .pointer (some ⟨cd, 0, none⟩)] w fun e w' => e = .returned (.tuple #[]) ∧ MtAt w' g (l - sm xs xs.length) (s + sm xs xs.length) ∧ Blk w' cd 3 #[.int .i64 xs.length] ∧ Kp (fun i => i = g ∨ i = cd) w w' := by
  have c1 := h1.cell 0
  go_enter Try.func23, Try.ntmps23
  go_wp2
  go_loopw [8] (fun i wr => ∃ k : Nat, k ≤ xs.length ∧ i = .int .i64 k ∧ MtAt wr g (l - sm xs k) (s + sm xs k) ∧ Blk wr cd 3 #[.int .i64 k] ∧ Kp (fun i => i = g ∨ i = cd) w wr) (fun i _ => xs.length - (intOf i).toNat)
  case atStart => exact ⟨0, Nat.zero_le _, rfl, by rw [sm_zero, Int.sub_zero, Int.add_zero]; exact hm, h3, Kp.refl _ _⟩
  case round =>
    obtain ⟨k, hk, rfl, hmr, hdr, hkp⟩ := hrel
    by_cases hlt : k < xs.length
    · obtain ⟨b, o, rfl, hb, hcell⟩ := hl (by omega)
      have cx : wr.cell? ⟨b, o + k, none⟩ = some (.int .i64 (xs.getD k 0)) := hkp.cell (fun h => h.elim (fun h => by omega) (fun h => by omega)) (hcell k hlt)
      have hsu := sm_succ xs k hlt
      have hmo := sm_mono xs (show k + 1 ≤ xs.length by omega)
      generalize xs.getD k 0 = x at *
      have hsp := spend_ok wr g _ _ x hmr (by omega)
      have HS := Lib.hid hsp
      have HU := Lib.hid hsu
      have HM := Lib.hid hm
      clear hsp hsu hcell hmr hl hm hmo hok
      go_wp2_with (go_at_call 14; refine HS.out.mono ?_; rintro e w2 ⟨rfl, hm2, hk2⟩; have c3 := (hk2.blk hdr (fun h => hne h.symm)).cell 0; have f3 := (hk2.blk hdr (fun h => hne h.symm)).frozen 0; have d3 := hk2.blk hdr (fun h => hne h.symm))
      have e1 : l - sm xs k - up x = l - sm xs (k + 1) := by have := HU.out; omega
      have e2 : s + sm xs k + up x = s + sm xs (k + 1) := by have := HU.out; omega
      rw [e1, e2] at hm2
      refine ⟨⟨k + 1, by omega, congrArg (Value.int .i64) (by omega), hm2.kept (kp1 _ _ _) hne, by have := d3.set_ 0 (.int .i64 ((k : Int) + 1)); simpa using this, (hkp.trans (hk2.mono (fun i hi => .inl hi))).trans ((kp1 _ _ _).mono (fun i hi => .inr hi))⟩, by simp only [intOf]; omega⟩
    · obtain rfl : k = xs.length := by omega
      have HM := Lib.hid hm
      have HO := Lib.hid hok
      clear hm hok
      go_wp2
      refine bodyPost_end (results_none rfl _ _ _) rfl ?_
      exact ⟨rfl, hmr, hdr, hkp⟩
set_option maxRecDepth 100000 in
set_option maxHeartbeats 400000 in
theorem tries1_full (w : World) (B cl cd g cap : Nat) (a0 : Option Addr) (xs : List Int) (l s : Int) (n : Nat) (h1 : Blk w cl 22 #[.slice a0 xs.length cap]) (h3 : Blk w cd 3 #[.int .i64 0]) (hm : MtAt w g l s) (hl : ListAt B w a0 xs) (hB : B ≤ g ∧ B ≤ cd) (hne : g ≠ cd) (hlen : xs.length ≤ 40) (hn : n < xs.length) (hok : sm xs n ≤ l) (hno : l < sm xs (n + 1)) : Calls Try.prog 23 #[.pointer (some ⟨g, 0, none⟩), .pointer (some ⟨cl, 0, none⟩), .pointer (some ⟨cd, 0, none⟩)] w fun e w' => e = .panicked [{ v := Full g, recovered := false }] ∧ MtAt w' g 0 (s + l) ∧ Blk w' cd 3 #[.int .i64 n] ∧ Kp (fun i => i = g ∨ i = cd) w w' := by
  have c1 := h1.cell 0
  go_enter Try.func23, Try.ntmps23
  go_wp2
  go_loopw [8] (fun i wr => ∃ k : Nat, k ≤ n ∧ i = .int .i64 k ∧ MtAt wr g (l - sm xs k) (s + sm xs k) ∧ Blk wr cd 3 #[.int .i64 k] ∧ Kp (fun i => i = g ∨ i = cd) w wr) (fun i _ => xs.length - (intOf i).toNat)
  case atStart => exact ⟨0, Nat.zero_le _, rfl, by rw [sm_zero, Int.sub_zero, Int.add_zero]; exact hm, h3, Kp.refl _ _⟩
  case round =>
    obtain ⟨k, hk, rfl, hmr, hdr, hkp⟩ := hrel
    have hlt : k < xs.length := by omega
    obtain ⟨b, o, rfl, hb, hcell⟩ := hl (by omega)
    have cx : wr.cell? ⟨b, o + k, none⟩ = some (.int .i64 (xs.getD k 0)) := hkp.cell (fun h => h.elim (fun h => by omega) (fun h => by omega)) (hcell k hlt)
    have hsu := sm_succ xs k hlt
    have HM := Lib.hid hm
    clear hm hcell hl
    by_cases hkn : k < n
    · have hmo := sm_mono xs (show k + 1 ≤ n by omega)
      generalize xs.getD k 0 = x at *
      have hsp := spend_ok wr g _ _ x hmr (by omega)
      have HS := Lib.hid hsp
      have HU := Lib.hid hsu
      have HN := Lib.hid hno
      clear hsp hsu hmr hmo hok hno
      go_wp2_with (go_at_call 14; refine HS.out.mono ?_; rintro e w2 ⟨rfl, hm2, hk2⟩; have c3 := (hk2.blk hdr (fun h => hne h.symm)).cell 0; have f3 := (hk2.blk hdr (fun h => hne h.symm)).frozen 0; have d3 := hk2.blk hdr (fun h => hne h.symm))
      have e1 : l - sm xs k - up x = l - sm xs (k + 1) := by have := HU.out; omega
      have e2 : s + sm xs k + up x = s + sm xs (k + 1) := by have := HU.out; omega
      rw [e1, e2] at hm2
      refine ⟨⟨k + 1, by omega, congrArg (Value.int .i64) (by omega), hm2.kept (kp1 _ _ _) hne, by have := d3.set_ 0 (.int .i64 ((k : Int) + 1)); simpa using this, (hkp.trans (hk2.mono (fun i hi => .inl hi))).trans ((kp1 _ _ _).mono (fun i hi => .inr hi))⟩, by simp only [intOf]; omega⟩
    · obtain rfl : k = n := by omega
      generalize xs.getD k 0 = x at *
      have hx : l - sm xs k < x := by
        have h0 : l - sm xs k < up x := by omega
        unfold up at h0
        split at h0
        · have := hmr.2.1; omega
        · exact h0
      have hsp := spend_full wr g _ _ x hmr hx
      rw [show s + sm xs k + (l - sm xs k) = s + l by omega] at hsp
      have HS := Lib.hid hsp
      have HU := Lib.hid hsu
      have HN := Lib.hid hno
      clear hsp hsu hmr hok hno hx
      go_wp2_with (go_at_call 14; refine HS.out.mono ?_; rintro e w2 ⟨rfl, hm2, hk2⟩)
      exact ⟨rfl, rfl, hm2, hk2.blk hdr (fun h => hne h.symm), hkp.trans (hk2.mono (fun i hi => .inl hi))⟩
end Go.Proofs.Ytdhkimlofhipaaa.mt

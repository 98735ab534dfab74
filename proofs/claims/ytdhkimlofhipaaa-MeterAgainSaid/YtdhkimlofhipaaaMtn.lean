import Derived.Test.YtdhkimlofhipaaaMtm
namespace Go.Proofs.Ytdhkimlofhipaaa.mt
open Go.ChangeShapes Go.WideShapes Go.ChangeAt Go.RowKit
set_option linter.unusedVariables false
set_option maxRecDepth 100000 in
set_option maxHeartbeats 400000 in
theorem again_long (n : Int) (w : World) (a0 b0 : Option Addr) (ca cb la lb : Nat) (hlen : 30 < la ∨ 30 < lb) (hma : la ≤ maxLen) (hmb : lb ≤ maxLen) : Calls Try.prog 4 #[.int .i64 n, .slice a0 la ca, .slice b0 lb cb] w fun e w' => e = .returned (.bool true) ∧ Below w.heap.size w w' := by
  unfold maxLen at hma hmb
  by_cases h1 : 30 < la
  · go_enter Try.func4, Try.ntmps4
    go_wp2_with fail
    refine (alive_any _).mono ?_
    rintro e w1 ⟨rfl, hb⟩
    have b1 : Blk w1 w.heap.size 22 #[.slice a0 la ca] := (Blk.new' rfl).below hb (Nat.le_refl _)
    have c1 := b1.cell 0
    go_wp2_with fail
    go_ret
    exact ⟨rfl, ((Below.refl _ _).alloc (Nat.le_refl _) _).trans (hb.mono (by simp))⟩
  · have h2 : 30 < lb := by omega
    have h3 : la ≤ 30 := by omega
    clear hlen h1
    go_enter Try.func4, Try.ntmps4
    go_wp2_with fail
    refine (alive_any _).mono ?_
    rintro e w1 ⟨rfl, hb⟩
    have b1 : Blk w1 w.heap.size 22 #[.slice a0 la ca] := (Blk.new' rfl).below hb (Nat.le_refl _)
    have c1 := b1.cell 0
    go_wp2_with fail
    go_ret
    exact ⟨rfl, ((Below.refl _ _).alloc (Nat.le_refl _) _).trans (hb.mono (by simp))⟩
def Sec (sb : Bool) (L m : Int) : Prop := if sb then L = m else L = 0
theorem low_bd (xs : List Int) (k : Nat) : sm (low xs) k ≤ 4096 * k := by
  induction k with
  | zero => rw [sm_zero]; decide
  | succ k ih =>
    by_cases hk : k < xs.length
    · have := low_succ xs k hk
      have := Int.emod_lt_of_pos (xs.getD k 0) (show (0 : Int) < 4096 by decide)
      push_cast
      omega
    · have : sm (low xs) (k + 1) = sm (low xs) k := by unfold sm; rw [List.take_of_length_le (by rw [low_len]; omega), List.take_of_length_le (by rw [low_len]; omega)]
      push_cast
      omega
theorem again_step (W : World) (cm cx g : Nat) (L S x : Int) (h2 : Blk W cm 24 #[.pointer (some ⟨g, 0, none⟩)]) (h3 : Blk W cx 3 #[.int .i64 x]) (hm : MtAt W g L S) :
    (x % 4096 ≤ L → Calls Try.prog 12 #[.pointer (some ⟨g, 0, none⟩), .func (.func 17) #[] #[.pointer (some ⟨cm, 0, none⟩), .pointer (some ⟨cx, 0, none⟩)]] W fun e w' => e = .returned (.bool true) ∧ MtAt w' g (L - x % 4096) (S + x % 4096) ∧ Kp (fun i => i = g) W w') ∧
    (L < x % 4096 → Calls Try.prog 12 #[.pointer (some ⟨g, 0, none⟩), .func (.func 17) #[] #[.pointer (some ⟨cm, 0, none⟩), .pointer (some ⟨cx, 0, none⟩)]] W fun e w' => e = .returned (.bool false) ∧ MtAt w' g 0 (S + L) ∧ Kp (fun i => i = g) W w') := by
  have hl := hm.1.lt
  refine ⟨fun hx => run_done' W g 17 _ (.tuple #[]) _ _ goes_g2 (fun W' k => again2_ok W' cm cx g L S x (k.blk h2 id) (k.blk h3 id) (hm.kept k id) hx), fun hx => ?_⟩
  exact (run_full' W g 17 _ _ _ goes_g2 (by omega) (fun W' k => again2_full W' cm cx g L S x (k.blk h2 id) (k.blk h3 id) (hm.kept k id) hx)).mono fun e w' ⟨he, hk, w1, h1, hb⟩ => ⟨he, h1.kept (Kp.of_below hb) (by have := h1.1.lt; omega), hk⟩
set_option maxRecDepth 100000 in
set_option maxHeartbeats 800000 in
theorem again_any (n : Int) (w : World) (a0 b0 : Option Addr) (ca cb : Nat) (xs ys : List Int) (hx : ListAt w.heap.size w a0 xs) (hy : ListAt w.heap.size w b0 ys) (hlx : xs.length ≤ 30) (hly : ys.length ≤ 30) : Calls Try.prog 4 #[.int .i64 n, .slice a0 xs.length ca, .slice b0 ys.length cb] w fun e w' => e = .returned (.bool true) ∧ Below w.heap.size w w' := by
  have hmf := mf
  have hh := heldI_bd n
  go_enter Try.func4, Try.ntmps4
  go_wp2_with fail
  refine (alive_any _).mono ?_
  rintro e w1 ⟨rfl, hb⟩
  have b1 : Blk w1 w.heap.size 22 #[.slice a0 xs.length ca] := (Blk.new' rfl).below hb (Nat.le_refl _)
  have hB1 : Below w.heap.size w w1 := ((Below.refl _ _).alloc (Nat.le_refl _) _).trans (hb.mono (by simp))
  have c1 := b1.cell 0
  have hx1 := hx.kept (Kp.of_below hB1) (fun i hi => hi)
  have hy1 := hy.kept (Kp.of_below hB1) (fun i hi => hi)
  have HH := Lib.hid hb
  clear hb hx hy
  go_wp2_with fail
  refine (new_any _ _).mono ?_
  rintro e w2 ⟨rfl, rfl⟩
  go_wp2_with fail
  generalize hW : ((w1.alloc (.cells #[.int .i64 (heldI n), .int .i64 0] 39)).alloc (.cells #[.pointer (some ⟨w1.heap.size, 0, none⟩)] 24)) = W
  have b2 : MtAt W w1.heap.size (heldI n) 0 := by rw [← hW]; exact ((mt_new (n := n) rfl)).alloc _
  have b3 : Blk W (w1.heap.size + 1) 24 #[.pointer (some ⟨w1.heap.size, 0, none⟩)] := by rw [← hW]; exact Blk.new' (by simp)
  have k1 : Kp No w1 W := by rw [← hW]; exact (kp_new _ _).trans (kp_new _ _)
  have hz : W.heap.size = w1.heap.size + 1 + 1 := by rw [← hW]; simp
  have b5 := k1.blk b1 id
  have hx2 := hx1.kept k1 (fun i hi => hi.elim)
  have hy2 := hy1.kept k1 (fun i hi => hi.elim)
  have hlt := b1.lt
  have hB2 := below_kp hB1 k1 (Nat.le_refl _) (fun i _ h => h)
  have HZ := Lib.hid hz
  have HL1 := Lib.hid hx1
  have HL2 := Lib.hid hy1
  clear hW hz b1 c1 k1 hB1 hx1 hy1
  have hrun : ∃ (first : Bool) (l0 s0 : Int), (first = true ∨ l0 = 0) ∧ Calls Try.prog 12 #[.pointer (some ⟨w1.heap.size, 0, none⟩), .func (.func 16) #[] #[.pointer (some ⟨w.heap.size, 0, none⟩), .pointer (some ⟨w1.heap.size + 1, 0, none⟩)]] W fun e w' => e = .returned (.bool first) ∧ MtAt w' w1.heap.size l0 s0 ∧ Kp (fun i => i = w1.heap.size) W w' := by
    rcases sm_stop (low xs) (heldI n) hh.1 with h | ⟨k, h1, h2, h3⟩
    · rw [low_len] at h
      exact ⟨true, _, _, .inl rfl, run_done' W w1.heap.size 16 _ (.tuple #[]) _ _ goes_g1 (fun W' k => (again1_ok W' w.heap.size w.heap.size (w1.heap.size + 1) w1.heap.size ca a0 xs _ _ (k.blk b5 id) (k.blk b3 id) (b2.kept k id) (hx2.kept k (fun i hi => hi.elim)) (by omega) (by omega) hlx h))⟩
    · rw [low_len] at h1
      refine ⟨false, 0, _, .inr rfl, (run_full' W w1.heap.size 16 _ _ _ goes_g1 (by rw [HZ.out]; omega) (fun W' kk => (again1_full W' w.heap.size w.heap.size (w1.heap.size + 1) w1.heap.size ca a0 xs _ _ k (kk.blk b5 id) (kk.blk b3 id) (b2.kept kk id) (hx2.kept kk (fun i hi => hi.elim)) (by omega) (by omega) hlx h1 h2 h3))).mono fun e w' ⟨he, hk, w1', hm, hbb⟩ => ⟨he, hm.kept (Kp.of_below hbb) (by have := hm.1.lt; omega), hk⟩⟩
  obtain ⟨first, l0, s0, hfl, hrun⟩ := hrun
  refine hrun.mono ?_
  rintro e w2 ⟨rfl, m2, hk2⟩
  clear hrun
  have v2 := hk2.blk b3 (by omega)
  have c2 := v2.cell 0
  have hy3 := hy2.kept hk2 (fun i hi => by omega)
  have hB3 := below_kp hB2 hk2 (Nat.le_refl _) (by omega)
  clear hx2 hy2 b2 b3 b5 hB2
  go_wp2_with fail
  refine (left_any _ _ _ _ m2).mono ?_
  rintro e w3 ⟨rfl, rfl⟩
  go_wp2_with fail
  have hlt2 := v2.lt
  have hl0 := m2.2.1
  have hl1 : l0 ≤ 1000000 := by have := m2.2.2; omega
  have HX := Lib.hid hB3
  clear hB3 c2
  go_loopw [10, 11, 35] (fun su sec i wr => ∃ (k : Nat) (sb : Bool) (L S : Int), k ≤ ys.length ∧ i = .int .i64 k ∧ su = .int .i64 (sm (low ys) k) ∧ sec = .bool sb ∧ MtAt wr w1.heap.size L S ∧ Sec sb L (l0 - sm (low ys) k) ∧ Kp (fun i => i = w1.heap.size ∨ w2.heap.size ≤ i) w2 wr) (fun _ _ i _ => ys.length - (intOf i).toNat)
  case atStart => exact ⟨0, true, l0, s0, Nat.zero_le _, rfl, by rw [sm_zero], rfl, m2, by rw [sm_zero, Int.sub_zero]; exact rfl, Kp.refl _ _⟩
  case round =>
    obtain ⟨k, sb, L, S, hk, rfl, rfl, rfl, hm, hsec, hkp⟩ := hrel
    have z1 := hkp.size
    have y2 := hkp.blk v2 (by omega)
    have hs0 := sm_nonneg (low ys) k
    have hs1 := low_bd ys k
    by_cases hlt : k < ys.length
    · obtain ⟨b, o, rfl, hbb, hcell⟩ := hy3 (by omega)
      have cx : wr.cell? ⟨b, o + k, none⟩ = some (.int .i64 (ys.getD k 0)) := hkp.cell (by omega) (hcell k hlt)
      have hsu := low_succ ys k hlt
      have M2 := Lib.hid m2
      have HY := Lib.hid hy3
      clear hcell m2 hy3
      generalize ys.getD k 0 = x at *
      have hand := and4095 x
      have hx0 := Int.emod_nonneg x (show (4096 : Int) ≠ 0 by decide)
      have hx1 := Int.emod_lt_of_pos x (show (0 : Int) < 4096 by decide)
      have hst := again_step (wr.alloc (.cells #[.int .i64 x] 3)) (w1.heap.size + 1) wr.heap.size w1.heap.size L S x (y2.alloc _) (Blk.new' rfl) (hm.alloc _)
      generalize hq : x % 4096 = q at *
      generalize hsk : sm (low ys) k = sk at *
      have c2 := (y2.alloc (.cells #[.int .i64 x] 3)).cell 0
      have HU := Lib.hid hsu
      have HQ := Lib.hid hq
      have HK := Lib.hid hsk
      have HM := Lib.hid hm
      clear hsu hq hsk hm
      obtain ⟨hst1, hst2⟩ := hst
      cases sb with
      | true =>
        have hL : L = l0 - sk := hsec
        subst hL
        by_cases hqL : q ≤ l0 - sk
        · have hsum : sk + q ≤ l0 := by omega
          have HT := Lib.hid (hst1 hqL)
          clear hst1 hst2 hsec
          go_wp2_with (go_at_call 12; refine HT.out.mono ?_; rintro e w5 ⟨rfl, hm5, hk5⟩)
          refine ⟨⟨k + 1, true, _, _, by omega, congrArg (Value.int .i64) (by omega), congrArg (Value.int .i64) HU.out.symm, rfl, hm5, (show l0 - sk - q = l0 - sm (low ys) (k + 1) by have := HU.out; omega), (hkp.trans ((kp_new wr _).mono (fun _ h => h.elim))).trans (hk5.mono (fun i hi => .inl hi))⟩, by simp only [intOf]; omega⟩
        · have hqL' : l0 - sk < q := by omega
          have hsum : l0 < sk + q := by omega
          have HT := Lib.hid (hst2 hqL')
          clear hst1 hst2 hsec
          go_wp2_with (go_at_call 12; refine HT.out.mono ?_; rintro e w5 ⟨rfl, hm5, hk5⟩)
          refine ⟨⟨k + 1, false, _, _, by omega, congrArg (Value.int .i64) (by omega), congrArg (Value.int .i64) HU.out.symm, rfl, hm5, rfl, (hkp.trans ((kp_new wr _).mono (fun _ h => h.elim))).trans (hk5.mono (fun i hi => .inl hi))⟩, by simp only [intOf]; omega⟩
      | false =>
        have hL : L = 0 := hsec
        subst hL
        by_cases hqL : q ≤ 0
        · have HT := Lib.hid (hst1 hqL)
          clear hst1 hst2 hsec
          by_cases hsum : sk + q ≤ l0
          · go_wp2_with (go_at_call 12; refine HT.out.mono ?_; rintro e w5 ⟨rfl, hm5, hk5⟩)
            refine ⟨⟨k + 1, false, _, _, by omega, congrArg (Value.int .i64) (by omega), congrArg (Value.int .i64) HU.out.symm, rfl, hm5, (show 0 - q = 0 by omega), (hkp.trans ((kp_new wr _).mono (fun _ h => h.elim))).trans (hk5.mono (fun i hi => .inl hi))⟩, by simp only [intOf]; omega⟩
          · have hsum' : l0 < sk + q := by omega
            clear hsum
            go_wp2_with (go_at_call 12; refine HT.out.mono ?_; rintro e w5 ⟨rfl, hm5, hk5⟩)
            refine ⟨⟨k + 1, false, _, _, by omega, congrArg (Value.int .i64) (by omega), congrArg (Value.int .i64) HU.out.symm, rfl, hm5, (show 0 - q = 0 by omega), (hkp.trans ((kp_new wr _).mono (fun _ h => h.elim))).trans (hk5.mono (fun i hi => .inl hi))⟩, by simp only [intOf]; omega⟩
        · have hqL' : 0 < q := by omega
          have HT := Lib.hid (hst2 hqL')
          clear hst1 hst2 hsec
          by_cases hsum : sk + q ≤ l0
          · go_wp2_with (go_at_call 12; refine HT.out.mono ?_; rintro e w5 ⟨rfl, hm5, hk5⟩)
            refine ⟨⟨k + 1, false, _, _, by omega, congrArg (Value.int .i64) (by omega), congrArg (Value.int .i64) HU.out.symm, rfl, hm5, rfl, (hkp.trans ((kp_new wr _).mono (fun _ h => h.elim))).trans (hk5.mono (fun i hi => .inl hi))⟩, by simp only [intOf]; omega⟩
          · have hsum' : l0 < sk + q := by omega
            clear hsum
            go_wp2_with (go_at_call 12; refine HT.out.mono ?_; rintro e w5 ⟨rfl, hm5, hk5⟩)
            refine ⟨⟨k + 1, false, _, _, by omega, congrArg (Value.int .i64) (by omega), congrArg (Value.int .i64) HU.out.symm, rfl, hm5, rfl, (hkp.trans ((kp_new wr _).mono (fun _ h => h.elim))).trans (hk5.mono (fun i hi => .inl hi))⟩, by simp only [intOf]; omega⟩
    · obtain rfl : k = ys.length := by omega
      have c2 := y2.cell 0
      have hr3 := run_done' wr w1.heap.size 18 _ (.tuple #[]) _ _ goes_g3 (fun W' kk => again3 W' (w1.heap.size + 1) w1.heap.size L S (kk.blk y2 id) (hm.kept kk id))
      have HR := Lib.hid hr3
      have HM := Lib.hid hm
      have M2 := Lib.hid m2
      have HS := Lib.hid hsec
      generalize sm (low ys) ys.length = sk at *
      have hL0 := hm.2.1
      clear hr3 hm m2 hsec hy3
      have hfin : Below w.heap.size w wr := below_kp HX.out hkp (Nat.le_refl _) (by omega)
      have HFN := Lib.hid hfin
      have hfc : (first = true ∧ sb = true) ∨ (first = true ∧ sb = false) ∨ (first = false ∧ l0 = 0 ∧ sb = true) ∨ (first = false ∧ l0 = 0 ∧ sb = false) := by
        cases first <;> cases sb <;> simp_all
      clear hfl hfin
      rcases hfc with ⟨rfl, rfl⟩ | ⟨rfl, rfl⟩ | ⟨rfl, rfl, rfl⟩ | ⟨rfl, rfl, rfl⟩
      · have hLe := (HS.out : L = _)
        subst hLe
        go_wp2_with (first | (go_at_call 12; refine HR.out.mono ?_; rintro e w5 ⟨rfl, hm5, hk5⟩; have c5 := (hk5.blk y2 (by omega)).cell 0) | (go_at_call 9; refine (left_any _ _ _ _ hm5).mono ?_; rintro e w6 ⟨rfl, rfl⟩))
        go_ret
        exact ⟨rfl, below_kp HFN.out hk5 (Nat.le_refl _) (by omega)⟩
      · go_wp2_with (first | (go_at_call 12; refine HR.out.mono ?_; rintro e w5 ⟨rfl, hm5, hk5⟩; have c5 := (hk5.blk y2 (by omega)).cell 0) | (go_at_call 9; refine (left_any _ _ _ _ hm5).mono ?_; rintro e w6 ⟨rfl, rfl⟩))
        go_ret
        exact ⟨rfl, below_kp HFN.out hk5 (Nat.le_refl _) (by omega)⟩
      · have hLe := (HS.out : L = _)
        subst hLe
        go_wp2_with (first | (go_at_call 12; refine HR.out.mono ?_; rintro e w5 ⟨rfl, hm5, hk5⟩; have c5 := (hk5.blk y2 (by omega)).cell 0) | (go_at_call 9; refine (left_any _ _ _ _ hm5).mono ?_; rintro e w6 ⟨rfl, rfl⟩))
        go_ret
        exact ⟨rfl, below_kp HFN.out hk5 (Nat.le_refl _) (by omega)⟩
      · go_wp2_with (first | (go_at_call 12; refine HR.out.mono ?_; rintro e w5 ⟨rfl, hm5, hk5⟩; have c5 := (hk5.blk y2 (by omega)).cell 0) | (go_at_call 9; refine (left_any _ _ _ _ hm5).mono ?_; rintro e w6 ⟨rfl, rfl⟩))
        go_ret
        exact ⟨rfl, below_kp HFN.out hk5 (Nat.le_refl _) (by omega)⟩
theorem again_all (n : Int) (w : World) (a0 b0 : Option Addr) (ca cb : Nat) (xs ys : List Int) (hx : ListAt w.heap.size w a0 xs) (hy : ListAt w.heap.size w b0 ys) (hlx : xs.length ≤ maxLen) (hly : ys.length ≤ maxLen) : Calls Try.prog 4 #[.int .i64 n, .slice a0 xs.length ca, .slice b0 ys.length cb] w fun e w' => e = .returned (.bool true) ∧ Below w.heap.size w w' := by
  by_cases h1 : xs.length ≤ 30 ∧ ys.length ≤ 30
  · exact again_any n w a0 b0 ca cb xs ys hx hy h1.1 h1.2
  · exact again_long n w a0 b0 ca cb _ _ (by omega) hlx hly
end Go.Proofs.Ytdhkimlofhipaaa.mt

import Derived.Test.YtldamieigigncaaGreatDoorVcaa
namespace Go.Proofs.YtldamieigigncaaGreatDoor.lx
open Go.ChangeShapes Go.WideShapes Go.ChangeAt Go.RowKit
set_option linter.unusedVariables false
def bt (s : ByteArray) (k : Nat) : Nat := (s.data.toList.getD k 0).toNat
theorem bt_at (s : ByteArray) (k : Nat) (h : k < s.size) : s[k].toNat = bt s k := by
  unfold bt
  rw [List.getD_eq_getElem?_getD, List.getElem?_eq_getElem (by simpa using h)]
  rfl
def dv (s : ByteArray) (p d : Nat) : Nat → Nat
  | 0 => 0
  | n + 1 => if p + n = d then dv s p d n else 10 * dv s p d n + (bt s (p + n) - 48)
def dn (s : ByteArray) (p d : Nat) : Nat → Nat
  | 0 => 0
  | n + 1 => if p + n = d then dn s p d n else if bt s (p + n) = 48 ∧ dn s p d n = 0 then 0 else dn s p d n + 1
theorem dv_s (s : ByteArray) (p d n : Nat) : dv s p d (n + 1) = if p + n = d then dv s p d n else 10 * dv s p d n + (bt s (p + n) - 48) := rfl
theorem dn_s (s : ByteArray) (p d n : Nat) : dn s p d (n + 1) = if p + n = d then dn s p d n else if bt s (p + n) = 48 ∧ dn s p d n = 0 then 0 else dn s p d n + 1 := rfl
structure Decs (s : ByteArray) (p d : Nat) : Prop where
  lt : p < d
  le : d ≤ s.size
  few : s.size ≤ p + 16
  dig : ∀ k, p ≤ k → k < s.size → k ≠ d → 48 ≤ bt s k ∧ bt s k ≤ 57
  dot : d < s.size → bt s d = 46
theorem dn_le (s : ByteArray) (p d : Nat) : ∀ n, dn s p d n ≤ n
  | 0 => Nat.le_refl _
  | n + 1 => by
    have := dn_le s p d n
    unfold dn
    split
    · omega
    · split <;> omega
theorem dv_lt (s : ByteArray) (p d : Nat) (h : Decs s p d) : ∀ n, p + n ≤ s.size → dv s p d n < 10 ^ n
  | 0, _ => by simp [dv]
  | n + 1, hn => by
    have ih := dv_lt s p d h n (by omega)
    rw [Nat.pow_succ]
    unfold dv
    split
    · omega
    · rename_i hne
      have := h.dig (p + n) (by omega) (by omega) hne
      omega
theorem dv_zero (s : ByteArray) (p d : Nat) (h : Decs s p d) : ∀ n, p + n ≤ s.size → (dn s p d n = 0 ↔ dv s p d n = 0)
  | 0, _ => by simp [dv, dn]
  | n + 1, hn => by
    have ih := dv_zero s p d h n (by omega)
    unfold dv dn
    split
    · exact ih
    · rename_i hne
      have := h.dig (p + n) (by omega) (by omega) hne
      split <;> omega
theorem pow_10 (n : Nat) (h : n ≤ 16) : 10 ^ n ≤ 10000000000000000 := by
  have h1 : 10 ^ n ≤ 10 ^ 16 := Nat.pow_le_pow_right (by omega) h
  have h2 : (10 : Nat) ^ 16 = 10000000000000000 := by decide +kernel
  omega
def dpt (s : ByteArray) (p d n : Nat) : Int := if p + n ≤ d then (dn s p d n : Int) - n else (dn s p d n : Int) - ((p + n : Nat) - (d : Int) - 1)
def RfIs (s : ByteArray) (p d k V N : Nat) (D : Int) (B G : Bool) : Prop := p ≤ k ∧ k ≤ s.size ∧ V = dv s p d (k - p) ∧ N = dn s p d (k - p) ∧ D = dpt s p d (k - p) ∧ B = decide (d < k) ∧ G = decide (p < k)
theorem RfIs.start (s : ByteArray) (p d : Nat) (h : Decs s p d) : RfIs s p d p 0 0 0 false false := by
  have h1 := h.lt
  have h2 := h.le
  refine ⟨Nat.le_refl _, by omega, by rw [Nat.sub_self]; rfl, by rw [Nat.sub_self]; rfl, ?_, by simp; omega, by simp⟩
  rw [Nat.sub_self]
  unfold dpt dn
  rw [if_pos (by omega)]
  rfl
theorem RfIs.small {s : ByteArray} {p d k V N : Nat} {D : Int} {B G : Bool} (h : RfIs s p d k V N D B G) (hd : Decs s p d) : V < 10000000000000000 ∧ N ≤ 16 ∧ -20 ≤ D ∧ D ≤ 20 := by
  obtain ⟨h1, h2, h3, h4, h5, _⟩ := h
  have h6 := dv_lt s p d hd (k - p) (by omega)
  have h7 := dn_le s p d (k - p)
  have h8 := pow_10 (k - p) (by have := hd.few; omega)
  have h9 := hd.few
  have h10 := hd.le
  have h11 := hd.lt
  refine ⟨by omega, by omega, ?_, ?_⟩
  · rw [h5]; unfold dpt; split <;> omega
  · rw [h5]; unfold dpt; split <;> omega
theorem dv_succ {s : ByteArray} {p d k : Nat} (hp : p ≤ k) (hne : k ≠ d) : dv s p d (k + 1 - p) = 10 * dv s p d (k - p) + (bt s k - 48) := by
  rw [show k + 1 - p = (k - p) + 1 from by omega, dv_s, if_neg (by omega), show p + (k - p) = k from by omega]
theorem dn_succ {s : ByteArray} {p d k : Nat} (hp : p ≤ k) (hne : k ≠ d) : dn s p d (k + 1 - p) = if bt s k = 48 ∧ dn s p d (k - p) = 0 then 0 else dn s p d (k - p) + 1 := by
  rw [show k + 1 - p = (k - p) + 1 from by omega, dn_s, if_neg (by omega), show p + (k - p) = k from by omega]
theorem dpt_eq (s : ByteArray) (p d k : Nat) (hp : p ≤ k) : dpt s p d (k - p) = if k ≤ d then (dn s p d (k - p) : Int) - ((k : Int) - p) else (dn s p d (k - p) : Int) - ((k : Int) - d - 1) := by
  unfold dpt
  rw [show p + (k - p) = k from by omega]
  split <;> omega
theorem RfIs.dot {s : ByteArray} {p d V N : Nat} {D : Int} {B G : Bool} (h : RfIs s p d d V N D B G) (hd : Decs s p d) (hlt : d < s.size) : B = false ∧ G = true ∧ RfIs s p d (d + 1) V N N true true := by
  obtain ⟨h1, h2, h3, h4, h5, h6, h7⟩ := h
  have hl := hd.lt
  have e1 : dv s p d (d + 1 - p) = dv s p d (d - p) := by
    rw [show d + 1 - p = (d - p) + 1 from by omega, dv_s, if_pos (by omega)]
  have e2 : dn s p d (d + 1 - p) = dn s p d (d - p) := by
    rw [show d + 1 - p = (d - p) + 1 from by omega, dn_s, if_pos (by omega)]
  refine ⟨by simp [h6], by simp [h7]; omega, by omega, by omega, by rw [e1, h3], by rw [e2, h4], ?_, by simp, by simp; omega⟩
  rw [dpt_eq _ _ _ _ (by omega), if_neg (by omega), e2, h4]
  omega
theorem RfIs.zero {s : ByteArray} {p d k V : Nat} {D : Int} {B G : Bool} (h : RfIs s p d k V 0 D B G) (hd : Decs s p d) (hlt : k < s.size) (hne : k ≠ d) (hb : bt s k = 48) : RfIs s p d (k + 1) V 0 (D - 1) B true := by
  obtain ⟨h1, h2, h3, h4, h5, h6, h7⟩ := h
  have hz := (dv_zero s p d hd (k - p) (by omega)).1 h4.symm
  have e1 := dv_succ (s := s) h1 hne
  have e2 := dn_succ (s := s) h1 hne
  rw [if_pos ⟨hb, h4.symm⟩] at e2
  have e3 := dpt_eq s p d k h1
  have e4 := dpt_eq s p d (k + 1) (by omega)
  refine ⟨by omega, by omega, by omega, by omega, ?_, by rw [h6]; simp only [decide_eq_decide]; omega, by simp; omega⟩
  rw [e4, h5, e3]
  split <;> split <;> omega
theorem RfIs.digit {s : ByteArray} {p d k V N : Nat} {D : Int} {B G : Bool} (h : RfIs s p d k V N D B G) (hd : Decs s p d) (hlt : k < s.size) (hne : k ≠ d) (hb : ¬ (bt s k = 48 ∧ N = 0)) : RfIs s p d (k + 1) (V * 10 + (bt s k - 48)) (N + 1) D B true := by
  obtain ⟨h1, h2, h3, h4, h5, h6, h7⟩ := h
  have e1 := dv_succ (s := s) h1 hne
  have e2 := dn_succ (s := s) h1 hne
  rw [if_neg (by rw [← h4]; exact hb)] at e2
  have e3 := dpt_eq s p d k h1
  have e4 := dpt_eq s p d (k + 1) (by omega)
  refine ⟨by omega, by omega, by omega, by omega, ?_, by rw [h6]; simp only [decide_eq_decide]; omega, by simp; omega⟩
  rw [e4, h5, e3]
  split <;> split <;> omega
def rfExp (s : ByteArray) (p d : Nat) : Int := if dv s p d (s.size - p) = 0 then 0 else if d < s.size then -((s.size : Int) - d - 1) else 0
theorem RfIs.done {s : ByteArray} {p d V N : Nat} {D : Int} {B G : Bool} (h : RfIs s p d s.size V N D B G) (hd : Decs s p d) : G = true ∧ V = dv s p d (s.size - p) ∧ (V = 0 → rfExp s p d = 0) ∧ (V ≠ 0 → B = true → rfExp s p d = D - N) ∧ (V ≠ 0 → B = false → rfExp s p d = 0) := by
  obtain ⟨h1, h2, h3, h4, h5, h6, h7⟩ := h
  have hl := hd.lt
  have hle := hd.le
  have e3 := dpt_eq s p d s.size h1
  unfold rfExp
  refine ⟨by rw [h7]; simp; omega, h3, fun h => if_pos (by omega), fun h hb => ?_, fun h hb => ?_⟩
  · rw [h6, decide_eq_true_iff] at hb
    rw [if_neg (by omega), if_pos hb, h5, e3, if_neg (by omega), h4]
    omega
  · rw [h6, decide_eq_false_iff_not] at hb
    rw [if_neg (by omega), if_neg hb]
def RfRel (s : ByteArray) (p d : Nat) (m u5 i u9 sd sg nd nm dp : Value) : Prop :=
  ∃ (k V N : Nat) (D : Int) (B G : Bool), k ≤ s.size ∧ i = .int .i64 k ∧ m = .int .u64 V ∧ u5 = .bool false ∧ u9 = .bool false ∧ sd = .bool B ∧ sg = .bool G ∧ nd = .int .i64 N ∧ nm = .int .i64 N ∧ dp = .int .i64 D ∧ RfIs s p d k V N D B G
theorem lower_n (n : Nat) (hn : n = 46 ∨ (48 ≤ n ∧ n ≤ 57)) (w : World) : Calls Tryz.prog 206 #[.int .u8 n] w fun e w' => e = .returned (.int .u8 n) ∧ w = w' := by
  have h : n = 46 ∨ n = 48 ∨ n = 49 ∨ n = 50 ∨ n = 51 ∨ n = 52 ∨ n = 53 ∨ n = 54 ∨ n = 55 ∨ n = 56 ∨ n = 57 := by omega
  rcases h with rfl | rfl | rfl | rfl | rfl | rfl | rfl | rfl | rfl | rfl | rfl
  all_goals
    go_enter Tryz.func206, Tryz.ntmps206
    go_wp2
    go_ret
    exact ⟨rfl, rfl⟩
theorem Decs.byte {s : ByteArray} {p d : Nat} (h : Decs s p d) (k : Nat) (h1 : p ≤ k) (h2 : k < s.size) : bt s k = 46 ∨ (48 ≤ bt s k ∧ bt s k ≤ 57) := by
  by_cases e : k = d
  · subst e
    exact .inl (h.dot h2)
  · exact .inr (h.dig k h1 h2 e)
set_option maxRecDepth 100000 in
set_option maxHeartbeats 4000000 in
theorem rf_neg (s : ByteArray) (d : Nat) (h : Decs s 1 d) (h45 : bt s 0 = 45) (w : World) : Calls Tryz.prog 242 #[.string s] w fun e w' => e = .returned (.tuple #[.int .u64 (dv s 1 d (s.size - 1)), .int .i64 (rfExp s 1 d), .bool true, .bool false, .bool false, .int .i64 s.size, .bool true]) ∧ w = w' := by
  have h0 : 1 < s.size := by have := h.lt; have := h.le; omega
  have e0 := bt_at s 0 (by omega)
  have k1 : ((s[0].toNat : Int) == 43) = false := by rw [beq_eq_false_iff_ne, e0, h45]; decide
  have k2 : ((s[0].toNat : Int) == 45) = true := by rw [e0, h45]; rfl
  clear e0 h45
  have hs := h.few
  have hse : ¬ s = ByteArray.empty := by
    rintro rfl
    simp at h0
  have HD := Lib.hid h
  have hA : (¬ 3 < s.size) ∨ (3 < s.size ∧ ∃ h1 : 1 < s.size, (s[1]'h1).toNat ≠ 48) ∨ (3 < s.size ∧ ∃ h1 : 1 < s.size, (s[1]'h1).toNat = 48) := by
    by_cases h1 : 3 < s.size
    · by_cases h2 : s[1].toNat = 48
      · exact .inr (.inr ⟨h1, h0, h2⟩)
      · exact .inr (.inl ⟨h1, h0, h2⟩)
    · exact .inl h1
  clear h
  rcases hA with hA | ⟨hA, hA1, hA2⟩ | ⟨hA, hA1, hA2⟩
  · skip
    go_enter Tryz.func242, Tryz.ntmps242
    go_wp2
    go_step3
    go_wp2_with fail
    go_step3
    go_wp2
    go_loop [2, 5, 7, 9, 13, 14, 15, 16, 17] (fun m u5 i u9 sd sg nd nm dp => RfRel s 1 d m u5 i u9 sd sg nd nm dp) (fun _ _ i _ _ _ _ _ _ => s.size - (intOf i).toNat)
    case atStart => exact ⟨1, 0, 0, 0, false, false, by omega, rfl, rfl, rfl, rfl, rfl, rfl, rfl, rfl, rfl, RfIs.start s 1 d HD.out⟩
    case round =>
      obtain ⟨k, V, N, D, B, G, hk, rfl, rfl, rfl, rfl, rfl, rfl, rfl, rfl, rfl, hI⟩ := hrel
      obtain ⟨hv, hn, hd1, hd2⟩ := hI.small HD.out
      have hpk := hI.1
      by_cases hlt : k < s.size
      · by_cases hd : k = d
        · subst hd
          obtain ⟨rfl, rfl, hI2⟩ := hI.dot HD.out hlt
          have HI := Lib.hid hI2
          have h46 := HD.out.dot hlt
          rw [← bt_at s k hlt] at h46
          have m1 : ((s[k].toNat : Int) == 95) = false := by rw [h46]; decide
          have m2 : ((s[k].toNat : Int) == 46) = true := by rw [h46]; decide
          clear hI hI2 h46
          go_wp2_with fail
          exact ⟨⟨k + 1, V, N, N, true, true, hlt, by go_num, rfl, rfl, rfl, rfl, rfl, rfl, rfl, rfl, HI.out⟩, by simp only [intOf]; omega⟩
        · have hdg := HD.out.dig k hpk hlt hd
          have hbt := bt_at s k hlt
          have m1 : ((s[k].toNat : Int) == 95) = false := by rw [beq_eq_false_iff_ne]; omega
          have m2 : ((s[k].toNat : Int) == 46) = false := by rw [beq_eq_false_iff_ne]; omega
          have m3 : 48 ≤ s[k].toNat := by omega
          have m4 : s[k].toNat ≤ 57 := by omega
          by_cases hz : bt s k = 48 ∧ N = 0
          · obtain ⟨hb, rfl⟩ := hz
            have HI := Lib.hid (hI.zero HD.out hlt hd hb)
            have m5 : ((s[k].toNat : Int) == 48) = true := by rw [beq_iff_eq]; omega
            clear hI hd hb hbt hdg
            go_wp2_with fail
            exact ⟨⟨k + 1, V, 0, D - 1, B, true, hlt, by go_num, rfl, rfl, rfl, rfl, rfl, rfl, rfl, rfl, HI.out⟩, by simp only [intOf]; omega⟩
          · have HI := Lib.hid (hI.digit HD.out hlt hd hz)
            rw [← hbt] at HI
            by_cases hb : bt s k = 48
            · have m5 : ((s[k].toNat : Int) == 48) = true := by rw [beq_iff_eq]; omega
              have m6 : ((N : Int) == 0) = false := by rw [beq_eq_false_iff_ne]; omega
              clear hI hd hb hbt hdg hz
              go_wp2_with fail
              exact ⟨⟨k + 1, _, N + 1, D, B, true, hlt, by go_num, congrArg (Value.int .u64) (by omega), rfl, rfl, rfl, rfl, by go_num, by go_num, rfl, HI.out⟩, by simp only [intOf]; omega⟩
            · have m5 : ((s[k].toNat : Int) == 48) = false := by rw [beq_eq_false_iff_ne]; omega
              clear hI hd hb hbt hdg hz
              go_wp2_with fail
              exact ⟨⟨k + 1, _, N + 1, D, B, true, hlt, by go_num, congrArg (Value.int .u64) (by omega), rfl, rfl, rfl, rfl, by go_num, by go_num, rfl, HI.out⟩, by simp only [intOf]; omega⟩
      · obtain rfl : k = s.size := by omega
        obtain ⟨rfl, hV, hz1, hz2, hz3⟩ := hI.done HD.out
        have HV := Lib.hid hV
        by_cases hv0 : V = 0
        · have m1 : ((V : Int) != 0) = false := by rw [bne_eq_false_iff_eq]; omega
          have HZ := Lib.hid (hz1 hv0)
          clear hI hV hz1 hz2 hz3 hv0
          cases B
          · go_wp2_with fail
            try rw [Exit.noGoto_ret]
            refine bodyPost_ret (v := .tuple #[.int .u64 V, .int .i64 0, .bool true, .bool false, .bool false, .int .i64 s.size, .bool true]) (by simp [results, Tryz.results242, go_sem]) rfl ?_
            exact ⟨by rw [HZ.out, ← HV.out], rfl⟩
          · go_wp2_with fail
            try rw [Exit.noGoto_ret]
            refine bodyPost_ret (v := .tuple #[.int .u64 V, .int .i64 0, .bool true, .bool false, .bool false, .int .i64 s.size, .bool true]) (by simp [results, Tryz.results242, go_sem]) rfl ?_
            exact ⟨by rw [HZ.out, ← HV.out], rfl⟩
        · have m1 : ((V : Int) != 0) = true := by rw [bne_iff_ne]; omega
          cases B
          · have HZ := Lib.hid (hz3 hv0 rfl)
            have hNN : IntKind.i64.wrap ((N : Int) - N) = 0 := by rw [Int.sub_self]; decide
            clear hI hV hz1 hz2 hz3 hv0
            go_wp2_with fail
            try rw [Exit.noGoto_ret]
            refine bodyPost_ret (v := .tuple #[.int .u64 V, .int .i64 0, .bool true, .bool false, .bool false, .int .i64 s.size, .bool true]) (by simp [results, Tryz.results242, go_sem]) rfl ?_
            exact ⟨by rw [HZ.out, ← HV.out], rfl⟩
          · have HZ := Lib.hid (hz2 hv0 rfl)
            clear hI hV hz1 hz2 hz3 hv0
            go_wp2_with fail
            try rw [Exit.noGoto_ret]
            refine bodyPost_ret (v := .tuple #[.int .u64 V, .int .i64 (D - N), .bool true, .bool false, .bool false, .int .i64 s.size, .bool true]) (by simp [results, Tryz.results242, go_sem]) rfl ?_
            exact ⟨by rw [HZ.out, ← HV.out], rfl⟩
  · have k3 : ((s[1].toNat : Int) == 48) = false := by rw [beq_eq_false_iff_ne]; omega
    clear hA2
    go_enter Tryz.func242, Tryz.ntmps242
    go_wp2
    go_step3
    go_wp2_with fail
    go_step3
    go_wp2
    go_loop [2, 5, 7, 9, 13, 14, 15, 16, 17] (fun m u5 i u9 sd sg nd nm dp => RfRel s 1 d m u5 i u9 sd sg nd nm dp) (fun _ _ i _ _ _ _ _ _ => s.size - (intOf i).toNat)
    case atStart => exact ⟨1, 0, 0, 0, false, false, by omega, rfl, rfl, rfl, rfl, rfl, rfl, rfl, rfl, rfl, RfIs.start s 1 d HD.out⟩
    case round =>
      obtain ⟨k, V, N, D, B, G, hk, rfl, rfl, rfl, rfl, rfl, rfl, rfl, rfl, rfl, hI⟩ := hrel
      obtain ⟨hv, hn, hd1, hd2⟩ := hI.small HD.out
      have hpk := hI.1
      by_cases hlt : k < s.size
      · by_cases hd : k = d
        · subst hd
          obtain ⟨rfl, rfl, hI2⟩ := hI.dot HD.out hlt
          have HI := Lib.hid hI2
          have h46 := HD.out.dot hlt
          rw [← bt_at s k hlt] at h46
          have m1 : ((s[k].toNat : Int) == 95) = false := by rw [h46]; decide
          have m2 : ((s[k].toNat : Int) == 46) = true := by rw [h46]; decide
          clear hI hI2 h46
          go_wp2_with fail
          exact ⟨⟨k + 1, V, N, N, true, true, hlt, by go_num, rfl, rfl, rfl, rfl, rfl, rfl, rfl, rfl, HI.out⟩, by simp only [intOf]; omega⟩
        · have hdg := HD.out.dig k hpk hlt hd
          have hbt := bt_at s k hlt
          have m1 : ((s[k].toNat : Int) == 95) = false := by rw [beq_eq_false_iff_ne]; omega
          have m2 : ((s[k].toNat : Int) == 46) = false := by rw [beq_eq_false_iff_ne]; omega
          have m3 : 48 ≤ s[k].toNat := by omega
          have m4 : s[k].toNat ≤ 57 := by omega
          by_cases hz : bt s k = 48 ∧ N = 0
          · obtain ⟨hb, rfl⟩ := hz
            have HI := Lib.hid (hI.zero HD.out hlt hd hb)
            have m5 : ((s[k].toNat : Int) == 48) = true := by rw [beq_iff_eq]; omega
            clear hI hd hb hbt hdg
            go_wp2_with fail
            exact ⟨⟨k + 1, V, 0, D - 1, B, true, hlt, by go_num, rfl, rfl, rfl, rfl, rfl, rfl, rfl, rfl, HI.out⟩, by simp only [intOf]; omega⟩
          · have HI := Lib.hid (hI.digit HD.out hlt hd hz)
            rw [← hbt] at HI
            by_cases hb : bt s k = 48
            · have m5 : ((s[k].toNat : Int) == 48) = true := by rw [beq_iff_eq]; omega
              have m6 : ((N : Int) == 0) = false := by rw [beq_eq_false_iff_ne]; omega
              clear hI hd hb hbt hdg hz
              go_wp2_with fail
              exact ⟨⟨k + 1, _, N + 1, D, B, true, hlt, by go_num, congrArg (Value.int .u64) (by omega), rfl, rfl, rfl, rfl, by go_num, by go_num, rfl, HI.out⟩, by simp only [intOf]; omega⟩
            · have m5 : ((s[k].toNat : Int) == 48) = false := by rw [beq_eq_false_iff_ne]; omega
              clear hI hd hb hbt hdg hz
              go_wp2_with fail
              exact ⟨⟨k + 1, _, N + 1, D, B, true, hlt, by go_num, congrArg (Value.int .u64) (by omega), rfl, rfl, rfl, rfl, by go_num, by go_num, rfl, HI.out⟩, by simp only [intOf]; omega⟩
      · obtain rfl : k = s.size := by omega
        obtain ⟨rfl, hV, hz1, hz2, hz3⟩ := hI.done HD.out
        have HV := Lib.hid hV
        by_cases hv0 : V = 0
        · have m1 : ((V : Int) != 0) = false := by rw [bne_eq_false_iff_eq]; omega
          have HZ := Lib.hid (hz1 hv0)
          clear hI hV hz1 hz2 hz3 hv0
          cases B
          · go_wp2_with fail
            try rw [Exit.noGoto_ret]
            refine bodyPost_ret (v := .tuple #[.int .u64 V, .int .i64 0, .bool true, .bool false, .bool false, .int .i64 s.size, .bool true]) (by simp [results, Tryz.results242, go_sem]) rfl ?_
            exact ⟨by rw [HZ.out, ← HV.out], rfl⟩
          · go_wp2_with fail
            try rw [Exit.noGoto_ret]
            refine bodyPost_ret (v := .tuple #[.int .u64 V, .int .i64 0, .bool true, .bool false, .bool false, .int .i64 s.size, .bool true]) (by simp [results, Tryz.results242, go_sem]) rfl ?_
            exact ⟨by rw [HZ.out, ← HV.out], rfl⟩
        · have m1 : ((V : Int) != 0) = true := by rw [bne_iff_ne]; omega
          cases B
          · have HZ := Lib.hid (hz3 hv0 rfl)
            have hNN : IntKind.i64.wrap ((N : Int) - N) = 0 := by rw [Int.sub_self]; decide
            clear hI hV hz1 hz2 hz3 hv0
            go_wp2_with fail
            try rw [Exit.noGoto_ret]
            refine bodyPost_ret (v := .tuple #[.int .u64 V, .int .i64 0, .bool true, .bool false, .bool false, .int .i64 s.size, .bool true]) (by simp [results, Tryz.results242, go_sem]) rfl ?_
            exact ⟨by rw [HZ.out, ← HV.out], rfl⟩
          · have HZ := Lib.hid (hz2 hv0 rfl)
            clear hI hV hz1 hz2 hz3 hv0
            go_wp2_with fail
            try rw [Exit.noGoto_ret]
            refine bodyPost_ret (v := .tuple #[.int .u64 V, .int .i64 (D - N), .bool true, .bool false, .bool false, .int .i64 s.size, .bool true]) (by simp [results, Tryz.results242, go_sem]) rfl ?_
            exact ⟨by rw [HZ.out, ← HV.out], rfl⟩
  · have k3 : ((s[1].toNat : Int) == 48) = true := by rw [hA2]; rfl
    have hb2 := HD.out.byte 2 (by omega) (by omega)
    rw [← bt_at s 2 (by omega)] at hb2
    have k4 : ((s[2].toNat : Int) == 120) = false := by rw [beq_eq_false_iff_ne]; omega
    have hlo := lower_n _ hb2 w
    clear hA2 hb2
    go_enter Tryz.func242, Tryz.ntmps242
    go_wp2
    go_step3
    go_wp2_with (go_at_call 206; refine hlo.mono ?_; rintro e w1 ⟨rfl, rfl⟩)
    go_step3
    go_wp2
    go_loop [2, 5, 7, 9, 13, 14, 15, 16, 17] (fun m u5 i u9 sd sg nd nm dp => RfRel s 1 d m u5 i u9 sd sg nd nm dp) (fun _ _ i _ _ _ _ _ _ => s.size - (intOf i).toNat)
    case atStart => exact ⟨1, 0, 0, 0, false, false, by omega, rfl, rfl, rfl, rfl, rfl, rfl, rfl, rfl, rfl, RfIs.start s 1 d HD.out⟩
    case round =>
      obtain ⟨k, V, N, D, B, G, hk, rfl, rfl, rfl, rfl, rfl, rfl, rfl, rfl, rfl, hI⟩ := hrel
      obtain ⟨hv, hn, hd1, hd2⟩ := hI.small HD.out
      have hpk := hI.1
      by_cases hlt : k < s.size
      · by_cases hd : k = d
        · subst hd
          obtain ⟨rfl, rfl, hI2⟩ := hI.dot HD.out hlt
          have HI := Lib.hid hI2
          have h46 := HD.out.dot hlt
          rw [← bt_at s k hlt] at h46
          have m1 : ((s[k].toNat : Int) == 95) = false := by rw [h46]; decide
          have m2 : ((s[k].toNat : Int) == 46) = true := by rw [h46]; decide
          clear hI hI2 h46
          go_wp2_with fail
          exact ⟨⟨k + 1, V, N, N, true, true, hlt, by go_num, rfl, rfl, rfl, rfl, rfl, rfl, rfl, rfl, HI.out⟩, by simp only [intOf]; omega⟩
        · have hdg := HD.out.dig k hpk hlt hd
          have hbt := bt_at s k hlt
          have m1 : ((s[k].toNat : Int) == 95) = false := by rw [beq_eq_false_iff_ne]; omega
          have m2 : ((s[k].toNat : Int) == 46) = false := by rw [beq_eq_false_iff_ne]; omega
          have m3 : 48 ≤ s[k].toNat := by omega
          have m4 : s[k].toNat ≤ 57 := by omega
          by_cases hz : bt s k = 48 ∧ N = 0
          · obtain ⟨hb, rfl⟩ := hz
            have HI := Lib.hid (hI.zero HD.out hlt hd hb)
            have m5 : ((s[k].toNat : Int) == 48) = true := by rw [beq_iff_eq]; omega
            clear hI hd hb hbt hdg
            go_wp2_with fail
            exact ⟨⟨k + 1, V, 0, D - 1, B, true, hlt, by go_num, rfl, rfl, rfl, rfl, rfl, rfl, rfl, rfl, HI.out⟩, by simp only [intOf]; omega⟩
          · have HI := Lib.hid (hI.digit HD.out hlt hd hz)
            rw [← hbt] at HI
            by_cases hb : bt s k = 48
            · have m5 : ((s[k].toNat : Int) == 48) = true := by rw [beq_iff_eq]; omega
              have m6 : ((N : Int) == 0) = false := by rw [beq_eq_false_iff_ne]; omega
              clear hI hd hb hbt hdg hz
              go_wp2_with fail
              exact ⟨⟨k + 1, _, N + 1, D, B, true, hlt, by go_num, congrArg (Value.int .u64) (by omega), rfl, rfl, rfl, rfl, by go_num, by go_num, rfl, HI.out⟩, by simp only [intOf]; omega⟩
            · have m5 : ((s[k].toNat : Int) == 48) = false := by rw [beq_eq_false_iff_ne]; omega
              clear hI hd hb hbt hdg hz
              go_wp2_with fail
              exact ⟨⟨k + 1, _, N + 1, D, B, true, hlt, by go_num, congrArg (Value.int .u64) (by omega), rfl, rfl, rfl, rfl, by go_num, by go_num, rfl, HI.out⟩, by simp only [intOf]; omega⟩
      · obtain rfl : k = s.size := by omega
        obtain ⟨rfl, hV, hz1, hz2, hz3⟩ := hI.done HD.out
        have HV := Lib.hid hV
        by_cases hv0 : V = 0
        · have m1 : ((V : Int) != 0) = false := by rw [bne_eq_false_iff_eq]; omega
          have HZ := Lib.hid (hz1 hv0)
          clear hI hV hz1 hz2 hz3 hv0
          cases B
          · go_wp2_with fail
            try rw [Exit.noGoto_ret]
            refine bodyPost_ret (v := .tuple #[.int .u64 V, .int .i64 0, .bool true, .bool false, .bool false, .int .i64 s.size, .bool true]) (by simp [results, Tryz.results242, go_sem]) rfl ?_
            exact ⟨by rw [HZ.out, ← HV.out], rfl⟩
          · go_wp2_with fail
            try rw [Exit.noGoto_ret]
            refine bodyPost_ret (v := .tuple #[.int .u64 V, .int .i64 0, .bool true, .bool false, .bool false, .int .i64 s.size, .bool true]) (by simp [results, Tryz.results242, go_sem]) rfl ?_
            exact ⟨by rw [HZ.out, ← HV.out], rfl⟩
        · have m1 : ((V : Int) != 0) = true := by rw [bne_iff_ne]; omega
          cases B
          · have HZ := Lib.hid (hz3 hv0 rfl)
            have hNN : IntKind.i64.wrap ((N : Int) - N) = 0 := by rw [Int.sub_self]; decide
            clear hI hV hz1 hz2 hz3 hv0
            go_wp2_with fail
            try rw [Exit.noGoto_ret]
            refine bodyPost_ret (v := .tuple #[.int .u64 V, .int .i64 0, .bool true, .bool false, .bool false, .int .i64 s.size, .bool true]) (by simp [results, Tryz.results242, go_sem]) rfl ?_
            exact ⟨by rw [HZ.out, ← HV.out], rfl⟩
          · have HZ := Lib.hid (hz2 hv0 rfl)
            clear hI hV hz1 hz2 hz3 hv0
            go_wp2_with fail
            try rw [Exit.noGoto_ret]
            refine bodyPost_ret (v := .tuple #[.int .u64 V, .int .i64 (D - N), .bool true, .bool false, .bool false, .int .i64 s.size, .bool true]) (by simp [results, Tryz.results242, go_sem]) rfl ?_
            exact ⟨by rw [HZ.out, ← HV.out], rfl⟩
set_option maxRecDepth 100000 in
set_option maxHeartbeats 4000000 in
theorem rf_pos (s : ByteArray) (d : Nat) (h : Decs s 0 d) (w : World) : Calls Tryz.prog 242 #[.string s] w fun e w' => e = .returned (.tuple #[.int .u64 (dv s 0 d (s.size - 0)), .int .i64 (rfExp s 0 d), .bool false, .bool false, .bool false, .int .i64 s.size, .bool true]) ∧ w = w' := by
  have h0 : 0 < s.size := by have := h.lt; have := h.le; omega
  have e0 := bt_at s 0 (by omega)
  have dg0 := h.dig 0 (by omega) (by omega) (by have := h.lt; omega)
  have k1 : ((s[0].toNat : Int) == 43) = false := by rw [beq_eq_false_iff_ne, e0]; omega
  have k2 : ((s[0].toNat : Int) == 45) = false := by rw [beq_eq_false_iff_ne, e0]; omega
  clear e0 dg0
  have hs := h.few
  have hse : ¬ s = ByteArray.empty := by
    rintro rfl
    simp at h0
  have HD := Lib.hid h
  have hA : (¬ 2 < s.size) ∨ (2 < s.size ∧ ∃ h1 : 0 < s.size, (s[0]'h1).toNat ≠ 48) ∨ (2 < s.size ∧ ∃ h1 : 0 < s.size, (s[0]'h1).toNat = 48) := by
    by_cases h1 : 2 < s.size
    · by_cases h2 : s[0].toNat = 48
      · exact .inr (.inr ⟨h1, h0, h2⟩)
      · exact .inr (.inl ⟨h1, h0, h2⟩)
    · exact .inl h1
  clear h
  rcases hA with hA | ⟨hA, hA1, hA2⟩ | ⟨hA, hA1, hA2⟩
  · skip
    go_enter Tryz.func242, Tryz.ntmps242
    go_wp2
    go_step3
    go_wp2_with fail
    go_step3
    go_wp2
    go_loop [2, 5, 7, 9, 13, 14, 15, 16, 17] (fun m u5 i u9 sd sg nd nm dp => RfRel s 0 d m u5 i u9 sd sg nd nm dp) (fun _ _ i _ _ _ _ _ _ => s.size - (intOf i).toNat)
    case atStart => exact ⟨0, 0, 0, 0, false, false, by omega, rfl, rfl, rfl, rfl, rfl, rfl, rfl, rfl, rfl, RfIs.start s 0 d HD.out⟩
    case round =>
      obtain ⟨k, V, N, D, B, G, hk, rfl, rfl, rfl, rfl, rfl, rfl, rfl, rfl, rfl, hI⟩ := hrel
      obtain ⟨hv, hn, hd1, hd2⟩ := hI.small HD.out
      have hpk := hI.1
      by_cases hlt : k < s.size
      · by_cases hd : k = d
        · subst hd
          obtain ⟨rfl, rfl, hI2⟩ := hI.dot HD.out hlt
          have HI := Lib.hid hI2
          have h46 := HD.out.dot hlt
          rw [← bt_at s k hlt] at h46
          have m1 : ((s[k].toNat : Int) == 95) = false := by rw [h46]; decide
          have m2 : ((s[k].toNat : Int) == 46) = true := by rw [h46]; decide
          clear hI hI2 h46
          go_wp2_with fail
          exact ⟨⟨k + 1, V, N, N, true, true, hlt, by go_num, rfl, rfl, rfl, rfl, rfl, rfl, rfl, rfl, HI.out⟩, by simp only [intOf]; omega⟩
        · have hdg := HD.out.dig k hpk hlt hd
          have hbt := bt_at s k hlt
          have m1 : ((s[k].toNat : Int) == 95) = false := by rw [beq_eq_false_iff_ne]; omega
          have m2 : ((s[k].toNat : Int) == 46) = false := by rw [beq_eq_false_iff_ne]; omega
          have m3 : 48 ≤ s[k].toNat := by omega
          have m4 : s[k].toNat ≤ 57 := by omega
          by_cases hz : bt s k = 48 ∧ N = 0
          · obtain ⟨hb, rfl⟩ := hz
            have HI := Lib.hid (hI.zero HD.out hlt hd hb)
            have m5 : ((s[k].toNat : Int) == 48) = true := by rw [beq_iff_eq]; omega
            clear hI hd hb hbt hdg
            go_wp2_with fail
            exact ⟨⟨k + 1, V, 0, D - 1, B, true, hlt, by go_num, rfl, rfl, rfl, rfl, rfl, rfl, rfl, rfl, HI.out⟩, by simp only [intOf]; omega⟩
          · have HI := Lib.hid (hI.digit HD.out hlt hd hz)
            rw [← hbt] at HI
            by_cases hb : bt s k = 48
            · have m5 : ((s[k].toNat : Int) == 48) = true := by rw [beq_iff_eq]; omega
              have m6 : ((N : Int) == 0) = false := by rw [beq_eq_false_iff_ne]; omega
              clear hI hd hb hbt hdg hz
              go_wp2_with fail
              exact ⟨⟨k + 1, _, N + 1, D, B, true, hlt, by go_num, congrArg (Value.int .u64) (by omega), rfl, rfl, rfl, rfl, by go_num, by go_num, rfl, HI.out⟩, by simp only [intOf]; omega⟩
            · have m5 : ((s[k].toNat : Int) == 48) = false := by rw [beq_eq_false_iff_ne]; omega
              clear hI hd hb hbt hdg hz
              go_wp2_with fail
              exact ⟨⟨k + 1, _, N + 1, D, B, true, hlt, by go_num, congrArg (Value.int .u64) (by omega), rfl, rfl, rfl, rfl, by go_num, by go_num, rfl, HI.out⟩, by simp only [intOf]; omega⟩
      · obtain rfl : k = s.size := by omega
        obtain ⟨rfl, hV, hz1, hz2, hz3⟩ := hI.done HD.out
        have HV := Lib.hid hV
        by_cases hv0 : V = 0
        · have m1 : ((V : Int) != 0) = false := by rw [bne_eq_false_iff_eq]; omega
          have HZ := Lib.hid (hz1 hv0)
          clear hI hV hz1 hz2 hz3 hv0
          cases B
          · go_wp2_with fail
            try rw [Exit.noGoto_ret]
            refine bodyPost_ret (v := .tuple #[.int .u64 V, .int .i64 0, .bool false, .bool false, .bool false, .int .i64 s.size, .bool true]) (by simp [results, Tryz.results242, go_sem]) rfl ?_
            exact ⟨by rw [HZ.out, ← HV.out], rfl⟩
          · go_wp2_with fail
            try rw [Exit.noGoto_ret]
            refine bodyPost_ret (v := .tuple #[.int .u64 V, .int .i64 0, .bool false, .bool false, .bool false, .int .i64 s.size, .bool true]) (by simp [results, Tryz.results242, go_sem]) rfl ?_
            exact ⟨by rw [HZ.out, ← HV.out], rfl⟩
        · have m1 : ((V : Int) != 0) = true := by rw [bne_iff_ne]; omega
          cases B
          · have HZ := Lib.hid (hz3 hv0 rfl)
            have hNN : IntKind.i64.wrap ((N : Int) - N) = 0 := by rw [Int.sub_self]; decide
            clear hI hV hz1 hz2 hz3 hv0
            go_wp2_with fail
            try rw [Exit.noGoto_ret]
            refine bodyPost_ret (v := .tuple #[.int .u64 V, .int .i64 0, .bool false, .bool false, .bool false, .int .i64 s.size, .bool true]) (by simp [results, Tryz.results242, go_sem]) rfl ?_
            exact ⟨by rw [HZ.out, ← HV.out], rfl⟩
          · have HZ := Lib.hid (hz2 hv0 rfl)
            clear hI hV hz1 hz2 hz3 hv0
            go_wp2_with fail
            try rw [Exit.noGoto_ret]
            refine bodyPost_ret (v := .tuple #[.int .u64 V, .int .i64 (D - N), .bool false, .bool false, .bool false, .int .i64 s.size, .bool true]) (by simp [results, Tryz.results242, go_sem]) rfl ?_
            exact ⟨by rw [HZ.out, ← HV.out], rfl⟩
  · have k3 : ((s[0].toNat : Int) == 48) = false := by rw [beq_eq_false_iff_ne]; omega
    clear hA2
    go_enter Tryz.func242, Tryz.ntmps242
    go_wp2
    go_step3
    go_wp2_with fail
    go_step3
    go_wp2
    go_loop [2, 5, 7, 9, 13, 14, 15, 16, 17] (fun m u5 i u9 sd sg nd nm dp => RfRel s 0 d m u5 i u9 sd sg nd nm dp) (fun _ _ i _ _ _ _ _ _ => s.size - (intOf i).toNat)
    case atStart => exact ⟨0, 0, 0, 0, false, false, by omega, rfl, rfl, rfl, rfl, rfl, rfl, rfl, rfl, rfl, RfIs.start s 0 d HD.out⟩
    case round =>
      obtain ⟨k, V, N, D, B, G, hk, rfl, rfl, rfl, rfl, rfl, rfl, rfl, rfl, rfl, hI⟩ := hrel
      obtain ⟨hv, hn, hd1, hd2⟩ := hI.small HD.out
      have hpk := hI.1
      by_cases hlt : k < s.size
      · by_cases hd : k = d
        · subst hd
          obtain ⟨rfl, rfl, hI2⟩ := hI.dot HD.out hlt
          have HI := Lib.hid hI2
          have h46 := HD.out.dot hlt
          rw [← bt_at s k hlt] at h46
          have m1 : ((s[k].toNat : Int) == 95) = false := by rw [h46]; decide
          have m2 : ((s[k].toNat : Int) == 46) = true := by rw [h46]; decide
          clear hI hI2 h46
          go_wp2_with fail
          exact ⟨⟨k + 1, V, N, N, true, true, hlt, by go_num, rfl, rfl, rfl, rfl, rfl, rfl, rfl, rfl, HI.out⟩, by simp only [intOf]; omega⟩
        · have hdg := HD.out.dig k hpk hlt hd
          have hbt := bt_at s k hlt
          have m1 : ((s[k].toNat : Int) == 95) = false := by rw [beq_eq_false_iff_ne]; omega
          have m2 : ((s[k].toNat : Int) == 46) = false := by rw [beq_eq_false_iff_ne]; omega
          have m3 : 48 ≤ s[k].toNat := by omega
          have m4 : s[k].toNat ≤ 57 := by omega
          by_cases hz : bt s k = 48 ∧ N = 0
          · obtain ⟨hb, rfl⟩ := hz
            have HI := Lib.hid (hI.zero HD.out hlt hd hb)
            have m5 : ((s[k].toNat : Int) == 48) = true := by rw [beq_iff_eq]; omega
            clear hI hd hb hbt hdg
            go_wp2_with fail
            exact ⟨⟨k + 1, V, 0, D - 1, B, true, hlt, by go_num, rfl, rfl, rfl, rfl, rfl, rfl, rfl, rfl, HI.out⟩, by simp only [intOf]; omega⟩
          · have HI := Lib.hid (hI.digit HD.out hlt hd hz)
            rw [← hbt] at HI
            by_cases hb : bt s k = 48
            · have m5 : ((s[k].toNat : Int) == 48) = true := by rw [beq_iff_eq]; omega
              have m6 : ((N : Int) == 0) = false := by rw [beq_eq_false_iff_ne]; omega
              clear hI hd hb hbt hdg hz
              go_wp2_with fail
              exact ⟨⟨k + 1, _, N + 1, D, B, true, hlt, by go_num, congrArg (Value.int .u64) (by omega), rfl, rfl, rfl, rfl, by go_num, by go_num, rfl, HI.out⟩, by simp only [intOf]; omega⟩
            · have m5 : ((s[k].toNat : Int) == 48) = false := by rw [beq_eq_false_iff_ne]; omega
              clear hI hd hb hbt hdg hz
              go_wp2_with fail
              exact ⟨⟨k + 1, _, N + 1, D, B, true, hlt, by go_num, congrArg (Value.int .u64) (by omega), rfl, rfl, rfl, rfl, by go_num, by go_num, rfl, HI.out⟩, by simp only [intOf]; omega⟩
      · obtain rfl : k = s.size := by omega
        obtain ⟨rfl, hV, hz1, hz2, hz3⟩ := hI.done HD.out
        have HV := Lib.hid hV
        by_cases hv0 : V = 0
        · have m1 : ((V : Int) != 0) = false := by rw [bne_eq_false_iff_eq]; omega
          have HZ := Lib.hid (hz1 hv0)
          clear hI hV hz1 hz2 hz3 hv0
          cases B
          · go_wp2_with fail
            try rw [Exit.noGoto_ret]
            refine bodyPost_ret (v := .tuple #[.int .u64 V, .int .i64 0, .bool false, .bool false, .bool false, .int .i64 s.size, .bool true]) (by simp [results, Tryz.results242, go_sem]) rfl ?_
            exact ⟨by rw [HZ.out, ← HV.out], rfl⟩
          · go_wp2_with fail
            try rw [Exit.noGoto_ret]
            refine bodyPost_ret (v := .tuple #[.int .u64 V, .int .i64 0, .bool false, .bool false, .bool false, .int .i64 s.size, .bool true]) (by simp [results, Tryz.results242, go_sem]) rfl ?_
            exact ⟨by rw [HZ.out, ← HV.out], rfl⟩
        · have m1 : ((V : Int) != 0) = true := by rw [bne_iff_ne]; omega
          cases B
          · have HZ := Lib.hid (hz3 hv0 rfl)
            have hNN : IntKind.i64.wrap ((N : Int) - N) = 0 := by rw [Int.sub_self]; decide
            clear hI hV hz1 hz2 hz3 hv0
            go_wp2_with fail
            try rw [Exit.noGoto_ret]
            refine bodyPost_ret (v := .tuple #[.int .u64 V, .int .i64 0, .bool false, .bool false, .bool false, .int .i64 s.size, .bool true]) (by simp [results, Tryz.results242, go_sem]) rfl ?_
            exact ⟨by rw [HZ.out, ← HV.out], rfl⟩
          · have HZ := Lib.hid (hz2 hv0 rfl)
            clear hI hV hz1 hz2 hz3 hv0
            go_wp2_with fail
            try rw [Exit.noGoto_ret]
            refine bodyPost_ret (v := .tuple #[.int .u64 V, .int .i64 (D - N), .bool false, .bool false, .bool false, .int .i64 s.size, .bool true]) (by simp [results, Tryz.results242, go_sem]) rfl ?_
            exact ⟨by rw [HZ.out, ← HV.out], rfl⟩
  · have k3 : ((s[0].toNat : Int) == 48) = true := by rw [hA2]; rfl
    have hb2 := HD.out.byte 1 (by omega) (by omega)
    rw [← bt_at s 1 (by omega)] at hb2
    have k4 : ((s[1].toNat : Int) == 120) = false := by rw [beq_eq_false_iff_ne]; omega
    have hlo := lower_n _ hb2 w
    clear hA2 hb2
    go_enter Tryz.func242, Tryz.ntmps242
    go_wp2
    go_step3
    go_wp2_with (go_at_call 206; refine hlo.mono ?_; rintro e w1 ⟨rfl, rfl⟩)
    go_step3
    go_wp2
    go_loop [2, 5, 7, 9, 13, 14, 15, 16, 17] (fun m u5 i u9 sd sg nd nm dp => RfRel s 0 d m u5 i u9 sd sg nd nm dp) (fun _ _ i _ _ _ _ _ _ => s.size - (intOf i).toNat)
    case atStart => exact ⟨0, 0, 0, 0, false, false, by omega, rfl, rfl, rfl, rfl, rfl, rfl, rfl, rfl, rfl, RfIs.start s 0 d HD.out⟩
    case round =>
      obtain ⟨k, V, N, D, B, G, hk, rfl, rfl, rfl, rfl, rfl, rfl, rfl, rfl, rfl, hI⟩ := hrel
      obtain ⟨hv, hn, hd1, hd2⟩ := hI.small HD.out
      have hpk := hI.1
      by_cases hlt : k < s.size
      · by_cases hd : k = d
        · subst hd
          obtain ⟨rfl, rfl, hI2⟩ := hI.dot HD.out hlt
          have HI := Lib.hid hI2
          have h46 := HD.out.dot hlt
          rw [← bt_at s k hlt] at h46
          have m1 : ((s[k].toNat : Int) == 95) = false := by rw [h46]; decide
          have m2 : ((s[k].toNat : Int) == 46) = true := by rw [h46]; decide
          clear hI hI2 h46
          go_wp2_with fail
          exact ⟨⟨k + 1, V, N, N, true, true, hlt, by go_num, rfl, rfl, rfl, rfl, rfl, rfl, rfl, rfl, HI.out⟩, by simp only [intOf]; omega⟩
        · have hdg := HD.out.dig k hpk hlt hd
          have hbt := bt_at s k hlt
          have m1 : ((s[k].toNat : Int) == 95) = false := by rw [beq_eq_false_iff_ne]; omega
          have m2 : ((s[k].toNat : Int) == 46) = false := by rw [beq_eq_false_iff_ne]; omega
          have m3 : 48 ≤ s[k].toNat := by omega
          have m4 : s[k].toNat ≤ 57 := by omega
          by_cases hz : bt s k = 48 ∧ N = 0
          · obtain ⟨hb, rfl⟩ := hz
            have HI := Lib.hid (hI.zero HD.out hlt hd hb)
            have m5 : ((s[k].toNat : Int) == 48) = true := by rw [beq_iff_eq]; omega
            clear hI hd hb hbt hdg
            go_wp2_with fail
            exact ⟨⟨k + 1, V, 0, D - 1, B, true, hlt, by go_num, rfl, rfl, rfl, rfl, rfl, rfl, rfl, rfl, HI.out⟩, by simp only [intOf]; omega⟩
          · have HI := Lib.hid (hI.digit HD.out hlt hd hz)
            rw [← hbt] at HI
            by_cases hb : bt s k = 48
            · have m5 : ((s[k].toNat : Int) == 48) = true := by rw [beq_iff_eq]; omega
              have m6 : ((N : Int) == 0) = false := by rw [beq_eq_false_iff_ne]; omega
              clear hI hd hb hbt hdg hz
              go_wp2_with fail
              exact ⟨⟨k + 1, _, N + 1, D, B, true, hlt, by go_num, congrArg (Value.int .u64) (by omega), rfl, rfl, rfl, rfl, by go_num, by go_num, rfl, HI.out⟩, by simp only [intOf]; omega⟩
            · have m5 : ((s[k].toNat : Int) == 48) = false := by rw [beq_eq_false_iff_ne]; omega
              clear hI hd hb hbt hdg hz
              go_wp2_with fail
              exact ⟨⟨k + 1, _, N + 1, D, B, true, hlt, by go_num, congrArg (Value.int .u64) (by omega), rfl, rfl, rfl, rfl, by go_num, by go_num, rfl, HI.out⟩, by simp only [intOf]; omega⟩
      · obtain rfl : k = s.size := by omega
        obtain ⟨rfl, hV, hz1, hz2, hz3⟩ := hI.done HD.out
        have HV := Lib.hid hV
        by_cases hv0 : V = 0
        · have m1 : ((V : Int) != 0) = false := by rw [bne_eq_false_iff_eq]; omega
          have HZ := Lib.hid (hz1 hv0)
          clear hI hV hz1 hz2 hz3 hv0
          cases B
          · go_wp2_with fail
            try rw [Exit.noGoto_ret]
            refine bodyPost_ret (v := .tuple #[.int .u64 V, .int .i64 0, .bool false, .bool false, .bool false, .int .i64 s.size, .bool true]) (by simp [results, Tryz.results242, go_sem]) rfl ?_
            exact ⟨by rw [HZ.out, ← HV.out], rfl⟩
          · go_wp2_with fail
            try rw [Exit.noGoto_ret]
            refine bodyPost_ret (v := .tuple #[.int .u64 V, .int .i64 0, .bool false, .bool false, .bool false, .int .i64 s.size, .bool true]) (by simp [results, Tryz.results242, go_sem]) rfl ?_
            exact ⟨by rw [HZ.out, ← HV.out], rfl⟩
        · have m1 : ((V : Int) != 0) = true := by rw [bne_iff_ne]; omega
          cases B
          · have HZ := Lib.hid (hz3 hv0 rfl)
            have hNN : IntKind.i64.wrap ((N : Int) - N) = 0 := by rw [Int.sub_self]; decide
            clear hI hV hz1 hz2 hz3 hv0
            go_wp2_with fail
            try rw [Exit.noGoto_ret]
            refine bodyPost_ret (v := .tuple #[.int .u64 V, .int .i64 0, .bool false, .bool false, .bool false, .int .i64 s.size, .bool true]) (by simp [results, Tryz.results242, go_sem]) rfl ?_
            exact ⟨by rw [HZ.out, ← HV.out], rfl⟩
          · have HZ := Lib.hid (hz2 hv0 rfl)
            clear hI hV hz1 hz2 hz3 hv0
            go_wp2_with fail
            try rw [Exit.noGoto_ret]
            refine bodyPost_ret (v := .tuple #[.int .u64 V, .int .i64 (D - N), .bool false, .bool false, .bool false, .int .i64 s.size, .bool true]) (by simp [results, Tryz.results242, go_sem]) rfl ?_
            exact ⟨by rw [HZ.out, ← HV.out], rfl⟩
end Go.Proofs.YtldamieigigncaaGreatDoor.lx


import Derived.Test.YtkhflfkedpkelaaGreatDoorFng
import Derived.Test.YtkhflfkedpkelaaGreatDoorLxi
import Derived.Deep.RegionWith
namespace Go.Proofs.YtkhflfkedpkelaaGreatDoor.lx
open Go.ChangeShapes Go.WideShapes Go.ChangeAt Go.RowKit
set_option linter.unusedVariables false
theorem x_sbits (n : Nat) (w : World) : (callFunc 54 #[.float .f64 n]).run Tryz.prog w = .ok (.value (.int .u64 n)) w :=
  run_callFunc_extern (e := Extern.MathFloatBits.float64bits) Tryz.func54 (by kernel_rfl) (by kernel_rfl) (by kernel_rfl) (by kernel_rfl) _ w
attribute [local go_sem] x_sbits
theorem OutS.weak {B b : Nat} {ty : TypeId} {cs : Array Value} {w0 wr : World} {v : Value} {xs : List UInt8} (h : OutS true B b ty cs w0 wr v xs) : OutS false B 0 0 #[] w0 wr v xs := ⟨h.own, fun e => (by cases e), fun e => (by cases e), h.bel, h.hB⟩
theorem OutS.keep {q : Bool} {B b : Nat} {ty : TypeId} {cs : Array Value} {w0 wr w3 : World} {v : Value} {xs : List UInt8} (h : OutS false B 0 0 #[] w0 wr v xs) (hb : Below wr.heap.size wr w3) (hk : q = true → Blk w3 b ty cs ∧ wr.heap.size ≤ b) : OutS q B b ty cs w0 w3 v xs := by
  refine ⟨own_below h.own hb, fun e => (hk e).1, fun e e2 => ?_, h.bel.trans (hb.mono h.hB), Nat.le_trans h.hB hb.size⟩
  have h1 := (h.own.lt b e2.symm).2
  have h2 := (hk e).2
  omega
theorem exp_bits (x E : Nat) (hE : x % 2048 = E) : bits .and .i64 (x : Int) 2047 = (E : Int) := by
  have h : bits .and .i64 (x : Int) 2047 = (x : Int) % 2048 := and_nat x 2047 11 (by decide) (by decide) (by decide)
  rw [h]
  omega
theorem man_bits (x M : Nat) (hx : x < 18446744073709551616) (hM : x % 4503599627370496 = M) : bits .and .u64 (x : Int) 4503599627370495 = (M : Int) := by
  have h := bits_and_u64_nat x 4503599627370495 hx (by decide)
  rw [show x &&& 4503599627370495 = x % 4503599627370496 from Nat.and_two_pow_sub_one_eq_mod x 52, hM] at h
  exact h
theorem man_or (M : Nat) (h : M < 4503599627370496) : bits .or .u64 (M : Int) 4503599627370496 = ((4503599627370496 + M : Nat) : Int) := by
  have h1 := bits_or_u64_nat M 4503599627370496 (by omega) (by decide)
  have h2 : M ||| 4503599627370496 = 4503599627370496 + M := by
    have e := Nat.two_pow_add_eq_or_of_lt (i := 52) (b := M) h 1
    rw [Nat.mul_one] at e
    rw [Nat.or_comm]
    exact e.symm
  rw [h2] at h1
  exact h1
set_option maxRecDepth 100000 in
set_option maxHeartbeats 4000000 in
theorem ft_norm (neg : Bool) (E M0 : Nat) (hE : 1 ≤ E ∧ E ≤ 2046) (hM : M0 < 4503599627370496) (hd0 : 0 < (fm.shortN TT ((4503599627370496 + M0) * 2048) ((E : Int) - 1086)).1) (B : Nat) (w0 w : World) (v : Value) (h : OutS false B 0 0 #[] w0 w v []) (hv : Ps w) : Calls Tryz.prog 45 #[v, .float .f64 (neg.toNat * 9223372036854775808 + E * 4503599627370496 + M0), .int .u8 102, .int .i64 (-1)] w fun e w' => ∃ v', e = .returned v' ∧ OutS false B 0 0 #[] w0 w' v' (fm.outN neg (fm.stripZ (fm.digs (fm.ndN (fm.shortN TT ((4503599627370496 + M0) * 2048) ((E : Int) - 1086)).1) (fm.shortN TT ((4503599627370496 + M0) * 2048) ((E : Int) - 1086)).1)) ((fm.ndN (fm.shortN TT ((4503599627370496 + M0) * 2048) ((E : Int) - 1086)).1 : Int) + (fm.shortN TT ((4503599627370496 + M0) * 2048) ((E : Int) - 1086)).2)) := by
  have hs := fun w hv => short_any ((4503599627370496 + M0) * 2048) ((E : Int) - 1086) (by omega) (by omega) (by omega) (by omega) w hv
  obtain ⟨b1, b2, b3⟩ := short_bd TT ((4503599627370496 + M0) * 2048) ((E : Int) - 1086) (by omega) (by omega)
  generalize (fm.shortN TT ((4503599627370496 + M0) * 2048) ((E : Int) - 1086)).1 = d at *
  generalize (fm.shortN TT ((4503599627370496 + M0) * 2048) ((E : Int) - 1086)).2 = p at *
  have hnt := Bool.toNat_le neg
  obtain ⟨x, hx⟩ : ∃ x, neg.toNat * 9223372036854775808 + E * 4503599627370496 + M0 = x := ⟨_, rfl⟩
  rw [hx]
  have hx64 : x < 18446744073709551616 := by omega
  have i1 : ((x : Int) / 9223372036854775808 != 0) = neg := by
    cases neg
    · rw [show (x : Int) / 9223372036854775808 = 0 from by rw [Bool.toNat_false] at hx; omega]; rfl
    · rw [show (x : Int) / 9223372036854775808 = 1 from by rw [Bool.toNat_true] at hx; omega]; rfl
  obtain ⟨X, hX⟩ : ∃ X, x / 4503599627370496 = X := ⟨_, rfl⟩
  have i2 : ((x : Int) / 4503599627370496) = (X : Int) := by omega
  have hX12 : X < 4096 := by omega
  have i3 := exp_bits X E (by omega)
  have i4 := man_bits x M0 hx64 (by omega)
  have i5 : ((E : Int) == 2047) = false := by rw [beq_eq_false_iff_ne]; omega
  have i6 : ((E : Int) == 0) = false := by rw [beq_eq_false_iff_ne]; omega
  have i7 := man_or M0 hM
  have hl := len_any (4503599627370496 + M0) (by omega)
  rw [fm.bitL_53 _ (by omega) (by omega)] at hl
  obtain ⟨M, hMM⟩ : ∃ M, 4503599627370496 + M0 = M := ⟨_, rfl⟩
  rw [hMM] at i7 hl hs
  have hMb : 4503599627370496 ≤ M ∧ M < 9007199254740992 := by omega
  have i8 : ((M : Int) == 0) = false := by rw [beq_eq_false_iff_ne]; omega
  obtain ⟨m, hm⟩ : ∃ m, M * 2048 = m := ⟨_, rfl⟩
  rw [hm] at hs
  have i9 : ((M : Int) * 2048) = (m : Int) := by omega
  have hm64 : m < 18446744073709551616 := by omega
  rw [show (E : Int) - 1086 = (E : Int) + -1023 - 11 - 52 from by omega] at hs
  have HS := Lib.hid hs
  have H0 := Lib.hid h
  have HV := Lib.hid hv
  have HD := Lib.hid hd0
  have HP := Lib.hid (And.intro b1 (And.intro b2 b3))
  clear hs h hv hd0 b1 b2 b3 hx hX hMM hnt hM hm
  go_enter Tryz.func45, Tryz.ntmps45
  go_wp2_with fail
  go_quiet (fail)
  have HQ := Lib.hid (⟨rfl, by simp [World.drewN], rfl, Nat.le_refl _, fun _ _ => rfl⟩ : Below w.heap.size w (w.drewN nq))
  have hwq : (w.drewN nq).heap.size = w.heap.size := rfl
  generalize w.drewN nq = wq at *
  go_wp2_with fail
  refine (hl _).mono ?_
  rintro e w1 ⟨rfl, rfl⟩
  clear hl
  go_wp2_with fail
  have hba : Below w.heap.size w (wq.alloc (.cells (BL (List.replicate 32 0)) 79)) := HQ.out.alloc (by omega) _
  have hva : Ps (wq.alloc (.cells (BL (List.replicate 32 0)) 79)) := HV.out.below hba
  refine (HS.out _ hva).mono ?_
  rintro e w1 ⟨rfl, hb1⟩
  have hk1 : Blk w1 w.heap.size 79 (BL (List.replicate 32 0)) := by
    have h := Blk.new wq 79 (BL (List.replicate 32 0))
    rw [hwq] at h
    exact h.below hb1 (by rw [World.size_alloc]; omega)
  have hbw : Below w.heap.size w w1 := hba.trans (hb1.mono (by rw [World.size_alloc]; omega))
  have HB1 := Lib.hid hbw
  have hv1 : Ps w1 := HV.out.below hbw
  have HV1 : Hid (Ps w1.drew) := Lib.hid ⟨hv1.h7, hv1.h11⟩
  have HK1 : Hid (Blk w1.drew w.heap.size 79 (BL (List.replicate 32 0))) := Lib.hid hk1
  obtain ⟨n1, n2, _⟩ := fm.nd_spec d HP.out.1
  have hnd := nd_any d HP.out.1
  have hsd := sd_any 79 w.heap.size d (fm.ndN d) p (by have := HP.out; omega) n1 HP.out.1 n2
  have hg1 := strip_pos d HD.out HP.out.1
  have hg2 : (fm.stripZ (fm.digs (fm.ndN d) d)).length ≤ 20 := by have := (fm.strip_eq (fm.digs (fm.ndN d) d)).2; rw [fm.digs_len] at this; omega
  have hg3 : (fm.stripZ (fm.digs (fm.ndN d) d) ++ restD d).length = 32 := by
    rw [← rest_eq, List.length_append, fm.digs_len, List.length_replicate]
    omega
  rw [rest_eq] at hsd
  have hdpb : -1000 ≤ (fm.ndN d : Int) + p ∧ (fm.ndN d : Int) + p ≤ 1000 := by have := HP.out; omega
  generalize hGE : fm.stripZ (fm.digs (fm.ndN d) d) = G at *
  generalize restD d = rest at *
  generalize hdp : (fm.ndN d : Int) + p = dp at *
  have HGE := Lib.hid hGE
  have HDE := Lib.hid hdp
  clear hGE
  generalize fm.ndN d = nd at hnd hsd n1 n2 hdp
  obtain ⟨pr, hpr⟩ : ∃ pr : Int, max ((G.length : Int) - dp) 0 = pr := ⟨_, rfl⟩
  have hef := fun w2 h => efg_any neg B w.heap.size 79 G rest dp pr hdpb hpr.symm hg1 hg2 hg3 w0 w2 v h
  have HND := Lib.hid hnd
  have HSD := Lib.hid hsd
  have HEF := Lib.hid hef
  have hGb : (G.length : Int) ≤ 20 := by omega
  have hdl : (-1000 : Int) ≤ dp := hdpb.1
  have hdu : dp ≤ 1000 := hdpb.2
  clear hba hva hb1 hk1 hbw n1 n2 hnd hsd HS HQ hv1 hef hg1 hg2 hg3 hdpb hdp
  go_wp2_with fail
  go_region_with (first | (go_at_call 61; go_must (refine (HND.out _ HV1.out).mono ?_); rintro e w2 ⟨rfl, rfl⟩) | (go_at_call 60; go_must (refine (HSD.out _ HK1.out).mono ?_); rintro e w2 ⟨rfl, k2, b2⟩))
  have hbw2 := HB1.out
  have ho : OutS true B w.heap.size 79 (BL (G ++ rest)) w0 w2 v [] := H0.out.keep ((⟨hbw2.os, by rw [← hbw2.tape]; rfl, hbw2.output, hbw2.size, hbw2.block⟩ : Below w.heap.size w w1.drew).grown b2 (by show w.heap.size ≤ w1.heap.size; exact hbw2.size) (fun k e => by have := Option.some.inj e; omega)) (fun _ => ⟨k2, Nat.le_refl _⟩)
  have HO := Lib.hid ho
  clear ho hbw2 k2 b2 HB1 HV1 HK1
  go_wp2_with fail
  refine (HEF.out _ HO.out).mono ?_
  rintro e w3 ⟨v', rfl, ho3⟩
  go_wp2_with fail
  go_ret
  exact ⟨v', rfl, by rw [HGE.out, HDE.out]; exact ho3.weak⟩
set_option maxRecDepth 100000 in
set_option maxHeartbeats 4000000 in
theorem ft_zero (neg : Bool) (B : Nat) (w0 w : World) (v : Value) (h : OutS false B 0 0 #[] w0 w v []) : Calls Tryz.prog 45 #[v, .float .f64 (neg.toNat * 9223372036854775808), .int .u8 102, .int .i64 (-1)] w fun e w' => ∃ v', e = .returned v' ∧ OutS false B 0 0 #[] w0 w' v' (fm.outN neg [] 0) := by
  have hnt := Bool.toNat_le neg
  obtain ⟨nn, hnn⟩ : ∃ nn, neg.toNat = nn := ⟨_, rfl⟩
  rw [hnn] at hnt ⊢
  obtain ⟨x, hx⟩ : ∃ x, nn * 9223372036854775808 = x := ⟨_, rfl⟩
  rw [hx]
  have hx64 : x < 18446744073709551616 := by omega
  have i0 : ((x : Int) / 9223372036854775808) = (nn : Int) := by omega
  have i1 : ((x : Int) / 9223372036854775808 != 0) = neg := by
    rw [i0, ← hnn]
    cases neg <;> rfl
  clear i0
  obtain ⟨X, hX⟩ : ∃ X, x / 4503599627370496 = X := ⟨_, rfl⟩
  have i2 : ((x : Int) / 4503599627370496) = (X : Int) := by omega
  have hX12 : X < 4096 := by omega
  have i3 : bits .and .i64 (X : Int) 2047 = 0 := exp_bits X 0 (by omega)
  have i4 : bits .and .u64 (x : Int) 4503599627370495 = 0 := man_bits x 0 hx64 (by omega)
  have hef2 : ∀ w2, OutS false B 0 0 #[] w0 w2 v [] → Calls Tryz.prog 57 #[v, .bool neg, .slice none 0 0, .int .i64 0, .int .i64 0, .int .i64 (-1), .int .u8 102, .bool true] w2 fun e w' => ∃ v', e = .returned v' ∧ OutS false B 0 0 #[] w0 w' v' (fm.outN neg [] 0) := fun w2 h => by
    cases neg
    · exact efg_zf B w0 w2 v h
    · exact efg_zt B w0 w2 v h
  have HEF := Lib.hid hef2
  have H0 := Lib.hid h
  clear hef2 h hx hX hnt hnn
  go_enter Tryz.func45, Tryz.ntmps45
  go_wp2_with fail
  go_quiet (fail)
  have ho : OutS false B 0 0 #[] w0 (w.drewN nq) v [] := H0.out.keep ⟨rfl, by simp [World.drewN], rfl, Nat.le_refl _, fun _ _ => rfl⟩ (fun e => by cases e)
  have HO := Lib.hid ho
  clear ho H0
  generalize w.drewN nq = wq at *
  go_wp2_with fail
  refine (HEF.out _ HO.out).mono ?_
  rintro e w3 ⟨v', rfl, ho3⟩
  go_wp2_with fail
  go_ret
  exact ⟨v', rfl, ho3⟩
end Go.Proofs.YtkhflfkedpkelaaGreatDoor.lx

import Derived.Test.YtldamieigigncaaGreatDoorVcbh
import Derived.Test.YtldamieigigncaaGreatDoorVcbi
import Derived.Test.YtldamieigigncaaGreatDoorVcad
import Derived.Deep.RegionWith
import Derived.Test.YtldamieigigncaaGreatDoorVcav
namespace Go.Proofs.YtldamieigigncaaGreatDoor.lx
open Go.ChangeShapes Go.WideShapes Go.ChangeAt Go.RowKit
set_option linter.unusedVariables false
theorem efg_any (neg : Bool) (B b : Nat) (ty : TypeId) (G : List UInt8) (rest : List UInt8) (dp pr : Int) (hdp : -1000 ≤ dp ∧ dp ≤ 1000) (hpr : pr = max ((G.length : Int) - dp) 0) (hG : 1 ≤ G.length) (hG20 : G.length ≤ 20) (hr : (G ++ rest).length = 32) (w0 w : World) (v : Value) (h : OutS true B b ty (BL (G ++ rest)) w0 w v []) : Calls Tryz.prog 183 #[v, .bool neg, .slice (some ⟨b, 0, none⟩) 32 32, .int .i64 dp, .int .i64 G.length, .int .i64 pr, .int .u8 102, .bool true] w fun e w' => ∃ v', e = .returned v' ∧ OutS true B b ty (BL (G ++ rest)) w0 w' v' (fm.outN neg G dp) := by
  by_cases h1 : (0 : Int) < dp
  · obtain ⟨D, hD⟩ : ∃ D : Nat, dp = (D : Int) := ⟨dp.toNat, by omega⟩
    subst hD
    by_cases h2 : G.length ≤ D
    · have e : pr = 0 := by omega
      subst e
      cases neg
      · exact efg_af B b ty G rest D h2 (by omega) hG hG20 hr w0 w v h
      · exact efg_at B b ty G rest D h2 (by omega) hG hG20 hr w0 w v h
    · have e : pr = ((G.length - D : Nat) : Int) := by omega
      subst e
      cases neg
      · exact efg_bf B b ty G rest D (by omega) (by omega) hG hG20 hr w0 w v h
      · exact efg_bt B b ty G rest D (by omega) (by omega) hG hG20 hr w0 w v h
  · obtain ⟨Z, hZ⟩ : ∃ Z : Nat, dp = -(Z : Int) := ⟨(-dp).toNat, by omega⟩
    subst hZ
    have e : pr = ((G.length + Z : Nat) : Int) := by omega
    subst e
    cases neg
    · exact efg_cf B b ty G rest Z (by omega) hG hG20 hr w0 w v h
    · exact efg_ct B b ty G rest Z (by omega) hG hG20 hr w0 w v h
theorem short_any (m : Nat) (e : Int) (hm : 9223372036854775808 ≤ m) (hm2 : m < 18446744073709550592) (he : -1085 ≤ e) (he2 : e ≤ 960) (w : World) (hv : Ps w) : Calls Tryz.prog 192 #[.int .u64 m, .int .i64 e] w fun r w' => r = .returned (.tuple #[.int .u64 ((fm.shortN TT m e).1 : Nat), .int .i64 (fm.shortN TT m e).2]) ∧ Below w.heap.size w w' := by
  by_cases h1 : m = 9223372036854775808
  · by_cases h2 : -1085 < e
    · exact short_one m e hm hm2 h1 h2 he2 w hv
    · exact short_two_b m e hm hm2 h1 (by omega) w hv
  · exact short_two m e hm hm2 h1 he he2 w hv
theorem tail_bd (T : Nat → Nat × Nat) (mn mx m od : Nat) (e p : Int) (hp : -400 ≤ p ∧ p ≤ 400) : (fm.tailN T mn mx m od e p).1 < 18446744073709551616 ∧ -500 ≤ (fm.tailN T mn mx m od e p).2 ∧ (fm.tailN T mn mx m od e p).2 ≤ 500 := by
  unfold fm.tailN
  simp only
  split
  · exact ⟨by show _ / 4 / 10 < _; omega, by show -500 ≤ -(p - 1); omega, by show -(p - 1) ≤ 500; omega⟩
  · split
    · exact ⟨by show _ / 4 < _; omega, by show -500 ≤ -p; omega, by show -p ≤ 500; omega⟩
    · exact ⟨by show _ / 4 < _; omega, by show -500 ≤ -p; omega, by show -p ≤ 500; omega⟩
theorem short_bd (T : Nat → Nat × Nat) (m : Nat) (e : Int) (he : -1085 ≤ e) (he2 : e ≤ 960) : (fm.shortN T m e).1 < 18446744073709551616 ∧ -500 ≤ (fm.shortN T m e).2 ∧ (fm.shortN T m e).2 ≤ 500 := by
  unfold fm.shortN
  split
  · exact tail_bd _ _ _ _ _ _ _ (by unfold fm.skw; omega)
  · first
    | (rw [if_pos he]; exact tail_bd _ _ _ _ _ _ _ (by unfold fm.l10; omega))
    | exact tail_bd _ _ _ _ _ _ _ (by unfold fm.l10; omega)
theorem strip_pos (d : Nat) (hd : 0 < d) (hd64 : d < 18446744073709551616) : 1 ≤ (fm.stripZ (fm.digs (fm.ndN d) d)).length := by
  rcases Nat.eq_zero_or_pos (fm.stripZ (fm.digs (fm.ndN d) d)).length with h | h
  · exfalso
    have h0 := List.length_eq_zero_iff.1 h
    have h1 := fm.strip_last _ 0 h0
    have h2 := fm.digs_valL (fm.ndN d) d (fm.nd_spec d hd64).1
    rw [h1] at h2
    have h3 := fm.valL_zeros [] (fm.digs (fm.ndN d) d).length
    rw [List.nil_append] at h3
    rw [h3] at h2
    simp [fm.valL] at h2
    omega
  · exact h
def restD (d : Nat) : List UInt8 := List.replicate ((fm.digs (fm.ndN d) d).length - (fm.stripZ (fm.digs (fm.ndN d) d)).length) 48 ++ List.replicate (32 - fm.ndN d) 0
theorem rest_eq (d : Nat) : fm.digs (fm.ndN d) d ++ List.replicate (32 - fm.ndN d) 0 = fm.stripZ (fm.digs (fm.ndN d) d) ++ restD d := by
  unfold restD
  rw [← List.append_assoc, ← (fm.strip_eq (fm.digs (fm.ndN d) d)).1]
end Go.Proofs.YtldamieigigncaaGreatDoor.lx

namespace Go.Proofs.YtldamieigigncaaGreatDoor.lx
open Go.ChangeShapes Go.WideShapes Go.ChangeAt Go.RowKit
set_option linter.unusedVariables false
theorem x_sbits (n : Nat) (w : World) : (callFunc 180 #[.float .f64 n]).run Tryz.prog w = .ok (.value (.int .u64 n)) w :=
  run_callFunc_extern (e := Extern.MathFloatBits.float64bits) Tryz.func180 (by kernel_rfl) (by kernel_rfl) (by kernel_rfl) (by kernel_rfl) _ w
attribute [local go_sem] x_sbits
theorem OutS.weak {B b : Nat} {ty : TypeId} {cs : Array Value} {w0 wr : World} {v : Value} {xs : List UInt8} (h : OutS true B b ty cs w0 wr v xs) : OutS false B 0 0 #[] w0 wr v xs := ⟨h.own, fun e => (by cases e), fun e => (by cases e), h.bel, h.hB⟩
theorem OutS.keep {q : Bool} {B b : Nat} {ty : TypeId} {cs : Array Value} {w0 wr w3 : World} {v : Value} {xs : List UInt8} (h : OutS false B 0 0 #[] w0 wr v xs) (hb : Below wr.heap.size wr w3) (hk : q = true → Blk w3 b ty cs ∧ wr.heap.size ≤ b) : OutS q B b ty cs w0 w3 v xs := by
  refine ⟨own_below h.own hb, fun e => (hk e).1, fun e e2 => ?_, h.bel.trans (hb.mono h.hB), Nat.le_trans h.hB hb.size⟩
  have h1 := (h.own.lt b e2.symm).2
  have h2 := (hk e).2
  omega
theorem exp_bits (x E : Nat) (hE : x % 2048 = E) : bits .and .i64 (x : Int) 2047 = (E : Int) := by
  have h : bits .and .i64 (x : Int) 2047 = (x : Int) % 2048 := and_nat x 2047 11 (by decide) (by decide) (by decide)
  rw [h]
  omega
theorem man_bits (x M : Nat) (hx : x < 18446744073709551616) (hM : x % 4503599627370496 = M) : bits .and .u64 (x : Int) 4503599627370495 = (M : Int) := by
  have h := bits_and_u64_nat x 4503599627370495 hx (by decide)
  rw [show x &&& 4503599627370495 = x % 4503599627370496 from Nat.and_two_pow_sub_one_eq_mod x 52, hM] at h
  exact h
theorem man_or (M : Nat) (h : M < 4503599627370496) : bits .or .u64 (M : Int) 4503599627370496 = ((4503599627370496 + M : Nat) : Int) := by
  have h1 := bits_or_u64_nat M 4503599627370496 (by omega) (by decide)
  have h2 : M ||| 4503599627370496 = 4503599627370496 + M := by
    have e := Nat.two_pow_add_eq_or_of_lt (i := 52) (b := M) h 1
    rw [Nat.mul_one] at e
    rw [Nat.or_comm]
    exact e.symm
  rw [h2] at h1
  exact h1
set_option maxRecDepth 100000 in
set_option maxHeartbeats 4000000 in
theorem ft_norm (neg : Bool) (E M0 : Nat) (hE : 1 ≤ E ∧ E ≤ 2046) (hM : M0 < 4503599627370496) (hd0 : 0 < (fm.shortN TT ((4503599627370496 + M0) * 2048) ((E : Int) - 1086)).1) (B : Nat) (w0 w : World) (v : Value) (h : OutS false B 0 0 #[] w0 w v []) (hv : Ps w) : Calls Tryz.prog 162 #[v, .float .f64 (neg.toNat * 9223372036854775808 + E * 4503599627370496 + M0), .int .u8 102, .int .i64 (-1)] w fun e w' => ∃ v', e = .returned v' ∧ OutS false B 0 0 #[] w0 w' v' (fm.outN neg (fm.stripZ (fm.digs (fm.ndN (fm.shortN TT ((4503599627370496 + M0) * 2048) ((E : Int) - 1086)).1) (fm.shortN TT ((4503599627370496 + M0) * 2048) ((E : Int) - 1086)).1)) ((fm.ndN (fm.shortN TT ((4503599627370496 + M0) * 2048) ((E : Int) - 1086)).1 : Int) + (fm.shortN TT ((4503599627370496 + M0) * 2048) ((E : Int) - 1086)).2)) := by
  have hs := fun w hv => short_any ((4503599627370496 + M0) * 2048) ((E : Int) - 1086) (by omega) (by omega) (by omega) (by omega) w hv
  obtain ⟨b1, b2, b3⟩ := short_bd TT ((4503599627370496 + M0) * 2048) ((E : Int) - 1086) (by omega) (by omega)
  generalize (fm.shortN TT ((4503599627370496 + M0) * 2048) ((E : Int) - 1086)).1 = d at *
  generalize (fm.shortN TT ((4503599627370496 + M0) * 2048) ((E : Int) - 1086)).2 = p at *
  have hnt := Bool.toNat_le neg
  obtain ⟨x, hx⟩ : ∃ x, neg.toNat * 9223372036854775808 + E * 4503599627370496 + M0 = x := ⟨_, rfl⟩
  rw [hx]
  have hx64 : x < 18446744073709551616 := by omega
  have i1 : ((x : Int) / 9223372036854775808 != 0) = neg := by
    cases neg
    · rw [show (x : Int) / 9223372036854775808 = 0 from by rw [Bool.toNat_false] at hx; omega]; rfl
    · rw [show (x : Int) / 9223372036854775808 = 1 from by rw [Bool.toNat_true] at hx; omega]; rfl
  obtain ⟨X, hX⟩ : ∃ X, x / 4503599627370496 = X := ⟨_, rfl⟩
  have i2 : ((x : Int) / 4503599627370496) = (X : Int) := by omega
  have hX12 : X < 4096 := by omega
  have i3 := exp_bits X E (by omega)
  have i4 := man_bits x M0 hx64 (by omega)
  have i5 : ((E : Int) == 2047) = false := by rw [beq_eq_false_iff_ne]; omega
  have i6 : ((E : Int) == 0) = false := by rw [beq_eq_false_iff_ne]; omega
  have i7 := man_or M0 hM
  have hl := len_any (4503599627370496 + M0) (by omega)
  rw [fm.bitL_53 _ (by omega) (by omega)] at hl
  obtain ⟨M, hMM⟩ : ∃ M, 4503599627370496 + M0 = M := ⟨_, rfl⟩
  rw [hMM] at i7 hl hs
  have hMb : 4503599627370496 ≤ M ∧ M < 9007199254740992 := by omega
  have i8 : ((M : Int) == 0) = false := by rw [beq_eq_false_iff_ne]; omega
  obtain ⟨m, hm⟩ : ∃ m, M * 2048 = m := ⟨_, rfl⟩
  rw [hm] at hs
  have i9 : ((M : Int) * 2048) = (m : Int) := by omega
  have hm64 : m < 18446744073709551616 := by omega
  rw [show (E : Int) - 1086 = (E : Int) + -1023 - 11 - 52 from by omega] at hs
  have HS := Lib.hid hs
  have H0 := Lib.hid h
  have HV := Lib.hid hv
  have HD := Lib.hid hd0
  have HP := Lib.hid (And.intro b1 (And.intro b2 b3))
  clear hs h hv hd0 b1 b2 b3 hx hX hMM hnt hM hm
  go_enter Tryz.func162, Tryz.ntmps162
  go_wp2_with fail
  go_quiet (fail)
  have HQ := Lib.hid (⟨rfl, by simp [World.drewN], rfl, Nat.le_refl _, fun _ _ => rfl⟩ : Below w.heap.size w (w.drewN nq))
  have hwq : (w.drewN nq).heap.size = w.heap.size := rfl
  generalize w.drewN nq = wq at *
  go_wp2_with fail
  refine (hl _).mono ?_
  rintro e w1 ⟨rfl, rfl⟩
  clear hl
  go_wp2_with fail
  have hba : Below w.heap.size w (wq.alloc (.cells (BL (List.replicate 32 0)) 234)) := HQ.out.alloc (by omega) _
  have hva : Ps (wq.alloc (.cells (BL (List.replicate 32 0)) 234)) := HV.out.below hba
  refine (HS.out _ hva).mono ?_
  rintro e w1 ⟨rfl, hb1⟩
  have hk1 : Blk w1 w.heap.size 234 (BL (List.replicate 32 0)) := by
    have h := Blk.new wq 234 (BL (List.replicate 32 0))
    rw [hwq] at h
    exact h.below hb1 (by rw [World.size_alloc]; omega)
  have hbw : Below w.heap.size w w1 := hba.trans (hb1.mono (by rw [World.size_alloc]; omega))
  have HB1 := Lib.hid hbw
  have hv1 : Ps w1 := HV.out.below hbw
  have HV1 : Hid (Ps w1.drew) := Lib.hid ⟨hv1.h7, hv1.h11⟩
  have HK1 : Hid (Blk w1.drew w.heap.size 234 (BL (List.replicate 32 0))) := Lib.hid hk1
  obtain ⟨n1, n2, _⟩ := fm.nd_spec d HP.out.1
  have hnd := nd_any d HP.out.1
  have hsd := sd_any 234 w.heap.size d (fm.ndN d) p (by have := HP.out; omega) n1 HP.out.1 n2
  have hg1 := strip_pos d HD.out HP.out.1
  have hg2 : (fm.stripZ (fm.digs (fm.ndN d) d)).length ≤ 20 := by have := (fm.strip_eq (fm.digs (fm.ndN d) d)).2; rw [fm.digs_len] at this; omega
  have hg3 : (fm.stripZ (fm.digs (fm.ndN d) d) ++ restD d).length = 32 := by
    rw [← rest_eq, List.length_append, fm.digs_len, List.length_replicate]
    omega
  rw [rest_eq] at hsd
  have hdpb : -1000 ≤ (fm.ndN d : Int) + p ∧ (fm.ndN d : Int) + p ≤ 1000 := by have := HP.out; omega
  generalize hGE : fm.stripZ (fm.digs (fm.ndN d) d) = G at *
  generalize restD d = rest at *
  generalize hdp : (fm.ndN d : Int) + p = dp at *
  have HGE := Lib.hid hGE
  have HDE := Lib.hid hdp
  clear hGE
  generalize fm.ndN d = nd at hnd hsd n1 n2 hdp
  obtain ⟨pr, hpr⟩ : ∃ pr : Int, max ((G.length : Int) - dp) 0 = pr := ⟨_, rfl⟩
  have hef := fun w2 h => efg_any neg B w.heap.size 234 G rest dp pr hdpb hpr.symm hg1 hg2 hg3 w0 w2 v h
  have HND := Lib.hid hnd
  have HSD := Lib.hid hsd
  have HEF := Lib.hid hef
  have hGb : (G.length : Int) ≤ 20 := by omega
  have hdl : (-1000 : Int) ≤ dp := hdpb.1
  have hdu : dp ≤ 1000 := hdpb.2
  clear hba hva hb1 hk1 hbw n1 n2 hnd hsd HS HQ hv1 hef hg1 hg2 hg3 hdpb hdp
  go_wp2_with fail
  go_region_with (first | (go_at_call 186; go_must (refine (HND.out _ HV1.out).mono ?_); rintro e w2 ⟨rfl, rfl⟩) | (go_at_call 185; go_must (refine (HSD.out _ HK1.out).mono ?_); rintro e w2 ⟨rfl, k2, b2⟩))
  have hbw2 := HB1.out
  have ho : OutS true B w.heap.size 234 (BL (G ++ rest)) w0 w2 v [] := H0.out.keep ((⟨hbw2.os, by rw [← hbw2.tape]; rfl, hbw2.output, hbw2.size, hbw2.block⟩ : Below w.heap.size w w1.drew).grown b2 (by show w.heap.size ≤ w1.heap.size; exact hbw2.size) (fun k e => by have := Option.some.inj e; omega)) (fun _ => ⟨k2, Nat.le_refl _⟩)
  have HO := Lib.hid ho
  clear ho hbw2 k2 b2 HB1 HV1 HK1
  go_wp2_with fail
  refine (HEF.out _ HO.out).mono ?_
  rintro e w3 ⟨v', rfl, ho3⟩
  go_wp2_with fail
  go_ret
  exact ⟨v', rfl, by rw [HGE.out, HDE.out]; exact ho3.weak⟩
set_option maxRecDepth 100000 in
set_option maxHeartbeats 4000000 in
theorem ft_zero (neg : Bool) (B : Nat) (w0 w : World) (v : Value) (h : OutS false B 0 0 #[] w0 w v []) : Calls Tryz.prog 162 #[v, .float .f64 (neg.toNat * 9223372036854775808), .int .u8 102, .int .i64 (-1)] w fun e w' => ∃ v', e = .returned v' ∧ OutS false B 0 0 #[] w0 w' v' (fm.outN neg [] 0) := by
  have hnt := Bool.toNat_le neg
  obtain ⟨nn, hnn⟩ : ∃ nn, neg.toNat = nn := ⟨_, rfl⟩
  rw [hnn] at hnt ⊢
  obtain ⟨x, hx⟩ : ∃ x, nn * 9223372036854775808 = x := ⟨_, rfl⟩
  rw [hx]
  have hx64 : x < 18446744073709551616 := by omega
  have i0 : ((x : Int) / 9223372036854775808) = (nn : Int) := by omega
  have i1 : ((x : Int) / 9223372036854775808 != 0) = neg := by
    rw [i0, ← hnn]
    cases neg <;> rfl
  clear i0
  obtain ⟨X, hX⟩ : ∃ X, x / 4503599627370496 = X := ⟨_, rfl⟩
  have i2 : ((x : Int) / 4503599627370496) = (X : Int) := by omega
  have hX12 : X < 4096 := by omega
  have i3 : bits .and .i64 (X : Int) 2047 = 0 := exp_bits X 0 (by omega)
  have i4 : bits .and .u64 (x : Int) 4503599627370495 = 0 := man_bits x 0 hx64 (by omega)
  have hef2 : ∀ w2, OutS false B 0 0 #[] w0 w2 v [] → Calls Tryz.prog 183 #[v, .bool neg, .slice none 0 0, .int .i64 0, .int .i64 0, .int .i64 (-1), .int .u8 102, .bool true] w2 fun e w' => ∃ v', e = .returned v' ∧ OutS false B 0 0 #[] w0 w' v' (fm.outN neg [] 0) := fun w2 h => by
    cases neg
    · exact efg_zf B w0 w2 v h
    · exact efg_zt B w0 w2 v h
  have HEF := Lib.hid hef2
  have H0 := Lib.hid h
  clear hef2 h hx hX hnt hnn
  go_enter Tryz.func162, Tryz.ntmps162
  go_wp2_with fail
  go_quiet (fail)
  have ho : OutS false B 0 0 #[] w0 (w.drewN nq) v [] := H0.out.keep ⟨rfl, by simp [World.drewN], rfl, Nat.le_refl _, fun _ _ => rfl⟩ (fun e => by cases e)
  have HO := Lib.hid ho
  clear ho H0
  generalize w.drewN nq = wq at *
  go_wp2_with fail
  refine (HEF.out _ HO.out).mono ?_
  rintro e w3 ⟨v', rfl, ho3⟩
  go_wp2_with fail
  go_ret
  exact ⟨v', rfl, ho3⟩
end Go.Proofs.YtldamieigigncaaGreatDoor.lx

namespace Go.Proofs.YtldamieigigncaaGreatDoor.lx
open Go.ChangeShapes Go.WideShapes Go.ChangeAt Go.RowKit Go.Proofs.YtldamieigigncaaGreatDoor.ky
set_option linter.unusedVariables false
set_option maxRecDepth 100000 in
theorem isnan_any (n : Nat) (w : World) : Calls Tryz.prog 109 #[.float .f64 n] w fun e w' => e = .returned (.bool (nanB n)) ∧ w = w' := by
  have h1 := isNaN_bool n
  go_enter Tryz.func109, Tryz.ntmps109
  go_wp2
  go_ret
  exact ⟨rfl, rfl⟩
theorem cmp_le (a b : Int) (h : a ≤ b) : (compare a b == Ordering.gt) = false := by
  rcases Int.lt_or_eq_of_le h with h | h
  · rw [Int.compare_eq_lt.2 h]; rfl
  · rw [h, cmp_self]; rfl
theorem max_read : FloatKind.f64.format.read 9218868437227405311 = .number false 9007199254740991 971 := by decide +kernel
theorem gt_max (n : Nat) (hn : n < 18446744073709551616) : (FloatKind.f64.format.order n 9218868437227405311 == some Ordering.gt) = decide (n = 9218868437227405312) := by
  have e1 : FloatKind.f64.format.signWeight = 9223372036854775808 := by decide
  have e2 : FloatKind.f64.format.infRung = 9218868437227405312 := by decide
  have e3 : FloatKind.f64.format.binade = 4503599627370496 := by decide
  have e4 : FloatKind.f64.format.leastPlace = -1074 := by decide
  unfold Ieee.Format.order
  rw [max_read]
  -- a number: its digits and its place
  have num : ∀ (s : Bool) (m : Nat) (i : Int), m ≤ 9007199254740991 → i ≤ 971 → (Ieee.Datum.order (.number s m i) (.number false 9007199254740991 971) == some Ordering.gt) = false := fun s m i hm hi => by
    show (some (compare (Ieee.signed s m (i - min i 971).toNat) (Ieee.signed false 9007199254740991 (971 - min i 971).toNat)) == some Ordering.gt) = false
    rw [show min i 971 = i from by omega, show (i - i).toNat = 0 from by omega]
    have h1 : (1 : Nat) ≤ 2 ^ (971 - i).toNat := Nat.one_le_two_pow
    have h2 : 9007199254740991 * 1 ≤ 9007199254740991 * 2 ^ (971 - i).toNat := Nat.mul_le_mul_left _ h1
    have h3 : Ieee.signed s m 0 ≤ Ieee.signed false 9007199254740991 (971 - i).toNat := by
      unfold Ieee.signed
      rw [Nat.shiftLeft_eq, Nat.shiftLeft_eq, Nat.pow_zero, Nat.mul_one]
      cases s
      · simp only [Bool.false_eq_true, if_false]
        omega
      · simp only [if_true, Bool.false_eq_true, if_false]
        omega
    exact cmp_le _ _ h3
  unfold Ieee.Format.read
  simp only [e1, e2, e3, e4]
  by_cases h1 : n % 9223372036854775808 < 4503599627370496
  · rw [if_pos h1, num _ _ _ (by omega) (by omega), decide_eq_false (by omega)]
  · by_cases h2 : n % 9223372036854775808 < 9218868437227405312
    · rw [if_neg h1, if_pos h2, num _ _ _ (by omega) (by omega), decide_eq_false (by omega)]
    · by_cases h3 : n % 9223372036854775808 = 9218868437227405312
      · rw [if_neg h1, if_neg h2, if_pos h3]
        by_cases h4 : n = 9218868437227405312
        · subst h4; decide
        · have h5 : n = 18442240474082181120 := by omega
          subst h5; decide
      · rw [if_neg h1, if_neg h2, if_neg h3, decide_eq_false (by omega)]
        rfl
set_option maxRecDepth 100000 in
theorem isinf_up (n : Nat) (hn : n < 18446744073709551616) (w : World) : Calls Tryz.prog 110 #[.float .f64 n, .int .i64 1] w fun e w' => e = .returned (.bool (decide (n = 9218868437227405312))) ∧ w = w' := by
  have h := gt_max n hn
  go_enter Tryz.func110, Tryz.ntmps110
  go_wp2
  go_ret
  exact ⟨by rw [← h]; rfl, rfl⟩
def negN (n : Nat) : Nat := if n < 9223372036854775808 then 9223372036854775808 + n else n - 9223372036854775808
theorem negN_lt (n : Nat) (hn : n < 18446744073709551616) : negN n < 18446744073709551616 := by unfold negN; split <;> omega
theorem run_negf (n : Nat) (hn : n < 18446744073709551616) (w : World) : (Go.Op.unary .neg (.float .f64 n)).run Tryz.prog w = .ok (.float .f64 (negN n)) w := by
  have e : Go.Op.negFloat .f64 n = negN n := by
    have p63 : (2 : Nat) ^ 63 = 9223372036854775808 := by decide +kernel
    show n ^^^ 2 ^ 63 = _
    rw [p63]
    unfold negN
    by_cases h : n < 9223372036854775808
    · rw [if_pos h, xor_top n h]
    · rw [if_neg h]
      obtain ⟨m, hm, hm2⟩ : ∃ m, m < 9223372036854775808 ∧ n = 9223372036854775808 + m := ⟨n - 9223372036854775808, by omega, by omega⟩
      have hx := xor_top m hm
      rw [hm2, ← hx, Nat.xor_assoc, Nat.xor_self, Nat.xor_zero, hx]
      omega
  rw [← e]
  rfl
set_option maxRecDepth 100000 in
theorem isinf_dn (n : Nat) (hn : n < 18446744073709551616) (w : World) : Calls Tryz.prog 110 #[.float .f64 n, .int .i64 (-1)] w fun e w' => e = .returned (.bool (decide (n = 18442240474082181120))) ∧ w = w' := by
  have h := gt_max (negN n) (negN_lt n hn)
  have hd : decide (negN n = 9218868437227405312) = decide (n = 18442240474082181120) := decide_eq_decide.2 (by unfold negN; split <;> omega)
  rw [hd] at h
  have hr := run_negf n hn
  clear hd
  generalize negN n = k at *
  go_enter Tryz.func110, Tryz.ntmps110
  go_wp2
  go_ret
  exact ⟨by rw [← h]; rfl, rfl⟩
end Go.Proofs.YtldamieigigncaaGreatDoor.lx

namespace Go.Proofs.YtldamieigigncaaGreatDoor.lx
open Go.ChangeShapes Go.WideShapes Go.ChangeAt Go.RowKit Go.Proofs.YtldamieigigncaaGreatDoor.ky
set_option linter.unusedVariables false
def Prn (x : Nat) : Prop := x < 18446744073709551616 ∧ x % 9223372036854775808 < 9218868437227405312 ∧ (fm.mantN x = 0 ∨ (x / 4503599627370496 % 2048 ≠ 0 ∧ 0 < (fm.shortN TT ((4503599627370496 + x % 4503599627370496) * 2048) (((x / 4503599627370496 % 2048 : Nat) : Int) - 1086)).1))
theorem ft_any (x : Nat) (hp : Prn x) (B : Nat) (w0 w : World) (v : Value) (h : OutS false B 0 0 #[] w0 w v []) (hv : Ps w) : Calls Tryz.prog 162 #[v, .float .f64 x, .int .u8 102, .int .i64 (-1)] w fun e w' => ∃ v', e = .returned v' ∧ OutS false B 0 0 #[] w0 w' v' (fm.textN TT x) := by
  obtain ⟨hx, hf, hp⟩ := hp
  obtain ⟨neg, hneg⟩ : ∃ neg, decide (9223372036854775808 ≤ x) = neg := ⟨_, rfl⟩
  have hnn : neg.toNat = x / 9223372036854775808 := by
    rw [← hneg]
    by_cases h : 9223372036854775808 ≤ x
    · rw [decide_eq_true h]; show 1 = _; omega
    · rw [decide_eq_false h]; show 0 = _; omega
  by_cases hm : fm.mantN x = 0
  · have e : x = neg.toNat * 9223372036854775808 := by
      unfold fm.mantN at hm
      rw [hnn]
      split at hm <;> omega
    unfold fm.textN
    rw [if_pos hm, hneg]
    have hz := ft_zero neg B w0 w v h
    rw [← e] at hz
    exact hz
  · obtain ⟨hE, hd⟩ := hp.resolve_left hm
    have e : x = neg.toNat * 9223372036854775808 + x / 4503599627370496 % 2048 * 4503599627370496 + x % 4503599627370496 := by
      rw [hnn]
      omega
    have hz := ft_norm neg (x / 4503599627370496 % 2048) (x % 4503599627370496) ⟨by omega, by omega⟩ (by omega) hd B w0 w v h hv
    rw [← e] at hz
    have h1 : fm.mantN x = 4503599627370496 + x % 4503599627370496 := by unfold fm.mantN; rw [if_neg hE]
    have h2 : fm.expN x = ((x / 4503599627370496 % 2048 : Nat) : Int) - 1023 := by unfold fm.expN; rw [if_neg hE]
    have h3 := fm.bitL_53 (4503599627370496 + x % 4503599627370496) (by omega) (by omega)
    unfold fm.textN fm.textD
    rw [if_neg hm, hneg, h1, h2, h3, show (4503599627370496 + x % 4503599627370496) * 2 ^ (64 - 53) = (4503599627370496 + x % 4503599627370496) * 2048 from rfl, show ((x / 4503599627370496 % 2048 : Nat) : Int) - 1023 - ((64 - 53 : Nat) : Int) - 52 = ((x / 4503599627370496 % 2048 : Nat) : Int) - 1086 from by omega]
    exact hz
theorem own_mk (w : World) : (w.alloc (.cells #[.int .u8 0,.int .u8 0,.int .u8 0,.int .u8 0,.int .u8 0,.int .u8 0,.int .u8 0,.int .u8 0,.int .u8 0,.int .u8 0,.int .u8 0,.int .u8 0,.int .u8 0,.int .u8 0,.int .u8 0,.int .u8 0,.int .u8 0,.int .u8 0,.int .u8 0,.int .u8 0,.int .u8 0,.int .u8 0,.int .u8 0,.int .u8 0] 5)).ownsRow w.heap.size 5 1 (.slice (some ⟨w.heap.size, 0, none⟩) 0 24) 0 (bl []) :=
  World.ownsRow_made w #[.int .u8 0,.int .u8 0,.int .u8 0,.int .u8 0,.int .u8 0,.int .u8 0,.int .u8 0,.int .u8 0,.int .u8 0,.int .u8 0,.int .u8 0,.int .u8 0,.int .u8 0,.int .u8 0,.int .u8 0,.int .u8 0,.int .u8 0,.int .u8 0,.int .u8 0,.int .u8 0,.int .u8 0,.int .u8 0,.int .u8 0,.int .u8 0] 24 (Nat.le_refl _) (by decide) (by decide)
theorem nums_S (xs : List UInt8) : strOfNums (xs.map fun c => (c.toNat : Int)) = S xs := by
  unfold strOfNums S
  congr 1
  congr 1
  rw [List.map_map]
  conv => rhs; rw [← List.map_id xs]
  apply List.map_congr_left
  intro c _
  show UInt8.ofNat ((c.toNat : Int).toNat) = c
  simp
theorem str_of_own {w : World} {base : Nat} {v : Value} {xs : List UInt8} (h : w.ownsRow base 5 1 v xs.length (bl xs)) (h0 : 0 < xs.length) : (convert 99 9 v).run Tryz.prog w = .ok (.string (S xs)) w := by
  obtain ⟨g, cap, e, hB, hg, hc⟩ := own_open h h0
  rw [e, ← nums_S]
  have hlen : (xs.map fun c => (c.toNat : Int)).length = xs.length := by simp
  refine run_convert_bytes_arg w 99 5 Tryz.underlying99 Tryz.underlying5 g 0 xs.length cap (xs.map fun c => (c.toNat : Int)) hlen (fun i hi => ?_) 9 Tryz.underlying9
  have hi2 : i < xs.length := by omega
  rw [Nat.zero_add]
  have := hc i (.int .u8 ((xs[i].toNat : Nat) : Int)) (by simp [bl, List.getElem?_eq_getElem hi2])
  rw [this]
  simp [List.getD, List.getElem?_eq_getElem hi2]
theorem out_len (neg : Bool) (s : List UInt8) (dp : Int) : 0 < (fm.outN neg s dp).length := by
  unfold fm.outN
  by_cases h : 0 < dp
  · rw [if_pos h]
    simp only [List.length_append, List.length_take, List.length_replicate]
    omega
  · rw [if_neg h]
    simp only [List.length_append, List.length_cons]
    omega
theorem text_len (x : Nat) : 0 < (fm.textN TT x).length := by
  unfold fm.textN fm.textD
  split <;> exact out_len _ _ _
set_option maxRecDepth 100000 in
set_option maxHeartbeats 1000000 in
theorem ff_any (x : Nat) (hp : Prn x) (w : World) (hv : Ps w) : Calls Tryz.prog 138 #[.float .f64 x, .int .u8 102, .int .i64 (-1), .int .i64 64] w fun e w' => e = .returned (.string (S (fm.textN TT x))) ∧ Below w.heap.size w w' := by
  have hmk : ∀ w : World, (Instr.makeSlice 99 (.int .i64 0) (.int .i64 24)).run Tryz.prog w = .ok (.slice (some ⟨w.heap.size, 0, none⟩) 0 24) (w.alloc (.cells #[.int .u8 0,.int .u8 0,.int .u8 0,.int .u8 0,.int .u8 0,.int .u8 0,.int .u8 0,.int .u8 0,.int .u8 0,.int .u8 0,.int .u8 0,.int .u8 0,.int .u8 0,.int .u8 0,.int .u8 0,.int .u8 0,.int .u8 0,.int .u8 0,.int .u8 0,.int .u8 0,.int .u8 0,.int .u8 0,.int .u8 0,.int .u8 0] 5)) := fun _ => by kernel_rfl
  have ho : OutS false w.heap.size 0 0 #[] w (w.alloc (.cells #[.int .u8 0,.int .u8 0,.int .u8 0,.int .u8 0,.int .u8 0,.int .u8 0,.int .u8 0,.int .u8 0,.int .u8 0,.int .u8 0,.int .u8 0,.int .u8 0,.int .u8 0,.int .u8 0,.int .u8 0,.int .u8 0,.int .u8 0,.int .u8 0,.int .u8 0,.int .u8 0,.int .u8 0,.int .u8 0,.int .u8 0,.int .u8 0] 5)) (.slice (some ⟨w.heap.size, 0, none⟩) 0 24) [] := ⟨own_mk w, fun e => (by cases e), fun e => (by cases e), (Below.refl _ _).alloc (Nat.le_refl _) _, by rw [World.size_alloc]; omega⟩
  have hf := ft_any x hp w.heap.size w _ _ ho (hv.below ((Below.refl _ _).alloc (Nat.le_refl _) _))
  have HL := Lib.hid (text_len x)
  generalize fm.textN TT x = xs at *
  have HF := Lib.hid hf
  have hmx : max (3 : Int) 24 = 24 := by decide
  clear ho hf hv hp
  go_enter Tryz.func138, Tryz.ntmps138
  go_wp2_with fail
  refine HF.out.mono ?_
  rintro e w1 ⟨v', rfl, ho⟩
  have hs := str_of_own ho.own HL.out
  have HB := Lib.hid ho.bel
  clear ho HF hmk
  go_wp2_with fail
  go_ret
  exact ⟨rfl, HB.out⟩
set_option maxRecDepth 100000 in
set_option maxHeartbeats 1000000 in
theorem sff_any (x : Nat) (hp : Prn x) (w : World) (hv : Ps w) : Calls Tryz.prog 111 #[.float .f64 x, .int .u8 102, .int .i64 (-1), .int .i64 64] w fun e w' => e = .returned (.string (S (fm.textN TT x))) ∧ Below w.heap.size w w' := by
  have hf := ff_any x hp w hv
  generalize fm.textN TT x = xs at *
  have HF := Lib.hid hf
  clear hf hv hp
  go_enter Tryz.func111, Tryz.ntmps111
  go_wp2_with fail
  refine HF.out.mono ?_
  rintro e w1 ⟨rfl, hb⟩
  go_wp2_with fail
  go_ret
  exact ⟨rfl, hb⟩
def textW (x : Nat) : List UInt8 := if nanB x then [110, 97, 110] else if x = 9218868437227405312 then [105, 110, 102] else if x = 18442240474082181120 then [45, 105, 110, 102] else fm.textN TT x
set_option maxRecDepth 100000 in
set_option maxHeartbeats 1000000 in
theorem text_any (x : Nat) (hx : x < 18446744073709551616) (hp : x % 9223372036854775808 < 9218868437227405312 → Prn x) (w : World) (hv : Ps w) : Calls Tryz.prog 84 #[.float .f64 x] w fun e w' => e = .returned (.string (S (textW x))) ∧ Below w.heap.size w w' := by
  have h1 := isnan_any x
  have h2 := isinf_up x hx
  have h3 := isinf_dn x hx
  unfold textW
  cases hn : nanB x
  · rw [hn] at h1
    rw [if_neg (by simp)]
    by_cases hi : x = 9218868437227405312
    · rw [if_pos hi]
      rw [decide_eq_true hi] at h2
      clear hi hp hn hv
      go_enter Tryz.func84, Tryz.ntmps84
      go_wp2_with fail
      refine (h1 _).mono ?_
      rintro e w1 ⟨rfl, rfl⟩
      go_wp2_with fail
      refine (h2 _).mono ?_
      rintro e w1 ⟨rfl, rfl⟩
      go_wp2_with fail
      go_ret
      exact ⟨rfl, Below.refl _ _⟩
    · rw [if_neg hi]
      rw [decide_eq_false hi] at h2
      by_cases hj : x = 18442240474082181120
      · rw [if_pos hj]
        rw [decide_eq_true hj] at h3
        clear hi hj hp hn hv
        go_enter Tryz.func84, Tryz.ntmps84
        go_wp2_with fail
        refine (h1 _).mono ?_
        rintro e w1 ⟨rfl, rfl⟩
        go_wp2_with fail
        refine (h2 _).mono ?_
        rintro e w1 ⟨rfl, rfl⟩
        go_wp2_with fail
        refine (h3 _).mono ?_
        rintro e w1 ⟨rfl, rfl⟩
        go_wp2_with fail
        go_ret
        exact ⟨rfl, Below.refl _ _⟩
      · rw [if_neg hj]
        rw [decide_eq_false hj] at h3
        have hfin : x % 9223372036854775808 < 9218868437227405312 := by
          unfold nanB at hn
          rw [decide_eq_false_iff_not] at hn
          omega
        have hf := sff_any x (hp hfin) w hv
        generalize fm.textN TT x = xs at *
        have HF := Lib.hid hf
        clear hi hj hp hn hf hv hfin
        go_enter Tryz.func84, Tryz.ntmps84
        go_wp2_with fail
        refine (h1 _).mono ?_
        rintro e w1 ⟨rfl, rfl⟩
        go_wp2_with fail
        refine (h2 _).mono ?_
        rintro e w1 ⟨rfl, rfl⟩
        go_wp2_with fail
        refine (h3 _).mono ?_
        rintro e w1 ⟨rfl, rfl⟩
        go_wp2_with fail
        refine HF.out.mono ?_
        rintro e w1 ⟨rfl, hb⟩
        go_wp2_with fail
        go_ret
        exact ⟨rfl, hb⟩
  · rw [hn] at h1
    rw [if_pos rfl]
    clear hp hn hv
    go_enter Tryz.func84, Tryz.ntmps84
    go_wp2_with fail
    refine (h1 _).mono ?_
    rintro e w1 ⟨rfl, rfl⟩
    go_wp2_with fail
    go_ret
    exact ⟨rfl, Below.refl _ _⟩
end Go.Proofs.YtldamieigigncaaGreatDoor.lx

namespace Go.Proofs.YtldamieigigncaaGreatDoor.lx
open Ieee Go.Proofs.YtldamieigigncaaGreatDoor.flo Go.Proofs.YtldamieigigncaaGreatDoor.fm Go.Proofs.YtldamieigigncaaGreatDoor.ky
set_option linter.unusedVariables false
theorem dec_prn (l : List UInt8) (h : decB l = true) : Prn (decF l) := by
  obtain ⟨hh, ht, h1, h9, h6, hz⟩ := dec_parts h
  unfold decF
  rw [← valL_val]
  generalize (l.head? == some 45) = neg
  generalize headD (strip l) = H at *
  generalize tailD (strip l) = P at *
  clear h
  have hpos : 0 < 10 ^ P.length := Nat.pow_pos (by decide)
  have hH := valL_lt H hh
  have hP := valL_lt P ht
  have happ := valL_app H P
  have h9p : 10 ^ H.length ≤ 10 ^ 9 := Nat.pow_le_pow_right (by decide) h9
  have e9 : (10 : Nat) ^ 9 = 1000000000 := by decide
  have hv : valL (H ++ P) < 1000000000 * 10 ^ P.length := by
    rw [happ]
    have : (valL H + 1) * 10 ^ P.length ≤ 1000000000 * 10 ^ P.length := Nat.mul_le_mul_right _ (by omega)
    rw [Nat.add_mul] at this
    omega
  have h6p : 10 ^ P.length ≤ 10 ^ 6 := Nat.pow_le_pow_right (by decide) h6
  have e6 : (10 : Nat) ^ 6 = 1000000 := by decide
  have h15 : valL (H ++ P) < 1000000000000000 := by omega
  rcases Nat.eq_zero_or_pos (valL (H ++ P)) with h0 | h0
  · rw [h0, wt_nought neg _ h6]
    obtain ⟨w1, _, _⟩ := word_ff neg 0 (by decide)
    refine ⟨?_, ?_, .inl (by rw [w1]; decide)⟩
    · cases neg
      · rw [word_f]; decide
      · rw [word_t]; decide
    · cases neg
      · rw [word_f]; decide
      · rw [word_t]; decide
  · obtain ⟨M, F, m1, m2, f1, f2, hw, a1, a2, a3, a4, a5⟩ := wt_near (valL (H ++ P)) P.length h0 h15 h6 hv
    obtain ⟨q, q1, q2, hb, hs⟩ := short_dec TT tt_good M F _ _ m1 m2 f1 f2 h6 a1 a2 a3 a4 a5
    rw [hw neg]
    obtain ⟨x, hx, hx2⟩ : ∃ x, double.word neg ((1074 - F) * 4503599627370496 + M) = x ∧ (x = (1074 - F) * 4503599627370496 + M ∨ x = 9223372036854775808 + ((1074 - F) * 4503599627370496 + M)) := by
      cases neg
      · exact ⟨_, word_f _, .inl rfl⟩
      · exact ⟨_, word_t _, .inr rfl⟩
    rw [hx]
    have hE : x / 4503599627370496 % 2048 = 1075 - F := by rcases hx2 with e | e <;> omega
    have hM : 4503599627370496 + x % 4503599627370496 = M := by rcases hx2 with e | e <;> omega
    refine ⟨by rcases hx2 with e | e <;> omega, by rcases hx2 with e | e <;> omega, .inr ⟨by omega, ?_⟩⟩
    rw [hM, hE, show ((1075 - F : Nat) : Int) - 1086 = -(F : Int) - 11 from by omega, hs]
    exact Nat.mul_pos h0 (Nat.pow_pos (by decide))
theorem dec_text (l : List UInt8) (h : decB l = true) : textW (decF l) = shortB (l.head? == some 45) (headD (strip l)) (tailD (strip l)) := by
  obtain ⟨p1, p2, _⟩ := dec_prn l h
  unfold textW
  have hn : nanB (decF l) = false := by unfold nanB; rw [decide_eq_false_iff_not]; omega
  rw [hn, if_neg (by simp), if_neg (by omega), if_neg (by omega), text_short TT tt_good l h]
def shortL (l : List UInt8) : List UInt8 := if decB l = true then shortB (l.head? == some 45) (headD (strip l)) (tailD (strip l)) else l
theorem read_prn (l : List UInt8) : readF l < 18446744073709551616 ∧ (readF l % 9223372036854775808 < 9218868437227405312 → Prn (readF l)) := by
  unfold readF
  split
  · exact ⟨by decide, fun h => absurd h (by decide)⟩
  · split
    · exact ⟨by decide, fun h => absurd h (by decide)⟩
    · split
      · exact ⟨by decide, fun h => absurd h (by decide)⟩
      · split
        · rename_i h
          exact ⟨(dec_prn l h).1, fun _ => dec_prn l h⟩
        · exact ⟨by decide, fun _ => ⟨by decide, by decide, .inl (by decide)⟩⟩
theorem read_text (l : List UInt8) (h : readOk l = true) : textW (readF l) = shortL l := by
  have n1 : decB [110, 97, 110] = false := by decide +kernel
  have n2 : decB [105, 110, 102] = false := by decide +kernel
  have n3 : decB [45, 105, 110, 102] = false := by decide +kernel
  unfold readF shortL
  by_cases h1 : l = [110, 97, 110]
  · rw [if_pos h1, h1, n1, if_neg (by simp)]; decide
  · rw [if_neg h1]
    by_cases h2 : l = [105, 110, 102]
    · rw [if_pos h2, h2, n2, if_neg (by simp)]; decide
    · rw [if_neg h2]
      by_cases h3 : l = [45, 105, 110, 102]
      · rw [if_pos h3, h3, n3, if_neg (by simp)]; decide
      · rw [if_neg h3]
        have hd : decB l = true := by
          unfold readOk at h
          rw [beq_eq_false_iff_ne.2 h1, beq_eq_false_iff_ne.2 h2, beq_eq_false_iff_ne.2 h3] at h
          simpa using h
        rw [if_pos hd, if_pos hd, dec_text l hd]
end Go.Proofs.YtldamieigigncaaGreatDoor.lx


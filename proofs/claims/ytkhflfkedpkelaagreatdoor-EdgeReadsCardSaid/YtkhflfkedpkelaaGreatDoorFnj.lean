import Derived.Test.YtkhflfkedpkelaaGreatDoorFni
import Derived.Test.YtkhflfkedpkelaaGreatDoorFnx
namespace Go.Proofs.YtkhflfkedpkelaaGreatDoor.lx
open Go.ChangeShapes Go.WideShapes Go.ChangeAt Go.RowKit Go.Proofs.YtkhflfkedpkelaaGreatDoor.ky
set_option linter.unusedVariables false
/-! FormatFloat and Text, of a weight that was read -/
/-- a weight whose text is told here: nought, or one whose shortest digits are some -/
def Prn (x : Nat) : Prop := x < 18446744073709551616 ∧ x % 9223372036854775808 < 9218868437227405312 ∧ (fm.mantN x = 0 ∨ (x / 4503599627370496 % 2048 ≠ 0 ∧ 0 < (fm.shortN TT ((4503599627370496 + x % 4503599627370496) * 2048) (((x / 4503599627370496 % 2048 : Nat) : Int) - 1086)).1))
theorem ft_any (x : Nat) (hp : Prn x) (B : Nat) (w0 w : World) (v : Value) (h : OutS false B 0 0 #[] w0 w v []) (hv : Ps w) : Calls Tryz.prog 45 #[v, .float .f64 x, .int .u8 102, .int .i64 (-1)] w fun e w' => ∃ v', e = .returned v' ∧ OutS false B 0 0 #[] w0 w' v' (fm.textN TT x) := by
  obtain ⟨hx, hf, hp⟩ := hp
  obtain ⟨neg, hneg⟩ : ∃ neg, decide (9223372036854775808 ≤ x) = neg := ⟨_, rfl⟩
  have hnn : neg.toNat = x / 9223372036854775808 := by
    rw [← hneg]
    by_cases h : 9223372036854775808 ≤ x
    · rw [decide_eq_true h]; show 1 = _; omega
    · rw [decide_eq_false h]; show 0 = _; omega
  by_cases hm : fm.mantN x = 0
  · have e : x = neg.toNat * 9223372036854775808 := by
      unfold fm.mantN at hm
      rw [hnn]
      split at hm <;> omega
    unfold fm.textN
    rw [if_pos hm, hneg]
    have hz := ft_zero neg B w0 w v h
    rw [← e] at hz
    exact hz
  · obtain ⟨hE, hd⟩ := hp.resolve_left hm
    have e : x = neg.toNat * 9223372036854775808 + x / 4503599627370496 % 2048 * 4503599627370496 + x % 4503599627370496 := by
      rw [hnn]
      omega
    have hz := ft_norm neg (x / 4503599627370496 % 2048) (x % 4503599627370496) ⟨by omega, by omega⟩ (by omega) hd B w0 w v h hv
    rw [← e] at hz
    have h1 : fm.mantN x = 4503599627370496 + x % 4503599627370496 := by unfold fm.mantN; rw [if_neg hE]
    have h2 : fm.expN x = ((x / 4503599627370496 % 2048 : Nat) : Int) - 1023 := by unfold fm.expN; rw [if_neg hE]
    have h3 := fm.bitL_53 (4503599627370496 + x % 4503599627370496) (by omega) (by omega)
    unfold fm.textN fm.textD
    rw [if_neg hm, hneg, h1, h2, h3, show (4503599627370496 + x % 4503599627370496) * 2 ^ (64 - 53) = (4503599627370496 + x % 4503599627370496) * 2048 from rfl, show ((x / 4503599627370496 % 2048 : Nat) : Int) - 1023 - ((64 - 53 : Nat) : Int) - 52 = ((x / 4503599627370496 % 2048 : Nat) : Int) - 1086 from by omega]
    exact hz
theorem own_mk (w : World) : (w.alloc (.cells #[.int .u8 0,.int .u8 0,.int .u8 0,.int .u8 0,.int .u8 0,.int .u8 0,.int .u8 0,.int .u8 0,.int .u8 0,.int .u8 0,.int .u8 0,.int .u8 0,.int .u8 0,.int .u8 0,.int .u8 0,.int .u8 0,.int .u8 0,.int .u8 0,.int .u8 0,.int .u8 0,.int .u8 0,.int .u8 0,.int .u8 0,.int .u8 0] 5)).ownsRow w.heap.size 5 1 (.slice (some ⟨w.heap.size, 0, none⟩) 0 24) 0 (bl []) :=
  World.ownsRow_made w #[.int .u8 0,.int .u8 0,.int .u8 0,.int .u8 0,.int .u8 0,.int .u8 0,.int .u8 0,.int .u8 0,.int .u8 0,.int .u8 0,.int .u8 0,.int .u8 0,.int .u8 0,.int .u8 0,.int .u8 0,.int .u8 0,.int .u8 0,.int .u8 0,.int .u8 0,.int .u8 0,.int .u8 0,.int .u8 0,.int .u8 0,.int .u8 0] 24 (Nat.le_refl _) (by decide) (by decide)
theorem nums_S (xs : List UInt8) : strOfNums (xs.map fun c => (c.toNat : Int)) = S xs := by
  unfold strOfNums S
  congr 1
  congr 1
  rw [List.map_map]
  conv => rhs; rw [← List.map_id xs]
  apply List.map_congr_left
  intro c _
  show UInt8.ofNat ((c.toNat : Int).toNat) = c
  simp
theorem str_of_own {w : World} {base : Nat} {v : Value} {xs : List UInt8} (h : w.ownsRow base 5 1 v xs.length (bl xs)) (h0 : 0 < xs.length) : (convert 61 9 v).run Tryz.prog w = .ok (.string (S xs)) w := by
  obtain ⟨g, cap, e, hB, hg, hc⟩ := own_open h h0
  rw [e, ← nums_S]
  have hlen : (xs.map fun c => (c.toNat : Int)).length = xs.length := by simp
  refine run_convert_bytes_arg w 61 5 Tryz.underlying61 Tryz.underlying5 g 0 xs.length cap (xs.map fun c => (c.toNat : Int)) hlen (fun i hi => ?_) 9 Tryz.underlying9
  have hi2 : i < xs.length := by omega
  rw [Nat.zero_add]
  have := hc i (.int .u8 ((xs[i].toNat : Nat) : Int)) (by simp [bl, List.getElem?_eq_getElem hi2])
  rw [this]
  simp [List.getD, List.getElem?_eq_getElem hi2]
theorem out_len (neg : Bool) (s : List UInt8) (dp : Int) : 0 < (fm.outN neg s dp).length := by
  unfold fm.outN
  by_cases h : 0 < dp
  · rw [if_pos h]
    simp only [List.length_append, List.length_take, List.length_replicate]
    omega
  · rw [if_neg h]
    simp only [List.length_append, List.length_cons]
    omega
theorem text_len (x : Nat) : 0 < (fm.textN TT x).length := by
  unfold fm.textN fm.textD
  split <;> exact out_len _ _ _
set_option maxRecDepth 100000 in
set_option maxHeartbeats 1000000 in
theorem ff_any (x : Nat) (hp : Prn x) (w : World) (hv : Ps w) : Calls Tryz.prog 36 #[.float .f64 x, .int .u8 102, .int .i64 (-1), .int .i64 64] w fun e w' => e = .returned (.string (S (fm.textN TT x))) ∧ Below w.heap.size w w' := by
  have hmk : ∀ w : World, (Instr.makeSlice 61 (.int .i64 0) (.int .i64 24)).run Tryz.prog w = .ok (.slice (some ⟨w.heap.size, 0, none⟩) 0 24) (w.alloc (.cells #[.int .u8 0,.int .u8 0,.int .u8 0,.int .u8 0,.int .u8 0,.int .u8 0,.int .u8 0,.int .u8 0,.int .u8 0,.int .u8 0,.int .u8 0,.int .u8 0,.int .u8 0,.int .u8 0,.int .u8 0,.int .u8 0,.int .u8 0,.int .u8 0,.int .u8 0,.int .u8 0,.int .u8 0,.int .u8 0,.int .u8 0,.int .u8 0] 5)) := fun _ => by kernel_rfl
  have ho : OutS false w.heap.size 0 0 #[] w (w.alloc (.cells #[.int .u8 0,.int .u8 0,.int .u8 0,.int .u8 0,.int .u8 0,.int .u8 0,.int .u8 0,.int .u8 0,.int .u8 0,.int .u8 0,.int .u8 0,.int .u8 0,.int .u8 0,.int .u8 0,.int .u8 0,.int .u8 0,.int .u8 0,.int .u8 0,.int .u8 0,.int .u8 0,.int .u8 0,.int .u8 0,.int .u8 0,.int .u8 0] 5)) (.slice (some ⟨w.heap.size, 0, none⟩) 0 24) [] := ⟨own_mk w, fun e => (by cases e), fun e => (by cases e), (Below.refl _ _).alloc (Nat.le_refl _) _, by rw [World.size_alloc]; omega⟩
  have hf := ft_any x hp w.heap.size w _ _ ho (hv.below ((Below.refl _ _).alloc (Nat.le_refl _) _))
  have HL := Lib.hid (text_len x)
  generalize fm.textN TT x = xs at *
  have HF := Lib.hid hf
  have hmx : max (3 : Int) 24 = 24 := by decide
  clear ho hf hv hp
  go_enter Tryz.func36, Tryz.ntmps36
  go_wp2_with fail
  refine HF.out.mono ?_
  rintro e w1 ⟨v', rfl, ho⟩
  have hs := str_of_own ho.own HL.out
  have HB := Lib.hid ho.bel
  clear ho HF hmk
  go_wp2_with fail
  go_ret
  exact ⟨rfl, HB.out⟩
set_option maxRecDepth 100000 in
set_option maxHeartbeats 1000000 in
theorem sff_any (x : Nat) (hp : Prn x) (w : World) (hv : Ps w) : Calls Tryz.prog 27 #[.float .f64 x, .int .u8 102, .int .i64 (-1), .int .i64 64] w fun e w' => e = .returned (.string (S (fm.textN TT x))) ∧ Below w.heap.size w w' := by
  have hf := ff_any x hp w hv
  generalize fm.textN TT x = xs at *
  have HF := Lib.hid hf
  clear hf hv hp
  go_enter Tryz.func27, Tryz.ntmps27
  go_wp2_with fail
  refine HF.out.mono ?_
  rintro e w1 ⟨rfl, hb⟩
  go_wp2_with fail
  go_ret
  exact ⟨rfl, hb⟩
def textW (x : Nat) : List UInt8 := if nanB x then [110, 97, 110] else if x = 9218868437227405312 then [105, 110, 102] else if x = 18442240474082181120 then [45, 105, 110, 102] else fm.textN TT x
set_option maxRecDepth 100000 in
set_option maxHeartbeats 1000000 in
theorem text_any (x : Nat) (hx : x < 18446744073709551616) (hp : x % 9223372036854775808 < 9218868437227405312 → Prn x) (w : World) (hv : Ps w) : Calls Tryz.prog 9 #[.float .f64 x] w fun e w' => e = .returned (.string (S (textW x))) ∧ Below w.heap.size w w' := by
  have h1 := isnan_any x
  have h2 := isinf_up x hx
  have h3 := isinf_dn x hx
  unfold textW
  cases hn : nanB x
  · rw [hn] at h1
    rw [if_neg (by simp)]
    by_cases hi : x = 9218868437227405312
    · rw [if_pos hi]
      rw [decide_eq_true hi] at h2
      clear hi hp hn hv
      go_enter Tryz.func9, Tryz.ntmps9
      go_wp2_with fail
      refine (h1 _).mono ?_
      rintro e w1 ⟨rfl, rfl⟩
      go_wp2_with fail
      refine (h2 _).mono ?_
      rintro e w1 ⟨rfl, rfl⟩
      go_wp2_with fail
      go_ret
      exact ⟨rfl, Below.refl _ _⟩
    · rw [if_neg hi]
      rw [decide_eq_false hi] at h2
      by_cases hj : x = 18442240474082181120
      · rw [if_pos hj]
        rw [decide_eq_true hj] at h3
        clear hi hj hp hn hv
        go_enter Tryz.func9, Tryz.ntmps9
        go_wp2_with fail
        refine (h1 _).mono ?_
        rintro e w1 ⟨rfl, rfl⟩
        go_wp2_with fail
        refine (h2 _).mono ?_
        rintro e w1 ⟨rfl, rfl⟩
        go_wp2_with fail
        refine (h3 _).mono ?_
        rintro e w1 ⟨rfl, rfl⟩
        go_wp2_with fail
        go_ret
        exact ⟨rfl, Below.refl _ _⟩
      · rw [if_neg hj]
        rw [decide_eq_false hj] at h3
        have hfin : x % 9223372036854775808 < 9218868437227405312 := by
          unfold nanB at hn
          rw [decide_eq_false_iff_not] at hn
          omega
        have hf := sff_any x (hp hfin) w hv
        generalize fm.textN TT x = xs at *
        have HF := Lib.hid hf
        clear hi hj hp hn hf hv hfin
        go_enter Tryz.func9, Tryz.ntmps9
        go_wp2_with fail
        refine (h1 _).mono ?_
        rintro e w1 ⟨rfl, rfl⟩
        go_wp2_with fail
        refine (h2 _).mono ?_
        rintro e w1 ⟨rfl, rfl⟩
        go_wp2_with fail
        refine (h3 _).mono ?_
        rintro e w1 ⟨rfl, rfl⟩
        go_wp2_with fail
        refine HF.out.mono ?_
        rintro e w1 ⟨rfl, hb⟩
        go_wp2_with fail
        go_ret
        exact ⟨rfl, hb⟩
  · rw [hn] at h1
    rw [if_pos rfl]
    clear hp hn hv
    go_enter Tryz.func9, Tryz.ntmps9
    go_wp2_with fail
    refine (h1 _).mono ?_
    rintro e w1 ⟨rfl, rfl⟩
    go_wp2_with fail
    go_ret
    exact ⟨rfl, Below.refl _ _⟩
end Go.Proofs.YtkhflfkedpkelaaGreatDoor.lx

import Derived.Test.YtoogdidgcclmnaaGreatDoorSuma
import Derived.Maps.AppendAt
import Derived.Deep.AppendLies
import Derived.WalkSmall
namespace Go.Proofs.YtoogdidgcclmnaaGreatDoor.alv
open Go.ChangeShapes Go.WideShapes Go.ChangeAt Go.RowKit
set_option linter.unusedVariables false
attribute [local go_sem] x_frombits x_bits x_nan
theorem info24 : (Tryz.prog.info? 24).map (fun i => (i.zero, i.size, i.bytes)) = some (some (.float .f64 0), 1, 8) := by kernel_rfl
def fl (l : List Nat) : List Value := l.map (Value.float .f64)
theorem one_fl (l : List Nat) : ∀ u ∈ fl l, u.oneCell' = true := by
  intro u hu
  obtain ⟨x, _, rfl⟩ := List.mem_map.1 hu
  rfl
theorem own_form {w : World} {B : Nat} {v : Value} {n : Nat} {l : List Nat} (h : w.ownsRow B 24 1 v n (fl l)) (hn : l.length = n) : ∃ A c, v = .slice A n c ∧ RdF w A l ∧ (0 < n → ∃ g, A = some ⟨g, 0, none⟩) ∧ n ≤ c ∧ c ≤ 9223372036854775807 := by
  have h' := h
  rcases h.2 with ⟨rfl, rfl⟩ | ⟨g, cap, cur, rfl, _, _, hc, hm, _⟩
  · exact ⟨none, 0, rfl, fun hp => by omega, fun hp => by omega, Nat.le_refl _, by omega⟩
  · unfold maxLen at hm
    refine ⟨_, cap, rfl, fun hp => ⟨g, rfl, fun j hj => ?_⟩, fun _ => ⟨g, rfl⟩, hc, by omega⟩
    rw [h'.cellAt j (by omega)]
    simp [fl, List.getD, List.getElem?_eq_getElem hj]
theorem fl_snoc (l : List Nat) (k : Nat) (h : k < l.length) : fl (l.take k) ++ fl [l.getD k 0] = fl (l.take (k + 1)) := by
  rw [take_succ_getD l k h]; simp [fl]
set_option maxRecDepth 100000 in
set_option maxHeartbeats 2000000 in
theorem sums_any (w : World) (A : Option Addr) (cap : Nat) (xs : List Nat) (g off : Nat) (hv : Vars w g off) (hlen : xs.length ≤ 9223372036854775807) (hb : ∀ x ∈ xs, x < 18446744073709551616)
    (hr : 0 < xs.length → ∃ b o, A = some ⟨b, o, none⟩ ∧ b < w.heap.size ∧ ∀ j, j < xs.length → w.cell? ⟨b, o + j, none⟩ = some (.int .u64 ((xs.getD j 0 : Nat) : Int))) :
    Calls Tryz.prog 4 #[.slice A xs.length cap] w fun e w' => e = .returned (.bool true) ∧ Below w.heap.size w w' := by
  obtain ⟨i0, hi, hz0, hz1, hz2⟩ := info_parts info24
  have HR := Lib.hid hr
  have HB := Lib.hid hb
  clear hr hb
  by_cases h60 : 60 < xs.length
  · go_enter Tryz.func4, Tryz.ntmps4
    go_wp2_with fail
    refine (alive_any w g off hv).mono ?_
    rintro e w1 ⟨rfl, hb1⟩
    go_wp2_with fail
    go_ret
    exact ⟨rfl, hb1⟩
  · go_enter Tryz.func4, Tryz.ntmps4
    go_wp2_with fail
    refine (alive_any w g off hv).mono ?_
    rintro e w1 ⟨rfl, hb1⟩
    go_wp2_with fail
    have h60' : xs.length ≤ 60 := by omega
    have hz1w : w.heap.size ≤ w1.heap.size := hb1.size
    go_loopw [3, 14] (fun v i wr => ∃ k : Nat, k ≤ xs.length ∧ i = .int .i64 k ∧ wr.ownsRow w.heap.size 24 1 v k (fl (xs.take k)) ∧ Below w.heap.size w wr) (fun _ i _ => xs.length - (intOf i).toNat)
    case atStart =>
      refine ⟨0, Nat.zero_le _, rfl, ?_, hb1.alloc hz1w _⟩
      have := World.ownsRow_made (e := 24) (size := 1) (base := w.heap.size) w1 #[] 0 hz1w (by unfold maxLen; omega) rfl
      simpa [fl] using this
    case round =>
      obtain ⟨k, hk, rfl, hown, hbw⟩ := hrel
      have hzw := hbw.size
      by_cases hlt : k < xs.length
      · obtain ⟨b, o, rfl, hbl, hcell⟩ := HR.out (by omega)
        have hck : wr.cell? ⟨b, o + k, none⟩ = some (.int .u64 ((xs.getD k 0 : Nat) : Int)) := (hbw.cell (p := ⟨b, o + k, none⟩) hbl).trans (hcell k hlt)
        have hfl := fl_snoc xs k hlt
        have HC := Lib.hid hcell
        clear hcell
        generalize xs.getD k 0 = y at *
        have HF := Lib.hid hfl
        clear hfl
        go_wp2_with (at_builtin; go_must (refine wpList_append_own _ rfl _ _ 32 rfl w.heap.size 24 i0 (.float .f64 0) 1 8 Tryz.underlying32 hi hz0 hz1 hz2 rfl (by decide) _ _ _ rfl (hown.alloc _) ⟨wr.heap.size, 0, none⟩ 1 1 (fl [y]) rfl rfl (cell_one_new _ _ _) (one_fl _) (by unfold maxLen; omega) (by omega) (by simp; omega) ?_); intro v' w2 hown' hgrow _)
        have hb2 : Below w.heap.size w w2 := (hbw.alloc hzw _).grown hgrow (by simp; omega) (fun j hj => (hown.lt j hj).1)
        refine ⟨⟨k + 1, hlt, by go_num, ?_, hb2⟩, by simp [intOf]; omega⟩
        rw [← HF.out]
        exact hown'
      · have e : k = xs.length := by omega
        rw [e, List.take_length] at hown
        obtain ⟨A', c', rfl, hrd, hA, hc', hm'⟩ := own_form hown rfl
        have HRD := Lib.hid hrd
        have HA := Lib.hid hA
        clear hrd hA hown e
        go_wp2_with fail
        by_cases h0 : 0 < xs.length
        · obtain ⟨g', rfl⟩ := HA.out h0
          have hcell : ∀ j, j < xs.length → wr.cell? ⟨g', j, none⟩ = some (.float .f64 (xs.getD j 0)) := fun j hj => by
            obtain ⟨g2, e2, hc2⟩ := HRD.out h0
            cases e2
            exact hc2 j hj
          refine (sum_cons wr g' c' xs h0 h60' hc' hm' HB.out hcell).mono ?_
          rintro e w3 ⟨r1, n1, rfl, f1, rfl⟩
          clear hcell
          go_wp2_with fail
          refine (rsum_any (wr.drewN n1) _ c' xs h60' HB.out (HRD.out.drewN n1)).mono ?_
          rintro e w4 ⟨r2, n2, rfl, f2, rfl⟩
          go_wp2_with fail
          refine (rsame_any r1 r2 _ f1.1 f2.1).mono ?_
          rintro e w5 ⟨rfl, rfl⟩
          have hkey : decide (keyN r1 = keyN r2) = true := decide_eq_true (f1.key f2)
          rw [hkey]
          clear hkey
          go_wp2_with fail
          go_ret
          exact ⟨rfl, below_drewN hbw _⟩
        · have hx : xs = [] := List.eq_nil_of_length_eq_zero (by omega)
          clear HRD HA hk hc' h0 HR HB h60 h60' hlt
          subst hx
          refine (sum_nil wr A' c').mono ?_
          rintro e w3 ⟨rfl, rfl⟩
          go_wp2_with fail
          refine (rsum_any wr A' c' [] (by simp) (by simp) (fun h => absurd h (by simp))).mono ?_
          rintro e w4 ⟨r2, n2, rfl, f2, rfl⟩
          have e2 : r2 = 0 := f2.2.1
          subst e2
          go_wp2_with fail
          refine (rsame_any 0 0 _ (by decide) (by decide)).mono ?_
          rintro e w5 ⟨rfl, rfl⟩
          have hkey : decide (keyN 0 = keyN 0) = true := by simp
          rw [hkey]
          clear hkey
          go_wp2_with fail
          go_ret
          exact ⟨rfl, below_drewN hbw _⟩
end Go.Proofs.YtoogdidgcclmnaaGreatDoor.alv

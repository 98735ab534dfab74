import Derived.Test.YtomikgkoegkofaaDvm
namespace Go.Proofs.Ytomikgkoegkofaa.dv
open Go.ChangeShapes Go.WideShapes Go.ChangeAt Go.RowKit Go.Maps Go.WideMaps Go.WideElems
set_option linter.unusedVariables false
set_option linter.unusedSimpArgs false

/-- a slice of floats, by its bits -/
def RdF (w : World) (A : Option Addr) (xs : List Nat) : Prop := 0 < xs.length → ∃ g, A = some ⟨g, 0, none⟩ ∧ ∀ j, j < xs.length → w.cell? ⟨g, j, none⟩ = some (.float .f64 (xs.getD j 0))
theorem RdF.drewN {w : World} {A : Option Addr} {xs : List Nat} (h : RdF w A xs) (n : Nat) : RdF (w.drewN n) A xs := h
theorem take_succ_getD (l : List Nat) (k : Nat) (h : k < l.length) : l.take (k + 1) = l.take k ++ [l.getD k 0] := by
  rw [List.take_succ_eq_append_getElem h]
  simp [List.getD, List.getElem?_eq_getElem h]
theorem sumF_take (l : List Nat) (k : Nat) (h : k < l.length) (hk : 0 < k) : sumF (l.take (k + 1)) = stepF (sumF (l.take k)) (l.getD k 0) := by
  rw [take_succ_getD l k h, sumF_snoc]
  intro e
  have h1 := congrArg List.length e
  rw [List.length_take] at h1
  simp only [List.length_nil] at h1
  omega
theorem sumF_one (l : List Nat) (h : 0 < l.length) : sumF (l.take 1) = headF (l.getD 0 0) := by
  cases l with
  | nil => simp at h
  | cons x r => simp [sumF]
theorem getD_mem (l : List Nat) (k : Nat) (h : k < l.length) : l.getD k 0 ∈ l := by
  simp [List.getD, List.getElem?_eq_getElem h]
set_option maxRecDepth 100000 in
set_option maxHeartbeats 1000000 in
theorem rsum_any (w : World) (A : Option Addr) (c : Nat) (xs : List Nat) (hlen : xs.length ≤ 60) (hb : ∀ x ∈ xs, x < 18446744073709551616) (hr : RdF w A xs) : Calls Try.prog 59 #[.slice A xs.length c] w fun e w' => ∃ r n, e = .returned (.float .f64 r) ∧ IsF (sumF xs) r ∧ w' = w.drewN n := by
  go_enter Try.func59, Try.ntmps59
  go_wp2
  go_loopw [3, 4] (fun s i wr => ∃ k r n : Nat, k ≤ xs.length ∧ i = .int .i64 k ∧ s = .float .f64 r ∧ (0 < k → IsF (sumF (xs.take k)) r) ∧ (k = 0 → r = 0) ∧ wr = w.drewN n) (fun _ i _ => xs.length - (intOf i).toNat)
  case atStart => exact ⟨0, 0, 0, Nat.zero_le _, rfl, rfl, fun h => absurd h (by omega), fun _ => rfl, rfl⟩
  case round =>
    obtain ⟨k, r, n, hk, rfl, rfl, hS, hZ, rfl⟩ := hrel
    by_cases hlt : k < xs.length
    · obtain ⟨g, rfl, hc⟩ := hr (by omega)
      have h0 : (w.drewN n).cell? ⟨g, 0, none⟩ = some (.float .f64 (xs.getD 0 0)) := hc 0 (by omega)
      have hck : (w.drewN n).cell? ⟨g, k, none⟩ = some (.float .f64 (xs.getD k 0)) := hc k hlt
      by_cases hk0 : k = 0
      · subst hk0
        have hx : xs.getD 0 0 < 18446744073709551616 := hb _ (getD_mem xs 0 hlt)
        generalize hy : xs.getD 0 0 = y at *
        have HY := Lib.hid hy
        clear hy hc hck hS hZ hr hb
        have hS1 : IsF (sumF (xs.take 1)) y := by
          rw [sumF_one xs hlt, HY.out]
          exact IsF.head hx
        have HS := Lib.hid hS1
        clear hS1
        go_wp2
        exact ⟨⟨1, y, n, hlt, rfl, rfl, fun _ => HS.out, fun h => absurd h (by omega), rfl⟩, by simp [intOf]; omega⟩
      · have hS' := hS (by omega)
        have ht := sumF_take xs k hlt (by omega)
        have hne : ((k : Int) == 0) = false := by rw [beq_eq_false_iff_ne]; omega
        generalize hy : xs.getD k 0 = y at *
        cases ha : addF r y with
        | some z =>
          have HS := Lib.hid (ht ▸ hS'.some_ ha)
          have hq := fun w => run_add_some (P := Try.prog) ha w
          clear hy hc h0 hS hS' hZ hr hb ht ha
          go_wp2
          exact ⟨⟨k + 1, z, n, hlt, by go_num, rfl, fun _ => HS.out, fun h => absurd h (by omega), rfl⟩, by simp [intOf]; omega⟩
        | none =>
          have HS := Lib.hid (fun w => ht ▸ hS'.none_ ha (nz_ok w r y).1 (nz_ok w r y).2)
          have hq := fun w => run_add_none (P := Try.prog) ha w
          clear hy hc h0 hS hS' hZ hr hb ht ha
          go_wp2
          exact ⟨⟨k + 1, _, n + 1, hlt, by go_num, rfl, fun _ => HS.out _, fun h => absurd h (by omega), rfl⟩, by simp [intOf]; omega⟩
    · have e : k = xs.length := by omega
      have hF : IsF (sumF xs) r := by
        by_cases h0 : xs.length = 0
        · have hx : xs = [] := List.eq_nil_of_length_eq_zero h0
          rw [hx, hZ (by omega)]
          exact ⟨by omega, rfl, rfl⟩
        · have := hS (by omega)
          rwa [e, List.take_length] at this
      have HF := Lib.hid hF
      clear hF hS hZ hr hb e
      go_wp2
      go_ret
      exact ⟨r, n, rfl, HF.out, rfl⟩
set_option maxRecDepth 100000 in
theorem sum_nil (w : World) (A : Option Addr) (c : Nat) : Calls Try.prog 58 #[.slice A 0 c] w fun e w' => e = .returned (.float .f64 0) ∧ w = w' := by
  go_enter Try.func58, Try.ntmps58
  go_wp2
  go_ret
  exact ⟨rfl, rfl⟩
set_option maxRecDepth 100000 in
set_option maxHeartbeats 1000000 in
theorem sum_cons (w : World) (g : Nat) (c : Nat) (xs : List Nat) (hp : 0 < xs.length) (hlen : xs.length ≤ 60) (hcap : xs.length ≤ c) (hm : c ≤ 9223372036854775807) (hb : ∀ x ∈ xs, x < 18446744073709551616) (hc : ∀ j, j < xs.length → w.cell? ⟨g, j, none⟩ = some (.float .f64 (xs.getD j 0))) : Calls Try.prog 58 #[.slice (some ⟨g, 0, none⟩) xs.length c] w fun e w' => ∃ r n, e = .returned (.float .f64 r) ∧ IsF (sumF xs) r ∧ w' = w.drewN n := by
  have hne : ((xs.length : Int) == 0) = false := by rw [beq_eq_false_iff_ne]; omega
  have h0 : w.cell? ⟨g, 0, none⟩ = some (.float .f64 (xs.getD 0 0)) := hc 0 hp
  have HC := Lib.hid hc
  have HB := Lib.hid hb
  have hx : xs.getD 0 0 < 18446744073709551616 := hb _ (getD_mem xs 0 hp)
  have h1 : IsF (sumF (xs.take 1)) (xs.getD 0 0) := by rw [sumF_one xs hp]; exact IsF.head hx
  have H1 := Lib.hid h1
  clear hc hb hx h1
  generalize xs.getD 0 0 = y0 at *
  have hcc : c = 1 ∨ 1 < c := by omega
  go_enter Try.func58, Try.ntmps58
  rcases hcc with rfl | hcc
  all_goals
    go_wp2
    go_loopw [3, 15] (fun s i wr => ∃ k r n : Nat, k + 1 ≤ xs.length ∧ i = .int .i64 k ∧ s = .float .f64 r ∧ IsF (sumF (xs.take (k + 1))) r ∧ wr = w.drewN n) (fun _ i _ => xs.length - (intOf i).toNat)
    case atStart => exact ⟨0, y0, 0, hp, rfl, rfl, H1.out, rfl⟩
    case round =>
      obtain ⟨k, r, n, hk, rfl, rfl, hS, rfl⟩ := hrel
      clear h0
      by_cases hlt : k + 1 < xs.length
      · first
        | (exfalso; omega)
        | have hck : (w.drewN n).cell? ⟨g, 1 + k, none⟩ = some (.float .f64 (xs.getD (k + 1) 0)) := by
            have := HC.out (k + 1) hlt
            rw [Nat.add_comm 1 k]; exact this
          have ht := sumF_take xs (k + 1) hlt (by omega)
          generalize xs.getD (k + 1) 0 = y at *
          cases ha : addF r y with
          | some z =>
            have HS := Lib.hid (ht ▸ hS.some_ ha)
            have hq := fun w => run_add_some (P := Try.prog) ha w
            clear hS ht ha
            go_wp2
            exact ⟨⟨k + 1, z, n, by omega, by go_num, rfl, HS.out, rfl⟩, by simp [intOf]; omega⟩
          | none =>
            have HS := Lib.hid (fun w => ht ▸ hS.none_ ha (nz_ok w r y).1 (nz_ok w r y).2)
            have hq := fun w => run_add_none (P := Try.prog) ha w
            clear hS ht ha
            go_wp2
            exact ⟨⟨k + 1, _, n + 1, by omega, by go_num, rfl, HS.out _, rfl⟩, by simp [intOf]; omega⟩
      · have e : k + 1 = xs.length := by omega
        rw [e, List.take_length] at hS
        have HS := Lib.hid hS
        clear hS e
        go_wp2
        go_ret
        exact ⟨r, n, rfl, HS.out, rfl⟩
theorem info24 : (Try.prog.info? 46).map (fun i => (i.zero, i.size, i.bytes)) = some (some (.float .f64 0), 1, 8) := by kernel_rfl
def fl (l : List Nat) : List Value := l.map (Value.float .f64)
theorem one_fl (l : List Nat) : ∀ u ∈ fl l, u.oneCell' = true := by
  intro u hu
  obtain ⟨x, _, rfl⟩ := List.mem_map.1 hu
  rfl
theorem own_form {w : World} {B : Nat} {v : Value} {n : Nat} {l : List Nat} (h : w.ownsRow B 46 1 v n (fl l)) (hn : l.length = n) : ∃ A c, v = .slice A n c ∧ RdF w A l ∧ (0 < n → ∃ g, A = some ⟨g, 0, none⟩) ∧ n ≤ c ∧ c ≤ 9223372036854775807 := by
  have h' := h
  rcases h.2 with ⟨rfl, rfl⟩ | ⟨g, cap, cur, rfl, _, _, hc, hm, _⟩
  · exact ⟨none, 0, rfl, fun hp => by omega, fun hp => by omega, Nat.le_refl _, by omega⟩
  · unfold maxLen at hm
    refine ⟨_, cap, rfl, fun hp => ⟨g, rfl, fun j hj => ?_⟩, fun _ => ⟨g, rfl⟩, hc, by omega⟩
    rw [h'.cellAt j (by omega)]
    simp [fl, List.getD, List.getElem?_eq_getElem hj]
theorem fl_snoc (l : List Nat) (k : Nat) (h : k < l.length) : fl (l.take k) ++ fl [l.getD k 0] = fl (l.take (k + 1)) := by
  rw [take_succ_getD l k h]; simp [fl]
/-! the weights of a derivation -/
def wtsW (R : List Rl) (ks : List Int) : List Nat := (ks.filter fun k => isRl R k).map fun k => (R.getD k.toNat ⟨0, [], 0⟩).wt
theorem wts_snoc (R : List Rl) (ks : List Int) (j : Nat) (h : j < ks.length) : wtsW R (ks.take (j + 1)) = wtsW R (ks.take j) ++ (if isRl R (ks.getD j 0) then [(R.getD (ks.getD j 0).toNat ⟨0, [], 0⟩).wt] else []) := by
  rw [List.take_succ_eq_append_getElem h, List.getD_eq_getElem?_getD, List.getElem?_eq_getElem h]
  unfold wtsW
  rw [List.filter_append, List.map_append]
  cases hr : isRl R ks[j] <;> simp [hr]
theorem wts_len (R : List Rl) (ks : List Int) : (wtsW R ks).length ≤ ks.length := by
  unfold wtsW
  rw [List.length_map]
  exact List.length_filter_le _ _
theorem sum_own (w : World) (B n : Nat) (v : Value) (l : List Nat) (h : w.ownsRow B 46 1 v n (fl l)) (hn : l.length = n) (hl : n ≤ 60) (hb : ∀ x ∈ l, x < 18446744073709551616) : Calls Try.prog 58 #[v] w fun e w' => ∃ r m, e = .returned (.float .f64 r) ∧ IsF (sumF l) r ∧ w' = w.drewN m := by
  subst hn
  obtain ⟨A, c, rfl, hrd, hA, hc, hm⟩ := own_form h rfl
  by_cases h0 : 0 < l.length
  · obtain ⟨g, rfl⟩ := hA h0
    exact sum_cons w g c l h0 hl hc hm hb (fun j hj => by
      obtain ⟨g2, e2, hc2⟩ := hrd h0
      cases e2
      exact hc2 j hj)
  · have hx : l = [] := List.eq_nil_of_length_eq_zero (by omega)
    subst hx
    refine (sum_nil w A c).mono ?_
    rintro e w' ⟨rfl, rfl⟩
    exact ⟨0, 0, rfl, ⟨by omega, rfl, rfl⟩, rfl⟩
theorem rsum_own (w : World) (B n : Nat) (v : Value) (l : List Nat) (h : w.ownsRow B 46 1 v n (fl l)) (hn : l.length = n) (hl : n ≤ 60) (hb : ∀ x ∈ l, x < 18446744073709551616) : Calls Try.prog 59 #[v] w fun e w' => ∃ r m, e = .returned (.float .f64 r) ∧ IsF (sumF l) r ∧ w' = w.drewN m := by
  subst hn
  obtain ⟨A, c, rfl, hrd, hA, hc, hm⟩ := own_form h rfl
  exact rsum_any w A c l hl hb hrd
end Go.Proofs.Ytomikgkoegkofaa.dv

import Derived.Test.YthcnffieoocnkaaAllw
namespace Go.Proofs.Ythcnffieoocnkaa.st
open Go.ChangeShapes Go.WideShapes Go.ChangeAt Go.RowKit Go.Maps Go.WideMaps Go.WideElems
set_option linter.unusedVariables false
theorem ret_slice {ao : Option Addr} {a b cap : Nat} (h : a = b) : Ending.returned (.slice ao a cap) = .returned (.slice ao b cap) := by rw [h]
set_option maxRecDepth 100000 in
set_option maxHeartbeats 1000000 in
theorem head_any (w : World) (ao : Option Addr) (len cap : Nat) (k : Int) (hl : len ≤ 1000) (hc : len ≤ cap) (hn : ao = none → cap = 0) : Calls Try.prog 33 #[.slice ao len cap, .int .i64 k] w fun e w' => e = .returned (.slice ao (min len k.toNat) cap) ∧ w = w' := by
  cases ao with
  | none =>
    obtain rfl := hn rfl
    obtain rfl : len = 0 := by omega
    have hm0 : min (0 : Int) (max k 0) = 0 := by omega
    have hm1 : min 0 k.toNat = 0 := by omega
    rw [hm1]
    clear hm1
    go_enter Try.func33, Try.ntmps33
    go_wp2
    all_goals go_ret
    all_goals exact ⟨rfl, rfl⟩
  | some a =>
    clear hn
    obtain ⟨m, hm⟩ : ∃ m : Nat, m = min len k.toNat := ⟨_, rfl⟩
    rw [← hm]
    have hmi : min (len : Int) (max k 0) = (m : Int) := by omega
    have hml : m ≤ len := by omega
    clear hm
    go_enter Try.func33, Try.ntmps33
    go_wp2
    go_ret
    exact ⟨rfl, rfl⟩
theorem take_join (xs ys : List Int) (k : Int) (m : Nat) (hm : m = min xs.length k.toNat) : (xs ++ ys).take k.toNat = xs.take m ++ ys.take (min ys.length (k - m).toNat) := by
  rw [List.take_append]
  congr 1
  · rw [hm]
    rcases Nat.le_total xs.length k.toNat with h | h
    · rw [Nat.min_eq_left h, List.take_of_length_le h, List.take_of_length_le (Nat.le_refl _)]
    · rw [Nat.min_eq_right h]
  · have e : (k - (m : Int)).toNat = k.toNat - xs.length ∨ (k.toNat - xs.length = 0 ∧ (k - (m : Int)).toNat = 0) := by omega
    have e2 : (k - (m : Int)).toNat = k.toNat - xs.length := by omega
    rw [e2]
    rcases Nat.le_total ys.length (k.toNat - xs.length) with h | h
    · rw [Nat.min_eq_left h, List.take_of_length_le h, List.take_of_length_le (Nat.le_refl _)]
    · rw [Nat.min_eq_right h]
theorem src_cells {w w' : World} {ao : Option Addr} {xs : List Int} {m : Nat} (h : ∀ i, i < xs.length → ∃ a : Addr, ao = some a ∧ a.block < w.heap.size ∧ w.cell? (a.add i) = some (.int .i64 (xs.getD i 0))) (hb : Below w.heap.size w w') (hm : m ≤ xs.length) : ∀ ad, ao = some ad → ∀ j u, (IV (xs.take m))[j]? = some u → w'.cell? (ad.add j) = some u := by
  intro ad had j u hu
  have hj : j < m := by
    have := (List.getElem?_eq_some_iff.1 hu).1
    simp [IV] at this
    omega
  obtain ⟨a, e, hab, hc⟩ := h j (by omega)
  rw [had] at e
  obtain rfl := Option.some.inj e
  rw [hb.cell (p := ad.add j) (by rw [add_block]; exact hab), hc]
  rw [← hu]
  simp [IV, List.getElem?_take_of_lt hj, List.getD_eq_getElem?_getD, List.getElem?_eq_getElem (show j < xs.length by omega)]
set_option maxRecDepth 100000 in
set_option maxHeartbeats 1000000 in
theorem join_any (w : World) (ao bo : Option Addr) (ca cb : Nat) (xs ys : List Int) (k : Int) (hv : WordAt w (.slice ao xs.length ca) xs) (hu : WordAt w (.slice bo ys.length cb) ys) (hx : xs.length ≤ 1000) (hy : ys.length ≤ 1000) (h1 : xs.length ≤ ca) (h2 : ys.length ≤ cb) (h3 : ao = none → ca = 0) (h4 : bo = none → cb = 0) (hk : In64 k) : Calls Try.prog 14 #[.slice ao xs.length ca, .slice bo ys.length cb, .int .i64 k] w fun e w' => ∃ v, e = .returned v ∧ WordAt w' v ((xs ++ ys).take k.toNat) ∧ Below w.heap.size w w' := by
  obtain ⟨ao', ca', e1, hin, hc⟩ := hv
  cases e1
  obtain ⟨bo', cb', e2, hin2, hc2⟩ := hu
  cases e2
  obtain ⟨m, hm⟩ : ∃ m : Nat, m = min xs.length k.toNat := ⟨_, rfl⟩
  obtain ⟨r, hr⟩ : ∃ r : Int, k - (m : Int) = r := ⟨_, rfl⟩
  obtain ⟨m2, hm2⟩ : ∃ m2 : Nat, m2 = min ys.length r.toNat := ⟨_, rfl⟩
  have hj := take_join xs ys k m hm
  rw [hr, ← hm2] at hj
  have hwr : wrap64 (k - (m : Int)) = r := by rw [hr]; exact IntWalk.wrap64_in _ (by have := hk.1; have := hk.2; omega)
  have hh1 := fun wx => head_any wx ao xs.length ca k hx h1 h3
  have hh2 := fun wx => head_any wx bo ys.length cb r hy h2 h4
  rw [← hm] at hh1
  rw [← hm2] at hh2
  have hml : m ≤ xs.length := by omega
  have hml2 : m2 ≤ ys.length := by omega
  obtain ⟨i0, hi, hz0, hz1, hz2⟩ := info_parts info_int
  have hsrc := fun w' hb => src_cells (w' := w') (m := m) hc hb hml
  have hsrc2 := fun w' hb => src_cells (w' := w') (m := m2) hc2 hb hml2
  have hfin : ∀ n ∈ (xs ++ ys).take k.toNat, In64 n := fun n hn => by
    rcases List.mem_append.1 (List.mem_of_mem_take hn) with h | h
    · exact hin n h
    · exact hin2 n h
  rw [hj] at hfin ⊢
  have hn1 : ao = none → m = 0 ∧ ca = 0 := fun e => by have := h3 e; omega
  have hn2 : bo = none → m2 = 0 ∧ cb = 0 := fun e => by have := h4 e; omega
  have hl1 : (IV (xs.take m)).length = m * 1 := by simp [IV]; omega
  have hl2 : (IV (ys.take m2)).length = m2 * 1 := by simp [IV]; omega
  have hlt : (xs.take m ++ ys.take m2).length = m + m2 := by simp; omega
  have hiv : IV (xs.take m) ++ IV (ys.take m2) = IV (xs.take m ++ ys.take m2) := by simp [IV]
  have HJ := Lib.hid hj
  have HR := Lib.hid hr
  have HF := Lib.hid hfin
  have HL := Lib.hid hlt
  have HI := Lib.hid hiv
  clear hj hr hm hm2 hc hc2 hin hin2 hfin hlt hiv h3 h4
  generalize xs.take m = xm at *
  generalize ys.take m2 = ym at *
  go_enter Try.func14, Try.ntmps14
  go_wp2_with fail
  with_reducible refine (hh1 _).mono ?_
  rintro e w1 ⟨rfl, rfl⟩
  go_wp2_with fail
  with_reducible refine (hh2 _).mono ?_
  rintro e w1 ⟨rfl, rfl⟩
  clear hh1 hh2 hwr
  go_wp2_with (first | (at_make; go_must (refine wpList_make_own _ rfl _ _ 22 rfl w.heap.size 3 i0 (.int .i64 0) 1 Try.underlying22 hi hz0 hz1 .i64 .i64 _ (m + m2) rfl rfl (by omega) (by rw [hz2]; omega) (by unfold maxLen; omega) (Nat.le_refl _) ?_); intro w0 hown0 hgrow0; have hB0 : Below w.heap.size w w0 := (Below.refl _ _).grown hgrow0 (Nat.le_refl _) (fun k h => by cases h); have hs0 := hsrc w0 hB0; clear hgrow0 hsrc) | (at_builtin; refine wpList_append_fits_any _ rfl (.tmp 23) (.tmp 24) 22 rfl w.heap.size 3 i0 1 Try.underlying22 hi hz1 w.heap.size 0 (m + m2) [] rfl hown0 ao m ca (IV xm) rfl hl1 hn1 hs0 (ints_oneCell .i64 _) (by omega) ?_; intro w3 hown3 hg3; simp only [Nat.zero_add, List.nil_append] at hown3; have hB3 : Below w.heap.size w w3 := hB0.grown hg3 hB0.size (fun k h => by cases h; exact Nat.le_refl _); have hs3 := hsrc2 w3 hB3; clear hg3 hsrc2 hown0 hs0 hB0) | (at_builtin; refine wpList_append_fits_any _ rfl (.tmp 26) (.tmp 27) 22 rfl w.heap.size 3 i0 1 Try.underlying22 hi hz1 w.heap.size m (m + m2) (IV xm) rfl hown3 bo m2 cb (IV ym) rfl hl2 hn2 hs3 (ints_oneCell .i64 _) (by omega) ?_; intro w4 hown4 hg4; have hB4 : Below w.heap.size w w4 := hB3.grown hg4 hB3.size (fun k h => by cases h; exact Nat.le_refl _)))
  go_ret
  rw [HI.out] at hown4
  refine ⟨.slice (some ⟨w.heap.size, 0, none⟩) (m + m2) (m + m2), rfl, ⟨some ⟨w.heap.size, 0, none⟩, m + m2, by rw [HL.out], HF.out, fun i hi => ⟨_, rfl, own_lt hown4, own_cells' hown4 i _ ?_⟩⟩, hB4⟩
  generalize xm ++ ym = z at *
  simp [IV, List.getD_eq_getElem?_getD, List.getElem?_eq_getElem hi]
end Go.Proofs.Ythcnffieoocnkaa.st

/- For any grammar the law UsefulTells returns true, and what it was handed reads afterwards as it did; no condition but that the listed library variables hold what their text lays. -/
import Derived.Test.YtomikgkoegkofaaGreatDoorVb
import Derived.Test.YtomikgkoegkofaaGreatDoorDvx
import Derived.Test.YtomikgkoegkofaaGreatDoorUmb
import Derived.Test.YtomikgkoegkofaaGreatDoorVc
import Derived.Test.YtomikgkoegkofaaGreatDoorDvw
import Derived.Test.YtomikgkoegkofaaGreatDoorCards
import Derived.Test.YtomikgkoegkofaaGreatDoorTie
import Derived.SevenTiedAt
import Derived.ChangeMaps5
import Derived.Lay
namespace Go.Proofs.YtomikgkoegkofaaGreatDoor.dv
open Go.ChangeShapes Go.WideShapes Go.ChangeAt Go.RowKit Go.Maps Go.WideMaps Go.WideElems
set_option linter.unusedVariables false
set_option linter.unusedSimpArgs false
/-! UsefulTells -/
theorem cost_list {R : List Rl} {n : Nat} {S : List Way} (hI : Inv R n S) (hd : Done R S) (hl : ∀ r ∈ R, 0 ≤ r.left ∧ r.left < (n : Int)) : NF n (passesF R n (fun _ => Far)) = IV (S.map fun x => (x.1 : Int)) := by
  have hlen := hI.len
  apply List.ext_getElem (by simp [NF, IV, hlen])
  intro i h1 h2
  have hi : i < n := by simpa [NF, IV] using h1
  have hc := cost_passes hI hd hl i
  simp only [NF, IV, List.getElem_map, List.getElem_range]
  rw [hc, List.getD_eq_getElem?_getD, List.getElem?_eq_getElem (by omega)]
  rfl
theorem cost_in {R : List Rl} {n : Nat} {S : List Way} (hI : Inv R n S) : ∀ x ∈ S.map (fun x => (x.1 : Int)), In64 x := by
  intro x hx
  obtain ⟨y, hy, rfl⟩ := List.mem_map.1 hx
  obtain ⟨i, hi, rfl⟩ := List.mem_iff_getElem.1 hy
  have h := (hI.small i).1
  rw [List.getD_eq_getElem?_getD, List.getElem?_eq_getElem hi] at h
  have h' : S[i].1 ≤ Far := h
  unfold Far at h'
  unfold In64
  omega
set_option maxRecDepth 100000 in
set_option maxHeartbeats 8000000 in
theorem utells_any (w : World) (ta va ra : Option Addr) (tl tc vl vc rc : Nat) (R : List Rl) (hR : RulesAt w.heap.size w (.slice ra R.length rc) R) (hT : StrsAt w.heap.size w ta tl) (hV : StrsAt w.heap.size w va vl) (hn : R.length ≤ maxLen) (ht : tl ≤ maxLen) (hv : vl ≤ maxLen) :
    Calls Tryz.prog 3 #[.agg #[.slice ta tl tc, .slice va vl vc, .slice ra R.length rc]] w fun e w' => e = .returned (.bool true) ∧ Below w.heap.size w w' := by
  have b0 := Blk.new w 25 #[.slice ta tl tc, .slice va vl vc, .slice ra R.length rc]
  have hbl : Below w.heap.size w (w.alloc (.cells #[.slice ta tl tc, .slice va vl vc, .slice ra R.length rc] 25)) := below_lit _ _ _
  have hR1 := hR.below hbl
  have hT1 := hT.below hbl
  have hV1 := hV.below hbl
  generalize hW0 : w.alloc (.cells #[.slice ta tl tc, .slice va vl vc, .slice ra R.length rc] 25) = w0 at *
  have hz0 : w0.heap.size = w.heap.size + 1 := by rw [← hW0]; simp
  have HR := Lib.hid hR1
  have HT := Lib.hid hT1
  have HV := Lib.hid hV1
  have HB0 := Lib.hid b0
  have HBL := Lib.hid hbl
  have HZ0 := Lib.hid hz0
  clear hR hT hV hR1 hT1 hV1
  have HSS : Hid (∀ y, Below (w.heap.size + 1) w0 y → y.cell? ⟨w.heap.size, 0, none⟩ = some (.slice ta tl tc) ∧ y.cell? ⟨w.heap.size, 1, none⟩ = some (.slice va vl vc) ∧ y.cell? ⟨w.heap.size, 2, none⟩ = some (.slice ra R.length rc)) := Lib.hid (fun y hy => by
    have bx := HB0.out.below hy (by omega)
    have x0 := bx.cell 0
    have x1 := bx.cell 1
    have x2 := bx.cell 2
    simp only [List.getElem?_toArray, List.getElem?_cons_zero, List.getElem?_cons_succ] at x0 x1 x2
    exact ⟨x0, x1, x2⟩)
  clear b0 hbl hz0
  go_enter Tryz.func3, Tryz.ntmps3
  go_wp2_with fail
  refine (ualive_any w0).mono ?_
  rintro e w1 ⟨rfl, hb1⟩
  have HB1 := Lib.hid (show Below (w.heap.size + 1) w0 w1 from hb1.mono (by have := HZ0.out; omega))
  have HZ1 := Lib.hid (show w.heap.size + 1 ≤ w1.heap.size by have := HB1.out.size; have := HZ0.out; omega)
  obtain ⟨p0, p1, p2⟩ := HSS.out _ HB1.out
  clear hb1 hW0
  go_wp2_with fail
  refine (few_any w1 w.heap.size ta va ra tl tc vl vc rc R (HR.out.below (HB1.out.mono (by omega))) (by have := HZ1.out; omega) hn ht hv).mono ?_
  rintro e w2 ⟨b, rfl, hfew, hb2⟩
  have HB2 := Lib.hid (HB1.out.trans (hb2.mono HZ1.out))
  have HZ2 := Lib.hid (show w.heap.size + 1 ≤ w2.heap.size by have := hb2.size; have := HZ1.out; omega)
  clear hb2
  cases b
  · clear hfew
    go_wp2
    go_ret
    exact ⟨rfl, HBL.out.trans (HB2.out.mono (by omega))⟩
  · obtain ⟨f1, f2, f3, h8⟩ := hfew rfl
    have H8 := Lib.hid h8
    clear hfew h8 p0 p1 p2
    obtain ⟨p0, p1, p2⟩ := HSS.out _ HB2.out
    go_wp2_with fail
    refine (right_yes w2 w.heap.size ta va ra tl tc vl vc rc R (HR.out.below (HB2.out.mono (by omega))) (HT.out.below (HB2.out.mono (by omega))) (HV.out.below (HB2.out.mono (by omega))) (by have := HZ2.out; omega) f3 f2 f1 H8.out).mono ?_
    rintro e w3 ⟨b, rfl, hok, hb3⟩
    have HB3 := Lib.hid (HB2.out.trans (hb3.mono HZ2.out))
    have HZ3 := Lib.hid (show w.heap.size + 1 ≤ w3.heap.size by have := hb3.size; have := HZ2.out; omega)
    clear hb3 p0 p1 p2
    cases b
    · clear hok
      go_wp2
      go_ret
      exact ⟨rfl, HBL.out.trans (HB3.out.mono (by omega))⟩
    · obtain ⟨hv1, hrl⟩ := hok rfl
      have HL := Lib.hid (show ∀ r ∈ R, 0 ≤ r.left ∧ r.left < (vl : Int) from fun r hr => ⟨(hrl r hr).1, (hrl r hr).2.1⟩)
      have HVI := Lib.hid (show ∀ r ∈ R, ∀ s ∈ r.right, 0 ≤ s → s < (vl : Int) from fun r hr s hs _ => ((hrl r hr).2.2 s hs).1)
      have HVN := Lib.hid (show ∀ r ∈ R, ∀ s ∈ r.right, 0 ≤ s → s.toNat < vl from fun r hr s hs h0 => by have := ((hrl r hr).2.2 s hs).1; omega)
      clear hok hrl
      obtain ⟨p0, p1, p2⟩ := HSS.out _ HB3.out
      go_wp2_with fail
      refine (cost_any w3 w.heap.size ta va tl tc vl vc (.slice ra R.length rc) R (HR.out.below (HB3.out.mono (by omega))) (by have := HZ3.out; omega) HL.out (by omega)).mono ?_
      rintro e w4 ⟨S, cv, dv, rfl, hI, hd, hb4, hc, hdv⟩
      have HB4 := Lib.hid (HB3.out.trans (hb4.mono HZ3.out))
      have HZ4 := Lib.hid (show w.heap.size + 1 ≤ w4.heap.size by have := hb4.size; have := HZ3.out; omega)
      have hSl := hI.len
      have hcw := word_own hc (by simp [hSl]) (cost_in hI)
      have HCW := Lib.hid hcw
      obtain ⟨co, cc, rfl, _⟩ := hcw
      obtain ⟨dd, dc, rfl⟩ := own_some hdv (by omega)
      have HCL := Lib.hid (cost_list hI hd HL.out)
      have HCI := Lib.hid (cost_in hI)
      have hml : (S.map fun x => (x.1 : Int)).length = vl := by simp [hSl]
      have HML := Lib.hid hml
      generalize (S.map fun x => (x.1 : Int)) = CL at *
      clear p0 p1 p2 hb4 hc hdv hI hd hSl
      obtain ⟨p0, p1, p2⟩ := HSS.out _ HB4.out
      have hvl63 : vl ≤ 9223372036854775807 := by omega
      have HCW2 : Hid (WordAt w4 (.slice co vl cc) CL) := Lib.hid (by have h := HCW.out; rwa [hml] at h)
      rw [hml]
      clear hml
      go_wp2_with fail
      refine (rcost_any w4 w.heap.size ta va tl tc vl vc (.slice ra R.length rc) R (HR.out.below (HB4.out.mono (by omega))) (by have := HZ4.out; omega) HL.out HVI.out (by omega) (by omega) H8.out).mono ?_
      rintro e w5 ⟨rvv, rfl, hrv, hb5⟩
      have HB5 := Lib.hid (HB4.out.trans (hb5.mono HZ4.out))
      have HZ5 := Lib.hid (show w.heap.size + 1 ≤ w5.heap.size by have := hb5.size; have := HZ4.out; omega)
      rw [HCL.out] at hrv
      have hrw := word_own hrv HML.out HCI.out
      have hsm := rsame_self w5 _ _ CL (HCW2.out.below hb5) hrw (by have := HML.out; omega)
      obtain ⟨ro5, rc5, rfl, _⟩ := hrw
      clear p0 p1 p2 hb5 hrv
      rw [HML.out] at hsm ⊢
      go_wp2_with fail
      refine hsm.mono ?_
      rintro e w6 ⟨rfl, hb6⟩
      have HB6 := Lib.hid (HB5.out.trans (hb6.mono HZ5.out))
      have HZ6 := Lib.hid (show w.heap.size + 1 ≤ w6.heap.size by have := hb6.size; have := HZ5.out; omega)
      clear hb6 hsm
      go_wp2
      have HA0 := Lib.hid ((HB6.out).drew)
      have HY0 := Lib.hid (show w.heap.size + 1 ≤ (World.drew w6).heap.size from HZ6.out)
      refine wp_region_EQ (fun U => U.cell? ⟨w.heap.size, 0, none⟩ = some (.slice ta tl tc) ∧ U.cell? ⟨w.heap.size, 1, none⟩ = some (.slice va vl vc) ∧ U.cell? ⟨w.heap.size, 2, none⟩ = some (.slice ra R.length rc)) [] (by kernel_rfl) ?_
      have HS0 := HSS.out _ HA0.out
      change anyE _ _ _ _ _ _ _ _ _ (World.drew _)
      generalize World.drew w6 = x0 at *
      refine anyE_take (i := 0) (v := ?_) rfl (by kernel_rfl) (by kernel_rfl) (by kernel_rfl) (by kernel_rfl) (by kernel_rfl) (fun c _ _ h => absurd rfl (h.1 c)) (Or.inl ⟨by kernel_rfl, ?_⟩) HS0 ?_
      rotate_left
      · intro w hw; obtain ⟨hw1, hw2, hw3⟩ := hw; go_simp; with_reducible rfl
      refine anyE_take (i := 2) (v := ?_) rfl (by kernel_rfl) (by kernel_rfl) (by kernel_rfl) (by kernel_rfl) (by kernel_rfl) (fun c _ _ h => absurd rfl (h.1 c)) (Or.inl ⟨by kernel_rfl, ?_⟩) HS0 ?_
      rotate_left
      · intro w hw; obtain ⟨hw1, hw2, hw3⟩ := hw; go_simp; with_reducible rfl
      refine anyE_ready (rs := [1]) (by kernel_rfl) (by simp) ?_
      refine ReadyE.cons rfl (by kernel_rfl) (fun K hK => ?_) ReadyE.nil
      go_simp
      go_at_call 13
      refine (productive_any x0 w.heap.size ta va tl tc vl vc (.slice ra R.length rc) R (HR.out.below (HA0.out.mono (by omega))) (by have := HY0.out; omega) HL.out (by omega)).mono ?_
      rintro e x1 ⟨u1, rfl, hm1, hx1⟩
      have HA1 := Lib.hid (HA0.out.trans (hx1.mono HY0.out))
      have HY1 := Lib.hid (show w.heap.size + 1 ≤ x1.heap.size by have := hx1.size; have := HY0.out; omega)
      have HS1 := HSS.out _ HA1.out
      have HM1 := Lib.hid (hm1.read)
      obtain ⟨o1, cp1, rfl, _⟩ := id HM1.out
      clear hm1 hx1
      refine hK.out _ _ (fun _ => HS1) ?_
      clear hK K
      refine anyE_ready (rs := [3]) (by kernel_rfl) (by simp) ?_
      refine ReadyE.cons rfl (by kernel_rfl) (fun K hK => ?_) ReadyE.nil
      go_simp
      go_at_call 14
      refine (rproductive_any x1 w.heap.size ta va tl tc vl vc (.slice ra R.length rc) R (HR.out.below (HA1.out.mono (by omega))) (by have := HY1.out; omega) HL.out HVN.out (by omega)).mono ?_
      rintro e x2 ⟨u2, m2, rfl, hm2, hx2⟩
      have HA2 := Lib.hid (HA1.out.trans (hx2.mono HY1.out))
      have HY2 := Lib.hid (show w.heap.size + 1 ≤ x2.heap.size by have := hx2.size; have := HY1.out; omega)
      have HS2 := HSS.out _ HA2.out
      have HM2 := Lib.hid (hm2.read)
      replace HM1 := Lib.hid (HM1.out.below hx2)
      obtain ⟨o2, cp2, rfl, _⟩ := id HM2.out
      clear hm2 hx2
      refine hK.out _ _ (fun _ => HS2) ?_
      clear hK K
      refine anyE_ready (rs := [4]) (by kernel_rfl) (by simp) ?_
      refine ReadyE.cons rfl (by kernel_rfl) (fun K hK => ?_) ReadyE.nil
      go_simp
      go_at_call 12
      refine (bsame_any x2 _ _ (roundsB R false vl (List.replicate vl false)) HM1.out HM2.out).mono ?_
      rintro e x3 ⟨rfl, hx3⟩
      have HA3 := Lib.hid (HA2.out.trans (hx3.mono HY2.out))
      have HY3 := Lib.hid (show w.heap.size + 1 ≤ x3.heap.size by have := hx3.size; have := HY2.out; omega)
      have HS3 := HSS.out _ HA3.out
      clear hx3
      refine hK.out _ _ (fun _ => HS3) ?_
      clear hK K
      refine anyE_take (i := 5) (v := ?_) rfl (by kernel_rfl) (by kernel_rfl) (by kernel_rfl) (by kernel_rfl) (by kernel_rfl) (fun c _ _ h => absurd rfl (h.1 c)) (Or.inl ⟨by kernel_rfl, ?_⟩) HS3 ?_
      rotate_left
      · intro w hw; go_simp; with_reducible rfl
      refine anyE_take (i := 6) (v := ?_) rfl (by kernel_rfl) (by kernel_rfl) (by kernel_rfl) (by kernel_rfl) (by kernel_rfl) (fun c _ _ h => absurd rfl (h.1 c)) (Or.inl ⟨by kernel_rfl, ?_⟩) HS3 ?_
      rotate_left
      · intro w hw; obtain ⟨hw1, hw2, hw3⟩ := hw; go_simp; with_reducible rfl
      refine anyE_take (i := 8) (v := ?_) rfl (by kernel_rfl) (by kernel_rfl) (by kernel_rfl) (by kernel_rfl) (by kernel_rfl) (fun c _ _ h => absurd rfl (h.1 c)) (Or.inl ⟨by kernel_rfl, ?_⟩) HS3 ?_
      rotate_left
      · intro w hw; obtain ⟨hw1, hw2, hw3⟩ := hw; go_simp; with_reducible rfl
      refine anyE_ready (rs := [7]) (by kernel_rfl) (by simp) ?_
      refine ReadyE.cons rfl (by kernel_rfl) (fun K hK => ?_) ReadyE.nil
      go_simp
      go_at_call 15
      refine (nullable_any x3 w.heap.size ta va tl tc vl vc (.slice ra R.length rc) R (HR.out.below (HA3.out.mono (by omega))) (by have := HY3.out; omega) HL.out (by omega)).mono ?_
      rintro e x4 ⟨u4, rfl, hm4, hx4⟩
      have HA4 := Lib.hid (HA3.out.trans (hx4.mono HY3.out))
      have HY4 := Lib.hid (show w.heap.size + 1 ≤ x4.heap.size by have := hx4.size; have := HY3.out; omega)
      have HS4 := HSS.out _ HA4.out
      have HM4 := Lib.hid (hm4.read)
      obtain ⟨o4, cp4, rfl, _⟩ := id HM4.out
      clear hm4 hx4
      refine hK.out _ _ (fun _ => HS4) ?_
      clear hK K
      refine anyE_ready (rs := [9]) (by kernel_rfl) (by simp) ?_
      refine ReadyE.cons rfl (by kernel_rfl) (fun K hK => ?_) ReadyE.nil
      go_simp
      go_at_call 16
      refine (rnullable_any x4 w.heap.size ta va tl tc vl vc (.slice ra R.length rc) R (HR.out.below (HA4.out.mono (by omega))) (by have := HY4.out; omega) HL.out HVN.out (by omega)).mono ?_
      rintro e x5 ⟨u5, m5, rfl, hm5, hx5⟩
      have HA5 := Lib.hid (HA4.out.trans (hx5.mono HY4.out))
      have HY5 := Lib.hid (show w.heap.size + 1 ≤ x5.heap.size by have := hx5.size; have := HY4.out; omega)
      have HS5 := HSS.out _ HA5.out
      have HM5 := Lib.hid (hm5.read)
      replace HM4 := Lib.hid (HM4.out.below hx5)
      obtain ⟨o5, cp5, rfl, _⟩ := id HM5.out
      clear hm5 hx5
      refine hK.out _ _ (fun _ => HS5) ?_
      clear hK K
      refine anyE_ready (rs := [10]) (by kernel_rfl) (by simp) ?_
      refine ReadyE.cons rfl (by kernel_rfl) (fun K hK => ?_) ReadyE.nil
      go_simp
      go_at_call 12
      refine (bsame_any x5 _ _ (roundsB R true vl (List.replicate vl false)) HM4.out HM5.out).mono ?_
      rintro e x6 ⟨rfl, hx6⟩
      have HA6 := Lib.hid (HA5.out.trans (hx6.mono HY5.out))
      have HY6 := Lib.hid (show w.heap.size + 1 ≤ x6.heap.size by have := hx6.size; have := HY5.out; omega)
      have HS6 := HSS.out _ HA6.out
      clear hx6
      refine hK.out _ _ (fun _ => HS6) ?_
      clear hK K
      refine anyE_take (i := 11) (v := ?_) rfl (by kernel_rfl) (by kernel_rfl) (by kernel_rfl) (by kernel_rfl) (by kernel_rfl) (fun c _ _ h => absurd rfl (h.1 c)) (Or.inl ⟨by kernel_rfl, ?_⟩) HS6 ?_
      rotate_left
      · intro w hw; go_simp; with_reducible rfl
      refine anyE_take (i := 12) (v := ?_) rfl (by kernel_rfl) (by kernel_rfl) (by kernel_rfl) (by kernel_rfl) (by kernel_rfl) (fun c _ _ h => absurd rfl (h.1 c)) (Or.inl ⟨by kernel_rfl, ?_⟩) HS6 ?_
      rotate_left
      · intro w hw; go_simp; with_reducible rfl
      refine anyE_take (i := 13) (v := ?_) rfl (by kernel_rfl) (by kernel_rfl) (by kernel_rfl) (by kernel_rfl) (by kernel_rfl) (fun c _ _ h => absurd rfl (h.1 c)) (Or.inl ⟨by kernel_rfl, ?_⟩) HS6 ?_
      rotate_left
      · intro w hw; obtain ⟨hw1, hw2, hw3⟩ := hw; go_simp; with_reducible rfl
      refine anyE_take (i := 15) (v := ?_) rfl (by kernel_rfl) (by kernel_rfl) (by kernel_rfl) (by kernel_rfl) (by kernel_rfl) (fun c _ _ h => absurd rfl (h.1 c)) (Or.inl ⟨by kernel_rfl, ?_⟩) HS6 ?_
      rotate_left
      · intro w hw; obtain ⟨hw1, hw2, hw3⟩ := hw; go_simp; with_reducible rfl
      refine anyE_ready (rs := [14]) (by kernel_rfl) (by simp) ?_
      refine ReadyE.cons rfl (by kernel_rfl) (fun K hK => ?_) ReadyE.nil
      go_simp
      go_at_call 17
      refine (useful_any x6 w.heap.size ta va tl tc vl vc (.slice ra R.length rc) R (HR.out.below (HA6.out.mono (by omega))) (by have := HY6.out; omega) HL.out HVN.out (by omega)).mono ?_
      rintro e x7 ⟨u7, rfl, hm7, hx7⟩
      have HA7 := Lib.hid (HA6.out.trans (hx7.mono HY6.out))
      have HY7 := Lib.hid (show w.heap.size + 1 ≤ x7.heap.size by have := hx7.size; have := HY6.out; omega)
      have HS7 := HSS.out _ HA7.out
      have HM7 := Lib.hid (hm7.read)
      obtain ⟨o7, cp7, rfl, _⟩ := id HM7.out
      clear hm7 hx7
      refine hK.out _ _ (fun _ => HS7) ?_
      clear hK K
      refine anyE_ready (rs := [16]) (by kernel_rfl) (by simp) ?_
      refine ReadyE.cons rfl (by kernel_rfl) (fun K hK => ?_) ReadyE.nil
      go_simp
      go_at_call 18
      refine (ruseful_any x7 w.heap.size ta va tl tc vl vc (.slice ra R.length rc) R (HR.out.below (HA7.out.mono (by omega))) (by have := HY7.out; omega) HL.out HVN.out (by omega) (by omega)).mono ?_
      rintro e x8 ⟨u8, m8, rfl, hm8, hx8⟩
      have HA8 := Lib.hid (HA7.out.trans (hx8.mono HY7.out))
      have HY8 := Lib.hid (show w.heap.size + 1 ≤ x8.heap.size by have := hx8.size; have := HY7.out; omega)
      have HS8 := HSS.out _ HA8.out
      have HM8 := Lib.hid (hm8.read)
      replace HM7 := Lib.hid (HM7.out.below hx8)
      obtain ⟨o8, cp8, rfl, _⟩ := id HM8.out
      clear hm8 hx8
      refine hK.out _ _ (fun _ => HS8) ?_
      clear hK K
      refine anyE_ready (rs := [17]) (by kernel_rfl) (by simp) ?_
      refine ReadyE.cons rfl (by kernel_rfl) (fun K hK => ?_) ReadyE.nil
      go_simp
      go_at_call 12
      refine (bsame_any x8 _ _ (useW R vl) HM7.out HM8.out).mono ?_
      rintro e x9 ⟨rfl, hx9⟩
      have HA9 := Lib.hid (HA8.out.trans (hx9.mono HY8.out))
      have HY9 := Lib.hid (show w.heap.size + 1 ≤ x9.heap.size by have := hx9.size; have := HY8.out; omega)
      have HS9 := HSS.out _ HA9.out
      clear hx9
      refine hK.out _ _ (fun _ => HS9) ?_
      clear hK K
      refine anyE_take (i := 18) (v := ?_) rfl (by kernel_rfl) (by kernel_rfl) (by kernel_rfl) (by kernel_rfl) (by kernel_rfl) (fun c _ _ h => absurd rfl (h.1 c)) (Or.inl ⟨by kernel_rfl, ?_⟩) HS9 ?_
      rotate_left
      · intro w hw; go_simp; with_reducible rfl
      refine anyE_take (i := 19) (v := ?_) rfl (by kernel_rfl) (by kernel_rfl) (by kernel_rfl) (by kernel_rfl) (by kernel_rfl) (fun c _ _ h => absurd rfl (h.1 c)) (Or.inl ⟨by kernel_rfl, ?_⟩) HS9 ?_
      rotate_left
      · intro w hw; go_simp; with_reducible rfl
      refine anyE_done (by kernel_rfl) ?_ _
      refine ⟨(fun c h => by cases h), ?_⟩
      simp only [Act.put, List.setIfInBounds_toArray, List.set_cons_succ, List.set_cons_zero, List.getElem_toArray, List.getElem_cons_zero, List.getElem_cons_succ]
      go_wp2
      go_ret
      exact ⟨rfl, HBL.out.trans (HA9.out.mono (by omega))⟩
end Go.Proofs.YtomikgkoegkofaaGreatDoor.dv
namespace Go.Proofs.YtomikgkoegkofaaGreatDoor.dv
open Go.ChangeShapes Go.WideShapes Go.ChangeAt Go.RowKit Go.Maps Go.WideMaps Go.WideElems Go.Deep Go.Joins Go.ChangeMaps Go.Lib
set_option linter.unusedVariables false
set_option linter.unusedSimpArgs false
set_option maxRecDepth 100000 in
theorem susefulTells_lifted (os : Os) (started : os.Started) (H : Type) (enc : TypeId × Value → H) :
    ReturnsInHanded {} Tryz.checked os 3 .any (fun w args => (Rows.usefulTellsSpec.pre enc Tryz.prog Tryz.f3 [] false w args ∧ laidMetH Tryz.prog Rows.usefulTellsRow.laid w) ∧ sizedMet enc Tryz.prog Tryz.f3 (OpenSpec.ofChange Rows.usefulTellsSpec) false w args)
      (Rows.usefulTellsSpec.post enc Tryz.prog Tryz.f3 false true false false) := by
  refine returnsInHanded_of_change_and (C := Tryz.checked) (X := fun w _ => laidMetH Tryz.prog Rows.usefulTellsRow.laid w) (fun _ _ _ hh h => h.of_heap hh) own started (by kernel_rfl) Tryz.func3
    (ChangeSpec.witness_shaped (enc := enc) (C := Tryz.checked) (os := os) (X := fun w _ => laidMetH Tryz.prog Rows.usefulTellsRow.laid w) false (World.laidAll Tryz.prog os Rows.usefulTellsRow.laid) #[.agg #[.slice none 0 0, .slice none 0 0, .slice none 0 0]] 8 (World.laidAll_os _ _ _)
      (World.shaped_of_ZipB (by kernel_rfl) (by kernel_rfl)) (by kernel_rfl) (by kernel_rfl) (by kernel_rfl)
      (by rw [MakeChecks.laidMetH_plain _ _ _ (by kernel_rfl)]; exact laidMet_laidAll _ (by kernel_rfl) (by kernel_rfl))) ?_
  intro W base args ds gs before hval0 hW _ _ hL _
  have hval : ∀ (j : Nat) t v, Tryz.f3.params[j]? = some t → args[j]? = some v → Value.okWide Tryz.prog W .any base t v := hval0
  have hW' := hW
  obtain ⟨p, q, hA0, hV, rfl, hfz, hnd⟩ := hW
  have hA : DataW.TrodAll enc Tryz.prog W 0 (fun _ => true) true Tryz.f3.params.toList args.toList ds p := hA0
  rw [Tryz.params3] at hA hval
  obtain ⟨v0, vs0, d0, ds0, p0, q0, hargs, rfl, rfl, h0, r0⟩ := trodAll_cons hA
  obtain ⟨rfl, rfl, rfl⟩ := trodAll_nil r0
  obtain rfl : args = #[v0] := by cases args; simp_all
  obtain ⟨rfl, rfl⟩ := trodVars_none hV
  have h0k := h0
  obtain ⟨g0, g1, g2, y0, y1, y2, n, rfl, _, _, e0, e1, e2⟩ := open_agg3 Tryz.underlying25 (by kernel_rfl) (by kernel_rfl) (hval 0 25 v0 rfl rfl) h0
  replace e0 : DataW.trod enc Tryz.prog W 0 (fun _ => true) true n 22 [g0] = some y0 := e0
  replace e1 : DataW.trod enc Tryz.prog W 0 (fun _ => true) true n 22 [g1] = some y1 := e1
  replace e2 : DataW.trod enc Tryz.prog W 0 (fun _ => true) true n 23 [g2] = some y2 := e2
  obtain ⟨ta, tl, tc, rfl, _, _, _⟩ := slice_of Tryz.underlying22 e0
  obtain ⟨va, vl, vc, rfl, _, _, _⟩ := slice_of Tryz.underlying22 e1
  obtain ⟨ra, rl, rc, rfl, hr1, hr2, _⟩ := slice_of Tryz.underlying23 e2
  obtain ⟨hT1, hT2⟩ := strs_of e0
  obtain ⟨hV1, hV2⟩ := strs_of e1
  obtain ⟨R, rfl, hR, hwf⟩ := rules_of e2
  clear hA0 hval0
  simp only [List.append_nil] at hW'
  have hlt : ∀ x ∈ p0, x.block < W.heap.size := fun x hx => by simpa using hW'.lt x (by simpa using hx)
  have hback0 : ∀ (W' : World), Below W.heap.size W W' → DataW.Trod enc Tryz.prog W' 0 (fun b => decide (b < W.heap.size)) true 25 (.agg #[.slice ta tl tc, .slice va vl vc, .slice ra R.length rc]) d0 p0 :=
    fun W' hn => Below.trod laidOut (by kernel_rfl) (of_decide_eq_true (by kernel_rfl)) h0k hn (fun x hx => hlt x (by simp [hx]))
  have hT : ∀ (W' : World), Below W.heap.size W W' → DataW.TrodAll enc Tryz.prog W' 0 (fun b => decide (b < W.heap.size)) true [25] [.agg #[.slice ta tl tc, .slice va vl vc, .slice ra R.length rc]] [d0] (p0) := fun W' hn => by
    have h4 := (trodAll_mk1 (hback0 _ hn))
    simpa using h4
  refine (utells_any W ta va ra tl tc vl vc rc R hR hT1 hV1 (by omega) hT2 hV2).mono fun e W' ⟨he, hb⟩ => ?_
  subst he
  exact ⟨_, rfl, _, _, _, [], p0, [], hW', trodAll_mk1 (shut_bool Tryz.underlying4 _), hT W' hb, rfl, hb.frame _, fun h => by cases h⟩
theorem susefulTells_said : Rows.UsefulTellsSaid :=
  OpenClaim.holds_of_wide 3 Tryz.f3 rfl rfl rfl rfl rfl rfl rfl ⟨rfl, rfl, rfl, rfl, rfl⟩ rfl rfl rfl rfl rfl (by kernel_rfl) Tryz.func3 (by kernel_rfl)
    (of_decide_eq_true (by kernel_rfl)) (by unfold Func.isWrapper; first | (rw [if_pos (by decide +kernel)]; kernel_rfl) | (rw [if_neg (by decide +kernel)]; exact ⟨rfl, rfl⟩))
    (fun os started H enc _ => susefulTells_lifted os started H enc)
theorem susefulTells_looks (t : TypeId) (h : t = 25) : Tryz.prog.wantsStandIn t = false := by
  subst h
  kernel_rfl
theorem susefulTells_plain (f : FuncId) (fn : Func) (hf : Tryz.pinned.checked.prog.funcNamed "accidence/accidencelaw09.UsefulTells" = some f) (hfn : Tryz.pinned.checked.prog.funcs[f]? = some fn) :
    false = Tryz.pinned.checked.prog.looks [] ∧ ∀ (j : Nat) t, fn.params[j]? = some t → Tryz.pinned.checked.prog.wantsStandIn t = false := by
  obtain rfl : f = 3 := Option.some.inj ((show Tryz.prog.funcNamed "accidence/accidencelaw09.UsefulTells" = some 3 by kernel_rfl).symm.trans hf) |>.symm
  obtain rfl : fn = Tryz.f3 := (Option.some.inj (Tryz.func3.symm.trans hfn)).symm
  refine ⟨by kernel_rfl, fun j t ht => ?_⟩
  rw [Tryz.params3] at ht
  have hm : t ∈ [25] := by simpa using Array.mem_of_getElem? ht
  exact susefulTells_looks t (by simpa using hm)
end Go.Proofs.YtomikgkoegkofaaGreatDoor.dv
namespace Go.Proofs.YtomikgkoegkofaaGreatDoor
theorem usefulTells_holds : Rows.UsefulTellsCardSaid :=
  Claim7.holds_tied_plain_at .later [] _ _ _ _ dv.susefulTells_said (fun _ h => by cases h) (by kernel_rfl) (fun _ h => by cases h) usefulTells_row_tie rfl ⟨rfl, rfl⟩ (by kernel_rfl) rfl dv.susefulTells_plain (by kernel_rfl)
end Go.Proofs.YtomikgkoegkofaaGreatDoor

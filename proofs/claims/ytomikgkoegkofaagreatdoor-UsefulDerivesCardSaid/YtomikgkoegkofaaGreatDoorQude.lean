/- For any grammar and rules the law UsefulDerives returns true, and what it was handed reads afterwards as it did; no condition but that the listed library variables hold what their text lays. -/
import Derived.Test.YtomikgkoegkofaaGreatDoorVb
import Derived.Test.YtomikgkoegkofaaGreatDoorDvx
import Derived.Test.YtomikgkoegkofaaGreatDoorUmb
import Derived.Test.YtomikgkoegkofaaGreatDoorVc
import Derived.Test.YtomikgkoegkofaaGreatDoorDvw
import Derived.Test.YtomikgkoegkofaaGreatDoorCards
import Derived.Test.YtomikgkoegkofaaGreatDoorTie
import Derived.SevenTiedAt
import Derived.ChangeMaps5
import Derived.Lay
namespace Go.Proofs.YtomikgkoegkofaaGreatDoor.dv
open Go.ChangeShapes Go.WideShapes Go.ChangeAt Go.RowKit Go.Maps Go.WideMaps Go.WideElems
set_option linter.unusedVariables false
set_option linter.unusedSimpArgs false
/-! UsefulDerives -/
theorem term_of_rest {G : List Int} (h : restW G = []) : ∀ x ∈ G, x < 0 := fun x hx => by
  rw [← lead_rest G, h, List.append_nil] at hx
  exact lead_neg G x hx
theorem readB_cell {w : World} {o : Option Addr} {cp : Nat} {S : List Bool} (h : ReadB w (.slice o S.length cp) S) {i : Nat} (hi : i < S.length) : ∃ a : Addr, o = some a ∧ a.block < w.heap.size ∧ w.cell? (a.add i) = some (.bool (S.getD i false)) := by
  obtain ⟨ao, c, e, _, hc⟩ := h
  cases e
  exact hc i hi
theorem useW_len (R : List Rl) (n : Nat) : (useW R n).length = n := by
  unfold useW
  rw [marksR_len]
  unfold startB
  split <;> simp
theorem prodW_len (R : List Rl) (b : Bool) (n : Nat) : (roundsB R b n (List.replicate n false)).length = n := by rw [rounds_len]; simp
set_option maxRecDepth 100000 in
set_option maxHeartbeats 8000000 in
theorem uderives_any (w : World) (ta va ra : Option Addr) (tl tc vl vc rc : Nat) (kv : Value) (R : List Rl) (ks : List Int) (hR : RulesAt w.heap.size w (.slice ra R.length rc) R) (hT : StrsAt w.heap.size w ta tl) (hV : StrsAt w.heap.size w va vl) (hn : R.length ≤ maxLen) (ht : tl ≤ maxLen) (hv : vl ≤ maxLen) (hK : RowAt w kv ks) :
    Calls Tryz.prog 5 #[.agg #[.slice ta tl tc, .slice va vl vc, .slice ra R.length rc], kv] w fun e w' => e = .returned (.bool true) ∧ Below w.heap.size w w' := by
  have b0 := Blk.new w 25 #[.slice ta tl tc, .slice va vl vc, .slice ra R.length rc]
  have hbl : Below w.heap.size w (w.alloc (.cells #[.slice ta tl tc, .slice va vl vc, .slice ra R.length rc] 25)) := below_lit _ _ _
  have hR1 := hR.below hbl
  have hT1 := hT.below hbl
  have hV1 := hV.below hbl
  have hK1 := hK.below hbl
  generalize hW0 : w.alloc (.cells #[.slice ta tl tc, .slice va vl vc, .slice ra R.length rc] 25) = w0 at *
  have hz0 : w0.heap.size = w.heap.size + 1 := by rw [← hW0]; simp
  have HR := Lib.hid hR1
  have HT := Lib.hid hT1
  have HV := Lib.hid hV1
  have HB0 := Lib.hid b0
  have HBL := Lib.hid hbl
  have HK := Lib.hid hK1
  obtain ⟨ko, kc, rfl, hkc, hkm, _⟩ := hK
  have hkm' : kc ≤ 9223372036854775807 := by unfold maxLen at hkm; omega
  have HZ0 := Lib.hid hz0
  clear hR hT hV hR1 hT1 hV1 hK1
  have HSS : Hid (∀ y, Below (w.heap.size + 1) w0 y → y.cell? ⟨w.heap.size, 0, none⟩ = some (.slice ta tl tc) ∧ y.cell? ⟨w.heap.size, 1, none⟩ = some (.slice va vl vc) ∧ y.cell? ⟨w.heap.size, 2, none⟩ = some (.slice ra R.length rc)) := Lib.hid (fun y hy => by
    have bx := HB0.out.below hy (by omega)
    have x0 := bx.cell 0
    have x1 := bx.cell 1
    have x2 := bx.cell 2
    simp only [List.getElem?_toArray, List.getElem?_cons_zero, List.getElem?_cons_succ] at x0 x1 x2
    exact ⟨x0, x1, x2⟩)
  clear b0 hbl hz0
  go_enter Tryz.func5, Tryz.ntmps5
  go_wp2_with fail
  refine (ualive_any w0).mono ?_
  rintro e w1 ⟨rfl, hb1⟩
  have HB1 := Lib.hid (show Below (w.heap.size + 1) w0 w1 from hb1.mono (by have := HZ0.out; omega))
  have HZ1 := Lib.hid (show w.heap.size + 1 ≤ w1.heap.size by have := HB1.out.size; have := HZ0.out; omega)
  obtain ⟨p0, p1, p2⟩ := HSS.out _ HB1.out
  clear hb1 hW0
  go_wp2_with fail
  refine (few_any w1 w.heap.size ta va ra tl tc vl vc rc R (HR.out.below (HB1.out.mono (by omega))) (by have := HZ1.out; omega) hn ht hv).mono ?_
  rintro e w2 ⟨b, rfl, hfew, hb2⟩
  have HB2 := Lib.hid (HB1.out.trans (hb2.mono HZ1.out))
  have HZ2 := Lib.hid (show w.heap.size + 1 ≤ w2.heap.size by have := hb2.size; have := HZ1.out; omega)
  clear hb2
  cases b
  · clear hfew
    go_wp2
    go_ret
    exact ⟨rfl, HBL.out.trans (HB2.out.mono (by omega))⟩
  · obtain ⟨f1, f2, f3, h8⟩ := hfew rfl
    have H8 := Lib.hid h8
    clear hfew h8 p0 p1 p2
    obtain ⟨p0, p1, p2⟩ := HSS.out _ HB2.out
    go_wp2_with fail
    refine (right_yes w2 w.heap.size ta va ra tl tc vl vc rc R (HR.out.below (HB2.out.mono (by omega))) (HT.out.below (HB2.out.mono (by omega))) (HV.out.below (HB2.out.mono (by omega))) (by have := HZ2.out; omega) f3 f2 f1 H8.out).mono ?_
    rintro e w3 ⟨b, rfl, hok, hb3⟩
    have HB3 := Lib.hid (HB2.out.trans (hb3.mono HZ2.out))
    have HZ3 := Lib.hid (show w.heap.size + 1 ≤ w3.heap.size by have := hb3.size; have := HZ2.out; omega)
    clear hb3 p0 p1 p2
    cases b
    · clear hok
      go_wp2
      go_ret
      exact ⟨rfl, HBL.out.trans (HB3.out.mono (by omega))⟩
    · obtain ⟨hv1, hrl⟩ := hok rfl
      have HL := Lib.hid (show ∀ r ∈ R, 0 ≤ r.left ∧ r.left < (vl : Int) from fun r hr => ⟨(hrl r hr).1, (hrl r hr).2.1⟩)
      have HVI := Lib.hid (show ∀ r ∈ R, ∀ s ∈ r.right, 0 ≤ s → s < (vl : Int) from fun r hr s hs _ => ((hrl r hr).2.2 s hs).1)
      have HVN := Lib.hid (show ∀ r ∈ R, ∀ s ∈ r.right, 0 ≤ s → s.toNat < vl from fun r hr s hs h0 => by have := ((hrl r hr).2.2 s hs).1; omega)
      clear hok hrl
      obtain ⟨p0, p1, p2⟩ := HSS.out _ HB3.out
      by_cases g2 : ks.length ≤ 60
      · have hgd : decide ((60 : Int) < (ks.length : Int)) = false := decide_eq_false (by omega)
        have hA4 := below_al w3 (.cells #[.int .i64 0] 3)
        have HA4 := Lib.hid (HB3.out.trans (hA4.mono HZ3.out))
        have hyl := yield_any (w3.alloc (.cells #[.int .i64 0] 3)) w.heap.size ta va tl tc vl vc (.slice ra R.length rc) (.slice (some ⟨w3.heap.size, 0, none⟩) 1 1) (.slice ko ks.length kc) R [0] ks (HR.out.below (HA4.out.mono (by omega))) (by have := HZ3.out; simp; omega) (lit_row w3 [0] 1 _ rfl rfl (fun x hx => by simp at hx; subst hx; unfold In64; decide) (by decide)) (HK.out.below (HA4.out.mono (by have := HZ0.out; omega))) (by omega) (by simp; omega) H8.out
        have hri := rules_in (HR.out.below (HA4.out.mono (by omega))) H8.out
        have hlen := (repl_in hri ks [0] 0 (fun n hn => by simp at hn; subst hn; unfold In64; decide)).2
        unfold YieldR yieldW at hyl
        have HEQ : Hid (∃ P, P = replW R [0] ks 0) := Lib.hid ⟨_, rfl⟩
        obtain ⟨P, hP⟩ := HEQ.out
        rw [← hP] at hyl hlen
        obtain ⟨G, n1, E⟩ := P
        have HP := Lib.hid hP
        dsimp only at hyl hlen
        clear hA4 hri hP HEQ
        by_cases hE : E = 0 ∧ restW G = []
        · obtain ⟨hE1, hE2⟩ := hE
          subst hE1
          rw [if_pos rfl, if_pos hE2] at hyl
          have hG := term_of_rest hE2
          have hw1 : replW R [0] ks 0 = (G, 0, 0) := by
            have h := HP.out
            have hn := repl_ok R ks [0] 0 (by rw [← h])
            rw [← h] at hn
            rw [← h, show n1 = 0 from hn]
          have HALL := Lib.hid (derives_all HL.out HVN.out (by omega) hw1 hG)
          have HEMP := Lib.hid (show G.length = 0 → at_ (roundsB R true vl (List.replicate vl false)) 0 = true from fun h => derives_empty HL.out (by rw [hw1, List.length_eq_zero_iff.1 h]))
          have hG1 : G.length ≤ 500 := by simp at hlen; omega
          have HCOST := Lib.hid (fun (S : List Way) (hI : Inv R vl S) (hd : Done R S) => derives_cost hI hd HL.out hw1 hG (by unfold Far; omega))
          have hml : (List.map (fun x => -1 - x) G).length = G.length := by simp
          clear hE2 hG hw1 hlen
          go_wp2_with fail
          refine hyl.mono ?_
          rintro e w4 ⟨u4, rfl, hu1, _, hb4⟩
          have hrow4 := hu1 (by first | exact rfl | trivial)
          obtain ⟨o4, c4, rfl⟩ := own_sl hrow4
          rw [hml] at *
          have HB4 := Lib.hid (HA4.out.trans (hb4.mono (by have := HZ3.out; simp; omega)))
          have HZ4 := Lib.hid (show w.heap.size + 1 ≤ w4.heap.size by have := hb4.size; simp at this; have := HZ3.out; omega)
          clear hu1 hrow4 hb4 hyl p0 p1 p2
          go_wp2
          have HA0 := Lib.hid ((HB4.out).drew)
          have HY0 := Lib.hid (show w.heap.size + 1 ≤ (World.drew w4).heap.size from HZ4.out)
          refine wp_region_EQ (fun U => U.cell? ⟨w.heap.size, 0, none⟩ = some (.slice ta tl tc) ∧ U.cell? ⟨w.heap.size, 1, none⟩ = some (.slice va vl vc) ∧ U.cell? ⟨w.heap.size, 2, none⟩ = some (.slice ra R.length rc)) [] (by kernel_rfl) ?_
          have HS0 := HSS.out _ HA0.out
          change anyE _ _ _ _ _ _ _ _ _ (World.drew _)
          generalize World.drew w4 = x0 at *
          refine anyE_take (i := 0) (v := ?_) rfl (by kernel_rfl) (by kernel_rfl) (by kernel_rfl) (by kernel_rfl) (by kernel_rfl) (fun c _ _ h => absurd rfl (h.1 c)) (Or.inl ⟨by kernel_rfl, ?_⟩) HS0 ?_
          rotate_left
          · intro w hw; obtain ⟨hw1, hw2, hw3⟩ := hw; go_simp; with_reducible rfl
          refine anyE_take (i := 2) (v := ?_) rfl (by kernel_rfl) (by kernel_rfl) (by kernel_rfl) (by kernel_rfl) (by kernel_rfl) (fun c _ _ h => absurd rfl (h.1 c)) (Or.inl ⟨by kernel_rfl, ?_⟩) HS0 ?_
          rotate_left
          · intro w hw; obtain ⟨hw1, hw2, hw3⟩ := hw; go_simp; with_reducible rfl
          refine anyE_take (i := 4) (v := ?_) rfl (by kernel_rfl) (by kernel_rfl) (by kernel_rfl) (by kernel_rfl) (by kernel_rfl) (fun c _ _ h => absurd rfl (h.1 c)) (Or.inl ⟨by kernel_rfl, ?_⟩) HS0 ?_
          rotate_left
          · intro w hw; obtain ⟨hw1, hw2, hw3⟩ := hw; go_simp; with_reducible rfl
          refine anyE_ready (rs := [1]) (by kernel_rfl) (by simp) ?_
          refine ReadyE.cons rfl (by kernel_rfl) (fun K hK => ?_) ReadyE.nil
          go_simp
          go_at_call 17
          refine (useful_any x0 w.heap.size ta va tl tc vl vc (.slice ra R.length rc) R (HR.out.below (HA0.out.mono (by omega))) (by have := HY0.out; omega) HL.out HVN.out (by omega)).mono ?_
          rintro e x1 ⟨u1, rfl, hm1, hx1⟩
          have HA1 := Lib.hid (HA0.out.trans (hx1.mono HY0.out))
          have HY1 := Lib.hid (show w.heap.size + 1 ≤ x1.heap.size by have := hx1.size; have := HY0.out; omega)
          have HS1 := HSS.out _ HA1.out
          have HM1 := Lib.hid (hm1.read)
          obtain ⟨o1, cp1, rfl, _⟩ := id HM1.out
          clear hm1 hx1
          refine hK.out _ _ (fun _ => HS1) ?_
          clear hK K
          refine anyE_ready (rs := [3]) (by kernel_rfl) (by simp) ?_
          refine ReadyE.cons rfl (by kernel_rfl) (fun K hK => ?_) ReadyE.nil
          go_simp
          go_at_call 13
          refine (productive_any x1 w.heap.size ta va tl tc vl vc (.slice ra R.length rc) R (HR.out.below (HA1.out.mono (by omega))) (by have := HY1.out; omega) HL.out (by omega)).mono ?_
          rintro e x2 ⟨u2, rfl, hm2, hx2⟩
          have HA2 := Lib.hid (HA1.out.trans (hx2.mono HY1.out))
          have HY2 := Lib.hid (show w.heap.size + 1 ≤ x2.heap.size by have := hx2.size; have := HY1.out; omega)
          have HS2 := HSS.out _ HA2.out
          have HM2 := Lib.hid (hm2.read)
          replace HM1 := Lib.hid (HM1.out.below hx2)
          obtain ⟨o2, cp2, rfl, _⟩ := id HM2.out
          clear hm2 hx2
          refine hK.out _ _ (fun _ => HS2) ?_
          clear hK K
          refine anyE_ready (rs := [5]) (by kernel_rfl) (by simp) ?_
          refine ReadyE.cons rfl (by kernel_rfl) (fun K hK => ?_) ReadyE.nil
          go_simp
          go_at_call 15
          refine (nullable_any x2 w.heap.size ta va tl tc vl vc (.slice ra R.length rc) R (HR.out.below (HA2.out.mono (by omega))) (by have := HY2.out; omega) HL.out (by omega)).mono ?_
          rintro e x3 ⟨u3, rfl, hm3, hx3⟩
          have HA3 := Lib.hid (HA2.out.trans (hx3.mono HY2.out))
          have HY3 := Lib.hid (show w.heap.size + 1 ≤ x3.heap.size by have := hx3.size; have := HY2.out; omega)
          have HS3 := HSS.out _ HA3.out
          have HM3 := Lib.hid (hm3.read)
          replace HM1 := Lib.hid (HM1.out.below hx3)
          replace HM2 := Lib.hid (HM2.out.below hx3)
          obtain ⟨o3, cp3, rfl, _⟩ := id HM3.out
          clear hm3 hx3
          refine hK.out _ _ (fun _ => HS3) ?_
          clear hK K
          refine anyE_take (i := 6) (v := ?_) rfl (by kernel_rfl) (by kernel_rfl) (by kernel_rfl) (by kernel_rfl) (by kernel_rfl) (fun c _ _ h => absurd rfl (h.1 c)) (Or.inl ⟨by kernel_rfl, ?_⟩) HS3 ?_
          rotate_left
          · intro w hw; go_simp; with_reducible rfl
          refine anyE_take (i := 7) (v := ?_) rfl (by kernel_rfl) (by kernel_rfl) (by kernel_rfl) (by kernel_rfl) (by kernel_rfl) (fun c _ _ h => absurd rfl (h.1 c)) (Or.inl ⟨by kernel_rfl, ?_⟩) HS3 ?_
          rotate_left
          · intro w hw; go_simp; with_reducible rfl
          refine anyE_take (i := 8) (v := ?_) rfl (by kernel_rfl) (by kernel_rfl) (by kernel_rfl) (by kernel_rfl) (by kernel_rfl) (fun c _ _ h => absurd rfl (h.1 c)) (Or.inl ⟨by kernel_rfl, ?_⟩) HS3 ?_
          rotate_left
          · intro w hw; go_simp; with_reducible rfl
          refine anyE_done (by kernel_rfl) ?_ _
          refine ⟨(fun c h => by cases h), ?_⟩
          simp only [Act.put, List.setIfInBounds_toArray, List.set_cons_succ, List.set_cons_zero, List.getElem_toArray, List.getElem_cons_zero, List.getElem_cons_succ]
          have hul := useW_len R vl
          have hpl := prodW_len R false vl
          have hnl := prodW_len R true vl
          generalize useW R vl = UL at *
          generalize roundsB R false vl (List.replicate vl false) = PL at *
          generalize roundsB R true vl (List.replicate vl false) = NL at *
          have HUL := Lib.hid hul
          have HPL := Lib.hid hpl
          have HNL := Lib.hid hnl
          clear hul hpl hnl
          obtain ⟨p0, p1, p2⟩ := HSS.out _ HA3.out
          clear HS3
          go_wp2_with fail
          refine (cost_any x3 w.heap.size ta va tl tc vl vc (.slice ra R.length rc) R (HR.out.below (HA3.out.mono (by omega))) (by have := HY3.out; omega) HL.out (by omega)).mono ?_
          rintro e w6 ⟨S, cv, dv, rfl, hI, hd, hb6, hc, hdv⟩
          have HB6 := Lib.hid (HA3.out.trans (hb6.mono HY3.out))
          have HZ6 := Lib.hid (show w.heap.size + 1 ≤ w6.heap.size by have := hb6.size; have := HY3.out; omega)
          have hcst := HCOST.out S hI hd
          have HCST := Lib.hid hcst
          have HSL := Lib.hid hI.len
          obtain ⟨c, cc, rfl⟩ := own_some hc (by omega)
          obtain ⟨dd, dc, rfl⟩ := own_some hdv (by omega)
          have HCO := Lib.hid (show c < w6.heap.size ∧ ∀ i, i < vl → w6.cell? ⟨c, i, none⟩ = some (.int .i64 ((S.getD i noW).1 : Int)) from ⟨(World.ownsRow.lt hc c rfl).2, fun i hi => by
            rw [hc.cellAt i (by omega)]
            simp [IV, List.getD_eq_getElem?_getD, List.getElem?_eq_getElem (show i < S.length by have := hI.len; omega)]⟩)
          have HMU := Lib.hid (HM1.out.below hb6)
          have HMP := Lib.hid (HM2.out.below hb6)
          have HMN := Lib.hid (HM3.out.below hb6)
          have HX0 := Lib.hid (Below.refl w6.heap.size w6)
          clear hb6 hc hdv hI hd p0 p1 p2 hcst HM1 HM2 HM3
          have hk63 : ks.length ≤ 9223372036854775807 := by omega
          go_wp2
          go_loopw [52] (fun q wr => ∃ k : Nat, k ≤ ks.length ∧ q = .int .i64 k ∧ Below w6.heap.size w6 wr) (fun q _ => ks.length - (intOf q).toNat)
          case atStart => exact ⟨0, Nat.zero_le _, rfl, HX0.out⟩
          case round =>
            obtain ⟨k, hk, rfl, hbr⟩ := hrel
            have HBR := Lib.hid hbr
            clear hbr
            by_cases hlt : k < ks.length
            · have hmem : ks.getD k 0 ∈ ks := by rw [List.getD_eq_getElem?_getD, List.getElem?_eq_getElem hlt]; exact List.getElem_mem _
              obtain ⟨r0, e1, e2, e3, e4⟩ := HALL.out _ hmem
              obtain ⟨r1, e5, e6⟩ := HCST.out.2 _ hmem
              rw [e1] at e5
              cases e5
              obtain ⟨_, _, ek, _, _, _, _, hkc⟩ := HK.out.below (((HB6.out.trans (HBR.out.mono HZ6.out))).mono (by have := HZ0.out; omega))
              cases ek
              obtain ⟨ka, hka, hkab, hkcell⟩ := hkc k hlt
              subst hka
              have HWR := Lib.hid (HB6.out.trans (HBR.out.mono HZ6.out))
              obtain ⟨kk, hkk⟩ : ∃ kk : Nat, ks.getD k 0 = kk := ⟨(ks.getD k 0).toNat, by omega⟩
              rw [hkk] at hkcell e1
              rw [Int.toNat_natCast] at e1
              have hkR := (List.getElem?_eq_some_iff.1 e1).1
              obtain ⟨a2, r2, ao, cap, hae, hab, hrk, hc0, _⟩ := (HR.out.below (HWR.out.mono (by omega))).at kk hkR
              subst hae
              rw [e1] at hrk
              cases hrk
              obtain ⟨l0, l1⟩ := HL.out r0 (List.mem_of_getElem? e1)
              obtain ⟨v, hv'⟩ : ∃ v : Nat, r0.left = v := ⟨r0.left.toNat, by omega⟩
              rw [hv'] at hc0 e3 e4 e6
              rw [Int.toNat_natCast] at e6
              have hvl : v < vl := by omega
              have hu : UL.getD v false = true := e4
              have hp : PL.getD v false = true := e3
              obtain ⟨ua, hua, _, hucell⟩ := readB_cell (HMU.out.below HBR.out) (i := v) (by have := HUL.out; omega)
              obtain ⟨pa, hpa, _, hpcell⟩ := readB_cell (HMP.out.below HBR.out) (i := v) (by have := HPL.out; omega)
              subst hua
              subst hpa
              rw [hu] at hucell
              rw [hp] at hpcell
              have hccell := (HBR.out.cell (p := ⟨c, v, none⟩) HCO.out.1).trans (HCO.out.2 v hvl)
              have hne : (((S.getD v noW).1 : Int) == 1073741824) = false := by
                have : ((S.getD v noW).1 : Int) ≠ 1073741824 := fun h => e6 (by unfold Far; omega)
                simpa using this
              generalize (S.getD v noW).1 = sv at *
              have hi1 : (kk : Int) < (R.length : Int) := by omega
              have hi2 : (v : Int) < (UL.length : Int) := by have := HUL.out; omega
              have hi3 : (v : Int) < (PL.length : Int) := by have := HPL.out; omega
              have hi4 : (v : Int) < (vl : Int) := by omega
              obtain ⟨p0, p1, p2⟩ := HSS.out _ HWR.out
              clear e1 e2 e3 e4 e6 hmem hkk hkR hv' hu hp l0 l1 hkc hkab hab
              go_wp2
              exact ⟨⟨k + 1, hlt, congrArg (Value.int .i64) (by omega), HBR.out⟩, by simp only [intOf]; omega⟩
            · obtain rfl : k = ks.length := by omega
              have hccell := (HBR.out.cell (p := ⟨c, 0, none⟩) HCO.out.1).trans (HCO.out.2 0 (by omega))
              have hge := HCST.out.1
              generalize (S.getD 0 noW).1 = sv at *
              have hgd1 : decide ((sv : Int) ≤ (G.length : Int)) = true := decide_eq_true (by omega)
              have hi4 : (0 : Int) < (vl : Int) := by omega
              have HFIN := Lib.hid (HBL.out.trans ((HB6.out.trans (HBR.out.mono HZ6.out)).mono (by omega)))
              by_cases hg0 : G.length = 0
              · have hg2 : decide ((0 : Int) < (G.length : Int)) = false := decide_eq_false (by omega)
                have hn0 : NL.getD 0 false = true := HEMP.out hg0
                obtain ⟨na, hna, _, hncell⟩ := readB_cell (HMN.out.below HBR.out) (i := 0) (by have := HNL.out; omega)
                subst hna
                rw [hn0] at hncell
                have hncell2 : wr.cell? na = some (.bool true) := hncell
                have hi5 : (0 : Int) < (NL.length : Int) := by have := HNL.out; omega
                clear hn0
                go_wp2
                go_ret
                exact ⟨rfl, HFIN.out⟩
              · have hg2 : decide ((0 : Int) < (G.length : Int)) = true := decide_eq_true (by omega)
                go_wp2
                go_ret
                exact ⟨rfl, HFIN.out⟩
        · have hE2 : ¬ (if E = 0 then (if restW G = [] then (List.map (fun x => -1 - x) G, (0 : Int)) else ([], 13)) else ([], E)).2 = 0 := by
            split
            · rename_i h0
              rw [if_neg (fun h => hE ⟨h0, h⟩)]
              decide
            · assumption
          generalize (if E = 0 then (if restW G = [] then (List.map (fun x => -1 - x) G, (0 : Int)) else ([], 13)) else ([], E)) = Y at *
          obtain ⟨Yl, Ye⟩ := Y
          dsimp only at hyl hE2
          go_wp2_with fail
          refine hyl.mono ?_
          rintro e w4 ⟨u4, rfl, _, hu2, hb4⟩
          obtain rfl := hu2 hE2
          have hne : (Ye == 0) = false := by simpa using hE2
          clear hyl hu2 p0 p1 p2
          go_wp2
          go_ret
          exact ⟨rfl, HBL.out.trans ((HA4.out.trans (hb4.mono (by have := HZ3.out; simp; omega))).mono (by omega))⟩
      · have hgd : decide ((60 : Int) < (ks.length : Int)) = true := decide_eq_true (by omega)
        go_wp2
        go_ret
        exact ⟨rfl, HBL.out.trans (HB3.out.mono (by omega))⟩
end Go.Proofs.YtomikgkoegkofaaGreatDoor.dv
namespace Go.Proofs.YtomikgkoegkofaaGreatDoor.dv
open Go.ChangeShapes Go.WideShapes Go.ChangeAt Go.RowKit Go.Maps Go.WideMaps Go.WideElems Go.Deep Go.Joins Go.ChangeMaps Go.Lib
set_option linter.unusedVariables false
set_option linter.unusedSimpArgs false
set_option maxRecDepth 100000 in
theorem susefulDerives_lifted (os : Os) (started : os.Started) (H : Type) (enc : TypeId × Value → H) :
    ReturnsInHanded {} Tryz.checked os 5 .any (fun w args => (Rows.usefulDerivesSpec.pre enc Tryz.prog Tryz.f5 [] false w args ∧ laidMetH Tryz.prog Rows.usefulDerivesRow.laid w) ∧ sizedMet enc Tryz.prog Tryz.f5 (OpenSpec.ofChange Rows.usefulDerivesSpec) false w args)
      (Rows.usefulDerivesSpec.post enc Tryz.prog Tryz.f5 false true false false) := by
  refine returnsInHanded_of_change_and (C := Tryz.checked) (X := fun w _ => laidMetH Tryz.prog Rows.usefulDerivesRow.laid w) (fun _ _ _ hh h => h.of_heap hh) own started (by kernel_rfl) Tryz.func5
    (ChangeSpec.witness_shaped (enc := enc) (C := Tryz.checked) (os := os) (X := fun w _ => laidMetH Tryz.prog Rows.usefulDerivesRow.laid w) false (World.laidAll Tryz.prog os Rows.usefulDerivesRow.laid) #[.agg #[.slice none 0 0, .slice none 0 0, .slice none 0 0], .slice none 0 0] 8 (World.laidAll_os _ _ _)
      (World.shaped_of_ZipB (by kernel_rfl) (by kernel_rfl)) (by kernel_rfl) (by kernel_rfl) (by kernel_rfl)
      (by rw [MakeChecks.laidMetH_plain _ _ _ (by kernel_rfl)]; exact laidMet_laidAll _ (by kernel_rfl) (by kernel_rfl))) ?_
  intro W base args ds gs before hval0 hW _ _ hL _
  have hval : ∀ (j : Nat) t v, Tryz.f5.params[j]? = some t → args[j]? = some v → Value.okWide Tryz.prog W .any base t v := hval0
  have hW' := hW
  obtain ⟨p, q, hA0, hV, rfl, hfz, hnd⟩ := hW
  have hA : DataW.TrodAll enc Tryz.prog W 0 (fun _ => true) true Tryz.f5.params.toList args.toList ds p := hA0
  rw [Tryz.params5] at hA hval
  obtain ⟨v0, vs0, d0, ds0, p0, q0, hargs, rfl, rfl, h0, r0⟩ := trodAll_cons hA
  obtain ⟨v1, vs1, d1, ds1, p1, q1, rfl, rfl, rfl, h1, r1⟩ := trodAll_cons r0
  obtain ⟨rfl, rfl, rfl⟩ := trodAll_nil r1
  obtain rfl : args = #[v0, v1] := by cases args; simp_all
  obtain ⟨rfl, rfl⟩ := trodVars_none hV
  have h0k := h0
  obtain ⟨g0, g1, g2, y0, y1, y2, n, rfl, _, _, e0, e1, e2⟩ := open_agg3 Tryz.underlying25 (by kernel_rfl) (by kernel_rfl) (hval 0 25 v0 rfl rfl) h0
  replace e0 : DataW.trod enc Tryz.prog W 0 (fun _ => true) true n 22 [g0] = some y0 := e0
  replace e1 : DataW.trod enc Tryz.prog W 0 (fun _ => true) true n 22 [g1] = some y1 := e1
  replace e2 : DataW.trod enc Tryz.prog W 0 (fun _ => true) true n 23 [g2] = some y2 := e2
  obtain ⟨ta, tl, tc, rfl, _, _, _⟩ := slice_of Tryz.underlying22 e0
  obtain ⟨va, vl, vc, rfl, _, _, _⟩ := slice_of Tryz.underlying22 e1
  obtain ⟨ra, rl, rc, rfl, hr1, hr2, _⟩ := slice_of Tryz.underlying23 e2
  obtain ⟨hT1, hT2⟩ := strs_of e0
  obtain ⟨hV1, hV2⟩ := strs_of e1
  obtain ⟨R, rfl, hR, hwf⟩ := rules_of e2
  obtain ⟨a1, len1, cap1, rfl⟩ := okWide_slice Tryz.underlying28 (hval 1 28 v1 rfl rfl)
  have h1k := h1
  obtain ⟨fu1, hf1⟩ := h1
  obtain ⟨L1, hL1, hF1⟩ := row_of hf1
  clear hA0 hval0
  simp only [List.append_nil] at hW'
  have hlt : ∀ x ∈ p0 ++ (p1), x.block < W.heap.size := fun x hx => by simpa using hW'.lt x (by simpa using hx)
  have hback0 : ∀ (W' : World), Below W.heap.size W W' → DataW.Trod enc Tryz.prog W' 0 (fun b => decide (b < W.heap.size)) true 25 (.agg #[.slice ta tl tc, .slice va vl vc, .slice ra R.length rc]) d0 p0 :=
    fun W' hn => Below.trod laidOut (by kernel_rfl) (of_decide_eq_true (by kernel_rfl)) h0k hn (fun x hx => hlt x (by simp [hx]))
  have hback1 : ∀ (W' : World), Below W.heap.size W W' → DataW.Trod enc Tryz.prog W' 0 (fun b => decide (b < W.heap.size)) true 28 (.slice a1 len1 cap1) d1 p1 :=
    fun W' hn => Below.trod laidOut (by kernel_rfl) (of_decide_eq_true (by kernel_rfl)) h1k hn (fun x hx => hlt x (by simp [hx]))
  have hT : ∀ (W' : World), Below W.heap.size W W' → DataW.TrodAll enc Tryz.prog W' 0 (fun b => decide (b < W.heap.size)) true [25, 28] [.agg #[.slice ta tl tc, .slice va vl vc, .slice ra R.length rc], .slice a1 len1 cap1] [d0, d1] (p0 ++ (p1)) := fun W' hn => by
    have h4 := (trodAll_cons_mk (hback0 _ hn) (trodAll_mk1 (hback1 _ hn)))
    simpa using h4
  subst hL1
  refine (uderives_any W ta va ra tl tc vl vc rc _ R L1 hR hT1 hV1 (by omega) hT2 hV2 hF1).mono fun e W' ⟨he, hb⟩ => ?_
  subst he
  exact ⟨_, rfl, _, _, _, [], p0 ++ (p1), [], hW', trodAll_mk1 (shut_bool Tryz.underlying4 _), hT W' hb, rfl, hb.frame _, fun h => by cases h⟩
theorem susefulDerives_said : Rows.UsefulDerivesSaid :=
  OpenClaim.holds_of_wide 5 Tryz.f5 rfl rfl rfl rfl rfl rfl rfl ⟨rfl, rfl, rfl, rfl, rfl⟩ rfl rfl rfl rfl rfl (by kernel_rfl) Tryz.func5 (by kernel_rfl)
    (of_decide_eq_true (by kernel_rfl)) (by unfold Func.isWrapper; first | (rw [if_pos (by decide +kernel)]; kernel_rfl) | (rw [if_neg (by decide +kernel)]; exact ⟨rfl, rfl⟩))
    (fun os started H enc _ => susefulDerives_lifted os started H enc)
theorem susefulDerives_looks (t : TypeId) (h : t = 25 ∨ t = 28) : Tryz.prog.wantsStandIn t = false := by
  rcases h with rfl | rfl <;> kernel_rfl
theorem susefulDerives_plain (f : FuncId) (fn : Func) (hf : Tryz.pinned.checked.prog.funcNamed "accidence/accidencelaw09.UsefulDerives" = some f) (hfn : Tryz.pinned.checked.prog.funcs[f]? = some fn) :
    false = Tryz.pinned.checked.prog.looks [] ∧ ∀ (j : Nat) t, fn.params[j]? = some t → Tryz.pinned.checked.prog.wantsStandIn t = false := by
  obtain rfl : f = 5 := Option.some.inj ((show Tryz.prog.funcNamed "accidence/accidencelaw09.UsefulDerives" = some 5 by kernel_rfl).symm.trans hf) |>.symm
  obtain rfl : fn = Tryz.f5 := (Option.some.inj (Tryz.func5.symm.trans hfn)).symm
  refine ⟨by kernel_rfl, fun j t ht => ?_⟩
  rw [Tryz.params5] at ht
  have hm : t ∈ [25, 28] := by simpa using Array.mem_of_getElem? ht
  exact susefulDerives_looks t (by simpa using hm)
end Go.Proofs.YtomikgkoegkofaaGreatDoor.dv
namespace Go.Proofs.YtomikgkoegkofaaGreatDoor
theorem usefulDerives_holds : Rows.UsefulDerivesCardSaid :=
  Claim7.holds_tied_plain_at .later [] _ _ _ _ dv.susefulDerives_said (fun _ h => by cases h) (by kernel_rfl) (fun _ h => by cases h) usefulDerives_row_tie rfl ⟨rfl, rfl⟩ (by kernel_rfl) rfl dv.susefulDerives_plain (by kernel_rfl)
end Go.Proofs.YtomikgkoegkofaaGreatDoor

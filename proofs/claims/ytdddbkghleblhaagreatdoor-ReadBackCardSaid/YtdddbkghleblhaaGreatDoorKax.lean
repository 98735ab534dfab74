import Derived.Test.YtdddbkghleblhaaGreatDoorKap
import Derived.Deep.Cut
import Derived.Test.YtdddbkghleblhaaGreatDoorKaw
namespace Go.Proofs.YtdddbkghleblhaaGreatDoor.lx
open Go.ChangeShapes Go.WideShapes Go.ChangeAt Go.RowKit
set_option linter.unusedVariables false
attribute [local go_sem] run_store_float
set_option maxRecDepth 100000 in
set_option maxHeartbeats 16000000 in
theorem ritem_shut (k : Nat) (hA : ∀ j, k = j + 1 → RAltsOk j) (w : World) (g cap p : Nat) (T : List Tok) (hk : k ≤ 16) (h : TAt w g cap T) (hg : Good (T.drop p)) (ha : atIt (hd (T.drop p)) = true) (t : Tok) (r : List Tok) (hd : T.drop p = t :: r) (k1 : ¬ t.kind = 1) (k2 : ¬ t.kind = 2) (hz : k ≠ 0) (hw : (∀ j q, k = j + 1 → pA j (T.drop (p + 1)) = .error q → False) ∧ ∀ j bs r', k = j + 1 → pA j (T.drop (p + 1)) = .ok (bs, r') → sg r' = 41) : Calls Tryz.prog 52 #[StV g T.length cap p (16 - k) 0] w (AnsR (ItmV k w.heap.size) ItmF g cap (16 - k) T ((T.drop p).length - 1) w (pItem (pSub k) (T.drop p))) := by
  obtain ⟨hlt, hgt, hdr⟩ := drop_lt hd
  obtain ⟨c0, c1, c2, c3⟩ := h.tok hd
  have hgl := h.lt
  have hlen := h.len
  have hcl := h.capl
  have hcm := h.capm
  have HT := Lib.hid h
  have HG := Lib.hid hg
  unfold maxLen at hcm
  rw [hd] at ha ⊢
  have hs40 : sgOf t = 40 := by
    have ha : (t.kind == 1 || t.kind == 2 || sgOf t == 40) = true := ha
    rw [beq_false_of_ne k1, beq_false_of_ne k2] at ha
    simpa using ha
  have k4 : t.kind = 4 := by
    unfold sgOf at hs40
    by_cases h4 : t.kind = 4
    · exact h4
    · rw [if_neg h4] at hs40
      omega
  have hgr : Good (T.drop (p + 1)) := by rw [hdr]; rw [hd] at hg; exact hg.tail (by omega)
  have HR : Hid (pItem (pSub k) (t :: r) = match pSub k (t :: r) with
    | .error e => .error e
    | .ok (bs, q) => .ok (.mk t.at_ 2 [] bs (opOf q), opTl q)) := Lib.hid ((if_neg k1).trans (if_neg k2))
  generalize pItem (pSub k) (t :: r) = X at *
  have hat : (T.getD p ⟨0, 0, [], 0⟩).at_ = t.at_ := by rw [hgt]
  have HQA := Lib.hid hat
  replace c0 : w.cell? ⟨g, p * 4, none⟩ = some (.int .i64 4) := by rw [c0, k4]; rfl
  have hrl : (t :: r).length - 1 = r.length := rfl
  generalize (t :: r).length - 1 = m at *
  clear hat ha
  have HW := Lib.hid hw
  clear hw
  cases k with
  | zero => exact absurd rfl hz
  | succ j =>
    have HAL := Lib.hid (hA j rfl)
    have HX : Hid (X = match pShut 41 (pA j (T.drop (p + 1))) with
      | .error e => .error e
      | .ok (bs, q) => .ok (.mk t.at_ 2 [] bs (opOf q), opTl q)) := Lib.hid (by rw [hdr]; exact HR.out)
    have hne : (((16 - (j + 1) : Nat) : Int) == 16) = false := by rw [beq_eq_false_iff_ne]; omega
    have hdc : (((16 - (j + 1) : Nat) : Int) + 1) = ((16 - j : Nat) : Int) := by omega
    have hd16 : 16 - (j + 1) ≤ 16 := by omega
    unfold StV
    generalize 16 - (j + 1) = d at *
    generalize hn : T.length = n at *
    have HN := Lib.hid hn
    have hpc : ((p : Int) + 1) = ((p + 1 : Nat) : Int) := rfl
    obtain ⟨p1, hp1⟩ : ∃ p1, p + 1 = p1 := ⟨_, rfl⟩
    rw [hp1] at hpc hgr hdr HX
    have HPC := Lib.hid hpc
    have HDC := Lib.hid hdc
    have HGR := Lib.hid hgr
    have HRL : Hid ((T.drop p1).length = m) := Lib.hid (by rw [hdr, hrl])
    have hp1n : p1 ≤ n := by omega
    obtain ⟨K, P, X', F⟩ := t
    have e0 := cell3 c0 hgl
    have e1 := cell3 c1 hgl
    have e2 := cell3 c2 hgl
    have e3 := cell3 c3 hgl
    clear c0 c1 c2 c3 hg hgr k1 k2 k4 hA h hn hs40 HR hrl hpc hdc
    go_enter Tryz.func52, Tryz.ntmps52
    go_wp2_with fail
    rw [HPC.out, HDC.out]
    generalize hd1 : (16 - j : Nat) = d1 at *
    have his := ISt.new w #[.slice (some ⟨g, 0, none⟩) n cap, .int .i64 p1, .int .i64 d1, .int .i64 0] #[.int .i64 P, .int .i64 0, .string (S X'), .slice none 0 0, .int .u8 0] #[.int .i64 4, .int .i64 P, .string (S X'), .float .f64 F]
    have ht2 := HT.out.below his.bel hgl
    generalize ((((w.alloc (.cells #[.slice (some ⟨g, 0, none⟩) n cap, .int .i64 p1, .int .i64 d1, .int .i64 0] 59)).alloc (.cells #[.slice none 0 0, .int .i64 0, .int .i64 0, .int .i64 0] 59)).alloc (.cells #[.int .i64 0, .int .i64 0, .string ⟨#[]⟩, .slice none 0 0, .int .u8 0] 70)).alloc (.cells #[.int .i64 4, .int .i64 P, .string (S X'), .float .f64 F] 61)).alloc (.cells #[.int .i64 P, .int .i64 0, .string (S X'), .slice none 0 0, .int .u8 0] 70) = w2 at *
    have HIS := Lib.hid his
    have HT2 := Lib.hid ht2
    have hal := HAL.out w2 g cap p1 T (by omega) ht2 HGR.out
    rw [hd1, HN.out] at hal
    unfold StV at hal
    clear his ht2 e0 e1 e2 e3 HAL
    have hdd : ((d1 : Int) - 1) = (d : Int) := by have := HDC.out; omega
    have HDD := Lib.hid hdd
    have hd1p : 1 ≤ d1 ∧ d1 ≤ 17 := by have := HDC.out; omega
    clear hdd
    refine hal.mono ?_
    rintro e w3 ⟨hb3, han⟩
    have his3 := HIS.out.below hb3
    have ht3 := HT2.out.below hb3 HT2.out.lt
    have HIS3 := Lib.hid his3
    have HT3 := Lib.hid ht3
    clear his3 ht3 hal
    cases hx : pA j (T.drop p1) with
    | error q => exact absurd (show pA j (T.drop (p + 1)) = .error q by rw [hp1]; exact hx) (HW.out.1 j q rfl)
    | ok x =>
      obtain ⟨bs, r'⟩ := x
      rw [hx] at han
      obtain ⟨p', v, rfl, hv, rfl, hg', hl'⟩ := han
      obtain ⟨ao, cz, hvf⟩ := hv.form
      obtain ⟨m', hm'⟩ : ∃ m', m' = bs.length := ⟨_, rfl⟩
      rw [← hm'] at hvf
      subst hvf
      have HV := Lib.hid (hv.mono (A' := fun g => w.heap.size + 5 ≤ g) (fun g hg => Nat.le_trans HIS.out.size hg))
      have HXX := Lib.hid hx
      have HGP := Lib.hid hg'
      have HLP := Lib.hid hl'
      have hp'n : p' < n := by
        obtain ⟨t', r'', hd'⟩ := hg'.ne
        have := (drop_lt hd').1
        rw [HN.out] at this
        exact this
      rw [HN.out]
      unfold StV
      clear hx hg' hl' hm' hv
      have his := HIS3.out
      have l0 := his.b0.lt
      have l1 := his.b1.lt
      have l2 := his.b2.lt
      have l4 := his.b4.lt
      have x0 := his.b0.cell 0
      have x1 := his.b0.cell 1
      have x2 := his.b0.cell 2
      have x3 := his.b0.cell 3
      have y0 := his.b1.cell 0
      have y1 := his.b1.cell 1
      have y2 := his.b1.cell 2
      have y3 := his.b1.cell 3
      have z0 := his.b2.cell 0
      have z1 := his.b2.cell 1
      have z2 := his.b2.cell 2
      have z3 := his.b2.cell 3
      have z4 := his.b2.cell 4
      have i0 := his.b4.cell 0
      have i1 := his.b4.cell 1
      have i2 := his.b4.cell 2
      have i3 := his.b4.cell 3
      have i4 := his.b4.cell 4
      simp only [List.getElem?_toArray, List.getElem?_cons_zero, List.getElem?_cons_succ] at x0 x1 x2 x3 y0 y1 y2 y3 z0 z1 z2 z3 z4 i0 i1 i2 i3 i4
      have vx1 := his.b0.frozen 1
      have vx3 := his.b0.frozen 3
      have vy0 := his.b1.frozen 0
      have vy1 := his.b1.frozen 1
      have vy2 := his.b1.frozen 2
      have vy3 := his.b1.frozen 3
      have vz0 := his.b2.frozen 0
      have vz1 := his.b2.frozen 1
      have vz2 := his.b2.frozen 2
      have vz3 := his.b2.frozen 3
      have vz4 := his.b2.frozen 4
      have vi4 := his.b4.frozen 4
      clear his
      go_wp2_with fail
      clear l0 l1 l2 l4 x0 x1 x2 x3 y0 y1 y2 y3 z0 z1 z2 z3 z4 i0 i1 i2 i3 i4 vx1 vx3 vy0 vy1 vy2 vy3 vz0 vz1 vz2 vz3 vz4 vi4
      have hpe := rpass_any (w3.alloc (.cells #[.slice (some ⟨g, 0, none⟩) n cap, .int .i64 p', .int .i64 d1, .int .i64 0] 59)) g cap p' d1 T 41 (by decide) (HT3.out.below ((Below.refl _ _).alloc (Nat.le_refl _) _) HT3.out.lt) HGP.out
      rw [HN.out] at hpe
      unfold StV at hpe
      have hs41 : sg (T.drop p') = 41 := HW.out.2 j bs _ rfl (by rw [hp1]; exact HXX.out)
      clear HW
      rw [if_pos (show sg (T.drop p') = UInt8.toNat 41 from hs41)] at hpe
      obtain ⟨t', r'', hd', hst', hgr''⟩ := HGP.out.sg_tail (by omega)
      obtain ⟨_, _, hdr'⟩ := drop_lt hd'
      have hg2 : Good (T.drop (p' + 1)) := by rw [hdr']; exact hgr''
      have HX : Hid (X = .ok (.mk P 2 [] bs (opOf (T.drop (p' + 1))), opTl (T.drop (p' + 1)))) := Lib.hid (by rw [HX.out, HXX.out, show pShut 41 (.ok (bs, T.drop p')) = .ok (bs, (T.drop p').tail) from if_pos hs41, hd', hdr']; rfl)
      have HM : Hid ((T.drop (p' + 1)).length ≤ m) := Lib.hid (by have := HLP.out; rw [HRL.out, hd'] at this; rw [hdr']; simp at this; omega)
      obtain ⟨p1, hp1⟩ : ∃ p1, p' + 1 = p1 := ⟨_, rfl⟩
      rw [hp1] at hg2 HX HM hpe
      have HGR := Lib.hid hg2
      have hp1n : p1 ≤ n := by omega
      clear hd' hst' hgr'' hdr' hg2 hs41
      refine hpe.mono ?_
      rintro e w4 ⟨rfl, hb4⟩
      have his := (HIS3.out.below ((Below.refl _ _).alloc (Nat.le_refl _) _)).below hb4
      have ht4 := (HT3.out.below ((Below.refl _ _).alloc (Nat.le_refl _) _) HT3.out.lt).below hb4 (by rw [World.size_alloc]; have := HT3.out.lt; omega)
      have HV := Lib.hid ((HV.out.kp (Kp.alloc (fun _ => False) w3 (.cells #[.slice (some ⟨g, 0, none⟩) n cap, .int .i64 p', .int .i64 d1, .int .i64 0] 59)) (fun _ _ h => h)).kp (Kp.of_below (S := fun _ => False) hb4 (Nat.le_refl _)) (fun _ _ h => h))
      have HIS4 := Lib.hid his
      have HT4 := Lib.hid ht4
      clear hb4 hpe ht4
      have l0 := his.b0.lt
      have l1 := his.b1.lt
      have l2 := his.b2.lt
      have l4 := his.b4.lt
      have x0 := his.b0.cell 0
      have x1 := his.b0.cell 1
      have x2 := his.b0.cell 2
      have x3 := his.b0.cell 3
      have y0 := his.b1.cell 0
      have y1 := his.b1.cell 1
      have y2 := his.b1.cell 2
      have y3 := his.b1.cell 3
      have z0 := his.b2.cell 0
      have z1 := his.b2.cell 1
      have z2 := his.b2.cell 2
      have z3 := his.b2.cell 3
      have z4 := his.b2.cell 4
      have i0 := his.b4.cell 0
      have i1 := his.b4.cell 1
      have i2 := his.b4.cell 2
      have i3 := his.b4.cell 3
      have i4 := his.b4.cell 4
      simp only [List.getElem?_toArray, List.getElem?_cons_zero, List.getElem?_cons_succ] at x0 x1 x2 x3 y0 y1 y2 y3 z0 z1 z2 z3 z4 i0 i1 i2 i3 i4
      have vx1 := his.b0.frozen 1
      have vx3 := his.b0.frozen 3
      have vy0 := his.b1.frozen 0
      have vy1 := his.b1.frozen 1
      have vy2 := his.b1.frozen 2
      have vy3 := his.b1.frozen 3
      have vz0 := his.b2.frozen 0
      have vz1 := his.b2.frozen 1
      have vz2 := his.b2.frozen 2
      have vz3 := his.b2.frozen 3
      have vz4 := his.b2.frozen 4
      have vi4 := his.b4.frozen 4
      have k1 := his.b3.cell 1
      have l3 := his.b3.lt
      simp only [List.getElem?_toArray, List.getElem?_cons_zero, List.getElem?_cons_succ] at k1
      have vx0 := his.b0.frozen 0
      have vx2 := his.b0.frozen 2
      have vi0 := his.b4.frozen 0
      have vi1 := his.b4.frozen 1
      have vi2 := his.b4.frozen 2
      have vi3 := his.b4.frozen 3
      clear his
      go_upto_region 16 with fail
      rw [HDD.out]
      have his := HIS4.out.stores (.slice (some ⟨g, 0, none⟩) n cap) (.int .i64 p1) (.int .i64 d1) (.int .i64 0) (.int .i64 d) (.int .i64 P) (.int .i64 2) (.string ⟨#[]⟩) (.slice ao m' cz) (.int .u8 0)
      have hks : Kp (fun i => i = w.heap.size ∨ i = w.heap.size + 1 + 1 + 1 + 1) w4 ((((((((((w4.setCell ⟨w.heap.size, 0, none⟩ (.slice (some ⟨g, 0, none⟩) n cap)).setCell ⟨w.heap.size, 1, none⟩ (.int .i64 p1)).setCell ⟨w.heap.size, 2, none⟩ (.int .i64 d1)).setCell ⟨w.heap.size, 3, none⟩ (.int .i64 0)).setCell ⟨w.heap.size, 2, none⟩ (.int .i64 d)).setCell ⟨w.heap.size + 1 + 1 + 1 + 1, 0, none⟩ (.int .i64 P)).setCell ⟨w.heap.size + 1 + 1 + 1 + 1, 1, none⟩ (.int .i64 2)).setCell ⟨w.heap.size + 1 + 1 + 1 + 1, 2, none⟩ (.string ⟨#[]⟩)).setCell ⟨w.heap.size + 1 + 1 + 1 + 1, 3, none⟩ (.slice ao m' cz)).setCell ⟨w.heap.size + 1 + 1 + 1 + 1, 4, none⟩ (.int .u8 0)) := kp_stores _ _ _ _ _ _ _ _ _ _ _ _ _
      have ht2 := HT4.out.below (hks.below (n := w.heap.size) (by have := HIS4.out.size; omega) (fun i hi => by rcases hi with h | h <;> omega)) hgl
      have HV := Lib.hid (HV.out.kp hks (fun g hg h => by rcases h with h | h <;> omega))
      generalize ((((((((((w4.setCell ⟨w.heap.size, 0, none⟩ (.slice (some ⟨g, 0, none⟩) n cap)).setCell ⟨w.heap.size, 1, none⟩ (.int .i64 p1)).setCell ⟨w.heap.size, 2, none⟩ (.int .i64 d1)).setCell ⟨w.heap.size, 3, none⟩ (.int .i64 0)).setCell ⟨w.heap.size, 2, none⟩ (.int .i64 d)).setCell ⟨w.heap.size + 1 + 1 + 1 + 1, 0, none⟩ (.int .i64 P)).setCell ⟨w.heap.size + 1 + 1 + 1 + 1, 1, none⟩ (.int .i64 2)).setCell ⟨w.heap.size + 1 + 1 + 1 + 1, 2, none⟩ (.string ⟨#[]⟩)).setCell ⟨w.heap.size + 1 + 1 + 1 + 1, 3, none⟩ (.slice ao m' cz)).setCell ⟨w.heap.size + 1 + 1 + 1 + 1, 4, none⟩ (.int .u8 0)) = w2 at *
      clear l0 l1 l2 l4 x0 x1 x2 x3 y0 y1 y2 y3 z0 z1 z2 z3 z4 i0 i1 i2 i3 i4 vx1 vx3 vy0 vy1 vy2 vy3 vz0 vz1 vz2 vz3 vz4 vi4
      have HIS := Lib.hid his
      have HT2 := Lib.hid ht2
      clear k1 l3 vx0 vx2 vi0 vi1 vi2 vi3 ht2 hks
      have l0 := his.b0.lt
      have l1 := his.b1.lt
      have l2 := his.b2.lt
      have l4 := his.b4.lt
      have x0 := his.b0.cell 0
      have x1 := his.b0.cell 1
      have x2 := his.b0.cell 2
      have x3 := his.b0.cell 3
      have y0 := his.b1.cell 0
      have y1 := his.b1.cell 1
      have y2 := his.b1.cell 2
      have y3 := his.b1.cell 3
      have z0 := his.b2.cell 0
      have z1 := his.b2.cell 1
      have z2 := his.b2.cell 2
      have z3 := his.b2.cell 3
      have z4 := his.b2.cell 4
      have i0 := his.b4.cell 0
      have i1 := his.b4.cell 1
      have i2 := his.b4.cell 2
      have i3 := his.b4.cell 3
      have i4 := his.b4.cell 4
      simp only [List.getElem?_toArray, List.getElem?_cons_zero, List.getElem?_cons_succ] at x0 x1 x2 x3 y0 y1 y2 y3 z0 z1 z2 z3 z4 i0 i1 i2 i3 i4
      have vx1 := his.b0.frozen 1
      have vx3 := his.b0.frozen 3
      have vy0 := his.b1.frozen 0
      have vy1 := his.b1.frozen 1
      have vy2 := his.b1.frozen 2
      have vy3 := his.b1.frozen 3
      have vz0 := his.b2.frozen 0
      have vz1 := his.b2.frozen 1
      have vz2 := his.b2.frozen 2
      have vz3 := his.b2.frozen 3
      have vz4 := his.b2.frozen 4
      have vi4 := his.b4.frozen 4
      clear his
      go_wp2_with fail
      clear l0 l1 l2 l4 x0 x1 x2 x3 y0 y1 y2 y3 z0 z1 z2 z3 z4 i0 i1 i2 i3 i4 vx1 vx3 vy0 vy1 vy2 vy3 vz0 vz1 vz2 vz3 vz4 vi4
      have HSG := Lib.hid (fun w c hc h => rsign_any w g cap p1 d 0 T c hc h HGR.out)
      rw [HN.out] at HSG
      unfold StV at HSG
      by_cases ho : isOp (sg (T.drop p1)) = true
      · obtain ⟨ho0, ho1⟩ := isOp_le ho
        have hoy := op_yes ho
        obtain ⟨t2, r2, hd2, hst, hgr2⟩ := HGR.out.sg_tail ho0
        obtain ⟨hp2, _, hdr2⟩ := drop_lt hd2
        rw [HN.out] at hp2
        have hk4 : t2.kind = 4 := by
          by_cases h4 : t2.kind = 4
          · exact h4
          · unfold sgOf at hst
            rw [if_neg h4] at hst
            omega
        obtain ⟨c', hT2⟩ := HGR.out.sign' hd2 hk4
        have hcs : sg (T.drop p1) = c'.toNat := by
          rw [← hst]
          unfold sgOf
          rw [if_pos hk4, hT2]
          rfl
        have HO : Hid (X = .ok (.mk P 2 [] bs c'.toNat, T.drop (p1 + 1))) := Lib.hid (by rw [HX.out, hoy.1, hoy.2, hcs, hd2, hdr2]; rfl)
        have HG2 : Hid (Good (T.drop (p1 + 1))) := Lib.hid (by rw [hdr2]; exact hgr2)
        have HM2 : Hid ((T.drop (p1 + 1)).length ≤ m) := Lib.hid (by have := HM.out; rw [hd2] at this; rw [hdr2]; simp at this; omega)
        clear hoy hst hk4 hgr2 hdr2 ho ho0
        obtain ⟨K2, P2, X2, F2⟩ := t2
        have hT2 : X2 = [c'] := hT2
        rcases ho1 with h63 | h42 | h43
        · have s1 := HSG.out w2 63 (by decide) HT2.out
          rw [decide_eq_true (show sg (T.drop p1) = UInt8.toNat 63 from h63)] at s1
          refine s1.mono ?_
          rintro e w3 ⟨rfl, hb3⟩
          have his := HIS.out.below hb3
          have ht := HT2.out.below hb3 HT2.out.lt
          have HIS3 := Lib.hid his
          have HT3 := Lib.hid ht
          have HV := Lib.hid (HV.out.kp (Kp.of_below (S := fun _ => False) hb3 (Nat.le_refl _)) (fun _ _ h => h))
          clear s1 hb3 ht
          obtain ⟨q0, q1, q2, q3⟩ := HT3.out.tok hd2
          have hg5 := HT3.out.lt
          have hs1 : (S [c']).size = 1 := rfl
          have hs2 : (S [c'])[0].toNat = c'.toNat := rfl
          rw [hT2] at q2
          have l0 := his.b0.lt
          have l1 := his.b1.lt
          have l2 := his.b2.lt
          have l4 := his.b4.lt
          have x0 := his.b0.cell 0
          have x1 := his.b0.cell 1
          have x2 := his.b0.cell 2
          have x3 := his.b0.cell 3
          have y0 := his.b1.cell 0
          have y1 := his.b1.cell 1
          have y2 := his.b1.cell 2
          have y3 := his.b1.cell 3
          have z0 := his.b2.cell 0
          have z1 := his.b2.cell 1
          have z2 := his.b2.cell 2
          have z3 := his.b2.cell 3
          have z4 := his.b2.cell 4
          have i0 := his.b4.cell 0
          have i1 := his.b4.cell 1
          have i2 := his.b4.cell 2
          have i3 := his.b4.cell 3
          have i4 := his.b4.cell 4
          simp only [List.getElem?_toArray, List.getElem?_cons_zero, List.getElem?_cons_succ] at x0 x1 x2 x3 y0 y1 y2 y3 z0 z1 z2 z3 z4 i0 i1 i2 i3 i4
          have vx1 := his.b0.frozen 1
          have vx3 := his.b0.frozen 3
          have vy0 := his.b1.frozen 0
          have vy1 := his.b1.frozen 1
          have vy2 := his.b1.frozen 2
          have vy3 := his.b1.frozen 3
          have vz0 := his.b2.frozen 0
          have vz1 := his.b2.frozen 1
          have vz2 := his.b2.frozen 2
          have vz3 := his.b2.frozen 3
          have vz4 := his.b2.frozen 4
          have vi4 := his.b4.frozen 4
          clear his
          go_wp2_with fail
          go_region
          all_goals
            go_wp2
            have hke := kp_item_drew (((w3.setCell ⟨w.heap.size + 1 + 1 + 1 + 1, 4, none⟩ (.int .u8 c'.toNat)).setCell ⟨w.heap.size, 1, none⟩ (.int .i64 ((p1 : Int) + 1)))) (w.heap.size + 1) (w.heap.size + 1 + 1) (.slice (some ⟨g, 0, none⟩) n cap) (.int .i64 ((p1 : Int) + 1)) (.int .i64 d) (.int .i64 0) (.int .i64 P) (.int .i64 2) (.string ⟨#[]⟩) (.slice ao m' cz) (.int .u8 c'.toNat)
            refine bodyPost_ret (v := .tuple #[.agg #[.slice (some ⟨g, 0, none⟩) n cap, .int .i64 ((p1 : Int) + 1), .int .i64 d, .int .i64 0], .agg #[.int .i64 P, .int .i64 2, .string ⟨#[]⟩, .slice ao m' cz, .int .u8 c'.toNat]]) (by simp [results, Tryz.results52, go_sem, y0, y1, y2, y3, z0, z1, z2, z3, z4]) rfl ?_
            generalize ((((((((((((w3.setCell ⟨w.heap.size + 1 + 1 + 1 + 1, 4, none⟩ (.int .u8 c'.toNat)).setCell ⟨w.heap.size, 1, none⟩ (.int .i64 ((p1 : Int) + 1)))).setCell ⟨w.heap.size + 1, 0, none⟩ (.slice (some ⟨g, 0, none⟩) n cap)).setCell ⟨w.heap.size + 1, 1, none⟩ (.int .i64 ((p1 : Int) + 1))).setCell ⟨w.heap.size + 1, 2, none⟩ (.int .i64 d)).setCell ⟨w.heap.size + 1, 3, none⟩ (.int .i64 0)).setCell ⟨w.heap.size + 1 + 1, 0, none⟩ (.int .i64 P)).setCell ⟨w.heap.size + 1 + 1, 1, none⟩ (.int .i64 2)).setCell ⟨w.heap.size + 1 + 1, 2, none⟩ (.string ⟨#[]⟩)).setCell ⟨w.heap.size + 1 + 1, 3, none⟩ (.slice ao m' cz)).setCell ⟨w.heap.size + 1 + 1, 4, none⟩ (.int .u8 c'.toNat)).drew = wz at *
            have hbe := op_bel (w.heap.size + 1 + 1 + 1 + 1) w.heap.size (.int .u8 c'.toNat) (.int .i64 ((p1 : Int) + 1)) HIS3.out.bel (by omega) (Nat.le_refl _)
            refine ⟨hbe.trans (hke.below hbe.size (fun i hi => by rcases hi with h | h <;> (rw [h]; omega))), ?_⟩
            rw [HO.out, ← HN.out]
            have hv1 := HV.out.kp (kp_at w3 (w.heap.size + 1 + 1 + 1 + 1) 4 (.int .u8 c'.toNat)) (fun g hg => by show ¬ g = w.heap.size + 1 + 1 + 1 + 1; omega)
            have hv2 := hv1.kp (kp_at (w3.setCell ⟨w.heap.size + 1 + 1 + 1 + 1, 4, none⟩ (.int .u8 c'.toNat)) w.heap.size 1 (.int .i64 ((p1 : Int) + 1))) (fun g hg => by show ¬ g = w.heap.size; omega)
            have hv3 := hv2.kp hke (fun g hg h => by rcases h with h | h <;> omega)
            have hv4 := hv3.mono (A' := fun g => w.heap.size ≤ g) (fun g hg => Nat.le_trans (Nat.le_add_right _ 5) hg)
            clear hv1 hv2 hv3 hke hbe
            exact ⟨p1 + 1, .agg #[.int .i64 P, .int .i64 2, .string ⟨#[]⟩, .slice ao m' cz, .int .u8 c'.toNat], rfl, ⟨.slice ao m' cz, rfl, hv4⟩, rfl, HG2.out, HM2.out⟩

        · have s1 := HSG.out w2 63 (by decide) HT2.out
          rw [decide_eq_false (show ¬ sg (T.drop p1) = UInt8.toNat 63 from (by rw [h42]; decide))] at s1
          refine s1.mono ?_
          rintro e w3 ⟨rfl, hb3⟩
          have his := HIS.out.below hb3
          have ht := HT2.out.below hb3 HT2.out.lt
          have HIS3 := Lib.hid his
          have HT3 := Lib.hid ht
          have HV := Lib.hid (HV.out.kp (Kp.of_below (S := fun _ => False) hb3 (Nat.le_refl _)) (fun _ _ h => h))
          clear s1 hb3 ht
          have l0 := his.b0.lt
          have l1 := his.b1.lt
          have l2 := his.b2.lt
          have l4 := his.b4.lt
          have x0 := his.b0.cell 0
          have x1 := his.b0.cell 1
          have x2 := his.b0.cell 2
          have x3 := his.b0.cell 3
          have y0 := his.b1.cell 0
          have y1 := his.b1.cell 1
          have y2 := his.b1.cell 2
          have y3 := his.b1.cell 3
          have z0 := his.b2.cell 0
          have z1 := his.b2.cell 1
          have z2 := his.b2.cell 2
          have z3 := his.b2.cell 3
          have z4 := his.b2.cell 4
          have i0 := his.b4.cell 0
          have i1 := his.b4.cell 1
          have i2 := his.b4.cell 2
          have i3 := his.b4.cell 3
          have i4 := his.b4.cell 4
          simp only [List.getElem?_toArray, List.getElem?_cons_zero, List.getElem?_cons_succ] at x0 x1 x2 x3 y0 y1 y2 y3 z0 z1 z2 z3 z4 i0 i1 i2 i3 i4
          have vx1 := his.b0.frozen 1
          have vx3 := his.b0.frozen 3
          have vy0 := his.b1.frozen 0
          have vy1 := his.b1.frozen 1
          have vy2 := his.b1.frozen 2
          have vy3 := his.b1.frozen 3
          have vz0 := his.b2.frozen 0
          have vz1 := his.b2.frozen 1
          have vz2 := his.b2.frozen 2
          have vz3 := his.b2.frozen 3
          have vz4 := his.b2.frozen 4
          have vi4 := his.b4.frozen 4
          clear his
          go_wp2_with fail
          have s1 := HSG.out w3 42 (by decide) HT3.out
          rw [decide_eq_true (show sg (T.drop p1) = UInt8.toNat 42 from h42)] at s1
          refine s1.mono ?_
          clear l0 l1 l2 l4 x0 x1 x2 x3 y0 y1 y2 y3 z0 z1 z2 z3 z4 i0 i1 i2 i3 i4 vx1 vx3 vy0 vy1 vy2 vy3 vz0 vz1 vz2 vz3 vz4 vi4
          rintro e w4 ⟨rfl, hb3⟩
          have his := HIS3.out.below hb3
          have ht := HT3.out.below hb3 HT3.out.lt
          have HIS4 := Lib.hid his
          have HT4 := Lib.hid ht
          have HV := Lib.hid (HV.out.kp (Kp.of_below (S := fun _ => False) hb3 (Nat.le_refl _)) (fun _ _ h => h))
          clear s1 hb3 ht
          obtain ⟨q0, q1, q2, q3⟩ := HT4.out.tok hd2
          have hg5 := HT4.out.lt
          have hs1 : (S [c']).size = 1 := rfl
          have hs2 : (S [c'])[0].toNat = c'.toNat := rfl
          rw [hT2] at q2
          have l0 := his.b0.lt
          have l1 := his.b1.lt
          have l2 := his.b2.lt
          have l4 := his.b4.lt
          have x0 := his.b0.cell 0
          have x1 := his.b0.cell 1
          have x2 := his.b0.cell 2
          have x3 := his.b0.cell 3
          have y0 := his.b1.cell 0
          have y1 := his.b1.cell 1
          have y2 := his.b1.cell 2
          have y3 := his.b1.cell 3
          have z0 := his.b2.cell 0
          have z1 := his.b2.cell 1
          have z2 := his.b2.cell 2
          have z3 := his.b2.cell 3
          have z4 := his.b2.cell 4
          have i0 := his.b4.cell 0
          have i1 := his.b4.cell 1
          have i2 := his.b4.cell 2
          have i3 := his.b4.cell 3
          have i4 := his.b4.cell 4
          simp only [List.getElem?_toArray, List.getElem?_cons_zero, List.getElem?_cons_succ] at x0 x1 x2 x3 y0 y1 y2 y3 z0 z1 z2 z3 z4 i0 i1 i2 i3 i4
          have vx1 := his.b0.frozen 1
          have vx3 := his.b0.frozen 3
          have vy0 := his.b1.frozen 0
          have vy1 := his.b1.frozen 1
          have vy2 := his.b1.frozen 2
          have vy3 := his.b1.frozen 3
          have vz0 := his.b2.frozen 0
          have vz1 := his.b2.frozen 1
          have vz2 := his.b2.frozen 2
          have vz3 := his.b2.frozen 3
          have vz4 := his.b2.frozen 4
          have vi4 := his.b4.frozen 4
          clear his
          go_wp2_with fail
          go_region
          all_goals
            go_wp2
            have hke := kp_item_drew (((w4.setCell ⟨w.heap.size + 1 + 1 + 1 + 1, 4, none⟩ (.int .u8 c'.toNat)).setCell ⟨w.heap.size, 1, none⟩ (.int .i64 ((p1 : Int) + 1)))) (w.heap.size + 1) (w.heap.size + 1 + 1) (.slice (some ⟨g, 0, none⟩) n cap) (.int .i64 ((p1 : Int) + 1)) (.int .i64 d) (.int .i64 0) (.int .i64 P) (.int .i64 2) (.string ⟨#[]⟩) (.slice ao m' cz) (.int .u8 c'.toNat)
            refine bodyPost_ret (v := .tuple #[.agg #[.slice (some ⟨g, 0, none⟩) n cap, .int .i64 ((p1 : Int) + 1), .int .i64 d, .int .i64 0], .agg #[.int .i64 P, .int .i64 2, .string ⟨#[]⟩, .slice ao m' cz, .int .u8 c'.toNat]]) (by simp [results, Tryz.results52, go_sem, y0, y1, y2, y3, z0, z1, z2, z3, z4]) rfl ?_
            generalize ((((((((((((w4.setCell ⟨w.heap.size + 1 + 1 + 1 + 1, 4, none⟩ (.int .u8 c'.toNat)).setCell ⟨w.heap.size, 1, none⟩ (.int .i64 ((p1 : Int) + 1)))).setCell ⟨w.heap.size + 1, 0, none⟩ (.slice (some ⟨g, 0, none⟩) n cap)).setCell ⟨w.heap.size + 1, 1, none⟩ (.int .i64 ((p1 : Int) + 1))).setCell ⟨w.heap.size + 1, 2, none⟩ (.int .i64 d)).setCell ⟨w.heap.size + 1, 3, none⟩ (.int .i64 0)).setCell ⟨w.heap.size + 1 + 1, 0, none⟩ (.int .i64 P)).setCell ⟨w.heap.size + 1 + 1, 1, none⟩ (.int .i64 2)).setCell ⟨w.heap.size + 1 + 1, 2, none⟩ (.string ⟨#[]⟩)).setCell ⟨w.heap.size + 1 + 1, 3, none⟩ (.slice ao m' cz)).setCell ⟨w.heap.size + 1 + 1, 4, none⟩ (.int .u8 c'.toNat)).drew = wz at *
            have hbe := op_bel (w.heap.size + 1 + 1 + 1 + 1) w.heap.size (.int .u8 c'.toNat) (.int .i64 ((p1 : Int) + 1)) HIS4.out.bel (by omega) (Nat.le_refl _)
            refine ⟨hbe.trans (hke.below hbe.size (fun i hi => by rcases hi with h | h <;> (rw [h]; omega))), ?_⟩
            rw [HO.out, ← HN.out]
            have hv1 := HV.out.kp (kp_at w4 (w.heap.size + 1 + 1 + 1 + 1) 4 (.int .u8 c'.toNat)) (fun g hg => by show ¬ g = w.heap.size + 1 + 1 + 1 + 1; omega)
            have hv2 := hv1.kp (kp_at (w4.setCell ⟨w.heap.size + 1 + 1 + 1 + 1, 4, none⟩ (.int .u8 c'.toNat)) w.heap.size 1 (.int .i64 ((p1 : Int) + 1))) (fun g hg => by show ¬ g = w.heap.size; omega)
            have hv3 := hv2.kp hke (fun g hg h => by rcases h with h | h <;> omega)
            have hv4 := hv3.mono (A' := fun g => w.heap.size ≤ g) (fun g hg => Nat.le_trans (Nat.le_add_right _ 5) hg)
            clear hv1 hv2 hv3 hke hbe
            exact ⟨p1 + 1, .agg #[.int .i64 P, .int .i64 2, .string ⟨#[]⟩, .slice ao m' cz, .int .u8 c'.toNat], rfl, ⟨.slice ao m' cz, rfl, hv4⟩, rfl, HG2.out, HM2.out⟩

        · have s1 := HSG.out w2 63 (by decide) HT2.out
          rw [decide_eq_false (show ¬ sg (T.drop p1) = UInt8.toNat 63 from (by rw [h43]; decide))] at s1
          refine s1.mono ?_
          rintro e w3 ⟨rfl, hb3⟩
          have his := HIS.out.below hb3
          have ht := HT2.out.below hb3 HT2.out.lt
          have HIS3 := Lib.hid his
          have HT3 := Lib.hid ht
          have HV := Lib.hid (HV.out.kp (Kp.of_below (S := fun _ => False) hb3 (Nat.le_refl _)) (fun _ _ h => h))
          clear s1 hb3 ht
          have l0 := his.b0.lt
          have l1 := his.b1.lt
          have l2 := his.b2.lt
          have l4 := his.b4.lt
          have x0 := his.b0.cell 0
          have x1 := his.b0.cell 1
          have x2 := his.b0.cell 2
          have x3 := his.b0.cell 3
          have y0 := his.b1.cell 0
          have y1 := his.b1.cell 1
          have y2 := his.b1.cell 2
          have y3 := his.b1.cell 3
          have z0 := his.b2.cell 0
          have z1 := his.b2.cell 1
          have z2 := his.b2.cell 2
          have z3 := his.b2.cell 3
          have z4 := his.b2.cell 4
          have i0 := his.b4.cell 0
          have i1 := his.b4.cell 1
          have i2 := his.b4.cell 2
          have i3 := his.b4.cell 3
          have i4 := his.b4.cell 4
          simp only [List.getElem?_toArray, List.getElem?_cons_zero, List.getElem?_cons_succ] at x0 x1 x2 x3 y0 y1 y2 y3 z0 z1 z2 z3 z4 i0 i1 i2 i3 i4
          have vx1 := his.b0.frozen 1
          have vx3 := his.b0.frozen 3
          have vy0 := his.b1.frozen 0
          have vy1 := his.b1.frozen 1
          have vy2 := his.b1.frozen 2
          have vy3 := his.b1.frozen 3
          have vz0 := his.b2.frozen 0
          have vz1 := his.b2.frozen 1
          have vz2 := his.b2.frozen 2
          have vz3 := his.b2.frozen 3
          have vz4 := his.b2.frozen 4
          have vi4 := his.b4.frozen 4
          clear his
          go_wp2_with fail
          have s1 := HSG.out w3 42 (by decide) HT3.out
          rw [decide_eq_false (show ¬ sg (T.drop p1) = UInt8.toNat 42 from (by rw [h43]; decide))] at s1
          refine s1.mono ?_
          clear l0 l1 l2 l4 x0 x1 x2 x3 y0 y1 y2 y3 z0 z1 z2 z3 z4 i0 i1 i2 i3 i4 vx1 vx3 vy0 vy1 vy2 vy3 vz0 vz1 vz2 vz3 vz4 vi4
          rintro e w4 ⟨rfl, hb3⟩
          have his := HIS3.out.below hb3
          have ht := HT3.out.below hb3 HT3.out.lt
          have HIS4 := Lib.hid his
          have HT4 := Lib.hid ht
          have HV := Lib.hid (HV.out.kp (Kp.of_below (S := fun _ => False) hb3 (Nat.le_refl _)) (fun _ _ h => h))
          clear s1 hb3 ht
          have l0 := his.b0.lt
          have l1 := his.b1.lt
          have l2 := his.b2.lt
          have l4 := his.b4.lt
          have x0 := his.b0.cell 0
          have x1 := his.b0.cell 1
          have x2 := his.b0.cell 2
          have x3 := his.b0.cell 3
          have y0 := his.b1.cell 0
          have y1 := his.b1.cell 1
          have y2 := his.b1.cell 2
          have y3 := his.b1.cell 3
          have z0 := his.b2.cell 0
          have z1 := his.b2.cell 1
          have z2 := his.b2.cell 2
          have z3 := his.b2.cell 3
          have z4 := his.b2.cell 4
          have i0 := his.b4.cell 0
          have i1 := his.b4.cell 1
          have i2 := his.b4.cell 2
          have i3 := his.b4.cell 3
          have i4 := his.b4.cell 4
          simp only [List.getElem?_toArray, List.getElem?_cons_zero, List.getElem?_cons_succ] at x0 x1 x2 x3 y0 y1 y2 y3 z0 z1 z2 z3 z4 i0 i1 i2 i3 i4
          have vx1 := his.b0.frozen 1
          have vx3 := his.b0.frozen 3
          have vy0 := his.b1.frozen 0
          have vy1 := his.b1.frozen 1
          have vy2 := his.b1.frozen 2
          have vy3 := his.b1.frozen 3
          have vz0 := his.b2.frozen 0
          have vz1 := his.b2.frozen 1
          have vz2 := his.b2.frozen 2
          have vz3 := his.b2.frozen 3
          have vz4 := his.b2.frozen 4
          have vi4 := his.b4.frozen 4
          clear his
          go_wp2_with fail
          have s1 := HSG.out w4 43 (by decide) HT4.out
          rw [decide_eq_true (show sg (T.drop p1) = UInt8.toNat 43 from h43)] at s1
          refine s1.mono ?_
          clear l0 l1 l2 l4 x0 x1 x2 x3 y0 y1 y2 y3 z0 z1 z2 z3 z4 i0 i1 i2 i3 i4 vx1 vx3 vy0 vy1 vy2 vy3 vz0 vz1 vz2 vz3 vz4 vi4
          rintro e w5 ⟨rfl, hb3⟩
          have his := HIS4.out.below hb3
          have ht := HT4.out.below hb3 HT4.out.lt
          have HIS5 := Lib.hid his
          have HT5 := Lib.hid ht
          have HV := Lib.hid (HV.out.kp (Kp.of_below (S := fun _ => False) hb3 (Nat.le_refl _)) (fun _ _ h => h))
          clear s1 hb3 ht
          obtain ⟨q0, q1, q2, q3⟩ := HT5.out.tok hd2
          have hg5 := HT5.out.lt
          have hs1 : (S [c']).size = 1 := rfl
          have hs2 : (S [c'])[0].toNat = c'.toNat := rfl
          rw [hT2] at q2
          have l0 := his.b0.lt
          have l1 := his.b1.lt
          have l2 := his.b2.lt
          have l4 := his.b4.lt
          have x0 := his.b0.cell 0
          have x1 := his.b0.cell 1
          have x2 := his.b0.cell 2
          have x3 := his.b0.cell 3
          have y0 := his.b1.cell 0
          have y1 := his.b1.cell 1
          have y2 := his.b1.cell 2
          have y3 := his.b1.cell 3
          have z0 := his.b2.cell 0
          have z1 := his.b2.cell 1
          have z2 := his.b2.cell 2
          have z3 := his.b2.cell 3
          have z4 := his.b2.cell 4
          have i0 := his.b4.cell 0
          have i1 := his.b4.cell 1
          have i2 := his.b4.cell 2
          have i3 := his.b4.cell 3
          have i4 := his.b4.cell 4
          simp only [List.getElem?_toArray, List.getElem?_cons_zero, List.getElem?_cons_succ] at x0 x1 x2 x3 y0 y1 y2 y3 z0 z1 z2 z3 z4 i0 i1 i2 i3 i4
          have vx1 := his.b0.frozen 1
          have vx3 := his.b0.frozen 3
          have vy0 := his.b1.frozen 0
          have vy1 := his.b1.frozen 1
          have vy2 := his.b1.frozen 2
          have vy3 := his.b1.frozen 3
          have vz0 := his.b2.frozen 0
          have vz1 := his.b2.frozen 1
          have vz2 := his.b2.frozen 2
          have vz3 := his.b2.frozen 3
          have vz4 := his.b2.frozen 4
          have vi4 := his.b4.frozen 4
          clear his
          go_wp2_with fail
          go_region
          all_goals
            go_wp2
            have hke := kp_item_drew (((w5.setCell ⟨w.heap.size + 1 + 1 + 1 + 1, 4, none⟩ (.int .u8 c'.toNat)).setCell ⟨w.heap.size, 1, none⟩ (.int .i64 ((p1 : Int) + 1)))) (w.heap.size + 1) (w.heap.size + 1 + 1) (.slice (some ⟨g, 0, none⟩) n cap) (.int .i64 ((p1 : Int) + 1)) (.int .i64 d) (.int .i64 0) (.int .i64 P) (.int .i64 2) (.string ⟨#[]⟩) (.slice ao m' cz) (.int .u8 c'.toNat)
            refine bodyPost_ret (v := .tuple #[.agg #[.slice (some ⟨g, 0, none⟩) n cap, .int .i64 ((p1 : Int) + 1), .int .i64 d, .int .i64 0], .agg #[.int .i64 P, .int .i64 2, .string ⟨#[]⟩, .slice ao m' cz, .int .u8 c'.toNat]]) (by simp [results, Tryz.results52, go_sem, y0, y1, y2, y3, z0, z1, z2, z3, z4]) rfl ?_
            generalize ((((((((((((w5.setCell ⟨w.heap.size + 1 + 1 + 1 + 1, 4, none⟩ (.int .u8 c'.toNat)).setCell ⟨w.heap.size, 1, none⟩ (.int .i64 ((p1 : Int) + 1)))).setCell ⟨w.heap.size + 1, 0, none⟩ (.slice (some ⟨g, 0, none⟩) n cap)).setCell ⟨w.heap.size + 1, 1, none⟩ (.int .i64 ((p1 : Int) + 1))).setCell ⟨w.heap.size + 1, 2, none⟩ (.int .i64 d)).setCell ⟨w.heap.size + 1, 3, none⟩ (.int .i64 0)).setCell ⟨w.heap.size + 1 + 1, 0, none⟩ (.int .i64 P)).setCell ⟨w.heap.size + 1 + 1, 1, none⟩ (.int .i64 2)).setCell ⟨w.heap.size + 1 + 1, 2, none⟩ (.string ⟨#[]⟩)).setCell ⟨w.heap.size + 1 + 1, 3, none⟩ (.slice ao m' cz)).setCell ⟨w.heap.size + 1 + 1, 4, none⟩ (.int .u8 c'.toNat)).drew = wz at *
            have hbe := op_bel (w.heap.size + 1 + 1 + 1 + 1) w.heap.size (.int .u8 c'.toNat) (.int .i64 ((p1 : Int) + 1)) HIS5.out.bel (by omega) (Nat.le_refl _)
            refine ⟨hbe.trans (hke.below hbe.size (fun i hi => by rcases hi with h | h <;> (rw [h]; omega))), ?_⟩
            rw [HO.out, ← HN.out]
            have hv1 := HV.out.kp (kp_at w5 (w.heap.size + 1 + 1 + 1 + 1) 4 (.int .u8 c'.toNat)) (fun g hg => by show ¬ g = w.heap.size + 1 + 1 + 1 + 1; omega)
            have hv2 := hv1.kp (kp_at (w5.setCell ⟨w.heap.size + 1 + 1 + 1 + 1, 4, none⟩ (.int .u8 c'.toNat)) w.heap.size 1 (.int .i64 ((p1 : Int) + 1))) (fun g hg => by show ¬ g = w.heap.size; omega)
            have hv3 := hv2.kp hke (fun g hg h => by rcases h with h | h <;> omega)
            have hv4 := hv3.mono (A' := fun g => w.heap.size ≤ g) (fun g hg => Nat.le_trans (Nat.le_add_right _ 5) hg)
            clear hv1 hv2 hv3 hke hbe
            exact ⟨p1 + 1, .agg #[.int .i64 P, .int .i64 2, .string ⟨#[]⟩, .slice ao m' cz, .int .u8 c'.toNat], rfl, ⟨.slice ao m' cz, rfl, hv4⟩, rfl, HG2.out, HM2.out⟩

      · obtain ⟨n1, n2, n3⟩ := isOp_no ho
        have hoy := op_no ho
        have HO : Hid (X = .ok (.mk P 2 [] bs 0, T.drop p1)) := Lib.hid (by rw [HX.out, hoy.1, hoy.2])
        clear hoy ho
        have s1 := HSG.out w2 63 (by decide) HT2.out
        rw [decide_eq_false (show ¬ sg (T.drop p1) = UInt8.toNat 63 from n1)] at s1
        refine s1.mono ?_
        rintro e w3 ⟨rfl, hb3⟩
        have his := HIS.out.below hb3
        have ht := HT2.out.below hb3 HT2.out.lt
        have HIS3 := Lib.hid his
        have HT3 := Lib.hid ht
        have HV := Lib.hid (HV.out.kp (Kp.of_below (S := fun _ => False) hb3 (Nat.le_refl _)) (fun _ _ h => h))
        clear s1 hb3 ht
        have l0 := his.b0.lt
        have l1 := his.b1.lt
        have l2 := his.b2.lt
        have l4 := his.b4.lt
        have x0 := his.b0.cell 0
        have x1 := his.b0.cell 1
        have x2 := his.b0.cell 2
        have x3 := his.b0.cell 3
        have y0 := his.b1.cell 0
        have y1 := his.b1.cell 1
        have y2 := his.b1.cell 2
        have y3 := his.b1.cell 3
        have z0 := his.b2.cell 0
        have z1 := his.b2.cell 1
        have z2 := his.b2.cell 2
        have z3 := his.b2.cell 3
        have z4 := his.b2.cell 4
        have i0 := his.b4.cell 0
        have i1 := his.b4.cell 1
        have i2 := his.b4.cell 2
        have i3 := his.b4.cell 3
        have i4 := his.b4.cell 4
        simp only [List.getElem?_toArray, List.getElem?_cons_zero, List.getElem?_cons_succ] at x0 x1 x2 x3 y0 y1 y2 y3 z0 z1 z2 z3 z4 i0 i1 i2 i3 i4
        have vx1 := his.b0.frozen 1
        have vx3 := his.b0.frozen 3
        have vy0 := his.b1.frozen 0
        have vy1 := his.b1.frozen 1
        have vy2 := his.b1.frozen 2
        have vy3 := his.b1.frozen 3
        have vz0 := his.b2.frozen 0
        have vz1 := his.b2.frozen 1
        have vz2 := his.b2.frozen 2
        have vz3 := his.b2.frozen 3
        have vz4 := his.b2.frozen 4
        have vi4 := his.b4.frozen 4
        clear his
        go_wp2_with fail
        have s1 := HSG.out w3 42 (by decide) HT3.out
        rw [decide_eq_false (show ¬ sg (T.drop p1) = UInt8.toNat 42 from n2)] at s1
        refine s1.mono ?_
        clear l0 l1 l2 l4 x0 x1 x2 x3 y0 y1 y2 y3 z0 z1 z2 z3 z4 i0 i1 i2 i3 i4 vx1 vx3 vy0 vy1 vy2 vy3 vz0 vz1 vz2 vz3 vz4 vi4
        rintro e w4 ⟨rfl, hb3⟩
        have his := HIS3.out.below hb3
        have ht := HT3.out.below hb3 HT3.out.lt
        have HIS4 := Lib.hid his
        have HT4 := Lib.hid ht
        have HV := Lib.hid (HV.out.kp (Kp.of_below (S := fun _ => False) hb3 (Nat.le_refl _)) (fun _ _ h => h))
        clear s1 hb3 ht
        have l0 := his.b0.lt
        have l1 := his.b1.lt
        have l2 := his.b2.lt
        have l4 := his.b4.lt
        have x0 := his.b0.cell 0
        have x1 := his.b0.cell 1
        have x2 := his.b0.cell 2
        have x3 := his.b0.cell 3
        have y0 := his.b1.cell 0
        have y1 := his.b1.cell 1
        have y2 := his.b1.cell 2
        have y3 := his.b1.cell 3
        have z0 := his.b2.cell 0
        have z1 := his.b2.cell 1
        have z2 := his.b2.cell 2
        have z3 := his.b2.cell 3
        have z4 := his.b2.cell 4
        have i0 := his.b4.cell 0
        have i1 := his.b4.cell 1
        have i2 := his.b4.cell 2
        have i3 := his.b4.cell 3
        have i4 := his.b4.cell 4
        simp only [List.getElem?_toArray, List.getElem?_cons_zero, List.getElem?_cons_succ] at x0 x1 x2 x3 y0 y1 y2 y3 z0 z1 z2 z3 z4 i0 i1 i2 i3 i4
        have vx1 := his.b0.frozen 1
        have vx3 := his.b0.frozen 3
        have vy0 := his.b1.frozen 0
        have vy1 := his.b1.frozen 1
        have vy2 := his.b1.frozen 2
        have vy3 := his.b1.frozen 3
        have vz0 := his.b2.frozen 0
        have vz1 := his.b2.frozen 1
        have vz2 := his.b2.frozen 2
        have vz3 := his.b2.frozen 3
        have vz4 := his.b2.frozen 4
        have vi4 := his.b4.frozen 4
        clear his
        go_wp2_with fail
        have s1 := HSG.out w4 43 (by decide) HT4.out
        rw [decide_eq_false (show ¬ sg (T.drop p1) = UInt8.toNat 43 from n3)] at s1
        refine s1.mono ?_
        clear l0 l1 l2 l4 x0 x1 x2 x3 y0 y1 y2 y3 z0 z1 z2 z3 z4 i0 i1 i2 i3 i4 vx1 vx3 vy0 vy1 vy2 vy3 vz0 vz1 vz2 vz3 vz4 vi4
        rintro e w5 ⟨rfl, hb3⟩
        have his := HIS4.out.below hb3
        have ht := HT4.out.below hb3 HT4.out.lt
        have HIS5 := Lib.hid his
        have HT5 := Lib.hid ht
        have HV := Lib.hid (HV.out.kp (Kp.of_below (S := fun _ => False) hb3 (Nat.le_refl _)) (fun _ _ h => h))
        clear s1 hb3 ht
        have l0 := his.b0.lt
        have l1 := his.b1.lt
        have l2 := his.b2.lt
        have l4 := his.b4.lt
        have x0 := his.b0.cell 0
        have x1 := his.b0.cell 1
        have x2 := his.b0.cell 2
        have x3 := his.b0.cell 3
        have y0 := his.b1.cell 0
        have y1 := his.b1.cell 1
        have y2 := his.b1.cell 2
        have y3 := his.b1.cell 3
        have z0 := his.b2.cell 0
        have z1 := his.b2.cell 1
        have z2 := his.b2.cell 2
        have z3 := his.b2.cell 3
        have z4 := his.b2.cell 4
        have i0 := his.b4.cell 0
        have i1 := his.b4.cell 1
        have i2 := his.b4.cell 2
        have i3 := his.b4.cell 3
        have i4 := his.b4.cell 4
        simp only [List.getElem?_toArray, List.getElem?_cons_zero, List.getElem?_cons_succ] at x0 x1 x2 x3 y0 y1 y2 y3 z0 z1 z2 z3 z4 i0 i1 i2 i3 i4
        have vx1 := his.b0.frozen 1
        have vx3 := his.b0.frozen 3
        have vy0 := his.b1.frozen 0
        have vy1 := his.b1.frozen 1
        have vy2 := his.b1.frozen 2
        have vy3 := his.b1.frozen 3
        have vz0 := his.b2.frozen 0
        have vz1 := his.b2.frozen 1
        have vz2 := his.b2.frozen 2
        have vz3 := his.b2.frozen 3
        have vz4 := his.b2.frozen 4
        have vi4 := his.b4.frozen 4
        clear his
        go_wp2_with fail
        go_region
        all_goals
          go_wp2
          have hke := kp_item_drew (w5) (w.heap.size + 1) (w.heap.size + 1 + 1) (.slice (some ⟨g, 0, none⟩) n cap) (.int .i64 p1) (.int .i64 d) (.int .i64 0) (.int .i64 P) (.int .i64 2) (.string ⟨#[]⟩) (.slice ao m' cz) (.int .u8 0)
          refine bodyPost_ret (v := .tuple #[.agg #[.slice (some ⟨g, 0, none⟩) n cap, .int .i64 p1, .int .i64 d, .int .i64 0], .agg #[.int .i64 P, .int .i64 2, .string ⟨#[]⟩, .slice ao m' cz, .int .u8 0]]) (by simp [results, Tryz.results52, go_sem, y0, y1, y2, y3, z0, z1, z2, z3, z4]) rfl ?_
          generalize ((((((((((w5).setCell ⟨w.heap.size + 1, 0, none⟩ (.slice (some ⟨g, 0, none⟩) n cap)).setCell ⟨w.heap.size + 1, 1, none⟩ (.int .i64 p1)).setCell ⟨w.heap.size + 1, 2, none⟩ (.int .i64 d)).setCell ⟨w.heap.size + 1, 3, none⟩ (.int .i64 0)).setCell ⟨w.heap.size + 1 + 1, 0, none⟩ (.int .i64 P)).setCell ⟨w.heap.size + 1 + 1, 1, none⟩ (.int .i64 2)).setCell ⟨w.heap.size + 1 + 1, 2, none⟩ (.string ⟨#[]⟩)).setCell ⟨w.heap.size + 1 + 1, 3, none⟩ (.slice ao m' cz)).setCell ⟨w.heap.size + 1 + 1, 4, none⟩ (.int .u8 0)).drew = wz at *
          have hbe := HIS5.out.bel
          refine ⟨hbe.trans (hke.below hbe.size (fun i hi => by rcases hi with h | h <;> (rw [h]; omega))), ?_⟩
          rw [HO.out, ← HN.out]
          have hv3 := HV.out.kp hke (fun g hg h => by rcases h with h | h <;> omega)
          have hv4 := hv3.mono (A' := fun g => w.heap.size ≤ g) (fun g hg => Nat.le_trans (Nat.le_add_right _ 5) hg)
          clear hv3 hke hbe
          exact ⟨p1, .agg #[.int .i64 P, .int .i64 2, .string ⟨#[]⟩, .slice ao m' cz, .int .u8 0], rfl, ⟨.slice ao m' cz, rfl, hv4⟩, rfl, HGR.out, HM.out⟩
end Go.Proofs.YtdddbkghleblhaaGreatDoor.lx
namespace Go.Proofs.YtdddbkghleblhaaGreatDoor.lx
open Go.ChangeShapes Go.WideShapes Go.ChangeAt Go.RowKit
set_option linter.unusedVariables false
attribute [local go_sem] run_store_float
set_option maxRecDepth 100000 in
set_option maxHeartbeats 8000000 in
theorem ritem_open (k : Nat) (hA : ∀ j, k = j + 1 → RAltsOk j) (w : World) (g cap p : Nat) (T : List Tok) (hk : k ≤ 16) (h : TAt w g cap T) (hg : Good (T.drop p)) (ha : atIt (hd (T.drop p)) = true) (t : Tok) (r : List Tok) (hd : T.drop p = t :: r) (k1 : ¬ t.kind = 1) (k2 : ¬ t.kind = 2) (hz : k ≠ 0) (hw : (∀ j q, k = j + 1 → pA j (T.drop (p + 1)) = .error q → False) ∧ ∀ j bs r', k = j + 1 → pA j (T.drop (p + 1)) = .ok (bs, r') → ¬ sg r' = 41) : Calls Tryz.prog 52 #[StV g T.length cap p (16 - k) 0] w (AnsR (ItmV k w.heap.size) ItmF g cap (16 - k) T ((T.drop p).length - 1) w (pItem (pSub k) (T.drop p))) := by
  obtain ⟨hlt, hgt, hdr⟩ := drop_lt hd
  obtain ⟨c0, c1, c2, c3⟩ := h.tok hd
  have hgl := h.lt
  have hlen := h.len
  have hcl := h.capl
  have hcm := h.capm
  have HT := Lib.hid h
  have HG := Lib.hid hg
  unfold maxLen at hcm
  rw [hd] at ha ⊢
  have hs40 : sgOf t = 40 := by
    have ha : (t.kind == 1 || t.kind == 2 || sgOf t == 40) = true := ha
    rw [beq_false_of_ne k1, beq_false_of_ne k2] at ha
    simpa using ha
  have k4 : t.kind = 4 := by
    unfold sgOf at hs40
    by_cases h4 : t.kind = 4
    · exact h4
    · rw [if_neg h4] at hs40
      omega
  have hgr : Good (T.drop (p + 1)) := by rw [hdr]; rw [hd] at hg; exact hg.tail (by omega)
  have HR : Hid (pItem (pSub k) (t :: r) = match pSub k (t :: r) with
    | .error e => .error e
    | .ok (bs, q) => .ok (.mk t.at_ 2 [] bs (opOf q), opTl q)) := Lib.hid ((if_neg k1).trans (if_neg k2))
  generalize pItem (pSub k) (t :: r) = X at *
  have hat : (T.getD p ⟨0, 0, [], 0⟩).at_ = t.at_ := by rw [hgt]
  have HQA := Lib.hid hat
  replace c0 : w.cell? ⟨g, p * 4, none⟩ = some (.int .i64 4) := by rw [c0, k4]; rfl
  have hrl : (t :: r).length - 1 = r.length := rfl
  generalize (t :: r).length - 1 = m at *
  clear hat ha
  have HW := Lib.hid hw
  clear hw
  cases k with
  | zero => exact absurd rfl hz
  | succ j =>
    have HAL := Lib.hid (hA j rfl)
    have HX : Hid (X = match pShut 41 (pA j (T.drop (p + 1))) with
      | .error e => .error e
      | .ok (bs, q) => .ok (.mk t.at_ 2 [] bs (opOf q), opTl q)) := Lib.hid (by rw [hdr]; exact HR.out)
    have hne : (((16 - (j + 1) : Nat) : Int) == 16) = false := by rw [beq_eq_false_iff_ne]; omega
    have hdc : (((16 - (j + 1) : Nat) : Int) + 1) = ((16 - j : Nat) : Int) := by omega
    have hd16 : 16 - (j + 1) ≤ 16 := by omega
    unfold StV
    generalize 16 - (j + 1) = d at *
    generalize hn : T.length = n at *
    have HN := Lib.hid hn
    have hpc : ((p : Int) + 1) = ((p + 1 : Nat) : Int) := rfl
    obtain ⟨p1, hp1⟩ : ∃ p1, p + 1 = p1 := ⟨_, rfl⟩
    rw [hp1] at hpc hgr hdr HX
    have HPC := Lib.hid hpc
    have HDC := Lib.hid hdc
    have HGR := Lib.hid hgr
    have HRL : Hid ((T.drop p1).length = m) := Lib.hid (by rw [hdr, hrl])
    have hp1n : p1 ≤ n := by omega
    obtain ⟨K, P, X', F⟩ := t
    have e0 := cell3 c0 hgl
    have e1 := cell3 c1 hgl
    have e2 := cell3 c2 hgl
    have e3 := cell3 c3 hgl
    clear c0 c1 c2 c3 hg hgr k1 k2 k4 hA h hn hs40 HR hrl hpc hdc
    go_enter Tryz.func52, Tryz.ntmps52
    go_wp2_with fail
    rw [HPC.out, HDC.out]
    generalize hd1 : (16 - j : Nat) = d1 at *
    have his := ISt.new w #[.slice (some ⟨g, 0, none⟩) n cap, .int .i64 p1, .int .i64 d1, .int .i64 0] #[.int .i64 P, .int .i64 0, .string (S X'), .slice none 0 0, .int .u8 0] #[.int .i64 4, .int .i64 P, .string (S X'), .float .f64 F]
    have ht2 := HT.out.below his.bel hgl
    generalize ((((w.alloc (.cells #[.slice (some ⟨g, 0, none⟩) n cap, .int .i64 p1, .int .i64 d1, .int .i64 0] 59)).alloc (.cells #[.slice none 0 0, .int .i64 0, .int .i64 0, .int .i64 0] 59)).alloc (.cells #[.int .i64 0, .int .i64 0, .string ⟨#[]⟩, .slice none 0 0, .int .u8 0] 70)).alloc (.cells #[.int .i64 4, .int .i64 P, .string (S X'), .float .f64 F] 61)).alloc (.cells #[.int .i64 P, .int .i64 0, .string (S X'), .slice none 0 0, .int .u8 0] 70) = w2 at *
    have HIS := Lib.hid his
    have HT2 := Lib.hid ht2
    have hal := HAL.out w2 g cap p1 T (by omega) ht2 HGR.out
    rw [hd1, HN.out] at hal
    unfold StV at hal
    clear his ht2 e0 e1 e2 e3 HAL
    have hdd : ((d1 : Int) - 1) = (d : Int) := by have := HDC.out; omega
    have HDD := Lib.hid hdd
    have hd1p : 1 ≤ d1 ∧ d1 ≤ 17 := by have := HDC.out; omega
    clear hdd
    refine hal.mono ?_
    rintro e w3 ⟨hb3, han⟩
    have his3 := HIS.out.below hb3
    have ht3 := HT2.out.below hb3 HT2.out.lt
    have HIS3 := Lib.hid his3
    have HT3 := Lib.hid ht3
    clear his3 ht3 hal
    cases hx : pA j (T.drop p1) with
    | error q => exact absurd (show pA j (T.drop (p + 1)) = .error q by rw [hp1]; exact hx) (HW.out.1 j q rfl)
    | ok x =>
      obtain ⟨bs, r'⟩ := x
      rw [hx] at han
      obtain ⟨p', v, rfl, hv, rfl, hg', hl'⟩ := han
      obtain ⟨ao, cz, hvf⟩ := hv.form
      obtain ⟨m', hm'⟩ : ∃ m', m' = bs.length := ⟨_, rfl⟩
      rw [← hm'] at hvf
      subst hvf
      have HV := Lib.hid (hv.mono (A' := fun g => w.heap.size + 5 ≤ g) (fun g hg => Nat.le_trans HIS.out.size hg))
      have HXX := Lib.hid hx
      have HGP := Lib.hid hg'
      have HLP := Lib.hid hl'
      have hp'n : p' < n := by
        obtain ⟨t', r'', hd'⟩ := hg'.ne
        have := (drop_lt hd').1
        rw [HN.out] at this
        exact this
      rw [HN.out]
      unfold StV
      clear hx hg' hl' hm' hv
      have his := HIS3.out
      have l0 := his.b0.lt
      have l1 := his.b1.lt
      have l2 := his.b2.lt
      have l4 := his.b4.lt
      have x0 := his.b0.cell 0
      have x1 := his.b0.cell 1
      have x2 := his.b0.cell 2
      have x3 := his.b0.cell 3
      have y0 := his.b1.cell 0
      have y1 := his.b1.cell 1
      have y2 := his.b1.cell 2
      have y3 := his.b1.cell 3
      have z0 := his.b2.cell 0
      have z1 := his.b2.cell 1
      have z2 := his.b2.cell 2
      have z3 := his.b2.cell 3
      have z4 := his.b2.cell 4
      have i0 := his.b4.cell 0
      have i1 := his.b4.cell 1
      have i2 := his.b4.cell 2
      have i3 := his.b4.cell 3
      have i4 := his.b4.cell 4
      simp only [List.getElem?_toArray, List.getElem?_cons_zero, List.getElem?_cons_succ] at x0 x1 x2 x3 y0 y1 y2 y3 z0 z1 z2 z3 z4 i0 i1 i2 i3 i4
      have vx1 := his.b0.frozen 1
      have vx3 := his.b0.frozen 3
      have vy0 := his.b1.frozen 0
      have vy1 := his.b1.frozen 1
      have vy2 := his.b1.frozen 2
      have vy3 := his.b1.frozen 3
      have vz0 := his.b2.frozen 0
      have vz1 := his.b2.frozen 1
      have vz2 := his.b2.frozen 2
      have vz3 := his.b2.frozen 3
      have vz4 := his.b2.frozen 4
      have vi4 := his.b4.frozen 4
      clear his
      go_wp2_with fail
      clear l0 l1 l2 l4 x0 x1 x2 x3 y0 y1 y2 y3 z0 z1 z2 z3 z4 i0 i1 i2 i3 i4 vx1 vx3 vy0 vy1 vy2 vy3 vz0 vz1 vz2 vz3 vz4 vi4
      have hpe := rpass_any (w3.alloc (.cells #[.slice (some ⟨g, 0, none⟩) n cap, .int .i64 p', .int .i64 d1, .int .i64 0] 59)) g cap p' d1 T 41 (by decide) (HT3.out.below ((Below.refl _ _).alloc (Nat.le_refl _) _) HT3.out.lt) HGP.out
      rw [HN.out] at hpe
      unfold StV at hpe
      have hs41 : ¬ sg (T.drop p') = 41 := HW.out.2 j bs _ rfl (by rw [hp1]; exact HXX.out)
      clear HW
      rw [if_neg (show ¬ sg (T.drop p') = UInt8.toNat 41 from hs41)] at hpe
      have HX2 : Hid (X = .error (5, (lx.hd (T.drop p')).at_)) := Lib.hid (by rw [HX.out, HXX.out, show pShut 41 (.ok (bs, T.drop p')) = .error (5, (lx.hd (T.drop p')).at_) from if_neg hs41])
      have HQ : Hid ((T.getD p' ⟨0, 0, [], 0⟩).at_ = (lx.hd (T.drop p')).at_) := Lib.hid (by
        obtain ⟨t', r'', hd'⟩ := HGP.out.ne
        rw [(drop_lt hd').2.1, hd']
        rfl)
      have HP' : Hid (p' < T.length) := Lib.hid (by rw [HN.out]; exact hp'n)
      clear hs41
      refine hpe.mono ?_
      rintro e w4 ⟨rfl, hb4⟩
      have his := (HIS3.out.below ((Below.refl _ _).alloc (Nat.le_refl _) _)).below hb4
      have HIS4 := Lib.hid his
      clear hb4 hpe
      have l0 := his.b0.lt
      have l1 := his.b1.lt
      have l2 := his.b2.lt
      have l4 := his.b4.lt
      have x0 := his.b0.cell 0
      have x1 := his.b0.cell 1
      have x2 := his.b0.cell 2
      have x3 := his.b0.cell 3
      have y0 := his.b1.cell 0
      have y1 := his.b1.cell 1
      have y2 := his.b1.cell 2
      have y3 := his.b1.cell 3
      have z0 := his.b2.cell 0
      have z1 := his.b2.cell 1
      have z2 := his.b2.cell 2
      have z3 := his.b2.cell 3
      have z4 := his.b2.cell 4
      have i0 := his.b4.cell 0
      have i1 := his.b4.cell 1
      have i2 := his.b4.cell 2
      have i3 := his.b4.cell 3
      have i4 := his.b4.cell 4
      simp only [List.getElem?_toArray, List.getElem?_cons_zero, List.getElem?_cons_succ] at x0 x1 x2 x3 y0 y1 y2 y3 z0 z1 z2 z3 z4 i0 i1 i2 i3 i4
      have vx1 := his.b0.frozen 1
      have vx3 := his.b0.frozen 3
      have vy0 := his.b1.frozen 0
      have vy1 := his.b1.frozen 1
      have vy2 := his.b1.frozen 2
      have vy3 := his.b1.frozen 3
      have vz0 := his.b2.frozen 0
      have vz1 := his.b2.frozen 1
      have vz2 := his.b2.frozen 2
      have vz3 := his.b2.frozen 3
      have vz4 := his.b2.frozen 4
      have vi4 := his.b4.frozen 4
      have k1 := his.b3.cell 1
      have l3 := his.b3.lt
      simp only [List.getElem?_toArray, List.getElem?_cons_zero, List.getElem?_cons_succ] at k1
      have vx0 := his.b0.frozen 0
      have vx2 := his.b0.frozen 2
      have vi0 := his.b4.frozen 0
      have vi1 := his.b4.frozen 1
      have vi2 := his.b4.frozen 2
      have vi3 := his.b4.frozen 3
      clear his
      go_wp2_with fail
      rw [HDD.out]
      have his := HIS4.out.stores (.slice (some ⟨g, 0, none⟩) n cap) (.int .i64 p') (.int .i64 d1) (.int .i64 5) (.int .i64 d) (.int .i64 P) (.int .i64 2) (.string ⟨#[]⟩) (.slice ao m' cz) (.int .u8 0)
      generalize ((((((((((w4.setCell ⟨w.heap.size, 0, none⟩ (.slice (some ⟨g, 0, none⟩) n cap)).setCell ⟨w.heap.size, 1, none⟩ (.int .i64 p')).setCell ⟨w.heap.size, 2, none⟩ (.int .i64 d1)).setCell ⟨w.heap.size, 3, none⟩ (.int .i64 5)).setCell ⟨w.heap.size, 2, none⟩ (.int .i64 d)).setCell ⟨w.heap.size + 1 + 1 + 1 + 1, 0, none⟩ (.int .i64 P)).setCell ⟨w.heap.size + 1 + 1 + 1 + 1, 1, none⟩ (.int .i64 2)).setCell ⟨w.heap.size + 1 + 1 + 1 + 1, 2, none⟩ (.string ⟨#[]⟩)).setCell ⟨w.heap.size + 1 + 1 + 1 + 1, 3, none⟩ (.slice ao m' cz)).setCell ⟨w.heap.size + 1 + 1 + 1 + 1, 4, none⟩ (.int .u8 0)) = w5 at *
      clear l0 l1 l2 l4 x0 x1 x2 x3 y0 y1 y2 y3 z0 z1 z2 z3 z4 i0 i1 i2 i3 i4 vx1 vx3 vy0 vy1 vy2 vy3 vz0 vz1 vz2 vz3 vz4 vi4
      have HIS5 := Lib.hid his
      clear k1 l3 vx0 vx2 vi0 vi1 vi2 vi3
      have l0 := his.b0.lt
      have l1 := his.b1.lt
      have l2 := his.b2.lt
      have l4 := his.b4.lt
      have x0 := his.b0.cell 0
      have x1 := his.b0.cell 1
      have x2 := his.b0.cell 2
      have x3 := his.b0.cell 3
      have y0 := his.b1.cell 0
      have y1 := his.b1.cell 1
      have y2 := his.b1.cell 2
      have y3 := his.b1.cell 3
      have z0 := his.b2.cell 0
      have z1 := his.b2.cell 1
      have z2 := his.b2.cell 2
      have z3 := his.b2.cell 3
      have z4 := his.b2.cell 4
      have i0 := his.b4.cell 0
      have i1 := his.b4.cell 1
      have i2 := his.b4.cell 2
      have i3 := his.b4.cell 3
      have i4 := his.b4.cell 4
      simp only [List.getElem?_toArray, List.getElem?_cons_zero, List.getElem?_cons_succ] at x0 x1 x2 x3 y0 y1 y2 y3 z0 z1 z2 z3 z4 i0 i1 i2 i3 i4
      have vx1 := his.b0.frozen 1
      have vx3 := his.b0.frozen 3
      have vy0 := his.b1.frozen 0
      have vy1 := his.b1.frozen 1
      have vy2 := his.b1.frozen 2
      have vy3 := his.b1.frozen 3
      have vz0 := his.b2.frozen 0
      have vz1 := his.b2.frozen 1
      have vz2 := his.b2.frozen 2
      have vz3 := his.b2.frozen 3
      have vz4 := his.b2.frozen 4
      have vi4 := his.b4.frozen 4
      clear his
      go_region
      all_goals
        go_wp2
        have hke := kp_item_drew (w5) (w.heap.size + 1) (w.heap.size + 1 + 1) (.slice (some ⟨g, 0, none⟩) n cap) (.int .i64 p') (.int .i64 d) (.int .i64 5) (.int .i64 P) (.int .i64 2) (.string ⟨#[]⟩) (.slice ao m' cz) (.int .u8 0)
        refine bodyPost_ret (v := .tuple #[.agg #[.slice (some ⟨g, 0, none⟩) n cap, .int .i64 p', .int .i64 d, .int .i64 5], .agg #[.int .i64 P, .int .i64 2, .string ⟨#[]⟩, .slice ao m' cz, .int .u8 0]]) (by simp [results, Tryz.results52, go_sem, y0, y1, y2, y3, z0, z1, z2, z3, z4]) rfl ?_
        have hbe := HIS5.out.bel
        refine ⟨hbe.trans (hke.below hbe.size (fun i hi => by rcases hi with h | h <;> (rw [h]; omega))), ?_⟩
        rw [HX2.out, ← HN.out]
        exact ⟨p', _, rfl, ⟨P, 2, ⟨#[]⟩, ao, m', cz, 0, rfl⟩, (by show 0 < 5; decide), HP'.out, HQ.out⟩
theorem ritem_any (k : Nat) (hA : ∀ j, k = j + 1 → RAltsOk j) : RItemOk k := by
  intro w g cap p T hk h hg ha
  obtain ⟨t, r, hd⟩ := hg.ne
  by_cases k1 : t.kind = 1
  · exact ritem_name k hA w g cap p T hk h hg ha t r hd k1
  by_cases k2 : t.kind = 2
  · exact ritem_quote k hA w g cap p T hk h hg ha t r hd k1 k2
  by_cases hz : k = 0
  · exact ritem_deep k hA w g cap p T hk h hg ha t r hd k1 k2 hz
  obtain ⟨j0, rfl⟩ : ∃ j, k = j + 1 := ⟨k - 1, by omega⟩
  cases hx : pA j0 (T.drop (p + 1)) with
  | error q => exact ritem_err (j0 + 1) hA w g cap p T hk h hg ha t r hd k1 k2 hz (fun j x e hy => by
      obtain rfl : j0 = j := by omega
      rw [hx] at hy
      cases hy)
  | ok x =>
    obtain ⟨bs, r'⟩ := x
    have he : ∀ j q, j0 + 1 = j + 1 → pA j (T.drop (p + 1)) = .error q → False := fun j q e hy => by
      obtain rfl : j0 = j := by omega
      rw [hx] at hy
      cases hy
    have ho : ∀ j bs' r'', j0 + 1 = j + 1 → pA j (T.drop (p + 1)) = .ok (bs', r'') → r'' = r' := fun j bs' r'' e hy => by
      obtain rfl : j0 = j := by omega
      rw [hx] at hy
      injection hy with hy
      injection hy with h1 h2
      exact h2.symm
    by_cases hs : sg r' = 41
    · exact ritem_shut (j0 + 1) hA w g cap p T hk h hg ha t r hd k1 k2 hz ⟨he, fun j bs' r'' e hy => by rw [ho j bs' r'' e hy]; exact hs⟩
    · exact ritem_open (j0 + 1) hA w g cap p T hk h hg ha t r hd k1 k2 hz ⟨he, fun j bs' r'' e hy => by rw [ho j bs' r'' e hy]; exact hs⟩
end Go.Proofs.YtdddbkghleblhaaGreatDoor.lx
namespace Go.Proofs.YtdddbkghleblhaaGreatDoor.lx
open Go.ChangeShapes Go.WideShapes Go.ChangeAt Go.RowKit
set_option linter.unusedVariables false
/-! the document's Parse, whole -/
theorem ralts_all : ∀ k, RAltsOk k
  | 0 => ralts_any 0 (ralt_any 0 (ritem_any 0 (fun j e => by omega)))
  | k + 1 => ralts_any (k + 1) (ralt_any (k + 1) (ritem_any (k + 1) (fun j e => by
      obtain rfl : k = j := by omega
      exact ralts_all k)))
theorem rparse_all (s : ByteArray) (hs : s.size ≤ maxLen) (w : World) : Calls Tryz.prog 7 #[.string s] w fun e w' => RParseV w.heap.size s.data.toList e w' ∧ Below w.heap.size w w' := rparse_any (ralts_all 16) s hs w
end Go.Proofs.YtdddbkghleblhaaGreatDoor.lx

import Derived.Test.YtdddbkghleblhaaGreatDoorJaj
namespace Go.Proofs.YtdddbkghleblhaaGreatDoor.lx
open Go.ChangeShapes Go.WideShapes Go.ChangeAt Go.RowKit
set_option linter.unusedVariables false
attribute [local go_sem] run_store_float
set_option maxRecDepth 100000 in
set_option maxHeartbeats 4000000 in
theorem ritem_deep (k : Nat) (hA : ∀ j, k = j + 1 → RAltsOk j) (w : World) (g cap p : Nat) (T : List Tok) (hk : k ≤ 16) (h : TAt w g cap T) (hg : Good (T.drop p)) (ha : atIt (hd (T.drop p)) = true) (t : Tok) (r : List Tok) (hd : T.drop p = t :: r) (k1 : ¬ t.kind = 1) (k2 : ¬ t.kind = 2) (hz : k = 0) : Calls Tryz.prog 52 #[StV g T.length cap p (16 - k) 0] w (AnsR (ItmV k w.heap.size) ItmF g cap (16 - k) T ((T.drop p).length - 1) w (pItem (pSub k) (T.drop p))) := by
  obtain ⟨hlt, hgt, hdr⟩ := drop_lt hd
  obtain ⟨c0, c1, c2, c3⟩ := h.tok hd
  have hgl := h.lt
  have hlen := h.len
  have hcl := h.capl
  have hcm := h.capm
  have HT := Lib.hid h
  have HG := Lib.hid hg
  unfold maxLen at hcm
  rw [hd] at ha ⊢
  have hs40 : sgOf t = 40 := by
    have ha : (t.kind == 1 || t.kind == 2 || sgOf t == 40) = true := ha
    rw [beq_false_of_ne k1, beq_false_of_ne k2] at ha
    simpa using ha
  have k4 : t.kind = 4 := by
    unfold sgOf at hs40
    by_cases h4 : t.kind = 4
    · exact h4
    · rw [if_neg h4] at hs40
      omega
  have hgr : Good (T.drop (p + 1)) := by rw [hdr]; rw [hd] at hg; exact hg.tail (by omega)
  have HR : Hid (pItem (pSub k) (t :: r) = match pSub k (t :: r) with
    | .error e => .error e
    | .ok (bs, q) => .ok (.mk t.at_ 2 [] bs (opOf q), opTl q)) := Lib.hid ((if_neg k1).trans (if_neg k2))
  generalize pItem (pSub k) (t :: r) = X at *
  have hat : (T.getD p ⟨0, 0, [], 0⟩).at_ = t.at_ := by rw [hgt]
  have HQA := Lib.hid hat
  replace c0 : w.cell? ⟨g, p * 4, none⟩ = some (.int .i64 4) := by rw [c0, k4]; rfl
  have hrl : (t :: r).length - 1 = r.length := rfl
  generalize (t :: r).length - 1 = m at *
  clear hat ha
  cases k with
  | succ j => exact absurd hz (by omega)
  | zero =>
    have HX : Hid (X = .error (6, t.at_)) := Lib.hid HR.out
    unfold StV
    generalize hn : T.length = n at *
    have HN := Lib.hid hn
    obtain ⟨K, P, X', F⟩ := t
    have e0 := cell3 c0 hgl
    have e1 := cell3 c1 hgl
    have e2 := cell3 c2 hgl
    have e3 := cell3 c3 hgl
    clear c0 c1 c2 c3 hg hgr k1 k2 k4 hA h hn hs40 HR hrl
    go_enter Tryz.func52, Tryz.ntmps52
    go_wp2_with fail
    have his := ISt.new w #[.slice (some ⟨g, 0, none⟩) n cap, .int .i64 p, .int .i64 16, .int .i64 6] #[.int .i64 P, .int .i64 0, .string (S X'), .slice none 0 0, .int .u8 0] #[.int .i64 4, .int .i64 P, .string (S X'), .float .f64 F]
    generalize ((((w.alloc (.cells #[.slice (some ⟨g, 0, none⟩) n cap, .int .i64 p, .int .i64 16, .int .i64 6] 59)).alloc (.cells #[.slice none 0 0, .int .i64 0, .int .i64 0, .int .i64 0] 59)).alloc (.cells #[.int .i64 0, .int .i64 0, .string ⟨#[]⟩, .slice none 0 0, .int .u8 0] 70)).alloc (.cells #[.int .i64 4, .int .i64 P, .string (S X'), .float .f64 F] 61)).alloc (.cells #[.int .i64 P, .int .i64 0, .string (S X'), .slice none 0 0, .int .u8 0] 70) = w2 at *
    have HIS := Lib.hid his
    have l0 := his.b0.lt
    have l1 := his.b1.lt
    have l2 := his.b2.lt
    have l4 := his.b4.lt
    have x0 := his.b0.cell 0
    have x1 := his.b0.cell 1
    have x2 := his.b0.cell 2
    have x3 := his.b0.cell 3
    have y0 := his.b1.cell 0
    have y1 := his.b1.cell 1
    have y2 := his.b1.cell 2
    have y3 := his.b1.cell 3
    have z0 := his.b2.cell 0
    have z1 := his.b2.cell 1
    have z2 := his.b2.cell 2
    have z3 := his.b2.cell 3
    have z4 := his.b2.cell 4
    have i0 := his.b4.cell 0
    have i1 := his.b4.cell 1
    have i2 := his.b4.cell 2
    have i3 := his.b4.cell 3
    have i4 := his.b4.cell 4
    simp only [List.getElem?_toArray, List.getElem?_cons_zero, List.getElem?_cons_succ] at x0 x1 x2 x3 y0 y1 y2 y3 z0 z1 z2 z3 z4 i0 i1 i2 i3 i4
    have vx1 := his.b0.frozen 1
    have vx3 := his.b0.frozen 3
    have vy0 := his.b1.frozen 0
    have vy1 := his.b1.frozen 1
    have vy2 := his.b1.frozen 2
    have vy3 := his.b1.frozen 3
    have vz0 := his.b2.frozen 0
    have vz1 := his.b2.frozen 1
    have vz2 := his.b2.frozen 2
    have vz3 := his.b2.frozen 3
    have vz4 := his.b2.frozen 4
    have vi4 := his.b4.frozen 4
    clear his e0 e1 e2 e3
    go_region
    all_goals
      go_wp2
      have hke := kp_item_drew (w2) (w.heap.size + 1) (w.heap.size + 1 + 1) (.slice (some ⟨g, 0, none⟩) n cap) (.int .i64 p) (.int .i64 16) (.int .i64 6) (.int .i64 P) (.int .i64 0) (.string (S X')) (.slice none 0 0) (.int .u8 0)
      refine bodyPost_ret (v := .tuple #[.agg #[.slice (some ⟨g, 0, none⟩) n cap, .int .i64 p, .int .i64 16, .int .i64 6], .agg #[.int .i64 P, .int .i64 0, .string (S X'), .slice none 0 0, .int .u8 0]]) (by simp [results, Tryz.results52, go_sem, y0, y1, y2, y3, z0, z1, z2, z3, z4]) rfl ?_
      have hbe := HIS.out.bel
      refine ⟨hbe.trans (hke.below hbe.size (fun i hi => by rcases hi with h | h <;> (rw [h]; omega))), ?_⟩
      rw [HX.out, ← HN.out]
      exact ⟨p, _, rfl, ⟨P, 0, S X', none, 0, 0, 0, rfl⟩, (by show 0 < 6; decide), by rw [HN.out]; exact hlt, HQA.out⟩
set_option maxRecDepth 100000 in
set_option maxHeartbeats 8000000 in
theorem ritem_err (k : Nat) (hA : ∀ j, k = j + 1 → RAltsOk j) (w : World) (g cap p : Nat) (T : List Tok) (hk : k ≤ 16) (h : TAt w g cap T) (hg : Good (T.drop p)) (ha : atIt (hd (T.drop p)) = true) (t : Tok) (r : List Tok) (hd : T.drop p = t :: r) (k1 : ¬ t.kind = 1) (k2 : ¬ t.kind = 2) (hz : k ≠ 0) (hw : ∀ j x, k = j + 1 → pA j (T.drop (p + 1)) = .ok x → False) : Calls Tryz.prog 52 #[StV g T.length cap p (16 - k) 0] w (AnsR (ItmV k w.heap.size) ItmF g cap (16 - k) T ((T.drop p).length - 1) w (pItem (pSub k) (T.drop p))) := by
  obtain ⟨hlt, hgt, hdr⟩ := drop_lt hd
  obtain ⟨c0, c1, c2, c3⟩ := h.tok hd
  have hgl := h.lt
  have hlen := h.len
  have hcl := h.capl
  have hcm := h.capm
  have HT := Lib.hid h
  have HG := Lib.hid hg
  unfold maxLen at hcm
  rw [hd] at ha ⊢
  have hs40 : sgOf t = 40 := by
    have ha : (t.kind == 1 || t.kind == 2 || sgOf t == 40) = true := ha
    rw [beq_false_of_ne k1, beq_false_of_ne k2] at ha
    simpa using ha
  have k4 : t.kind = 4 := by
    unfold sgOf at hs40
    by_cases h4 : t.kind = 4
    · exact h4
    · rw [if_neg h4] at hs40
      omega
  have hgr : Good (T.drop (p + 1)) := by rw [hdr]; rw [hd] at hg; exact hg.tail (by omega)
  have HR : Hid (pItem (pSub k) (t :: r) = match pSub k (t :: r) with
    | .error e => .error e
    | .ok (bs, q) => .ok (.mk t.at_ 2 [] bs (opOf q), opTl q)) := Lib.hid ((if_neg k1).trans (if_neg k2))
  generalize pItem (pSub k) (t :: r) = X at *
  have hat : (T.getD p ⟨0, 0, [], 0⟩).at_ = t.at_ := by rw [hgt]
  have HQA := Lib.hid hat
  replace c0 : w.cell? ⟨g, p * 4, none⟩ = some (.int .i64 4) := by rw [c0, k4]; rfl
  have hrl : (t :: r).length - 1 = r.length := rfl
  generalize (t :: r).length - 1 = m at *
  clear hat ha
  have HW := Lib.hid hw
  clear hw
  cases k with
  | zero => exact absurd rfl hz
  | succ j =>
    have HAL := Lib.hid (hA j rfl)
    have HX : Hid (X = match pShut 41 (pA j (T.drop (p + 1))) with
      | .error e => .error e
      | .ok (bs, q) => .ok (.mk t.at_ 2 [] bs (opOf q), opTl q)) := Lib.hid (by rw [hdr]; exact HR.out)
    have hne : (((16 - (j + 1) : Nat) : Int) == 16) = false := by rw [beq_eq_false_iff_ne]; omega
    have hdc : (((16 - (j + 1) : Nat) : Int) + 1) = ((16 - j : Nat) : Int) := by omega
    have hd16 : 16 - (j + 1) ≤ 16 := by omega
    unfold StV
    generalize 16 - (j + 1) = d at *
    generalize hn : T.length = n at *
    have HN := Lib.hid hn
    have hpc : ((p : Int) + 1) = ((p + 1 : Nat) : Int) := rfl
    obtain ⟨p1, hp1⟩ : ∃ p1, p + 1 = p1 := ⟨_, rfl⟩
    rw [hp1] at hpc hgr hdr HX
    have HPC := Lib.hid hpc
    have HDC := Lib.hid hdc
    have HGR := Lib.hid hgr
    have HRL : Hid ((T.drop p1).length = m) := Lib.hid (by rw [hdr, hrl])
    have hp1n : p1 ≤ n := by omega
    obtain ⟨K, P, X', F⟩ := t
    have e0 := cell3 c0 hgl
    have e1 := cell3 c1 hgl
    have e2 := cell3 c2 hgl
    have e3 := cell3 c3 hgl
    clear c0 c1 c2 c3 hg hgr k1 k2 k4 hA h hn hs40 HR hrl hpc hdc
    go_enter Tryz.func52, Tryz.ntmps52
    go_wp2_with fail
    rw [HPC.out, HDC.out]
    generalize hd1 : (16 - j : Nat) = d1 at *
    have his := ISt.new w #[.slice (some ⟨g, 0, none⟩) n cap, .int .i64 p1, .int .i64 d1, .int .i64 0] #[.int .i64 P, .int .i64 0, .string (S X'), .slice none 0 0, .int .u8 0] #[.int .i64 4, .int .i64 P, .string (S X'), .float .f64 F]
    have ht2 := HT.out.below his.bel hgl
    generalize ((((w.alloc (.cells #[.slice (some ⟨g, 0, none⟩) n cap, .int .i64 p1, .int .i64 d1, .int .i64 0] 59)).alloc (.cells #[.slice none 0 0, .int .i64 0, .int .i64 0, .int .i64 0] 59)).alloc (.cells #[.int .i64 0, .int .i64 0, .string ⟨#[]⟩, .slice none 0 0, .int .u8 0] 70)).alloc (.cells #[.int .i64 4, .int .i64 P, .string (S X'), .float .f64 F] 61)).alloc (.cells #[.int .i64 P, .int .i64 0, .string (S X'), .slice none 0 0, .int .u8 0] 70) = w2 at *
    have HIS := Lib.hid his
    have HT2 := Lib.hid ht2
    have hal := HAL.out w2 g cap p1 T (by omega) ht2 HGR.out
    rw [hd1, HN.out] at hal
    unfold StV at hal
    clear his ht2 e0 e1 e2 e3 HAL
    have hdd : ((d1 : Int) - 1) = (d : Int) := by have := HDC.out; omega
    have HDD := Lib.hid hdd
    have hd1p : 1 ≤ d1 ∧ d1 ≤ 17 := by have := HDC.out; omega
    clear hdd
    refine hal.mono ?_
    rintro e w3 ⟨hb3, han⟩
    have his3 := HIS.out.below hb3
    have ht3 := HT2.out.below hb3 HT2.out.lt
    have HIS3 := Lib.hid his3
    have HT3 := Lib.hid ht3
    clear his3 ht3 hal
    cases hx : pA j (T.drop p1) with
    | ok x => exact absurd (show pA j (T.drop (p + 1)) = .ok x by rw [hp1]; exact hx) (HW.out j x rfl)
    | error q =>
      rw [hx] at han
      obtain ⟨p', v, rfl, ⟨ao, m', cz, rfl⟩, hq, hp', hq2⟩ := han
      have HX2 : Hid (X = .error q) := Lib.hid (by rw [HX.out, hx]; rfl)
      have HQ := Lib.hid hq2
      have HP' := Lib.hid hp'
      have hq0 : ((q.1 : Int) == 0) = false := by rw [beq_eq_false_iff_ne]; omega
      rw [HN.out]
      unfold StV
      clear hx hq2 hp'
      have his := HIS3.out
      have l0 := his.b0.lt
      have l1 := his.b1.lt
      have l2 := his.b2.lt
      have l4 := his.b4.lt
      have x0 := his.b0.cell 0
      have x1 := his.b0.cell 1
      have x2 := his.b0.cell 2
      have x3 := his.b0.cell 3
      have y0 := his.b1.cell 0
      have y1 := his.b1.cell 1
      have y2 := his.b1.cell 2
      have y3 := his.b1.cell 3
      have z0 := his.b2.cell 0
      have z1 := his.b2.cell 1
      have z2 := his.b2.cell 2
      have z3 := his.b2.cell 3
      have z4 := his.b2.cell 4
      have i0 := his.b4.cell 0
      have i1 := his.b4.cell 1
      have i2 := his.b4.cell 2
      have i3 := his.b4.cell 3
      have i4 := his.b4.cell 4
      simp only [List.getElem?_toArray, List.getElem?_cons_zero, List.getElem?_cons_succ] at x0 x1 x2 x3 y0 y1 y2 y3 z0 z1 z2 z3 z4 i0 i1 i2 i3 i4
      have vx1 := his.b0.frozen 1
      have vx3 := his.b0.frozen 3
      have vy0 := his.b1.frozen 0
      have vy1 := his.b1.frozen 1
      have vy2 := his.b1.frozen 2
      have vy3 := his.b1.frozen 3
      have vz0 := his.b2.frozen 0
      have vz1 := his.b2.frozen 1
      have vz2 := his.b2.frozen 2
      have vz3 := his.b2.frozen 3
      have vz4 := his.b2.frozen 4
      have vi4 := his.b4.frozen 4
      clear his
      go_wp2_with fail
      clear l0 l1 l2 l4 x0 x1 x2 x3 y0 y1 y2 y3 z0 z1 z2 z3 z4 i0 i1 i2 i3 i4 vx1 vx3 vy0 vy1 vy2 vy3 vz0 vz1 vz2 vz3 vz4 vi4
      have hpe := rpass_err (w3.alloc (.cells #[.slice (some ⟨g, 0, none⟩) n cap, .int .i64 p', .int .i64 d1, .int .i64 q.1] 59)) g n cap p' d1 q.1 ⟨#[41]⟩ hq
      unfold StV at hpe
      refine hpe.mono ?_
      rintro e w4 ⟨rfl, hb4⟩
      have his := (HIS3.out.below ((Below.refl _ _).alloc (Nat.le_refl _) _)).below hb4
      have HIS4 := Lib.hid his
      clear hb4 hpe
      have l0 := his.b0.lt
      have l1 := his.b1.lt
      have l2 := his.b2.lt
      have l4 := his.b4.lt
      have x0 := his.b0.cell 0
      have x1 := his.b0.cell 1
      have x2 := his.b0.cell 2
      have x3 := his.b0.cell 3
      have y0 := his.b1.cell 0
      have y1 := his.b1.cell 1
      have y2 := his.b1.cell 2
      have y3 := his.b1.cell 3
      have z0 := his.b2.cell 0
      have z1 := his.b2.cell 1
      have z2 := his.b2.cell 2
      have z3 := his.b2.cell 3
      have z4 := his.b2.cell 4
      have i0 := his.b4.cell 0
      have i1 := his.b4.cell 1
      have i2 := his.b4.cell 2
      have i3 := his.b4.cell 3
      have i4 := his.b4.cell 4
      simp only [List.getElem?_toArray, List.getElem?_cons_zero, List.getElem?_cons_succ] at x0 x1 x2 x3 y0 y1 y2 y3 z0 z1 z2 z3 z4 i0 i1 i2 i3 i4
      have vx1 := his.b0.frozen 1
      have vx3 := his.b0.frozen 3
      have vy0 := his.b1.frozen 0
      have vy1 := his.b1.frozen 1
      have vy2 := his.b1.frozen 2
      have vy3 := his.b1.frozen 3
      have vz0 := his.b2.frozen 0
      have vz1 := his.b2.frozen 1
      have vz2 := his.b2.frozen 2
      have vz3 := his.b2.frozen 3
      have vz4 := his.b2.frozen 4
      have vi4 := his.b4.frozen 4
      have k1 := his.b3.cell 1
      have l3 := his.b3.lt
      simp only [List.getElem?_toArray, List.getElem?_cons_zero, List.getElem?_cons_succ] at k1
      have vx0 := his.b0.frozen 0
      have vx2 := his.b0.frozen 2
      have vi0 := his.b4.frozen 0
      have vi1 := his.b4.frozen 1
      have vi2 := his.b4.frozen 2
      have vi3 := his.b4.frozen 3
      clear his
      go_wp2_with fail
      rw [HDD.out]
      have his := HIS4.out.stores (.slice (some ⟨g, 0, none⟩) n cap) (.int .i64 p') (.int .i64 d1) (.int .i64 q.1) (.int .i64 d) (.int .i64 P) (.int .i64 2) (.string ⟨#[]⟩) (.slice ao m' cz) (.int .u8 0)
      generalize ((((((((((w4.setCell ⟨w.heap.size, 0, none⟩ (.slice (some ⟨g, 0, none⟩) n cap)).setCell ⟨w.heap.size, 1, none⟩ (.int .i64 p')).setCell ⟨w.heap.size, 2, none⟩ (.int .i64 d1)).setCell ⟨w.heap.size, 3, none⟩ (.int .i64 q.1)).setCell ⟨w.heap.size, 2, none⟩ (.int .i64 d)).setCell ⟨w.heap.size + 1 + 1 + 1 + 1, 0, none⟩ (.int .i64 P)).setCell ⟨w.heap.size + 1 + 1 + 1 + 1, 1, none⟩ (.int .i64 2)).setCell ⟨w.heap.size + 1 + 1 + 1 + 1, 2, none⟩ (.string ⟨#[]⟩)).setCell ⟨w.heap.size + 1 + 1 + 1 + 1, 3, none⟩ (.slice ao m' cz)).setCell ⟨w.heap.size + 1 + 1 + 1 + 1, 4, none⟩ (.int .u8 0)) = w5 at *
      clear l0 l1 l2 l4 x0 x1 x2 x3 y0 y1 y2 y3 z0 z1 z2 z3 z4 i0 i1 i2 i3 i4 vx1 vx3 vy0 vy1 vy2 vy3 vz0 vz1 vz2 vz3 vz4 vi4
      have HIS5 := Lib.hid his
      clear k1 l3 vx0 vx2 vi0 vi1 vi2 vi3
      have l0 := his.b0.lt
      have l1 := his.b1.lt
      have l2 := his.b2.lt
      have l4 := his.b4.lt
      have x0 := his.b0.cell 0
      have x1 := his.b0.cell 1
      have x2 := his.b0.cell 2
      have x3 := his.b0.cell 3
      have y0 := his.b1.cell 0
      have y1 := his.b1.cell 1
      have y2 := his.b1.cell 2
      have y3 := his.b1.cell 3
      have z0 := his.b2.cell 0
      have z1 := his.b2.cell 1
      have z2 := his.b2.cell 2
      have z3 := his.b2.cell 3
      have z4 := his.b2.cell 4
      have i0 := his.b4.cell 0
      have i1 := his.b4.cell 1
      have i2 := his.b4.cell 2
      have i3 := his.b4.cell 3
      have i4 := his.b4.cell 4
      simp only [List.getElem?_toArray, List.getElem?_cons_zero, List.getElem?_cons_succ] at x0 x1 x2 x3 y0 y1 y2 y3 z0 z1 z2 z3 z4 i0 i1 i2 i3 i4
      have vx1 := his.b0.frozen 1
      have vx3 := his.b0.frozen 3
      have vy0 := his.b1.frozen 0
      have vy1 := his.b1.frozen 1
      have vy2 := his.b1.frozen 2
      have vy3 := his.b1.frozen 3
      have vz0 := his.b2.frozen 0
      have vz1 := his.b2.frozen 1
      have vz2 := his.b2.frozen 2
      have vz3 := his.b2.frozen 3
      have vz4 := his.b2.frozen 4
      have vi4 := his.b4.frozen 4
      clear his
      go_region
      all_goals
        go_wp2
        have hke := kp_item_drew (w5) (w.heap.size + 1) (w.heap.size + 1 + 1) (.slice (some ⟨g, 0, none⟩) n cap) (.int .i64 p') (.int .i64 d) (.int .i64 q.1) (.int .i64 P) (.int .i64 2) (.string ⟨#[]⟩) (.slice ao m' cz) (.int .u8 0)
        refine bodyPost_ret (v := .tuple #[.agg #[.slice (some ⟨g, 0, none⟩) n cap, .int .i64 p', .int .i64 d, .int .i64 q.1], .agg #[.int .i64 P, .int .i64 2, .string ⟨#[]⟩, .slice ao m' cz, .int .u8 0]]) (by simp [results, Tryz.results52, go_sem, y0, y1, y2, y3, z0, z1, z2, z3, z4]) rfl ?_
        have hbe := HIS5.out.bel
        refine ⟨hbe.trans (hke.below hbe.size (fun i hi => by rcases hi with h | h <;> (rw [h]; omega))), ?_⟩
        rw [HX2.out, ← HN.out]
        exact ⟨p', _, rfl, ⟨P, 2, ⟨#[]⟩, ao, m', cz, 0, rfl⟩, hq, HP'.out, HQ.out⟩
end Go.Proofs.YtdddbkghleblhaaGreatDoor.lx

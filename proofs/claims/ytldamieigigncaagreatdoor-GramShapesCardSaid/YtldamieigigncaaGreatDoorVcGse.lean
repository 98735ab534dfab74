import Derived.Test.YtldamieigigncaaGreatDoorVcGsc
namespace Go.Proofs.YtldamieigigncaaGreatDoor.lx
open Go.ChangeShapes Go.WideShapes Go.ChangeAt Go.RowKit Go.Proofs.YtldamieigigncaaGreatDoor.ky
set_option linter.unusedVariables false
set_option linter.unusedSimpArgs false
set_option maxRecDepth 100000 in
set_option maxHeartbeats 8000000 in
theorem gsh_s0 (a b : List UInt8) (x r : Int) (hand : bits .and .i64 x 3 = r) (htm : r.tmod 3 = 1) (h : a < b) (ha : isQuoteB a = true) (hb : isQuoteB b = true) (w : World) (bb off : Nat) (hv : Pv w bb off) : Calls Tryz.prog 5 #[.string (S a), .string (S b), .int .i64 x] w fun e w' => e = .returned (.bool true) ∧ Below w.heap.size w w' := by
  have hal := galive_any w bb off hv
  have HV := Lib.hid hv
  have hla : a.length ≤ 16 ∧ b.length ≤ 16 := by
    unfold isQuoteB at ha hb
    simp only [Bool.and_eq_true, decide_eq_true_eq] at ha hb
    exact ⟨ha.1.2, hb.1.2⟩
  have hq1 := fun w => isquote_any (S a) (by rw [S_sz]; unfold maxLen; omega) w
  have hq2 := fun w => isquote_any (S b) (by rw [S_sz]; unfold maxLen; omega) w
  rw [S_list, ha] at hq1
  rw [S_list, hb] at hq2
  have hab : a ≠ b := fun e => by rw [e] at h; exact List.lt_irrefl _ h
  have hba : b ≠ a := fun e => hab e.symm
  have hne : ((S a).toList == (S b).toList) = false := by rw [S_eq]; exact decide_eq_false hab
  have hL := fun w1 (h0 : Vs w1 bb off) => sload_any (sh_load_s0 h ha hb) (by unfold shpT; simp only [List.length_append, List.length_cons, List.length_nil]; unfold maxLen; omega) w1 bb off h0
  rw [← sh_cat, show (shG_s0 a b).terms.length = 2 from rfl, show (shG_s0 a b).vars.length = 4 from rfl, show (shG_s0 a b).rules.length = 7 from rfl] at hL
  have HL := Lib.hid hL
  have HRT := Lib.hid (sh_right_s0 h ha hb)
  obtain ⟨l1, l2, l3, l4, l5, l6, l7, d1, d2, d3, d4, d5, d6, d7, d8, d9, d10⟩ := sh_size a b 42
  obtain ⟨hl1, hl2⟩ := hla
  have HLA := Lib.hid hl1
  have HLB := Lib.hid hl2
  have hsa := S_sz a
  have hsb := S_sz b
  clear hv hL
  go_enter Tryz.func5, Tryz.ntmps5
  go_wp2_with fail
  refine hal.mono ?_
  rintro e w1 ⟨rfl, hb1⟩
  have HB1 := Lib.hid hb1
  clear hb1 hal
  go_wp2_with fail
  refine (hq1 _).mono ?_
  rintro e w2 ⟨rfl, rfl⟩
  go_wp2_with fail
  refine (hq2 _).mono ?_
  rintro e w3 ⟨rfl, rfl⟩
  clear hq1 hq2
  go_upto_region 6 with fail
  have hb2 : Below w1.heap.size w1 (w1.alloc (.cells #[.string ⟨#[63]⟩, .string ⟨#[42]⟩, .string ⟨#[43]⟩] 9)) := (Below.refl _ _).alloc (Nat.le_refl _) _
  generalize w1.alloc (.cells #[.string ⟨#[63]⟩, .string ⟨#[42]⟩, .string ⟨#[43]⟩] 9) = w2 at *
  have HB2 := Lib.hid (HB1.out.trans (hb2.mono HB1.out.size))
  clear hb2 hand hne htm
  go_wp2_with fail
  refine (HL.out _ (HV.out.below HB2.out).vs).mono ?_
  rintro e w3 ⟨⟨tbo, vo, ro, tc, vc, rc, rfl, hg, hvc, hrc⟩, hb3⟩
  obtain ⟨gt, ct, ev, hgt, ht0⟩ := StrsAt.cell hg.ts (k := 0) (x := a) rfl
  injection ev with ev j1 j2
  subst ev
  clear j1 j2
  obtain ⟨gt', ct', ev, _, ht1⟩ := StrsAt.cell hg.ts (k := 1) (x := b) rfl
  injection ev with ev j1 j2
  injection ev with ev
  injection ev with ev
  subst ev
  clear j1 j2
  obtain ⟨gr, cr, u0, er, hgr, _, r01, _, hu0⟩ := ERul.at hg.rs (k := 0) (r := (0, [1, 2], 0)) rfl
  injection er with er j1 j2
  subst er
  clear j1 j2
  obtain ⟨gu, cu, eu, hgu, hu1⟩ := IntsAt.cell hu0 (k := 0) (x := 1) rfl
  subst eu
  obtain ⟨gu', cu', eu, _, hu2⟩ := IntsAt.cell hu0 (k := 1) (x := 2) rfl
  injection eu with eu j1 j2
  injection eu with eu
  injection eu with eu
  subst eu
  clear j1 j2 hu0
  have hv3 : Pv w3 bb off := HV.out.below (HB2.out.trans (hb3.mono HB2.out.size))
  have HV3 := Lib.hid hv3
  have HB3 := Lib.hid (HB2.out.trans (hb3.mono HB2.out.size))
  have HG3 := Lib.hid hg
  have HVC := Lib.hid hvc
  have HRC := Lib.hid hrc
  clear hg hb3 HL hv3 hvc hrc l1 l2 l3 l4 l5 l6 l7 d1 d2 d3 d4 d5 d6 d7 d8 d9 d10 hsa hsb
  go_upto_region 7 with fail
  have b1 := (Blk.new w3 26 #[.slice (some ⟨gt, 0, none⟩) 2 tc, .slice vo 4 vc, .slice (some ⟨gr, 0, none⟩) 7 rc]).alloc (.cells #[.int .i64 0, .int .i64 0] 29)
  have b2 := Blk.new (w3.alloc (.cells #[.slice (some ⟨gt, 0, none⟩) 2 tc, .slice vo 4 vc, .slice (some ⟨gr, 0, none⟩) 7 rc] 26)) 29 #[.int .i64 0, .int .i64 0]
  rw [World.size_alloc] at b2
  have hb4 : Below w3.heap.size w3 ((w3.alloc (.cells #[.slice (some ⟨gt, 0, none⟩) 2 tc, .slice vo 4 vc, .slice (some ⟨gr, 0, none⟩) 7 rc] 26)).alloc (.cells #[.int .i64 0, .int .i64 0] 29)) := ((Below.refl _ _).alloc (Nat.le_refl _) _).alloc (by simp) _
  generalize (w3.alloc (.cells #[.slice (some ⟨gt, 0, none⟩) 2 tc, .slice vo 4 vc, .slice (some ⟨gr, 0, none⟩) 7 rc] 26)).alloc (.cells #[.int .i64 0, .int .i64 0] 29) = w4 at *
  have t0 : w4.cell? ⟨gt, 0, none⟩ = some (.string (S a)) := (hb4.cell (p := ⟨gt, 0, none⟩) hgt).trans ht0
  have t1 : w4.cell? ⟨gt, 1, none⟩ = some (.string (S b)) := (hb4.cell (p := ⟨gt, 1, none⟩) hgt).trans ht1
  have r0 : w4.cell? ⟨gr, 1, none⟩ = some (.slice (some ⟨gu, 0, none⟩) 2 cu) := (hb4.cell (p := ⟨gr, 1, none⟩) hgr).trans r01
  have u1 : w4.cell? ⟨gu, 0, none⟩ = some (.int .i64 1) := (hb4.cell (p := ⟨gu, 0, none⟩) hgu).trans hu1
  have u2 : w4.cell? ⟨gu, 1, none⟩ = some (.int .i64 2) := (hb4.cell (p := ⟨gu, 1, none⟩) hgu).trans hu2
  have hz4 := hb4.size
  have k1 : gt < w4.heap.size := by omega
  have k2 : gr < w4.heap.size := by omega
  have k3 : gu < w4.heap.size := by omega
  have f0 : w4.cell? ⟨w3.heap.size + 1, 0, none⟩ = some (.int .i64 0) := b2.cell 0
  have g0 : w4.cell? ⟨w3.heap.size, 0, none⟩ = some (.slice (some ⟨gt, 0, none⟩) 2 tc) := b1.cell 0
  have g1 : w4.cell? ⟨w3.heap.size, 1, none⟩ = some (.slice vo 4 vc) := b1.cell 1
  have g2 : w4.cell? ⟨w3.heap.size, 2, none⟩ = some (.slice (some ⟨gr, 0, none⟩) 7 rc) := b1.cell 2
  have lf := b2.lt
  have lg := b1.lt
  have HZ4 := Lib.hid hz4
  have HB34 := Lib.hid hb4
  have HB4 := Lib.hid (HB3.out.trans (hb4.mono HB3.out.size))
  have hlt := S_lss a b
  rw [decide_eq_true h] at hlt
  have heq : ((S b).toList == (S a).toList) = false := by rw [S_eq]; exact decide_eq_false hba
  clear b1 hb4 b2 hz4 ht0 ht1 r01 hu1 hu2 hgt hgr hgu
  go_wp2_with fail
  go_quiet (fail)
  clear f0 lf hlt
  have cq : ∀ p, w4.cell? p = (w4.drewN nq).cell? p := fun _ => rfl
  have sq : w4.heap.size = (w4.drewN nq).heap.size := rfl
  have hq : Below w4.heap.size w4 (w4.drewN nq) := (qt_drew (Qt.refl _) nq).below
  rw [cq] at t0 t1 r0 u1 u2 g0 g1 g2
  rw [sq] at k1 k2 k3 lg
  have HB5 : Hid (Below w.heap.size w (w4.drewN nq)) := Lib.hid (HB4.out.trans (hq.mono HB4.out.size))
  have HB35 : Hid (Below w3.heap.size w3 (w4.drewN nq)) := Lib.hid (HB34.out.trans (hq.mono HB34.out.size))
  generalize w4.drewN nq = w5 at *
  clear cq sq hq
  go_wp2_with fail
  go_quiet (fail)
  clear heq
  have cq : ∀ p, w5.cell? p = (w5.drewN nq).cell? p := fun _ => rfl
  have sq : w5.heap.size = (w5.drewN nq).heap.size := rfl
  have hq : Below w5.heap.size w5 (w5.drewN nq) := (qt_drew (Qt.refl _) nq).below
  rw [cq] at t0 t1 r0 u1 u2 g0 g1 g2
  rw [sq] at k1 k2 k3 lg
  have HB6 : Hid (Below w.heap.size w (w5.drewN nq)) := Lib.hid (HB5.out.trans (hq.mono HB5.out.size))
  have HB36 : Hid (Below w3.heap.size w3 (w5.drewN nq)) := Lib.hid (HB35.out.trans (hq.mono HB35.out.size))
  generalize w5.drewN nq = w6 at *
  clear cq sq hq
  have hru := rules_any w6 (fun k => k < w3.heap.size) (some ⟨gt, 0, none⟩) vo (some ⟨gr, 0, none⟩) 2 tc 4 vc rc shR_s0 1 ((HG3.out.keep (w' := w6) (A' := fun k => k < w3.heap.size) (fun q hq hA => ⟨hA, HB36.out.block q hq⟩) HB36.out.size).rs) sh_sorted_s0 (by decide)
  rw [show shR_s0.length = 7 from rfl, show fromR shR_s0 1 = 2 by kernel_rfl, show toR shR_s0 1 = 4 by kernel_rfl] at hru
  go_wp2_with fail
  refine hru.mono ?_
  rintro e w7 ⟨rfl, hb7⟩
  have HB7 := Lib.hid (HB6.out.trans (hb7.mono HB6.out.size))
  have HB37 := Lib.hid (HB36.out.trans (hb7.mono HB36.out.size))
  have hc7 := fun (p : Addr) (h : p.block < w6.heap.size) => hb7.cell (p := p) h
  have hz7 := hb7.size
  have hx0 : bits BinOp.xor IntKind.i64 (if IntKind.i64.signed = true then -1 else 9223372036854775807) 0 = (-1) := by decide
  clear hru
  go_upto_region 20 with fail
  have hb8 : Below w7.heap.size w7 ((((((w7.alloc (.cells #[.int .i64 (-1)] 3)).alloc (.cells #[] 3)).alloc (.cells #[.slice (some ⟨w7.heap.size, 0, none⟩) 1 1, .slice (some ⟨w7.heap.size + 1, 0, none⟩) 0 0] 39)).alloc (.cells #[.int .i64 (-1), .int .i64 1] 3)).alloc (.cells #[] 3)).alloc (.cells #[.slice (some ⟨w7.heap.size + 1 + 1 + 1, 0, none⟩) 2 2, .slice (some ⟨w7.heap.size + 1 + 1 + 1 + 1, 0, none⟩) 0 0] 39)) := (((((((Below.refl w7.heap.size w7).alloc (by exact Nat.le_refl _) _).alloc (by simp only [World.size_alloc]; omega) _).alloc (by simp only [World.size_alloc]; omega) _).alloc (by simp only [World.size_alloc]; omega) _).alloc (by simp only [World.size_alloc]; omega) _).alloc (by simp only [World.size_alloc]; omega) _)
  have q5 := (Blk.new (((((w7.alloc (.cells #[.int .i64 (-1)] 3)).alloc (.cells #[] 3)).alloc (.cells #[.slice (some ⟨w7.heap.size, 0, none⟩) 1 1, .slice (some ⟨w7.heap.size + 1, 0, none⟩) 0 0] 39)).alloc (.cells #[.int .i64 (-1), .int .i64 1] 3)).alloc (.cells #[] 3)) 39 #[.slice (some ⟨w7.heap.size + 1 + 1 + 1, 0, none⟩) 2 2, .slice (some ⟨w7.heap.size + 1 + 1 + 1 + 1, 0, none⟩) 0 0])
  simp only [World.size_alloc] at q5
  have q3 := (((Blk.new (((w7.alloc (.cells #[.int .i64 (-1)] 3)).alloc (.cells #[] 3)).alloc (.cells #[.slice (some ⟨w7.heap.size, 0, none⟩) 1 1, .slice (some ⟨w7.heap.size + 1, 0, none⟩) 0 0] 39)) 3 #[.int .i64 (-1), .int .i64 1]).alloc (.cells #[] 3)).alloc (.cells #[.slice (some ⟨w7.heap.size + 1 + 1 + 1, 0, none⟩) 2 2, .slice (some ⟨w7.heap.size + 1 + 1 + 1 + 1, 0, none⟩) 0 0] 39))
  simp only [World.size_alloc] at q3
  have q4 := ((Blk.new ((((w7.alloc (.cells #[.int .i64 (-1)] 3)).alloc (.cells #[] 3)).alloc (.cells #[.slice (some ⟨w7.heap.size, 0, none⟩) 1 1, .slice (some ⟨w7.heap.size + 1, 0, none⟩) 0 0] 39)).alloc (.cells #[.int .i64 (-1), .int .i64 1] 3)) 3 #[]).alloc (.cells #[.slice (some ⟨w7.heap.size + 1 + 1 + 1, 0, none⟩) 2 2, .slice (some ⟨w7.heap.size + 1 + 1 + 1 + 1, 0, none⟩) 0 0] 39))
  simp only [World.size_alloc] at q4
  generalize ((((((w7.alloc (.cells #[.int .i64 (-1)] 3)).alloc (.cells #[] 3)).alloc (.cells #[.slice (some ⟨w7.heap.size, 0, none⟩) 1 1, .slice (some ⟨w7.heap.size + 1, 0, none⟩) 0 0] 39)).alloc (.cells #[.int .i64 (-1), .int .i64 1] 3)).alloc (.cells #[] 3)).alloc (.cells #[.slice (some ⟨w7.heap.size + 1 + 1 + 1, 0, none⟩) 2 2, .slice (some ⟨w7.heap.size + 1 + 1 + 1 + 1, 0, none⟩) 0 0] 39)) = w8 at *
  have HB8 := Lib.hid (HB7.out.trans (hb8.mono HB7.out.size))
  have HB38 := Lib.hid (HB37.out.trans (hb8.mono HB37.out.size))
  have HB68 := Lib.hid (hb7.trans (hb8.mono hb7.size))
  have HW0 : Hid (IntsAt w8 (fun _ => True) (.slice (some ⟨w7.heap.size + 1 + 1 + 1, 0, none⟩) 2 2) [-1, 1]) := Lib.hid (ints2 q3)
  have HC0 : Hid (w8.cell? ⟨w7.heap.size + 1 + 1 + 1 + 1 + 1, 0, none⟩ = some (.slice (some ⟨w7.heap.size + 1 + 1 + 1, 0, none⟩) 2 2)) := Lib.hid (q5.cell 0)
  have HW1 : Hid (IntsAt w8 (fun _ => True) (.slice (some ⟨w7.heap.size + 1 + 1 + 1 + 1, 0, none⟩) 0 0) []) := Lib.hid (ints0 w8 _)
  have HC1 : Hid (w8.cell? ⟨w7.heap.size + 1 + 1 + 1 + 1 + 1, 1, none⟩ = some (.slice (some ⟨w7.heap.size + 1 + 1 + 1 + 1, 0, none⟩) 0 0)) := Lib.hid (q5.cell 1)
  have HLW := Lib.hid q5.lt
  have HL3 : Hid (w3.heap.size < w6.heap.size) := Lib.hid lg
  have HG2 := Lib.hid g2
  have HG1 := Lib.hid g1
  have HG0 := Lib.hid g0
  clear q5 q3 q4 hb8 hb7 hc7 hz7 hx0 t0 t1 r0 u1 u2 k1 k2 k3 g0 g1 g2 lg
  go_wp2_with fail
  go_loopw [151] (fun q wr => ∃ k : Nat, q = .int .i64 k ∧ k ≤ 2 ∧ Below w8.heap.size w8 wr) (fun q _ => 2 - (intOf q).toNat)
  case atStart => exact ⟨0, rfl, Nat.zero_le _, Below.refl _ _⟩
  case round =>
    obtain ⟨k, rfl, hk, hbr⟩ := hrel
    have HBR := Lib.hid hbr
    have HB3R : Hid (Below w3.heap.size w3 wr) := Lib.hid (HB38.out.trans (hbr.mono HB38.out.size))
    have HB6R : Hid (Below w6.heap.size w6 wr) := Lib.hid (HB68.out.trans (hbr.mono HB68.out.size))
    by_cases hlt : k < 2
    case neg =>
      obtain rfl : k = 2 := by omega
      clear hbr hlt hk
      have HBW : Hid (Below w.heap.size w wr) := Lib.hid (HB8.out.trans (HBR.out.mono HB8.out.size))
      have lg : w3.heap.size < wr.heap.size := Nat.lt_of_lt_of_le HL3.out HB6R.out.size
      have g0 : wr.cell? ⟨w3.heap.size, 0, none⟩ = some (.slice (some ⟨gt, 0, none⟩) 2 tc) := (HB6R.out.cell (p := ⟨w3.heap.size, 0, none⟩) HL3.out).trans HG0.out
      have g1 : wr.cell? ⟨w3.heap.size, 1, none⟩ = some (.slice vo 4 vc) := (HB6R.out.cell (p := ⟨w3.heap.size, 1, none⟩) HL3.out).trans HG1.out
      have g2 : wr.cell? ⟨w3.heap.size, 2, none⟩ = some (.slice (some ⟨gr, 0, none⟩) 7 rc) := (HB6R.out.cell (p := ⟨w3.heap.size, 2, none⟩) HL3.out).trans HG2.out
      have hnX := gname_any wr (fun k => k < w3.heap.size) (some ⟨gt, 0, none⟩) vo (some ⟨gr, 0, none⟩) tc vc 7 rc (shG_s0 a b) 1 ((HG3.out.keep (w' := wr) (A' := fun k => k < w3.heap.size) (fun q hq hA => ⟨hA, (HB3R.out).block q hq⟩) (HB3R.out).size)).vs ((HG3.out.keep (w' := wr) (A' := fun k => k < w3.heap.size) (fun q hq hA => ⟨hA, (HB3R.out).block q hq⟩) (HB3R.out).size)).ts (by unfold In64x; decide) (by show symOk 4 2 1 = true; decide) (fun x hx => by have hx : x ∈ [a, b] := hx; simp only [List.mem_cons, List.not_mem_nil, or_false] at hx; rcases hx with rfl | rfl <;> omega)
      rw [show nameL (shG_s0 a b) 1 = [103, 49] from rfl, show S [103, 49] = ⟨#[103, 49]⟩ from rfl, show (shG_s0 a b).terms.length = 2 from rfl, show (shG_s0 a b).vars.length = 4 from rfl] at hnX
      go_wp2_with fail
      refine hnX.mono ?_
      rintro e w9 ⟨rfl, hbn⟩
      have HB9_1 := Lib.hid (HBW.out.trans (hbn.mono HBW.out.size))
      have HB9_3 := Lib.hid (HB3R.out.trans (hbn.mono HB3R.out.size))
      have HB9_6 := Lib.hid (HB6R.out.trans (hbn.mono HB6R.out.size))
      clear hnX hbn lg g0 g1 g2
      have lg : w3.heap.size < w9.heap.size := Nat.lt_of_lt_of_le HL3.out HB9_6.out.size
      have g0 : w9.cell? ⟨w3.heap.size, 0, none⟩ = some (.slice (some ⟨gt, 0, none⟩) 2 tc) := (HB9_6.out.cell (p := ⟨w3.heap.size, 0, none⟩) HL3.out).trans HG0.out
      have g1 : w9.cell? ⟨w3.heap.size, 1, none⟩ = some (.slice vo 4 vc) := (HB9_6.out.cell (p := ⟨w3.heap.size, 1, none⟩) HL3.out).trans HG1.out
      have g2 : w9.cell? ⟨w3.heap.size, 2, none⟩ = some (.slice (some ⟨gr, 0, none⟩) 7 rc) := (HB9_6.out.cell (p := ⟨w3.heap.size, 2, none⟩) HL3.out).trans HG2.out
      have hnX := gname_any w9 (fun k => k < w3.heap.size) (some ⟨gt, 0, none⟩) vo (some ⟨gr, 0, none⟩) tc vc 7 rc (shG_s0 a b) 2 ((HG3.out.keep (w' := w9) (A' := fun k => k < w3.heap.size) (fun q hq hA => ⟨hA, (HB9_3.out).block q hq⟩) (HB9_3.out).size)).vs ((HG3.out.keep (w' := w9) (A' := fun k => k < w3.heap.size) (fun q hq hA => ⟨hA, (HB9_3.out).block q hq⟩) (HB9_3.out).size)).ts (by unfold In64x; decide) (by show symOk 4 2 2 = true; decide) (fun x hx => by have hx : x ∈ [a, b] := hx; simp only [List.mem_cons, List.not_mem_nil, or_false] at hx; rcases hx with rfl | rfl <;> omega)
      rw [show nameL (shG_s0 a b) 2 = [103, 50] from rfl, show S [103, 50] = ⟨#[103, 50]⟩ from rfl, show (shG_s0 a b).terms.length = 2 from rfl, show (shG_s0 a b).vars.length = 4 from rfl] at hnX
      go_wp2_with fail
      refine hnX.mono ?_
      rintro e w10 ⟨rfl, hbn⟩
      have HB10_1 := Lib.hid (HB9_1.out.trans (hbn.mono HB9_1.out.size))
      have HB10_3 := Lib.hid (HB9_3.out.trans (hbn.mono HB9_3.out.size))
      have HB10_6 := Lib.hid (HB9_6.out.trans (hbn.mono HB9_6.out.size))
      clear hnX hbn lg g0 g1 g2
      have lg : w3.heap.size < w10.heap.size := Nat.lt_of_lt_of_le HL3.out HB10_6.out.size
      have g0 : w10.cell? ⟨w3.heap.size, 0, none⟩ = some (.slice (some ⟨gt, 0, none⟩) 2 tc) := (HB10_6.out.cell (p := ⟨w3.heap.size, 0, none⟩) HL3.out).trans HG0.out
      have g1 : w10.cell? ⟨w3.heap.size, 1, none⟩ = some (.slice vo 4 vc) := (HB10_6.out.cell (p := ⟨w3.heap.size, 1, none⟩) HL3.out).trans HG1.out
      have g2 : w10.cell? ⟨w3.heap.size, 2, none⟩ = some (.slice (some ⟨gr, 0, none⟩) 7 rc) := (HB10_6.out.cell (p := ⟨w3.heap.size, 2, none⟩) HL3.out).trans HG2.out
      have hri := right_any w10 (fun k => k < w3.heap.size) (some ⟨gt, 0, none⟩) vo (some ⟨gr, 0, none⟩) tc vc rc (shG_s0 a b) (fun _ => true) (HG3.out.keep (w' := w10) (A' := fun k => k < w3.heap.size) (fun q hq hA => ⟨hA, (HB10_3.out).block q hq⟩) (HB10_3.out).size) HVC.out HRC.out sh_in_s0 (fun x hx => by have hx : x ∈ ([[115], [103, 49], [103, 50], [103, 51]] : List (List UInt8)) := hx; simp only [List.mem_cons, List.not_mem_nil, or_false] at hx; rcases hx with rfl | rfl | rfl | rfl <;> decide) (fun x hx => by have hx : x ∈ [a, b] := hx; simp only [List.mem_cons, List.not_mem_nil, or_false] at hx; unfold maxLen; rcases hx with rfl | rfl <;> omega) (sh_wt_s0 (HV3.out.below HB10_3.out))
      rw [show (shG_s0 a b).terms.length = 2 from rfl, show (shG_s0 a b).vars.length = 4 from rfl, show (shG_s0 a b).rules.length = 7 from rfl] at hri
      go_wp2_with fail
      refine hri.mono ?_
      rintro e w11 ⟨⟨D, rfl, hD⟩, hb11⟩
      obtain rfl : D = true := hD.2 HRT.out
      have HB11 := Lib.hid (HB10_1.out.trans (hb11.mono HB10_1.out.size))
      clear hri hb11 hD lg g0 g1 g2
      go_wp2_with fail
      go_ret
      exact ⟨rfl, HB11.out⟩
    have hkk : k = 0 ∨ k = 1 := by omega
    clear hlt hk
    rcases hkk with rfl | rfl
    · have hr := (HG3.out.keep (w' := wr) (A' := fun _ => True) (fun q hq _ => ⟨trivial, HB3R.out.block q hq⟩) HB3R.out.size).rs
      obtain ⟨gr', cr', u0, er, hgr', _, r01, _, hu0⟩ := ERul.at hr (k := 2) (r := (1, [-1, 1], 0)) rfl
      injection er with er j1 j2
      injection er with er
      injection er with er
      subst er
      clear j1 j2
      obtain ⟨uo, uc, rfl⟩ := ListOf.form hu0
      have c1 : wr.cell? ⟨gr, 7, none⟩ = some (.slice uo 2 uc) := r01
      have lg : w3.heap.size < wr.heap.size := Nat.lt_of_lt_of_le HL3.out HB6R.out.size
      have g2 : wr.cell? ⟨w3.heap.size, 2, none⟩ = some (.slice (some ⟨gr, 0, none⟩) 7 rc) := (HB6R.out.cell (p := ⟨w3.heap.size, 2, none⟩) HL3.out).trans HG2.out
      have wl : w7.heap.size + 1 + 1 + 1 + 1 + 1 < wr.heap.size := Nat.lt_of_lt_of_le HLW.out hbr.size
      have wc : wr.cell? ⟨w7.heap.size + 1 + 1 + 1 + 1 + 1, 0, none⟩ = some (.slice (some ⟨w7.heap.size + 1 + 1 + 1, 0, none⟩) 2 2) := (hbr.cell (p := ⟨w7.heap.size + 1 + 1 + 1 + 1 + 1, 0, none⟩) HLW.out).trans HC0.out
      have hsm := sameT_any wr (fun _ => True) (fun _ => True) (.slice uo 2 uc) (.slice (some ⟨w7.heap.size + 1 + 1 + 1, 0, none⟩) 2 2) [-1, 1] [-1, 1] hu0 (HW0.out.keep keepsInt (fun q hq _ => ⟨trivial, hbr.block q hq⟩) hbr.size)
      rw [decide_eq_true rfl] at hsm
      clear hr hu0 r01 hbr
      go_wp2_with fail
      refine hsm.mono ?_
      rintro e w9 ⟨rfl, nq, rfl⟩
      have HB9 : Hid (Below w8.heap.size w8 (wr.drewN nq)) := Lib.hid (HBR.out.trans ((qt_drew (Qt.refl _) nq).below.mono HBR.out.size))
      generalize wr.drewN nq = w9 at *
      clear hsm c1 g2 wl wc lg hgr'
      go_wp2_with fail
      exact ⟨⟨1, rfl, by decide, HB9.out⟩, by simp only [intOf]; omega⟩
    · have hr := (HG3.out.keep (w' := wr) (A' := fun _ => True) (fun q hq _ => ⟨trivial, HB3R.out.block q hq⟩) HB3R.out.size).rs
      obtain ⟨gr', cr', u0, er, hgr', _, r01, _, hu0⟩ := ERul.at hr (k := 3) (r := (1, [], 0)) rfl
      injection er with er j1 j2
      injection er with er
      injection er with er
      subst er
      clear j1 j2
      obtain ⟨uo, uc, rfl⟩ := ListOf.form hu0
      have c1 : wr.cell? ⟨gr, 10, none⟩ = some (.slice uo 0 uc) := r01
      have lg : w3.heap.size < wr.heap.size := Nat.lt_of_lt_of_le HL3.out HB6R.out.size
      have g2 : wr.cell? ⟨w3.heap.size, 2, none⟩ = some (.slice (some ⟨gr, 0, none⟩) 7 rc) := (HB6R.out.cell (p := ⟨w3.heap.size, 2, none⟩) HL3.out).trans HG2.out
      have wl : w7.heap.size + 1 + 1 + 1 + 1 + 1 < wr.heap.size := Nat.lt_of_lt_of_le HLW.out hbr.size
      have wc : wr.cell? ⟨w7.heap.size + 1 + 1 + 1 + 1 + 1, 1, none⟩ = some (.slice (some ⟨w7.heap.size + 1 + 1 + 1 + 1, 0, none⟩) 0 0) := (hbr.cell (p := ⟨w7.heap.size + 1 + 1 + 1 + 1 + 1, 1, none⟩) HLW.out).trans HC1.out
      have hsm := sameT_any wr (fun _ => True) (fun _ => True) (.slice uo 0 uc) (.slice (some ⟨w7.heap.size + 1 + 1 + 1 + 1, 0, none⟩) 0 0) [] [] hu0 (HW1.out.keep keepsInt (fun q hq _ => ⟨trivial, hbr.block q hq⟩) hbr.size)
      rw [decide_eq_true rfl] at hsm
      clear hr hu0 r01 hbr
      go_wp2_with fail
      refine hsm.mono ?_
      rintro e w9 ⟨rfl, nq, rfl⟩
      have HB9 : Hid (Below w8.heap.size w8 (wr.drewN nq)) := Lib.hid (HBR.out.trans ((qt_drew (Qt.refl _) nq).below.mono HBR.out.size))
      generalize wr.drewN nq = w9 at *
      clear hsm c1 g2 wl wc lg hgr'
      go_wp2_with fail
      exact ⟨⟨2, rfl, by decide, HB9.out⟩, by simp only [intOf]; omega⟩
set_option maxRecDepth 100000 in
set_option maxHeartbeats 8000000 in
theorem gsh_s1 (a b : List UInt8) (x r : Int) (hand : bits .and .i64 x 3 = r) (htm : r.tmod 3 = 1) (h : b < a) (ha : isQuoteB a = true) (hb : isQuoteB b = true) (w : World) (bb off : Nat) (hv : Pv w bb off) : Calls Tryz.prog 5 #[.string (S a), .string (S b), .int .i64 x] w fun e w' => e = .returned (.bool true) ∧ Below w.heap.size w w' := by
  have hal := galive_any w bb off hv
  have HV := Lib.hid hv
  have hla : a.length ≤ 16 ∧ b.length ≤ 16 := by
    unfold isQuoteB at ha hb
    simp only [Bool.and_eq_true, decide_eq_true_eq] at ha hb
    exact ⟨ha.1.2, hb.1.2⟩
  have hq1 := fun w => isquote_any (S a) (by rw [S_sz]; unfold maxLen; omega) w
  have hq2 := fun w => isquote_any (S b) (by rw [S_sz]; unfold maxLen; omega) w
  rw [S_list, ha] at hq1
  rw [S_list, hb] at hq2
  have hab : a ≠ b := fun e => by rw [e] at h; exact List.lt_irrefl _ h
  have hba : b ≠ a := fun e => hab e.symm
  have hne : ((S a).toList == (S b).toList) = false := by rw [S_eq]; exact decide_eq_false hab
  have hL := fun w1 (h0 : Vs w1 bb off) => sload_any (sh_load_s1 h ha hb) (by unfold shpT; simp only [List.length_append, List.length_cons, List.length_nil]; unfold maxLen; omega) w1 bb off h0
  rw [← sh_cat, show (shG_s1 a b).terms.length = 2 from rfl, show (shG_s1 a b).vars.length = 4 from rfl, show (shG_s1 a b).rules.length = 7 from rfl] at hL
  have HL := Lib.hid hL
  have HRT := Lib.hid (sh_right_s1 h ha hb)
  obtain ⟨l1, l2, l3, l4, l5, l6, l7, d1, d2, d3, d4, d5, d6, d7, d8, d9, d10⟩ := sh_size a b 42
  obtain ⟨hl1, hl2⟩ := hla
  have HLA := Lib.hid hl1
  have HLB := Lib.hid hl2
  have hsa := S_sz a
  have hsb := S_sz b
  clear hv hL
  go_enter Tryz.func5, Tryz.ntmps5
  go_wp2_with fail
  refine hal.mono ?_
  rintro e w1 ⟨rfl, hb1⟩
  have HB1 := Lib.hid hb1
  clear hb1 hal
  go_wp2_with fail
  refine (hq1 _).mono ?_
  rintro e w2 ⟨rfl, rfl⟩
  go_wp2_with fail
  refine (hq2 _).mono ?_
  rintro e w3 ⟨rfl, rfl⟩
  clear hq1 hq2
  go_upto_region 6 with fail
  have hb2 : Below w1.heap.size w1 (w1.alloc (.cells #[.string ⟨#[63]⟩, .string ⟨#[42]⟩, .string ⟨#[43]⟩] 9)) := (Below.refl _ _).alloc (Nat.le_refl _) _
  generalize w1.alloc (.cells #[.string ⟨#[63]⟩, .string ⟨#[42]⟩, .string ⟨#[43]⟩] 9) = w2 at *
  have HB2 := Lib.hid (HB1.out.trans (hb2.mono HB1.out.size))
  clear hb2 hand hne htm
  go_wp2_with fail
  refine (HL.out _ (HV.out.below HB2.out).vs).mono ?_
  rintro e w3 ⟨⟨tbo, vo, ro, tc, vc, rc, rfl, hg, hvc, hrc⟩, hb3⟩
  obtain ⟨gt, ct, ev, hgt, ht0⟩ := StrsAt.cell hg.ts (k := 0) (x := b) rfl
  injection ev with ev j1 j2
  subst ev
  clear j1 j2
  obtain ⟨gt', ct', ev, _, ht1⟩ := StrsAt.cell hg.ts (k := 1) (x := a) rfl
  injection ev with ev j1 j2
  injection ev with ev
  injection ev with ev
  subst ev
  clear j1 j2
  obtain ⟨gr, cr, u0, er, hgr, _, r01, _, hu0⟩ := ERul.at hg.rs (k := 0) (r := (0, [1, 2], 0)) rfl
  injection er with er j1 j2
  subst er
  clear j1 j2
  obtain ⟨gu, cu, eu, hgu, hu1⟩ := IntsAt.cell hu0 (k := 0) (x := 1) rfl
  subst eu
  obtain ⟨gu', cu', eu, _, hu2⟩ := IntsAt.cell hu0 (k := 1) (x := 2) rfl
  injection eu with eu j1 j2
  injection eu with eu
  injection eu with eu
  subst eu
  clear j1 j2 hu0
  have hv3 : Pv w3 bb off := HV.out.below (HB2.out.trans (hb3.mono HB2.out.size))
  have HV3 := Lib.hid hv3
  have HB3 := Lib.hid (HB2.out.trans (hb3.mono HB2.out.size))
  have HG3 := Lib.hid hg
  have HVC := Lib.hid hvc
  have HRC := Lib.hid hrc
  clear hg hb3 HL hv3 hvc hrc l1 l2 l3 l4 l5 l6 l7 d1 d2 d3 d4 d5 d6 d7 d8 d9 d10 hsa hsb
  go_upto_region 7 with fail
  have b1 := (Blk.new w3 26 #[.slice (some ⟨gt, 0, none⟩) 2 tc, .slice vo 4 vc, .slice (some ⟨gr, 0, none⟩) 7 rc]).alloc (.cells #[.int .i64 0, .int .i64 0] 29)
  have b2 := Blk.new (w3.alloc (.cells #[.slice (some ⟨gt, 0, none⟩) 2 tc, .slice vo 4 vc, .slice (some ⟨gr, 0, none⟩) 7 rc] 26)) 29 #[.int .i64 0, .int .i64 0]
  rw [World.size_alloc] at b2
  have hb4 : Below w3.heap.size w3 ((w3.alloc (.cells #[.slice (some ⟨gt, 0, none⟩) 2 tc, .slice vo 4 vc, .slice (some ⟨gr, 0, none⟩) 7 rc] 26)).alloc (.cells #[.int .i64 0, .int .i64 0] 29)) := ((Below.refl _ _).alloc (Nat.le_refl _) _).alloc (by simp) _
  generalize (w3.alloc (.cells #[.slice (some ⟨gt, 0, none⟩) 2 tc, .slice vo 4 vc, .slice (some ⟨gr, 0, none⟩) 7 rc] 26)).alloc (.cells #[.int .i64 0, .int .i64 0] 29) = w4 at *
  have t0 : w4.cell? ⟨gt, 0, none⟩ = some (.string (S b)) := (hb4.cell (p := ⟨gt, 0, none⟩) hgt).trans ht0
  have t1 : w4.cell? ⟨gt, 1, none⟩ = some (.string (S a)) := (hb4.cell (p := ⟨gt, 1, none⟩) hgt).trans ht1
  have r0 : w4.cell? ⟨gr, 1, none⟩ = some (.slice (some ⟨gu, 0, none⟩) 2 cu) := (hb4.cell (p := ⟨gr, 1, none⟩) hgr).trans r01
  have u1 : w4.cell? ⟨gu, 0, none⟩ = some (.int .i64 1) := (hb4.cell (p := ⟨gu, 0, none⟩) hgu).trans hu1
  have u2 : w4.cell? ⟨gu, 1, none⟩ = some (.int .i64 2) := (hb4.cell (p := ⟨gu, 1, none⟩) hgu).trans hu2
  have hz4 := hb4.size
  have k1 : gt < w4.heap.size := by omega
  have k2 : gr < w4.heap.size := by omega
  have k3 : gu < w4.heap.size := by omega
  have f0 : w4.cell? ⟨w3.heap.size + 1, 0, none⟩ = some (.int .i64 0) := b2.cell 0
  have g0 : w4.cell? ⟨w3.heap.size, 0, none⟩ = some (.slice (some ⟨gt, 0, none⟩) 2 tc) := b1.cell 0
  have g1 : w4.cell? ⟨w3.heap.size, 1, none⟩ = some (.slice vo 4 vc) := b1.cell 1
  have g2 : w4.cell? ⟨w3.heap.size, 2, none⟩ = some (.slice (some ⟨gr, 0, none⟩) 7 rc) := b1.cell 2
  have lf := b2.lt
  have lg := b1.lt
  have HZ4 := Lib.hid hz4
  have HB34 := Lib.hid hb4
  have HB4 := Lib.hid (HB3.out.trans (hb4.mono HB3.out.size))
  have hlt := S_lss b a
  rw [decide_eq_true h] at hlt
  have heq : ((S a).toList == (S a).toList) = true := by rw [S_eq]; exact decide_eq_true rfl
  clear b1 hb4 b2 hz4 ht0 ht1 r01 hu1 hu2 hgt hgr hgu
  go_wp2_with fail
  go_quiet (fail)
  clear f0 lf hlt
  have cq : ∀ p, w4.cell? p = (w4.drewN nq).cell? p := fun _ => rfl
  have sq : w4.heap.size = (w4.drewN nq).heap.size := rfl
  have hq : Below w4.heap.size w4 (w4.drewN nq) := (qt_drew (Qt.refl _) nq).below
  rw [cq] at t0 t1 r0 u1 u2 g0 g1 g2
  rw [sq] at k1 k2 k3 lg
  have HB5 : Hid (Below w.heap.size w (w4.drewN nq)) := Lib.hid (HB4.out.trans (hq.mono HB4.out.size))
  have HB35 : Hid (Below w3.heap.size w3 (w4.drewN nq)) := Lib.hid (HB34.out.trans (hq.mono HB34.out.size))
  generalize w4.drewN nq = w5 at *
  clear cq sq hq
  go_wp2_with fail
  go_quiet (fail)
  clear heq
  have cq : ∀ p, w5.cell? p = (w5.drewN nq).cell? p := fun _ => rfl
  have sq : w5.heap.size = (w5.drewN nq).heap.size := rfl
  have hq : Below w5.heap.size w5 (w5.drewN nq) := (qt_drew (Qt.refl _) nq).below
  rw [cq] at t0 t1 r0 u1 u2 g0 g1 g2
  rw [sq] at k1 k2 k3 lg
  have HB6 : Hid (Below w.heap.size w (w5.drewN nq)) := Lib.hid (HB5.out.trans (hq.mono HB5.out.size))
  have HB36 : Hid (Below w3.heap.size w3 (w5.drewN nq)) := Lib.hid (HB35.out.trans (hq.mono HB35.out.size))
  generalize w5.drewN nq = w6 at *
  clear cq sq hq
  have hru := rules_any w6 (fun k => k < w3.heap.size) (some ⟨gt, 0, none⟩) vo (some ⟨gr, 0, none⟩) 2 tc 4 vc rc shR_s1 1 ((HG3.out.keep (w' := w6) (A' := fun k => k < w3.heap.size) (fun q hq hA => ⟨hA, HB36.out.block q hq⟩) HB36.out.size).rs) sh_sorted_s1 (by decide)
  rw [show shR_s1.length = 7 from rfl, show fromR shR_s1 1 = 2 by kernel_rfl, show toR shR_s1 1 = 4 by kernel_rfl] at hru
  go_wp2_with fail
  refine hru.mono ?_
  rintro e w7 ⟨rfl, hb7⟩
  have HB7 := Lib.hid (HB6.out.trans (hb7.mono HB6.out.size))
  have HB37 := Lib.hid (HB36.out.trans (hb7.mono HB36.out.size))
  have hc7 := fun (p : Addr) (h : p.block < w6.heap.size) => hb7.cell (p := p) h
  have hz7 := hb7.size
  have hx0 : bits BinOp.xor IntKind.i64 (if IntKind.i64.signed = true then -1 else 9223372036854775807) 1 = (-2) := by decide
  clear hru
  go_upto_region 20 with fail
  have hb8 : Below w7.heap.size w7 ((((((w7.alloc (.cells #[.int .i64 (-2)] 3)).alloc (.cells #[] 3)).alloc (.cells #[.slice (some ⟨w7.heap.size, 0, none⟩) 1 1, .slice (some ⟨w7.heap.size + 1, 0, none⟩) 0 0] 39)).alloc (.cells #[.int .i64 (-2), .int .i64 1] 3)).alloc (.cells #[] 3)).alloc (.cells #[.slice (some ⟨w7.heap.size + 1 + 1 + 1, 0, none⟩) 2 2, .slice (some ⟨w7.heap.size + 1 + 1 + 1 + 1, 0, none⟩) 0 0] 39)) := (((((((Below.refl w7.heap.size w7).alloc (by exact Nat.le_refl _) _).alloc (by simp only [World.size_alloc]; omega) _).alloc (by simp only [World.size_alloc]; omega) _).alloc (by simp only [World.size_alloc]; omega) _).alloc (by simp only [World.size_alloc]; omega) _).alloc (by simp only [World.size_alloc]; omega) _)
  have q5 := (Blk.new (((((w7.alloc (.cells #[.int .i64 (-2)] 3)).alloc (.cells #[] 3)).alloc (.cells #[.slice (some ⟨w7.heap.size, 0, none⟩) 1 1, .slice (some ⟨w7.heap.size + 1, 0, none⟩) 0 0] 39)).alloc (.cells #[.int .i64 (-2), .int .i64 1] 3)).alloc (.cells #[] 3)) 39 #[.slice (some ⟨w7.heap.size + 1 + 1 + 1, 0, none⟩) 2 2, .slice (some ⟨w7.heap.size + 1 + 1 + 1 + 1, 0, none⟩) 0 0])
  simp only [World.size_alloc] at q5
  have q3 := (((Blk.new (((w7.alloc (.cells #[.int .i64 (-2)] 3)).alloc (.cells #[] 3)).alloc (.cells #[.slice (some ⟨w7.heap.size, 0, none⟩) 1 1, .slice (some ⟨w7.heap.size + 1, 0, none⟩) 0 0] 39)) 3 #[.int .i64 (-2), .int .i64 1]).alloc (.cells #[] 3)).alloc (.cells #[.slice (some ⟨w7.heap.size + 1 + 1 + 1, 0, none⟩) 2 2, .slice (some ⟨w7.heap.size + 1 + 1 + 1 + 1, 0, none⟩) 0 0] 39))
  simp only [World.size_alloc] at q3
  have q4 := ((Blk.new ((((w7.alloc (.cells #[.int .i64 (-2)] 3)).alloc (.cells #[] 3)).alloc (.cells #[.slice (some ⟨w7.heap.size, 0, none⟩) 1 1, .slice (some ⟨w7.heap.size + 1, 0, none⟩) 0 0] 39)).alloc (.cells #[.int .i64 (-2), .int .i64 1] 3)) 3 #[]).alloc (.cells #[.slice (some ⟨w7.heap.size + 1 + 1 + 1, 0, none⟩) 2 2, .slice (some ⟨w7.heap.size + 1 + 1 + 1 + 1, 0, none⟩) 0 0] 39))
  simp only [World.size_alloc] at q4
  generalize ((((((w7.alloc (.cells #[.int .i64 (-2)] 3)).alloc (.cells #[] 3)).alloc (.cells #[.slice (some ⟨w7.heap.size, 0, none⟩) 1 1, .slice (some ⟨w7.heap.size + 1, 0, none⟩) 0 0] 39)).alloc (.cells #[.int .i64 (-2), .int .i64 1] 3)).alloc (.cells #[] 3)).alloc (.cells #[.slice (some ⟨w7.heap.size + 1 + 1 + 1, 0, none⟩) 2 2, .slice (some ⟨w7.heap.size + 1 + 1 + 1 + 1, 0, none⟩) 0 0] 39)) = w8 at *
  have HB8 := Lib.hid (HB7.out.trans (hb8.mono HB7.out.size))
  have HB38 := Lib.hid (HB37.out.trans (hb8.mono HB37.out.size))
  have HB68 := Lib.hid (hb7.trans (hb8.mono hb7.size))
  have HW0 : Hid (IntsAt w8 (fun _ => True) (.slice (some ⟨w7.heap.size + 1 + 1 + 1, 0, none⟩) 2 2) [-2, 1]) := Lib.hid (ints2 q3)
  have HC0 : Hid (w8.cell? ⟨w7.heap.size + 1 + 1 + 1 + 1 + 1, 0, none⟩ = some (.slice (some ⟨w7.heap.size + 1 + 1 + 1, 0, none⟩) 2 2)) := Lib.hid (q5.cell 0)
  have HW1 : Hid (IntsAt w8 (fun _ => True) (.slice (some ⟨w7.heap.size + 1 + 1 + 1 + 1, 0, none⟩) 0 0) []) := Lib.hid (ints0 w8 _)
  have HC1 : Hid (w8.cell? ⟨w7.heap.size + 1 + 1 + 1 + 1 + 1, 1, none⟩ = some (.slice (some ⟨w7.heap.size + 1 + 1 + 1 + 1, 0, none⟩) 0 0)) := Lib.hid (q5.cell 1)
  have HLW := Lib.hid q5.lt
  have HL3 : Hid (w3.heap.size < w6.heap.size) := Lib.hid lg
  have HG2 := Lib.hid g2
  have HG1 := Lib.hid g1
  have HG0 := Lib.hid g0
  clear q5 q3 q4 hb8 hb7 hc7 hz7 hx0 t0 t1 r0 u1 u2 k1 k2 k3 g0 g1 g2 lg
  go_wp2_with fail
  go_loopw [151] (fun q wr => ∃ k : Nat, q = .int .i64 k ∧ k ≤ 2 ∧ Below w8.heap.size w8 wr) (fun q _ => 2 - (intOf q).toNat)
  case atStart => exact ⟨0, rfl, Nat.zero_le _, Below.refl _ _⟩
  case round =>
    obtain ⟨k, rfl, hk, hbr⟩ := hrel
    have HBR := Lib.hid hbr
    have HB3R : Hid (Below w3.heap.size w3 wr) := Lib.hid (HB38.out.trans (hbr.mono HB38.out.size))
    have HB6R : Hid (Below w6.heap.size w6 wr) := Lib.hid (HB68.out.trans (hbr.mono HB68.out.size))
    by_cases hlt : k < 2
    case neg =>
      obtain rfl : k = 2 := by omega
      clear hbr hlt hk
      have HBW : Hid (Below w.heap.size w wr) := Lib.hid (HB8.out.trans (HBR.out.mono HB8.out.size))
      have lg : w3.heap.size < wr.heap.size := Nat.lt_of_lt_of_le HL3.out HB6R.out.size
      have g0 : wr.cell? ⟨w3.heap.size, 0, none⟩ = some (.slice (some ⟨gt, 0, none⟩) 2 tc) := (HB6R.out.cell (p := ⟨w3.heap.size, 0, none⟩) HL3.out).trans HG0.out
      have g1 : wr.cell? ⟨w3.heap.size, 1, none⟩ = some (.slice vo 4 vc) := (HB6R.out.cell (p := ⟨w3.heap.size, 1, none⟩) HL3.out).trans HG1.out
      have g2 : wr.cell? ⟨w3.heap.size, 2, none⟩ = some (.slice (some ⟨gr, 0, none⟩) 7 rc) := (HB6R.out.cell (p := ⟨w3.heap.size, 2, none⟩) HL3.out).trans HG2.out
      have hnX := gname_any wr (fun k => k < w3.heap.size) (some ⟨gt, 0, none⟩) vo (some ⟨gr, 0, none⟩) tc vc 7 rc (shG_s1 a b) 1 ((HG3.out.keep (w' := wr) (A' := fun k => k < w3.heap.size) (fun q hq hA => ⟨hA, (HB3R.out).block q hq⟩) (HB3R.out).size)).vs ((HG3.out.keep (w' := wr) (A' := fun k => k < w3.heap.size) (fun q hq hA => ⟨hA, (HB3R.out).block q hq⟩) (HB3R.out).size)).ts (by unfold In64x; decide) (by show symOk 4 2 1 = true; decide) (fun x hx => by have hx : x ∈ [b, a] := hx; simp only [List.mem_cons, List.not_mem_nil, or_false] at hx; rcases hx with rfl | rfl <;> omega)
      rw [show nameL (shG_s1 a b) 1 = [103, 49] from rfl, show S [103, 49] = ⟨#[103, 49]⟩ from rfl, show (shG_s1 a b).terms.length = 2 from rfl, show (shG_s1 a b).vars.length = 4 from rfl] at hnX
      go_wp2_with fail
      refine hnX.mono ?_
      rintro e w9 ⟨rfl, hbn⟩
      have HB9_1 := Lib.hid (HBW.out.trans (hbn.mono HBW.out.size))
      have HB9_3 := Lib.hid (HB3R.out.trans (hbn.mono HB3R.out.size))
      have HB9_6 := Lib.hid (HB6R.out.trans (hbn.mono HB6R.out.size))
      clear hnX hbn lg g0 g1 g2
      have lg : w3.heap.size < w9.heap.size := Nat.lt_of_lt_of_le HL3.out HB9_6.out.size
      have g0 : w9.cell? ⟨w3.heap.size, 0, none⟩ = some (.slice (some ⟨gt, 0, none⟩) 2 tc) := (HB9_6.out.cell (p := ⟨w3.heap.size, 0, none⟩) HL3.out).trans HG0.out
      have g1 : w9.cell? ⟨w3.heap.size, 1, none⟩ = some (.slice vo 4 vc) := (HB9_6.out.cell (p := ⟨w3.heap.size, 1, none⟩) HL3.out).trans HG1.out
      have g2 : w9.cell? ⟨w3.heap.size, 2, none⟩ = some (.slice (some ⟨gr, 0, none⟩) 7 rc) := (HB9_6.out.cell (p := ⟨w3.heap.size, 2, none⟩) HL3.out).trans HG2.out
      have hnX := gname_any w9 (fun k => k < w3.heap.size) (some ⟨gt, 0, none⟩) vo (some ⟨gr, 0, none⟩) tc vc 7 rc (shG_s1 a b) 2 ((HG3.out.keep (w' := w9) (A' := fun k => k < w3.heap.size) (fun q hq hA => ⟨hA, (HB9_3.out).block q hq⟩) (HB9_3.out).size)).vs ((HG3.out.keep (w' := w9) (A' := fun k => k < w3.heap.size) (fun q hq hA => ⟨hA, (HB9_3.out).block q hq⟩) (HB9_3.out).size)).ts (by unfold In64x; decide) (by show symOk 4 2 2 = true; decide) (fun x hx => by have hx : x ∈ [b, a] := hx; simp only [List.mem_cons, List.not_mem_nil, or_false] at hx; rcases hx with rfl | rfl <;> omega)
      rw [show nameL (shG_s1 a b) 2 = [103, 50] from rfl, show S [103, 50] = ⟨#[103, 50]⟩ from rfl, show (shG_s1 a b).terms.length = 2 from rfl, show (shG_s1 a b).vars.length = 4 from rfl] at hnX
      go_wp2_with fail
      refine hnX.mono ?_
      rintro e w10 ⟨rfl, hbn⟩
      have HB10_1 := Lib.hid (HB9_1.out.trans (hbn.mono HB9_1.out.size))
      have HB10_3 := Lib.hid (HB9_3.out.trans (hbn.mono HB9_3.out.size))
      have HB10_6 := Lib.hid (HB9_6.out.trans (hbn.mono HB9_6.out.size))
      clear hnX hbn lg g0 g1 g2
      have lg : w3.heap.size < w10.heap.size := Nat.lt_of_lt_of_le HL3.out HB10_6.out.size
      have g0 : w10.cell? ⟨w3.heap.size, 0, none⟩ = some (.slice (some ⟨gt, 0, none⟩) 2 tc) := (HB10_6.out.cell (p := ⟨w3.heap.size, 0, none⟩) HL3.out).trans HG0.out
      have g1 : w10.cell? ⟨w3.heap.size, 1, none⟩ = some (.slice vo 4 vc) := (HB10_6.out.cell (p := ⟨w3.heap.size, 1, none⟩) HL3.out).trans HG1.out
      have g2 : w10.cell? ⟨w3.heap.size, 2, none⟩ = some (.slice (some ⟨gr, 0, none⟩) 7 rc) := (HB10_6.out.cell (p := ⟨w3.heap.size, 2, none⟩) HL3.out).trans HG2.out
      have hri := right_any w10 (fun k => k < w3.heap.size) (some ⟨gt, 0, none⟩) vo (some ⟨gr, 0, none⟩) tc vc rc (shG_s1 a b) (fun _ => true) (HG3.out.keep (w' := w10) (A' := fun k => k < w3.heap.size) (fun q hq hA => ⟨hA, (HB10_3.out).block q hq⟩) (HB10_3.out).size) HVC.out HRC.out sh_in_s1 (fun x hx => by have hx : x ∈ ([[115], [103, 49], [103, 50], [103, 51]] : List (List UInt8)) := hx; simp only [List.mem_cons, List.not_mem_nil, or_false] at hx; rcases hx with rfl | rfl | rfl | rfl <;> decide) (fun x hx => by have hx : x ∈ [b, a] := hx; simp only [List.mem_cons, List.not_mem_nil, or_false] at hx; unfold maxLen; rcases hx with rfl | rfl <;> omega) (sh_wt_s1 (HV3.out.below HB10_3.out))
      rw [show (shG_s1 a b).terms.length = 2 from rfl, show (shG_s1 a b).vars.length = 4 from rfl, show (shG_s1 a b).rules.length = 7 from rfl] at hri
      go_wp2_with fail
      refine hri.mono ?_
      rintro e w11 ⟨⟨D, rfl, hD⟩, hb11⟩
      obtain rfl : D = true := hD.2 HRT.out
      have HB11 := Lib.hid (HB10_1.out.trans (hb11.mono HB10_1.out.size))
      clear hri hb11 hD lg g0 g1 g2
      go_wp2_with fail
      go_ret
      exact ⟨rfl, HB11.out⟩
    have hkk : k = 0 ∨ k = 1 := by omega
    clear hlt hk
    rcases hkk with rfl | rfl
    · have hr := (HG3.out.keep (w' := wr) (A' := fun _ => True) (fun q hq _ => ⟨trivial, HB3R.out.block q hq⟩) HB3R.out.size).rs
      obtain ⟨gr', cr', u0, er, hgr', _, r01, _, hu0⟩ := ERul.at hr (k := 2) (r := (1, [-2, 1], 0)) rfl
      injection er with er j1 j2
      injection er with er
      injection er with er
      subst er
      clear j1 j2
      obtain ⟨uo, uc, rfl⟩ := ListOf.form hu0
      have c1 : wr.cell? ⟨gr, 7, none⟩ = some (.slice uo 2 uc) := r01
      have lg : w3.heap.size < wr.heap.size := Nat.lt_of_lt_of_le HL3.out HB6R.out.size
      have g2 : wr.cell? ⟨w3.heap.size, 2, none⟩ = some (.slice (some ⟨gr, 0, none⟩) 7 rc) := (HB6R.out.cell (p := ⟨w3.heap.size, 2, none⟩) HL3.out).trans HG2.out
      have wl : w7.heap.size + 1 + 1 + 1 + 1 + 1 < wr.heap.size := Nat.lt_of_lt_of_le HLW.out hbr.size
      have wc : wr.cell? ⟨w7.heap.size + 1 + 1 + 1 + 1 + 1, 0, none⟩ = some (.slice (some ⟨w7.heap.size + 1 + 1 + 1, 0, none⟩) 2 2) := (hbr.cell (p := ⟨w7.heap.size + 1 + 1 + 1 + 1 + 1, 0, none⟩) HLW.out).trans HC0.out
      have hsm := sameT_any wr (fun _ => True) (fun _ => True) (.slice uo 2 uc) (.slice (some ⟨w7.heap.size + 1 + 1 + 1, 0, none⟩) 2 2) [-2, 1] [-2, 1] hu0 (HW0.out.keep keepsInt (fun q hq _ => ⟨trivial, hbr.block q hq⟩) hbr.size)
      rw [decide_eq_true rfl] at hsm
      clear hr hu0 r01 hbr
      go_wp2_with fail
      refine hsm.mono ?_
      rintro e w9 ⟨rfl, nq, rfl⟩
      have HB9 : Hid (Below w8.heap.size w8 (wr.drewN nq)) := Lib.hid (HBR.out.trans ((qt_drew (Qt.refl _) nq).below.mono HBR.out.size))
      generalize wr.drewN nq = w9 at *
      clear hsm c1 g2 wl wc lg hgr'
      go_wp2_with fail
      exact ⟨⟨1, rfl, by decide, HB9.out⟩, by simp only [intOf]; omega⟩
    · have hr := (HG3.out.keep (w' := wr) (A' := fun _ => True) (fun q hq _ => ⟨trivial, HB3R.out.block q hq⟩) HB3R.out.size).rs
      obtain ⟨gr', cr', u0, er, hgr', _, r01, _, hu0⟩ := ERul.at hr (k := 3) (r := (1, [], 0)) rfl
      injection er with er j1 j2
      injection er with er
      injection er with er
      subst er
      clear j1 j2
      obtain ⟨uo, uc, rfl⟩ := ListOf.form hu0
      have c1 : wr.cell? ⟨gr, 10, none⟩ = some (.slice uo 0 uc) := r01
      have lg : w3.heap.size < wr.heap.size := Nat.lt_of_lt_of_le HL3.out HB6R.out.size
      have g2 : wr.cell? ⟨w3.heap.size, 2, none⟩ = some (.slice (some ⟨gr, 0, none⟩) 7 rc) := (HB6R.out.cell (p := ⟨w3.heap.size, 2, none⟩) HL3.out).trans HG2.out
      have wl : w7.heap.size + 1 + 1 + 1 + 1 + 1 < wr.heap.size := Nat.lt_of_lt_of_le HLW.out hbr.size
      have wc : wr.cell? ⟨w7.heap.size + 1 + 1 + 1 + 1 + 1, 1, none⟩ = some (.slice (some ⟨w7.heap.size + 1 + 1 + 1 + 1, 0, none⟩) 0 0) := (hbr.cell (p := ⟨w7.heap.size + 1 + 1 + 1 + 1 + 1, 1, none⟩) HLW.out).trans HC1.out
      have hsm := sameT_any wr (fun _ => True) (fun _ => True) (.slice uo 0 uc) (.slice (some ⟨w7.heap.size + 1 + 1 + 1 + 1, 0, none⟩) 0 0) [] [] hu0 (HW1.out.keep keepsInt (fun q hq _ => ⟨trivial, hbr.block q hq⟩) hbr.size)
      rw [decide_eq_true rfl] at hsm
      clear hr hu0 r01 hbr
      go_wp2_with fail
      refine hsm.mono ?_
      rintro e w9 ⟨rfl, nq, rfl⟩
      have HB9 : Hid (Below w8.heap.size w8 (wr.drewN nq)) := Lib.hid (HBR.out.trans ((qt_drew (Qt.refl _) nq).below.mono HBR.out.size))
      generalize wr.drewN nq = w9 at *
      clear hsm c1 g2 wl wc lg hgr'
      go_wp2_with fail
      exact ⟨⟨2, rfl, by decide, HB9.out⟩, by simp only [intOf]; omega⟩
end Go.Proofs.YtldamieigigncaaGreatDoor.lx

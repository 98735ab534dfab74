import Derived.Test.YtldamieigigncaaGreatDoorVabp
import Derived.Test.YtldamieigigncaaGreatDoorVabq
import Derived.Test.YtldamieigigncaaGreatDoorVaaz
namespace Go.Proofs.YtldamieigigncaaGreatDoor.lx
open Go.ChangeShapes Go.WideShapes Go.ChangeAt Go.RowKit Go.Proofs.YtldamieigigncaaGreatDoor.ky
set_option linter.unusedVariables false
set_option linter.unusedSimpArgs false
attribute [local go_sem] run_store_float
/-! the document's example of layer 6 -/
theorem own_cap {w : World} {base size n cap : Nat} {e : TypeId} {ao : Option Addr} {xs : List Value} (h : w.ownsRow base e size (.slice ao n cap) n xs) : n ≤ cap := by
  rcases h.2 with ⟨hnil, h0⟩ | ⟨g', cap', cur, hv, hbase, hb, h1, h2, h3, h4⟩
  · omega
  · injection hv with _ _ hv
    omega
theorem GrO.reads {B : Nat} {w : World} {tv vv rv : Value} {g : Gra} (h : GrO B w tv vv rv g) : GrAt w (fun k => k < w.heap.size) tv vv rv g := by
  obtain ⟨h1, h2, N, h3⟩ := h
  exact ⟨(strs_of h1).keep keepsStr (fun b hb _ => ⟨hb, rfl⟩) (Nat.le_refl _), (strs_of h2).keep keepsStr (fun b hb _ => ⟨hb, rfl⟩) (Nat.le_refl _), (rules_of h3).keep keepsRul (fun b hb _ => ⟨hb, rfl⟩) (Nat.le_refl _)⟩
theorem RlW.caps {B N : Nat} {w : World} {rs : List Rl} {ro : Option Addr} {n rc : Nat} (h : RlW B N w (.slice ro n rc) rs) : rs.length ≤ rc := by
  obtain ⟨us, _, ho, _⟩ := h
  obtain ⟨ao, cap, e⟩ := own_form ho
  injection e with e1 e2 e3
  subst e2
  exact own_cap ho
theorem sload_any {s : List UInt8} {g : Gra} {E A : Nat} (h : loadAll s = (g, E, A)) (hs : s.length ≤ maxLen) (w : World) (b off : Nat) (hv : Vs w b off) : Calls Tryz.prog 7 #[.string (S s)] w fun e w' => (∃ (tbo vo ro : Option Addr) (tc vc rc : Nat), e = .returned (.tuple #[.agg #[.slice tbo g.terms.length tc, .slice vo g.vars.length vc, .slice ro g.rules.length rc], .agg #[.int .i64 E, .int .i64 A]]) ∧ GrAt w' (fun k => k < w'.heap.size) (.slice tbo g.terms.length tc) (.slice vo g.vars.length vc) (.slice ro g.rules.length rc) g ∧ g.vars.length ≤ vc ∧ g.rules.length ≤ rc) ∧ Below w.heap.size w w' := by
  refine (load_any (S s) hs w b off hv).mono ?_
  rintro e w' ⟨⟨tv, vv, rv, rfl, hg⟩, hb⟩
  rw [show (S s).data.toList = s from rfl, h] at hg ⊢
  obtain ⟨tbo, tc, rfl⟩ := own_form hg.1
  obtain ⟨vo, vc, rfl⟩ := own_form hg.2.1
  obtain ⟨N, hr⟩ := hg.2.2
  obtain ⟨ro, rc, rfl⟩ := hid_rules hr
  exact ⟨⟨tbo, vo, ro, tc, vc, rc, rfl, hg.reads, own_cap hg.2.1, hr.caps⟩, hb⟩
theorem ints_lit (w : World) (x y : Int) : IntsAt (w.alloc (.cells #[.int .i64 x, .int .i64 y] 3)) (fun _ => True) (.slice (some ⟨w.heap.size, 0, none⟩) 2 2) [x, y] := by
  have hb := Blk.new w 3 #[.int .i64 x, .int .i64 y]
  refine ⟨(by show 2 ≤ maxLen; decide), some ⟨w.heap.size, 0, none⟩, 2, rfl, fun _ => ⟨w.heap.size, rfl, hb.lt, trivial, fun k z hk => ?_⟩⟩
  refine ⟨[.int .i64 z], rfl, fun j u hj => ?_, rfl⟩
  match j, hj with
  | 0, hj =>
    cases hj
    match k, hk with
    | 0, hk => cases hk; exact hb.cell 0
    | 1, hk => cases hk; exact hb.cell 1
    | k + 2, hk => cases hk
  | j + 1, hj => cases hj
theorem told_txt {l : List UInt8} (hok : readOk l = true) {w : World} {b off : Nat} (hv : Pv w b off) : TxtTell w (readF l) (shortL l) := fun W hW => by
  obtain ⟨p1, p2⟩ := read_prn l
  have := text_any (readF l) p1 p2 W (hv.below hW).ps
  rw [read_text l hok] at this
  exact this
theorem ex_txt {w : World} {b off : Nat} (hv : Pv w b off) : ∀ r ∈ exG.rules, TxtTell w r.2.2 (exT r.2.2) := fun r hr => by
  have h0 := told_txt (l := [48]) (by decide +kernel) hv
  rw [show readF [48] = 0 by decide +kernel, show shortL [48] = [48] by decide +kernel] at h0
  have h1 := told_txt (l := [49, 46, 53]) (by decide +kernel) hv
  rw [show readF [49, 46, 53] = 4609434218613702656 by decide +kernel, show shortL [49, 46, 53] = [49, 46, 53] by decide +kernel] at h1
  rcases ex_rules r hr with rfl | rfl | rfl | rfl
  · exact h0
  · exact h1
  · exact h0
  · exact h0
theorem ex_tell {w : World} {b off : Nat} (hv : Pv w b off) : ∀ r ∈ exG.rules, WtTell w r.2.2 true := fun r hr => by
  rcases ex_rules r hr with rfl | rfl | rfl | rfl
  · exact told_tell told_zero hv
  · exact told_tell ex_told hv
  · exact told_tell told_zero hv
  · exact told_tell told_zero hv
set_option maxRecDepth 100000 in
set_option maxHeartbeats 8000000 in
theorem galive_any (w : World) (b off : Nat) (hv : Pv w b off) : Calls Tryz.prog 6 #[] w fun e w' => e = .returned (.bool true) ∧ Below w.heap.size w w' := by
  have HV := Lib.hid hv
  have hL1 := sload_any ex_load (by decide) w b off hv.vs
  have hL2 := fun w1 (h : Vs w1 b off) => sload_any ex_fault (by decide) w1 b off h
  have HL2 := Lib.hid hL2
  clear hv hL2
  have nq0 : ∀ w, (binOp BinOp.neq 29 (.agg #[.int .i64 0, .int .i64 0]) (.agg #[.int .i64 0, .int .i64 0])).run Tryz.prog w = .ok (.bool false) w := fun w => by kernel_rfl
  have nq9 : ∀ w, (binOp BinOp.neq 29 (.agg #[.int .i64 9, .int .i64 4]) (.agg #[.int .i64 9, .int .i64 4])).run Tryz.prog w = .ok (.bool false) w := fun w => by kernel_rfl
  have hS1 : S [101, 32, 61, 32, 101, 63, 32, 39, 98, 39, 32, 124, 32, 37, 49, 46, 53, 32, 39, 97, 39, 32, 59, 32] = ⟨#[101, 32, 61, 32, 101, 63, 32, 39, 98, 39, 32, 124, 32, 37, 49, 46, 53, 32, 39, 97, 39, 32, 59, 32]⟩ := rfl
  have hS2 : S [101, 32, 61, 32, 102, 32, 59] = ⟨#[101, 32, 61, 32, 102, 32, 59]⟩ := rfl
  rw [hS1, show exG.terms.length = 2 from rfl, show exG.vars.length = 2 from rfl, show exG.rules.length = 4 from rfl] at hL1
  rw [hS2, show gra0.terms.length = 0 from rfl, show gra0.vars.length = 0 from rfl, show gra0.rules.length = 0 from rfl] at HL2
  clear hS1 hS2
  go_enter Tryz.func6, Tryz.ntmps6
  go_wp2_with fail
  refine hL1.mono ?_
  rintro e w1 ⟨⟨tbo, vo, ro, tc, vc, rc, rfl, hg, hvc, hrc⟩, hb1⟩
  obtain ⟨gv, cv, ev, hgv, hcv⟩ := StrsAt.cell hg.vs (k := 1) (x := [103, 49]) rfl
  injection ev with ev j1 j2
  subst ev
  clear j1 j2
  obtain ⟨gr, cr, u0, er, hgr, _, r01, _, hu0⟩ := ERul.at hg.rs (k := 0) (r := (0, [1, -2], 0)) rfl
  injection er with er j1 j2
  subst er
  clear j1 j2
  obtain ⟨gr', cr', u1, er, _, _, _, r12, _⟩ := ERul.at hg.rs (k := 1) (r := (0, [-1], 4609434218613702656)) rfl
  injection er with er j1 j2
  injection er with er
  injection er with er
  subst er
  clear j1 j2
  obtain ⟨uo, uc, rfl⟩ := ListOf.form hu0
  have HU0 := Lib.hid hu0
  have HCV := Lib.hid hcv
  have HR01 := Lib.hid r01
  have HR12 := Lib.hid r12
  have HGV := Lib.hid hgv
  have HGR := Lib.hid hgr
  clear hu0 hcv r01 r12 hgv hgr
  have HG := Lib.hid hg
  have HB1 := Lib.hid hb1
  have HVC := Lib.hid hvc
  have HRC := Lib.hid hrc
  clear hg hb1 hL1 hvc hrc
  go_upto_region 2 with fail
  have b1 := (Blk.new w1 26 #[.slice tbo 2 tc, .slice (some ⟨gv, 0, none⟩) 2 vc, .slice (some ⟨gr, 0, none⟩) 4 rc]).alloc (.cells #[.int .i64 0, .int .i64 0] 29)
  have b2 := Blk.new (w1.alloc (.cells #[.slice tbo 2 tc, .slice (some ⟨gv, 0, none⟩) 2 vc, .slice (some ⟨gr, 0, none⟩) 4 rc] 26)) 29 #[.int .i64 0, .int .i64 0]
  rw [World.size_alloc] at b2
  have hb2 : Below w1.heap.size w1 ((w1.alloc (.cells #[.slice tbo 2 tc, .slice (some ⟨gv, 0, none⟩) 2 vc, .slice (some ⟨gr, 0, none⟩) 4 rc] 26)).alloc (.cells #[.int .i64 0, .int .i64 0] 29)) := ((Below.refl _ _).alloc (Nat.le_refl _) _).alloc (by simp) _
  generalize (w1.alloc (.cells #[.slice tbo 2 tc, .slice (some ⟨gv, 0, none⟩) 2 vc, .slice (some ⟨gr, 0, none⟩) 4 rc] 26)).alloc (.cells #[.int .i64 0, .int .i64 0] 29) = w2 at *
  have HB2 := Lib.hid (HB1.out.trans (hb2.mono HB1.out.size))
  have HB12 := Lib.hid hb2
  have HK1 := Lib.hid b1
  have HK2 := Lib.hid b2
  clear b1 b2 hb2
  go_wp2_with fail
  refine (HL2.out _ (HV.out.below HB2.out).vs).mono ?_
  rintro e w3 ⟨⟨t2, v2, r2, tc2, vc2, rc2, rfl, _, _, _⟩, hb3⟩
  have HB3 := Lib.hid hb3
  clear hb3
  go_upto_region 3 with fail
  have b4 := Blk.new (w3.alloc (.cells #[.slice t2 0 tc2, .slice v2 0 vc2, .slice r2 0 rc2] 26)) 29 #[.int .i64 9, .int .i64 4]
  rw [World.size_alloc] at b4
  have hb4 : Below w3.heap.size w3 ((w3.alloc (.cells #[.slice t2 0 tc2, .slice v2 0 vc2, .slice r2 0 rc2] 26)).alloc (.cells #[.int .i64 9, .int .i64 4] 29)) := ((Below.refl _ _).alloc (Nat.le_refl _) _).alloc (by simp) _
  generalize (w3.alloc (.cells #[.slice t2 0 tc2, .slice v2 0 vc2, .slice r2 0 rc2] 26)).alloc (.cells #[.int .i64 9, .int .i64 4] 29) = w4 at *
  have hb24 := HB3.out.trans (hb4.mono HB3.out.size)
  have k1 := HK1.out.below hb24 HK1.out.lt
  have k2 := HK2.out.below hb24 HK2.out.lt
  have hb14 := HB12.out.trans (hb24.mono HB12.out.size)
  have HG4 : Hid (GrAt w4 (fun k => k < w1.heap.size) (.slice tbo 2 tc) (.slice (some ⟨gv, 0, none⟩) 2 vc) (.slice (some ⟨gr, 0, none⟩) 4 rc) exG) := Lib.hid (HG.out.keep (fun q hq hA => ⟨hA, hb14.block q hq⟩) hb14.size)
  have HB4 := Lib.hid (HB1.out.trans (hb14.mono HB1.out.size))
  have HB14 := Lib.hid hb14
  have HZ4 := Lib.hid hb14.size
  have HQ := Lib.hid k1
  have f0 : w4.cell? ⟨w1.heap.size + 1, 0, none⟩ = some (.int .i64 0) := k2.cell 0
  have f1 : w4.cell? ⟨w1.heap.size + 1, 1, none⟩ = some (.int .i64 0) := k2.cell 1
  have h0 : w4.cell? ⟨w3.heap.size + 1, 0, none⟩ = some (.int .i64 9) := b4.cell 0
  have h1 : w4.cell? ⟨w3.heap.size + 1, 1, none⟩ = some (.int .i64 4) := b4.cell 1
  have g0 : w4.cell? ⟨w1.heap.size, 0, none⟩ = some (.slice tbo 2 tc) := k1.cell 0
  have g1 : w4.cell? ⟨w1.heap.size, 1, none⟩ = some (.slice (some ⟨gv, 0, none⟩) 2 vc) := k1.cell 1
  have g2 : w4.cell? ⟨w1.heap.size, 2, none⟩ = some (.slice (some ⟨gr, 0, none⟩) 4 rc) := k1.cell 2
  have lf := k2.lt
  have lh := b4.lt
  have lg := k1.lt
  have hru := rules_any w4 (fun k => k < w1.heap.size) tbo (some ⟨gv, 0, none⟩) (some ⟨gr, 0, none⟩) 2 tc 2 vc rc exG.rules 1 HG4.out.rs ex_sorted (by decide)
  rw [ex_from.1, ex_from.2] at hru
  have HV4 := Lib.hid (HV.out.below HB4.out)
  clear k1 k2 b4 hb4 hb24 hb14 HG HB1 HB12 HK1 HK2 HB2 HB3 HL2 HV
  go_wp2_with fail
  refine hru.mono ?_
  rintro e w5 ⟨rfl, hb5⟩
  have HB5 := Lib.hid hb5
  clear hb5 hru f0 f1 h0 h1 g0 g1 g2 lf lh lg nq0 nq9
  have kk := HQ.out.below HB5.out HQ.out.lt
  have lg := kk.lt
  have g0 : w5.cell? ⟨w1.heap.size, 0, none⟩ = some (.slice tbo 2 tc) := kk.cell 0
  have g1 : w5.cell? ⟨w1.heap.size, 1, none⟩ = some (.slice (some ⟨gv, 0, none⟩) 2 vc) := kk.cell 1
  have g2 : w5.cell? ⟨w1.heap.size, 2, none⟩ = some (.slice (some ⟨gr, 0, none⟩) 4 rc) := kk.cell 2
  clear kk
  have hcall := (by have := word_any w5 (fun k => k < w1.heap.size) tbo (some ⟨gv, 0, none⟩) (some ⟨gr, 0, none⟩) 2 tc 2 vc 4 rc exG.terms ⟨#[32, 98, 32, 97, 32]⟩ (by decide) (HG4.out.keep (fun q hq hA => ⟨hA, HB5.out.block q hq⟩) HB5.out.size).ts; rw [ex_word1] at this; exact this)
  go_wp2_with fail
  refine hcall.mono ?_
  rintro e w6 ⟨xv, rfl, hx6, hb6⟩
  have HB6 := Lib.hid (HB5.out.trans (hb6.mono HB5.out.size))
  clear hcall hb6 lg g0 g1 g2
  obtain ⟨xo, xc, rfl⟩ := own_form hx6
  have HX6 := Lib.hid hx6
  clear hx6
  have kk := HQ.out.below HB6.out HQ.out.lt
  have lg := kk.lt
  have g0 : w6.cell? ⟨w1.heap.size, 0, none⟩ = some (.slice tbo 2 tc) := kk.cell 0
  have g1 : w6.cell? ⟨w1.heap.size, 1, none⟩ = some (.slice (some ⟨gv, 0, none⟩) 2 vc) := kk.cell 1
  have g2 : w6.cell? ⟨w1.heap.size, 2, none⟩ = some (.slice (some ⟨gr, 0, none⟩) 4 rc) := kk.cell 2
  clear kk
  have hcall := (by have := word_any w6 (fun k => k < w1.heap.size) tbo (some ⟨gv, 0, none⟩) (some ⟨gr, 0, none⟩) 2 tc 2 vc 4 rc exG.terms ⟨#[98, 32, 99]⟩ (by decide) (HG4.out.keep (fun q hq hA => ⟨hA, HB6.out.block q hq⟩) HB6.out.size).ts; rw [ex_word2] at this; exact this)
  go_wp2_with fail
  refine hcall.mono ?_
  rintro e w7 ⟨yv, rfl, hy7, hb7⟩
  have HB7 := Lib.hid (HB6.out.trans (hb7.mono HB6.out.size))
  have HD7 := Lib.hid hb7
  clear hcall hb7 lg g0 g1 g2
  obtain ⟨yo, yc, rfl⟩ := own_form hy7
  clear hy7
  have HB17 := Lib.hid (HB14.out.trans (HB7.out.mono HZ4.out))
  have kk := HQ.out.below HB7.out HQ.out.lt
  have lg := kk.lt
  have g0 : w7.cell? ⟨w1.heap.size, 0, none⟩ = some (.slice tbo 2 tc) := kk.cell 0
  have g1 : w7.cell? ⟨w1.heap.size, 1, none⟩ = some (.slice (some ⟨gv, 0, none⟩) 2 vc) := kk.cell 1
  have g2 : w7.cell? ⟨w1.heap.size, 2, none⟩ = some (.slice (some ⟨gr, 0, none⟩) 4 rc) := kk.cell 2
  clear kk
  have v1 : w7.cell? ⟨gv, 1, none⟩ = some (.string (S [103, 49])) := (HB17.out.cell (p := ⟨gv, 1, none⟩) HGV.out).trans HCV.out
  have r01 : w7.cell? ⟨gr, 1, none⟩ = some (.slice uo 2 uc) := (HB17.out.cell (p := ⟨gr, 1, none⟩) HGR.out).trans HR01.out
  have hgv : gv < w7.heap.size := Nat.lt_of_lt_of_le HGV.out HB17.out.size
  have hgr : gr < w7.heap.size := Nat.lt_of_lt_of_le HGR.out HB17.out.size
  have sq1 : S [103, 49] = ⟨#[103, 49]⟩ := rfl
  rw [sq1] at v1
  have hb8 : Below w7.heap.size w7 (w7.alloc (.cells #[.int .i64 1, .int .i64 (-2)] 3)) := (Below.refl _ _).alloc (Nat.le_refl _) _
  have hsa := sameT_any (w7.alloc (.cells #[.int .i64 1, .int .i64 (-2)] 3)) (fun _ => True) (fun _ => True) (.slice uo 2 uc) (.slice (some ⟨w7.heap.size, 0, none⟩) 2 2) [1, -2] [1, -2] (HU0.out.keep keepsInt (fun q hq _ => ⟨trivial, (HB17.out.trans (hb8.mono HB17.out.size)).block q hq⟩) (Nat.le_trans HB17.out.size hb8.size)) (ints_lit w7 1 (-2))
  have hr12 : (w7.alloc (.cells #[.int .i64 1, .int .i64 (-2)] 3)).cell? ⟨gr, 5, none⟩ = some (.float .f64 4609434218613702656) := ((HB17.out.trans (hb8.mono HB17.out.size)).cell (p := ⟨gr, 5, none⟩) HGR.out).trans HR12.out
  have HB8 := Lib.hid (HB7.out.trans (hb8.mono HB7.out.size))
  have HD8 := Lib.hid (HD7.out.trans (hb8.mono HD7.out.size))
  clear hb8
  go_wp2_with fail
  refine hsa.mono ?_
  rintro e w9 ⟨rfl, nq, rfl⟩
  have HB9 : Hid (Below w4.heap.size w4 (((w7.alloc (.cells #[.int .i64 1, .int .i64 (-2)] 3))).drewN nq)) := Lib.hid (HB8.out.trans ((qt_drew (Qt.refl _) nq).below))
  have HD9 : Hid (Below w6.heap.size w6 (((w7.alloc (.cells #[.int .i64 1, .int .i64 (-2)] 3))).drewN nq)) := Lib.hid (HD8.out.trans ((qt_drew (Qt.refl _) nq).below))
  have r12 : (((w7.alloc (.cells #[.int .i64 1, .int .i64 (-2)] 3))).drewN nq).cell? ⟨gr, 5, none⟩ = some (.float .f64 4609434218613702656) := hr12
  generalize ((w7.alloc (.cells #[.int .i64 1, .int .i64 (-2)] 3))).drewN nq = w9 at *
  have hfl : (FloatKind.f64.format.order 4609434218613702656 4609434218613702656 == some Ordering.eq) = true := by decide +kernel
  have HB19 := Lib.hid (HB14.out.trans (HB9.out.mono HZ4.out))
  clear hsa hr12 v1 r01 hgv hgr lg g0 g1 g2
  have hgr : gr < w9.heap.size := Nat.lt_of_lt_of_le HGR.out HB19.out.size
  have kk := HQ.out.below HB9.out HQ.out.lt
  have lg := kk.lt
  have g0 : w9.cell? ⟨w1.heap.size, 0, none⟩ = some (.slice tbo 2 tc) := kk.cell 0
  have g1 : w9.cell? ⟨w1.heap.size, 1, none⟩ = some (.slice (some ⟨gv, 0, none⟩) 2 vc) := kk.cell 1
  have g2 : w9.cell? ⟨w1.heap.size, 2, none⟩ = some (.slice (some ⟨gr, 0, none⟩) 4 rc) := kk.cell 2
  clear kk
  have hpr := print_any w9 w1.heap.size tbo (some ⟨gv, 0, none⟩) (some ⟨gr, 0, none⟩) tc vc rc exG exT (HG4.out.keep (w' := w9) (A' := fun k => k < w1.heap.size) (fun q hq hA => ⟨hA, HB9.out.block q hq⟩) HB9.out.size) (Nat.le_trans HZ4.out HB9.out.size) ex_pr (ex_txt (HV4.out.below HB9.out))
  rw [ex_print, show exG.terms.length = 2 from rfl, show exG.vars.length = 2 from rfl, show exG.rules.length = 4 from rfl] at hpr
  have sq2 : S [101, 32, 61, 32, 103, 49, 32, 39, 98, 39, 32, 124, 32, 37, 49, 46, 53, 32, 39, 97, 39, 32, 59, 10, 103, 49, 32, 61, 32, 101, 32, 124, 32, 59, 10] = ⟨#[101, 32, 61, 32, 103, 49, 32, 39, 98, 39, 32, 124, 32, 37, 49, 46, 53, 32, 39, 97, 39, 32, 59, 10, 103, 49, 32, 61, 32, 101, 32, 124, 32, 59, 10]⟩ := rfl
  rw [sq2] at hpr
  clear sq1 sq2
  go_wp2_with fail
  refine hpr.mono ?_
  rintro e w10 ⟨rfl, hb10⟩
  have HB10 := Lib.hid (HB9.out.trans (hb10.mono HB9.out.size))
  have HD10 := Lib.hid (HD9.out.trans (hb10.mono HD9.out.size))
  clear hpr hb10 r12 hgr hfl lg g0 g1 g2
  have kk := HQ.out.below HB10.out HQ.out.lt
  have lg := kk.lt
  have g0 : w10.cell? ⟨w1.heap.size, 0, none⟩ = some (.slice tbo 2 tc) := kk.cell 0
  have g1 : w10.cell? ⟨w1.heap.size, 1, none⟩ = some (.slice (some ⟨gv, 0, none⟩) 2 vc) := kk.cell 1
  have g2 : w10.cell? ⟨w1.heap.size, 2, none⟩ = some (.slice (some ⟨gr, 0, none⟩) 4 rc) := kk.cell 2
  clear kk
  have hri := right_any w10 (fun k => k < w1.heap.size) tbo (some ⟨gv, 0, none⟩) (some ⟨gr, 0, none⟩) tc vc rc exG (fun _ => true) (HG4.out.keep (w' := w10) (A' := fun k => k < w1.heap.size) (fun q hq hA => ⟨hA, HB10.out.block q hq⟩) HB10.out.size) HVC.out HRC.out ex_in64 (fun x hx => by have := ex_pr.vars x hx; unfold maxLen; omega) (fun x hx => by have := ex_pr.terms x hx; unfold maxLen; omega) (ex_tell (HV4.out.below HB10.out))
  rw [show exG.terms.length = 2 from rfl, show exG.vars.length = 2 from rfl, show exG.rules.length = 4 from rfl] at hri
  go_wp2_with fail
  refine hri.mono ?_
  rintro e w11 ⟨⟨D, rfl, hD⟩, hb11⟩
  obtain rfl : D = true := hD.2 ex_right
  have HB11 := Lib.hid (HB10.out.trans (hb11.mono HB10.out.size))
  have HD11 := Lib.hid (HD10.out.trans (hb11.mono HD10.out.size))
  clear hri hb11 hD lg g0 g1 g2
  have hrz := right_any w11 (fun k => k < w1.heap.size) none none none 0 0 0 gra0 (fun _ => true) ⟨ListOf.nil _ _, ListOf.nil _ _, ListOf.nil _ _⟩ (Nat.le_refl _) (Nat.le_refl _) (fun r hr => by cases hr) (fun x hx => by cases hx) (fun x hx => by cases hx) (fun r hr => by cases hr)
  rw [show gra0.terms.length = 0 from rfl, show gra0.vars.length = 0 from rfl, show gra0.rules.length = 0 from rfl] at hrz
  go_wp2_with fail
  refine hrz.mono ?_
  rintro e w12 ⟨⟨D, rfl, hD⟩, hb12⟩
  obtain rfl : D = false := by cases D with
    | false => rfl
    | true => exact absurd (hD.1 rfl) no_right
  have HB12 := Lib.hid (HB11.out.trans (hb12.mono HB11.out.size))
  have HD12 := Lib.hid (HD11.out.trans (hb12.mono HD11.out.size))
  clear hrz hb12 hD
  have kk := HQ.out.below HB12.out HQ.out.lt
  have lg := kk.lt
  have g0 : w12.cell? ⟨w1.heap.size, 0, none⟩ = some (.slice tbo 2 tc) := kk.cell 0
  have g1 : w12.cell? ⟨w1.heap.size, 1, none⟩ = some (.slice (some ⟨gv, 0, none⟩) 2 vc) := kk.cell 1
  have g2 : w12.cell? ⟨w1.heap.size, 2, none⟩ = some (.slice (some ⟨gr, 0, none⟩) 4 rc) := kk.cell 2
  clear kk
  have hsg := gsame_any w12 (fun k => k < w1.heap.size) (fun k => k < w1.heap.size) tbo (some ⟨gv, 0, none⟩) (some ⟨gr, 0, none⟩) tbo (some ⟨gv, 0, none⟩) (some ⟨gr, 0, none⟩) tc vc rc tc vc rc exG exG (HG4.out.keep (w' := w12) (A' := fun k => k < w1.heap.size) (fun q hq hA => ⟨hA, HB12.out.block q hq⟩) HB12.out.size) (HG4.out.keep (w' := w12) (A' := fun k => k < w1.heap.size) (fun q hq hA => ⟨hA, HB12.out.block q hq⟩) HB12.out.size) ex_wt ex_wt
  rw [show exG.terms.length = 2 from rfl, show exG.vars.length = 2 from rfl, show exG.rules.length = 4 from rfl] at hsg
  go_wp2_with fail
  refine hsg.mono ?_
  rintro e w13 ⟨⟨D, rfl, hD⟩, hb13⟩
  obtain rfl : D = true := hD.2 ex_same
  have HB13 := Lib.hid (HB12.out.trans (hb13.mono HB12.out.size))
  have HD13 := Lib.hid (HD12.out.trans (hb13.mono HD12.out.size))
  clear hsg hb13 hD lg g0 g1 g2
  have kk := HQ.out.below HB13.out HQ.out.lt
  have lg := kk.lt
  have g0 : w13.cell? ⟨w1.heap.size, 0, none⟩ = some (.slice tbo 2 tc) := kk.cell 0
  have g1 : w13.cell? ⟨w1.heap.size, 1, none⟩ = some (.slice (some ⟨gv, 0, none⟩) 2 vc) := kk.cell 1
  have g2 : w13.cell? ⟨w1.heap.size, 2, none⟩ = some (.slice (some ⟨gr, 0, none⟩) 4 rc) := kk.cell 2
  clear kk
  have hnm := gname_any w13 (fun k => k < w1.heap.size) tbo (some ⟨gv, 0, none⟩) (some ⟨gr, 0, none⟩) tc vc 4 rc exG (-1) (HG4.out.keep (w' := w13) (A' := fun k => k < w1.heap.size) (fun q hq hA => ⟨hA, HB13.out.block q hq⟩) HB13.out.size).vs (HG4.out.keep (w' := w13) (A' := fun k => k < w1.heap.size) (fun q hq hA => ⟨hA, HB13.out.block q hq⟩) HB13.out.size).ts (by unfold In64x; decide) (by decide) (fun x hx => by have := ex_pr.terms x hx; omega)
  rw [ex_name, show exG.terms.length = 2 from rfl, show exG.vars.length = 2 from rfl] at hnm
  have sq3 : S [39, 97, 39] = ⟨#[39, 97, 39]⟩ := rfl
  rw [sq3] at hnm
  clear sq3
  go_wp2_with fail
  refine hnm.mono ?_
  rintro e w14 ⟨rfl, hb14⟩
  have HBE := Lib.hid (HB13.out.trans (hb14.mono HB13.out.size))
  have HDE := Lib.hid (HD13.out.trans (hb14.mono HD13.out.size))
  clear hnm hb14 lg g0 g1 g2
  have i0 : ∀ w, Calls Tryz.prog 20 #[.int .i64 0] w fun e w' => e = .returned (.bool true) ∧ w' = w := fun w => isVar_any 0 w
  have i1 : ∀ w, Calls Tryz.prog 20 #[.int .i64 (-1)] w fun e w' => e = .returned (.bool false) ∧ w' = w := fun w => isVar_any (-1) w
  go_wp2_with fail
  refine (i0 _).mono ?_
  rintro e wx ⟨rfl, rfl⟩
  go_wp2_with fail
  refine (i1 _).mono ?_
  rintro e wy ⟨rfl, rfl⟩
  have hbx : Below wy.heap.size wy (wy.alloc (.cells #[.int .i64 1, .int .i64 0] 3)) := (Below.refl _ _).alloc (Nat.le_refl _) _
  have hdx := HDE.out.trans (hbx.mono HDE.out.size)
  have hix : IntsAt w6 (fun _ => True) (.slice xo 2 xc) [1, 0] := ints_of HX6.out
  have hsx := sameT_any (wy.alloc (.cells #[.int .i64 1, .int .i64 0] 3)) (fun _ => True) (fun _ => True) (.slice xo 2 xc) (.slice (some ⟨wy.heap.size, 0, none⟩) 2 2) [1, 0] [1, 0] (hix.keep keepsInt (fun q hq hA => ⟨hA, hdx.block q hq⟩) hdx.size) (ints_lit wy 1 0)
  have HBZ := Lib.hid (HB4.out.trans ((HBE.out.trans (hbx.mono HBE.out.size)).mono HB4.out.size))
  clear hbx hdx hix
  go_wp2_with fail
  refine hsx.mono ?_
  rintro e wz ⟨rfl, nq, rfl⟩
  clear hsx
  go_wp2_with fail
  go_ret
  exact ⟨rfl, HBZ.out.trans ((qt_drew (Qt.refl _) nq).below)⟩
end Go.Proofs.YtldamieigigncaaGreatDoor.lx
namespace Go.Proofs.YtldamieigigncaaGreatDoor.lx
open Go.ChangeShapes Go.WideShapes Go.ChangeAt Go.RowKit Go.Proofs.YtldamieigigncaaGreatDoor.ky
set_option linter.unusedVariables false
set_option linter.unusedSimpArgs false
attribute [local go_sem] run_store_float
/-! the law GramWeights -/
def cntW (k : Nat) : Int := if k = 0 then 0 else if k ≤ 4 then 1 else 2
theorem wt_cat (s : ByteArray) : (((ByteArray.mk #[115, 32, 61, 32, 37] ++ s) ++ ByteArray.mk #[32, 39, 97, 39, 32, 124, 32, 39, 98, 39, 32, 40, 37]) ++ s) ++ ByteArray.mk #[32, 124, 32, 39, 99, 39, 41, 42, 32, 59] = S (wtT s.data.toList) := by
  have e1 : ByteArray.mk #[115, 32, 61, 32, 37] = S [115, 32, 61, 32, 37] := rfl
  have e2 : ByteArray.mk #[32, 39, 97, 39, 32, 124, 32, 39, 98, 39, 32, 40, 37] = S [32, 39, 97, 39, 32, 124, 32, 39, 98, 39, 32, 40, 37] := rfl
  have e3 : ByteArray.mk #[32, 124, 32, 39, 99, 39, 41, 42, 32, 59] = S [32, 124, 32, 39, 99, 39, 41, 42, 32, 59] := rfl
  have e4 := str_eq s
  rw [e1, e2, e3]
  generalize s.data.toList = x at *
  rw [e4, S_app_, S_app_, S_app_, S_app_]
  rfl
set_option maxRecDepth 100000 in
set_option maxHeartbeats 8000000 in
theorem gweights_any (s : ByteArray) (hs : s.size ≤ maxLen) (w : World) (b off : Nat) (hv : Pv w b off) : Calls Tryz.prog 4 #[.string s] w fun e w' => e = .returned (.bool true) ∧ Below w.heap.size w w' := by
  have ha := galive_any w b off hv
  have HV := Lib.hid hv
  have hr := fun w => rread_any s hs w
  have HR := Lib.hid hr
  clear hr hv
  unfold maxLen at hs
  by_cases hl : s.size ≤ 20
  case neg =>
    have hd : decide ((20 : Int) < (s.size : Int)) = true := decide_eq_true (by omega)
    go_enter Tryz.func4, Tryz.ntmps4
    go_wp2_with fail
    refine ha.mono ?_
    rintro e w1 ⟨rfl, hb1⟩
    have HB1 := Lib.hid hb1
    clear hb1 ha
    go_wp2_with fail
    refine (HR.out _).mono ?_
    rintro e w2 ⟨rfl, hq2⟩
    have HB2 := Lib.hid (HB1.out.trans (hq2.below (B := w.heap.size)))
    clear hq2
    go_wp2_with fail
    go_ret
    exact ⟨rfl, HB2.out⟩
  have hd : decide ((20 : Int) < (s.size : Int)) = false := decide_eq_false (by omega)
  cases hok : readOk s.data.toList with
  | false =>
    rw [hok] at HR
    clear hok
    go_enter Tryz.func4, Tryz.ntmps4
    go_wp2_with fail
    refine ha.mono ?_
    rintro e w1 ⟨rfl, hb1⟩
    have HB1 := Lib.hid hb1
    clear hb1 ha
    go_wp2_with fail
    refine (HR.out _).mono ?_
    rintro e w2 ⟨rfl, hq2⟩
    have HB2 := Lib.hid (HB1.out.trans (hq2.below (B := w.heap.size)))
    clear hq2
    go_wp2_with fail
    go_ret
    exact ⟨rfl, HB2.out⟩
  | true =>
    have hxl : s.data.toList.length = s.size := by simp
    have hL := fun w1 (h : Vs w1 b off) => sload_any (wt_load s.data.toList hok (by omega)) (by unfold wtT; simp only [List.length_append, List.length_cons, List.length_nil]; unfold maxLen; omega) w1 b off h
    rw [← wt_cat] at hL
    have hF := readF_lt s.data.toList
    rw [hok] at HR
    generalize readF s.data.toList = F at *
    rw [show (wtG F).terms.length = 3 from rfl, show (wtG F).vars.length = 3 from rfl, show (wtG F).rules.length = 6 from rfl] at hL
    have HL := Lib.hid hL
    have h1 : (ByteArray.mk #[115, 32, 61, 32, 37]).size = 5 := rfl
    have h2 : (ByteArray.mk #[32, 39, 97, 39, 32, 124, 32, 39, 98, 39, 32, 40, 37]).size = 13 := rfl
    have h3 : (ByteArray.mk #[32, 124, 32, 39, 99, 39, 41, 42, 32, 59]).size = 10 := rfl
    have d1 : (ByteArray.mk #[115, 32, 61, 32, 37] ++ s).size = 5 + s.size := by rw [ByteArray.size_append]; rfl
    have d2 : ((ByteArray.mk #[115, 32, 61, 32, 37] ++ s) ++ ByteArray.mk #[32, 39, 97, 39, 32, 124, 32, 39, 98, 39, 32, 40, 37]).size = 5 + s.size + 13 := by rw [ByteArray.size_append, d1]; rfl
    have d3 : (((ByteArray.mk #[115, 32, 61, 32, 37] ++ s) ++ ByteArray.mk #[32, 39, 97, 39, 32, 124, 32, 39, 98, 39, 32, 40, 37]) ++ s).size = 5 + s.size + 13 + s.size := by rw [ByteArray.size_append, d2]
    clear hL hok hxl
    go_enter Tryz.func4, Tryz.ntmps4
    go_wp2_with fail
    refine ha.mono ?_
    rintro e w1 ⟨rfl, hb1⟩
    have HB1 := Lib.hid hb1
    clear hb1 ha
    go_wp2_with fail
    refine (HR.out _).mono ?_
    rintro e w2 ⟨rfl, hq2⟩
    have HB2 := Lib.hid (HB1.out.trans (hq2.below (B := w.heap.size)))
    clear hq2 HR
    go_wp2_with fail
    refine (HL.out _ (HV.out.below HB2.out).vs).mono ?_
    rintro e w3 ⟨⟨tbo, vo, ro, tc, vc, rc, rfl, hg, _, _⟩, hb3⟩
    have HB3 := Lib.hid (HB2.out.trans (hb3.mono HB2.out.size))
    have HRS := Lib.hid hg.rs
    clear hg hb3 HL h1 h2 h3 d1 d2 d3
    go_upto_region 7 with fail
    have b1 := (Blk.new w3 26 #[.slice tbo 3 tc, .slice vo 3 vc, .slice ro 6 rc]).alloc (.cells #[.int .i64 0, .int .i64 0] 29)
    have b2 := Blk.new (w3.alloc (.cells #[.slice tbo 3 tc, .slice vo 3 vc, .slice ro 6 rc] 26)) 29 #[.int .i64 0, .int .i64 0]
    rw [World.size_alloc] at b2
    have hb4 : Below w3.heap.size w3 ((w3.alloc (.cells #[.slice tbo 3 tc, .slice vo 3 vc, .slice ro 6 rc] 26)).alloc (.cells #[.int .i64 0, .int .i64 0] 29)) := ((Below.refl _ _).alloc (Nat.le_refl _) _).alloc (by simp) _
    generalize (w3.alloc (.cells #[.slice tbo 3 tc, .slice vo 3 vc, .slice ro 6 rc] 26)).alloc (.cells #[.int .i64 0, .int .i64 0] 29) = w4 at *
    have HR4 := Lib.hid (HRS.out.keep (w' := w4) (A' := fun _ => True) keepsRul (fun q hq hA => ⟨trivial, hb4.block q hq⟩) hb4.size)
    have HB4 := Lib.hid (HB3.out.trans (hb4.mono HB3.out.size))
    have f0 : w4.cell? ⟨w3.heap.size + 1, 0, none⟩ = some (.int .i64 0) := b2.cell 0
    have g2 : w4.cell? ⟨w3.heap.size, 2, none⟩ = some (.slice ro 6 rc) := b1.cell 2
    have lf := b2.lt
    have lg := b1.lt
    clear b1 b2 hb4 HB3 HRS
    go_wp2_with fail
    clear f0 g2 lf lg
    go_loopw [7, 47] (fun n q wr => ∃ k : Nat, q = .int .i64 k ∧ k ≤ 6 ∧ n = .int .i64 (cntW k) ∧ Below w4.heap.size w4 wr) (fun _ q _ => 6 - (intOf q).toNat)
    case atStart => exact ⟨0, rfl, Nat.zero_le _, rfl, Below.refl _ _⟩
    case round =>
      obtain ⟨k, rfl, hk, rfl, hbr⟩ := hrel
      have HBR := Lib.hid hbr
      by_cases hlt : k < 6
      case neg =>
        obtain rfl : k = 6 := by omega
        clear hbr
        go_wp2_with fail
        go_ret
        exact ⟨rfl, HB4.out.trans (HBR.out.mono HB4.out.size)⟩
      have hrl := HR4.out.keep (w' := wr) (A' := fun _ => True) keepsRul (fun q hq hA => ⟨trivial, hbr.block q hq⟩) hbr.size
      have hsF : ∀ w, Calls Tryz.prog 11 #[.float .f64 F, .float .f64 F] w fun e w' => e = .returned (.bool true) ∧ w = w' := fun w => by have := ky.rsame_any F F w hF hF; rwa [decide_eq_true rfl] at this
      have hs0 : ∀ w, Calls Tryz.prog 11 #[.float .f64 0, .float .f64 0] w fun e w' => e = .returned (.bool true) ∧ w = w' := fun w => by have := ky.rsame_any 0 0 w (by decide) (by decide); rwa [decide_eq_true rfl] at this
      have hkk : k = 0 ∨ k = 1 ∨ k = 2 ∨ k = 3 ∨ k = 4 ∨ k = 5 := by omega
      clear hbr hlt hk
      rcases hkk with rfl | rfl | rfl | rfl | rfl | rfl
      · obtain ⟨gr, cr, u0, er, hgr, r00, r01, r02, hu0⟩ := ERul.at hrl (k := 0) (r := (0, [-1], F)) rfl
        injection er with er j1 j2
        subst er
        clear j1 j2
        obtain ⟨uo, uc, rfl⟩ := ListOf.form hu0
        have c0 : wr.cell? ⟨gr, 0, none⟩ = some (.int .i64 0) := r00
        have c1 : wr.cell? ⟨gr, 1, none⟩ = some (.slice uo 1 uc) := r01
        have c2 : wr.cell? ⟨gr, 2, none⟩ = some (.float .f64 F) := r02
        clear hu0 r00 r01 r02 hrl
        have b5 := Blk.new wr 41 #[.int .i64 0, .slice uo 1 uc, .float .f64 F]
        have hb5 : Below wr.heap.size wr (wr.alloc (.cells #[.int .i64 0, .slice uo 1 uc, .float .f64 F] 41)) := (Below.refl _ _).alloc (Nat.le_refl _) _
        go_upto_region 13 with fail
        generalize wr.alloc (.cells #[.int .i64 0, .slice uo 1 uc, .float .f64 F] 41) = w5 at *
        have d0 : w5.cell? ⟨wr.heap.size, 0, none⟩ = some (.int .i64 0) := b5.cell 0
        have d1 : w5.cell? ⟨wr.heap.size, 1, none⟩ = some (.slice uo 1 uc) := b5.cell 1
        have d2 : w5.cell? ⟨wr.heap.size, 2, none⟩ = some (.float .f64 F) := b5.cell 2
        have l5 := b5.lt
        have HB5 := Lib.hid (HBR.out.trans (hb5.mono HBR.out.size))
        clear c0 c1 c2 hgr b5 hb5
        go_wp2_with fail
        refine (hsF _).mono ?_
        rintro e w6 ⟨rfl, rfl⟩
        clear d0 d1 d2 l5
        go_wp2_with fail
        exact ⟨⟨1, rfl, by decide, by first | rfl | kernel_rfl, HB5.out⟩, by simp only [intOf]; omega⟩
      · obtain ⟨gr, cr, u0, er, hgr, r00, r01, r02, hu0⟩ := ERul.at hrl (k := 1) (r := (0, [-2, 1], 0)) rfl
        injection er with er j1 j2
        subst er
        clear j1 j2
        obtain ⟨uo, uc, rfl⟩ := ListOf.form hu0
        have c0 : wr.cell? ⟨gr, 3, none⟩ = some (.int .i64 0) := r00
        have c1 : wr.cell? ⟨gr, 4, none⟩ = some (.slice uo 2 uc) := r01
        have c2 : wr.cell? ⟨gr, 5, none⟩ = some (.float .f64 0) := r02
        clear hu0 r00 r01 r02 hrl
        have b5 := Blk.new wr 41 #[.int .i64 0, .slice uo 2 uc, .float .f64 0]
        have hb5 : Below wr.heap.size wr (wr.alloc (.cells #[.int .i64 0, .slice uo 2 uc, .float .f64 0] 41)) := (Below.refl _ _).alloc (Nat.le_refl _) _
        go_upto_region 13 with fail
        generalize wr.alloc (.cells #[.int .i64 0, .slice uo 2 uc, .float .f64 0] 41) = w5 at *
        have d0 : w5.cell? ⟨wr.heap.size, 0, none⟩ = some (.int .i64 0) := b5.cell 0
        have d1 : w5.cell? ⟨wr.heap.size, 1, none⟩ = some (.slice uo 2 uc) := b5.cell 1
        have d2 : w5.cell? ⟨wr.heap.size, 2, none⟩ = some (.float .f64 0) := b5.cell 2
        have l5 := b5.lt
        have HB5 := Lib.hid (HBR.out.trans (hb5.mono HBR.out.size))
        clear c0 c1 c2 hgr b5 hb5
        go_wp2_with fail
        refine (hs0 _).mono ?_
        rintro e w6 ⟨rfl, rfl⟩
        clear d0 d1 d2 l5
        go_wp2_with fail
        exact ⟨⟨2, rfl, by decide, by first | rfl | kernel_rfl, HB5.out⟩, by simp only [intOf]; omega⟩
      · obtain ⟨gr, cr, u0, er, hgr, r00, r01, r02, hu0⟩ := ERul.at hrl (k := 2) (r := (1, [2, 1], 0)) rfl
        injection er with er j1 j2
        subst er
        clear j1 j2
        obtain ⟨uo, uc, rfl⟩ := ListOf.form hu0
        have c0 : wr.cell? ⟨gr, 6, none⟩ = some (.int .i64 1) := r00
        have c1 : wr.cell? ⟨gr, 7, none⟩ = some (.slice uo 2 uc) := r01
        have c2 : wr.cell? ⟨gr, 8, none⟩ = some (.float .f64 0) := r02
        clear hu0 r00 r01 r02 hrl
        have b5 := Blk.new wr 41 #[.int .i64 1, .slice uo 2 uc, .float .f64 0]
        have hb5 : Below wr.heap.size wr (wr.alloc (.cells #[.int .i64 1, .slice uo 2 uc, .float .f64 0] 41)) := (Below.refl _ _).alloc (Nat.le_refl _) _
        go_upto_region 13 with fail
        generalize wr.alloc (.cells #[.int .i64 1, .slice uo 2 uc, .float .f64 0] 41) = w5 at *
        have d0 : w5.cell? ⟨wr.heap.size, 0, none⟩ = some (.int .i64 1) := b5.cell 0
        have d1 : w5.cell? ⟨wr.heap.size, 1, none⟩ = some (.slice uo 2 uc) := b5.cell 1
        have d2 : w5.cell? ⟨wr.heap.size, 2, none⟩ = some (.float .f64 0) := b5.cell 2
        have l5 := b5.lt
        have HB5 := Lib.hid (HBR.out.trans (hb5.mono HBR.out.size))
        clear c0 c1 c2 hgr b5 hb5
        go_wp2_with fail
        refine (hs0 _).mono ?_
        rintro e w6 ⟨rfl, rfl⟩
        clear d0 d1 d2 l5
        go_wp2_with fail
        exact ⟨⟨3, rfl, by decide, by first | rfl | kernel_rfl, HB5.out⟩, by simp only [intOf]; omega⟩
      · obtain ⟨gr, cr, u0, er, hgr, r00, r01, r02, hu0⟩ := ERul.at hrl (k := 3) (r := (1, [], 0)) rfl
        injection er with er j1 j2
        subst er
        clear j1 j2
        obtain ⟨uo, uc, rfl⟩ := ListOf.form hu0
        have c0 : wr.cell? ⟨gr, 9, none⟩ = some (.int .i64 1) := r00
        have c1 : wr.cell? ⟨gr, 10, none⟩ = some (.slice uo 0 uc) := r01
        have c2 : wr.cell? ⟨gr, 11, none⟩ = some (.float .f64 0) := r02
        clear hu0 r00 r01 r02 hrl
        have b5 := Blk.new wr 41 #[.int .i64 1, .slice uo 0 uc, .float .f64 0]
        have hb5 : Below wr.heap.size wr (wr.alloc (.cells #[.int .i64 1, .slice uo 0 uc, .float .f64 0] 41)) := (Below.refl _ _).alloc (Nat.le_refl _) _
        go_upto_region 13 with fail
        generalize wr.alloc (.cells #[.int .i64 1, .slice uo 0 uc, .float .f64 0] 41) = w5 at *
        have d0 : w5.cell? ⟨wr.heap.size, 0, none⟩ = some (.int .i64 1) := b5.cell 0
        have d1 : w5.cell? ⟨wr.heap.size, 1, none⟩ = some (.slice uo 0 uc) := b5.cell 1
        have d2 : w5.cell? ⟨wr.heap.size, 2, none⟩ = some (.float .f64 0) := b5.cell 2
        have l5 := b5.lt
        have HB5 := Lib.hid (HBR.out.trans (hb5.mono HBR.out.size))
        clear c0 c1 c2 hgr b5 hb5
        go_wp2_with fail
        refine (hs0 _).mono ?_
        rintro e w6 ⟨rfl, rfl⟩
        clear d0 d1 d2 l5
        go_wp2_with fail
        exact ⟨⟨4, rfl, by decide, by first | rfl | kernel_rfl, HB5.out⟩, by simp only [intOf]; omega⟩
      · obtain ⟨gr, cr, u0, er, hgr, r00, r01, r02, hu0⟩ := ERul.at hrl (k := 4) (r := (2, [], F)) rfl
        injection er with er j1 j2
        subst er
        clear j1 j2
        obtain ⟨uo, uc, rfl⟩ := ListOf.form hu0
        have c0 : wr.cell? ⟨gr, 12, none⟩ = some (.int .i64 2) := r00
        have c1 : wr.cell? ⟨gr, 13, none⟩ = some (.slice uo 0 uc) := r01
        have c2 : wr.cell? ⟨gr, 14, none⟩ = some (.float .f64 F) := r02
        clear hu0 r00 r01 r02 hrl
        have b5 := Blk.new wr 41 #[.int .i64 2, .slice uo 0 uc, .float .f64 F]
        have hb5 : Below wr.heap.size wr (wr.alloc (.cells #[.int .i64 2, .slice uo 0 uc, .float .f64 F] 41)) := (Below.refl _ _).alloc (Nat.le_refl _) _
        go_upto_region 13 with fail
        generalize wr.alloc (.cells #[.int .i64 2, .slice uo 0 uc, .float .f64 F] 41) = w5 at *
        have d0 : w5.cell? ⟨wr.heap.size, 0, none⟩ = some (.int .i64 2) := b5.cell 0
        have d1 : w5.cell? ⟨wr.heap.size, 1, none⟩ = some (.slice uo 0 uc) := b5.cell 1
        have d2 : w5.cell? ⟨wr.heap.size, 2, none⟩ = some (.float .f64 F) := b5.cell 2
        have l5 := b5.lt
        have HB5 := Lib.hid (HBR.out.trans (hb5.mono HBR.out.size))
        clear c0 c1 c2 hgr b5 hb5
        go_wp2_with fail
        refine (hsF _).mono ?_
        rintro e w6 ⟨rfl, rfl⟩
        clear d0 d1 d2 l5
        go_wp2_with fail
        exact ⟨⟨5, rfl, by decide, by first | rfl | kernel_rfl, HB5.out⟩, by simp only [intOf]; omega⟩
      · obtain ⟨gr, cr, u0, er, hgr, r00, r01, r02, hu0⟩ := ERul.at hrl (k := 5) (r := (2, [-3], 0)) rfl
        injection er with er j1 j2
        subst er
        clear j1 j2
        obtain ⟨uo, uc, rfl⟩ := ListOf.form hu0
        have c0 : wr.cell? ⟨gr, 15, none⟩ = some (.int .i64 2) := r00
        have c1 : wr.cell? ⟨gr, 16, none⟩ = some (.slice uo 1 uc) := r01
        have c2 : wr.cell? ⟨gr, 17, none⟩ = some (.float .f64 0) := r02
        clear hu0 r00 r01 r02 hrl
        have b5 := Blk.new wr 41 #[.int .i64 2, .slice uo 1 uc, .float .f64 0]
        have hb5 : Below wr.heap.size wr (wr.alloc (.cells #[.int .i64 2, .slice uo 1 uc, .float .f64 0] 41)) := (Below.refl _ _).alloc (Nat.le_refl _) _
        go_upto_region 13 with fail
        generalize wr.alloc (.cells #[.int .i64 2, .slice uo 1 uc, .float .f64 0] 41) = w5 at *
        have d0 : w5.cell? ⟨wr.heap.size, 0, none⟩ = some (.int .i64 2) := b5.cell 0
        have d1 : w5.cell? ⟨wr.heap.size, 1, none⟩ = some (.slice uo 1 uc) := b5.cell 1
        have d2 : w5.cell? ⟨wr.heap.size, 2, none⟩ = some (.float .f64 0) := b5.cell 2
        have l5 := b5.lt
        have HB5 := Lib.hid (HBR.out.trans (hb5.mono HBR.out.size))
        clear c0 c1 c2 hgr b5 hb5
        go_wp2_with fail
        refine (hs0 _).mono ?_
        rintro e w6 ⟨rfl, rfl⟩
        clear d0 d1 d2 l5
        go_wp2_with fail
        exact ⟨⟨6, rfl, by decide, by first | rfl | kernel_rfl, HB5.out⟩, by simp only [intOf]; omega⟩
end Go.Proofs.YtldamieigigncaaGreatDoor.lx

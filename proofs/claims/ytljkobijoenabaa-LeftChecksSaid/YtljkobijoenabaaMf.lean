import Derived.Maps.OwnIn
import Derived.Maps.AppendAt
import Derived.Test.YtljkobijoenabaaMe
namespace Go.Proofs.Ytljkobijoenabaa.dv
open Go.ChangeShapes Go.WideShapes Go.ChangeAt Go.RowKit Go.Maps Go.WideMaps Go.WideElems
set_option linter.unusedVariables false
set_option linter.unusedSimpArgs false
/-! left: fewest -/
structure FwSt (w : World) (gc : Array Value) (mg bm n cp : Nat) (M : List Mv) (W : World) : Prop where
  gram : Blk W w.heap.size 25 gc
  box : Blk W (w.heap.size + 1) 58 #[slB n mg]
  mov : MvAt W w.heap.size bm n cp M
  below : Below w.heap.size w W
  bms : w.heap.size + 1 < bm
section
variable {w : World} {gc : Array Value} {mg bm n cp : Nat} {M : List Mv} {W W' : World}
theorem FwSt.far (h : FwSt w gc mg bm n cp M W) (hb : Below W.heap.size W W') : FwSt w gc mg bm n cp M W' := ⟨h.gram.below hb h.gram.lt, h.box.below hb h.box.lt, mvAt_below h.mov hb, h.below.trans (hb.mono h.below.size), h.bms⟩
theorem FwSt.scr (h : FwSt w gc mg bm n cp M W) (p : Addr) (u : Value) (h1 : w.heap.size + 1 < p.block) (h2 : p.block ≠ bm) : FwSt w gc mg bm n cp M (W.setCell p u) := ⟨h.gram.far (by omega) u, h.box.far (by omega) u, mvAt_far h.mov p u h2, h.below.setCell (by omega) u, h.bms⟩
theorem FwSt.drewN (h : FwSt w gc mg bm n cp M W) (k : Nat) : FwSt w gc mg bm n cp M (W.drewN k) := h.far (below_drewN (Below.refl _ _) k)
theorem FwSt.put (h : FwSt w gc mg bm n cp M W) (i : Nat) (hi : i < n) (y : Mv) : FwSt w gc mg bm n cp (M.set i y) (((W.setCell ⟨bm, i * 3, none⟩ (.int .i64 (y.1 : Int))).setCell ⟨bm, i * 3 + 1, none⟩ (.int .i64 (y.2.1 : Int))).setCell ⟨bm, i * 3 + 2, none⟩ (.int .i64 (y.2.2 : Int))) := by
  have hb := h.bms
  exact ⟨((h.gram.far (p := ⟨bm, i * 3, none⟩) (by show w.heap.size ≠ bm; omega) _).far (p := ⟨bm, i * 3 + 1, none⟩) (by show w.heap.size ≠ bm; omega) _).far (p := ⟨bm, i * 3 + 2, none⟩) (by show w.heap.size ≠ bm; omega) _,
    ((h.box.far (p := ⟨bm, i * 3, none⟩) (by show w.heap.size + 1 ≠ bm; omega) _).far (p := ⟨bm, i * 3 + 1, none⟩) (by show w.heap.size + 1 ≠ bm; omega) _).far (p := ⟨bm, i * 3 + 2, none⟩) (by show w.heap.size + 1 ≠ bm; omega) _,
    mvAt_set h.mov i hi y, ((h.below.setCell (p := ⟨bm, i * 3, none⟩) (by show w.heap.size ≤ bm; omega) _).setCell (p := ⟨bm, i * 3 + 1, none⟩) (by show w.heap.size ≤ bm; omega) _).setCell (p := ⟨bm, i * 3 + 2, none⟩) (by show w.heap.size ≤ bm; omega) _, hb⟩
end
/-- what holds at a rule's head -/
def FwK (c : Int → Nat) (p : Int → Bool) (vl v : Nat) (R : List Rl) (M M' : List Mv) (b : Bool) (k : Nat) : Prop := MInv c p vl v R M' ∧ (b = true → muM M' < muM M) ∧ (b = false → M' = M ∧ ∀ i, i < k → SatM c p vl v R M i)
/-- what holds at a symbol's head -/
def FwJ (c : Int → Nat) (p : Int → Bool) (vl v : Nat) (R : List Rl) (M Mk M' : List Mv) (b : Bool) (k : Nat) (L : List Int) (bs j : Nat) : Prop := MInv c p vl v R M' ∧ (∀ y, stM M' y ≤ stM Mk y) ∧ (b = true → muM M' < muM M) ∧ (b = false → M' = M ∧ Mk = M ∧ (∀ i, i < k → SatM c p vl v R M i) ∧ ∀ i, i < j → stM M (L.getD i 0).toNat ≤ bs + preC c L i)
section
variable {c : Int → Nat} {p : Int → Bool} {vl v : Nat} {R : List Rl} {M Mk M' : List Mv} {b : Bool} {k : Nat}
theorem fwJ_start (h : FwK c p vl v R M Mk b k) (L : List Int) (bs : Nat) : FwJ c p vl v R M Mk Mk b k L bs 0 := ⟨h.1, fun _ => Nat.le_refl _, h.2.1, fun e => ⟨(h.2.2 e).1, (h.2.2 e).1, (h.2.2 e).2, fun i hi => absurd hi (Nat.not_lt_zero _)⟩⟩
theorem fwJ_end {r : Rl} (hk : R[k]? = some r) (h : FwJ c p vl v R M Mk M' b k (leadF vl p r.right) (baseM v Mk r.left.toNat) (leadF vl p r.right).length) : FwK c p vl v R M M' b (k + 1) := by
  refine ⟨h.1, h.2.2.1, fun e => ?_⟩
  obtain ⟨h1, h0, h2, h3⟩ := h.2.2.2 e
  refine ⟨h1, fun i hi => ?_⟩
  rcases Nat.lt_or_ge i k with h4 | h4
  · exact h2 i h4
  · obtain rfl : i = k := by omega
    intro q hq j hj
    rw [hk] at hq
    cases hq
    have := h3 j hj
    rwa [h0] at this
theorem fwJ_keep {L : List Int} {bs j : Nat} (h : FwJ c p vl v R M Mk M' b k L bs j) (hn : ¬ bs + preC c L j < stM M' (L.getD j 0).toNat) : FwJ c p vl v R M Mk M' b k L bs (j + 1) := by
  refine ⟨h.1, h.2.1, h.2.2.1, fun e => ?_⟩
  obtain ⟨h1, h0, h2, h3⟩ := h.2.2.2 e
  refine ⟨h1, h0, h2, fun i hi => ?_⟩
  rcases Nat.lt_or_ge i j with h4 | h4
  · exact h3 i h4
  · obtain rfl : i = j := by omega
    rw [← h1]
    omega
theorem fwJ_put {r : Rl} (hk : R[k]? = some r) {j x : Nat} (hj : j < (leadF vl p r.right).length) (hx : (leadF vl p r.right).getD j 0 = (x : Int)) (hxl : x < vl) (hbM : ∀ y, stM Mk y ≤ stM M y ∨ True) (h : FwJ c p vl v R M Mk M' b k (leadF vl p r.right) (baseM v Mk r.left.toNat) j) (hmu : muM M' ≤ muM M) (hlt : baseM v Mk r.left.toNat + preC c (leadF vl p r.right) j < stM M' x) : FwJ c p vl v R M Mk (M'.set x (k, j, baseM v Mk r.left.toNat + preC c (leadF vl p r.right) j)) true k (leadF vl p r.right) (baseM v Mk r.left.toNat) (j + 1) := by
  have hb : baseM v M' r.left.toNat ≤ baseM v Mk r.left.toNat := by
    unfold baseM
    split
    · exact Nat.le_refl _
    · have := h.2.1 r.left.toNat; omega
  obtain ⟨g1, g2, g3⟩ := minv_set h.1 hk hj hx hxl (by omega) hlt
  exact ⟨g1, fun y => Nat.le_trans (g3 y) (h.2.1 y), fun _ => by omega, fun e => by cases e⟩
theorem fwJ_mu {L : List Int} {bs j : Nat} (h : FwJ c p vl v R M Mk M' b k L bs j) : muM M' ≤ muM M := by
  cases b
  · rw [(h.2.2.2 rfl).1]; exact Nat.le_refl _
  · exact Nat.le_of_lt (h.2.2.1 rfl)
end
end Go.Proofs.Ytljkobijoenabaa.dv
namespace Go.Proofs.Ytljkobijoenabaa.dv
open Go.ChangeShapes Go.WideShapes Go.ChangeAt Go.RowKit Go.Maps Go.WideMaps Go.WideElems
set_option linter.unusedVariables false
set_option linter.unusedSimpArgs false
/-! left: fewest, walked -/
attribute [local go_sem] run_store_fl
theorem mvS_inj {B m n cp : Nat} (X Y : List Mv) (W : World) (h : MvAt W B m n cp X) (k : MvAt W B m n cp Y) : muM X = muM Y := by rw [mvAt_inj h k]
theorem preC_max {c : Int → Nat} {C : Nat} (hc : ∀ s, c s ≤ C) (L : List Int) (j : Nat) : preC c L j ≤ j * C := by
  unfold preC
  have key : ∀ l : List Int, (l.map c).sum ≤ l.length * C := fun l => by
    induction l with
    | nil => simp
    | cons s l ih =>
      have := hc s
      simp only [List.map_cons, List.sum_cons, List.length_cons, Nat.succ_mul]
      omega
  refine Nat.le_trans (key _) (Nat.mul_le_mul_right _ ?_)
  exact List.length_take_le _ _
def FewR (w : World) (D : List (List Int)) (vl v : Nat) (R : List Rl) : Ending → World → Prop := fun e w' => ∃ b cp M, e = .returned (.slice (some ⟨b, 0, none⟩) vl cp) ∧ MvAt w' w.heap.size b vl cp M ∧ MInv (vanC D) (vanP D) vl v R M ∧ (∀ i, i < R.length → SatM (vanC D) (vanP D) vl v R M i) ∧ Below w.heap.size w w'
set_option maxRecDepth 100000 in
set_option maxHeartbeats 4000000 in
theorem fewest_any (w : World) (B : Nat) (ta va : Option Addr) (tl tc vl vc : Nat) (rv : Value) (R : List Rl) (hR : RulesAt B w rv R) (hB : B ≤ w.heap.size) (hl : ∀ r ∈ R, 0 ≤ r.left ∧ r.left < vl) (hv : vl ≤ 1000) (h8 : ∀ r ∈ R, r.right.length ≤ 8) (v : Nat) (hvv : v < vl) (Bg mg : Nat) (gs : List Value) (D : List (List Int)) (hD : VanAt w Bg mg vl gs D) (hDl : ∀ i, (D.getD i []).length ≤ 4096) :
    Calls Try.prog 65 #[.agg #[.slice ta tl tc, .slice va vl vc, rv], .int .i64 v, slB vl mg] w (FewR w D vl v R) := by
  obtain ⟨ra, rc, rfl, hn, _⟩ := id hR
  have b0 := (Blk.new w 25 #[.slice ta tl tc, .slice va vl vc, .slice ra R.length rc]).alloc (.cells #[slB vl mg] 58)
  have b1 := Blk.new (w.alloc (.cells #[.slice ta tl tc, .slice va vl vc, .slice ra R.length rc] 25)) 58 #[slB vl mg]
  have hbl : Below w.heap.size w ((w.alloc (.cells #[.slice ta tl tc, .slice va vl vc, .slice ra R.length rc] 25)).alloc (.cells #[slB vl mg] 58)) := ((Below.refl _ w).alloc (Nat.le_refl _) _).alloc (by simp) _
  have hR63 : R.length ≤ 9223372036854775807 := by unfold maxLen at hn; omega
  have HR := Lib.hid hR
  have HL := Lib.hid hl
  have HD := Lib.hid hD
  have HDL := Lib.hid hDl
  have H8 := Lib.hid h8
  rw [World.size_alloc] at b1
  unfold slB at b0 b1 hbl ⊢
  have hz : ((w.alloc (.cells #[.slice ta tl tc, .slice va vl vc, .slice ra R.length rc] 25)).alloc (.cells #[.slice (some ⟨mg, 0, none⟩) vl vl] 58)).heap.size = w.heap.size + 2 := by simp
  have HB0 := Lib.hid b0
  have HB1 := Lib.hid b1
  have HBL := Lib.hid hbl
  have HZ := Lib.hid hz
  have hrep : Calls Try.prog 83 #[.slice (some ⟨w.heap.size + 2, 0, none⟩) 1 1, .int .i64 vl] (((w.alloc (.cells #[.slice ta tl tc, .slice va vl vc, .slice ra R.length rc] 25)).alloc (.cells #[.slice (some ⟨mg, 0, none⟩) vl vl] 58)).alloc (.cells #[.int .i64 0, .int .i64 0, .int .i64 4097] 86)) fun e w' => ∃ cp, e = .returned (.slice (some ⟨w.heap.size + 3, 0, none⟩) vl cp) ∧ FwSt w #[.slice ta tl tc, .slice va vl vc, .slice ra R.length rc] mg (w.heap.size + 3) vl cp (List.replicate vl noM) w' := by
    have h1 := Blk.new ((w.alloc (.cells #[.slice ta tl tc, .slice va vl vc, .slice ra R.length rc] 25)).alloc (.cells #[.slice (some ⟨mg, 0, none⟩) vl vl] 58)) 86 #[.int .i64 0, .int .i64 0, .int .i64 4097]
    rw [hz] at h1
    have hz3 : (((w.alloc (.cells #[.slice ta tl tc, .slice va vl vc, .slice ra R.length rc] 25)).alloc (.cells #[.slice (some ⟨mg, 0, none⟩) vl vl] 58)).alloc (.cells #[.int .i64 0, .int .i64 0, .int .i64 4097] 86)).heap.size = w.heap.size + 3 := by rw [World.size_alloc, hz]
    refine (repeatM_any _ ⟨w.heap.size + 2, 0, none⟩ (0, 0, 4097) vl hv h1.lt (fun j u hj => by rw [zero_add_addr]; exact (h1.cell j).trans (by simpa [cW] using hj))).mono ?_
    rintro e w1 ⟨u, rfl, ⟨⟨cp, rfl⟩, ho⟩, hb1⟩
    rw [hz3] at ho hb1 ⊢
    rw [List.length_replicate] at ho ⊢
    have hA := hbl.alloc (o := .cells #[.int .i64 0, .int .i64 0, .int .i64 4097] 86) (by rw [hz]; omega)
    refine ⟨cp, rfl, ⟨(b0.alloc _).below hb1 (by omega), (b1.alloc _).below hb1 (by omega), ⟨by simp, ?_⟩, hA.trans (hb1.mono (by omega)), by omega⟩⟩
    have e1 : (List.replicate vl noM).map encM = List.replicate vl ((0, 0, 4097) : Way) := by rw [List.map_replicate]; rfl
    rw [e1]
    exact own_weak ho (by omega)
  have HREP := Lib.hid hrep
  have c1 := fun o => (b0.alloc o).cell 1
  simp only [List.getElem?_toArray, List.getElem?_cons_zero, List.getElem?_cons_succ] at c1
  clear hR hl hD hDl h8 b0 b1 hbl hz hrep
  go_enter Try.func65, Try.ntmps65
  go_wp2_with fail
  refine HREP.out.mono ?_
  rintro e w1 ⟨cp, rfl, hst⟩
  have HST := Lib.hid hst
  have g1 := hst.gram.cell 2
  simp only [List.getElem?_toArray, List.getElem?_cons_zero, List.getElem?_cons_succ] at g1
  clear hst c1
  go_wp2
  go_loopw [9] (fun q W => ∃ (M : List Mv) (b : Bool), q = .bool b ∧ FwSt w #[.slice ta tl tc, .slice va vl vc, .slice ra R.length rc] mg (w.heap.size + 3) vl cp M W ∧ MInv (vanC D) (vanP D) vl v R M ∧ (b = false → ∀ i, i < R.length → SatM (vanC D) (vanP D) vl v R M i)) (fun q W => 2 * muW (fun (M : List Mv) W => MvAt W w.heap.size (w.heap.size + 3) vl cp M) muM W + boolN q)
  case atStart => exact ⟨_, true, rfl, HST.out, minv_none _ _ _ _ _, fun e => by cases e⟩
  case round =>
    obtain ⟨W, rfl⟩ : ∃ W : World, W = wr := ⟨_, rfl⟩
    obtain ⟨M, b, rfl, hst, hmi, hsat⟩ := hrel
    have HST := Lib.hid hst
    have HMI := Lib.hid hmi
    have HSAT := Lib.hid hsat
    have HMU := Lib.hid (muW_eq (St := fun (M : List Mv) W => MvAt W w.heap.size (w.heap.size + 3) vl cp M) (μ := muM) (fun X Y W h k => mvS_inj X Y W h k) hst.mov)
    have g2 := hst.gram.cell 2
    simp only [List.getElem?_toArray, List.getElem?_cons_zero, List.getElem?_cons_succ] at g2
    clear hst hmi hsat g1
    cases b
    · go_wp2
      go_ret
      exact ⟨_, _, M, rfl, HST.out.mov, HMI.out, HSAT.out (by simp), HST.out.below⟩
    · go_wp2
      go_loopw [9, 26] (fun q i U => ∃ (k : Nat) (M' : List Mv) (b' : Bool), k ≤ R.length ∧ i = .int .i64 k ∧ q = .bool b' ∧ FwSt w #[.slice ta tl tc, .slice va vl vc, .slice ra R.length rc] mg (w.heap.size + 3) vl cp M' U ∧ FwK (vanC D) (vanP D) vl v R M M' b' k) (fun _ i _ => R.length - (intOf i).toNat)
      case atStart => exact ⟨0, M, false, Nat.zero_le _, rfl, rfl, HST.out, HMI.out, fun e => (by cases e), fun _ => ⟨rfl, fun i hi => absurd hi (Nat.not_lt_zero _)⟩⟩
      case round =>
        obtain ⟨U, rfl⟩ : ∃ U : World, U = wr := ⟨_, rfl⟩
        obtain ⟨k, M', b', hkR, rfl, rfl, hst2, hfk⟩ := hrel
        have HST2 := Lib.hid hst2
        have HFK := Lib.hid hfk
        have g3 := hst2.gram.cell 2
        have g4 := hst2.gram.cell 0
        have g5 := hst2.gram.cell 1
        simp only [List.getElem?_toArray, List.getElem?_cons_zero, List.getElem?_cons_succ] at g3 g4 g5
        clear hst2 hfk g2
        by_cases hlt : k < R.length
        · obtain ⟨r, hrk⟩ : ∃ r, R[k]? = some r := ⟨_, List.getElem?_eq_getElem hlt⟩
          have hrm := List.mem_of_getElem? hrk
          obtain ⟨hl0, hl1⟩ := HL.out r hrm
          have hr8 := H8.out r hrm
          have hbw := HST2.out.below.mono hB
          have HBW := Lib.hid HST2.out.below
          obtain ⟨ra', rc', er, _, hr2⟩ := HR.out.far hbw
          cases er
          obtain ⟨a2, rfl, hab2, ao2, c2, h1, h2, h3, h4, h5, h6, h7, h8⟩ := hr2 k r hrk
          rw [addf a2 (k * 3) 1 (by decide)] at h2
          rw [addf a2 (k * 3) 2 (by decide)] at h3
          have HRK := Lib.hid hrk
          obtain ⟨lf, F, wt⟩ := r
          dsimp only at hl0 hl1 h1 h2 h3 h4 h5 h6 h7 h8 hr8
          obtain ⟨lv, rfl⟩ : ∃ lv : Nat, lf = lv := ⟨lf.toNat, by omega⟩
          have hrow : RowAt U (.slice ao2 F.length c2) F := ⟨ao2, c2, rfl, h4, h5, h6, h8.1, fun j hj => by
            obtain ⟨a3, e3, hab3, hca⟩ := h7 j hj
            exact ⟨a3, e3, Nat.lt_of_lt_of_le hab3 (by have := HBW.out.size; omega), hca⟩⟩
          have hF63 : F.length ≤ 9223372036854775807 := by unfold maxLen at h5; omega
          have HROW := Lib.hid hrow
          have HFU : Hid (∀ U : World, Below w.heap.size w U → ∀ j, j < F.length → ∃ a : Addr, ao2 = some a ∧ U.cell? (a.add j) = some (.int .i64 (F.getD j 0))) := Lib.hid (fun U hU j hj => by
            obtain ⟨a3, e3, hab3, hca⟩ := h7 j hj
            have hb3 : (a3.add j).block < w.heap.size := by rw [add_block]; omega
            exact ⟨a3, e3, (hU.cell hb3).trans ((HBW.out.cell hb3).symm.trans hca)⟩)
          have hva := fun U => lisVarOf_any U ta va (some a2) tl tc vl vc R.length rc (lv : Int)
          rw [decide_eq_true hl0, decide_eq_true hl1] at hva
          have HVA := Lib.hid hva
          have hl2 : lv < vl := by omega
          have hi0 : (0 : Int) ≤ (k : Int) := by omega
          have hi1 : (k : Int) < (R.length : Int) := by omega
          have hs1 := HST2.out.far ((Below.refl _ U).alloc (Nat.le_refl _) (.cells #[.int .i64 lv, .slice ao2 F.length c2, .float .f64 wt] 52))
          have bR := Blk.new U 52 #[.int .i64 lv, .slice ao2 F.length c2, .float .f64 wt]
          have HS1 := Lib.hid hs1
          have HBR2 := Lib.hid bR
          have pa0 : ∀ o, (U.alloc o).cell? ⟨w.heap.size, 0, none⟩ = some (.slice ta tl tc) := fun o => (HST2.out.gram.alloc o).cell 0
          have pa1 : ∀ o, (U.alloc o).cell? ⟨w.heap.size, 1, none⟩ = some (.slice va vl vc) := fun o => (HST2.out.gram.alloc o).cell 1
          have pa2 : ∀ o, (U.alloc o).cell? ⟨w.heap.size, 2, none⟩ = some (.slice (some a2) R.length rc) := fun o => (HST2.out.gram.alloc o).cell 2
          have q0 := bR.cell 0
          have q1 := bR.cell 1
          simp only [List.getElem?_toArray, List.getElem?_cons_zero, List.getElem?_cons_succ] at q0 q1
          have hUs := HST2.out.below.size
          have HUS := Lib.hid (show w.heap.size + 3 < U.heap.size from mvAt_lt HST2.out.mov)
          clear hr2 h4 h5 h6 h7 h8 hrow hva hrk hs1 bR hbw hrm g4 g5
          go_wp2_with fail
          refine (HVA.out _).mono ?_
          rintro e w5 ⟨rfl, o5, rfl⟩
          have e2 : (true && true) = true := rfl
          rw [e2]
          have hs2 := HS1.out.far ((Below.refl _ _).alloc (Nat.le_refl _) o5)
          have bR2 := HBR2.out.alloc o5
          have hb2 : Below U.heap.size U ((U.alloc (.cells #[.int .i64 lv, .slice ao2 F.length c2, .float .f64 wt] 52)).alloc o5) := ((Below.refl _ U).alloc (Nat.le_refl _) _).alloc (by simp) _
          have hz2 : ((U.alloc (.cells #[.int .i64 lv, .slice ao2 F.length c2, .float .f64 wt] 52)).alloc o5).heap.size = U.heap.size + 2 := by simp
          have HBU2 := Lib.hid hb2
          generalize hWW : ((U.alloc (.cells #[.int .i64 lv, .slice ao2 F.length c2, .float .f64 wt] 52)).alloc o5) = W2 at *
          have va0 : ∀ o, (W2.alloc o).cell? ⟨w.heap.size, 0, none⟩ = some (.slice ta tl tc) := fun o => (hs2.gram.alloc o).cell 0
          have va1 : ∀ o, (W2.alloc o).cell? ⟨w.heap.size, 1, none⟩ = some (.slice va vl vc) := fun o => (hs2.gram.alloc o).cell 1
          have va2 : ∀ o, (W2.alloc o).cell? ⟨w.heap.size, 2, none⟩ = some (.slice (some a2) R.length rc) := fun o => (hs2.gram.alloc o).cell 2
          have vr1 : ∀ o, (W2.alloc o).cell? ⟨U.heap.size, 1, none⟩ = some (.slice ao2 F.length c2) := fun o => (bR2.alloc o).cell 1
          have HS2 := Lib.hid hs2
          have hs3 := hs2.far ((Below.refl _ W2).alloc (Nat.le_refl _) (.cells #[.int .i64 k, .int .i64 0, .int .i64 1] 86))
          have bR3 := bR2.alloc (.cells #[.int .i64 k, .int .i64 0, .int .i64 1] 86)
          have bM3 := Blk.new W2 86 #[.int .i64 k, .int .i64 0, .int .i64 1]
          have HS3 := Lib.hid hs3
          have HBR3 := Lib.hid bR3
          have HBM3 := Lib.hid bM3
          have HZ2 := Lib.hid hz2
          have r0 := bR3.cell 0
          have r1 := bR3.cell 1
          have m2 := bM3.cell 2
          simp only [List.getElem?_toArray, List.getElem?_cons_zero, List.getElem?_cons_succ] at r0 r1 m2
          obtain ⟨_, _, s2⟩ := mvAt_cell hs3.mov lv hl2
          have hsm := HFK.out.1.small lv
          have HROW3 := Lib.hid (HROW.out.below (hb2.trans ((Below.refl _ W2).alloc (by rw [hz2]; omega) (.cells #[.int .i64 k, .int .i64 0, .int .i64 1] 86))))
          clear hs2 bR2 hb2 hWW q0 q1 pa0 pa1 pa2 h1 h2 h3 hs3 bR3 bM3 hz2
          have hl4 : (0 : Int) ≤ (lv : Int) := by omega
          have hl5 : (lv : Int) < (vl : Int) := by omega
          have f2 := HBM3.out.frozen 2
          obtain ⟨bs, hbs⟩ : ∃ bs, bs = baseM v M' lv := ⟨_, rfl⟩
          have hbs2 : bs ≤ 4098 := by rw [hbs]; unfold baseM; split <;> omega
          have HBS := Lib.hid hbs
          clear hbs
          by_cases hlv : lv = v
          case' pos =>
            have e3 : ((lv : Int) != (v : Int)) = false := by simp [hlv]
            have hbase : bs = 1 := by rw [HBS.out]; unfold baseM; rw [if_pos hlv]
            have hbm4 : Blk (W2.alloc (.cells #[.int .i64 k, .int .i64 0, .int .i64 1] 86)) W2.heap.size 86 #[.int .i64 k, .int .i64 0, .int .i64 ((bs : Nat) : Int)] := by rw [hbase]; exact HBM3.out
            have HBM4 := Lib.hid hbm4
            have HS4 := HS3
            have HROW4 := HROW3
            clear hbase hlv hbm4
            go_wp2_with fail
            generalize hW4 : W2.alloc (.cells #[.int .i64 k, .int .i64 0, .int .i64 1] 86) = W4 at *
          case' neg =>
            have e3 : ((lv : Int) != (v : Int)) = true := by simp; omega
            have hbase : bs = 1 + stM M' lv := by rw [HBS.out]; unfold baseM; rw [if_neg hlv]
            have hsum : IntKind.i64.wrap (1 + (stM M' lv : Int)) = 1 + (stM M' lv : Int) := by rw [IntKind.wrap_i64]; omega
            have hdr : Below W2.heap.size W2 (W2.alloc (.cells #[.int .i64 k, .int .i64 0, .int .i64 (1 + (stM M' lv : Int))] 86)).drew := ((Below.refl _ W2).alloc (Nat.le_refl _) _).drew
            have hbm4 : Blk (W2.alloc (.cells #[.int .i64 k, .int .i64 0, .int .i64 (1 + (stM M' lv : Int))] 86)).drew W2.heap.size 86 #[.int .i64 k, .int .i64 0, .int .i64 ((bs : Nat) : Int)] := by
              rw [show ((bs : Nat) : Int) = 1 + (stM M' lv : Int) by omega]
              exact Blk.new W2 86 _
            have HBM4 := Lib.hid hbm4
            have HS4 := Lib.hid (HS2.out.far hdr)
            have HROW4 := Lib.hid (HROW.out.below (show Below U.heap.size U _ from HBU2.out.trans (hdr.mono (by rw [HZ2.out]; omega))))
            clear hbase hlv hbm4 hdr
            go_wp2
            go_region
            all_goals go_wp2_with fail
            generalize hW4 : (W2.alloc (.cells #[.int .i64 k, .int .i64 0, .int .i64 (1 + (stM M' lv : Int))] 86)).drew = W4 at *
          all_goals
            clear hW4
            have hld := leads_any W4 ta va (some a2) tl tc vl vc R.length rc (.slice ao2 F.length c2) F 84 #[.pointer (some ⟨w.heap.size + 1, 0, none⟩)] (vanP D) goes_few1 (few1_any W4 (w.heap.size + 1) Bg mg vl gs D HS4.out.box (HD.out.below HS4.out.below)) HROW4.out
            have HLD := Lib.hid hld
            clear hld
            refine HLD.out.mono ?_
            rintro e w6 ⟨⟨ao', cp', ev', rfl⟩, hb6⟩
            cases ev'
            have HS6 := Lib.hid (HS4.out.far hb6)
            have HBM6 := Lib.hid (HBM4.out.below hb6 HBM4.out.lt)
            have hL1 := leadF_le vl (vanP D) F
            have HLV := Lib.hid (leadF_var vl (vanP D) F)
            have HLT := Lib.hid (leadF_take vl (vanP D) F)
            obtain ⟨L, hLe⟩ : ∃ L, L = leadF vl (vanP D) F := ⟨_, rfl⟩
            rw [← hLe] at HLV HLT hL1
            have HLE := Lib.hid hLe
            have HL1 := Lib.hid hL1
            have hL63 : L.length ≤ 9223372036854775807 := by omega
            obtain ⟨mb, hmb⟩ : ∃ mb, mb = W2.heap.size := ⟨_, rfl⟩
            rw [← hmb] at HBM6
            have hmb1 : w.heap.size + 3 < mb := by have := HZ2.out; have := HUS.out; omega
            clear hb6 HLD hL1 r0 r1 m2 va0 va1 va2 vr1 s2 f2
            rw [← hLe, ← hmb]
            clear hLe hmb
            go_wp2
            go_loopw [9, 58] (fun q i X => ∃ (j : Nat) (M2 : List Mv) (b2 : Bool) (a0 : Int), j ≤ L.length ∧ i = .int .i64 j ∧ q = .bool b2 ∧ FwSt w #[.slice ta tl tc, .slice va vl vc, .slice (some a2) R.length rc] mg (w.heap.size + 3) vl cp M2 X ∧ Blk X mb 86 #[.int .i64 k, .int .i64 a0, .int .i64 ((bs + preC (vanC D) L j : Nat) : Int)] ∧ FwJ (vanC D) (vanP D) vl v R M M' M2 b2 k L bs j) (fun _ i _ => L.length - (intOf i).toNat)
            case atStart => exact ⟨0, M', b', 0, Nat.zero_le _, rfl, rfl, HS6.out, by simpa [preC] using HBM6.out, fwJ_start HFK.out L bs⟩
            case round =>
              obtain ⟨X, rfl⟩ : ∃ X : World, X = wr := ⟨_, rfl⟩
              obtain ⟨j, M2, b2, a0, hjk, rfl, rfl, hst6, hbm6, hfj⟩ := hrel
              have HST6 := Lib.hid hst6
              have HBM7 := Lib.hid hbm6
              have HFJ := Lib.hid hfj
              clear hst6 hbm6 hfj
              by_cases hltj : j < L.length
              · have hjF : j < F.length := by have := HL1.out; omega
                obtain ⟨a, rfl, hca⟩ := HFU.out X HST6.out.below j hjF
                obtain ⟨hs0, hs1⟩ := HLV.out L[j] (List.getElem_mem _)
                have hLF : F.getD j 0 = L[j] := by
                  have e1 : L[j]? = F[j]? := by
                    have h := congrArg (fun l : List Int => l[j]?) HLT.out
                    simp only [List.getElem?_take, if_pos hltj] at h
                    exact h
                  rw [List.getElem?_eq_getElem hltj] at e1
                  rw [List.getD_eq_getElem?_getD, ← e1]
                  rfl
                rw [hLF] at hca
                obtain ⟨sv, hsv⟩ : ∃ sv : Nat, L[j] = sv := ⟨L[j].toNat, by omega⟩
                have hLj : L.getD j 0 = (sv : Int) := by rw [List.getD_eq_getElem?_getD, List.getElem?_eq_getElem hltj]; exact hsv
                have hsn : sv < vl := by omega
                rw [hsv] at hca
                have HLJ := Lib.hid hLj
                have hpre : preC (vanC D) L j ≤ j * 4096 := preC_max (fun s => HDL.out _) L j
                have hps := preC_succ (vanC D) L j hltj
                rw [hLj] at hps
                have hj8 : j < 8 := by have := HL1.out; omega
                have hln : (D.getD sv []).length ≤ 4096 := HDL.out sv
                have hvc : vanC D (sv : Int) = (D.getD sv []).length := rfl
                rw [hvc] at hps
                have HPS := Lib.hid hps
                obtain ⟨st, hst⟩ : ∃ st, st = bs + preC (vanC D) L j := ⟨_, rfl⟩
                have hstb : st ≤ 40000 := by omega
                have hbm7 := HBM7.out
                rw [← hst] at hbm7
                have HBM8 := Lib.hid hbm7
                have HSTE := Lib.hid hst
                obtain ⟨_, _, n2⟩ := mvAt_cell HST6.out.mov sv hsn
                have fz0 := HST6.out.mov.2.frozenAt (sv * 3)
                have fz1 := HST6.out.mov.2.frozenAt (sv * 3 + 1)
                have fz2 := HST6.out.mov.2.frozenAt (sv * 3 + 2)
                obtain ⟨n0, n1, _⟩ := mvAt_cell HST6.out.mov sv hsn
                have m0 := hbm7.cell 0
                have m1 := hbm7.cell 1
                have m2 := hbm7.cell 2
                have e0 := hbm7.frozen 0
                have e1 := hbm7.frozen 1
                have e2 := hbm7.frozen 2
                have x0 := HST6.out.box.cell 0
                unfold slB at x0
                obtain ⟨vo, vcp, _, hvcell⟩ := (HD.out.below HST6.out.below).cell sv hsn
                have hmgw : mg < w.heap.size := HD.out.lt
                simp only [List.getElem?_toArray, List.getElem?_cons_zero, List.getElem?_cons_succ] at m0 m1 m2 x0
                obtain ⟨ln, hlne⟩ : ∃ ln, ln = (D.getD sv []).length := ⟨_, rfl⟩
                rw [← hlne] at hvcell hln
                have HLN := Lib.hid hlne
                have hsw : IntKind.i64.wrap ((st : Int) + (ln : Int)) = (st : Int) + (ln : Int) := by rw [IntKind.wrap_i64]; omega
                have hsl4 : (0 : Int) ≤ (sv : Int) := by omega
                have hsl5 : (sv : Int) < (vl : Int) := by omega
                have i1 : (mg = mb) = False := by simp; omega
                have i2 : (mb = mg) = False := by simp; omega
                have i3 : (w.heap.size + 3 = mb) = False := by simp; omega
                have i4 : (mb = w.heap.size + 3) = False := by simp; omega
                have i5 : (mg = w.heap.size + 3) = False := by simp; omega
                have i6 : (w.heap.size + 3 = mg) = False := by simp; omega
                have i7 : (w.heap.size + 1 = mb) = False := by simp; omega
                have i8 : (mb = w.heap.size + 1) = False := by simp; omega
                clear hLF hsv hLj hs0 hs1 hpre hps hj8 hvc hst hbm7 hlne hstb hmgw
                by_cases hcmp : st < stM M2 sv
                · have hc1 : decide ((st : Int) < (stM M2 sv : Int)) = true := decide_eq_true (by omega)
                  have HCMP := Lib.hid hcmp
                  clear hcmp
                  obtain ⟨osv, hosv⟩ : ∃ q, q = stM M2 sv := ⟨_, rfl⟩
                  rw [← hosv] at n2 hc1
                  have HOSV := Lib.hid hosv
                  clear hosv
                  go_wp2
                  go_region
                  all_goals go_wp2
                  all_goals go_region
                  all_goals go_wp2
                  all_goals
                    have hmbs := hmb1
                    have hA := (((HST6.out.scr ⟨mb, 1, none⟩ (.int .i64 j) (by show w.heap.size + 1 < mb; omega) (by show mb ≠ _; omega)).put sv hsn (k, j, st)).scr ⟨mb, 2, none⟩ (.int .i64 ((st : Int) + (ln : Int))) (by show w.heap.size + 1 < mb; omega) (by show mb ≠ _; omega))
                    have hBk := ((((HBM8.out.set_ 1 (.int .i64 j)).far (p := ⟨w.heap.size + 3, sv * 3, none⟩) (by show mb ≠ w.heap.size + 3; omega) (.int .i64 (k : Int))).far (p := ⟨w.heap.size + 3, sv * 3 + 1, none⟩) (by show mb ≠ w.heap.size + 3; omega) (.int .i64 (j : Int))).far (p := ⟨w.heap.size + 3, sv * 3 + 2, none⟩) (by show mb ≠ w.heap.size + 3; omega) (.int .i64 (st : Int))).set_ 2 (.int .i64 ((st : Int) + (ln : Int)))
                    have hnum : (st : Int) + (ln : Int) = ((bs + preC (vanC D) L (j + 1) : Nat) : Int) := by
                      have h1 := HPS.out
                      have h2 := HSTE.out
                      have h3 := HLN.out
                      omega
                    rw [hnum] at hBk hA ⊢
                    have hlt3 : st < stM M2 sv := HCMP.out
                    have hmu := fwJ_mu HFJ.out
                    have hj2 : FwJ (vanC D) (vanP D) vl v R M M' (M2.set sv (k, j, st)) true k L bs (j + 1) := by
                      have h1 := HLE.out
                      have h2 := HBS.out
                      have h3 := HSTE.out
                      have h4 := HFJ.out
                      have h5 := HLJ.out
                      rw [h3] at hlt3 ⊢
                      rw [h1] at h4 hlt3 hltj h5 ⊢
                      rw [h2] at h4 hlt3 ⊢
                      exact fwJ_put (r := ⟨lv, F, wt⟩) HRK.out hltj h5 hsn (fun _ => .inr trivial) h4 hmu hlt3
                    exact ⟨⟨j + 1, M2.set sv (k, j, st), true, (j : Int), hltj, congrArg (Value.int .i64) (by omega), rfl, (hA.drewN 1).drewN 1, hBk, hj2⟩, by simp only [intOf]; omega⟩
                · have hc1 : decide ((st : Int) < (stM M2 sv : Int)) = false := decide_eq_false (by omega)
                  have HCMP := Lib.hid hcmp
                  clear hcmp
                  obtain ⟨osv, hosv⟩ : ∃ q, q = stM M2 sv := ⟨_, rfl⟩
                  rw [← hosv] at n2 hc1
                  have HOSV := Lib.hid hosv
                  clear hosv
                  go_wp2
                  go_region
                  all_goals go_wp2
                  all_goals go_region
                  all_goals go_wp2
                  all_goals
                    have hmbs := hmb1
                    have hA := ((HST6.out.scr ⟨mb, 1, none⟩ (.int .i64 j) (by show w.heap.size + 1 < mb; omega) (by show mb ≠ _; omega)).scr ⟨mb, 2, none⟩ (.int .i64 ((st : Int) + (ln : Int))) (by show w.heap.size + 1 < mb; omega) (by show mb ≠ _; omega))
                    have hBk := (HBM8.out.set_ 1 (.int .i64 j)).set_ 2 (.int .i64 ((st : Int) + (ln : Int)))
                    have hnum : (st : Int) + (ln : Int) = ((bs + preC (vanC D) L (j + 1) : Nat) : Int) := by
                      have h1 := HPS.out
                      have h2 := HSTE.out
                      have h3 := HLN.out
                      omega
                    rw [hnum] at hBk hA ⊢
                    have hj2 : FwJ (vanC D) (vanP D) vl v R M M' M2 b2 k L bs (j + 1) := fwJ_keep HFJ.out (by rw [HLJ.out]; have h3 := HSTE.out; rw [← h3]; exact HCMP.out)
                    exact ⟨⟨j + 1, M2, b2, (j : Int), hltj, congrArg (Value.int .i64) (by omega), rfl, (hA.drewN 1).drewN 1, hBk, hj2⟩, by simp only [intOf]; omega⟩
              · obtain rfl : j = L.length := by omega
                have hk2 : FwK (vanC D) (vanP D) vl v R M M2 b2 (k + 1) := by
                  have h1 := HLE.out
                  have h2 := HBS.out
                  have h4 := HFJ.out
                  rw [h1, h2] at h4
                  exact fwJ_end (r := ⟨lv, F, wt⟩) HRK.out h4
                have HK2 := Lib.hid hk2
                clear hk2
                go_wp2
                exact ⟨⟨k + 1, M2, b2, hlt, congrArg (Value.int .i64) (by omega), rfl, HST6.out, HK2.out⟩, by simp only [intOf]; omega⟩
        · obtain rfl : k = R.length := by omega
          have hmu2 := muW_eq (St := fun (M : List Mv) W => MvAt W w.heap.size (w.heap.size + 3) vl cp M) (μ := muM) (fun X Y W h k => mvS_inj X Y W h k) HST2.out.mov
          have HMU2 := Lib.hid hmu2
          clear hmu2
          go_wp2
          refine ⟨⟨M', b', rfl, HST2.out, HFK.out.1, fun e => ?_⟩, ?_⟩
          · obtain ⟨h1, h2⟩ := HFK.out.2.2 e
            rw [h1]
            exact h2
          · have h1 := HMU.out
            have h2 := HMU2.out
            show 2 * muW _ _ U + _ < 2 * muW _ _ W + _
            rw [h1, h2]
            cases b'
            · have h3 := (HFK.out.2.2 (by simp)).1
              rw [h3]
              show 2 * muM M + 0 < 2 * muM M + 1
              omega
            · have h3 := HFK.out.2.1 (by simp)
              show 2 * muM M' + 1 < 2 * muM M + 1
              omega
end Go.Proofs.Ytljkobijoenabaa.dv
namespace Go.Proofs.Ytljkobijoenabaa.dv
open Go.ChangeShapes Go.WideShapes Go.ChangeAt Go.RowKit Go.Maps Go.WideMaps Go.WideElems Go.Shelf
set_option linter.unusedVariables false
set_option linter.unusedSimpArgs false
/-! moves, gone through from their end -/
def bkM (zs : List Mv) (k : Nat) : Nat := zs.length - 1 - k
def atM (zs : List Mv) (j : Nat) : Mv := zs.getD j noM
theorem upto_bkM (zs : List Mv) : (upto (bkM zs) zs.length).map (atM zs) = zs.reverse := by
  apply List.ext_getElem
  · simp [upto]
  · intro i h1 h2
    have : i < zs.length := by simp [upto] at h1; omega
    simp [upto, bkM, atM, List.getD_eq_getElem?_getD, List.getElem?_eq_getElem (show zs.length - 1 - i < zs.length by omega)]
def RowUnderM (n₀ : Nat) (W : World) (ao : Option Addr) (zs : List Mv) : Prop := ∀ j, j < zs.length → ∃ a : Addr, ao = some a ∧ a.block < n₀ ∧ W.cell? (a.add (j * 3)) = some (.int .i64 ((zs.getD j noM).1 : Int)) ∧ W.cell? (a.add (j * 3 + 1)) = some (.int .i64 ((zs.getD j noM).2.1 : Int)) ∧ W.cell? (a.add (j * 3 + 2)) = some (.int .i64 ((zs.getD j noM).2.2 : Int))
set_option maxRecDepth 100000 in
set_option maxHeartbeats 2000000 in
theorem back1M_in (F : Fence) (n : Nat) (h7 : F.fn 85) (hro : F.round = none) (hn : 1 ≤ n) (l Bs n₀ cap : Nat) (ao : Option Addr) (zs : List Mv) (hreach : zs.length ≤ 100000) (J Jx : List Nat → World → Prop)
    (hY : ∀ (pre : List Nat) (x : Nat) (W : World), J pre W → pre.length < zs.length → YieldAt F (n - 1) Try.prog l #[.int .i64 (x : Int), WayV (encM (atM zs x))] W fun e W' =>
      (e = .returned (.bool true) ∧ J (pre ++ [x]) W' ∧ Kb n₀ Bs W W') ∨ (e = .returned (.bool false) ∧ Jx (pre ++ [x]) W'))
    (W : World) (hBs : W.cell? ⟨Bs, 0, none⟩ = some (.slice ao zs.length cap)) (hc : RowUnderM n₀ W ao zs) (h0 : J [] W) :
    CallsIn F n Try.prog 85 #[.func (.yield l) #[] #[], .pointer (some ⟨Bs, 0, none⟩)] W fun e W' => (∃ v, e = .returned v) ∧
      ((∃ ys, ys = upto (bkM zs) zs.length ∧ J ys W') ∨ (∃ pre, (∃ k, k ≤ zs.length ∧ pre = upto (bkM zs) k) ∧ Jx pre W')) := by
  have HC := Lib.hid hc
  clear hc
  refine callsIn_of_wp Try.func85 rfl h7 ?_ hro
  simp only [Try.ntmps85, List.size_toArray, List.length_cons, List.length_nil, Nat.reduceAdd, Nat.reduceSub, Array.replicate_succ, Array.replicate_zero, List.push_toArray, List.append_toArray, List.nil_append, List.cons_append]
  gi_wp2
  gi_loopw [3] (fun i wr => ∃ m : Nat, m ≤ zs.length ∧ i = .int .i64 ((m : Int) - 1) ∧ J (upto (bkM zs) (zs.length - m)) wr ∧ Kb n₀ Bs W wr)
    (fun i _ => (intOf i + 1).toNat)
  case atStart => exact ⟨zs.length, Nat.le_refl _, rfl, by rw [Nat.sub_self]; exact h0, Kb.refl _ _ _⟩
  case round =>
    obtain ⟨m, hk, rfl, hJs, hnx⟩ := hrel
    have hcb : wr.cell? ⟨Bs, 0, none⟩ = some (.slice ao zs.length cap) := hnx.2 _ hBs
    cases m with
    | zero =>
      rw [Nat.sub_zero] at hJs
      gi_wp2
      go_end0
      exact ⟨⟨_, rfl⟩, .inl ⟨_, rfl, hJs⟩⟩
    | succ m =>
      have e1 : ((m + 1 : Nat) : Int) - 1 = (m : Int) := by omega
      obtain ⟨a, rfl, hab, hca, hcb1, hcb2⟩ := HC.out m (by omega)
      have hcx : wr.cell? (a.add (m * 3)) = some (.int .i64 ((zs.getD m noM).1 : Int)) := (hnx.1.cell (p := a.add (m * 3)) (by rw [add_block]; exact hab)).trans hca
      have hcy := (hnx.1.cell (p := a.add (m * 3 + 1)) (by rw [add_block]; exact hab)).trans hcb1
      have hcz := (hnx.1.cell (p := a.add (m * 3 + 2)) (by rw [add_block]; exact hab)).trans hcb2
      rw [addw_form a (m * 3) 1 (by decide)] at hcy
      rw [addw_form a (m * 3) 2 (by decide)] at hcz
      have e2 : zs.length - 1 - (zs.length - (m + 1)) = m := by omega
      have e3 : bkM zs (zs.length - (m + 1)) = m := by unfold bkM; rw [e2]
      have e4 : zs.length - m = zs.length - (m + 1) + 1 := by omega
      obtain ⟨fn, tmps, assign, body, hy, hR⟩ := hY _ m wr hJs (by rw [upto_length]; omega)
      have hup : upto (bkM zs) (zs.length - m) = upto (bkM zs) (zs.length - (m + 1)) ++ [m] := by rw [e4, upto_succ, e3]
      have HU := Lib.hid hup
      clear hup e2 e3 e4 hca hcb1 hcb2
      unfold atM at hy
      generalize zs.getD m noM = z at *
      obtain ⟨z1, z2, z3⟩ := z
      unfold WayV encM at hy
      dsimp only at hcx hcy hcz hy
      simp only [e1]
      gi_wp2
      refine hR.mono ?_
      rintro e W3 (⟨rfl, hJ3, hk3⟩ | ⟨rfl, hJx3⟩)
      · gi_wp2
        go_roundw
        case rel => exact ⟨m, by omega, rfl, by rw [HU.out]; exact hJ3, hnx.trans hk3⟩
        case measure => simp only [intOf]; omega
      · gi_wp2
        refine bodyPost_ret (results_none rfl _ _ _) rfl ?_
        exact ⟨⟨_, rfl⟩, .inr ⟨_, ⟨zs.length - m, by omega, HU.out.symm⟩, hJx3⟩⟩
set_option maxHeartbeats 1000000 in
theorem backM_in (F : Fence) (n : Nat) (h5 : F.fn 66) (hro : F.round = none) (a : Option Addr) (len cap : Nat) (w : World) :
    CallsIn F n Try.prog 66 #[.slice a len cap] w fun e w' => e = .returned (.func (.func 85) #[] #[.pointer (some ⟨w.heap.size, 0, none⟩)]) ∧ w' = w.alloc (.cells #[.slice a len cap] 83) := by
  refine callsIn_of_wp Try.func66 rfl h5 ?_ hro
  simp only [Try.ntmps66, List.size_toArray, List.length_cons, List.length_nil, Nat.reduceAdd, Nat.reduceSub, Array.replicate_succ, Array.replicate_zero, List.push_toArray, List.append_toArray, List.nil_append, List.cons_append]
  gi_wp2
  go_ret
  exact ⟨rfl, rfl⟩
theorem backM_stops (F : Fence) (n : Nat) (h7 : F.fn 85) (hro : F.round = none) (hn : 1 ≤ n) (Bs n₀ cap : Nat) (ao : Option Addr) (zs : List Mv) (hreach : zs.length ≤ 100000) (w : World) (hB0 : Bs < w.heap.size) (hn₀ : n₀ ≤ w.heap.size)
    (hc : w.cell? ⟨Bs, 0, none⟩ = some (.slice ao zs.length cap)) (hI : RowUnderM n₀ w ao zs) :
    SeqStopsK F n Try.prog 85 #[.pointer (some ⟨Bs, 0, none⟩)] (fun x : Nat => #[Value.int .i64 (x : Int), WayV (encM (atM zs x))]) (Kb n₀ Bs) (fun ys => ys = upto (bkM zs) zs.length)
      (fun pre => ∃ k, k ≤ zs.length ∧ pre = upto (bkM zs) k) zs.length w := fun l J Jx W hW _ _ hY h0 =>
  back1M_in F n h7 hro hn l Bs n₀ cap ao zs hreach J Jx hY W ((hW.cell (p := ⟨Bs, 0, none⟩) hB0).trans hc) (fun j hj => by
    obtain ⟨a, e, hab, h1, h2, h3⟩ := hI j hj
    have hk : ∀ q, W.cell? (a.add q) = w.cell? (a.add q) := fun q => hW.cell (p := a.add q) (by rw [add_block]; exact Nat.lt_of_lt_of_le hab hn₀)
    exact ⟨a, e, hab, (hk _).trans h1, (hk _).trans h2, (hk _).trans h3⟩) h0
end Go.Proofs.Ytljkobijoenabaa.dv
namespace Go.Proofs.Ytljkobijoenabaa.dv
set_option linter.unusedVariables false
set_option linter.unusedSimpArgs false
/-! what vanishes costs nothing, and is taken off -/
theorem nul_cost {R : List Rl} {n : Nat} {W : List Way} (hI : Inv R n W) (hd : Done R W) (hl : ∀ r ∈ R, 0 ≤ r.left ∧ r.left < n) {x : Nat} (hx : (roundsB R true n (List.replicate n false)).getD x false = true) : (W.getD x noW).1 = 0 := by
  have hT := cost_inT hI hd (fun r hr => (hl r hr).1)
  have hat : ∀ y, ((List.range n).map fun v => decide ((W.getD v noW).1 = 0)).getD y false = true ↔ y < n ∧ (W.getD y noW).1 = 0 := fun y => by
    rw [List.getD_eq_getElem?_getD, List.getElem?_map]
    by_cases hy : y < n
    · rw [List.getElem?_range hy]
      simp [hy]
    · rw [List.getElem?_eq_none (by simp; omega)]
      simp [hy]
  have hc : Closed R true ((List.range n).map fun v => decide ((W.getD v noW).1 = 0)) := fun r hr ha => by
    have hrl := hl r hr
    refine (hat _).2 ⟨by omega, ?_⟩
    have h1 := hT r hr
    have h2 : sumC (fun v => (W.getD v noW).1) r.right = 0 := by
      unfold allB at ha
      rw [List.all_eq_true] at ha
      have key : ∀ F : List Int, (∀ s ∈ F, s ∈ r.right) → sumC (fun v => (W.getD v noW).1) F = 0 := fun F => by
        induction F with
        | nil => intro _; rfl
        | cons s F ih =>
          intro hF
          have i1 := ih (fun t ht => hF t (List.mem_cons_of_mem _ ht))
          have i2 := ha s (hF s (by simp))
          have i3 : (F.map fun s => if s < 0 then 1 else (W.getD s.toNat noW).1).sum = 0 := i1
          unfold sumC
          simp only [List.map_cons, List.sum_cons]
          by_cases h0 : s < 0
          · rw [if_pos h0] at i2; cases i2
          · rw [if_neg h0] at i2 ⊢
            have := ((hat _).1 i2).2
            omega
      exact key r.right (fun _ h => h)
    simp only at h1
    omega
  have hle := rounds_le R true hc n (List.replicate n false) (fun v hv => by
    rw [List.getD_eq_getElem?_getD, List.getElem?_replicate] at hv
    split at hv <;> cases hv)
  exact ((hat x).1 (hle x hx)).2
theorem gone_len {R : List Rl} {vl i : Nat} {d : List Int} (h8 : ∀ r ∈ R, r.right.length ≤ 8) (hn : vl ≤ 8) (hi : i < vl) (h : GoneOk R vl i d) : d.length ≤ 4096 := by
  cases hb : (roundsB R true vl (List.replicate vl false)).getD i false with
  | false => rw [h.1 hb]; exact Nat.zero_le _
  | true =>
    obtain ⟨S, hI, hD, (⟨rfl, _⟩ | ⟨h1, h2⟩)⟩ := h.2 hb
    · exact Nat.zero_le _
    · have := exps_len hI hD h8 hn h2 (fun s hs h0 => by
        obtain rfl : s = (i : Int) := by simpa using hs
        omega)
      rw [this]
      unfold sS
      simp only [List.map_cons, List.map_nil, List.sum_cons, List.sum_nil, wat_var (show (0 : Int) ≤ (i : Int) by omega), Int.toNat_natCast]
      omega
theorem gone_off {R : List Rl} {vl : Nat} {D : List (List Int)} (hl : ∀ r ∈ R, 0 ≤ r.left ∧ r.left < vl) (h : ∀ i, i < vl → GoneOk R vl i (D.getD i [])) : ∀ s : Int, 0 ≤ s → s < vl → vanP D s = true → ∀ (X ms : List Int) (i : Nat), replW R (s :: X) (D.getD s.toNat [] ++ ms) i = replW R X ms (i + (D.getD s.toNat []).length) := by
  intro s h0 h1 hp X ms i
  have hd : D.getD s.toNat [] ≠ [] := fun e => by
    unfold vanP vanC at hp
    rw [e] at hp
    simp at hp
  have hg := h s.toNat (by omega)
  cases hb : (roundsB R true vl (List.replicate vl false)).getD s.toNat false with
  | false => exact absurd (hg.1 hb) hd
  | true =>
    obtain ⟨S, hI, hD, (⟨e, _⟩ | ⟨h2, h3⟩)⟩ := hg.2 hb
    · exact absurd e hd
    · rw [show ((s.toNat : Nat) : Int) = s by omega] at h3
      obtain ⟨G, g1, g2, g3⟩ := exps_behind hI hD h3 [] X ms i (fun x hx => by cases hx)
      have hc := nul_cost hI hD hl hb
      have : G.length = 0 := by
        rw [g3]
        unfold sumC
        simp only [List.map_cons, List.map_nil, List.sum_cons, List.sum_nil, List.length_nil]
        rw [if_neg (by omega), hc]
        omega
      have hG : G = [] := List.length_eq_zero_iff.1 this
      rw [hG] at g1
      simpa using g1
/-- where nothing is slow, all that vanish are told to, by at most 50 steps -/
theorem gone_few {R : List Rl} {vl : Nat} {D : List (List Int)} (h8 : ∀ r ∈ R, r.right.length ≤ 8) (hn : vl ≤ 8) (hl : ∀ r ∈ R, 0 ≤ r.left ∧ r.left < vl) (h : ∀ i, i < vl → GoneOk R vl i (D.getD i [])) (hD : D.length = vl) (hb : ∀ x, (slowA R vl (List.replicate vl 0)).getD x 0 ≤ 50) : (∀ s : Int, 0 ≤ s → s < vl → vanP D s = at_ (roundsB R true vl (List.replicate vl false)) s) ∧ ∀ s, vanP D s = true → vanC D s ≤ 50 := by
  have key : ∀ i, i < vl → (roundsB R true vl (List.replicate vl false)).getD i false = true → 0 < (D.getD i []).length ∧ (D.getD i []).length ≤ 50 := fun i hi he => by
    obtain ⟨S, hI, hDn, hx⟩ := (h i hi).2 he
    have hs := not_slow hI hDn h8 hl hb he
    rcases hx with ⟨_, h2⟩ | ⟨_, h3⟩
    · omega
    · have e := exps_len hI hDn h8 hn h3 (fun s hs h0 => by
        obtain rfl : s = (i : Int) := by simpa using hs
        omega)
      have e2 : sS S [(i : Int)] = (S.getD i noW).2.1 := by
        unfold sS
        simp only [List.map_cons, List.map_nil, List.sum_cons, List.sum_nil, wat_var (show (0 : Int) ≤ (i : Int) by omega), Int.toNat_natCast]
        omega
      refine ⟨?_, by omega⟩
      generalize D.getD i [] = d at h3 ⊢
      cases h3 with
      | term h0 _ => omega
      | var _ _ _ _ => simp
  refine ⟨fun s h0 h1 => ?_, fun s hp => ?_⟩
  · unfold vanP vanC at_
    cases he : (roundsB R true vl (List.replicate vl false)).getD s.toNat false with
    | true => exact decide_eq_true (key s.toNat (by omega) he).1
    | false =>
      rw [(h s.toNat (by omega)).1 he]
      rfl
  · unfold vanP at hp
    unfold vanC at hp ⊢
    have h1 := of_decide_eq_true hp
    by_cases hs : s.toNat < vl
    · cases he : (roundsB R true vl (List.replicate vl false)).getD s.toNat false with
      | true => exact (key s.toNat hs he).2
      | false => rw [(h s.toNat hs).1 he] at h1; simp at h1
    · rw [List.getD_eq_getElem?_getD, List.getElem?_eq_none (by omega)] at h1
      simp at h1
theorem leadF_congr {vl : Nat} {p q : Int → Bool} (h : ∀ s : Int, 0 ≤ s → s < vl → p s = q s) : ∀ F, leadF vl p F = leadF vl q F
  | [] => rfl
  | s :: F => by
    have ih := leadF_congr h F
    rw [leadF, leadF]
    by_cases hs : 0 ≤ s ∧ s < vl
    · rw [if_pos hs, if_pos hs, h s hs.1 hs.2, ih]
    · rw [if_neg hs, if_neg hs]
/-- none is told though one may be only where something is slow -/
theorem cycle_none {R : List Rl} {vl v : Nat} {D : List (List Int)} {M : List Mv} (h8 : ∀ r ∈ R, r.right.length ≤ 8) (hn : vl ≤ 8) (hl : ∀ r ∈ R, 0 ≤ r.left ∧ r.left < vl) (h : ∀ i, i < vl → GoneOk R vl i (D.getD i [])) (hD : D.length = vl) (hsat : ∀ i, i < R.length → SatM (vanC D) (vanP D) vl v R M i) (hM : 4096 < stM M v) (hb : ∀ x, (slowA R vl (List.replicate vl 0)).getD x 0 ≤ 50) : matF (begM vl R) v v = false := by
  obtain ⟨h1, h2⟩ := gone_few h8 hn hl h hD hb
  cases hx : matF (begM vl R) v v with
  | false => rfl
  | true =>
    rw [(begM_at R hl).2] at hx
    have e : fst1 vl (fun x => at_ (roundsB R true vl (List.replicate vl false)) x) R = fst1 vl (vanP D) R := by
      funext a b
      unfold fst1
      congr 1
      funext r
      rw [leadF_congr (q := fun x => at_ (roundsB R true vl (List.replicate vl false)) x) h1]
    rw [e] at hx
    have := reach_few hsat h2 h8 hl hn hx
    omega
/-- the moves, one behind the other, are a derivation -/
theorem cycle_shows {R : List Rl} {vl v : Nat} {D : List (List Int)} {M : List Mv} (hl : ∀ r ∈ R, 0 ≤ r.left ∧ r.left < vl) (h : ∀ i, i < vl → GoneOk R vl i (D.getD i [])) (hI : MInv (vanC D) (vanP D) vl v R M) (hv : v < vl) (hM : stM M v ≤ 4096) {q : List Mv} (hq : ChainM v R M v q v) (hne : q ≠ []) : (rulesM R (fun s => D.getD s.toNat []) q.reverse).length ≤ 4096 ∧ rulesM R (fun s => D.getD s.toNat []) q.reverse ≠ [] ∧ ∃ X, replW R [(v : Int)] (rulesM R (fun s => D.getD s.toNat []) q.reverse) 0 = ((v : Int) :: X, 0, 0) := by
  obtain ⟨_, h1, h2⟩ := chain_sum hI (gone := fun s => D.getD s.toNat []) (fun _ => rfl) hl hv hM hq
  refine ⟨by omega, fun e => ?_, ?_⟩
  · rw [e] at h2
    exact hne (List.length_eq_zero_iff.1 (by simpa using h2))
  · obtain ⟨X, hX⟩ := chain_replay hI (gone := fun s => D.getD s.toNat []) (fun _ => rfl) hl (gone_off hl h) hv hM hq [] [] 0
    rw [List.append_nil] at hX
    exact ⟨X, by rw [hX, replW]⟩
end Go.Proofs.Ytljkobijoenabaa.dv
namespace Go.Proofs.Ytljkobijoenabaa.dv
open Go.ChangeShapes Go.WideShapes Go.ChangeAt Go.RowKit Go.Maps Go.WideMaps Go.WideElems Go.Shelf
set_option linter.unusedVariables false
set_option linter.unusedSimpArgs false
/-! left: what the rounds over moves do -/
/-- a move that can be told -/
def MvOk (R : List Rl) (vl : Nat) (p : Int → Bool) (m : Mv) : Prop := ∃ r, R[m.1]? = some r ∧ m.2.1 ≤ r.right.length ∧ ∀ s ∈ r.right.take m.2.1, p s = true ∧ 0 ≤ s ∧ s < vl
theorem chain_okM {c : Int → Nat} {p : Int → Bool} {vl v : Nat} {R : List Rl} {M : List Mv} {gone : Int → List Int} (hI : MInv c p vl v R M) (hc : ∀ s, c s = (gone s).length) (hl : ∀ r ∈ R, 0 ≤ r.left ∧ r.left < vl) {x : Nat} (hx : x < vl) (hs : stM M x ≤ 4096) {q : List Mv} {u : Nat} (h : ChainM v R M x q u) : ∀ m ∈ q, MvOk R vl p m := by
  induction h with
  | nil => intro m hm; cases hm
  | @snoc q u r h h0 h1 ih =>
    intro m hm
    rcases List.mem_append.1 hm with hm | hm
    · exact ih m hm
    · rw [List.mem_singleton.1 hm]
      obtain ⟨i1, i2, i3⟩ := chain_sum hI hc hl hx hs h
      have hu : ¬ (q ≠ [] ∧ u = v) := fun e => h0.elim (fun a => e.1 a) (fun a => a e.2)
      rw [if_neg hu] at i2
      obtain ⟨r', g1, g2, g3, g4⟩ := hI.form u i1 (by omega)
      obtain ⟨_, a2, a3⟩ := lead_at vl p r'.right _ g2
      exact ⟨r', g1, by have := leadF_le vl p r'.right; omega, a3⟩
theorem atM_ok {p : Int → Bool} {vl : Nat} {R : List Rl} {q : List Mv} (h : ∀ m ∈ q, MvOk R vl p m) (hR : 0 < R.length) (j : Nat) : MvOk R vl p (atM q j) := by
  unfold atM
  rw [List.getD_eq_getElem?_getD]
  cases hj : q[j]? with
  | some m => exact h m (List.mem_of_getElem? hj)
  | none => exact ⟨R[0], List.getElem?_eq_getElem hR, Nat.zero_le _, fun s hs => by cases hs⟩
theorem flat_len {gone : Int → List Int} {C : Nat} (hg : ∀ s, (gone s).length ≤ C) : ∀ L : List Int, (L.flatMap gone).length ≤ L.length * C
  | [] => by simp
  | s :: L => by
    have ih := flat_len hg L
    have := hg s
    rw [List.flatMap_cons, List.length_append, List.length_cons, Nat.succ_mul]
    omega
theorem oneM_len {R : List Rl} {gone : Int → List Int} (hg : ∀ s, (gone s).length ≤ 4096) (h8 : ∀ r ∈ R, r.right.length ≤ 8) (m : Mv) : (oneM R gone m).length ≤ 32769 := by
  unfold oneM
  rw [List.length_cons]
  have h1 := flat_len hg ((ruleW R m.1).take m.2.1)
  have h2 : ((ruleW R (m.1 : Int)).take m.2.1).length ≤ 8 := by
    have e : (ruleW R (m.1 : Int)).length ≤ 8 := by
      unfold ruleW
      rw [Int.toNat_natCast, List.getD_eq_getElem?_getD]
      cases hr : R[m.1]? with
      | none => exact Nat.zero_le _
      | some r => exact h8 r (List.mem_of_getElem? hr)
    have := List.length_take_le m.2.1 (ruleW R (m.1 : Int))
    rw [List.length_take]
    omega
  have h3 : ((ruleW R (m.1 : Int)).take m.2.1).length * 4096 ≤ 8 * 4096 := Nat.mul_le_mul_right _ h2
  omega
theorem rulesM_max {R : List Rl} {gone : Int → List Int} (hg : ∀ s, (gone s).length ≤ 4096) (h8 : ∀ r ∈ R, r.right.length ≤ 8) : ∀ ps : List Mv, (rulesM R gone ps).length ≤ ps.length * 32769
  | [] => by simp [rulesM]
  | m :: ps => by
    have ih := rulesM_max hg h8 ps
    have := oneM_len hg h8 m
    show (oneM R gone m ++ rulesM R gone ps).length ≤ _
    rw [List.length_append, List.length_cons, Nat.succ_mul]
    omega
theorem rulesM_snoc (R : List Rl) (gone : Int → List Int) (ps : List Mv) (m : Mv) : rulesM R gone (ps ++ [m]) = rulesM R gone ps ++ oneM R gone m := by
  unfold rulesM
  rw [List.flatMap_append]
  simp
/-- within a round: the rules so far -/
structure BdS (W U : World) (mv : Value) (ks : List Int) (rv : Value) (X : World) : Prop where
  box : Blk X W.heap.size 26 #[rv]
  rows : X.ownsRow W.heap.size 3 1 rv ks.length (IV ks)
  bel : Below W.heap.size W X
  mvs : Blk X (W.heap.size + 1) 83 #[mv]
  ko : KeepsOthers U X
  bu : Below W.heap.size U X
section
variable {W U X X' : World} {mv rv rv2 : Value} {ks ns : List Int}
theorem BdS.alloc (h : BdS W U mv ks rv X) (o : Obj) : BdS W U mv ks rv (X.alloc o) := ⟨h.box.alloc o, h.rows.alloc o, h.bel.alloc h.bel.size o, h.mvs.alloc o, h.ko.trans (KeepsOthers.alloc X o), h.bu.alloc h.bel.size o⟩
theorem BdS.drew (h : BdS W U mv ks rv X) : BdS W U mv ks rv X.drew := ⟨h.box, h.rows, h.bel.drew, h.mvs, h.ko.trans (KeepsOthers.drew X), h.bu.drew⟩
theorem BdS.drewN (h : BdS W U mv ks rv X) (n : Nat) : BdS W U mv ks rv (X.drewN n) := ⟨h.box, h.rows, below_drewN h.bel n, h.mvs, ⟨h.ko.size, h.ko.same⟩, below_drewN h.bu n⟩
theorem BdS.push (h : BdS W U mv ks rv X) {n : Nat} (hn : n = ks.length + ns.length) (h2 : X'.ownsRow W.heap.size 3 1 rv2 n (IV ks ++ IV ns)) (hg : X.grownBy X' rv.ownBlock) : BdS W U mv (ks ++ ns) rv2 (X'.setCell ⟨W.heap.size, 0, none⟩ rv2) := by
  have hbox : Blk X' W.heap.size 26 #[rv] := h.box.grown hg (h.box.not_row (by decide) h.rows)
  have hmv : Blk X' (W.heap.size + 1) 83 #[mv] := h.mvs.grown hg (h.mvs.not_row (by decide) h.rows)
  have hgs := grown_set X' ⟨W.heap.size, 0, none⟩ rv2
  subst hn
  refine ⟨hbox.set_ 0 rv2, ?_, (h.bel.grown hg h.bel.size (fun k e => (row_cells h.rows k e).1)).setCell (p := ⟨W.heap.size, 0, none⟩) (Nat.le_refl _) rv2, hmv.far (p := ⟨W.heap.size, 0, none⟩) (by show W.heap.size + 1 ≠ W.heap.size; omega) rv2, (h.ko.trans (KeepsOthers.of_grownBy hg fun j o ej hj => ?_)).trans (KeepsOthers.setCell _ _ _), (h.bu.grown hg h.bel.size (fun k e => (row_cells h.rows k e).1)).setCell (p := ⟨W.heap.size, 0, none⟩) (Nat.le_refl _) rv2⟩
  · have := own_grown h2 hgs (.inr (hbox.not_row (by decide) h2).symm)
    rw [List.length_append]
    unfold IV at this ⊢
    rw [List.map_append]
    exact this
  · obtain ⟨_, o2, ho2, hc2⟩ := row_cells h.rows j ej
    rw [ho2] at hj
    cases hj
    exact hc2
theorem BdS.start (h1 : Blk U W.heap.size 26 #[rv]) (h2 : U.ownsRow W.heap.size 3 1 rv ks.length (IV ks)) (h3 : Below W.heap.size W U) (h4 : Blk U (W.heap.size + 1) 83 #[mv]) : BdS W U mv ks rv U := ⟨h1, h2, h3, h4, KeepsOthers.refl _, Below.refl _ _⟩
end
theorem step_append_srcL {P : Program} {w : World} {ops : Array Oper} {o : Oper} {a : Act} {K : Act → World → Prop} {Q : Exit → Act → World → Prop} {E : Prop} (hgd : o.guard = none) (s x : Operand) (t : TypeId)
    (ho : o.op = .call { callee := .builtin .append, args := #[s, x], argTypes := #[t, t] })
    (base : Nat) (e : TypeId) (i : TypeInfo) (z : Value) (size bytes : Nat) (ht : P.underlying t = some (.slice e)) (hi : P.info? e = some i) (hz : i.zero = some z)
    (hsize : i.size = size) (hby : i.bytes = bytes) (hzs : z.cells.size = size) (hsz : 0 < size)
    (v : Value) (n : Nat) (xs : List Value) (hs : a.eval s = v) (hown : w.ownsRow base e size v n xs)
    (ao : Option Addr) (m c : Nat) (news : List Value) (hx : a.eval x = .slice ao m c) (hl : news.length = m * size) (hnone : ao = none → m = 0 ∧ c = 0) (hnews : ∀ ad, ao = some ad → ∀ j u, news[j]? = some u → w.cell? (ad.add j) = some u) (h1 : ∀ u ∈ news, u.oneCell' = true)
    (h63 : n + m ≤ maxLen) (hbytes : (n + m) * bytes ≤ 140737488355328) (hbase : base ≤ w.heap.size)
    (h : ∀ v' w', w'.ownsRow base e size v' (n + m) (xs ++ news) → w.grownBy w' v.ownBlock → K (a.put o.dst v') w') :
    if Region.wanted o (yielded ops a.tmps) = true then Oper.wp P o a w K Q else E := by
  have hw : Region.wanted o (yielded ops a.tmps) = true := by simp [Region.wanted, hgd]
  rw [if_pos hw]
  cases ao with
  | some ad => exact wp_append_own w s x t ho base e i z size bytes ht hi hz hsize hby hzs hsz v n xs hs hown ad m c news hx hl (hnews ad rfl) h1 h63 hbytes hbase fun v' w' h2 h3 _ => h v' w' h2 h3
  | none =>
    obtain ⟨rfl, rfl⟩ := hnone rfl
    have hn : news = [] := List.eq_nil_of_length_eq_zero (by simpa using hl)
    subst hn
    have hr := run_append_owned_none (P := P) (w := w) base t o.type e i size ht hi v n xs hown
    unfold Oper.wp execOp
    simp only [ho, resolve, invoke, builtin, Sem.run_bind, Sem.run_pure, Result.andThen_ok, List.map_toArray, List.map_cons, List.map_nil, hs, hx, hr]
    exact h v w (by simpa using hown) (World.grownBy.refl _ _)
theorem iv_oneL (l : List Int) : ∀ u ∈ IV l, u.oneCell' = true := by
  intro u hu
  simp [IV] at hu
  obtain ⟨q, _, rfl⟩ := hu
  rfl
theorem own_src {w : World} {B n : Nat} {v : Value} {xs : List Value} {e : TypeId} (h : w.ownsRow B e 1 v n xs) : ∃ ao cap, v = .slice ao n cap ∧ (ao = none → n = 0 ∧ cap = 0) ∧ ∀ ad, ao = some ad → ∀ (j : Nat) (u : Value), xs[j]? = some u → w.cell? (ad.add j) = some u := by
  rcases id h.2 with ⟨rfl, hn⟩ | ⟨g, cap, cur, rfl, _⟩
  · exact ⟨none, 0, by rw [hn], (fun _ => ⟨hn, rfl⟩), (fun ad e => by cases e)⟩
  · exact ⟨_, cap, rfl, (fun e => by cases e), (fun ad e j u hj => by cases e; exact own_cells' h j u hj)⟩
/-- a region that draws, within a round -/
theorem wpIn_region_EQ {P : Program} {ops : Array Oper} {Q : Exit → Act → World → Prop} {l n id : Nat} {a : Act} {w : World} (S : World → Prop) (E : List Nat) (hm : P.follows .mixedOrders = true) (hnd : ∀ (i : Nat) (o : Oper), ops[i]? = some o → ∀ c, o.op ≠ .defer c)
    (h : anyE P .any ops (fun e a w => e ≠ .outgrown ∧ (∀ c, e ≠ .panic c) ∧ Q e a w) S E ops.size (Array.replicate ops.size false) a { w with drawn := w.drawn + 1 }) : (Code.region id ops true).wpIn (Fence.wide.inRound l) n P Q a w :=
  Code.wpIn_mono (fun e a w h => h.2) (wpIn_region_any (Q := fun e a w => (∀ c, e ≠ .panic c) ∧ Q e a w) hm (anyIn_of_any hnd _ _ _ _ (any_of_anyE _ _ _ _ h)))
end Go.Proofs.Ytljkobijoenabaa.dv
namespace Go.Proofs.Ytljkobijoenabaa.dv
open Go.ChangeShapes Go.WideShapes Go.ChangeAt Go.RowKit Go.Maps Go.WideMaps Go.WideElems Go.Shelf
set_option linter.unusedVariables false
set_option linter.unusedSimpArgs false
/-! left: Cycle -/
attribute [local go_sem] Oper.semAt_some
theorem new3 (w : World) (a b c : Value) (t : TypeId) : ∀ (j : Nat) (u : Value), [a, b, c][j]? = some u → (w.alloc (.cells #[a, b, c] t)).cell? ((⟨w.heap.size, 0, none⟩ : Addr).add j) = some u := fun j u hj => by
  rw [zero_add_addr]
  exact ((Blk.new w t #[a, b, c]).cell j).trans (by simpa using hj)
theorem ax_mk {A : Act} {f : (Nat → Value) → Act} (h : A = f (fun i => A.tmps.getD i undef)) : ∃ vs, A = f vs := ⟨_, h⟩
def CycR (w : World) (R : List Rl) (vl : Nat) (v : Int) : Ending → World → Prop := fun e w' => ∃ u b, e = .returned (.tuple #[u, .bool b]) ∧ Below w.heap.size w w' ∧
  (b = false → u = .slice none 0 0 ∧ (0 ≤ v → v < vl → ∃ D M, D.length = vl ∧ (∀ i, i < vl → GoneOk R vl i (D.getD i [])) ∧ (∀ i, i < R.length → SatM (vanC D) (vanP D) vl v.toNat R M i) ∧ 4096 < stM M v.toNat)) ∧
  (b = true → 0 ≤ v ∧ v < vl ∧ ∃ D M q, D.length = vl ∧ (∀ i, i < vl → GoneOk R vl i (D.getD i [])) ∧ MInv (vanC D) (vanP D) vl v.toNat R M ∧ stM M v.toNat ≤ 4096 ∧ ChainM v.toNat R M v.toNat q v.toNat ∧ q ≠ [] ∧ w'.ownsRow w.heap.size 3 1 u (rulesM R (fun s => D.getD s.toNat []) q.reverse).length (IV (rulesM R (fun s => D.getD s.toNat []) q.reverse)))
set_option maxRecDepth 100000 in
set_option maxHeartbeats 4000000 in
theorem cycle_any (w : World) (B : Nat) (ta va : Option Addr) (tl tc vl vc : Nat) (rv : Value) (R : List Rl) (v : Int) (hR : RulesAt B w rv R) (hB : B ≤ w.heap.size) (hl : ∀ r ∈ R, 0 ≤ r.left ∧ r.left < vl) (hv : vl ≤ 8) (h8 : ∀ r ∈ R, r.right.length ≤ 8) (hvr : ∀ r ∈ R, ∀ s ∈ r.right, 0 ≤ s → s < vl) :
    Calls Try.prog 34 #[.agg #[.slice ta tl tc, .slice va vl vc, rv], .int .i64 v] w (CycR w R vl v) := by
  obtain ⟨ra, rc, rfl, hn, _⟩ := id hR
  have b0 := Blk.new w 25 #[.slice ta tl tc, .slice va vl vc, .slice ra R.length rc]
  have hbl : Below w.heap.size w (w.alloc (.cells #[.slice ta tl tc, .slice va vl vc, .slice ra R.length rc] 25)) := (Below.refl _ w).alloc (Nat.le_refl _) _
  have hva := lisVarOf_any (w.alloc (.cells #[.slice ta tl tc, .slice va vl vc, .slice ra R.length rc] 25)) ta va ra tl tc vl vc R.length rc v
  have HR := Lib.hid hR
  have HL := Lib.hid hl
  have H8 := Lib.hid h8
  have HVR := Lib.hid hvr
  have c0 := b0.cell 0
  have c1 := b0.cell 1
  have c2 := b0.cell 2
  simp only [List.getElem?_toArray, List.getElem?_cons_zero, List.getElem?_cons_succ] at c0 c1 c2
  have pc0 : ∀ o, ((w.alloc (.cells #[.slice ta tl tc, .slice va vl vc, .slice ra R.length rc] 25)).alloc o).cell? ⟨w.heap.size, 0, none⟩ = some (.slice ta tl tc) := fun o => (b0.alloc o).cell 0
  have pc1 : ∀ o, ((w.alloc (.cells #[.slice ta tl tc, .slice va vl vc, .slice ra R.length rc] 25)).alloc o).cell? ⟨w.heap.size, 1, none⟩ = some (.slice va vl vc) := fun o => (b0.alloc o).cell 1
  have pc2 : ∀ o, ((w.alloc (.cells #[.slice ta tl tc, .slice va vl vc, .slice ra R.length rc] 25)).alloc o).cell? ⟨w.heap.size, 2, none⟩ = some (.slice ra R.length rc) := fun o => (b0.alloc o).cell 2
  have HB0 := Lib.hid b0
  have HBL := Lib.hid hbl
  clear hR hl b0 hbl h8 hvr
  refine (callsIn_wide (n := 3)).1 ?_
  refine callsIn_of_wp_marks Try.func34 rfl trivial ?_ rfl
  simp only [Try.ntmps34, List.size_toArray, List.length_cons, List.length_nil, Nat.reduceAdd, Nat.reduceSub, Array.replicate_succ, Array.replicate_zero, List.push_toArray, List.append_toArray, List.nil_append, List.cons_append]
  refine wpIn_wide.2 ?_
  by_cases hok : 0 ≤ v ∧ v < vl
  · rw [decide_eq_true hok.1, decide_eq_true hok.2] at hva
    obtain ⟨k, rfl⟩ : ∃ k : Nat, v = k := ⟨v.toNat, by omega⟩
    have hkl : k < vl := by omega
    have hk2 : (k : Int) < (vl : Int) := by omega
    have hk0 : (0 : Int) ≤ (k : Int) := by omega
    go_wp2_with fail
    refine hva.mono ?_
    rintro e w1 ⟨rfl, o1, rfl⟩
    have e2 : (true && true) = true := rfl
    rw [e2]
    have hb1 : Below w.heap.size w ((w.alloc (.cells #[.slice ta tl tc, .slice va vl vc, .slice ra R.length rc] 25)).alloc o1) := HBL.out.alloc (by simp) o1
    have hvan := vanishings_any ((w.alloc (.cells #[.slice ta tl tc, .slice va vl vc, .slice ra R.length rc] 25)).alloc o1) B ta va tl tc vl vc (.slice ra R.length rc) R (HR.out.far (hb1.mono hB)) (by simp; omega) HL.out (by omega) H8.out
    have HB1 := Lib.hid hb1
    have HBG1 := Lib.hid (HB0.out.alloc o1)
    clear hb1 hva
    go_wp2_with fail
    refine hvan.mono ?_
    rintro e w2 ⟨mg, gs, D, rfl, hvd, hgone, hb2⟩
    have hz2 := hb2.size
    simp only [World.size_alloc] at hz2
    have hbw2 : Below w.heap.size w w2 := HB1.out.trans (hb2.mono (by simp; omega))
    have bg2 := HBG1.out.below hb2 (by simp; omega)
    have HVD := Lib.hid hvd
    have HGONE := Lib.hid hgone
    have HBW2 := Lib.hid hbw2
    have HBG2 := Lib.hid bg2
    have g0 : ∀ o, (w2.alloc o).cell? ⟨w.heap.size, 0, none⟩ = some (.slice ta tl tc) := fun o => (bg2.alloc o).cell 0
    have g1 : ∀ o, (w2.alloc o).cell? ⟨w.heap.size, 1, none⟩ = some (.slice va vl vc) := fun o => (bg2.alloc o).cell 1
    have g2 : ∀ o, (w2.alloc o).cell? ⟨w.heap.size, 2, none⟩ = some (.slice ra R.length rc) := fun o => (bg2.alloc o).cell 2
    have hb3 : Below w.heap.size w (w2.alloc (.cells #[slB vl mg] 58)) := hbw2.alloc hbw2.size _
    have hvd3 := hvd.below ((Below.refl _ w2).alloc (Nat.le_refl _) (.cells #[slB vl mg] 58))
    have hDl : ∀ i, (D.getD i []).length ≤ 4096 := fun i => by
      by_cases hi : i < vl
      · exact gone_len H8.out hv hi (hgone i hi)
      · rw [List.getD_eq_getElem?_getD, List.getElem?_eq_none (by rw [hvd.dl]; omega)]
        exact Nat.zero_le _
    have hfew := fewest_any (w2.alloc (.cells #[slB vl mg] 58)) B ta va tl tc vl vc (.slice ra R.length rc) R (HR.out.far (hb3.mono hB)) (by have := hb3.size; omega) HL.out (by omega) H8.out k hkl _ mg gs D hvd3 hDl
    have HFEW := Lib.hid hfew
    have HDL := Lib.hid hDl
    have HB3 := Lib.hid hb3
    have HVD3 := Lib.hid hvd3
    have HZ2 := Lib.hid hz2
    clear hvan hvd hgone hb2 hz2 hbw2 bg2 hb3 hvd3 hDl hfew c0 c1 c2 pc0 pc1 pc2
    unfold slB
    go_wp2_with fail
    unfold slB at HFEW HVD3 HB3
    refine HFEW.out.mono ?_
    rintro e w4 ⟨bm, cp, M, rfl, hmv, hmi, hsat, hb4⟩
    have hz4 := hb4.size
    rw [World.size_alloc] at hz4
    have HMV := Lib.hid hmv
    have HMI := Lib.hid hmi
    have HSAT := Lib.hid hsat
    have hbw4 : Below w.heap.size w w4 := HB3.out.trans (hb4.mono (by rw [World.size_alloc]; have := HZ2.out; omega))
    have bx4 := (Blk.new w2 58 #[.slice (some ⟨mg, 0, none⟩) vl vl]).below hb4 (by rw [World.size_alloc]; omega)
    have bg4 := (HBG2.out.alloc (.cells #[.slice (some ⟨mg, 0, none⟩) vl vl] 58)).below hb4 (by rw [World.size_alloc]; have := HZ2.out; omega)
    have hvd4 := HVD3.out.below hb4
    have HBW4 := Lib.hid hbw4
    have HBX4 := Lib.hid bx4
    have HBG4 := Lib.hid bg4
    have HVD4 := Lib.hid hvd4
    have HZ4 := Lib.hid hz4
    obtain ⟨n0, n1, n2⟩ := mvAt_cell hmv k hkl
    have hmlt := mvAt_lt hmv
    have HMLT := Lib.hid hmlt
    obtain ⟨st, hste⟩ : ∃ st, st = stM M k := ⟨_, rfl⟩
    rw [← hste] at n2
    have HSTE := Lib.hid hste
    have HFZ : Hid (∀ W : World, W = w4 → True) := Lib.hid (fun _ _ => trivial)
    clear hmv hmi hsat hb4 hbw4 bx4 bg4 hvd4 hste g0 g1 g2 HFEW HVD3 HVD hz4
    by_cases hst : st ≤ 4096
    · have hgt : decide ((4096 : Int) < (st : Int)) = false := decide_eq_false (by omega)
      have HST := Lib.hid hst
      have hform := HMI.out.form k hkl (by rw [← HSTE.out]; exact hst)
      obtain ⟨r, hrk, hat, hlx, hsum⟩ := hform
      have hrm := List.mem_of_getElem? hrk
      obtain ⟨hl0, hl1⟩ := HL.out r hrm
      obtain ⟨ra', rc', er, _, hr2⟩ := HR.out.far (HBW4.out.mono hB)
      cases er
      obtain ⟨a2, rfl, hab2, ao2, c2, h1, h2, h3, h4, h5, h6, h7, h8⟩ := hr2 _ r hrk
      have HRK := Lib.hid hrk
      obtain ⟨kr, hkr⟩ : ∃ kr, kr = (M.getD k noM).1 := ⟨_, rfl⟩
      rw [← hkr] at n0 h1
      have hkrR : kr < R.length := by rw [hkr]; exact (List.getElem?_eq_some_iff.1 hrk).1
      have HKR := Lib.hid hkr
      obtain ⟨lv, hlv⟩ : ∃ lv : Nat, r.left = lv := ⟨r.left.toNat, by omega⟩
      have hlvl : lv < vl := by omega
      rw [hlv] at h1
      have HLV := Lib.hid hlv
      have hkr0 : (0 : Int) ≤ (kr : Int) := by omega
      have hkr1 : (kr : Int) < (R.length : Int) := by omega
      have z2 : ∀ o, (w4.alloc o).cell? ⟨w.heap.size, 2, none⟩ = some (.slice (some a2) R.length rc) := fun o => (HBG4.out.alloc o).cell 2
      have z3 : ∀ o, (w4.alloc o).cell? ⟨bm, k * 3, none⟩ = some (.int .i64 (kr : Int)) := fun o => (World.cell?_alloc_lt w4 o ⟨bm, k * 3, none⟩ HMLT.out).trans n0
      have z4 : ∀ o, (w4.alloc o).cell? (a2.add (kr * 3)) = some (.int .i64 (lv : Int)) := fun o => (World.cell?_alloc_lt w4 o (a2.add (kr * 3)) (by rw [add_block]; have := HBW4.out.size; omega)).trans h1
      obtain ⟨m1, hm1⟩ : ∃ m1, m1 = (M.getD k noM).2.1 := ⟨_, rfl⟩
      rw [← hm1] at n1
      have HM1 := Lib.hid hm1
      have hpath : (w4.alloc (.cells #[.int .i64 kr, .int .i64 m1, .int .i64 st] 86)).ownsRow w4.heap.size 86 3 (.slice (some ⟨w4.heap.size, 0, none⟩) 1 1) 1 (WV ([M.getD k noM].map encM)) := by
        have := World.ownsRow_lit (base := w4.heap.size) (e := 86) (size := 3) w4 #[.int .i64 kr, .int .i64 m1, .int .i64 st] 1 (Nat.le_refl _) (by decide) rfl
        have e : WV ([M.getD k noM].map encM) = [.int .i64 kr, .int .i64 m1, .int .i64 st] := by
          rw [HKR.out, HM1.out, HSTE.out]
          rfl
        rw [e]
        exact this
      have HPATH := Lib.hid hpath
      have hchain : ChainM k R M k [M.getD k noM] lv := by
        have := ChainM.snoc (v := k) (ChainM.nil (v := k) (R := R) (M := M) (x := k)) (.inl rfl) HRK.out
        rw [HLV.out, Int.toNat_natCast] at this
        simpa using this
      have HCHAIN := Lib.hid hchain
      clear hst hrk hat hlx hsum hrm hl0 hl1 hr2 h2 h3 h4 h5 h6 h7 h8 hkr hlv hm1 hpath hchain
      go_wp2
      go_quiet (fail)
      go_wp2
      have hbq : ∀ n, Below w4.heap.size w4 ((w4.alloc (.cells #[.int .i64 kr, .int .i64 m1, .int .i64 st] 86)).drewN n) := fun n => below_drewN ((Below.refl _ w4).alloc (Nat.le_refl _) _) n
      have HBQ := Lib.hid hbq
      clear z2 z3 z4 n0 n1 n2 h1 hbq
      go_loopw [8, 9] (fun pv u W => ∃ (q : List Mv) (un g cp2 : Nat), u = .int .i64 un ∧ un < vl ∧ pv = .slice (some ⟨g, 0, none⟩) q.length cp2 ∧ W.ownsRow w4.heap.size 86 3 (.slice (some ⟨g, 0, none⟩) q.length cp2) q.length (WV (q.map encM)) ∧ ChainM k R M k q un ∧ q ≠ [] ∧ Below w4.heap.size w4 W) (fun _ u _ => if (intOf u).toNat = k then 0 else stM M (intOf u).toNat + 1)
      case atStart => exact ⟨[M.getD k noM], lv, w4.heap.size, 1, rfl, hlvl, rfl, HPATH.out, HCHAIN.out, by simp, HBQ.out _⟩
      case round =>
        obtain ⟨W, rfl⟩ : ∃ W : World, W = wr := ⟨_, rfl⟩
        obtain ⟨q, un, g, cp2, rfl, hun, rfl, hown, hch, hqn, hbW⟩ := hrel
        have HOWN := Lib.hid hown
        have HCH := Lib.hid hch
        have HQN := Lib.hid hqn
        have HBW := Lib.hid hbW
        have hks : stM M k ≤ 4096 := by rw [← HSTE.out]; exact HST.out
        have hcs := chain_sum HMI.out (gone := fun s => D.getD s.toNat []) (fun _ => rfl) HL.out hkl hks hch
        have hql : q.length ≤ 4096 := by have := hcs.2.1; have := hcs.2.2; omega
        have HCS := Lib.hid hcs.2.1
        clear hown hch hqn hbW hks hcs HPATH HCHAIN HBQ
        by_cases huk : un = k
        · have huk2 : k = un := huk.symm
          subst huk2
          have hne : ((k : Int) != (k : Int)) = false := by simp
          have HQL := Lib.hid hql
          clear huk
          go_wp2_with (go_at_call 66; refine (callsIn_wide.1 (backM_in Fence.wide 3 trivial rfl _ _ _ _)).mono ?_; rintro e w5 ⟨rfl, rfl⟩)
          have hq1 : (1 : Nat) ≤ 3 := by decide
          have hq2 : (1 : Nat) ≤ 3 - 1 := by decide
          have bR := (Blk.new W 26 #[.slice none 0 0]).alloc (.cells #[.slice (some ⟨g, 0, none⟩) q.length cp2] 83)
          have bK := Blk.new (W.alloc (.cells #[.slice none 0 0] 26)) 83 #[.slice (some ⟨g, 0, none⟩) q.length cp2]
          rw [World.size_alloc] at bK
          have hbN : Below W.heap.size W ((W.alloc (.cells #[.slice none 0 0] 26)).alloc (.cells #[.slice (some ⟨g, 0, none⟩) q.length cp2] 83)) := ((Below.refl _ W).alloc (Nat.le_refl _) _).alloc (by simp) _
          have hgW : g < W.heap.size := (row_lt HOWN.out).1
          have hru : RowUnderM W.heap.size ((W.alloc (.cells #[.slice none 0 0] 26)).alloc (.cells #[.slice (some ⟨g, 0, none⟩) q.length cp2] 83)) (some ⟨g, 0, none⟩) q := fun j hj => by
            have hm : (q.map encM).length = q.length := by simp
            obtain ⟨h1, h2, h3⟩ := wv_at (q.map encM) j (by omega)
            rw [encM_get q j hj] at h1 h2 h3
            have hw : (WV (q.map encM)).length = q.length * 3 := by rw [wv_len]; omega
            have ho := HOWN.out
            refine ⟨⟨g, 0, none⟩, rfl, hgW, ?_, ?_, ?_⟩
            · rw [zero_add_addr]; exact (hbN.cell (p := ⟨g, j * 3, none⟩) hgW).trans ((ho.cellAt _ (by omega)).trans h1)
            · rw [zero_add_addr]; exact (hbN.cell (p := ⟨g, j * 3 + 1, none⟩) hgW).trans ((ho.cellAt _ (by omega)).trans h2)
            · rw [zero_add_addr]; exact (hbN.cell (p := ⟨g, j * 3 + 2, none⟩) hgW).trans ((ho.cellAt _ (by omega)).trans h3)
          have HRU := Lib.hid hru
          have HBR := Lib.hid bR
          have HBK := Lib.hid bK
          have HBN := Lib.hid hbN
          clear bR bK hbN hru HRK HLV
          refine (wpIn_wide (n := 3)).1 ?_
          refine wpIn_rangeFunc_ownH (F := Fence.wide) rfl hq1 (gf := 85) (lb := #[.pointer (some ⟨W.heap.size + 1, 0, none⟩)]) rfl trivial (enters_of Try.func85 (by kernel_rfl) rfl)
            (backM_stops Fence.wide _ trivial rfl hq2 (W.heap.size + 1) W.heap.size cp2 (some ⟨g, 0, none⟩) q (by have := HQL.out; omega) _ (by simp) (by simp; omega) (HBK.out.cell 0) HRU.out) (fun h k => h.trans k) (fun W' l o o' hl h hc hw => kb_b (w := W) (m := W.heap.size) (Nat.le_refl _) W' l o o' (by simp at hl; omega) (Nat.le_refl _) h hc hw) (Below.refl _ _) (fun _ => rfl)
            (fun pre U => (∃ rv, Blk U W.heap.size 26 #[rv] ∧ U.ownsRow W.heap.size 3 1 rv (rulesM R (fun s => D.getD s.toNat []) (pre.map (atM q))).length (IV (rulesM R (fun s => D.getD s.toNat []) (pre.map (atM q))))) ∧ Below W.heap.size W U ∧ Blk U (W.heap.size + 1) 83 #[.slice (some ⟨g, 0, none⟩) q.length cp2])
            (fun _ _ _ => False)
            (fun pre A Bw row hs hg hr => by
              obtain ⟨⟨rv, h1, h2⟩, h3, h4⟩ := hs
              simp only [World.size_alloc] at hr
              exact ⟨⟨rv, h1.grownC hg (fun r e => (hr r e).2), own_grown h2 hg (row_noncells h2 (fun r e => (hr r e).2))⟩, h3.grown hg h3.size (fun r e => by have := (hr r e).1; omega), h4.grownC hg (fun r e => (hr r e).2)⟩)
            (fun _ _ _ _ _ hs _ _ => hs)
            ⟨⟨_, HBR.out, World.ownsRow_nil _ _ _ _⟩, HBN.out, HBK.out⟩
            (fun x a' U => ∃ (b3 : Nat), W.heap.size + 2 ≤ b3 ∧ Blk U b3 86 #[.int .i64 ((atM q x).1 : Int), .int .i64 ((atM q x).2.1 : Int), .int .i64 ((atM q x).2.2 : Int)] ∧ ∃ vs : Nat → Value, a' = { tmps := #[vs 0, vs 1, .pointer (some ⟨w.heap.size, 0, none⟩), vs 3, vs 4, vs 5, .pointer (some ⟨w2.heap.size, 0, none⟩), vs 7, vs 8, vs 9, .pointer (some ⟨W.heap.size, 0, none⟩), vs 11, .pointer (some ⟨b3, 0, none⟩), vs 13, vs 14, vs 15, vs 16, vs 17, vs 18, vs 19, vs 20, vs 21, vs 22, vs 23, vs 24, vs 25, vs 26, vs 27, vs 28, vs 29, vs 30, vs 31, vs 32, vs 33, vs 34, vs 35, vs 36, vs 37, vs 38, vs 39, vs 40, vs 41, vs 42, vs 43, vs 44, vs 45, vs 46, vs 47, vs 48, vs 49, vs 50, vs 51, vs 52, vs 53, vs 54, vs 55, vs 56, vs 57, vs 58, vs 59, vs 60, vs 61, vs 62, vs 63, vs 64, vs 65, vs 66, vs 67, vs 68, vs 69, vs 70, vs 71, vs 72, vs 73, vs 74, vs 75, vs 76, vs 77, vs 78, vs 79, vs 80, vs 81, vs 82, vs 83, vs 84, vs 85, vs 86, vs 87, vs 88, vs 89, vs 90, vs 91, vs 92, vs 93, vs 94, vs 95, vs 96, vs 97], defers := [] })
            (fun x a' s A Bw row hs hg hr => by
              obtain ⟨b3, h1, h3, h2⟩ := hs
              exact ⟨b3, h1, h3.grownC hg (fun r e => (hr r e).2), h2⟩) ?assign ?body ?done ?stop
          case assign =>
            intro l pre x U K hI hK
            unfold WayV encM
            dsimp only
            refine wpIn_region_lit ?_
            refine wpListIn_plain rfl (fun K2 hK2 => ?_)
            refine oper_in_of (by intro c h; cases h) ?_
            go_simp
            refine hK2 _ _ ?_
            clear hK2 K2
            refine wpListIn_plain rfl (fun K2 hK2 => ?_)
            refine oper_in_of (by intro c h; cases h) ?_
            go_simp
            refine hK2 _ _ ?_
            clear hK2 K2
            refine wpListIn_nil ?_
            have hUs := hI.2.1.size
            have hU2 : W.heap.size + 1 < U.heap.size := hI.2.2.lt
            obtain ⟨⟨rv, i1, i2⟩, i3, i4⟩ := hI
            refine hK _ _ ((KeepsOthers.alloc _ _).from _) ⟨(Below.refl _ U).alloc hUs _, fun u hu => (World.cell?_alloc_lt U _ ⟨W.heap.size + 1, 0, none⟩ hU2).trans hu⟩ ⟨⟨rv, i1.alloc _, i2.alloc _⟩, i3.alloc hUs _, i4.alloc _⟩ ⟨U.heap.size, by omega, Blk.new U 86 _, ax_mk (by rfl)⟩
          case body =>
            rintro l pre x a' U hl ⟨rr, hrr⟩ ⟨⟨rv, i1, i2⟩, i3, i4⟩ ⟨b3, hb3, hbk, vs, rfl⟩ hlt
            have hmok := atM_ok (p := vanP D) (chain_okM HMI.out (gone := fun s => D.getD s.toNat []) (fun _ => rfl) HL.out hkl (by rw [← HSTE.out]; exact HST.out) HCH.out) (by omega) x
            obtain ⟨rm, hrm, hat, hsy⟩ := hmok
            obtain ⟨y, hy⟩ : ∃ y, y = atM q x := ⟨_, rfl⟩
            rw [← hy] at hrm hat hsy hbk
            have HY := Lib.hid hy
            clear hy
            obtain ⟨y1, y2, y3⟩ := y
            dsimp only at hrm hat hsy hbk
            obtain ⟨ks, hks⟩ : ∃ ks, ks = rulesM R (fun s => D.getD s.toNat []) (pre.map (atM q)) := ⟨_, rfl⟩
            rw [← hks] at i2
            have HKS := Lib.hid hks
            have hkmax : ks.length ≤ 4096 * 32769 := by
              have h1 := rulesM_max (R := R) (gone := fun s => D.getD s.toNat []) (fun s => HDL.out s.toNat) H8.out (pre.map (atM q))
              rw [← hks, List.length_map] at h1
              have h2 : pre.length * 32769 ≤ 4096 * 32769 := Nat.mul_le_mul_right _ (by have := HQL.out; omega)
              omega
            have hrm8 := H8.out rm (List.mem_of_getElem? hrm)
            have hy1R : y1 < R.length := (List.getElem?_eq_some_iff.1 hrm).1
            obtain ⟨ra', rc', er, _, hr2⟩ := HR.out.far (HBW4.out.mono hB)
            cases er
            obtain ⟨a3, ea3, hab3, ao3, c3, h1, h2, h3, h4, h5, h6, h7, h8⟩ := hr2 y1 rm hrm
            cases ea3
            rw [addf a2 (y1 * 3) 1 (by decide)] at h2
            have hw4w : w.heap.size ≤ w4.heap.size := HBW4.out.size
            have hcells : ∀ X : World, Below W.heap.size W X → X.cell? ⟨w.heap.size, 2, none⟩ = some (.slice (some a2) R.length rc) ∧ X.cell? { block := (a2.add (y1 * 3)).block, off := (a2.add (y1 * 3)).off + 1 } = some (.slice ao3 rm.right.length c3) ∧ X.cell? ⟨w2.heap.size, 0, none⟩ = some (.slice (some ⟨mg, 0, none⟩) vl vl) ∧ (∀ j, j < rm.right.length → ∃ a : Addr, ao3 = some a ∧ X.cell? (a.add j) = some (.int .i64 (rm.right.getD j 0))) ∧ ∃ BV, VanAt X BV mg vl gs D := fun X hX => by
              have hX4 : Below w4.heap.size w4 X := HBW.out.trans (hX.mono HBW.out.size)
              refine ⟨?_, ?_, ?_, fun j hj => ?_, _, HVD4.out.below hX4⟩
              · have := (HBG4.out.below hX4 HBG4.out.lt).cell 2
                simpa using this
              · exact (hX4.cell (p := { block := (a2.add (y1 * 3)).block, off := (a2.add (y1 * 3)).off + 1 }) (by show (a2.add (y1 * 3)).block < _; rw [add_block]; omega)).trans h2
              · have := (HBX4.out.below hX4 HBX4.out.lt).cell 0
                simpa using this
              · obtain ⟨a, e, hab, hca⟩ := h7 j hj
                exact ⟨a, e, (hX4.cell (p := a.add j) (by rw [add_block]; omega)).trans hca⟩
            have HCELLS := Lib.hid hcells
            have hbs := BdS.start i1 i2 i3 i4
            have hmv0 : U.cell? ⟨W.heap.size + 1, 0, none⟩ = some (.slice (some ⟨g, 0, none⟩) q.length cp2) := by have := i4.cell 0; simpa using this
            have HMV0 := Lib.hid hmv0
            clear hmv0
            have hbsA := hbs.alloc (.cells #[.int .i64 (y1 : Int)] 3)
            have HBS := Lib.hid hbsA
            have hnw := one_new U 3 (.int .i64 (y1 : Int))
            have HNW := Lib.hid hnw
            have q0 := i1.cell 0
            have q1 := hbk.cell 0
            simp only [List.getElem?_toArray, List.getElem?_cons_zero, List.getElem?_cons_succ] at q0 q1
            have HBK3 := Lib.hid hbk
            have HRM := Lib.hid hrm
            have HSY := Lib.hid hsy
            have HC3 : Hid (rm.right.length ≤ c3) := Lib.hid h4
            have HC3n : Hid (ao3 = none → c3 = 0) := Lib.hid h6
            have HC3m : Hid (c3 ≤ maxLen) := Lib.hid h5
            have hWU := i3.size
            have HWU := Lib.hid hWU
            obtain ⟨i0, hi, hz0, hz1, hz2⟩ := info_parts info_int
            clear hks hcells hbs hbsA hnw hbk hrm hsy i1 i2 i3 i4 hr2 h1 h2 h3 h4 h5 h6 h7 h8 hrr
            gi_wp2_with (gi_at_builtin; refine wpListIn_append_own_at _ rfl _ _ 26 rfl W.heap.size 3 i0 (.int .i64 0) 1 8 Try.underlying26 hi hz0 hz1 hz2 rfl (by decide) rv ks.length (IV ks) rfl HBS.out.rows _ 1 1 [.int .i64 (y1 : Int)] rfl rfl HNW.out (by simp [Value.oneCell']) (by unfold maxLen; omega) (by omega) (by rw [World.size_alloc]; omega) ?_; intro tv9 W9 hown9 hgrow9 hnil9 hat9; obtain ⟨g9, cap9, e9, _, _⟩ := World.ownsRow.form hown9 (Nat.succ_pos _); subst e9; have b9 := HBS.out.box.grown hgrow9 (HBS.out.box.not_row (by decide) HBS.out.rows); have c9 := b9.cell 0; have f9 := b9.frozen 0; simp only [List.getElem?_toArray, List.getElem?_cons_zero] at c9)
            have hbs1 : BdS W U (.slice (some ⟨g, 0, none⟩) q.length cp2) (ks ++ [(y1 : Int)]) (.slice (some ⟨g9, 0, none⟩) (ks.length + 1) cap9) (W9.setCell ⟨W.heap.size, 0, none⟩ (.slice (some ⟨g9, 0, none⟩) (ks.length + 1) cap9)) := HBS.out.push (ns := [(y1 : Int)]) rfl hown9 hgrow9
            have hb39 : Blk (W9.setCell ⟨W.heap.size, 0, none⟩ (.slice (some ⟨g9, 0, none⟩) (ks.length + 1) cap9)) b3 86 #[.int .i64 (y1 : Int), .int .i64 (y2 : Int), .int .i64 (y3 : Int)] := ((HBK3.out.alloc _).grown hgrow9 ((HBK3.out.alloc _).not_row (by decide) HBS.out.rows)).far (p := ⟨W.heap.size, 0, none⟩) (by show b3 ≠ W.heap.size; omega) _
            have hbs1' := hbs1.drew
            have HB1 := Lib.hid hbs1
            have HB39 := Lib.hid hb39
            obtain ⟨z0, z1, z2, z3, _⟩ := HCELLS.out _ hbs1.bel
            have d0 := hb39.cell 0
            have d1 := hb39.cell 1
            simp only [List.getElem?_toArray, List.getElem?_cons_zero, List.getElem?_cons_succ] at d0 d1
            have hy10 : (0 : Int) ≤ (y1 : Int) := by omega
            have hy11 : (y1 : Int) < (R.length : Int) := by omega
            have hy20 : (0 : Int) ≤ (y2 : Int) := by omega
            have hy21 : (y2 : Int) ≤ (c3 : Int) := by have := HC3.out; omega
            have hy22 : y2 ≤ c3 := by have := HC3.out; omega
            have hc3m : c3 ≤ 9223372036854775807 := by have := HC3m.out; unfold maxLen at this; omega
            generalize hXX : W9.setCell ⟨W.heap.size, 0, none⟩ (.slice (some ⟨g9, 0, none⟩) (ks.length + 1) cap9) = X1 at *
            clear hXX hown9 hgrow9 hnil9 hat9 b9 c9 f9 hbs1 hb39 z3 hbs1' q0 q1 hi hz0 hz1 hz2
            refine wpIn_region_EQ (fun U => U.cell? ⟨w.heap.size, 2, none⟩ = some (.slice (some a2) R.length rc) ∧ U.cell? ⟨b3, 0, none⟩ = some (.int .i64 (y1 : Int)) ∧ U.cell? { block := (a2.add (y1 * 3)).block, off := (a2.add (y1 * 3)).off + 1 } = some (.slice ao3 rm.right.length c3) ∧ U.cell? ⟨b3, 1, none⟩ = some (.int .i64 (y2 : Int))) [] (by kernel_rfl) (fun i o ho c hc => ?_) ?_
            · have hm := Array.mem_of_getElem? ho
              simp only [List.mem_toArray, List.mem_cons, List.not_mem_nil, or_false] at hm
              repeat (rcases hm with rfl | hm; · cases hc)
              try (subst hm; cases hc)
            have HS : _ := And.intro (DRC X1 _ _ z0) (And.intro (DRC X1 _ _ d0) (And.intro (DRC X1 _ _ z1) (DRC X1 _ _ d1)))
            change anyE _ _ _ _ _ _ _ _ _ (World.drew _)
            refine anyE_take (i := 0) (v := ?_) rfl (by kernel_rfl) (by kernel_rfl) (by kernel_rfl) (by kernel_rfl) (by kernel_rfl) (fun c _ _ h => absurd rfl (h.2.1 c)) (Or.inl ⟨by kernel_rfl, ?_⟩) HS ?_
            rotate_left
            · intro w _; go_simp; with_reducible rfl
            refine anyE_take (i := 2) (v := ?_) rfl (by kernel_rfl) (by kernel_rfl) (by kernel_rfl) (by kernel_rfl) (by kernel_rfl) (fun c _ _ h => absurd rfl (h.2.1 c)) (Or.inl ⟨by kernel_rfl, ?_⟩) HS ?_
            rotate_left
            · intro w _; go_simp; with_reducible rfl
            refine anyE_take (i := 7) (v := ?_) rfl (by kernel_rfl) (by kernel_rfl) (by kernel_rfl) (by kernel_rfl) (by kernel_rfl) (fun c _ _ h => absurd rfl (h.2.1 c)) (Or.inl ⟨by kernel_rfl, ?_⟩) HS ?_
            rotate_left
            · intro w _; go_simp; with_reducible rfl
            refine anyE_take (i := 11) (v := ?_) rfl (by kernel_rfl) (by kernel_rfl) (by kernel_rfl) (by kernel_rfl) (by kernel_rfl) (fun c _ _ h => absurd rfl (h.2.1 c)) (Or.inl ⟨by kernel_rfl, ?_⟩) HS ?_
            rotate_left
            · intro w _; go_simp; with_reducible rfl
            refine anyE_take (i := 1) (v := ?_) rfl (by kernel_rfl) (by kernel_rfl) (by kernel_rfl) (by kernel_rfl) (by kernel_rfl) (fun c _ _ h => absurd rfl (h.2.1 c)) (Or.inl ⟨by kernel_rfl, ?_⟩) HS ?_
            rotate_left
            · intro w hw; have hw := hw.1; go_simp; with_reducible rfl
            refine anyE_take (i := 3) (v := ?_) rfl (by kernel_rfl) (by kernel_rfl) (by kernel_rfl) (by kernel_rfl) (by kernel_rfl) (fun c _ _ h => absurd rfl (h.2.1 c)) (Or.inl ⟨by kernel_rfl, ?_⟩) HS ?_
            rotate_left
            · intro w hw; have hw := hw.2.1; go_simp; with_reducible rfl
            refine anyE_take (i := 4) (v := ?_) rfl (by kernel_rfl) (by kernel_rfl) (by kernel_rfl) (by kernel_rfl) (by kernel_rfl) (fun c _ _ h => absurd rfl (h.2.1 c)) (Or.inl ⟨by kernel_rfl, ?_⟩) HS ?_
            rotate_left
            · intro w _; go_simp; with_reducible rfl
            refine anyE_take (i := 5) (v := ?_) rfl (by kernel_rfl) (by kernel_rfl) (by kernel_rfl) (by kernel_rfl) (by kernel_rfl) (fun c _ _ h => absurd rfl (h.2.1 c)) (Or.inl ⟨by kernel_rfl, ?_⟩) HS ?_
            rotate_left
            · intro w _; go_simp; with_reducible rfl
            refine anyE_take (i := 6) (v := ?_) rfl (by kernel_rfl) (by kernel_rfl) (by kernel_rfl) (by kernel_rfl) (by kernel_rfl) (fun c _ _ h => absurd rfl (h.2.1 c)) (Or.inl ⟨by kernel_rfl, ?_⟩) HS ?_
            rotate_left
            · intro w hw; have hw := hw.2.2.1; go_simp; with_reducible rfl
            refine anyE_take (i := 8) (v := ?_) rfl (by kernel_rfl) (by kernel_rfl) (by kernel_rfl) (by kernel_rfl) (by kernel_rfl) (fun c _ _ h => absurd rfl (h.2.1 c)) (Or.inl ⟨by kernel_rfl, ?_⟩) HS ?_
            rotate_left
            · intro w hw; have hw := hw.2.2.2; go_simp; with_reducible rfl
            refine anyE_take (i := 9) (v := ?_) rfl (by kernel_rfl) (by kernel_rfl) (by kernel_rfl) (by kernel_rfl) (by kernel_rfl) (fun c _ _ h => absurd rfl (h.2.1 c)) (Or.inl ⟨by kernel_rfl, ?_⟩) HS ?_
            rotate_left
            · intro w _; go_simp; with_reducible rfl
            refine anyE_take (i := 10) (v := ?_) rfl (by kernel_rfl) (by kernel_rfl) (by kernel_rfl) (by kernel_rfl) (by kernel_rfl) (fun c _ _ h => absurd rfl (h.2.1 c)) (Or.inl ⟨by kernel_rfl, ?_⟩) HS ?_
            rotate_left
            · intro w _; go_simp; with_reducible rfl
            refine anyE_done (by kernel_rfl) ?_ _
            refine ⟨(by intro e; cases e), (fun c h => by cases h), ?_⟩
            have hbs2 := HB1.out.drew
            have HB2 := Lib.hid hbs2
            have hkl1 : ks.length + 1 = (ks ++ ((y1 : Int) :: ((rm.right.take 0).flatMap fun s => D.getD s.toNat []))).length := by simp
            have HKL1 := Lib.hid hkl1
            clear hbs2 HS z0 z1 z2 d0 d1 hkl1 HBK3 HBS
            gi_wp2
            simp only [Act.put, List.setIfInBounds_toArray, List.set_cons_succ, List.set_cons_zero, List.getElem_toArray, List.getElem_cons_zero, List.getElem_cons_succ]
            gi_loopw [86] (fun i X => ∃ (j : Nat) (rv2 : Value), j ≤ y2 ∧ i = .int .i64 j ∧ BdS W U (.slice (some ⟨g, 0, none⟩) q.length cp2) (ks ++ ((y1 : Int) :: ((rm.right.take j).flatMap fun s => D.getD s.toNat []))) rv2 X) (fun i _ => y2 - (intOf i).toNat)
            case atStart => exact ⟨0, _, Nat.zero_le _, rfl, by simpa using HB2.out⟩
            case round =>
              obtain ⟨X, rfl⟩ : ∃ X : World, X = wr := ⟨_, rfl⟩
              obtain ⟨j, rv2, hj, rfl, hbX⟩ := hrel
              have HBX := Lib.hid hbX
              obtain ⟨z0, z1, z2, z3, BV, z4⟩ := HCELLS.out X hbX.bel
              by_cases hltj : j < y2
              · have hjr : j < rm.right.length := by omega
                obtain ⟨a, rfl, hca⟩ := z3 j hjr
                obtain ⟨hsp, hs0, hs1⟩ := HSY.out (rm.right.getD j 0) (by rw [List.getD_eq_getElem?_getD, List.getElem?_eq_getElem hjr]; exact List.mem_iff_getElem.2 ⟨j, by rw [List.length_take]; omega, by simp⟩)
                obtain ⟨sv, hsv⟩ : ∃ sv : Nat, rm.right.getD j 0 = sv := ⟨(rm.right.getD j 0).toNat, by omega⟩
                have hsn : sv < vl := by omega
                have htk : (rm.right.take (j + 1)).flatMap (fun s => D.getD s.toNat []) = (rm.right.take j).flatMap (fun s => D.getD s.toNat []) ++ D.getD sv [] := by
                  rw [List.take_succ_eq_append_getElem hjr, List.flatMap_append]
                  have e : rm.right[j] = (sv : Int) := by rw [← hsv, List.getD_eq_getElem?_getD, List.getElem?_eq_getElem hjr]; rfl
                  rw [e]
                  simp
                rw [hsv] at hca
                obtain ⟨vo, vcp, hvg, hvc⟩ := z4.cell sv hsn
                have hvi := z4.inn sv hsn
                rw [hvg] at hvi
                obtain ⟨vo', vcp', hve, hvn, hvs⟩ := own_src hvi
                cases hve
                obtain ⟨d, hd⟩ : ∃ d, d = D.getD sv [] := ⟨_, rfl⟩
                have hdl : d.length ≤ 4096 := by rw [hd]; exact HDL.out sv
                rw [← hd] at htk hvc hvn hvs
                obtain ⟨L, hL⟩ : ∃ L, L = ks ++ ((y1 : Int) :: ((rm.right.take j).flatMap fun s => D.getD s.toNat [])) := ⟨_, rfl⟩
                rw [← hL] at hbX
                have hLn : ks ++ ((y1 : Int) :: ((rm.right.take (j + 1)).flatMap fun s => D.getD s.toNat [])) = L ++ d := by rw [hL, htk]; simp
                have hLl : L.length ≤ 4096 * 32769 + 32769 := by
                  rw [hL, List.length_append, List.length_cons]
                  have h1 := flat_len (gone := fun s => D.getD s.toNat []) (C := 4096) (fun s => HDL.out s.toNat) (rm.right.take j)
                  have h2 : (rm.right.take j).length * 4096 ≤ 8 * 4096 := Nat.mul_le_mul_right _ (by rw [List.length_take]; omega)
                  omega
                have hLp : 0 < L.length := by rw [hL, List.length_append, List.length_cons]; omega
                have HLN := Lib.hid hLn
                have hbX2 := hbX.drew
                have HBX2 := Lib.hid hbX2
                have HVN := Lib.hid hvn
                have HVS := Lib.hid hvs
                have q0 := hbX.box.cell 0
                simp only [List.getElem?_toArray, List.getElem?_cons_zero, List.getElem?_cons_succ] at q0
                obtain ⟨i0, hi, hz0, hz1, hz2⟩ := info_parts info_int
                have hXs := hbX.bel.size
                have hsv0 : (0 : Int) ≤ (sv : Int) := by omega
                have hsv1 : (sv : Int) < (vl : Int) := by omega
                have hj0 : (0 : Int) ≤ (j : Int) := by omega
                have hj1 : (j : Int) < (y2 : Int) := by omega
                have hj2 : (j : Int) ≤ (c3 : Int) := by omega
                clear hbX hbX2 HBX hLn hL hvn hvs hvi hvg z0 z1 z3 z4 hsp hs0 hs1 hsv htk hd
                gi_wp2
                refine wpIn_region_EQ (fun U => U.cell? ⟨W.heap.size, 0, none⟩ = some rv2 ∧ U.cell? ⟨w2.heap.size, 0, none⟩ = some (.slice (some ⟨mg, 0, none⟩) vl vl) ∧ U.cell? ⟨mg, sv, none⟩ = some (.slice vo d.length vcp)) [5, 6] (by kernel_rfl) (fun i o ho c hc => ?_) ?_
                · have hm := Array.mem_of_getElem? ho
                  simp only [List.mem_toArray, List.mem_cons, List.not_mem_nil, or_false] at hm
                  repeat (rcases hm with rfl | hm; · cases hc)
                  try (subst hm; cases hc)
                have HS : _ := And.intro (DRC X _ _ q0) (And.intro (DRC X _ _ z2) (DRC X _ _ hvc))
                change anyE _ _ _ _ _ _ _ _ _ (World.drew _)
                refine anyE_take (i := 2) (v := ?_) rfl (by kernel_rfl) (by kernel_rfl) (by kernel_rfl) (by kernel_rfl) (by kernel_rfl) (fun c _ _ h => absurd rfl (h.2.1 c)) (Or.inl ⟨by kernel_rfl, ?_⟩) HS ?_
                rotate_left
                · intro w _; go_simp; with_reducible rfl
                refine anyE_take (i := 0) (v := ?_) rfl (by kernel_rfl) (by kernel_rfl) (by kernel_rfl) (by kernel_rfl) (by kernel_rfl) (fun c _ _ h => absurd rfl (h.2.1 c)) (Or.inl ⟨by kernel_rfl, ?_⟩) HS ?_
                rotate_left
                · intro w hw; have hw := hw.1; go_simp; with_reducible rfl
                refine anyE_take (i := 1) (v := ?_) rfl (by kernel_rfl) (by kernel_rfl) (by kernel_rfl) (by kernel_rfl) (by kernel_rfl) (fun c _ _ h => absurd rfl (h.2.1 c)) (Or.inl ⟨by kernel_rfl, ?_⟩) HS ?_
                rotate_left
                · intro w hw; have hw := hw.2.1; go_simp; with_reducible rfl
                refine anyE_take (i := 3) (v := ?_) rfl (by kernel_rfl) (by kernel_rfl) (by kernel_rfl) (by kernel_rfl) (by kernel_rfl) (fun c _ _ h => absurd rfl (h.2.1 c)) (Or.inl ⟨by kernel_rfl, ?_⟩) HS ?_
                rotate_left
                · intro w _; go_simp; with_reducible rfl
                refine anyE_take (i := 4) (v := ?_) rfl (by kernel_rfl) (by kernel_rfl) (by kernel_rfl) (by kernel_rfl) (by kernel_rfl) (fun c _ _ h => absurd rfl (h.2.1 c)) (Or.inl ⟨by kernel_rfl, ?_⟩) HS ?_
                rotate_left
                · intro w hw; have hw := hw.2.2; go_simp; with_reducible rfl
                refine anyE_rest (by kernel_rfl) ?_
                refine wpAny_ready (rs := [5]) (by kernel_rfl) (by simp) ?_
                refine AllReady.cons rfl (fun K hK => ?_) AllReady.nil
                refine step_append_srcL (by rfl) (.tmp 90) (.tmp 94) 26 (by rfl) W.heap.size 3 i0 (.int .i64 0) 1 8 Try.underlying26 hi hz0 hz1 hz2 (by rfl) (by decide) rv2 L.length (IV L) (by rfl) HBX2.out.rows vo d.length vcp (IV d) (by rfl) (by simp [IV]) HVN.out HVS.out (iv_oneL d) (by unfold maxLen; omega) (by omega) hXs ?_
                intro v7 w7 hown7 hgrow7
                obtain ⟨g7, cap7, e7, _, _⟩ := World.ownsRow.form hown7 (by omega)
                subst e7
                have b7 := HBX2.out.box.grown hgrow7 (HBX2.out.box.not_row (by decide) HBX2.out.rows)
                have c7 := b7.cell 0
                have f7 := b7.frozen 0
                simp only [List.getElem?_toArray, List.getElem?_cons_zero] at c7
                have HP7 := Lib.hid (HBX2.out.push (ns := d) rfl hown7 hgrow7)
                clear hown7 hgrow7 b7
                refine hK _ _ ?_
                clear hK K
                refine wpAny_ready (rs := [6]) (by kernel_rfl) (by simp) ?_
                refine AllReady.cons rfl (fun K hK => ?_) AllReady.nil
                go_simp
                refine hK _ _ ?_
                clear hK K
                refine wpAny_done (by kernel_rfl) ?_ _
                refine ⟨(by intro e; cases e), (fun c h => by cases h), ?_⟩
                gi_wp2
                exact ⟨⟨j + 1, _, hltj, congrArg (Value.int .i64) (by omega), by rw [HLN.out]; exact HP7.out⟩, by simp only [intOf]; omega⟩
              · obtain rfl : y2 = j := by omega
                have hfin : ks ++ ((y1 : Int) :: ((rm.right.take y2).flatMap fun s => D.getD s.toNat [])) = rulesM R (fun s => D.getD s.toNat []) ((pre ++ [x]).map (atM q)) := by
                  rw [List.map_append, List.map_singleton, rulesM_snoc, ← HKS.out, ← HY.out]
                  unfold oneM
                  rw [ruleW_at HRM.out]
                have HFIN := Lib.hid hfin
                clear z0 z1 z2 z3 z4 hbX hfin
                gi_wp2
                have hbX := HBX.out
                rw [HFIN.out] at hbX
                exact ⟨hbX.ko.from _, ⟨hbX.bu, fun u hu => by have h9 := hbX.mvs.cell 0; have h10 := HMV0.out; rw [h10] at hu; rw [← hu]; simpa using h9⟩, ⟨_, hbX.box, hbX.rows⟩, hbX.bel, hbX.mvs⟩
          case done =>
            rintro E1 ys U hD rfl ⟨⟨rv, i1, i2⟩, i3, i4⟩ hK
            simp only [World.size_alloc] at hD
            rw [upto_bkM] at i2
            have q0 := i1.cell 0
            simp only [List.getElem?_toArray, List.getElem?_cons_zero] at q0
            have hbU : Below w.heap.size w U := HBW4.out.trans ((HBW.out.trans (i3.mono HBW.out.size)).mono HBW4.out.size)
            have hi2 := own_weak i2 (show w.heap.size ≤ W.heap.size by have := HBW.out.size; have := HBW4.out.size; omega)
            have HI2 := Lib.hid hi2
            have HBU := Lib.hid hbU
            have hmk : Marks W.heap.size [E1] U := ⟨by simp, fun x hx => by
              obtain rfl : x = E1 := by simpa using hx
              exact ⟨by omega, hK⟩⟩
            have HMK := Lib.hid hmk
            clear i1 i2 i3 i4 hbU hi2 hmk hK
            have hks : stM M k ≤ 4096 := by rw [← HSTE.out]; exact HST.out
            have hfin : ∀ W' : World, (W'.ownsRow w.heap.size 3 1 rv (rulesM R (fun s => D.getD s.toNat []) q.reverse).length (IV (rulesM R (fun s => D.getD s.toNat []) q.reverse)) ∧ Below w.heap.size w W') → CycR w R vl k (.returned (.tuple #[rv, .bool true])) W' := fun W' hz => ⟨rv, true, rfl, hz.2, fun h => (by cases h), fun _ => ⟨by omega, by omega, D, M, q, HVD4.out.dl, HGONE.out, by rw [Int.toNat_natCast]; exact HMI.out, by rw [Int.toNat_natCast]; exact hks, by rw [Int.toNat_natCast]; exact HCH.out, HQN.out, hz.1⟩⟩
            have HFIN := Lib.hid hfin
            clear hfin hks
            go_wp2
            gi_wp2
            refine leaves_all (by intro h; cases h) W.heap.size (fun W' => W'.ownsRow w.heap.size 3 1 rv (rulesM R (fun s => D.getD s.toNat []) q.reverse).length (IV (rulesM R (fun s => D.getD s.toNat []) q.reverse)) ∧ Below w.heap.size w W') (fun W' D' o' hz h0 hD' => ⟨own_grown hz.1 (grownBy_putObj' W' D' o') (row_noncells hz.1 (fun r e => by cases e; exact ⟨_, hD', rfl⟩)), hz.2.grown (grownBy_putObj' W' D' o') hz.2.size (fun r e => by cases e; have := HBW.out.size; have := HBW4.out.size; omega)⟩) (fun W' hz => ?_) [E1] _ ⟨HI2.out, HBU.out⟩ HMK.out
            exact ⟨.tuple #[rv, .bool true], by simp [results, Try.results34, go_sem], HFIN.out W' hz⟩
          case stop =>
            rintro D c pre U _ _ h _
            exact h.elim
        · have hne : ((un : Int) != (k : Int)) = true := by simp; omega
          have hsu : stM M un ≤ stM M k := by have := HCS.out; rw [if_neg (fun e => huk e.2)] at this; omega
          obtain ⟨r2, hrk2, hat2, hlx2, hsum2⟩ := HMI.out.form un hun (by rw [← HSTE.out] at hsu; have := HST.out; omega)
          obtain ⟨hl0, hl1⟩ := HL.out r2 (List.mem_of_getElem? hrk2)
          obtain ⟨ra', rc', er, _, hr2⟩ := HR.out.far (HBW4.out.mono hB)
          cases er
          obtain ⟨a3, ea3, hab3, ao3, c3, h1, _⟩ := hr2 _ r2 hrk2
          cases ea3
          obtain ⟨n0, n1, n2⟩ := mvAt_cell HMV.out un hun
          have HRK2 := Lib.hid hrk2
          have hdec : (if r2.left.toNat = k then 0 else stM M r2.left.toNat + 1) < stM M un + 1 := by
            unfold baseM at hsum2
            split at hsum2
            · rename_i e; rw [if_pos e]; omega
            · rename_i e; rw [if_neg e]; omega
          have hch2 : ChainM k R M k (q ++ [M.getD un noM]) r2.left.toNat := ChainM.snoc HCH.out (.inr huk) hrk2
          have HCH2 := Lib.hid hch2
          obtain ⟨y, hy⟩ : ∃ y, y = M.getD un noM := ⟨_, rfl⟩
          have hye : stM M un = y.2.2 := by rw [hy]; rfl
          rw [hye] at n2
          rw [← hy] at n0 n1 h1 HCH2 HRK2
          have hyR : y.1 < R.length := (List.getElem?_eq_some_iff.1 HRK2.out).1
          have HYE := Lib.hid hye
          obtain ⟨lv2, hlv2⟩ : ∃ lv : Nat, r2.left = lv := ⟨r2.left.toNat, by omega⟩
          rw [hlv2] at h1 hl1 hdec
          rw [hlv2] at HCH2
          rw [Int.toNat_natCast] at hdec HCH2
          have hl12 : lv2 < vl := by omega
          have HDEC := Lib.hid hdec
          obtain ⟨y1, y2, y3⟩ := y
          dsimp only at n0 n1 n2 h1 hyR
          obtain ⟨i0, hi, hz0, hz1, hz2⟩ := info_parts info_move
          have k0 := (HBW.out.cell (p := ⟨bm, un * 3, none⟩) HMLT.out).trans n0
          have k1 := (HBW.out.cell (p := ⟨bm, un * 3 + 1, none⟩) HMLT.out).trans n1
          have k2 := (HBW.out.cell (p := ⟨bm, un * 3 + 2, none⟩) HMLT.out).trans n2
          have hu0 : (0 : Int) ≤ (un : Int) := by omega
          have hu1 : (un : Int) < (vl : Int) := by omega
          have hkr20 : (0 : Int) ≤ (y1 : Int) := by omega
          have hkr21 : (y1 : Int) < (R.length : Int) := by omega
          have hWs := HBW.out.size
          have HN0 := Lib.hid n0
          have HH1 := Lib.hid h1
          clear hsu hrk2 hat2 hlx2 hsum2 hl0 hl1 hr2 hch2 hy hye hlv2 hdec n0 n1 n2 h1
          go_wp2_with (at_builtin; refine wpList_append_own_at _ rfl (.tmp 59) (.tmp 64) 83 rfl w4.heap.size 86 i0 (.agg #[.int .i64 0, .int .i64 0, .int .i64 0]) 3 24 Try.underlying83 hi hz0 hz1 hz2 rfl (by decide) _ q.length (WV (q.map encM)) rfl (HOWN.out.alloc _) ⟨W.heap.size, 0, none⟩ 1 1 [.int .i64 (y1 : Int), .int .i64 (y2 : Int), .int .i64 (y3 : Int)] rfl rfl (new3 _ _ _ _ _) (by simp [Value.oneCell']) (by unfold maxLen; omega) (by omega) (by rw [World.size_alloc]; omega) ?_; intro v7 w7 hown7 hg7 _ hat7)
          have hb7 : Below w4.heap.size w4 w7 := (HBW.out.alloc hWs _).grown hg7 (by rw [World.size_alloc]; omega) (fun r e => (row_cells HOWN.out r e).1)
          obtain ⟨g7, cp7, hv7, _, _⟩ := World.ownsRow.form hown7 (Nat.succ_pos _)
          subst hv7
          have x0 := (hb7.cell (p := ⟨bm, un * 3, none⟩) HMLT.out).trans HN0.out
          have x1 := (hb7.cell (p := a2.add (y1 * 3)) (by rw [add_block]; have := HBW4.out.size; omega)).trans HH1.out
          have x2 := (HBG4.out.below hb7 HBG4.out.lt).cell 2
          simp only [List.getElem?_toArray, List.getElem?_cons_zero, List.getElem?_cons_succ] at x2
          have ho7 : w7.ownsRow w4.heap.size 86 3 (.slice (some ⟨g7, 0, none⟩) (q ++ [(y1, y2, y3)]).length cp7) (q ++ [(y1, y2, y3)]).length (WV ((q ++ [(y1, y2, y3)]).map encM)) := by
            rw [List.map_append, wv_app, List.length_append]
            exact hown7
          have hql1 : q.length + 1 = (q ++ [(y1, y2, y3)]).length := by simp
          rw [hql1]
          have HO7 := Lib.hid ho7
          have HB7 := Lib.hid hb7
          clear hown7 hg7 hat7 hb7 ho7 k0 k1 k2 hi hz0 hz1 hz2 hql1
          go_wp2
          go_quiet (fail)
          go_wp2
          refine ⟨⟨q ++ [(y1, y2, y3)], lv2, g7, cp7, rfl, hl12, rfl, HO7.out, HCH2.out, by simp, below_drewN HB7.out _⟩, ?_⟩
          have hd := HDEC.out
          show (if lv2 = k then 0 else stM M lv2 + 1) < (if un = k then 0 else stM M un + 1)
          rw [if_neg huk]
          exact hd
    · have hgt : decide ((4096 : Int) < (st : Int)) = true := decide_eq_true (by omega)
      have hlt4 : 4096 < stM M k := by rw [← HSTE.out]; omega
      have HLT4 := Lib.hid hlt4
      clear hst hlt4
      go_wp2
      refine ⟨.tuple #[.slice none 0 0, .bool false], by simp [results, Try.results34, go_sem], .slice none 0 0, false, rfl, HBW4.out, fun _ => ⟨rfl, fun _ _ => ⟨D, M, HVD4.out.dl, HGONE.out, by rw [Int.toNat_natCast]; exact HSAT.out, by rw [Int.toNat_natCast]; exact HLT4.out⟩⟩, fun h => by cases h⟩
  · have hvf : (decide (0 ≤ v) && decide (v < vl)) = false := by
      rw [Bool.and_eq_false_iff]
      by_cases h0 : 0 ≤ v
      · exact .inr (decide_eq_false (fun h => hok ⟨h0, h⟩))
      · exact .inl (decide_eq_false h0)
    rw [hvf] at hva
    clear hvf
    go_wp2_with fail
    refine hva.mono ?_
    rintro e w1 ⟨rfl, o1, rfl⟩
    go_wp2
    refine ⟨.tuple #[.slice none 0 0, .bool false], by simp [results, Try.results34, go_sem], .slice none 0 0, false, rfl, HBL.out.alloc (by simp) o1, fun _ => ⟨rfl, fun h1 h2 => absurd ⟨h1, h2⟩ hok⟩, fun h => by cases h⟩
end Go.Proofs.Ytljkobijoenabaa.dv
namespace Go.Proofs.Ytljkobijoenabaa.dv
open Go.ChangeShapes Go.WideShapes Go.ChangeAt Go.RowKit Go.Maps Go.WideMaps Go.WideElems
set_option linter.unusedVariables false
set_option linter.unusedSimpArgs false
/-! the word of a derivation -/
theorem row_own {w : World} {B n : Nat} {v : Value} {x : List Int} (h : w.ownsRow B 3 1 v n (IV x)) (hn : x.length = n) (hin : ∀ n ∈ x, In64 n) : RowAt w v x := by
  subst hn
  rcases h.2 with ⟨rfl, h0⟩ | ⟨g, cap, cur, rfl, _⟩
  · have : x = [] := List.length_eq_zero_iff.1 h0
    subst this
    exact ⟨none, 0, rfl, Nat.le_refl _, Nat.zero_le _, fun _ => rfl, hin, fun i hi => absurd hi (Nat.not_lt_zero _)⟩
  · obtain ⟨h1, h2⟩ := own_cap h
    refine ⟨_, cap, rfl, h1, h2, fun h => (by cases h), hin, fun i hi => ⟨_, rfl, own_lt h, own_cells' h i _ ?_⟩⟩
    simp [IV, List.getD_eq_getElem?_getD, List.getElem?_eq_getElem hi]
theorem RowAt.ins {w : World} {v : Value} {x : List Int} (h : RowAt w v x) : ∀ n ∈ x, In64 n := by
  obtain ⟨_, _, _, _, _, _, hin, _⟩ := h
  exact hin
def RulesIn (R : List Rl) : Prop := ∀ r ∈ R, r.right.length ≤ 8 ∧ ∀ n ∈ r.right, In64 n
theorem rules_in {B : Nat} {w : World} {v : Value} {R : List Rl} (h : RulesAt B w v R) (h8 : ∀ r ∈ R, r.right.length ≤ 8) : RulesIn R := by
  obtain ⟨ao, cap, e, _, hr⟩ := h
  intro r hm
  obtain ⟨k, hk, rfl⟩ := List.mem_iff_getElem.1 hm
  obtain ⟨a, _, _, ao2, c2, _, _, _, _, _, _, _, h8', _⟩ := hr k _ (List.getElem?_eq_getElem hk)
  exact ⟨h8 _ hm, h8'⟩
theorem ruleW_in {R : List Rl} (h : RulesIn R) (k : Int) : (ruleW R k).length ≤ 8 ∧ ∀ n ∈ ruleW R k, In64 n := by
  unfold ruleW
  rw [List.getD_eq_getElem?_getD]
  cases hk : R[k.toNat]? with
  | none => simp
  | some r => simpa using h r (List.mem_of_getElem? hk)
theorem tail_sub {l : List Int} {x : Int} (h : x ∈ l.tail) : x ∈ l := List.mem_of_mem_tail h
theorem stepL_in {R : List Rl} (h : RulesIn R) (F : List Int) (k : Int) (hF : ∀ n ∈ F, In64 n) : (∀ n ∈ stepL R F k, In64 n) ∧ (stepL R F k).length ≤ F.length + 8 := by
  have e := lead_rest F
  constructor
  · intro n hn
    unfold stepL at hn
    rcases List.mem_append.1 hn with h1 | h1
    · exact hF n (by rw [← e]; exact List.mem_append_left _ h1)
    · rcases List.mem_append.1 h1 with h1 | h1
      · exact (ruleW_in h k).2 n h1
      · exact hF n (by rw [← e]; exact List.mem_append_right _ (tail_sub h1))
  · have h1 := (ruleW_in h k).1
    have h2 := congrArg List.length e
    simp at h2
    unfold stepL
    simp
    omega
theorem repl_in {R : List Rl} (h : RulesIn R) : ∀ (ks F : List Int) (i : Nat), (∀ n ∈ F, In64 n) → (∀ n ∈ (replW R F ks i).1, In64 n) ∧ (replW R F ks i).1.length ≤ F.length + 8 * ks.length
  | [], F, i, hF => ⟨hF, by simp [replW]⟩
  | k :: ks, F, i, hF => by
    unfold replW
    by_cases hE : refW R (fvW F) k = 0
    · rw [if_pos hE]
      obtain ⟨h1, h2⟩ := stepL_in h F k hF
      obtain ⟨h3, h4⟩ := repl_in h ks (stepL R F k) (i + 1) h1
      exact ⟨h3, by simp; omega⟩
    · rw [if_neg hE]
      exact ⟨by simp, by simp⟩
def yieldW (R : List Rl) (F ks : List Int) : List Int × Int :=
  if (replW R F ks 0).2.2 = 0 then (if restW (replW R F ks 0).1 = [] then ((replW R F ks 0).1.map fun x => -1 - x, 0) else ([], 13)) else ([], (replW R F ks 0).2.2)
def YieldR (R : List Rl) (F ks : List Int) (w : World) : Ending → World → Prop := fun e w' => ∃ u, e = .returned (.tuple #[u, .int .i64 (yieldW R F ks).2]) ∧ ((yieldW R F ks).2 = 0 → w'.ownsRow w.heap.size 3 1 u (yieldW R F ks).1.length (IV (yieldW R F ks).1)) ∧ ((yieldW R F ks).2 ≠ 0 → u = .slice none 0 0) ∧ Below w.heap.size w w'
set_option maxRecDepth 100000 in
set_option maxHeartbeats 1000000 in
theorem yield_any (w : World) (B0 : Nat) (ta va : Option Addr) (tl tc vl vc : Nat) (rv v kv : Value) (R : List Rl) (F ks : List Int) (hR : RulesAt B0 w rv R) (hB : B0 ≤ w.heap.size) (h : RowAt w v F) (hk : RowAt w kv ks) (hks : ks.length ≤ 4096) (hF : F.length + 8 * ks.length ≤ 100000) (h8 : ∀ r ∈ R, r.right.length ≤ 8) :
    Calls Try.prog 23 #[.agg #[.slice ta tl tc, .slice va vl vc, rv], v, kv] w (YieldR R F ks w) := by
  have hri := rules_in hR h8
  have hin : ∀ n ∈ F, In64 n := h.ins
  obtain ⟨ra, rc, rfl, hn, hrl⟩ := id hR
  have b0 := Blk.new w 25 #[.slice ta tl tc, .slice va vl vc, .slice ra R.length rc]
  have c0 := b0.cell 0
  have c1 := b0.cell 1
  have c2 := b0.cell 2
  simp only [List.getElem?_toArray, List.getElem?_cons_zero, List.getElem?_cons_succ] at c0 c1 c2
  have hbl : Below w.heap.size w (w.alloc (.cells #[.slice ta tl tc, .slice va vl vc, .slice ra R.length rc] 25)) := (Below.refl _ w).alloc (Nat.le_refl _) _
  have hrep := replay_any (w.alloc (.cells #[.slice ta tl tc, .slice va vl vc, .slice ra R.length rc] 25)) B0 ta va tl tc vl vc (.slice ra R.length rc) v kv R F ks (hR.below (hbl.mono hB)) (by simp; omega) (h.below hbl) (hk.below hbl) hks hF h8
  obtain ⟨hin2, hlen2⟩ := repl_in hri ks F 0 hin
  have hz : (w.alloc (.cells #[.slice ta tl tc, .slice va vl vc, .slice ra R.length rc] 25)).heap.size = w.heap.size + 1 := by simp
  have hY : yieldW R F ks = if (replW R F ks 0).2.2 = 0 then (if restW (replW R F ks 0).1 = [] then ((replW R F ks 0).1.map fun x => -1 - x, 0) else ([], 13)) else ([], (replW R F ks 0).2.2) := rfl
  have HY := Lib.hid hY
  clear hY
  unfold ReplR at hrep
  generalize hr : replW R F ks 0 = Q at *
  obtain ⟨G, at_, E⟩ := Q
  dsimp only at hrep hin2 hlen2
  obtain ⟨ao, cap, rfl, _⟩ := h
  obtain ⟨ko, kcap, rfl, _⟩ := hk
  clear hR hrl hr
  go_enter Try.func23, Try.ntmps23
  go_wp2_with fail
  refine hrep.mono ?_
  rintro e w1 ⟨u, rfl, ho1, hu1, hb1⟩
  by_cases hE : E = 0
  · have ho := ho1 hE
    have hro := row_own ho rfl hin2
    have hle := lead_any w1 u G hro (by omega)
    have hbw : Below w.heap.size w w1 := hbl.trans (hb1.mono (by omega))
    obtain ⟨uo, uc, rfl⟩ := own_len ho
    by_cases hre : restW G = []
    · have e1 : idxW G = -1 := by unfold idxW; rw [if_pos hre]
      have e2 : leadW G = G := by have := lead_rest G; rwa [hre, List.append_nil] at this
      rw [e1, e2] at hle
      have hfin : yieldW R F ks = (G.map fun x => -1 - x, 0) := by rw [HY.out, if_pos hE, if_pos hre]
      have HFIN := Lib.hid hfin
      clear hfin
      subst hE
      go_wp2_with fail
      refine hle.mono ?_
      rintro e w2 ⟨u2, rfl, ho2, hb2⟩
      go_wp2
      refine bodyPost_ret (v := .tuple #[u2, .int .i64 0]) (by simp [results, Try.results23, go_sem]) rfl ?_
      unfold YieldR
      rw [HFIN.out]
      refine ⟨u2, rfl, fun _ => ?_, fun h => absurd rfl h, hbw.trans (hb2.mono hbw.size)⟩
      have := own_weak (base' := w.heap.size) ho2 hbw.size
      simpa using this
    · have e1 : idxW G = ((leadW G).length : Int) := by unfold idxW; rw [if_neg hre]
      rw [e1] at hle
      have hfin : yieldW R F ks = ([], 13) := by rw [HY.out, if_pos hE, if_neg hre]
      have HFIN := Lib.hid hfin
      clear hfin
      subst hE
      generalize (leadW G).length = m at *
      go_wp2_with fail
      refine hle.mono ?_
      rintro e w2 ⟨u2, rfl, ho2, hb2⟩
      go_wp2
      refine bodyPost_ret (v := .tuple #[.slice none 0 0, .int .i64 13]) (by simp [results, Try.results23, go_sem]) rfl ?_
      unfold YieldR
      rw [HFIN.out]
      exact ⟨_, rfl, fun h => absurd h (by decide), fun h => rfl, hbw.trans (hb2.mono hbw.size)⟩
  · have hfin : yieldW R F ks = ([], E) := by rw [HY.out, if_neg hE]
    have HFIN := Lib.hid hfin
    clear hfin
    obtain rfl := hu1 hE
    go_wp2
    refine bodyPost_ret (v := .tuple #[.slice none 0 0, .int .i64 E]) (by simp [results, Try.results23, go_sem]) rfl ?_
    unfold YieldR
    rw [HFIN.out]
    exact ⟨_, rfl, fun h => absurd h hE, fun h => rfl, hbl.trans (hb1.mono (by omega))⟩
end Go.Proofs.Ytljkobijoenabaa.dv

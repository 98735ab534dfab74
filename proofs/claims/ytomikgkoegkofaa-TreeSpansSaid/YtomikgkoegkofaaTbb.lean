import Derived.Test.YtomikgkoegkofaaTba
import Derived.Test.YtomikgkoegkofaaDvi
import Derived.Test.YtomikgkoegkofaaDvd
namespace Go.Proofs.Ytomikgkoegkofaa.dt
open Go.ChangeShapes Go.WideShapes Go.ChangeAt Go.RowKit Go.Maps Go.WideMaps Go.WideElems Go.Shelf Go.Lib Go.Proofs.Ytomikgkoegkofaa.dv
set_option linter.unusedVariables false
set_option linter.unusedSimpArgs false
/-! a symbol's name, at a plain seat -/
/-- texts in memory, below B -/
def TxtAt (B : Nat) (w : World) (v : Value) (L : List ByteArray) : Prop := ∃ ao cap, v = .slice ao L.length cap ∧ L.length ≤ maxLen ∧ ∀ i, i < L.length → ∃ a : Addr, ao = some a ∧ a.block < B ∧ w.cell? (a.add i) = some (.string (L.getD i ByteArray.empty))
theorem TxtAt.below {B : Nat} {w w' : World} {v : Value} {L : List ByteArray} (h : TxtAt B w v L) (hb : Below B w w') : TxtAt B w' v L := by
  obtain ⟨ao, cap, e, hm, hc⟩ := h
  refine ⟨ao, cap, e, hm, fun i hi => ?_⟩
  obtain ⟨a, e2, hab, hca⟩ := hc i hi
  exact ⟨a, e2, hab, (hb.cell (p := a.add i) (by rw [add_block]; exact hab)).trans hca⟩
def symB (VS TS : List ByteArray) (s : Int) : Prop := (0 ≤ s → s.toNat < VS.length) ∧ (s < 0 → (-s - 1).toNat < TS.length)
def nameB (VS TS : List ByteArray) (s : Int) : ByteArray := if 0 ≤ s then VS.getD s.toNat ByteArray.empty else ⟨#[39]⟩ ++ TS.getD (-s - 1).toNat ByteArray.empty ++ ⟨#[39]⟩
set_option maxRecDepth 100000 in
theorem isSym_any (w : World) (ta va ra : Option Addr) (tl tc vl vc rl rc : Nat) (s : Int) (h : (0 ≤ s → s.toNat < vl) ∧ (s < 0 → (-s - 1).toNat < tl)) (hs : In64 s) : Calls Try.prog 90 #[.agg #[.slice ta tl tc, .slice va vl vc, .slice ra rl rc], .int .i64 s] w fun e w' => e = .returned (.bool true) ∧ Below w.heap.size w w' := by
  have b0 := Blk.new w 25 #[.slice ta tl tc, .slice va vl vc, .slice ra rl rc]
  have c0 := b0.cell 0
  have c1 := b0.cell 1
  have c2 := b0.cell 2
  simp only [List.getElem?_toArray, List.getElem?_cons_zero, List.getElem?_cons_succ] at c0 c1 c2
  have hbl : Below w.heap.size w (w.alloc (.cells #[.slice ta tl tc, .slice va vl vc, .slice ra rl rc] 25)) := (Below.refl _ w).alloc (Nat.le_refl _) _
  have hiv := isVar_any (w.alloc (.cells #[.slice ta tl tc, .slice va vl vc, .slice ra rl rc] 25)) s
  have hx := cm_if s hs
  by_cases h0 : 0 ≤ s
  · rw [decide_eq_true h0] at hiv
    have hlt : decide (s < (vl : Int)) = true := decide_eq_true (by have := h.1 h0; omega)
    clear h
    go_enter Try.func90, Try.ntmps90
    go_wp2_with fail
    refine hiv.mono ?_
    rintro e w1 ⟨rfl, rfl⟩
    go_wp2
    go_ret
    exact ⟨by first | rfl | rw [hlt], hbl⟩
  · rw [decide_eq_false h0] at hiv
    have hlt : decide (-1 - s < (tl : Int)) = true := decide_eq_true (by have := h.2 (by omega); omega)
    clear h
    go_enter Try.func90, Try.ntmps90
    go_wp2_with fail
    refine hiv.mono ?_
    rintro e w1 ⟨rfl, rfl⟩
    go_wp2
    go_ret
    exact ⟨by first | rfl | rw [hlt], hbl⟩
theorem TxtAt.cell {B : Nat} {w : World} {a0 : Option Addr} {cap : Nat} {L : List ByteArray} (h : TxtAt B w (.slice a0 L.length cap) L) {k : Nat} (hk : k < L.length) : ∃ a : Addr, a0 = some a ∧ a.block < B ∧ w.cell? (a.add k) = some (.string (L.getD k ByteArray.empty)) := by
  obtain ⟨ao, c, e, _, hc⟩ := h
  cases e
  exact hc k hk
theorem getD_mem (L : List ByteArray) (k : Nat) (hk : k < L.length) : L.getD k ByteArray.empty ∈ L := by
  rw [List.getD_eq_getElem?_getD, List.getElem?_eq_getElem hk]
  exact List.getElem_mem _
def Short (L : List ByteArray) : Prop := ∀ x ∈ L, x.size ≤ 1000
set_option maxHeartbeats 1000000 in
set_option maxRecDepth 100000 in
theorem name_any (w : World) (B : Nat) (ta va ra : Option Addr) (tc vc rl rc : Nat) (VS TS : List ByteArray) (s : Int) (hV : TxtAt B w (.slice va VS.length vc) VS) (hT : TxtAt B w (.slice ta TS.length tc) TS) (hB : B ≤ w.heap.size) (hs : In64 s) (hsy : symB VS TS s) (hSV : Short VS) (hST : Short TS) :
    Calls Try.prog 82 #[.agg #[.slice ta TS.length tc, .slice va VS.length vc, .slice ra rl rc], .int .i64 s] w fun e w' => e = .returned (.string (nameB VS TS s)) ∧ Below w.heap.size w w' := by
  have b0 := Blk.new w 25 #[.slice ta TS.length tc, .slice va VS.length vc, .slice ra rl rc]
  have c0 := b0.cell 0
  have c1 := b0.cell 1
  have c2 := b0.cell 2
  simp only [List.getElem?_toArray, List.getElem?_cons_zero, List.getElem?_cons_succ] at c0 c1 c2
  have hbl : Below w.heap.size w (w.alloc (.cells #[.slice ta TS.length tc, .slice va VS.length vc, .slice ra rl rc] 25)) := (Below.refl _ w).alloc (Nat.le_refl _) _
  have hsym := isSym_any (w.alloc (.cells #[.slice ta TS.length tc, .slice va VS.length vc, .slice ra rl rc] 25)) ta va ra TS.length tc VS.length vc rl rc s hsy hs
  have hV1 := hV.below (hbl.mono hB)
  have hT1 := hT.below (hbl.mono hB)
  have hz : w.heap.size < (w.alloc (.cells #[.slice ta TS.length tc, .slice va VS.length vc, .slice ra rl rc] 25)).heap.size := by simp
  generalize hW0 : w.alloc (.cells #[.slice ta TS.length tc, .slice va VS.length vc, .slice ra rl rc] 25) = w0 at *
  clear hV hT
  by_cases h0 : 0 ≤ s
  · obtain ⟨k, rfl⟩ : ∃ k : Nat, s = k := ⟨s.toNat, by omega⟩
    have hk : k < VS.length := by have := hsy.1 h0; omega
    obtain ⟨a, rfl, hab, hca⟩ := hV1.cell hk
    have hnm : nameB VS TS (k : Int) = VS.getD k ByteArray.empty := by unfold nameB; rw [if_pos h0, Int.toNat_natCast]
    rw [hnm]
    generalize VS.getD k ByteArray.empty = nm at *
    have hklt : (k : Int) < (VS.length : Int) := by omega
    clear hsy hV1 hT1 hnm
    go_enter Try.func82, Try.ntmps82
    go_wp2_with fail
    refine hsym.mono ?_
    rintro e w1 ⟨rfl, hb1⟩
    have hiv := isVar_any w1 (k : Int)
    rw [decide_eq_true h0] at hiv
    have d := b0.below hb1 hz
    have d0 := d.cell 0
    have d1 := d.cell 1
    have hca1 : w1.cell? (a.add k) = some (.string nm) := (hb1.cell (p := a.add k) (by rw [add_block]; omega)).trans hca
    simp only [List.getElem?_toArray, List.getElem?_cons_zero, List.getElem?_cons_succ] at d0 d1
    have HB1 := Lib.hid (hbl.trans (hb1.mono (Nat.le_of_lt hz)))
    clear c0 c1 c2 hca hsym hbl d b0 hb1 hz
    go_wp2_with fail
    refine hiv.mono ?_
    rintro e w2 ⟨rfl, rfl⟩
    go_wp2
    go_ret
    exact ⟨rfl, HB1.out⟩
  · obtain ⟨k, rfl⟩ : ∃ k : Nat, s = -1 - (k : Int) := ⟨(-1 - s).toNat, by omega⟩
    have hk : k < TS.length := by have := hsy.2 (by omega); omega
    obtain ⟨a, rfl, hab, hca⟩ := hT1.cell hk
    have hnm : nameB VS TS (-1 - (k : Int)) = ⟨#[39]⟩ ++ TS.getD k ByteArray.empty ++ ⟨#[39]⟩ := by
      unfold nameB
      rw [if_neg h0, show (-(-1 - (k : Int)) - 1).toNat = k by omega]
    have hsz := hST _ (getD_mem TS k hk)
    have hx := cm_if _ hs
    rw [show -1 - (-1 - (k : Int)) = k by omega] at hx
    rw [hnm]
    generalize TS.getD k ByteArray.empty = nm at *
    have hklt : (k : Int) < (TS.length : Int) := by omega
    generalize hsk : -1 - (k : Int) = s at *
    clear hsy hV1 hT1 hnm hsk
    go_enter Try.func82, Try.ntmps82
    go_wp2_with fail
    refine hsym.mono ?_
    rintro e w1 ⟨rfl, hb1⟩
    have hiv := isVar_any w1 s
    rw [decide_eq_false (by omega)] at hiv
    have d := b0.below hb1 hz
    have d0 := d.cell 0
    have d1 := d.cell 1
    have hca1 : w1.cell? (a.add k) = some (.string nm) := (hb1.cell (p := a.add k) (by rw [add_block]; omega)).trans hca
    simp only [List.getElem?_toArray, List.getElem?_cons_zero, List.getElem?_cons_succ] at d0 d1
    have HB1 := Lib.hid (hbl.trans (hb1.mono (Nat.le_of_lt hz)))
    clear c0 c1 c2 hca hsym hbl d b0 hb1 hz
    go_wp2_with fail
    refine hiv.mono ?_
    rintro e w2 ⟨rfl, rfl⟩
    go_wp2
    go_ret
    exact ⟨rfl, HB1.out⟩
end Go.Proofs.Ytomikgkoegkofaa.dt

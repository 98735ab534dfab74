import Derived.Test.YtomikgkoegkofaaDwb
import Derived.Test.YtomikgkoegkofaaDwf
namespace Go.Proofs.Ytomikgkoegkofaa.dv
open Go.ChangeShapes Go.WideShapes Go.ChangeAt Go.RowKit Go.Maps Go.WideMaps Go.WideElems
set_option linter.unusedVariables false
set_option linter.unusedSimpArgs false
/-! the document's Replay and Yield -/
def RReplR (R : List Rl) (F ks : List Int) (w : World) : Ending → World → Prop := fun e w' => ∃ u, e = .returned (.tuple #[u, .int .i64 (replW R F ks 0).2.1, .int .i64 (replW R F ks 0).2.2]) ∧ ((replW R F ks 0).2.2 = 0 → RowAt w' u (replW R F ks 0).1) ∧ ((replW R F ks 0).2.2 ≠ 0 → u = .slice none 0 0) ∧ Below w.heap.size w w'
set_option maxRecDepth 100000 in
set_option maxHeartbeats 2000000 in
theorem rreplay_any (w : World) (B : Nat) (ta va : Option Addr) (tl tc vl vc : Nat) (rv v kv : Value) (R : List Rl) (F ks : List Int) (hR : RulesAt B w rv R) (hB : B ≤ w.heap.size) (h : RowAt w v F) (hk : RowAt w kv ks) (hks : ks.length ≤ 4096) (hF : F.length + 8 * ks.length ≤ 100000) (h8 : ∀ r ∈ R, r.right.length ≤ 8) :
    Calls Try.prog 22 #[.agg #[.slice ta tl tc, .slice va vl vc, rv], v, kv] w (RReplR R F ks w) := by
  have HRI := Lib.hid (rules_in hR h8)
  have HIN := Lib.hid h.ins
  have H8 := Lib.hid h8
  obtain ⟨ra, rc, rfl, hn, _⟩ := id hR
  have b0 := Blk.new w 25 #[.slice ta tl tc, .slice va vl vc, .slice ra R.length rc]
  have hbl : Below w.heap.size w (w.alloc (.cells #[.slice ta tl tc, .slice va vl vc, .slice ra R.length rc] 25)) := (Below.refl _ w).alloc (Nat.le_refl _) _
  have hR1 : RulesAt B (w.alloc (.cells #[.slice ta tl tc, .slice va vl vc, .slice ra R.length rc] 25)) (.slice ra R.length rc) R := hR.below (hbl.mono hB)
  have hF1 := h.below hbl
  have hK1 := hk.below hbl
  generalize hW0 : w.alloc (.cells #[.slice ta tl tc, .slice va vl vc, .slice ra R.length rc] 25) = w0 at *
  have hz0' : w0.heap.size = w.heap.size + 1 := by rw [← hW0]; simp
  have HR := Lib.hid hR1
  have HK := Lib.hid hK1
  have HF := Lib.hid hF1
  obtain ⟨ko, kc, rfl, hkc, hkm, _⟩ := id hk
  obtain ⟨fo, fc, rfl, hfc, hfm, _⟩ := id h
  have hkm' : kc ≤ 9223372036854775807 := by unfold maxLen at hkm; omega
  clear hR hR1 hF1 hK1 h hk h8
  go_enter Try.func22, Try.ntmps22
  go_wp2
  go_loopw [1, 9] (fun s i wr => ∃ (j : Nat) (G : List Int), j ≤ ks.length ∧ i = .int .i64 j ∧ RowAt wr s G ∧ replW R F (ks.take j) 0 = (G, 0, 0) ∧ Below (w.heap.size + 1) w0 wr) (fun _ i _ => ks.length - (intOf i).toNat)
  case atStart => exact ⟨0, F, Nat.zero_le _, rfl, HF.out, by simp [replW], Below.refl _ _⟩
  case round =>
    obtain ⟨j, G, hj, rfl, hG, heq, hbr⟩ := hrel
    have hzr := hbr.size
    have bx := b0.below hbr (by omega)
    have p0 := bx.cell 0
    have p1 := bx.cell 1
    have p2 := bx.cell 2
    simp only [List.getElem?_toArray, List.getElem?_cons_zero, List.getElem?_cons_succ] at p0 p1 p2
    by_cases hlt : j < ks.length
    · have hKr := HK.out.below (by rw [hz0']; exact hbr)
      obtain ⟨ko', kc', ek, _, _, _, _, hkc2⟩ := id hKr
      cases ek
      obtain ⟨ka, rfl, kab, kca⟩ := hkc2 j hlt
      have htk := repl_take R F G ks j hlt heq
      have hgl : G.length ≤ F.length + 8 * j ∧ ∀ n ∈ G, In64 n := by
        have := repl_in HRI.out (ks.take j) F 0 HIN.out
        rw [heq] at this
        exact ⟨by have h2 := this.2; simp at h2; omega, this.1⟩
      have hgl1 := hgl.1
      have HSI := Lib.hid (stepL_in HRI.out G (ks.getD j 0) hgl.2).1
      have hst := rstep_any wr.drew B ta va tl tc vl vc (.slice ra R.length rc) _ R G (ks.getD j 0) ((HR.out.below (hbr.mono (by omega))).below (Below.refl _ wr).drew) (by show B ≤ wr.heap.size; omega) (hG.below (Below.refl _ wr).drew) (by omega) H8.out
      have HERR := Lib.hid (repl_part_err R F ks (j + 1))
      have HTK := Lib.hid htk
      obtain ⟨go, gc, rfl, hgc, hgm, _⟩ := id hG
      clear hkc2 hKr htk heq hgl hG
      unfold StepR at hst
      generalize ks.getD j 0 = k at *
      go_wp2
      go_region_law (first
        | (go_simp; go_at_call 16; refine hst.mono ?_; rintro e w4 ⟨u, rfl, hu1, hu2, hb4⟩))
      all_goals
        have hd : Below wr.heap.size wr w4 := ((Below.refl _ wr).drew).trans hb4
        have hB4 : Below (w.heap.size + 1) w0 w4 := hbr.trans (hd.mono (by omega))
        clear hst
        by_cases hE : refW R (fvW G) k = 0
        · have ho := hu1 hE
          rw [hE]
          have HROW := Lib.hid (row_own ho rfl HSI.out)
          have HFIN := Lib.hid (show replW R F (ks.take (j + 1)) 0 = (stepL R G k, 0, 0) by rw [HTK.out, if_pos hE])
          clear hu1 hu2 ho
          go_wp2
          exact ⟨⟨j + 1, _, hlt, congrArg (Value.int .i64) (by omega), HROW.out, HFIN.out, hB4⟩, by simp only [intOf]; omega⟩
        · obtain rfl := hu2 hE
          have hA : replW R F ks 0 = ([], j, refW R (fvW G) k) := by
            have h1 := HTK.out
            rw [if_neg hE] at h1
            have h2 := HERR.out (by rw [h1]; exact hE)
            rw [h2, h1]
          have HQ : Hid (RReplR R F ks w (.returned (.tuple #[.slice none 0 0, .int .i64 j, .int .i64 (refW R (fvW G) k)])) w4) := Lib.hid (by
            unfold RReplR
            rw [hA]
            exact ⟨_, rfl, fun h => absurd h hE, fun _ => rfl, hbl.trans (hB4.mono (by omega))⟩)
          clear hu1 hu2 hA
          generalize hEE : refW R (fvW G) k = E at *
          have HEE := Lib.hid hEE
          clear hEE
          have hne2 : (E != 0) = true := by simpa using hE
          go_wp2
          refine bodyPost_ret (v := .tuple #[.slice none 0 0, .int .i64 j, .int .i64 E]) (by simp [results, Try.results22, go_sem, Act.put]) rfl ?_
          exact HQ.out
    · obtain rfl : ks.length = j := by omega
      rw [List.take_length] at heq
      have HQ : Hid (∀ s, RowAt wr s G → RReplR R F ks w (.returned (.tuple #[s, .int .i64 0, .int .i64 0])) wr) := Lib.hid (fun s hs => by
        unfold RReplR
        rw [heq]
        exact ⟨_, rfl, fun _ => hs, fun h => absurd rfl h, hbl.trans (hbr.mono (by omega))⟩)
      have HG := Lib.hid hG
      obtain ⟨go, gc, rfl, hgc, hgm, _⟩ := hG
      clear heq
      go_wp2
      refine bodyPost_ret (v := .tuple #[.slice go G.length gc, .int .i64 0, .int .i64 0]) (by simp [results, Try.results22, go_sem, Act.put]) rfl ?_
      exact HQ.out _ HG.out
set_option maxRecDepth 100000 in
set_option maxHeartbeats 2000000 in
theorem ryield_any (w : World) (B : Nat) (ta va : Option Addr) (tl tc vl vc : Nat) (rv v kv : Value) (R : List Rl) (F ks : List Int) (hR : RulesAt B w rv R) (hB : B ≤ w.heap.size) (h : RowAt w v F) (hk : RowAt w kv ks) (hks : ks.length ≤ 4096) (hF : F.length + 8 * ks.length ≤ 100000) (h8 : ∀ r ∈ R, r.right.length ≤ 8) :
    Calls Try.prog 24 #[.agg #[.slice ta tl tc, .slice va vl vc, rv], v, kv] w (YieldR R F ks w) := by
  have hlen := (repl_in (rules_in hR h8) ks F 0 h.ins).2
  obtain ⟨ra, rc, rfl, hn, _⟩ := id hR
  have b0 := Blk.new w 25 #[.slice ta tl tc, .slice va vl vc, .slice ra R.length rc]
  have c0 := b0.cell 0
  have c1 := b0.cell 1
  have c2 := b0.cell 2
  simp only [List.getElem?_toArray, List.getElem?_cons_zero, List.getElem?_cons_succ] at c0 c1 c2
  have hbl : Below w.heap.size w (w.alloc (.cells #[.slice ta tl tc, .slice va vl vc, .slice ra R.length rc] 25)) := (Below.refl _ w).alloc (Nat.le_refl _) _
  have hR1 : RulesAt B (w.alloc (.cells #[.slice ta tl tc, .slice va vl vc, .slice ra R.length rc] 25)) (.slice ra R.length rc) R := hR.below (hbl.mono hB)
  have hrep := rreplay_any _ B ta va tl tc vl vc (.slice ra R.length rc) v kv R F ks hR1 (by simp; omega) (h.below hbl) (hk.below hbl) hks hF h8
  have HQ : ∀ e, YieldR R F ks w e = YieldR R F ks w e := fun _ => rfl
  unfold RReplR at hrep
  obtain ⟨ko, kc, rfl, hkc, hkm, _⟩ := hk
  obtain ⟨fo, fc, rfl, hfc, hfm, _⟩ := h
  have hY1 : (replW R F ks 0).2.2 ≠ 0 → ∀ w', Below w.heap.size w w' → YieldR R F ks w (.returned (.tuple #[.slice none 0 0, .int .i64 (replW R F ks 0).2.2])) w' := fun hE w' hb => by
    have e : yieldW R F ks = ([], (replW R F ks 0).2.2) := by unfold yieldW; rw [if_neg hE]
    unfold YieldR
    rw [e]
    exact ⟨_, rfl, fun h => absurd h hE, fun _ => rfl, hb⟩
  have hY2 : (replW R F ks 0).2.2 = 0 → restW (replW R F ks 0).1 ≠ [] → ∀ w', Below w.heap.size w w' → YieldR R F ks w (.returned (.tuple #[.slice none 0 0, .int .i64 13])) w' := fun hE hr w' hb => by
    have e : yieldW R F ks = ([], 13) := by unfold yieldW; rw [if_pos hE, if_neg hr]
    unfold YieldR
    rw [e]
    exact ⟨_, rfl, fun h => absurd h (by decide), fun _ => rfl, hb⟩
  have hY3 : (replW R F ks 0).2.2 = 0 → restW (replW R F ks 0).1 = [] → ∀ u w', w'.ownsRow w.heap.size 3 1 u (replW R F ks 0).1.length (IV ((replW R F ks 0).1.map fun x => -1 - x)) → Below w.heap.size w w' → YieldR R F ks w (.returned (.tuple #[u, .int .i64 0])) w' := fun hE hr u w' ho hb => by
    have e : yieldW R F ks = ((replW R F ks 0).1.map fun x => -1 - x, 0) := by unfold yieldW; rw [if_pos hE, if_pos hr]
    unfold YieldR
    rw [e]
    exact ⟨_, rfl, fun _ => by rw [List.length_map]; exact ho, fun h => absurd rfl h, hb⟩
  have HY1 := Lib.hid hY1
  have HY2 := Lib.hid hY2
  have HY3 := Lib.hid hY3
  clear hR hR1 HQ hY1 hY2 hY3
  generalize replW R F ks 0 = A at *
  obtain ⟨AL, an, ae⟩ := A
  dsimp only at hrep hlen
  go_enter Try.func24, Try.ntmps24
  go_wp2_with fail
  refine hrep.mono ?_
  rintro e w1 ⟨u, rfl, hu1, hu2, hb1⟩
  have hb1' : Below w.heap.size w w1 := hbl.trans (hb1.mono (by simp))
  by_cases hE : ae = 0
  · subst hE
    have hrow := hu1 rfl
    clear hu1 hu2
    have hfi := rfirst_any w1 u AL hrow
    by_cases hr : restW AL = []
    · have e1 : idxW AL = -1 := by unfold idxW; rw [if_pos hr]
      have e2 : leadW AL = AL := by have := lead_rest AL; rwa [hr, List.append_nil] at this
      rw [e1] at hfi
      have hld := rlead_any w1 u AL hrow (by omega)
      rw [e2] at hld
      have HQ := Lib.hid (HY3.out rfl hr)
      obtain ⟨uo, uc, rfl, _⟩ := hrow
      clear HY1 HY2 HY3
      go_wp2_with fail
      refine hfi.mono ?_
      rintro e w2 ⟨rfl, rfl⟩
      go_wp2_with fail
      refine hld.mono ?_
      rintro e w3 ⟨u3, rfl, ho3, hb3⟩
      go_wp2
      refine bodyPost_ret (v := .tuple #[u3, .int .i64 0]) (by simp [results, Try.results24, go_sem, Act.put]) rfl ?_
      exact HQ.out _ _ (own_weak ho3 hb1'.size) (hb1'.trans (hb3.mono hb1'.size))
    · have e1 : idxW AL = ((leadW AL).length : Int) := by unfold idxW; rw [if_neg hr]
      rw [e1] at hfi
      have HQ := Lib.hid (HY2.out rfl hr)
      have hge : (0 : Int) ≤ ((leadW AL).length : Int) := by omega
      obtain ⟨uo, uc, rfl, _⟩ := hrow
      clear HY1 HY2 HY3
      generalize leadW AL = L at *
      go_wp2_with fail
      refine hfi.mono ?_
      rintro e w2 ⟨rfl, rfl⟩
      go_wp2
      refine bodyPost_ret (v := .tuple #[.slice none 0 0, .int .i64 13]) (by simp [results, Try.results24, go_sem, Act.put]) rfl ?_
      exact HQ.out _ hb1'
  · obtain rfl := hu2 hE
    have HQ := Lib.hid (HY1.out hE)
    have hne2 : (ae != 0) = true := by simpa using hE
    clear HY1 HY2 HY3 hu1 hu2
    go_wp2
    refine bodyPost_ret (v := .tuple #[.slice none 0 0, .int .i64 ae]) (by simp [results, Try.results24, go_sem, Act.put]) rfl ?_
    exact HQ.out _ hb1'
end Go.Proofs.Ytomikgkoegkofaa.dv

/- For any grammar, any number and any row the law LeftChecks returns true, and what it was handed reads afterwards as it did; no condition. -/
import Derived.Deep.RegionLaw
import Derived.Test.YtljkobijoenabaaMi
namespace Go.Proofs.Ytljkobijoenabaa.dv
open Go.ChangeShapes Go.WideShapes Go.ChangeAt Go.RowKit Go.Maps Go.WideMaps Go.WideElems
set_option linter.unusedVariables false
set_option linter.unusedSimpArgs false
/-! a step -/
def StepR (R : List Rl) (F : List Int) (k : Int) (w : World) : Ending → World → Prop := fun e w' => ∃ u, e = .returned (.tuple #[u, .int .i64 (refW R (fvW F) k)]) ∧ (refW R (fvW F) k = 0 → w'.ownsRow w.heap.size 3 1 u (stepL R F k).length (IV (stepL R F k))) ∧ (refW R (fvW F) k ≠ 0 → u = .slice none 0 0) ∧ Below w.heap.size w w'
set_option maxRecDepth 100000 in
set_option maxHeartbeats 1000000 in
theorem step_any (w : World) (B : Nat) (ta va : Option Addr) (tl tc vl vc : Nat) (rv v : Value) (R : List Rl) (F : List Int) (k : Int) (hR : RulesAt B w rv R) (hB : B ≤ w.heap.size) (h : RowAt w v F) (hF : F.length ≤ 1000000) (hS : (stepL R F k).length ≤ 1000000) :
    Calls Try.prog 15 #[.agg #[.slice ta tl tc, .slice va vl vc, rv], v, .int .i64 k] w (StepR R F k w) := by
  obtain ⟨ra, rc, rfl, hn, hrl⟩ := id hR
  have b0 := Blk.new w 25 #[.slice ta tl tc, .slice va vl vc, .slice ra R.length rc]
  have c0 := b0.cell 0
  have c1 := b0.cell 1
  have c2 := b0.cell 2
  simp only [List.getElem?_toArray, List.getElem?_cons_zero, List.getElem?_cons_succ] at c0 c1 c2
  have hbl : Below w.heap.size w (w.alloc (.cells #[.slice ta tl tc, .slice va vl vc, .slice ra R.length rc] 25)) := (Below.refl _ w).alloc (Nat.le_refl _) _
  have hR1 : RulesAt B (w.alloc (.cells #[.slice ta tl tc, .slice va vl vc, .slice ra R.length rc] 25)) (.slice ra R.length rc) R := hR.below (hbl.mono hB)
  have hix := index_any (w.alloc (.cells #[.slice ta tl tc, .slice va vl vc, .slice ra R.length rc] 25)) v F (h.below hbl)
  by_cases hr : restW F = []
  · have e1 : idxW F = -1 := by unfold idxW; rw [if_pos hr]
    have e2 : fvW F = -1 := by unfold fvW; rw [hr]; rfl
    have hne : refW R (fvW F) k ≠ 0 := refW_err (by rw [e2]; decide)
    have href := refusal_any (w.alloc (.cells #[.slice ta tl tc, .slice va vl vc, .slice ra R.length rc] 25)) B ta va tl tc vl vc (.slice ra R.length rc) R (-1) k hR1 (by simp; omega)
    rw [e1] at hix
    rw [← e2] at href
    have HQ : ∀ w', Below w.heap.size w w' → StepR R F k w (.returned (.tuple #[.slice none 0 0, .int .i64 (refW R (fvW F) k)])) w' := fun w' hb => ⟨_, rfl, fun h => absurd h hne, fun _ => rfl, hb⟩
    have HQ := Lib.hid HQ
    generalize hE : refW R (fvW F) k = E at *
    obtain ⟨ao, cap, rfl, _⟩ := h
    clear hR hR1 hrl
    go_enter Try.func15, Try.ntmps15
    go_wp2_with fail
    refine hix.mono ?_
    rintro e w1 ⟨rfl, rfl⟩
    rw [e2] at href
    go_wp2_with fail
    refine href.mono ?_
    rintro e w2 ⟨rfl, hb2⟩
    go_wp2
    refine bodyPost_ret (v := .tuple #[.slice none 0 0, .int .i64 E]) (by simp [results, Try.results15, go_sem]) rfl ?_
    exact HQ.out _ (hbl.trans (hb2.mono (by simp)))
  · obtain ⟨hg, hv0, hlt, hdr⟩ := rest_nth F hr
    have e1 : idxW F = ((leadW F).length : Int) := by unfold idxW; rw [if_neg hr]
    have href := refusal_any (w.alloc (.cells #[.slice ta tl tc, .slice va vl vc, .slice ra R.length rc] 25)) B ta va tl tc vl vc (.slice ra R.length rc) R (fvW F) k hR1 (by simp; omega)
    rw [e1] at hix
    obtain ⟨ao, cap, rfl, hcp, hcm, hcn, hcin, hcc⟩ := id h
    have hcm2 : cap ≤ 9223372036854775807 := by unfold maxLen at hcm; omega
    obtain ⟨a, rfl, hab, hca⟩ := hcc _ hlt
    rw [hg] at hca
    have hca1 : (w.alloc (.cells #[.slice ta tl tc, .slice va vl vc, .slice ra R.length rc] 25)).cell? (a.add (leadW F).length) = some (.int .i64 (fvW F)) := (hbl.cell (p := a.add _) (by rw [add_block]; exact hab)).trans hca
    by_cases hE : refW R (fvW F) k = 0
    · obtain ⟨hk0, hk1, _⟩ := refW_ok hE
      obtain ⟨kn, rfl⟩ : ∃ kn : Nat, k = kn := ⟨k.toNat, by omega⟩
      obtain ⟨r, hrk⟩ : ∃ r, R[kn]? = some r := ⟨_, List.getElem?_eq_getElem (by omega)⟩
      have hrw : ruleW R (kn : Int) = r.right := by simp [ruleW, List.getD_eq_getElem?_getD, hrk]
      have hst : stepL R F kn = leadW F ++ (r.right ++ (restW F).tail) := by unfold stepL; rw [hrw]
      have htk : F.take (leadW F).length = leadW F := by
        have := List.take_left (l₁ := leadW F) (l₂ := restW F)
        rwa [lead_rest] at this
      have hs1 : SrcAt w (.slice (some a) (leadW F).length cap) (leadW F) := by
        have := (h.take (leadW F).length (by omega)).src
        rwa [htk] at this
      have hs3a : cap = (leadW F).length + 1 → SrcAt w (.slice (some a) 0 0) (restW F).tail := fun hc => by
        have hl0 : (restW F).tail = [] := by rw [← hdr]; exact List.drop_eq_nil_of_le (by omega)
        rw [hl0]
        exact ⟨some a, 0, rfl, fun h => (by cases h), fun ad _ j u hj => by simp [IV] at hj⟩
      have hs3b : SrcAt w (.slice (some ⟨a.block, a.off + ((leadW F).length + 1), none⟩) (F.length - ((leadW F).length + 1)) (cap - ((leadW F).length + 1))) (restW F).tail := by
        rw [← hdr]
        have := (h.drop ((leadW F).length + 1) (by omega) a rfl).src
        rwa [show a.add ((leadW F).length + 1) = ⟨a.block, a.off + ((leadW F).length + 1), none⟩ by unfold Addr.add; rw [if_neg (by omega)]] at this
      have HST := Lib.hid hst
      have HQ : ∀ u w', w'.ownsRow w.heap.size 3 1 u (stepL R F kn).length (IV (stepL R F kn)) → Below w.heap.size w w' → StepR R F kn w (.returned (.tuple #[u, .int .i64 0])) w' := fun u w' ho hb => ⟨u, by rw [hE], fun _ => ho, fun h => absurd hE h, hb⟩
      have HQ := Lib.hid HQ
      have HR1 := Lib.hid hR1
      rw [hE] at href
      rw [hst] at hS
      have hLn := hlt
      clear hR hR1 hrl hcc hcin hdr e1 hg hv0 hst htk hrw
      generalize leadW F = L at *
      generalize fvW F = x at *
      generalize (restW F).tail = X at *
      go_enter Try.func15, Try.ntmps15
      go_wp2_with fail
      refine hix.mono ?_
      rintro e w1 ⟨rfl, rfl⟩
      go_wp2_with fail
      refine href.mono ?_
      rintro e w2 ⟨rfl, hb2⟩
      have b2 := b0.below hb2 (by simp)
      have d2 := b2.cell 2
      simp only [List.getElem?_toArray, List.getElem?_cons_zero, List.getElem?_cons_succ] at d2
      have hbe : Below w.heap.size w w2 := hbl.trans (hb2.mono (by simp))
      have hze := hbe.size
      obtain ⟨ao2, c2', e2, _, hr2⟩ := HR1.out.below (hb2.mono (by simp; omega))
      cases e2
      obtain ⟨a2, rfl, hab2, hrl2⟩ := hr2 kn r hrk
      obtain ⟨ao3, cap3, hc3, hrow3, _⟩ := hrl2.row (by omega)
      rw [add_form a2 (kn * 3) 1 (by decide)] at hc3
      have hw1 : IntKind.i64.wrap ((L.length : Int) + 1) = (L.length : Int) + 1 := by rw [IntKind.wrap_i64]; omega
      have hA0 : (0 : Int) ≤ (L.length : Int) + 1 := by omega
      have hA1 : (L.length : Int) + 1 ≤ (F.length : Int) := by omega
      go_wp2
      by_cases hcq : cap = L.length + 1
      · have hs3c := hs3a hcq
        subst hcq
        have hA : (L.length : Int) ≤ (L.length : Int) + 1 := by omega
        have hbl3 : Below w2.heap.size w2 ((w2.drew).alloc (.cells #[.slice (some a) L.length (L.length + 1), .slice ao3 r.right.length cap3, .slice (some a) 0 0] 26)) := ((Below.refl _ w2).drew).alloc (Nat.le_refl _) _
        have hcat := concat_any ((w2.drew).alloc (.cells #[.slice (some a) L.length (L.length + 1), .slice ao3 r.right.length cap3, .slice (some a) 0 0] 26)) ⟨w2.heap.size, 0, none⟩ 3 _ [L, r.right, X] (rows_three (Blk.new w2.drew _ _) ((hs1.below hbe).below hbl3) (hrow3.src.below hbl3) ((hs3c.below hbe).below hbl3)) (by simpa using hS) (by simp)
        clear hs1 hs3a hs3b hs3c hrow3 hrl2 hr2
        go_region_law (first | (go_simp; go_at_call 47; refine hcat.mono ?_; rintro e w3 ⟨v, rfl, ho3, hb3⟩))
        all_goals
          go_wp2
          have ho4 : w3.ownsRow w.heap.size 3 1 v (stepL R F kn).length (IV (stepL R F kn)) := by
            have := own_weak (base' := w.heap.size) ho3 (by have := hbl3.size; omega)
            rw [HST.out]
            simpa using this
          refine bodyPost_ret (v := .tuple #[v, .int .i64 0]) (by simp [results, Try.results15, go_sem, Act.put]) rfl ?_
          exact HQ.out v _ ho4 ((hbe.trans (hbl3.mono hze)).trans (hb3.mono (by have := hbl3.size; omega)))
      · have hA : (L.length : Int) ≤ (cap : Int) := by omega
        have hbl3 : Below w2.heap.size w2 ((w2.drew).alloc (.cells #[.slice (some a) L.length cap, .slice ao3 r.right.length cap3, .slice (some ⟨a.block, a.off + (L.length + 1), none⟩) (F.length - (L.length + 1)) (cap - (L.length + 1))] 26)) := ((Below.refl _ w2).drew).alloc (Nat.le_refl _) _
        have hcat := concat_any ((w2.drew).alloc (.cells #[.slice (some a) L.length cap, .slice ao3 r.right.length cap3, .slice (some ⟨a.block, a.off + (L.length + 1), none⟩) (F.length - (L.length + 1)) (cap - (L.length + 1))] 26)) ⟨w2.heap.size, 0, none⟩ 3 _ [L, r.right, X] (rows_three (Blk.new w2.drew _ _) ((hs1.below hbe).below hbl3) (hrow3.src.below hbl3) ((hs3b.below hbe).below hbl3)) (by simpa using hS) (by simp)
        clear hs1 hs3a hs3b hrow3 hrl2 hr2
        go_region_law (first | (go_simp; go_at_call 47; refine hcat.mono ?_; rintro e w3 ⟨v, rfl, ho3, hb3⟩))
        all_goals
          go_wp2
          have ho4 : w3.ownsRow w.heap.size 3 1 v (stepL R F kn).length (IV (stepL R F kn)) := by
            have := own_weak (base' := w.heap.size) ho3 (by have := hbl3.size; omega)
            rw [HST.out]
            simpa using this
          refine bodyPost_ret (v := .tuple #[v, .int .i64 0]) (by simp [results, Try.results15, go_sem, Act.put]) rfl ?_
          exact HQ.out v _ ho4 ((hbe.trans (hbl3.mono hze)).trans (hb3.mono (by have := hbl3.size; omega)))
    · have HQ : ∀ w', Below w.heap.size w w' → StepR R F k w (.returned (.tuple #[.slice none 0 0, .int .i64 (refW R (fvW F) k)])) w' := fun w' hb => ⟨_, rfl, fun h => absurd h hE, fun _ => rfl, hb⟩
      have HQ := Lib.hid HQ
      generalize refW R (fvW F) k = E at *
      clear hR hR1 hrl hcc hcin hdr e1 hg hv0
      generalize leadW F = L at *
      generalize fvW F = x at *
      go_enter Try.func15, Try.ntmps15
      go_wp2_with fail
      refine hix.mono ?_
      rintro e w1 ⟨rfl, rfl⟩
      go_wp2_with fail
      refine href.mono ?_
      rintro e w2 ⟨rfl, hb2⟩
      go_wp2
      refine bodyPost_ret (v := .tuple #[.slice none 0 0, .int .i64 E]) (by simp [results, Try.results15, go_sem]) rfl ?_
      exact HQ.out _ (hbl.trans (hb2.mono (by simp)))
end Go.Proofs.Ytljkobijoenabaa.dv
namespace Go.Proofs.Ytljkobijoenabaa.dv
open Go.ChangeShapes Go.WideShapes Go.ChangeAt Go.RowKit Go.Maps Go.WideMaps Go.WideElems
set_option linter.unusedVariables false
set_option linter.unusedSimpArgs false
/-! the document's First and Lead -/
set_option maxRecDepth 100000 in
set_option maxHeartbeats 1000000 in
theorem rfirst_any (w : World) (v : Value) (F : List Int) (h : RowAt w v F) : Calls Try.prog 20 #[v] w fun e w' => e = .returned (.int .i64 (idxW F)) ∧ w' = w := by
  obtain ⟨ao, cap, rfl, hl, hm, hn, hin, hc⟩ := h
  have hlen : F.length ≤ 9223372036854775807 := by unfold maxLen at hm; omega
  have HC := Lib.hid hc
  clear hc hin
  go_enter Try.func20, Try.ntmps20
  go_wp2
  go_loopw [3] (fun q wr => ∃ k : Nat, k ≤ F.length ∧ q = .int .i64 k ∧ (∀ i, i < k → F.getD i 0 < 0) ∧ wr = w) (fun q _ => F.length - (intOf q).toNat)
  case atStart => exact ⟨0, Nat.zero_le _, rfl, fun i hi => absurd hi (Nat.not_lt_zero _), rfl⟩
  case round =>
    obtain ⟨k, hk, rfl, hneg, rfl⟩ := hrel
    have HN := Lib.hid hneg
    clear hneg
    by_cases hlt : k < F.length
    · obtain ⟨a, rfl, hab, hca⟩ := HC.out k hlt
      by_cases hv : 0 ≤ F.getD k 0
      · have hid := (idx_at F k hlt HN.out hv).1
        have HI := Lib.hid hid
        clear hid
        generalize F.getD k 0 = x at *
        go_wp2
        go_ret
        exact ⟨by rw [HI.out]; rfl, rfl⟩
      · have hmo : ∀ i, i < k + 1 → F.getD i 0 < 0 := fun i hi => by
          rcases Nat.lt_or_ge i k with h | h
          · exact HN.out i h
          · obtain rfl : i = k := by omega
            omega
        have HM := Lib.hid hmo
        clear hmo
        generalize F.getD k 0 = x at *
        go_wp2
        exact ⟨⟨k + 1, hlt, congrArg (Value.int .i64) (by omega), HM.out, trivial⟩, by simp only [intOf]; omega⟩
    · obtain rfl : k = F.length := by omega
      have hid := (idx_none F HN.out).1
      have HI := Lib.hid hid
      clear hid
      go_wp2
      go_ret
      exact ⟨by rw [HI.out]; rfl, rfl⟩
theorem lead_atW (F : List Int) (k : Nat) (hk : k ≤ F.length) (h : ∀ i, i < k → F.getD i 0 < 0) (he : k = F.length ∨ 0 ≤ F.getD k 0) : leadW F = F.take k := by
  rcases Nat.lt_or_ge k F.length with hlt | hge
  · exact (idx_at F k hlt h (by rcases he with h | h; omega; exact h)).2.1
  · obtain rfl : k = F.length := by omega
    rw [List.take_length]
    exact (idx_none F h).2.1
theorem iv_snoc' (xs : List Int) (f : Int → Int) (j : Nat) (h : j < xs.length) : IV ((xs.take j).map f) ++ IV [f (xs.getD j 0)] = IV ((xs.take (j + 1)).map f) := by
  rw [List.take_succ_eq_append_getElem h, List.getD_eq_getElem?_getD, List.getElem?_eq_getElem h]
  simp only [IV, List.map_append, List.map_cons, List.map_nil, Option.getD_some]
set_option maxRecDepth 100000 in
set_option maxHeartbeats 1000000 in
theorem rlead_any (w : World) (v : Value) (F : List Int) (h : RowAt w v F) (hF : F.length ≤ 1000000) : Calls Try.prog 19 #[v] w fun e w' => ∃ u, e = .returned u ∧ w'.ownsRow w.heap.size 3 1 u (leadW F).length (IV ((leadW F).map fun x => -1 - x)) ∧ Below w.heap.size w w' := by
  obtain ⟨i0, hi, hz0, hz1, hz2⟩ := info_parts info_int
  obtain ⟨ao, cap, rfl, hl, hm, hn, hin, hc⟩ := h
  have HC := Lib.hid hc
  have HIN := Lib.hid hin
  clear hc hin
  go_enter Try.func19, Try.ntmps19
  go_wp2
  go_loopw [3, 4] (fun z i wr => ∃ k : Nat, k ≤ F.length ∧ i = .int .i64 k ∧ (∀ i, i < k → F.getD i 0 < 0) ∧ wr.ownsRow w.heap.size 3 1 z k (IV ((F.take k).map fun x => -1 - x)) ∧ Below w.heap.size w wr) (fun _ i _ => F.length - (intOf i).toNat)
  case atStart => exact ⟨0, Nat.zero_le _, rfl, fun i hi => absurd hi (Nat.not_lt_zero _), World.ownsRow_lit w #[] 0 (Nat.le_refl _) (by decide) rfl, (Below.refl _ _).alloc (Nat.le_refl _) _⟩
  case round =>
    obtain ⟨k, hk, rfl, hneg, hown, hbr⟩ := hrel
    have HN := Lib.hid hneg
    clear hneg
    have hzr := hbr.size
    have HOW := Lib.hid hown
    have HQ : ∀ u, (k = F.length ∨ 0 ≤ F.getD k 0) → wr.ownsRow w.heap.size 3 1 u k (IV ((F.take k).map fun x => -1 - x)) → wr.ownsRow w.heap.size 3 1 u (leadW F).length (IV ((leadW F).map fun x => -1 - x)) := fun u he ho => by
      rw [lead_atW F k hk HN.out he, List.length_take, Nat.min_eq_left hk]
      exact ho
    have HQ := Lib.hid HQ
    by_cases hlt : k < F.length
    · obtain ⟨a, rfl, hab, hca⟩ := HC.out k hlt
      have hca2 : wr.cell? (a.add k) = some (.int .i64 (F.getD k 0)) := (hbr.cell (p := a.add k) (by rw [add_block]; exact hab)).trans hca
      have hlt' : (k : Int) < (F.length : Int) := by omega
      by_cases hv : 0 ≤ F.getD k 0
      · have HE := Lib.hid (HQ.out _ (.inr hv) hown)
        have hnl : (decide (F.getD k 0 < 0)) = false := by simpa using hv
        generalize F.getD k 0 = x at *
        clear hown hca
        go_wp2
        go_ret
        exact ⟨_, rfl, HE.out, hbr⟩
      · have hmo : ∀ i, i < k + 1 → F.getD i 0 < 0 := fun i hi => by
          rcases Nat.lt_or_ge i k with h | h
          · exact HN.out i h
          · obtain rfl : i = k := by omega
            omega
        have HM := Lib.hid hmo
        have hnum := HIN.out (F.getD k 0) (by rw [List.getD_eq_getElem?_getD, List.getElem?_eq_getElem hlt]; simp)
        have hst := iv_snoc' F (fun x => -1 - x) k hlt
        have HS := Lib.hid hst
        have hcm := cm_if (F.getD k 0) hnum
        clear hmo hst hca HQ
        generalize F.getD k 0 = x at *
        generalize (F.take k).map (fun x => -1 - x) = L at *
        go_wp2_with (at_builtin; go_loud (refine wpList_append_own _ rfl _ _ 26 rfl w.heap.size 3 i0 (.int .i64 0) 1 8 Try.underlying26 hi hz0 hz1 hz2 rfl (by decide) _ _ _ rfl (hown.alloc _) ⟨wr.heap.size, 0, none⟩ 1 1 (IV [-1 - x]) rfl rfl (cell_one_new _ _ _) (by intro u hu; simp [IV] at hu; subst hu; rfl) (by unfold maxLen; omega) (by omega) (by simp; omega) ?_); intro v' w2 hown' hgrow _)
        have hb2 : Below w.heap.size w w2 := (hbr.alloc hzr _).grown hgrow (by simp; omega) (fun j hj => (HOW.out.lt j hj).1)
        have hown2 : w2.ownsRow w.heap.size 3 1 v' (k + 1) (IV L ++ IV [-1 - x]) := hown'
        rw [HS.out] at hown2
        exact ⟨⟨k + 1, hlt, congrArg (Value.int .i64) (by omega), HM.out, hown2, hb2⟩, by simp only [intOf]; omega⟩
    · obtain rfl : k = F.length := by omega
      have HE := Lib.hid (HQ.out _ (.inl rfl) hown)
      clear hown
      go_wp2
      go_ret
      exact ⟨_, rfl, HE.out, hbr⟩
end Go.Proofs.Ytljkobijoenabaa.dv
namespace Go.Proofs.Ytljkobijoenabaa.dv
open Go.ChangeShapes Go.WideShapes Go.ChangeAt Go.RowKit Go.Maps Go.WideMaps Go.WideElems
set_option linter.unusedVariables false
set_option linter.unusedSimpArgs false
/-! the document's Step -/
def outW (L r F : List Int) (j : Nat) : List Int := if j ≤ L.length then F.take j else L ++ (r ++ (F.drop (L.length + 1)).take (j - (L.length + 1)))
theorem out_one (L r F : List Int) (j : Nat) (hL : F.take L.length = L) (hj : j < F.length) (hne : j ≠ L.length) : outW L r F (j + 1) = outW L r F j ++ [F.getD j 0] := by
  have hg : F.getD j 0 = F[j] := by rw [List.getD_eq_getElem?_getD, List.getElem?_eq_getElem hj]; rfl
  unfold outW
  rcases Nat.lt_or_gt_of_ne hne with h | h
  · rw [if_pos (by omega), if_pos (by omega), List.take_succ_eq_append_getElem hj, hg]
  · rw [if_neg (by omega), if_neg (by omega)]
    obtain ⟨m, rfl⟩ : ∃ m, j = L.length + 1 + m := ⟨j - (L.length + 1), by omega⟩
    have e1 : L.length + 1 + m + 1 - (L.length + 1) = m + 1 := by omega
    have e2 : L.length + 1 + m - (L.length + 1) = m := by omega
    rw [e1, e2, List.take_succ_eq_append_getElem (by simp; omega), hg]
    simp [List.getElem_drop]
theorem out_mid (L r F : List Int) (hL : F.take L.length = L) : outW L r F (L.length + 1) = outW L r F L.length ++ r := by
  unfold outW
  rw [if_pos (Nat.le_refl _), if_neg (by omega), Nat.sub_self, List.take_zero, List.append_nil, hL]
theorem out_end (L r F : List Int) (h : L.length < F.length) : outW L r F F.length = L ++ (r ++ F.drop (L.length + 1)) := by
  unfold outW
  rw [if_neg (by omega), List.take_of_length_le (by simp)]
theorem out_len (L r F : List Int) (j : Nat) (hj : j ≤ F.length) : (outW L r F j).length ≤ F.length + L.length + r.length := by
  unfold outW
  split
  · simp; omega
  · simp; omega
theorem one_iv (l : List Int) : ∀ u ∈ IV l, u.oneCell' = true := by
  intro u hu
  simp [IV] at hu
  obtain ⟨q, _, rfl⟩ := hu
  rfl
theorem refW_of {R : List Rl} {v : Int} {k : Nat} {r : Rl} (h : R[k]? = some r) (hv : 0 ≤ v) : refW R v k = if r.left = v then 0 else 14 := by
  have hk : k < R.length := (List.getElem?_eq_some_iff.1 h).1
  have hi : isRl R (k : Int) = true := by simp [isRl]; omega
  unfold refW
  rw [if_pos hi, if_pos hv]
  simp [List.getD_eq_getElem?_getD, h]
theorem refW_out {R : List Rl} {v k : Int} (h : ¬ (0 ≤ k ∧ k < R.length)) : refW R v k = 12 := by
  unfold refW
  rw [if_neg]
  simpa [isRl] using h
theorem refW_end {R : List Rl} {v k : Int} (h1 : 0 ≤ k) (h2 : k < R.length) (hv : ¬ 0 ≤ v) : refW R v k = 13 := by
  unfold refW
  rw [if_pos (by simp [isRl]; omega), if_neg hv]
set_option maxRecDepth 100000 in
set_option maxHeartbeats 2000000 in
theorem rstep_any (w : World) (B : Nat) (ta va : Option Addr) (tl tc vl vc : Nat) (rv v : Value) (R : List Rl) (F : List Int) (k : Int) (hR : RulesAt B w rv R) (hB : B ≤ w.heap.size) (h : RowAt w v F) (hF : F.length ≤ 100000) (h8 : ∀ r ∈ R, r.right.length ≤ 8) :
    Calls Try.prog 16 #[.agg #[.slice ta tl tc, .slice va vl vc, rv], v, .int .i64 k] w (StepR R F k w) := by
  obtain ⟨i0, hi, hz0, hz1, hz2⟩ := info_parts info_int
  obtain ⟨ra, rc, rfl, hn, hrl⟩ := id hR
  have b0 := Blk.new w 25 #[.slice ta tl tc, .slice va vl vc, .slice ra R.length rc]
  have hbl : Below w.heap.size w (w.alloc (.cells #[.slice ta tl tc, .slice va vl vc, .slice ra R.length rc] 25)) := (Below.refl _ w).alloc (Nat.le_refl _) _
  have hR1 : RulesAt B (w.alloc (.cells #[.slice ta tl tc, .slice va vl vc, .slice ra R.length rc] 25)) (.slice ra R.length rc) R := hR.below (hbl.mono hB)
  have hF1 := h.below hbl
  have hfi := rfirst_any (w.alloc (.cells #[.slice ta tl tc, .slice va vl vc, .slice ra R.length rc] 25)) v F hF1
  generalize hW0 : w.alloc (.cells #[.slice ta tl tc, .slice va vl vc, .slice ra R.length rc] 25) = w0 at *
  have hz0' : w0.heap.size = w.heap.size + 1 := by rw [← hW0]; simp
  have c0 := b0.cell 0
  have c1 := b0.cell 1
  have c2 := b0.cell 2
  simp only [List.getElem?_toArray, List.getElem?_cons_zero, List.getElem?_cons_succ] at c0 c1 c2
  have hn' : R.length ≤ 9223372036854775807 := by unfold maxLen at hn; omega
  have HERR : ∀ E, E ≠ 0 → refW R (fvW F) k = E → StepR R F k w (.returned (.tuple #[.slice none 0 0, .int .i64 E])) w0 := fun E hE he => ⟨_, by rw [he], fun h => absurd (he ▸ h) hE, fun _ => rfl, hbl⟩
  have HERR := Lib.hid HERR
  by_cases hk : 0 ≤ k ∧ k < R.length
  · obtain ⟨hk0, hk1⟩ := hk
    obtain ⟨kn, rfl⟩ : ∃ kn : Nat, k = kn := ⟨k.toNat, by omega⟩
    by_cases hr : restW F = []
    · have e1 : idxW F = -1 := by unfold idxW; rw [if_pos hr]
      have e2 : fvW F = -1 := by unfold fvW; rw [hr]; rfl
      have hQ := HERR.out 13 (by decide) (refW_end hk0 hk1 (by rw [e2]; decide))
      have HQ := Lib.hid hQ
      rw [e1] at hfi
      obtain ⟨ao, cap, rfl, _⟩ := h
      clear hR hrl hR1 hF1 hQ
      go_enter Try.func16, Try.ntmps16
      go_wp2_with fail
      refine hfi.mono ?_
      rintro e w1 ⟨rfl, rfl⟩
      go_wp2
      refine bodyPost_ret (v := .tuple #[.slice none 0 0, .int .i64 13]) (by simp [results, Try.results16, go_sem, Act.put]) rfl ?_
      exact HQ.out
    · obtain ⟨hg, hv0, hlt, hdr⟩ := rest_nth F hr
      have e1 : idxW F = ((leadW F).length : Int) := by unfold idxW; rw [if_neg hr]
      rw [e1] at hfi
      obtain ⟨r, hrk⟩ : ∃ r, R[kn]? = some r := ⟨_, List.getElem?_eq_getElem (by omega)⟩
      have href := refW_of hrk hv0
      obtain ⟨ao, cap, rfl, hcp, hcm, hcn, hcin, hcc⟩ := id hF1
      have hcm2 : cap ≤ 9223372036854775807 := by unfold maxLen at hcm; omega
      have HCC := Lib.hid hcc
      have HCIN := Lib.hid hcin
      obtain ⟨a, rfl, hab, hca⟩ := hcc _ hlt
      rw [hg] at hca
      obtain ⟨ra', rc', er, _, hr2⟩ := id hR1
      cases er
      obtain ⟨a2, rfl, hab2, hrl2⟩ := hr2 kn r hrk
      have hl1 := hrl2.choose_spec.choose_spec.1
      have hl1' : w0.cell? (a2.add (kn * 3)) = some (.int .i64 r.left) := hl1
      have htk : F.take (leadW F).length = leadW F := by
        have := List.take_left (l₁ := leadW F) (l₂ := restW F)
        rwa [lead_rest] at this
      by_cases hE : r.left = fvW F
      · rw [if_pos hE] at href
        have hr8 := h8 r (List.mem_of_getElem? hrk)
        have hrow := hrl2.row (w := w0) (by omega)
        have HROW := Lib.hid hrow
        have hQ : ∀ u w', w'.ownsRow (w.heap.size + 1) 3 1 u (outW (leadW F) r.right F F.length).length (IV (outW (leadW F) r.right F F.length)) → Below (w.heap.size + 1) w0 w' → StepR R F kn w (.returned (.tuple #[u, .int .i64 0])) w' := fun u w' ho hb => by
          have hs : stepL R F kn = outW (leadW F) r.right F F.length := by
            rw [out_end _ _ _ hlt, hdr]
            unfold stepL ruleW
            simp [List.getD_eq_getElem?_getD, hrk]
          exact ⟨u, by rw [href], fun _ => by rw [hs]; exact own_weak ho (by omega), fun h => absurd href h, hbl.trans (hb.mono (by omega))⟩
        have HQ := Lib.hid hQ
        have hO1 := fun j h1 h2 => out_one (leadW F) r.right F j htk h1 h2
        have hO2 := out_mid (leadW F) r.right F htk
        have hO3 := fun j h1 => out_len (leadW F) r.right F j h1
        have HO1 := Lib.hid hO1
        have HO2 := Lib.hid hO2
        have HO3 := Lib.hid hO3
        rw [hE] at hl1'
        clear hR hrl hR1 hF1 hQ hO1 hO2 hO3 h hcc hcin hr2 hrl2 hrow hl1 HERR href h8 hdr htk hg
        generalize r.right = X at *
        generalize leadW F = L at *
        generalize fvW F = x at *
        have hkf : decide ((kn : Int) < 0) = false := decide_eq_false (by omega)
        have hLf : decide ((L.length : Int) < 0) = false := decide_eq_false (by omega)
        have hRf : decide (R.length ≤ kn) = false := decide_eq_false (by omega)
        go_enter Try.func16, Try.ntmps16
        go_wp2_with fail
        refine hfi.mono ?_
        rintro e w1 ⟨rfl, rfl⟩
        go_wp2
        go_quiet (fail)
        go_wp2
        have bx0 : Below (w.heap.size + 1) w1 ((w1.drewN nq).alloc (.cells #[] 3)) := (below_drewN (Below.refl _ _) nq).alloc (by show w.heap.size + 1 ≤ w1.heap.size; omega) _
        have hw2 : (w1.drewN nq).heap.size = w.heap.size + 1 := hz0'
        have own0 : ((w1.drewN nq).alloc (.cells #[] 3)).ownsRow (w.heap.size + 1) 3 1 (.slice (some ⟨w.heap.size + 1, 0, none⟩) 0 0) 0 [] := by
          have := World.ownsRow_lit (base := w.heap.size + 1) (e := 3) (size := 1) (w1.drewN nq) #[] 0 (by omega) (by decide) rfl
          rw [hw2] at this
          exact this
        have hfl : F.length ≤ 9223372036854775807 := by omega
        clear hW0
        go_loopw [9, 10] (fun z i wr => ∃ j : Nat, j ≤ F.length ∧ i = .int .i64 j ∧ wr.ownsRow (w.heap.size + 1) 3 1 z (outW L X F j).length (IV (outW L X F j)) ∧ Below (w.heap.size + 1) w1 wr) (fun _ i _ => F.length - (intOf i).toNat)
        case atStart =>
          refine ⟨0, Nat.zero_le _, rfl, ?_, bx0⟩
          have e0 : outW L X F 0 = [] := by unfold outW; rw [if_pos (Nat.zero_le _)]; rfl
          rw [e0]
          exact own0
        case round =>
          obtain ⟨j, hj, rfl, hown, hbr⟩ := hrel
          clear bx0 own0 hw2
          have hzr := hbr.size
          have HOW := Lib.hid hown
          have hbr' : Below w1.heap.size w1 wr := by rw [hz0']; exact hbr
          by_cases hlt2 : j < F.length
          · have hle := HO3.out j hj
            by_cases hjl : j = L.length
            · subst hjl
              have bx := b0.below hbr (by omega)
              have d2 := bx.cell 2
              simp only [List.getElem?_toArray, List.getElem?_cons_zero, List.getElem?_cons_succ] at d2
              obtain ⟨ao3, cap3, hc3, hrow3, _⟩ := HROW.out
              rw [add_form a2 (kn * 3) 1 (by decide)] at hc3
              have hc4 : wr.cell? ⟨(a2.add (kn * 3)).block, (a2.add (kn * 3)).off + 1, none⟩ = some (.slice ao3 X.length cap3) := (hbr.cell (by show (a2.add (kn * 3)).block < _; rw [add_block]; omega)).trans hc3
              obtain ⟨_, _, es, hs1, hs2⟩ := hrow3.src.below hbr'
              cases es
              have HS2 := Lib.hid hs2
              have HN2 := Lib.hid HO2.out
              clear hs2 hrow3 hc3 c2 hbr'
              generalize outW L X F L.length = Z at *
              go_wp2_with (at_builtin; go_must (refine wpList_append_src rfl _ _ 26 rfl (w.heap.size + 1) 3 i0 (.int .i64 0) 1 8 Try.underlying26 hi hz0 hz1 hz2 rfl (by decide) _ _ _ rfl hown ao3 X.length cap3 (IV X) rfl (by simp [IV]) hs1 (fun ad had j u hj => (HS2.out ad had j u hj).2) (one_iv X) (by unfold maxLen; omega) (by omega) (by omega) ?_); intro v' w2 hown' hgrow)
              have hb2 : Below (w.heap.size + 1) w1 w2 := hbr.grown hgrow (by omega) (fun j hj => (HOW.out.lt j hj).1)
              go_wp2
              refine ⟨⟨L.length + 1, by omega, congrArg (Value.int .i64) (by omega), ?_, hb2⟩, by simp only [intOf]; omega⟩
              rw [HN2.out, List.length_append]
              unfold IV at hown' ⊢
              rw [List.map_append]
              exact hown'
            · obtain ⟨a', ea, hab', hca'⟩ := HCC.out j hlt2
              cases ea
              have hc4 : wr.cell? (a.add j) = some (.int .i64 (F.getD j 0)) := (hbr'.cell (p := a.add j) (by rw [add_block]; exact hab')).trans hca'
              have HN2 := Lib.hid (HO1.out j hlt2 hjl)
              clear hca' hbr'
              generalize F.getD j 0 = y at *
              generalize outW L X F j = Z at *
              go_wp2_with (at_builtin; go_must (refine wpList_append_own _ rfl _ _ 26 rfl (w.heap.size + 1) 3 i0 (.int .i64 0) 1 8 Try.underlying26 hi hz0 hz1 hz2 rfl (by decide) _ _ _ rfl (hown.alloc _) ⟨wr.heap.size, 0, none⟩ 1 1 (IV [y]) rfl rfl (cell_one_new _ _ _) (one_iv [y]) (by unfold maxLen; omega) (by omega) (by simp; omega) ?_); intro v' w2 hown' hgrow _)
              have hb2 : Below (w.heap.size + 1) w1 w2 := (hbr.alloc (by omega) _).grown hgrow (by simp; omega) (fun j hj => (HOW.out.lt j hj).1)
              go_wp2
              refine ⟨⟨j + 1, by omega, congrArg (Value.int .i64) (by omega), ?_, hb2⟩, by simp only [intOf]; omega⟩
              rw [HN2.out, List.length_append]
              unfold IV at hown' ⊢
              rw [List.map_append]
              exact hown'
          · obtain rfl : F.length = j := by omega
            clear hown
            go_wp2
            refine bodyPost_ret (v := .tuple #[_, .int .i64 0]) (by simp [results, Try.results16, go_sem, Act.put]; rfl) rfl ?_
            exact HQ.out _ _ HOW.out hbr
      · rw [if_neg hE] at href
        have hQ : ∀ w', Below w.heap.size w w' → StepR R F kn w (.returned (.tuple #[.slice none 0 0, .int .i64 14])) w' := fun w' hb => ⟨_, by rw [href], fun h => absurd (href.symm.trans h) (by decide), fun _ => rfl, hb⟩
        have HQ := Lib.hid hQ
        have hne : (r.left != fvW F) = true := by simpa using hE
        clear hR hrl hR1 hF1 hQ h hcc hcin hr2 hrl2 hl1 HERR href h8 hdr htk hg
        generalize r.left = y at *
        generalize leadW F = L at *
        generalize fvW F = x at *
        go_enter Try.func16, Try.ntmps16
        go_wp2_with fail
        refine hfi.mono ?_
        rintro e w1 ⟨rfl, rfl⟩
        go_wp2
        go_quiet (fail)
        go_wp2
        refine bodyPost_ret (v := .tuple #[.slice none 0 0, .int .i64 14]) (by simp [results, Try.results16, go_sem, Act.put]) rfl ?_
        exact HQ.out _ (below_drewN hbl nq)
  · have hQ := HERR.out 12 (by decide) (refW_out hk)
    have HQ := Lib.hid hQ
    obtain ⟨ao, cap, rfl, _⟩ := h
    clear hR hrl hR1 hF1 hQ
    by_cases hk0 : k < 0
    · go_enter Try.func16, Try.ntmps16
      go_wp2_with fail
      refine hfi.mono ?_
      rintro e w1 ⟨rfl, rfl⟩
      go_wp2
      refine bodyPost_ret (v := .tuple #[.slice none 0 0, .int .i64 12]) (by simp [results, Try.results16, go_sem, Act.put]) rfl ?_
      exact HQ.out
    · have hk1 : (R.length : Int) ≤ k := by omega
      go_enter Try.func16, Try.ntmps16
      go_wp2_with fail
      refine hfi.mono ?_
      rintro e w1 ⟨rfl, rfl⟩
      go_wp2
      refine bodyPost_ret (v := .tuple #[.slice none 0 0, .int .i64 12]) (by simp [results, Try.results16, go_sem, Act.put]) rfl ?_
      exact HQ.out
end Go.Proofs.Ytljkobijoenabaa.dv
namespace Go.Proofs.Ytljkobijoenabaa.dv
open Go.ChangeShapes Go.WideShapes Go.ChangeAt Go.RowKit Go.Maps Go.WideMaps Go.WideElems
set_option linter.unusedVariables false
set_option linter.unusedSimpArgs false
/-! the document's Replay and Yield -/
def RReplR (R : List Rl) (F ks : List Int) (w : World) : Ending → World → Prop := fun e w' => ∃ u, e = .returned (.tuple #[u, .int .i64 (replW R F ks 0).2.1, .int .i64 (replW R F ks 0).2.2]) ∧ ((replW R F ks 0).2.2 = 0 → RowAt w' u (replW R F ks 0).1) ∧ ((replW R F ks 0).2.2 ≠ 0 → u = .slice none 0 0) ∧ Below w.heap.size w w'
set_option maxRecDepth 100000 in
set_option maxHeartbeats 2000000 in
theorem rreplay_any (w : World) (B : Nat) (ta va : Option Addr) (tl tc vl vc : Nat) (rv v kv : Value) (R : List Rl) (F ks : List Int) (hR : RulesAt B w rv R) (hB : B ≤ w.heap.size) (h : RowAt w v F) (hk : RowAt w kv ks) (hks : ks.length ≤ 4096) (hF : F.length + 8 * ks.length ≤ 100000) (h8 : ∀ r ∈ R, r.right.length ≤ 8) :
    Calls Try.prog 22 #[.agg #[.slice ta tl tc, .slice va vl vc, rv], v, kv] w (RReplR R F ks w) := by
  have HRI := Lib.hid (rules_in hR h8)
  have HIN := Lib.hid h.ins
  have H8 := Lib.hid h8
  obtain ⟨ra, rc, rfl, hn, _⟩ := id hR
  have b0 := Blk.new w 25 #[.slice ta tl tc, .slice va vl vc, .slice ra R.length rc]
  have hbl : Below w.heap.size w (w.alloc (.cells #[.slice ta tl tc, .slice va vl vc, .slice ra R.length rc] 25)) := (Below.refl _ w).alloc (Nat.le_refl _) _
  have hR1 : RulesAt B (w.alloc (.cells #[.slice ta tl tc, .slice va vl vc, .slice ra R.length rc] 25)) (.slice ra R.length rc) R := hR.below (hbl.mono hB)
  have hF1 := h.below hbl
  have hK1 := hk.below hbl
  generalize hW0 : w.alloc (.cells #[.slice ta tl tc, .slice va vl vc, .slice ra R.length rc] 25) = w0 at *
  have hz0' : w0.heap.size = w.heap.size + 1 := by rw [← hW0]; simp
  have HR := Lib.hid hR1
  have HK := Lib.hid hK1
  have HF := Lib.hid hF1
  obtain ⟨ko, kc, rfl, hkc, hkm, _⟩ := id hk
  obtain ⟨fo, fc, rfl, hfc, hfm, _⟩ := id h
  have hkm' : kc ≤ 9223372036854775807 := by unfold maxLen at hkm; omega
  clear hR hR1 hF1 hK1 h hk h8
  go_enter Try.func22, Try.ntmps22
  go_wp2
  go_loopw [1, 9] (fun s i wr => ∃ (j : Nat) (G : List Int), j ≤ ks.length ∧ i = .int .i64 j ∧ RowAt wr s G ∧ replW R F (ks.take j) 0 = (G, 0, 0) ∧ Below (w.heap.size + 1) w0 wr) (fun _ i _ => ks.length - (intOf i).toNat)
  case atStart => exact ⟨0, F, Nat.zero_le _, rfl, HF.out, by simp [replW], Below.refl _ _⟩
  case round =>
    obtain ⟨j, G, hj, rfl, hG, heq, hbr⟩ := hrel
    have hzr := hbr.size
    have bx := b0.below hbr (by omega)
    have p0 := bx.cell 0
    have p1 := bx.cell 1
    have p2 := bx.cell 2
    simp only [List.getElem?_toArray, List.getElem?_cons_zero, List.getElem?_cons_succ] at p0 p1 p2
    by_cases hlt : j < ks.length
    · have hKr := HK.out.below (by rw [hz0']; exact hbr)
      obtain ⟨ko', kc', ek, _, _, _, _, hkc2⟩ := id hKr
      cases ek
      obtain ⟨ka, rfl, kab, kca⟩ := hkc2 j hlt
      have htk := repl_take R F G ks j hlt heq
      have hgl : G.length ≤ F.length + 8 * j ∧ ∀ n ∈ G, In64 n := by
        have := repl_in HRI.out (ks.take j) F 0 HIN.out
        rw [heq] at this
        exact ⟨by have h2 := this.2; simp at h2; omega, this.1⟩
      have hgl1 := hgl.1
      have HSI := Lib.hid (stepL_in HRI.out G (ks.getD j 0) hgl.2).1
      have hst := rstep_any wr.drew B ta va tl tc vl vc (.slice ra R.length rc) _ R G (ks.getD j 0) ((HR.out.below (hbr.mono (by omega))).below (Below.refl _ wr).drew) (by show B ≤ wr.heap.size; omega) (hG.below (Below.refl _ wr).drew) (by omega) H8.out
      have HERR := Lib.hid (repl_part_err R F ks (j + 1))
      have HTK := Lib.hid htk
      obtain ⟨go, gc, rfl, hgc, hgm, _⟩ := id hG
      clear hkc2 hKr htk heq hgl hG
      unfold StepR at hst
      generalize ks.getD j 0 = k at *
      go_wp2
      go_region_law (first
        | (go_simp; go_at_call 16; refine hst.mono ?_; rintro e w4 ⟨u, rfl, hu1, hu2, hb4⟩))
      all_goals
        have hd : Below wr.heap.size wr w4 := ((Below.refl _ wr).drew).trans hb4
        have hB4 : Below (w.heap.size + 1) w0 w4 := hbr.trans (hd.mono (by omega))
        clear hst
        by_cases hE : refW R (fvW G) k = 0
        · have ho := hu1 hE
          rw [hE]
          have HROW := Lib.hid (row_own ho rfl HSI.out)
          have HFIN := Lib.hid (show replW R F (ks.take (j + 1)) 0 = (stepL R G k, 0, 0) by rw [HTK.out, if_pos hE])
          clear hu1 hu2 ho
          go_wp2
          exact ⟨⟨j + 1, _, hlt, congrArg (Value.int .i64) (by omega), HROW.out, HFIN.out, hB4⟩, by simp only [intOf]; omega⟩
        · obtain rfl := hu2 hE
          have hA : replW R F ks 0 = ([], j, refW R (fvW G) k) := by
            have h1 := HTK.out
            rw [if_neg hE] at h1
            have h2 := HERR.out (by rw [h1]; exact hE)
            rw [h2, h1]
          have HQ : Hid (RReplR R F ks w (.returned (.tuple #[.slice none 0 0, .int .i64 j, .int .i64 (refW R (fvW G) k)])) w4) := Lib.hid (by
            unfold RReplR
            rw [hA]
            exact ⟨_, rfl, fun h => absurd h hE, fun _ => rfl, hbl.trans (hB4.mono (by omega))⟩)
          clear hu1 hu2 hA
          generalize hEE : refW R (fvW G) k = E at *
          have HEE := Lib.hid hEE
          clear hEE
          have hne2 : (E != 0) = true := by simpa using hE
          go_wp2
          refine bodyPost_ret (v := .tuple #[.slice none 0 0, .int .i64 j, .int .i64 E]) (by simp [results, Try.results22, go_sem, Act.put]) rfl ?_
          exact HQ.out
    · obtain rfl : ks.length = j := by omega
      rw [List.take_length] at heq
      have HQ : Hid (∀ s, RowAt wr s G → RReplR R F ks w (.returned (.tuple #[s, .int .i64 0, .int .i64 0])) wr) := Lib.hid (fun s hs => by
        unfold RReplR
        rw [heq]
        exact ⟨_, rfl, fun _ => hs, fun h => absurd rfl h, hbl.trans (hbr.mono (by omega))⟩)
      have HG := Lib.hid hG
      obtain ⟨go, gc, rfl, hgc, hgm, _⟩ := hG
      clear heq
      go_wp2
      refine bodyPost_ret (v := .tuple #[.slice go G.length gc, .int .i64 0, .int .i64 0]) (by simp [results, Try.results22, go_sem, Act.put]) rfl ?_
      exact HQ.out _ HG.out
set_option maxRecDepth 100000 in
set_option maxHeartbeats 2000000 in
theorem ryield_any (w : World) (B : Nat) (ta va : Option Addr) (tl tc vl vc : Nat) (rv v kv : Value) (R : List Rl) (F ks : List Int) (hR : RulesAt B w rv R) (hB : B ≤ w.heap.size) (h : RowAt w v F) (hk : RowAt w kv ks) (hks : ks.length ≤ 4096) (hF : F.length + 8 * ks.length ≤ 100000) (h8 : ∀ r ∈ R, r.right.length ≤ 8) :
    Calls Try.prog 24 #[.agg #[.slice ta tl tc, .slice va vl vc, rv], v, kv] w (YieldR R F ks w) := by
  have hlen := (repl_in (rules_in hR h8) ks F 0 h.ins).2
  obtain ⟨ra, rc, rfl, hn, _⟩ := id hR
  have b0 := Blk.new w 25 #[.slice ta tl tc, .slice va vl vc, .slice ra R.length rc]
  have c0 := b0.cell 0
  have c1 := b0.cell 1
  have c2 := b0.cell 2
  simp only [List.getElem?_toArray, List.getElem?_cons_zero, List.getElem?_cons_succ] at c0 c1 c2
  have hbl : Below w.heap.size w (w.alloc (.cells #[.slice ta tl tc, .slice va vl vc, .slice ra R.length rc] 25)) := (Below.refl _ w).alloc (Nat.le_refl _) _
  have hR1 : RulesAt B (w.alloc (.cells #[.slice ta tl tc, .slice va vl vc, .slice ra R.length rc] 25)) (.slice ra R.length rc) R := hR.below (hbl.mono hB)
  have hrep := rreplay_any _ B ta va tl tc vl vc (.slice ra R.length rc) v kv R F ks hR1 (by simp; omega) (h.below hbl) (hk.below hbl) hks hF h8
  have HQ : ∀ e, YieldR R F ks w e = YieldR R F ks w e := fun _ => rfl
  unfold RReplR at hrep
  obtain ⟨ko, kc, rfl, hkc, hkm, _⟩ := hk
  obtain ⟨fo, fc, rfl, hfc, hfm, _⟩ := h
  have hY1 : (replW R F ks 0).2.2 ≠ 0 → ∀ w', Below w.heap.size w w' → YieldR R F ks w (.returned (.tuple #[.slice none 0 0, .int .i64 (replW R F ks 0).2.2])) w' := fun hE w' hb => by
    have e : yieldW R F ks = ([], (replW R F ks 0).2.2) := by unfold yieldW; rw [if_neg hE]
    unfold YieldR
    rw [e]
    exact ⟨_, rfl, fun h => absurd h hE, fun _ => rfl, hb⟩
  have hY2 : (replW R F ks 0).2.2 = 0 → restW (replW R F ks 0).1 ≠ [] → ∀ w', Below w.heap.size w w' → YieldR R F ks w (.returned (.tuple #[.slice none 0 0, .int .i64 13])) w' := fun hE hr w' hb => by
    have e : yieldW R F ks = ([], 13) := by unfold yieldW; rw [if_pos hE, if_neg hr]
    unfold YieldR
    rw [e]
    exact ⟨_, rfl, fun h => absurd h (by decide), fun _ => rfl, hb⟩
  have hY3 : (replW R F ks 0).2.2 = 0 → restW (replW R F ks 0).1 = [] → ∀ u w', w'.ownsRow w.heap.size 3 1 u (replW R F ks 0).1.length (IV ((replW R F ks 0).1.map fun x => -1 - x)) → Below w.heap.size w w' → YieldR R F ks w (.returned (.tuple #[u, .int .i64 0])) w' := fun hE hr u w' ho hb => by
    have e : yieldW R F ks = ((replW R F ks 0).1.map fun x => -1 - x, 0) := by unfold yieldW; rw [if_pos hE, if_pos hr]
    unfold YieldR
    rw [e]
    exact ⟨_, rfl, fun _ => by rw [List.length_map]; exact ho, fun h => absurd rfl h, hb⟩
  have HY1 := Lib.hid hY1
  have HY2 := Lib.hid hY2
  have HY3 := Lib.hid hY3
  clear hR hR1 HQ hY1 hY2 hY3
  generalize replW R F ks 0 = A at *
  obtain ⟨AL, an, ae⟩ := A
  dsimp only at hrep hlen
  go_enter Try.func24, Try.ntmps24
  go_wp2_with fail
  refine hrep.mono ?_
  rintro e w1 ⟨u, rfl, hu1, hu2, hb1⟩
  have hb1' : Below w.heap.size w w1 := hbl.trans (hb1.mono (by simp))
  by_cases hE : ae = 0
  · subst hE
    have hrow := hu1 rfl
    clear hu1 hu2
    have hfi := rfirst_any w1 u AL hrow
    by_cases hr : restW AL = []
    · have e1 : idxW AL = -1 := by unfold idxW; rw [if_pos hr]
      have e2 : leadW AL = AL := by have := lead_rest AL; rwa [hr, List.append_nil] at this
      rw [e1] at hfi
      have hld := rlead_any w1 u AL hrow (by omega)
      rw [e2] at hld
      have HQ := Lib.hid (HY3.out rfl hr)
      obtain ⟨uo, uc, rfl, _⟩ := hrow
      clear HY1 HY2 HY3
      go_wp2_with fail
      refine hfi.mono ?_
      rintro e w2 ⟨rfl, rfl⟩
      go_wp2_with fail
      refine hld.mono ?_
      rintro e w3 ⟨u3, rfl, ho3, hb3⟩
      go_wp2
      refine bodyPost_ret (v := .tuple #[u3, .int .i64 0]) (by simp [results, Try.results24, go_sem, Act.put]) rfl ?_
      exact HQ.out _ _ (own_weak ho3 hb1'.size) (hb1'.trans (hb3.mono hb1'.size))
    · have e1 : idxW AL = ((leadW AL).length : Int) := by unfold idxW; rw [if_neg hr]
      rw [e1] at hfi
      have HQ := Lib.hid (HY2.out rfl hr)
      have hge : (0 : Int) ≤ ((leadW AL).length : Int) := by omega
      obtain ⟨uo, uc, rfl, _⟩ := hrow
      clear HY1 HY2 HY3
      generalize leadW AL = L at *
      go_wp2_with fail
      refine hfi.mono ?_
      rintro e w2 ⟨rfl, rfl⟩
      go_wp2
      refine bodyPost_ret (v := .tuple #[.slice none 0 0, .int .i64 13]) (by simp [results, Try.results24, go_sem, Act.put]) rfl ?_
      exact HQ.out _ hb1'
  · obtain rfl := hu2 hE
    have HQ := Lib.hid (HY1.out hE)
    have hne2 : (ae != 0) = true := by simpa using hE
    clear HY1 HY2 HY3 hu1 hu2
    go_wp2
    refine bodyPost_ret (v := .tuple #[.slice none 0 0, .int .i64 ae]) (by simp [results, Try.results24, go_sem, Act.put]) rfl ?_
    exact HQ.out _ hb1'
end Go.Proofs.Ytljkobijoenabaa.dv
namespace Go.Proofs.Ytljkobijoenabaa.dv
open Go.ChangeShapes Go.WideShapes Go.ChangeAt Go.RowKit Go.Maps Go.WideMaps Go.WideElems
set_option linter.unusedVariables false
set_option linter.unusedSimpArgs false
/-! LeftChecks -/
/-- what is found to be one, of a variable of the grammar, shows that it may begin with itself -/
theorem chk_reach {R : List Rl} {vl : Nat} (hl : ∀ r ∈ R, 0 ≤ r.left ∧ r.left < vl) (hvr : ∀ r ∈ R, ∀ s ∈ r.right, 0 ≤ s → s < vl) {v : Int} {ks : List Int} (h : chkW R v ks = true) (h0 : 0 ≤ v) : matF (begM vl R) v.toNat v.toNat = true := by
  unfold chkW at h
  simp only [Bool.and_eq_true, decide_eq_true_eq] at h
  obtain ⟨h1, h2, h3⟩ := h
  have h4 := repl_ok R ks [v] 0 h1
  have hne : ks ≠ [] := fun e => by rw [e] at h2; cases h2
  refine reach_self hl hvr (ks := ks) (G := (replW R [v] ks 0).1) h0 hne ?_ ?_
  · exact Prod.ext rfl (Prod.ext h4 h1)
  · cases hG : (replW R [v] ks 0).1 with
    | nil => rw [hG] at h3; cases h3
    | cons x G =>
      rw [hG] at h3
      simp only [headB, decide_eq_true_eq] at h3
      rw [h3]; rfl
set_option maxRecDepth 100000 in
set_option maxHeartbeats 4000000 in
theorem checks_any (w : World) (ta va ra : Option Addr) (tl tc vl vc rc : Nat) (kv : Value) (v : Int) (R : List Rl) (ks : List Int) (hR : RulesAt w.heap.size w (.slice ra R.length rc) R) (hT : StrsAt w.heap.size w ta tl) (hV : StrsAt w.heap.size w va vl) (hn : R.length ≤ maxLen) (ht : tl ≤ maxLen) (hv : vl ≤ maxLen) (hK : RowAt w kv ks) (hv64 : In64 v) :
    Calls Try.prog 10 #[.agg #[.slice ta tl tc, .slice va vl vc, .slice ra R.length rc], .int .i64 v, kv] w fun e w' => e = .returned (.bool true) ∧ Below w.heap.size w w' := by
  have b0 := Blk.new w 25 #[.slice ta tl tc, .slice va vl vc, .slice ra R.length rc]
  have hbl : Below w.heap.size w (w.alloc (.cells #[.slice ta tl tc, .slice va vl vc, .slice ra R.length rc] 25)) := below_lit _ _ _
  have hR1 := hR.below hbl
  have hT1 := hT.below hbl
  have hV1 := hV.below hbl
  have hK1 := hK.below hbl
  generalize hW0 : w.alloc (.cells #[.slice ta tl tc, .slice va vl vc, .slice ra R.length rc] 25) = w0 at *
  have hz0 : w0.heap.size = w.heap.size + 1 := by rw [← hW0]; simp
  have HR := Lib.hid hR1
  have HT := Lib.hid hT1
  have HV := Lib.hid hV1
  have HK := Lib.hid hK1
  obtain ⟨ko, kc, rfl, hkc, hkm, _⟩ := hK
  have hkm' : kc ≤ 9223372036854775807 := by unfold maxLen at hkm; omega
  clear hR hT hV hR1 hT1 hV1 hK1
  go_enter Try.func10, Try.ntmps10
  go_wp2_with fail
  refine (lalive_any w0).mono ?_
  rintro e w1 ⟨rfl, hb1⟩
  have hB1 : Below (w.heap.size + 1) w0 w1 := hb1.mono (by omega)
  have hz1 := hB1.size
  have bx1 := b0.below hB1 (by omega)
  have p0 := bx1.cell 0
  have p1 := bx1.cell 1
  have p2 := bx1.cell 2
  simp only [List.getElem?_toArray, List.getElem?_cons_zero, List.getElem?_cons_succ] at p0 p1 p2
  go_wp2_with fail
  refine (few_any w1 w.heap.size ta va ra tl tc vl vc rc R (HR.out.below (hB1.mono (by omega))) (by omega) hn ht hv).mono ?_
  rintro e w2 ⟨b, rfl, hfew, hb2⟩
  have hB2 : Below (w.heap.size + 1) w0 w2 := hB1.trans (hb2.mono (by omega))
  cases b
  · clear hfew
    go_wp2
    go_ret
    exact ⟨rfl, hbl.trans (hB2.mono (by omega))⟩
  · obtain ⟨f1, f2, f3, h8⟩ := hfew rfl
    have H8 := Lib.hid h8
    clear hfew h8
    have hz2 := hB2.size
    have bx2 := b0.below hB2 (by omega)
    have q0 := bx2.cell 0
    have q1 := bx2.cell 1
    have q2 := bx2.cell 2
    simp only [List.getElem?_toArray, List.getElem?_cons_zero, List.getElem?_cons_succ] at q0 q1 q2
    clear bx1 p0 p1 p2 hb1 hb2 hz1
    go_wp2_with fail
    refine (right_yes w2 w.heap.size ta va ra tl tc vl vc rc R (HR.out.below (hB2.mono (by omega))) (HT.out.below (hB2.mono (by omega))) (HV.out.below (hB2.mono (by omega))) (by omega) f3 f2 f1 H8.out).mono ?_
    rintro e w3 ⟨b, rfl, hok, hb3⟩
    have hB3 : Below (w.heap.size + 1) w0 w3 := hB2.trans (hb3.mono (by omega))
    cases b
    · clear hok
      go_wp2
      go_ret
      exact ⟨rfl, hbl.trans (hB3.mono (by omega))⟩
    · obtain ⟨hv1, hrl⟩ := hok rfl
      have hl : ∀ r ∈ R, 0 ≤ r.left ∧ r.left < vl := fun r hr => ⟨(hrl r hr).1, (hrl r hr).2.1⟩
      have hvr : ∀ r ∈ R, ∀ s ∈ r.right, 0 ≤ s → s < vl := fun r hr s hs _ => ((hrl r hr).2.2 s hs).1
      have HL := Lib.hid hl
      have HVR := Lib.hid hvr
      have hz3 := hB3.size
      have bx3 := b0.below hB3 (by omega)
      have r0 := bx3.cell 0
      have r1 := bx3.cell 1
      have r2 := bx3.cell 2
      simp only [List.getElem?_toArray, List.getElem?_cons_zero, List.getElem?_cons_succ] at r0 r1 r2
      clear bx2 q0 q1 q2 hb3 hok hrl hl hvr
      by_cases g2 : ks.length ≤ 60
      · have hgd : decide ((60 : Int) < (ks.length : Int)) = false := decide_eq_false (by omega)
        have hB34 : Below (w.heap.size + 1) w0 (w3.alloc (.cells #[.int .i64 v] 3)) := hB3.alloc (by omega) _
        have hlit := lit_row w3 [v] 1 _ rfl rfl (by simpa using hv64) (by decide)
        have hrep := rreplay_any (w3.alloc (.cells #[.int .i64 v] 3)) w.heap.size ta va tl tc vl vc (.slice ra R.length rc) (.slice (some ⟨w3.heap.size, 0, none⟩) 1 1) (.slice ko ks.length kc) R [v] ks (HR.out.below (hB34.mono (by omega))) (by simp; omega) hlit (HK.out.below (by rw [hz0]; exact hB34)) (by omega) (by simp; omega) H8.out
        unfold RReplR at hrep
        have HB34 := Lib.hid hB34
        have hck : Hid (chkW R v ks = (decide ((replW R [v] ks 0).2.2 = 0) && (decide (0 < ks.length) && headB v (replW R [v] ks 0).1))) := Lib.hid rfl
        clear hlit hB34 hB3
        generalize replW R [v] ks 0 = P at *
        obtain ⟨G, n1, E⟩ := P
        dsimp only at hrep
        have HCK : Hid (chkW R v ks = (decide (E = 0) && (decide (0 < ks.length) && headB v G))) := hck
        clear hck
        go_wp2_with fail
        refine hrep.mono ?_
        rintro e w4 ⟨u, rfl, hu1, hu2, hb4⟩
        have hB4 : Below (w.heap.size + 1) w0 w4 := HB34.out.trans (hb4.mono (by simp; omega))
        have hz4 := hB4.size
        have bx4 := b0.below hB4 (by omega)
        have s0 := bx4.cell 0
        have s1 := bx4.cell 1
        have s2 := bx4.cell 2
        simp only [List.getElem?_toArray, List.getElem?_cons_zero, List.getElem?_cons_succ] at s0 s1 s2
        have hcb := check_any w4 w.heap.size ta va tl tc vl vc (.slice ra R.length rc) (.slice ko ks.length kc) R v ks (HR.out.below (hB4.mono (by omega))) (by omega) (HK.out.below (by rw [hz0]; exact hB4)) (by omega) hv64 H8.out
        have HB4 := Lib.hid hB4
        clear hb4 hB4 bx4 r0 r1 r2 hrep bx3
        by_cases hkl : ks.length = 0
        · have hch : chkW R v ks = false := by rw [HCK.out, decide_eq_false (by omega : ¬ 0 < ks.length)]; simp
          have hkd : decide ((0 : Int) < (ks.length : Int)) = false := decide_eq_false (by omega)
          rw [hch, hkl] at hcb
          go_wp2_with fail
          refine hcb.mono ?_
          rintro e w5 ⟨rfl, hb5⟩
          go_wp2
          go_ret
          exact ⟨rfl, hbl.trans ((HB4.out.trans (hb5.mono (by omega))).mono (by omega))⟩
        · have hkd : decide ((0 : Int) < (ks.length : Int)) = true := decide_eq_true (by omega)
          by_cases hE : E = 0
          · have hrow := hu1 hE
            subst hE
            clear hu1 hu2
            cases G with
            | nil =>
              obtain ⟨ao, cap, rfl, _⟩ := hrow
              have hch : chkW R v ks = false := by rw [HCK.out]; simp [headB]
              rw [hch] at hcb
              go_wp2_with fail
              refine hcb.mono ?_
              rintro e w5 ⟨rfl, hb5⟩
              go_wp2
              go_ret
              exact ⟨rfl, hbl.trans ((HB4.out.trans (hb5.mono (by omega))).mono (by omega))⟩
            | cons x G =>
              obtain ⟨ao, cap, rfl, _, _, _, _, hcell⟩ := hrow
              obtain ⟨ad, rfl, _, hx0⟩ := hcell 0 (Nat.succ_pos _)
              have hx2 : w4.cell? ad = some (.int .i64 x) := hx0
              have hgl : decide ((0 : Int) < (((x :: G).length : Nat) : Int)) = true := decide_eq_true (by simp)
              have hgl2 : (0 : Int) < (((x :: G).length : Nat) : Int) := by simp
              have hhd : chkW R v ks = decide (x = v) := by rw [HCK.out, decide_eq_true (show (0 : Int) = 0 from rfl), decide_eq_true (by omega : 0 < ks.length)]; rfl
              clear hcell hx0
              generalize (x :: G).length = gn at *
              by_cases hxv : x = v
              · have hch : chkW R v ks = true := by rw [hhd]; exact decide_eq_true hxv
                have hne : (x == v) = true := by simpa using hxv
                rw [hch] at hcb
                clear hhd
                by_cases hv0 : v < 0
                · have hvd : decide (v < 0) = true := decide_eq_true hv0
                  go_wp2_with fail
                  refine hcb.mono ?_
                  rintro e w5 ⟨rfl, hb5⟩
                  go_wp2
                  go_ret
                  exact ⟨rfl, hbl.trans ((HB4.out.trans (hb5.mono (by omega))).mono (by omega))⟩
                · have hvd : decide (v < 0) = false := decide_eq_false hv0
                  by_cases hvb : v < (vl : Int)
                  · have hvd2 : decide ((vl : Int) ≤ v) = false := decide_eq_false (by omega)
                    obtain ⟨n, rfl⟩ : ∃ n : Nat, v = n := ⟨v.toNat, by omega⟩
                    have hnv : n < vl := by omega
                    have hr := chk_reach HL.out HVR.out hch (by omega)
                    rw [Int.toNat_natCast] at hr
                    go_wp2_with fail
                    refine hcb.mono ?_
                    rintro e w5 ⟨rfl, hb5⟩
                    have hB5 := HB4.out.trans (hb5.mono (by omega))
                    have hz5 := hB5.size
                    have bx5 := b0.below hB5 (by omega)
                    have t0 := bx5.cell 0
                    have t1 := bx5.cell 1
                    have t2 := bx5.cell 2
                    simp only [List.getElem?_toArray, List.getElem?_cons_zero, List.getElem?_cons_succ] at t0 t1 t2
                    have hrc := reach_any w5 w.heap.size ta va tl tc vl vc (.slice ra R.length rc) R (HR.out.below (hB5.mono (by omega))) (by omega) HL.out HVR.out (by omega) (by omega)
                    clear hx2 hb5 hcb hch s0 s1 s2 b0
                    go_wp2_with fail
                    refine hrc.mono ?_
                    rintro e w6 ⟨u6, vs, rfl, hbm, hb6⟩
                    have hml := (begM_at R HL.out).1.1
                    obtain ⟨m, mc, b, bc, rfl, hvb2, hc⟩ := hbm.form (by omega) (i := n) (by omega)
                    have hcc := hbm.cell (by omega) hvb2 hnv
                    rw [hr] at hcc
                    rw [hml] at hbm ⊢
                    have hn0 : (0 : Int) ≤ (n : Int) := by omega
                    clear hrc hr hbm hvb2
                    go_wp2
                    go_ret
                    exact ⟨rfl, hbl.trans ((hB5.trans (hb6.mono (by omega))).mono (by omega))⟩
                  · have hvd2 : decide ((vl : Int) ≤ v) = true := decide_eq_true (by omega)
                    go_wp2_with fail
                    refine hcb.mono ?_
                    rintro e w5 ⟨rfl, hb5⟩
                    have bx5 := b0.below (HB4.out.trans (hb5.mono (by omega))) (by omega)
                    have t1 := bx5.cell 1
                    simp only [List.getElem?_toArray, List.getElem?_cons_zero, List.getElem?_cons_succ] at t1
                    go_wp2
                    go_ret
                    exact ⟨rfl, hbl.trans ((HB4.out.trans (hb5.mono (by omega))).mono (by omega))⟩
              · have hch : chkW R v ks = false := by rw [hhd]; exact decide_eq_false hxv
                have hne : (x == v) = false := by simpa using hxv
                rw [hch] at hcb
                clear hhd
                go_wp2_with fail
                refine hcb.mono ?_
                rintro e w5 ⟨rfl, hb5⟩
                go_wp2
                go_ret
                exact ⟨rfl, hbl.trans ((HB4.out.trans (hb5.mono (by omega))).mono (by omega))⟩
          · have hch : chkW R v ks = false := by rw [HCK.out, decide_eq_false hE]; rfl
            have hed : (E == 0) = false := by simpa using hE
            rw [hch] at hcb
            go_wp2_with fail
            refine hcb.mono ?_
            rintro e w5 ⟨rfl, hb5⟩
            go_wp2
            go_ret
            exact ⟨rfl, hbl.trans ((HB4.out.trans (hb5.mono (by omega))).mono (by omega))⟩
      · have hgd : decide ((60 : Int) < (ks.length : Int)) = true := decide_eq_true (by omega)
        go_wp2
        go_ret
        exact ⟨rfl, hbl.trans (hB3.mono (by omega))⟩
end Go.Proofs.Ytljkobijoenabaa.dv
namespace Go.Proofs.Ytljkobijoenabaa.dv
open Go.ChangeShapes Go.WideShapes Go.ChangeAt Go.RowKit Go.Maps Go.WideMaps Go.WideElems Go.Deep Go.Joins
set_option linter.unusedVariables false
set_option linter.unusedSimpArgs false
theorem in64_lit {x : Int} (h : (Lit.int IntKind.i64 x).wf = true) : In64 x := by
  simp only [Lit.wf, Bool.and_eq_true, decide_eq_true_eq] at h
  have e1 : IntKind.i64.min = -9223372036854775808 := by rfl
  have e2 : IntKind.i64.max = 9223372036854775807 := by rfl
  rw [e1, e2] at h
  exact ⟨h.1, by omega⟩
set_option maxRecDepth 100000 in
theorem sleftChecks_lifted (os : Os) (started : os.Started) (H : Type) (enc : TypeId × Value → H) :
    ReturnsInHanded {} Try.checked os 10 .any (Rows.leftChecksSpec.pre6 enc Try.prog Try.f10 Rows.leftChecksRow.domain false) (Rows.leftChecksSpec.post enc Try.prog Try.f10 false true false false) := by
  refine returnsInHanded_of_change (C := Try.checked) own started (by kernel_rfl) Try.func10
    (ChangeSpec.witness6 (enc := enc) (C := Try.checked) false ⟨#[], #[.agg #[.slice none 0 0, .slice none 0 0, .slice none 0 0], .int .i64 0, .slice none 0 0], []⟩ 8 (by kernel_rfl) (by kernel_rfl) (by kernel_rfl) (by kernel_rfl)) ?_
  intro W base args ds gs before hval0 hW hcnd _
  have hval : ∀ (j : Nat) t v, Try.f10.params[j]? = some t → args[j]? = some v → Value.okWide Try.prog W .any base t v := hval0
  have hW' := hW
  obtain ⟨p, q, hA0, hV, rfl, hfz, hnd⟩ := hW
  have hA : DataW.TrodAll enc Try.prog W 0 (fun _ => true) true Try.f10.params.toList args.toList ds p := hA0
  rw [Try.params10] at hA hval
  obtain ⟨v0, vs0, d0, ds0, p0, q0, hargs, rfl, rfl, h0, r0⟩ := trodAll_cons hA
  obtain ⟨v1, vs1, d1, ds1, p1, q1, rfl, rfl, rfl, h1, r1⟩ := trodAll_cons r0
  obtain ⟨v2, vs2, d2, ds2, p2, q2, rfl, rfl, rfl, h2, r2⟩ := trodAll_cons r1
  obtain ⟨rfl, rfl, rfl⟩ := trodAll_nil r2
  obtain rfl : args = #[v0, v1, v2] := by cases args; simp_all
  obtain ⟨rfl, rfl⟩ := trodVars_none hV
  have h0k := h0
  obtain ⟨g0, g1, g2, y0, y1, y2, n, rfl, _, _, e0, e1, e2⟩ := open_agg3 Try.underlying25 (by kernel_rfl) (by kernel_rfl) (hval 0 25 v0 rfl rfl) h0
  replace e0 : DataW.trod enc Try.prog W 0 (fun _ => true) true n 22 [g0] = some y0 := e0
  replace e1 : DataW.trod enc Try.prog W 0 (fun _ => true) true n 22 [g1] = some y1 := e1
  replace e2 : DataW.trod enc Try.prog W 0 (fun _ => true) true n 23 [g2] = some y2 := e2
  obtain ⟨ta, tl, tc, rfl, _, _, _⟩ := slice_of Try.underlying22 e0
  obtain ⟨va, vl, vc, rfl, _, _, _⟩ := slice_of Try.underlying22 e1
  obtain ⟨ra, rl, rc, rfl, hr1, hr2, _⟩ := slice_of Try.underlying23 e2
  obtain ⟨hT1, hT2⟩ := strs_of e0
  obtain ⟨hV1, hV2⟩ := strs_of e1
  obtain ⟨R, rfl, hR, hwf⟩ := rules_of e2
  obtain ⟨x1, rfl, rfl, rfl, w1⟩ := open_int Try.underlying3 (hval 1 3 v1 rfl rfl) h1
  obtain ⟨a2, len2, cap2, rfl⟩ := okWide_slice Try.underlying26 (hval 2 26 v2 rfl rfl)
  have h2k := h2
  obtain ⟨fu2, hf2⟩ := h2
  obtain ⟨L2, hL2, hF2⟩ := row_of hf2
  clear hA0 hval0
  simp only [List.append_nil, List.nil_append] at hW'
  have hlt : ∀ x ∈ p0 ++ (p2), x.block < W.heap.size := fun x hx => by simpa using hW'.lt x (by simpa using hx)
  have hback0 : ∀ (W' : World), Below W.heap.size W W' → DataW.Trod enc Try.prog W' 0 (fun b => decide (b < W.heap.size)) true 25 (.agg #[.slice ta tl tc, .slice va vl vc, .slice ra R.length rc]) d0 p0 :=
    fun W' hn => Below.trod laidOut (by kernel_rfl) (of_decide_eq_true (by kernel_rfl)) h0k hn (fun x hx => hlt x (by simp [hx]))
  have hback2 : ∀ (W' : World), Below W.heap.size W W' → DataW.Trod enc Try.prog W' 0 (fun b => decide (b < W.heap.size)) true 26 (.slice a2 len2 cap2) d2 p2 :=
    fun W' hn => Below.trod laidOut (by kernel_rfl) (of_decide_eq_true (by kernel_rfl)) h2k hn (fun x hx => hlt x (by simp [hx]))
  have hT : ∀ (W' : World), Below W.heap.size W W' → DataW.TrodAll enc Try.prog W' 0 (fun b => decide (b < W.heap.size)) true [25, 3, 26] [.agg #[.slice ta tl tc, .slice va vl vc, .slice ra R.length rc], .int .i64 x1, .slice a2 len2 cap2] [d0, .lit (.int .i64 x1), d2] (p0 ++ (p2)) := fun W' hn => by
    have h4 := (trodAll_cons_mk (hback0 _ hn) (trodAll_cons_mk (shut_int (H := H) (enc := enc) (P := Try.prog) (w := W') (base := 0) (spare := fun b => decide (b < W.heap.size)) (held := true) Try.underlying3 w1) (trodAll_mk1 (hback2 _ hn))))
    simpa using h4
  subst hL2
  refine (checks_any W ta va ra tl tc vl vc rc _ x1 R L2 hR hT1 hV1 (by omega) hT2 hV2 hF2 (in64_lit w1)).mono fun e W' ⟨he, hb⟩ => ?_
  subst he
  exact ⟨_, rfl, _, _, _, [], p0 ++ (p2), [], hW', trodAll_mk1 (shut_bool Try.underlying4 _), hT W' hb, rfl, hb.frame _, fun h => by cases h⟩
theorem sleftChecks_said : Rows.LeftChecksSaid :=
  OpenClaim.holds_of_wide 10 Try.f10 rfl rfl rfl rfl rfl rfl rfl ⟨rfl, rfl, rfl, rfl, rfl⟩ rfl rfl rfl rfl rfl (by kernel_rfl) Try.func10 (by kernel_rfl)
    (of_decide_eq_true (by kernel_rfl)) (by unfold Func.isWrapper; first | (rw [if_pos (by decide +kernel)]; kernel_rfl) | (rw [if_neg (by decide +kernel)]; exact ⟨rfl, rfl⟩))
    (fun os started H enc _ => sleftChecks_lifted os started H enc)
end Go.Proofs.Ytljkobijoenabaa.dv
namespace Go.Proofs.Ytljkobijoenabaa
theorem leftChecks_holds : Rows.LeftChecksSaid := dv.sleftChecks_said
end Go.Proofs.Ytljkobijoenabaa

import Derived.Test.YtgcdlehcgipomaaDvi
namespace Go.Proofs.Ytgcdlehcgipomaa.dv
open Go.ChangeShapes Go.WideShapes Go.ChangeAt Go.RowKit Go.Maps Go.WideMaps Go.WideElems
set_option linter.unusedVariables false
set_option linter.unusedSimpArgs false
/-! a form's beginning, and a step -/
theorem RowAt.take {w : World} {ao : Option Addr} {cap : Nat} {F : List Int} (h : RowAt w (.slice ao F.length cap) F) (k : Nat) (hk : k ≤ F.length) : RowAt w (.slice ao k cap) (F.take k) := by
  obtain ⟨ao', cap', e, hl, hm, hn, hin, hc⟩ := h
  cases e
  have hL : (F.take k).length = k := by simp; omega
  refine ⟨ao, cap, by rw [hL], by omega, hm, hn, fun n hn => hin n (List.mem_of_mem_take hn), fun i hi => ?_⟩
  obtain ⟨a, e, hab, hca⟩ := hc i (by omega)
  refine ⟨a, e, hab, ?_⟩
  rw [hca, List.getD_eq_getElem?_getD, List.getD_eq_getElem?_getD, List.getElem?_take_of_lt (by omega)]
theorem RowAt.src {w : World} {v : Value} {F : List Int} (h : RowAt w v F) : SrcAt w v F := by
  obtain ⟨ao, cap, rfl, hl, hm, hn, hin, hc⟩ := h
  refine ⟨ao, cap, rfl, fun h => (by have := hn h; omega), fun ad had j u hj => ?_⟩
  have hlt : j < F.length := by have := (List.getElem?_eq_some_iff.1 hj).1; simpa [IV] using this
  obtain ⟨a, e, hab, hca⟩ := hc j hlt
  subst had
  cases e
  refine ⟨hab, ?_⟩
  rw [hca, ← hj]
  simp [IV, List.getD_eq_getElem?_getD, List.getElem?_eq_getElem hlt]
set_option maxRecDepth 100000 in
set_option maxHeartbeats 1000000 in
theorem lead_any (w : World) (v : Value) (F : List Int) (h : RowAt w v F) (hF : F.length ≤ 1000000) : Calls Try.prog 17 #[v] w fun e w' => ∃ u, e = .returned (.tuple #[u, .int .i64 (idxW F)]) ∧ w'.ownsRow w.heap.size 3 1 u (leadW F).length (IV ((leadW F).map fun x => -1 - x)) ∧ Below w.heap.size w w' := by
  have hix := index_any w v F h
  by_cases hr : restW F = []
  · have e1 : idxW F = -1 := by unfold idxW; rw [if_pos hr]
    have e2 : leadW F = F := by have := lead_rest F; rwa [hr, List.append_nil] at this
    rw [e1] at hix ⊢
    rw [e2]
    have hnu := numbers_any w v F h hF
    obtain ⟨ao, cap, rfl, _⟩ := h
    go_enter Try.func17, Try.ntmps17
    go_wp2_with fail
    refine hix.mono ?_
    rintro e w1 ⟨rfl, rfl⟩
    go_wp2_with fail
    refine hnu.mono ?_
    rintro e w2 ⟨u, rfl, ho, hb⟩
    go_wp2
    refine bodyPost_ret (v := .tuple #[u, .int .i64 (-1)]) (by simp [results, Try.results17, go_sem]) rfl ?_
    exact ⟨u, rfl, ho, hb⟩
  · have e1 : idxW F = ((leadW F).length : Int) := by unfold idxW; rw [if_neg hr]
    have hle : (leadW F).length ≤ F.length := by have := congrArg List.length (lead_rest F); simp at this; omega
    have htk : F.take (leadW F).length = leadW F := by
      have := List.take_left (l₁ := leadW F) (l₂ := restW F)
      rwa [lead_rest] at this
    rw [e1] at hix ⊢
    obtain ⟨ao, cap, rfl, hx⟩ := id h
    have hcap : (leadW F).length ≤ cap ∧ cap ≤ 9223372036854775807 := by
      obtain ⟨h1, h2, _⟩ := hx
      unfold maxLen at h2
      omega
    obtain ⟨hc1, hc2⟩ := hcap
    have h2 := h.take (leadW F).length hle
    rw [htk] at h2
    have hnu := numbers_any w (.slice ao (leadW F).length cap) (leadW F) h2 (by omega)
    clear hx h2 h htk
    generalize leadW F = L at *
    go_enter Try.func17, Try.ntmps17
    go_wp2_with fail
    refine hix.mono ?_
    rintro e w1 ⟨rfl, rfl⟩
    go_wp2_with fail
    refine hnu.mono ?_
    rintro e w2 ⟨u, rfl, ho, hb⟩
    go_wp2
    refine bodyPost_ret (v := .tuple #[u, .int .i64 L.length]) (by simp [results, Try.results17, go_sem]) rfl ?_
    exact ⟨u, rfl, ho, hb⟩
def fvW (F : List Int) : Int := (restW F).headD (-1)
def ruleW (R : List Rl) (k : Int) : List Int := (R.getD k.toNat ⟨0, [], 0⟩).right
def stepL (R : List Rl) (F : List Int) (k : Int) : List Int := leadW F ++ (ruleW R k ++ (restW F).tail)
theorem RowAt.drop {w : World} {ao : Option Addr} {cap : Nat} {F : List Int} (h : RowAt w (.slice ao F.length cap) F) (k : Nat) (hk : k ≤ F.length) (a : Addr) (ha : ao = some a) : RowAt w (.slice (some (a.add k)) (F.length - k) (cap - k)) (F.drop k) := by
  obtain ⟨ao', cap', e, hl, hm, hn, hin, hc⟩ := h
  cases e
  subst ha
  have hL : (F.drop k).length = F.length - k := by simp
  refine ⟨_, cap - k, by rw [hL], by omega, by omega, fun h => (by cases h), fun n hn => hin n (List.mem_of_mem_drop hn), fun i hi => ?_⟩
  obtain ⟨a', e, hab, hca⟩ := hc (k + i) (by omega)
  cases e
  refine ⟨_, rfl, by rw [add_block]; exact hab, ?_⟩
  rw [Addr.add_add, hca, List.getD_eq_getElem?_getD, List.getD_eq_getElem?_getD, List.getElem?_drop]
theorem rest_nth (F : List Int) (h : restW F ≠ []) : F.getD (leadW F).length 0 = fvW F ∧ 0 ≤ fvW F ∧ (leadW F).length < F.length ∧ F.drop ((leadW F).length + 1) = (restW F).tail := by
  have e := lead_rest F
  have hg : ∀ x l, restW F = x :: l → ¬ x < 0 := fun x l hx => by
    have := List.head?_dropWhile_not (fun x => decide (x < 0)) F
    rw [show F.dropWhile (fun x => decide (x < 0)) = x :: l from hx] at this
    simpa using this
  cases hr : restW F with
  | nil => exact absurd hr h
  | cons x l =>
    have hx := hg x l hr
    rw [hr] at e
    have hf : fvW F = x := by unfold fvW; rw [hr]; rfl
    rw [hf, hr] at *
    generalize leadW F = L at *
    subst e
    exact ⟨by simp [List.getD_eq_getElem?_getD], by omega, by simp, by simp⟩
theorem refW_err {R : List Rl} {v k : Int} (h : ¬ 0 ≤ v) : refW R v k ≠ 0 := by
  unfold refW
  rw [if_neg h]
  split <;> decide
theorem refW_ok {R : List Rl} {v k : Int} (h : refW R v k = 0) : 0 ≤ k ∧ k < R.length ∧ 0 ≤ v := by
  unfold refW at h
  split at h
  · rename_i h1
    split at h
    · rename_i h2
      simp [isRl] at h1
      exact ⟨h1.1, h1.2, h2⟩
    · exact absurd h (by decide)
  · exact absurd h (by decide)
theorem RulesAt.below {B : Nat} {w w' : World} {v : Value} {R : List Rl} (h : RulesAt B w v R) (hb : Below B w w') : RulesAt B w' v R := by
  obtain ⟨ao, cap, e, hn, hr⟩ := h
  refine ⟨ao, cap, e, hn, fun k r hk => ?_⟩
  obtain ⟨a, ea, hab, ao2, c2, h1, h2, h3, h4, h5, h6, h7, h8⟩ := hr k r hk
  have hc : ∀ n v, w.cell? (a.add n) = some v → w'.cell? (a.add n) = some v := fun n v hv => (hb.cell (p := a.add n) (by rw [add_block]; exact hab)).trans hv
  refine ⟨a, ea, hab, ao2, c2, hc _ _ h1, hc _ _ h2, hc _ _ h3, h4, h5, h6, fun j hj => ?_, h8⟩
  obtain ⟨a2, e2, hab2, hca⟩ := h7 j hj
  exact ⟨a2, e2, hab2, (hb.cell (p := a2.add j) (by rw [add_block]; exact hab2)).trans hca⟩
theorem RlAt.row {B : Nat} {w : World} {a : Addr} {k : Nat} {r : Rl} (h : RlAt B w a k r) (hB : B ≤ w.heap.size) : ∃ ao cap, w.cell? (a.add (k * 3 + 1)) = some (.slice ao r.right.length cap) ∧ RowAt w (.slice ao r.right.length cap) r.right ∧ RowUnder B w ao r.right := by
  obtain ⟨ao, cap, h1, h2, h3, h4, h5, h6, h7, h8⟩ := h
  refine ⟨ao, cap, h2, ⟨ao, cap, rfl, h4, h5, h6, h8.1, fun i hi => ?_⟩, h7⟩
  obtain ⟨a2, e2, hab, hca⟩ := h7 i hi
  exact ⟨a2, e2, by omega, hca⟩
theorem add_form (a : Addr) (n m : Nat) (hm : m ≠ 0) : a.add (n + m) = { block := (a.add n).block, off := (a.add n).off + m } := by
  unfold Addr.add
  rw [if_neg (by omega)]
  by_cases h : n = 0
  · subst h; simp
  · rw [if_neg h]; simp [Nat.add_assoc]
theorem rows_three {w : World} {v u z : Value} {x y q : List Int} {a : Nat} (hb : Blk w a 26 #[v, u, z]) (hv : SrcAt w v x) (hu : SrcAt w u y) (hz : SrcAt w z q) : RowsIn w ⟨a, 0, none⟩ [v, u, z] [x, y, q] := by
  refine ⟨rfl, hb.lt, fun i s hi => ?_⟩
  match i, hi with
  | 0, hi =>
    simp at hi
    subst hi
    exact ⟨by simpa [Addr.add] using hb.cell 0, hv⟩
  | 1, hi =>
    simp at hi
    subst hi
    exact ⟨by simpa [Addr.add] using hb.cell 1, hu⟩
  | 2, hi =>
    simp at hi
    subst hi
    exact ⟨by simpa [Addr.add] using hb.cell 2, hz⟩
  | i + 3, hi => simp at hi
def StepR (R : List Rl) (F : List Int) (k : Int) (w : World) : Ending → World → Prop := fun e w' => ∃ u, e = .returned (.tuple #[u, .int .i64 (refW R (fvW F) k)]) ∧ (refW R (fvW F) k = 0 → w'.ownsRow w.heap.size 3 1 u (stepL R F k).length (IV (stepL R F k))) ∧ (refW R (fvW F) k ≠ 0 → u = .slice none 0 0) ∧ Below w.heap.size w w'
set_option maxRecDepth 100000 in
set_option maxHeartbeats 1000000 in
theorem step_any (w : World) (B : Nat) (ta va : Option Addr) (tl tc vl vc : Nat) (rv v : Value) (R : List Rl) (F : List Int) (k : Int) (hR : RulesAt B w rv R) (hB : B ≤ w.heap.size) (h : RowAt w v F) (hF : F.length ≤ 1000000) (hS : (stepL R F k).length ≤ 1000000) :
    Calls Try.prog 15 #[.agg #[.slice ta tl tc, .slice va vl vc, rv], v, .int .i64 k] w (StepR R F k w) := by
  obtain ⟨ra, rc, rfl, hn, hrl⟩ := id hR
  have b0 := Blk.new w 25 #[.slice ta tl tc, .slice va vl vc, .slice ra R.length rc]
  have c0 := b0.cell 0
  have c1 := b0.cell 1
  have c2 := b0.cell 2
  simp only [List.getElem?_toArray, List.getElem?_cons_zero, List.getElem?_cons_succ] at c0 c1 c2
  have hbl : Below w.heap.size w (w.alloc (.cells #[.slice ta tl tc, .slice va vl vc, .slice ra R.length rc] 25)) := (Below.refl _ w).alloc (Nat.le_refl _) _
  have hR1 : RulesAt B (w.alloc (.cells #[.slice ta tl tc, .slice va vl vc, .slice ra R.length rc] 25)) (.slice ra R.length rc) R := hR.below (hbl.mono hB)
  have hix := index_any (w.alloc (.cells #[.slice ta tl tc, .slice va vl vc, .slice ra R.length rc] 25)) v F (h.below hbl)
  by_cases hr : restW F = []
  · have e1 : idxW F = -1 := by unfold idxW; rw [if_pos hr]
    have e2 : fvW F = -1 := by unfold fvW; rw [hr]; rfl
    have hne : refW R (fvW F) k ≠ 0 := refW_err (by rw [e2]; decide)
    have href := refusal_any (w.alloc (.cells #[.slice ta tl tc, .slice va vl vc, .slice ra R.length rc] 25)) B ta va tl tc vl vc (.slice ra R.length rc) R (-1) k hR1 (by simp; omega)
    rw [e1] at hix
    rw [← e2] at href
    have HQ : ∀ w', Below w.heap.size w w' → StepR R F k w (.returned (.tuple #[.slice none 0 0, .int .i64 (refW R (fvW F) k)])) w' := fun w' hb => ⟨_, rfl, fun h => absurd h hne, fun _ => rfl, hb⟩
    have HQ := Lib.hid HQ
    generalize hE : refW R (fvW F) k = E at *
    obtain ⟨ao, cap, rfl, _⟩ := h
    clear hR hR1 hrl
    go_enter Try.func15, Try.ntmps15
    go_wp2_with fail
    refine hix.mono ?_
    rintro e w1 ⟨rfl, rfl⟩
    rw [e2] at href
    go_wp2_with fail
    refine href.mono ?_
    rintro e w2 ⟨rfl, hb2⟩
    go_wp2
    refine bodyPost_ret (v := .tuple #[.slice none 0 0, .int .i64 E]) (by simp [results, Try.results15, go_sem]) rfl ?_
    exact HQ.out _ (hbl.trans (hb2.mono (by simp)))
  · obtain ⟨hg, hv0, hlt, hdr⟩ := rest_nth F hr
    have e1 : idxW F = ((leadW F).length : Int) := by unfold idxW; rw [if_neg hr]
    have href := refusal_any (w.alloc (.cells #[.slice ta tl tc, .slice va vl vc, .slice ra R.length rc] 25)) B ta va tl tc vl vc (.slice ra R.length rc) R (fvW F) k hR1 (by simp; omega)
    rw [e1] at hix
    obtain ⟨ao, cap, rfl, hcp, hcm, hcn, hcin, hcc⟩ := id h
    have hcm2 : cap ≤ 9223372036854775807 := by unfold maxLen at hcm; omega
    obtain ⟨a, rfl, hab, hca⟩ := hcc _ hlt
    rw [hg] at hca
    have hca1 : (w.alloc (.cells #[.slice ta tl tc, .slice va vl vc, .slice ra R.length rc] 25)).cell? (a.add (leadW F).length) = some (.int .i64 (fvW F)) := (hbl.cell (p := a.add _) (by rw [add_block]; exact hab)).trans hca
    by_cases hE : refW R (fvW F) k = 0
    · obtain ⟨hk0, hk1, _⟩ := refW_ok hE
      obtain ⟨kn, rfl⟩ : ∃ kn : Nat, k = kn := ⟨k.toNat, by omega⟩
      obtain ⟨r, hrk⟩ : ∃ r, R[kn]? = some r := ⟨_, List.getElem?_eq_getElem (by omega)⟩
      have hrw : ruleW R (kn : Int) = r.right := by simp [ruleW, List.getD_eq_getElem?_getD, hrk]
      have hst : stepL R F kn = leadW F ++ (r.right ++ (restW F).tail) := by unfold stepL; rw [hrw]
      have htk : F.take (leadW F).length = leadW F := by
        have := List.take_left (l₁ := leadW F) (l₂ := restW F)
        rwa [lead_rest] at this
      have hs1 : SrcAt w (.slice (some a) (leadW F).length cap) (leadW F) := by
        have := (h.take (leadW F).length (by omega)).src
        rwa [htk] at this
      have hs3a : cap = (leadW F).length + 1 → SrcAt w (.slice (some a) 0 0) (restW F).tail := fun hc => by
        have hl0 : (restW F).tail = [] := by rw [← hdr]; exact List.drop_eq_nil_of_le (by omega)
        rw [hl0]
        exact ⟨some a, 0, rfl, fun h => (by cases h), fun ad _ j u hj => by simp [IV] at hj⟩
      have hs3b : SrcAt w (.slice (some ⟨a.block, a.off + ((leadW F).length + 1), none⟩) (F.length - ((leadW F).length + 1)) (cap - ((leadW F).length + 1))) (restW F).tail := by
        rw [← hdr]
        have := (h.drop ((leadW F).length + 1) (by omega) a rfl).src
        rwa [show a.add ((leadW F).length + 1) = ⟨a.block, a.off + ((leadW F).length + 1), none⟩ by unfold Addr.add; rw [if_neg (by omega)]] at this
      have HST := Lib.hid hst
      have HQ : ∀ u w', w'.ownsRow w.heap.size 3 1 u (stepL R F kn).length (IV (stepL R F kn)) → Below w.heap.size w w' → StepR R F kn w (.returned (.tuple #[u, .int .i64 0])) w' := fun u w' ho hb => ⟨u, by rw [hE], fun _ => ho, fun h => absurd hE h, hb⟩
      have HQ := Lib.hid HQ
      have HR1 := Lib.hid hR1
      rw [hE] at href
      rw [hst] at hS
      have hLn := hlt
      clear hR hR1 hrl hcc hcin hdr e1 hg hv0 hst htk hrw
      generalize leadW F = L at *
      generalize fvW F = x at *
      generalize (restW F).tail = X at *
      go_enter Try.func15, Try.ntmps15
      go_wp2_with fail
      refine hix.mono ?_
      rintro e w1 ⟨rfl, rfl⟩
      go_wp2_with fail
      refine href.mono ?_
      rintro e w2 ⟨rfl, hb2⟩
      have b2 := b0.below hb2 (by simp)
      have d2 := b2.cell 2
      simp only [List.getElem?_toArray, List.getElem?_cons_zero, List.getElem?_cons_succ] at d2
      have hbe : Below w.heap.size w w2 := hbl.trans (hb2.mono (by simp))
      have hze := hbe.size
      obtain ⟨ao2, c2', e2, _, hr2⟩ := HR1.out.below (hb2.mono (by simp; omega))
      cases e2
      obtain ⟨a2, rfl, hab2, hrl2⟩ := hr2 kn r hrk
      obtain ⟨ao3, cap3, hc3, hrow3, _⟩ := hrl2.row (by omega)
      rw [add_form a2 (kn * 3) 1 (by decide)] at hc3
      have hw1 : IntKind.i64.wrap ((L.length : Int) + 1) = (L.length : Int) + 1 := by rw [IntKind.wrap_i64]; omega
      have hA0 : (0 : Int) ≤ (L.length : Int) + 1 := by omega
      have hA1 : (L.length : Int) + 1 ≤ (F.length : Int) := by omega
      go_wp2
      by_cases hcq : cap = L.length + 1
      · have hs3c := hs3a hcq
        subst hcq
        have hA : (L.length : Int) ≤ (L.length : Int) + 1 := by omega
        have hbl3 : Below w2.heap.size w2 ((w2.drew).alloc (.cells #[.slice (some a) L.length (L.length + 1), .slice ao3 r.right.length cap3, .slice (some a) 0 0] 26)) := ((Below.refl _ w2).drew).alloc (Nat.le_refl _) _
        have hcat := concat_any ((w2.drew).alloc (.cells #[.slice (some a) L.length (L.length + 1), .slice ao3 r.right.length cap3, .slice (some a) 0 0] 26)) ⟨w2.heap.size, 0, none⟩ 3 _ [L, r.right, X] (rows_three (Blk.new w2.drew _ _) ((hs1.below hbe).below hbl3) (hrow3.src.below hbl3) ((hs3c.below hbe).below hbl3)) (by simpa using hS) (by simp)
        clear hs1 hs3a hs3b hs3c hrow3 hrl2 hr2
        go_region_law (first | (go_simp; go_at_call 49; refine hcat.mono ?_; rintro e w3 ⟨v, rfl, ho3, hb3⟩))
        all_goals
          go_wp2
          have ho4 : w3.ownsRow w.heap.size 3 1 v (stepL R F kn).length (IV (stepL R F kn)) := by
            have := own_weak (base' := w.heap.size) ho3 (by have := hbl3.size; omega)
            rw [HST.out]
            simpa using this
          refine bodyPost_ret (v := .tuple #[v, .int .i64 0]) (by simp [results, Try.results15, go_sem, Act.put]) rfl ?_
          exact HQ.out v _ ho4 ((hbe.trans (hbl3.mono hze)).trans (hb3.mono (by have := hbl3.size; omega)))
      · have hA : (L.length : Int) ≤ (cap : Int) := by omega
        have hbl3 : Below w2.heap.size w2 ((w2.drew).alloc (.cells #[.slice (some a) L.length cap, .slice ao3 r.right.length cap3, .slice (some ⟨a.block, a.off + (L.length + 1), none⟩) (F.length - (L.length + 1)) (cap - (L.length + 1))] 26)) := ((Below.refl _ w2).drew).alloc (Nat.le_refl _) _
        have hcat := concat_any ((w2.drew).alloc (.cells #[.slice (some a) L.length cap, .slice ao3 r.right.length cap3, .slice (some ⟨a.block, a.off + (L.length + 1), none⟩) (F.length - (L.length + 1)) (cap - (L.length + 1))] 26)) ⟨w2.heap.size, 0, none⟩ 3 _ [L, r.right, X] (rows_three (Blk.new w2.drew _ _) ((hs1.below hbe).below hbl3) (hrow3.src.below hbl3) ((hs3b.below hbe).below hbl3)) (by simpa using hS) (by simp)
        clear hs1 hs3a hs3b hrow3 hrl2 hr2
        go_region_law (first | (go_simp; go_at_call 49; refine hcat.mono ?_; rintro e w3 ⟨v, rfl, ho3, hb3⟩))
        all_goals
          go_wp2
          have ho4 : w3.ownsRow w.heap.size 3 1 v (stepL R F kn).length (IV (stepL R F kn)) := by
            have := own_weak (base' := w.heap.size) ho3 (by have := hbl3.size; omega)
            rw [HST.out]
            simpa using this
          refine bodyPost_ret (v := .tuple #[v, .int .i64 0]) (by simp [results, Try.results15, go_sem, Act.put]) rfl ?_
          exact HQ.out v _ ho4 ((hbe.trans (hbl3.mono hze)).trans (hb3.mono (by have := hbl3.size; omega)))
    · have HQ : ∀ w', Below w.heap.size w w' → StepR R F k w (.returned (.tuple #[.slice none 0 0, .int .i64 (refW R (fvW F) k)])) w' := fun w' hb => ⟨_, rfl, fun h => absurd h hE, fun _ => rfl, hb⟩
      have HQ := Lib.hid HQ
      generalize refW R (fvW F) k = E at *
      clear hR hR1 hrl hcc hcin hdr e1 hg hv0
      generalize leadW F = L at *
      generalize fvW F = x at *
      go_enter Try.func15, Try.ntmps15
      go_wp2_with fail
      refine hix.mono ?_
      rintro e w1 ⟨rfl, rfl⟩
      go_wp2_with fail
      refine href.mono ?_
      rintro e w2 ⟨rfl, hb2⟩
      go_wp2
      refine bodyPost_ret (v := .tuple #[.slice none 0 0, .int .i64 E]) (by simp [results, Try.results15, go_sem]) rfl ?_
      exact HQ.out _ (hbl.trans (hb2.mono (by simp)))
end Go.Proofs.Ytgcdlehcgipomaa.dv

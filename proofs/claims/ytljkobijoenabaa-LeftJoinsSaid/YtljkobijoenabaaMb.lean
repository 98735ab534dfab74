import Derived.Laws.BitsLemmas
import Derived.Deep.RegionHeld
import Derived.Test.YtljkobijoenabaaMa
namespace Go.Proofs.Ytljkobijoenabaa.dv
open Go.ChangeShapes Go.WideShapes Go.ChangeAt Go.RowKit Go.Maps Go.WideMaps Go.WideElems
set_option linter.unusedVariables false
set_option linter.unusedSimpArgs false
/-! a form's beginning -/
def leadW (F : List Int) : List Int := F.takeWhile fun x => decide (x < 0)
def restW (F : List Int) : List Int := F.dropWhile fun x => decide (x < 0)
def idxW (F : List Int) : Int := if restW F = [] then -1 else (leadW F).length
theorem lead_rest (F : List Int) : leadW F ++ restW F = F := List.takeWhile_append_dropWhile
/-- at place k, all ahead being terminals, stands a variable -/
theorem idx_at (F : List Int) (k : Nat) (hk : k < F.length) (h : ∀ i, i < k → F.getD i 0 < 0) (hv : 0 ≤ F.getD k 0) : idxW F = k ∧ leadW F = F.take k ∧ restW F = F.drop k := by
  have hl : leadW F = F.take k ∧ restW F = F.drop k := by
    have e : F = F.take k ++ F.drop k := (List.take_append_drop k F).symm
    have hd : F.drop k = F.getD k 0 :: F.drop (k + 1) := by
      rw [List.drop_eq_getElem_cons hk, List.getD_eq_getElem?_getD, List.getElem?_eq_getElem hk]; rfl
    have ht : ∀ x ∈ F.take k, decide (x < 0) = true := fun x hx => by
      obtain ⟨i, hi, rfl⟩ := List.mem_iff_getElem.1 hx
      have hi2 : i < k := by simp at hi; omega
      have := h i hi2
      rw [List.getD_eq_getElem?_getD, List.getElem?_eq_getElem (by omega)] at this
      simpa using this
    constructor
    · unfold leadW
      conv => lhs; rw [e]
      rw [List.takeWhile_append_of_pos ht, hd, List.takeWhile_cons, if_neg (by simp only [decide_eq_true_eq]; omega), List.append_nil]
    · unfold restW
      conv => lhs; rw [e]
      rw [List.dropWhile_append_of_pos ht, hd, List.dropWhile_cons, if_neg (by simp only [decide_eq_true_eq]; omega)]
  refine ⟨?_, hl⟩
  unfold idxW
  rw [hl.2, hl.1, if_neg]
  · simp; omega
  · intro e
    have := congrArg List.length e
    simp at this
    omega
theorem idx_none (F : List Int) (h : ∀ i, i < F.length → F.getD i 0 < 0) : idxW F = -1 ∧ leadW F = F ∧ restW F = [] := by
  have ht : ∀ x ∈ F, decide (x < 0) = true := fun x hx => by
    obtain ⟨i, hi, rfl⟩ := List.mem_iff_getElem.1 hx
    have := h i hi
    rw [List.getD_eq_getElem?_getD, List.getElem?_eq_getElem hi] at this
    simpa using this
  have h2 : restW F = [] := by
    have := List.dropWhile_append_of_pos (l₂ := []) ht
    simpa [restW] using this
  refine ⟨by unfold idxW; rw [if_pos h2], ?_, h2⟩
  have := lead_rest F
  rw [h2, List.append_nil] at this
  exact this
set_option maxRecDepth 100000 in
set_option maxHeartbeats 1000000 in
theorem index_any (w : World) (v : Value) (F : List Int) (h : RowAt w v F) : Calls Try.prog 44 #[v, .func (.func 45) #[] #[]] w fun e w' => e = .returned (.int .i64 (idxW F)) ∧ w' = w := by
  obtain ⟨ao, cap, rfl, hl, hm, hn, hin, hc⟩ := h
  have hlen : F.length ≤ 9223372036854775807 := by unfold maxLen at hm; omega
  have HC := Lib.hid hc
  clear hc hin
  go_enter Try.func44, Try.ntmps44
  go_wp2
  go_loopw [5, 8] (fun i q wr => ∃ k : Nat, k ≤ F.length ∧ q = .int .i64 k ∧ (∀ i, i < k → F.getD i 0 < 0) ∧ wr = w) (fun _ q _ => F.length - (intOf q).toNat)
  case atStart => exact ⟨0, Nat.zero_le _, rfl, fun i hi => absurd hi (Nat.not_lt_zero _), rfl⟩
  case round =>
    obtain ⟨k, hk, rfl, hneg, rfl⟩ := hrel
    have HN := Lib.hid hneg
    clear hneg
    by_cases hlt : k < F.length
    · obtain ⟨a, rfl, hab, hca⟩ := HC.out k hlt
      by_cases hv : 0 ≤ F.getD k 0
      · have hid := (idx_at F k hlt HN.out hv).1
        have HI := Lib.hid hid
        clear hid
        generalize F.getD k 0 = x at *
        go_wp2_with (go_at_call 45; refine (isVar_yes _ _ hv).mono ?_; rintro e w2 ⟨rfl, rfl⟩)
        go_ret
        exact ⟨by rw [HI.out]; rfl, rfl⟩
      · have hmo : ∀ i, i < k + 1 → F.getD i 0 < 0 := fun i hi => by
          rcases Nat.lt_or_ge i k with h | h
          · exact HN.out i h
          · obtain rfl : i = k := by omega
            omega
        have HM := Lib.hid hmo
        clear hmo
        generalize F.getD k 0 = x at *
        have hvn := isVar_no wr x hv
        go_wp2_with fail
        refine hvn.mono ?_
        rintro e w2 ⟨rfl, rfl⟩
        go_wp2
        exact ⟨⟨k + 1, hlt, congrArg (Value.int .i64) (by omega), HM.out, trivial⟩, by simp only [intOf]; omega⟩
    · obtain rfl : k = F.length := by omega
      have hid := (idx_none F HN.out).1
      have HI := Lib.hid hid
      clear hid
      go_wp2
      go_ret
      exact ⟨by rw [HI.out]; rfl, rfl⟩
theorem iv_step (xs : List Int) (f : Int → Int) (k : Nat) (hk : k < xs.length) : (IV ((xs.take k).map f) ++ List.replicate (xs.length - k) (Value.int .i64 0)).set k (Value.int .i64 (f (xs.getD k 0))) = IV ((xs.take (k + 1)).map f) ++ List.replicate (xs.length - (k + 1)) (Value.int .i64 0) := by
  have hl : (IV ((xs.take k).map f)).length = k := by simp [IV]; omega
  rw [List.set_append_right _ _ (by omega), hl, Nat.sub_self, List.take_succ_eq_append_getElem hk, show xs.length - k = (xs.length - (k + 1)) + 1 from by omega, List.replicate_succ, List.set_cons_zero]
  simp only [IV, List.map_append, List.map_cons, List.map_nil, List.append_assoc, List.cons_append, List.nil_append, List.getD_eq_getElem?_getD, List.getElem?_eq_getElem hk, Option.getD_some]
theorem cm_any (x : Int) (h : In64 x) : bits .xor .i64 (-1) x = -1 - x := by
  show IntKind.i64.wrap ((BitVec.ofInt 64 (-1) ^^^ BitVec.ofInt 64 x).toNat : Int) = _
  have e : BitVec.ofInt 64 (-1) = BitVec.allOnes 64 := by decide
  obtain ⟨h1, h2⟩ := h
  rw [e, BitVec.allOnes_xor, BitVec.toNat_not, BitVec.toNat_ofInt]
  rw [IntKind.wrap_i64]
  have hp : ((2 ^ 64 : Nat) : Int) = 18446744073709551616 := by decide
  have hq : (2 ^ 64 : Nat) = 18446744073709551616 := by decide
  rw [hq]
  have h3 := Int.emod_nonneg x (show (18446744073709551616 : Int) ≠ 0 by decide)
  have h4 := Int.emod_lt_of_pos x (show (0 : Int) < 18446744073709551616 by decide)
  omega
theorem cm_if (x : Int) (h : In64 x) : bits .xor .i64 (if IntKind.i64.signed = true then -1 else 9223372036854775807) x = -1 - x := cm_any x h
set_option maxRecDepth 100000 in
set_option maxHeartbeats 1000000 in
theorem numbers_any (w : World) (v : Value) (F : List Int) (h : RowAt w v F) (hF : F.length ≤ 1000000) : Calls Try.prog 48 #[v] w fun e w' => ∃ u, e = .returned u ∧ w'.ownsRow w.heap.size 3 1 u F.length (IV (F.map fun x => -1 - x)) ∧ Below w.heap.size w w' := by
  obtain ⟨i0, hi, hz0, hz1, hz2⟩ := info_parts info_int
  obtain ⟨ao, cap, rfl, hl, hm, hn, hin, hc⟩ := h
  have HC := Lib.hid hc
  have HIN := Lib.hid hin
  clear hc hin
  go_enter Try.func48, Try.ntmps48
  go_wp2_with (at_make; refine wpList_make_full _ rfl _ _ 26 rfl w.heap.size 3 i0 (.int .i64 0) 1 Try.underlying26 hi hz0 hz1 .i64 .i64 _ _ F.length rfl rfl rfl rfl (by rw [hz2]; omega) (by unfold maxLen; omega) (Nat.le_refl _) ?_; intro w0 hown0 hgrow0)
  have hB0 : Below w.heap.size w w0 := (Below.refl _ _).grown hgrow0 (Nat.le_refl _) (fun k h => by cases h)
  rw [show (Value.int IntKind.i64 0).cells = #[.int .i64 0] from rfl, toList_madeCells_one, Nat.mul_one] at hown0
  clear hgrow0
  go_loopw [11] (fun i wr => ∃ k : Nat, k ≤ F.length ∧ i = .int .i64 k ∧ wr.ownsRow w.heap.size 3 1 (.slice (some ⟨w.heap.size, 0, none⟩) F.length F.length) F.length (IV ((F.take k).map fun x => -1 - x) ++ List.replicate (F.length - k) (.int .i64 0)) ∧ Below w.heap.size w wr) (fun i _ => F.length - (intOf i).toNat)
  case atStart => exact ⟨0, Nat.zero_le _, rfl, hown0, hB0⟩
  case round =>
    obtain ⟨k, hk, rfl, hown, hbel⟩ := hrel
    clear hown0 hB0
    by_cases hlt : k < F.length
    · have hcw : wr.cell? ⟨w.heap.size, k, none⟩ = some (.int .i64 0) := by
        rw [hown.cellAt k (by omega), List.getElem?_append_right (by simp [IV]; omega), List.getElem?_replicate]
        simp [IV]
        omega
      have hfw := hown.frozenAt k
      obtain ⟨a, rfl, hab, hca⟩ := HC.out k hlt
      have hca2 : wr.cell? (a.add k) = some (.int .i64 (F.getD k 0)) := (hbel.cell (p := a.add k) (by rw [add_block]; exact hab)).trans hca
      have hst := iv_step F (fun x => -1 - x) k hlt
      have hnum := HIN.out (F.getD k 0) (by rw [List.getD_eq_getElem?_getD, List.getElem?_eq_getElem hlt]; simp)
      clear hca
      generalize F.getD k 0 = x at *
      have HS := Lib.hid hst
      clear hst
      go_wp2_with fail
      obtain ⟨o1, o2⟩ := hown.stored k (.int .i64 (-1 - x))
      rw [HS.out] at o1
      rw [cm_if x hnum]
      exact ⟨⟨k + 1, by omega, congrArg (Value.int .i64) (by omega), o1, hbel.grown o2 hbel.size (fun k h => by cases h; exact Nat.le_refl _)⟩, by simp only [intOf]; omega⟩
    · have hkk : k = F.length := by omega
      subst hkk
      go_wp2
      go_ret
      refine ⟨_, rfl, ?_, hbel⟩
      rw [List.take_length, Nat.sub_self, List.replicate_zero, List.append_nil] at hown
      exact hown
end Go.Proofs.Ytljkobijoenabaa.dv
namespace Go.Proofs.Ytljkobijoenabaa.dv
set_option linter.unusedVariables false
/-! marks -/
def at_ (S : List Bool) (s : Int) : Bool := S.getD s.toNat false
def le (S X : List Bool) : Prop := ∀ v : Nat, S.getD v false = true → X.getD v false = true
theorem le.refl (S : List Bool) : le S S := fun _ h => h
theorem le.trans {A B C : List Bool} (h : le A B) (k : le B C) : le A C := fun v hv => k v (h v hv)
theorem le.anti {A B : List Bool} (h : le A B) (k : le B A) (hl : A.length = B.length) : A = B := by
  apply List.ext_getElem hl
  intro i h1 h2
  have a := h i
  have b := k i
  rw [List.getD_eq_getElem?_getD, List.getD_eq_getElem?_getD, List.getElem?_eq_getElem h1, List.getElem?_eq_getElem h2] at a b
  simp only [Option.getD_some] at a b
  cases x : A[i] <;> cases y : B[i] <;> simp_all
/-- all variables of a form are marked; none: and it has no terminals -/
def allB (S : List Bool) (none : Bool) (r : List Int) : Bool := r.all fun s => if s < 0 then !none else at_ S s
theorem allB_mono {S X : List Bool} {none : Bool} {r : List Int} (h : le S X) (ha : allB S none r = true) : allB X none r = true := by
  unfold allB at *
  rw [List.all_eq_true] at *
  intro s hs
  have := ha s hs
  by_cases h0 : s < 0
  · rw [if_pos h0] at *; exact this
  · rw [if_neg h0] at *; exact h _ this
def Closed (R : List Rl) (none : Bool) (S : List Bool) : Prop := ∀ r ∈ R, allB S none r.right = true → at_ S r.left = true
def cnt (S : List Bool) : Nat := (S.filter id).length
theorem cnt_le (S : List Bool) : cnt S ≤ S.length := List.length_filter_le _ _
theorem set_at (S : List Bool) (k v : Nat) : (S.set k true).getD v false = true ↔ (S.getD v false = true ∨ (v = k ∧ k < S.length)) := by
  rw [List.getD_eq_getElem?_getD, List.getD_eq_getElem?_getD, List.getElem?_set]
  by_cases h : k = v
  · subst h
    rw [if_pos rfl]
    by_cases hl : k < S.length
    · simp [hl]
    · simp [hl]
  · rw [if_neg h]
    constructor
    · exact fun h => .inl h
    · rintro (h1 | ⟨h1, _⟩)
      · exact h1
      · exact absurd h1.symm h
theorem cnt_set : ∀ (S : List Bool) (k : Nat), k < S.length → S.getD k false = false → cnt (S.set k true) = cnt S + 1
  | [], k, h, _ => by simp at h
  | b :: S, 0, _, h => by
    obtain rfl : b = false := by simpa using h
    simp [cnt]
  | b :: S, k + 1, h, h2 => by
    have := cnt_set S k (by simpa using h) (by simpa using h2)
    unfold cnt at *
    cases b <;> simp_all
theorem cnt_mono : ∀ (S X : List Bool), S.length = X.length → le S X → cnt S ≤ cnt X ∧ (cnt S = cnt X → S = X)
  | [], [], _, _ => ⟨Nat.le_refl _, fun _ => rfl⟩
  | b :: S, c :: X, hl, h => by
    have h1 := cnt_mono S X (by simpa using hl) (fun v hv => by have := h (v + 1); simp at this; exact this (by simpa using hv))
    have h0 := h 0
    have hS := h1.2
    unfold cnt at *
    cases b <;> cases c <;> simp_all <;> omega
theorem cnt_full {S : List Bool} (h : cnt S = S.length) (v : Nat) (hv : v < S.length) : S.getD v false = true := by
  have h2 : S.filter id = S := (List.filter_sublist).eq_of_length h
  have := List.filter_eq_self.1 h2 S[v] (List.getElem_mem _)
  rw [List.getD_eq_getElem?_getD, List.getElem?_eq_getElem hv]
  simpa using this
/-- one round of the document's -/
def roundB (none : Bool) (S : List Bool) : List Rl → List Bool → List Bool
  | [], N => N
  | r :: R, N => roundB none S R (if allB S none r.right then N.set r.left.toNat true else N)
theorem round_len (none : Bool) (S : List Bool) : ∀ (R : List Rl) (N : List Bool), (roundB none S R N).length = N.length
  | [], N => rfl
  | r :: R, N => by
    unfold roundB
    rw [round_len none S R]
    split <;> simp
theorem round_ge (none : Bool) (S : List Bool) : ∀ (R : List Rl) (N : List Bool), le N (roundB none S R N)
  | [], N => le.refl _
  | r :: R, N => by
    unfold roundB
    refine le.trans ?_ (round_ge none S R _)
    split
    · exact fun v hv => (set_at _ _ _).2 (.inl hv)
    · exact le.refl _
theorem round_has (none : Bool) (S : List Bool) : ∀ (R : List Rl) (N : List Bool) (r : Rl), r ∈ R → allB S none r.right = true → r.left.toNat < N.length → at_ (roundB none S R N) r.left = true
  | r' :: R, N, r, hm, ha, hl => by
    unfold roundB
    rcases List.mem_cons.1 hm with rfl | hm
    · rw [if_pos ha]
      exact round_ge none S R _ _ ((set_at _ _ _).2 (.inr ⟨rfl, hl⟩))
    · refine round_has none S R _ r hm ha ?_
      split <;> simpa using hl
theorem round_le (none : Bool) (S : List Bool) {X : List Bool} {R0 : List Rl} (hX : Closed R0 none X) (hS : le S X) : ∀ (R : List Rl) (N : List Bool), (∀ r ∈ R, r ∈ R0) → le N X → le (roundB none S R N) X
  | [], N, _, h => h
  | r :: R, N, hR, h => by
    unfold roundB
    refine round_le none S hX hS R _ (fun r' hr => hR r' (List.mem_cons_of_mem _ hr)) ?_
    split
    · rename_i ha
      intro v hv
      rcases (set_at _ _ _).1 hv with h1 | ⟨rfl, _⟩
      · exact h v h1
      · exact hX r (hR r (by simp)) (allB_mono hS ha)
    · exact h
/-- k rounds -/
def roundsB (R : List Rl) (none : Bool) : Nat → List Bool → List Bool
  | 0, S => S
  | k + 1, S => roundsB R none k (roundB none S R S)
theorem rounds_len (R : List Rl) (none : Bool) : ∀ (k : Nat) (S : List Bool), (roundsB R none k S).length = S.length
  | 0, S => rfl
  | k + 1, S => by rw [roundsB, rounds_len R none k, round_len]
theorem rounds_le (R : List Rl) (none : Bool) {X : List Bool} (hX : Closed R none X) : ∀ (k : Nat) (S : List Bool), le S X → le (roundsB R none k S) X
  | 0, S, h => h
  | k + 1, S, h => rounds_le R none hX k _ (round_le none S hX h R S (fun r hr => hr) h)
theorem round_closed {R : List Rl} {none : Bool} {S : List Bool} (hl : ∀ r ∈ R, r.left.toNat < S.length) (h : roundB none S R S = S) : Closed R none S := fun r hr ha => by
  have := round_has none S R S r hr ha (hl r hr)
  rwa [h] at this
theorem rounds_fix {R : List Rl} {none : Bool} {S : List Bool} (h : roundB none S R S = S) : ∀ k, roundsB R none k S = S
  | 0 => rfl
  | k + 1 => by rw [roundsB, h]; exact rounds_fix h k
theorem rounds_closed {R : List Rl} {none : Bool} : ∀ (k : Nat) (S : List Bool), (∀ r ∈ R, r.left.toNat < S.length) → S.length ≤ k + cnt S → Closed R none (roundsB R none k S)
  | 0, S, hl, hc => fun r hr _ => by
    have h1 := cnt_le S
    exact cnt_full (S := S) (by omega) _ (hl r hr)
  | k + 1, S, hl, hc => by
    have hlen := round_len none S R S
    by_cases h : roundB none S R S = S
    · rw [rounds_fix h]
      exact round_closed hl h
    · rw [roundsB]
      have hm := cnt_mono S (roundB none S R S) hlen.symm (round_ge none S R S)
      refine rounds_closed k _ (fun r hr => by rw [hlen]; exact hl r hr) ?_
      have hne : cnt S ≠ cnt (roundB none S R S) := fun e => h (hm.2 e).symm
      rw [hlen]
      omega
/-- what is closed and stands below all that is closed is the rounds' end -/
theorem least_rounds {R : List Rl} {none : Bool} {n : Nat} {S : List Bool} (hn : S.length = n) (hl : ∀ r ∈ R, r.left.toNat < n) (hc : Closed R none S) (hm : ∀ X : List Bool, X.length = n → Closed R none X → le S X) : S = roundsB R none n (List.replicate n false) := by
  have hlen : (roundsB R none n (List.replicate n false)).length = n := by rw [rounds_len]; simp
  refine le.anti (hm _ hlen (rounds_closed n _ (fun r hr => by simpa using hl r hr) (by simp))) (rounds_le R none hc n _ fun v hv => ?_) (by rw [hn, hlen])
  rw [List.getD_eq_getElem?_getD, List.getElem?_replicate] at hv
  split at hv <;> simp at hv
/-! what stands in a derivation of a word: rules in their place -/
def ClosedU (R : List Rl) (W : List Bool) (S : List Bool) : Prop := ∀ r ∈ R, at_ S r.left = true → allB W false r.right = true → ∀ s ∈ r.right, 0 ≤ s → at_ S s = true
/-- the variables of a form, one behind the other -/
def markF (W : List Bool) (r : Rl) : List Int → List Bool → List Bool
  | [], S => S
  | s :: F, S => markF W r F (if 0 ≤ s ∧ at_ S r.left = true ∧ allB W false r.right = true then S.set s.toNat true else S)
def markR (W : List Bool) : List Rl → List Bool → List Bool
  | [], S => S
  | r :: R, S => markR W R (markF W r r.right S)
def marksR (W : List Bool) (R : List Rl) : Nat → List Bool → List Bool
  | 0, S => S
  | k + 1, S => marksR W R k (markR W R S)
theorem markF_len (W : List Bool) (r : Rl) : ∀ (F : List Int) (S : List Bool), (markF W r F S).length = S.length
  | [], S => rfl
  | s :: F, S => by
    unfold markF
    rw [markF_len W r F]
    split <;> simp
theorem markF_ge (W : List Bool) (r : Rl) : ∀ (F : List Int) (S : List Bool), le S (markF W r F S)
  | [], S => le.refl _
  | s :: F, S => by
    unfold markF
    refine le.trans ?_ (markF_ge W r F _)
    split
    · exact fun v hv => (set_at _ _ _).2 (.inl hv)
    · exact le.refl _
theorem markR_len (W : List Bool) : ∀ (R : List Rl) (S : List Bool), (markR W R S).length = S.length
  | [], S => rfl
  | r :: R, S => by rw [markR, markR_len W R, markF_len]
theorem markR_ge (W : List Bool) : ∀ (R : List Rl) (S : List Bool), le S (markR W R S)
  | [], S => le.refl _
  | r :: R, S => le.trans (markF_ge W r r.right S) (markR_ge W R _)
theorem markF_le (W : List Bool) (r : Rl) {X : List Bool} (hX : at_ X r.left = true → allB W false r.right = true → ∀ s ∈ r.right, 0 ≤ s → at_ X s = true) : ∀ (F : List Int) (S : List Bool), (∀ s ∈ F, s ∈ r.right) → le S X → le (markF W r F S) X
  | [], S, _, h => h
  | s :: F, S, hF, h => by
    unfold markF
    refine markF_le W r hX F _ (fun t ht => hF t (List.mem_cons_of_mem _ ht)) ?_
    split
    · rename_i hc
      intro v hv
      rcases (set_at _ _ _).1 hv with h1 | ⟨rfl, _⟩
      · exact h v h1
      · exact hX (h _ hc.2.1) hc.2.2 s (hF s (by simp)) hc.1
    · exact h
theorem markR_le (W : List Bool) {X : List Bool} {R0 : List Rl} (hX : ClosedU R0 W X) : ∀ (R : List Rl) (S : List Bool), (∀ r ∈ R, r ∈ R0) → le S X → le (markR W R S) X
  | [], S, _, h => h
  | r :: R, S, hR, h => markR_le W hX R _ (fun t ht => hR t (List.mem_cons_of_mem _ ht)) (markF_le W r (hX r (hR r (by simp))) r.right S (fun _ h => h) h)
theorem marksR_len (W : List Bool) (R : List Rl) : ∀ (k : Nat) (S : List Bool), (marksR W R k S).length = S.length
  | 0, S => rfl
  | k + 1, S => by rw [marksR, marksR_len W R k, markR_len]
theorem marksR_le (W : List Bool) (R : List Rl) {X : List Bool} (hX : ClosedU R W X) : ∀ (k : Nat) (S : List Bool), le S X → le (marksR W R k S) X
  | 0, S, h => h
  | k + 1, S, h => marksR_le W R hX k _ (markR_le W hX R S (fun _ h => h) h)
theorem marksR_ge (W : List Bool) (R : List Rl) : ∀ (k : Nat) (S : List Bool), le S (marksR W R k S)
  | 0, S => le.refl _
  | k + 1, S => le.trans (markR_ge W R S) (marksR_ge W R k _)
/-- whatever is marked from is marked then -/
theorem markF_has (W : List Bool) (r : Rl) : ∀ (F : List Int) (S : List Bool) (s : Int), s ∈ F → 0 ≤ s → s.toNat < S.length → at_ S r.left = true → allB W false r.right = true → at_ (markF W r F S) s = true
  | t :: F, S, s, hm, h0, hl, hs, ha => by
    unfold markF
    rcases List.mem_cons.1 hm with rfl | hm
    · rw [if_pos ⟨h0, hs, ha⟩]
      exact markF_ge W r F _ _ ((set_at _ _ _).2 (.inr ⟨rfl, hl⟩))
    · refine markF_has W r F _ s hm h0 (by split <;> simpa using hl) ?_ ha
      split
      · exact (set_at _ _ _).2 (.inl hs)
      · exact hs
theorem markR_has (W : List Bool) : ∀ (R : List Rl) (S : List Bool) (r : Rl) (s : Int), r ∈ R → s ∈ r.right → 0 ≤ s → s.toNat < S.length → at_ S r.left = true → allB W false r.right = true → at_ (markR W R S) s = true
  | q :: R, S, r, s, hm, hs, h0, hl, ha, hb => by
    rw [markR]
    rcases List.mem_cons.1 hm with rfl | hm
    · exact markR_ge W R _ _ (markF_has W r r.right S s hs h0 hl ha hb)
    · exact markR_has W R _ r s hm hs h0 (by rw [markF_len]; exact hl) (markF_ge W q q.right S _ ha) hb
theorem markR_closed {W : List Bool} {R : List Rl} {S : List Bool} (hv : ∀ r ∈ R, ∀ s ∈ r.right, 0 ≤ s → s.toNat < S.length) (h : markR W R S = S) : ClosedU R W S := fun r hr ha hb s hs h0 => by
  have := markR_has W R S r s hr hs h0 (hv r hr s hs h0) ha hb
  rwa [h] at this
theorem marksR_fix {W : List Bool} {R : List Rl} {S : List Bool} (h : markR W R S = S) : ∀ k, marksR W R k S = S
  | 0 => rfl
  | k + 1 => by rw [marksR, h]; exact marksR_fix h k
theorem marksR_closed {W : List Bool} {R : List Rl} : ∀ (k : Nat) (S : List Bool), (∀ r ∈ R, ∀ s ∈ r.right, 0 ≤ s → s.toNat < S.length) → S.length ≤ k + cnt S → ClosedU R W (marksR W R k S)
  | 0, S, hv, hc => fun r hr _ _ s hs h0 => by
    have h1 := cnt_le S
    exact cnt_full (S := S) (by omega) _ (hv r hr s hs h0)
  | k + 1, S, hv, hc => by
    have hlen := markR_len W R S
    by_cases h : markR W R S = S
    · rw [marksR_fix h]
      exact markR_closed hv h
    · rw [marksR]
      have hm := cnt_mono S (markR W R S) hlen.symm (markR_ge W R S)
      refine marksR_closed k _ (fun r hr => by rw [hlen]; exact hv r hr) ?_
      have hne : cnt S ≠ cnt (markR W R S) := fun e => h (hm.2 e).symm
      rw [hlen]
      omega
/-- what is closed, has the first ones and stands below all such is the passes' end -/
theorem least_marks {W : List Bool} {R : List Rl} {n : Nat} {S S0 : List Bool} (h0 : S0.length = n) (hn : S.length = n) (hv : ∀ r ∈ R, ∀ s ∈ r.right, 0 ≤ s → s.toNat < n) (hc : ClosedU R W S) (hs : le S0 S) (hm : ∀ X : List Bool, X.length = n → ClosedU R W X → le S0 X → le S X) : S = marksR W R n S0 := by
  have hlen : (marksR W R n S0).length = n := by rw [marksR_len]; exact h0
  exact le.anti (hm _ hlen (marksR_closed n _ (fun r hr s h => by rw [h0]; exact hv r hr s h) (by omega)) (marksR_ge W R n S0)) (marksR_le W R hc n _ hs) (by rw [hn, hlen])
/-! how long shortest words are -/
def Far : Nat := 1073741824
def sumC (f : Nat → Nat) (F : List Int) : Nat := (F.map fun s => if s < 0 then 1 else f s.toNat).sum
theorem sumC_mono {f g : Nat → Nat} : ∀ (F : List Int), (∀ s ∈ F, 0 ≤ s → f s.toNat ≤ g s.toNat) → sumC f F ≤ sumC g F
  | [], _ => Nat.le_refl _
  | s :: F, h => by
    have h1 := sumC_mono F (fun t ht => h t (List.mem_cons_of_mem _ ht))
    have h2 := h s (by simp)
    unfold sumC at *
    simp only [List.map_cons, List.sum_cons]
    split
    · omega
    · have := h2 (by omega)
      omega
theorem sumC_more {f g : Nat → Nat} (hfg : ∀ v, f v ≤ g v) : ∀ (F : List Int), (∃ s ∈ F, 0 ≤ s ∧ f s.toNat + 1 ≤ g s.toNat) → sumC f F + 1 ≤ sumC g F
  | [], ⟨s, hs, _⟩ => by cases hs
  | s :: F, ⟨t, ht, h0, h1⟩ => by
    have hm : sumC f F ≤ sumC g F := sumC_mono F (fun t _ _ => hfg _)
    rcases List.mem_cons.1 ht with rfl | ht
    · unfold sumC at *
      simp only [List.map_cons, List.sum_cons]
      rw [if_neg (by omega), if_neg (by omega)]
      omega
    · have h2 := sumC_more hfg F ⟨t, ht, h0, h1⟩
      have := hfg s.toNat
      unfold sumC at *
      simp only [List.map_cons, List.sum_cons]
      split <;> omega
theorem sumC_eq {f g : Nat → Nat} (F : List Int) (h : ∀ s ∈ F, 0 ≤ s → f s.toNat = g s.toNat) : sumC f F = sumC g F :=
  Nat.le_antisymm (sumC_mono F fun s hs h0 => Nat.le_of_eq (h s hs h0)) (sumC_mono F fun s hs h0 => Nat.le_of_eq (h s hs h0).symm)
theorem sumC_far {f : Nat → Nat} : ∀ (F : List Int), (∃ s ∈ F, 0 ≤ s ∧ Far ≤ f s.toNat) → Far ≤ sumC f F
  | [], ⟨s, hs, _⟩ => by cases hs
  | s :: F, ⟨t, ht, h0, h1⟩ => by
    rcases List.mem_cons.1 ht with rfl | ht
    · unfold sumC
      simp only [List.map_cons, List.sum_cons]
      rw [if_neg (by omega)]
      omega
    · have := sumC_far F ⟨t, ht, h0, h1⟩
      unfold sumC at *
      simp only [List.map_cons, List.sum_cons]
      omega
/-- no rule makes anything shorter -/
def InT (R : List Rl) (f : Nat → Nat) : Prop := ∀ r ∈ R, f r.left.toNat ≤ sumC f r.right
def upd (f : Nat → Nat) (k u : Nat) : Nat → Nat := fun v => if v = k then u else f v
/-- one pass of the document's -/
def passF : List Rl → (Nat → Nat) → Nat → Nat
  | [], f => f
  | r :: R, f => passF R (upd f r.left.toNat (min (f r.left.toNat) (sumC f r.right)))
def passesF (R : List Rl) : Nat → (Nat → Nat) → Nat → Nat
  | 0, f => f
  | k + 1, f => passesF R k (passF R f)
theorem upd_le (f : Nat → Nat) (k u : Nat) (h : u ≤ f k) (v : Nat) : upd f k u v ≤ f v := by
  unfold upd
  split
  · rename_i e; rw [e]; exact h
  · exact Nat.le_refl _
theorem pass_le : ∀ (R : List Rl) (f : Nat → Nat) (v : Nat), passF R f v ≤ f v
  | [], f, v => Nat.le_refl _
  | r :: R, f, v => Nat.le_trans (pass_le R _ v) (upd_le f _ _ (Nat.min_le_left _ _) v)
theorem pass_ge {R0 : List Rl} {D : Nat → Nat} (hD : InT R0 D) : ∀ (R : List Rl) (f : Nat → Nat), (∀ r ∈ R, r ∈ R0) → (∀ v, D v ≤ f v) → ∀ v, D v ≤ passF R f v
  | [], f, _, h, v => h v
  | r :: R, f, hR, h, v => by
    refine pass_ge hD R _ (fun t ht => hR t (List.mem_cons_of_mem _ ht)) (fun u => ?_) v
    unfold upd
    split
    · rename_i e
      rw [e]
      have h1 := hD r (hR r (by simp))
      have h2 := sumC_mono (f := D) (g := f) r.right (fun s _ _ => h _)
      have h3 := h r.left.toNat
      omega
    · exact h u
/-- a rule whose variables are known makes its own known -/
theorem pass_has {R0 : List Rl} {D : Nat → Nat} (hD : InT R0 D) : ∀ (R : List Rl) (f : Nat → Nat), (∀ r ∈ R, r ∈ R0) → (∀ v, D v ≤ f v) → ∀ r ∈ R, sumC D r.right ≤ D r.left.toNat → (∀ s ∈ r.right, 0 ≤ s → f s.toNat = D s.toNat) → passF R f r.left.toNat = D r.left.toNat
  | q :: R, f, hR, h, r, hr, hs, hf => by
    have hge : ∀ v, D v ≤ upd f q.left.toNat (min (f q.left.toNat) (sumC f q.right)) v := pass_ge hD [q] f (fun t ht => by rw [List.mem_singleton.1 ht]; exact hR q (by simp)) h
    have hle : ∀ v, upd f q.left.toNat (min (f q.left.toNat) (sumC f q.right)) v ≤ f v := fun v => upd_le f _ _ (Nat.min_le_left _ _) v
    have hR' : ∀ t ∈ R, t ∈ R0 := fun t ht => hR t (List.mem_cons_of_mem _ ht)
    rcases List.mem_cons.1 hr with rfl | hr
    · have e := sumC_eq r.right hf
      have h1 : upd f r.left.toNat (min (f r.left.toNat) (sumC f r.right)) r.left.toNat ≤ D r.left.toNat := by
        unfold upd
        rw [if_pos rfl, e]
        omega
      have h2 := pass_le R (upd f r.left.toNat (min (f r.left.toNat) (sumC f r.right))) r.left.toNat
      have h3 := pass_ge hD R _ hR' hge r.left.toNat
      show passF R _ _ = _
      omega
    · exact pass_has hD R _ hR' hge r hr hs (fun s hs' h0 => Nat.le_antisymm (Nat.le_trans (hle _) (Nat.le_of_eq (hf s hs' h0))) (hge _))
/-- among those that aren't known yet is one that will be -/
theorem next_known {R : List Rl} {n : Nat} {D f : Nat → Nat} (hD : InT R D) (hF : ∀ v, D v ≤ Far) (hn : ∀ v, n ≤ v → D v = Far) (hmax : ∀ g : Nat → Nat, InT R g → (∀ v, g v ≤ Far) → ∀ v, g v ≤ D v) (hf : ∀ v, D v ≤ f v) (hff : ∀ v, f v ≤ Far) (v : Nat) (hv : f v ≠ D v) :
    ∃ r ∈ R, f r.left.toNat ≠ D r.left.toNat ∧ sumC D r.right ≤ D r.left.toNat ∧ ∀ s ∈ r.right, 0 ≤ s → f s.toNat = D s.toNat := by
  apply Classical.byContradiction
  intro hno
  have hY : InT R (fun u => if f u = D u then D u else min (D u + 1) Far) := by
    intro r hr
    have hge : ∀ u, D u ≤ (if f u = D u then D u else min (D u + 1) Far) := fun u => by
      have := hF u
      split <;> omega
    have h1 := hD r hr
    have h2 := sumC_mono (f := D) (g := fun u => if f u = D u then D u else min (D u + 1) Far) r.right (fun s _ _ => hge _)
    show (if f r.left.toNat = D r.left.toNat then D r.left.toNat else min (D r.left.toNat + 1) Far) ≤ _
    by_cases hl : f r.left.toNat = D r.left.toNat
    · rw [if_pos hl]; omega
    · rw [if_neg hl]
      by_cases hall : ∀ s ∈ r.right, 0 ≤ s → f s.toNat = D s.toNat
      · have : ¬ sumC D r.right ≤ D r.left.toNat := fun h => hno ⟨r, hr, hl, h, hall⟩
        omega
      · have hex : ∃ s ∈ r.right, 0 ≤ s ∧ f s.toNat ≠ D s.toNat := by
          apply Classical.byContradiction
          intro h
          exact hall fun s hs h0 => Classical.byContradiction fun e => h ⟨s, hs, h0, e⟩
        obtain ⟨s, hs, h0, hne⟩ := hex
        by_cases hfar : D s.toNat < Far
        · have := sumC_more (f := D) (g := fun u => if f u = D u then D u else min (D u + 1) Far) hge r.right ⟨s, hs, h0, by
            show D s.toNat + 1 ≤ (if f s.toNat = D s.toNat then D s.toNat else min (D s.toNat + 1) Far)
            rw [if_neg hne]; omega⟩
          omega
        · have h3 := hf s.toNat
          have h4 := hff s.toNat
          omega
  have hb := hmax _ hY (fun u => by
    have := hF u
    show (if f u = D u then D u else min (D u + 1) Far) ≤ Far
    split <;> omega) v
  have h1 := hf v
  have h2 := hff v
  rw [if_neg hv] at hb
  omega
def uns (n : Nat) (D f : Nat → Nat) : Nat := ((List.range n).filter fun v => decide (f v ≠ D v)).length
theorem filter_lt {p q : Nat → Bool} : ∀ (l : List Nat), (∀ v ∈ l, q v = true → p v = true) → (∃ v ∈ l, p v = true ∧ q v = false) → (l.filter q).length + 1 ≤ (l.filter p).length
  | [], _, ⟨v, hv, _⟩ => by cases hv
  | a :: l, h, ⟨v, hv, h1, h2⟩ => by
    have hsub : (l.filter q).length ≤ (l.filter p).length := by
      rw [← List.countP_eq_length_filter, ← List.countP_eq_length_filter]
      exact List.countP_mono_left fun v hv hq => h v (List.mem_cons_of_mem _ hv) hq
    rcases List.mem_cons.1 hv with rfl | hv
    · rw [List.filter_cons, List.filter_cons, if_pos h1, h2]
      simp
      omega
    · have ih := filter_lt l (fun v hv => h v (List.mem_cons_of_mem _ hv)) ⟨v, hv, h1, h2⟩
      have ha := h a (by simp)
      rw [List.filter_cons, List.filter_cons]
      cases hq : q a
      · cases hp : p a <;> simp <;> omega
      · rw [ha hq]; simp; omega
theorem passes_known {R : List Rl} {n : Nat} {D : Nat → Nat} (hl : ∀ r ∈ R, r.left.toNat < n) (hD : InT R D) (hF : ∀ v, D v ≤ Far) (hn : ∀ v, n ≤ v → D v = Far) (hmax : ∀ g : Nat → Nat, InT R g → (∀ v, g v ≤ Far) → ∀ v, g v ≤ D v) :
    ∀ (k : Nat) (f : Nat → Nat), (∀ v, D v ≤ f v) → (∀ v, f v ≤ Far) → uns n D f ≤ k → ∀ v, passesF R k f v = D v
  | 0, f, hf, hff, hu, v => by
    apply Classical.byContradiction
    intro hv
    by_cases hvn : v < n
    · have hm : v ∈ (List.range n).filter fun v => decide (f v ≠ D v) := by
        rw [List.mem_filter]
        exact ⟨by simpa using hvn, decide_eq_true (show f v ≠ D v from hv)⟩
      have := List.length_pos_of_mem hm
      unfold uns at hu
      omega
    · have h1 := hn v (by omega)
      have h2 := hf v
      have h3 := hff v
      exact hv (show f v = D v by omega)
  | k + 1, f, hf, hff, hu, v => by
    refine passes_known hl hD hF hn hmax k _ (pass_ge hD R f (fun _ h => h) hf) (fun v => Nat.le_trans (pass_le R f v) (hff v)) ?_ v
    have hle := pass_le R f
    have hge := pass_ge hD R f (fun _ h => h) hf
    by_cases hall : ∀ v, f v = D v
    · have : uns n D (passF R f) = 0 := by
        unfold uns
        rw [List.length_eq_zero_iff, List.filter_eq_nil_iff]
        intro v _
        have h1 := hall v
        have h2 := hle v
        have h3 := hge v
        simp
        omega
      omega
    · have hex : ∃ v, f v ≠ D v := by
        apply Classical.byContradiction
        intro h
        exact hall fun v => Classical.byContradiction fun e => h ⟨v, e⟩
      obtain ⟨u, hu2⟩ := hex
      obtain ⟨r, hr, h1, h2, h3⟩ := next_known hD hF hn hmax hf hff u hu2
      have h4 := pass_has hD R f (fun _ h => h) hf r hr h2 h3
      have := filter_lt (p := fun v => decide (f v ≠ D v)) (q := fun v => decide (passF R f v ≠ D v)) (List.range n) (fun v _ hq => by
        have a := hle v
        have b := hge v
        simp at hq ⊢
        omega) ⟨r.left.toNat, by simpa using hl r hr, by simpa using h1, by simpa using h4⟩
      unfold uns at *
      omega
/-! ways: of how many terminals, by how many steps, and by which rule first -/
abbrev Way := Nat × Nat × Int
def noW : Way := (Far, Far, -1)
def wat (W : List Way) (s : Int) : Way := if s < 0 then (1, 0, -1) else W.getD s.toNat noW
def cS (W : List Way) (F : List Int) : Nat := (F.map fun s => (wat W s).1).sum
def sS (W : List Way) (F : List Int) : Nat := (F.map fun s => (wat W s).2.1).sum
def wayB (W : List Way) (i : Nat) (F : List Int) : Way := if Far ≤ cS W F then noW else (cS W F, min (1 + sS W F) Far, (i : Int))
/-- w is ahead of o -/
def ahd (w o : Way) : Prop := w.1 < o.1 ∨ (w.1 = o.1 ∧ w.2.1 < o.2.1)
/-- w isn't behind o -/
def leq (w o : Way) : Prop := w.1 < o.1 ∨ (w.1 = o.1 ∧ w.2.1 ≤ o.2.1)
theorem leq.refl (w : Way) : leq w w := .inr ⟨rfl, Nat.le_refl _⟩
theorem leq.trans {a b c : Way} (h : leq a b) (k : leq b c) : leq a c := by unfold leq at *; omega
theorem not_ahd {w o : Way} (h : leq o w) : ¬ ahd w o := by unfold leq ahd at *; omega
theorem ahd.leq {w o : Way} (h : ahd w o) : leq w o := by unfold ahd at h; unfold dv.leq; omega
theorem leq_of_not {w o : Way} (h : ¬ ahd w o) : leq o w := by unfold ahd at h; unfold leq; omega
theorem sum_ge (g : Int → Nat) : ∀ (F : List Int) (s : Int), s ∈ F → g s ≤ (F.map g).sum
  | t :: F, s, h => by
    simp only [List.map_cons, List.sum_cons]
    rcases List.mem_cons.1 h with rfl | h
    · omega
    · have := sum_ge g F s h; omega
structure Inv (R : List Rl) (n : Nat) (W : List Way) : Prop where
  len : W.length = n
  small : ∀ v, (W.getD v noW).1 ≤ Far ∧ (W.getD v noW).2.1 ≤ Far
  form : ∀ v, W.getD v noW = noW ∨ ((W.getD v noW).1 < Far ∧ ∃ (k : Nat) (r : Rl), (W.getD v noW).2.2 = k ∧ R[k]? = some r ∧ r.left = v ∧ leq (wayB W k r.right) (W.getD v noW))
  rank : ∃ rk : Nat → Nat, ∀ v (k : Nat) (r : Rl), (W.getD v noW).2.2 = k → R[k]? = some r → ∀ s ∈ r.right, 0 ≤ s → rk s.toNat < rk v
theorem far_lt {W : List Way} {F : List Int} (h : cS W F < Far) (s : Int) (hs : s ∈ F) : (wat W s).1 < Far := by
  have := sum_ge (fun s => (wat W s).1) F s hs
  unfold cS at h
  omega
theorem wat_var {W : List Way} {s : Int} (h : 0 ≤ s) : wat W s = W.getD s.toNat noW := by unfold wat; rw [if_neg (by omega)]
/-- what a way is made of isn't behind it -/
theorem way_ge {W : List Way} {i : Nat} {F : List Int} {s : Int} (hs : s ∈ F) (h0 : 0 ≤ s) (hsm : (W.getD s.toNat noW).1 ≤ Far ∧ (W.getD s.toNat noW).2.1 ≤ Far) : leq (W.getD s.toNat noW) (wayB W i F) := by
  have h1 := sum_ge (fun s => (wat W s).1) F s hs
  have h2 := sum_ge (fun s => (wat W s).2.1) F s hs
  simp only [wat_var h0] at h1 h2
  unfold wayB
  split
  · unfold leq noW at *; simp only at *; omega
  · unfold leq cS sS at *; simp only at *; omega
/-- from x one comes to v by first rules -/
inductive Rch (R : List Rl) (W : List Way) (v : Nat) : Nat → Prop
  | self : Rch R W v v
  | step {x : Nat} {k : Nat} {r : Rl} {s : Int} (h1 : (W.getD x noW).2.2 = k) (h2 : R[k]? = some r) (h3 : s ∈ r.right) (h4 : 0 ≤ s) (h5 : Rch R W v s.toNat) : Rch R W v x
theorem rch_leq {R : List Rl} {n : Nat} {W : List Way} (hI : Inv R n W) {v x : Nat} (h : Rch R W v x) : leq (W.getD v noW) (W.getD x noW) := by
  induction h with
  | self => exact leq.refl _
  | @step x k r s h1 h2 h3 h4 _ ih =>
    refine ih.trans ?_
    rcases hI.form x with he | ⟨_, k', r', e1, e2, _, e3⟩
    · rw [he] at h1
      unfold noW at h1
      simp only at h1
      omega
    · obtain rfl : k = k' := by omega
      rw [h2] at e2
      cases e2
      exact (way_ge h3 h4 (hI.small _)).trans e3
theorem getD_set (W : List Way) (k v : Nat) (w : Way) : (W.set k w).getD v noW = if v = k ∧ k < W.length then w else W.getD v noW := by
  rw [List.getD_eq_getElem?_getD, List.getD_eq_getElem?_getD, List.getElem?_set]
  by_cases h : k = v
  · subst h
    rw [if_pos rfl]
    by_cases hl : k < W.length
    · simp [hl]
    · simp [hl]
  · rw [if_neg h, if_neg (by omega)]
theorem sum_mono {g h : Int → Nat} : ∀ (F : List Int), (∀ s ∈ F, g s ≤ h s) → (F.map g).sum ≤ (F.map h).sum
  | [], _ => Nat.le_refl _
  | s :: F, hh => by
    have h1 := sum_mono F (fun t ht => hh t (List.mem_cons_of_mem _ ht))
    have h2 := hh s (by simp)
    simp only [List.map_cons, List.sum_cons]
    omega
/-- with better ones a way is no worse -/
theorem sums_leq {W W' : List Way} (h : ∀ s, leq (wat W' s) (wat W s)) : ∀ (F : List Int), cS W' F < cS W F ∨ (cS W' F = cS W F ∧ sS W' F ≤ sS W F)
  | [] => .inr ⟨rfl, Nat.le_refl _⟩
  | s :: F => by
    have h1 := h s
    have h2 := sums_leq h F
    unfold leq at h1
    unfold cS sS at *
    simp only [List.map_cons, List.sum_cons]
    omega
theorem way_mono {W W' : List Way} (h : ∀ s, leq (wat W' s) (wat W s)) (i : Nat) (F : List Int) : leq (wayB W' i F) (wayB W i F) := by
  have := sums_leq h F
  unfold wayB
  split
  · rename_i h1
    rw [if_pos (by omega)]
    exact leq.refl _
  · rename_i h1
    split
    · unfold leq noW; simp only; omega
    · unfold leq; simp only; omega
/-- a better way is taken -/
theorem inv_step {R : List Rl} {n : Nat} {W : List Way} (hI : Inv R n W) {i : Nat} {r : Rl} (hr : R[i]? = some r) (h0 : 0 ≤ r.left) (hl : r.left.toNat < n) (ha : ahd (wayB W i r.right) (W.getD r.left.toNat noW)) : Inv R n (W.set r.left.toNat (wayB W i r.right)) := by
  have hlen := hI.len
  have hc : ¬ Far ≤ cS W r.right := fun h => by
    unfold wayB at ha
    rw [if_pos h] at ha
    have := hI.small r.left.toNat
    unfold ahd noW at ha
    simp only at ha
    unfold noW at *
    omega
  have hw : wayB W i r.right = (cS W r.right, min (1 + sS W r.right) Far, (i : Int)) := by unfold wayB; rw [if_neg hc]
  have hget : ∀ v, (W.set r.left.toNat (wayB W i r.right)).getD v noW = if v = r.left.toNat then wayB W i r.right else W.getD v noW := fun v => by
    rw [getD_set]
    by_cases hv : v = r.left.toNat
    · rw [if_pos ⟨hv, by omega⟩, if_pos hv]
    · rw [if_neg (fun h => hv h.1), if_neg hv]
  have hle : ∀ s, leq (wat (W.set r.left.toNat (wayB W i r.right)) s) (wat W s) := fun s => by
    unfold wat
    split
    · exact leq.refl _
    · rw [hget]
      split
      · rename_i e
        rw [e]
        exact ha.leq
      · exact leq.refl _
  have hno : ∀ s ∈ r.right, 0 ≤ s → ¬ Rch R W r.left.toNat s.toNat := fun s hs hs0 hrc =>
    not_ahd ((rch_leq hI hrc).trans (way_ge (i := i) hs hs0 (hI.small _))) ha
  obtain ⟨rk, hrk⟩ := hI.rank
  refine ⟨by simpa using hlen, fun v => ?_, fun v => ?_, ?_⟩
  · rw [hget]
    split
    · rw [hw]
      simp only
      omega
    · exact hI.small v
  · rw [hget]
    split
    · rename_i e
      subst e
      refine .inr ⟨by rw [hw]; simp only; omega, i, r, by rw [hw], hr, by omega, ?_⟩
      exact way_mono hle i r.right
    · rename_i e
      rcases hI.form v with h | ⟨h1, k, q, h2, h3, h4, h5⟩
      · exact .inl h
      · exact .inr ⟨h1, k, q, h2, h3, h4, (way_mono hle k q.right).trans h5⟩
  · refine ⟨fun x => (@ite _ (Rch R W r.left.toNat x) (Classical.propDecidable _) (rk x + (1 + (r.right.map fun s => rk s.toNat).sum)) (rk x)), ?_⟩
    intro v k q h1 h2 s hs hs0
    rw [hget] at h1
    by_cases hv : v = r.left.toNat
    · rw [if_pos hv, hw] at h1
      simp only at h1
      obtain rfl : i = k := by omega
      rw [hr] at h2
      cases h2
      have hn := hno s hs hs0
      have hsum := sum_ge (fun s => rk s.toNat) r.right s hs
      simp only [if_neg hn, if_pos (show Rch R W r.left.toNat v from hv ▸ Rch.self)]
      omega
    · rw [if_neg hv] at h1
      have hlt := hrk v k q h1 h2 s hs hs0
      by_cases hs2 : Rch R W r.left.toNat s.toNat
      · simp only [if_pos hs2, if_pos (Rch.step h1 h2 hs hs0 hs2)]
        omega
      · simp only [if_neg hs2]
        split <;> omega
/-- nothing gets better any more -/
def Done (R : List Rl) (W : List Way) : Prop := ∀ (i : Nat) (r : Rl), R[i]? = some r → ¬ ahd (wayB W i r.right) (W.getD r.left.toNat noW)
theorem way_eq {R : List Rl} {n : Nat} {W : List Way} (hI : Inv R n W) (hd : Done R W) {v k : Nat} {r : Rl} (h : (W.getD v noW).2.2 = k) (hr : R[k]? = some r) : r.left = v ∧ cS W r.right < Far ∧ (W.getD v noW).1 = cS W r.right ∧ (W.getD v noW).2.1 = min (1 + sS W r.right) Far := by
  rcases hI.form v with he | ⟨h1, k', r', e1, e2, e3, e4⟩
  · rw [he] at h
    unfold noW at h
    simp only at h
    omega
  · obtain rfl : k = k' := by omega
    rw [hr] at e2
    cases e2
    have h5 := leq_of_not (hd k r hr)
    rw [show r.left.toNat = v by omega] at h5
    have h6 : ¬ Far ≤ cS W r.right := fun hf => by
      unfold wayB at e4
      rw [if_pos hf] at e4
      unfold leq noW at e4
      simp only at e4
      unfold noW at *
      omega
    unfold wayB at e4 h5
    rw [if_neg h6] at e4 h5
    unfold leq at e4 h5
    simp only at e4 h5
    exact ⟨e3, by omega, by omega, by omega⟩
theorem cost_inT {R : List Rl} {n : Nat} {W : List Way} (hI : Inv R n W) (hd : Done R W) (hl : ∀ r ∈ R, 0 ≤ r.left) : InT R (fun v => (W.getD v noW).1) := fun r hr => by
  obtain ⟨i, hi, rfl⟩ := List.mem_iff_getElem.1 hr
  have h5 := leq_of_not (hd i _ (List.getElem?_eq_getElem hi))
  have hs := hI.small R[i].left.toNat
  have e : cS W R[i].right = sumC (fun v => (W.getD v noW).1) R[i].right := by
    unfold cS sumC
    congr 1
    apply List.map_congr_left
    intro s _
    unfold wat
    split <;> rfl
  show (W.getD R[i].left.toNat noW).1 ≤ _
  rw [← e]
  unfold wayB at h5
  split at h5
  · omega
  · unfold leq at h5
    try simp only at h5
    omega
/-- ranks below n -/
theorem small_rank {R : List Rl} {n : Nat} {W : List Way} (hI : Inv R n W) : ∃ rk : Nat → Nat, (∀ v, v < n → rk v < n) ∧ ∀ v (k : Nat) (r : Rl), (W.getD v noW).2.2 = k → R[k]? = some r → ∀ s ∈ r.right, 0 ≤ s → s.toNat < n → rk s.toNat < rk v := by
  obtain ⟨rk, h⟩ := hI.rank
  have key : ∀ a b, a < n → rk a < rk b → ((List.range n).filter fun u => decide (rk u < rk a)).length + 1 ≤ ((List.range n).filter fun u => decide (rk u < rk b)).length := fun a b ha hab =>
    filter_lt (List.range n) (fun u _ hu => by simp at hu ⊢; omega) ⟨a, by simpa using ha, by simpa using hab, by simp⟩
  refine ⟨fun v => ((List.range n).filter fun u => decide (rk u < rk v)).length, fun v hv => ?_, fun v k r h1 h2 s hs h0 hn => ?_⟩
  · have := filter_lt (p := fun _ => true) (q := fun u => decide (rk u < rk v)) (List.range n) (fun _ _ _ => rfl) ⟨v, by simpa using hv, rfl, decide_eq_false (Nat.lt_irrefl _)⟩
    have e : ((List.range n).filter fun _ => true).length = n := by rw [List.filter_eq_self.2 (fun _ _ => rfl), List.length_range]
    have e2 := Nat.lt_of_lt_of_le (Nat.lt_of_succ_le this) (Nat.le_of_eq e)
    exact e2
  · exact Nat.lt_of_succ_le (key _ _ hn (h v k r h1 h2 s hs h0))
theorem pow9 (d : Nat) : 1 + 8 * 9 ^ d ≤ 9 ^ (d + 1) := by
  have := Nat.pow_pos (n := d) (show 0 < 9 by decide)
  rw [Nat.pow_succ]
  omega
theorem sum_le (g : Int → Nat) (B : Nat) : ∀ (F : List Int), (∀ s ∈ F, g s ≤ B) → (F.map g).sum ≤ F.length * B
  | [], _ => by simp
  | s :: F, h => by
    have h1 := sum_le g B F (fun t ht => h t (List.mem_cons_of_mem _ ht))
    have h2 := h s (by simp)
    simp only [List.map_cons, List.sum_cons, List.length_cons, Nat.succ_mul]
    omega
/-- children have ways, too -/
theorem child_way {R : List Rl} {n : Nat} {W : List Way} (hI : Inv R n W) {F : List Int} (h : cS W F < Far) {s : Int} (hs : s ∈ F) (h0 : 0 ≤ s) : s.toNat < n ∧ ∃ (k : Nat) (r : Rl), (W.getD s.toNat noW).2.2 = k ∧ R[k]? = some r := by
  have h1 := far_lt h s hs
  rw [wat_var h0] at h1
  have hne : W.getD s.toNat noW ≠ noW := fun e => by
    rw [e] at h1
    exact Nat.lt_irrefl _ h1
  refine ⟨?_, ?_⟩
  · apply Classical.byContradiction
    intro hn
    apply hne
    rw [List.getD_eq_getElem?_getD, List.getElem?_eq_none (by rw [hI.len]; omega)]
    rfl
  · rcases hI.form s.toNat with he | ⟨_, k, r, e1, e2, _⟩
    · exact absurd he hne
    · exact ⟨k, r, e1, e2⟩
/-- the steps of a way are told as they are: none has too many for the sums -/
theorem steps_small {R : List Rl} {n : Nat} {W : List Way} (hI : Inv R n W) (hd : Done R W) (h8 : ∀ r ∈ R, r.right.length ≤ 8) (hn : n ≤ 8) : ∃ rk : Nat → Nat, (∀ v, v < n → rk v < n) ∧ ∀ (d v k : Nat) (r : Rl), v < n → rk v ≤ d → (W.getD v noW).2.2 = k → R[k]? = some r → (W.getD v noW).2.1 ≤ 9 ^ d ∧ (d ≤ 8 → (W.getD v noW).2.1 = 1 + sS W r.right) ∧ ∀ s ∈ r.right, 0 ≤ s → s.toNat < n ∧ rk s.toNat < rk v := by
  obtain ⟨rk, h1, h2⟩ := small_rank hI
  refine ⟨rk, h1, ?_⟩
  intro d
  induction d with
  | zero =>
    intro v k r hv hrk hk hr
    obtain ⟨_, e2, _, e4⟩ := way_eq hI hd hk hr
    have hch : ∀ s ∈ r.right, 0 ≤ s → s.toNat < n ∧ rk s.toNat < rk v := fun s hs h0 => by
      have hc := (child_way hI e2 hs h0).1
      exact ⟨hc, h2 v k r hk hr s hs h0 hc⟩
    have hz : sS W r.right ≤ r.right.length * 0 := sum_le (fun s => (wat W s).2.1) 0 r.right (fun s hs => by
      by_cases h0 : 0 ≤ s
      · have := (hch s hs h0).2
        omega
      · unfold wat
        rw [if_pos (by omega)]
        exact Nat.le_refl _)
    have hF : (1 : Nat) ≤ Far := by decide
    have e : min (1 + sS W r.right) Far = 1 := by omega
    have ez : sS W r.right = 0 := by omega
    exact ⟨by rw [e4, e]; decide, fun _ => by rw [e4, e, ez], hch⟩
  | succ d ih =>
    intro v k r hv hrk hk hr
    obtain ⟨_, e2, _, e4⟩ := way_eq hI hd hk hr
    have hch : ∀ s ∈ r.right, 0 ≤ s → s.toNat < n ∧ rk s.toNat < rk v := fun s hs h0 => by
      have hc := (child_way hI e2 hs h0).1
      exact ⟨hc, h2 v k r hk hr s hs h0 hc⟩
    have hz : sS W r.right ≤ r.right.length * 9 ^ d := sum_le (fun s => (wat W s).2.1) (9 ^ d) r.right (fun s hs => by
      by_cases h0 : 0 ≤ s
      · obtain ⟨hc1, k2, r2, hc2, hc3⟩ := child_way hI e2 hs h0
        show (wat W s).2.1 ≤ _
        rw [wat_var h0]
        exact (ih s.toNat k2 r2 hc1 (by have := (hch s hs h0).2; omega) hc2 hc3).1
      · unfold wat
        rw [if_pos (by omega)]
        exact Nat.zero_le _)
    have hlen := h8 r (List.mem_of_getElem? hr)
    have hp := pow9 d
    have hmul : r.right.length * 9 ^ d ≤ 8 * 9 ^ d := Nat.mul_le_mul_right _ hlen
    refine ⟨by rw [e4]; omega, fun h => ?_, hch⟩
    have hpow : 9 ^ (d + 1) ≤ 9 ^ 8 := Nat.pow_le_pow_right (by decide) h
    have hF : (9 : Nat) ^ 8 ≤ Far := by decide
    rw [e4]
    omega
/-! steps by the first rules, counted up to a bound -/
def capF (f : Nat → Nat) (C : Nat) : Nat → List Int → Nat
  | n, [] => n
  | n, s :: F => capF f C (if 0 ≤ s then min (n + f s.toNat) C else n) F
def varS (f : Nat → Nat) (F : List Int) : Nat := (F.map fun s => if 0 ≤ s then f s.toNat else 0).sum
theorem cap_sum (f : Nat → Nat) (C : Nat) : ∀ (F : List Int) (n : Nat), n ≤ C → capF f C n F = min (n + varS f F) C
  | [], n, h => by unfold capF varS; simp; omega
  | s :: F, n, h => by
    unfold capF
    rw [cap_sum f C F _ (by split <;> omega)]
    unfold varS
    simp only [List.map_cons, List.sum_cons]
    split <;> omega
theorem cap_min (g : Nat → Nat) (C : Nat) : ∀ (F : List Int) (a : Nat), min (a + varS (fun v => min (g v) C) F) C = min (a + varS g F) C
  | [], a => rfl
  | s :: F, a => by
    have e1 := cap_min g C F (a + (if 0 ≤ s then min (g s.toNat) C else 0))
    have e2 := cap_min g C F (a + (if 0 ≤ s then g s.toNat else 0))
    unfold varS at *
    simp only [List.map_cons, List.sum_cons] at *
    by_cases h : 0 ≤ s
    · simp only [if_pos h] at *
      omega
    · simp only [if_neg h] at *
      omega
def wst (R : List Rl) (W : List Way) (f : Nat → Nat) (u : Nat) : Nat := if 0 ≤ (W.getD u noW).2.2 then capF f 1048576 1 (R.getD (W.getD u noW).2.2.toNat ⟨0, [], 0⟩).right else 1
def wpass (R : List Rl) (W : List Way) : List Nat → (Nat → Nat) → Nat → Nat
  | [], f => f
  | u :: us, f => wpass R W us (upd f u (wst R W f u))
def wpasses (R : List Rl) (W : List Way) (n : Nat) : Nat → (Nat → Nat) → Nat → Nat
  | 0, f => f
  | k + 1, f => wpasses R W n k (wpass R W (List.range n) f)
theorem sS_var (W : List Way) : ∀ (F : List Int), sS W F = varS (fun v => (W.getD v noW).2.1) F
  | [] => rfl
  | s :: F => by
    have ih := sS_var W F
    unfold sS varS at *
    simp only [List.map_cons, List.sum_cons]
    rw [ih]
    unfold wat
    split
    · rw [if_neg (by omega)]
    · rw [if_pos (by omega)]
theorem varS_congr {f g : Nat → Nat} : ∀ (F : List Int), (∀ s ∈ F, 0 ≤ s → f s.toNat = g s.toNat) → varS f F = varS g F
  | [], _ => rfl
  | s :: F, h => by
    have ih := varS_congr F (fun t ht => h t (List.mem_cons_of_mem _ ht))
    have h1 := h s (by simp)
    unfold varS at *
    simp only [List.map_cons, List.sum_cons]
    rw [ih]
    split
    · rename_i h0
      rw [h1 h0]
    · rfl
theorem wide_known {R : List Rl} {n : Nat} {W : List Way} (hI : Inv R n W) (hd : Done R W) (h8 : ∀ r ∈ R, r.right.length ≤ 8) (hn : n ≤ 8) (f : Nat → Nat) (v k : Nat) (r : Rl) (hv : v < n) (hk : (W.getD v noW).2.2 = k) (hr : R[k]? = some r) : wpasses R W n n f v = min (W.getD v noW).2.1 1048576 := by
  obtain ⟨rk, hb, hs⟩ := steps_small hI hd h8 hn
  have hstep : ∀ (v k : Nat) (r : Rl), v < n → (W.getD v noW).2.2 = k → R[k]? = some r → (W.getD v noW).2.1 = 1 + sS W r.right ∧ ∀ s ∈ r.right, 0 ≤ s → s.toNat < n ∧ rk s.toNat < rk v ∧ ∃ (k' : Nat) (r' : Rl), (W.getD s.toNat noW).2.2 = k' ∧ R[k']? = some r' := fun v k r hv hk hr => by
    have hrv := hb v hv
    obtain ⟨_, h2, h3⟩ := hs 8 v k r hv (by omega) hk hr
    obtain ⟨_, e2, _⟩ := way_eq hI hd hk hr
    exact ⟨h2 (Nat.le_refl _), fun s hs' h0 => ⟨(h3 s hs' h0).1, (h3 s hs' h0).2, (child_way hI e2 hs' h0).2⟩⟩
  let K : Nat → (Nat → Nat) → Prop := fun j f => ∀ (v k : Nat) (r : Rl), v < n → rk v < j → (W.getD v noW).2.2 = k → R[k]? = some r → f v = min (W.getD v noW).2.1 1048576
  have one : ∀ (j : Nat) (f : Nat → Nat) (u k : Nat) (r : Rl), K j f → u < n → rk u < j + 1 → (W.getD u noW).2.2 = k → R[k]? = some r → wst R W f u = min (W.getD u noW).2.1 1048576 := fun j f u k r hK hu hru hk hr => by
    obtain ⟨h1, h2⟩ := hstep u k r hu hk hr
    unfold wst
    rw [if_pos (by omega), hk, List.getD_eq_getElem?_getD, Int.toNat_natCast, hr]
    show capF f 1048576 1 r.right = _
    rw [cap_sum _ _ _ _ (by decide), varS_congr (g := fun v => min (W.getD v noW).2.1 1048576) r.right (fun s hs' h0 => by
      obtain ⟨a1, a2, k', r', a3, a4⟩ := h2 s hs' h0
      exact hK s.toNat k' r' a1 (by omega) a3 a4), cap_min, h1, sS_var]
  have pass : ∀ (j : Nat) (us : List Nat) (f : Nat → Nat), (∀ u ∈ us, u < n) → K j f → K j (wpass R W us f) ∧ ∀ (v k : Nat) (r : Rl), v < n → rk v < j + 1 → (W.getD v noW).2.2 = k → R[k]? = some r → (v ∈ us ∨ f v = min (W.getD v noW).2.1 1048576) → wpass R W us f v = min (W.getD v noW).2.1 1048576 := by
    intro j us
    induction us with
    | nil =>
      intro f _ hK
      refine ⟨hK, fun v k r _ _ _ _ h => ?_⟩
      rcases h with h | h
      · cases h
      · exact h
    | cons u us ih =>
      intro f hus hK
      have hK2 : K j (upd f u (wst R W f u)) := fun v k r hv hrv hk hr => by
        unfold upd
        split
        · rename_i e
          subst e
          exact one j f v k r hK hv (by omega) hk hr
        · exact hK v k r hv hrv hk hr
      obtain ⟨i1, i2⟩ := ih (upd f u (wst R W f u)) (fun x hx => hus x (List.mem_cons_of_mem _ hx)) hK2
      refine ⟨i1, fun v k r hv hrv hk hr h => i2 v k r hv hrv hk hr ?_⟩
      by_cases e : v = u
      · right
        subst e
        unfold upd
        rw [if_pos rfl]
        exact one j f v k r hK hv hrv hk hr
      · rcases h with h | h
        · exact .inl ((List.mem_cons.1 h).resolve_left e)
        · right
          unfold upd
          rw [if_neg e]
          exact h
  have all : ∀ (m j : Nat) (f : Nat → Nat), K j f → K (j + m) (wpasses R W n m f) := by
    intro m
    induction m with
    | zero => intro j f h; exact h
    | succ m ih =>
      intro j f h
      have := ih (j + 1) (wpass R W (List.range n) f) (fun v k r hv hrv hk hr => (pass j (List.range n) f (fun u hu => by simpa using hu) h).2 v k r hv hrv hk hr (.inl (by simpa using hv)))
      rw [show j + 1 + m = j + (m + 1) by omega] at this
      exact this
  exact all n 0 f (fun v k r _ h => by omega) v k r hv (by have := hb v hv; omega) hk hr
end Go.Proofs.Ytljkobijoenabaa.dv
namespace Go.Proofs.Ytljkobijoenabaa.dv
open Go.ChangeShapes Go.WideShapes Go.ChangeAt Go.RowKit Go.Maps Go.WideMaps Go.WideElems
set_option linter.unusedVariables false
set_option linter.unusedSimpArgs false
/-! marks in memory; what a function value tells of symbols -/
def Goes (f : Nat) : Prop := ∀ (args : Array Value) (w : World), (callFunc f args).run Try.prog w = .ok (.enter f args) w
def BV (S : List Bool) : List Value := S.map Value.bool
def ReadB (w : World) (v : Value) (S : List Bool) : Prop := ∃ ao cap, v = .slice ao S.length cap ∧ S.length ≤ maxLen ∧ ∀ i, i < S.length → ∃ a : Addr, ao = some a ∧ a.block < w.heap.size ∧ w.cell? (a.add i) = some (.bool (S.getD i false))
theorem ReadB.below {w w' : World} {v : Value} {S : List Bool} (h : ReadB w v S) (hb : Below w.heap.size w w') : ReadB w' v S := by
  obtain ⟨ao, cap, e, hm, hc⟩ := h
  refine ⟨ao, cap, e, hm, fun i hi => ?_⟩
  obtain ⟨a, e2, hab, hca⟩ := hc i hi
  exact ⟨a, e2, Nat.lt_of_lt_of_le hab hb.size, (hb.cell (p := a.add i) (by rw [add_block]; exact hab)).trans hca⟩
theorem readB_own {w : World} {B n : Nat} {v : Value} {S : List Bool} (h : w.ownsRow B 4 1 v n (BV S)) (hn : S.length = n) : ReadB w v S := by
  subst hn
  rcases h.2 with ⟨rfl, h0⟩ | ⟨g, cap, cur, rfl, _⟩
  · have : S = [] := List.length_eq_zero_iff.1 h0
    subst this
    exact ⟨none, 0, rfl, Nat.zero_le _, fun i hi => absurd hi (Nat.not_lt_zero _)⟩
  · obtain ⟨h1, h2⟩ := own_cap h
    refine ⟨_, cap, rfl, by omega, fun i hi => ⟨_, rfl, own_lt h, own_cells' h i _ ?_⟩⟩
    simp [BV, List.getD_eq_getElem?_getD, List.getElem?_eq_getElem hi]
set_option maxRecDepth 100000 in
theorem isv_any (w : World) (x : Int) : Calls Try.prog 45 #[.int .i64 x] w fun e w' => e = .returned (.bool (decide (0 ≤ x))) ∧ w' = w := by
  go_enter Try.func45, Try.ntmps45
  go_wp2
  go_ret
  exact ⟨rfl, rfl⟩
set_option maxRecDepth 100000 in
theorem isTerm_any (w : World) (x : Int) : Calls Try.prog 93 #[.int .i64 x] w fun e w' => e = .returned (.bool (decide (x < 0))) ∧ w' = w := by
  have e : decide (x < 0) = !decide (0 ≤ x) := by
    by_cases h : 0 ≤ x
    · rw [decide_eq_true h, decide_eq_false (by omega)]; rfl
    · rw [decide_eq_false h, decide_eq_true (by omega)]; rfl
  rw [e]
  go_enter Try.func93, Try.ntmps93
  go_wp2_with fail
  refine (isv_any _ _).mono ?_
  rintro e w1 ⟨rfl, rfl⟩
  go_wp2
  go_ret
  exact ⟨rfl, rfl⟩
set_option maxRecDepth 100000 in
set_option maxHeartbeats 1000000 in
theorem marked_any (w : World) (v : Value) (S : List Bool) (x : Int) (h : ReadB w v S) : Calls Try.prog 104 #[v, .int .i64 x] w fun e w' => e = .returned (.bool (decide (0 ≤ x) && at_ S x)) ∧ w' = w := by
  obtain ⟨ao, cap, rfl, hm, hc⟩ := h
  have hiv := isv_any w x
  by_cases h0 : 0 ≤ x
  · obtain ⟨k, rfl⟩ : ∃ k : Nat, x = k := ⟨x.toNat, by omega⟩
    rw [decide_eq_true h0] at hiv ⊢
    by_cases hlt : k < S.length
    · obtain ⟨a, rfl, hab, hca⟩ := hc k hlt
      have hat : at_ S (k : Int) = S.getD k false := rfl
      have hlt2 : decide ((k : Int) < (S.length : Int)) = true := decide_eq_true (by omega)
      have hlt3 : (k : Int) < (S.length : Int) := by omega
      rw [hat]
      generalize S.getD k false = b at *
      clear hc
      go_enter Try.func104, Try.ntmps104
      go_wp2_with fail
      refine hiv.mono ?_
      rintro e w1 ⟨rfl, rfl⟩
      go_wp2
      go_ret
      exact ⟨by cases b <;> rfl, rfl⟩
    · have hat : at_ S (k : Int) = false := by
        unfold at_
        rw [List.getD_eq_getElem?_getD, Int.toNat_natCast, List.getElem?_eq_none (by omega)]
        rfl
      have hlt2 : decide ((k : Int) < (S.length : Int)) = false := decide_eq_false (by omega)
      rw [hat]
      clear hc
      go_enter Try.func104, Try.ntmps104
      go_wp2_with fail
      refine hiv.mono ?_
      rintro e w1 ⟨rfl, rfl⟩
      go_wp2
      go_ret
      exact ⟨rfl, rfl⟩
  · rw [decide_eq_false h0] at hiv ⊢
    clear hc
    go_enter Try.func104, Try.ntmps104
    go_wp2_with fail
    refine hiv.mono ?_
    rintro e w1 ⟨rfl, rfl⟩
    go_wp2
    go_ret
    exact ⟨rfl, rfl⟩
/-- a function value that tells something of symbols -/
def TellsOf (fn : Nat) (cap : Array Value) (p : Int → Bool) (w : World) : Prop := ∀ (x : Int) (W : World), Below w.heap.size w W → Calls Try.prog fn (#[.int .i64 x] ++ cap) W fun e W' => e = .returned (.bool (p x)) ∧ Below w.heap.size w W'
def firstI (p : Int → Bool) (F : List Int) : Int := match F.findIdx? p with
  | some k => k
  | none => -1
set_option maxRecDepth 100000 in
set_option maxHeartbeats 1000000 in
theorem indexF_any (w : World) (v : Value) (F : List Int) (fn : Nat) (cap : Array Value) (p : Int → Bool) (hgo : Goes fn) (hp : TellsOf fn cap p w) (h : RowAt w v F) : Calls Try.prog 44 #[v, .func (.func fn) #[] cap] w fun e w' => (∃ n : Int, e = .returned (.int .i64 n) ∧ (0 ≤ n ↔ F.any p = true)) ∧ Below w.heap.size w w' := by
  obtain ⟨ao, cp, rfl, hl, hm, hn, hin, hc⟩ := h
  have hlen : F.length ≤ 9223372036854775807 := by unfold maxLen at hm; omega
  have HC := Lib.hid hc
  have hg : ∀ (c : Int) (w : World), (callFunc fn (#[.int .i64 c] ++ cap)).run Try.prog w = .ok (.enter fn (#[.int .i64 c] ++ cap)) w := fun c w => hgo _ w
  have HP := Lib.hid hp
  clear hc hin hp hgo
  go_enter Try.func44, Try.ntmps44
  go_wp2
  go_loopw [5, 8] (fun i q wr => ∃ k : Nat, k ≤ F.length ∧ q = .int .i64 k ∧ (F.take k).any p = false ∧ Below w.heap.size w wr) (fun _ q _ => F.length - (intOf q).toNat)
  case atStart => exact ⟨0, Nat.zero_le _, rfl, rfl, Below.refl _ _⟩
  case round =>
    obtain ⟨k, hk, rfl, hneg, hbr⟩ := hrel
    have HN := Lib.hid hneg
    clear hneg
    by_cases hlt : k < F.length
    · obtain ⟨a, rfl, hab, hca⟩ := HC.out k hlt
      have hca2 : wr.cell? (a.add k) = some (.int .i64 (F.getD k 0)) := (hbr.cell (p := a.add k) (by rw [add_block]; exact hab)).trans hca
      have htk : (F.take (k + 1)).any p = p (F.getD k 0) := by
        rw [List.take_succ_eq_append_getElem hlt, List.any_append, HN.out, List.getD_eq_getElem?_getD, List.getElem?_eq_getElem hlt]
        simp
      have hmem : p (F.getD k 0) = true → F.any p = true := fun h => by
        rw [List.any_eq_true]
        exact ⟨F.getD k 0, by rw [List.getD_eq_getElem?_getD, List.getElem?_eq_getElem hlt]; simp, h⟩
      have hcall := HP.out (F.getD k 0) wr hbr
      have HT := Lib.hid htk
      have HM := Lib.hid hmem
      clear hca htk hmem
      generalize F.getD k 0 = x at *
      cases hb : p x
      · rw [hb] at hcall
        go_wp2_with fail
        refine hcall.mono ?_
        rintro e w2 ⟨rfl, hb2⟩
        go_wp2
        exact ⟨⟨k + 1, hlt, congrArg (Value.int .i64) (by omega), by rw [HT.out]; exact hb, hb2⟩, by simp only [intOf]; omega⟩
      · rw [hb] at hcall
        have hany := HM.out hb
        have HA := Lib.hid hany
        clear hany
        go_wp2_with fail
        refine hcall.mono ?_
        rintro e w2 ⟨rfl, hb2⟩
        go_wp2
        go_ret
        exact ⟨⟨k, rfl, ⟨fun _ => HA.out, fun _ => by omega⟩⟩, hb2⟩
    · obtain rfl : k = F.length := by omega
      have hany : F.any p = false := by have := HN.out; rwa [List.take_length] at this
      have HA := Lib.hid hany
      clear hany
      go_wp2
      go_ret
      exact ⟨⟨-1, rfl, ⟨fun h => absurd h (by decide), fun h => by rw [HA.out] at h; cases h⟩⟩, hbr⟩
set_option maxRecDepth 100000 in
theorem contains_any (w : World) (v : Value) (F : List Int) (fn : Nat) (cap : Array Value) (p : Int → Bool) (hgo : Goes fn) (hp : TellsOf fn cap p w) (h : RowAt w v F) : Calls Try.prog 92 #[v, .func (.func fn) #[] cap] w fun e w' => e = .returned (.bool (F.any p)) ∧ Below w.heap.size w w' := by
  have hix := indexF_any w v F fn cap p hgo hp h
  obtain ⟨ao, cp, rfl, _⟩ := h
  clear hp
  go_enter Try.func92, Try.ntmps92
  go_wp2_with fail
  refine hix.mono ?_
  rintro e w1 ⟨⟨n, rfl, hn⟩, hb1⟩
  cases ha : F.any p
  · rw [ha] at hn
    have h0 : ¬ 0 ≤ n := fun h => by cases hn.1 h
    go_wp2
    go_ret
    exact ⟨by rw [ha]; simp, hb1⟩
  · rw [ha] at hn
    have h0 : 0 ≤ n := hn.2 rfl
    go_wp2
    go_ret
    exact ⟨by rw [ha]; simp, hb1⟩
end Go.Proofs.Ytljkobijoenabaa.dv
namespace Go.Proofs.Ytljkobijoenabaa.dv
open Go.ChangeShapes Go.WideShapes Go.ChangeAt Go.RowKit Go.Maps Go.WideMaps Go.WideElems
set_option linter.unusedVariables false
set_option linter.unusedSimpArgs false
/-! settle: till nothing new is told of any rule -/
theorem run_store_fl (P : Program) (w : World) (a : Addr) (m : Mode) (k : FloatKind) (b : Nat) : (store a (.float k b) m).run P w = stored P w a (.float k b) m := run_store P w a _ m rfl
attribute [local go_sem] run_store_fl
def RlV (r : Rl) (ao : Option Addr) (cp : Nat) : Value := .agg #[.int .i64 r.left, .slice ao r.right.length cp, .float .f64 r.wt]
set_option maxRecDepth 100000 in
theorem isVarOf_any (w : World) (ta va ra : Option Addr) (tl tc vl vc rl rc : Nat) (x : Int) : Calls Try.prog 97 #[.agg #[.slice ta tl tc, .slice va vl vc, .slice ra rl rc], .int .i64 x] w fun e w' => e = .returned (.bool (decide (0 ≤ x) && decide (x < vl))) ∧ ∃ o, w' = w.alloc o := by
  have b0 := Blk.new w 25 #[.slice ta tl tc, .slice va vl vc, .slice ra rl rc]
  have c0 := b0.cell 0
  have c1 := b0.cell 1
  have c2 := b0.cell 2
  simp only [List.getElem?_toArray, List.getElem?_cons_zero, List.getElem?_cons_succ] at c0 c1 c2
  have hbl : Below w.heap.size w (w.alloc (.cells #[.slice ta tl tc, .slice va vl vc, .slice ra rl rc] 25)) := (Below.refl _ w).alloc (Nat.le_refl _) _
  have hiv := isv_any (w.alloc (.cells #[.slice ta tl tc, .slice va vl vc, .slice ra rl rc] 25)) x
  by_cases h0 : 0 ≤ x
  · rw [decide_eq_true h0] at hiv ⊢
    go_enter Try.func97, Try.ntmps97
    go_wp2_with fail
    refine hiv.mono ?_
    rintro e w1 ⟨rfl, rfl⟩
    go_wp2
    go_ret
    exact ⟨rfl, _, rfl⟩
  · rw [decide_eq_false h0] at hiv ⊢
    go_enter Try.func97, Try.ntmps97
    go_wp2_with fail
    refine hiv.mono ?_
    rintro e w1 ⟨rfl, rfl⟩
    go_wp2
    go_ret
    exact ⟨rfl, _, rfl⟩
open Classical in
/-- a measure of the state, read off the world -/
noncomputable def muW {σ : Type} (St : σ → World → Prop) (μ : σ → Nat) (W : World) : Nat := if h : ∃ x, St x W then μ h.choose else 0
theorem muW_eq {σ : Type} {St : σ → World → Prop} {μ : σ → Nat} (hf : ∀ x y W, St x W → St y W → μ x = μ y) {x : σ} {W : World} (h : St x W) : muW St μ W = μ x := by
  have hx : ∃ x, St x W := ⟨x, h⟩
  unfold muW
  rw [dif_pos hx]
  exact hf _ _ _ hx.choose_spec h
theorem addf (a : Addr) (n m : Nat) (hm : m ≠ 0) : a.add (n + m) = { block := (a.add n).block, off := (a.add n).off + m } := by
  unfold Addr.add
  rw [if_neg (by omega)]
  by_cases h : n = 0
  · subst h; simp
  · rw [if_neg h]; simp [Nat.add_assoc]
def boolN : Value → Nat
  | .bool true => 1
  | _ => 0
/-- a closure's step: something new is told, and the measure falls; or nothing, and it is settled -/
def StepOf {σ : Type} (R : List Rl) (fn : Nat) (cap : Array Value) (m : Nat) (St : σ → World → Prop) (μ : σ → Nat) (Sat : σ → Nat → Prop) (B : Nat) (w : World) : Prop :=
  ∀ (x : σ) (i : Nat) (r : Rl) (ao : Option Addr) (cp : Nat) (W : World), Below B w W → St x W → R[i]? = some r → RowAt W (.slice ao r.right.length cp) r.right → (∀ a : Addr, ao = some a → 0 < r.right.length → a.block < B) →
    Calls Try.prog fn (#[.int .i64 i, RlV r ao cp] ++ cap) W fun e W' => W.grownBy W' (some m) ∧ ((e = .returned (.bool true) ∧ ∃ x', St x' W' ∧ μ x' < μ x) ∨ (e = .returned (.bool false) ∧ St x W' ∧ Sat x i))
set_option maxRecDepth 100000 in
set_option maxHeartbeats 4000000 in
theorem settle_any {σ : Type} (w : World) (B m : Nat) (ta va : Option Addr) (tl tc vl vc : Nat) (rv : Value) (R : List Rl) (hR : RulesAt B w rv R) (hB : B ≤ m) (hm : m < w.heap.size) (hl : ∀ r ∈ R, 0 ≤ r.left ∧ r.left < vl) (fn : Nat) (cap : Array Value) (hgo : Goes fn) (St : σ → World → Prop) (μ : σ → Nat) (Sat : σ → Nat → Prop)
    (hf : ∀ x y W, St x W → St y W → μ x = μ y) (hk : ∀ x (W : World) (o : Obj), St x W → St x (W.alloc o)) (hst : StepOf R fn cap m St μ Sat B w) (x0 : σ) (h0 : St x0 w) :
    Calls Try.prog 90 #[.agg #[.slice ta tl tc, .slice va vl vc, rv], .func (.func fn) #[] cap] w fun e w' => (∃ v, e = .returned v) ∧ w.grownBy w' (some m) ∧ ∃ x, St x w' ∧ ∀ i, i < R.length → Sat x i := by
  have hg : ∀ (i : Int) (r : Value) (w : World), (callFunc fn (#[.int .i64 i, r] ++ cap)).run Try.prog w = .ok (.enter fn (#[.int .i64 i, r] ++ cap)) w := fun i r w => hgo _ w
  have hKB : ∀ (X : World) (o : Obj) (x : σ), (∀ W W', St x W → W.grownBy W' none → True) := fun _ _ _ _ _ _ _ => trivial
  obtain ⟨ra, rc, rfl, hn, hrl⟩ := id hR
  have b0 := Blk.new w 25 #[.slice ta tl tc, .slice va vl vc, .slice ra R.length rc]
  have hgb : w.grownBy (w.alloc (.cells #[.slice ta tl tc, .slice va vl vc, .slice ra R.length rc] 25)) (some m) := World.grownBy_alloc _ _ _
  have h1 := hk x0 w (.cells #[.slice ta tl tc, .slice va vl vc, .slice ra R.length rc] 25) h0
  generalize hW0 : w.alloc (.cells #[.slice ta tl tc, .slice va vl vc, .slice ra R.length rc] 25) = w0 at *
  have hz0 : w0.heap.size = w.heap.size + 1 := by rw [← hW0]; simp
  have hn' : R.length ≤ 9223372036854775807 := by unfold maxLen at hn; omega
  have hbel : ∀ W, w.grownBy W (some m) → Below B w W := fun W h => (Below.refl B w).grown h (by omega) (fun k e => by cases e; exact hB)
  have HBEL := Lib.hid hbel
  have HST := Lib.hid hst
  have HR := Lib.hid hR
  have HL := Lib.hid hl
  have HF := Lib.hid hf
  have HK := Lib.hid hk
  have H1 := Lib.hid h1
  clear hbel hst hR hrl hl hf hk h1 h0 hKB hgo
  go_enter Try.func90, Try.ntmps90
  go_wp2
  go_loopw [4] (fun more wr => ∃ x b, more = .bool b ∧ St x wr ∧ (b = false → ∀ i, i < R.length → Sat x i) ∧ w0.grownBy wr (some m)) (fun more wr => 2 * muW St μ wr + boolN more)
  case atStart => exact ⟨x0, true, rfl, H1.out, fun h => (by cases h), World.grownBy.refl _ _⟩
  case round =>
    obtain ⟨x, b, rfl, hx, hs, hgr⟩ := hrel
    have HX := Lib.hid hx
    have HS := Lib.hid hs
    have hzr := hgr.size
    have bx := b0.grown hgr (by intro e; have := Option.some.inj e; omega)
    have d0 := bx.cell 0
    have d1 := bx.cell 1
    have d2 := bx.cell 2
    simp only [List.getElem?_toArray, List.getElem?_cons_zero, List.getElem?_cons_succ] at d0 d1 d2
    clear hx hs
    cases b
    · go_wp2
      go_end0
      exact ⟨⟨_, rfl⟩, hgb.trans hgr, x, HX.out, HS.out (by first | rfl | trivial)⟩
    · go_wp2
      have hmx := muW_eq HF.out HX.out
      go_loopw [4, 11] (fun more q wi => ∃ (k : Nat) (y : σ) (c : Bool), k ≤ R.length ∧ q = .int .i64 k ∧ more = .bool c ∧ St y wi ∧ (c = false → μ y = μ x ∧ ∀ i, i < k → Sat y i) ∧ (c = true → μ y < μ x) ∧ w0.grownBy wi (some m)) (fun _ q _ => R.length - (intOf q).toNat)
      case atStart => exact ⟨0, x, false, Nat.zero_le _, rfl, rfl, HX.out, fun _ => ⟨rfl, fun i hi => absurd hi (Nat.not_lt_zero _)⟩, fun h => (by cases h), hgr⟩
      case round =>
        obtain ⟨k, y, c, hk1, rfl, rfl, hy, hy1, hy2, hgi⟩ := hrel
        have HY := Lib.hid hy
        have HY1 := Lib.hid hy1
        have HY2 := Lib.hid hy2
        have hzi := hgi.size
        have by0 := b0.grown hgi (by intro e; have := Option.some.inj e; omega)
        have p0 := by0.cell 0
        have p1 := by0.cell 1
        have p2 := by0.cell 2
        simp only [List.getElem?_toArray, List.getElem?_cons_zero, List.getElem?_cons_succ] at p0 p1 p2
        clear hy hy1 hy2 d0 d1 d2 bx
        by_cases hlt : k < R.length
        · obtain ⟨r, hrk⟩ : ∃ r, R[k]? = some r := ⟨_, List.getElem?_eq_getElem hlt⟩
          have hbw := HBEL.out _ (hgb.trans hgi)
          obtain ⟨hl0, hl1⟩ := HL.out r (List.mem_of_getElem? hrk)
          have hRw : RulesAt B wr (.slice ra R.length rc) R := by
            obtain ⟨ao', cap', e, hn2, hr⟩ := HR.out
            refine ⟨ao', cap', e, hn2, fun j q hj => ?_⟩
            obtain ⟨a, ea, hab, ao2, c2, h1, h2, h3, h4, h5, h6, h7, h8⟩ := hr j q hj
            have hc : ∀ n v, w.cell? (a.add n) = some v → wr.cell? (a.add n) = some v := fun n v hv => (hbw.cell (p := a.add n) (by rw [add_block]; exact hab)).trans hv
            refine ⟨a, ea, hab, ao2, c2, hc _ _ h1, hc _ _ h2, hc _ _ h3, h4, h5, h6, fun i hi => ?_, h8⟩
            obtain ⟨a2, e2, hab2, hca⟩ := h7 i hi
            exact ⟨a2, e2, hab2, (hbw.cell (p := a2.add i) (by rw [add_block]; exact hab2)).trans hca⟩
          obtain ⟨ra', rc', er, _, hr2⟩ := hRw
          cases er
          obtain ⟨a2, rfl, hab2, ao2, c2, h1, h2, h3, h4, h5, h6, h7, h8⟩ := hr2 k r hrk
          rw [addf a2 (k * 3) 1 (by decide)] at h2
          rw [addf a2 (k * 3) 2 (by decide)] at h3
          have hrow : RowAt wr (.slice ao2 r.right.length c2) r.right := ⟨ao2, c2, rfl, h4, h5, h6, h8.1, fun i hi => by
            obtain ⟨a3, e3, hab3, hca⟩ := h7 i hi
            exact ⟨a3, e3, by omega, hca⟩⟩
          have HROW := Lib.hid hrow
          have hu : ∀ a : Addr, ao2 = some a → 0 < r.right.length → a.block < B := fun a e h0 => by
            obtain ⟨a3, e3, hab3, _⟩ := h7 0 h0
            rw [e] at e3
            cases e3
            exact hab3
          have hstp := fun W hb hs hr => HST.out y k r ao2 c2 W hb hs hrk hr hu
          have HSTP := Lib.hid hstp
          have hva := fun W => isVarOf_any W ta va (some a2) tl tc vl vc R.length rc r.left
          rw [decide_eq_true hl0, decide_eq_true hl1] at hva
          unfold RlV at hstp
          have HVA := Lib.hid hva
          clear hr2 h7 h8 hu hrow hstp hva h4 h5 h6
          have pa0 : ∀ o, (wr.alloc o).cell? ⟨w.heap.size, 0, none⟩ = some (.slice ta tl tc) := fun o => (by0.alloc o).cell 0
          have pa1 : ∀ o, (wr.alloc o).cell? ⟨w.heap.size, 1, none⟩ = some (.slice va vl vc) := fun o => (by0.alloc o).cell 1
          have pa2 : ∀ o, (wr.alloc o).cell? ⟨w.heap.size, 2, none⟩ = some (.slice (some a2) R.length rc) := fun o => (by0.alloc o).cell 2
          have HBY := Lib.hid by0
          clear p0 p1 p2
          go_wp2_with fail
          refine (HVA.out _).mono ?_
          rintro e w2 ⟨rfl, o2, rfl⟩
          have e2 : (true && true) = true := rfl
          rw [e2]
          have cR := (Blk.new wr 52 #[.int .i64 r.left, .slice ao2 r.right.length c2, .float .f64 r.wt]).alloc o2
          have cR0 := cR.cell 0
          have cR1 := cR.cell 1
          have cR2 := cR.cell 2
          simp only [List.getElem?_toArray, List.getElem?_cons_zero, List.getElem?_cons_succ] at cR0 cR1 cR2
          have hW2 : Below wr.heap.size wr ((wr.alloc (.cells #[.int .i64 r.left, .slice ao2 r.right.length c2, .float .f64 r.wt] 52)).alloc o2) := ((Below.refl _ wr).alloc (Nat.le_refl _) _).alloc (by rw [World.size_alloc]; omega) _
          have hcall := HSTP.out _ (hbw.trans (hW2.mono (by omega))) (HK.out y _ o2 (HK.out y _ (.cells #[.int .i64 r.left, .slice ao2 r.right.length c2, .float .f64 r.wt] 52) HY.out)) (HROW.out.below hW2)
          have hgW : w0.grownBy ((wr.alloc (.cells #[.int .i64 r.left, .slice ao2 r.right.length c2, .float .f64 r.wt] 52)).alloc o2) (some m) := (hgi.trans (World.grownBy_alloc _ _ _)).trans (World.grownBy_alloc _ _ _)
          unfold RlV at hcall
          generalize hWW : ((wr.alloc (.cells #[.int .i64 r.left, .slice ao2 r.right.length c2, .float .f64 r.wt] 52)).alloc o2) = W2 at *
          clear cR hW2 pa0 pa1 pa2 hbw h1 h2 h3
          go_wp2_with fail
          refine hcall.mono ?_
          rintro e w3 ⟨hg3, ⟨rfl, y', hy', hmu⟩ | ⟨rfl, hy', hsat⟩⟩
          · have HY' := Lib.hid hy'
            have h2' := HY2.out
            have h1' := HY1.out
            have hlt' : μ y' < μ x := by
              cases c
              · have := (h1' (by first | rfl | trivial)).1
                omega
              · have := h2' (by first | rfl | trivial)
                omega
            clear hy' hcall h1' h2'
            go_wp2
            exact ⟨⟨k + 1, y', true, hlt, congrArg (Value.int .i64) (by omega), rfl, HY'.out, fun h => (by cases h), fun _ => hlt', hgW.trans hg3⟩, by simp only [intOf]; omega⟩
          · have HY' := Lib.hid hy'
            have HSAT := Lib.hid hsat
            clear hy' hcall hsat
            go_wp2
            refine ⟨⟨k + 1, y, c, hlt, congrArg (Value.int .i64) (by omega), rfl, HY'.out, fun h => ?_, HY2.out, hgW.trans hg3⟩, by simp only [intOf]; omega⟩
            obtain ⟨a1, a2'⟩ := HY1.out (by first | exact h | (subst h; rfl) | (subst h; trivial))
            refine ⟨a1, fun i hi => ?_⟩
            rcases Nat.lt_or_ge i k with h' | h'
            · exact a2' i h'
            · obtain rfl : i = k := by omega
              exact HSAT.out
        · obtain rfl : k = R.length := by omega
          have hmy := muW_eq HF.out HY.out
          cases c
          · go_wp2
            obtain ⟨h1, h2⟩ := HY1.out (by first | rfl | trivial)
            exact ⟨⟨y, false, rfl, HY.out, fun _ => h2, hgi⟩, by simp only [boolN]; omega⟩
          · go_wp2
            have h1 := HY2.out (by first | rfl | trivial)
            exact ⟨⟨y, true, rfl, HY.out, fun h => (by cases h), hgi⟩, by simp only [boolN]; omega⟩
end Go.Proofs.Ytljkobijoenabaa.dv
namespace Go.Proofs.Ytljkobijoenabaa.dv
open Go.ChangeShapes Go.WideShapes Go.ChangeAt Go.RowKit Go.Maps Go.WideMaps Go.WideElems
set_option linter.unusedVariables false
set_option linter.unusedSimpArgs false
/-! becomes, mark, markAll -/
attribute [local go_sem] run_store_fl
set_option maxRecDepth 100000 in
theorem bec1_any (w : World) (bl : Nat) (v : Value) (S : List Bool) (x : Int) (hb : w.cell? ⟨bl, 0, none⟩ = some v) (h : ReadB w v S) : Calls Try.prog 103 #[.int .i64 x, .pointer (some ⟨bl, 0, none⟩)] w fun e w' => e = .returned (.bool (!decide (x < 0) && !at_ S x)) ∧ w' = w := by
  have ht := isTerm_any w x
  have hm := marked_any w v S x h
  obtain ⟨ao, cap, rfl, _⟩ := h
  by_cases h0 : x < 0
  · rw [decide_eq_true h0] at ht ⊢
    clear hm
    go_enter Try.func103, Try.ntmps103
    go_wp2_with fail
    refine ht.mono ?_
    rintro e w1 ⟨rfl, rfl⟩
    go_wp2
    go_ret
    exact ⟨rfl, rfl⟩
  · rw [decide_eq_false h0] at ht ⊢
    rw [decide_eq_true (show 0 ≤ x by omega)] at hm
    generalize at_ S x = b at *
    go_enter Try.func103, Try.ntmps103
    go_wp2_with fail
    refine ht.mono ?_
    rintro e w1 ⟨rfl, rfl⟩
    go_wp2_with fail
    refine hm.mono ?_
    rintro e w1 ⟨rfl, rfl⟩
    cases b
    · go_wp2
      go_ret
      exact ⟨rfl, rfl⟩
    · go_wp2
      go_ret
      exact ⟨rfl, rfl⟩
theorem any_all (S : List Bool) : ∀ (F : List Int), (!F.any fun x => !decide (x < 0) && !at_ S x) = allB S false F
  | [] => rfl
  | s :: F => by
    have ih := any_all S F
    unfold allB at *
    rw [List.any_cons, List.all_cons, ← ih]
    by_cases h : s < 0
    · simp [h]
    · simp [h]
theorem goes_bec : Goes 103 := fun args w => enters_of Try.func103 (by kernel_rfl) rfl args w
set_option maxRecDepth 100000 in
set_option maxHeartbeats 1000000 in
theorem becomes_any (w : World) (r : Rl) (ao : Option Addr) (cp : Nat) (v : Value) (S : List Bool) (hr : RowAt w (.slice ao r.right.length cp) r.right) (hS : ReadB w v S) : Calls Try.prog 94 #[RlV r ao cp, v] w fun e w' => e = .returned (.bool (allB S false r.right)) ∧ Below w.heap.size w w' := by
  have e := any_all S r.right
  rw [← e]
  clear e
  unfold RlV
  have b0 := Blk.new w 52 #[.int .i64 r.left, .slice ao r.right.length cp, .float .f64 r.wt]
  have b1 := Blk.new (w.alloc (.cells #[.int .i64 r.left, .slice ao r.right.length cp, .float .f64 r.wt] 52)) 55 #[v]
  rw [World.size_alloc] at b1
  have b0' := b0.alloc (.cells #[v] 55)
  have c0 := b0'.cell 0
  have c1 := b0'.cell 1
  have c2 := b0'.cell 2
  have c3 := b1.cell 0
  simp only [List.getElem?_toArray, List.getElem?_cons_zero, List.getElem?_cons_succ] at c0 c1 c2 c3
  have hbl : Below w.heap.size w ((w.alloc (.cells #[.int .i64 r.left, .slice ao r.right.length cp, .float .f64 r.wt] 52)).alloc (.cells #[v] 55)) := ((Below.refl _ w).alloc (Nat.le_refl _) _).alloc (by simp) _
  have hct := contains_any ((w.alloc (.cells #[.int .i64 r.left, .slice ao r.right.length cp, .float .f64 r.wt] 52)).alloc (.cells #[v] 55)) _ r.right 103 #[.pointer (some ⟨w.heap.size + 1, 0, none⟩)] (fun x => !decide (x < 0) && !at_ S x) goes_bec (fun x W hW => (bec1_any W (w.heap.size + 1) v S x ((hW.cell (p := ⟨w.heap.size + 1, 0, none⟩) b1.lt).trans c3) ((hS.below hbl).below hW)).mono fun e w' h => ⟨h.1, by rw [h.2]; exact hW⟩) (hr.below hbl)
  obtain ⟨vo, vc, rfl, _⟩ := hS
  generalize (r.right.any fun x => !decide (x < 0) && !at_ S x) = b at *
  go_enter Try.func94, Try.ntmps94
  go_wp2_with fail
  refine hct.mono ?_
  rintro e w1 ⟨rfl, hb1⟩
  go_wp2
  go_ret
  exact ⟨rfl, hbl.trans (hb1.mono (by simp; omega))⟩
/-- marks that are one's own, from block m on -/
def MarksAt (w : World) (B m : Nat) (v : Value) (S : List Bool) : Prop := (∃ cap, v = .slice (some ⟨m, 0, none⟩) S.length cap) ∧ w.ownsRow B 4 1 v S.length (BV S)
theorem MarksAt.read {w : World} {B m : Nat} {v : Value} {S : List Bool} (h : MarksAt w B m v S) : ReadB w v S := readB_own h.2 rfl
theorem bv_set (S : List Bool) (k : Nat) : (BV S).set k (.bool true) = BV (S.set k true) := by unfold BV; rw [List.map_set]
set_option maxRecDepth 100000 in
set_option maxHeartbeats 1000000 in
theorem mark_any (w : World) (B m : Nat) (v : Value) (S : List Bool) (k : Nat) (hk : k < S.length) (h : MarksAt w B m v S) : Calls Try.prog 95 #[v, .int .i64 k] w fun e w' => e = .returned (.bool (!at_ S (k : Int))) ∧ MarksAt w' B m v (S.set k true) ∧ w.grownBy w' (some m) := by
  obtain ⟨⟨cap, rfl⟩, hown⟩ := h
  have hc := hown.cellAt k (by omega)
  have hcw : w.cell? ⟨m, k, none⟩ = some (.bool (S.getD k false)) := by
    rw [hc]
    simp [BV, List.getD_eq_getElem?_getD, List.getElem?_eq_getElem hk]
  have hfw := hown.frozenAt k
  have hat : at_ S (k : Int) = S.getD k false := rfl
  obtain ⟨o1, o2⟩ := hown.stored k (.bool true)
  rw [bv_set] at o1
  have HO1 := Lib.hid o1
  have HO2 := Lib.hid o2
  have hk2 : (k : Int) < (S.length : Int) := by omega
  rw [hat]
  clear hc o1 o2
  generalize S.getD k false = b at *
  go_enter Try.func95, Try.ntmps95
  go_wp2
  go_ret
  exact ⟨rfl, ⟨⟨cap, by simp⟩, by simpa using HO1.out⟩, HO2.out⟩
theorem set_len (S : List Bool) (k : Nat) : (S.set k true).length = S.length := by simp
theorem cnt_le_set (S : List Bool) (k : Nat) (h : k < S.length) (hf : S.getD k false = false) : S.length - cnt (S.set k true) < S.length - cnt S := by
  have h1 := cnt_set S k h hf
  have h2 := cnt_le (S.set k true)
  simp at h2
  omega
theorem set_same (S : List Bool) (k : Nat) (h : S.getD k false = true) : S.set k true = S := by
  by_cases hk : k < S.length
  · rw [List.getD_eq_getElem?_getD, List.getElem?_eq_getElem hk] at h
    have h' : S[k] = true := by simpa using h
    apply List.ext_getElem (by simp)
    intro i h1 h2
    rw [List.getElem_set]
    split
    · rename_i e
      subst e
      exact h'.symm
    · rfl
  · exact List.set_eq_of_length_le (by omega)
/-- the marks that a closure has: in a box, in block m, below what is closed, of n -/
def StB (n B m bx : Nat) (P : List Bool → Prop) (S : List Bool) (W : World) : Prop := S.length = n ∧ P S ∧ bx < W.heap.size ∧ bx ≠ m ∧ ∃ v, W.heap[bx]? = some (.cells #[v] 55 (0, 0)) ∧ MarksAt W B m v S
theorem marks_alloc {w : World} {B m : Nat} {v : Value} {S : List Bool} (h : MarksAt w B m v S) (o : Obj) : MarksAt (w.alloc o) B m v S := ⟨h.1, h.2.alloc o⟩
theorem marks_lt {w : World} {B m : Nat} {v : Value} {S : List Bool} (h : MarksAt w B m v S) : m < w.heap.size := by
  obtain ⟨⟨cap, rfl⟩, ho⟩ := h
  exact own_lt ho
theorem marks_below {w w' : World} {B m : Nat} {v : Value} {S : List Bool} (h : MarksAt w B m v S) (hb : Below w.heap.size w w') : MarksAt w' B m v S := ⟨h.1, ownsRow_keep h.2 (fun g hg _ => hb.block g hg)⟩
theorem stB_alloc {n B m bx : Nat} {P : List Bool → Prop} {S : List Bool} {W : World} (o : Obj) (h : StB n B m bx P S W) : StB n B m bx P S (W.alloc o) := by
  obtain ⟨h1, h2, h3, h4, v, h5, h6⟩ := h
  exact ⟨h1, h2, by rw [World.size_alloc]; omega, h4, v, (Below.heap_alloc W o bx h3).trans h5, marks_alloc h6 o⟩
theorem stB_mu {n B m bx : Nat} {P : List Bool → Prop} (X Y : List Bool) (W : World) (h : StB n B m bx P X W) (k : StB n B m bx P Y W) : n - cnt X = n - cnt Y := by
  obtain ⟨h1, _, _, _, v, h5, ⟨c, hv⟩, h6⟩ := h
  obtain ⟨k1, _, _, _, u, k5, ⟨d, hu⟩, k6⟩ := k
  rw [h5] at k5
  cases k5
  subst hv
  have e : X = Y := by
    apply List.ext_getElem (by omega)
    intro i h1' h2'
    have a := h6.cellAt i (by omega)
    have b := k6.2
    have b' : W.cell? ⟨m, i, none⟩ = (BV Y)[i]? := by
      rw [hu] at k6
      exact k6.cellAt i (by omega)
    rw [b'] at a
    simp [BV, List.getElem?_eq_getElem h1', List.getElem?_eq_getElem h2'] at a
    exact a.symm
  rw [e]
theorem stB_below {n B m bx : Nat} {P : List Bool → Prop} {S : List Bool} {W W' : World} (h : StB n B m bx P S W) (hb : Below W.heap.size W W') : StB n B m bx P S W' := by
  obtain ⟨h1, h2, h3, h4, v, h5, h6⟩ := h
  exact ⟨h1, h2, Nat.lt_of_lt_of_le h3 hb.size, h4, v, (hb.block bx h3).trans h5, marks_below h6 hb⟩
theorem grown_below {W W' : World} (h : Below W.heap.size W W') (row : Option Nat) : W.grownBy W' row := ⟨h.os, h.tape, h.output, h.size, fun k hk _ => h.block k hk⟩
/-- what is settled of a rule -/
def SatB (R : List Rl) (none : Bool) (S : List Bool) (i : Nat) : Prop := ∀ r, R[i]? = some r → allB S none r.right = true → at_ S r.left = true
def LeastB (R : List Rl) (none : Bool) (n : Nat) (S : List Bool) : Prop := ∀ X : List Bool, X.length = n → Closed R none X → le S X
theorem least_set {R : List Rl} {none : Bool} {n : Nat} {S : List Bool} {r : Rl} (h : LeastB R none n S) (hr : r ∈ R) (ha : allB S none r.right = true) : LeastB R none n (S.set r.left.toNat true) := fun X hX hc v hv => by
  rcases (set_at _ _ _).1 hv with h1 | ⟨rfl, _⟩
  · exact h X hX hc v h1
  · exact hc r hr (allB_mono (h X hX hc) ha)
theorem info_bool : (Try.prog.info? 4).map (fun i => (i.zero, i.size, i.bytes)) = some (some (.bool false), 1, 1) := by kernel_rfl
theorem bv_rep (n : Nat) : BV (List.replicate n false) = List.replicate n (Value.bool false) := by simp [BV]
theorem least_none (R : List Rl) (none : Bool) (n : Nat) : LeastB R none n (List.replicate n false) := fun X _ _ v hv => by
  rw [List.getD_eq_getElem?_getD, List.getElem?_replicate] at hv
  split at hv <;> simp at hv
theorem sat_closed {R : List Rl} {none : Bool} {S : List Bool} (h : ∀ i, i < R.length → SatB R none S i) : Closed R none S := fun r hr ha => by
  obtain ⟨i, hi, rfl⟩ := List.mem_iff_getElem.1 hr
  exact h i hi _ (List.getElem?_eq_getElem hi) ha
theorem marks_weak {w : World} {B B' m : Nat} {v : Value} {S : List Bool} (h : MarksAt w B m v S) (hb : B' ≤ B) : MarksAt w B' m v S := ⟨h.1, own_weak h.2 hb⟩
theorem marks_far {w w' : World} {B m m' : Nat} {v : Value} {S : List Bool} (h : MarksAt w B m v S) (hg : w.grownBy w' (some m')) (hne : m ≠ m') : MarksAt w' B m v S := by
  obtain ⟨⟨cap, rfl⟩, ho⟩ := h
  exact ⟨⟨cap, rfl⟩, ownsRow_keep ho (fun g hg' hv => hg.block g hg' (fun e => by
    have e1 : m = g := by simpa [Value.ownBlock] using hv
    have e2 := Option.some.inj e
    omega))⟩
theorem RulesAt.far {B : Nat} {w w' : World} {v : Value} {R : List Rl} (h : RulesAt B w v R) (hb : Below B w w') : RulesAt B w' v R := by
  obtain ⟨ao', cap', e, hn2, hr⟩ := h
  refine ⟨ao', cap', e, hn2, fun j q hj => ?_⟩
  obtain ⟨a, ea, hab, ao2, c2, h1, h2, h3, h4, h5, h6, h7, h8⟩ := hr j q hj
  have hc : ∀ n v, w.cell? (a.add n) = some v → w'.cell? (a.add n) = some v := fun n v hv => (hb.cell (p := a.add n) (by rw [add_block]; exact hab)).trans hv
  refine ⟨a, ea, hab, ao2, c2, hc _ _ h1, hc _ _ h2, hc _ _ h3, h4, h5, h6, fun i hi => ?_, h8⟩
  obtain ⟨a2, e2, hab2, hca⟩ := h7 i hi
  exact ⟨a2, e2, hab2, (hb.cell (p := a2.add i) (by rw [add_block]; exact hab2)).trans hca⟩
end Go.Proofs.Ytljkobijoenabaa.dv
namespace Go.Proofs.Ytljkobijoenabaa.dv
open Go.ChangeShapes Go.WideShapes Go.ChangeAt Go.RowKit Go.Maps Go.WideMaps Go.WideElems
set_option linter.unusedVariables false
set_option linter.unusedSimpArgs false
/-! Nullable -/
theorem goes_isTerm : Goes 93 := fun args w => enters_of Try.func93 (by kernel_rfl) rfl args w
theorem goes_nul1 : Goes 91 := fun args w => enters_of Try.func91 (by kernel_rfl) rfl args w
theorem all_none (S : List Bool) : ∀ (F : List Int), allB S true F = (!(F.any fun x => decide (x < 0)) && allB S false F)
  | [] => rfl
  | s :: F => by
    have ih := all_none S F
    unfold allB at *
    rw [List.all_cons, List.any_cons, List.all_cons, ih]
    by_cases h : s < 0
    · simp [h]
    · simp [h]
      cases at_ S s <;> simp
set_option maxRecDepth 100000 in
set_option maxHeartbeats 2000000 in
theorem nul1_step (R : List Rl) (n B m bx B0 : Nat) (w : World) (hl : ∀ r ∈ R, 0 ≤ r.left ∧ r.left < n) : StepOf R 91 #[.pointer (some ⟨bx, 0, none⟩)] m (StB n B m bx (LeastB R true n)) (fun S => n - cnt S) (SatB R true) B0 w := by
  intro S i r ao cp W hbw hSt hrk hrow _
  obtain ⟨hn, hP, hbx, hne, v, hbox, hmk⟩ := hSt
  obtain ⟨hl0, hl1⟩ := hl r (List.mem_of_getElem? hrk)
  have hA : Below W.heap.size W (W.alloc (.cells #[.int .i64 r.left, .slice ao r.right.length cp, .float .f64 r.wt] 52)) := (Below.refl _ W).alloc (Nat.le_refl _) _
  have b0 := Blk.new W 52 #[.int .i64 r.left, .slice ao r.right.length cp, .float .f64 r.wt]
  have hbx2 : Blk W bx 55 #[v] := hbox
  have hbec := becomes_any (W.alloc (.cells #[.int .i64 r.left, .slice ao r.right.length cp, .float .f64 r.wt] 52)) r ao cp v S (hrow.below hA) (hmk.read.below hA)
  have hct := contains_any (W.alloc (.cells #[.int .i64 r.left, .slice ao r.right.length cp, .float .f64 r.wt] 52)) _ r.right 93 #[] (fun x => decide (x < 0)) goes_isTerm (fun x W' hW => (isTerm_any W' x).mono fun e w' h => ⟨h.1, by rw [h.2]; exact hW⟩) (hrow.below hA)
  have c0 := b0.cell 0
  have c1 := b0.cell 1
  have c2 := b0.cell 2
  have c3 := (hbx2.below hA hbx).cell 0
  have c4 := hbx2.cell 0
  simp only [List.getElem?_toArray, List.getElem?_cons_zero, List.getElem?_cons_succ] at c0 c1 c2 c3 c4
  have HMK := Lib.hid hmk
  obtain ⟨⟨vc, rfl⟩, _⟩ := hmk
  obtain ⟨k, hk⟩ : ∃ k : Nat, r.left = k := ⟨r.left.toNat, by omega⟩
  have hkS : k < S.length := by omega
  have HK := Lib.hid hk
  have HN := Lib.hid hn
  have HP := Lib.hid hP
  have HB := Lib.hid hbox
  have HLS := Lib.hid (fun ha => least_set (r := r) hP (List.mem_of_getElem? hrk) ha)
  unfold RlV at hbec ⊢
  have hall := all_none S r.right
  have HRW := Lib.hid hrow
  clear hP hbox hbx2 hk hn
  have hsatF : allB S true r.right = false → Hid (SatB R true S i) := fun h => Lib.hid (fun q hq ha => by
    rw [hrk] at hq
    cases hq
    rw [h] at ha
    cases ha)
  cases hb1 : r.right.any fun x => decide (x < 0)
  · rw [hb1] at hct hall
    cases hb : allB S false r.right
    · rw [hb] at hbec hall
      have HSAT := hsatF hall
      clear hsatF hall HLS
      go_enter Try.func91, Try.ntmps91
      go_wp2_with fail
      refine hct.mono ?_
      rintro e w2 ⟨rfl, hb2⟩
      have hW := hA.trans (hb2.mono (by simp))
      have b2 := b0.below hb2 (by simp)
      have d0 := b2.cell 0
      have d1 := b2.cell 1
      have d2 := b2.cell 2
      have d3 := ((show Blk W bx 55 #[_] from HB.out).below hW hbx).cell 0
      simp only [List.getElem?_toArray, List.getElem?_cons_zero, List.getElem?_cons_succ] at d0 d1 d2 d3
      have hbec2 := becomes_any w2 r ao cp _ S (HRW.out.below hW) (HMK.out.read.below hW)
      rw [hb] at hbec2
      unfold RlV at hbec2
      clear hbec hct c0 c1 c2 c3 c4
      go_wp2_with fail
      refine hbec2.mono ?_
      rintro e w3 ⟨rfl, hb3⟩
      have hW3 := hW.trans (hb3.mono hW.size)
      go_wp2
      go_ret
      exact ⟨grown_below hW3 _, .inr ⟨rfl, stB_below ⟨HN.out, HP.out, hbx, hne, _, HB.out, HMK.out⟩ hW3, HSAT.out⟩⟩
    · rw [hb] at hbec hall
      have hP2 := HLS.out hall
      rw [HK.out, Int.toNat_natCast] at hP2
      have HP2 := Lib.hid hP2
      clear hP2 hsatF hall
      go_enter Try.func91, Try.ntmps91
      go_wp2_with fail
      refine hct.mono ?_
      rintro e w2 ⟨rfl, hb2⟩
      have hW := hA.trans (hb2.mono (by simp))
      have b2 := b0.below hb2 (by simp)
      have d0 := b2.cell 0
      have d1 := b2.cell 1
      have d2 := b2.cell 2
      have d3 := ((show Blk W bx 55 #[_] from HB.out).below hW hbx).cell 0
      simp only [List.getElem?_toArray, List.getElem?_cons_zero, List.getElem?_cons_succ] at d0 d1 d2 d3
      have hbec2 := becomes_any w2 r ao cp _ S (HRW.out.below hW) (HMK.out.read.below hW)
      rw [hb] at hbec2
      unfold RlV at hbec2
      clear hbec hct c0 c1 c2 c3 c4
      go_wp2_with fail
      refine hbec2.mono ?_
      rintro e w3 ⟨rfl, hb3⟩
      have hW3 := hW.trans (hb3.mono hW.size)
      have b3 := b2.below hb3 b2.lt
      have f0 := b3.cell 0
      have f1 := b3.cell 1
      have f2 := b3.cell 2
      have f3 := ((show Blk W bx 55 #[_] from HB.out).below hW3 hbx).cell 0
      simp only [List.getElem?_toArray, List.getElem?_cons_zero, List.getElem?_cons_succ] at f0 f1 f2 f3
      have hmark := mark_any w3 B m _ S k hkS (marks_below HMK.out hW3)
      rw [← HK.out] at hmark
      clear d0 d1 d2 d3 hbec2
      go_wp2_with fail
      refine hmark.mono ?_
      rintro e w4 ⟨rfl, hmk3, hg3⟩
      have hgr : W.grownBy w4 (some m) := (grown_below hW3 (some m)).trans hg3
      have hbox3 : w4.heap[bx]? = some (.cells #[.slice (some ⟨m, 0, none⟩) S.length vc] 55 (0, 0)) := (hgr.block bx hbx (fun e => hne (Option.some.inj e))).trans HB.out
      cases ha : at_ S r.left
      · go_wp2
        go_ret
        refine ⟨hgr, .inl ⟨rfl, S.set k true, ⟨by simpa using HN.out, HP2.out, Nat.lt_of_lt_of_le hbx hgr.size, hne, _, hbox3, hmk3⟩, ?_⟩⟩
        have hn := HN.out
        have := cnt_le_set S k hkS (by rw [HK.out] at ha; exact ha)
        omega
      · have hss : S.set k true = S := set_same S k (by rw [HK.out] at ha; exact ha)
        rw [hss] at hmk3
        go_wp2
        go_ret
        refine ⟨hgr, .inr ⟨rfl, ⟨HN.out, HP.out, Nat.lt_of_lt_of_le hbx hgr.size, hne, _, hbox3, hmk3⟩, fun q hq _ => ?_⟩⟩
        rw [hrk] at hq
        cases hq
        exact ha
  · rw [hb1] at hct hall
    have HSAT := hsatF (by rw [hall]; simp)
    clear hsatF hall HLS hbec
    go_enter Try.func91, Try.ntmps91
    go_wp2_with fail
    refine hct.mono ?_
    rintro e w2 ⟨rfl, hb2⟩
    have hW := hA.trans (hb2.mono (by simp))
    go_wp2
    go_ret
    exact ⟨grown_below hW _, .inr ⟨rfl, stB_below ⟨HN.out, HP.out, hbx, hne, _, HB.out, HMK.out⟩ hW, HSAT.out⟩⟩
set_option maxRecDepth 100000 in
set_option maxHeartbeats 2000000 in
theorem nullable_any (w : World) (B : Nat) (ta va : Option Addr) (tl tc vl vc : Nat) (rv : Value) (R : List Rl) (hR : RulesAt B w rv R) (hB : B ≤ w.heap.size) (hl : ∀ r ∈ R, 0 ≤ r.left ∧ r.left < vl) (hv : vl ≤ 1000) :
    Calls Try.prog 78 #[.agg #[.slice ta tl tc, .slice va vl vc, rv]] w fun e w' => ∃ v, e = .returned v ∧ MarksAt w' w.heap.size (w.heap.size + 1) v (roundsB R true vl (List.replicate vl false)) ∧ Below w.heap.size w w' := by
  obtain ⟨i0, hi, hz0, hz1, hz2⟩ := info_parts info_bool
  obtain ⟨ra, rc, rfl, hn, hrl⟩ := id hR
  have b0 := Blk.new w 25 #[.slice ta tl tc, .slice va vl vc, .slice ra R.length rc]
  have hbl : Below w.heap.size w (w.alloc (.cells #[.slice ta tl tc, .slice va vl vc, .slice ra R.length rc] 25)) := (Below.refl _ w).alloc (Nat.le_refl _) _
  have HR := Lib.hid hR
  generalize hW0 : w.alloc (.cells #[.slice ta tl tc, .slice va vl vc, .slice ra R.length rc] 25) = w0 at *
  have hz : w0.heap.size = w.heap.size + 1 := by rw [← hW0]; simp
  have c0 := b0.cell 0
  have c1 := b0.cell 1
  have c2 := b0.cell 2
  simp only [List.getElem?_toArray, List.getElem?_cons_zero, List.getElem?_cons_succ] at c0 c1 c2
  clear hR hrl
  go_enter Try.func78, Try.ntmps78
  go_wp2_with (at_make; refine wpList_make_full _ rfl _ _ 55 rfl w.heap.size 4 i0 (.bool false) 1 Try.underlying55 hi hz0 hz1 .i64 .i64 _ _ vl rfl rfl rfl rfl (by rw [hz2]; omega) (by unfold maxLen; omega) (by omega) ?_; intro w1 hown1 hgrow1; have bg := b0.grown hgrow1 (fun e => by cases e); have pa0 : ∀ o, (w1.alloc o).cell? ⟨w.heap.size, 0, none⟩ = some (.slice ta tl tc) := fun o => (bg.alloc o).cell 0; have pa1 : ∀ o, (w1.alloc o).cell? ⟨w.heap.size, 1, none⟩ = some (.slice va vl vc) := fun o => (bg.alloc o).cell 1; have pa2 : ∀ o, (w1.alloc o).cell? ⟨w.heap.size, 2, none⟩ = some (.slice ra R.length rc) := fun o => (bg.alloc o).cell 2)
  rw [show (Value.bool false).cells = #[.bool false] from rfl, toList_madeCells_one, Nat.mul_one, ← bv_rep, hz] at hown1
  have hz1' := hgrow1.size
  have hB1 : Below w.heap.size w w1 := hbl.trans ((Below.refl w.heap.size w0).grown hgrow1 (by omega) (fun k e => by cases e))
  have hrl : (List.replicate vl false).length = vl := by simp
  have hm1 : MarksAt w1 w.heap.size (w.heap.size + 1) (.slice (some ⟨w.heap.size + 1, 0, none⟩) vl vl) (List.replicate vl false) := ⟨⟨vl, by rw [hrl]⟩, by rw [hrl]; exact hown1⟩
  have hmlt := marks_lt hm1
  have bx := Blk.new w1 55 #[.slice (some ⟨w.heap.size + 1, 0, none⟩) vl vl]
  have hst0 : StB vl w.heap.size (w.heap.size + 1) w1.heap.size (LeastB R true vl) (List.replicate vl false) (w1.alloc (.cells #[.slice (some ⟨w.heap.size + 1, 0, none⟩) vl vl] 55)) := ⟨hrl, least_none R true vl, by simp, by omega, _, bx, marks_alloc hm1 _⟩
  have hB2 : Below w.heap.size w (w1.alloc (.cells #[.slice (some ⟨w.heap.size + 1, 0, none⟩) vl vl] 55)) := hB1.alloc hB1.size _
  have hset := settle_any (w1.alloc (.cells #[.slice (some ⟨w.heap.size + 1, 0, none⟩) vl vl] 55)) B (w.heap.size + 1) ta va tl tc vl vc (.slice ra R.length rc) R (by
      obtain ⟨ao', cap', e, hn2, hr⟩ := HR.out
      have hbw := hB2.mono hB
      refine ⟨ao', cap', e, hn2, fun j q hj => ?_⟩
      obtain ⟨a, ea, hab, ao2, c2, h1, h2, h3, h4, h5, h6, h7, h8⟩ := hr j q hj
      have hc : ∀ n v, w.cell? (a.add n) = some v → (w1.alloc (.cells #[.slice (some ⟨w.heap.size + 1, 0, none⟩) vl vl] 55)).cell? (a.add n) = some v := fun n v hv => (hbw.cell (p := a.add n) (by rw [add_block]; exact hab)).trans hv
      refine ⟨a, ea, hab, ao2, c2, hc _ _ h1, hc _ _ h2, hc _ _ h3, h4, h5, h6, fun i hi => ?_, h8⟩
      obtain ⟨a2, e2, hab2, hca⟩ := h7 i hi
      exact ⟨a2, e2, hab2, (hbw.cell (p := a2.add i) (by rw [add_block]; exact hab2)).trans hca⟩) (by omega) (by rw [World.size_alloc]; omega) hl 91 #[.pointer (some ⟨w1.heap.size, 0, none⟩)] goes_nul1 (StB vl w.heap.size (w.heap.size + 1) w1.heap.size (LeastB R true vl)) (fun S => vl - cnt S) (SatB R true) (fun x y W h k => stB_mu x y W h k) (fun x W o h => stB_alloc o h) (nul1_step R vl w.heap.size (w.heap.size + 1) w1.heap.size B _ hl) (List.replicate vl false) hst0
  have HSET := Lib.hid hset
  have HL := Lib.hid hl
  clear hset hl hst0 hm1 hown1 bx bg
  refine HSET.out.mono ?_
  rintro e w3 ⟨⟨v, rfl⟩, hg3, S, ⟨hSn, hSP, hSb, hSne, u, hSu, hSm⟩, hsat⟩
  have hcu := (show Blk w3 w1.heap.size 55 #[u] from hSu).cell 0
  simp only [List.getElem?_toArray, List.getElem?_cons_zero, List.getElem?_cons_succ] at hcu
  have hS : S = roundsB R true vl (List.replicate vl false) := least_rounds hSn (fun r hr => by have := HL.out r hr; omega) (sat_closed hsat) hSP
  have HSM := Lib.hid hSm
  have hB3 : Below w.heap.size w w3 := hB2.grown hg3 hB2.size (fun k e => by cases e; omega)
  obtain ⟨⟨uc, rfl⟩, _⟩ := hSm
  subst hS
  have hsm := HSM.out
  rw [hSn] at hsm
  have HSM2 := Lib.hid hsm
  clear hsm
  go_wp2
  go_ret
  exact ⟨_, rfl, HSM2.out, hB3⟩
end Go.Proofs.Ytljkobijoenabaa.dv
namespace Go.Proofs.Ytljkobijoenabaa.dv
open Go.ChangeShapes Go.WideShapes Go.ChangeAt Go.RowKit Go.Maps Go.WideMaps Go.WideElems
set_option linter.unusedVariables false
set_option linter.unusedSimpArgs false
/-! ways, one by one -/
def WayV (x : Way) : Value := .agg #[.int .i64 (x.1 : Int), .int .i64 (x.2.1 : Int), .int .i64 x.2.2]
set_option maxRecDepth 100000 in
theorem add_any (w : World) (a b : Nat) (ha : a ≤ Far) (hb : b ≤ Far) : Calls Try.prog 113 #[.int .i64 a, .int .i64 b] w fun e w' => e = .returned (.int .i64 (min (a + b) Far : Nat)) ∧ w' = w := by
  unfold Far at *
  have hs : IntKind.i64.wrap (1073741824 - (a : Int)) = 1073741824 - (a : Int) := by rw [IntKind.wrap_i64]; omega
  have hp : IntKind.i64.wrap ((a : Int) + (b : Int)) = (a : Int) + (b : Int) := by rw [IntKind.wrap_i64]; omega
  by_cases h : 1073741824 - (a : Int) ≤ (b : Int)
  · have e : min (a + b) 1073741824 = 1073741824 := by omega
    rw [e]
    clear e
    go_enter Try.func113, Try.ntmps113
    go_wp2
    go_ret
    exact ⟨rfl, rfl⟩
  · have e : min (a + b) 1073741824 = a + b := by omega
    rw [e]
    clear e
    go_enter Try.func113, Try.ntmps113
    go_wp2
    go_ret
    exact ⟨rfl, rfl⟩
set_option maxRecDepth 100000 in
theorem ahead_any (w : World) (x y : Way) : Calls Try.prog 109 #[WayV x, WayV y] w fun e w' => (∃ b, e = .returned (.bool b) ∧ (b = true ↔ ahd x y)) ∧ Below w.heap.size w w' := by
  obtain ⟨x1, x2, x3⟩ := x
  obtain ⟨y1, y2, y3⟩ := y
  unfold WayV ahd
  dsimp only
  have hbl : Below w.heap.size w ((w.alloc (.cells #[.int .i64 (x1 : Int), .int .i64 (x2 : Int), .int .i64 x3] 115)).alloc (.cells #[.int .i64 (y1 : Int), .int .i64 (y2 : Int), .int .i64 y3] 115)) := ((Below.refl _ w).alloc (Nat.le_refl _) _).alloc (by simp) _
  have b0 := (Blk.new w 115 #[.int .i64 (x1 : Int), .int .i64 (x2 : Int), .int .i64 x3]).alloc (.cells #[.int .i64 (y1 : Int), .int .i64 (y2 : Int), .int .i64 y3] 115)
  have b1 := Blk.new (w.alloc (.cells #[.int .i64 (x1 : Int), .int .i64 (x2 : Int), .int .i64 x3] 115)) 115 #[.int .i64 (y1 : Int), .int .i64 (y2 : Int), .int .i64 y3]
  rw [World.size_alloc] at b1
  have c0 := b0.cell 0
  have c1 := b0.cell 1
  have d0 := b1.cell 0
  have d1 := b1.cell 1
  simp only [List.getElem?_toArray, List.getElem?_cons_zero, List.getElem?_cons_succ] at c0 c1 d0 d1
  by_cases h1 : x1 < y1
  · have h1' : decide ((x1 : Int) < (y1 : Int)) = true := decide_eq_true (by omega)
    go_enter Try.func109, Try.ntmps109
    go_wp2
    go_ret
    exact ⟨⟨true, by simp [h1], by simp [h1]⟩, hbl⟩
  · have h1' : decide ((x1 : Int) < (y1 : Int)) = false := decide_eq_false (by omega)
    by_cases h2 : x1 = y1
    · subst h2
      by_cases h3 : x2 < y2
      · have h3' : decide ((x2 : Int) < (y2 : Int)) = true := decide_eq_true (by omega)
        go_enter Try.func109, Try.ntmps109
        go_wp2
        go_ret
        exact ⟨⟨true, by simp [h3], by simp [h3]⟩, hbl⟩
      · have h3' : decide ((x2 : Int) < (y2 : Int)) = false := decide_eq_false (by omega)
        go_enter Try.func109, Try.ntmps109
        go_wp2
        go_ret
        exact ⟨⟨false, by simp [h3], by simp [h3]⟩, hbl⟩
    · have h2' : ((x1 : Int) == (y1 : Int)) = false := by rw [beq_eq_false_iff_ne]; omega
      go_enter Try.func109, Try.ntmps109
      go_wp2
      go_ret
      exact ⟨⟨false, by simp [h1, h2], by simp [h1, h2]⟩, hbl⟩
set_option maxRecDepth 100000 in
theorem none_any (w : World) : Calls Try.prog 106 #[] w fun e w' => e = .returned (WayV noW) ∧ Below w.heap.size w w' := by
  go_enter Try.func106, Try.ntmps106
  go_wp2
  refine bodyPost_ret (v := WayV noW) (by simp [results, Try.results106, go_sem, WayV, noW, Far]) rfl ?_
  exact ⟨rfl, (Below.refl _ w).alloc (Nat.le_refl _) _⟩
end Go.Proofs.Ytljkobijoenabaa.dv
namespace Go.Proofs.Ytljkobijoenabaa.dv
open Go.ChangeShapes Go.WideShapes Go.ChangeAt Go.RowKit Go.Maps Go.WideMaps Go.WideElems
set_option linter.unusedVariables false
set_option linter.unusedSimpArgs false
/-! a list of ways in memory; the way of a symbol -/
def ReadW (w : World) (v : Value) (S : List Way) : Prop := ∃ ao cap, v = .slice ao S.length cap ∧ S.length ≤ maxLen ∧ ∀ i, i < S.length → ∃ a : Addr, ao = some a ∧ a.block < w.heap.size ∧ w.cell? (a.add (i * 3)) = some (.int .i64 ((S.getD i noW).1 : Int)) ∧ w.cell? (a.add (i * 3 + 1)) = some (.int .i64 ((S.getD i noW).2.1 : Int)) ∧ w.cell? (a.add (i * 3 + 2)) = some (.int .i64 (S.getD i noW).2.2)
theorem ReadW.below {w w' : World} {v : Value} {S : List Way} (h : ReadW w v S) (hb : Below w.heap.size w w') : ReadW w' v S := by
  obtain ⟨ao, cap, e, hm, hc⟩ := h
  refine ⟨ao, cap, e, hm, fun i hi => ?_⟩
  obtain ⟨a, e2, hab, h1, h2, h3⟩ := hc i hi
  have k : ∀ j, w'.cell? (a.add j) = w.cell? (a.add j) := fun j => hb.cell (p := a.add j) (by rw [add_block]; exact hab)
  exact ⟨a, e2, Nat.lt_of_lt_of_le hab hb.size, (k _).trans h1, (k _).trans h2, (k _).trans h3⟩
theorem addw_form (a : Addr) (n m : Nat) (hm : m ≠ 0) : a.add (n + m) = { block := (a.add n).block, off := (a.add n).off + m } := by
  unfold Addr.add
  rw [if_neg (by omega)]
  by_cases h : n = 0
  · subst h; simp
  · rw [if_neg h]; simp [Nat.add_assoc]
set_option maxRecDepth 100000 in
set_option maxHeartbeats 2000000 in
theorem wayOf_any (w : World) (v : Value) (S : List Way) (x : Int) (h : ReadW w v S) : Calls Try.prog 112 #[.int .i64 x, v] w fun e w' => e = .returned (WayV (wat S x)) ∧ Below w.heap.size w w' := by
  obtain ⟨ao, cap, rfl, hm, hc⟩ := h
  have hit := fun W => isTerm_any W x
  by_cases h0 : x < 0
  · simp only [decide_eq_true h0] at hit
    have hat : wat S x = (1, 0, -1) := by unfold wat; rw [if_pos h0]
    rw [hat]
    clear hc hat
    go_enter Try.func112, Try.ntmps112
    go_wp2_with fail
    refine (hit _).mono ?_
    rintro e w1 ⟨rfl, rfl⟩
    go_wp2
    refine bodyPost_ret (v := WayV (1, 0, -1)) (by simp [results, Try.results112, go_sem, WayV]) rfl ?_
    exact ⟨rfl, (Below.refl _ w).alloc (Nat.le_refl _) _⟩
  · simp only [decide_eq_false h0] at hit
    obtain ⟨k, rfl⟩ : ∃ k : Nat, x = k := ⟨x.toNat, by omega⟩
    have hat : wat S (k : Int) = S.getD k noW := by rw [wat_var (by omega), Int.toNat_natCast]
    rw [hat]
    by_cases hlt : k < S.length
    · obtain ⟨a, rfl, hab, h1, h2, h3⟩ := hc k hlt
      have hlt2 : decide ((S.length : Int) ≤ (k : Int)) = false := decide_eq_false (by omega)
      have hlt3 : (k : Int) < (S.length : Int) := by omega
      generalize S.getD k noW = y at h1 h2 h3 ⊢
      obtain ⟨c, s, r⟩ := y
      simp only at h1 h2 h3
      have hb0 := (Below.refl _ w).alloc (Nat.le_refl _) (.cells #[.int .i64 0, .int .i64 0, .int .i64 0] 115)
      have y0 := (hb0.cell (p := a.add (k * 3)) (by rw [add_block]; exact hab)).trans h1
      have y1 := (hb0.cell (p := a.add (k * 3 + 1)) (by rw [add_block]; exact hab)).trans h2
      have y2 := (hb0.cell (p := a.add (k * 3 + 2)) (by rw [add_block]; exact hab)).trans h3
      rw [addw_form a (k * 3) 1 (by decide)] at y1
      rw [addw_form a (k * 3) 2 (by decide)] at y2
      clear hc hat h1 h2 h3
      go_enter Try.func112, Try.ntmps112
      go_wp2_with fail
      refine (hit _).mono ?_
      rintro e w1 ⟨rfl, rfl⟩
      go_wp2
      refine bodyPost_ret (v := WayV (c, s, r)) (by simp [results, Try.results112, go_sem, WayV]) rfl ?_
      exact ⟨rfl, (Below.refl _ w).alloc (Nat.le_refl _) _⟩
    · have hat2 : S.getD k noW = noW := by rw [List.getD_eq_getElem?_getD, List.getElem?_eq_none (by omega)]; rfl
      have hlt2 : decide ((S.length : Int) ≤ (k : Int)) = true := decide_eq_true (by omega)
      rw [hat2]
      clear hc hat hat2
      go_enter Try.func112, Try.ntmps112
      go_wp2_with fail
      refine (hit _).mono ?_
      rintro e w1 ⟨rfl, rfl⟩
      go_wp2
      refine bodyPost_ret (v := WayV noW) (by simp [results, Try.results112, go_sem, WayV, noW, Far]) rfl ?_
      exact ⟨rfl, ((Below.refl _ w).alloc (Nat.le_refl _) _).alloc (by rw [World.size_alloc]; exact Nat.le_succ _) _⟩
end Go.Proofs.Ytljkobijoenabaa.dv
namespace Go.Proofs.Ytljkobijoenabaa.dv
set_option linter.unusedVariables false
set_option linter.unusedSimpArgs false
/-! a region that draws: what is read is read ahead of what is written at its end (the numbers E): S is kept by all others alone -/
section
variable {P : Program} {ops : Array Oper} {Q : Exit → Act → World → Prop} {md : Region.Mode} {S : World → Prop} {E : List Nat}
/-- what has come up, had all come up that it waits for -/
def clB (md : Region.Mode) (ops : Array Oper) (ls : Array Bool) : Bool := (List.range ops.size).all fun j => !ls.getD j false || match ops[j]? with
  | some q => q.after.all fun x => !Region.binds md x || ls.getD x.on false
  | none => true
/-- j waits for i -/
def ancB (md : Region.Mode) (ops : Array Oper) (i : Nat) : Nat → Nat → Bool
  | 0, _ => false
  | n + 1, j => match ops[j]? with
    | some q => q.after.any fun x => Region.binds md x && (x.on == i || ancB md ops i n x.on)
    | none => false
theorem cl_spec {ls : Array Bool} (h : clB md ops ls = true) {j : Nat} {q : Oper} (hq : ops[j]? = some q) (hj : ls.getD j false = true) : ∀ x ∈ q.after, Region.binds md x = true → ls.getD x.on false = true := fun x hx hb => by
  unfold clB at h
  rw [List.all_eq_true] at h
  have k := h j (List.mem_range.2 (Array.getElem?_eq_some_iff.1 hq).1)
  rw [hj, hq] at k
  simp only [Bool.not_true, Bool.false_or] at k
  have k2 := (Array.all_eq_true_iff_forall_mem.1 k) x hx
  rw [hb] at k2
  simpa using k2
theorem anc_spec {ls : Array Bool} (h : clB md ops ls = true) {i : Nat} : ∀ (n j : Nat) (q : Oper), ops[j]? = some q → ancB md ops i n j = true → (∀ x ∈ q.after, Region.binds md x = true → ls.getD x.on false = true) → ls.getD i false = true
  | 0, _, _, _, k, _ => by cases k
  | n + 1, j, q, hq, k, hall => by
    unfold ancB at k
    rw [hq] at k
    simp only at k
    obtain ⟨x, hx, hb⟩ := Array.any_eq_true'.1 k
    simp only [Bool.and_eq_true, Bool.or_eq_true, beq_iff_eq] at hb
    have h1 := hall x hx hb.1
    rcases hb.2 with e | e
    · rw [← e]; exact h1
    · cases hx2 : ops[x.on]? with
      | none =>
        cases n with
        | zero => cases e
        | succ n => unfold ancB at e; rw [hx2] at e; cases e
      | some q2 => exact anc_spec h n x.on q2 hx2 e (cl_spec h hx2 h1)
theorem cl_set {ls : Array Bool} (h : clB md ops ls = true) {j : Nat} (hj : j ∈ Region.ready md ops ls) : clB md ops (ls.setIfInBounds j true) = true := by
  obtain ⟨_, q, hq, hall⟩ := mem_ready.1 hj
  unfold clB
  rw [List.all_eq_true]
  intro k hk
  cases hk2 : ops[k]? with
  | none => simp
  | some r =>
    by_cases e : j = k
    · subst e
      rw [hq] at hk2
      cases hk2
      simp only [Bool.or_eq_true]
      right
      rw [Array.all_eq_true_iff_forall_mem]
      intro x hx
      cases hb : Region.binds md x
      · rfl
      · simpa using getD_set_true (hall x hx hb)
    · rw [getD_set_ne false e]
      cases hl : ls.getD k false
      · rfl
      · simp only [Bool.or_eq_true]
        right
        rw [Array.all_eq_true_iff_forall_mem]
        intro x hx
        cases hb : Region.binds md x
        · rfl
        · simpa using getD_set_true (cl_spec h hk2 hl x hx hb)
def anyE (P : Program) (md : Region.Mode) (ops : Array Oper) (Q : Exit → Act → World → Prop) (S : World → Prop) (E : List Nat) : Nat → Array Bool → Act → World → Prop
  | 0, ls, a, w => Region.ready md ops ls = [] ∧ Q .normal a w
  | n + 1, ls, a, w => (Region.ready md ops ls = [] → Q .normal a w) ∧ ∀ i ∈ Region.ready md ops ls, wpOp P ops Q i (fun b u => (E.contains i = false → S u) ∧ anyE P md ops Q S E n (ls.setIfInBounds i true) b u) a w
theorem any_of_anyE : ∀ (n : Nat) (ls : Array Bool) (a : Act) (w : World), anyE P md ops Q S E n ls a w → wpAny P md ops Q n ls a w
  | 0, _, _, _, h => h
  | n + 1, _, _, _, h => ⟨h.1, fun i hi => wpOp_mono (fun b u k => any_of_anyE n _ b u k.2) (h.2 i hi)⟩
theorem anyE_first {i : Nat} {o : Oper} {v : Value} (hi : ops[i]? = some o) (hsel : ∀ (j : Nat) (q : Oper) cs b, ops[j]? = some q → q.op ≠ .select cs b) (hQ : ∀ c a w, Q (.panic c) (a.put o.dst v) w → Q (.panic c) a w) (hanc : ∀ j ∈ E, ancB md ops i ops.size j = true) :
    ∀ (n : Nat) (ls : Array Bool) (a : Act) (w : World), clB md ops ls = true → (∀ j q, ops[j]? = some q → j ≠ i → ls.getD j true = false → (∀ e ∈ q.after, Region.binds md e = true → e.on ≠ i) → o.apart ops q = true) →
      i ∈ Region.ready md ops ls → YieldsIf P ops S o v a → S w → anyE P md ops Q S E n (ls.setIfInBounds i true) (a.put o.dst v) w → anyE P md ops Q S E (n + 1) ls a w
  | 0, ls, a, w, _, _, hr, hy, hS, H => by
    refine ⟨fun h => (by rw [h] at hr; cases hr), fun j hj => ?_⟩
    by_cases e : j = i
    · subst e; exact hy.wpOp hi hS ⟨fun _ => hS, H⟩
    · have := ready_mono hj e
      rw [H.1] at this
      cases this
  | n + 1, ls, a, w, hcl, hfr, hr, hy, hS, H => by
    refine ⟨fun h => (by rw [h] at hr; cases hr), fun j hj => ?_⟩
    by_cases e : j = i
    · subst e; exact hy.wpOp hi hS ⟨fun _ => hS, H⟩
    · have h1 := H.2 j (ready_mono hj e)
      obtain ⟨hun, q, hq, hall⟩ := mem_ready.1 hj
      have hiu := (mem_ready.1 hr).1
      have hif : ls.getD i false = false := by
        rcases Nat.lt_or_ge i ls.size with h' | h'
        · simp [h'] at hiu ⊢; exact hiu
        · simp [Array.getElem?_eq_none h']
      have hno : ∀ x ∈ q.after, Region.binds md x = true → x.on ≠ i := fun x hx hb he => by
        have k := hall x hx hb
        rw [he, hif] at k
        cases k
      have hjE : E.contains j = false := by
        cases hc : E.contains j
        · rfl
        · have k := anc_spec hcl ops.size j q hq (hanc j (by simpa using hc)) hall
          rw [hif] at k
          cases k
      have h2 := wpOp_putIf hq (hfr j q hq e hun hno) (fun cs b => hsel i o cs b hi) (fun cs b => hsel j q cs b hq) hQ hy h1
      refine wpOp_mono (fun b u k => ⟨fun _ => k.2.1 hjE, anyE_first hi hsel hQ hanc n (ls.setIfInBounds j true) b u (cl_set hcl hj) ?_ (ready_mono hr (Ne.symm e)) k.1 (k.2.1 hjE) ?_⟩) h2
      · intro k q2 hk hki hun2 hno2
        refine hfr k q2 hk hki ?_ hno2
        by_cases hjk : j = k
        · subst hjk; exact hun
        · rw [getD_set_ne true hjk] at hun2; exact hun2
      · rw [Array.setIfInBounds_comm _ _ e]
        exact k.2.2
theorem anyE_take {i : Nat} {o : Oper} {v : Value} {n : Nat} {ls : Array Bool} {a : Act} {w : World} (hi : ops[i]? = some o) (hs : Region.noSelect ops = true) (hcl : clB md ops ls = true) (hanc : E.all (ancB md ops i ops.size) = true) (hf : Region.free md ops ls i = true) (hr : (Region.ready md ops ls).contains i = true)
    (hQ : ∀ c a w, Q (.panic c) (a.put o.dst v) w → Q (.panic c) a w) (hy : YieldsIf P ops S o v a) (hS : S w) (h : anyE P md ops Q S E n (ls.setIfInBounds i true) (a.put o.dst v) w) : anyE P md ops Q S E (n + 1) ls a w :=
  anyE_first hi (Region.noSelect_spec hs) hQ (fun j hj => List.all_eq_true.1 hanc j hj) n ls a w hcl (Region.free_spec hi hf) (by simpa using hr) hy hS h
theorem anyE_all {rs : List Nat} {n : Nat} {ls : Array Bool} {a : Act} {w : World} (hr : Region.ready md ops ls = rs) (hne : rs ≠ []) (h : ∀ i ∈ rs, wpOp P ops Q i (fun b u => (E.contains i = false → S u) ∧ anyE P md ops Q S E n (ls.setIfInBounds i true) b u) a w) : anyE P md ops Q S E (n + 1) ls a w :=
  ⟨fun h0 => absurd (hr ▸ h0) hne, hr ▸ h⟩
theorem anyE_done {ls : Array Bool} {a : Act} {w : World} (hr : Region.ready md ops ls = []) (h : Q .normal a w) : ∀ n, anyE P md ops Q S E n ls a w
  | 0 => ⟨hr, h⟩
  | _ + 1 => ⟨fun _ => h, by rw [hr]; simp⟩
theorem wp_region_E {id : Nat} {a : Act} {w : World} (S : World → Prop) (E : List Nat) (hm : P.follows .mixedOrders = true) (h : anyE P .any ops Q S E ops.size (Array.replicate ops.size false) a { w with drawn := w.drawn + 1 }) : (Code.region id ops true).wp P Q a w :=
  wp_region_any hm (any_of_anyE _ _ _ _ h)
def ReadyE (P : Program) (md : Region.Mode) (ops : Array Oper) (Q : Exit → Act → World → Prop) (S : World → Prop) (E : List Nat) (n : Nat) (ls : Array Bool) (a : Act) (w : World) (rs : List Nat) : Prop := ∀ i ∈ rs, wpOp P ops Q i (fun b u => (E.contains i = false → S u) ∧ anyE P md ops Q S E n (ls.setIfInBounds i true) b u) a w
theorem ReadyE.nil {n : Nat} {ls : Array Bool} {a : Act} {w : World} : ReadyE P md ops Q S E n ls a w [] := fun _ h => by cases h
theorem ReadyE.cons {n : Nat} {ls : Array Bool} {a : Act} {w : World} {i : Nat} {o : Oper} {rs : List Nat} (ho : ops[i]? = some o) (hw : Region.wanted o (yielded ops a.tmps) = true)
    (h : ∀ K : Act → World → Prop, Shut (∀ b u, (E.contains i = false → S u) → anyE P md ops Q S E n (ls.setIfInBounds i true) b u → K b u) → Oper.wp P o a w K Q) (hs : ReadyE P md ops Q S E n ls a w rs) : ReadyE P md ops Q S E n ls a w (i :: rs) := fun j hj => by
  rcases List.mem_cons.1 hj with rfl | hj
  · exact wpOp_step ho (fun K hK => by rw [if_pos hw]; exact h K (fun b u h1 h2 => hK b u ⟨h1, h2⟩))
  · exact hs j hj
theorem ReadyE.consI {n : Nat} {ls : Array Bool} {a : Act} {w : World} {i : Nat} {o : Oper} {rs : List Nat} (ho : ops[i]? = some o)
    (h : ∀ K : Act → World → Prop, Shut (∀ b u, (E.contains i = false → S u) → anyE P md ops Q S E n (ls.setIfInBounds i true) b u → K b u) → if Region.wanted o (yielded ops a.tmps) = true then Oper.wp P o a w K Q else K (a.put o.dst undef) w) (hs : ReadyE P md ops Q S E n ls a w rs) : ReadyE P md ops Q S E n ls a w (i :: rs) := fun j hj => by
  rcases List.mem_cons.1 hj with rfl | hj
  · exact wpOp_step ho (fun K hK => h K (fun b u h1 h2 => hK b u ⟨h1, h2⟩))
  · exact hs j hj
theorem anyE_ready {rs : List Nat} {n : Nat} {ls : Array Bool} {a : Act} {w : World} (hr : Region.ready md ops ls = rs) (hne : rs ≠ []) (h : ReadyE P md ops Q S E n ls a w rs) : anyE P md ops Q S E (n + 1) ls a w := anyE_all hr hne h
/-- nothing but what is of E is left: S is asked no more -/
theorem anyE_of_any : ∀ (n : Nat) (ls : Array Bool) (a : Act) (w : World), (∀ i, ls.getD i true = false → E.contains i = true) → wpAny P md ops Q n ls a w → anyE P md ops Q S E n ls a w
  | 0, _, _, _, _, h => h
  | n + 1, ls, a, w, hE, h => ⟨h.1, fun i hi => wpOp_mono (fun b u k => ⟨fun hc => (by rw [hE i (mem_ready.1 hi).1] at hc; cases hc), anyE_of_any n _ b u (fun j hj => by
      by_cases e : i = j
      · subst e; exact hE i (mem_ready.1 hi).1
      · rw [getD_set_ne true e] at hj; exact hE j hj) k⟩) (h.2 i hi)⟩
theorem anyE_rest {n : Nat} {ls : Array Bool} {a : Act} {w : World} (hE : ((List.range ls.size).all fun i => ls.getD i true || E.contains i) = true) (h : wpAny P md ops Q n ls a w) : anyE P md ops Q S E n ls a w :=
  anyE_of_any n ls a w (fun i hi => by
    rcases Nat.lt_or_ge i ls.size with hl | hl
    · have := List.all_eq_true.1 hE i (List.mem_range.2 hl)
      rw [hi] at this
      simpa using this
    · simp [Array.getElem?_eq_none hl] at hi) h
/-- the same where the post looks at the frame of a panic: the region panics nowhere -/
theorem wp_region_EQ {id : Nat} {a : Act} {w : World} (S : World → Prop) (E : List Nat) (hm : P.follows .mixedOrders = true) (h : anyE P .any ops (fun e a w => (∀ c, e ≠ .panic c) ∧ Q e a w) S E ops.size (Array.replicate ops.size false) a { w with drawn := w.drawn + 1 }) : (Code.region id ops true).wp P Q a w :=
  wp_mono (wp_region_E S E hm h) (fun e a w h => h.2)
end
end Go.Proofs.Ytljkobijoenabaa.dv

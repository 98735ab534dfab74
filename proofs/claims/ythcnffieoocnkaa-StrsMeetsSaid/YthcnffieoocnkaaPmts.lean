/- For any two lists of words and any word the law StrsMeets returns true: a word is in what is in both sets just if it is in each, and in a set that took another one just if it is in one of both; both have as many words as the sum less what is in both (of more than 20 words, or of longer ones than 20 numbers, nothing is asked by the law itself); no condition. -/
import Derived.Test.YthcnffieoocnkaaMeet
import Derived.Test.YthcnffieoocnkaaArgs
namespace Go.Proofs.Ythcnffieoocnkaa.st
open Go.ChangeShapes Go.WideShapes Go.ChangeAt Go.RowKit Go.Maps Go.WideMaps Go.WideElems
set_option linter.unusedVariables false
set_option maxRecDepth 100000 in
set_option maxHeartbeats 1000000 in
theorem meets_all (w : World) (va vb : Value) (ko : Option Addr) (kc : Nat) (A C : List (List Int)) (q : List Int) (ha : RowsAt w va A) (hb : RowsAt w vb C) (hq : RowAt w (.slice ko q.length kc) q) : Calls Try.prog 7 #[va, vb, .slice ko q.length kc] w fun e w' => e = .returned (.bool true) ∧ Below w.heap.size w w' := by
  by_cases fa : FewP A
  · by_cases fb : FewP C
    · by_cases fq : q.length ≤ 20
      · exact meets_main w va vb ko kc A C q ha hb hq fa fb fq
      · have hqm : q.length ≤ 9223372036854775807 := by obtain ⟨_, _, e, h1, h2, _⟩ := hq; cases e; unfold maxLen at h2; omega
        clear hq
        go_enter Try.func7, Try.ntmps7
        go_wp2_with fail
        refine (alive_any _).mono ?_
        rintro e w1 ⟨rfl, b1⟩
        have f1 := few_any w1 va A (ha.below b1)
        rw [decide_eq_true fa] at f1
        go_wp2_with fail
        refine f1.mono ?_
        rintro e w2 ⟨rfl, rfl⟩
        clear f1
        have f2 := few_any w1 vb C (hb.below b1)
        rw [decide_eq_true fb] at f2
        go_wp2_with fail
        refine f2.mono ?_
        rintro e w2 ⟨rfl, rfl⟩
        clear f2 ha hb fa fb
        go_wp2_with fail
        go_ret
        exact ⟨rfl, b1⟩
    · go_enter Try.func7, Try.ntmps7
      go_wp2_with fail
      refine (alive_any _).mono ?_
      rintro e w1 ⟨rfl, b1⟩
      have f1 := few_any w1 va A (ha.below b1)
      rw [decide_eq_true fa] at f1
      go_wp2_with fail
      refine f1.mono ?_
      rintro e w2 ⟨rfl, rfl⟩
      clear f1
      have f2 := few_any w1 vb C (hb.below b1)
      rw [decide_eq_false fb] at f2
      go_wp2_with fail
      refine f2.mono ?_
      rintro e w2 ⟨rfl, rfl⟩
      clear f2 ha hb fa fb hq
      go_wp2_with fail
      go_ret
      exact ⟨rfl, b1⟩
  · go_enter Try.func7, Try.ntmps7
    go_wp2_with fail
    refine (alive_any _).mono ?_
    rintro e w1 ⟨rfl, b1⟩
    have f1 := few_any w1 va A (ha.below b1)
    rw [decide_eq_false fa] at f1
    go_wp2_with fail
    refine f1.mono ?_
    rintro e w2 ⟨rfl, rfl⟩
    clear f1 ha hb fa hq
    go_wp2_with fail
    go_ret
    exact ⟨rfl, b1⟩
set_option maxRecDepth 100000 in
theorem mts_lifted (os : Os) (started : os.Started) (H : Type) (enc : TypeId × Value → H) :
    ReturnsInHanded {} Try.checked os 7 .any (Rows.strsMeetsSpec.pre6 enc Try.prog Try.f7 Rows.strsMeetsRow.domain false) (Rows.strsMeetsSpec.post enc Try.prog Try.f7 false true false false) := by
  refine returnsInHanded_of_change (C := Try.checked) own started (by kernel_rfl) Try.func7
    (ChangeSpec.witness6 (enc := enc) (C := Try.checked) false ⟨#[], #[.slice none 0 0, .slice none 0 0, .slice none 0 0], []⟩ 8 (by kernel_rfl) (by kernel_rfl) (by kernel_rfl) (by kernel_rfl)) ?_
  intro W base args ds gs before hval0 hW hcnd _
  have hval : ∀ (j : Nat) t v, Try.f7.params[j]? = some t → args[j]? = some v → Value.okWide Try.prog W .any base t v := hval0
  have hW' := hW
  obtain ⟨p, q, hA0, hV, rfl, hfz, hnd⟩ := hW
  have hA : DataW.TrodAll enc Try.prog W 0 (fun _ => true) true Try.f7.params.toList args.toList ds p := hA0
  rw [Try.params7] at hA hval
  obtain ⟨v0, vs0, d0, ds0, p0, q0, hargs, rfl, rfl, h0, r0⟩ := trodAll_cons hA
  obtain ⟨v1, vs1, d1, ds1, p1, q1, rfl, rfl, rfl, h1, r1⟩ := trodAll_cons r0
  obtain ⟨v2, vs2, d2, ds2, p2, q2, rfl, rfl, rfl, h2, r2⟩ := trodAll_cons r1
  obtain ⟨rfl, rfl, rfl⟩ := trodAll_nil r2
  obtain rfl : args = #[v0, v1, v2] := by cases args; simp_all
  obtain ⟨rfl, rfl⟩ := trodVars_none hV
  obtain ⟨a0, len0, cap0, rfl⟩ := okWide_slice Try.underlying29 (hval 0 29 v0 rfl rfl)
  obtain ⟨a1, len1, cap1, rfl⟩ := okWide_slice Try.underlying29 (hval 1 29 v1 rfl rfl)
  obtain ⟨a2, len2, cap2, rfl⟩ := okWide_slice Try.underlying22 (hval 2 22 v2 rfl rfl)
  have h0k := h0
  have h1k := h1
  have h2k := h2
  obtain ⟨fu0, hf0⟩ := h0
  obtain ⟨fu1, hf1⟩ := h1
  obtain ⟨fu2, hf2⟩ := h2
  clear hA0 hval0
  simp only [List.append_nil] at hW'
  have hlt : ∀ x ∈ p0 ++ (p1 ++ p2), x.block < W.heap.size := fun x hx => by simpa using hW'.lt x (by simpa using hx)
  have hback0 : ∀ (W' : World), Below W.heap.size W W' → DataW.Trod enc Try.prog W' 0 (fun b => decide (b < W.heap.size)) true 29 (.slice a0 len0 cap0) d0 p0 :=
    fun W' hn => Below.trod laidOut (by kernel_rfl) (of_decide_eq_true (by kernel_rfl)) h0k hn (fun x hx => hlt x (by simp [hx]))
  have hback1 : ∀ (W' : World), Below W.heap.size W W' → DataW.Trod enc Try.prog W' 0 (fun b => decide (b < W.heap.size)) true 29 (.slice a1 len1 cap1) d1 p1 :=
    fun W' hn => Below.trod laidOut (by kernel_rfl) (of_decide_eq_true (by kernel_rfl)) h1k hn (fun x hx => hlt x (by simp [hx]))
  have hback2 : ∀ (W' : World), Below W.heap.size W W' → DataW.Trod enc Try.prog W' 0 (fun b => decide (b < W.heap.size)) true 22 (.slice a2 len2 cap2) d2 p2 :=
    fun W' hn => Below.trod laidOut (by kernel_rfl) (of_decide_eq_true (by kernel_rfl)) h2k hn (fun x hx => hlt x (by simp [hx]))
  obtain ⟨A, _, hA1⟩ := rows_of hf0
  obtain ⟨C, _, hC1⟩ := rows_of hf1
  obtain ⟨q, rfl, hq1⟩ := row_of hf2
  refine (meets_all W _ _ a2 cap2 A C q hA1 hC1 hq1).mono fun e W' ⟨he, hb⟩ => ?_
  subst he
  exact ⟨_, rfl, _, _, _, [], p0 ++ (p1 ++ p2), [], hW', trodAll_mk1 (shut_bool Try.underlying4 _), trodAll_mk3 (hback0 _ hb) (hback1 _ hb) (hback2 _ hb), rfl, hb.frame _, fun h => by cases h⟩
theorem mts_said : Rows.StrsMeetsSaid :=
  OpenClaim.holds_of_wide 7 Try.f7 rfl rfl rfl rfl rfl rfl rfl ⟨rfl, rfl, rfl, rfl, rfl⟩ rfl rfl rfl rfl rfl (by kernel_rfl) Try.func7 (by kernel_rfl)
    (of_decide_eq_true (by kernel_rfl)) (by unfold Func.isWrapper; first | (rw [if_pos (by decide +kernel)]; kernel_rfl) | (rw [if_neg (by decide +kernel)]; exact ⟨rfl, rfl⟩))
    (fun os started H enc _ => mts_lifted os started H enc)
end Go.Proofs.Ythcnffieoocnkaa.st
namespace Go.Proofs.Ythcnffieoocnkaa
theorem strsMeets_holds : Rows.StrsMeetsSaid := st.mts_said
end Go.Proofs.Ythcnffieoocnkaa

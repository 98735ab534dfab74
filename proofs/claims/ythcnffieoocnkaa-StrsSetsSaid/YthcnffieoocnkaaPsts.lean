/- For any two lists of words, any word and any number the law StrsSets returns true: what is in a set, in order, what is in two of them, in both, and the words of each with each, are as the answer by definition says (of more than 20 words, or of longer ones than 20 numbers, nothing is asked by the law itself); no condition. -/
import Derived.Test.YthcnffieoocnkaaSetm
namespace Go.Proofs.Ythcnffieoocnkaa.st
open Go.ChangeShapes Go.WideShapes Go.ChangeAt Go.RowKit Go.Maps Go.WideMaps Go.WideElems
set_option linter.unusedVariables false
set_option maxRecDepth 100000 in
set_option maxHeartbeats 2000000 in
theorem sets_all (w : World) (aa ab ao : Option Addr) (ca cb cc : Nat) (A C : List (List Int)) (q : List Int) (k : Int) (ha : RowsAt w (.slice aa A.length ca) A) (hb : RowsAt w (.slice ab C.length cb) C) (hq : RowAt w (.slice ao q.length cc) q) (hk : In64 k) : Calls Try.prog 4 #[.slice aa A.length ca, .slice ab C.length cb, .slice ao q.length cc, .int .i64 k] w fun e w' => e = .returned (.bool true) ∧ Below w.heap.size w w' := by
  have hqm : q.length ≤ 9223372036854775807 := by obtain ⟨_, _, e, h1, h2, _⟩ := hq; cases e; unfold maxLen at h2; omega
  by_cases fa : FewP A
  · by_cases fb : FewP C
    · by_cases fq : q.length ≤ 20
      · cases h1 : decide (q ∈ setW A)
        · cases h2 : decide (setW A = setW C)
          · exact sets_ff w aa ab ao ca cb cc A C q k ha hb hq fa fb fq hk h1 h2
          · exact sets_ft w aa ab ao ca cb cc A C q k ha hb hq fa fb fq hk h1 h2
        · cases h2 : decide (setW A = setW C)
          · exact sets_tf w aa ab ao ca cb cc A C q k ha hb hq fa fb fq hk h1 h2
          · exact sets_tt w aa ab ao ca cb cc A C q k ha hb hq fa fb fq hk h1 h2
      · go_enter Try.func4, Try.ntmps4
        go_wp2_with fail
        refine (alive_any _).mono ?_
        rintro e w1 ⟨rfl, b1⟩
        have B1 := Lib.hid b1
        clear b1
        have f1 := few_any w1 (.slice aa A.length ca) A (ha.below B1.out)
        rw [decide_eq_true fa] at f1
        go_wp2_with fail
        refine f1.mono ?_
        rintro e w2 ⟨rfl, rfl⟩
        clear f1
        have f1 := few_any w1 (.slice ab C.length cb) C (hb.below B1.out)
        rw [decide_eq_true fb] at f1
        go_wp2_with fail
        refine f1.mono ?_
        rintro e w2 ⟨rfl, rfl⟩
        clear f1
        clear ha hb hq
        go_wp2_with fail
        go_ret
        exact ⟨rfl, B1.out⟩
    · go_enter Try.func4, Try.ntmps4
      go_wp2_with fail
      refine (alive_any _).mono ?_
      rintro e w1 ⟨rfl, b1⟩
      have B1 := Lib.hid b1
      clear b1
      have f1 := few_any w1 (.slice aa A.length ca) A (ha.below B1.out)
      rw [decide_eq_true fa] at f1
      go_wp2_with fail
      refine f1.mono ?_
      rintro e w2 ⟨rfl, rfl⟩
      clear f1
      have f1 := few_any w1 (.slice ab C.length cb) C (hb.below B1.out)
      rw [decide_eq_false fb] at f1
      go_wp2_with fail
      refine f1.mono ?_
      rintro e w2 ⟨rfl, rfl⟩
      clear f1
      clear ha hb hq
      go_wp2_with fail
      go_ret
      exact ⟨rfl, B1.out⟩
  · go_enter Try.func4, Try.ntmps4
    go_wp2_with fail
    refine (alive_any _).mono ?_
    rintro e w1 ⟨rfl, b1⟩
    have B1 := Lib.hid b1
    clear b1
    have f1 := few_any w1 (.slice aa A.length ca) A (ha.below B1.out)
    rw [decide_eq_false fa] at f1
    go_wp2_with fail
    refine f1.mono ?_
    rintro e w2 ⟨rfl, rfl⟩
    clear f1
    clear ha hb hq
    go_wp2_with fail
    go_ret
    exact ⟨rfl, B1.out⟩
set_option maxRecDepth 100000 in
theorem sts_lifted (os : Os) (started : os.Started) (H : Type) (enc : TypeId × Value → H) :
    ReturnsInHanded {} Try.checked os 4 .any (Rows.strsSetsSpec.pre6 enc Try.prog Try.f4 Rows.strsSetsRow.domain false) (Rows.strsSetsSpec.post enc Try.prog Try.f4 false true false false) := by
  refine returnsInHanded_of_change (C := Try.checked) own started (by kernel_rfl) Try.func4
    (ChangeSpec.witness6 (enc := enc) (C := Try.checked) false ⟨#[], #[.slice none 0 0, .slice none 0 0, .slice none 0 0, .int .i64 0], []⟩ 8 (by kernel_rfl) (by kernel_rfl) (by kernel_rfl) (by kernel_rfl)) ?_
  intro W base args ds gs before hval0 hW hcnd _
  have hval : ∀ (j : Nat) t v, Try.f4.params[j]? = some t → args[j]? = some v → Value.okWide Try.prog W .any base t v := hval0
  have hW' := hW
  obtain ⟨p, q, hA0, hV, rfl, hfz, hnd⟩ := hW
  have hA : DataW.TrodAll enc Try.prog W 0 (fun _ => true) true Try.f4.params.toList args.toList ds p := hA0
  rw [Try.params4] at hA hval
  obtain ⟨v0, vs0, d0, ds0, p0, q0, hargs, rfl, rfl, h0, r0⟩ := trodAll_cons hA
  obtain ⟨v1, vs1, d1, ds1, p1, q1, rfl, rfl, rfl, h1, r1⟩ := trodAll_cons r0
  obtain ⟨v2, vs2, d2, ds2, p2, q2, rfl, rfl, rfl, h2, r2⟩ := trodAll_cons r1
  obtain ⟨v3, vs3, d3, ds3, p3, q3, rfl, rfl, rfl, h3, r3⟩ := trodAll_cons r2
  obtain ⟨rfl, rfl, rfl⟩ := trodAll_nil r3
  obtain rfl : args = #[v0, v1, v2, v3] := by cases args; simp_all
  obtain ⟨rfl, rfl⟩ := trodVars_none hV
  obtain ⟨a0, len0, cap0, rfl⟩ := okWide_slice Try.underlying29 (hval 0 29 v0 rfl rfl)
  obtain ⟨a1, len1, cap1, rfl⟩ := okWide_slice Try.underlying29 (hval 1 29 v1 rfl rfl)
  obtain ⟨a2, len2, cap2, rfl⟩ := okWide_slice Try.underlying22 (hval 2 22 v2 rfl rfl)
  obtain ⟨x3, rfl, rfl, rfl, w3⟩ := open_int Try.underlying3 (hval 3 3 v3 rfl rfl) h3
  have h0k := h0
  have h1k := h1
  have h2k := h2
  obtain ⟨fu0, hf0⟩ := h0
  obtain ⟨fu1, hf1⟩ := h1
  obtain ⟨fu2, hf2⟩ := h2
  clear hA0 hval0
  simp only [List.append_nil] at hW'
  have hlt : ∀ x ∈ p0 ++ (p1 ++ p2), x.block < W.heap.size := fun x hx => by simpa using hW'.lt x (by simpa using hx)
  have hback0 : ∀ (W' : World), Below W.heap.size W W' → DataW.Trod enc Try.prog W' 0 (fun b => decide (b < W.heap.size)) true 29 (.slice a0 len0 cap0) d0 p0 :=
    fun W' hn => Below.trod laidOut (by kernel_rfl) (of_decide_eq_true (by kernel_rfl)) h0k hn (fun x hx => hlt x (by simp [hx]))
  have hback1 : ∀ (W' : World), Below W.heap.size W W' → DataW.Trod enc Try.prog W' 0 (fun b => decide (b < W.heap.size)) true 29 (.slice a1 len1 cap1) d1 p1 :=
    fun W' hn => Below.trod laidOut (by kernel_rfl) (of_decide_eq_true (by kernel_rfl)) h1k hn (fun x hx => hlt x (by simp [hx]))
  have hback2 : ∀ (W' : World), Below W.heap.size W W' → DataW.Trod enc Try.prog W' 0 (fun b => decide (b < W.heap.size)) true 22 (.slice a2 len2 cap2) d2 p2 :=
    fun W' hn => Below.trod laidOut (by kernel_rfl) (of_decide_eq_true (by kernel_rfl)) h2k hn (fun x hx => hlt x (by simp [hx]))
  have hT : ∀ (W' : World), Below W.heap.size W W' → DataW.TrodAll enc Try.prog W' 0 (fun b => decide (b < W.heap.size)) true [29, 29, 22, 3] [.slice a0 len0 cap0, .slice a1 len1 cap1, .slice a2 len2 cap2, .int .i64 x3] [d0, d1, d2, .lit (.int .i64 x3)] (p0 ++ (p1 ++ p2)) := fun W' hn => by
    have h4 := trodAll_cons_mk (hback0 _ hn) (trodAll_mk3 (hback1 _ hn) (hback2 _ hn) (shut_int (H := H) (enc := enc) (P := Try.prog) (w := W') (base := 0) (spare := fun b => decide (b < W.heap.size)) (held := true) Try.underlying3 w3))
    simpa using h4
  obtain ⟨A, rfl, hA1⟩ := rows_of hf0
  obtain ⟨C, rfl, hC1⟩ := rows_of hf1
  obtain ⟨q, rfl, hq1⟩ := row_of hf2
  refine (sets_all W a0 a1 a2 cap0 cap1 cap2 A C q x3 hA1 hC1 hq1 (in64_wf w3)).mono fun e W' ⟨he, hb⟩ => ?_
  subst he
  exact ⟨_, rfl, _, _, _, [], p0 ++ (p1 ++ p2), [], hW', trodAll_mk1 (shut_bool Try.underlying4 _), hT W' hb, rfl, hb.frame _, fun h => by cases h⟩
theorem sts_said : Rows.StrsSetsSaid :=
  OpenClaim.holds_of_wide 4 Try.f4 rfl rfl rfl rfl rfl rfl rfl ⟨rfl, rfl, rfl, rfl, rfl⟩ rfl rfl rfl rfl rfl (by kernel_rfl) Try.func4 (by kernel_rfl)
    (of_decide_eq_true (by kernel_rfl)) (by unfold Func.isWrapper; first | (rw [if_pos (by decide +kernel)]; kernel_rfl) | (rw [if_neg (by decide +kernel)]; exact ⟨rfl, rfl⟩))
    (fun os started H enc _ => sts_lifted os started H enc)
end Go.Proofs.Ythcnffieoocnkaa.st
namespace Go.Proofs.Ythcnffieoocnkaa
theorem strsSets_holds : Rows.StrsSetsSaid := st.sts_said
end Go.Proofs.Ythcnffieoocnkaa

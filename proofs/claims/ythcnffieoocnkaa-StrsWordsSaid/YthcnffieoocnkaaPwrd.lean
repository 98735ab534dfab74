/- For any two words and any number the law StrsWords returns true: which word stands ahead, a word's first numbers, and the first numbers of two words behind one another, are as the answer by definition says (of words of more than 20 numbers nothing is asked by the law itself); no condition. -/
import Derived.Test.YthcnffieoocnkaaWrds
import Derived.Test.YthcnffieoocnkaaArgs
namespace Go.Proofs.Ythcnffieoocnkaa.st
open Go.ChangeShapes Go.WideShapes Go.ChangeAt Go.RowKit Go.Maps Go.WideMaps Go.WideElems
set_option linter.unusedVariables false
set_option maxRecDepth 100000 in
set_option maxHeartbeats 1000000 in
theorem words_all (w : World) (ao bo : Option Addr) (ca cb : Nat) (xs ys : List Int) (k : Int) (hv : RowAt w (.slice ao xs.length ca) xs) (hu : RowAt w (.slice bo ys.length cb) ys) (hk : In64 k) : Calls Try.prog 3 #[.slice ao xs.length ca, .slice bo ys.length cb, .int .i64 k] w fun e w' => e = .returned (.bool true) ∧ Below w.heap.size w w' := by
  have la : xs.length ≤ 9223372036854775807 := by obtain ⟨_, _, e, h1, h2, _⟩ := hv; cases e; unfold maxLen at h2; omega
  have lb : ys.length ≤ 9223372036854775807 := by obtain ⟨_, _, e, h1, h2, _⟩ := hu; cases e; unfold maxLen at h2; omega
  by_cases l1 : xs.length ≤ 20
  · by_cases l2 : ys.length ≤ 20
    · cases h1 : ltW xs ys
      · cases h2 : ltW ys xs
        · exact words_eq w ao bo ca cb xs ys k hv hu l1 l2 hk h1 h2
        · exact words_gt w ao bo ca cb xs ys k hv hu l1 l2 hk h1 h2
      · exact words_lt w ao bo ca cb xs ys k hv hu l1 l2 hk h1 (ltW_asym h1)
    · clear hv hu hk
      go_enter Try.func3, Try.ntmps3
      go_wp2_with fail
      refine (alive_any _).mono ?_
      rintro e w1 ⟨rfl, b1⟩
      have B1 := Lib.hid b1
      clear b1
      go_wp2_with fail
      go_ret
      exact ⟨rfl, B1.out⟩
  · clear hv hu hk
    go_enter Try.func3, Try.ntmps3
    go_wp2_with fail
    refine (alive_any _).mono ?_
    rintro e w1 ⟨rfl, b1⟩
    have B1 := Lib.hid b1
    clear b1
    go_wp2_with fail
    go_ret
    exact ⟨rfl, B1.out⟩
set_option maxRecDepth 100000 in
theorem wds_lifted (os : Os) (started : os.Started) (H : Type) (enc : TypeId × Value → H) :
    ReturnsInHanded {} Try.checked os 3 .any (Rows.strsWordsSpec.pre6 enc Try.prog Try.f3 Rows.strsWordsRow.domain false) (Rows.strsWordsSpec.post enc Try.prog Try.f3 false true false false) := by
  refine returnsInHanded_of_change (C := Try.checked) own started (by kernel_rfl) Try.func3
    (ChangeSpec.witness6 (enc := enc) (C := Try.checked) false ⟨#[], #[.slice none 0 0, .slice none 0 0, .int .i64 0], []⟩ 8 (by kernel_rfl) (by kernel_rfl) (by kernel_rfl) (by kernel_rfl)) ?_
  intro W base args ds gs before hval0 hW hcnd _
  have hval : ∀ (j : Nat) t v, Try.f3.params[j]? = some t → args[j]? = some v → Value.okWide Try.prog W .any base t v := hval0
  have hW' := hW
  obtain ⟨p, q, hA0, hV, rfl, hfz, hnd⟩ := hW
  have hA : DataW.TrodAll enc Try.prog W 0 (fun _ => true) true Try.f3.params.toList args.toList ds p := hA0
  rw [Try.params3] at hA hval
  obtain ⟨v0, vs0, d0, ds0, p0, q0, hargs, rfl, rfl, h0, r0⟩ := trodAll_cons hA
  obtain ⟨v1, vs1, d1, ds1, p1, q1, rfl, rfl, rfl, h1, r1⟩ := trodAll_cons r0
  obtain ⟨v2, vs2, d2, ds2, p2, q2, rfl, rfl, rfl, h2, r2⟩ := trodAll_cons r1
  obtain ⟨rfl, rfl, rfl⟩ := trodAll_nil r2
  obtain rfl : args = #[v0, v1, v2] := by cases args; simp_all
  obtain ⟨rfl, rfl⟩ := trodVars_none hV
  obtain ⟨a0, len0, cap0, rfl⟩ := okWide_slice Try.underlying22 (hval 0 22 v0 rfl rfl)
  obtain ⟨a1, len1, cap1, rfl⟩ := okWide_slice Try.underlying22 (hval 1 22 v1 rfl rfl)
  obtain ⟨x2, rfl, rfl, rfl, w2⟩ := open_int Try.underlying3 (hval 2 3 v2 rfl rfl) h2
  have h0k := h0
  have h1k := h1
  obtain ⟨fu0, hf0⟩ := h0
  obtain ⟨fu1, hf1⟩ := h1
  clear hA0 hval0
  simp only [List.append_nil] at hW'
  have hlt : ∀ x ∈ p0 ++ p1, x.block < W.heap.size := fun x hx => by simpa using hW'.lt x (by simpa using hx)
  have hback0 : ∀ (W' : World), Below W.heap.size W W' → DataW.Trod enc Try.prog W' 0 (fun b => decide (b < W.heap.size)) true 22 (.slice a0 len0 cap0) d0 p0 :=
    fun W' hn => Below.trod laidOut (by kernel_rfl) (of_decide_eq_true (by kernel_rfl)) h0k hn (fun x hx => hlt x (by simp [hx]))
  have hback1 : ∀ (W' : World), Below W.heap.size W W' → DataW.Trod enc Try.prog W' 0 (fun b => decide (b < W.heap.size)) true 22 (.slice a1 len1 cap1) d1 p1 :=
    fun W' hn => Below.trod laidOut (by kernel_rfl) (of_decide_eq_true (by kernel_rfl)) h1k hn (fun x hx => hlt x (by simp [hx]))
  have hT : ∀ (W' : World), Below W.heap.size W W' → DataW.TrodAll enc Try.prog W' 0 (fun b => decide (b < W.heap.size)) true [22, 22, 3] [.slice a0 len0 cap0, .slice a1 len1 cap1, .int .i64 x2] [d0, d1, .lit (.int .i64 x2)] (p0 ++ p1) := fun W' hn => by
    have h4 := trodAll_mk3 (hback0 _ hn) (hback1 _ hn) (shut_int (H := H) (enc := enc) (P := Try.prog) (w := W') (base := 0) (spare := fun b => decide (b < W.heap.size)) (held := true) Try.underlying3 w2)
    simpa using h4
  obtain ⟨A, rfl, hA1⟩ := row_of hf0
  obtain ⟨C, rfl, hC1⟩ := row_of hf1
  refine (words_all W a0 a1 cap0 cap1 A C x2 hA1 hC1 (in64_wf w2)).mono fun e W' ⟨he, hb⟩ => ?_
  subst he
  exact ⟨_, rfl, _, _, _, [], p0 ++ p1, [], hW', trodAll_mk1 (shut_bool Try.underlying4 _), hT W' hb, rfl, hb.frame _, fun h => by cases h⟩
theorem wds_said : Rows.StrsWordsSaid :=
  OpenClaim.holds_of_wide 3 Try.f3 rfl rfl rfl rfl rfl rfl rfl ⟨rfl, rfl, rfl, rfl, rfl⟩ rfl rfl rfl rfl rfl (by kernel_rfl) Try.func3 (by kernel_rfl)
    (of_decide_eq_true (by kernel_rfl)) (by unfold Func.isWrapper; first | (rw [if_pos (by decide +kernel)]; kernel_rfl) | (rw [if_neg (by decide +kernel)]; exact ⟨rfl, rfl⟩))
    (fun os started H enc _ => wds_lifted os started H enc)
end Go.Proofs.Ythcnffieoocnkaa.st
namespace Go.Proofs.Ythcnffieoocnkaa
theorem strsWords_holds : Rows.StrsWordsSaid := st.wds_said
end Go.Proofs.Ythcnffieoocnkaa

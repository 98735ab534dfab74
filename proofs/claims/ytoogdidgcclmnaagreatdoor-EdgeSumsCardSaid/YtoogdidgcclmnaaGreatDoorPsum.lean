/- For any list of weights, given by their bits, the law EdgeSums returns true: their sum is the one by definition (of more than 60 nothing is asked by the law itself); no condition but that the listed library variables hold what their text lays. -/
import Derived.Test.YtoogdidgcclmnaaGreatDoorVars
import Derived.Test.YtoogdidgcclmnaaGreatDoorSumb
import Derived.SevenTiedAt
namespace Go.Proofs.YtoogdidgcclmnaaGreatDoor.alv
open Go.ChangeShapes Go.WideShapes Go.ChangeAt Go.RowKit
set_option linter.unusedVariables false
theorem own : ownKnob Tryz.prog.godebug = none := by kernel_rfl
theorem laidOut : laidOutB Tryz.prog = true := by kernel_rfl
set_option maxRecDepth 100000 in
theorem sums_lifted (os : Os) (started : os.Started) (H : Type) (enc : TypeId × Value → H) :
    ReturnsInHanded {} Tryz.checked os 4 .any (fun w args => (Rows.edgeSumsSpec.pre enc Tryz.prog Tryz.f4 [] false w args ∧ laidMetH Tryz.prog Rows.edgeSumsRow.laid w) ∧ sizedMet enc Tryz.prog Tryz.f4 (OpenSpec.ofChange Rows.edgeSumsSpec) false w args)
      (Rows.edgeSumsSpec.post enc Tryz.prog Tryz.f4 false true false false) := by
  refine returnsInHanded_of_change_and (C := Tryz.checked) (X := fun w _ => laidMetH Tryz.prog Rows.edgeSumsRow.laid w) (fun _ _ _ hh h => h.of_heap hh) own started (by kernel_rfl) Tryz.func4
    (ChangeSpec.witness_shaped (enc := enc) (C := Tryz.checked) (os := os) (X := fun w _ => laidMetH Tryz.prog Rows.edgeSumsRow.laid w) false (World.laidAll Tryz.prog os Rows.edgeSumsRow.laid) #[.slice none 0 0] 8 (World.laidAll_os _ _ _)
      (World.shaped_of_ZipB (by kernel_rfl) (by kernel_rfl)) (by kernel_rfl) (by kernel_rfl) (by kernel_rfl)
      (by rw [MakeChecks.laidMetH_plain _ _ _ (by kernel_rfl)]; exact laidMet_laidAll _ (by kernel_rfl) (by kernel_rfl))) ?_
  intro W base args ds gs before hval0 hW _ _ hL _
  have hval : ∀ (j : Nat) t v, Tryz.f4.params[j]? = some t → args[j]? = some v → Value.okWide Tryz.prog W .any base t v := hval0
  have hW' := hW
  obtain ⟨p, q, hA0, hV, rfl, _, _⟩ := hW
  have hA : DataW.TrodAll enc Tryz.prog W 0 (fun _ => true) true Tryz.f4.params.toList args.toList ds p := hA0
  rw [Tryz.params4] at hA hval
  obtain ⟨v0, d0, rfl, rfl, h0⟩ := trodAll_one hA
  obtain ⟨rfl, rfl⟩ := trodVars_none hV
  obtain ⟨a0, len, cap, rfl⟩ := okWide_slice Tryz.underlying31 (hval 0 31 v0 rfl rfl)
  have h0k := h0
  obtain ⟨fuel, hf⟩ := h0
  clear hA0 hval0
  simp only [List.append_nil] at hW'
  have hlt : ∀ x ∈ p, x.block < W.heap.size := fun x hx => by simpa using hW'.lt x hx
  have hargs : ∀ (W' : World), Below W.heap.size W W' → DataW.Trod enc Tryz.prog W' 0 (fun b => decide (b < W.heap.size)) true 31 (.slice a0 len cap) d0 p :=
    fun W' hn => Below.trod laidOut (by kernel_rfl) (of_decide_eq_true (by kernel_rfl)) h0k hn hlt
  rw [MakeChecks.laidMetH_plain _ _ _ (by kernel_rfl)] at hL
  obtain ⟨b, off, hv⟩ := vars_of hL
  have fin : ∀ xs : List Nat, xs.length = len → xs.length ≤ 9223372036854775807 → (∀ x ∈ xs, x < 18446744073709551616) →
      (0 < xs.length → ∃ b o, a0 = some ⟨b, o, none⟩ ∧ b < W.heap.size ∧ ∀ j, j < xs.length → W.cell? ⟨b, o + j, none⟩ = some (.int .u64 ((xs.getD j 0 : Nat) : Int))) →
      Calls Tryz.checked.prog 4 #[.slice a0 len cap] W fun e W' => ∃ v, e = Ending.returned v ∧ Rows.edgeSumsSpec.post enc Tryz.checked.prog Tryz.f4 false true false false W #[.slice a0 len cap] v W' := by
    intro xs hl h1 h2 h3
    subst hl
    refine (sums_any W a0 cap xs b off hv h1 h2 h3).mono fun e W' ⟨he, hb⟩ => ?_
    subst he
    exact ⟨_, rfl, _, _, _, [], p, [], hW', trodAll_mk1 (shut_bool Tryz.underlying4 _), trodAll_mk1 (hargs _ hb), rfl, hb.frame _, fun h => by cases h⟩
  rcases open_ints Tryz.underlying31 Tryz.underlying22 c22 hf with ⟨hcs, hx⟩ | ⟨a, len', cap', zs, hcs, _, hl, hm, hz, hx, hcell, hwz⟩
  · simp [Value.cells] at hcs
    obtain ⟨rfl, rfl, rfl⟩ := hcs
    exact fin [] rfl (by simp) (by simp) (fun h => absurd h (by simp))
  · simp [Value.cells] at hcs
    obtain ⟨rfl, rfl, rfl⟩ := hcs
    simp only [if_true] at hz
    unfold maxLen at hm
    have hbd : ∀ n ∈ zs, 0 ≤ n ∧ n ≤ 18446744073709551615 := fun n hn => by
      simpa [Lit.wf, IntKind.min, IntKind.max, IntKind.signed, IntKind.bits] using hwz n hn
    have hL1 : ((zs.take len).map Int.toNat).length = len := by simp; omega
    refine fin ((zs.take len).map Int.toNat) hL1 (by omega) (fun x hx => ?_) (fun hp => ?_)
    · obtain ⟨n, hn, rfl⟩ := List.mem_map.1 hx
      have := hbd n (List.mem_of_mem_take hn)
      omega
    · obtain ⟨b2, o2, spot⟩ := a
      have hspot : spot = none := by simpa [Addr.add] using World.cell?_spot (hcell 0 (by omega))
      subst hspot
      have hc2 : ∀ j, j < zs.length → W.cell? ⟨b2, o2 + j, none⟩ = some (.int .u64 (zs.getD j 0)) := fun j hj => by rw [← add_plain]; exact hcell j hj
      refine ⟨b2, o2, rfl, lt_size (hc2 0 (by omega)), fun j hj => ?_⟩
      have hj' : j < zs.length := by omega
      rw [hc2 j hj']
      have h1 := (hbd (zs.getD j 0) (by simp [List.getD, List.getElem?_eq_getElem hj'])).1
      have h2 : ((zs.take len).map Int.toNat).getD j 0 = (zs.getD j 0).toNat := by
        simp [List.getD, List.getElem?_eq_getElem hj', show j < len from by omega]
      rw [h2, Int.toNat_of_nonneg h1]
theorem sums_said : Rows.EdgeSumsSaid :=
  OpenClaim.holds_of_wide 4 Tryz.f4 rfl rfl rfl rfl rfl rfl rfl ⟨rfl, rfl, rfl, rfl, rfl⟩ rfl rfl rfl rfl rfl (by kernel_rfl) Tryz.func4 (by kernel_rfl)
    (of_decide_eq_true (by kernel_rfl)) (by unfold Func.isWrapper; first | (rw [if_pos (by decide +kernel)]; kernel_rfl) | (rw [if_neg (by decide +kernel)]; exact ⟨rfl, rfl⟩))
    (fun os started H enc _ => sums_lifted os started H enc)
theorem looks_int (t : TypeId) (h : t = 22 ∨ t = 31 ∨ t = 9) : Tryz.prog.wantsStandIn t = false := by
  rcases h with rfl | rfl | rfl <;> kernel_rfl
theorem sums_plain (f : FuncId) (fn : Func) (hf : Tryz.pinned.checked.prog.funcNamed "accidence/accidencelaw01.EdgeSums" = some f) (hfn : Tryz.pinned.checked.prog.funcs[f]? = some fn) :
    true = Tryz.pinned.checked.prog.looks [] ∧ ∀ (j : Nat) t, fn.params[j]? = some t → Tryz.pinned.checked.prog.wantsStandIn t = false := by
  obtain rfl : f = 4 := Option.some.inj ((show Tryz.prog.funcNamed "accidence/accidencelaw01.EdgeSums" = some 4 by kernel_rfl).symm.trans hf) |>.symm
  obtain rfl : fn = Tryz.f4 := (Option.some.inj (Tryz.func4.symm.trans hfn)).symm
  refine ⟨by kernel_rfl, fun j t ht => ?_⟩
  rw [Tryz.params4] at ht
  have hm : t ∈ [31] := by simpa using Array.mem_of_getElem? ht
  exact looks_int t (by simp at hm; exact Or.inr (Or.inl hm))
end Go.Proofs.YtoogdidgcclmnaaGreatDoor.alv
namespace Go.Proofs.YtoogdidgcclmnaaGreatDoor
theorem edgeSums_holds : Rows.EdgeSumsCardSaid :=
  Claim7.holds_tied_plain_at .later [] _ _ _ _ alv.sums_said (fun _ h => by cases h) (by kernel_rfl) (fun _ h => by cases h) edgeSums_row_tie rfl ⟨rfl, rfl⟩ (by kernel_rfl) rfl alv.sums_plain (by kernel_rfl)
end Go.Proofs.YtoogdidgcclmnaaGreatDoor

import Derived.Test.YthcnffieoocnkaaAddh
namespace Go.Proofs.Ythcnffieoocnkaa.st
open Go.ChangeShapes Go.WideShapes Go.ChangeAt Go.RowKit Go.Maps Go.WideMaps Go.WideElems
set_option linter.unusedVariables false
theorem WordAt.below {w w' : World} {v : Value} {xs : List Int} (h : WordAt w v xs) (hb : Below w.heap.size w w') : WordAt w' v xs := by
  obtain ⟨ao, cap, e, hin, hc⟩ := h
  refine ⟨ao, cap, e, hin, fun i hi => ?_⟩
  obtain ⟨a, e2, hab, hcell⟩ := hc i hi
  exact ⟨a, e2, by have := hb.size; omega, (hb.cell (p := a.add i) (by rw [add_block]; exact hab)).trans hcell⟩
/-- words, as a slice value -/
def WordsAt (w : World) (v : Value) (xss : List (List Int)) : Prop := ∃ ao cap, v = .slice ao xss.length cap ∧ ∀ i, i < xss.length → ∃ (a : Addr) (u : Value), ao = some a ∧ a.block < w.heap.size ∧ w.cell? (a.add i) = some u ∧ WordAt w u (xss.getD i []) ∧ (xss.getD i []).length ≤ 1000
theorem WordsAt.below {w w' : World} {v : Value} {xss : List (List Int)} (h : WordsAt w v xss) (hb : Below w.heap.size w w') : WordsAt w' v xss := by
  obtain ⟨ao, cap, e, hc⟩ := h
  refine ⟨ao, cap, e, fun i hi => ?_⟩
  obtain ⟨a, u, e2, hab, hcell, hw, hl⟩ := hc i hi
  exact ⟨a, u, e2, by have := hb.size; omega, (hb.cell (p := a.add i) (by rw [add_block]; exact hab)).trans hcell, hw.below hb, hl⟩
theorem of_step {Ko : List (List UInt8)} {xs : List (List Int)} {x : List Int} (h : ∀ z, z ∈ Ko ↔ ∃ k ∈ xs, keyB k = z) : ∀ z, z ∈ (if keyB x ∈ Ko then Ko else Ko ++ [keyB x]) ↔ ∃ k ∈ xs ++ [x], keyB k = z := by
  intro z
  have e : (∃ k ∈ xs ++ [x], keyB k = z) ↔ z ∈ Ko ∨ z = keyB x := by
    rw [h z]
    constructor
    · rintro ⟨k, hk, e⟩
      rcases List.mem_append.1 hk with h1 | h1
      · exact .inl ⟨k, h1, e⟩
      · simp at h1; subst h1; exact .inr e.symm
    · rintro (⟨k, hk, e⟩ | e)
      · exact ⟨k, by simp [hk], e⟩
      · exact ⟨x, by simp, e.symm⟩
  rw [e]
  split
  · rename_i hin
    exact ⟨.inl, fun h => h.elim id (fun e => e ▸ hin)⟩
  · simp
theorem len_stepK {Ko : List (List UInt8)} {y : List UInt8} {k : Nat} (h : Ko.length ≤ k) : (if y ∈ Ko then Ko else Ko ++ [y]).length ≤ k + 1 := by
  split
  · omega
  · simp; omega
/-- a new set of some words -/
def SetOf (B : Nat) (w : World) (t : Nat) (xss : List (List Int)) : Prop :=
  ∃ mo Ko, SetIs w t mo Ko ∧ B ≤ t ∧ (∀ bm, mo = some bm → B ≤ bm) ∧ (∀ x, x ∈ Ko ↔ ∃ k ∈ xss, keyB k = x) ∧ Ko.length ≤ xss.length
set_option maxRecDepth 100000 in
set_option maxHeartbeats 1000000 in
theorem of_any (w : World) (v : Value) (xss : List (List Int)) (hw : WordsAt w v xss) (hl : xss.length ≤ 1000) : Calls Try.prog 17 #[v] w fun e w' => ∃ t, e = .returned (.pointer (some ⟨t, 0, none⟩)) ∧ SetOf w.heap.size w' t xss ∧ Below w.heap.size w w' := by
  obtain ⟨ao, cap, rfl, hcell⟩ := hw
  have HC := Lib.hid hcell
  clear hcell
  go_enter Try.func17, Try.ntmps17
  go_wp2_with fail
  have hT0 : SetIs (w.alloc (.cells #[.map none] 53)) w.heap.size none [] := ⟨_, Blk.new w _ _, .inl ⟨rfl, rfl, rfl⟩⟩
  have hB0 : Below w.heap.size w (w.alloc (.cells #[.map none] 53)) := (Below.refl _ _).alloc (Nat.le_refl _) _
  go_loopw [10] (fun i wr => ∃ k : Nat, ∃ mo Ko, k ≤ xss.length ∧ i = .int .i64 k ∧ SetIs wr w.heap.size mo Ko ∧ (∀ b, mo = some b → w.heap.size ≤ b) ∧ (∀ x, x ∈ Ko ↔ ∃ z ∈ xss.take k, keyB z = x) ∧ Ko.length ≤ k ∧ Below w.heap.size w wr) (fun i _ => xss.length - (intOf i).toNat)
  case atStart => exact ⟨0, none, [], Nat.zero_le _, rfl, hT0, (fun _ h => by cases h), fun x => by simp, Nat.le_refl _, hB0⟩
  case round =>
    obtain ⟨k, mo, Ko, hk, rfl, hset, hmo, hmem, hle, hbel⟩ := hrel
    clear hT0 hB0
    have HO := Lib.hid hmo
    have HM := Lib.hid hmem
    clear hmo hmem
    by_cases hlt : k < xss.length
    · obtain ⟨a, u, rfl, hab, hca, hwd, hwl⟩ := HC.out k hlt
      have hca' : wr.cell? (a.add k) = some u := (hbel.cell (p := a.add k) (by rw [add_block]; exact hab)).trans hca
      have htake : xss.take (k + 1) = xss.take k ++ [xss.getD k []] := by rw [List.take_add_one, List.getD_eq_getElem?_getD, List.getElem?_eq_getElem hlt]; simp
      have hwr := hwd.below hbel
      clear hca hwd
      generalize xss.getD k [] = x at *
      have HT := Lib.hid htake
      clear htake
      have hadd := add_any wr w.heap.size mo Ko u x hset (by unfold maxLen; omega) hwr hwl
      have hmem2 := of_step (x := x) HM.out
      have hlen2 := len_stepK (y := keyB x) hle
      rw [← HT.out] at hmem2
      generalize decide (keyB x ∉ Ko) = r at *
      generalize (if keyB x ∈ Ko then Ko else Ko ++ [keyB x]) = K' at *
      have HM2 := Lib.hid hmem2
      clear hmem2
      obtain ⟨uo, ucap, rfl, _⟩ := hwr
      go_wp2_with (first | (go_at_call 29; refine hadd.mono ?_; rintro e w2 ⟨rfl, mo', hm, hs2, hk2⟩))
      refine ⟨⟨k + 1, mo', K', by omega, congrArg (Value.int .i64) (by omega), hs2, fun b hb => ?_, HM2.out, hlen2, hbel.trans (hk2.below (fun i hi => hi.elim (fun e => by omega) (fun e => HO.out i e)) hbel.size)⟩, by simp only [intOf]; omega⟩
      rcases hm with e | ⟨b', e, hb'⟩
      · exact HO.out b (e ▸ hb)
      · rw [hb] at e
        cases e
        have := hbel.size
        omega
    · have hkk : k = xss.length := by omega
      subst hkk
      go_wp2
      go_ret
      exact ⟨_, rfl, ⟨mo, Ko, hset, Nat.le_refl _, HO.out, by simpa using HM.out, hle⟩, hbel⟩
end Go.Proofs.Ythcnffieoocnkaa.st

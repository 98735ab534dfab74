import Derived.Test.YthcnffieoocnkaaSetd
namespace Go.Proofs.Ythcnffieoocnkaa.st
open Go.ChangeShapes Go.WideShapes Go.ChangeAt Go.RowKit Go.Maps Go.WideMaps Go.WideElems
set_option linter.unusedVariables false
theorem same_len {Ks Kt : List (List UInt8)} (h : Ks.Nodup) (ht : Kt.Nodup) (he : ∀ x, x ∈ Ks ↔ x ∈ Kt) : Ks.length = Kt.length :=
  (((List.perm_ext_iff_of_nodup h ht).2 he)).length_eq
theorem same_of_sub {Ks Kt : List (List UInt8)} (h : Ks.Nodup) (hl : Ks.length = Kt.length) (he : ∀ x ∈ Ks, x ∈ Kt) : ∀ x, x ∈ Ks ↔ x ∈ Kt := by
  intro x
  refine ⟨he x, fun hx => ?_⟩
  by_cases hin : x ∈ Ks
  · exact hin
  · have := List.Nodup.length_le_of_subset (l₁ := x :: Ks) (l₂ := Kt) (List.nodup_cons.2 ⟨hin, h⟩) (fun z hz => by
      rcases List.mem_cons.1 hz with e | e
      · exact e ▸ hx
      · exact he z e)
    simp at this
    omega
theorem not_same {Ks Kt : List (List UInt8)} {x : List UInt8} (h : x ∈ Ks) (ht : x ∉ Kt) : (false = true ↔ ∀ x, x ∈ Ks ↔ x ∈ Kt) := ⟨fun h => (by cases h), fun he => absurd ((he x).1 h) ht⟩
set_option maxRecDepth 100000 in
set_option maxHeartbeats 1000000 in
theorem same_any (w : World) (s t : Nat) (mo mt : Option Nat) (Ks Kt : List (List UInt8)) (h : SetIs w s mo Ks) (ht : SetIs w t mt Kt) (hr1 : Ks.length ≤ maxLen) (hr2 : Kt.length ≤ maxLen) : Calls Try.prog 24 #[.pointer (some ⟨s, 0, none⟩), .pointer (some ⟨t, 0, none⟩)] w fun e w' => ∃ r, e = .returned (.bool r) ∧ (r = true ↔ ∀ x, x ∈ Ks ↔ x ∈ Kt) ∧ Below w.heap.size w w' := by
  have hs := h.lt
  have htl := ht.lt
  have htm : ∀ bm, mt = some bm → bm < w.heap.size := fun bm e => SetIs.lt_map (e ▸ ht)
  have hnd := h.nodup
  have hnt := ht.nodup
  by_cases hlen : Ks.length = Kt.length
  · have h0 := h
    obtain ⟨mv, hb, hm⟩ := h
    have hc : w.cell? ⟨s, 0, none⟩ = some mv := hb.cell 0
    rcases hm with ⟨rfl, rfl, rfl⟩ | ⟨bm, D, rfl, rfl, hown, hD⟩
    · have hrn := fun w : World => run_range_nilMap (P := Try.prog) w 51 9 68 Try.underlying51
      have hnn := fun (W : World) ty => run_next_nilMap (P := Try.prog) W ty 0 0 #[]
      go_enter Try.func24, Try.ntmps24
      go_wp2_with (first | (go_at_call 21; refine (len_any _ s _ _ h0).mono ?_; rintro e w1 ⟨rfl, rfl⟩) | (go_at_call 21; refine (len_any _ t _ _ ht).mono ?_; rintro e w1 ⟨rfl, rfl⟩) | (go_at_call 34; refine (held_any _ s _ hc).mono ?_; rintro e w1 ⟨rfl, rfl⟩))
      refine wp_loop_rounds 1 ?_
      rw [rounds_succ]
      go_wp2
      go_ret
      have : Kt = [] := List.length_eq_zero_iff.1 hlen.symm
      exact ⟨_, rfl, by simp [this], (Below.refl _ _).alloc (Nat.le_refl _) _⟩
    · have hbl := hown.lt
      go_enter Try.func24, Try.ntmps24
      go_wp2_with (first | (go_at_call 21; refine (len_any _ s _ _ h0).mono ?_; rintro e w1 ⟨rfl, rfl⟩) | (go_at_call 21; refine (len_any _ t _ _ ht).mono ?_; rintro e w1 ⟨rfl, rfl⟩) | (go_at_call 34; refine (held_any _ s _ hc).mono ?_; rintro e w1 ⟨rfl, rfl⟩) | (at_range; refine wpList_range_own _ rfl _ 51 rfl 9 68 law9 Try.underlying51 unitElem bm Ks.length D rfl hown ?_; intro w0 hrg0 hg0 hs0))
      go_frame
      have hK0 : Kp (fun i => w.heap.size ≤ i) w w0 := (Kp.of_grown hg0).mono (fun i hi => by cases hi)
      clear hg0 hs0
      have HT := Lib.hid htm
      have HL := Lib.hid hlen
      clear htm hlen
      go_loopw [] (fun wr => ∃ left cnt vs, wr.ranges Try.prog 9 unitElem bm w.heap.size Ks.length D left cnt ∧ Vis Ks left vs ∧ (∀ x ∈ vs, x ∈ Kt) ∧ Kp (fun i => w.heap.size ≤ i) w wr) (fun wr => wr.rangeLeft bm w.heap.size)
      case atStart => exact ⟨_, _, [], hrg0, Vis.start hD, fun x h => by simp at h, hK0⟩
      case round =>
        obtain ⟨left, cnt, vs, hrg, hvis, hsub, hkp⟩ := hrel
        clear hrg0 hK0
        go_wp2_with (at_next; refine next_set _ rfl _ rfl bm w.heap.size Ks.length D left cnt rfl hrg ?_ ?_)
        · intro hc0 hl0
          have hdone := hvis.done hl0
          have hall : ∀ x, x ∈ Ks ↔ x ∈ Kt := same_of_sub hnd HL.out (fun x hx => hsub x ((hdone x).2 hx))
          have HM := Lib.hid hall
          clear hall hdone hsub hvis hrg hl0 hc0
          go_wp2
          go_ret
          exact ⟨true, rfl, by simpa using HM.out, hkp.below (fun i hi => hi) (Nat.le_refl _)⟩
        · intro x w1 cnt1 hx1 hlx hhx hrg1 hlt1 hg1 hs1 hen
          have hxk : x ∈ Ks := by rw [hD.has_ x] at hhx; simpa using hhx
          have hkp1 : Kp (fun i => w.heap.size ≤ i) w w1 := hkp.then_ (Kp.of_grown hg1) (fun i hi => .inl (by have := Option.some.inj hi; omega))
          have ht1 : SetIs w1 t mt Kt := ht.kept hkp1 (by omega) (fun b e => by have := HT.out b e; omega)
          have hvis1 := hvis.step hD hlx hhx
          have HV := Lib.hid hvis1
          have HM := Lib.hid hsub
          have hms : wr.rangeLeft bm w.heap.size = cnt := hrg.left_eq
          have HS := Lib.hid hms
          clear hvis hvis1 hsub hlx hhx hkp hg1 hrg hms
          have hrz := hrg1.lt
          by_cases hin : x ∈ Kt
          · go_wp2_with (first | (go_at_call 37; refine (holds_any w1 t mt Kt x hx1 ht1).mono ?_; rintro e w2 ⟨rfl, hb2⟩; rw [decide_eq_true hin]))
            have hrg2 := ranges_kp hrg1 (Kp.of_below hb2) (by omega) (by omega)
            exact ⟨⟨_, cnt1, vs ++ [x], hrg2, HV.out, fun z hz => by
              rcases List.mem_append.1 hz with h1 | h1
              · exact HM.out z h1
              · simp at h1; exact h1 ▸ hin, hkp1.then_ (Kp.of_below hb2) (fun i hi => .inr (by have := hkp1.size; omega))⟩, by rw [hrg2.left_eq, HS.out]; exact hlt1⟩
          · go_wp2_with (first | (go_at_call 37; refine (holds_any w1 t mt Kt x hx1 ht1).mono ?_; rintro e w2 ⟨rfl, hb2⟩; rw [decide_eq_false hin]))
            go_ret
            exact ⟨false, rfl, not_same hxk hin, (hkp1.then_ (Kp.of_below hb2) (fun i hi => .inr (by have := hkp1.size; omega))).below (fun i hi => hi) (Nat.le_refl _)⟩
  · go_enter Try.func24, Try.ntmps24
    go_wp2_with (first | (go_at_call 21; refine (len_any _ s _ _ h).mono ?_; rintro e w1 ⟨rfl, rfl⟩) | (go_at_call 21; refine (len_any _ t _ _ ht).mono ?_; rintro e w1 ⟨rfl, rfl⟩))
    go_ret
    exact ⟨_, rfl, ⟨fun h => (by cases h), fun he => absurd (same_len hnd hnt he) hlen⟩, Below.refl _ _⟩
end Go.Proofs.Ythcnffieoocnkaa.st

import Derived.Test.YthcnffieoocnkaaSetc
namespace Go.Proofs.Ythcnffieoocnkaa.st
open Go.ChangeShapes Go.WideShapes Go.ChangeAt Go.RowKit Go.Maps Go.WideMaps Go.WideElems
set_option linter.unusedVariables false
theorem meet_step {Ko vs Kt : List (List UInt8)} {x : List UInt8} (h : ∀ z, z ∈ Ko ↔ ∃ k ∈ vs, k = z ∧ k ∈ Kt) (hx : x ∈ Kt) : ∀ z, z ∈ (if x ∈ Ko then Ko else Ko ++ [x]) ↔ ∃ k ∈ vs ++ [x], k = z ∧ k ∈ Kt := by
  intro z
  have e : (∃ k ∈ vs ++ [x], k = z ∧ k ∈ Kt) ↔ z ∈ Ko ∨ z = x := by
    rw [h z]
    constructor
    · rintro ⟨k, hk, e, ht⟩
      rcases List.mem_append.1 hk with h1 | h1
      · exact .inl ⟨k, h1, e, ht⟩
      · simp at h1; subst h1; exact .inr e.symm
    · rintro (⟨k, hk, e, ht⟩ | e)
      · exact ⟨k, by simp [hk], e, ht⟩
      · exact ⟨x, by simp, e.symm, hx⟩
  rw [e]
  split
  · rename_i hin
    exact ⟨.inl, fun h => h.elim id (fun e => e ▸ hin)⟩
  · simp
theorem meet_skip {Ko vs Kt : List (List UInt8)} {x : List UInt8} (h : ∀ z, z ∈ Ko ↔ ∃ k ∈ vs, k = z ∧ k ∈ Kt) (hx : x ∉ Kt) : ∀ z, z ∈ Ko ↔ ∃ k ∈ vs ++ [x], k = z ∧ k ∈ Kt := by
  intro z
  rw [h z]
  constructor
  · rintro ⟨k, hk, e, ht⟩; exact ⟨k, by simp [hk], e, ht⟩
  · rintro ⟨k, hk, e, ht⟩
    rcases List.mem_append.1 hk with h1 | h1
    · exact ⟨k, h1, e, ht⟩
    · simp at h1; subst h1; exact absurd ht hx
set_option maxRecDepth 100000 in
set_option maxHeartbeats 1000000 in
theorem meet_any (w : World) (s t : Nat) (mo mt : Option Nat) (Ks Kt : List (List UInt8)) (hroom : Ks.length < maxLen) (h : SetIs w s mo Ks) (ht : SetIs w t mt Kt) : Calls Try.prog 27 #[.pointer (some ⟨s, 0, none⟩), .pointer (some ⟨t, 0, none⟩)] w fun e w' => ∃ o, e = .returned (.pointer (some ⟨o, 0, none⟩)) ∧ w.heap.size ≤ o ∧ MadeOf w.heap.size w' o (fun k x => k = x ∧ k ∈ Kt) Ks ∧ Below w.heap.size w w' := by
  have hs := h.lt
  have htl := ht.lt
  have htm : ∀ bm, mt = some bm → bm < w.heap.size := fun bm e => SetIs.lt_map (e ▸ ht)
  obtain ⟨mv, hb, hm⟩ := h
  have hc : ∀ o, (w.alloc o).cell? ⟨s, 0, none⟩ = some mv := fun o => (World.cell?_alloc_lt w o ⟨s, 0, none⟩ hs).trans (hb.cell 0)
  rcases hm with ⟨rfl, rfl, rfl⟩ | ⟨bm, D, rfl, rfl, hown, hD⟩
  · have hrn := fun w : World => run_range_nilMap (P := Try.prog) w 51 9 68 Try.underlying51
    have hnn := fun (W : World) ty => run_next_nilMap (P := Try.prog) (W.alloc (.cells #[.map none] 53)) ty 0 0 #[]
    simp only [World.size_alloc] at hnn
    go_enter Try.func27, Try.ntmps27
    go_wp2_with (first | (go_at_call 34; refine (held_any _ s _ (hc _)).mono ?_; rintro e w1 ⟨rfl, rfl⟩))
    refine wp_loop_rounds 1 ?_
    rw [rounds_succ]
    go_wp2
    go_ret
    refine ⟨_, rfl, Nat.le_refl _, ⟨none, [], ⟨_, (Blk.new w _ _).alloc _, .inl ⟨rfl, rfl, rfl⟩⟩, (fun _ h => by cases h), fun x => by simp, Nat.le_refl _⟩, ((Below.refl _ _).alloc (Nat.le_refl _) _).alloc (by simp) _⟩
  · have hO := hown.alloc (.cells #[.map none] 53)
    have hbl := hown.lt
    go_enter Try.func27, Try.ntmps27
    go_wp2_with (first | (go_at_call 34; refine (held_any _ s _ (hc _)).mono ?_; rintro e w1 ⟨rfl, rfl⟩) | (at_range; refine wpList_range_own _ rfl _ 51 rfl 9 68 law9 Try.underlying51 unitElem bm Ks.length D rfl hO ?_; intro w0 hrg0 hg0 hs0))
    go_frame
    have hT0 : SetIs w0 w.heap.size none [] := ⟨_, (Blk.new w _ _).grown hg0 (by simp), .inl ⟨rfl, rfl, rfl⟩⟩
    have hK0 : Kp (fun i => w.heap.size ≤ i) w w0 := (Kp.alloc _ w _).then_ (Kp.of_grown hg0) (fun i hi => by cases hi)
    have hRz : w.heap.size < (w.alloc (.cells #[.map none] 53)).heap.size := by rw [World.size_alloc]; omega
    clear hg0 hs0 hO
    generalize (w.alloc (.cells #[.map none] 53)).heap.size = R at *
    have HC := Lib.hid hc
    have HT := Lib.hid htm
    clear hc htm
    go_loopw [] (fun wr => ∃ left cnt vs mo Ko, wr.ranges Try.prog 9 unitElem bm R Ks.length D left cnt ∧ Vis Ks left vs ∧ vs.length + cnt ≤ Ks.length ∧ SetIs wr w.heap.size mo Ko ∧ (∀ b, mo = some b → w.heap.size ≤ b) ∧ (∀ x, x ∈ Ko ↔ ∃ k ∈ vs, k = x ∧ k ∈ Kt) ∧ Ko.length ≤ vs.length ∧ Kp (fun i => w.heap.size ≤ i) w wr) (fun wr => wr.rangeLeft bm R)
    case atStart => exact ⟨_, _, [], none, [], hrg0, Vis.start hD, by rw [hD.2.2]; simp, hT0, (fun _ h => by cases h), fun x => by simp, Nat.le_refl _, hK0⟩
    case round =>
      obtain ⟨left, cnt, vs, mo, Ko, hrg, hvis, hcnt, hset, hmo, hmem, hle, hkp⟩ := hrel
      clear hrg0 hT0 hK0
      go_wp2_with (at_next; refine next_set _ rfl _ rfl bm R Ks.length D left cnt rfl hrg ?_ ?_)
      · intro hc0 hl0
        have hdone := hvis.done hl0
        have hle' : Ko.length ≤ Ks.length := by omega
        have hmem' : ∀ x, x ∈ Ko ↔ ∃ k ∈ Ks, k = x ∧ k ∈ Kt := fun x => by
          rw [hmem x]
          constructor
          · rintro ⟨k, hk, e⟩; exact ⟨k, (hdone k).1 hk, e⟩
          · rintro ⟨k, hk, e⟩; exact ⟨k, (hdone k).2 hk, e⟩
        have HM := Lib.hid hmem'
        have HO := Lib.hid hmo
        clear hmem' hdone hmem hvis hrg hl0 hc0 hmo
        go_wp2
        go_ret
        exact ⟨_, rfl, Nat.le_refl _, ⟨mo, Ko, hset, HO.out, HM.out, hle'⟩, hkp.below (fun i hi => hi) (Nat.le_refl _)⟩
      · intro x w1 cnt1 hx1 hlx hhx hrg1 hlt1 hg1 hs1 hen
        have hTR : w.heap.size ≠ R := Nat.ne_of_lt hRz
        have hset1 := hset.kept (Kp.of_grown hg1) (fun e => hTR (Option.some.inj e).symm) (fun b hb e => by
          obtain ⟨_, _, _, hi⟩ := ranges_iter hrg
          rw [hb] at hset
          exact set_ne_iter hset hi (Option.some.inj e).symm)
        have hkp1 : Kp (fun i => w.heap.size ≤ i) w w1 := hkp.then_ (Kp.of_grown hg1) (fun i hi => .inl (by have := Option.some.inj hi; omega))
        have ht1 : SetIs w1 t mt Kt := ht.kept hkp1 (by omega) (fun b e => by have := HT.out b e; omega)
        have hvis1 := hvis.step hD hlx hhx
        have hroom1 : Ko.length < maxLen := by omega
        have HV := Lib.hid hvis1
        have HM := Lib.hid hmem
        have HO := Lib.hid hmo
        have hms : wr.rangeLeft bm R = cnt := hrg.left_eq
        have HS := Lib.hid hms
        clear hvis hvis1 hmem hmo hlx hhx hset hkp hg1 hrg hms
        have hit1 := ranges_iter hrg1
        have HI := Lib.hid hit1
        clear hit1
        have hmz : ∀ b, mo = some b → b < w1.heap.size := fun b e => SetIs.lt_map (e ▸ hset1)
        have HZ := Lib.hid hmz
        clear hmz
        have hoz := hset1.lt
        have hrz := hrg1.lt
        by_cases hin : x ∈ Kt
        · go_wp2_with (first | (go_at_call 37; refine (holds_any w1 t mt Kt x hx1 ht1).mono ?_; rintro e w2 ⟨rfl, hb2⟩; rw [decide_eq_true hin]; have hset2 : SetIs w2 w.heap.size mo Ko := hset1.kept (Kp.of_below hb2) (by omega) (fun b e => by have := HZ.out b e; omega)) | (go_at_call 40; refine (put_any w2 w.heap.size mo Ko x hx1 hroom1 hset2).mono ?_; rintro e w3 ⟨rfl, mo', hmo', hset', hkp'⟩))
          have hrg2 := ranges_kp (ranges_kp hrg1 (Kp.of_below hb2) (by omega) (by omega)) hkp' (fun h => h.elim (fun e => absurd e (Nat.ne_of_lt hbl)) (fun e => absurd (HO.out bm e) (by omega))) (fun h => h.elim (fun e => hTR e.symm) (fun e => by
            obtain ⟨_, _, _, hi⟩ := HI.out
            rw [e] at hset1
            exact set_ne_iter hset1 hi rfl))
          refine ⟨⟨_, cnt1, vs ++ [x], mo', _, hrg2, HV.out, by simp; omega, hset', fun b hb => ?_, meet_step HM.out hin, len_step hle, (hkp1.then_ (Kp.of_below hb2) (fun i hi => .inr (by have := hkp1.size; omega))).then_ hkp' (fun i hi => .inl (hi.elim (fun e => by omega) (fun e => HO.out i e)))⟩, by rw [hrg2.left_eq, HS.out]; exact hlt1⟩
          rcases hmo' with e | ⟨b', e, hb'⟩
          · exact HO.out b (e ▸ hb)
          · rw [hb] at e
            cases e
            have := hkp1.size
            have := hb2.size
            omega
        · go_wp2_with (first | (go_at_call 37; refine (holds_any w1 t mt Kt x hx1 ht1).mono ?_; rintro e w2 ⟨rfl, hb2⟩; rw [decide_eq_false hin]; have hset2 : SetIs w2 w.heap.size mo Ko := hset1.kept (Kp.of_below hb2) (by omega) (fun b e => by have := HZ.out b e; omega)))
          have hrg2 := ranges_kp hrg1 (Kp.of_below hb2) (by omega) (by omega)
          exact ⟨⟨_, cnt1, vs ++ [x], mo, Ko, hrg2, HV.out, by simp; omega, hset2, HO.out, meet_skip HM.out hin, by simp; omega, hkp1.then_ (Kp.of_below hb2) (fun i hi => .inr (by have := hkp1.size; omega))⟩, by rw [hrg2.left_eq, HS.out]; exact hlt1⟩
end Go.Proofs.Ythcnffieoocnkaa.st

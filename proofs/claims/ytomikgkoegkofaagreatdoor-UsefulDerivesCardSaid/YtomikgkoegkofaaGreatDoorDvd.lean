import Derived.Test.YtomikgkoegkofaaGreatDoorDvc
namespace Go.Proofs.YtomikgkoegkofaaGreatDoor.dv
open Go.ChangeShapes Go.WideShapes Go.ChangeAt Go.RowKit Go.Maps Go.WideMaps Go.WideElems
set_option linter.unusedVariables false
set_option linter.unusedSimpArgs false
/-! the first variable of a form on its way -/
theorem isVar_any (w : World) (x : Int) : Calls Tryz.prog 70 #[.int .i64 x] w fun e w' => e = .returned (.bool (decide (0 ≤ x))) ∧ w' = w := by
  go_enter Tryz.func70, Tryz.ntmps70
  go_wp2
  go_ret
  refine ⟨?_, rfl⟩
  try rfl
theorem IV_snoc (T : List Int) (x : Int) : IV (T ++ [x]) = IV T ++ [.int .i64 x] := by simp [IV]
theorem own_pop {w : World} {base : Nat} {e : TypeId} {g cap n : Nat} {x : Value} {xs : List Value} (h : w.ownsRow base e 1 (.slice (some ⟨g, 0, none⟩) (n + 1) cap) (n + 1) (xs ++ [x])) (hl : xs.length = n) : w.ownsRow base e 1 (.slice (some ⟨g, 0, none⟩) n cap) n xs := by
  obtain ⟨h1, h | ⟨g', cap', cur, hv, hB, hh, hc, hm, hr⟩⟩ := h
  · cases h.1
  · cases hv
    refine ⟨by omega, .inr ⟨g, cap, cur, rfl, hB, hh, by omega, hm, hr.1, ?_⟩⟩
    have h3 : (cur.toList.take ((n + 1) * 1)).take (n * 1) = (xs ++ [x]).take (n * 1) := by rw [hr.2]
    rw [List.take_take, Nat.min_eq_left (by omega)] at h3
    rw [h3, Nat.mul_one, ← hl]
    simp
def lenAt (w : World) (b : Nat) : Nat := match w.cell? ⟨b, 1, none⟩ with
  | some (.slice _ n _) => n
  | _ => 0
theorem own_len {w : World} {base n : Nat} {e : TypeId} {v : Value} {xs : List Value} (h : w.ownsRow base e 1 v n xs) : ∃ ao cap, v = .slice ao n cap := by
  rcases h.2 with ⟨rfl, rfl⟩ | ⟨g, cap, cur, rfl, _⟩
  · exact ⟨_, _, rfl⟩
  · exact ⟨_, _, rfl⟩
theorem own_cap {w : World} {base n g cap : Nat} {e : TypeId} {xs : List Value} (h : w.ownsRow base e 1 (.slice (some ⟨g, 0, none⟩) n cap) n xs) : n ≤ cap ∧ cap ≤ maxLen := by
  rcases h.2 with ⟨h0, _⟩ | ⟨g', cap', cur, h0, _, _, h1, h2, _⟩
  · cases h0
  · cases h0; exact ⟨h1, h2⟩
theorem lenAt_of {B : Nat} {w : World} {b : Nat} {D T : List Int} (h : Parts B w b D T) : lenAt w b = T.length := by
  obtain ⟨_, vd, vt, hb, hd, ht, _⟩ := h
  obtain ⟨ao, cap, rfl⟩ := own_len ht
  unfold lenAt
  rw [hb.cell 1]
  rfl
/-- a symbol that is done -/
theorem done_step {B b : Nat} {W w4 : World} {vd : Value} {D T : List Int} {m n g g4 cap cap4 nq nr : Nat} {x : Value} {ys : List Value} {tmp : Obj} (hn : B ≤ W.heap.size) (hB1 : B ≤ b)
    (hb : Blk W b 101 #[vd, .slice (some ⟨g, 0, none⟩) (n + 1) cap]) (hd : W.ownsRow B 3 1 vd D.length (IV D)) (ht : W.ownsRow B 3 1 (.slice (some ⟨g, 0, none⟩) (n + 1) cap) (n + 1) (IV T ++ [x])) (hl : T.length = n) (hne : vd.ownBlock = none ∨ vd.ownBlock ≠ (Value.slice (some ⟨g, 0, none⟩) (n + 1) cap).ownBlock)
    (h1 : w4.ownsRow B 3 1 (.slice (some ⟨g4, 0, none⟩) m cap4) m ys) (h2 : ((W.drewN nq).alloc tmp).grownBy w4 vd.ownBlock) (h3 : vd.ownBlock = some g4 ∨ g4 = W.heap.size + 1) :
    Blk w4 b 101 #[vd, .slice (some ⟨g, 0, none⟩) (n + 1) cap] ∧ Blk (w4.setCell ⟨b, 0, none⟩ (.slice (some ⟨g4, 0, none⟩) m cap4)) b 101 #[.slice (some ⟨g4, 0, none⟩) m cap4, .slice (some ⟨g, 0, none⟩) (n + 1) cap] ∧
    ∀ w6, w6 = ((w4.setCell ⟨b, 0, none⟩ (.slice (some ⟨g4, 0, none⟩) m cap4)).drewN nr).setCell ⟨b, 1, none⟩ (.slice (some ⟨g, 0, none⟩) n cap) →
      Blk w6 b 101 #[.slice (some ⟨g4, 0, none⟩) m cap4, .slice (some ⟨g, 0, none⟩) n cap] ∧ w6.ownsRow B 3 1 (.slice (some ⟨g4, 0, none⟩) m cap4) m ys ∧ w6.ownsRow B 3 1 (.slice (some ⟨g, 0, none⟩) n cap) n (IV T) ∧ some g4 ≠ some g ∧ Below B W w6 := by
  have hb4 : Blk w4 b 101 #[vd, .slice (some ⟨g, 0, none⟩) (n + 1) cap] := (Blk.alloc (w := W.drewN nq) hb tmp).grown h2 (hb.not_row (by decide) hd)
  have ht' : (W.drewN nq).ownsRow B 3 1 (.slice (some ⟨g, 0, none⟩) (n + 1) cap) (n + 1) (IV T ++ [x]) := ht
  have ht4 : w4.ownsRow B 3 1 (.slice (some ⟨g, 0, none⟩) (n + 1) cap) (n + 1) (IV T ++ [x]) := own_grown (ht'.alloc tmp) h2 (by
    rcases hne with h | h
    · exact .inr (by rw [h]; intro e; cases e)
    · exact .inr h.symm)
  have hgs := grown_set w4 ⟨b, 0, none⟩ (.slice (some ⟨g4, 0, none⟩) m cap4)
  have hb5 := hb4.set_ 0 (.slice (some ⟨g4, 0, none⟩) m cap4)
  have hr5 := own_grown h1 hgs (.inr (hb4.not_row (by decide) h1).symm)
  have ht5 := own_grown ht4 hgs (.inr (hb4.not_row (by decide) ht4).symm)
  refine ⟨hb4, hb5, ?_⟩
  rintro w6 rfl
  have hb5' : Blk ((w4.setCell ⟨b, 0, none⟩ (.slice (some ⟨g4, 0, none⟩) m cap4)).drewN nr) b 101 #[.slice (some ⟨g4, 0, none⟩) m cap4, .slice (some ⟨g, 0, none⟩) (n + 1) cap] := hb5
  have hg6 := grown_set ((w4.setCell ⟨b, 0, none⟩ (.slice (some ⟨g4, 0, none⟩) m cap4)).drewN nr) ⟨b, 1, none⟩ (.slice (some ⟨g, 0, none⟩) n cap)
  have hr5' : ((w4.setCell ⟨b, 0, none⟩ (.slice (some ⟨g4, 0, none⟩) m cap4)).drewN nr).ownsRow B 3 1 (.slice (some ⟨g4, 0, none⟩) m cap4) m ys := hr5
  have ht5' : ((w4.setCell ⟨b, 0, none⟩ (.slice (some ⟨g4, 0, none⟩) m cap4)).drewN nr).ownsRow B 3 1 (.slice (some ⟨g, 0, none⟩) n cap) n (IV T) := own_pop ht5 (by simp [IV, hl])
  refine ⟨hb5'.set_ 1 _, own_grown hr5' hg6 (.inr (hb5'.not_row (by decide) hr5').symm), own_grown ht5' hg6 (.inr (hb5'.not_row (by decide) ht5').symm), ?_, ?_⟩
  · rcases h3 with h3 | h3
    · rcases hne with h | h
      · rw [h] at h3; cases h3
      · rw [← h3]; exact h
    · intro e
      have := (ht.lt g rfl).2
      have := Option.some.inj e
      omega
  · exact (below_drewN ((((below_drewN (Below.refl B W) nq).alloc hn tmp).grown h2 (by rw [World.size_alloc]; exact Nat.le_succ_of_le hn) fun j ej => (hd.lt j ej).1).setCell (p := ⟨b, 0, none⟩) hB1 _) nr).setCell (p := ⟨b, 1, none⟩) hB1 _
def FirstR (B : Nat) (w0 w' : World) (b : Nat) (D T : List Int) (D' T' : List Int) : Prop := D' ++ T'.reverse = D ++ T.reverse ∧ (∀ x ∈ D', x < 0) ∧ Parts B w' b D' T' ∧ Below B w0 w'
set_option maxRecDepth 100000 in
set_option maxHeartbeats 2000000 in
theorem first_any (w : World) (B b : Nat) (D T : List Int) (hp : Parts B w b D T) (hneg : ∀ x ∈ D, x < 0) (hl : D.length + T.length ≤ 1000000) (hBw : B ≤ w.heap.size) :
    Calls Tryz.prog 74 #[.pointer (some ⟨b, 0, none⟩)] w fun e w' => ∃ D' T', FirstR B w w' b D T D' T' ∧ ((T' = [] ∧ e = .returned (.int .i64 (-1))) ∨ ∃ T0 v, T' = T0 ++ [v] ∧ 0 ≤ v ∧ e = .returned (.int .i64 v)) := by
  obtain ⟨i0, hi, hz0, hz1, hz2⟩ := info_parts info_int
  have HL := Lib.hid hl
  have HN := Lib.hid hneg
  clear hl hneg
  go_enter Tryz.func74, Tryz.ntmps74
  go_wp2
  go_loopw [] (fun wr => ∃ D' T', FirstR B w wr b D T D' T') (fun wr => lenAt wr b)
  case atStart => exact ⟨D, T, rfl, HN.out, hp, Below.refl _ _⟩
  case round =>
    obtain ⟨D1, T1, heq, hn1, hp1, hb1⟩ := hrel
    have HM := Lib.hid (lenAt_of hp1)
    have hle : D1.length + T1.length = D.length + T.length := by have := congrArg List.length heq; simpa using this
    have HLE := Lib.hid hle
    have HE := Lib.hid heq
    have HN1 := Lib.hid hn1
    clear hle heq hn1
    obtain ⟨hB, vd, vt, hb, hd, ht, hne⟩ := hp1
    have c0 := hb.cell 0
    have c1 := hb.cell 1
    have f0 := hb.frozen 0
    have f1 := hb.frozen 1
    have l1 := hb.lt
    simp only [List.getElem?_toArray, List.getElem?_cons_zero, List.getElem?_cons_succ] at c0 c1
    have hT : T1 = [] ∨ ∃ T0 v, T1 = T0 ++ [v] := by
      rcases List.eq_nil_or_concat T1 with e | ⟨T0, v, e⟩
      · exact .inl e
      · exact .inr ⟨T0, v, by rw [e, List.concat_eq_append]⟩
    rcases hT with rfl | ⟨T0, v, rfl⟩
    · obtain ⟨ao, cap, rfl⟩ := own_len ht
      go_wp2
      go_ret
      exact ⟨D1, [], ⟨HE.out, HN1.out, ⟨hB, vd, _, hb, hd, ht, hne⟩, hb1⟩, .inl ⟨rfl, rfl⟩⟩
    · have el : (T0 ++ [v]).length = T0.length + 1 := by simp
      rw [el, IV_snoc] at ht
      obtain ⟨g, cap, rfl⟩ := ownsRow_succ ht
      have hcv : wr.cell? ⟨g, T0.length, none⟩ = some (.int .i64 v) := by
        rw [ht.cellAt T0.length (by have := ht.1; omega), List.getElem?_append_right (by simp [IV])]
        simp [IV]
      have hpop := own_pop ht (by simp [IV])
      obtain ⟨hcp1, hcp2⟩ := own_cap ht
      have hcp3 : cap ≤ 9223372036854775807 := by unfold maxLen at hcp2; omega
      have hbd : T0.length + 1 ≤ 1000000 := by
        have h1 := HLE.out
        have h2 := HL.out
        rw [el] at h1
        omega
      clear el
      go_wp2
      go_quiet (fail)
      have hbd2 : D1.length + 1 ≤ 1000000 := by
        have h1 := HLE.out
        have h2 := HL.out
        simp at h1
        omega
      by_cases hv : 0 ≤ v
      · go_wp2_with (go_at_call 70; refine (isVar_any _ _).mono ?_; rintro e w1 ⟨rfl, rfl⟩)
        go_ret
        have ht' : wr.ownsRow B 3 1 (.slice (some ⟨g, 0, none⟩) (T0 ++ [v]).length cap) (T0 ++ [v]).length (IV (T0 ++ [v])) := by
          rw [IV_snoc, show (T0 ++ [v]).length = T0.length + 1 by simp]
          exact ht
        have hp1 : Parts B (wr.drewN nq) b D1 (T0 ++ [v]) := by
          rw [show (T0 ++ [v]).length = T0.length + 1 by simp] at ht'
          exact ⟨hB, vd, _, hb, hd, by rw [show (T0 ++ [v]).length = T0.length + 1 by simp]; exact ht', hne⟩
        exact ⟨D1, T0 ++ [v], ⟨HE.out, HN1.out, hp1, below_drewN hb1 _⟩, .inr ⟨T0, v, rfl, hv, rfl⟩⟩
      · have hBr : B ≤ wr.heap.size := by have := hb1.size; omega
        go_wp2_with (first
          | (go_at_call 70; refine (isVar_any _ _).mono ?_; rintro e w1 ⟨rfl, rfl⟩)
          | (at_builtin; go_must (refine wpList_append_lies _ rfl _ _ 28 rfl B 3 i0 (.int .i64 0) 1 8 Tryz.underlying28 hi hz0 hz1 hz2 rfl (by decide) vd D1.length (IV D1) rfl (World.ownsRow.alloc (w := wr.drewN nq) hd _) ⟨wr.heap.size, 0, none⟩ 1 1 (IV [v]) rfl rfl (cell_one_new _ _ _) (by simp [IV, Value.oneCell']) (by decide) (by unfold maxLen; omega) (by omega) (by rw [World.size_alloc]; exact Nat.le_succ_of_le hBr) (wr.heap.size + 1) (World.size_alloc _ _) ?_); intro g4 cap4 w2 hown' hgrow hat4 hlt4; obtain ⟨k1, k2, k3⟩ := done_step (nr := 1) hBr hB hb hd ht rfl hne hown' hgrow hat4; have y0 := k1.cell 0; have z0 := k1.frozen 0; have y1 := k2.cell 1; have z1 := k2.frozen 1; simp only [List.getElem?_toArray, List.getElem?_cons_zero, List.getElem?_cons_succ] at y0; simp only [List.getElem?_toArray, List.getElem?_cons_zero, List.getElem?_cons_succ] at y1))
        go_region
        go_wp2
        obtain ⟨m1, m2, m3, m4, m5⟩ := k3 (((w2.setCell ⟨b, 0, none⟩ (.slice (some ⟨g4, 0, none⟩) (D1.length + 1) cap4)).setCell ⟨b, 1, none⟩ (.slice (some ⟨g, 0, none⟩) T0.length cap)).drew) rfl
        have hP : Parts B (((w2.setCell ⟨b, 0, none⟩ (.slice (some ⟨g4, 0, none⟩) (D1.length + 1) cap4)).setCell ⟨b, 1, none⟩ (.slice (some ⟨g, 0, none⟩) T0.length cap)).drew) b (D1 ++ [v]) T0 := by
          refine ⟨hB, _, _, m1, ?_, m3, .inr m4⟩
          rw [IV_snoc, show (D1 ++ [v]).length = D1.length + 1 by simp]
          exact m2
        refine ⟨⟨D1 ++ [v], T0, ?_, ?_, hP, hb1.trans m5⟩, ?_⟩
        · rw [← HE.out]; simp
        · intro x hx
          rcases List.mem_append.1 hx with h | h
          · exact HN1.out x h
          · simp at h; subst h; omega
        · rw [HM.out, lenAt_of hP]; simp
end Go.Proofs.YtomikgkoegkofaaGreatDoor.dv

import Derived.Test.YtomikgkoegkofaaGreatDoorDvd
namespace Go.Proofs.YtomikgkoegkofaaGreatDoor.dv
open Go.ChangeShapes Go.WideShapes Go.ChangeAt Go.RowKit Go.Maps Go.WideMaps Go.WideElems
set_option linter.unusedVariables false
set_option linter.unusedSimpArgs false
/-! a step's symbols in the place of the variable; a form's beginning -/
theorem pop_step {B b : Nat} {W : World} {D T0 : List Int} {v : Int} (hp : Parts B W b D (T0 ++ [v])) : ∃ vd g cap, B ≤ b ∧ Blk W b 101 #[vd, .slice (some ⟨g, 0, none⟩) (T0.length + 1) cap] ∧ T0.length + 1 ≤ cap ∧ cap ≤ maxLen ∧
    ∀ nr, Parts B ((W.setCell ⟨b, 1, none⟩ (.slice (some ⟨g, 0, none⟩) T0.length cap)).drewN nr) b D T0 ∧ Below B W ((W.setCell ⟨b, 1, none⟩ (.slice (some ⟨g, 0, none⟩) T0.length cap)).drewN nr) := by
  obtain ⟨hB, vd, vt, hb, hd, ht, hne⟩ := hp
  rw [show (T0 ++ [v]).length = T0.length + 1 by simp, IV_snoc] at ht
  obtain ⟨g, cap, rfl⟩ := ownsRow_succ ht
  obtain ⟨h1, h2⟩ := own_cap ht
  have hpop := own_pop ht (by simp [IV])
  have hgs := grown_set W ⟨b, 1, none⟩ (.slice (some ⟨g, 0, none⟩) T0.length cap)
  have q1 := own_grown hd hgs (.inr (hb.not_row (by decide) hd).symm)
  have q2 := own_grown hpop hgs (.inr (hb.not_row (by decide) hpop).symm)
  refine ⟨vd, g, cap, hB, hb, h1, h2, fun nr => ⟨⟨hB, vd, _, hb.set_ 1 _, q1, q2, hne⟩, ?_⟩⟩
  exact below_drewN ((Below.refl B W).setCell (p := ⟨b, 1, none⟩) hB _) nr
set_option maxRecDepth 100000 in
set_option maxHeartbeats 2000000 in
theorem replace_any (w : World) (B b cap : Nat) (ao : Option Addr) (D T0 s : List Int) (v : Int) (hp : Parts B w b D (T0 ++ [v])) (hs : RowUnder B w ao s) (hl1 : s.length ≤ 100000) (hl2 : T0.length + s.length ≤ 1000000) (hBw : B ≤ w.heap.size) :
    Calls Tryz.prog 75 #[.pointer (some ⟨b, 0, none⟩), .slice ao s.length cap] w fun e w' => (∃ v, e = .returned v) ∧ Parts B w' b D (T0 ++ s.reverse) ∧ Below B w w' := by
  obtain ⟨vd, g, cp, hB, hb, h1, h2, h3⟩ := pop_step hp
  have H3 := Lib.hid (h3 1)
  have h4 : cp ≤ 9223372036854775807 := by unfold maxLen at h2; omega
  have c1 := hb.cell 1
  have f1 := hb.frozen 1
  simp only [List.getElem?_toArray, List.getElem?_cons_zero, List.getElem?_cons_succ] at c1
  clear h3 hp
  go_enter Tryz.func75, Tryz.ntmps75
  go_wp2
  go_region
  have hpx := H3.out.1
  have hbx := H3.out.2
  have hput := put_any _ B b cap ao D T0 s hpx (fun j hj => by
    obtain ⟨a, e, hab, hca⟩ := hs j hj
    exact ⟨a, e, hab, (hbx.cell (p := a.add j) (by rw [add_block]; exact hab)).trans hca⟩) hl1 hl2 (by have := hbx.size; omega)
  go_wp2_with (go_at_call 94; refine hput.mono ?_; rintro e w3 ⟨⟨v3, rfl⟩, hp3, hb3⟩)
  go_end0
  exact ⟨⟨_, rfl⟩, hp3, hbx.trans hb3⟩
theorem own_weak {w : World} {base base' size n : Nat} {e : TypeId} {v : Value} {xs : List Value} (h : w.ownsRow base e size v n xs) (hb : base' ≤ base) : w.ownsRow base' e size v n xs := by
  obtain ⟨h1, h2 | ⟨g, cap, cur, hv, hB, r⟩⟩ := h
  · exact ⟨h1, .inl h2⟩
  · exact ⟨h1, .inr ⟨g, cap, cur, hv, Nat.le_trans hb hB, r⟩⟩
set_option maxRecDepth 100000 in
set_option maxHeartbeats 2000000 in
theorem begin_any (w : World) (B cap : Nat) (ao : Option Addr) (s : List Int) (hs : RowUnder B w ao s) (hl1 : s.length ≤ 100000) (hBw : B ≤ w.heap.size) :
    Calls Tryz.prog 72 #[.slice ao s.length cap] w fun e w' => ∃ vd vt, e = .returned (.agg #[vd, vt]) ∧ w'.ownsRow B 3 1 vd 0 (IV []) ∧ w'.ownsRow B 3 1 vt s.length (IV s.reverse) ∧ (vd.ownBlock = none ∨ vd.ownBlock ≠ vt.ownBlock) ∧ Below B w w' := by
  have b0 := Blk.new w 101 #[.slice none 0 0, .slice none 0 0]
  have b1 := Blk.new (w.alloc (.cells #[.slice none 0 0, .slice none 0 0] 101)) 101 #[.slice none 0 0, .slice none 0 0]
  rw [World.size_alloc] at b1
  have hb0 : Below w.heap.size w ((w.alloc (.cells #[.slice none 0 0, .slice none 0 0] 101)).alloc (.cells #[.slice none 0 0, .slice none 0 0] 101)) := ((Below.refl _ w).alloc (Nat.le_refl _) _).alloc (by simp) _
  have b0' := b0.alloc (.cells #[.slice none 0 0, .slice none 0 0] 101)
  have hp0 : Parts (w.heap.size + 1) ((w.alloc (.cells #[.slice none 0 0, .slice none 0 0] 101)).alloc (.cells #[.slice none 0 0, .slice none 0 0] 101)) (w.heap.size + 1) [] [] := ⟨by omega, _, _, b1, World.ownsRow_nil _ _ _ _, World.ownsRow_nil _ _ _ _, .inl rfl⟩
  have hput := put_any _ (w.heap.size + 1) (w.heap.size + 1) cap ao [] [] s hp0 (fun j hj => by
    obtain ⟨a, e, hab, hca⟩ := hs j hj
    exact ⟨a, e, by omega, (hb0.cell (p := a.add j) (by rw [add_block]; omega)).trans hca⟩) hl1 (by simp; omega) (by simp)
  go_enter Tryz.func72, Tryz.ntmps72
  go_wp2_with (go_at_call 94; refine hput.mono ?_; rintro e w3 ⟨⟨v3, rfl⟩, ⟨hB3, vd, vt, hb3, hd3, ht3, hne3⟩, hbl3⟩; obtain ⟨ad, cd, rfl⟩ := own_len hd3; obtain ⟨at_, ct, rfl⟩ := own_len ht3; have c0 := hb3.cell 0; have c1 := hb3.cell 1; simp only [List.getElem?_toArray, List.getElem?_cons_zero, List.getElem?_cons_succ] at c0; simp only [List.getElem?_toArray, List.getElem?_cons_zero, List.getElem?_cons_succ] at c1; have b3 := b0'.below hbl3 (Nat.lt_succ_self _); have d0 := b3.cell 0; have d1 := b3.cell 1; have z0 := b3.frozen 0; have z1 := b3.frozen 1; simp only [List.getElem?_toArray, List.getElem?_cons_zero, List.getElem?_cons_succ] at d0; simp only [List.getElem?_toArray, List.getElem?_cons_zero, List.getElem?_cons_succ] at d1)
  have b4 := (b3.set_ 0 (.slice ad 0 cd)).set_ 1 (.slice at_ s.length ct)
  have e0 := b4.cell 0
  have e1 := b4.cell 1
  simp only [List.setIfInBounds_toArray, List.set_cons_zero, List.set_cons_succ, List.getElem?_toArray, List.getElem?_cons_zero, List.getElem?_cons_succ] at e0
  simp only [List.setIfInBounds_toArray, List.set_cons_zero, List.set_cons_succ, List.getElem?_toArray, List.getElem?_cons_zero, List.getElem?_cons_succ] at e1
  have hlt : ∀ (v : Value) n xs, w3.ownsRow (w.heap.size + 1) 3 1 v n xs → ((w3.setCell ⟨w.heap.size, 0, none⟩ (.slice ad 0 cd)).setCell ⟨w.heap.size, 1, none⟩ (.slice at_ s.length ct)).ownsRow B 3 1 v n xs := fun v n xs h => by
    have hap : v.ownBlock = none ∨ v.ownBlock ≠ some w.heap.size := by
      by_cases hv : v.ownBlock = some w.heap.size
      · have := (h.lt _ hv).1; omega
      · exact .inr hv
    exact own_weak (own_grown (own_grown h (grown_set w3 ⟨w.heap.size, 0, none⟩ _) hap) (grown_set _ ⟨w.heap.size, 1, none⟩ _) hap) (by omega)
  refine bodyPost_ret (v := .agg #[.slice ad 0 cd, .slice at_ s.length ct]) (by simp [results, Tryz.results72, go_sem, e0, e1]) rfl ?_
  refine ⟨_, _, rfl, hlt _ _ _ hd3, ?_, by simpa using hne3, ?_⟩
  · have := hlt _ _ _ ht3
    simpa using this
  · exact (((hb0.mono hBw).trans (hbl3.mono (by omega))).setCell (p := ⟨w.heap.size, 0, none⟩) hBw _).setCell (p := ⟨w.heap.size, 1, none⟩) hBw _
end Go.Proofs.YtomikgkoegkofaaGreatDoor.dv

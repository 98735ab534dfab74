import Derived.Test.YtomikgkoegkofaaGreatDoorDvf
namespace Go.Proofs.YtomikgkoegkofaaGreatDoor.dv
open Go.ChangeShapes Go.WideShapes Go.ChangeAt Go.RowKit Go.Maps Go.WideMaps Go.WideElems
set_option linter.unusedVariables false
set_option linter.unusedSimpArgs false
/-! the form of its parts -/
theorem own_zero {w : World} {base n cap : Nat} {e : TypeId} {xs : List Value} (h : w.ownsRow base e 1 (.slice none n cap) n xs) : n = 0 ∧ cap = 0 := by
  rcases h.2 with ⟨h0, rfl⟩ | ⟨g, cap, cur, h0, _⟩
  · cases h0; exact ⟨rfl, rfl⟩
  · cases h0
theorem src_own {w : World} {B n : Nat} {v : Value} {x : List Int} (h : w.ownsRow B 3 1 v n (IV x)) (hn : x.length = n) : SrcAt w v x := by
  subst hn
  rcases h.2 with ⟨rfl, h0⟩ | ⟨g, cap, cur, rfl, _⟩
  · exact ⟨none, 0, by rw [h0], fun _ => ⟨h0, rfl⟩, fun ad h => by cases h⟩
  · refine ⟨_, cap, rfl, fun h => (by cases h), fun ad had => ?_⟩
    cases had
    exact fun j u hj => ⟨own_lt h, own_cells' h j u hj⟩
theorem rows_two {w : World} {B : Nat} {v u : Value} {x y : List Int} {a : Nat} (hb : Blk w a 28 #[v, u]) (hv : SrcAt w v x) (hu : SrcAt w u y) : RowsIn w ⟨a, 0, none⟩ [v, u] [x, y] := by
  refine ⟨rfl, hb.lt, fun i z hi => ?_⟩
  match i, hi with
  | 0, hi =>
    simp at hi
    subst hi
    exact ⟨by simpa [Addr.add] using hb.cell 0, hv⟩
  | 1, hi =>
    simp at hi
    subst hi
    exact ⟨by simpa [Addr.add] using hb.cell 1, hu⟩
  | i + 2, hi => simp at hi
set_option maxRecDepth 100000 in
set_option maxHeartbeats 1000000 in
theorem form_any (w : World) (B b : Nat) (D T : List Int) (hp : Parts B w b D T) (hl : D.length + T.length ≤ 1000000) (hBw : B ≤ w.heap.size) :
    Calls Tryz.prog 76 #[.pointer (some ⟨b, 0, none⟩)] w fun e w' => ∃ v, e = .returned v ∧ w'.ownsRow B 3 1 v (D ++ T.reverse).length (IV (D ++ T.reverse)) ∧ Below B w w' := by
  obtain ⟨hB, vd, vt, hb, hd, ht, hne⟩ := hp
  have hrev := reverse_own w B T.length vt 3 T rfl (by omega) ht
  obtain ⟨ad, cd, rfl⟩ := own_len hd
  obtain ⟨at_, ct, rfl⟩ := own_len ht
  have c0 := hb.cell 0
  have c1 := hb.cell 1
  simp only [List.getElem?_toArray, List.getElem?_cons_zero, List.getElem?_cons_succ] at c0
  simp only [List.getElem?_toArray, List.getElem?_cons_zero, List.getElem?_cons_succ] at c1
  have HL := Lib.hid hl
  clear hl
  go_enter Tryz.func76, Tryz.ntmps76
  go_wp2_with fail
  refine hrev.mono ?_
  rintro e w1 ⟨rfl, ht1, hg1⟩
  have hb1 := hb.grown hg1 (hb.not_row (by decide) ht)
  have hd1 := own_grown hd hg1 hne
  have hbl1 : Below B w w1 := (Below.refl B w).grown hg1 hBw (fun k hk => (ht.lt k hk).1)
  have hz1 := hbl1.size
  have d0 := hb1.cell 0
  have d1 := hb1.cell 1
  simp only [List.getElem?_toArray, List.getElem?_cons_zero, List.getElem?_cons_succ] at d0
  simp only [List.getElem?_toArray, List.getElem?_cons_zero, List.getElem?_cons_succ] at d1
  have hbl2 : Below w1.heap.size w1 ((w1.drew).alloc (.cells #[.slice ad D.length cd, .slice at_ T.length ct] 28)) := ((Below.refl _ w1).drew).alloc (Nat.le_refl _) _
  have hcat := concat_any ((w1.drew).alloc (.cells #[.slice ad D.length cd, .slice at_ T.length ct] 28)) ⟨w1.heap.size, 0, none⟩ 2 [.slice ad D.length cd, .slice at_ T.length ct] [D, T.reverse] (rows_two (B := B) (Blk.new w1.drew _ _) ((src_own hd1 rfl).below hbl2) ((src_own ht1 (by simp)).below hbl2)) (by have := HL.out; simp; omega) (by simp)
  clear hrev hne hg1
  go_wp2
  go_region_law (first | (go_simp; go_at_call 97; refine hcat.mono ?_; rintro e w3 ⟨v, rfl, ho3, hb3⟩))
  all_goals
    go_wp2
    go_ret
    have ho4 : w3.ownsRow B 3 1 v (D ++ T.reverse).length (IV (D ++ T.reverse)) := by
      have := own_weak (base' := B) ho3 (by have := hbl2.size; omega)
      simpa using this
    exact ⟨v, rfl, ho4, (hbl1.trans (hbl2.mono (by omega))).trans (hb3.mono (by have := hbl2.size; omega))⟩
end Go.Proofs.YtomikgkoegkofaaGreatDoor.dv

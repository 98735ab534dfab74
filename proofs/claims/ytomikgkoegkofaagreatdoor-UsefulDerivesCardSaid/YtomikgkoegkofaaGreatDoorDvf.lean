import Derived.Test.YtomikgkoegkofaaGreatDoorDve
import Derived.Shelf.Slices.Reverse
import Derived.Shelf.Spec.SlicesGrow
import Derived.Ground.Names8Prog
import Derived.Ground.NamesProg
import Derived.Sort.OwnSorted
namespace Go.Proofs
section
open Go.Shelf
def Tryz.lays112_ren : Go.Shelf.Ren := ⟨fun | 112 => 96 | n => n, fun | 28 => 28 | 3 => 3 | 4 => 4 | 0 => 0 | n => n, fun | n => n⟩
theorem Tryz.lays112 : Go.Proofs.Lays.n112 Tryz.prog Tryz.lays112_ren := {
  mixed := by kernel_rfl
  f112 := Tryz.func96.trans (congrArg some (by kernel_rfl))
  t0 := Tryz.underlying0
  a0 := Tryz.isAgg0
  z0 := Tryz.sizeOf0
  v0 := Tryz.zeroValue0
  t3 := Tryz.underlying3
  a3 := Tryz.isAgg3
  z3 := Tryz.sizeOf3
  v3 := Tryz.zeroValue3
  t4 := Tryz.underlying4
  a4 := Tryz.isAgg4
  z4 := Tryz.sizeOf4
  v4 := Tryz.zeroValue4
  t28 := Tryz.underlying28
  a28 := Tryz.isAgg28
  z28 := Tryz.sizeOf28
  v28 := Tryz.zeroValue28 }
end
section
open Go.Shelf
def Tryz.grow_ren : Go.Shelf.Ren := ⟨fun | 4 => 110 | n => n, fun | 22 => 28 | 25 => 3 | 3 => 3 | 4 => 4 | 9 => 9 | 20 => 20 | 0 => 0 | n => n, fun | n => n⟩
theorem Tryz.grow : Go.Proofs.Lays8.n4 Tryz.prog Tryz.grow_ren := {
  mixed := by kernel_rfl
  f4 := ⟨Tryz.f110.name, by decide, Tryz.func110.trans (congrArg some (by kernel_rfl))⟩
  t0 := Tryz.underlying0
  a0 := Tryz.isAgg0
  z0 := Tryz.sizeOf0
  v0 := Tryz.zeroValue0
  t3 := Tryz.underlying3
  a3 := Tryz.isAgg3
  z3 := Tryz.sizeOf3
  v3 := Tryz.zeroValue3
  t4 := Tryz.underlying4
  a4 := Tryz.isAgg4
  z4 := Tryz.sizeOf4
  v4 := Tryz.zeroValue4
  t9 := Tryz.underlying9
  a9 := Tryz.isAgg9
  z9 := Tryz.sizeOf9
  v9 := Tryz.zeroValue9
  t20 := Tryz.underlying20
  a20 := Tryz.isAgg20
  z20 := Tryz.sizeOf20
  v20 := Tryz.zeroValue20
  t22 := Tryz.underlying28
  a22 := Tryz.isAgg28
  z22 := Tryz.sizeOf28
  v22 := Tryz.zeroValue28 }
end
namespace YtomikgkoegkofaaGreatDoor.dv
open Go.ChangeShapes Go.WideShapes Go.ChangeAt Go.RowKit Go.Maps Go.WideMaps Go.WideElems Go.Shelf Go.Sort
set_option linter.unusedVariables false
set_option linter.unusedSimpArgs false
/-! rows, turned about, and put behind one another -/
theorem holds_int {w : World} {g : Nat} {cur : Array Value} {e : TypeId} {zs : List Int} (hb : w.heap[g]? = some (.cells cur e (0, 0))) (ht : cur.toList.take zs.length = IV zs) : Holds (Value.int .i64) w g 0 zs.toArray := by
  intro j hj
  have hj' : j < zs.length := by simpa using hj
  refine ⟨?_, by simp [World.frozen?, hb]⟩
  have h1 : (cur.toList.take zs.length)[j]? = (IV zs)[j]? := by rw [ht]
  rw [List.getElem?_take_of_lt hj'] at h1
  have h2 := Blk.cell (show Blk w g e cur from hb) j
  rw [Nat.zero_add, h2, ← Array.getElem?_toList, h1]
  simp [IV, hj']
theorem take_put (cur : Array Value) (ts : List Int) (h : ts.length ≤ cur.size) : (putCells (Value.int .i64) 0 ts.toArray cur).toList.take ts.length = IV ts := by
  apply List.ext_getElem?
  intro j
  by_cases hj : j < ts.length
  · rw [List.getElem?_take_of_lt hj, Array.getElem?_toList]
    have h2 : j < cur.size := by omega
    simp [putCells, IV, hj, h2]
  · rw [List.getElem?_eq_none (by simp; omega), List.getElem?_eq_none (by simp [IV]; omega)]
theorem grownBy_put {w : World} {g n : Nat} (d : Array Int) : w.grownBy (putRow (Value.int .i64) (Sort.ahead w n) g 0 d) (some g) := by
  refine ⟨rfl, rfl, rfl, by simp, fun k hk hne => ?_⟩
  have : g ≠ k := fun e => hne (by rw [e])
  simp [putRow, mapBlock, Sort.ahead, Array.getElem?_modify, this]
theorem reverse_own (w : World) (base n : Nat) (v : Value) (e : TypeId) (zs : List Int) (hn : zs.length = n) (hsz : n ≤ 1000000) (h : w.ownsRow base e 1 v n (IV zs)) :
    Calls Tryz.prog 96 #[v] w fun r w' => r = .returned (.tuple #[]) ∧ w'.ownsRow base e 1 v n (IV zs.reverse) ∧ w.grownBy w' v.ownBlock := by
  subst hn
  rcases h.2 with ⟨rfl, h0⟩ | ⟨g, cap, cur, rfl, hbase, hb, h1, h2, h3, h4⟩
  · have hz : zs = [] := List.length_eq_zero_iff.1 h0
    subst hz
    refine (Any.slices_Reverse_int_empty Tryz.lays112 none 0 w).mono ?_
    rintro r w' ⟨rfl, rfl⟩
    exact ⟨rfl, h, World.grownBy.refl _ _⟩
  · refine (Any.slices_Reverse_int Tryz.lays112 g 0 cap zs w (holds_int hb (by simpa using h4)) (by omega)).mono ?_
    rintro r w' ⟨rfl, m, rfl⟩
    have hk : (putRow (Value.int .i64) (Sort.ahead w m) g 0 zs.reverse.toArray).heap[g]? = some (.cells (putCells (Value.int .i64) 0 zs.reverse.toArray cur) e (0, 0)) := by
      simp [putRow, mapBlock, Sort.ahead, Array.getElem?_modify, hb, onCells]
    refine ⟨rfl, ⟨by simp [IV], .inr ⟨g, cap, _, rfl, hbase, hk, h1, h2, by simp [putCells, h3], ?_⟩⟩, grownBy_put _⟩
    have := take_put cur zs.reverse (by simp; omega)
    simpa using this
theorem grow_any (w : World) (n : Nat) (hn : n ≤ 1000000) : Calls Tryz.prog 110 #[.slice none 0 0, .int .i64 n] w fun e w' => ∃ v, e = .returned v ∧ w'.ownsRow w.heap.size 3 1 v 0 [] ∧ Below w.heap.size w w' := by
  obtain ⟨i0, hi, hz0, hz1, hz2⟩ := info_parts info_int
  by_cases h : n = 0
  · subst h
    refine (Any8.slices_Grow_room Tryz.grow none 0 0 0 w (Nat.le_refl _) (by omega) (by omega) (by omega)).mono ?_
    rintro e w' ⟨rfl, rfl⟩
    exact ⟨_, rfl, World.ownsRow_nil _ _ _ _, Below.refl _ _⟩
  · refine (Any8.slices_Grow_grow Tryz.grow i0 (.int .i64 0) hi hz0 (by omega) none 0 0 n [] w (Nat.le_refl _) (by omega) (by rw [hz2]; omega) (by omega) (by simp) (fun _ => rfl) (fun a h => by cases h)).mono ?_
    rintro e w' ⟨rfl, rfl⟩
    refine ⟨_, rfl, ⟨by simp, .inr ⟨w.heap.size, _, _, rfl, Nat.le_refl _, Blk.new (w.drew) _ _, Nat.zero_le _, grownCap_le_maxLen _ _ _ _ (by unfold maxLen; omega), ?_, by simp⟩⟩, ((Below.refl _ w).drew).alloc (Nat.le_refl _) _⟩
    have := grownCap_ge w (0 + n) 0 (Tryz.grow_ren.t 25)
    simp [size_zeroCells]
    have e1 : (Value.int IntKind.i64 0).cells.size = 1 := rfl
    simp only [Nat.zero_add] at this
    simp [Value.cells]
    omega
/-- a row that is put behind others -/
def SrcAt (w : World) (v : Value) (x : List Int) : Prop := ∃ ao cap, v = .slice ao x.length cap ∧ (ao = none → x.length = 0 ∧ cap = 0) ∧ ∀ ad, ao = some ad → ∀ j u, (IV x)[j]? = some u → ad.block < w.heap.size ∧ w.cell? (ad.add j) = some u
def RowsIn (w : World) (a : Addr) (vs : List Value) (L : List (List Int)) : Prop := vs.length = L.length ∧ a.block < w.heap.size ∧ ∀ i v, vs[i]? = some v → w.cell? (a.add i) = some v ∧ SrcAt w v (L.getD i [])
theorem SrcAt.below {w w' : World} {v : Value} {x : List Int} (h : SrcAt w v x) (hb : Below w.heap.size w w') : SrcAt w' v x := by
  obtain ⟨ao, cap, e, hn, hc⟩ := h
  refine ⟨ao, cap, e, hn, fun ad had j u hj => ?_⟩
  obtain ⟨h1, h2⟩ := hc ad had j u hj
  exact ⟨Nat.lt_of_lt_of_le h1 hb.size, (hb.cell (p := ad.add j) (by rw [add_block]; exact h1)).trans h2⟩
theorem RowsIn.below {w w' : World} {a : Addr} {vs : List Value} {L : List (List Int)} (h : RowsIn w a vs L) (hb : Below w.heap.size w w') : RowsIn w' a vs L :=
  ⟨h.1, Nat.lt_of_lt_of_le h.2.1 hb.size, fun i v hi => ⟨(hb.cell (p := a.add i) (by rw [add_block]; exact h.2.1)).trans (h.2.2 i v hi).1, (h.2.2 i v hi).2.below hb⟩⟩
theorem flat_take (L : List (List Int)) (k : Nat) (h : k < L.length) : (L.take (k + 1)).flatten = (L.take k).flatten ++ L.getD k [] := by
  rw [List.take_succ_eq_append_getElem h, List.flatten_append, List.getD_eq_getElem?_getD, List.getElem?_eq_getElem h]
  simp
theorem flat_le (L : List (List Int)) (k : Nat) : (L.take k).flatten.length ≤ L.flatten.length := by
  conv => rhs; rw [← List.take_append_drop k L, List.flatten_append, List.length_append]
  omega
set_option maxRecDepth 100000 in
set_option maxHeartbeats 400000 in
theorem concat_any (w : World) (a : Addr) (cap : Nat) (vs : List Value) (L : List (List Int)) (h : RowsIn w a vs L) (hl : L.flatten.length ≤ 1000000) (hk : L.length ≤ 1000) :
    Calls Tryz.prog 97 #[.slice (some a) L.length cap] w fun e w' => ∃ v, e = .returned v ∧ w'.ownsRow w.heap.size 3 1 v L.flatten.length (IV L.flatten) ∧ Below w.heap.size w w' := by
  obtain ⟨i0, hi, hz0, hz1, hz2⟩ := info_parts info_int
  have H := Lib.hid h
  have HL := Lib.hid hl
  clear h hl
  go_enter Tryz.func97, Tryz.ntmps97
  go_wp2
  go_loopw [3, 11] (fun z i wr => ∃ k : Nat, k ≤ L.length ∧ i = .int .i64 k ∧ z = .int .i64 ((L.take k).flatten.length : Nat) ∧ wr = w) (fun _ i _ => L.length - (intOf i).toNat)
  case atStart => exact ⟨0, Nat.zero_le _, rfl, by simp, rfl⟩
  case round =>
    obtain ⟨k, hkl, rfl, rfl, rfl⟩ := hrel
    by_cases hlt : k < L.length
    · obtain ⟨v, hv⟩ : ∃ v, vs[k]? = some v := ⟨_, List.getElem?_eq_getElem (by rw [H.out.1]; exact hlt)⟩
      obtain ⟨hc, ao, c, rfl, _⟩ := H.out.2.2 k v hv
      have e1 := flat_take L k hlt
      have e2 : (L.take (k + 1)).flatten.length = (L.take k).flatten.length + (L.getD k []).length := by rw [e1, List.length_append]
      have e3 := Nat.le_trans (flat_le L (k + 1)) HL.out
      have E2 := Lib.hid e2
      rw [e2] at e3
      clear e1 e2
      generalize (L.getD k []).length = m at *
      generalize hT : (L.take k).flatten.length = t at *
      go_wp2
      exact ⟨⟨k + 1, hlt, congrArg (Value.int .i64) (by omega), congrArg (Value.int .i64) (by rw [E2.out]; omega), trivial⟩, by simp only [intOf]; omega⟩
    · obtain rfl : k = L.length := by omega
      rw [List.take_length]
      have hl := HL.out
      generalize hN : L.flatten.length = N at *
      have HN := Lib.hid hN
      clear hN
      have hg := grow_any wr N hl
      go_wp2_with fail
      refine hg.mono ?_
      rintro e w1 ⟨v, rfl, ho1, hb1⟩
      obtain ⟨w0, rfl⟩ : ∃ w0 : World, w0 = wr := ⟨_, rfl⟩
      clear hg
      go_wp2
      go_loopw [6, 27] (fun z i wr => ∃ k : Nat, k ≤ L.length ∧ i = .int .i64 k ∧ wr.ownsRow w0.heap.size 3 1 z (L.take k).flatten.length (IV (L.take k).flatten) ∧ Below w0.heap.size w0 wr) (fun _ i _ => L.length - (intOf i).toNat)
      case atStart => exact ⟨0, Nat.zero_le _, rfl, by simpa [IV] using ho1, hb1⟩
      case round =>
        obtain ⟨k, hkl, rfl, hown, hbw⟩ := hrel
        by_cases hlt : k < L.length
        · obtain ⟨u, hu⟩ : ∃ u, vs[k]? = some u := ⟨_, List.getElem?_eq_getElem (by rw [H.out.1]; exact hlt)⟩
          obtain ⟨hc, ao, c, rfl, hnone, hsrc⟩ := (H.out.below hbw).2.2 k u hu
          have e1 := flat_take L k hlt
          have e2 : (L.take (k + 1)).flatten.length = (L.take k).flatten.length + (L.getD k []).length := by rw [e1, List.length_append]
          have e3 := Nat.le_trans (flat_le L (k + 1)) (Nat.le_of_eq HN.out)
          have E2 := Lib.hid e2
          have E1 := Lib.hid e1
          rw [e2] at e3
          clear e1 e2
          have hzw := hbw.size
          have HS := Lib.hid hsrc
          clear hsrc
          generalize L.getD k [] = x at *
          generalize (L.take k).flatten = y at *
          go_wp2_with (at_builtin; go_must (refine wpList_append_src rfl _ _ 28 rfl w0.heap.size 3 i0 (.int .i64 0) 1 8 Tryz.underlying28 hi hz0 hz1 hz2 rfl (by decide) _ _ _ rfl hown ao x.length c (IV x) rfl (by simp [IV]) hnone (fun ad had j u hj => (HS.out ad had j u hj).2) (by intro u hu; simp [IV] at hu; obtain ⟨q, _, rfl⟩ := hu; rfl) (by unfold maxLen; omega) (by omega) hzw ?_); intro v' w2 hown' hgrow)
          have hb2 : Below w0.heap.size w0 w2 := hbw.grown hgrow hzw (fun j hj => (hown.lt j hj).1)
          refine ⟨⟨k + 1, hlt, congrArg (Value.int .i64) (by omega), ?_, hb2⟩, by simp only [intOf]; omega⟩
          rw [E2.out, E1.out]
          simpa [IV] using hown'
        · obtain rfl : k = L.length := by omega
          rw [List.take_length] at hown
          go_wp2
          go_ret
          exact ⟨_, rfl, by rw [← HN.out]; exact hown, hbw⟩
end YtomikgkoegkofaaGreatDoor.dv
end Go.Proofs

import Derived.Laws.CopyOwn
import Derived.Test.YtomikgkoegkofaaGreatDoorUsq
namespace Go.Proofs.YtomikgkoegkofaaGreatDoor.dv
open Go.ChangeShapes Go.WideShapes Go.ChangeAt Go.RowKit Go.Maps Go.WideMaps Go.WideElems Go.Shelf
set_option linter.unusedVariables false
set_option linter.unusedSimpArgs false
/-! slices.Repeat of one way -/
theorem mul_any (w : World) (n : Nat) (hn : n < 9223372036854775808) : Calls Tryz.prog 91 #[.int .u64 1, .int .u64 n] w fun e w' => e = .returned (.tuple #[.int .u64 0, .int .u64 n]) ∧ w' = w := by
  refine (Any.bits_Mul Tryz.lays212 1 n (by decide) (by omega) w).mono ?_
  rintro e w' ⟨rfl, rfl⟩
  have e1 : 1 * n / 18446744073709551616 = 0 := by omega
  have e2 : 1 * n % 18446744073709551616 = n := by omega
  rw [e1, e2]
  exact ⟨rfl, rfl⟩
theorem info_way : (Tryz.prog.info? 57).map (fun i => (i.zero, i.size, i.bytes)) = some (some (.agg #[.int .i64 0, .int .i64 0, .int .i64 0]), 3, 24) := by kernel_rfl
theorem wp_copy_n {P : Program} (w : World) {o : Oper} {a : Act} {K : Act → World → Prop} {Q : Exit → Act → World → Prop} (d s : Operand) (t t' : TypeId)
    (ho : o.op = .call { callee := .builtin .copy, args := #[d, s], argTypes := #[t, t'] }) (v u : Value) (hd : a.eval d = v) (hs : a.eval s = u) {v' : Value} {w' : World}
    (hr : (Builtin.copy_ #[t, t'] o.type #[v, u]).run P w = .ok v' w') (h : K (a.put o.dst v') w') : o.wp P a w K Q := by
  unfold Oper.wp execOp
  simp only [ho, resolve, invoke, builtin, Sem.run_bind, Sem.run_pure, Result.andThen_ok, List.map_toArray, List.map_cons, List.map_nil, hd, hs, hr]
  exact h
theorem wpl_copy_n {P : Program} (w : World) {ops : Array Oper} {rest : List Oper} {o : Oper} {a : Act} {Q : Exit → Act → World → Prop} (hgd : o.guard = none) (d s : Operand) (t t' : TypeId)
    (ho : o.op = .call { callee := .builtin .copy, args := #[d, s], argTypes := #[t, t'] }) (v u : Value) (hd : a.eval d = v) (hs : a.eval s = u) {v' : Value} {w' : World}
    (hr : (Builtin.copy_ #[t, t'] o.type #[v, u]).run P w = .ok v' w') (h : wpList P ops Q rest (a.put o.dst v') w') : wpList P ops Q (o :: rest) a w :=
  wpList_plain hgd fun _ hK => wp_copy_n w d s t t' ho v u hd hs hr (hK _ _ h)
theorem step_copy_n {P : Program} (w : World) {ops : Array Oper} {o : Oper} {a : Act} {K : Act → World → Prop} {Q : Exit → Act → World → Prop} {E : Prop} (hgd : o.guard = none) (d s : Operand) (t t' : TypeId)
    (ho : o.op = .call { callee := .builtin .copy, args := #[d, s], argTypes := #[t, t'] }) (v u : Value) (hd : a.eval d = v) (hs : a.eval s = u) {v' : Value} {w' : World}
    (hr : (Builtin.copy_ #[t, t'] o.type #[v, u]).run P w = .ok v' w') (h : K (a.put o.dst v') w') : if Region.wanted o (yielded ops a.tmps) = true then Oper.wp P o a w K Q else E := by
  have hw : Region.wanted o (yielded ops a.tmps) = true := by simp [Region.wanted, hgd]
  rw [if_pos hw]
  exact wp_copy_n w d s t t' ho v u hd hs hr h
theorem wv_take (a b : List Way) (m : Nat) (h : m = a.length * 3) : (WV (a ++ b)).take m = WV a := by
  subst h
  rw [wv_app, ← wv_len, List.take_left]
theorem wv_drop (a b : List Way) (m : Nat) (h : m = a.length * 3) : (WV (a ++ b)).drop m = WV b := by
  subst h
  rw [wv_app, ← wv_len, List.drop_left]
def zW : Way := (0, 0, 0)
def WaysAt (w : World) (B m : Nat) (v : Value) (S : List Way) : Prop := (∃ cap, v = .slice (some ⟨m, 0, none⟩) S.length cap) ∧ w.ownsRow B 57 3 v S.length (WV S)
def RepR (B m n : Nat) (y : Way) (w : World) (q : Value) (wr : World) : Prop := ∃ k : Nat, 0 < k ∧ k ≤ n ∧ q = .int .i64 k ∧ wr.heap[m]? = some (.cells (WV (List.replicate k y ++ List.replicate (n - k) zW)).toArray 57 (0, 0)) ∧ Below B w wr
set_option maxRecDepth 100000 in
/-- what copy does to a row of ways -/
theorem copy_ways (W : World) (B g n k m o dLen dCap sLen sCap : Nat) (a : Addr) (y : Way) (ty : TypeId) (hg : W.heap[g]? = some (.cells (WV (List.replicate k y ++ List.replicate (n - k) zW)).toArray 57 (0, 0))) (hk : k ≤ n) (ho : o = k * 3) (hm : m = Nat.min sLen dLen) (hkm : k + m ≤ n)
    (hsrc : ∀ j v, (WV (List.replicate m y))[j]? = some v → W.cell? (a.add j) = some v) (hB : B ≤ g) :
    ∃ w', (Builtin.copy_ #[54, 54] ty #[.slice (some ⟨g, o, none⟩) dLen dCap, .slice (some a) sLen sCap]).run Tryz.prog W = .ok (.int .i64 (m : Int)) w' ∧ w'.heap[g]? = some (.cells (WV (List.replicate (k + m) y ++ List.replicate (n - (k + m)) zW)).toArray 57 (0, 0)) ∧ Below B W w' := by
  have hlm : (WV (List.replicate m y)).length = m * 3 := by rw [wv_len]; simp
  have hlen : (WV (List.replicate k y ++ List.replicate (n - k) zW)).length = n * 3 := by rw [wv_len]; simp; omega
  have h := run_copy_n (P := Tryz.prog) 3 W 54 54 ty 57 g o dLen dCap a sLen sCap _ 57 (WV (List.replicate m y)) Tryz.underlying54 (by kernel_rfl) hg (by rw [hlm, hm]) hsrc (by rw [hlm, ho]; simp only [List.size_toArray, hlen]; omega) (wv_one _)
  refine ⟨_, by rw [h, ← hm]; rfl, ?_, below_setRow (Below.refl _ _) hB _⟩
  rw [setRow_heap W g _ _ 57 _ hg]
  refine congrArg (fun l : List Value => some (Obj.cells l.toArray 57 (0, 0))) ?_
  have e1 : List.replicate (n - k) zW = List.replicate m zW ++ List.replicate (n - (k + m)) zW := by rw [List.replicate_append_replicate]; congr 1; omega
  rw [wv_take _ _ o (by simpa using ho), e1, ← List.append_assoc (List.replicate k y), wv_drop _ _ (o + (WV (List.replicate m y)).length) (by rw [hlm, ho]; simp; omega), ← wv_app, ← wv_app]
  congr 2
  rw [List.replicate_append_replicate]
set_option maxRecDepth 100000 in
set_option maxHeartbeats 2000000 in
theorem repeat_any (w : World) (so : Addr) (y : Way) (n : Nat) (hn : n ≤ 1000) (hs : so.block < w.heap.size) (hc : ∀ j v, (cW y)[j]? = some v → w.cell? (so.add j) = some v) :
    Calls Tryz.prog 63 #[.slice (some so) 1 1, .int .i64 n] w fun e w' => ∃ v, e = .returned v ∧ WaysAt w' w.heap.size w.heap.size v (List.replicate n y) ∧ Below w.heap.size w w' := by
  obtain ⟨i0, hi, hz0, hz1, hz2⟩ := info_parts info_way
  have hmul := mul_any w n (by omega)
  have hw1 : IntKind.u64.wrap (n : Int) = (n : Int) := by rw [IntKind.wrap_u64]; omega
  have hn0 : decide ((n : Int) < 0) = false := decide_eq_false (by omega)
  have hov : decide ((9223372036854775807 : Int) < (n : Int)) = false := decide_eq_false (by omega)
  have hsz : (Tryz.prog.info? 57).map (·.size) = some 3 := by kernel_rfl
  have HC := Lib.hid hc
  clear hc
  go_enter Tryz.func63, Tryz.ntmps63
  go_wp2_with fail
  refine hmul.mono ?_
  rintro e w' ⟨rfl, hw'⟩
  obtain rfl : w = w' := hw'.symm
  clear hw'
  by_cases h0 : n = 0
  · subst h0
    have hcp : ∀ (W : World) (ty : TypeId) (g : Nat), (Builtin.copy_ #[54, 54] ty #[.slice (some ⟨g, 0, none⟩) 0 0, .slice (some so) 1 1]).run Tryz.prog W = .ok (goInt 0) W := fun W ty g => by
      have hq := hi
      simp [Builtin.copy_, run_underlying Tryz.underlying54, Builtin.lenOf, Builtin.firstCells, sizeOf, typeInfo, hq, storeCells, loadCells, loadCellsFrom]
    go_wp2_with (first | (at_make; refine wpList_make_full _ rfl _ _ 54 rfl w.heap.size 57 i0 (.agg #[.int .i64 0, .int .i64 0, .int .i64 0]) 3 Tryz.underlying54 hi hz0 hz1 .i64 .i64 _ _ 0 rfl rfl rfl rfl (by rw [hz2]; omega) (by unfold maxLen; omega) (Nat.le_refl _) ?_; intro w1 hown1 hgrow1) | (refine wpl_copy_n _ rfl _ _ 54 54 rfl _ _ rfl rfl (hcp _ _ _) ?_))
    go_rounds 1
    go_ret
    exact ⟨_, rfl, ⟨⟨0, rfl⟩, by simpa [madeCells, WV] using hown1⟩, (Below.refl _ w).grown hgrow1 (Nat.le_refl _) (fun k e => by cases e)⟩
  · have hpos : 0 < n := by omega
    have hcp : ∀ w1 : World, w1.ownsRow w.heap.size 57 3 (.slice (some ⟨w.heap.size, 0, none⟩) n n) n (madeCells (Value.agg #[.int .i64 0, .int .i64 0, .int .i64 0]).cells (n * 3)).toList → w.grownBy w1 none → ∃ w', (Builtin.copy_ #[54, 54] 3 #[.slice (some ⟨w.heap.size, 0, none⟩) n n, .slice (some so) 1 1]).run Tryz.prog w1 = .ok (.int .i64 1) w' ∧ w'.heap[w.heap.size]? = some (.cells (WV (List.replicate 1 y ++ List.replicate (n - 1) zW)).toArray 57 (0, 0)) ∧ Below w.heap.size w w' := fun w1 hown hg => by
      rw [show (Value.agg #[Value.int .i64 0, .int .i64 0, .int .i64 0]).cells = #[.int .i64 0, .int .i64 0, .int .i64 0] from rfl, toList_made3 (.int .i64 0) (.int .i64 0) (.int .i64 0) zW rfl n] at hown
      have hb1 : Below w.heap.size w w1 := (Below.refl _ w).grown hg (Nat.le_refl _) (fun k e => by cases e)
      rcases hown.2 with ⟨h', _⟩ | ⟨g', cap', cur, h', _, hh, _, _, hcs, htk⟩
      · cases h'
      · cases h'
        have hcur : cur = (WV (List.replicate 0 y ++ List.replicate (n - 0) zW)).toArray := by
          apply Array.toList_inj.1
          rw [List.take_of_length_le (by rw [Array.length_toList, hcs]; exact Nat.le_refl _)] at htk
          simpa using htk
        rw [hcur] at hh
        obtain ⟨w', h1, h2, h3⟩ := copy_ways w1 w.heap.size w.heap.size n 0 1 0 n n 1 1 so y 3 hh (Nat.zero_le _) rfl (by show 1 = min 1 n; omega) (by omega) (fun j v hj => (hb1.cell (p := so.add j) (by rw [add_block]; exact hs)).trans (HC.out j v (by simpa [WV] using hj))) (Nat.le_refl _)
        exact ⟨w', h1, by simpa using h2, hb1.trans h3⟩
    have HCP := Lib.hid hcp
    clear hcp
    go_wp2_with (first | (at_make; refine wpList_make_full _ rfl _ _ 54 rfl w.heap.size 57 i0 (.agg #[.int .i64 0, .int .i64 0, .int .i64 0]) 3 Tryz.underlying54 hi hz0 hz1 .i64 .i64 _ _ n rfl rfl rfl rfl (by rw [hz2]; omega) (by unfold maxLen; omega) (Nat.le_refl _) ?_; intro w1 hown1 hgrow1; obtain ⟨w2, hr2, hh2, hb2⟩ := HCP.out w1 hown1 hgrow1; have HH2 := Lib.hid hh2; clear hh2 hown1 hgrow1))
    go_loopw [8] (fun q wr => RepR w.heap.size w.heap.size n y w q wr) (fun q _ => n - (intOf q).toNat)
    case atStart => exact ⟨1, by omega, by omega, rfl, HH2.out, hb2⟩
    case round =>
      obtain ⟨k, hk0, hkn, rfl, hh, hb⟩ := hrel
      have HH := Lib.hid hh
      clear hh
      by_cases hlt : k < n
      · have hne : (n = k) = False := by simp; omega
        have hne2 : (k = n) = False := by simp; omega
        have hi0 : (0 : Int) ≤ (k : Int) := by omega
        have hi1 : (k : Int) ≤ (n : Int) := by omega
        have hpre : ∀ j v, (WV (List.replicate (Nat.min k (n - k)) y))[j]? = some v → wr.drew.cell? ((⟨w.heap.size, 0, none⟩ : Addr).add j) = some v := fun j v hj => by
          have hl := (List.getElem?_eq_some_iff.1 hj).1
          have hle : Nat.min k (n - k) ≤ k := Nat.min_le_left _ _
          have e1 : List.replicate k y = List.replicate (Nat.min k (n - k)) y ++ List.replicate (k - Nat.min k (n - k)) y := by rw [List.replicate_append_replicate]; congr 1; omega
          have e2 : (⟨w.heap.size, 0, none⟩ : Addr).add j = ⟨w.heap.size, j, none⟩ := by unfold Addr.add; by_cases h : j = 0 <;> simp [h]
          rw [e2]
          refine (cell_of_row wr w.heap.size j _ 57 (0, 0) HH.out).trans ?_
          rw [e1, List.append_assoc, wv_app, List.getElem?_toArray, List.getElem?_append_left hl]
          exact hj
        obtain ⟨m, hm⟩ : ∃ m, m = Nat.min k (n - k) := ⟨_, rfl⟩
        have hm1 : 0 < m ∧ k + m ≤ n := by
          have : m = min k (n - k) := hm
          omega
        rw [← hm] at hpre
        obtain ⟨w3, hr3, hh3, hb3⟩ := copy_ways wr.drew w.heap.size w.heap.size n k m (k * 3) (n - k) (n - k) k n ⟨w.heap.size, 0, none⟩ y 3 HH.out (by omega) rfl hm hm1.2 hpre (Nat.le_refl _)
        have HH3 := Lib.hid hh3
        have hsum : IntKind.i64.wrap ((k : Int) + (m : Int)) = (k : Int) + (m : Int) := by rw [IntKind.wrap_i64]; omega
        have HB3 := Lib.hid (hb.drew.trans hb3)
        clear hpre hm hh3 hb3
        go_wp2
        go_region
        all_goals go_wp2
        exact ⟨⟨k + m, by omega, hm1.2, congrArg (Value.int .i64) (by omega), HH3.out, HB3.out⟩, by simp only [intOf]; omega⟩
      · obtain rfl : k = n := by omega
        have hcs : (WV (List.replicate k y)).length = k * 3 := by rw [wv_len]; simp
        have hh := HH.out
        rw [Nat.sub_self, List.replicate_zero, List.append_nil] at hh
        have HW : Hid (WaysAt wr w.heap.size w.heap.size (.slice (some ⟨w.heap.size, 0, none⟩) k k) (List.replicate k y)) := Lib.hid ⟨⟨k, by simp⟩, by
          rw [List.length_replicate]
          exact ⟨hcs, .inr ⟨w.heap.size, k, _, rfl, Nat.le_refl _, hh, Nat.le_refl _, by unfold maxLen; omega, by simpa using hcs, by rw [← hcs]; simp⟩⟩⟩
        clear hh hcs
        go_wp2
        go_ret
        exact ⟨_, rfl, HW.out, hb⟩
end Go.Proofs.YtomikgkoegkofaaGreatDoor.dv

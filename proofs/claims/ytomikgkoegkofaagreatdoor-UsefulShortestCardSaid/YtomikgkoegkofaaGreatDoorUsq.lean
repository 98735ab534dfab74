import Derived.Shelf.Bits.Mul64
import Derived.Test.YtomikgkoegkofaaGreatDoorUsp
namespace Go.Proofs
section
open Go.Shelf
def Tryz.lays212_ren : Go.Shelf.Ren := ⟨fun | 212 => 91 | 263 => 108 | 264 => 109 | n => n, fun | 46 => 117 | 51 => 133 | 146 => 134 | 53 => 126 | 148 => 136 | n => n, fun | n => n⟩
theorem Tryz.lays212 : Go.Proofs.Lays.n212 Tryz.prog Tryz.lays212_ren := {
  mixed := by kernel_rfl
  f212 := Tryz.func91.trans (congrArg some (by kernel_rfl))
  f263 := Tryz.func108.trans (congrArg some (by kernel_rfl))
  f264 := Tryz.func109.trans (congrArg some (by kernel_rfl))
  t46 := Tryz.underlying117
  a46 := Tryz.isAgg117
  z46 := Tryz.sizeOf117
  v46 := Tryz.zeroValue117
  t51 := Tryz.underlying133
  a51 := Tryz.isAgg133
  z51 := Tryz.sizeOf133
  v51 := Tryz.zeroValue133
  t53 := Tryz.underlying126
  a53 := Tryz.isAgg126
  z53 := Tryz.sizeOf126
  v53 := Tryz.zeroValue126
  t146 := Tryz.underlying134
  a146 := Tryz.isAgg134
  z146 := Tryz.sizeOf134
  v146 := Tryz.zeroValue134
  t148 := Tryz.underlying136
  a148 := Tryz.isAgg136
  z148 := Tryz.sizeOf136
  v148 := Tryz.zeroValue136 }
end
namespace YtomikgkoegkofaaGreatDoor.dv
open Go.ChangeShapes Go.WideShapes Go.ChangeAt Go.RowKit Go.Maps Go.WideMaps Go.WideElems Go.Shelf
set_option linter.unusedVariables false
set_option linter.unusedSimpArgs false
/-! ways in a row of one's own; slices.Repeat of one -/
def cW (x : Way) : List Value := [.int .i64 (x.1 : Int), .int .i64 (x.2.1 : Int), .int .i64 x.2.2]
def WV (S : List Way) : List Value := S.flatMap cW
theorem wv_cons (x : Way) (S : List Way) : WV (x :: S) = .int .i64 (x.1 : Int) :: .int .i64 (x.2.1 : Int) :: .int .i64 x.2.2 :: WV S := rfl
theorem wv_app (S T : List Way) : WV (S ++ T) = WV S ++ WV T := by unfold WV; rw [List.flatMap_append]
theorem wv_len : ∀ S : List Way, (WV S).length = S.length * 3
  | [] => rfl
  | x :: S => by rw [wv_cons]; simp only [List.length_cons, wv_len S]; omega
theorem wv_at : ∀ (S : List Way) (i : Nat), i < S.length → (WV S)[i * 3]? = some (.int .i64 ((S.getD i noW).1 : Int)) ∧ (WV S)[i * 3 + 1]? = some (.int .i64 ((S.getD i noW).2.1 : Int)) ∧ (WV S)[i * 3 + 2]? = some (.int .i64 (S.getD i noW).2.2)
  | x :: S, 0, _ => ⟨rfl, rfl, rfl⟩
  | x :: S, i + 1, h => by
    obtain ⟨h1, h2, h3⟩ := wv_at S i (by simpa using h)
    rw [wv_cons, show (i + 1) * 3 = i * 3 + 1 + 1 + 1 by omega]
    exact ⟨by simpa using h1, by rw [show i * 3 + 1 + 1 + 1 + 1 = (i * 3 + 1) + 1 + 1 + 1 by omega]; simpa using h2, by rw [show i * 3 + 1 + 1 + 1 + 2 = (i * 3 + 2) + 1 + 1 + 1 by omega]; simpa using h3⟩
theorem wv_set : ∀ (S : List Way) (i : Nat) (y : Way), i < S.length → (((WV S).set (i * 3) (.int .i64 (y.1 : Int))).set (i * 3 + 1) (.int .i64 (y.2.1 : Int))).set (i * 3 + 2) (.int .i64 y.2.2) = WV (S.set i y)
  | x :: S, 0, y, _ => rfl
  | x :: S, i + 1, y, h => by
    have h1 := wv_set S i y (by simpa using h)
    rw [List.set_cons_succ, wv_cons, wv_cons, ← h1, show (i + 1) * 3 = i * 3 + 1 + 1 + 1 by omega, show i * 3 + 1 + 1 + 1 + 1 = (i * 3 + 1) + 1 + 1 + 1 by omega, show i * 3 + 1 + 1 + 1 + 2 = (i * 3 + 2) + 1 + 1 + 1 by omega]
    simp only [List.set_cons_succ]
theorem wv_inj : ∀ (S T : List Way), WV S = WV T → S = T
  | [], [], _ => rfl
  | [], y :: T, h => by rw [wv_cons] at h; cases h
  | x :: S, [], h => by rw [wv_cons] at h; cases h
  | x :: S, y :: T, h => by
    rw [wv_cons, wv_cons] at h
    simp only [List.cons.injEq, Value.int.injEq, true_and] at h
    obtain ⟨h1, h2, h3, h4⟩ := h
    rw [wv_inj S T h4]
    obtain ⟨a, b, c⟩ := x
    obtain ⟨a', b', c'⟩ := y
    simp only at h1 h2 h3
    rw [show a = a' by omega, show b = b' by omega, h3]
theorem wv_one (S : List Way) : ∀ v ∈ WV S, v.oneCell' = true := fun v hv => by
  unfold WV at hv
  obtain ⟨x, _, hx⟩ := List.mem_flatMap.1 hv
  simp only [cW, List.mem_cons, List.not_mem_nil, or_false] at hx
  rcases hx with rfl | rfl | rfl <;> rfl
theorem mod3 (n : Nat) : (n * 3) % 3 = 0 ∧ (n * 3 + 1) % 3 = 1 ∧ (n * 3 + 2) % 3 = 2 := by omega
theorem toList_made3 (a b c : Value) (y : Way) (h : cW y = [a, b, c]) : ∀ n, (madeCells #[a, b, c] (n * 3)).toList = WV (List.replicate n y) := fun n => by
  have hlen : (WV (List.replicate n y)).length = n * 3 := by rw [wv_len]; simp
  apply List.ext_getElem (by simp [madeCells, hlen])
  intro i h1 h2
  have hi : i < n * 3 := by rw [hlen] at h2; exact h2
  have hq : i / 3 < n := by omega
  obtain ⟨g0, g1, g2⟩ := wv_at (List.replicate n y) (i / 3) (by simpa using hq)
  have hy : (List.replicate n y).getD (i / 3) noW = y := by rw [List.getD_eq_getElem?_getD, List.getElem?_replicate, if_pos hq]; rfl
  rw [hy] at g0 g1 g2
  simp only [cW, List.cons.injEq, and_true] at h
  obtain ⟨rfl, rfl, rfl⟩ := h
  have hc : i % 3 = 0 ∨ i % 3 = 1 ∨ i % 3 = 2 := by omega
  rw [List.getElem?_eq_some_iff] at g0 g1 g2
  obtain ⟨p0, g0⟩ := g0
  obtain ⟨p1, g1⟩ := g1
  obtain ⟨p2, g2⟩ := g2
  rcases hc with c | c | c
  · have e : i = i / 3 * 3 := by omega
    simp only [madeCells, Array.toList_ofFn, List.getElem_ofFn]
    simp [c]
    simp only [← e] at g0
    exact g0.symm
  · have e : i = i / 3 * 3 + 1 := by omega
    simp only [madeCells, Array.toList_ofFn, List.getElem_ofFn]
    simp [c]
    simp only [← e] at g1
    exact g1.symm
  · have e : i = i / 3 * 3 + 2 := by omega
    simp only [madeCells, Array.toList_ofFn, List.getElem_ofFn]
    simp [c]
    simp only [← e] at g2
    exact g2.symm
theorem run_copy_n {P : Program} (size : Nat) (w : World) (dT sT ty elem : TypeId) (g o dLen dCap : Nat) (a : Addr) (sLen sCap : Nat) (cur : Array Value) (t : TypeId) (cs : List Value)
    (hu : P.underlying dT = some (.slice elem)) (hs : (P.info? elem).map (·.size) = some size)
    (hg : w.heap[g]? = some (.cells cur t (0, 0))) (hn : cs.length = Nat.min sLen dLen * size)
    (hsrc : ∀ j v, cs[j]? = some v → w.cell? (a.add j) = some v) (hfit : o + cs.length ≤ cur.size) (h1 : ∀ v ∈ cs, v.oneCell' = true) :
    (Builtin.copy_ #[dT, sT] ty #[.slice (some ⟨g, o, none⟩) dLen dCap, .slice (some a) sLen sCap]).run P w =
      .ok (goInt (Nat.min sLen dLen)) (w.setRow g (cur.toList.take o ++ cs ++ cur.toList.drop (o + cs.length)).toArray) := by
  have hl := run_loadCells_list (P := P) w a cs hsrc
  have hst := run_storeCells_at P g o t cs 0 cur w hg (by simpa using hfit) h1
  cases hq : P.info? elem with
  | none => simp [hq] at hs
  | some i =>
    have hi : i.size = size := by simpa [hq] using hs
    simp [Builtin.copy_, run_underlying hu, Builtin.lenOf, Builtin.firstCells, sizeOf, typeInfo, hq, hi, ← hn, hl, hst]
end YtomikgkoegkofaaGreatDoor.dv
end Go.Proofs

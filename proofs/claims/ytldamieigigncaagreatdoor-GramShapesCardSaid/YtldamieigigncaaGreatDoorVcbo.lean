import Derived.Test.YtldamieigigncaaGreatDoorVcbk
import Derived.Test.YtldamieigigncaaGreatDoorVcbn
namespace Go.Proofs.YtldamieigigncaaGreatDoor.lx
open Go.ChangeShapes Go.WideShapes Go.ChangeAt Go.RowKit
set_option linter.unusedVariables false
open Go.Lib Go.Deep
theorem g7 : Tryz.prog.globalNamed "internal/strconv.uint64pow10" = some 2 := by kernel_rfl
theorem g11 : Tryz.prog.globalNamed "internal/strconv.pow10Tab" = some 6 := by kernel_rfl
theorem y7 : (Tryz.prog.globals[2]?).map (·.type) = some 267 := by kernel_rfl
theorem y11 : (Tryz.prog.globals[6]?).map (·.type) = some 285 := by kernel_rfl
theorem cu64 : Tryz.prog.cellsOf 87 = 1 := by kernel_rfl
theorem c135 : Tryz.prog.cellsOf 267 = 20 := by kernel_rfl
theorem c150 : Tryz.prog.cellsOf 284 = 2 := by kernel_rfl
def pows : List Int := [1, 10, 100, 1000, 10000, 100000, 1000000, 10000000, 100000000, 1000000000, 10000000000, 100000000000, 1000000000000, 10000000000000, 100000000000000, 1000000000000000, 10000000000000000, 100000000000000000, 1000000000000000000, 10000000000000000000]
theorem pows_at : ∀ i : Nat, i < 20 → pows[i]? = some ((10 ^ i : Nat) : Int) := by decide +kernel
theorem z7 : (Rows.laid_internal_strconv_uint64pow10 : DataW Unit) = tabData .u64 pows := by kernel_rfl
set_option maxRecDepth 100000 in
theorem v7 {W : World} (h : VarReads Tryz.prog W "internal/strconv.uint64pow10" Rows.laid_internal_strconv_uint64pow10) : ∀ i : Nat, i < 20 → W.cell? ⟨2, i, none⟩ = some (.int .u64 ((10 ^ i : Nat) : Int)) := by
  obtain ⟨g, t, cs, fuel, p, hg, ht, hv, hd⟩ := h
  obtain rfl := Option.some.inj (g7.symm.trans hg)
  obtain rfl := Option.some.inj (y7.symm.trans ht)
  have e := cells_of_tab (zs := pows) Tryz.underlying267 Tryz.underlying87 cu64 c135 (z7 ▸ hd)
  intro i hi
  have := World.var?_cell g7 hv i
  obtain ⟨l⟩ := cs
  simp only at e
  subst e
  rw [this]
  have hp := pows_at i hi
  simp [List.getElem?_map, hp]
theorem rows_len : Go.Pinned.pow10Rows.length = 696 := by decide +kernel
theorem rows_at (i : Nat) (h : i < 696) : Go.Pinned.pow10Rows[i]? = some (TT i) := by
  unfold TT
  rw [List.getD_eq_getElem?_getD, List.getElem?_eq_getElem (by rw [rows_len]; exact h)]
  rfl
set_option maxRecDepth 100000 in
theorem v11 {W : World} (h : VarReads Tryz.prog W "internal/strconv.pow10Tab" Rows.laid_internal_strconv_pow10Tab) : ∀ i : Nat, i < 696 → W.cell? ⟨6, i * 2, none⟩ = some (.int .u64 ((TT i).1 : Nat)) ∧ W.cell? ⟨6, i * 2 + 1, none⟩ = some (.int .u64 ((TT i).2 : Nat)) := by
  obtain ⟨g, t, cs, fuel, p, hg, ht, hv, hd⟩ := h
  obtain rfl := Option.some.inj (g11.symm.trans hg)
  obtain rfl := Option.some.inj (y11.symm.trans ht)
  obtain ⟨xs, m, _, hx, hl, hn, hel⟩ := DataW.trod_array Tryz.underlying285 hd
  have e2 := congrArg Prod.fst hx
  have e3 : xs.map (·.1) = Go.Pinned.pow10Rows.map fun x => (.agg [.lit (.int .u64 x.1), .lit (.int .u64 x.2)] : DataW Unit) := by
    have : (Go.Pinned.pow10Tab : DataW Unit) = .agg (xs.map (·.1)) := e2
    unfold Go.Pinned.pow10Tab at this
    exact (DataW.agg.inj this).symm
  intro i hi
  have e4 := congrArg (fun l => l[i]?) e3
  have e5 := rows_at i hi
  generalize TT i = X at *
  obtain ⟨X1, X2⟩ := X
  simp only [List.getElem?_map, e5, Option.map_some] at e4
  obtain ⟨x, hx1, hx2⟩ := Option.map_eq_some_iff.1 e4
  have hxl : i < xs.length := (List.getElem?_eq_some_iff.1 hx1).1
  have h364 := hel i (by omega)
  rw [hx1, c150] at h364
  obtain ⟨a0, a1, n, f1, f2, f3, f4⟩ := trod_struct2 Tryz.underlying284 h364
  rw [f1] at hx2
  simp only [DataW.agg.injEq, List.cons.injEq, and_true] at hx2
  obtain ⟨k0, p1, p2, _⟩ := DataW.trod_int Tryz.underlying87 (show DataW.trod _ Tryz.prog W 0 _ false n 87 _ = some a0 from f3)
  obtain ⟨k1, q1, q2, _⟩ := DataW.trod_int Tryz.underlying87 (show DataW.trod _ Tryz.prog W 0 _ false n 87 _ = some a1 from f4)
  rw [p2, q2] at hx2
  simp at hx2
  obtain ⟨rfl, rfl⟩ := hx2
  have t0 := World.var?_cell g11 hv (i * 2)
  have t1 := World.var?_cell g11 hv (i * 2 + 1)
  rw [cu64] at p1 q1
  have r0 := congrArg (fun l => l[0]?) p1
  have r1 := congrArg (fun l => l[0]?) q1
  simp [List.getElem?_drop] at r0 r1
  constructor
  · rw [t0]; simpa using r0
  · rw [t1]; simpa using r1
theorem pv_of {W : World} (h5 : VarReads Tryz.prog W "internal/strconv.optimize" Rows.laid_internal_strconv_optimize) (h6 : VarReads Tryz.prog W "internal/strconv.float64info" Rows.laid_internal_strconv_float64info) (h9 : VarReads Tryz.prog W "internal/strconv.float64pow10" Rows.laid_internal_strconv_float64pow10) (h7 : VarReads Tryz.prog W "internal/strconv.uint64pow10" Rows.laid_internal_strconv_uint64pow10) (h11 : VarReads Tryz.prog W "internal/strconv.pow10Tab" Rows.laid_internal_strconv_pow10Tab) : ∃ b off, Pv W b off := by
  obtain ⟨b, off, h⟩ := vs_of h5 h6 h9
  exact ⟨b, off, h, v7 h7, v11 h11⟩
end Go.Proofs.YtldamieigigncaaGreatDoor.lx


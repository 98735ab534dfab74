import Derived.Test.YtoogdidgcclmnaaGreatDoorAlive
import Derived.Test.YtoogdidgcclmnaaGreatDoorCards
import Derived.Test.YtoogdidgcclmnaaGreatDoorTie
import Derived.Lib.LaidU8
import Derived.Deep.Strs
import Derived.Deep.Slices
import Derived.Lay
namespace Go.Proofs.YtoogdidgcclmnaaGreatDoor.alv
open Go.ChangeShapes Go.WideShapes Go.ChangeAt Go.RowKit
set_option linter.unusedVariables false
open Go.Lib Go.Deep
theorem g3 : Tryz.prog.globalNamed "internal/strconv.optimize" = some 3 := by kernel_rfl
theorem g6 : Tryz.prog.globalNamed "internal/strconv.float64info" = some 6 := by kernel_rfl
theorem g7 : Tryz.prog.globalNamed "internal/strconv.uint64pow10" = some 7 := by kernel_rfl
theorem g10 : Tryz.prog.globalNamed "internal/strconv.float64pow10" = some 10 := by kernel_rfl
theorem g11 : Tryz.prog.globalNamed "internal/strconv.pow10Tab" = some 11 := by kernel_rfl
theorem y3 : (Tryz.prog.globals[3]?).map (·.type) = some 4 := by kernel_rfl
theorem y6 : (Tryz.prog.globals[6]?).map (·.type) = some 106 := by kernel_rfl
theorem y7 : (Tryz.prog.globals[7]?).map (·.type) = some 135 := by kernel_rfl
theorem y10 : (Tryz.prog.globals[10]?).map (·.type) = some 32 := by kernel_rfl
theorem y11 : (Tryz.prog.globals[11]?).map (·.type) = some 151 := by kernel_rfl
theorem v3 {W : World} (h : VarReads Tryz.prog W "internal/strconv.optimize" Rows.laid_internal_strconv_optimize) : W.cell? ⟨3, 0, none⟩ = some (.bool true) := by
  obtain ⟨g, t, cs, fuel, p, hg, ht, hv, hd⟩ := h
  obtain rfl := Option.some.inj (g3.symm.trans hg)
  obtain rfl := Option.some.inj (y3.symm.trans ht)
  obtain ⟨b, e1, e2⟩ := DataW.trod_bool Tryz.underlying4 hd
  have hb : b = true := by
    have := congrArg Prod.fst e2
    simpa [Rows.laid_internal_strconv_optimize] using this.symm
  subst hb
  have := World.var?_cell g3 hv 0
  rw [Array.eq_one_of_toList e1] at this
  simpa using this
theorem c52 : Tryz.prog.cellsOf 52 = 1 := by kernel_rfl
theorem c22 : Tryz.prog.cellsOf 22 = 1 := by kernel_rfl
theorem c24 : Tryz.prog.cellsOf 24 = 1 := by kernel_rfl
theorem c135 : Tryz.prog.cellsOf 135 = 20 := by kernel_rfl
theorem c150 : Tryz.prog.cellsOf 150 = 2 := by kernel_rfl
theorem v6 {W : World} (h : VarReads Tryz.prog W "internal/strconv.float64info" Rows.laid_internal_strconv_float64info) : W.cell? ⟨6, 0, none⟩ = some (.int .u64 52) := by
  obtain ⟨g, t, cs, fuel, p, hg, ht, hv, hd⟩ := h
  obtain rfl := Option.some.inj (g6.symm.trans hg)
  obtain rfl := Option.some.inj (y6.symm.trans ht)
  obtain ⟨a0, a1, a2, n, e1, e2, e3, e4, e5⟩ := trod_struct3 Tryz.underlying106 hd
  have e1' := congrArg Prod.fst e1
  simp only [Rows.laid_internal_strconv_float64info, DataW.agg.injEq, List.cons.injEq, and_true] at e1'
  obtain ⟨k, f1, f2, _⟩ := DataW.trod_int Tryz.underlying52 (show DataW.trod _ Tryz.prog W 0 _ false n 52 _ = some a0 from e3)
  have hk : k = 52 := by
    rw [f2] at e1'
    simpa using e1'.1.symm
  subst hk
  have := World.var?_cell g6 hv 0
  rw [c52] at f1
  have r0 := congrArg (fun l => l[0]?) f1
  simp at r0
  rw [this]; simpa using r0
theorem z7 : (Rows.laid_internal_strconv_uint64pow10 : DataW Unit) = tabData .u64 [1, 10, 100, 1000, 10000, 100000, 1000000, 10000000, 100000000, 1000000000, 10000000000, 100000000000, 1000000000000, 10000000000000, 100000000000000, 1000000000000000, 10000000000000000, 100000000000000000, 1000000000000000000, 10000000000000000000] := by kernel_rfl
set_option maxRecDepth 100000 in
theorem v7 {W : World} (h : VarReads Tryz.prog W "internal/strconv.uint64pow10" Rows.laid_internal_strconv_uint64pow10) : W.cell? ⟨7, 15, none⟩ = some (.int .u64 1000000000000000) := by
  obtain ⟨g, t, cs, fuel, p, hg, ht, hv, hd⟩ := h
  obtain rfl := Option.some.inj (g7.symm.trans hg)
  obtain rfl := Option.some.inj (y7.symm.trans ht)
  have e := cells_of_tab (zs := [1, 10, 100, 1000, 10000, 100000, 1000000, 10000000, 100000000, 1000000000, 10000000000, 100000000000, 1000000000000, 10000000000000, 100000000000000, 1000000000000000, 10000000000000000, 100000000000000000, 1000000000000000000, 10000000000000000000]) Tryz.underlying135 Tryz.underlying22 c22 c135 (z7 ▸ hd)
  have := World.var?_cell g7 hv 15
  obtain ⟨l⟩ := cs
  simp only at e
  subst e
  simpa using this
theorem trod_float1 {P : Program} {W : World} {t : TypeId} {k : FloatKind} {n : Nat} {v : Value} {b : Nat} {p : List MemPlace} (ht : P.underlying t = some (.float k)) (h : DataW.trod (fun _ => ()) P W 0 (fun _ => true) false n t [v] = some (.lit (.float k b), p)) : v = .float k b := by
  cases n with
  | zero => simp [DataW.trod] at h
  | succ n =>
    simp only [DataW.trod, ht] at h
    cases v <;> simp at h
    simp_all
set_option maxRecDepth 100000 in
theorem v10 {W : World} (h : VarReads Tryz.prog W "internal/strconv.float64pow10" Rows.laid_internal_strconv_float64pow10) : ∃ b off, W.cell? ⟨10, 0, none⟩ = some (.slice (some ⟨b, off, none⟩) 23 23) ∧ W.cell? ⟨b, off + 3, none⟩ = some (.float .f64 4652007308841189376) := by
  obtain ⟨g, t, cs, fuel, p, hg, ht, hv, hd⟩ := h
  obtain rfl := Option.some.inj (g10.symm.trans hg)
  obtain rfl := Option.some.inj (y10.symm.trans ht)
  rcases open_slice1 Tryz.underlying32 c24 hd with ⟨_, hx⟩ | ⟨a, len, cap, m, n, V, D, Pl, e1, _, hl, _, hm, hx, hc⟩
  · simp [Rows.laid_internal_strconv_float64pow10] at hx
  · have hm' : m = cap := by simpa using hm
    subst hm'
    have e2 := congrArg Prod.fst hx
    simp only [Rows.laid_internal_strconv_float64pow10, DataW.slice.injEq] at e2
    have l1 := congrArg List.length e2.1
    have l2 := congrArg List.length e2.2
    simp at l1 l2
    obtain rfl : len = 23 := by omega
    obtain rfl : m = 23 := by omega
    obtain ⟨b, off, spot⟩ := a
    have hspot : spot = none := by simpa [Addr.add] using World.cell?_spot (hc 0 (by omega)).1
    subst hspot
    obtain ⟨h1, h2⟩ := hc 3 (by omega)
    have e3 := congrArg (fun l => l[3]?) e2.1
    simp at e3
    rw [← e3] at h2
    have hV : V 3 = .float .f64 4652007308841189376 := by
      exact trod_float1 Tryz.underlying24 h2
    rw [hV] at h1
    refine ⟨b, off, ?_, by simpa [Go.WideShapes.add_plain] using h1⟩
    have := World.var?_cell g10 hv 0
    rw [Array.eq_one_of_toList e1] at this
    simpa using this
set_option maxRecDepth 100000 in
theorem v11 {W : World} (h : VarReads Tryz.prog W "internal/strconv.pow10Tab" Rows.laid_internal_strconv_pow10Tab) : W.cell? ⟨11, 728, none⟩ = some (.int .u64 10240000000000000000) ∧ W.cell? ⟨11, 729, none⟩ = some (.int .u64 0) := by
  obtain ⟨g, t, cs, fuel, p, hg, ht, hv, hd⟩ := h
  obtain rfl := Option.some.inj (g11.symm.trans hg)
  obtain rfl := Option.some.inj (y11.symm.trans ht)
  obtain ⟨xs, m, _, hx, hl, hn, hel⟩ := DataW.trod_array Tryz.underlying151 hd
  have e2 := congrArg Prod.fst hx
  have e3 : xs.map (·.1) = Go.Pinned.pow10Rows.map fun x => (.agg [.lit (.int .u64 x.1), .lit (.int .u64 x.2)] : DataW Unit) := by
    have : (Go.Pinned.pow10Tab : DataW Unit) = .agg (xs.map (·.1)) := e2
    unfold Go.Pinned.pow10Tab at this
    exact (DataW.agg.inj this).symm
  have e4 := congrArg (fun l => l[364]?) e3
  have e5 : Go.Pinned.pow10Rows[364]? = some (10240000000000000000, 0) := by kernel_rfl
  simp only [List.getElem?_map, e5, Option.map_some] at e4
  obtain ⟨x, hx1, hx2⟩ := Option.map_eq_some_iff.1 e4
  have h364 := hel 364 (by omega)
  rw [hx1, c150] at h364
  obtain ⟨a0, a1, n, f1, f2, f3, f4⟩ := trod_struct2 Tryz.underlying150 h364
  rw [f1] at hx2
  simp only [DataW.agg.injEq, List.cons.injEq, and_true] at hx2
  obtain ⟨k0, p1, p2, _⟩ := DataW.trod_int Tryz.underlying22 (show DataW.trod _ Tryz.prog W 0 _ false n 22 _ = some a0 from f3)
  obtain ⟨k1, q1, q2, _⟩ := DataW.trod_int Tryz.underlying22 (show DataW.trod _ Tryz.prog W 0 _ false n 22 _ = some a1 from f4)
  rw [p2, q2] at hx2
  simp at hx2
  obtain ⟨rfl, rfl⟩ := hx2
  have t0 := World.var?_cell g11 hv 728
  have t1 := World.var?_cell g11 hv 729
  rw [c22] at p1 q1
  have r0 := congrArg (fun l => l[0]?) p1
  have r1 := congrArg (fun l => l[0]?) q1
  simp [List.getElem?_drop] at r0 r1
  constructor
  · rw [t0]; simpa using r0
  · rw [t1]; simpa using r1
theorem vars_of {W : World} (h : laidMet Tryz.prog Rows.edgeOrdersRow.laid W) : ∃ b off, Vars W b off := by
  obtain ⟨b, off, h10, h10'⟩ := v10 (laidMet.reads h (by simp [Rows.edgeOrdersRow]))
  obtain ⟨h11, h11b⟩ := v11 (laidMet.reads h (by simp [Rows.edgeOrdersRow]))
  exact ⟨b, off, v3 (laidMet.reads h (by simp [Rows.edgeOrdersRow])), v6 (laidMet.reads h (by simp [Rows.edgeOrdersRow])), v7 (laidMet.reads h (by simp [Rows.edgeOrdersRow])), h10, h10', h11, h11b⟩
end Go.Proofs.YtoogdidgcclmnaaGreatDoor.alv

import Derived.Test.YtkhflfkedpkelaaGreatDoorLxd
import Derived.Test.YtkhflfkedpkelaaGreatDoorCards
import Derived.Test.YtkhflfkedpkelaaGreatDoorTie
import Derived.Lib.LaidU8
import Derived.Deep.Strs
import Derived.Deep.Slices
import Derived.Lay
namespace Go.Proofs.YtkhflfkedpkelaaGreatDoor.lx
open Go.ChangeShapes Go.WideShapes Go.ChangeAt Go.RowKit
set_option linter.unusedVariables false
open Go.Lib Go.Deep
theorem g5 : Tryz.prog.globalNamed "internal/strconv.optimize" = some 3 := by kernel_rfl
theorem g6 : Tryz.prog.globalNamed "internal/strconv.float64info" = some 6 := by kernel_rfl
theorem g9 : Tryz.prog.globalNamed "internal/strconv.float64pow10" = some 10 := by kernel_rfl
theorem y5 : (Tryz.prog.globals[3]?).map (·.type) = some 4 := by kernel_rfl
theorem y6 : (Tryz.prog.globals[6]?).map (·.type) = some 102 := by kernel_rfl
theorem y9 : (Tryz.prog.globals[10]?).map (·.type) = some 34 := by kernel_rfl
theorem v5 {W : World} (h : VarReads Tryz.prog W "internal/strconv.optimize" Rows.laid_internal_strconv_optimize) : W.cell? ⟨3, 0, none⟩ = some (.bool true) := by
  obtain ⟨g, t, cs, fuel, p, hg, ht, hv, hd⟩ := h
  obtain rfl := Option.some.inj (g5.symm.trans hg)
  obtain rfl := Option.some.inj (y5.symm.trans ht)
  obtain ⟨b, e1, e2⟩ := DataW.trod_bool Tryz.underlying4 hd
  have hb : b = true := by
    have := congrArg Prod.fst e2
    simpa [Rows.laid_internal_strconv_optimize] using this.symm
  subst hb
  have := World.var?_cell g5 hv 0
  rw [Array.eq_one_of_toList e1] at this
  simpa using this
theorem cu : Tryz.prog.cellsOf 60 = 1 := by kernel_rfl
theorem cf : Tryz.prog.cellsOf 23 = 1 := by kernel_rfl
theorem v6 {W : World} (h : VarReads Tryz.prog W "internal/strconv.float64info" Rows.laid_internal_strconv_float64info) : W.cell? ⟨6, 0, none⟩ = some (.int .u64 52) := by
  obtain ⟨g, t, cs, fuel, p, hg, ht, hv, hd⟩ := h
  obtain rfl := Option.some.inj (g6.symm.trans hg)
  obtain rfl := Option.some.inj (y6.symm.trans ht)
  obtain ⟨a0, a1, a2, n, e1, e2, e3, e4, e5⟩ := trod_struct3 Tryz.underlying102 hd
  have e1' := congrArg Prod.fst e1
  simp only [Rows.laid_internal_strconv_float64info, DataW.agg.injEq, List.cons.injEq, and_true] at e1'
  obtain ⟨k, f1, f2, _⟩ := DataW.trod_int Tryz.underlying60 (show DataW.trod _ Tryz.prog W 0 _ false n 60 _ = some a0 from e3)
  have hk : k = 52 := by
    rw [f2] at e1'
    simpa using e1'.1.symm
  subst hk
  have := World.var?_cell g6 hv 0
  rw [cu] at f1
  have r0 := congrArg (fun l => l[0]?) f1
  simp at r0
  rw [this]; simpa using r0
theorem trod_float1 {P : Program} {W : World} {t : TypeId} {k : FloatKind} {n : Nat} {v : Value} {b : Nat} {p : List MemPlace} (ht : P.underlying t = some (.float k)) (h : DataW.trod (fun _ => ()) P W 0 (fun _ => true) false n t [v] = some (.lit (.float k b), p)) : v = .float k b := by
  cases n with
  | zero => simp [DataW.trod] at h
  | succ n =>
    simp only [DataW.trod, ht] at h
    cases v <;> simp at h
    simp_all
theorem pw : ∀ k, k ≤ 6 → [4607182418800017408, 4621819117588971520, 4636737291354636288, 4652007308841189376, 4666723172467343360, 4681608360884174848, 4696837146684686336].getD k 0 = Ieee.double.nearest false (10 ^ k) 0 := by decide +kernel
set_option maxRecDepth 100000 in
theorem v9 {W : World} (h : VarReads Tryz.prog W "internal/strconv.float64pow10" Rows.laid_internal_strconv_float64pow10) : ∃ b off, W.cell? ⟨10, 0, none⟩ = some (.slice (some ⟨b, off, none⟩) 23 23) ∧ ∀ k, k ≤ 6 → W.cell? ⟨b, off + k, none⟩ = some (.float .f64 (Ieee.double.nearest false (10 ^ k) 0)) := by
  obtain ⟨g, t, cs, fuel, p, hg, ht, hv, hd⟩ := h
  obtain rfl := Option.some.inj (g9.symm.trans hg)
  obtain rfl := Option.some.inj (y9.symm.trans ht)
  rcases open_slice1 Tryz.underlying34 cf hd with ⟨_, hx⟩ | ⟨a, len, cap, m, n, V, D, Pl, e1, _, hl, _, hm, hx, hc⟩
  · simp [Rows.laid_internal_strconv_float64pow10] at hx
  · have hm' : m = cap := by simpa using hm
    subst hm'
    have e2 := congrArg Prod.fst hx
    simp only [Rows.laid_internal_strconv_float64pow10, DataW.slice.injEq] at e2
    have l1 := congrArg List.length e2.1
    have l2 := congrArg List.length e2.2
    simp at l1 l2
    obtain rfl : len = 23 := by omega
    obtain rfl : m = 23 := by omega
    obtain ⟨b, off, spot⟩ := a
    have hspot : spot = none := by simpa [Addr.add] using World.cell?_spot (hc 0 (by omega)).1
    subst hspot
    refine ⟨b, off, ?_, fun k hk => ?_⟩
    · have := World.var?_cell g9 hv 0
      rw [Array.eq_one_of_toList e1] at this
      simpa using this
    · rw [← pw k hk]
      have hk2 : k = 0 ∨ k = 1 ∨ k = 2 ∨ k = 3 ∨ k = 4 ∨ k = 5 ∨ k = 6 := by omega
      rcases hk2 with rfl | rfl | rfl | rfl | rfl | rfl | rfl
      all_goals
        clear hk
      · obtain ⟨h1, h2⟩ := hc 0 (by omega)
        have e3 := congrArg (fun l => l[0]?) e2.1
        simp at e3
        rw [← e3] at h2
        rw [trod_float1 Tryz.underlying23 h2] at h1
        simpa [Go.WideShapes.add_plain] using h1
      · obtain ⟨h1, h2⟩ := hc 1 (by omega)
        have e3 := congrArg (fun l => l[1]?) e2.1
        simp at e3
        rw [← e3] at h2
        rw [trod_float1 Tryz.underlying23 h2] at h1
        simpa [Go.WideShapes.add_plain] using h1
      · obtain ⟨h1, h2⟩ := hc 2 (by omega)
        have e3 := congrArg (fun l => l[2]?) e2.1
        simp at e3
        rw [← e3] at h2
        rw [trod_float1 Tryz.underlying23 h2] at h1
        simpa [Go.WideShapes.add_plain] using h1
      · obtain ⟨h1, h2⟩ := hc 3 (by omega)
        have e3 := congrArg (fun l => l[3]?) e2.1
        simp at e3
        rw [← e3] at h2
        rw [trod_float1 Tryz.underlying23 h2] at h1
        simpa [Go.WideShapes.add_plain] using h1
      · obtain ⟨h1, h2⟩ := hc 4 (by omega)
        have e3 := congrArg (fun l => l[4]?) e2.1
        simp at e3
        rw [← e3] at h2
        rw [trod_float1 Tryz.underlying23 h2] at h1
        simpa [Go.WideShapes.add_plain] using h1
      · obtain ⟨h1, h2⟩ := hc 5 (by omega)
        have e3 := congrArg (fun l => l[5]?) e2.1
        simp at e3
        rw [← e3] at h2
        rw [trod_float1 Tryz.underlying23 h2] at h1
        simpa [Go.WideShapes.add_plain] using h1
      · obtain ⟨h1, h2⟩ := hc 6 (by omega)
        have e3 := congrArg (fun l => l[6]?) e2.1
        simp at e3
        rw [← e3] at h2
        rw [trod_float1 Tryz.underlying23 h2] at h1
        simpa [Go.WideShapes.add_plain] using h1
theorem vs_of {W : World} (h5 : VarReads Tryz.prog W "internal/strconv.optimize" Rows.laid_internal_strconv_optimize) (h6 : VarReads Tryz.prog W "internal/strconv.float64info" Rows.laid_internal_strconv_float64info) (h9 : VarReads Tryz.prog W "internal/strconv.float64pow10" Rows.laid_internal_strconv_float64pow10) : ∃ b off, Vs W b off := by
  obtain ⟨b, off, h1, h2⟩ := v9 h9
  exact ⟨b, off, v5 h5, v6 h6, h1, h2⟩
end Go.Proofs.YtkhflfkedpkelaaGreatDoor.lx

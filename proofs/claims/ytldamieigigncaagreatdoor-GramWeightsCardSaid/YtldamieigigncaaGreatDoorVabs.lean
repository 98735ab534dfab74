import Derived.Test.YtldamieigigncaaGreatDoorVaac
import Derived.Test.YtldamieigigncaaGreatDoorCards
import Derived.Test.YtldamieigigncaaGreatDoorTie
import Derived.Lib.LaidU8
import Derived.Deep.Strs
import Derived.Deep.Slices
import Derived.Lay
import Derived.Test.YtldamieigigncaaGreatDoorVabp
namespace Go.Proofs.YtldamieigigncaaGreatDoor.lx
open Go.ChangeShapes Go.WideShapes Go.ChangeAt Go.RowKit
set_option linter.unusedVariables false
open Go.Lib Go.Deep
theorem g5 : Tryz.prog.globalNamed "internal/strconv.optimize" = some 1 := by kernel_rfl
theorem g6 : Tryz.prog.globalNamed "internal/strconv.float64info" = some 9 := by kernel_rfl
theorem g9 : Tryz.prog.globalNamed "internal/strconv.float64pow10" = some 12 := by kernel_rfl
theorem y5 : (Tryz.prog.globals[1]?).map (·.type) = some 4 := by kernel_rfl
theorem y6 : (Tryz.prog.globals[9]?).map (·.type) = some 301 := by kernel_rfl
theorem y9 : (Tryz.prog.globals[12]?).map (·.type) = some 320 := by kernel_rfl
theorem v5 {W : World} (h : VarReads Tryz.prog W "internal/strconv.optimize" Rows.laid_internal_strconv_optimize) : W.cell? ⟨1, 0, none⟩ = some (.bool true) := by
  obtain ⟨g, t, cs, fuel, p, hg, ht, hv, hd⟩ := h
  obtain rfl := Option.some.inj (g5.symm.trans hg)
  obtain rfl := Option.some.inj (y5.symm.trans ht)
  obtain ⟨b, e1, e2⟩ := DataW.trod_bool Tryz.underlying4 hd
  have hb : b = true := by
    have := congrArg Prod.fst e2
    simpa [Rows.laid_internal_strconv_optimize] using this.symm
  subst hb
  have := World.var?_cell g5 hv 0
  rw [Array.eq_one_of_toList e1] at this
  simpa using this
theorem cu : Tryz.prog.cellsOf 147 = 1 := by kernel_rfl
theorem cf : Tryz.prog.cellsOf 36 = 1 := by kernel_rfl
theorem v6 {W : World} (h : VarReads Tryz.prog W "internal/strconv.float64info" Rows.laid_internal_strconv_float64info) : W.cell? ⟨9, 0, none⟩ = some (.int .u64 52) := by
  obtain ⟨g, t, cs, fuel, p, hg, ht, hv, hd⟩ := h
  obtain rfl := Option.some.inj (g6.symm.trans hg)
  obtain rfl := Option.some.inj (y6.symm.trans ht)
  obtain ⟨a0, a1, a2, n, e1, e2, e3, e4, e5⟩ := trod_struct3 Tryz.underlying301 hd
  have e1' := congrArg Prod.fst e1
  simp only [Rows.laid_internal_strconv_float64info, DataW.agg.injEq, List.cons.injEq, and_true] at e1'
  obtain ⟨k, f1, f2, _⟩ := DataW.trod_int Tryz.underlying147 (show DataW.trod _ Tryz.prog W 0 _ false n 147 _ = some a0 from e3)
  have hk : k = 52 := by
    rw [f2] at e1'
    simpa using e1'.1.symm
  subst hk
  have := World.var?_cell g6 hv 0
  rw [cu] at f1
  have r0 := congrArg (fun l => l[0]?) f1
  simp at r0
  rw [this]; simpa using r0
theorem trod_float1 {P : Program} {W : World} {t : TypeId} {k : FloatKind} {n : Nat} {v : Value} {b : Nat} {p : List MemPlace} (ht : P.underlying t = some (.float k)) (h : DataW.trod (fun _ => ()) P W 0 (fun _ => true) false n t [v] = some (.lit (.float k b), p)) : v = .float k b := by
  cases n with
  | zero => simp [DataW.trod] at h
  | succ n =>
    simp only [DataW.trod, ht] at h
    cases v <;> simp at h
    simp_all
theorem pw : ∀ k, k ≤ 6 → [4607182418800017408, 4621819117588971520, 4636737291354636288, 4652007308841189376, 4666723172467343360, 4681608360884174848, 4696837146684686336].getD k 0 = Ieee.double.nearest false (10 ^ k) 0 := by decide +kernel
set_option maxRecDepth 100000 in
theorem v9 {W : World} (h : VarReads Tryz.prog W "internal/strconv.float64pow10" Rows.laid_internal_strconv_float64pow10) : ∃ b off, W.cell? ⟨12, 0, none⟩ = some (.slice (some ⟨b, off, none⟩) 23 23) ∧ ∀ k, k ≤ 6 → W.cell? ⟨b, off + k, none⟩ = some (.float .f64 (Ieee.double.nearest false (10 ^ k) 0)) := by
  obtain ⟨g, t, cs, fuel, p, hg, ht, hv, hd⟩ := h
  obtain rfl := Option.some.inj (g9.symm.trans hg)
  obtain rfl := Option.some.inj (y9.symm.trans ht)
  rcases open_slice1 Tryz.underlying320 cf hd with ⟨_, hx⟩ | ⟨a, len, cap, m, n, V, D, Pl, e1, _, hl, _, hm, hx, hc⟩
  · simp [Rows.laid_internal_strconv_float64pow10] at hx
  · have hm' : m = cap := by simpa using hm
    subst hm'
    have e2 := congrArg Prod.fst hx
    simp only [Rows.laid_internal_strconv_float64pow10, DataW.slice.injEq] at e2
    have l1 := congrArg List.length e2.1
    have l2 := congrArg List.length e2.2
    simp at l1 l2
    obtain rfl : len = 23 := by omega
    obtain rfl : m = 23 := by omega
    obtain ⟨b, off, spot⟩ := a
    have hspot : spot = none := by simpa [Addr.add] using World.cell?_spot (hc 0 (by omega)).1
    subst hspot
    refine ⟨b, off, ?_, fun k hk => ?_⟩
    · have := World.var?_cell g9 hv 0
      rw [Array.eq_one_of_toList e1] at this
      simpa using this
    · rw [← pw k hk]
      have hk2 : k = 0 ∨ k = 1 ∨ k = 2 ∨ k = 3 ∨ k = 4 ∨ k = 5 ∨ k = 6 := by omega
      rcases hk2 with rfl | rfl | rfl | rfl | rfl | rfl | rfl
      all_goals
        clear hk
      · obtain ⟨h1, h2⟩ := hc 0 (by omega)
        have e3 := congrArg (fun l => l[0]?) e2.1
        simp at e3
        rw [← e3] at h2
        rw [trod_float1 Tryz.underlying36 h2] at h1
        simpa [Go.WideShapes.add_plain] using h1
      · obtain ⟨h1, h2⟩ := hc 1 (by omega)
        have e3 := congrArg (fun l => l[1]?) e2.1
        simp at e3
        rw [← e3] at h2
        rw [trod_float1 Tryz.underlying36 h2] at h1
        simpa [Go.WideShapes.add_plain] using h1
      · obtain ⟨h1, h2⟩ := hc 2 (by omega)
        have e3 := congrArg (fun l => l[2]?) e2.1
        simp at e3
        rw [← e3] at h2
        rw [trod_float1 Tryz.underlying36 h2] at h1
        simpa [Go.WideShapes.add_plain] using h1
      · obtain ⟨h1, h2⟩ := hc 3 (by omega)
        have e3 := congrArg (fun l => l[3]?) e2.1
        simp at e3
        rw [← e3] at h2
        rw [trod_float1 Tryz.underlying36 h2] at h1
        simpa [Go.WideShapes.add_plain] using h1
      · obtain ⟨h1, h2⟩ := hc 4 (by omega)
        have e3 := congrArg (fun l => l[4]?) e2.1
        simp at e3
        rw [← e3] at h2
        rw [trod_float1 Tryz.underlying36 h2] at h1
        simpa [Go.WideShapes.add_plain] using h1
      · obtain ⟨h1, h2⟩ := hc 5 (by omega)
        have e3 := congrArg (fun l => l[5]?) e2.1
        simp at e3
        rw [← e3] at h2
        rw [trod_float1 Tryz.underlying36 h2] at h1
        simpa [Go.WideShapes.add_plain] using h1
      · obtain ⟨h1, h2⟩ := hc 6 (by omega)
        have e3 := congrArg (fun l => l[6]?) e2.1
        simp at e3
        rw [← e3] at h2
        rw [trod_float1 Tryz.underlying36 h2] at h1
        simpa [Go.WideShapes.add_plain] using h1
theorem vs_of {W : World} (h5 : VarReads Tryz.prog W "internal/strconv.optimize" Rows.laid_internal_strconv_optimize) (h6 : VarReads Tryz.prog W "internal/strconv.float64info" Rows.laid_internal_strconv_float64info) (h9 : VarReads Tryz.prog W "internal/strconv.float64pow10" Rows.laid_internal_strconv_float64pow10) : ∃ b off, Vs W b off := by
  obtain ⟨b, off, h1, h2⟩ := v9 h9
  exact ⟨b, off, v5 h5, v6 h6, h1, h2⟩
end Go.Proofs.YtldamieigigncaaGreatDoor.lx
namespace Go.Proofs.YtldamieigigncaaGreatDoor.lx
open Go.ChangeShapes Go.WideShapes Go.ChangeAt Go.RowKit
set_option linter.unusedVariables false
open Go.Lib Go.Deep
/-! the tables of printing, as the program's text lays them -/
theorem g7 : Tryz.prog.globalNamed "internal/strconv.uint64pow10" = some 2 := by kernel_rfl
theorem g11 : Tryz.prog.globalNamed "internal/strconv.pow10Tab" = some 6 := by kernel_rfl
theorem y7 : (Tryz.prog.globals[2]?).map (·.type) = some 267 := by kernel_rfl
theorem y11 : (Tryz.prog.globals[6]?).map (·.type) = some 285 := by kernel_rfl
theorem cu64 : Tryz.prog.cellsOf 87 = 1 := by kernel_rfl
theorem c135 : Tryz.prog.cellsOf 267 = 20 := by kernel_rfl
theorem c150 : Tryz.prog.cellsOf 284 = 2 := by kernel_rfl
def pows : List Int := [1, 10, 100, 1000, 10000, 100000, 1000000, 10000000, 100000000, 1000000000, 10000000000, 100000000000, 1000000000000, 10000000000000, 100000000000000, 1000000000000000, 10000000000000000, 100000000000000000, 1000000000000000000, 10000000000000000000]
theorem pows_at : ∀ i : Nat, i < 20 → pows[i]? = some ((10 ^ i : Nat) : Int) := by decide +kernel
theorem z7 : (Rows.laid_internal_strconv_uint64pow10 : DataW Unit) = tabData .u64 pows := by kernel_rfl
set_option maxRecDepth 100000 in
theorem v7 {W : World} (h : VarReads Tryz.prog W "internal/strconv.uint64pow10" Rows.laid_internal_strconv_uint64pow10) : ∀ i : Nat, i < 20 → W.cell? ⟨2, i, none⟩ = some (.int .u64 ((10 ^ i : Nat) : Int)) := by
  obtain ⟨g, t, cs, fuel, p, hg, ht, hv, hd⟩ := h
  obtain rfl := Option.some.inj (g7.symm.trans hg)
  obtain rfl := Option.some.inj (y7.symm.trans ht)
  have e := cells_of_tab (zs := pows) Tryz.underlying267 Tryz.underlying87 cu64 c135 (z7 ▸ hd)
  intro i hi
  have := World.var?_cell g7 hv i
  obtain ⟨l⟩ := cs
  simp only at e
  subst e
  rw [this]
  have hp := pows_at i hi
  simp [List.getElem?_map, hp]
theorem rows_len : Go.Pinned.pow10Rows.length = 696 := by decide +kernel
theorem rows_at (i : Nat) (h : i < 696) : Go.Pinned.pow10Rows[i]? = some (TT i) := by
  unfold TT
  rw [List.getD_eq_getElem?_getD, List.getElem?_eq_getElem (by rw [rows_len]; exact h)]
  rfl
set_option maxRecDepth 100000 in
theorem v11 {W : World} (h : VarReads Tryz.prog W "internal/strconv.pow10Tab" Rows.laid_internal_strconv_pow10Tab) : ∀ i : Nat, i < 696 → W.cell? ⟨6, i * 2, none⟩ = some (.int .u64 ((TT i).1 : Nat)) ∧ W.cell? ⟨6, i * 2 + 1, none⟩ = some (.int .u64 ((TT i).2 : Nat)) := by
  obtain ⟨g, t, cs, fuel, p, hg, ht, hv, hd⟩ := h
  obtain rfl := Option.some.inj (g11.symm.trans hg)
  obtain rfl := Option.some.inj (y11.symm.trans ht)
  obtain ⟨xs, m, _, hx, hl, hn, hel⟩ := DataW.trod_array Tryz.underlying285 hd
  have e2 := congrArg Prod.fst hx
  have e3 : xs.map (·.1) = Go.Pinned.pow10Rows.map fun x => (.agg [.lit (.int .u64 x.1), .lit (.int .u64 x.2)] : DataW Unit) := by
    have : (Go.Pinned.pow10Tab : DataW Unit) = .agg (xs.map (·.1)) := e2
    unfold Go.Pinned.pow10Tab at this
    exact (DataW.agg.inj this).symm
  intro i hi
  have e4 := congrArg (fun l => l[i]?) e3
  have e5 := rows_at i hi
  generalize TT i = X at *
  obtain ⟨X1, X2⟩ := X
  simp only [List.getElem?_map, e5, Option.map_some] at e4
  obtain ⟨x, hx1, hx2⟩ := Option.map_eq_some_iff.1 e4
  have hxl : i < xs.length := (List.getElem?_eq_some_iff.1 hx1).1
  have h364 := hel i (by omega)
  rw [hx1, c150] at h364
  obtain ⟨a0, a1, n, f1, f2, f3, f4⟩ := trod_struct2 Tryz.underlying284 h364
  rw [f1] at hx2
  simp only [DataW.agg.injEq, List.cons.injEq, and_true] at hx2
  obtain ⟨k0, p1, p2, _⟩ := DataW.trod_int Tryz.underlying87 (show DataW.trod _ Tryz.prog W 0 _ false n 87 _ = some a0 from f3)
  obtain ⟨k1, q1, q2, _⟩ := DataW.trod_int Tryz.underlying87 (show DataW.trod _ Tryz.prog W 0 _ false n 87 _ = some a1 from f4)
  rw [p2, q2] at hx2
  simp at hx2
  obtain ⟨rfl, rfl⟩ := hx2
  have t0 := World.var?_cell g11 hv (i * 2)
  have t1 := World.var?_cell g11 hv (i * 2 + 1)
  rw [cu64] at p1 q1
  have r0 := congrArg (fun l => l[0]?) p1
  have r1 := congrArg (fun l => l[0]?) q1
  simp [List.getElem?_drop] at r0 r1
  constructor
  · rw [t0]; simpa using r0
  · rw [t1]; simpa using r1
theorem pv_of {W : World} (h5 : VarReads Tryz.prog W "internal/strconv.optimize" Rows.laid_internal_strconv_optimize) (h6 : VarReads Tryz.prog W "internal/strconv.float64info" Rows.laid_internal_strconv_float64info) (h9 : VarReads Tryz.prog W "internal/strconv.float64pow10" Rows.laid_internal_strconv_float64pow10) (h7 : VarReads Tryz.prog W "internal/strconv.uint64pow10" Rows.laid_internal_strconv_uint64pow10) (h11 : VarReads Tryz.prog W "internal/strconv.pow10Tab" Rows.laid_internal_strconv_pow10Tab) : ∃ b off, Pv W b off := by
  obtain ⟨b, off, h⟩ := vs_of h5 h6 h9
  exact ⟨b, off, h, v7 h7, v11 h11⟩
end Go.Proofs.YtldamieigigncaaGreatDoor.lx

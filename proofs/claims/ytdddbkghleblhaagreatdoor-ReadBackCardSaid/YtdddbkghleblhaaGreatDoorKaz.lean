/- For any text the law ReadBack returns true, and what it was handed reads afterwards as it did; no condition. -/
import Derived.Test.YtdddbkghleblhaaGreatDoorKab
import Derived.Test.YtdddbkghleblhaaGreatDoorCards
import Derived.Test.YtdddbkghleblhaaGreatDoorTie
import Derived.Lib.LaidU8
import Derived.Deep.Strs
import Derived.Deep.Slices
import Derived.Lay
import Derived.Test.YtdddbkghleblhaaGreatDoorKay
import Derived.SevenTiedAt
import Derived.ChangeMaps5
namespace Go.Proofs.YtdddbkghleblhaaGreatDoor.lx
open Go.ChangeShapes Go.WideShapes Go.ChangeAt Go.RowKit
set_option linter.unusedVariables false
open Go.Lib Go.Deep
theorem g5 : Tryz.prog.globalNamed "internal/strconv.optimize" = some 5 := by kernel_rfl
theorem g6 : Tryz.prog.globalNamed "internal/strconv.float64info" = some 6 := by kernel_rfl
theorem g9 : Tryz.prog.globalNamed "internal/strconv.float64pow10" = some 9 := by kernel_rfl
theorem y5 : (Tryz.prog.globals[5]?).map (·.type) = some 4 := by kernel_rfl
theorem y6 : (Tryz.prog.globals[6]?).map (·.type) = some 142 := by kernel_rfl
theorem y9 : (Tryz.prog.globals[9]?).map (·.type) = some 181 := by kernel_rfl
theorem v5 {W : World} (h : VarReads Tryz.prog W "internal/strconv.optimize" Rows.laid_internal_strconv_optimize) : W.cell? ⟨5, 0, none⟩ = some (.bool true) := by
  obtain ⟨g, t, cs, fuel, p, hg, ht, hv, hd⟩ := h
  obtain rfl := Option.some.inj (g5.symm.trans hg)
  obtain rfl := Option.some.inj (y5.symm.trans ht)
  obtain ⟨b, e1, e2⟩ := DataW.trod_bool Tryz.underlying4 hd
  have hb : b = true := by
    have := congrArg Prod.fst e2
    simpa [Rows.laid_internal_strconv_optimize] using this.symm
  subst hb
  have := World.var?_cell g5 hv 0
  rw [Array.eq_one_of_toList e1] at this
  simpa using this
theorem cu : Tryz.prog.cellsOf 104 = 1 := by kernel_rfl
theorem cf : Tryz.prog.cellsOf 42 = 1 := by kernel_rfl
theorem v6 {W : World} (h : VarReads Tryz.prog W "internal/strconv.float64info" Rows.laid_internal_strconv_float64info) : W.cell? ⟨6, 0, none⟩ = some (.int .u64 52) := by
  obtain ⟨g, t, cs, fuel, p, hg, ht, hv, hd⟩ := h
  obtain rfl := Option.some.inj (g6.symm.trans hg)
  obtain rfl := Option.some.inj (y6.symm.trans ht)
  obtain ⟨a0, a1, a2, n, e1, e2, e3, e4, e5⟩ := trod_struct3 Tryz.underlying142 hd
  have e1' := congrArg Prod.fst e1
  simp only [Rows.laid_internal_strconv_float64info, DataW.agg.injEq, List.cons.injEq, and_true] at e1'
  obtain ⟨k, f1, f2, _⟩ := DataW.trod_int Tryz.underlying104 (show DataW.trod _ Tryz.prog W 0 _ false n 104 _ = some a0 from e3)
  have hk : k = 52 := by
    rw [f2] at e1'
    simpa using e1'.1.symm
  subst hk
  have := World.var?_cell g6 hv 0
  rw [cu] at f1
  have r0 := congrArg (fun l => l[0]?) f1
  simp at r0
  rw [this]; simpa using r0
theorem trod_float1 {P : Program} {W : World} {t : TypeId} {k : FloatKind} {n : Nat} {v : Value} {b : Nat} {p : List MemPlace} (ht : P.underlying t = some (.float k)) (h : DataW.trod (fun _ => ()) P W 0 (fun _ => true) false n t [v] = some (.lit (.float k b), p)) : v = .float k b := by
  cases n with
  | zero => simp [DataW.trod] at h
  | succ n =>
    simp only [DataW.trod, ht] at h
    cases v <;> simp at h
    simp_all
theorem pw : ∀ k, k ≤ 6 → [4607182418800017408, 4621819117588971520, 4636737291354636288, 4652007308841189376, 4666723172467343360, 4681608360884174848, 4696837146684686336].getD k 0 = Ieee.double.nearest false (10 ^ k) 0 := by decide +kernel
set_option maxRecDepth 100000 in
theorem v9 {W : World} (h : VarReads Tryz.prog W "internal/strconv.float64pow10" Rows.laid_internal_strconv_float64pow10) : ∃ b off, W.cell? ⟨9, 0, none⟩ = some (.slice (some ⟨b, off, none⟩) 23 23) ∧ ∀ k, k ≤ 6 → W.cell? ⟨b, off + k, none⟩ = some (.float .f64 (Ieee.double.nearest false (10 ^ k) 0)) := by
  obtain ⟨g, t, cs, fuel, p, hg, ht, hv, hd⟩ := h
  obtain rfl := Option.some.inj (g9.symm.trans hg)
  obtain rfl := Option.some.inj (y9.symm.trans ht)
  rcases open_slice1 Tryz.underlying181 cf hd with ⟨_, hx⟩ | ⟨a, len, cap, m, n, V, D, Pl, e1, _, hl, _, hm, hx, hc⟩
  · simp [Rows.laid_internal_strconv_float64pow10] at hx
  · have hm' : m = cap := by simpa using hm
    subst hm'
    have e2 := congrArg Prod.fst hx
    simp only [Rows.laid_internal_strconv_float64pow10, DataW.slice.injEq] at e2
    have l1 := congrArg List.length e2.1
    have l2 := congrArg List.length e2.2
    simp at l1 l2
    obtain rfl : len = 23 := by omega
    obtain rfl : m = 23 := by omega
    obtain ⟨b, off, spot⟩ := a
    have hspot : spot = none := by simpa [Addr.add] using World.cell?_spot (hc 0 (by omega)).1
    subst hspot
    refine ⟨b, off, ?_, fun k hk => ?_⟩
    · have := World.var?_cell g9 hv 0
      rw [Array.eq_one_of_toList e1] at this
      simpa using this
    · rw [← pw k hk]
      have hk2 : k = 0 ∨ k = 1 ∨ k = 2 ∨ k = 3 ∨ k = 4 ∨ k = 5 ∨ k = 6 := by omega
      rcases hk2 with rfl | rfl | rfl | rfl | rfl | rfl | rfl
      all_goals
        clear hk
      · obtain ⟨h1, h2⟩ := hc 0 (by omega)
        have e3 := congrArg (fun l => l[0]?) e2.1
        simp at e3
        rw [← e3] at h2
        rw [trod_float1 Tryz.underlying42 h2] at h1
        simpa [Go.WideShapes.add_plain] using h1
      · obtain ⟨h1, h2⟩ := hc 1 (by omega)
        have e3 := congrArg (fun l => l[1]?) e2.1
        simp at e3
        rw [← e3] at h2
        rw [trod_float1 Tryz.underlying42 h2] at h1
        simpa [Go.WideShapes.add_plain] using h1
      · obtain ⟨h1, h2⟩ := hc 2 (by omega)
        have e3 := congrArg (fun l => l[2]?) e2.1
        simp at e3
        rw [← e3] at h2
        rw [trod_float1 Tryz.underlying42 h2] at h1
        simpa [Go.WideShapes.add_plain] using h1
      · obtain ⟨h1, h2⟩ := hc 3 (by omega)
        have e3 := congrArg (fun l => l[3]?) e2.1
        simp at e3
        rw [← e3] at h2
        rw [trod_float1 Tryz.underlying42 h2] at h1
        simpa [Go.WideShapes.add_plain] using h1
      · obtain ⟨h1, h2⟩ := hc 4 (by omega)
        have e3 := congrArg (fun l => l[4]?) e2.1
        simp at e3
        rw [← e3] at h2
        rw [trod_float1 Tryz.underlying42 h2] at h1
        simpa [Go.WideShapes.add_plain] using h1
      · obtain ⟨h1, h2⟩ := hc 5 (by omega)
        have e3 := congrArg (fun l => l[5]?) e2.1
        simp at e3
        rw [← e3] at h2
        rw [trod_float1 Tryz.underlying42 h2] at h1
        simpa [Go.WideShapes.add_plain] using h1
      · obtain ⟨h1, h2⟩ := hc 6 (by omega)
        have e3 := congrArg (fun l => l[6]?) e2.1
        simp at e3
        rw [← e3] at h2
        rw [trod_float1 Tryz.underlying42 h2] at h1
        simpa [Go.WideShapes.add_plain] using h1
theorem vs_of {W : World} (h5 : VarReads Tryz.prog W "internal/strconv.optimize" Rows.laid_internal_strconv_optimize) (h6 : VarReads Tryz.prog W "internal/strconv.float64info" Rows.laid_internal_strconv_float64info) (h9 : VarReads Tryz.prog W "internal/strconv.float64pow10" Rows.laid_internal_strconv_float64pow10) : ∃ b off, Vs W b off := by
  obtain ⟨b, off, h1, h2⟩ := v9 h9
  exact ⟨b, off, v5 h5, v6 h6, h1, h2⟩
end Go.Proofs.YtdddbkghleblhaaGreatDoor.lx
namespace Go.Proofs.YtdddbkghleblhaaGreatDoor.lx.readBack
open Go.ChangeShapes Go.WideShapes Go.ChangeAt Go.RowKit Go.ChangeMaps Go.Lib Go.Deep
set_option linter.unusedVariables false
theorem own : ownKnob Tryz.prog.godebug = none := by kernel_rfl
set_option maxRecDepth 100000 in
theorem lifted (os : Os) (started : os.Started) (H : Type) (enc : TypeId × Value → H) :
    ReturnsInHanded {} Tryz.checked os 4 .any (fun w args => (Rows.readBackSpec.pre enc Tryz.prog Tryz.f4 [] false w args ∧ laidMetH Tryz.prog Rows.readBackRow.laid w) ∧ sizedMet enc Tryz.prog Tryz.f4 (OpenSpec.ofChange Rows.readBackSpec) false w args)
      (Rows.readBackSpec.post enc Tryz.prog Tryz.f4 false true false false) := by
  refine returnsInHanded_of_change_and (C := Tryz.checked) (X := fun w _ => laidMetH Tryz.prog Rows.readBackRow.laid w) (fun _ _ _ hh h => h.of_heap hh) own started (by kernel_rfl) Tryz.func4
    (ChangeSpec.witness_shaped (enc := enc) (C := Tryz.checked) (os := os) (X := fun w _ => laidMetH Tryz.prog Rows.readBackRow.laid w) false (World.laidAll Tryz.prog os Rows.readBackRow.laid) #[.string ⟨#[]⟩] 8 (World.laidAll_os _ _ _)
      (World.shaped_of_ZipB (by kernel_rfl) (by kernel_rfl)) (by kernel_rfl) (by kernel_rfl) (by kernel_rfl)
      (by rw [MakeChecks.laidMetH_plain _ _ _ (by kernel_rfl)]; exact laidMet_laidAll _ (by kernel_rfl) (by kernel_rfl))) ?_
  intro W base args ds gs before hval0 hW _ _ hL _
  have hval : ∀ (j : Nat) t v, Tryz.f4.params[j]? = some t → args[j]? = some v → Value.okWide Tryz.prog W .any base t v := hval0
  have hW' := hW
  obtain ⟨p, q, hA0, hV, rfl, _, _⟩ := hW
  have hA : DataW.TrodAll enc Tryz.prog W 0 (fun _ => true) true Tryz.f4.params.toList args.toList ds p := hA0
  rw [Tryz.params4] at hA hval
  obtain ⟨v0, vs0, d0, ds0, p0, q0, hargs, rfl, rfl, h0, r0⟩ := trodAll_cons hA
  obtain ⟨rfl, rfl, rfl⟩ := trodAll_nil r0
  obtain rfl : args = #[v0] := by cases args; simp_all
  obtain ⟨rfl, rfl⟩ := trodVars_none hV
  obtain ⟨s0, rfl, rfl, rfl, w0⟩ := open_string Tryz.underlying9 (hval 0 9 v0 rfl rfl) h0
  simp only [List.append_nil] at hW'
  rw [MakeChecks.laidMetH_plain _ _ _ (by kernel_rfl)] at hL
  obtain ⟨b, off, hv⟩ := vs_of (W := W) (laidMet.reads hL (by simp [Rows.readBackRow])) (laidMet.reads hL (by simp [Rows.readBackRow])) (laidMet.reads hL (by simp [Rows.readBackRow]))
  refine (backs_all s0 w0 W b off hv).mono fun e W' ⟨he, hb⟩ => ?_
  subst he
  exact ⟨_, rfl, _, _, _, [], [], [], hW', trodAll_mk1 (shut_bool Tryz.underlying4 _), trodAll_mk1 (shut_string Tryz.underlying9 w0), rfl, hb.frame _, fun h => by cases h⟩
theorem said : Rows.ReadBackSaid :=
  OpenClaim.holds_of_wide 4 Tryz.f4 rfl rfl rfl rfl rfl rfl rfl ⟨rfl, rfl, rfl, rfl, rfl⟩ rfl rfl rfl rfl rfl (by kernel_rfl) Tryz.func4 (by kernel_rfl)
    (of_decide_eq_true (by kernel_rfl)) (by unfold Func.isWrapper; first | (rw [if_pos (by decide +kernel)]; kernel_rfl) | (rw [if_neg (by decide +kernel)]; exact ⟨rfl, rfl⟩))
    (fun os started H enc _ => lifted os started H enc)
theorem looks_str (t : TypeId) (h : t = 9) : Tryz.prog.wantsStandIn t = false := by
  subst h
  kernel_rfl
theorem plain (f : FuncId) (fn : Func) (hf : Tryz.pinned.checked.prog.funcNamed "accidence/accidencelaw05.ReadBack" = some f) (hfn : Tryz.pinned.checked.prog.funcs[f]? = some fn) :
    true = Tryz.pinned.checked.prog.looks [] ∧ ∀ (j : Nat) t, fn.params[j]? = some t → Tryz.pinned.checked.prog.wantsStandIn t = false := by
  obtain rfl : f = 4 := Option.some.inj ((show Tryz.prog.funcNamed "accidence/accidencelaw05.ReadBack" = some 4 by kernel_rfl).symm.trans hf) |>.symm
  obtain rfl : fn = Tryz.f4 := (Option.some.inj (Tryz.func4.symm.trans hfn)).symm
  refine ⟨by kernel_rfl, fun j t ht => ?_⟩
  rw [Tryz.params4] at ht
  have hm : t ∈ [9] := by simpa using Array.mem_of_getElem? ht
  exact looks_str t (by simpa using hm)
end Go.Proofs.YtdddbkghleblhaaGreatDoor.lx.readBack
namespace Go.Proofs.YtdddbkghleblhaaGreatDoor
theorem readBack_holds : Rows.ReadBackCardSaid :=
  Claim7.holds_tied_plain_at .later [] _ _ _ _ lx.readBack.said (fun _ h => by cases h) (by kernel_rfl) (fun _ h => by cases h) readBack_row_tie rfl ⟨rfl, rfl⟩ (by kernel_rfl) rfl lx.readBack.plain (by kernel_rfl)
end Go.Proofs.YtdddbkghleblhaaGreatDoor

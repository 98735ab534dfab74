import Derived.Test.YtomikgkoegkofaaGreatDoorDvr
namespace Go.Proofs.YtomikgkoegkofaaGreatDoor.dv
open Go.ChangeShapes Go.WideShapes Go.ChangeAt Go.RowKit Go.Maps Go.WideMaps Go.WideElems
set_option linter.unusedVariables false
set_option linter.unusedSimpArgs false
/-! a weight that may be told: it is answered whether -/
theorem x_frombits (n : Int) (w : World) : (callFunc 104 #[.int .u64 n]).run Tryz.prog w = .ok (.value (.float .f64 n.toNat)) w :=
  run_callFunc_extern (e := Extern.MathFloatBits.float64frombits) Tryz.func104 (by kernel_rfl) (by kernel_rfl) (by kernel_rfl) (by kernel_rfl) _ w
theorem x_bits (n : Nat) (w : World) : (callFunc 106 #[.float .f64 n]).run Tryz.prog w = .ok (.value (.int .u64 n)) w :=
  run_callFunc_extern (e := Extern.MathFloatBits.float64bits) Tryz.func106 (by kernel_rfl) (by kernel_rfl) (by kernel_rfl) (by kernel_rfl) _ w
attribute [local go_sem] x_frombits x_bits
def TellsQ (w : World) : Ending → World → Prop := fun e w' => ∃ b, e = .returned (.bool b) ∧ ∃ n, w' = w.drewN n
theorem fl_arith (op : BinOp) (ho : op = .add ∨ op = .mul ∨ op = .quo) (x y : Nat) (w : World) : ∃ r m, (binOp op 42 (.float .f64 x) (.float .f64 y)).run Tryz.prog w = .ok (.float .f64 r) (w.drewN m) := by
  cases h : floatBits op .f64 x y with
  | some r => exact ⟨r, 0, run_float_arith w op 42 .f64 x y r h⟩
  | none =>
    refine ⟨nz w x y, 1, ?_⟩
    rcases ho with rfl | rfl | rfl <;> (unfold floatBits at h; dsimp only at h; simp [binOp, Op.floatArith, h, nz, Question.forced]; try rfl)
theorem fl_to_int (x : Nat) (w : World) : ∃ n m, In64 n ∧ (convert 42 2 (.float .f64 x)).run Tryz.prog w = .ok (.int .i64 n) (w.drewN m) := by
  have hany : ∀ n : Int, In64 (IntKind.i64.wrap n) := fun n => by rw [IntKind.wrap_i64]; constructor <;> omega
  by_cases h : ∃ n, floatToIntVal .f64 x .i64 = some n
  · obtain ⟨n, h⟩ := h
    have hw := floatToIntVal_wf h
    refine ⟨n, 0, ?_, run_convert_float_int w 42 2 .f64 .i64 x n (by rw [Tryz.underlying42]; rfl) Tryz.underlying2 h⟩
    simp [Lit.wf, IntKind.min, IntKind.max, IntKind.signed, IntKind.bits] at hw
    constructor <;> omega
  · have hd : ∀ q : Nat, q = (Question.floatToInt .f64 x .i64).cut (w.tape w.drawn (.floatToInt .f64 x .i64)) → (convert 42 2 (.float .f64 x)).run Tryz.prog w = .ok (.int .i64 (IntKind.i64.wrap (q : Int))) w.drew := by
      intro q hq
      have hs : Tryz.prog.underlying 42 = some (.float .f64) := Tryz.underlying42
      have hi : Tryz.prog.underlying 2 = some (.int .i64) := Tryz.underlying2
      unfold floatToIntVal at h
      cases he : (FloatKind.f64.decode x).toInt .zero with
      | none => simp [convert, run_underlying hs, run_underlying hi, Conv.floatToInt, he, hq, Question.forced]
      | some n =>
        rw [he] at h
        dsimp only at h
        have hb : ¬ (IntKind.i64.min ≤ n ∧ n ≤ IntKind.i64.max) := fun hb => h ⟨n, by rw [if_pos hb]⟩
        have hb2 : ¬ (IntKind.i64.min ≤ n ∧ n ≤ 9223372036854775807) := hb
        simp [convert, run_underlying hs, run_underlying hi, Conv.floatToInt, he, hq, hb2, Question.forced]
    exact ⟨_, 1, hany _, hd _ rfl⟩
set_option maxRecDepth 100000 in
theorem nan_any (w : World) (n : Nat) : Calls Tryz.prog 89 #[.float .f64 n] w (Tells w) := by
  by_cases h : bits .and .u64 ((n : Int) / 4503599627370496) 2047 = 2047
  · go_enter Tryz.func89, Tryz.ntmps89
    go_wp2
    all_goals first | (exact absurd h (by assumption)) | (go_ret; exact ⟨_, rfl, rfl⟩)
  · go_enter Tryz.func89, Tryz.ntmps89
    go_wp2
    all_goals first | (exact absurd (by assumption) h) | (go_ret; exact ⟨_, rfl, rfl⟩)
set_option maxRecDepth 100000 in
theorem below1_any (w : World) (n : Nat) : Calls Tryz.prog 113 #[.float .f64 n] w (Tells w) := by
  go_enter Tryz.func113, Tryz.ntmps113
  go_wp2
  go_ret
  exact ⟨_, rfl, rfl⟩
set_option maxRecDepth 100000 in
set_option maxHeartbeats 400000 in
theorem less1_any (w : World) (n m : Nat) : Calls Tryz.prog 107 #[.float .f64 n, .float .f64 m] w (Tells w) := by
  go_enter Tryz.func107, Tryz.ntmps107
  go_wp2_with (first | (go_at_call 89; refine (nan_any _ _).mono ?_; rintro e w' ⟨b1, rfl, rfl⟩; cases b1) | (go_at_call 113; refine (below1_any _ _).mono ?_; rintro e w' ⟨b2, rfl, rfl⟩; cases b2))
  all_goals go_ret
  all_goals exact ⟨_, rfl, rfl⟩
set_option maxRecDepth 100000 in
set_option maxHeartbeats 400000 in
theorem same1_any (w : World) (n m : Nat) : Calls Tryz.prog 90 #[.float .f64 n, .float .f64 m] w (Tells w) := by
  go_enter Tryz.func90, Tryz.ntmps90
  go_wp2_with (go_at_call 107; refine (less1_any _ _ _).mono ?_; rintro e w' ⟨b1, rfl, rfl⟩; cases b1)
  all_goals go_ret
  all_goals exact ⟨_, rfl, rfl⟩
theorem read1_inf (w : World) : Calls Tryz.prog 88 #[.string ⟨#[105, 110, 102]⟩] w fun e w' => e = .returned (.tuple #[.float .f64 9218868437227405312, .bool true]) ∧ w' = w := by
  go_enter Tryz.func88, Tryz.ntmps88
  go_wp2
  refine bodyPost_ret (v := .tuple #[.float .f64 9218868437227405312, .bool true]) (by simp [results, Tryz.results88, go_sem]) rfl ⟨rfl, rfl⟩
theorem read1_ninf (w : World) : Calls Tryz.prog 88 #[.string ⟨#[45, 105, 110, 102]⟩] w fun e w' => e = .returned (.tuple #[.float .f64 18442240474082181120, .bool true]) ∧ w' = w := by
  go_enter Tryz.func88, Tryz.ntmps88
  go_wp2
  refine bodyPost_ret (v := .tuple #[.float .f64 18442240474082181120, .bool true]) (by simp [results, Tryz.results88, go_sem]) rfl ⟨rfl, rfl⟩
theorem drewN_add (w : World) (a b : Nat) : (w.drewN a).drewN b = w.drewN (a + b) := World.drewN_drewN ..
theorem run_negf (x : Nat) (w : World) : (Go.Op.unary .neg (.float .f64 x)).run Tryz.prog w = .ok (.float .f64 (Go.Op.negFloat .f64 x)) w := by
  simp [Go.Op.unary]
attribute [local go_sem] run_negf
/-- what the reckonings with floats answer, as functions of the world -/
theorem fl_all : ∃ (R1 R2 R3 : Nat → Nat → World → Nat) (M1 M2 M3 : Nat → Nat → World → Nat) (R4 : Nat → World → Int) (M4 : Nat → World → Nat),
    (∀ x y w, (binOp .mul 42 (.float .f64 x) (.float .f64 y)).run Tryz.prog w = .ok (.float .f64 (R1 x y w)) (w.drewN (M1 x y w))) ∧
    (∀ x y w, (binOp .add 42 (.float .f64 x) (.float .f64 y)).run Tryz.prog w = .ok (.float .f64 (R2 x y w)) (w.drewN (M2 x y w))) ∧
    (∀ x y w, (binOp .quo 42 (.float .f64 x) (.float .f64 y)).run Tryz.prog w = .ok (.float .f64 (R3 x y w)) (w.drewN (M3 x y w))) ∧
    (∀ x w, (convert 42 2 (.float .f64 x)).run Tryz.prog w = .ok (.int .i64 (R4 x w)) (w.drewN (M4 x w))) ∧ ∀ x w, In64 (R4 x w) := by
  refine ⟨fun x y w => (fl_arith .mul (.inr (.inl rfl)) x y w).choose, fun x y w => (fl_arith .add (.inl rfl) x y w).choose, fun x y w => (fl_arith .quo (.inr (.inr rfl)) x y w).choose,
    fun x y w => (fl_arith .mul (.inr (.inl rfl)) x y w).choose_spec.choose, fun x y w => (fl_arith .add (.inl rfl) x y w).choose_spec.choose, fun x y w => (fl_arith .quo (.inr (.inr rfl)) x y w).choose_spec.choose,
    fun x w => (fl_to_int x w).choose, fun x w => (fl_to_int x w).choose_spec.choose, fun x y w => (fl_arith .mul (.inr (.inl rfl)) x y w).choose_spec.choose_spec, fun x y w => (fl_arith .add (.inl rfl) x y w).choose_spec.choose_spec,
    fun x y w => (fl_arith .quo (.inr (.inr rfl)) x y w).choose_spec.choose_spec, fun x w => (fl_to_int x w).choose_spec.choose_spec.2, fun x w => (fl_to_int x w).choose_spec.choose_spec.1⟩
set_option maxRecDepth 100000 in
set_option maxHeartbeats 1000000 in
theorem told_any (w : World) (f : Nat) : Calls Tryz.prog 62 #[.float .f64 f] w (TellsQ w) := by
  obtain ⟨R1, R2, R3, M1, M2, M3, R4, M4, q1, q2, q3, q4, q4'⟩ := fl_all
  have Q4 := Lib.hid q4'
  clear q4'
  go_enter Tryz.func62, Tryz.ntmps62
  go_wp2_with fail
  refine (read1_inf w).mono ?_
  rintro e w' ⟨rfl, rfl⟩
  go_wp2_with fail
  refine (read1_ninf w').mono ?_
  rintro e w' ⟨rfl, rfl⟩
  go_wp2_with (first
    | (go_at_call 89; refine (nan_any _ _).mono ?_; rintro e w' ⟨b1, rfl, rfl⟩; cases b1)
    | (go_at_call 90; refine (same1_any _ _ _).mono ?_; rintro e w' ⟨b2, rfl, rfl⟩; cases b2))
  all_goals first
    | (go_ret; exact ⟨_, rfl, 0, rfl⟩)
    | skip
  all_goals
    go_loopw [9] (fun d wr => ∃ k : Int, d = .int .i64 k ∧ -2 ≤ k ∧ k ≤ 3 ∧ ∃ m, wr = w'.drewN m) (fun d _ => (3 - intOf d).toNat)
    case atStart => exact ⟨-2, rfl, by omega, by omega, _, rfl⟩
    case round =>
      obtain ⟨k, rfl, hk1, hk2, m, rfl⟩ := hrel
      by_cases hlt : k ≤ 2
      · go_wp2
        all_goals first
          | (go_ret; exact ⟨_, rfl, _, rfl⟩)
          | (go_ret; exact ⟨_, rfl, _, drewN_add _ _ _⟩)
          | exact ⟨⟨by omega, by omega, m, rfl⟩, by simp only [intOf]; omega⟩
          | (simp only [*]; exact ⟨⟨_, _, _, _, _, _, _, _, _, _, _, _, _, _, _, _, _, _, _, _, _, _, _, _, _, ⟨k + 1, rfl, by omega, by omega, _, rfl⟩, rfl⟩, by
              show (3 - intOf (Value.int .i64 (k + 1))).toNat < (3 - intOf (Value.int .i64 k)).toNat
              simp only [intOf]
              omega⟩)
      · go_wp2
        go_ret
        exact ⟨_, rfl, m, rfl⟩
end Go.Proofs.YtomikgkoegkofaaGreatDoor.dv

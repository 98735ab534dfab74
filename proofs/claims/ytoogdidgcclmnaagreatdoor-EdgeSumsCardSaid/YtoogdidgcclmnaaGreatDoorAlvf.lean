import Derived.Test.YtoogdidgcclmnaaGreatDoorAlve
namespace Go.Proofs.YtoogdidgcclmnaaGreatDoor.alv
open Go.ChangeShapes Go.WideShapes Go.ChangeAt Go.RowKit
attribute [local go_sem] ext_lit x_frombits x_bits x_sbits x_sfrombits x_index get_lit fi_1 bits_and_u64_l bits_or_u64_l bits_and_i64_l IntKind.wrap_u64 fo_1250

set_option maxRecDepth 100000 in
set_option maxHeartbeats 1000000 in
theorem dec_m0 (w : World) : Calls Tryz.prog 30 #[.string ⟨#[45,48]⟩] w fun e w' => e = .returned (.bool true) ∧ w = w' := by
  go_enter Tryz.func30, Tryz.ntmps30
  go_wp2
  go_rounds 2
  go_ret
  exact ⟨rfl, rfl⟩
set_option maxRecDepth 100000 in
set_option maxHeartbeats 1000000 in
theorem dec_01 (w : World) : Calls Tryz.prog 30 #[.string ⟨#[48,49]⟩] w fun e w' => e = .returned (.bool false) ∧ w = w' := by
  go_enter Tryz.func30, Tryz.ntmps30
  go_wp2
  go_rounds 3
  go_ret
  exact ⟨rfl, rfl⟩
set_option maxRecDepth 100000 in
set_option maxHeartbeats 1000000 in
theorem dec_125 (w : World) : Calls Tryz.prog 30 #[.string ⟨#[49,46,50,53,48]⟩] w fun e w' => e = .returned (.bool true) ∧ Below w.heap.size w w' := by
  go_enter Tryz.func30, Tryz.ntmps30
  go_wp2
  go_region
  go_wp2
  go_rounds 2
  go_rounds 4
  go_ret
  exact ⟨rfl, by go_grown⟩
set_option maxRecDepth 100000 in
set_option maxHeartbeats 1000000 in
theorem at_m0 (w : World) (h3 : w.cell? ⟨3, 0, none⟩ = some (.bool true)) : Calls Tryz.prog 54 #[.string ⟨#[45,48]⟩] w fun e w' => e = .returned (.tuple #[.float .f64 9223372036854775808, .int .i64 2, .nilIface]) ∧ Below w.heap.size w w' := by
  go_enter Tryz.func54, Tryz.ntmps54
  go_wp2_with (first | (go_at_call 77; go_must (refine (sp_m0 _).mono ?_); rintro e w1 ⟨rfl, rfl⟩) | (go_at_call 78; go_must (refine (rf_m0 _).mono ?_); rintro e w2 ⟨rfl, rfl⟩) | go_in)
  go_ret3
  exact ⟨rfl, by go_grown⟩
set_option maxRecDepth 100000 in
set_option maxHeartbeats 1000000 in
theorem at_125 (w : World) (b off : Nat) (h3 : w.cell? ⟨3, 0, none⟩ = some (.bool true)) (h6 : w.cell? ⟨6, 0, none⟩ = some (.int .u64 52)) (h10 : w.cell? ⟨10, 0, none⟩ = some (.slice (some ⟨b, off, none⟩) 23 23)) (h10' : w.cell? ⟨b, off + 3, none⟩ = some (.float .f64 4652007308841189376)) : Calls Tryz.prog 54 #[.string ⟨#[49,46,50,53,48]⟩] w fun e w' => e = .returned (.tuple #[.float .f64 4608308318706860032, .int .i64 5, .nilIface]) ∧ Below w.heap.size w w' := by
  go_enter Tryz.func54, Tryz.ntmps54
  go_wp2_with (first | (go_at_call 77; go_must (refine (sp_125 _).mono ?_); rintro e w1 ⟨rfl, rfl⟩) | (go_at_call 78; go_must (refine (rf_125 _).mono ?_); rintro e w2 ⟨rfl, rfl⟩) | (go_at_call 88; go_must (refine (ex_125 _ b off h6 h10 h10').mono ?_); rintro e w2 ⟨rfl, rfl⟩) | go_in)
  go_ret3
  exact ⟨rfl, by go_grown⟩
set_option maxRecDepth 100000 in
set_option maxHeartbeats 1000000 in
theorem rd_m0 (w : World) (h3 : w.cell? ⟨3, 0, none⟩ = some (.bool true)) : Calls Tryz.prog 18 #[.string ⟨#[45,48]⟩] w fun e w' => e = .returned (.tuple #[.float .f64 9223372036854775808, .bool true]) ∧ Below w.heap.size w w' := by
  go_enter Tryz.func18, Tryz.ntmps18
  go_wp2_with (first | (go_at_call 30; go_must (refine (dec_m0 _).mono ?_); rintro e w1 ⟨rfl, rfl⟩) | (go_at_call 54; go_must (refine (at_m0 _ h3).mono ?_); rintro e w2 ⟨rfl, hb⟩) | go_in)
  go_ret2
  exact ⟨rfl, hb⟩
set_option maxRecDepth 100000 in
set_option maxHeartbeats 1000000 in
theorem rd_125 (w : World) (b off : Nat) (h3 : w.cell? ⟨3, 0, none⟩ = some (.bool true)) (h6 : w.cell? ⟨6, 0, none⟩ = some (.int .u64 52)) (h10 : w.cell? ⟨10, 0, none⟩ = some (.slice (some ⟨b, off, none⟩) 23 23)) (h10' : w.cell? ⟨b, off + 3, none⟩ = some (.float .f64 4652007308841189376)) : Calls Tryz.prog 18 #[.string ⟨#[49,46,50,53,48]⟩] w fun e w' => e = .returned (.tuple #[.float .f64 4608308318706860032, .bool true]) ∧ Below w.heap.size w w' := by
  go_enter Tryz.func18, Tryz.ntmps18
  go_wp2_with (first | (go_at_call 30; go_must (refine (dec_125 _).mono ?_); rintro e w1 ⟨rfl, hb1⟩; have c3 := (hb1.cell (p := ⟨3, 0, none⟩) (lt_size h3)).trans h3; have c6 := (hb1.cell (p := ⟨6, 0, none⟩) (lt_size h6)).trans h6; have c10 := (hb1.cell (p := ⟨10, 0, none⟩) (lt_size h10)).trans h10; have c10' := (hb1.cell (p := ⟨b, off + 3, none⟩) (lt_size h10')).trans h10') | (go_at_call 54; go_must (refine (at_125 _ b off c3 c6 c10 c10').mono ?_); rintro e w2 ⟨rfl, hb⟩) | go_in)
  go_ret2
  exact ⟨rfl, hb1.trans (hb.mono hb1.size)⟩
set_option maxRecDepth 100000 in
set_option maxHeartbeats 1000000 in
theorem rd_01 (w : World) : Calls Tryz.prog 18 #[.string ⟨#[48,49]⟩] w fun e w' => e = .returned (.tuple #[.float .f64 0, .bool false]) ∧ w = w' := by
  go_enter Tryz.func18, Tryz.ntmps18
  go_wp2_with (first | (go_at_call 30; go_must (refine (dec_01 _).mono ?_); rintro e w1 ⟨rfl, rfl⟩) | go_in)
  go_ret2
  exact ⟨rfl, rfl⟩
end Go.Proofs.YtoogdidgcclmnaaGreatDoor.alv

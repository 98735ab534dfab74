import Derived.Test.YtdhkimlofhipaaaMtg
namespace Go.Proofs.Ytdhkimlofhipaaa.mt
open Go.ChangeShapes Go.WideShapes Go.ChangeAt Go.RowKit
set_option linter.unusedVariables false
/-- Run, where the work keeps all but the blocks of S -/
def No (i : Nat) : Prop := False
theorem kp_new (w : World) (o : Obj) : Kp No w (w.alloc o) := Kp.alloc _ w o
theorem run_done' (w : World) (g f : Nat) (cap : Array Value) (v : Value) (R : World → Prop) (S : Nat → Prop) (hgo : Goes f) (hc : ∀ W, Kp No w W → Calls Try.prog f cap W fun e w' => e = .returned v ∧ (R w' ∧ Kp S W w')) : Calls Try.prog 12 #[.pointer (some ⟨g, 0, none⟩), .func (.func f) #[] cap] w fun e w' => e = .returned (.bool true) ∧ R w' ∧ Kp S w w' :=
  (run_done w g f cap v _ hgo (hc _ (kp_new _ _))).mono fun e w' ⟨he, hr, hk⟩ => ⟨he, hr, ((kp_new w _).mono (fun _ h => h.elim)).trans hk⟩
theorem run_full' (w : World) (g f : Nat) (cap : Array Value) (R : World → Prop) (S : Nat → Prop) (hgo : Goes f) (hS : ¬ S w.heap.size) (hc : ∀ W, Kp No w W → Calls Try.prog f cap W fun e w' => e = .panicked [{ v := Full g, recovered := false }] ∧ (R w' ∧ Kp S W w')) : Calls Try.prog 12 #[.pointer (some ⟨g, 0, none⟩), .func (.func f) #[] cap] w fun e w' => e = .returned (.bool false) ∧ Kp S w w' ∧ ∃ w1, R w1 ∧ Below w1.heap.size w1 w' :=
  (run_full w g f cap [] _ hgo rfl (fun w' ⟨_, hk⟩ => (hk.blk (Blk.new' rfl) hS).cell 0) (hc _ (kp_new _ _))).mono fun e w' ⟨he, w1, ⟨hr, hk⟩, hb⟩ =>
    ⟨he, (((kp_new w _).mono (fun _ h => h.elim)).trans hk).then_ (Kp.of_below hb) (fun i hi => .inr (Nat.le_trans (by rw [World.size_alloc]; omega) (Nat.le_trans hk.size hi))), w1, hr, hb⟩
theorem goes_a1 : Goes 25 := fun _ _ => by kernel_rfl
theorem goes_a2 : Goes 26 := fun _ _ => by kernel_rfl
set_option maxRecDepth 100000 in
theorem alive1 (w : World) (cm cn g : Nat) (h2 : Blk w cm 24 #[.pointer (some ⟨g, 0, none⟩)]) (h3 : Blk w cn 3 #[.int .i64 0]) (hm : MtAt w g 5 0) (hne : cm ≠ g ∧ cm ≠ cn ∧ g ≠ cn) : Calls Try.prog 25 #[.pointer (some ⟨cm, 0, none⟩), .pointer (some ⟨cn, 0, none⟩)] w fun e w' => e = .panicked [{ v := Full g, recovered := false }] ∧ (MtAt w' g 0 5 ∧ Blk w' cn 3 #[.int .i64 1] ∧ Kp (fun i => i = g ∨ i = cn) w w') := by
  have c2 := h2.cell 0
  go_enter Try.func25, Try.ntmps25
  go_wp2_with fail
  have hs := spend_ok w g 5 0 3 hm (by decide)
  rw [show (5 : Int) - up 3 = 2 from by decide, show (0 : Int) + up 3 = 3 from by decide] at hs
  refine hs.mono ?_
  rintro e w1 ⟨rfl, hm1, hk1⟩
  have d1 := hk1.blk h3 hne.2.2.symm
  have e1 := hk1.blk h2 hne.1
  have c3 := d1.cell 0
  have f3 := d1.frozen 0
  have d2 := d1.set_ 0 (.int .i64 1)
  have hm2 := hm1.kept (kp1 w1 cn (.int .i64 1)) hne.2.2
  have c4 := (((kp1 w1 cn (.int .i64 1)).blk e1 hne.2.1).cell 0)
  clear hs c2
  go_wp2_with fail
  have hs := spend_full _ g 2 3 3 hm2 (by decide)
  refine hs.mono ?_
  rintro e w3 ⟨rfl, hm3, hk3⟩
  clear hs
  go_wp2_with fail
  exact ⟨rfl, rfl, hm3, hk3.blk d2 hne.2.2.symm, ((hk1.mono (fun i hi => .inl hi)).trans ((kp1 _ _ _).mono (fun i hi => .inr hi))).trans (hk3.mono (fun i hi => .inl hi))⟩
set_option maxRecDepth 100000 in
theorem alive2 (w : World) (g : Nat) (hm : MtAt w g 4 0) : Calls Try.prog 26 #[.pointer (some ⟨g, 0, none⟩)] w fun e w' => e = .returned (.tuple #[]) ∧ (MtAt w' g 0 4 ∧ Kp (fun i => i = g) w w') := by
  have hs := spend_ok w g 4 0 4 hm (by decide)
  rw [show (4 : Int) - up 4 = 0 from by decide, show (0 : Int) + up 4 = 4 from by decide] at hs
  go_enter Try.func26, Try.ntmps26
  go_wp2_with fail
  refine hs.mono ?_
  rintro e w1 ⟨rfl, hm1, hk1⟩
  clear hs
  go_wp2_with fail
  refine bodyPost_end (results_none rfl _ _ _) rfl ?_
  exact ⟨rfl, hm1, hk1⟩
set_option maxRecDepth 100000 in
set_option maxHeartbeats 400000 in
theorem alive_any (w : World) : Calls Try.prog 7 #[] w fun e w' => e = .returned (.bool true) ∧ Below w.heap.size w w' := by
  have hmf := mf
  go_enter Try.func7, Try.ntmps7
  go_wp2_with fail
  refine (new_any _ _).mono ?_
  rintro e w1 ⟨rfl, rfl⟩
  rw [show heldI 5 = 5 from by decide]
  go_wp2_with fail
  generalize hW : ((w.alloc (.cells #[.int .i64 5, .int .i64 0] 39)).alloc (.cells #[.pointer (some ⟨w.heap.size, 0, none⟩)] 24)).alloc (.cells #[.int .i64 0] 3) = W
  have b1 : MtAt W w.heap.size 5 0 := by rw [← hW]; exact (((mt_new (n := 5) rfl)).alloc _).alloc _
  have b2 : Blk W (w.heap.size + 1) 24 #[.pointer (some ⟨w.heap.size, 0, none⟩)] := by rw [← hW]; exact (Blk.new' (by simp)).alloc _
  have b3 : Blk W (w.heap.size + 1 + 1) 3 #[.int .i64 0] := by rw [← hW]; exact Blk.new' (by simp)
  have hB : Below w.heap.size w W := by rw [← hW]; exact (((Below.refl _ _).alloc (Nat.le_refl _) _).alloc (by simp) _).alloc (by simp; omega) _
  have hz : W.heap.size = w.heap.size + 1 + 1 + 1 := by rw [← hW]; simp
  have HZ := Lib.hid hz
  clear hW hz
  refine (run_full' W w.heap.size 25 _ (fun w' => MtAt w' w.heap.size 0 5 ∧ Blk w' (w.heap.size + 1 + 1) 3 #[.int .i64 1]) (fun i => i = w.heap.size ∨ i = w.heap.size + 1 + 1) goes_a1 (by rw [HZ.out]; omega) (fun W' k => (alive1 W' _ _ _ (k.blk b2 id) (k.blk b3 id) (b1.kept k id) (by omega)).mono fun e w' ⟨he, h1, h2, h3⟩ => ⟨he, ⟨h1, h2⟩, h3⟩)).mono ?_
  rintro e w2 ⟨rfl, hk, w1, ⟨h1, h2⟩, hb⟩
  have m2 := h1.kept (Kp.of_below hb) (by have := h1.1.lt; omega)
  have d2 := (Kp.of_below hb).blk h2 (by have := h2.lt; omega)
  have v2 := hk.blk b2 (by omega)
  have hz2 := hk.size
  clear hb h1 h2
  have HK := Lib.hid hk
  clear hk
  have HT := try_done w2 4 0 4 26 #[] (.tuple #[]) (fun _ => False) (fun _ => True) goes_a2 (fun _ h => h.elim) (fun W' hm _ _ => (alive2 W' _ hm).mono fun e w' ⟨he, hm', hk'⟩ => ⟨he, hm', hk'.mono (fun i hi => .inl hi), trivial⟩)
  go_wp2_with fail
  refine HT.mono ?_
  rintro e w3 ⟨rfl, _, hk3⟩
  clear HT
  have m3 := m2.kept hk3 id
  have c1 := (hk3.blk v2 id).cell 0
  have c2 := (hk3.blk d2 id).cell 0
  clear m2 v2 d2
  go_wp2_with fail
  refine (left_any _ _ _ _ m3).mono ?_
  rintro e w4 ⟨rfl, rfl⟩
  go_wp2_with fail
  refine (spent_any _ _ _ _ m3).mono ?_
  rintro e w4 ⟨rfl, rfl⟩
  go_wp2_with fail
  go_ret
  refine ⟨rfl, ?_⟩
  have hK := HK.out.then_ hk3 (fun i hi => .inl hi.elim)
  exact ⟨hK.os.trans hB.os, hK.tape.trans hB.tape, hK.output.trans hB.output, Nat.le_trans hB.size hK.size, fun i hi => (hK.block i (Nat.lt_of_lt_of_le hi hB.size) (by omega)).trans (hB.block i hi)⟩
end Go.Proofs.Ytdhkimlofhipaaa.mt

import Derived.Test.YtomikgkoegkofaaGreatDoorUma
namespace Go.Proofs.YtomikgkoegkofaaGreatDoor.dv
open Go.ChangeShapes Go.WideShapes Go.ChangeAt Go.RowKit Go.Maps Go.WideMaps Go.WideElems
set_option linter.unusedVariables false
set_option linter.unusedSimpArgs false
/-! marks in memory; what a function value tells of symbols -/
def Goes (f : Nat) : Prop := ∀ (args : Array Value) (w : World), (callFunc f args).run Tryz.prog w = .ok (.enter f args) w
def BV (S : List Bool) : List Value := S.map Value.bool
def ReadB (w : World) (v : Value) (S : List Bool) : Prop := ∃ ao cap, v = .slice ao S.length cap ∧ S.length ≤ maxLen ∧ ∀ i, i < S.length → ∃ a : Addr, ao = some a ∧ a.block < w.heap.size ∧ w.cell? (a.add i) = some (.bool (S.getD i false))
theorem ReadB.below {w w' : World} {v : Value} {S : List Bool} (h : ReadB w v S) (hb : Below w.heap.size w w') : ReadB w' v S := by
  obtain ⟨ao, cap, e, hm, hc⟩ := h
  refine ⟨ao, cap, e, hm, fun i hi => ?_⟩
  obtain ⟨a, e2, hab, hca⟩ := hc i hi
  exact ⟨a, e2, Nat.lt_of_lt_of_le hab hb.size, (hb.cell (p := a.add i) (by rw [add_block]; exact hab)).trans hca⟩
theorem readB_own {w : World} {B n : Nat} {v : Value} {S : List Bool} (h : w.ownsRow B 4 1 v n (BV S)) (hn : S.length = n) : ReadB w v S := by
  subst hn
  rcases h.2 with ⟨rfl, h0⟩ | ⟨g, cap, cur, rfl, _⟩
  · have : S = [] := List.length_eq_zero_iff.1 h0
    subst this
    exact ⟨none, 0, rfl, Nat.zero_le _, fun i hi => absurd hi (Nat.not_lt_zero _)⟩
  · obtain ⟨h1, h2⟩ := own_cap h
    refine ⟨_, cap, rfl, by omega, fun i hi => ⟨_, rfl, own_lt h, own_cells' h i _ ?_⟩⟩
    simp [BV, List.getD_eq_getElem?_getD, List.getElem?_eq_getElem hi]
set_option maxRecDepth 100000 in
theorem isv_any (w : World) (x : Int) : Calls Tryz.prog 70 #[.int .i64 x] w fun e w' => e = .returned (.bool (decide (0 ≤ x))) ∧ w' = w := by
  go_enter Tryz.func70, Tryz.ntmps70
  go_wp2
  go_ret
  exact ⟨rfl, rfl⟩
set_option maxRecDepth 100000 in
theorem isTerm_any (w : World) (x : Int) : Calls Tryz.prog 40 #[.int .i64 x] w fun e w' => e = .returned (.bool (decide (x < 0))) ∧ w' = w := by
  have e : decide (x < 0) = !decide (0 ≤ x) := by
    by_cases h : 0 ≤ x
    · rw [decide_eq_true h, decide_eq_false (by omega)]; rfl
    · rw [decide_eq_false h, decide_eq_true (by omega)]; rfl
  rw [e]
  go_enter Tryz.func40, Tryz.ntmps40
  go_wp2_with fail
  refine (isv_any _ _).mono ?_
  rintro e w1 ⟨rfl, rfl⟩
  go_wp2
  go_ret
  exact ⟨rfl, rfl⟩
set_option maxRecDepth 100000 in
set_option maxHeartbeats 1000000 in
theorem marked_any (w : World) (v : Value) (S : List Bool) (x : Int) (h : ReadB w v S) : Calls Tryz.prog 41 #[v, .int .i64 x] w fun e w' => e = .returned (.bool (decide (0 ≤ x) && at_ S x)) ∧ w' = w := by
  obtain ⟨ao, cap, rfl, hm, hc⟩ := h
  have hiv := isv_any w x
  by_cases h0 : 0 ≤ x
  · obtain ⟨k, rfl⟩ : ∃ k : Nat, x = k := ⟨x.toNat, by omega⟩
    rw [decide_eq_true h0] at hiv ⊢
    by_cases hlt : k < S.length
    · obtain ⟨a, rfl, hab, hca⟩ := hc k hlt
      have hat : at_ S (k : Int) = S.getD k false := rfl
      have hlt2 : decide ((k : Int) < (S.length : Int)) = true := decide_eq_true (by omega)
      have hlt3 : (k : Int) < (S.length : Int) := by omega
      rw [hat]
      generalize S.getD k false = b at *
      clear hc
      go_enter Tryz.func41, Tryz.ntmps41
      go_wp2_with fail
      refine hiv.mono ?_
      rintro e w1 ⟨rfl, rfl⟩
      go_wp2
      go_ret
      exact ⟨by cases b <;> rfl, rfl⟩
    · have hat : at_ S (k : Int) = false := by
        unfold at_
        rw [List.getD_eq_getElem?_getD, Int.toNat_natCast, List.getElem?_eq_none (by omega)]
        rfl
      have hlt2 : decide ((k : Int) < (S.length : Int)) = false := decide_eq_false (by omega)
      rw [hat]
      clear hc
      go_enter Tryz.func41, Tryz.ntmps41
      go_wp2_with fail
      refine hiv.mono ?_
      rintro e w1 ⟨rfl, rfl⟩
      go_wp2
      go_ret
      exact ⟨rfl, rfl⟩
  · rw [decide_eq_false h0] at hiv ⊢
    clear hc
    go_enter Tryz.func41, Tryz.ntmps41
    go_wp2_with fail
    refine hiv.mono ?_
    rintro e w1 ⟨rfl, rfl⟩
    go_wp2
    go_ret
    exact ⟨rfl, rfl⟩
/-- a function value that tells something of symbols -/
def TellsOf (fn : Nat) (cap : Array Value) (p : Int → Bool) (w : World) : Prop := ∀ (x : Int) (W : World), Below w.heap.size w W → Calls Tryz.prog fn (#[.int .i64 x] ++ cap) W fun e W' => e = .returned (.bool (p x)) ∧ Below w.heap.size w W'
def firstI (p : Int → Bool) (F : List Int) : Int := match F.findIdx? p with
  | some k => k
  | none => -1
set_option maxRecDepth 100000 in
set_option maxHeartbeats 1000000 in
theorem indexF_any (w : World) (v : Value) (F : List Int) (fn : Nat) (cap : Array Value) (p : Int → Bool) (hgo : Goes fn) (hp : TellsOf fn cap p w) (h : RowAt w v F) : Calls Tryz.prog 69 #[v, .func (.func fn) #[] cap] w fun e w' => (∃ n : Int, e = .returned (.int .i64 n) ∧ (0 ≤ n ↔ F.any p = true)) ∧ Below w.heap.size w w' := by
  obtain ⟨ao, cp, rfl, hl, hm, hn, hin, hc⟩ := h
  have hlen : F.length ≤ 9223372036854775807 := by unfold maxLen at hm; omega
  have HC := Lib.hid hc
  have hg : ∀ (c : Int) (w : World), (callFunc fn (#[.int .i64 c] ++ cap)).run Tryz.prog w = .ok (.enter fn (#[.int .i64 c] ++ cap)) w := fun c w => hgo _ w
  have HP := Lib.hid hp
  clear hc hin hp hgo
  go_enter Tryz.func69, Tryz.ntmps69
  go_wp2
  go_loopw [5, 8] (fun i q wr => ∃ k : Nat, k ≤ F.length ∧ q = .int .i64 k ∧ (F.take k).any p = false ∧ Below w.heap.size w wr) (fun _ q _ => F.length - (intOf q).toNat)
  case atStart => exact ⟨0, Nat.zero_le _, rfl, rfl, Below.refl _ _⟩
  case round =>
    obtain ⟨k, hk, rfl, hneg, hbr⟩ := hrel
    have HN := Lib.hid hneg
    clear hneg
    by_cases hlt : k < F.length
    · obtain ⟨a, rfl, hab, hca⟩ := HC.out k hlt
      have hca2 : wr.cell? (a.add k) = some (.int .i64 (F.getD k 0)) := (hbr.cell (p := a.add k) (by rw [add_block]; exact hab)).trans hca
      have htk : (F.take (k + 1)).any p = p (F.getD k 0) := by
        rw [List.take_succ_eq_append_getElem hlt, List.any_append, HN.out, List.getD_eq_getElem?_getD, List.getElem?_eq_getElem hlt]
        simp
      have hmem : p (F.getD k 0) = true → F.any p = true := fun h => by
        rw [List.any_eq_true]
        exact ⟨F.getD k 0, by rw [List.getD_eq_getElem?_getD, List.getElem?_eq_getElem hlt]; simp, h⟩
      have hcall := HP.out (F.getD k 0) wr hbr
      have HT := Lib.hid htk
      have HM := Lib.hid hmem
      clear hca htk hmem
      generalize F.getD k 0 = x at *
      cases hb : p x
      · rw [hb] at hcall
        go_wp2_with fail
        refine hcall.mono ?_
        rintro e w2 ⟨rfl, hb2⟩
        go_wp2
        exact ⟨⟨k + 1, hlt, congrArg (Value.int .i64) (by omega), by rw [HT.out]; exact hb, hb2⟩, by simp only [intOf]; omega⟩
      · rw [hb] at hcall
        have hany := HM.out hb
        have HA := Lib.hid hany
        clear hany
        go_wp2_with fail
        refine hcall.mono ?_
        rintro e w2 ⟨rfl, hb2⟩
        go_wp2
        go_ret
        exact ⟨⟨k, rfl, ⟨fun _ => HA.out, fun _ => by omega⟩⟩, hb2⟩
    · obtain rfl : k = F.length := by omega
      have hany : F.any p = false := by have := HN.out; rwa [List.take_length] at this
      have HA := Lib.hid hany
      clear hany
      go_wp2
      go_ret
      exact ⟨⟨-1, rfl, ⟨fun h => absurd h (by decide), fun h => by rw [HA.out] at h; cases h⟩⟩, hbr⟩
set_option maxRecDepth 100000 in
theorem contains_any (w : World) (v : Value) (F : List Int) (fn : Nat) (cap : Array Value) (p : Int → Bool) (hgo : Goes fn) (hp : TellsOf fn cap p w) (h : RowAt w v F) : Calls Tryz.prog 39 #[v, .func (.func fn) #[] cap] w fun e w' => e = .returned (.bool (F.any p)) ∧ Below w.heap.size w w' := by
  have hix := indexF_any w v F fn cap p hgo hp h
  obtain ⟨ao, cp, rfl, _⟩ := h
  clear hp
  go_enter Tryz.func39, Tryz.ntmps39
  go_wp2_with fail
  refine hix.mono ?_
  rintro e w1 ⟨⟨n, rfl, hn⟩, hb1⟩
  cases ha : F.any p
  · rw [ha] at hn
    have h0 : ¬ 0 ≤ n := fun h => by cases hn.1 h
    go_wp2
    go_ret
    exact ⟨by rw [ha]; simp, hb1⟩
  · rw [ha] at hn
    have h0 : 0 ≤ n := hn.2 rfl
    go_wp2
    go_ret
    exact ⟨by rw [ha]; simp, hb1⟩
end Go.Proofs.YtomikgkoegkofaaGreatDoor.dv

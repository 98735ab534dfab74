import Derived.Test.YtffbkhebkhbanaaGreatDoorLxu
namespace Go.Proofs.YtffbkhebkhbanaaGreatDoor.lx
open Go.ChangeShapes Go.WideShapes Go.ChangeAt Go.RowKit
set_option linter.unusedVariables false
attribute [local go_sem] run_store_float
/-! the document's own words -/
/-- a run, byte by byte: p holds from place a on, up to place k -/
def Runs (p : UInt8 → Bool) (l : List UInt8) (a k : Nat) : Prop := a ≤ k ∧ k ≤ l.length ∧ runP p (l.drop a) = (k - a) + runP p (l.drop k)
theorem Runs.start (p : UInt8 → Bool) (l : List UInt8) (a : Nat) (h : a ≤ l.length) : Runs p l a a := ⟨Nat.le_refl _, h, by rw [Nat.sub_self, Nat.zero_add]⟩
theorem Runs.on {p : UInt8 → Bool} {s : ByteArray} {a k : Nat} (h : Runs p s.data.toList a k) (hk : k < s.size) (hp : p s[k] = true) : Runs p s.data.toList a (k + 1) := by
  obtain ⟨h1, h2, h3⟩ := h
  have hl : s.data.toList.length = s.size := by simp
  refine ⟨by omega, by omega, ?_⟩
  rw [h3, bytes_drop s k hk]
  unfold runP
  rw [List.takeWhile_cons_of_pos hp, List.length_cons]
  omega
theorem Runs.off {p : UInt8 → Bool} {s : ByteArray} {a k : Nat} (h : Runs p s.data.toList a k) (hk : k < s.size) (hp : p s[k] = false) : runP p (s.data.toList.drop a) = k - a := by
  rw [h.2.2, bytes_drop s k hk]
  unfold runP
  rw [List.takeWhile_cons_of_neg (by rw [hp]; decide)]
  rfl
theorem Runs.fin {p : UInt8 → Bool} {s : ByteArray} {a : Nat} (h : Runs p s.data.toList a s.size) : runP p (s.data.toList.drop a) = s.size - a := by
  rw [h.2.2, List.drop_eq_nil_of_le (by simp)]
  rfl
/-- a word as the document has it -/
def rwordV (a : Nat) (x : Except Nat (Nat × List UInt8 × Nat × Nat)) : Value :=
  match x with
  | .ok (k, t, w, n) => .tuple #[TV k a t w, .int .i64 (a + n + 1 : Nat), .int .i64 0]
  | .error e => .tuple #[TV 0 0 [] 0, .int .i64 a, .int .i64 e]
set_option maxRecDepth 100000 in
set_option maxHeartbeats 4000000 in
theorem rword_name (s : ByteArray) (hs : s.size ≤ maxLen) (a : Nat) (ha : a < s.size) (hc : letB s[a] = true) (w : World) : Calls Tryz.prog 29 #[.string s, .int .i64 a] w fun e w' => e = .returned (rwordV a (wordAt (s.data.toList.drop a))) ∧ Below w.heap.size w w' := by
  have hlt := rletter_n s[a].toNat (b_lt _)
  rw [← let_n, hc] at hlt
  have hl : s.data.toList.length = s.size := by simp
  have hst := Runs.start namB s.data.toList (a + 1) (by omega)
  have HST := Lib.hid hst
  have HW : Hid (∀ n, runP namB (s.data.toList.drop (a + 1)) = n → wordAt (s.data.toList.drop a) = if n + 1 ≤ 24 then .ok (1, (s.data.toList.drop a).take (n + 1), 0, n) else .error 1) := Lib.hid (fun n hn => by
    rw [bytes_drop s a ha, word_let _ _ hc, hn])
  have HX : Hid (∀ k, a + 1 ≤ k → s.extract a k = S ((s.data.toList.drop a).take (k - a))) := Lib.hid (fun k _ => ext_S s a k)
  unfold maxLen at hs
  clear hl hst hc
  go_enter Tryz.func29, Tryz.ntmps29
  go_wp2_with (go_at_call 33; refine (hlt _).mono ?_; rintro e w1 ⟨rfl, rfl⟩)
  go_loop [8] (fun i => ∃ k : Nat, i = .int .i64 k ∧ Runs namB s.data.toList (a + 1) k) (fun i => s.size - (intOf i).toNat)
  case atStart => exact ⟨a + 1, by go_num, HST.out⟩
  case round =>
    obtain ⟨k, rfl, hr⟩ := hrel
    have hk1 : a + 1 ≤ k := hr.1
    have hk2 : k ≤ s.size := by have := hr.2.1; simpa using this
    have HR := Lib.hid hr
    clear hr
    have hfin : ∀ n, k = a + 1 + n → runP namB (s.data.toList.drop (a + 1)) = n → (n + 1 ≤ 24 → rwordV a (wordAt (s.data.toList.drop a)) = .tuple #[.agg #[.int .i64 1, .int .i64 a, .string (s.extract a k), .float .f64 0], .int .i64 k, .int .i64 0]) ∧ (¬ n + 1 ≤ 24 → rwordV a (wordAt (s.data.toList.drop a)) = .tuple #[.agg #[.int .i64 0, .int .i64 0, .string ⟨#[]⟩, .float .f64 0], .int .i64 a, .int .i64 1]) := fun n e hn => by
      subst e
      refine ⟨fun h => ?_, fun h => ?_⟩
      · rw [HW.out n hn, if_pos h, HX.out _ (by omega), show a + 1 + n - a = n + 1 from by omega]
        unfold rwordV TV
        simp only
        rw [show a + n + 1 = a + 1 + n from by omega]
        rfl
      · rw [HW.out n hn, if_neg h]
        rfl
    have HF := Lib.hid hfin
    clear hfin
    by_cases hlk : k < s.size
    · have hin := rinner_n s[k].toNat (b_lt _)
      rw [← nam_n] at hin
      cases hb : namB s[k]
      · rw [hb] at hin
        have hn := HR.out.off hlk hb
        obtain ⟨h1, h2⟩ := HF.out (k - (a + 1)) (by omega) hn
        clear hb hn
        by_cases h24 : k - (a + 1) + 1 ≤ 24
        · have HV := Lib.hid (h1 h24)
          clear h1 h2
          go_wp2_with (go_at_call 34; refine (hin _).mono ?_; rintro e w1 ⟨rfl, rfl⟩)
          refine bodyPost_ret (v := .tuple #[.agg #[.int .i64 1, .int .i64 a, .string (s.extract a k), .float .f64 0], .int .i64 k, .int .i64 0]) (by simp [results, Tryz.results29, go_sem]) rfl ⟨by rw [HV.out], ?_⟩
          go_grown
        · have HV := Lib.hid (h2 h24)
          clear h1 h2
          go_wp2_with (go_at_call 34; refine (hin _).mono ?_; rintro e w1 ⟨rfl, rfl⟩)
          refine bodyPost_ret (v := .tuple #[.agg #[.int .i64 0, .int .i64 0, .string ⟨#[]⟩, .float .f64 0], .int .i64 a, .int .i64 1]) (by simp [results, Tryz.results29, go_sem]) rfl ⟨by rw [HV.out], ?_⟩
          go_grown
      · rw [hb] at hin
        have HR2 := Lib.hid (HR.out.on hlk hb)
        clear hb
        go_wp2_with (go_at_call 34; refine (hin _).mono ?_; rintro e w1 ⟨rfl, rfl⟩)
        go_round
        case rel => exact ⟨k + 1, by go_num, HR2.out⟩
        case measure => simp [intOf]; omega
    · obtain rfl : k = s.size := by omega
      have hn := HR.out.fin
      obtain ⟨h1, h2⟩ := HF.out (s.size - (a + 1)) (by omega) hn
      clear hn
      by_cases h24 : s.size - (a + 1) + 1 ≤ 24
      · have HV := Lib.hid (h1 h24)
        clear h1 h2
        go_wp2_with fail
        refine bodyPost_ret (v := .tuple #[.agg #[.int .i64 1, .int .i64 a, .string (s.extract a s.size), .float .f64 0], .int .i64 s.size, .int .i64 0]) (by simp [results, Tryz.results29, go_sem]) rfl ⟨by rw [HV.out], ?_⟩
        go_grown
      · have HV := Lib.hid (h2 h24)
        clear h1 h2
        go_wp2_with fail
        refine bodyPost_ret (v := .tuple #[.agg #[.int .i64 0, .int .i64 0, .string ⟨#[]⟩, .float .f64 0], .int .i64 a, .int .i64 1]) (by simp [results, Tryz.results29, go_sem]) rfl ⟨by rw [HV.out], ?_⟩
        go_grown
end Go.Proofs.YtffbkhebkhbanaaGreatDoor.lx

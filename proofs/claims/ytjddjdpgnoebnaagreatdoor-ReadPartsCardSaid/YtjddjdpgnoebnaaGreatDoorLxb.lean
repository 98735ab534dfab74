import Derived.Test.YtjddjdpgnoebnaaGreatDoorLxa
namespace Go.Proofs.YtjddjdpgnoebnaaGreatDoor.lx
open Go.ChangeShapes Go.WideShapes Go.ChangeAt Go.RowKit
set_option linter.unusedVariables false
theorem wgt1_n (n : Nat) (hn : n < 256) (w : World) : Calls Tryz.prog 61 #[.int .u8 n] w fun e w' => e = .returned (.bool (wgtN n)) ∧ w = w' := by
  have hl := letter_n n hn w
  have hd := digit_n n hn w
  have HE : Hid (wgtN n = (letN n || digN n || decide (n = 46) || decide (n = 45))) := Lib.hid rfl
  generalize wgtN n = z at *
  cases h1 : letN n
  · rw [h1] at hl HE
    cases h2 : digN n
    · rw [h2] at hd HE
      by_cases h3 : n = 46
      · have k3 : ((n : Int) == 46) = true := by rw [beq_iff_eq]; omega
        have HZ : Hid (z = true) := Lib.hid (by rw [HE.out]; simp [h3])
        clear h1 h2 h3 HE
        go_enter Tryz.func61, Tryz.ntmps61
        go_wp2_with (first | (go_at_call 30; refine hl.mono ?_; rintro e w1 ⟨rfl, rfl⟩) | (go_at_call 52; refine hd.mono ?_; rintro e w2 ⟨rfl, rfl⟩))
        go_ret
        exact ⟨ret_bool HZ.out.symm, rfl⟩
      · have k3 : ((n : Int) == 46) = false := by rw [beq_eq_false_iff_ne]; omega
        by_cases h4 : n = 45
        · have k4 : ((n : Int) == 45) = true := by rw [beq_iff_eq]; omega
          have HZ : Hid (z = true) := Lib.hid (by rw [HE.out]; simp [h4])
          clear h1 h2 h3 h4 HE
          go_enter Tryz.func61, Tryz.ntmps61
          go_wp2_with (first | (go_at_call 30; refine hl.mono ?_; rintro e w1 ⟨rfl, rfl⟩) | (go_at_call 52; refine hd.mono ?_; rintro e w2 ⟨rfl, rfl⟩))
          go_ret
          exact ⟨ret_bool HZ.out.symm, rfl⟩
        · have k4 : ((n : Int) == 45) = false := by rw [beq_eq_false_iff_ne]; omega
          have HZ : Hid (z = false) := Lib.hid (by rw [HE.out]; simp [h3, h4])
          clear h1 h2 h3 h4 HE
          go_enter Tryz.func61, Tryz.ntmps61
          go_wp2_with (first | (go_at_call 30; refine hl.mono ?_; rintro e w1 ⟨rfl, rfl⟩) | (go_at_call 52; refine hd.mono ?_; rintro e w2 ⟨rfl, rfl⟩))
          go_ret
          exact ⟨ret_bool HZ.out.symm, rfl⟩
    · rw [h2] at hd HE
      have HZ : Hid (z = true) := Lib.hid (by rw [HE.out]; simp)
      clear h1 h2 HE
      go_enter Tryz.func61, Tryz.ntmps61
      go_wp2_with (first | (go_at_call 30; refine hl.mono ?_; rintro e w1 ⟨rfl, rfl⟩) | (go_at_call 52; refine hd.mono ?_; rintro e w2 ⟨rfl, rfl⟩))
      go_ret
      exact ⟨ret_bool HZ.out.symm, rfl⟩
  · rw [h1] at hl HE
    have HZ : Hid (z = true) := Lib.hid (by rw [HE.out]; simp)
    clear h1 HE
    go_enter Tryz.func61, Tryz.ntmps61
    go_wp2_with (first | (go_at_call 30; refine hl.mono ?_; rintro e w1 ⟨rfl, rfl⟩) | (go_at_call 52; refine hd.mono ?_; rintro e w2 ⟨rfl, rfl⟩))
    go_ret
    exact ⟨ret_bool HZ.out.symm, rfl⟩
/-! a run of bytes -/
def Goes (f : Nat) : Prop := ∀ (args : Array Value) (w : World), (callFunc f args).run Tryz.prog w = .ok (.enter f args) w
def Blk (w : World) (g : Nat) (t : TypeId) (cs : Array Value) : Prop := w.heap[g]? = some (.cells cs t (0, 0))
section
variable {w w' : World} {g : Nat} {t : TypeId} {cs : Array Value}
theorem Blk.lt (h : Blk w g t cs) : g < w.heap.size := by
  rcases Nat.lt_or_ge g w.heap.size with hlt | hge
  · exact hlt
  · unfold Blk at h; rw [Array.getElem?_eq_none hge] at h; cases h
theorem Blk.cell (h : Blk w g t cs) (i : Nat) : w.cell? ⟨g, i, none⟩ = cs[i]? := cell_of_row w g i cs t (0, 0) h
theorem Blk.frozen (h : Blk w g t cs) (i : Nat) : w.frozen? ⟨g, i, none⟩ = false := by
  unfold Blk at h
  simp [World.frozen?, h]
theorem Blk.new (w : World) (t : TypeId) (cs : Array Value) : Blk (w.alloc (.cells cs t)) w.heap.size t cs := heap_alloc_new w _
theorem Blk.alloc (h : Blk w g t cs) (o : Obj) : Blk (w.alloc o) g t cs := (Below.heap_alloc w o g h.lt).trans h
theorem Blk.set_ (h : Blk w g t cs) (i : Nat) (u : Value) : Blk (w.setCell ⟨g, i, none⟩ u) g t (cs.setIfInBounds i u) := by
  unfold Blk at h ⊢
  simp [World.setCell, Array.getElem?_modify, h]
theorem Blk.far (h : Blk w g t cs) {p : Addr} (hp : g ≠ p.block) (u : Value) : Blk (w.setCell p u) g t cs := (Below.heap_setCell w p u g hp).trans h
theorem Blk.below {B : Nat} (h : Blk w g t cs) (hb : Below B w w') (hg : g < B) : Blk w' g t cs := (hb.block g hg).trans h
end
theorem bytes_drop (s : ByteArray) (k : Nat) (h : k < s.size) : s.data.toList.drop k = s[k] :: s.data.toList.drop (k + 1) := by
  rw [List.drop_eq_getElem_cons (by simpa using h)]
  rfl
set_option maxRecDepth 100000 in
set_option maxHeartbeats 400000 in
theorem run_any {σ : Type} (st : σ → UInt8 → Bool × σ) (R : σ → World → Prop) (fn : Nat) (cap : Array Value) (hgo : Goes fn) (s : ByteArray) (hs : s.size ≤ maxLen)
    (hstep : ∀ x (c : UInt8) w, R x w → Calls Tryz.prog fn (#[.int .u8 c.toNat] ++ cap) w fun e w' => e = .returned (.bool (st x c).1) ∧ R (st x c).2 w') (x0 : σ) (a : Nat) (ha : a ≤ s.size) (w : World) (hR : R x0 w) :
    Calls Tryz.prog 31 #[.string s, .int .i64 a, .func (.func fn) #[] cap] w fun e w' => e = .returned (.int .i64 (a + runN st x0 (s.data.toList.drop a) : Nat)) ∧ ∃ x, R x w' := by
  unfold maxLen at hs
  have hg : ∀ (c : Int) (w : World), (callFunc fn (#[.int .u8 c] ++ cap)).run Tryz.prog w = .ok (.enter fn (#[.int .u8 c] ++ cap)) w := fun c w => hgo _ w
  have HS := Lib.hid hstep
  have HR := Lib.hid hR
  clear hstep hgo hR
  go_enter Tryz.func31, Tryz.ntmps31
  go_wp2
  go_loopw [1] (fun i wr => ∃ (k : Nat) (x : σ), i = .int .i64 k ∧ k ≤ s.size ∧ R x wr ∧ a + runN st x0 (s.data.toList.drop a) = k + runN st x (s.data.toList.drop k)) (fun i _ => s.size - (intOf i).toNat)
  case atStart => exact ⟨a, x0, rfl, ha, HR.out, rfl⟩
  case round =>
    obtain ⟨k, x, rfl, hk, hx, hsum⟩ := hrel
    have HX := Lib.hid hx
    have HM := Lib.hid hsum
    clear hx hsum
    by_cases hlt : k < s.size
    · have hc := HS.out x s[k] wr HX.out
      have hd := bytes_drop s k hlt
      have HD := Lib.hid hd
      clear hd
      cases h1 : (st x s[k]).1
      · rw [h1] at hc
        have H1 := Lib.hid h1
        clear h1
        go_wp2_with fail
        refine hc.mono ?_
        rintro e w1 ⟨rfl, hx1⟩
        have HX1 := Lib.hid hx1
        clear hc hx1
        go_wp2_with fail
        go_ret
        refine ⟨ret_int ?_, _, HX1.out⟩
        rw [HM.out, HD.out]
        unfold runN
        rw [H1.out]
        rfl
      · rw [h1] at hc
        have H1 := Lib.hid h1
        clear h1
        go_wp2_with fail
        refine hc.mono ?_
        rintro e w1 ⟨rfl, hx1⟩
        have HX1 := Lib.hid hx1
        clear hc hx1
        go_wp2_with fail
        refine ⟨⟨k + 1, _, by go_num, hlt, HX1.out, ?_⟩, by simp only [intOf]; omega⟩
        rw [HM.out, HD.out]
        have e : runN st x (s[k] :: s.data.toList.drop (k + 1)) = runN st (st x s[k]).2 (s.data.toList.drop (k + 1)) + 1 := by
          show (if (st x s[k]).1 = true then runN st (st x s[k]).2 (s.data.toList.drop (k + 1)) + 1 else 0) = _
          rw [H1.out]
          rfl
        rw [e]
        omega
    · obtain rfl : k = s.size := by omega
      go_wp2
      go_ret
      refine ⟨ret_int ?_, _, HX.out⟩
      rw [HM.out, List.drop_eq_nil_of_le (by simp)]
      rfl
/-- a run that is told byte by byte -/
theorem run_plain (p : UInt8 → Bool) (fn : Nat) (hgo : Goes fn) (hp : ∀ (c : UInt8) (w : World), Calls Tryz.prog fn #[.int .u8 c.toNat] w fun e w' => e = .returned (.bool (p c)) ∧ w = w') (s : ByteArray) (hs : s.size ≤ maxLen) (a : Nat) (ha : a ≤ s.size) (w : World) :
    Calls Tryz.prog 31 #[.string s, .int .i64 a, .func (.func fn) #[] #[]] w fun e w' => e = .returned (.int .i64 (a + runP p (s.data.toList.drop a) : Nat)) ∧ w = w' := by
  have := run_any (plainS p) (fun _ w' => w = w') fn #[] hgo s hs (fun x c w2 e => (hp c w2).mono fun e' w3 h => ⟨h.1, e.trans h.2⟩) () a ha w rfl
  rw [runN_plain] at this
  exact this.mono fun e w' ⟨h1, _, h2⟩ => ⟨h1, h2⟩
theorem goes_name : Goes 32 := fun _ _ => by kernel_rfl
theorem goes_quote : Goes 35 := fun _ _ => by kernel_rfl
theorem goes_weight : Goes 61 := fun _ _ => by kernel_rfl
theorem goes_skip : Goes 44 := fun _ _ => by kernel_rfl
theorem nam_n (c : UInt8) : namB c = namN c.toNat := by
  unfold namB namN
  rw [let_n, dig_n, beq_n]
  rfl
theorem quo_n' (c : UInt8) : quoB c = quoN c.toNat := quo_n c
theorem wgt_n (c : UInt8) : wgtB c = wgtN c.toNat := by
  unfold wgtB wgtN
  rw [let_n, dig_n, beq_n, beq_n]
  rfl
theorem run_name (s : ByteArray) (hs : s.size ≤ maxLen) (a : Nat) (ha : a ≤ s.size) (w : World) : Calls Tryz.prog 31 #[.string s, .int .i64 a, .func (.func 32) #[] #[]] w fun e w' => e = .returned (.int .i64 (a + runP namB (s.data.toList.drop a) : Nat)) ∧ w = w' :=
  run_plain namB _ goes_name (fun c w => by rw [nam_n]; exact inname_n _ (b_lt c) w) s hs a ha w
theorem run_quote (s : ByteArray) (hs : s.size ≤ maxLen) (a : Nat) (ha : a ≤ s.size) (w : World) : Calls Tryz.prog 31 #[.string s, .int .i64 a, .func (.func 35) #[] #[]] w fun e w' => e = .returned (.int .i64 (a + runP quoB (s.data.toList.drop a) : Nat)) ∧ w = w' :=
  run_plain quoB _ goes_quote (fun c w => by rw [quo_n']; exact inquote_n _ (b_lt c) w) s hs a ha w
theorem run_weight (s : ByteArray) (hs : s.size ≤ maxLen) (a : Nat) (ha : a ≤ s.size) (w : World) : Calls Tryz.prog 31 #[.string s, .int .i64 a, .func (.func 61) #[] #[]] w fun e w' => e = .returned (.int .i64 (a + runP wgtB (s.data.toList.drop a) : Nat)) ∧ w = w' :=
  run_plain wgtB _ goes_weight (fun c w => by rw [wgt_n]; exact wgt1_n _ (b_lt c) w) s hs a ha w
/-! blanks and remarks -/
theorem skip1_n (r : Bool) (n : Nat) (hn : n < 256) (w : World) (g : Nat) (hg : Blk w g 4 #[.bool r]) : Calls Tryz.prog 44 #[.int .u8 n, .pointer (some ⟨g, 0, none⟩)] w fun e w' => e = .returned (.bool ((decide (n = 35) || (r && decide (n ≠ 10))) || decide (n = 32 ∨ n = 9 ∨ n = 13 ∨ n = 10))) ∧ w' = w.setCell ⟨g, 0, none⟩ (.bool (decide (n = 35) || (r && decide (n ≠ 10)))) := by
  have hb := blank_n n hn
  have c0 := hg.cell 0
  have f0 := hg.frozen 0
  have hlt := hg.lt
  generalize hz : decide (n = 32 ∨ n = 9 ∨ n = 13 ∨ n = 10) = z at *
  have HZ := Lib.hid hz
  clear hz
  by_cases h1 : n = 35
  · have k1 : ((n : Int) == 35) = true := by rw [beq_iff_eq]; omega
    have d1 : decide (n = 35) = true := decide_eq_true h1
    rw [d1]
    clear h1 d1
    go_enter Tryz.func44, Tryz.ntmps44
    go_wp2_with (go_at_call 45; refine (hb _).mono ?_; rintro e w2 ⟨rfl, rfl⟩)
    go_ret
    exact ⟨by simp, by simp⟩
  · have k1 : ((n : Int) == 35) = false := by rw [beq_eq_false_iff_ne]; omega
    have d1 : decide (n = 35) = false := decide_eq_false h1
    rw [d1]
    clear h1 d1
    by_cases h2 : n = 10
    · have k2 : ((n : Int) != 10) = false := by rw [bne_eq_false_iff_eq]; omega
      have d2 : decide (n ≠ 10) = false := decide_eq_false (by simpa using h2)
      rw [d2]
      clear h2 d2
      cases r
      all_goals
        go_enter Tryz.func44, Tryz.ntmps44
        go_wp2_with (go_at_call 45; refine (hb _).mono ?_; rintro e w2 ⟨rfl, rfl⟩)
        go_ret
        exact ⟨by simp, by simp⟩
    · have k2 : ((n : Int) != 10) = true := by rw [bne_iff_ne]; omega
      have d2 : decide (n ≠ 10) = true := decide_eq_true h2
      rw [d2]
      clear h2 d2
      cases r
      all_goals
        go_enter Tryz.func44, Tryz.ntmps44
        go_wp2_with (go_at_call 45; refine (hb _).mono ?_; rintro e w2 ⟨rfl, rfl⟩)
        go_ret
        exact ⟨by simp, by simp⟩
end Go.Proofs.YtjddjdpgnoebnaaGreatDoor.lx

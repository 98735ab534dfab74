import Derived.Test.YtdhkimlofhipaaaMtk
import Derived.Deep.RegionHeld3
import Derived.Deep.DeepCutAuto
namespace Go.Proofs.Ytdhkimlofhipaaa.mt
open Go.ChangeShapes Go.WideShapes Go.ChangeAt Go.RowKit
set_option linter.unusedVariables false
theorem bv_and (x y : Int) : (BitVec.ofInt 64 x &&& BitVec.ofInt 64 y).toNat = (x % 18446744073709551616).toNat &&& (y % 18446744073709551616).toNat := by
  rw [BitVec.toNat_and, BitVec.toNat_ofInt, BitVec.toNat_ofInt]; rfl
theorem and_nat (x : Int) (m j : Nat) (hm : m = 2 ^ j - 1) (hj : m < 4611686018427387904) (hd : (18446744073709551616 : Nat) % 2 ^ j = 0) : bits .and .i64 x (m : Int) = x % ((2 ^ j : Nat) : Int) := by
  have hp : 0 < 2 ^ j := Nat.two_pow_pos j
  show IntKind.i64.wrap ((BitVec.ofInt 64 x &&& BitVec.ofInt 64 (m : Int)).toNat : Int) = _
  rw [bv_and, Int.emod_eq_of_lt (show (0 : Int) ≤ (m : Int) by omega) (by omega), Int.toNat_natCast, hm, Nat.and_two_pow_sub_one_eq_mod]
  have hlt := Nat.mod_lt (x % 18446744073709551616).toNat hp
  rw [IntWalk.i64_in _ (by omega)]
  generalize hP : 2 ^ j = P at *
  obtain ⟨q, hq⟩ := Nat.dvd_of_mod_eq_zero hd
  have h0 := Int.emod_nonneg x (show (18446744073709551616 : Int) ≠ 0 by decide)
  have e : (((x % 18446744073709551616).toNat % P : Nat) : Int) = (x % 18446744073709551616) % (P : Int) := by
    rw [Int.natCast_emod, Int.toNat_of_nonneg h0]
  rw [e]
  exact Int.emod_emod_of_dvd x ⟨(q : Int), (congrArg (fun m : Nat => (m : Int)) hq).trans (Int.natCast_mul P q)⟩
theorem and255 (x : Int) : bits .and .i64 x 255 = x % 256 := and_nat x 255 8 (by decide) (by decide) (by decide)
theorem and4095 (x : Int) : bits .and .i64 x 4095 = x % 4096 := and_nat x 4095 12 (by decide) (by decide) (by decide)
theorem Blk.one {w : World} {g : Nat} {t : TypeId} {v : Value} (h : Blk w g t #[v]) : w.cell? ⟨g, 0, none⟩ = some v := h.cell 0
theorem MtAt.drew {w : World} {g : Nat} {l s : Int} (h : MtAt w g l s) : MtAt w.drew g l s := h
/-- how the outer work ends: what the law looks at then -/
def Out (w5 : World) (gm gj cm cj B D : Nat) (k n inner outer : Int) (lm lj : Int) (i b t : Bool) (s : Int) : Prop := (∃ sm, MtAt w5 gm lm sm) ∧ (∃ sj, MtAt w5 gj lj sj) ∧ Blk w5 cm 24 #[.pointer (some ⟨gm, 0, none⟩)] ∧ Blk w5 cj 24 #[.pointer (some ⟨gj, 0, none⟩)] ∧ Blk w5 B 3 #[.int .i64 k] ∧ Blk w5 (B + 1) 3 #[.int .i64 inner] ∧ Blk w5 (B + 1 + 1) 3 #[.int .i64 outer] ∧ Blk w5 D 4 #[.bool i] ∧ Blk w5 (D + 1) 4 #[.bool b] ∧ Blk w5 (D + 1 + 1) 4 #[.bool t] ∧ Blk w5 (D + 1 + 1 + 1) 3 #[.int .i64 s]
theorem nests_rest (w4 : World) (gm gj cm cj B D : Nat) (k n inner outer : Int) (h : In9 w4 cj (B + 1) cm (B + 1 + 1) B gj gm D k n inner outer) :
    (k < inner → Calls Try.prog 12 #[.pointer (some ⟨gm, 0, none⟩), .func (.func 19) #[] (Args9 cj (B + 1) cm (B + 1 + 1) B D)] w4 fun e w5 => e = .returned (.bool true) ∧ Out w5 gm gj cm cj B D k n inner outer n 0 false true false (heldI k) ∧ Kp (fun i => i = gj ∨ i = gm ∨ D ≤ i) w4 w5) ∧
    (inner ≤ k → n < outer → Calls Try.prog 12 #[.pointer (some ⟨gm, 0, none⟩), .func (.func 19) #[] (Args9 cj (B + 1) cm (B + 1 + 1) B D)] w4 fun e w5 => e = .returned (.bool false) ∧ Out w5 gm gj cm cj B D k n inner outer 0 (k - inner) false false false 0 ∧ Kp (fun i => i = gj ∨ i = gm ∨ D ≤ i) w4 w5) ∧
    (inner ≤ k → outer ≤ n → Calls Try.prog 12 #[.pointer (some ⟨gm, 0, none⟩), .func (.func 19) #[] (Args9 cj (B + 1) cm (B + 1 + 1) B D)] w4 fun e w5 => e = .returned (.bool true) ∧ Out w5 gm gj cm cj B D k n inner outer (n - outer) (k - inner) true true true inner ∧ Kp (fun i => i = gj ∨ i = gm ∨ D ≤ i) w4 w5) := by
  have hl := h.lt
  have hnj := h.i4.nj
  have hnm := h.i4.nm
  have hnk := h.nk
  have hs := h.i4.mm.1.lt
  have hs2 := h.i4.mj.1.lt
  have hs3 := h.vs.lt
  refine ⟨fun hik => ?_, fun hik hon => ?_, fun hik hon => ?_⟩
  · refine (run_done' w4 gm 19 _ (.tuple #[]) _ _ goes_n1 (fun W' kk => (n1_a W' cj _ cm _ B gj gm D k n inner outer (h.kept kk (fun _ _ => id)) hik))).mono fun e w5 ⟨he, ⟨h1, h2, h3, h4, h5, h6⟩, hk⟩ => ⟨he, ⟨⟨_, h2⟩, ⟨_, h1⟩, hk.blk h.i4.vm (by omega), hk.blk h.i4.vj (by omega), hk.blk h.vk (by omega), hk.blk h.i4.vi (by omega), hk.blk h.i4.vo (by omega), h3, h4, h5, h6⟩, hk⟩
  · refine (run_full2 w4 gm 19 _ [{ v := Full gm, recovered := true }] _ _ goes_n1 rfl (by omega) (fun W' kk => (n1_b W' cj _ cm _ B gj gm D k n inner outer (h.kept kk (fun _ _ => id)) hik hon))).mono fun e w5 ⟨he, hk, w1, ⟨h1, h2⟩, hb⟩ => ⟨he, ⟨⟨_, h2.kept (Kp.of_below hb) (by have := h2.1.lt; omega)⟩, ⟨_, h1.kept (Kp.of_below hb) (by have := h1.1.lt; omega)⟩, hk.blk h.i4.vm (by omega), hk.blk h.i4.vj (by omega), hk.blk h.vk (by omega), hk.blk h.i4.vi (by omega), hk.blk h.i4.vo (by omega), hk.blk h.vin (by omega), hk.blk h.vb (by omega), hk.blk h.vt (by omega), hk.blk h.vs (by omega)⟩, hk.mono (fun i hi => by omega)⟩
  · refine (run_done' w4 gm 19 _ (.tuple #[]) _ _ goes_n1 (fun W' kk => (n1_c W' cj _ cm _ B gj gm D k n inner outer (h.kept kk (fun _ _ => id)) hik hon))).mono fun e w5 ⟨he, ⟨h1, h2, h3, h4, h5, h6⟩, hk⟩ => ⟨he, ⟨⟨_, h2⟩, ⟨_, h1⟩, hk.blk h.i4.vm (by omega), hk.blk h.i4.vj (by omega), hk.blk h.vk (by omega), hk.blk h.i4.vi (by omega), hk.blk h.i4.vo (by omega), h3, h4, h5, h6⟩, hk⟩
/-- two meters and their variables -/
def Two (W wx : World) (gm gj cm cj : Nat) (n k : Int) : Prop := MtAt wx gm (heldI n) 0 ∧ MtAt wx gj (heldI k) 0 ∧ Blk wx cm 24 #[.pointer (some ⟨gm, 0, none⟩)] ∧ Blk wx cj 24 #[.pointer (some ⟨gj, 0, none⟩)] ∧ (W.heap.size ≤ gm ∧ W.heap.size ≤ gj ∧ W.heap.size ≤ cm ∧ W.heap.size ≤ cj) ∧ (gm ≠ gj ∧ gm ≠ cm ∧ gm ≠ cj ∧ gj ≠ cm ∧ gj ≠ cj ∧ cm ≠ cj) ∧ Kp No W wx
set_option maxRecDepth 100000 in
set_option maxHeartbeats 3200000 in
theorem nests_any (a b c d : Int) (w : World) : Calls Try.prog 5 #[.int .i64 a, .int .i64 b, .int .i64 c, .int .i64 d] w fun e w' => e = .returned (.bool true) ∧ Below w.heap.size w w' := by
  have hmf := mf
  have hb1 := and255 a
  have hb2 := and255 b
  have hb3 := and255 c
  have hb4 := and255 d
  go_enter Try.func5, Try.ntmps5
  go_wp2_with fail
  refine (alive_any _).mono ?_
  rintro e w1 ⟨rfl, hb⟩
  go_wp2_with fail
  have p1 : Blk w1 w.heap.size 3 #[.int .i64 b] := (((Blk.new' rfl).alloc _).alloc _).below hb (by simp)
  have p2 : Blk w1 (w.heap.size + 1) 3 #[.int .i64 c] := ((Blk.new' (by simp)).alloc _).below hb (by simp)
  have p3 : Blk w1 (w.heap.size + 1 + 1) 3 #[.int .i64 d] := (Blk.new' (by simp)).below hb (by simp)
  have c1 := p1.cell 0
  have c2 := p2.cell 0
  have c3 := p3.cell 0
  have f1 := p1.frozen 0
  have f2 := p2.frozen 0
  have f3 := p3.frozen 0
  go_region
  go_wp2_with fail
  have k0 : Kp (fun i => i = w.heap.size ∨ i = w.heap.size + 1 ∨ i = w.heap.size + 1 + 1) w1 (((w1.setCell ⟨w.heap.size, 0, none⟩ (.int .i64 (b % 256))).setCell ⟨w.heap.size + 1, 0, none⟩ (.int .i64 (c % 256))).setCell ⟨w.heap.size + 1 + 1, 0, none⟩ (.int .i64 (d % 256))).drew :=
    ((((kp1 w1 _ _).mono (fun i hi => .inl hi)).trans ((kp1 _ _ _).mono (fun i hi => .inr (.inl hi)))).trans ((kp1 _ _ _).mono (fun i hi => .inr (.inr hi)))).drew
  have q1 : Blk (((w1.setCell ⟨w.heap.size, 0, none⟩ (.int .i64 (b % 256))).setCell ⟨w.heap.size + 1, 0, none⟩ (.int .i64 (c % 256))).setCell ⟨w.heap.size + 1 + 1, 0, none⟩ (.int .i64 (d % 256))).drew w.heap.size 3 #[.int .i64 (b % 256)] := (((p1.set_ 0 (.int .i64 (b % 256))).far (by simp) _).far (by simp; omega) _).drew
  have q2 : Blk (((w1.setCell ⟨w.heap.size, 0, none⟩ (.int .i64 (b % 256))).setCell ⟨w.heap.size + 1, 0, none⟩ (.int .i64 (c % 256))).setCell ⟨w.heap.size + 1 + 1, 0, none⟩ (.int .i64 (d % 256))).drew (w.heap.size + 1) 3 #[.int .i64 (c % 256)] := (((p2.far (by simp) _).set_ 0 (.int .i64 (c % 256))).far (by simp) _).drew
  have q3 : Blk (((w1.setCell ⟨w.heap.size, 0, none⟩ (.int .i64 (b % 256))).setCell ⟨w.heap.size + 1, 0, none⟩ (.int .i64 (c % 256))).setCell ⟨w.heap.size + 1 + 1, 0, none⟩ (.int .i64 (d % 256))).drew (w.heap.size + 1 + 1) 3 #[.int .i64 (d % 256)] := (((p3.far (by simp; omega) _).far (by simp) _).set_ 0 (.int .i64 (d % 256))).drew
  generalize (((w1.setCell ⟨w.heap.size, 0, none⟩ (.int .i64 (b % 256))).setCell ⟨w.heap.size + 1, 0, none⟩ (.int .i64 (c % 256))).setCell ⟨w.heap.size + 1 + 1, 0, none⟩ (.int .i64 (d % 256))).drew = W at *
  clear c1 c2 c3 f1 f2 f3 p1 p2 p3 hb1 hb2 hb3 hb4
  have hA0 := Int.emod_nonneg a (show (256 : Int) ≠ 0 by decide)
  have hA1 := Int.emod_lt_of_pos a (show (0 : Int) < 256 by decide)
  have hB0 := Int.emod_nonneg b (show (256 : Int) ≠ 0 by decide)
  have hB1 := Int.emod_lt_of_pos b (show (0 : Int) < 256 by decide)
  have hC0 := Int.emod_nonneg c (show (256 : Int) ≠ 0 by decide)
  have hC1 := Int.emod_lt_of_pos c (show (0 : Int) < 256 by decide)
  have hD0 := Int.emod_nonneg d (show (256 : Int) ≠ 0 by decide)
  have hD1 := Int.emod_lt_of_pos d (show (0 : Int) < 256 by decide)
  generalize a % 256 = n at *
  generalize b % 256 = k at *
  generalize c % 256 = inner at *
  generalize d % 256 = outer at *
  have c1 := q1.cell 0
  have l1 := q1.lt
  have c1' : ∀ o, (W.alloc o).cell? ⟨w.heap.size, 0, none⟩ = some (.int .i64 k) := fun o => (q1.alloc o).cell 0
  go_cut [9, 10] (fun s9 s10 wx => ∃ gm gj cm cj : Nat, s9 = .pointer (some ⟨cm, 0, none⟩) ∧ s10 = .pointer (some ⟨cj, 0, none⟩) ∧ Two W wx gm gj cm cj n k)
  case first =>
    go_region_held3 (fun w' => w'.cell? ⟨w.heap.size, 0, none⟩ = some (.int .i64 k)) ((refine Blk.one (t := 3) ?_; repeat (first | exact q1 | apply Blk.drew | apply Blk.alloc | (refine Blk.far ?_ (by simp; omega) _))))
      (first | (go_at_call 8; refine (new_any _ _).mono ?_; rintro e wx ⟨rfl, rfl⟩))
    all_goals (go_wp2_with fail; go_meet)
    all_goals
      refine ⟨?_, ?_, _, _, rfl, rfl, ?_, ?_, ?_, ?_, ?_, ?_, ?_⟩
      any_goals (show Blk _ _ _ _; solve | (repeat (first | ((with_reducible refine Blk.new' ?_); (simp; done)) | (with_reducible apply Blk.drew) | (with_reducible apply Blk.alloc))))
      any_goals (show Kp _ _ _; exact ((((kp_new _ _).trans (kp_new _ _)).trans (kp_new _ _)).trans (kp_new _ _)).drew)
      any_goals (show MtAt _ _ _ _; solve | (repeat (first | ((with_reducible refine mt_new ?_); (simp; done)) | (with_reducible apply MtAt.drew) | (with_reducible apply MtAt.alloc))))
      any_goals omega
  case rest =>
    obtain ⟨gm, gj, cm, cj, rfl, rfl, t1, t2, t3, t4, t5, t6, t7⟩ := hcut
    have s1 := (((t7.blk q1 id).alloc (.cells #[.bool false] 4)).alloc (.cells #[.bool false] 4)).alloc (.cells #[.bool false] 4) |>.alloc (.cells #[.int .i64 0] 3)
    have s2 := (((t7.blk q2 id).alloc (.cells #[.bool false] 4)).alloc (.cells #[.bool false] 4)).alloc (.cells #[.bool false] 4) |>.alloc (.cells #[.int .i64 0] 3)
    have s3 := (((t7.blk q3 id).alloc (.cells #[.bool false] 4)).alloc (.cells #[.bool false] 4)).alloc (.cells #[.bool false] 4) |>.alloc (.cells #[.int .i64 0] 3)
    have s4 := (((t3.alloc (.cells #[.bool false] 4)).alloc (.cells #[.bool false] 4)).alloc (.cells #[.bool false] 4)).alloc (.cells #[.int .i64 0] 3)
    have s5 := (((t4.alloc (.cells #[.bool false] 4)).alloc (.cells #[.bool false] 4)).alloc (.cells #[.bool false] 4)).alloc (.cells #[.int .i64 0] 3)
    have s6 := (((t1.alloc (.cells #[.bool false] 4)).alloc (.cells #[.bool false] 4)).alloc (.cells #[.bool false] 4)).alloc (.cells #[.int .i64 0] 3)
    have s7 := (((t2.alloc (.cells #[.bool false] 4)).alloc (.cells #[.bool false] 4)).alloc (.cells #[.bool false] 4)).alloc (.cells #[.int .i64 0] 3)
    have s8 : Kp No wc ((((wc.alloc (.cells #[.bool false] 4)).alloc (.cells #[.bool false] 4)).alloc (.cells #[.bool false] 4)).alloc (.cells #[.int .i64 0] 3)) := (((kp_new _ _).trans (kp_new _ _)).trans (kp_new _ _)).trans (kp_new _ _)
    have s9 : Blk ((((wc.alloc (.cells #[.bool false] 4)).alloc (.cells #[.bool false] 4)).alloc (.cells #[.bool false] 4)).alloc (.cells #[.int .i64 0] 3)) wc.heap.size 4 #[.bool false] := (((Blk.new' rfl).alloc _).alloc _).alloc _
    have s10 : Blk ((((wc.alloc (.cells #[.bool false] 4)).alloc (.cells #[.bool false] 4)).alloc (.cells #[.bool false] 4)).alloc (.cells #[.int .i64 0] 3)) (wc.heap.size + 1) 4 #[.bool false] := ((Blk.new' (by simp)).alloc _).alloc _
    have s11 : Blk ((((wc.alloc (.cells #[.bool false] 4)).alloc (.cells #[.bool false] 4)).alloc (.cells #[.bool false] 4)).alloc (.cells #[.int .i64 0] 3)) (wc.heap.size + 1 + 1) 4 #[.bool false] := (Blk.new' (by simp)).alloc _
    have s12 : Blk ((((wc.alloc (.cells #[.bool false] 4)).alloc (.cells #[.bool false] 4)).alloc (.cells #[.bool false] 4)).alloc (.cells #[.int .i64 0] 3)) (wc.heap.size + 1 + 1 + 1) 3 #[.int .i64 0] := Blk.new' (by simp)
    have r1 := t1.1.lt
    have r2 := t2.1.lt
    have r3 := t3.lt
    have r4 := t4.lt
    have r5 := t7.size
    have r6 := q3.lt
    have e1 := s4.cell 0
    have hz : ((((wc.alloc (.cells #[.bool false] 4)).alloc (.cells #[.bool false] 4)).alloc (.cells #[.bool false] 4)).alloc (.cells #[.int .i64 0] 3)).heap.size = wc.heap.size + 1 + 1 + 1 + 1 := by simp
    rw [heldI_same ⟨hA0, by omega⟩] at s6
    rw [heldI_same ⟨hB0, by omega⟩] at s7
    have h9 : In9 _ cj (w.heap.size + 1) cm (w.heap.size + 1 + 1) w.heap.size gj gm wc.heap.size k n inner outer :=
      ⟨⟨s5, s2, s4, s3, s7, s6, by omega, by omega, by omega, hC0, hD0⟩, s1, s9, s10, s11, s12, by omega, by omega, ⟨hB0, by omega⟩⟩
    have HS := Lib.hid s8
    have HZ := Lib.hid hz
    have H9 := Lib.hid h9
    have HQ := Lib.hid t7
    clear h9 hz s8 s1 s2 s3 s4 s5 s6 s7 s9 s10 s11 s12 t1 t2 t3 t4 t7 c1 c1' q1 q2 q3
    go_wp2_with fail
    generalize (((wc.alloc (.cells #[.bool false] 4)).alloc (.cells #[.bool false] 4)).alloc (.cells #[.bool false] 4)).alloc (.cells #[.int .i64 0] 3) = w4 at *
    clear e1
    have HF := nests_rest w4 gm gj cm cj w.heap.size wc.heap.size k n inner outer H9.out
    obtain ⟨H1, H2, H3⟩ := HF
    by_cases hik : k < inner
    · refine (H1 hik).mono ?_
      rintro e w5 ⟨rfl, ⟨⟨sm1, o1⟩, ⟨sj1, o2⟩, o3, o4, o5, o6, o7, o8, o9, o10, o11⟩, hk5⟩
      rw [heldI_same ⟨hB0, by omega⟩] at o11
      have d3 := o3.cell 0
      have d4 := o4.cell 0
      have d5 := o5.cell 0
      have d6 := o6.cell 0
      have d7 := o7.cell 0
      have d8 := o8.cell 0
      have d9 := o9.cell 0
      have d10 := o10.cell 0
      have d11 := o11.cell 0
      have HB : Below w.heap.size w w5 := by
        have z0 := hb.size
        simp at z0
        have a1 : Below w.heap.size w w1 := ((((Below.refl w.heap.size w).alloc (Nat.le_refl _) _).alloc (by simp) _).alloc (by simp; omega) _).trans (hb.mono (by simp; omega))
        have a2 := below_kp a1 k0 (Nat.le_refl _) (by omega)
        have a3 := below_kp a2 HQ.out (Nat.le_refl _) (fun i _ h => h)
        have a4 := below_kp a3 HS.out (Nat.le_refl _) (fun i _ h => h)
        exact below_kp a4 hk5 (Nat.le_refl _) (by omega)
      clear H1 H2 H3 hk5 o3 o4 o5 o6 o7 o8 o9 o10 o11 hb k0
      go_wp2_with fail
      refine (left_any _ _ _ _ o1).mono ?_
      rintro e w6 ⟨rfl, rfl⟩
      go_wp2_with fail
      refine (left_any _ _ _ _ o2).mono ?_
      rintro e w6 ⟨rfl, rfl⟩
      go_wp2_with fail
      go_ret
      exact ⟨rfl, HB⟩
    have hik' : inner ≤ k := by omega
    by_cases hon : n < outer
    · refine (H2 hik' hon).mono ?_
      rintro e w5 ⟨rfl, ⟨⟨sm1, o1⟩, ⟨sj1, o2⟩, o3, o4, o5, o6, o7, o8, o9, o10, o11⟩, hk5⟩
      have d3 := o3.cell 0
      have d4 := o4.cell 0
      have d5 := o5.cell 0
      have d6 := o6.cell 0
      have d7 := o7.cell 0
      have d8 := o8.cell 0
      have d9 := o9.cell 0
      have d10 := o10.cell 0
      have d11 := o11.cell 0
      have HB : Below w.heap.size w w5 := by
        have z0 := hb.size
        simp at z0
        have a1 : Below w.heap.size w w1 := ((((Below.refl w.heap.size w).alloc (Nat.le_refl _) _).alloc (by simp) _).alloc (by simp; omega) _).trans (hb.mono (by simp; omega))
        have a2 := below_kp a1 k0 (Nat.le_refl _) (by omega)
        have a3 := below_kp a2 HQ.out (Nat.le_refl _) (fun i _ h => h)
        have a4 := below_kp a3 HS.out (Nat.le_refl _) (fun i _ h => h)
        exact below_kp a4 hk5 (Nat.le_refl _) (by omega)
      clear H1 H2 H3 hk5 o3 o4 o5 o6 o7 o8 o9 o10 o11 hb k0
      have L1 := fun nn => left_any (w5.drewN nn) gm _ _ o1
      have L2 := fun nn => left_any (w5.drewN nn) gj _ _ o2
      go_wp2_with fail
      go_quiet ((first | (go_at_call 9; exact Calls.quiet_of_same ((L1 _).mono fun _ _ h => ⟨h.1, h.2.symm⟩)) | (go_at_call 9; exact Calls.quiet_of_same ((L2 _).mono fun _ _ h => ⟨h.1, h.2.symm⟩))))
      clear L1 L2
      go_wp2_with fail
      go_ret
      exact ⟨rfl, below_drewN HB _⟩
    have hon' : outer ≤ n := by omega
    refine (H3 hik' hon').mono ?_
    rintro e w5 ⟨rfl, ⟨⟨sm1, o1⟩, ⟨sj1, o2⟩, o3, o4, o5, o6, o7, o8, o9, o10, o11⟩, hk5⟩
    have d3 := o3.cell 0
    have d4 := o4.cell 0
    have d5 := o5.cell 0
    have d6 := o6.cell 0
    have d7 := o7.cell 0
    have d8 := o8.cell 0
    have d9 := o9.cell 0
    have d10 := o10.cell 0
    have d11 := o11.cell 0
    have HB : Below w.heap.size w w5 := by
      have z0 := hb.size
      simp at z0
      have a1 : Below w.heap.size w w1 := ((((Below.refl w.heap.size w).alloc (Nat.le_refl _) _).alloc (by simp) _).alloc (by simp; omega) _).trans (hb.mono (by simp; omega))
      have a2 := below_kp a1 k0 (Nat.le_refl _) (by omega)
      have a3 := below_kp a2 HQ.out (Nat.le_refl _) (fun i _ h => h)
      have a4 := below_kp a3 HS.out (Nat.le_refl _) (fun i _ h => h)
      exact below_kp a4 hk5 (Nat.le_refl _) (by omega)
    clear H1 H2 H3 hk5 o3 o4 o5 o6 o7 o8 o9 o10 o11 hb k0
    have L1 := fun nn => left_any (w5.drewN nn) gm _ _ o1
    have L2 := fun nn => left_any (w5.drewN nn) gj _ _ o2
    go_wp2_with fail
    go_quiet ((first | (go_at_call 9; exact Calls.quiet_of_same ((L1 _).mono fun _ _ h => ⟨h.1, h.2.symm⟩)) | (go_at_call 9; exact Calls.quiet_of_same ((L2 _).mono fun _ _ h => ⟨h.1, h.2.symm⟩))))
    clear L1 L2
    go_wp2_with fail
    go_ret
    exact ⟨rfl, below_drewN HB _⟩
end Go.Proofs.Ytdhkimlofhipaaa.mt

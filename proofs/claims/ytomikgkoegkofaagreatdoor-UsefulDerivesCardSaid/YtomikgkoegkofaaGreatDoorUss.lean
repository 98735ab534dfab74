import Derived.Test.YtomikgkoegkofaaGreatDoorUsr
namespace Go.Proofs.YtomikgkoegkofaaGreatDoor.dv
open Go.ChangeShapes Go.WideShapes Go.ChangeAt Go.RowKit Go.Maps Go.WideMaps Go.WideElems
set_option linter.unusedVariables false
set_option linter.unusedSimpArgs false
/-! the closure of ways: a better way is taken -/
attribute [local go_sem] run_store_fl
theorem ways_alloc {w : World} {B m : Nat} {v : Value} {S : List Way} (h : WaysAt w B m v S) (o : Obj) : WaysAt (w.alloc o) B m v S := ⟨h.1, h.2.alloc o⟩
theorem row_lt {w : World} {B size g n cap : Nat} {e : TypeId} {xs : List Value} (h : w.ownsRow B e size (.slice (some ⟨g, 0, none⟩) n cap) n xs) : g < w.heap.size ∧ n ≤ cap ∧ cap ≤ maxLen := by
  rcases h.2 with ⟨h', _⟩ | ⟨g', cap', cur, h', _, hg, hnc, hcm, _⟩
  · cases h'
  · cases h'
    exact ⟨(Array.getElem?_eq_some_iff.1 hg).1, hnc, hcm⟩
theorem ways_lt {w : World} {B m : Nat} {v : Value} {S : List Way} (h : WaysAt w B m v S) : m < w.heap.size := by
  obtain ⟨⟨cap, rfl⟩, ho⟩ := h
  exact (row_lt ho).1
theorem ways_below {w w' : World} {B m : Nat} {v : Value} {S : List Way} (h : WaysAt w B m v S) (hb : Below w.heap.size w w') : WaysAt w' B m v S := ⟨h.1, ownsRow_keep h.2 (fun g hg _ => hb.block g hg)⟩
theorem ways_weak {w : World} {B B' m : Nat} {v : Value} {S : List Way} (h : WaysAt w B m v S) (hb : B' ≤ B) : WaysAt w B' m v S := ⟨h.1, own_weak h.2 hb⟩
theorem ways_cell {w : World} {B m cap : Nat} {S : List Way} (h : w.ownsRow B 57 3 (.slice (some ⟨m, 0, none⟩) S.length cap) S.length (WV S)) (i : Nat) (hi : i < S.length) : w.cell? ⟨m, i * 3, none⟩ = some (.int .i64 ((S.getD i noW).1 : Int)) ∧ w.cell? ⟨m, i * 3 + 1, none⟩ = some (.int .i64 ((S.getD i noW).2.1 : Int)) ∧ w.cell? ⟨m, i * 3 + 2, none⟩ = some (.int .i64 (S.getD i noW).2.2) := by
  obtain ⟨h1, h2, h3⟩ := wv_at S i hi
  exact ⟨(h.cellAt _ (by omega)).trans h1, (h.cellAt _ (by omega)).trans h2, (h.cellAt _ (by omega)).trans h3⟩
theorem zero_add_addr (m n : Nat) : (⟨m, 0, none⟩ : Addr).add n = ⟨m, n, none⟩ := by unfold Addr.add; by_cases h : n = 0 <;> simp [h]
theorem WaysAt.read {w : World} {B m : Nat} {v : Value} {S : List Way} (h : WaysAt w B m v S) : ReadW w v S := by
  have hlt := ways_lt h
  obtain ⟨⟨cap, rfl⟩, ho⟩ := h
  obtain ⟨_, h1, h2⟩ := row_lt ho
  refine ⟨_, cap, rfl, by omega, fun i hi => ⟨_, rfl, hlt, ?_⟩⟩
  obtain ⟨h1, h2, h3⟩ := ways_cell ho i hi
  rw [zero_add_addr, zero_add_addr, zero_add_addr]
  exact ⟨h1, h2, h3⟩
/-- the ways that the closure has: in a box, in block m, as they are made of one another -/
def StW (R : List Rl) (n B m bx : Nat) (S : List Way) (W : World) : Prop := Inv R n S ∧ bx < W.heap.size ∧ bx ≠ m ∧ ∃ v, W.heap[bx]? = some (.cells #[v] 54 (0, 0)) ∧ WaysAt W B m v S
theorem stW_alloc {R : List Rl} {n B m bx : Nat} {S : List Way} {W : World} (o : Obj) (h : StW R n B m bx S W) : StW R n B m bx S (W.alloc o) := by
  obtain ⟨h1, h3, h4, v, h5, h6⟩ := h
  exact ⟨h1, by rw [World.size_alloc]; omega, h4, v, (Below.heap_alloc W o bx h3).trans h5, ways_alloc h6 o⟩
theorem stW_below {R : List Rl} {n B m bx : Nat} {S : List Way} {W W' : World} (h : StW R n B m bx S W) (hb : Below W.heap.size W W') : StW R n B m bx S W' := by
  obtain ⟨h1, h3, h4, v, h5, h6⟩ := h
  exact ⟨h1, Nat.lt_of_lt_of_le h3 hb.size, h4, v, (hb.block bx h3).trans h5, ways_below h6 hb⟩
def muS (S : List Way) : Nat := (S.map fun x => x.1 * (Far + 1) + x.2.1).sum
theorem muS_set : ∀ (S : List Way) (k : Nat) (y : Way), k < S.length → ahd y (S.getD k noW) → y.2.1 ≤ Far → muS (S.set k y) < muS S
  | x :: S, 0, y, _, ha, hy => by
    unfold muS
    simp only [List.set_cons_zero, List.map_cons, List.sum_cons]
    unfold ahd at ha
    simp only [List.getD_cons_zero] at ha
    rcases ha with h | ⟨h, h2⟩
    · have : (y.1 + 1) * (Far + 1) ≤ x.1 * (Far + 1) := Nat.mul_le_mul_right _ h
      rw [Nat.add_mul, Nat.one_mul] at this
      omega
    · rw [h]; omega
  | x :: S, k + 1, y, hk, ha, hy => by
    have := muS_set S k y (by simpa using hk) (by simpa using ha) hy
    unfold muS at *
    simp only [List.set_cons_succ, List.map_cons, List.sum_cons]
    omega
theorem stW_mu {R : List Rl} {n B m bx : Nat} (X Y : List Way) (W : World) (h : StW R n B m bx X W) (k : StW R n B m bx Y W) : muS X = muS Y := by
  obtain ⟨h1, _, _, v, h5, ⟨c, hv⟩, h6⟩ := h
  obtain ⟨k1, _, _, u, k5, ⟨d, hu⟩, k6⟩ := k
  rw [h5] at k5
  cases k5
  subst hv
  have hl := h1.len
  have kl := k1.len
  have e : WV X = WV Y := by
    apply List.ext_getElem? 
    intro i
    by_cases hi : i < n * 3
    · have a := h6.cellAt i (by omega)
      have b' : W.cell? ⟨m, i, none⟩ = (WV Y)[i]? := by
        rw [hu] at k6
        exact k6.cellAt i (by omega)
      rw [← a, b']
    · rw [List.getElem?_eq_none (by rw [wv_len]; omega), List.getElem?_eq_none (by rw [wv_len]; omega)]
  rw [wv_inj _ _ e]
def SatW (R : List Rl) (S : List Way) (i : Nat) : Prop := ∀ r, R[i]? = some r → ¬ ahd (wayB S i r.right) (S.getD r.left.toNat noW)
theorem small_of {R : List Rl} {n : Nat} {S : List Way} (h : Inv R n S) : SmallW S := fun x => by
  unfold wat
  split
  · exact ⟨by decide, by decide⟩
  · exact h.small _
theorem wayB_steps (S : List Way) (i : Nat) (F : List Int) : (wayB S i F).2.1 ≤ Far := by
  unfold wayB
  split
  · exact Nat.le_refl _
  · exact Nat.min_le_right _ _
theorem goes_ways1 : Goes 65 := fun args w => enters_of Tryz.func65 (by kernel_rfl) rfl args w
set_option maxRecDepth 100000 in
set_option maxHeartbeats 4000000 in
theorem ways1_step (R : List Rl) (n B m bx B0 : Nat) (w : World) (hl : ∀ r ∈ R, 0 ≤ r.left ∧ r.left < n) (hlen : R.length ≤ maxLen) (hbm : B0 ≤ m) : StepP R 65 #[.pointer (some ⟨bx, 0, none⟩)] m (StW R n B m bx) muS (SatW R) (AtW R n) B0 w := by
  intro S i r ao cp W hbw hSt hat hrk hrow _
  obtain ⟨hI, hbx, hne, v, hbox, hmk⟩ := hSt
  obtain ⟨hl0, hl1⟩ := hl r (List.mem_of_getElem? hrk)
  have hil : i < R.length := (List.getElem?_eq_some_iff.1 hrk).1
  have hSl := hI.len
  have HSTEP := Lib.hid (fun ha => inv_step hI hrk hl0 (by omega) ha)
  have HPUT := Lib.hid (fun ha => hat.put hrk ha)
  have HKEEP := Lib.hid (fun ha => hat.keep hrk ha)
  have HI := Lib.hid hI
  have hsmall := small_of hI
  obtain ⟨lf, F, wt⟩ := r
  dsimp only at hl0 hl1 hrow
  obtain ⟨k, rfl⟩ : ∃ k : Nat, lf = k := ⟨lf.toNat, by omega⟩
  have hA : Below W.heap.size W (W.alloc (.cells #[.int .i64 k, .slice ao F.length cp, .float .f64 wt] 44)) := (Below.refl _ W).alloc (Nat.le_refl _) _
  have b0 := Blk.new W 44 #[.int .i64 k, .slice ao F.length cp, .float .f64 wt]
  have hbx2 : Blk W bx 54 #[v] := hbox
  have hwb := wayBy_any (W.alloc (.cells #[.int .i64 k, .slice ao F.length cp, .float .f64 wt] 44)) i ⟨k, F, wt⟩ ao cp v S (hrow.below hA) ((hmk.read).below hA) hsmall
  have c0 := b0.cell 0
  have c1 := b0.cell 1
  have c2 := b0.cell 2
  have c3 := (hbx2.below hA hbx).cell 0
  simp only [List.getElem?_toArray, List.getElem?_cons_zero, List.getElem?_cons_succ] at c0 c1 c2 c3
  have HMK := Lib.hid hmk
  have hmlt := ways_lt hmk
  have HBX := Lib.hid hbx2
  obtain ⟨⟨vc, rfl⟩, _⟩ := hmk
  have hkS : k < S.length := by omega
  unfold RlV at hwb ⊢
  have hST := wayB_steps S i F
  dsimp only at hwb
  have HW0 : Hid (∃ y, y = wayB S i F) := Lib.hid ⟨_, rfl⟩
  obtain ⟨y, hy⟩ := HW0.out
  rw [← hy] at hwb hST
  have HY := Lib.hid hy
  have HSL := Lib.hid hSl
  clear hy HW0 hbox hbx2 hI hsmall hrow hSl hl hbw hat
  obtain ⟨y1, y2, y3⟩ := y
  unfold WayV at hwb
  dsimp only at hwb hST
  go_enter Tryz.func65, Tryz.ntmps65
  go_wp2_with fail
  refine hwb.mono ?_
  rintro e w2 ⟨rfl, hb2⟩
  have hW2 := hA.trans (hb2.mono (by simp))
  have hz2 : W.heap.size < w2.heap.size := by have := hb2.size; simp at this; omega
  have bn := Blk.new w2 57 #[.int .i64 y1, .int .i64 y2, .int .i64 y3]
  have hW3 : Below W.heap.size W (w2.alloc (.cells #[.int .i64 y1, .int .i64 y2, .int .i64 y3] 57)) := hW2.alloc hW2.size _
  have br := (b0.below hb2 (by simp)).alloc (.cells #[.int .i64 y1, .int .i64 y2, .int .i64 y3] 57)
  have bb := HBX.out.below hW3 hbx
  have hmk3 := ways_below HMK.out hW3
  obtain ⟨q0, q1, q2⟩ := ways_cell hmk3.2 k hkS
  have HZ2 := Lib.hid hz2
  have e0 := bn.cell 0
  have e1 := bn.cell 1
  have e2 := bn.cell 2
  have d0 := br.cell 0
  have g0 := bb.cell 0
  simp only [List.getElem?_toArray, List.getElem?_cons_zero, List.getElem?_cons_succ] at e0 e1 e2 d0 g0
  have HMK3 := Lib.hid hmk3
  clear hmk3 hwb c0 c1 c2 c3 hz2
  have HO : Hid (∃ z, z = S.getD k noW) := Lib.hid ⟨_, rfl⟩
  obtain ⟨z, hz⟩ := HO.out
  rw [← hz] at q0 q1 q2
  have HZ := Lib.hid hz
  clear hz HO
  obtain ⟨z1, z2, z3⟩ := z
  dsimp only at q0 q1 q2
  have hah := fun W' => ahead_any W' (y1, y2, y3) (z1, z2, z3)
  unfold WayV at hah
  dsimp only at hah
  have HAH := Lib.hid hah
  have hk2 : (k : Int) < (S.length : Int) := by omega
  have hk0 : (0 : Int) ≤ (k : Int) := by omega
  clear hah
  go_wp2
  refine wp_region_E (fun U => (U.cell? ⟨w2.heap.size, 0, none⟩ = some (.int .i64 y1) ∧ U.cell? ⟨w2.heap.size, 1, none⟩ = some (.int .i64 y2) ∧ U.cell? ⟨w2.heap.size, 2, none⟩ = some (.int .i64 y3)) ∧ U.cell? ⟨bx, 0, none⟩ = some (.slice (some ⟨m, 0, none⟩) S.length vc) ∧ U.cell? ⟨W.heap.size, 0, none⟩ = some (.int .i64 k) ∧ (U.cell? ⟨m, k * 3, none⟩ = some (.int .i64 z1) ∧ U.cell? ⟨m, k * 3 + 1, none⟩ = some (.int .i64 z2) ∧ U.cell? ⟨m, k * 3 + 2, none⟩ = some (.int .i64 z3))) [6, 7] (by kernel_rfl) ?_
  have HS : _ := And.intro (And.intro (DRC _ _ _ e0) (And.intro (DRC _ _ _ e1) (DRC _ _ _ e2))) (And.intro (DRC _ _ _ g0) (And.intro (DRC _ _ _ d0) (And.intro (DRC _ _ _ q0) (And.intro (DRC _ _ _ q1) (DRC _ _ _ q2)))))
  change anyE _ _ _ _ _ _ _ _ _ (World.drew _)
  refine anyE_take (i := 2) (v := ?_) rfl (by kernel_rfl) (by kernel_rfl) (by kernel_rfl) (by kernel_rfl) (by kernel_rfl) (fun _ _ _ h => h) (Or.inl ⟨by kernel_rfl, ?_⟩) HS ?_
  rotate_left
  · intro w _; go_simp; with_reducible rfl
  refine anyE_take (i := 0) (v := ?_) rfl (by kernel_rfl) (by kernel_rfl) (by kernel_rfl) (by kernel_rfl) (by kernel_rfl) (fun _ _ _ h => h) (Or.inl ⟨by kernel_rfl, ?_⟩) HS ?_
  rotate_left
  · intro w hw; have hw := hw.1; go_simp; with_reducible rfl
  refine anyE_take (i := 1) (v := ?_) rfl (by kernel_rfl) (by kernel_rfl) (by kernel_rfl) (by kernel_rfl) (by kernel_rfl) (fun _ _ _ h => h) (Or.inl ⟨by kernel_rfl, ?_⟩) HS ?_
  rotate_left
  · intro w hw; have hw := hw.2.1; go_simp; with_reducible rfl
  refine anyE_take (i := 3) (v := ?_) rfl (by kernel_rfl) (by kernel_rfl) (by kernel_rfl) (by kernel_rfl) (by kernel_rfl) (fun _ _ _ h => h) (Or.inl ⟨by kernel_rfl, ?_⟩) HS ?_
  rotate_left
  · intro w hw; have hw := hw.2.2.1; go_simp; with_reducible rfl
  refine anyE_take (i := 4) (v := ?_) rfl (by kernel_rfl) (by kernel_rfl) (by kernel_rfl) (by kernel_rfl) (by kernel_rfl) (fun _ _ _ h => h) (Or.inl ⟨by kernel_rfl, ?_⟩) HS ?_
  rotate_left
  · intro w _; go_simp; with_reducible rfl
  refine anyE_take (i := 5) (v := ?_) rfl (by kernel_rfl) (by kernel_rfl) (by kernel_rfl) (by kernel_rfl) (by kernel_rfl) (fun _ _ _ h => h) (Or.inl ⟨by kernel_rfl, ?_⟩) HS ?_
  rotate_left
  · intro w hw; have hw := hw.2.2.2; go_simp; with_reducible rfl
  refine anyE_rest (by kernel_rfl) ?_
  refine wpAny_ready (rs := [6]) (by kernel_rfl) (by simp) ?_
  refine AllReady.cons rfl (fun K hK => ?_) AllReady.nil
  go_simp
  go_at_call 67
  refine (HAH.out _).mono ?_
  rintro e w5 ⟨⟨b, rfl, hbb⟩, hb5⟩
  refine hK _ _ ?_
  clear hK K
  refine wpAny_ready (rs := [7]) (by kernel_rfl) (by simp) ?_
  refine AllReady.cons rfl (fun K hK => ?_) AllReady.nil
  go_simp
  refine hK _ _ ?_
  clear hK K
  refine wpAny_done (by kernel_rfl) ?_ _
  have hW5 : Below W.heap.size W w5 := hW3.drew.trans (hb5.mono (by show W.heap.size ≤ (w2.alloc _).heap.size; simp; have := HZ2.out; omega))
  have HB5 := Lib.hid hW5
  cases b
  · have hno : ¬ ahd (y1, y2, y3) (z1, z2, z3) := fun h => by have := hbb.2 h; cases this
    have HNO := Lib.hid hno
    clear hno hbb
    go_wp2
    go_ret
    refine ⟨grown_below HB5.out _, .inr ⟨rfl, stW_below ⟨HI.out, hbx, hne, _, HBX.out, HMK.out⟩ HB5.out, fun q hq => ?_, ?_⟩⟩
    · rw [hrk] at hq
      cases hq
      have h := HNO.out
      rw [HY.out, HZ.out] at h
      simpa using h
    · refine HKEEP.out ?_
      have h := HNO.out
      rw [HY.out, HZ.out] at h
      simpa using h
  · have HYES := Lib.hid (hbb.1 rfl)
    have mk5 := ways_below HMK.out hW5
    have f0 := mk5.2.frozenAt (k * 3)
    have f1 := mk5.2.frozenAt (k * 3 + 1)
    have f2 := mk5.2.frozenAt (k * 3 + 2)
    have bn5 := (show Blk (World.drew (w2.alloc (.cells #[.int .i64 y1, .int .i64 y2, .int .i64 y3] 57))) w2.heap.size 57 #[.int .i64 y1, .int .i64 y2, .int .i64 y3] from bn).below hb5 (by show w2.heap.size < (w2.alloc _).heap.size; simp)
    have br5 := (show Blk (World.drew (w2.alloc (.cells #[.int .i64 y1, .int .i64 y2, .int .i64 y3] 57))) W.heap.size 44 #[.int .i64 k, .slice ao F.length cp, .float .f64 wt] from br).below hb5 (by show W.heap.size < (w2.alloc _).heap.size; simp; have := HZ2.out; omega)
    have bb5 := HBX.out.below hW5 hbx
    have p0 := bn5.cell 0
    have p1 := bn5.cell 1
    have p2 := bn5.cell 2
    have p3 := br5.cell 0
    have p4 := bb5.cell 0
    obtain ⟨r0, r1, r2⟩ := ways_cell mk5.2 k hkS
    simp only [List.getElem?_toArray, List.getElem?_cons_zero, List.getElem?_cons_succ] at p0 p1 p2 p3 p4
    rw [← HZ.out] at r0 r1 r2
    dsimp only at r0 r1 r2
    obtain ⟨s1, t1⟩ := mk5.2.stored (k * 3) (.int .i64 y1)
    obtain ⟨s2, t2⟩ := s1.stored (k * 3 + 1) (.int .i64 y2)
    obtain ⟨s3, t3⟩ := s2.stored (k * 3 + 2) (.int .i64 y3)
    rw [wv_set S k (y1, y2, y3) hkS] at s3
    have HS3 := Lib.hid s3
    have HT := Lib.hid ((grown_below hW5 (some m)).trans (t1.trans (t2.trans t3)))
    clear s1 s2 s3 t1 t2 t3 hbb mk5 HS hW5
    go_wp2
    go_ret
    have hy := HY.out
    have hz := HZ.out
    have ha := HYES.out
    rw [hy, hz] at ha
    have hi := HSTEP.out (by simpa using ha)
    rw [Int.toNat_natCast, ← hy] at hi
    have hp := HPUT.out (by simpa using ha)
    rw [Int.toNat_natCast, ← hy] at hp
    have hgr := HT.out
    refine ⟨hgr, .inl ⟨rfl, S.set k (y1, y2, y3), ⟨hi, Nat.lt_of_lt_of_le hbx hgr.size, hne, _, (hgr.block bx hbx (fun e => hne (Option.some.inj e))).trans HBX.out, ⟨vc, by simp⟩, by simpa using HS3.out⟩, ?_, hp⟩⟩
    exact muS_set S k _ hkS (by rw [hy]; exact ha) hST
end Go.Proofs.YtomikgkoegkofaaGreatDoor.dv

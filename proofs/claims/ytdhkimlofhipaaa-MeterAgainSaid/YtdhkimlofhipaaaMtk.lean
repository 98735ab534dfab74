import Derived.Test.YtdhkimlofhipaaaMtj
namespace Go.Proofs.Ytdhkimlofhipaaa.mt
open Go.ChangeShapes Go.WideShapes Go.ChangeAt Go.RowKit
set_option linter.unusedVariables false
theorem goes_n1 : Goes 19 := fun _ _ => by kernel_rfl
theorem goes_n11 : Goes 20 := fun _ _ => by kernel_rfl
theorem goes_n12 : Goes 22 := fun _ _ => by kernel_rfl
theorem run_full2 (w : World) (g f : Nat) (cap : Array Value) (older : List PanicEntry) (R : World → Prop) (S : Nat → Prop) (hgo : Goes f) (hold : older.dropWhile (fun e => !e.goexit) = []) (hS : ¬ S w.heap.size) (hc : ∀ W, Kp No w W → Calls Try.prog f cap W fun e w' => e = .panicked ({ v := Full g, recovered := false } :: older) ∧ (R w' ∧ Kp S W w')) : Calls Try.prog 12 #[.pointer (some ⟨g, 0, none⟩), .func (.func f) #[] cap] w fun e w' => e = .returned (.bool false) ∧ Kp S w w' ∧ ∃ w1, R w1 ∧ Below w1.heap.size w1 w' :=
  (run_full w g f cap older _ hgo hold (fun w' ⟨_, hk⟩ => (hk.blk (Blk.new' rfl) hS).cell 0) (hc _ (kp_new _ _))).mono fun e w' ⟨he, w1, ⟨hr, hk⟩, hb⟩ =>
    ⟨he, (((kp_new w _).mono (fun _ h => h.elim)).trans hk).then_ (Kp.of_below hb) (fun i hi => .inr (Nat.le_trans (by rw [World.size_alloc]; omega) (Nat.le_trans hk.size hi))), w1, hr, hb⟩
theorem run_past' (w : World) (g j f : Nat) (hj : j ≠ g) (cap : Array Value) (R : World → Prop) (S : Nat → Prop) (hgo : Goes f) (hS : ¬ S w.heap.size) (hR : ∀ w', R w' → (∃ cg, Blk w' g 39 cg) ∧ (∃ cj, Blk w' j 39 cj)) (hc : ∀ W, Kp No w W → Calls Try.prog f cap W fun e w' => e = .panicked [{ v := Full j, recovered := false }] ∧ (R w' ∧ Kp S W w')) : Calls Try.prog 12 #[.pointer (some ⟨g, 0, none⟩), .func (.func f) #[] cap] w fun e w' => e = .panicked [{ v := Full j, recovered := false }, { v := Full j, recovered := true }] ∧ Kp S w w' ∧ ∃ w1, R w1 ∧ Below w1.heap.size w1 w' :=
  (run_past w g j f hj cap [] _ hgo (fun w' ⟨hr, hk⟩ => ⟨(hk.blk (Blk.new' rfl) hS).cell 0, hR _ hr⟩) (hc _ (kp_new _ _))).mono fun e w' ⟨he, w1, ⟨hr, hk⟩, hb⟩ =>
    ⟨he, (((kp_new w _).mono (fun _ h => h.elim)).trans hk).then_ (Kp.of_below hb) (fun i hi => .inr (Nat.le_trans (by rw [World.size_alloc]; omega) (Nat.le_trans hk.size hi))), w1, hr, hb⟩
theorem up_pos {n : Int} (h : 0 ≤ n) : up n = n := by unfold up; split <;> omega
/-- the variables of the inner work -/
structure In4 (W : World) (cj ci cm co gj gm : Nat) (k n inner outer : Int) : Prop where
  vj : Blk W cj 24 #[.pointer (some ⟨gj, 0, none⟩)]
  vi : Blk W ci 3 #[.int .i64 inner]
  vm : Blk W cm 24 #[.pointer (some ⟨gm, 0, none⟩)]
  vo : Blk W co 3 #[.int .i64 outer]
  mj : MtAt W gj k 0
  mm : MtAt W gm n 0
  ne : gj ≠ gm
  nj : cj ≠ gj ∧ ci ≠ gj ∧ cm ≠ gj ∧ co ≠ gj
  nm : cj ≠ gm ∧ ci ≠ gm ∧ cm ≠ gm ∧ co ≠ gm
  i0 : 0 ≤ inner
  o0 : 0 ≤ outer
theorem In4.kept {S : Nat → Prop} {W W' : World} {cj ci cm co gj gm : Nat} {k n inner outer : Int} (h : In4 W cj ci cm co gj gm k n inner outer) (kp : Kp S W W') (hS : ∀ i, i < W.heap.size → ¬ S i) : In4 W' cj ci cm co gj gm k n inner outer :=
  ⟨kp.blk h.vj (hS _ h.vj.lt), kp.blk h.vi (hS _ h.vi.lt), kp.blk h.vm (hS _ h.vm.lt), kp.blk h.vo (hS _ h.vo.lt), h.mj.kept kp (hS _ h.mj.1.lt), h.mm.kept kp (hS _ h.mm.1.lt), h.ne, h.nj, h.nm, h.i0, h.o0⟩
set_option maxRecDepth 100000 in
theorem n11_a (W : World) (cj ci cm co gj gm : Nat) (k n inner outer : Int) (h : In4 W cj ci cm co gj gm k n inner outer) (hik : k < inner) : Calls Try.prog 20 #[.pointer (some ⟨cj, 0, none⟩), .pointer (some ⟨ci, 0, none⟩), .pointer (some ⟨cm, 0, none⟩), .pointer (some ⟨co, 0, none⟩)] W fun e w' => e = .panicked [{ v := Full gj, recovered := false }] ∧ (MtAt w' gj 0 (0 + k) ∧ Kp (fun i => i = gj) W w') := by
  have hs := spend_full W gj k 0 inner h.mj hik
  have c1 := h.vj.cell 0
  have c2 := h.vi.cell 0
  clear h
  go_enter Try.func20, Try.ntmps20
  go_wp2_with fail
  refine hs.mono ?_
  rintro e w1 ⟨rfl, hm1, hk1⟩
  clear hs
  go_wp2_with fail
  exact ⟨rfl, rfl, hm1, hk1⟩
set_option maxRecDepth 100000 in
theorem n11_b (W : World) (cj ci cm co gj gm : Nat) (k n inner outer : Int) (h : In4 W cj ci cm co gj gm k n inner outer) (hik : inner ≤ k) (hon : n < outer) : Calls Try.prog 20 #[.pointer (some ⟨cj, 0, none⟩), .pointer (some ⟨ci, 0, none⟩), .pointer (some ⟨cm, 0, none⟩), .pointer (some ⟨co, 0, none⟩)] W fun e w' => e = .panicked [{ v := Full gm, recovered := false }] ∧ ((MtAt w' gj (k - inner) (0 + inner) ∧ MtAt w' gm 0 (0 + n)) ∧ Kp (fun i => i = gj ∨ i = gm) W w') := by
  have hs := spend_ok W gj k 0 inner h.mj (by rw [up_pos h.i0]; exact hik)
  rw [up_pos h.i0] at hs
  have c1 := h.vj.cell 0
  have c2 := h.vi.cell 0
  have H := Lib.hid h
  clear h
  go_enter Try.func20, Try.ntmps20
  go_wp2_with fail
  refine hs.mono ?_
  rintro e w1 ⟨rfl, hm1, hk1⟩
  clear hs c1 c2
  have h := H.out
  have c3 := (hk1.blk h.vm h.nj.2.2.1).cell 0
  have c4 := (hk1.blk h.vo h.nj.2.2.2).cell 0
  have hs := spend_full w1 gm n 0 outer (h.mm.kept hk1 h.ne.symm) hon
  clear h
  go_wp2_with fail
  refine hs.mono ?_
  rintro e w2 ⟨rfl, hm2, hk2⟩
  clear hs
  go_wp2_with fail
  exact ⟨rfl, rfl, ⟨hm1.kept hk2 H.out.ne, hm2⟩, (hk1.mono (fun i hi => .inl hi)).trans (hk2.mono (fun i hi => .inr hi))⟩
set_option maxRecDepth 100000 in
theorem n11_c (W : World) (cj ci cm co gj gm : Nat) (k n inner outer : Int) (h : In4 W cj ci cm co gj gm k n inner outer) (hik : inner ≤ k) (hon : outer ≤ n) : Calls Try.prog 20 #[.pointer (some ⟨cj, 0, none⟩), .pointer (some ⟨ci, 0, none⟩), .pointer (some ⟨cm, 0, none⟩), .pointer (some ⟨co, 0, none⟩)] W fun e w' => e = .returned (.tuple #[]) ∧ ((MtAt w' gj (k - inner) (0 + inner) ∧ MtAt w' gm (n - outer) (0 + outer)) ∧ Kp (fun i => i = gj ∨ i = gm) W w') := by
  have hs := spend_ok W gj k 0 inner h.mj (by rw [up_pos h.i0]; exact hik)
  rw [up_pos h.i0] at hs
  have c1 := h.vj.cell 0
  have c2 := h.vi.cell 0
  have H := Lib.hid h
  clear h
  go_enter Try.func20, Try.ntmps20
  go_wp2_with fail
  refine hs.mono ?_
  rintro e w1 ⟨rfl, hm1, hk1⟩
  clear hs c1 c2
  have h := H.out
  have c3 := (hk1.blk h.vm h.nj.2.2.1).cell 0
  have c4 := (hk1.blk h.vo h.nj.2.2.2).cell 0
  have hs := spend_ok w1 gm n 0 outer (h.mm.kept hk1 h.ne.symm) (by rw [up_pos h.o0]; exact hon)
  rw [up_pos h.o0] at hs
  clear h
  go_wp2_with fail
  refine hs.mono ?_
  rintro e w2 ⟨rfl, hm2, hk2⟩
  clear hs
  go_wp2_with fail
  refine bodyPost_end (results_none rfl _ _ _) rfl ?_
  exact ⟨rfl, ⟨hm1.kept hk2 H.out.ne, hm2⟩, (hk1.mono (fun i hi => .inl hi)).trans (hk2.mono (fun i hi => .inr hi))⟩
set_option maxRecDepth 100000 in
theorem n12_ok (W : World) (g ci : Nat) (l inner : Int) (hm : MtAt W g l 0) (hv : Blk W ci 3 #[.int .i64 inner]) (h0 : 0 ≤ inner) (hi : inner ≤ l) : Calls Try.prog 22 #[.pointer (some ⟨g, 0, none⟩), .pointer (some ⟨ci, 0, none⟩)] W fun e w' => e = .returned (.tuple #[]) ∧ (MtAt w' g (l - inner) (0 + inner) ∧ Kp (fun i => i = g) W w') := by
  have hs := spend_ok W g l 0 inner hm (by rw [up_pos h0]; exact hi)
  rw [up_pos h0] at hs
  have c2 := hv.cell 0
  go_enter Try.func22, Try.ntmps22
  go_wp2_with fail
  refine hs.mono ?_
  rintro e w1 ⟨rfl, hm1, hk1⟩
  clear hs
  go_wp2_with fail
  refine bodyPost_end (results_none rfl _ _ _) rfl ?_
  exact ⟨rfl, hm1, hk1⟩
set_option maxRecDepth 100000 in
theorem n12_full (W : World) (g ci : Nat) (l inner : Int) (hm : MtAt W g l 0) (hv : Blk W ci 3 #[.int .i64 inner]) (hi : l < inner) : Calls Try.prog 22 #[.pointer (some ⟨g, 0, none⟩), .pointer (some ⟨ci, 0, none⟩)] W fun e w' => e = .panicked [{ v := Full g, recovered := false }] ∧ (MtAt w' g 0 (0 + l) ∧ Kp (fun i => i = g) W w') := by
  have hs := spend_full W g l 0 inner hm hi
  have c2 := hv.cell 0
  go_enter Try.func22, Try.ntmps22
  go_wp2_with fail
  refine hs.mono ?_
  rintro e w1 ⟨rfl, hm1, hk1⟩
  clear hs
  go_wp2_with fail
  exact ⟨rfl, rfl, hm1, hk1⟩
/-- the variables of the outer work -/
structure In9 (W : World) (cj ci cm co ck gj gm D : Nat) (k n inner outer : Int) : Prop where
  i4 : In4 W cj ci cm co gj gm k n inner outer
  vk : Blk W ck 3 #[.int .i64 k]
  vin : Blk W D 4 #[.bool false]
  vb : Blk W (D + 1) 4 #[.bool false]
  vt : Blk W (D + 1 + 1) 4 #[.bool false]
  vs : Blk W (D + 1 + 1 + 1) 3 #[.int .i64 0]
  lt : cj < D ∧ ci < D ∧ cm < D ∧ co < D ∧ ck < D ∧ gj < D ∧ gm < D
  nk : ck ≠ gj ∧ ck ≠ gm
  k0 : 0 ≤ k ∧ k ≤ 255
theorem In9.kept {S : Nat → Prop} {W W' : World} {cj ci cm co ck gj gm D : Nat} {k n inner outer : Int} (h : In9 W cj ci cm co ck gj gm D k n inner outer) (kp : Kp S W W') (hS : ∀ i, i < W.heap.size → ¬ S i) : In9 W' cj ci cm co ck gj gm D k n inner outer :=
  ⟨h.i4.kept kp hS, kp.blk h.vk (hS _ h.vk.lt), kp.blk h.vin (hS _ h.vin.lt), kp.blk h.vb (hS _ h.vb.lt), kp.blk h.vt (hS _ h.vt.lt), kp.blk h.vs (hS _ h.vs.lt), h.lt, h.nk, h.k0⟩
theorem heldI_same {k : Int} (h : 0 ≤ k ∧ k ≤ 255) : heldI k = k := by unfold heldI; split <;> (try split) <;> omega
def Args9 (cj ci cm co ck D : Nat) : Array Value := #[.pointer (some ⟨cj, 0, none⟩), .pointer (some ⟨ci, 0, none⟩), .pointer (some ⟨cm, 0, none⟩), .pointer (some ⟨co, 0, none⟩), .pointer (some ⟨D, 0, none⟩), .pointer (some ⟨D + 1, 0, none⟩), .pointer (some ⟨ck, 0, none⟩), .pointer (some ⟨D + 1 + 1 + 1, 0, none⟩), .pointer (some ⟨D + 1 + 1, 0, none⟩)]
set_option maxRecDepth 100000 in
set_option maxHeartbeats 800000 in
theorem n1_a (W : World) (cj ci cm co ck gj gm D : Nat) (k n inner outer : Int) (h : In9 W cj ci cm co ck gj gm D k n inner outer) (hik : k < inner) : Calls Try.prog 19 (Args9 cj ci cm co ck D) W fun e w' => e = .returned (.tuple #[]) ∧ ((MtAt w' gj 0 (0 + k) ∧ MtAt w' gm n 0 ∧ Blk w' D 4 #[.bool false] ∧ Blk w' (D + 1) 4 #[.bool true] ∧ Blk w' (D + 1 + 1) 4 #[.bool false] ∧ Blk w' (D + 1 + 1 + 1) 3 #[.int .i64 (heldI k)]) ∧ Kp (fun i => i = gj ∨ i = gm ∨ D ≤ i) W w') := by
  have hmf := mf
  unfold Args9
  have c1 := h.i4.vj.cell 0
  have hgj := h.i4.mj.1.lt
  have hr := run_full' W gj 20 _ (fun w' => MtAt w' gj 0 (0 + k)) (fun i => i = gj) goes_n11 (by omega) (fun W' kk => (n11_a W' cj ci cm co gj gm k n inner outer (h.i4.kept kk (fun _ _ => id)) hik).mono fun e w' ⟨he, h1, h2⟩ => ⟨he, h1, h2⟩)
  have H := Lib.hid h
  clear h
  go_enter Try.func19, Try.ntmps19
  go_wp2_with fail
  refine hr.mono ?_
  rintro e w1 ⟨rfl, hk, w1', h1, hbb⟩
  have m1 := h1.kept (Kp.of_below hbb) (by have := h1.1.lt; omega)
  clear hbb h1 hr c1
  have h := H.out
  have m2 := h.i4.mm.kept hk h.i4.ne.symm
  have v1 := hk.blk h.vin (by have := h.lt; omega)
  have v2 := hk.blk h.vb (by have := h.lt; omega)
  have v3 := hk.blk h.vt (by have := h.lt; omega)
  have v4 := hk.blk h.vs (by have := h.lt; omega)
  have v5 := hk.blk h.vk (by have := h.nk; omega)
  have v6 := hk.blk h.i4.vi (by have := h.i4.nj; have := h.i4.nm; omega)
  have hl := h.lt
  have hk0 := h.k0
  have hi0 := h.i4.i0
  have c1 := v1.cell 0
  have c2 := v2.cell 0
  have f1 := v1.frozen 0
  have f2 := v2.frozen 0
  have u1 : Blk ((w1.setCell ⟨D, 0, none⟩ (.bool false)).setCell ⟨D + 1, 0, none⟩ (.bool true)) D 4 #[.bool false] := (v1.set_ 0 (.bool false)).far (by simp) _
  have u2 : Blk ((w1.setCell ⟨D, 0, none⟩ (.bool false)).setCell ⟨D + 1, 0, none⟩ (.bool true)) (D + 1) 4 #[.bool true] := (v2.far (by simp) _).set_ 0 (.bool true)
  have u3 : Blk ((w1.setCell ⟨D, 0, none⟩ (.bool false)).setCell ⟨D + 1, 0, none⟩ (.bool true)) (D + 1 + 1) 4 #[.bool false] := (v3.far (by simp; omega) _).far (by simp) _
  have u4 : Blk ((w1.setCell ⟨D, 0, none⟩ (.bool false)).setCell ⟨D + 1, 0, none⟩ (.bool true)) (D + 1 + 1 + 1) 3 #[.int .i64 0] := (v4.far (by simp; omega) _).far (by simp; omega) _
  have u5 : Blk ((w1.setCell ⟨D, 0, none⟩ (.bool false)).setCell ⟨D + 1, 0, none⟩ (.bool true)) ck 3 #[.int .i64 k] := (v5.far (by simp; omega) _).far (by simp; omega) _
  have u6 : Blk ((w1.setCell ⟨D, 0, none⟩ (.bool false)).setCell ⟨D + 1, 0, none⟩ (.bool true)) ci 3 #[.int .i64 inner] := (v6.far (by simp; omega) _).far (by simp; omega) _
  have k2 : Kp (fun i => D ≤ i) w1 ((w1.setCell ⟨D, 0, none⟩ (.bool false)).setCell ⟨D + 1, 0, none⟩ (.bool true)) := ((kp1 w1 D _).mono (fun i hi => by omega)).trans ((kp1 _ (D + 1) _).mono (fun i hi => by omega))
  have c5 := u5.cell 0
  clear h v3 v4 v5 v6
  go_wp2_with fail
  generalize (w1.setCell ⟨D, 0, none⟩ (.bool false)).setCell ⟨D + 1, 0, none⟩ (.bool true) = w2 at *
  have HT := try_full w2 k 0 (0 + heldI k) 22 #[.pointer (some ⟨ci, 0, none⟩)] (fun _ => False) (fun _ => True) goes_n12 (fun _ h => h.elim) (fun W' hm hbw _ => (n12_full W' _ ci (heldI k) inner hm (u6.below hbw (Nat.le_refl _)) (by rw [heldI_same hk0]; exact hik)).mono fun e w' ⟨he, hm', hk'⟩ => ⟨he, hm', hk'.mono (fun i hi => .inl hi), trivial⟩)
  rw [Int.zero_add] at HT
  refine HT.mono ?_
  rintro e w3 ⟨rfl, hk3, _⟩
  clear HT
  have y3 := hk3.blk u3 id
  have y4 := hk3.blk u4 id
  have d3 := y3.cell 0
  have d4 := y4.cell 0
  have g3 := y3.frozen 0
  have g4 := y4.frozen 0
  clear c1 c2 f1 f2 c5 v1 v2
  go_wp2_with fail
  refine bodyPost_end (results_none rfl _ _ _) rfl ?_
  have kf : Kp (fun i => D ≤ i) w3 ((w3.setCell ⟨D + 1 + 1 + 1, 0, none⟩ (.int .i64 (heldI k))).setCell ⟨D + 1 + 1, 0, none⟩ (.bool false)) := ((kp1 w3 (D + 1 + 1 + 1) _).mono (fun i hi => by omega)).trans ((kp1 _ (D + 1 + 1) _).mono (fun i hi => by omega))
  have ka : Kp (fun i => D ≤ i) w1 ((w3.setCell ⟨D + 1 + 1 + 1, 0, none⟩ (.int .i64 (heldI k))).setCell ⟨D + 1 + 1, 0, none⟩ (.bool false)) := (k2.trans (hk3.mono (fun _ h => h.elim))).trans kf
  have z1 := hk3.blk u1 id
  have z2 := hk3.blk u2 id
  exact ⟨rfl, ⟨m1.kept ka (by omega), m2.kept ka (by omega), (z1.far (by first | (simp; done) | (simp; omega)) _).far (by first | (simp; done) | (simp; omega)) _, (z2.far (by first | (simp; done) | (simp; omega)) _).far (by simp) _, (y3.far (by simp) _).set_ 0 (.bool false), (y4.set_ 0 (.int .i64 (heldI k))).far (by simp) _⟩, (hk.mono (fun i hi => by omega)).trans (ka.mono (fun i hi => by omega))⟩
set_option maxRecDepth 100000 in
set_option maxHeartbeats 800000 in
theorem n1_b (W : World) (cj ci cm co ck gj gm D : Nat) (k n inner outer : Int) (h : In9 W cj ci cm co ck gj gm D k n inner outer) (hik : inner ≤ k) (hon : n < outer) : Calls Try.prog 19 (Args9 cj ci cm co ck D) W fun e w' => e = .panicked [{ v := Full gm, recovered := false }, { v := Full gm, recovered := true }] ∧ ((MtAt w' gj (k - inner) (0 + inner) ∧ MtAt w' gm 0 (0 + n)) ∧ Kp (fun i => i = gj ∨ i = gm) W w') := by
  have hmf := mf
  unfold Args9
  have c1 := h.i4.vj.cell 0
  have hgj := h.i4.mj.1.lt
  have hgm := h.i4.mm.1.lt
  have hr := run_past' W gj gm 20 h.i4.ne.symm _ (fun w' => MtAt w' gj (k - inner) (0 + inner) ∧ MtAt w' gm 0 (0 + n)) (fun i => i = gj ∨ i = gm) goes_n11 (by omega) (fun w' hw => ⟨⟨_, hw.1.1⟩, ⟨_, hw.2.1⟩⟩) (fun W' kk => (n11_b W' cj ci cm co gj gm k n inner outer (h.i4.kept kk (fun _ _ => id)) hik hon).mono fun e w' ⟨he, h1, h2⟩ => ⟨he, h1, h2⟩)
  clear h
  go_enter Try.func19, Try.ntmps19
  go_wp2_with fail
  refine hr.mono ?_
  rintro e w1 ⟨rfl, hk, w1', ⟨h1, h2⟩, hbb⟩
  clear hr
  go_wp2_with fail
  exact ⟨rfl, rfl, ⟨h1.kept (Kp.of_below hbb) (by have := h1.1.lt; omega), h2.kept (Kp.of_below hbb) (by have := h2.1.lt; omega)⟩, hk⟩
set_option maxRecDepth 100000 in
set_option maxHeartbeats 800000 in
theorem n1_c (W : World) (cj ci cm co ck gj gm D : Nat) (k n inner outer : Int) (h : In9 W cj ci cm co ck gj gm D k n inner outer) (hik : inner ≤ k) (hon : outer ≤ n) : Calls Try.prog 19 (Args9 cj ci cm co ck D) W fun e w' => e = .returned (.tuple #[]) ∧ ((MtAt w' gj (k - inner) (0 + inner) ∧ MtAt w' gm (n - outer) (0 + outer) ∧ Blk w' D 4 #[.bool true] ∧ Blk w' (D + 1) 4 #[.bool true] ∧ Blk w' (D + 1 + 1) 4 #[.bool true] ∧ Blk w' (D + 1 + 1 + 1) 3 #[.int .i64 inner]) ∧ Kp (fun i => i = gj ∨ i = gm ∨ D ≤ i) W w') := by
  have hmf := mf
  unfold Args9
  have c1 := h.i4.vj.cell 0
  have hgj := h.i4.mj.1.lt
  have hr := run_done' W gj 20 _ (.tuple #[]) (fun w' => MtAt w' gj (k - inner) (0 + inner) ∧ MtAt w' gm (n - outer) (0 + outer)) (fun i => i = gj ∨ i = gm) goes_n11 (fun W' kk => (n11_c W' cj ci cm co gj gm k n inner outer (h.i4.kept kk (fun _ _ => id)) hik hon).mono fun e w' ⟨he, h1, h2⟩ => ⟨he, h1, h2⟩)
  have H := Lib.hid h
  clear h
  go_enter Try.func19, Try.ntmps19
  go_wp2_with fail
  refine hr.mono ?_
  rintro e w1 ⟨rfl, ⟨m1, m2⟩, hk⟩
  clear hr c1
  have h := H.out
  have v1 := hk.blk h.vin (by have := h.lt; omega)
  have v2 := hk.blk h.vb (by have := h.lt; omega)
  have v3 := hk.blk h.vt (by have := h.lt; omega)
  have v4 := hk.blk h.vs (by have := h.lt; omega)
  have v5 := hk.blk h.vk (by have := h.nk; omega)
  have v6 := hk.blk h.i4.vi (by have := h.i4.nj; have := h.i4.nm; omega)
  have hl := h.lt
  have hk0 := h.k0
  have hi0 := h.i4.i0
  have c1 := v1.cell 0
  have c2 := v2.cell 0
  have f1 := v1.frozen 0
  have f2 := v2.frozen 0
  have u1 : Blk ((w1.setCell ⟨D, 0, none⟩ (.bool true)).setCell ⟨D + 1, 0, none⟩ (.bool true)) D 4 #[.bool true] := (v1.set_ 0 (.bool true)).far (by simp) _
  have u2 : Blk ((w1.setCell ⟨D, 0, none⟩ (.bool true)).setCell ⟨D + 1, 0, none⟩ (.bool true)) (D + 1) 4 #[.bool true] := (v2.far (by simp) _).set_ 0 (.bool true)
  have u3 : Blk ((w1.setCell ⟨D, 0, none⟩ (.bool true)).setCell ⟨D + 1, 0, none⟩ (.bool true)) (D + 1 + 1) 4 #[.bool false] := (v3.far (by simp; omega) _).far (by simp) _
  have u4 : Blk ((w1.setCell ⟨D, 0, none⟩ (.bool true)).setCell ⟨D + 1, 0, none⟩ (.bool true)) (D + 1 + 1 + 1) 3 #[.int .i64 0] := (v4.far (by simp; omega) _).far (by simp; omega) _
  have u5 : Blk ((w1.setCell ⟨D, 0, none⟩ (.bool true)).setCell ⟨D + 1, 0, none⟩ (.bool true)) ck 3 #[.int .i64 k] := (v5.far (by simp; omega) _).far (by simp; omega) _
  have u6 : Blk ((w1.setCell ⟨D, 0, none⟩ (.bool true)).setCell ⟨D + 1, 0, none⟩ (.bool true)) ci 3 #[.int .i64 inner] := (v6.far (by simp; omega) _).far (by simp; omega) _
  have k2 : Kp (fun i => D ≤ i) w1 ((w1.setCell ⟨D, 0, none⟩ (.bool true)).setCell ⟨D + 1, 0, none⟩ (.bool true)) := ((kp1 w1 D _).mono (fun i hi => by omega)).trans ((kp1 _ (D + 1) _).mono (fun i hi => by omega))
  have c5 := u5.cell 0
  clear h v3 v4 v5 v6
  go_wp2_with fail
  generalize (w1.setCell ⟨D, 0, none⟩ (.bool true)).setCell ⟨D + 1, 0, none⟩ (.bool true) = w2 at *
  have HT := try_done w2 k (heldI k - inner) (0 + inner) 22 #[.pointer (some ⟨ci, 0, none⟩)] (.tuple #[]) (fun _ => False) (fun _ => True) goes_n12 (fun _ h => h.elim) (fun W' hm hbw _ => (n12_ok W' _ ci (heldI k) inner hm (u6.below hbw (Nat.le_refl _)) hi0 (by rw [heldI_same hk0]; exact hik)).mono fun e w' ⟨he, hm', hk'⟩ => ⟨he, hm', hk'.mono (fun i hi => .inl hi), trivial⟩)
  rw [Int.zero_add] at HT
  refine HT.mono ?_
  rintro e w3 ⟨rfl, _, hk3⟩
  clear HT
  have y3 := hk3.blk u3 id
  have y4 := hk3.blk u4 id
  have d3 := y3.cell 0
  have d4 := y4.cell 0
  have g3 := y3.frozen 0
  have g4 := y4.frozen 0
  clear c1 c2 f1 f2 c5 v1 v2
  go_wp2_with fail
  refine bodyPost_end (results_none rfl _ _ _) rfl ?_
  have kf : Kp (fun i => D ≤ i) w3 ((w3.setCell ⟨D + 1 + 1 + 1, 0, none⟩ (.int .i64 inner)).setCell ⟨D + 1 + 1, 0, none⟩ (.bool true)) := ((kp1 w3 (D + 1 + 1 + 1) _).mono (fun i hi => by omega)).trans ((kp1 _ (D + 1 + 1) _).mono (fun i hi => by omega))
  have ka : Kp (fun i => D ≤ i) w1 ((w3.setCell ⟨D + 1 + 1 + 1, 0, none⟩ (.int .i64 inner)).setCell ⟨D + 1 + 1, 0, none⟩ (.bool true)) := (k2.trans (hk3.mono (fun _ h => h.elim))).trans kf
  have z1 := hk3.blk u1 id
  have z2 := hk3.blk u2 id
  exact ⟨rfl, ⟨m1.kept ka (by omega), m2.kept ka (by omega), (z1.far (by first | (simp; done) | (simp; omega)) _).far (by first | (simp; done) | (simp; omega)) _, (z2.far (by first | (simp; done) | (simp; omega)) _).far (by simp) _, (y3.far (by simp) _).set_ 0 (.bool true), (y4.set_ 0 (.int .i64 inner)).far (by simp) _⟩, (hk.mono (fun i hi => by omega)).trans (ka.mono (fun i hi => by omega))⟩
end Go.Proofs.Ytdhkimlofhipaaa.mt

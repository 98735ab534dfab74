import Derived.Test.YtldamieigigncaaGreatDoorVcag
namespace Go.Proofs.YtldamieigigncaaGreatDoor.lx
open Go.ChangeShapes Go.WideShapes Go.ChangeAt Go.RowKit
set_option linter.unusedVariables false
attribute [local go_sem] run_store_float
def ItmV (k B : Nat) : World → Value → Itm → Prop := fun w' v i => ∃ av, v = .agg (ItmC i av).toArray ∧ AltsAt k w' (fun g => B ≤ g) av i.alts
def ItemOk (k : Nat) : Prop := ∀ (w : World) (gp : Nat) (ts : List Tok), k ≤ 16 → PAt w gp ts (16 - k) → Good ts → ts.length ≤ 70000 → atIt (hd ts) = true → Calls Tryz.prog 165 #[.pointer (some ⟨gp, 0, none⟩)] w (Ans (ItmV k w.heap.size) gp (16 - k) (ts.length - 1) w (pItem (pSub k) ts))
theorem kp3 (w : World) (a b c : Obj) (S : Nat → Prop) : Kp S w (((w.alloc a).alloc b).alloc c) := ((Kp.alloc _ _ _).trans (Kp.alloc _ _ _)).trans (Kp.alloc _ _ _)
theorem fld2 (K P : Int) (T : ByteArray) (F : Nat) (w : World) : (Instr.field 162 (.agg #[.int .i64 K, .int .i64 P, .string T, .float .f64 F]) 2).run Tryz.prog w = .ok (.string T) w := by kernel_rfl
theorem fld3 (K P : Int) (T : ByteArray) (F : Nat) (w : World) : (Instr.field 162 (.agg #[.int .i64 K, .int .i64 P, .string T, .float .f64 F]) 3).run Tryz.prog w = .ok (.float .f64 F) w := by kernel_rfl
theorem isOp_le {n : Nat} (h : isOp n = true) : 0 < n ∧ (n = 63 ∨ n = 42 ∨ n = 43) := by
  unfold isOp at h
  simp at h
  omega
theorem op_yes {ts : List Tok} (h : isOp (sg ts) = true) : opOf ts = sg ts ∧ opTl ts = ts.tail := ⟨if_pos h, if_pos h⟩
theorem op_no {ts : List Tok} (h : ¬ isOp (sg ts) = true) : opOf ts = 0 ∧ opTl ts = ts := ⟨if_neg h, if_neg h⟩
theorem isOp_no {n : Nat} (h : ¬ isOp n = true) : n ≠ 63 ∧ n ≠ 42 ∧ n ≠ 43 := by
  unfold isOp at h
  simp at h
  omega
theorem kp_end5 (w : World) (b0 b2 : Nat) (v0 v1 v2 v3 v4 : Value) : Kp (fun i => i = b0 ∨ i = b2) w (((((w.setCell ⟨b0, 0, none⟩ v0).setCell ⟨b0, 1, none⟩ v1).setCell ⟨b0, 2, none⟩ v2).setCell ⟨b0, 3, none⟩ v3).setCell ⟨b0, 4, none⟩ v4) :=
  Kp.set_ (S := fun i => i = b0 ∨ i = b2) (Kp.set_ (S := fun i => i = b0 ∨ i = b2) (Kp.set_ (S := fun i => i = b0 ∨ i = b2) (Kp.set_ (S := fun i => i = b0 ∨ i = b2) (Kp.set_ (S := fun i => i = b0 ∨ i = b2) (Kp.refl _ w) (.inl (.inl rfl)) _) (.inl (.inl rfl)) _) (.inl (.inl rfl)) _) (.inl (.inl rfl)) _) (.inl (.inl rfl)) _
theorem kp_end6 (w : World) (b0 b2 : Nat) (u v0 v1 v2 v3 v4 : Value) : Kp (fun i => i = b0 ∨ i = b2) w ((((((w.setCell ⟨b2, 4, none⟩ u).setCell ⟨b0, 0, none⟩ v0).setCell ⟨b0, 1, none⟩ v1).setCell ⟨b0, 2, none⟩ v2).setCell ⟨b0, 3, none⟩ v3).setCell ⟨b0, 4, none⟩ v4) :=
  (Kp.set_ (S := fun i => i = b0 ∨ i = b2) (Kp.refl _ w) (.inl (.inr rfl)) u).trans (kp_end5 _ b0 b2 v0 v1 v2 v3 v4)
theorem AltsAt.form {k : Nat} {w : World} {A : Nat → Prop} {v : Value} {bs : List Altn} (h : AltsAt k w A v bs) : ∃ ao cap, v = .slice ao bs.length cap := by
  cases k with
  | zero =>
    obtain ⟨rfl, ao, cap, e⟩ := h
    exact ⟨ao, cap, e⟩
  | succ k =>
    obtain ⟨_, ao, cap, e, _⟩ := h
    exact ⟨ao, cap, e⟩
set_option maxRecDepth 100000 in
set_option maxHeartbeats 2000000 in
theorem item_any (k : Nat) (hG : GroupOk k) : ItemOk k := by
  intro w gp ts hk h hg hl ha
  obtain ⟨t, r, rfl⟩ := hg.ne
  have hgp := h.lt
  obtain ⟨g, o, cap, hb, hl1, hm, hne, hgs, hc⟩ := id h
  obtain ⟨c0, c1, c2, c3⟩ := tcells_head t r g o w hc
  have hp : w.cell? ⟨gp, 0, none⟩ = some (.slice (some ⟨g, o, none⟩) (t :: r).length cap) := hb.cell 0
  have hl0 : 0 < (t :: r).length := by simp
  have HH := Lib.hid h
  have HG := Lib.hid hg
  unfold maxLen at hm
  clear hc hb h
  by_cases k1 : t.kind = 1
  · have hgr := hg.tail (r := r) (by omega)
    have HR : Hid (pItem (pSub k) (t :: r) = .ok (.mk t.at_ 0 t.text [] (opOf r), opTl r)) := Lib.hid (if_pos k1)
    have HN : Hid ((t :: r).length = r.length + 1) := Lib.hid rfl
    generalize pItem (pSub k) (t :: r) = X at *
    generalize (t :: r).length = n at *
    have HGR := Lib.hid hgr
    have HTK := Lib.hid (fun w h => take_any w gp t r (16 - k) h hgr.pos)
    clear ha hG hg hgr
    have c0 : w.cell? ⟨g, o, none⟩ = some (.int .i64 1) := by rw [c0, k1]; rfl
    obtain ⟨K, P, T, F⟩ := t
    clear k1
    go_enter Tryz.func165, Tryz.ntmps165
    go_wp2_with fail
    have hk0 := kp3 w (.cells #[.int .i64 0, .int .i64 0, .string ⟨#[]⟩, .slice none 0 0, .int .u8 0] 126) (.cells #[.int .i64 1, .int .i64 P, .string (S T), .float .f64 F] 162) (.cells #[.int .i64 P, .int .i64 0, .string ⟨#[]⟩, .slice none 0 0, .int .u8 0] 126) (fun i => i = gp)
    have b0 := ((Blk.new w 126 #[.int .i64 0, .int .i64 0, .string ⟨#[]⟩, .slice none 0 0, .int .u8 0]).alloc (.cells #[.int .i64 1, .int .i64 P, .string (S T), .float .f64 F] 162)).alloc (.cells #[.int .i64 P, .int .i64 0, .string ⟨#[]⟩, .slice none 0 0, .int .u8 0] 126)
    have b2 := Blk.new ((w.alloc (.cells #[.int .i64 0, .int .i64 0, .string ⟨#[]⟩, .slice none 0 0, .int .u8 0] 126)).alloc (.cells #[.int .i64 1, .int .i64 P, .string (S T), .float .f64 F] 162)) 126 #[.int .i64 P, .int .i64 0, .string ⟨#[]⟩, .slice none 0 0, .int .u8 0]
    rw [World.size_alloc, World.size_alloc] at b2
    refine (HTK.out _ (((HH.out.alloc _).alloc _).alloc _)).mono ?_
    rintro e w1 ⟨rfl, hp1, hk1⟩
    have hK1 := hk0.trans hk1
    have hz1 : w.heap.size + 3 ≤ w1.heap.size := by have := hk1.size; simp at this; omega
    have b0 := b0.kept hk1 (by show ¬ w.heap.size = gp; omega)
    have b2 := b2.kept hk1 (by show ¬ w.heap.size + 1 + 1 = gp; omega)
    clear hk0 hk1 c0 c1 c2 c3 hp
    have f1 := b2.frozen 1
    have f2 := b2.frozen 2
    have d1 : w1.cell? ⟨w.heap.size + 1 + 1, 1, none⟩ = some (.int .i64 0) := b2.cell 1
    have d2 : w1.cell? ⟨w.heap.size + 1 + 1, 2, none⟩ = some (.string ⟨#[]⟩) := b2.cell 2
    have HB0 := Lib.hid b0
    have HB2 := Lib.hid b2
    have HK1 := Lib.hid hK1
    have HP1 := Lib.hid hp1
    clear b0 b2 hK1 hp1
    have hfld := fld2
    go_wp2_with fail
    have hk2 : Kp (fun i => i = w.heap.size + 1 + 1) w1 ((w1.setCell ⟨w.heap.size + 1 + 1, 1, none⟩ (.int .i64 0)).setCell ⟨w.heap.size + 1 + 1, 2, none⟩ (.string (S T))) := (kp_at _ _ _ _).trans (kp_at _ _ _ _)
    have hp2 := HP1.out.kept hk2 (fun i hi => by omega)
    have b0 := HB0.out.kept hk2 (by show ¬ w.heap.size = w.heap.size + 1 + 1; omega)
    have b2 := (HB2.out.set_ 1 (.int .i64 0)).set_ 2 (.string (S T))
    have hK2 := HK1.out.then_ hk2 (fun i hi => .inr (by omega))
    have hz2 : w.heap.size + 3 ≤ (((w1.setCell ⟨w.heap.size + 1 + 1, 1, none⟩ (.int .i64 0)).setCell ⟨w.heap.size + 1 + 1, 2, none⟩ (.string (S T)))).heap.size := by simpa using hz1
    clear d1 d2 f1 f2 hk2
    generalize ((w1.setCell ⟨w.heap.size + 1 + 1, 1, none⟩ (.int .i64 0)).setCell ⟨w.heap.size + 1 + 1, 2, none⟩ (.string (S T))) = w2 at *
    clear hz1 HK1 HP1 HB0 HB2 HTK
    have hs := psign_any w2 gp r _ hp2 HGR.out
    obtain ⟨s, hse⟩ : ∃ s, s = sg r := ⟨_, rfl⟩
    rw [← hse] at hs
    refine hs.mono ?_
    rintro e w3 ⟨rfl, rfl⟩
    clear hs
    have HB0 := Lib.hid b0
    have HB2 := Lib.hid b2
    have HK2 := Lib.hid hK2
    have HP2 := Lib.hid hp2
    by_cases ho : isOp s = true
    · obtain ⟨ho0, ho1⟩ := isOp_le ho
      have hoy := op_yes (by rw [← hse]; exact ho)
      clear b0 b2 hK2 hp2
      obtain ⟨t2, r2, rfl, hst, hgr2⟩ := HGR.out.sg_tail (by rw [← hse]; exact ho0)
      have hop1 : opOf (t2 :: r2) = s := by rw [hoy.1, hse]
      have hop2 : opTl (t2 :: r2) = r2 := hoy.2
      have htk := take_any w2 gp t2 r2 _ HP2.out hgr2.pos
      have HO1 := Lib.hid hop1
      have HO2 := Lib.hid hop2
      have HG2 := Lib.hid hgr2
      have HTK2 := Lib.hid htk
      clear hoy hop1 hop2 hgr2 hst hse ho htk ho0
      rcases ho1 with rfl | rfl | rfl
      · go_wp2_with fail
        refine HTK2.out.mono ?_
        rintro e w4 ⟨rfl, hp4, hk4⟩
        have hz4 := hk4.size
        have b0 := HB0.out.kept hk4 (by show ¬ w.heap.size = gp; omega)
        have b2 := HB2.out.kept hk4 (by show ¬ w.heap.size + 1 + 1 = gp; omega)
        have HK4 := Lib.hid (HK2.out.trans hk4)
        have HP4 := Lib.hid hp4
        have HK24 := Lib.hid hk4
        clear hk4 hp4
        have l0 := b0.lt
        have l2 := b2.lt
        have x0 := b0.cell 0
        have x1 := b0.cell 1
        have x2 := b0.cell 2
        have x3 := b0.cell 3
        have x4 := b0.cell 4
        have y0 := b2.cell 0
        have y1 := b2.cell 1
        have y2 := b2.cell 2
        have y3 := b2.cell 3
        have y4 := b2.cell 4
        simp only [List.getElem?_toArray, List.getElem?_cons_zero, List.getElem?_cons_succ] at x0 x1 x2 x3 x4 y0 y1 y2 y3 y4
        have u0 := b0.frozen 0
        have u1 := b0.frozen 1
        have u2 := b0.frozen 2
        have u3 := b0.frozen 3
        have u4 := b0.frozen 4
        have v4 := b2.frozen 4
        clear b0 b2

        go_wp2_with fail
        have hke := kp_end6 w4 w.heap.size (w.heap.size + 1 + 1) (.int .u8 63) (.int .i64 P) (.int .i64 0) (.string (S T)) (.slice none 0 0) (.int .u8 63)
        refine bodyPost_ret (v := .agg #[.int .i64 P, .int .i64 0, .string (S T), .slice none 0 0, .int .u8 63]) (by simp [results, Tryz.results165, go_sem, x0, x1, x2, x3, x4]) rfl ⟨HK4.out.then_ hke (fun i hi => .inr (by omega)), ?_⟩
        rw [HR.out, HO1.out, HO2.out]
        exact ⟨_, rfl, ⟨.slice none 0 0, rfl, AltsAt.nil k _ _⟩, HP4.out.kept hke (fun i hi => by omega), HG2.out, by have := HN.out; simp at this; omega⟩
      · go_wp2_with fail
        refine HTK2.out.mono ?_
        rintro e w4 ⟨rfl, hp4, hk4⟩
        have hz4 := hk4.size
        have b0 := HB0.out.kept hk4 (by show ¬ w.heap.size = gp; omega)
        have b2 := HB2.out.kept hk4 (by show ¬ w.heap.size + 1 + 1 = gp; omega)
        have HK4 := Lib.hid (HK2.out.trans hk4)
        have HP4 := Lib.hid hp4
        have HK24 := Lib.hid hk4
        clear hk4 hp4
        have l0 := b0.lt
        have l2 := b2.lt
        have x0 := b0.cell 0
        have x1 := b0.cell 1
        have x2 := b0.cell 2
        have x3 := b0.cell 3
        have x4 := b0.cell 4
        have y0 := b2.cell 0
        have y1 := b2.cell 1
        have y2 := b2.cell 2
        have y3 := b2.cell 3
        have y4 := b2.cell 4
        simp only [List.getElem?_toArray, List.getElem?_cons_zero, List.getElem?_cons_succ] at x0 x1 x2 x3 x4 y0 y1 y2 y3 y4
        have u0 := b0.frozen 0
        have u1 := b0.frozen 1
        have u2 := b0.frozen 2
        have u3 := b0.frozen 3
        have u4 := b0.frozen 4
        have v4 := b2.frozen 4
        clear b0 b2

        go_wp2_with fail
        have hke := kp_end6 w4 w.heap.size (w.heap.size + 1 + 1) (.int .u8 42) (.int .i64 P) (.int .i64 0) (.string (S T)) (.slice none 0 0) (.int .u8 42)
        refine bodyPost_ret (v := .agg #[.int .i64 P, .int .i64 0, .string (S T), .slice none 0 0, .int .u8 42]) (by simp [results, Tryz.results165, go_sem, x0, x1, x2, x3, x4]) rfl ⟨HK4.out.then_ hke (fun i hi => .inr (by omega)), ?_⟩
        rw [HR.out, HO1.out, HO2.out]
        exact ⟨_, rfl, ⟨.slice none 0 0, rfl, AltsAt.nil k _ _⟩, HP4.out.kept hke (fun i hi => by omega), HG2.out, by have := HN.out; simp at this; omega⟩
      · go_wp2_with fail
        refine HTK2.out.mono ?_
        rintro e w4 ⟨rfl, hp4, hk4⟩
        have hz4 := hk4.size
        have b0 := HB0.out.kept hk4 (by show ¬ w.heap.size = gp; omega)
        have b2 := HB2.out.kept hk4 (by show ¬ w.heap.size + 1 + 1 = gp; omega)
        have HK4 := Lib.hid (HK2.out.trans hk4)
        have HP4 := Lib.hid hp4
        have HK24 := Lib.hid hk4
        clear hk4 hp4
        have l0 := b0.lt
        have l2 := b2.lt
        have x0 := b0.cell 0
        have x1 := b0.cell 1
        have x2 := b0.cell 2
        have x3 := b0.cell 3
        have x4 := b0.cell 4
        have y0 := b2.cell 0
        have y1 := b2.cell 1
        have y2 := b2.cell 2
        have y3 := b2.cell 3
        have y4 := b2.cell 4
        simp only [List.getElem?_toArray, List.getElem?_cons_zero, List.getElem?_cons_succ] at x0 x1 x2 x3 x4 y0 y1 y2 y3 y4
        have u0 := b0.frozen 0
        have u1 := b0.frozen 1
        have u2 := b0.frozen 2
        have u3 := b0.frozen 3
        have u4 := b0.frozen 4
        have v4 := b2.frozen 4
        clear b0 b2

        go_wp2_with fail
        have hke := kp_end6 w4 w.heap.size (w.heap.size + 1 + 1) (.int .u8 43) (.int .i64 P) (.int .i64 0) (.string (S T)) (.slice none 0 0) (.int .u8 43)
        refine bodyPost_ret (v := .agg #[.int .i64 P, .int .i64 0, .string (S T), .slice none 0 0, .int .u8 43]) (by simp [results, Tryz.results165, go_sem, x0, x1, x2, x3, x4]) rfl ⟨HK4.out.then_ hke (fun i hi => .inr (by omega)), ?_⟩
        rw [HR.out, HO1.out, HO2.out]
        exact ⟨_, rfl, ⟨.slice none 0 0, rfl, AltsAt.nil k _ _⟩, HP4.out.kept hke (fun i hi => by omega), HG2.out, by have := HN.out; simp at this; omega⟩
    · have hoy := op_no (by rw [← hse]; exact ho)
      have HO1 := Lib.hid hoy.1
      have HO2 := Lib.hid hoy.2
      obtain ⟨n1, n2, n3⟩ := isOp_no ho
      have n1' : ((s : Int) == 63) = false := by rw [beq_eq_false_iff_ne]; omega
      have n2' : ((s : Int) == 42) = false := by rw [beq_eq_false_iff_ne]; omega
      have n3' : ((s : Int) == 43) = false := by rw [beq_eq_false_iff_ne]; omega
      clear hoy ho hse n1 n2 n3 hK2 hp2
      have l0 := b0.lt
      have l2 := b2.lt
      have x0 := b0.cell 0
      have x1 := b0.cell 1
      have x2 := b0.cell 2
      have x3 := b0.cell 3
      have x4 := b0.cell 4
      have y0 := b2.cell 0
      have y1 := b2.cell 1
      have y2 := b2.cell 2
      have y3 := b2.cell 3
      have y4 := b2.cell 4
      simp only [List.getElem?_toArray, List.getElem?_cons_zero, List.getElem?_cons_succ] at x0 x1 x2 x3 x4 y0 y1 y2 y3 y4
      have u0 := b0.frozen 0
      have u1 := b0.frozen 1
      have u2 := b0.frozen 2
      have u3 := b0.frozen 3
      have u4 := b0.frozen 4
      have v4 := b2.frozen 4
      clear b0 b2

      go_wp2_with fail
      have hke := kp_end5 w2 w.heap.size (w.heap.size + 1 + 1) (.int .i64 P) (.int .i64 0) (.string (S T)) (.slice none 0 0) (.int .u8 0)
      refine bodyPost_ret (v := .agg #[.int .i64 P, .int .i64 0, .string (S T), .slice none 0 0, .int .u8 0]) (by simp [results, Tryz.results165, go_sem, x0, x1, x2, x3, x4]) rfl ⟨HK2.out.then_ hke (fun i hi => .inr (by omega)), ?_⟩
      rw [HR.out, HO1.out, HO2.out]
      exact ⟨_, rfl, ⟨.slice none 0 0, rfl, AltsAt.nil k _ _⟩, HP2.out.kept hke (fun i hi => by omega), HGR.out, by have := HN.out; omega⟩

  by_cases k2 : t.kind = 2
  · have hgr := hg.tail (r := r) (by omega)
    have HR : Hid (pItem (pSub k) (t :: r) = .ok (.mk t.at_ 1 t.text [] (opOf r), opTl r)) := Lib.hid ((if_neg k1).trans (if_pos k2))
    have HN : Hid ((t :: r).length = r.length + 1) := Lib.hid rfl
    generalize pItem (pSub k) (t :: r) = X at *
    generalize (t :: r).length = n at *
    have HGR := Lib.hid hgr
    have HTK := Lib.hid (fun w h => take_any w gp t r (16 - k) h hgr.pos)
    clear ha hG hg hgr
    have c0 : w.cell? ⟨g, o, none⟩ = some (.int .i64 2) := by rw [c0, k2]; rfl
    obtain ⟨K, P, T, F⟩ := t
    clear k1 k2
    go_enter Tryz.func165, Tryz.ntmps165
    go_wp2_with fail
    have hk0 := kp3 w (.cells #[.int .i64 0, .int .i64 0, .string ⟨#[]⟩, .slice none 0 0, .int .u8 0] 126) (.cells #[.int .i64 2, .int .i64 P, .string (S T), .float .f64 F] 162) (.cells #[.int .i64 P, .int .i64 0, .string ⟨#[]⟩, .slice none 0 0, .int .u8 0] 126) (fun i => i = gp)
    have b0 := ((Blk.new w 126 #[.int .i64 0, .int .i64 0, .string ⟨#[]⟩, .slice none 0 0, .int .u8 0]).alloc (.cells #[.int .i64 2, .int .i64 P, .string (S T), .float .f64 F] 162)).alloc (.cells #[.int .i64 P, .int .i64 0, .string ⟨#[]⟩, .slice none 0 0, .int .u8 0] 126)
    have b2 := Blk.new ((w.alloc (.cells #[.int .i64 0, .int .i64 0, .string ⟨#[]⟩, .slice none 0 0, .int .u8 0] 126)).alloc (.cells #[.int .i64 2, .int .i64 P, .string (S T), .float .f64 F] 162)) 126 #[.int .i64 P, .int .i64 0, .string ⟨#[]⟩, .slice none 0 0, .int .u8 0]
    rw [World.size_alloc, World.size_alloc] at b2
    refine (HTK.out _ (((HH.out.alloc _).alloc _).alloc _)).mono ?_
    rintro e w1 ⟨rfl, hp1, hk1⟩
    have hK1 := hk0.trans hk1
    have hz1 : w.heap.size + 3 ≤ w1.heap.size := by have := hk1.size; simp at this; omega
    have b0 := b0.kept hk1 (by show ¬ w.heap.size = gp; omega)
    have b2 := b2.kept hk1 (by show ¬ w.heap.size + 1 + 1 = gp; omega)
    clear hk0 hk1 c0 c1 c2 c3 hp
    have f1 := b2.frozen 1
    have f2 := b2.frozen 2
    have d1 : w1.cell? ⟨w.heap.size + 1 + 1, 1, none⟩ = some (.int .i64 0) := b2.cell 1
    have d2 : w1.cell? ⟨w.heap.size + 1 + 1, 2, none⟩ = some (.string ⟨#[]⟩) := b2.cell 2
    have HB0 := Lib.hid b0
    have HB2 := Lib.hid b2
    have HK1 := Lib.hid hK1
    have HP1 := Lib.hid hp1
    clear b0 b2 hK1 hp1
    have hfld := fld2
    go_wp2_with fail
    have hk2 : Kp (fun i => i = w.heap.size + 1 + 1) w1 ((w1.setCell ⟨w.heap.size + 1 + 1, 1, none⟩ (.int .i64 1)).setCell ⟨w.heap.size + 1 + 1, 2, none⟩ (.string (S T))) := (kp_at _ _ _ _).trans (kp_at _ _ _ _)
    have hp2 := HP1.out.kept hk2 (fun i hi => by omega)
    have b0 := HB0.out.kept hk2 (by show ¬ w.heap.size = w.heap.size + 1 + 1; omega)
    have b2 := (HB2.out.set_ 1 (.int .i64 1)).set_ 2 (.string (S T))
    have hK2 := HK1.out.then_ hk2 (fun i hi => .inr (by omega))
    have hz2 : w.heap.size + 3 ≤ (((w1.setCell ⟨w.heap.size + 1 + 1, 1, none⟩ (.int .i64 1)).setCell ⟨w.heap.size + 1 + 1, 2, none⟩ (.string (S T)))).heap.size := by simpa using hz1
    clear d1 d2 f1 f2 hk2
    generalize ((w1.setCell ⟨w.heap.size + 1 + 1, 1, none⟩ (.int .i64 1)).setCell ⟨w.heap.size + 1 + 1, 2, none⟩ (.string (S T))) = w2 at *
    clear hz1 HK1 HP1 HB0 HB2 HTK
    have hs := psign_any w2 gp r _ hp2 HGR.out
    obtain ⟨s, hse⟩ : ∃ s, s = sg r := ⟨_, rfl⟩
    rw [← hse] at hs
    refine hs.mono ?_
    rintro e w3 ⟨rfl, rfl⟩
    clear hs
    have HB0 := Lib.hid b0
    have HB2 := Lib.hid b2
    have HK2 := Lib.hid hK2
    have HP2 := Lib.hid hp2
    by_cases ho : isOp s = true
    · obtain ⟨ho0, ho1⟩ := isOp_le ho
      have hoy := op_yes (by rw [← hse]; exact ho)
      clear b0 b2 hK2 hp2
      obtain ⟨t2, r2, rfl, hst, hgr2⟩ := HGR.out.sg_tail (by rw [← hse]; exact ho0)
      have hop1 : opOf (t2 :: r2) = s := by rw [hoy.1, hse]
      have hop2 : opTl (t2 :: r2) = r2 := hoy.2
      have htk := take_any w2 gp t2 r2 _ HP2.out hgr2.pos
      have HO1 := Lib.hid hop1
      have HO2 := Lib.hid hop2
      have HG2 := Lib.hid hgr2
      have HTK2 := Lib.hid htk
      clear hoy hop1 hop2 hgr2 hst hse ho htk ho0
      rcases ho1 with rfl | rfl | rfl
      · go_wp2_with fail
        refine HTK2.out.mono ?_
        rintro e w4 ⟨rfl, hp4, hk4⟩
        have hz4 := hk4.size
        have b0 := HB0.out.kept hk4 (by show ¬ w.heap.size = gp; omega)
        have b2 := HB2.out.kept hk4 (by show ¬ w.heap.size + 1 + 1 = gp; omega)
        have HK4 := Lib.hid (HK2.out.trans hk4)
        have HP4 := Lib.hid hp4
        have HK24 := Lib.hid hk4
        clear hk4 hp4
        have l0 := b0.lt
        have l2 := b2.lt
        have x0 := b0.cell 0
        have x1 := b0.cell 1
        have x2 := b0.cell 2
        have x3 := b0.cell 3
        have x4 := b0.cell 4
        have y0 := b2.cell 0
        have y1 := b2.cell 1
        have y2 := b2.cell 2
        have y3 := b2.cell 3
        have y4 := b2.cell 4
        simp only [List.getElem?_toArray, List.getElem?_cons_zero, List.getElem?_cons_succ] at x0 x1 x2 x3 x4 y0 y1 y2 y3 y4
        have u0 := b0.frozen 0
        have u1 := b0.frozen 1
        have u2 := b0.frozen 2
        have u3 := b0.frozen 3
        have u4 := b0.frozen 4
        have v4 := b2.frozen 4
        clear b0 b2

        go_wp2_with fail
        have hke := kp_end6 w4 w.heap.size (w.heap.size + 1 + 1) (.int .u8 63) (.int .i64 P) (.int .i64 1) (.string (S T)) (.slice none 0 0) (.int .u8 63)
        refine bodyPost_ret (v := .agg #[.int .i64 P, .int .i64 1, .string (S T), .slice none 0 0, .int .u8 63]) (by simp [results, Tryz.results165, go_sem, x0, x1, x2, x3, x4]) rfl ⟨HK4.out.then_ hke (fun i hi => .inr (by omega)), ?_⟩
        rw [HR.out, HO1.out, HO2.out]
        exact ⟨_, rfl, ⟨.slice none 0 0, rfl, AltsAt.nil k _ _⟩, HP4.out.kept hke (fun i hi => by omega), HG2.out, by have := HN.out; simp at this; omega⟩
      · go_wp2_with fail
        refine HTK2.out.mono ?_
        rintro e w4 ⟨rfl, hp4, hk4⟩
        have hz4 := hk4.size
        have b0 := HB0.out.kept hk4 (by show ¬ w.heap.size = gp; omega)
        have b2 := HB2.out.kept hk4 (by show ¬ w.heap.size + 1 + 1 = gp; omega)
        have HK4 := Lib.hid (HK2.out.trans hk4)
        have HP4 := Lib.hid hp4
        have HK24 := Lib.hid hk4
        clear hk4 hp4
        have l0 := b0.lt
        have l2 := b2.lt
        have x0 := b0.cell 0
        have x1 := b0.cell 1
        have x2 := b0.cell 2
        have x3 := b0.cell 3
        have x4 := b0.cell 4
        have y0 := b2.cell 0
        have y1 := b2.cell 1
        have y2 := b2.cell 2
        have y3 := b2.cell 3
        have y4 := b2.cell 4
        simp only [List.getElem?_toArray, List.getElem?_cons_zero, List.getElem?_cons_succ] at x0 x1 x2 x3 x4 y0 y1 y2 y3 y4
        have u0 := b0.frozen 0
        have u1 := b0.frozen 1
        have u2 := b0.frozen 2
        have u3 := b0.frozen 3
        have u4 := b0.frozen 4
        have v4 := b2.frozen 4
        clear b0 b2

        go_wp2_with fail
        have hke := kp_end6 w4 w.heap.size (w.heap.size + 1 + 1) (.int .u8 42) (.int .i64 P) (.int .i64 1) (.string (S T)) (.slice none 0 0) (.int .u8 42)
        refine bodyPost_ret (v := .agg #[.int .i64 P, .int .i64 1, .string (S T), .slice none 0 0, .int .u8 42]) (by simp [results, Tryz.results165, go_sem, x0, x1, x2, x3, x4]) rfl ⟨HK4.out.then_ hke (fun i hi => .inr (by omega)), ?_⟩
        rw [HR.out, HO1.out, HO2.out]
        exact ⟨_, rfl, ⟨.slice none 0 0, rfl, AltsAt.nil k _ _⟩, HP4.out.kept hke (fun i hi => by omega), HG2.out, by have := HN.out; simp at this; omega⟩
      · go_wp2_with fail
        refine HTK2.out.mono ?_
        rintro e w4 ⟨rfl, hp4, hk4⟩
        have hz4 := hk4.size
        have b0 := HB0.out.kept hk4 (by show ¬ w.heap.size = gp; omega)
        have b2 := HB2.out.kept hk4 (by show ¬ w.heap.size + 1 + 1 = gp; omega)
        have HK4 := Lib.hid (HK2.out.trans hk4)
        have HP4 := Lib.hid hp4
        have HK24 := Lib.hid hk4
        clear hk4 hp4
        have l0 := b0.lt
        have l2 := b2.lt
        have x0 := b0.cell 0
        have x1 := b0.cell 1
        have x2 := b0.cell 2
        have x3 := b0.cell 3
        have x4 := b0.cell 4
        have y0 := b2.cell 0
        have y1 := b2.cell 1
        have y2 := b2.cell 2
        have y3 := b2.cell 3
        have y4 := b2.cell 4
        simp only [List.getElem?_toArray, List.getElem?_cons_zero, List.getElem?_cons_succ] at x0 x1 x2 x3 x4 y0 y1 y2 y3 y4
        have u0 := b0.frozen 0
        have u1 := b0.frozen 1
        have u2 := b0.frozen 2
        have u3 := b0.frozen 3
        have u4 := b0.frozen 4
        have v4 := b2.frozen 4
        clear b0 b2

        go_wp2_with fail
        have hke := kp_end6 w4 w.heap.size (w.heap.size + 1 + 1) (.int .u8 43) (.int .i64 P) (.int .i64 1) (.string (S T)) (.slice none 0 0) (.int .u8 43)
        refine bodyPost_ret (v := .agg #[.int .i64 P, .int .i64 1, .string (S T), .slice none 0 0, .int .u8 43]) (by simp [results, Tryz.results165, go_sem, x0, x1, x2, x3, x4]) rfl ⟨HK4.out.then_ hke (fun i hi => .inr (by omega)), ?_⟩
        rw [HR.out, HO1.out, HO2.out]
        exact ⟨_, rfl, ⟨.slice none 0 0, rfl, AltsAt.nil k _ _⟩, HP4.out.kept hke (fun i hi => by omega), HG2.out, by have := HN.out; simp at this; omega⟩
    · have hoy := op_no (by rw [← hse]; exact ho)
      have HO1 := Lib.hid hoy.1
      have HO2 := Lib.hid hoy.2
      obtain ⟨n1, n2, n3⟩ := isOp_no ho
      have n1' : ((s : Int) == 63) = false := by rw [beq_eq_false_iff_ne]; omega
      have n2' : ((s : Int) == 42) = false := by rw [beq_eq_false_iff_ne]; omega
      have n3' : ((s : Int) == 43) = false := by rw [beq_eq_false_iff_ne]; omega
      clear hoy ho hse n1 n2 n3 hK2 hp2
      have l0 := b0.lt
      have l2 := b2.lt
      have x0 := b0.cell 0
      have x1 := b0.cell 1
      have x2 := b0.cell 2
      have x3 := b0.cell 3
      have x4 := b0.cell 4
      have y0 := b2.cell 0
      have y1 := b2.cell 1
      have y2 := b2.cell 2
      have y3 := b2.cell 3
      have y4 := b2.cell 4
      simp only [List.getElem?_toArray, List.getElem?_cons_zero, List.getElem?_cons_succ] at x0 x1 x2 x3 x4 y0 y1 y2 y3 y4
      have u0 := b0.frozen 0
      have u1 := b0.frozen 1
      have u2 := b0.frozen 2
      have u3 := b0.frozen 3
      have u4 := b0.frozen 4
      have v4 := b2.frozen 4
      clear b0 b2

      go_wp2_with fail
      have hke := kp_end5 w2 w.heap.size (w.heap.size + 1 + 1) (.int .i64 P) (.int .i64 1) (.string (S T)) (.slice none 0 0) (.int .u8 0)
      refine bodyPost_ret (v := .agg #[.int .i64 P, .int .i64 1, .string (S T), .slice none 0 0, .int .u8 0]) (by simp [results, Tryz.results165, go_sem, x0, x1, x2, x3, x4]) rfl ⟨HK2.out.then_ hke (fun i hi => .inr (by omega)), ?_⟩
      rw [HR.out, HO1.out, HO2.out]
      exact ⟨_, rfl, ⟨.slice none 0 0, rfl, AltsAt.nil k _ _⟩, HP2.out.kept hke (fun i hi => by omega), HGR.out, by have := HN.out; omega⟩

  have hs40 : sgOf t = 40 := by
    have ha : (t.kind == 1 || t.kind == 2 || sgOf t == 40) = true := ha
    rw [beq_false_of_ne k1, beq_false_of_ne k2] at ha
    simpa using ha
  have k4 : t.kind = 4 := by
    unfold sgOf at hs40
    by_cases h4 : t.kind = 4
    · exact h4
    · rw [if_neg h4] at hs40
      omega
  have HR : Hid (pItem (pSub k) (t :: r) = match pSub k (t :: r) with
    | .error e => .error e
    | .ok (bs, q) => .ok (.mk t.at_ 2 [] bs (opOf q), opTl q)) := Lib.hid ((if_neg k1).trans (if_neg k2))
  have HGC := Lib.hid (fun w h => hG w gp (t :: r) hk h hg hl hs40)
  have HN : Hid ((t :: r).length = r.length + 1) := Lib.hid rfl
  generalize pItem (pSub k) (t :: r) = X at *
  generalize (t :: r).length = n at *
  clear ha hG hg
  have c0 : w.cell? ⟨g, o, none⟩ = some (.int .i64 4) := by rw [c0, k4]; rfl
  obtain ⟨K, P, T, F⟩ := t
  clear k1 k2 k4 hs40
  go_enter Tryz.func165, Tryz.ntmps165
  go_wp2_with fail
  have hk0 := kp3 w (.cells #[.int .i64 0, .int .i64 0, .string ⟨#[]⟩, .slice none 0 0, .int .u8 0] 126) (.cells #[.int .i64 4, .int .i64 P, .string (S T), .float .f64 F] 162) (.cells #[.int .i64 P, .int .i64 0, .string ⟨#[]⟩, .slice none 0 0, .int .u8 0] 126) (fun i => i = gp)
  have b0 := ((Blk.new w 126 #[.int .i64 0, .int .i64 0, .string ⟨#[]⟩, .slice none 0 0, .int .u8 0]).alloc (.cells #[.int .i64 4, .int .i64 P, .string (S T), .float .f64 F] 162)).alloc (.cells #[.int .i64 P, .int .i64 0, .string ⟨#[]⟩, .slice none 0 0, .int .u8 0] 126)
  have b2 := Blk.new ((w.alloc (.cells #[.int .i64 0, .int .i64 0, .string ⟨#[]⟩, .slice none 0 0, .int .u8 0] 126)).alloc (.cells #[.int .i64 4, .int .i64 P, .string (S T), .float .f64 F] 162)) 126 #[.int .i64 P, .int .i64 0, .string ⟨#[]⟩, .slice none 0 0, .int .u8 0]
  rw [World.size_alloc, World.size_alloc] at b2
  refine (HGC.out _ (((HH.out.alloc _).alloc _).alloc _)).mono ?_
  rintro e w1 ⟨hk1, han⟩
  have hK1 := hk0.trans hk1
  have hz1 : w.heap.size + 3 ≤ w1.heap.size := by have := hk1.size; simp at this; omega
  have b0 := b0.kept hk1 (by show ¬ w.heap.size = gp; omega)
  have b2 := b2.kept hk1 (by show ¬ w.heap.size + 1 + 1 = gp; omega)
  have HK1 := Lib.hid hK1
  clear hk0 hk1 c0 c1 c2 c3 hp hK1 HGC
  cases hx : pSub k (⟨K, P, T, F⟩ :: r) with
  | error p =>
    rw [hx] at han
    obtain rfl : e = _ := han
    have HR : Hid (X = .error p) := Lib.hid (by rw [HR.out, hx])
    clear hx b0 b2
    go_wp2_with fail
    refine ⟨rfl, HK1.out, ?_⟩
    rw [HR.out]
  | ok x =>
    obtain ⟨bs, q⟩ := x
    rw [hx] at han
    obtain ⟨v, rfl, hv, hp1, hg1, hl1'⟩ := han
    obtain ⟨ao, vcap, hvf⟩ := hv.form
    obtain ⟨vn, hvn⟩ : ∃ n, n = bs.length := ⟨_, rfl⟩
    rw [← hvn] at hvf
    subst hvf
    clear hvn
    have HR : Hid (X = .ok (.mk P 2 [] bs (opOf q), opTl q)) := Lib.hid (by rw [HR.out, hx])
    have HV1 := Lib.hid hv
    have HP1 := Lib.hid hp1
    have HGR := Lib.hid hg1
    have HLL := Lib.hid hl1'
    clear hx hv hp1 hg1 hl1'
    have f1 := b2.frozen 1
    have f3 := b2.frozen 3
    have d1 : w1.cell? ⟨w.heap.size + 1 + 1, 1, none⟩ = some (.int .i64 0) := b2.cell 1
    have d3 : w1.cell? ⟨w.heap.size + 1 + 1, 3, none⟩ = some (.slice none 0 0) := b2.cell 3
    have HB0 := Lib.hid b0
    have HB2 := Lib.hid b2
    clear b0 b2
    go_wp2_with fail
    have hk2 : Kp (fun i => i = w.heap.size + 1 + 1) w1 ((w1.setCell ⟨w.heap.size + 1 + 1, 1, none⟩ (.int .i64 2)).setCell ⟨w.heap.size + 1 + 1, 3, none⟩ (.slice ao vn vcap)) := (kp_at _ _ _ _).trans (kp_at _ _ _ _)
    have hp2 := HP1.out.kept hk2 (fun i hi => by omega)
    have b0 := HB0.out.kept hk2 (by show ¬ w.heap.size = w.heap.size + 1 + 1; omega)
    have b2 := (HB2.out.set_ 1 (.int .i64 2)).set_ 3 (.slice ao vn vcap)
    have hK2 := HK1.out.then_ hk2 (fun i hi => .inr (by omega))
    have hv2 := HV1.out.kp hk2 (fun g hg => by simp at hg; omega)
    have hz2 : w.heap.size + 3 ≤ (((w1.setCell ⟨w.heap.size + 1 + 1, 1, none⟩ (.int .i64 2)).setCell ⟨w.heap.size + 1 + 1, 3, none⟩ (.slice ao vn vcap))).heap.size := by simpa using hz1
    clear d1 d3 f1 f3 hk2
    generalize ((w1.setCell ⟨w.heap.size + 1 + 1, 1, none⟩ (.int .i64 2)).setCell ⟨w.heap.size + 1 + 1, 3, none⟩ (.slice ao vn vcap)) = w2 at *
    have HV2 : Hid (AltsAt k w2 (fun g => w.heap.size + 3 ≤ g) (.slice ao vn vcap) bs) := Lib.hid (hv2.mono fun g hg => by simpa using hg)
    clear hz1 HK1 HP1 HB0 HB2 hv2 HV1
    have hs := psign_any w2 gp q _ hp2 HGR.out
    obtain ⟨s, hse⟩ : ∃ s, s = sg q := ⟨_, rfl⟩
    rw [← hse] at hs
    refine hs.mono ?_
    rintro e w3 ⟨rfl, rfl⟩
    clear hs
    have HB0 := Lib.hid b0
    have HB2 := Lib.hid b2
    have HK2 := Lib.hid hK2
    have HP2 := Lib.hid hp2
    by_cases ho : isOp s = true
    · obtain ⟨ho0, ho1⟩ := isOp_le ho
      have hoy := op_yes (by rw [← hse]; exact ho)
      clear b0 b2 hK2 hp2
      obtain ⟨t2, r2, rfl, hst, hgr2⟩ := HGR.out.sg_tail (by rw [← hse]; exact ho0)
      have hop1 : opOf (t2 :: r2) = s := by rw [hoy.1, hse]
      have hop2 : opTl (t2 :: r2) = r2 := hoy.2
      have htk := take_any w2 gp t2 r2 _ HP2.out hgr2.pos
      have HO1 := Lib.hid hop1
      have HO2 := Lib.hid hop2
      have HG2 := Lib.hid hgr2
      have HTK2 := Lib.hid htk
      clear hoy hop1 hop2 hgr2 hst hse ho htk ho0
      rcases ho1 with rfl | rfl | rfl
      · go_wp2_with fail
        refine HTK2.out.mono ?_
        rintro e w4 ⟨rfl, hp4, hk4⟩
        have hz4 := hk4.size
        have b0 := HB0.out.kept hk4 (by show ¬ w.heap.size = gp; omega)
        have b2 := HB2.out.kept hk4 (by show ¬ w.heap.size + 1 + 1 = gp; omega)
        have HK4 := Lib.hid (HK2.out.trans hk4)
        have HP4 := Lib.hid hp4
        have HK24 := Lib.hid hk4
        clear hk4 hp4
        have l0 := b0.lt
        have l2 := b2.lt
        have x0 := b0.cell 0
        have x1 := b0.cell 1
        have x2 := b0.cell 2
        have x3 := b0.cell 3
        have x4 := b0.cell 4
        have y0 := b2.cell 0
        have y1 := b2.cell 1
        have y2 := b2.cell 2
        have y3 := b2.cell 3
        have y4 := b2.cell 4
        simp only [List.getElem?_toArray, List.getElem?_cons_zero, List.getElem?_cons_succ] at x0 x1 x2 x3 x4 y0 y1 y2 y3 y4
        have u0 := b0.frozen 0
        have u1 := b0.frozen 1
        have u2 := b0.frozen 2
        have u3 := b0.frozen 3
        have u4 := b0.frozen 4
        have v4 := b2.frozen 4
        clear b0 b2

        go_wp2_with fail
        have hke := kp_end6 w4 w.heap.size (w.heap.size + 1 + 1) (.int .u8 63) (.int .i64 P) (.int .i64 2) (.string ⟨#[]⟩) ((.slice ao vn vcap)) (.int .u8 63)
        refine bodyPost_ret (v := .agg #[.int .i64 P, .int .i64 2, .string ⟨#[]⟩, (.slice ao vn vcap), .int .u8 63]) (by simp [results, Tryz.results165, go_sem, x0, x1, x2, x3, x4]) rfl ⟨HK4.out.then_ hke (fun i hi => .inr (by omega)), ?_⟩
        rw [HR.out, HO1.out, HO2.out]
        exact ⟨_, rfl, ⟨(.slice ao vn vcap), rfl, (HV2.out.kp (HK24.out.trans (Kp.refl _ _)) (fun g hg => by omega) |>.kp hke (fun g hg => by omega)).mono (fun g hg => by omega)⟩, HP4.out.kept hke (fun i hi => by omega), HG2.out, by have := HLL.out; simp at this; omega⟩
      · go_wp2_with fail
        refine HTK2.out.mono ?_
        rintro e w4 ⟨rfl, hp4, hk4⟩
        have hz4 := hk4.size
        have b0 := HB0.out.kept hk4 (by show ¬ w.heap.size = gp; omega)
        have b2 := HB2.out.kept hk4 (by show ¬ w.heap.size + 1 + 1 = gp; omega)
        have HK4 := Lib.hid (HK2.out.trans hk4)
        have HP4 := Lib.hid hp4
        have HK24 := Lib.hid hk4
        clear hk4 hp4
        have l0 := b0.lt
        have l2 := b2.lt
        have x0 := b0.cell 0
        have x1 := b0.cell 1
        have x2 := b0.cell 2
        have x3 := b0.cell 3
        have x4 := b0.cell 4
        have y0 := b2.cell 0
        have y1 := b2.cell 1
        have y2 := b2.cell 2
        have y3 := b2.cell 3
        have y4 := b2.cell 4
        simp only [List.getElem?_toArray, List.getElem?_cons_zero, List.getElem?_cons_succ] at x0 x1 x2 x3 x4 y0 y1 y2 y3 y4
        have u0 := b0.frozen 0
        have u1 := b0.frozen 1
        have u2 := b0.frozen 2
        have u3 := b0.frozen 3
        have u4 := b0.frozen 4
        have v4 := b2.frozen 4
        clear b0 b2

        go_wp2_with fail
        have hke := kp_end6 w4 w.heap.size (w.heap.size + 1 + 1) (.int .u8 42) (.int .i64 P) (.int .i64 2) (.string ⟨#[]⟩) ((.slice ao vn vcap)) (.int .u8 42)
        refine bodyPost_ret (v := .agg #[.int .i64 P, .int .i64 2, .string ⟨#[]⟩, (.slice ao vn vcap), .int .u8 42]) (by simp [results, Tryz.results165, go_sem, x0, x1, x2, x3, x4]) rfl ⟨HK4.out.then_ hke (fun i hi => .inr (by omega)), ?_⟩
        rw [HR.out, HO1.out, HO2.out]
        exact ⟨_, rfl, ⟨(.slice ao vn vcap), rfl, (HV2.out.kp (HK24.out.trans (Kp.refl _ _)) (fun g hg => by omega) |>.kp hke (fun g hg => by omega)).mono (fun g hg => by omega)⟩, HP4.out.kept hke (fun i hi => by omega), HG2.out, by have := HLL.out; simp at this; omega⟩
      · go_wp2_with fail
        refine HTK2.out.mono ?_
        rintro e w4 ⟨rfl, hp4, hk4⟩
        have hz4 := hk4.size
        have b0 := HB0.out.kept hk4 (by show ¬ w.heap.size = gp; omega)
        have b2 := HB2.out.kept hk4 (by show ¬ w.heap.size + 1 + 1 = gp; omega)
        have HK4 := Lib.hid (HK2.out.trans hk4)
        have HP4 := Lib.hid hp4
        have HK24 := Lib.hid hk4
        clear hk4 hp4
        have l0 := b0.lt
        have l2 := b2.lt
        have x0 := b0.cell 0
        have x1 := b0.cell 1
        have x2 := b0.cell 2
        have x3 := b0.cell 3
        have x4 := b0.cell 4
        have y0 := b2.cell 0
        have y1 := b2.cell 1
        have y2 := b2.cell 2
        have y3 := b2.cell 3
        have y4 := b2.cell 4
        simp only [List.getElem?_toArray, List.getElem?_cons_zero, List.getElem?_cons_succ] at x0 x1 x2 x3 x4 y0 y1 y2 y3 y4
        have u0 := b0.frozen 0
        have u1 := b0.frozen 1
        have u2 := b0.frozen 2
        have u3 := b0.frozen 3
        have u4 := b0.frozen 4
        have v4 := b2.frozen 4
        clear b0 b2

        go_wp2_with fail
        have hke := kp_end6 w4 w.heap.size (w.heap.size + 1 + 1) (.int .u8 43) (.int .i64 P) (.int .i64 2) (.string ⟨#[]⟩) ((.slice ao vn vcap)) (.int .u8 43)
        refine bodyPost_ret (v := .agg #[.int .i64 P, .int .i64 2, .string ⟨#[]⟩, (.slice ao vn vcap), .int .u8 43]) (by simp [results, Tryz.results165, go_sem, x0, x1, x2, x3, x4]) rfl ⟨HK4.out.then_ hke (fun i hi => .inr (by omega)), ?_⟩
        rw [HR.out, HO1.out, HO2.out]
        exact ⟨_, rfl, ⟨(.slice ao vn vcap), rfl, (HV2.out.kp (HK24.out.trans (Kp.refl _ _)) (fun g hg => by omega) |>.kp hke (fun g hg => by omega)).mono (fun g hg => by omega)⟩, HP4.out.kept hke (fun i hi => by omega), HG2.out, by have := HLL.out; simp at this; omega⟩
    · have hoy := op_no (by rw [← hse]; exact ho)
      have HO1 := Lib.hid hoy.1
      have HO2 := Lib.hid hoy.2
      obtain ⟨n1, n2, n3⟩ := isOp_no ho
      have n1' : ((s : Int) == 63) = false := by rw [beq_eq_false_iff_ne]; omega
      have n2' : ((s : Int) == 42) = false := by rw [beq_eq_false_iff_ne]; omega
      have n3' : ((s : Int) == 43) = false := by rw [beq_eq_false_iff_ne]; omega
      clear hoy ho hse n1 n2 n3 hK2 hp2
      have l0 := b0.lt
      have l2 := b2.lt
      have x0 := b0.cell 0
      have x1 := b0.cell 1
      have x2 := b0.cell 2
      have x3 := b0.cell 3
      have x4 := b0.cell 4
      have y0 := b2.cell 0
      have y1 := b2.cell 1
      have y2 := b2.cell 2
      have y3 := b2.cell 3
      have y4 := b2.cell 4
      simp only [List.getElem?_toArray, List.getElem?_cons_zero, List.getElem?_cons_succ] at x0 x1 x2 x3 x4 y0 y1 y2 y3 y4
      have u0 := b0.frozen 0
      have u1 := b0.frozen 1
      have u2 := b0.frozen 2
      have u3 := b0.frozen 3
      have u4 := b0.frozen 4
      have v4 := b2.frozen 4
      clear b0 b2

      go_wp2_with fail
      have hke := kp_end5 w2 w.heap.size (w.heap.size + 1 + 1) (.int .i64 P) (.int .i64 2) (.string ⟨#[]⟩) ((.slice ao vn vcap)) (.int .u8 0)
      refine bodyPost_ret (v := .agg #[.int .i64 P, .int .i64 2, .string ⟨#[]⟩, (.slice ao vn vcap), .int .u8 0]) (by simp [results, Tryz.results165, go_sem, x0, x1, x2, x3, x4]) rfl ⟨HK2.out.then_ hke (fun i hi => .inr (by omega)), ?_⟩
      rw [HR.out, HO1.out, HO2.out]
      exact ⟨_, rfl, ⟨(.slice ao vn vcap), rfl, (HV2.out.kp hke (fun g hg => by omega)).mono (fun g hg => by omega)⟩, HP2.out.kept hke (fun i hi => by omega), HGR.out, HLL.out⟩

end Go.Proofs.YtldamieigigncaaGreatDoor.lx


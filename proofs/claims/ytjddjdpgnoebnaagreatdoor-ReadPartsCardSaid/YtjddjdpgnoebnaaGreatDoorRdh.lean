import Derived.Test.YtjddjdpgnoebnaaGreatDoorRdg
namespace Go.Proofs.YtjddjdpgnoebnaaGreatDoor.lx
open Go.ChangeShapes Go.WideShapes Go.ChangeAt Go.RowKit
set_option linter.unusedVariables false
attribute [local go_sem] run_store_float
/-! a definition -/
theorem alts_all : ∀ k, AltsOk k
  | 0 => alts_any 0 (alt_any 0 (item_any 0 group_zero))
  | k + 1 => alts_any (k + 1) (alt_any (k + 1) (item_any (k + 1) (group_succ k (alts_all k))))
def DefV (B : Nat) : World → Value → Dfn → Prop := fun w' v d => ∃ av, v = .agg (DefC d av).toArray ∧ AltsAt 17 w' (fun g => B ≤ g) av d.2.2
theorem DefV.form {B : Nat} {w : World} {v : Value} {d : Dfn} (h : DefV B w v d) : ∃ ao c, v = .agg #[.int .i64 d.1, .string (S d.2.1), .slice ao d.2.2.length c] ∧ AltsAt 17 w (fun g => B ≤ g) (.slice ao d.2.2.length c) d.2.2 := by
  obtain ⟨iv, rfl, hv⟩ := h
  obtain ⟨ao, c, rfl⟩ := hv.form
  exact ⟨ao, c, rfl, hv⟩
theorem pdef_no (ts : List Tok) (h : ¬ (hd ts).kind = 1) : pDef ts = .error (5, (hd ts).at_) := if_neg h
theorem pdef_eq (t : Tok) (r : List Tok) (h : t.kind = 1) (h2 : ¬ sg r = 61) : pDef (t :: r) = .error (5, (hd r).at_) := (if_pos h).trans (if_neg h2)
theorem pdef_go (t : Tok) (r : List Tok) (h : t.kind = 1) (h2 : sg r = 61) : pDef (t :: r) = (match pShut 59 (pA 16 r.tail) with
      | .error e => .error e
      | .ok (as_, r) => .ok ((t.at_, t.text, as_), r)) := (if_pos h).trans (if_pos h2)
set_option maxRecDepth 100000 in
set_option maxHeartbeats 2000000 in
theorem def_any (w : World) (gp : Nat) (ts : List Tok) (h : PAt w gp ts 0) (hg : Good ts) (hl : ts.length ≤ 70000) : Calls Tryz.prog 56 #[.pointer (some ⟨gp, 0, none⟩)] w (Ans (DefV w.heap.size) gp 0 (ts.length - 1) w (pDef ts)) := by
  obtain ⟨t, r, rfl⟩ := hg.ne
  have hgp := h.lt
  obtain ⟨g, o, cap, hb, hl1, hm, hne, hgs, hc⟩ := id h
  obtain ⟨c0, c1, c2, c3⟩ := tcells_head t r g o w hc
  have hp : w.cell? ⟨gp, 0, none⟩ = some (.slice (some ⟨g, o, none⟩) (t :: r).length cap) := hb.cell 0
  have hl0 : 0 < (t :: r).length := by simp
  have HH := Lib.hid h
  have HG := Lib.hid hg
  have b0 := Blk.new w 50 #[.int .i64 0, .string ⟨#[]⟩, .slice none 0 0]
  have hk0 : Kp (fun i => i = gp) w (w.alloc (.cells #[.int .i64 0, .string ⟨#[]⟩, .slice none 0 0] 50)) := Kp.alloc _ _ _
  unfold maxLen at hm
  clear hc hb h
  by_cases k1 : t.kind = 1
  · have hgr := hg.tail (r := r) (by omega)
    have HTK := Lib.hid (fun w h => take_any w gp t r 0 h hgr.pos)
    have HGR := Lib.hid hgr
    have HK := Lib.hid k1
    have HN : Hid ((t :: r).length = r.length + 1) := Lib.hid rfl
    have HE1 := Lib.hid (pdef_eq t r k1)
    have HE2 := Lib.hid (pdef_go t r k1)
    generalize hX : pDef (t :: r) = X at *
    generalize (t :: r).length = n at *
    have c0 : w.cell? ⟨g, o, none⟩ = some (.int .i64 1) := by rw [c0, k1]; rfl
    obtain ⟨K, P, T, F⟩ := t
    have HB0 := Lib.hid b0
    have HK0 := Lib.hid hk0
    clear hg hgr k1 hX b0 hk0
    go_enter Tryz.func56, Tryz.ntmps56
    go_wp2_with fail
    refine (HTK.out _ (HH.out.alloc _)).mono ?_
    rintro e w1 ⟨rfl, hp1, hk1⟩
    have hz1 : w.heap.size + 1 ≤ w1.heap.size := by have := hk1.size; simp at this; omega
    have HB1 := Lib.hid (HB0.out.kept hk1 (by show ¬ w.heap.size = gp; omega))
    have HK1 := Lib.hid (HK0.out.trans hk1)
    have HP1 := Lib.hid hp1
    clear hp1 hk1 c0 c1 c2 c3 hp HTK HB0 HK0
    go_wp2_with fail
    have hk2 : Kp (fun i => i = gp) w1 (w1.alloc (.cells #[.int .i64 K, .int .i64 P, .string (S T), .float .f64 F] 36)) := Kp.alloc _ _ _
    have b1 := Blk.new w1 36 #[.int .i64 K, .int .i64 P, .string (S T), .float .f64 F]
    have hp2 := HP1.out.alloc (.cells #[.int .i64 K, .int .i64 P, .string (S T), .float .f64 F] 36)
    have hb0 := HB1.out.alloc (.cells #[.int .i64 K, .int .i64 P, .string (S T), .float .f64 F] 36)
    have hz2 : (w1.alloc (.cells #[.int .i64 K, .int .i64 P, .string (S T), .float .f64 F] 36)).heap.size = w1.heap.size + 1 := World.size_alloc _ _
    have hK2 := HK1.out.trans hk2
    generalize w1.alloc (.cells #[.int .i64 K, .int .i64 P, .string (S T), .float .f64 F] 36) = w2 at *
    have HB0 := Lib.hid hb0
    have HB1' := Lib.hid b1
    have HK2 := Lib.hid hK2
    clear hb0 b1 hK2 hk2 HB1 HK1 HP1
    by_cases h61 : sg r = 61
    · have HX := HE2.out h61
      obtain ⟨t2, r2, rfl, hst, hgr2⟩ := HGR.out.sg_tail (by omega)
      refine (want_ok w2 gp t2 r2 0 61 hp2 HGR.out (hst.trans h61) (by decide) (by decide)).mono ?_
      rintro e w3 ⟨rfl, hp3, hk3, _⟩
      have hlr : (t2 :: r2).length = r2.length + 1 := rfl
      have ha := alts_all 16 w3 gp r2 (Nat.le_refl _) hp3 hgr2 (by have := HN.out; omega)
      have hz3 := hk3.size
      have HB3 := Lib.hid (HB0.out.kept hk3 (by show ¬ w.heap.size = gp; omega))
      have HB3' := Lib.hid (HB1'.out.kept hk3 (by show ¬ w1.heap.size = gp; omega))
      have HK3 := Lib.hid (HK2.out.trans hk3)
      have HX2 := Lib.hid HX
      clear HX hp3 hk3 hp2 HB0 HB1' HK2 HE1 HE2
      go_wp2_with fail
      refine ha.mono ?_
      rintro e w4 ⟨hk4, ha4⟩
      have hz4 := hk4.size
      have HB4 := Lib.hid (HB3.out.kept hk4 (by show ¬ w.heap.size = gp; omega))
      have HB4' := Lib.hid (HB3'.out.kept hk4 (by show ¬ w1.heap.size = gp; omega))
      have HK4 := Lib.hid (HK3.out.trans hk4)
      clear ha hk4 HB3 HB3' HK3
      cases hx : pA 16 r2 with
      | error p =>
        rw [hx] at ha4
        obtain rfl : e = _ := ha4
        have HR : Hid (X = .error p) := Lib.hid (by rw [HX2.out, show (t2 :: r2).tail = r2 from rfl, hx]; rfl)
        clear hx
        go_wp2_with fail
        refine ⟨rfl, HK4.out, ?_⟩
        rw [HR.out]
      | ok x =>
        obtain ⟨bs, r3⟩ := x
        rw [hx] at ha4
        obtain ⟨v, rfl, hv, hp4, hg4, hl4⟩ := ha4
        obtain ⟨ao, c, rfl⟩ := hv.form
        have HV := Lib.hid hv
        have HP4 := Lib.hid hp4
        have HXX := Lib.hid hx
        clear hv hp4 hx
        generalize hbn : bs.length = bn at *
        have HBN := Lib.hid hbn
        clear hbn
        go_wp2_with fail
        by_cases h59 : sg r3 = 59
        · obtain ⟨t4, r4, rfl, hst4, hgr4⟩ := hg4.sg_tail (by omega)
          refine (want_ok w4 gp t4 r4 0 59 HP4.out hg4 (hst4.trans h59) (by decide) (by decide)).mono ?_
          rintro e w5 ⟨rfl, hp5, hk5, _⟩
          have hz5 := hk5.size
          have HR : Hid (X = .ok ((P, T, bs), r4)) := Lib.hid (by rw [HX2.out, show (t2 :: r2).tail = r2 from rfl, HXX.out, show pShut 59 (.ok (bs, t4 :: r4)) = .ok (bs, r4) from if_pos h59])
          have b0 := HB4.out.kept hk5 (by show ¬ w.heap.size = gp; omega)
          have b1 := HB4'.out.kept hk5 (by show ¬ w1.heap.size = gp; omega)
          have HV5 := Lib.hid (HV.out.kp hk5 (fun g hg => by show ¬ g = gp; omega))
          have HK5 := Lib.hid (HK4.out.trans hk5)
          have HP5 := Lib.hid hp5
          have l0 := b0.lt
          have l1 := b1.lt
          have x0 := b0.cell 0
          have x1 := b0.cell 1
          have x2 := b0.cell 2
          have y1 := b1.cell 1
          have y2 := b1.cell 2
          simp only [List.getElem?_toArray, List.getElem?_cons_zero, List.getElem?_cons_succ] at x0 x1 x2 y1 y2
          have u0 := b0.frozen 0
          have u1 := b0.frozen 1
          have u2 := b0.frozen 2
          clear b0 b1 hk5 hp5
          go_wp2_with fail
          have hke := kp_end3 w5 w.heap.size (.int .i64 P) (.string (S T)) (.slice ao bn c)
          refine bodyPost_ret (v := .agg #[.int .i64 P, .string (S T), .slice ao bn c]) (by simp [results, Tryz.results56, go_sem, x0, x1, x2]) rfl ⟨HK5.out.then_ hke (fun i hi => .inr (by have : i = w.heap.size := hi; omega)), ?_⟩
          rw [HR.out]
          refine ⟨_, rfl, ⟨.slice ao bn c, rfl, (HV5.out.kp hke (fun g hg => by show ¬ g = w.heap.size; omega)).mono (fun g hg => by omega)⟩, HP5.out.kept hke (fun i hi => by have : i = w.heap.size := hi; omega), hgr4, ?_⟩
          have := HN.out
          have : (t4 :: r4).length = r4.length + 1 := rfl
          omega
        · refine (want_no w4 gp r3 0 59 HP4.out hg4 h59 (sg_byte hg4) (by decide)).mono ?_
          rintro e w5 ⟨rfl, rfl⟩
          have HR : Hid (X = .error (5, (hd r3).at_)) := Lib.hid (by rw [HX2.out, show (t2 :: r2).tail = r2 from rfl, HXX.out, show pShut 59 (.ok (bs, r3)) = .error (5, (hd r3).at_) from if_neg h59])
          go_wp2_with fail
          refine ⟨rfl, HK4.out, ?_⟩
          rw [HR.out]
    · have HX := HE1.out h61
      refine (want_no w2 gp r 0 61 hp2 HGR.out h61 (sg_byte HGR.out) (by decide)).mono ?_
      rintro e w3 ⟨rfl, rfl⟩
      have HR := Lib.hid HX
      clear HX HE1 HE2 hp2
      go_wp2_with fail
      refine ⟨rfl, HK2.out, ?_⟩
      rw [HR.out]
  · have HR := Lib.hid (pdef_no (t :: r) k1)
    generalize hX : pDef (t :: r) = X at *
    have hk1 : ((t.kind : Int) != 1) = true := by rw [bne_iff_ne]; omega
    have hfl := fail_any _ gp _ _ (HH.out.alloc (.cells #[.int .i64 0, .string ⟨#[]⟩, .slice none 0 0] 50)) HG.out 5
    generalize (t :: r).length = n at *
    generalize (hd (t :: r)).at_ = A at *
    obtain ⟨K, P, T, F⟩ := t
    clear k1 hX hg b0
    go_enter Tryz.func56, Tryz.ntmps56
    go_wp2_with fail
    refine hfl.mono ?_
    rintro e w1 ⟨rfl, rfl⟩
    go_wp2_with fail
    refine ⟨rfl, hk0, ?_⟩
    rw [HR.out]
end Go.Proofs.YtjddjdpgnoebnaaGreatDoor.lx

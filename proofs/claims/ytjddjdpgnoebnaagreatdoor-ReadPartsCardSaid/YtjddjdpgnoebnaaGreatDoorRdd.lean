import Derived.Test.YtjddjdpgnoebnaaGreatDoorRdc
namespace Go.Proofs.YtjddjdpgnoebnaaGreatDoor.lx
open Go.ChangeShapes Go.WideShapes Go.ChangeAt Go.RowKit
set_option linter.unusedVariables false
attribute [local go_sem] run_store_float
/-! what stands in brackets -/
def Ans {α : Type} (V : World → Value → α → Prop) (gp d n : Nat) (w : World) (x : Res α) (e : Ending) (w' : World) : Prop :=
  Kp (fun i => i = gp) w w' ∧ match x with
  | .error p => e = .panicked [{ v := Wrong p.1 p.2, recovered := false }]
  | .ok (a, r) => ∃ v, e = .returned v ∧ V w' v a ∧ PAt w' gp r d ∧ Good r ∧ r.length ≤ n
def AltsOk (k : Nat) : Prop := ∀ (w : World) (gp : Nat) (ts : List Tok), k ≤ 16 → PAt w gp ts (16 - k) → Good ts → ts.length ≤ 70000 → Calls Tryz.prog 68 #[.pointer (some ⟨gp, 0, none⟩)] w (Ans (fun w' v bs => AltsAt (k + 1) w' (fun g => w.heap.size ≤ g) v bs) gp (16 - k) ts.length w (pA k ts))
def GroupOk (k : Nat) : Prop := ∀ (w : World) (gp : Nat) (ts : List Tok), k ≤ 16 → PAt w gp ts (16 - k) → Good ts → ts.length ≤ 70000 → sg ts = 40 → Calls Tryz.prog 92 #[.pointer (some ⟨gp, 0, none⟩)] w (Ans (fun w' v bs => AltsAt k w' (fun g => w.heap.size ≤ g) v bs) gp (16 - k) (ts.length - 1) w (pSub k ts))
theorem AltsAt.kp {k : Nat} {S : Nat → Prop} {w w' : World} {A : Nat → Prop} {v : Value} {bs : List Altn} (h : AltsAt k w A v bs) (hk : Kp S w w') (hA : ∀ g, A g → ¬ S g) : AltsAt k w' A v bs :=
  keepsAlts k _ _ _ _ _ _ h (fun g hg hg2 => ⟨hg2, hk.block g hg (hA g hg2)⟩) hk.size
theorem AltsAt.mono {k : Nat} {w : World} {A A' : Nat → Prop} {v : Value} {bs : List Altn} (h : AltsAt k w A v bs) (hA : ∀ g, A g → A' g) : AltsAt k w A' v bs :=
  keepsAlts k _ _ _ _ _ _ h (fun g _ hg2 => ⟨hA g hg2, rfl⟩) (Nat.le_refl _)
theorem PAt.deep {w : World} {gp d : Nat} {ts : List Tok} (h : PAt w gp ts d) (d' : Nat) (x : Int) (hx : x = d') : PAt (w.setCell ⟨gp, 1, none⟩ (.int .i64 x)) gp ts d' := by
  subst hx
  obtain ⟨g, o, cap, hb, hl, hm, hne, hgs, hc⟩ := h
  exact ⟨g, o, cap, hb.set_ 1 (.int .i64 d'), hl, hm, hne, by simpa using hgs, fun j u hj => (kp_at w gp 1 _).cell (hc j u hj) (by show ¬ g = gp; omega)⟩
theorem PAt.cell1 {w : World} {gp d : Nat} {ts : List Tok} (h : PAt w gp ts d) : w.cell? ⟨gp, 1, none⟩ = some (.int .i64 d) ∧ w.frozen? ⟨gp, 1, none⟩ = false := by
  obtain ⟨g, o, cap, hb, hl, hm, hne, hgs, hc⟩ := h
  exact ⟨hb.cell 1, hb.frozen 1⟩
theorem sg_byte {ts : List Tok} (h : Good ts) : sg ts < 256 := by
  unfold sg sgOf
  split
  · exact (UInt8.toNat_lt _)
  · decide
theorem Good.sg_tail {ts : List Tok} (h : Good ts) (h0 : 0 < sg ts) : ∃ t r, ts = t :: r ∧ sgOf t = sg ts ∧ Good r := by
  obtain ⟨t, r, rfl⟩ := h.ne
  refine ⟨t, r, rfl, rfl, h.tail fun hk => ?_⟩
  have h0 : 0 < sgOf t := h0
  unfold sgOf at h0
  rw [if_neg (by omega)] at h0
  omega
set_option maxRecDepth 100000 in
theorem group_zero : GroupOk 0 := by
  intro w gp ts _ h hg _ _
  have h2 := fail_any w gp _ _ h hg 6
  obtain ⟨hc, hf⟩ := h.cell1
  have hc : w.cell? ⟨gp, 1, none⟩ = some (.int .i64 16) := hc
  have hgp := h.lt
  show Calls _ _ _ _ (Ans _ _ _ _ _ (.error (6, (hd ts).at_)))
  generalize (hd ts).at_ = P at *
  clear h hg
  go_enter Tryz.func92, Tryz.ntmps92
  go_wp2_with fail
  refine h2.mono ?_
  rintro e w1 ⟨rfl, rfl⟩
  go_wp2
  exact ⟨rfl, Kp.refl _ _, rfl⟩
set_option maxRecDepth 100000 in
set_option maxHeartbeats 1000000 in
theorem group_succ (k : Nat) (hA : AltsOk k) : GroupOk (k + 1) := by
  intro w gp ts hk h hg hl hs
  obtain ⟨t, r, rfl, hst, hgr⟩ := hg.sg_tail (by omega)
  have h1 := want_ok w gp t r _ 40 h hg (hst.trans hs) (by decide) (by decide)
  obtain ⟨hc, hf⟩ := h.cell1
  have hgp := h.lt
  have hsub : pSub (k + 1) (t :: r) = pShut 41 (pA k r) := rfl
  rw [hsub]
  have hne : (((16 - (k + 1) : Nat) : Int) == 16) = false := by rw [beq_eq_false_iff_ne]; omega
  have e1 : 16 - (k + 1) + 1 = 16 - k := by omega
  have hd16 : 16 - (k + 1) ≤ 16 := by omega
  generalize 16 - (k + 1) = d at *
  clear h hg hst hs hsub
  go_enter Tryz.func92, Tryz.ntmps92
  go_wp2_with fail
  refine h1.mono ?_
  rintro e w1 ⟨rfl, hp1, hk1, _⟩
  obtain ⟨hc1, hf1⟩ := hp1.cell1
  have hz1 := hk1.size
  have HP1 := Lib.hid hp1
  have HK1 := Lib.hid hk1
  clear hp1 hk1 h1 hc hf
  go_wp2_with fail
  have hp2 := HP1.out.deep (16 - k) ((d : Int) + 1) (by omega)
  have ha := hA _ gp r (by omega) hp2 hgr (by have := hl; simp at this; omega)
  have HK2 := Lib.hid (HK1.out.trans (kp_at w1 gp 1 (.int .i64 ((d : Int) + 1))))
  have hsz : (w1.setCell ⟨gp, 1, none⟩ (.int .i64 ((d : Int) + 1))).heap.size = w1.heap.size := by simp
  rw [hsz] at ha
  refine ha.mono ?_
  rintro e w3 ⟨hk3, ha3⟩
  have hz3 := hk3.size
  rw [hsz] at hz3
  have HK3 := Lib.hid (HK2.out.trans hk3)
  clear hp2 ha hsz hk3
  have hlr : r.length ≤ (t :: r).length - 1 := by simp
  cases hx : pA k r with
  | error p =>
    rw [hx] at ha3
    obtain rfl : e = _ := ha3
    have HX := Lib.hid hx
    clear hx
    go_wp2_with fail
    refine ⟨rfl, HK3.out, ?_⟩
    rw [HX.out]
    rfl
  | ok x =>
    obtain ⟨bs, r2⟩ := x
    rw [hx] at ha3
    obtain ⟨v, rfl, hv, hp3, hg3, hl3⟩ := ha3
    obtain ⟨hc3, hf3⟩ := hp3.cell1
    have hgp3 : gp < w3.heap.size := hp3.lt
    have HP3 := Lib.hid (hp3.deep d (((16 - k : Nat) : Int) - 1) (by omega))
    have HV := Lib.hid hv
    have HX := Lib.hid hx
    clear hp3 hv hx
    have hd1 : ((16 - k : Nat) : Int) ≤ 17 := by omega
    have hd0 : 0 ≤ ((16 - k : Nat) : Int) := by omega
    go_wp2_with fail
    have HK4 := Lib.hid (HK3.out.trans (kp_at w3 gp 1 (.int .i64 (((16 - k : Nat) : Int) - 1))))
    have HV4 := Lib.hid (HV.out.kp (kp_at w3 gp 1 (.int .i64 (((16 - k : Nat) : Int) - 1))) (fun g hg => by omega))
    by_cases hs : sg r2 = 41
    · obtain ⟨t2, r3, rfl, hst2, hgr3⟩ := hg3.sg_tail (by omega)
      have h2 := want_ok _ gp t2 r3 _ 41 HP3.out hg3 (hst2.trans hs) (by decide) (by decide)
      refine h2.mono ?_
      rintro e w5 ⟨rfl, hp5, hk5, _⟩
      have HR : Hid (pShut 41 (pA k r) = .ok (bs, r3)) := Lib.hid (by rw [HX.out]; exact if_pos hs)
      have HV5 := Lib.hid (HV4.out.kp hk5 (fun g hg => by omega))
      have HK5 := Lib.hid (HK4.out.trans hk5)
      have HP5 := Lib.hid hp5
      clear h2 hp5 hk5
      go_wp2_with fail
      go_ret
      refine ⟨HK5.out, ?_⟩
      rw [HR.out]
      exact ⟨v, rfl, HV5.out.mono (fun g hg => by omega), HP5.out, hgr3, by simp at hl3 ⊢; omega⟩
    · have h2 := want_no _ gp r2 _ 41 HP3.out hg3 hs (sg_byte hg3) (by decide)
      refine h2.mono ?_
      rintro e w5 ⟨rfl, rfl⟩
      have HR : Hid (pShut 41 (pA k r) = .error (5, (hd r2).at_)) := Lib.hid (by rw [HX.out]; exact if_neg hs)
      clear h2
      go_wp2_with fail
      refine ⟨rfl, HK4.out, ?_⟩
      rw [HR.out]
end Go.Proofs.YtjddjdpgnoebnaaGreatDoor.lx

import Derived.Test.YtldamieigigncaaGreatDoorVcaf
import Derived.LaidEqlPtr
import Derived.Lib.Builder
namespace Go.Proofs.YtldamieigigncaaGreatDoor.lx
open Go.ChangeShapes Go.WideShapes Go.ChangeAt Go.RowKit
set_option linter.unusedVariables false
attribute [local go_sem] run_store_float
def PAt (w : World) (gp : Nat) (ts : List Tok) (d : Nat) : Prop := ∃ g o cap, Blk w gp 116 #[.slice (some ⟨g, o, none⟩) ts.length cap, .int .i64 d] ∧ ts.length ≤ cap ∧ cap ≤ maxLen ∧ g < gp ∧ g < w.heap.size ∧ ∀ j u, (tcells ts)[j]? = some u → w.cell? ⟨g, o + j, none⟩ = some u
def Wrong (e a : Nat) : Value := .iface 114 (.agg #[.int .i64 e, .int .i64 a])
theorem tcells_head (t : Tok) (r : List Tok) (g o : Nat) (w : World) (hc : ∀ j u, (tcells (t :: r))[j]? = some u → w.cell? ⟨g, o + j, none⟩ = some u) : w.cell? ⟨g, o, none⟩ = some (.int .i64 t.kind) ∧ w.cell? ⟨g, o + 1, none⟩ = some (.int .i64 t.at_) ∧ w.cell? ⟨g, o + 2, none⟩ = some (.string (S t.text)) ∧ w.cell? ⟨g, o + 3, none⟩ = some (.float .f64 t.wt) :=
  ⟨hc 0 _ rfl, hc 1 _ rfl, hc 2 _ rfl, hc 3 _ rfl⟩
theorem tcells_tail (t : Tok) (r : List Tok) (g o : Nat) (w : World) (hc : ∀ j u, (tcells (t :: r))[j]? = some u → w.cell? ⟨g, o + j, none⟩ = some u) : ∀ j u, (tcells r)[j]? = some u → w.cell? ⟨g, o + 4 + j, none⟩ = some u := fun j u hj => by
  have := hc (4 + j) u (by
    have e : tcells (t :: r) = tokC t ++ tcells r := rfl
    rw [e, List.getElem?_append_right (by simp [tokC])]
    simpa [tokC] using hj)
  rwa [← Nat.add_assoc] at this
set_option maxRecDepth 100000 in
theorem psign_any (w : World) (gp : Nat) (ts : List Tok) (d : Nat) (h : PAt w gp ts d) (hg : Good ts) : Calls Tryz.prog 141 #[.pointer (some ⟨gp, 0, none⟩)] w fun e w' => e = .returned (.int .u8 (sg ts)) ∧ w = w' := by
  obtain ⟨t, r, rfl⟩ := hg.ne
  obtain ⟨g, o, cap, hb, hl, hm, hne, hgs, hc⟩ := h
  obtain ⟨c0, c1, c2, c3⟩ := tcells_head t r g o w hc
  have hp : w.cell? ⟨gp, 0, none⟩ = some (.slice (some ⟨g, o, none⟩) (t :: r).length cap) := hb.cell 0
  have hl0 : 0 < (t :: r).length := by simp
  have hsg := fun h4 => hg.sign (r := r) h4
  have e : sg (t :: r) = sgOf t := rfl
  rw [e]
  unfold sgOf
  generalize (t :: r).length = n at *
  obtain ⟨K, P, T, F⟩ := t
  unfold maxLen at hm
  clear hc hb hg e
  by_cases h4 : K = 4
  · subst h4
    obtain ⟨c, hT, _⟩ := hsg rfl
    have hT : T = [c] := hT
    subst hT
    have hs : (S [c]).size = 1 := rfl
    have c2 : w.cell? ⟨g, o + 2, none⟩ = some (.string (S [c])) := c2
    have c0 : w.cell? ⟨g, o, none⟩ = some (.int .i64 4) := c0
    clear hsg
    go_enter Tryz.func141, Tryz.ntmps141
    go_wp2
    go_ret
    exact ⟨rfl, rfl⟩
  · have h4' : ((K : Int) != 4) = true := by rw [bne_iff_ne]; omega
    rw [if_neg h4]
    clear hsg h4
    go_enter Tryz.func141, Tryz.ntmps141
    go_wp2
    go_ret
    exact ⟨rfl, rfl⟩
set_option maxRecDepth 100000 in
theorem fail_any (w : World) (gp : Nat) (ts : List Tok) (d : Nat) (h : PAt w gp ts d) (hg : Good ts) (n : Nat) : Calls Tryz.prog 118 #[.pointer (some ⟨gp, 0, none⟩), .int .i64 n] w fun e w' => e = .panicked [{ v := Wrong n (hd ts).at_, recovered := false }] ∧ w = w' := by
  obtain ⟨t, r, rfl⟩ := hg.ne
  obtain ⟨g, o, cap, hb, hl, hm, hne, hgs, hc⟩ := h
  obtain ⟨c0, c1, c2, c3⟩ := tcells_head t r g o w hc
  have hp : w.cell? ⟨gp, 0, none⟩ = some (.slice (some ⟨g, o, none⟩) (t :: r).length cap) := hb.cell 0
  have hl0 : 0 < (t :: r).length := by simp
  have e : (hd (t :: r)).at_ = t.at_ := rfl
  rw [e]
  generalize (t :: r).length = m at *
  obtain ⟨K, P, T, F⟩ := t
  unfold maxLen at hm
  clear hc hb hg e
  go_enter Tryz.func118, Tryz.ntmps118
  go_wp2
  exact ⟨rfl, rfl, rfl⟩
theorem kp_at (w : World) (gp i : Nat) (u : Value) : Kp (fun j => j = gp) w (w.setCell ⟨gp, i, none⟩ u) := Kp.set_ (S := fun j => j = gp) (Kp.refl _ w) (.inl rfl) u
set_option maxRecDepth 100000 in
theorem take_any (w : World) (gp : Nat) (t : Tok) (r : List Tok) (d : Nat) (h : PAt w gp (t :: r) d) (hr : 0 < r.length) : Calls Tryz.prog 119 #[.pointer (some ⟨gp, 0, none⟩)] w fun e w' => e = .returned (.agg #[.int .i64 t.kind, .int .i64 t.at_, .string (S t.text), .float .f64 t.wt]) ∧ PAt w' gp r d ∧ Kp (fun i => i = gp) w w' := by
  obtain ⟨g, o, cap, hb, hl, hm, hne, hgs, hc⟩ := h
  obtain ⟨c0, c1, c2, c3⟩ := tcells_head t r g o w hc
  have hct := tcells_tail t r g o w hc
  have hp : w.cell? ⟨gp, 0, none⟩ = some (.slice (some ⟨g, o, none⟩) (r.length + 1) cap) := hb.cell 0
  have hf := hb.frozen 0
  have hgp := hb.lt
  have HC := Lib.hid hct
  have HB := Lib.hid hb
  have hl : r.length + 1 ≤ cap := hl
  generalize hn : r.length = n at *
  have HN := Lib.hid hn
  obtain ⟨K, P, T, F⟩ := t
  unfold maxLen at hm
  clear hc hb hct hn
  go_enter Tryz.func119, Tryz.ntmps119
  go_wp2
  refine bodyPost_ret (v := .agg #[.int .i64 K, .int .i64 P, .string (S T), .float .f64 F]) (by simp [results, Tryz.results119, go_sem]) rfl ⟨rfl, ⟨g, o + 4, cap - 1, ?_, ?_, ?_, hne, ?_, ?_⟩, ?_⟩
  · have h := ((HB.out.set_ 0 (.slice (some ⟨g, o + 4, none⟩) n (cap - 1))).alloc (.cells #[.int .i64 K, .int .i64 P, .string (S T), .float .f64 F] 162)).alloc (.cells #[.int .i64 K, .int .i64 P, .string (S T), .float .f64 F] 162)
    rw [HN.out]
    exact h
  · rw [HN.out]; omega
  · unfold maxLen; omega
  · simp; omega
  · intro j u hj
    have h := HC.out j u hj
    have k1 : Kp (fun i => i = gp) w (((w.setCell ⟨gp, 0, none⟩ (.slice (some ⟨g, o + 4, none⟩) n (cap - 1))).alloc (.cells #[.int .i64 K, .int .i64 P, .string (S T), .float .f64 F] 162)).alloc (.cells #[.int .i64 K, .int .i64 P, .string (S T), .float .f64 F] 162)) := ((kp_at w gp 0 _).trans (Kp.alloc _ _ _)).trans (Kp.alloc _ _ _)
    exact k1.cell h (by show ¬ g = gp; omega)
  · exact ((kp_at w gp 0 _).trans (Kp.alloc _ _ _)).trans (Kp.alloc _ _ _)
theorem PAt.kept {S : Nat → Prop} {w w' : World} {gp d : Nat} {ts : List Tok} (h : PAt w gp ts d) (k : Kp S w w') (hS : ∀ i, S i → gp < i) : PAt w' gp ts d := by
  obtain ⟨g, o, cap, hb, hl, hm, hne, hgs, hc⟩ := h
  refine ⟨g, o, cap, hb.kept k (fun h => ?_), hl, hm, hne, Nat.lt_of_lt_of_le hgs k.size, fun j u hj => k.cell (hc j u hj) fun h => ?_⟩
  · have := hS _ h
    omega
  · have := hS _ h
    simp at this
    omega
theorem PAt.alloc {w : World} {gp d : Nat} {ts : List Tok} (h : PAt w gp ts d) (o : Obj) : PAt (w.alloc o) gp ts d := h.kept (Kp.alloc (fun _ => False) w o) fun _ h => h.elim
theorem PAt.lt {w : World} {gp d : Nat} {ts : List Tok} (h : PAt w gp ts d) : gp < w.heap.size := by
  obtain ⟨g, o, cap, hb, _⟩ := h
  exact hb.lt
set_option maxRecDepth 100000 in
theorem want_ok (w : World) (gp : Nat) (t : Tok) (r : List Tok) (d c : Nat) (h : PAt w gp (t :: r) d) (hg : Good (t :: r)) (hc : sgOf t = c) (h0 : 0 < c) (hc2 : c < 256) : Calls Tryz.prog 120 #[.pointer (some ⟨gp, 0, none⟩), .int .u8 c] w fun e w' => e = .returned (.tuple #[]) ∧ PAt w' gp r d ∧ Kp (fun i => i = gp) w w' ∧ Good r := by
  have hk : t.kind ≠ 0 := fun hk => by
    unfold sgOf at hc
    rw [if_neg (by omega)] at hc
    omega
  have hgr := hg.tail hk
  have h1 := psign_any w gp _ d h hg
  rw [show sg (t :: r) = c from hc] at h1
  have h2 := take_any w gp t r d h hgr.pos
  generalize t.kind = K at *
  generalize S t.text = T at *
  generalize t.wt = F at *
  generalize t.at_ = P at *
  have HG := Lib.hid hgr
  clear hgr hg h
  go_enter Tryz.func120, Tryz.ntmps120
  go_wp2_with (go_at_call 141; refine h1.mono ?_; rintro e w1 ⟨rfl, rfl⟩)
  refine h2.mono ?_
  rintro e w1 ⟨rfl, hp, hk⟩
  go_wp2
  refine bodyPost_end (results_none rfl _ _ _) rfl ?_
  exact ⟨rfl, hp, hk, HG.out⟩
set_option maxRecDepth 100000 in
theorem want_no (w : World) (gp : Nat) (ts : List Tok) (d c : Nat) (h : PAt w gp ts d) (hg : Good ts) (hc : sg ts ≠ c) (hs : sg ts < 256) (hc2 : c < 256) : Calls Tryz.prog 120 #[.pointer (some ⟨gp, 0, none⟩), .int .u8 c] w fun e w' => e = .panicked [{ v := Wrong 5 (hd ts).at_, recovered := false }] ∧ w = w' := by
  have h1 := psign_any w gp _ d h hg
  have h2 := fail_any w gp _ d h hg 5
  generalize (hd ts).at_ = P at *
  generalize sg ts = s at *
  have hne : ((s : Int) != c) = true := by rw [bne_iff_ne]; omega
  clear hg h hc
  go_enter Tryz.func120, Tryz.ntmps120
  go_wp2_with (go_at_call 141; refine h1.mono ?_; rintro e w1 ⟨rfl, rfl⟩)
  refine h2.mono ?_
  rintro e w1 ⟨rfl, rfl⟩
  go_wp2
  exact ⟨rfl, rfl, rfl⟩
set_option maxRecDepth 100000 in
theorem atitem_any (w : World) (gp : Nat) (ts : List Tok) (d : Nat) (h : PAt w gp ts d) (hg : Good ts) : Calls Tryz.prog 164 #[.pointer (some ⟨gp, 0, none⟩)] w fun e w' => e = .returned (.bool (atIt (hd ts))) ∧ w = w' := by
  have h1 := psign_any w gp _ d h hg
  obtain ⟨t, r, rfl⟩ := hg.ne
  obtain ⟨g, o, cap, hb, hl, hm, hne, hgs, hc⟩ := h
  obtain ⟨c0, c1, c2, c3⟩ := tcells_head t r g o w hc
  have hp : w.cell? ⟨gp, 0, none⟩ = some (.slice (some ⟨g, o, none⟩) (t :: r).length cap) := hb.cell 0
  have hl0 : 0 < (t :: r).length := by simp
  have HE : Hid (atIt (hd (t :: r)) = (t.kind == 1 || t.kind == 2 || sgOf t == 40)) := Lib.hid rfl
  have e : sg (t :: r) = sgOf t := rfl
  rw [e] at h1
  generalize atIt (hd (t :: r)) = z at *
  generalize (t :: r).length = n at *
  generalize sgOf t = s at *
  obtain ⟨K, P, T, F⟩ := t
  have HE : Hid (z = (K == 1 || K == 2 || s == 40)) := HE
  have c0 : w.cell? ⟨g, o, none⟩ = some (.int .i64 K) := c0
  unfold maxLen at hm
  clear hc hb hg e c1 c2 c3
  by_cases k1 : K = 1
  · subst k1
    have HZ : Hid (z = true) := Lib.hid (by rw [HE.out]; rfl)
    clear HE
    go_enter Tryz.func164, Tryz.ntmps164
    go_wp2_with fail
    go_ret
    exact ⟨ret_bool HZ.out.symm, rfl⟩
  · have k1' : ((K : Int) == 1) = false := by rw [beq_eq_false_iff_ne]; omega
    by_cases k2 : K = 2
    · subst k2
      have HZ : Hid (z = true) := Lib.hid (by rw [HE.out]; rfl)
      clear HE k1 k1'
      go_enter Tryz.func164, Tryz.ntmps164
      go_wp2_with fail
      go_ret
      exact ⟨ret_bool HZ.out.symm, rfl⟩
    · have k2' : ((K : Int) == 2) = false := by rw [beq_eq_false_iff_ne]; omega
      have HZ : Hid (z = ((s : Int) == 40)) := Lib.hid (by
        rw [HE.out, beq_false_of_ne k1, beq_false_of_ne k2, Bool.eq_iff_iff]
        simp
        omega)
      clear HE k1 k2
      go_enter Tryz.func164, Tryz.ntmps164
      go_wp2_with (go_at_call 141; refine h1.mono ?_; rintro e w1 ⟨rfl, rfl⟩)
      go_ret
      exact ⟨ret_bool HZ.out.symm, rfl⟩
end Go.Proofs.YtldamieigigncaaGreatDoor.lx

namespace Go.Proofs.YtldamieigigncaaGreatDoor.lx
open Go.ChangeShapes Go.WideShapes Go.ChangeAt Go.RowKit
set_option linter.unusedVariables false
attribute [local go_sem] run_store_float
def Ans {α : Type} (V : World → Value → α → Prop) (gp d n : Nat) (w : World) (x : Res α) (e : Ending) (w' : World) : Prop :=
  Kp (fun i => i = gp) w w' ∧ match x with
  | .error p => e = .panicked [{ v := Wrong p.1 p.2, recovered := false }]
  | .ok (a, r) => ∃ v, e = .returned v ∧ V w' v a ∧ PAt w' gp r d ∧ Good r ∧ r.length ≤ n
def AltsOk (k : Nat) : Prop := ∀ (w : World) (gp : Nat) (ts : List Tok), k ≤ 16 → PAt w gp ts (16 - k) → Good ts → ts.length ≤ 70000 → Calls Tryz.prog 121 #[.pointer (some ⟨gp, 0, none⟩)] w (Ans (fun w' v bs => AltsAt (k + 1) w' (fun g => w.heap.size ≤ g) v bs) gp (16 - k) ts.length w (pA k ts))
def GroupOk (k : Nat) : Prop := ∀ (w : World) (gp : Nat) (ts : List Tok), k ≤ 16 → PAt w gp ts (16 - k) → Good ts → ts.length ≤ 70000 → sg ts = 40 → Calls Tryz.prog 194 #[.pointer (some ⟨gp, 0, none⟩)] w (Ans (fun w' v bs => AltsAt k w' (fun g => w.heap.size ≤ g) v bs) gp (16 - k) (ts.length - 1) w (pSub k ts))
theorem AltsAt.kp {k : Nat} {S : Nat → Prop} {w w' : World} {A : Nat → Prop} {v : Value} {bs : List Altn} (h : AltsAt k w A v bs) (hk : Kp S w w') (hA : ∀ g, A g → ¬ S g) : AltsAt k w' A v bs :=
  keepsAlts k _ _ _ _ _ _ h (fun g hg hg2 => ⟨hg2, hk.block g hg (hA g hg2)⟩) hk.size
theorem AltsAt.mono {k : Nat} {w : World} {A A' : Nat → Prop} {v : Value} {bs : List Altn} (h : AltsAt k w A v bs) (hA : ∀ g, A g → A' g) : AltsAt k w A' v bs :=
  keepsAlts k _ _ _ _ _ _ h (fun g _ hg2 => ⟨hA g hg2, rfl⟩) (Nat.le_refl _)
theorem PAt.deep {w : World} {gp d : Nat} {ts : List Tok} (h : PAt w gp ts d) (d' : Nat) (x : Int) (hx : x = d') : PAt (w.setCell ⟨gp, 1, none⟩ (.int .i64 x)) gp ts d' := by
  subst hx
  obtain ⟨g, o, cap, hb, hl, hm, hne, hgs, hc⟩ := h
  exact ⟨g, o, cap, hb.set_ 1 (.int .i64 d'), hl, hm, hne, by simpa using hgs, fun j u hj => (kp_at w gp 1 _).cell (hc j u hj) (by show ¬ g = gp; omega)⟩
theorem PAt.cell1 {w : World} {gp d : Nat} {ts : List Tok} (h : PAt w gp ts d) : w.cell? ⟨gp, 1, none⟩ = some (.int .i64 d) ∧ w.frozen? ⟨gp, 1, none⟩ = false := by
  obtain ⟨g, o, cap, hb, hl, hm, hne, hgs, hc⟩ := h
  exact ⟨hb.cell 1, hb.frozen 1⟩
theorem sg_byte {ts : List Tok} (h : Good ts) : sg ts < 256 := by
  unfold sg sgOf
  split
  · exact (UInt8.toNat_lt _)
  · decide
theorem Good.sg_tail {ts : List Tok} (h : Good ts) (h0 : 0 < sg ts) : ∃ t r, ts = t :: r ∧ sgOf t = sg ts ∧ Good r := by
  obtain ⟨t, r, rfl⟩ := h.ne
  refine ⟨t, r, rfl, rfl, h.tail fun hk => ?_⟩
  have h0 : 0 < sgOf t := h0
  unfold sgOf at h0
  rw [if_neg (by omega)] at h0
  omega
set_option maxRecDepth 100000 in
theorem group_zero : GroupOk 0 := by
  intro w gp ts _ h hg _ _
  have h2 := fail_any w gp _ _ h hg 6
  obtain ⟨hc, hf⟩ := h.cell1
  have hc : w.cell? ⟨gp, 1, none⟩ = some (.int .i64 16) := hc
  have hgp := h.lt
  show Calls _ _ _ _ (Ans _ _ _ _ _ (.error (6, (hd ts).at_)))
  generalize (hd ts).at_ = P at *
  clear h hg
  go_enter Tryz.func194, Tryz.ntmps194
  go_wp2_with fail
  refine h2.mono ?_
  rintro e w1 ⟨rfl, rfl⟩
  go_wp2
  exact ⟨rfl, Kp.refl _ _, rfl⟩
set_option maxRecDepth 100000 in
set_option maxHeartbeats 1000000 in
theorem group_succ (k : Nat) (hA : AltsOk k) : GroupOk (k + 1) := by
  intro w gp ts hk h hg hl hs
  obtain ⟨t, r, rfl, hst, hgr⟩ := hg.sg_tail (by omega)
  have h1 := want_ok w gp t r _ 40 h hg (hst.trans hs) (by decide) (by decide)
  obtain ⟨hc, hf⟩ := h.cell1
  have hgp := h.lt
  have hsub : pSub (k + 1) (t :: r) = pShut 41 (pA k r) := rfl
  rw [hsub]
  have hne : (((16 - (k + 1) : Nat) : Int) == 16) = false := by rw [beq_eq_false_iff_ne]; omega
  have e1 : 16 - (k + 1) + 1 = 16 - k := by omega
  have hd16 : 16 - (k + 1) ≤ 16 := by omega
  generalize 16 - (k + 1) = d at *
  clear h hg hst hs hsub
  go_enter Tryz.func194, Tryz.ntmps194
  go_wp2_with fail
  refine h1.mono ?_
  rintro e w1 ⟨rfl, hp1, hk1, _⟩
  obtain ⟨hc1, hf1⟩ := hp1.cell1
  have hz1 := hk1.size
  have HP1 := Lib.hid hp1
  have HK1 := Lib.hid hk1
  clear hp1 hk1 h1 hc hf
  go_wp2_with fail
  have hp2 := HP1.out.deep (16 - k) ((d : Int) + 1) (by omega)
  have ha := hA _ gp r (by omega) hp2 hgr (by have := hl; simp at this; omega)
  have HK2 := Lib.hid (HK1.out.trans (kp_at w1 gp 1 (.int .i64 ((d : Int) + 1))))
  have hsz : (w1.setCell ⟨gp, 1, none⟩ (.int .i64 ((d : Int) + 1))).heap.size = w1.heap.size := by simp
  rw [hsz] at ha
  refine ha.mono ?_
  rintro e w3 ⟨hk3, ha3⟩
  have hz3 := hk3.size
  rw [hsz] at hz3
  have HK3 := Lib.hid (HK2.out.trans hk3)
  clear hp2 ha hsz hk3
  have hlr : r.length ≤ (t :: r).length - 1 := by simp
  cases hx : pA k r with
  | error p =>
    rw [hx] at ha3
    obtain rfl : e = _ := ha3
    have HX := Lib.hid hx
    clear hx
    go_wp2_with fail
    refine ⟨rfl, HK3.out, ?_⟩
    rw [HX.out]
    rfl
  | ok x =>
    obtain ⟨bs, r2⟩ := x
    rw [hx] at ha3
    obtain ⟨v, rfl, hv, hp3, hg3, hl3⟩ := ha3
    obtain ⟨hc3, hf3⟩ := hp3.cell1
    have hgp3 : gp < w3.heap.size := hp3.lt
    have HP3 := Lib.hid (hp3.deep d (((16 - k : Nat) : Int) - 1) (by omega))
    have HV := Lib.hid hv
    have HX := Lib.hid hx
    clear hp3 hv hx
    have hd1 : ((16 - k : Nat) : Int) ≤ 17 := by omega
    have hd0 : 0 ≤ ((16 - k : Nat) : Int) := by omega
    go_wp2_with fail
    have HK4 := Lib.hid (HK3.out.trans (kp_at w3 gp 1 (.int .i64 (((16 - k : Nat) : Int) - 1))))
    have HV4 := Lib.hid (HV.out.kp (kp_at w3 gp 1 (.int .i64 (((16 - k : Nat) : Int) - 1))) (fun g hg => by omega))
    by_cases hs : sg r2 = 41
    · obtain ⟨t2, r3, rfl, hst2, hgr3⟩ := hg3.sg_tail (by omega)
      have h2 := want_ok _ gp t2 r3 _ 41 HP3.out hg3 (hst2.trans hs) (by decide) (by decide)
      refine h2.mono ?_
      rintro e w5 ⟨rfl, hp5, hk5, _⟩
      have HR : Hid (pShut 41 (pA k r) = .ok (bs, r3)) := Lib.hid (by rw [HX.out]; exact if_pos hs)
      have HV5 := Lib.hid (HV4.out.kp hk5 (fun g hg => by omega))
      have HK5 := Lib.hid (HK4.out.trans hk5)
      have HP5 := Lib.hid hp5
      clear h2 hp5 hk5
      go_wp2_with fail
      go_ret
      refine ⟨HK5.out, ?_⟩
      rw [HR.out]
      exact ⟨v, rfl, HV5.out.mono (fun g hg => by omega), HP5.out, hgr3, by simp at hl3 ⊢; omega⟩
    · have h2 := want_no _ gp r2 _ 41 HP3.out hg3 hs (sg_byte hg3) (by decide)
      refine h2.mono ?_
      rintro e w5 ⟨rfl, rfl⟩
      have HR : Hid (pShut 41 (pA k r) = .error (5, (hd r2).at_)) := Lib.hid (by rw [HX.out]; exact if_neg hs)
      clear h2
      go_wp2_with fail
      refine ⟨rfl, HK4.out, ?_⟩
      rw [HR.out]
end Go.Proofs.YtldamieigigncaaGreatDoor.lx


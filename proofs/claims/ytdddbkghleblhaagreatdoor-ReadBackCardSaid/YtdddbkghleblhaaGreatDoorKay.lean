import Derived.Test.YtdddbkghleblhaaGreatDoorKav
import Derived.Test.YtdddbkghleblhaaGreatDoorKax
import Derived.Test.YtdddbkghleblhaaGreatDoorKam
import Derived.Test.YtdddbkghleblhaaGreatDoorKas
import Derived.Test.YtdddbkghleblhaaGreatDoorKak
import Derived.Test.YtdddbkghleblhaaGreatDoorKan
import Derived.Test.YtdddbkghleblhaaGreatDoorKau
namespace Go.Proofs.YtdddbkghleblhaaGreatDoor.lx
open Go.ChangeShapes Go.WideShapes Go.ChangeAt Go.RowKit
set_option linter.unusedVariables false
attribute [local go_sem] run_store_float
/-! ReadParses -/
theorem plain_any (N : Nat) (hN : N ≤ 69999) : ∀ k, PlainT (AltsAt k) (smS N k)
  | 0 => by
    intro w A v bs h1 _
    obtain ⟨rfl, ao, cap, rfl⟩ := h1
    have h := plain_list (fun _ _ _ _ => False) (fun _ _ _ _ _ _ h _ _ => h.elim) (fun _ _ _ _ h => h.elim) (fun _ => False) (fun _ _ _ _ h _ => h.elim) w A (.slice ao 0 cap) [] ⟨by simp, ao, cap, rfl, fun h => absurd h (by simp)⟩ ⟨by simp, fun j x hx => by simp at hx⟩
    refine h.mono ?_
    rintro e w' ⟨⟨v', rfl, hv⟩, hb⟩
    obtain ⟨ao', cap', rfl⟩ := hv.form
    exact ⟨⟨_, rfl, rfl, ao', cap', rfl⟩, hb⟩
  | k + 1 => fun w A v bs h1 h2 => plain_list (AltsAt k) (keepsAlts k) (fun _ _ _ _ h => h.form) (smS N k) (plain_any N hN k) w A v bs h1 ⟨by have := h2.1; omega, fun j x hx => ⟨by have := (h2.2 j x hx).1; omega, (h2.2 j x hx).2⟩⟩
theorem read_small (s : List UInt8) {ds : List Dfn} {e k : Nat} (h : readAll s = (ds, e, k)) : ∀ (j : Nat) (d : Dfn), ds[j]? = some d → smS 65537 17 d.2.2 := by
  intro j d hj
  unfold readAll at h
  by_cases he : (lexAll s).2.1 = 0
  · rw [if_pos he] at h
    have hn : (lexAll s).1.length ≤ 65537 := by
      unfold lexAll
      by_cases hb : 65536 < s.length
      · rw [if_pos hb]; simp
      · rw [if_neg hb]
        rcases hA : lexA s (nxt s 0) with ⟨x, f⟩
        have := (ok_ge s hA).1
        cases f with
        | none => show x.length ≤ _; omega
        | some f => simp
    cases hp : pText (lexAll s).1.length (lexAll s).1 with
    | error q =>
      rw [hp] at h
      have : ([], q) = (ds, e, k) := h
      cases this
      simp at hj
    | ok ds2 =>
      rw [hp] at h
      have : (ds2, 0, 0) = (ds, e, k) := h
      cases this
      exact sm_text 65537 _ _ _ hn hp j d hj
  · rw [if_neg he] at h
    have h2 : [] = ds := congrArg Prod.fst h
    subst h2
    simp at hj
set_option maxRecDepth 100000 in
set_option maxHeartbeats 8000000 in
theorem parses_all (s : ByteArray) (hs : s.size ≤ maxLen) (w : World) (b off : Nat) (hv : Vs w b off) : Calls Tryz.prog 3 #[.string s] w fun e w' => e = .returned (.bool true) ∧ Below w.heap.size w w' := by
  have hal := ralive_any w b off hv
  have HV := Lib.hid hv
  have HMS := Lib.hid hs
  unfold maxLen at hs
  clear hv
  by_cases hmid : 1500 < s.size ∧ s.size ≤ 65536
  · obtain ⟨hm1, hm2⟩ := hmid
    go_enter Tryz.func3, Tryz.ntmps3
    go_wp2_with fail
    refine hal.mono ?_
    rintro e w1 ⟨rfl, hb1⟩
    have HB1 := Lib.hid hb1
    clear hal hb1
    go_wp2_with fail
    go_ret
    exact ⟨rfl, HB1.out⟩
  have HA1 := Lib.hid (fun w h => parse_any s HMS.out w b off h)
  have HA2 := Lib.hid (rparse_all s HMS.out)
  obtain ⟨⟨ds, e1, k1⟩, hra⟩ : ∃ r, readAll s.data.toList = r := ⟨_, rfl⟩
  have HRA := Lib.hid hra
  have HSM := Lib.hid (read_small _ hra)
  clear hra
  have hcase : s.size ≤ 1500 ∨ 65536 < s.size := by omega
  clear hmid
  rcases hcase with hc | hc
  all_goals
    have hc1 : True := trivial
    go_enter Tryz.func3, Tryz.ntmps3
    go_wp2_with fail
    refine hal.mono ?_
    rintro e w1 ⟨rfl, hb1⟩
    have HB1 := Lib.hid hb1
    clear hal hb1
    go_wp2_with fail
    refine (HA1.out _ (HV.out.below HB1.out)).mono ?_
    rintro e w2 ⟨⟨v1, rfl, hl1⟩, hb2⟩
    rw [HRA.out] at hl1 ⊢
    obtain ⟨ao1, cap1, rfl⟩ := hl1.form
    have HB2 := Lib.hid (HB1.out.trans (hb2.mono HB1.out.size))
    have HL1 := Lib.hid hl1
    clear hb2 hl1
    go_wp2_with fail
    refine (HA2.out _).mono ?_
    rintro e w3 ⟨⟨v2, rfl, hl2⟩, hb3⟩
    rw [HRA.out] at hl2 ⊢
    obtain ⟨ao2, cap2, rfl⟩ := hl2.form
    have hF : Blk w3 w2.heap.size 26 #[.int .i64 e1, .int .i64 k1] := Blk.below (Blk.new w2 26 #[.int .i64 e1, .int .i64 k1]) hb3 (by simp)
    have f0 : w3.cell? ⟨w2.heap.size, 0, none⟩ = some (.int .i64 e1) := hF.cell 0
    have f1 : w3.cell? ⟨w2.heap.size, 1, none⟩ = some (.int .i64 k1) := hF.cell 1
    have hf3 := hF.lt
    have h23 : Below w2.heap.size w2 w3 := ((Below.refl _ w2).alloc (Nat.le_refl _) _).trans (hb3.mono (by simp))
    have HB23 := Lib.hid h23
    have HB3 := Lib.hid (HB2.out.trans (h23.mono HB2.out.size))
    have HL2 := Lib.hid hl2
    have hn7 := hl2.1
    have hn7 : ds.length ≤ maxLen := hn7
    unfold maxLen at hn7
    generalize hn : ds.length = n at *
    have HN := Lib.hid hn
    clear hb3 hl2 hF h23 hn
    go_wp2_with fail
    clear f0 f1 hf3
    have HB33 := Lib.hid (Below.refl w3.heap.size w3)
    go_loopw [50] (fun i wr => ∃ k : Nat, k ≤ n ∧ i = .int .i64 k ∧ Below w3.heap.size w3 wr) (fun i _ => n - (intOf i).toNat)
    case atStart => exact ⟨0, Nat.zero_le _, rfl, HB33.out⟩
    case round =>
      obtain ⟨k, hk, rfl, hbr⟩ := hrel
      have HBR := Lib.hid hbr
      have hzr := hbr.size
      clear hbr
      by_cases hlt : k < n
      · obtain ⟨d, hd⟩ : ∃ d, ds[k]? = some d := ⟨_, List.getElem?_eq_getElem (by rw [HN.out]; exact hlt)⟩
        obtain ⟨g1, rfl, hg1, cs1, _, hcs1, av1, rfl, hav1⟩ := ListOf.at2_ (by rw [HN.out]; exact HL1.out) hd
        obtain ⟨g2, rfl, hg2, cs2, _, hcs2, av2, rfl, hav2⟩ := ListOf.at2_ (by rw [HN.out]; exact HL2.out) hd
        obtain ⟨ay1, cy1, rfl⟩ := (show ListOf 3 (EAlt (AltsAt 16)) w2 _ av1 d.2.2 from hav1).form
        obtain ⟨ay2, cy2, rfl⟩ := (show ListOf 3 (EAlt (AltsAt 16)) w3 _ av2 d.2.2 from hav2).form
        have HSD := Lib.hid (HSM.out k d hd)
        have h2r := HB23.out.trans (HBR.out.mono HB23.out.size)
        have p0 : wr.cell? ⟨g1, k * 3, none⟩ = some (.int .i64 d.1) := (h2r.cell (p := ⟨g1, k * 3, none⟩) hg1).trans (hcs1 0 _ rfl)
        have p1 : wr.cell? ⟨g1, k * 3 + 1, none⟩ = some (.string (S d.2.1)) := (h2r.cell (p := ⟨g1, k * 3 + 1, none⟩) hg1).trans (hcs1 1 _ rfl)
        have p2 : wr.cell? ⟨g1, k * 3 + 2, none⟩ = some (.slice ay1 d.2.2.length cy1) := (h2r.cell (p := ⟨g1, k * 3 + 2, none⟩) hg1).trans (hcs1 2 _ rfl)
        have q0 : wr.cell? ⟨g2, k * 3, none⟩ = some (.int .i64 d.1) := (HBR.out.cell (p := ⟨g2, k * 3, none⟩) hg2).trans (hcs2 0 _ rfl)
        have q1 : wr.cell? ⟨g2, k * 3 + 1, none⟩ = some (.string (S d.2.1)) := (HBR.out.cell (p := ⟨g2, k * 3 + 1, none⟩) hg2).trans (hcs2 1 _ rfl)
        have q2 : wr.cell? ⟨g2, k * 3 + 2, none⟩ = some (.slice ay2 d.2.2.length cy2) := (HBR.out.cell (p := ⟨g2, k * 3 + 2, none⟩) hg2).trans (hcs2 2 _ rfl)
        have HAV1 := Lib.hid (keepsAlts 17 _ _ _ (fun g => True) _ _ hav1 (fun g hg hA => ⟨trivial, h2r.block g hg⟩) h2r.size)
        have HAV2 := Lib.hid (keepsAlts 17 _ _ _ (fun g => True) _ _ hav2 (fun g hg hA => ⟨trivial, HBR.out.block g hg⟩) HBR.out.size)
        have hg2r : g2 < wr.heap.size := by omega
        clear hav1 hav2 hcs1 hcs2 hd h2r
        obtain ⟨d0, d1, bs⟩ := d
        simp only at p0 p1 p2 q0 q1 q2 HAV1 HAV2 HSD
        go_upto_region 12 with fail
        have b9 := Blk.new wr 34 #[.int .i64 d0, .string (S d1), .slice ay1 bs.length cy1]
        have hb9 : Below wr.heap.size wr (wr.alloc (.cells #[.int .i64 d0, .string (S d1), .slice ay1 bs.length cy1] 34)) := (Below.refl _ _).alloc (Nat.le_refl _) _
        clear p0 p1 p2
        generalize wr.alloc (.cells #[.int .i64 d0, .string (S d1), .slice ay1 bs.length cy1] 34) = w9 at *
        replace q0 : w9.cell? ⟨g2, k * 3, none⟩ = some (.int .i64 d0) := (hb9.cell (p := ⟨g2, k * 3, none⟩) hg2r).trans q0
        replace q1 : w9.cell? ⟨g2, k * 3 + 1, none⟩ = some (.string (S d1)) := (hb9.cell (p := ⟨g2, k * 3 + 1, none⟩) hg2r).trans q1
        replace q2 : w9.cell? ⟨g2, k * 3 + 2, none⟩ = some (.slice ay2 bs.length cy2) := (hb9.cell (p := ⟨g2, k * 3 + 2, none⟩) hg2r).trans q2
        have m0 : w9.cell? ⟨wr.heap.size, 0, none⟩ = some (.int .i64 d0) := b9.cell 0
        have m1 : w9.cell? ⟨wr.heap.size, 1, none⟩ = some (.string (S d1)) := b9.cell 1
        have m2 : w9.cell? ⟨wr.heap.size, 2, none⟩ = some (.slice ay1 bs.length cy1) := b9.cell 2
        have hl9 := b9.lt
        have hg29 : g2 < w9.heap.size := by have := hb9.size; omega
        have HB9 := Lib.hid hb9
        have HPL := Lib.hid (fun wx (hx : Below wr.heap.size wr wx) => plain_any 65537 (by decide) 17 wx (fun _ => True) (.slice ay1 bs.length cy1) bs (keepsAlts 17 _ _ _ (fun g => True) _ _ HAV1.out (fun g hg hA => ⟨trivial, hx.block g hg⟩) hx.size) HSD.out)
        have HSA := Lib.hid (fun wx (hx : Below wr.heap.size wr wx) (A : Nat → Prop) v' (hv' : AltsAt 17 wx A v' bs) => dsame_any 17 wx A (fun _ => True) v' (.slice ay2 bs.length cy2) bs hv' (keepsAlts 17 _ _ _ (fun g => True) _ _ HAV2.out (fun g hg hA => ⟨trivial, hx.block g hg⟩) hx.size))
        clear b9 hb9
        refine wp_region_E (fun W => Below w9.heap.size w9 W) [] (by kernel_rfl) ?_
        change anyE _ _ _ _ _ _ _ _ _ (World.drew _)
        have HS : Below w9.heap.size w9 (World.drew w9) := (Below.refl _ _).drew
        refine anyE_take (i := 0) (v := ?_) rfl (by kernel_rfl) (by kernel_rfl) (by kernel_rfl) (by kernel_rfl) (by kernel_rfl) (fun _ _ _ h => h) (Or.inl ⟨by kernel_rfl, ?_⟩) HS ?_
        rotate_left
        · intro w _; go_simp; with_reducible rfl
        refine anyE_take (i := 1) (v := ?_) rfl (by kernel_rfl) (by kernel_rfl) (by kernel_rfl) (by kernel_rfl) (by kernel_rfl) (fun _ _ _ h => h) (Or.inl ⟨by kernel_rfl, ?_⟩) HS ?_
        rotate_left
        · intro w hw; have hw := (hw.cell (p := ⟨wr.heap.size, 0, none⟩) hl9).trans m0; go_simp; with_reducible rfl
        refine anyE_take (i := 2) (v := ?_) rfl (by kernel_rfl) (by kernel_rfl) (by kernel_rfl) (by kernel_rfl) (by kernel_rfl) (fun _ _ _ h => h) (Or.inl ⟨by kernel_rfl, ?_⟩) HS ?_
        rotate_left
        · intro w _; go_simp; with_reducible rfl
        refine anyE_take (i := 3) (v := ?_) rfl (by kernel_rfl) (by kernel_rfl) (by kernel_rfl) (by kernel_rfl) (by kernel_rfl) (fun _ _ _ h => h) (Or.inl ⟨by kernel_rfl, ?_⟩) HS ?_
        rotate_left
        · intro w _; go_simp; with_reducible rfl
        refine anyE_take (i := 4) (v := ?_) rfl (by kernel_rfl) (by kernel_rfl) (by kernel_rfl) (by kernel_rfl) (by kernel_rfl) (fun _ _ _ h => h) (Or.inl ⟨by kernel_rfl, ?_⟩) HS ?_
        rotate_left
        · intro w _; go_simp; with_reducible rfl
        refine anyE_take (i := 5) (v := ?_) rfl (by kernel_rfl) (by kernel_rfl) (by kernel_rfl) (by kernel_rfl) (by kernel_rfl) (fun _ _ _ h => h) (Or.inl ⟨by kernel_rfl, ?_⟩) HS ?_
        rotate_left
        · intro w _; go_simp; with_reducible rfl
        refine anyE_take (i := 6) (v := ?_) rfl (by kernel_rfl) (by kernel_rfl) (by kernel_rfl) (by kernel_rfl) (by kernel_rfl) (fun _ _ _ h => h) (Or.inl ⟨by kernel_rfl, ?_⟩) HS ?_
        rotate_left
        · intro w hw; have hw := (hw.cell (p := ⟨g2, k * 3, none⟩) hg29).trans q0; go_simp; with_reducible rfl
        refine anyE_take (i := 7) (v := ?_) rfl (by kernel_rfl) (by kernel_rfl) (by kernel_rfl) (by kernel_rfl) (by kernel_rfl) (fun _ _ _ h => h) (Or.inl ⟨by kernel_rfl, ?_⟩) HS ?_
        rotate_left
        · intro w _; go_simp; with_reducible rfl
        refine anyE_take (i := 8) (v := ?_) rfl (by kernel_rfl) (by kernel_rfl) (by kernel_rfl) (by kernel_rfl) (by kernel_rfl) (fun _ _ _ h => h) (Or.inl ⟨by kernel_rfl, ?_⟩) HS ?_
        rotate_left
        · intro w _; go_simp; with_reducible rfl
        refine anyE_take (i := 9) (v := ?_) rfl (by kernel_rfl) (by kernel_rfl) (by kernel_rfl) (by kernel_rfl) (by kernel_rfl) (fun _ _ _ h => h) (Or.inl ⟨by kernel_rfl, ?_⟩) HS ?_
        rotate_left
        · intro w _; go_simp; with_reducible rfl
        refine anyE_take (i := 10) (v := ?_) rfl (by kernel_rfl) (by kernel_rfl) (by kernel_rfl) (by kernel_rfl) (by kernel_rfl) (fun _ _ _ h => h) (Or.inl ⟨by kernel_rfl, ?_⟩) HS ?_
        rotate_left
        · intro w hw; have hw := (hw.cell (p := ⟨wr.heap.size, 1, none⟩) hl9).trans m1; go_simp; with_reducible rfl
        refine anyE_take (i := 11) (v := ?_) rfl (by kernel_rfl) (by kernel_rfl) (by kernel_rfl) (by kernel_rfl) (by kernel_rfl) (fun _ _ _ h => h) (Or.inl ⟨by kernel_rfl, ?_⟩) HS ?_
        rotate_left
        · intro w _; go_simp; with_reducible rfl
        refine anyE_take (i := 12) (v := ?_) rfl (by kernel_rfl) (by kernel_rfl) (by kernel_rfl) (by kernel_rfl) (by kernel_rfl) (fun _ _ _ h => h) (Or.inl ⟨by kernel_rfl, ?_⟩) HS ?_
        rotate_left
        · intro w _; go_simp; with_reducible rfl
        refine anyE_take (i := 13) (v := ?_) rfl (by kernel_rfl) (by kernel_rfl) (by kernel_rfl) (by kernel_rfl) (by kernel_rfl) (fun _ _ _ h => h) (Or.inl ⟨by kernel_rfl, ?_⟩) HS ?_
        rotate_left
        · intro w _; go_simp; with_reducible rfl
        refine anyE_take (i := 14) (v := ?_) rfl (by kernel_rfl) (by kernel_rfl) (by kernel_rfl) (by kernel_rfl) (by kernel_rfl) (fun _ _ _ h => h) (Or.inl ⟨by kernel_rfl, ?_⟩) HS ?_
        rotate_left
        · intro w _; go_simp; with_reducible rfl
        refine anyE_take (i := 15) (v := ?_) rfl (by kernel_rfl) (by kernel_rfl) (by kernel_rfl) (by kernel_rfl) (by kernel_rfl) (fun _ _ _ h => h) (Or.inl ⟨by kernel_rfl, ?_⟩) HS ?_
        rotate_left
        · intro w hw; have hw := (hw.cell (p := ⟨g2, k * 3 + 1, none⟩) hg29).trans q1; go_simp; with_reducible rfl
        refine anyE_take (i := 16) (v := ?_) rfl (by kernel_rfl) (by kernel_rfl) (by kernel_rfl) (by kernel_rfl) (by kernel_rfl) (fun _ _ _ h => h) (Or.inl ⟨by kernel_rfl, ?_⟩) HS ?_
        rotate_left
        · intro w _; go_simp; with_reducible rfl
        refine anyE_take (i := 17) (v := ?_) rfl (by kernel_rfl) (by kernel_rfl) (by kernel_rfl) (by kernel_rfl) (by kernel_rfl) (fun _ _ _ h => h) (Or.inl ⟨by kernel_rfl, ?_⟩) HS ?_
        rotate_left
        · intro w _; go_simp; with_reducible rfl
        refine anyE_take (i := 18) (v := ?_) rfl (by kernel_rfl) (by kernel_rfl) (by kernel_rfl) (by kernel_rfl) (by kernel_rfl) (fun _ _ _ h => h) (Or.inl ⟨by kernel_rfl, ?_⟩) HS ?_
        rotate_left
        · intro w _; go_simp; with_reducible rfl
        refine anyE_take (i := 19) (v := ?_) rfl (by kernel_rfl) (by kernel_rfl) (by kernel_rfl) (by kernel_rfl) (by kernel_rfl) (fun _ _ _ h => h) (Or.inl ⟨by kernel_rfl, ?_⟩) HS ?_
        rotate_left
        · intro w _; go_simp; with_reducible rfl
        refine anyE_take (i := 20) (v := ?_) rfl (by kernel_rfl) (by kernel_rfl) (by kernel_rfl) (by kernel_rfl) (by kernel_rfl) (fun _ _ _ h => h) (Or.inl ⟨by kernel_rfl, ?_⟩) HS ?_
        rotate_left
        · intro w hw; have hw := (hw.cell (p := ⟨wr.heap.size, 2, none⟩) hl9).trans m2; go_simp; with_reducible rfl
        refine anyE_take (i := 22) (v := ?_) rfl (by kernel_rfl) (by kernel_rfl) (by kernel_rfl) (by kernel_rfl) (by kernel_rfl) (fun _ _ _ h => h) (Or.inl ⟨by kernel_rfl, ?_⟩) HS ?_
        rotate_left
        · intro w _; go_simp; with_reducible rfl
        refine anyE_take (i := 23) (v := ?_) rfl (by kernel_rfl) (by kernel_rfl) (by kernel_rfl) (by kernel_rfl) (by kernel_rfl) (fun _ _ _ h => h) (Or.inl ⟨by kernel_rfl, ?_⟩) HS ?_
        rotate_left
        · intro w _; go_simp; with_reducible rfl
        refine anyE_take (i := 24) (v := ?_) rfl (by kernel_rfl) (by kernel_rfl) (by kernel_rfl) (by kernel_rfl) (by kernel_rfl) (fun _ _ _ h => h) (Or.inl ⟨by kernel_rfl, ?_⟩) HS ?_
        rotate_left
        · intro w _; go_simp; with_reducible rfl
        refine anyE_take (i := 25) (v := ?_) rfl (by kernel_rfl) (by kernel_rfl) (by kernel_rfl) (by kernel_rfl) (by kernel_rfl) (fun _ _ _ h => h) (Or.inl ⟨by kernel_rfl, ?_⟩) HS ?_
        rotate_left
        · intro w _; go_simp; with_reducible rfl
        refine anyE_take (i := 26) (v := ?_) rfl (by kernel_rfl) (by kernel_rfl) (by kernel_rfl) (by kernel_rfl) (by kernel_rfl) (fun _ _ _ h => h) (Or.inl ⟨by kernel_rfl, ?_⟩) HS ?_
        rotate_left
        · intro w hw; have hw := (hw.cell (p := ⟨g2, k * 3 + 2, none⟩) hg29).trans q2; go_simp; with_reducible rfl
        refine anyE_ready (rs := [21]) (by kernel_rfl) (by simp) ?_
        refine ReadyE.cons rfl (by kernel_rfl) (fun K hK => ?_) ReadyE.nil
        go_simp
        go_at_call 9
        refine (HPL.out _ (HB9.out.trans (HS.mono HB9.out.size))).mono ?_
        rintro e w4 ⟨⟨v', rfl, hv'⟩, hb4⟩
        have hb94 := HS.trans (hb4.mono HS.size)
        refine hK.out _ _ (fun _ => hb94) ?_
        clear hK K
        refine anyE_ready (rs := [27]) (by kernel_rfl) (by simp) ?_
        refine ReadyE.cons rfl (by kernel_rfl) (fun K hK => ?_) ReadyE.nil
        go_simp
        go_at_call 8
        refine (HSA.out _ (HB9.out.trans (hb94.mono HB9.out.size)) _ _ hv').mono ?_
        rintro e w5 ⟨rfl, hb5⟩
        have hb95 := hb94.trans (hb5.mono hb94.size)
        refine hK.out _ _ (fun _ => hb95) ?_
        clear hK K
        refine anyE_take (i := 28) (v := ?_) rfl (by kernel_rfl) (by kernel_rfl) (by kernel_rfl) (by kernel_rfl) (by kernel_rfl) (fun _ _ _ h => h) (Or.inl ⟨by kernel_rfl, ?_⟩) hb95 ?_
        rotate_left
        · intro w _; go_simp; with_reducible rfl
        refine anyE_take (i := 29) (v := ?_) rfl (by kernel_rfl) (by kernel_rfl) (by kernel_rfl) (by kernel_rfl) (by kernel_rfl) (fun _ _ _ h => h) (Or.inl ⟨by kernel_rfl, ?_⟩) hb95 ?_
        rotate_left
        · intro w _; go_simp; with_reducible rfl
        refine anyE_done (by kernel_rfl) ?_ _
        go_wp2_with fail
        exact ⟨⟨k + 1, hlt, congrArg (Value.int .i64) (by omega), HBR.out.trans ((HB9.out.trans (hb95.mono HB9.out.size)).mono hzr)⟩, by simp only [intOf]; omega⟩
      · obtain rfl : k = n := by omega
        go_wp2_with fail
        go_ret
        exact ⟨rfl, HB3.out.trans (HBR.out.mono HB3.out.size)⟩
end Go.Proofs.YtdddbkghleblhaaGreatDoor.lx
namespace Go.Proofs.YtdddbkghleblhaaGreatDoor.lx
open Go.ChangeShapes Go.WideShapes Go.ChangeAt Go.RowKit Go.Proofs.YtdddbkghleblhaaGreatDoor.ky
set_option linter.unusedVariables false
/-! where what is wrong stands -/
def gN (N : Nat) (t : Tok) : Prop := gT t ∧ t.at_ ≤ N
theorem gN_hd {N : Nat} {ts : List Tok} (h : ∀ t ∈ ts, gN N t) : (hd ts).at_ ≤ N := by
  cases ts with
  | nil => exact Nat.zero_le _
  | cons t r => exact (h t List.mem_cons_self).2
section
variable {N k : Nat} {sub : List Tok → Res (List Altn)} (hs : ∀ ts bs r, (∀ t ∈ ts, gT t) → sub ts = .ok (bs, r) → okA k bs ∧ r <:+ ts ∧ (pcA k bs).length + 2 + r.length ≤ ts.length) (he : ∀ ts q, (∀ t ∈ ts, gN N t) → sub ts = .error q → q.2 ≤ N)
include hs he
omit hs in
theorem er_item {ts : List Tok} {q : Nat × Nat} (hg : ∀ t ∈ ts, gN N t) (h : pItem sub ts = .error q) : q.2 ≤ N := by
  unfold pItem at h
  split at h
  · cases h
  · split at h
    · cases h
    · split at h
      · rename_i e
        cases h
        exact he _ _ hg e
      · cases h
theorem er_items : ∀ (f : Nat) (ts : List Tok) (q : Nat × Nat), ts.length < f + 1 → (∀ t ∈ ts, gN N t) → pItems sub f ts = .error q → q.2 ≤ N ∨ q = (99, 0) := by
  intro f
  induction f with
  | zero => intro ts q _ _ h; cases h; exact .inr rfl
  | succ f ih =>
    intro ts q hl hg h
    unfold pItems at h
    split at h
    · rename_i ha
      split at h
      · rename_i e
        cases h
        exact .inl (er_item he hg e)
      · rename_i i r e1
        split at h
        · rename_i e
          cases h
          obtain ⟨_, h2, h3⟩ := wf_item hs (fun t ht => (hg t ht).1) ha e1
          have h4 : 1 ≤ (pcI (pcA k) i).length := by
            unfold pcI
            split
            · simp
            · split <;> simp
          exact ih _ _ (by omega) (fun t ht => hg t (h2.subset ht)) e
        · cases h
    · cases h
theorem er_alt {ts : List Tok} {q : Nat × Nat} (hg : ∀ t ∈ ts, gN N t) (h : pAlt sub ts = .error q) : q.2 ≤ N := by
  unfold pAlt at h
  split at h
  · rename_i e
    cases h
    rcases er_items hs he _ _ _ (Nat.lt_succ_self _) (fun t ht => hg t ((wtTl_suf ts).subset ht)) e with h | h
    · exact h
    · rw [h]; exact Nat.zero_le _
  · cases h
theorem er_more : ∀ (f : Nat) (ts : List Tok) (q : Nat × Nat), (∀ t ∈ ts, gN N t) → pMore sub f ts = .error q → q.2 ≤ N := by
  intro f
  induction f with
  | zero => intro ts q _ h; cases h; exact Nat.zero_le _
  | succ f ih =>
    intro ts q hg h
    unfold pMore at h
    split at h
    · split at h
      · rename_i e
        cases h
        exact er_alt hs he (fun t ht => hg t (List.mem_of_mem_tail ht)) e
      · rename_i a r e1
        split at h
        · rename_i e
          cases h
          obtain ⟨_, h2, _⟩ := wf_alt hs (fun t ht => (hg t (List.mem_of_mem_tail ht)).1) e1
          exact ih _ _ (fun t ht => hg t (List.mem_of_mem_tail (h2.subset ht))) e
        · cases h
    · cases h
theorem er_alts {ts : List Tok} {q : Nat × Nat} (hg : ∀ t ∈ ts, gN N t) (h : pAlts sub ts = .error q) : q.2 ≤ N := by
  unfold pAlts at h
  split at h
  · rename_i e
    cases h
    exact er_alt hs he hg e
  · rename_i a r e1
    split at h
    · rename_i e
      cases h
      obtain ⟨_, h2, _⟩ := wf_alt hs (fun t ht => (hg t ht).1) e1
      exact er_more hs he _ _ _ (fun t ht => hg t (h2.subset ht)) e
    · cases h
end
theorem er_shut {N c : Nat} {ts : List Tok} {q : Nat × Nat} {x : Res (List Altn)} (hx : ∀ q, x = .error q → q.2 ≤ N) (hr : ∀ bs r, x = .ok (bs, r) → r <:+ ts) (hg : ∀ t ∈ ts, gN N t) (h : pShut c x = .error q) : q.2 ≤ N := by
  cases x with
  | error e =>
    have h : (.error e : Res (List Altn)) = .error q := h
    cases h
    exact hx _ rfl
  | ok y =>
    obtain ⟨bs, r⟩ := y
    have h : (if sg r = c then .ok (bs, r.tail) else .error (5, (hd r).at_) : Res (List Altn)) = .error q := h
    split at h
    · cases h
    · cases h
      exact gN_hd (fun t ht => hg t ((hr _ _ rfl).subset ht))
theorem er_sub (N : Nat) : ∀ (k : Nat) (ts : List Tok) (q : Nat × Nat), (∀ t ∈ ts, gN N t) → pSub k ts = .error q → q.2 ≤ N
  | 0 => fun ts q hg h => by
    have h : (.error (6, (hd ts).at_) : Res (List Altn)) = .error q := h
    cases h
    exact gN_hd hg
  | k + 1 => fun ts q hg h => by
    have h : pShut 41 (pA k ts.tail) = .error q := h
    rw [pA_sub] at h
    have hg2 : ∀ t ∈ ts.tail, gN N t := fun t ht => hg t (List.mem_of_mem_tail ht)
    exact er_shut (ts := ts.tail) (fun q e => er_alts (wf_sub k) (er_sub N k) hg2 e) (fun bs r e => (wf_alts (wf_sub k) (fun t ht => (hg2 t ht).1) e).2.1) hg2 h
theorem er_def {N : Nat} {ts : List Tok} {q : Nat × Nat} (hg : ∀ t ∈ ts, gN N t) (h : pDef ts = .error q) : q.2 ≤ N := by
  have hg2 : ∀ t ∈ ts.tail, gN N t := fun t ht => hg t (List.mem_of_mem_tail ht)
  have hg3 : ∀ t ∈ ts.tail.tail, gN N t := fun t ht => hg2 t (List.mem_of_mem_tail ht)
  unfold pDef at h
  split at h
  · split at h
    · split at h
      · rename_i e
        cases h
        rw [pA_sub] at e
        exact er_shut (ts := ts.tail.tail) (fun q e => er_alts (wf_sub 16) (er_sub N 16) hg3 e) (fun bs r e => (wf_alts (wf_sub 16) (fun t ht => (hg3 t ht).1) e).2.1) hg3 e
      · cases h
    · cases h
      exact gN_hd hg2
  · cases h
    exact gN_hd hg
theorem er_text (N : Nat) : ∀ (f : Nat) (ts : List Tok) (q : Nat × Nat), (∀ t ∈ ts, gN N t) → pText f ts = .error q → q.2 ≤ N := by
  intro f
  induction f with
  | zero => intro ts q _ h; cases h; exact Nat.zero_le _
  | succ f ih =>
    intro ts q hg h
    unfold pText at h
    split at h
    · rename_i e
      cases h
      exact er_def hg e
    · rename_i d r e1
      obtain ⟨_, h2, _⟩ := wf_def (fun t ht => (hg t ht).1) e1
      split at h
      · cases h
      · split at h
        · rename_i e
          cases h
          exact ih _ _ (fun t ht => hg t (h2.subset ht)) e
        · cases h
theorem lex_out (s : List UInt8) (he : (lexAll s).2.1 = 0) : ∃ ts, lexA s (nxt s 0) = (ts, none) ∧ (lexAll s).1 = ts := by
  unfold lexAll at he ⊢
  by_cases hb : 65536 < s.length
  · rw [if_pos hb] at he
    exact absurd he (by decide)
  · rw [if_neg hb] at he ⊢
    rcases hA : lexA s (nxt s 0) with ⟨x, f⟩
    rw [hA] at he
    cases f with
    | none => exact ⟨x, rfl, rfl⟩
    | some f =>
      obtain ⟨e, k⟩ := f
      have := err_ge s hA
      have he : e = 0 := he
      omega
/-- what is wrong has a place in the text -/
theorem read_wrong (s : List UInt8) {ds : List Dfn} {e k : Nat} (h : readAll s = (ds, e, k)) (he : e ≠ 0) : ds = [] ∧ k ≤ s.length := by
  unfold readAll at h
  by_cases h0 : (lexAll s).2.1 = 0
  · rw [if_pos h0] at h
    obtain ⟨ts, hl, e1⟩ := lex_out s h0
    have hg := lex_gT s _ _ (Nat.lt_succ_self _) (nxt_le s 0 (Nat.zero_le _)) ts hl
    have hn := (ok_ge s hl).2
    rw [e1] at h
    cases hp : pText ts.length ts with
    | error q =>
      rw [hp] at h
      have h : ([], q) = (ds, e, k) := h
      have h1 : [] = ds := congrArg Prod.fst h
      have h2 : q = (e, k) := congrArg Prod.snd h
      have := er_text s.length _ _ _ (fun t ht => ⟨hg t ht, hn t ht⟩) hp
      rw [h2] at this
      exact ⟨h1.symm, this⟩
    | ok ds2 =>
      rw [hp] at h
      have h : (ds2, 0, 0) = (ds, e, k) := h
      have h1 : 0 = e := congrArg (fun z => z.2.1) h
      exact absurd h1.symm he
  · rw [if_neg h0] at h
    have h1 : [] = ds := congrArg Prod.fst h
    have h2 : (lexAll s).2 = (e, k) := congrArg Prod.snd h
    refine ⟨h1.symm, ?_⟩
    unfold lexAll at h2
    by_cases hb : 65536 < s.length
    · rw [if_pos hb] at h2
      have : 0 = k := congrArg Prod.snd h2
      omega
    · rw [if_neg hb] at h2
      rcases hA : lexA s (nxt s 0) with ⟨x, f⟩
      rw [hA] at h2
      cases f with
      | none =>
        have : (0, 0) = (e, k) := h2
        have : 0 = k := congrArg Prod.snd this
        omega
      | some f =>
        obtain ⟨e', k'⟩ := f
        have := (err_ge s hA).2
        have h2 : (e', k') = (e, k) := h2
        have : k' = k := congrArg Prod.snd h2
        omega
theorem read_okD (s : List UInt8) {ds : List Dfn} (h : readAll s = (ds, 0, 0)) : ∀ d ∈ ds, okD d := by
  unfold readAll at h
  by_cases h0 : (lexAll s).2.1 = 0
  · rw [if_pos h0] at h
    obtain ⟨ts, hl, e1⟩ := lex_out s h0
    have hg := lex_gT s _ _ (Nat.lt_succ_self _) (nxt_le s 0 (Nat.zero_le _)) ts hl
    rw [e1] at h
    cases hp : pText ts.length ts with
    | error q =>
      rw [hp] at h
      have h : ([], q) = (ds, 0, 0) := h
      have h1 : [] = ds := congrArg Prod.fst h
      intro d hd
      rw [← h1] at hd
      cases hd
    | ok ds2 =>
      rw [hp] at h
      have h1 : ds2 = ds := congrArg Prod.fst h
      rw [← h1]
      exact (wf_text _ _ _ hg hp).2.1
  · rw [if_neg h0] at h
    have := congrArg (fun z => z.2.1) h
    exact absurd this h0
/-! write and shape, so deep as it goes -/
def okW : Nat → List Altn → Prop
  | 0, bs => True
  | k + 1, bs => okLw (wrA k) (okW k) bs
theorem wrA_nil : ∀ k, wrA k [] = []
  | 0 => rfl
  | _ + 1 => rfl
theorem write_any : ∀ k, WrT (AltsAt k) (wrA k) (okW k)
  | 0 => by
    intro w A v bs h1 _
    obtain ⟨rfl, ao, cap, rfl⟩ := h1
    exact write_list (fun _ _ _ _ => False) (fun _ _ _ _ _ _ h _ _ => h.elim) (fun _ _ _ _ h => h.elim) (fun _ => []) (fun _ => False) (fun _ _ _ _ h _ => h.elim) w A (.slice ao 0 cap) [] ⟨by simp, ao, cap, rfl, fun h => absurd h (by simp)⟩ ⟨by simp [wrL], by simp, fun j x hx => by simp at hx⟩
  | k + 1 => fun w A v bs h1 h2 => write_list (AltsAt k) (keepsAlts k) (fun _ _ _ _ h => h.form) (wrA k) (okW k) (write_any k) w A v bs h1 h2
theorem pcB_le {k : Nat} {bs : List Altn} {a : Altn} (h : a ∈ bs) : (pcB (pcA k) a).length ≤ (pcA (k + 1) bs).length := by
  show _ ≤ (pcL (pcA k) bs).length
  cases bs with
  | nil => cases h
  | cons b bs =>
    unfold pcL
    rw [List.length_append]
    rcases List.mem_cons.1 h with rfl | h
    · omega
    · have : ∀ l : List Altn, a ∈ l → (pcB (pcA k) a).length ≤ (l.flatMap (fun a => (([32], sgT 124) : Pc) :: pcB (pcA k) a)).length := by
        intro l
        induction l with
        | nil => intro h; cases h
        | cons c l ih =>
          intro h
          rw [List.flatMap_cons, List.length_append, List.length_cons]
          rcases List.mem_cons.1 h with rfl | h
          · omega
          · have := ih h
            omega
      have := this bs h
      omega
theorem pcI_le {k : Nat} {is : List Itm} {i : Itm} (h : i ∈ is) : (pcI (pcA k) i).length ≤ (is.flatMap (pcI (pcA k))).length := by
  induction is with
  | nil => cases h
  | cons c l ih =>
    rw [List.flatMap_cons, List.length_append]
    rcases List.mem_cons.1 h with rfl | h
    · omega
    · have := ih h
      omega
theorem isName_len {l : List UInt8} (h : isNameB l = true) : l.length ≤ 24 := by
  unfold isNameB at h
  simp only [Bool.and_eq_true, decide_eq_true_eq] at h
  omega
theorem isQuote_len {l : List UInt8} (h : isQuoteB l = true) : l.length ≤ 16 := by
  unfold isQuoteB at h
  simp only [Bool.and_eq_true, decide_eq_true_eq] at h
  omega
theorem okW_of : ∀ (k : Nat) (bs : List Altn), okA k bs → (pcA k bs).length ≤ 700 → okW k bs
  | 0, _, _, _ => trivial
  | k + 1, bs, h, hn => by
    have hm := wrA_max (k + 1) bs h
    have hlen : bs.length ≤ (pcA (k + 1) bs).length + 1 := by
      show _ ≤ (pcL (pcA k) bs).length + 1
      cases bs with
      | nil => simp
      | cons b bs =>
        unfold pcL
        rw [List.length_append, List.length_cons]
        have := more_len (q := pcA k) bs
        omega
    refine ⟨by show (wrA (k + 1) bs).length ≤ _; omega, by omega, fun j a hj => ?_⟩
    have ha := List.mem_of_getElem? hj
    obtain ⟨h1, h2⟩ := h.2 a ha
    have h3 := pcB_le (k := k) ha
    have h4 : (a.2.2.flatMap (pcI (pcA k))).length ≤ (pcB (pcA k) a).length := by
      unfold pcB
      rw [List.length_append]
      omega
    have h5 := flat_len (q := pcA k) a.2.2
    refine ⟨h1, by omega, fun i y hi => ?_⟩
    have hy := List.mem_of_getElem? hi
    obtain ⟨hk, ho⟩ := h2 y hy
    have h6 := pcI_le (k := k) hy
    rcases hk with ⟨k0, k1, _⟩ | ⟨k0, k1, _⟩ | ⟨k0, k1, k2⟩
    · exact ⟨by have := isName_len k1; omega, ho, .inl k0⟩
    · exact ⟨by have := isQuote_len k1; omega, ho, .inr (.inl k0)⟩
    · refine ⟨by rw [k1]; simp, ho, .inr (.inr ⟨k0, okW_of k _ k2 ?_⟩)⟩
      have : (pcA k y.alts).length ≤ (pcI (pcA k) y).length := by
        unfold pcI
        rw [if_neg (by omega), if_neg (by omega)]
        simp
        omega
      omega
def okSK (N : Nat) : Nat → List Altn → Prop
  | 0, _ => True
  | k + 1, bs => okSh (smS N k) (okSK N k) bs
theorem shape_any (N : Nat) (hN : N ≤ 69999) : ∀ k, ShT (AltsAt k) (shA k) (okSK N k)
  | 0 => by
    intro w A v bs h1 _
    obtain ⟨rfl, ao, cap, rfl⟩ := h1
    have h := shape_list (fun _ _ _ _ => False) (fun _ _ _ _ _ _ h _ _ => h.elim) (fun _ _ _ _ h => h.elim) (fun _ => []) (fun _ => False) (fun _ => False) (fun _ _ _ _ h _ => h.elim) (fun _ _ _ _ h _ => h.elim) w A (.slice ao 0 cap) [] ⟨by simp, ao, cap, rfl, fun h => absurd h (by simp)⟩ ⟨by simp, fun j x hx => by simp at hx⟩
    refine h.mono ?_
    rintro e w' ⟨⟨v', rfl, hv⟩, hb⟩
    obtain ⟨ao', cap', rfl⟩ := hv.form
    exact ⟨⟨_, rfl, rfl, ao', cap', rfl⟩, hb⟩
  | k + 1 => fun w A v bs h1 h2 => shape_list (AltsAt k) (keepsAlts k) (fun _ _ _ _ h => h.form) (shA k) (smS N k) (okSK N k) (plain_any N hN k) (shape_any N hN k) w A v bs h1 h2
theorem okSK_of (N : Nat) (hN : N ≤ 69999) : ∀ (k : Nat) (bs : List Altn), smS N k bs → (bs = [] ∨ okA k bs) → okSK N k bs
  | 0, _, _, _ => trivial
  | k + 1, bs, h, hA => by
    refine ⟨by have := h.1; omega, fun j x hj => ?_⟩
    rcases hA with rfl | hA
    · simp at hj
    · obtain ⟨h1, h2⟩ := hA.2 x (List.mem_of_getElem? hj)
      obtain ⟨h3, h4⟩ := h.2 j x hj
      refine ⟨h1, by omega, fun i y hi => ⟨h4 i y hi, okSK_of N hN k _ (h4 i y hi) ?_⟩⟩
      obtain ⟨hk, _⟩ := h2 y (List.mem_of_getElem? hi)
      rcases hk with ⟨_, _, h⟩ | ⟨_, _, h⟩ | ⟨_, _, h⟩
      · exact .inl h
      · exact .inl h
      · exact .inr h
theorem wrT_take {ds : List Dfn} {k : Nat} {d : Dfn} (h : ds[k]? = some d) : wrT (ds.take (k + 1)) = wrT (ds.take k) ++ wrD d := by
  have e : ds.take (k + 1) = ds.take k ++ [d] := by rw [List.take_add_one, h]; rfl
  rw [e]
  simp [wrT]
theorem wrT_mono (ds : List Dfn) (k : Nat) : (wrT (ds.take k)).length ≤ (wrT ds).length := by
  conv => rhs; rw [← List.take_append_drop k ds]
  unfold wrT
  rw [List.flatMap_append, List.length_append]
  omega
theorem pcD_le {ds : List Dfn} {d : Dfn} (h : d ∈ ds) : (pcA 17 d.2.2).length ≤ (ds.flatMap (pcD [10])).length := by
  have h1 : (pcA 17 d.2.2).length ≤ (pcD [10] d).length := by simp [pcD]; omega
  induction ds with
  | nil => cases h
  | cons c l ih =>
    rw [List.flatMap_cons, List.length_append]
    rcases List.mem_cons.1 h with rfl | h
    · omega
    · have := ih h
      omega
end Go.Proofs.YtdddbkghleblhaaGreatDoor.lx
namespace Go.Proofs.YtdddbkghleblhaaGreatDoor.lx
open Go.ChangeShapes Go.WideShapes Go.ChangeAt Go.RowKit Go.Proofs.YtdddbkghleblhaaGreatDoor.ky
set_option linter.unusedVariables false
attribute [local go_sem] run_store_float
/-! ReadBack -/
set_option maxRecDepth 100000 in
set_option maxHeartbeats 8000000 in
theorem backs_all (s : ByteArray) (hs : s.size ≤ maxLen) (w : World) (b off : Nat) (hv : Vs w b off) : Calls Tryz.prog 4 #[.string s] w fun e w' => e = .returned (.bool true) ∧ Below w.heap.size w w' := by
  have hal := ralive_any w b off hv
  have HV := Lib.hid hv
  have HMS := Lib.hid hs
  unfold maxLen at hs
  clear hv
  by_cases hbig : 600 < s.size
  · go_enter Tryz.func4, Tryz.ntmps4
    go_wp2_with fail
    refine hal.mono ?_
    rintro e w1 ⟨rfl, hb1⟩
    have HB1 := Lib.hid hb1
    clear hal hb1
    go_wp2_with fail
    go_ret
    exact ⟨rfl, HB1.out⟩
  have HA1 := Lib.hid (fun w h => parse_any s HMS.out w b off h)
  obtain ⟨⟨ds, e1, k1⟩, hra⟩ : ∃ r, readAll s.data.toList = r := ⟨_, rfl⟩
  have HRA := Lib.hid hra
  have HSM := Lib.hid (read_small _ hra)
  have hsl : s.data.toList.length = s.size := by simp
  have hs6 : s.size ≤ 600 := by omega
  by_cases he1 : e1 = 0
  case neg =>
    obtain ⟨rfl, hkl⟩ := read_wrong _ hra he1
    rw [hsl] at hkl
    have hne : ((e1 : Int) != 0) = true := by rw [bne_iff_ne]; omega
    clear hra hsl hbig
    go_enter Tryz.func4, Tryz.ntmps4
    go_wp2_with fail
    refine hal.mono ?_
    rintro e w1 ⟨rfl, hb1⟩
    have HB1 := Lib.hid hb1
    clear hal hb1
    go_wp2_with fail
    refine (HA1.out _ (HV.out.below HB1.out)).mono ?_
    rintro e w2 ⟨⟨v1, rfl, hl1⟩, hb2⟩
    rw [HRA.out] at hl1 ⊢
    obtain ⟨ao1, cap1, rfl⟩ := hl1.form
    have HB2 := Lib.hid (HB1.out.trans (hb2.mono HB1.out.size))
    clear hb2 hl1
    have hle : (k1 : Int) ≤ (s.size : Int) := by omega
    have hge : (0 : Int) ≤ (k1 : Int) := by omega
    have HBZ := Lib.hid (HB2.out.alloc HB2.out.size (.cells #[.int .i64 e1, .int .i64 k1] 26))
    go_wp2_with fail
    go_ret
    exact ⟨rfl, HBZ.out⟩
  subst he1
  have hk1 : k1 = 0 := by
    unfold readAll at hra
    by_cases h0 : (lexAll s.data.toList).2.1 = 0
    · rw [if_pos h0] at hra
      cases hp : pText (lexAll s.data.toList).1.length (lexAll s.data.toList).1 with
      | error q =>
        rw [hp] at hra
        have h1 : q = (0, k1) := congrArg Prod.snd hra
        have := pos_text _ _ _ hp
        rw [h1] at this
        exact absurd this (by show ¬ 0 < 0; omega)
      | ok ds2 =>
        rw [hp] at hra
        exact (congrArg (fun z => z.2.2) hra).symm
    · rw [if_neg h0] at hra
      exact absurd (congrArg (fun z => z.2.1) hra) h0
  subst hk1
  obtain ⟨hne, hok, hcn, htl, ds', hra2, hlen2, hshape⟩ := read_back s.data.toList (by omega) ds hra
  have hok2 := read_okD _ hra2
  have HOK := Lib.hid hok
  have HOK2 := Lib.hid hok2
  have HCN := Lib.hid hcn
  have HTL := Lib.hid htl
  have HSH := Lib.hid hshape
  have HRA2 := Lib.hid hra2
  have HSM2 := Lib.hid (read_small _ hra2)
  have HA2 := Lib.hid (fun w h => parse_any (S (wrT ds)) (by show (wrT ds).length ≤ _; unfold maxLen; omega) w b off h)
  rw [show (S (wrT ds)).data.toList = wrT ds from rfl] at HA2
  have hn0 : 0 < ds.length := List.length_pos_iff.2 hne
  generalize hn : ds.length = n at *
  have HN := Lib.hid hn
  have HN2 := Lib.hid hlen2
  have hn7 : n ≤ 601 := by
    have := defs_len ds
    omega
  clear hra hsl hbig hne hok hcn htl hra2 hlen2 hshape hok2 hn
  go_enter Tryz.func4, Tryz.ntmps4
  go_wp2_with fail
  refine hal.mono ?_
  rintro e w1 ⟨rfl, hb1⟩
  have HB1 := Lib.hid hb1
  clear hal hb1
  go_wp2_with fail
  refine (HA1.out _ (HV.out.below HB1.out)).mono ?_
  rintro e w2 ⟨⟨v1, rfl, hl1⟩, hb2⟩
  rw [HRA.out] at hl1 ⊢
  obtain ⟨ao1, cap1, rfl⟩ := hl1.form
  have HB2 := Lib.hid (HB1.out.trans (hb2.mono HB1.out.size))
  have HL1 := Lib.hid hl1
  rw [HN.out]
  have hb3 : Below w2.heap.size w2 (w2.alloc (.cells #[.int .i64 0, .int .i64 0] 26)) := (Below.refl _ _).alloc (Nat.le_refl _) _
  have HB3 := Lib.hid hb3
  clear hb2 hl1 hb3
  go_wp2_with fail
  go_loopw [5, 42] (fun tv i wr => ∃ (k : Nat) (T : List UInt8), i = .int .i64 k ∧ k ≤ n ∧ tv = .string (S T) ∧ T = wrT (ds.take k) ∧ Below w2.heap.size w2 wr) (fun _ i _ => n - (intOf i).toNat)
  case atStart => exact ⟨0, [], rfl, Nat.zero_le _, rfl, by simp [wrT], HB3.out⟩
  case round =>
    clear HB3
    obtain ⟨k, T, rfl, hk, rfl, hT, hbr⟩ := hrel
    have HBR := Lib.hid hbr
    have HT := Lib.hid hT
    have hzr := hbr.size
    have hts : (S T).size ≤ 17000 := by
      show T.length ≤ _
      rw [hT]
      exact Nat.le_trans (wrT_mono ds k) HTL.out
    clear hT
    by_cases hlt : k < n
    · obtain ⟨d, hd⟩ : ∃ d, ds[k]? = some d := ⟨_, List.getElem?_eq_getElem (by rw [HN.out]; exact hlt)⟩
      obtain ⟨g1, rfl, hg1, cs1, _, hcs1, av1, rfl, hav1⟩ := ListOf.at2_ HL1.out hd
      obtain ⟨ay1, cy1, rfl⟩ := (show ListOf 3 (EAlt (AltsAt 16)) w2 _ av1 d.2.2 from hav1).form
      have p0 : wr.cell? ⟨g1, k * 3, none⟩ = some (.int .i64 d.1) := (hbr.cell (p := ⟨g1, k * 3, none⟩) hg1).trans (hcs1 0 _ rfl)
      have p1 : wr.cell? ⟨g1, k * 3 + 1, none⟩ = some (.string (S d.2.1)) := (hbr.cell (p := ⟨g1, k * 3 + 1, none⟩) hg1).trans (hcs1 1 _ rfl)
      have p2 : wr.cell? ⟨g1, k * 3 + 2, none⟩ = some (.slice ay1 d.2.2.length cy1) := (hbr.cell (p := ⟨g1, k * 3 + 2, none⟩) hg1).trans (hcs1 2 _ rfl)
      have hmem := List.mem_of_getElem? hd
      have hokd := HOK.out d hmem
      have hpc := pcD_le hmem
      have hcn := HCN.out
      have hwo := okW_of 17 d.2.2 hokd.2 (by omega)
      have hwl := wrA_max 17 d.2.2 hokd.2
      have HWR := Lib.hid (fun wx (hx : Below wr.heap.size wr wx) => write_any 17 wx _ (.slice ay1 d.2.2.length cy1) d.2.2 (keepsAlts 17 _ _ _ (fun g => True) _ _ hav1 (fun g hg hA => ⟨trivial, (hbr.trans (hx.mono hzr)).block g hg⟩) (hbr.trans (hx.mono hzr)).size) hwo)
      have hnl : (S d.2.1).size ≤ 24 := isName_len hokd.1
      have HIS := Lib.hid (fun w => isname_any (S d.2.1) (by have := hnl; unfold maxLen; omega) w)
      rw [show isNameB (S d.2.1).data.toList = true from hokd.1] at HIS
      have hwl2 : (S (wrA 17 d.2.2)).size ≤ 18927 := by show (wrA 17 d.2.2).length ≤ _; omega
      have HTK := Lib.hid (wrT_take hd)
      obtain ⟨W8, hW8⟩ : ∃ W8, W8 = wrA 17 d.2.2 := ⟨_, rfl⟩
      have HTK2 : Hid (T ++ ((d.2.1 ++ [32, 61]) ++ W8 ++ [32, 59, 10]) = wrT (ds.take (k + 1))) := Lib.hid (by rw [HTK.out, HT.out, hW8]; rfl)
      rw [← hW8] at HWR hwl2
      clear hav1 hcs1 hd hmem hokd hpc hcn hwo hwl hbr HTK hW8
      obtain ⟨d0, d1, bs⟩ := d
      simp only at p0 p1 p2 HWR hnl HIS HTK2
      generalize hdl : bs.length = bl at *
      go_upto_region 14 with (go_at_call 10; refine (HIS.out _).mono ?_; rintro e w3 ⟨rfl, rfl⟩)
      have b9 := Blk.new wr 34 #[.int .i64 d0, .string (S d1), .slice ay1 bl cy1]
      have hb9 : Below wr.heap.size wr (wr.alloc (.cells #[.int .i64 d0, .string (S d1), .slice ay1 bl cy1] 34)) := (Below.refl _ _).alloc (Nat.le_refl _) _
      clear p0 p1 p2
      generalize wr.alloc (.cells #[.int .i64 d0, .string (S d1), .slice ay1 bl cy1] 34) = w9 at *
      have m1 : w9.cell? ⟨wr.heap.size, 1, none⟩ = some (.string (S d1)) := b9.cell 1
      have m2 : w9.cell? ⟨wr.heap.size, 2, none⟩ = some (.slice ay1 bl cy1) := b9.cell 2
      have hl9 := b9.lt
      have HB9 := Lib.hid hb9
      obtain ⟨D1, hD1⟩ : ∃ D1, D1 = d1 ++ [32, 61] := ⟨_, rfl⟩
      obtain ⟨D2, hD2⟩ : ∃ D2, D2 = D1 ++ W8 := ⟨_, rfl⟩
      obtain ⟨D3, hD3⟩ : ∃ D3, D3 = D2 ++ [32, 59, 10] := ⟨_, rfl⟩
      obtain ⟨D4, hD4⟩ : ∃ D4, D4 = T ++ D3 := ⟨_, rfl⟩
      have e1 : S d1 ++ ({ data := #[32, 61] } : ByteArray) = S D1 := by rw [hD1]; exact S_cat d1 [32, 61]
      have e2 : S D1 ++ S W8 = S D2 := by rw [hD2]; exact S_cat _ _
      have e3 : S D2 ++ ({ data := #[32, 59, 10] } : ByteArray) = S D3 := by rw [hD3]; exact S_cat _ [32, 59, 10]
      have e4 : S T ++ S D3 = S D4 := by rw [hD4]; exact S_cat _ _
      have HDD : Hid (D4 = T ++ ((d1 ++ [32, 61]) ++ W8 ++ [32, 59, 10])) := Lib.hid (by rw [hD4, hD3, hD2, hD1])
      have z1 : (S D1).size ≤ 26 := by
        have h : d1.length ≤ 24 := hnl
        show D1.length ≤ _
        rw [hD1]
        simp
        omega
      have z2 : (S D2).size ≤ 19000 := by
        have h : D1.length ≤ 26 := z1
        have h2 : W8.length ≤ 18927 := hwl2
        show D2.length ≤ _
        rw [hD2]
        simp
        omega
      have z3 : (S D3).size ≤ 19003 := by
        have h : D2.length ≤ 19000 := z2
        show D3.length ≤ _
        rw [hD3]
        simp
        omega
      clear hD1 hD2 hD3 hD4
      clear b9 hb9
      refine wp_region_E (fun W => Below w9.heap.size w9 W) [] (by kernel_rfl) ?_
      change anyE _ _ _ _ _ _ _ _ _ (World.drew _)
      have HS : Below w9.heap.size w9 (World.drew w9) := (Below.refl _ _).drew
      refine anyE_take (i := 0) (v := ?_) rfl (by kernel_rfl) (by kernel_rfl) (by kernel_rfl) (by kernel_rfl) (by kernel_rfl) (fun _ _ _ h => h) (Or.inl ⟨by kernel_rfl, ?_⟩) HS ?_
      rotate_left
      · intro w _; go_simp; first | with_reducible rfl | (rw [if_neg (by omega)])
      refine anyE_take (i := 1) (v := ?_) rfl (by kernel_rfl) (by kernel_rfl) (by kernel_rfl) (by kernel_rfl) (by kernel_rfl) (fun _ _ _ h => h) (Or.inl ⟨by kernel_rfl, ?_⟩) HS ?_
      rotate_left
      · intro w _; go_simp; first | with_reducible rfl | (rw [if_neg (by omega)])
      refine anyE_take (i := 2) (v := ?_) rfl (by kernel_rfl) (by kernel_rfl) (by kernel_rfl) (by kernel_rfl) (by kernel_rfl) (fun _ _ _ h => h) (Or.inl ⟨by kernel_rfl, ?_⟩) HS ?_
      rotate_left
      · intro w hw; have hw := (hw.cell (p := ⟨wr.heap.size, 1, none⟩) hl9).trans m1; go_simp; with_reducible rfl
      refine anyE_take (i := 3) (v := ?_) rfl (by kernel_rfl) (by kernel_rfl) (by kernel_rfl) (by kernel_rfl) (by kernel_rfl) (fun _ _ _ h => h) (Or.inl ⟨by kernel_rfl, ?_⟩) HS ?_
      rotate_left
      · intro w _; go_simp; first | with_reducible rfl | (rw [if_neg (by omega)])
      refine anyE_take (i := 4) (v := ?_) rfl (by kernel_rfl) (by kernel_rfl) (by kernel_rfl) (by kernel_rfl) (by kernel_rfl) (fun _ _ _ h => h) (Or.inl ⟨by kernel_rfl, ?_⟩) HS ?_
      rotate_left
      · intro w _; go_simp; first | with_reducible rfl | (rw [if_neg (by omega)])
      refine anyE_take (i := 5) (v := ?_) rfl (by kernel_rfl) (by kernel_rfl) (by kernel_rfl) (by kernel_rfl) (by kernel_rfl) (fun _ _ _ h => h) (Or.inl ⟨by kernel_rfl, ?_⟩) HS ?_
      rotate_left
      · intro w hw; have hw := (hw.cell (p := ⟨wr.heap.size, 2, none⟩) hl9).trans m2; go_simp; with_reducible rfl
      refine anyE_ready (rs := [6]) (by kernel_rfl) (by simp) ?_
      refine ReadyE.cons rfl (by kernel_rfl) (fun K hK => ?_) ReadyE.nil
      go_simp
      go_at_call 11
      refine (HWR.out _ (HB9.out.trans (HS.mono HB9.out.size))).mono ?_
      rintro e w4 ⟨rfl, hb4⟩
      have hb94 : Below w9.heap.size w9 w4 := HS.trans (hb4.mono HS.size)
      refine hK.out _ _ (fun _ => hb94) ?_
      clear hK K
      refine anyE_take (i := 7) (v := ?_) rfl (by kernel_rfl) (by kernel_rfl) (by kernel_rfl) (by kernel_rfl) (by kernel_rfl) (fun _ _ _ h => h) (Or.inl ⟨by kernel_rfl, ?_⟩) hb94 ?_
      rotate_left
      · intro w _; go_simp; first | with_reducible rfl | (rw [if_neg (by omega)])
      refine anyE_take (i := 8) (v := ?_) rfl (by kernel_rfl) (by kernel_rfl) (by kernel_rfl) (by kernel_rfl) (by kernel_rfl) (fun _ _ _ h => h) (Or.inl ⟨by kernel_rfl, ?_⟩) hb94 ?_
      rotate_left
      · intro w _; go_simp; first | with_reducible rfl | (rw [if_neg (by omega)])
      refine anyE_take (i := 9) (v := ?_) rfl (by kernel_rfl) (by kernel_rfl) (by kernel_rfl) (by kernel_rfl) (by kernel_rfl) (fun _ _ _ h => h) (Or.inl ⟨by kernel_rfl, ?_⟩) hb94 ?_
      rotate_left
      · intro w _; go_simp; first | with_reducible rfl | (rw [if_neg (by omega)])
      refine anyE_take (i := 10) (v := ?_) rfl (by kernel_rfl) (by kernel_rfl) (by kernel_rfl) (by kernel_rfl) (by kernel_rfl) (fun _ _ _ h => h) (Or.inl ⟨by kernel_rfl, ?_⟩) hb94 ?_
      rotate_left
      · intro w _; go_simp; first | with_reducible rfl | (rw [if_neg (by omega)])
      refine anyE_done (by kernel_rfl) ?_ _
      go_wp2_with fail
      exact ⟨⟨k + 1, D4, congrArg (Value.int .i64) (by omega), hlt, (by first | rfl | (simp only [e1, e2, e3, e4])), HDD.out.trans HTK2.out, HBR.out.trans ((HB9.out.trans (hb94.mono HB9.out.size)).mono hzr)⟩, by simp only [intOf]; omega⟩
    · obtain rfl : k = n := by omega
      have hT : T = wrT ds := by rw [HT.out, ← HN.out, List.take_length]
      subst hT
      have HBW := Lib.hid (HB2.out.trans (hbr.mono HB2.out.size))
      clear hbr
      go_wp2_with fail
      refine (HA2.out _ (HV.out.below HBW.out)).mono ?_
      rintro e w3 ⟨⟨v2, rfl, hl2⟩, hb3⟩
      rw [HRA2.out] at hl2 ⊢
      obtain ⟨ao2, cap2, rfl⟩ := hl2.form
      have HL2 := Lib.hid hl2
      have HB23 := Lib.hid (HBR.out.trans (hb3.mono hzr))
      have hz3 := HB23.out.size
      rw [HN2.out]
      have hb4 : Below w3.heap.size w3 (w3.alloc (.cells #[.int .i64 0, .int .i64 0] 26)) := (Below.refl _ _).alloc (Nat.le_refl _) _
      have HB4 := Lib.hid hb4
      have hk0 : ((k : Int) == 0) = false := by rw [beq_eq_false_iff_ne]; omega
      clear hl2 hb3 hb4
      go_wp2_with fail
      go_loopw [83] (fun i wi => ∃ (i' : Nat), i = .int .i64 i' ∧ i' ≤ k ∧ Below w3.heap.size w3 wi) (fun i _ => k - (intOf i).toNat)
      case atStart => exact ⟨0, rfl, Nat.zero_le _, HB4.out⟩
      case round =>
        clear HB4
        obtain ⟨i, rfl, hi, hbi⟩ := hrel
        have HBI := Lib.hid hbi
        have hzi := hbi.size
        by_cases hli : i < k
        · obtain ⟨y, hy⟩ : ∃ y, ds'[i]? = some y := ⟨_, List.getElem?_eq_getElem (by rw [HN2.out]; exact hli)⟩
          obtain ⟨d, hd⟩ : ∃ d, ds[i]? = some d := ⟨_, List.getElem?_eq_getElem (by rw [HN.out]; exact hli)⟩
          obtain ⟨g1, rfl, hg1, cs1, _, hcs1, av1, rfl, hav1⟩ := ListOf.at2_ HL1.out hd
          obtain ⟨g2, rfl, hg2, cs2, _, hcs2, av2, rfl, hav2⟩ := ListOf.at2_ HL2.out hy
          obtain ⟨ay1, cy1, rfl⟩ := (show ListOf 3 (EAlt (AltsAt 16)) w2 _ av1 d.2.2 from hav1).form
          obtain ⟨ay2, cy2, rfl⟩ := (show ListOf 3 (EAlt (AltsAt 16)) w3 _ av2 y.2.2 from hav2).form
          obtain ⟨hnm, hsh⟩ := HSH.out i d y hd hy
          have h2i := HB23.out.trans (hbi.mono hz3)
          have p0 : wr.cell? ⟨g2, i * 3, none⟩ = some (.int .i64 y.1) := (hbi.cell (p := ⟨g2, i * 3, none⟩) hg2).trans (hcs2 0 _ rfl)
          have p1 : wr.cell? ⟨g2, i * 3 + 1, none⟩ = some (.string (S d.2.1)) := by rw [← hnm]; exact (hbi.cell (p := ⟨g2, i * 3 + 1, none⟩) hg2).trans (hcs2 1 _ rfl)
          have p2 : wr.cell? ⟨g2, i * 3 + 2, none⟩ = some (.slice ay2 y.2.2.length cy2) := (hbi.cell (p := ⟨g2, i * 3 + 2, none⟩) hg2).trans (hcs2 2 _ rfl)
          have q1 : wr.cell? ⟨g1, i * 3 + 1, none⟩ = some (.string (S d.2.1)) := (h2i.cell (p := ⟨g1, i * 3 + 1, none⟩) hg1).trans (hcs1 1 _ rfl)
          have q2 : wr.cell? ⟨g1, i * 3 + 2, none⟩ = some (.slice ay1 d.2.2.length cy1) := (h2i.cell (p := ⟨g1, i * 3 + 2, none⟩) hg1).trans (hcs1 2 _ rfl)
          have hk1 := okSK_of 65537 (by decide) 17 d.2.2 (HSM.out i d hd) (.inr (HOK.out d (List.mem_of_getElem? hd)).2)
          have hk2 := okSK_of 65537 (by decide) 17 y.2.2 (HSM2.out i y hy) (.inr (HOK2.out y (List.mem_of_getElem? hy)).2)
          have HS1 := Lib.hid (fun wx (hx : Below wr.heap.size wr wx) => shape_any 65537 (by decide) 17 wx (fun _ => True) (.slice ay1 d.2.2.length cy1) d.2.2 (keepsAlts 17 _ _ _ (fun g => True) _ _ hav1 (fun g hg hA => ⟨trivial, (h2i.trans (hx.mono h2i.size)).block g hg⟩) (h2i.trans (hx.mono h2i.size)).size) hk1)
          have HS2 := Lib.hid (fun wx (hx : Below wr.heap.size wr wx) => shape_any 65537 (by decide) 17 wx (fun _ => True) (.slice ay2 y.2.2.length cy2) y.2.2 (keepsAlts 17 _ _ _ (fun g => True) _ _ hav2 (fun g hg hA => ⟨trivial, (hbi.trans (hx.mono hzi)).block g hg⟩) (hbi.trans (hx.mono hzi)).size) hk2)
          rw [hsh] at HS2
          obtain ⟨sd, hsd⟩ : ∃ sd, sd = shA 17 d.2.2 := ⟨_, rfl⟩
          rw [← hsd] at HS1 HS2
          have hg1i : g1 < wr.heap.size := Nat.lt_of_lt_of_le hg1 h2i.size
          have hg2i : g2 < wr.heap.size := by omega
          clear hav1 hav2 hcs1 hcs2 hd hy h2i hbi hk1 hk2 hsh hnm hsd
          obtain ⟨y0, y1, ys⟩ := y
          obtain ⟨d0, d1, bs⟩ := d
          simp only at p0 p1 p2 q1 q2 HS1 HS2
          generalize hyl : ys.length = yl at *
          generalize hbl : bs.length = bl at *
          go_upto_region 22 with fail
          have b9 := Blk.new wr 34 #[.int .i64 y0, .string (S d1), .slice ay2 yl cy2]
          have hb9 : Below wr.heap.size wr (wr.alloc (.cells #[.int .i64 y0, .string (S d1), .slice ay2 yl cy2] 34)) := (Below.refl _ _).alloc (Nat.le_refl _) _
          clear p0 p1 p2
          generalize wr.alloc (.cells #[.int .i64 y0, .string (S d1), .slice ay2 yl cy2] 34) = w9 at *
          replace q1 : w9.cell? ⟨g1, i * 3 + 1, none⟩ = some (.string (S d1)) := (hb9.cell (p := ⟨g1, i * 3 + 1, none⟩) hg1i).trans q1
          replace q2 : w9.cell? ⟨g1, i * 3 + 2, none⟩ = some (.slice ay1 bl cy1) := (hb9.cell (p := ⟨g1, i * 3 + 2, none⟩) hg1i).trans q2
          have m1 : w9.cell? ⟨wr.heap.size, 1, none⟩ = some (.string (S d1)) := b9.cell 1
          have m2 : w9.cell? ⟨wr.heap.size, 2, none⟩ = some (.slice ay2 yl cy2) := b9.cell 2
          have hl9 := b9.lt
          have hg19 : g1 < w9.heap.size := by have := hb9.size; omega
          have HB9 := Lib.hid hb9
          clear b9 hb9
          refine wp_region_E (fun W => Below w9.heap.size w9 W) [] (by kernel_rfl) ?_
          change anyE _ _ _ _ _ _ _ _ _ (World.drew _)
          have HS : Below w9.heap.size w9 (World.drew w9) := (Below.refl _ _).drew
          refine anyE_take (i := 0) (v := ?_) rfl (by kernel_rfl) (by kernel_rfl) (by kernel_rfl) (by kernel_rfl) (by kernel_rfl) (fun _ _ _ h => h) (Or.inl ⟨by kernel_rfl, ?_⟩) HS ?_
          rotate_left
          · intro w _; go_simp; first | with_reducible rfl | (rw [if_neg (by omega)])
          refine anyE_take (i := 1) (v := ?_) rfl (by kernel_rfl) (by kernel_rfl) (by kernel_rfl) (by kernel_rfl) (by kernel_rfl) (fun _ _ _ h => h) (Or.inl ⟨by kernel_rfl, ?_⟩) HS ?_
          rotate_left
          · intro w hw; have hw := (hw.cell (p := ⟨wr.heap.size, 1, none⟩) hl9).trans m1; go_simp; with_reducible rfl
          refine anyE_take (i := 2) (v := ?_) rfl (by kernel_rfl) (by kernel_rfl) (by kernel_rfl) (by kernel_rfl) (by kernel_rfl) (fun _ _ _ h => h) (Or.inl ⟨by kernel_rfl, ?_⟩) HS ?_
          rotate_left
          · intro w _; go_simp; first | with_reducible rfl | (rw [if_neg (by omega)])
          refine anyE_take (i := 3) (v := ?_) rfl (by kernel_rfl) (by kernel_rfl) (by kernel_rfl) (by kernel_rfl) (by kernel_rfl) (fun _ _ _ h => h) (Or.inl ⟨by kernel_rfl, ?_⟩) HS ?_
          rotate_left
          · intro w _; go_simp; first | with_reducible rfl | (rw [if_neg (by omega)])
          refine anyE_take (i := 4) (v := ?_) rfl (by kernel_rfl) (by kernel_rfl) (by kernel_rfl) (by kernel_rfl) (by kernel_rfl) (fun _ _ _ h => h) (Or.inl ⟨by kernel_rfl, ?_⟩) HS ?_
          rotate_left
          · intro w _; go_simp; first | with_reducible rfl | (rw [if_neg (by omega)])
          refine anyE_take (i := 5) (v := ?_) rfl (by kernel_rfl) (by kernel_rfl) (by kernel_rfl) (by kernel_rfl) (by kernel_rfl) (fun _ _ _ h => h) (Or.inl ⟨by kernel_rfl, ?_⟩) HS ?_
          rotate_left
          · intro w _; go_simp; first | with_reducible rfl | (rw [if_neg (by omega)])
          refine anyE_take (i := 6) (v := ?_) rfl (by kernel_rfl) (by kernel_rfl) (by kernel_rfl) (by kernel_rfl) (by kernel_rfl) (fun _ _ _ h => h) (Or.inl ⟨by kernel_rfl, ?_⟩) HS ?_
          rotate_left
          · intro w hw; have hw := (hw.cell (p := ⟨g1, i * 3 + 1, none⟩) hg19).trans q1; go_simp; with_reducible rfl
          refine anyE_take (i := 7) (v := ?_) rfl (by kernel_rfl) (by kernel_rfl) (by kernel_rfl) (by kernel_rfl) (by kernel_rfl) (fun _ _ _ h => h) (Or.inl ⟨by kernel_rfl, ?_⟩) HS ?_
          rotate_left
          · intro w _; go_simp; first | with_reducible rfl | (rw [if_neg (by omega)])
          refine anyE_take (i := 8) (v := ?_) rfl (by kernel_rfl) (by kernel_rfl) (by kernel_rfl) (by kernel_rfl) (by kernel_rfl) (fun _ _ _ h => h) (Or.inl ⟨by kernel_rfl, ?_⟩) HS ?_
          rotate_left
          · intro w _; go_simp; first | with_reducible rfl | (rw [if_neg (by omega)])
          refine anyE_take (i := 9) (v := ?_) rfl (by kernel_rfl) (by kernel_rfl) (by kernel_rfl) (by kernel_rfl) (by kernel_rfl) (fun _ _ _ h => h) (Or.inl ⟨by kernel_rfl, ?_⟩) HS ?_
          rotate_left
          · intro w _; go_simp; first | with_reducible rfl | (rw [if_neg (by omega)])
          refine anyE_take (i := 10) (v := ?_) rfl (by kernel_rfl) (by kernel_rfl) (by kernel_rfl) (by kernel_rfl) (by kernel_rfl) (fun _ _ _ h => h) (Or.inl ⟨by kernel_rfl, ?_⟩) HS ?_
          rotate_left
          · intro w hw; have hw := (hw.cell (p := ⟨wr.heap.size, 2, none⟩) hl9).trans m2; go_simp; with_reducible rfl
          refine anyE_take (i := 12) (v := ?_) rfl (by kernel_rfl) (by kernel_rfl) (by kernel_rfl) (by kernel_rfl) (by kernel_rfl) (fun _ _ _ h => h) (Or.inl ⟨by kernel_rfl, ?_⟩) HS ?_
          rotate_left
          · intro w _; go_simp; first | with_reducible rfl | (rw [if_neg (by omega)])
          refine anyE_take (i := 13) (v := ?_) rfl (by kernel_rfl) (by kernel_rfl) (by kernel_rfl) (by kernel_rfl) (by kernel_rfl) (fun _ _ _ h => h) (Or.inl ⟨by kernel_rfl, ?_⟩) HS ?_
          rotate_left
          · intro w _; go_simp; first | with_reducible rfl | (rw [if_neg (by omega)])
          refine anyE_take (i := 14) (v := ?_) rfl (by kernel_rfl) (by kernel_rfl) (by kernel_rfl) (by kernel_rfl) (by kernel_rfl) (fun _ _ _ h => h) (Or.inl ⟨by kernel_rfl, ?_⟩) HS ?_
          rotate_left
          · intro w _; go_simp; first | with_reducible rfl | (rw [if_neg (by omega)])
          refine anyE_take (i := 15) (v := ?_) rfl (by kernel_rfl) (by kernel_rfl) (by kernel_rfl) (by kernel_rfl) (by kernel_rfl) (fun _ _ _ h => h) (Or.inl ⟨by kernel_rfl, ?_⟩) HS ?_
          rotate_left
          · intro w _; go_simp; first | with_reducible rfl | (rw [if_neg (by omega)])
          refine anyE_take (i := 16) (v := ?_) rfl (by kernel_rfl) (by kernel_rfl) (by kernel_rfl) (by kernel_rfl) (by kernel_rfl) (fun _ _ _ h => h) (Or.inl ⟨by kernel_rfl, ?_⟩) HS ?_
          rotate_left
          · intro w hw; have hw := (hw.cell (p := ⟨g1, i * 3 + 2, none⟩) hg19).trans q2; go_simp; with_reducible rfl
          refine anyE_ready (rs := [11]) (by kernel_rfl) (by simp) ?_
          refine ReadyE.cons rfl (by kernel_rfl) (fun K hK => ?_) ReadyE.nil
          go_simp
          go_at_call 12
          refine (HS2.out _ (HB9.out.trans (HS.mono HB9.out.size))).mono ?_
          rintro e w4 ⟨⟨va, rfl, hva⟩, hb4⟩
          obtain ⟨aoa, capa, rfl⟩ := hva.form
          have hb94 : Below w9.heap.size w9 w4 := HS.trans (hb4.mono HS.size)
          refine hK.out _ _ (fun _ => hb94) ?_
          clear hK K
          refine anyE_ready (rs := [17]) (by kernel_rfl) (by simp) ?_
          refine ReadyE.cons rfl (by kernel_rfl) (fun K hK => ?_) ReadyE.nil
          go_simp
          go_at_call 12
          refine (HS1.out _ (HB9.out.trans (hb94.mono HB9.out.size))).mono ?_
          rintro e w5 ⟨⟨vb, rfl, hvb⟩, hb5⟩
          obtain ⟨aob, capb, rfl⟩ := hvb.form
          have hb95 : Below w9.heap.size w9 w5 := hb94.trans (hb5.mono hb94.size)
          refine hK.out _ _ (fun _ => hb95) ?_
          clear hK K
          refine anyE_ready (rs := [18]) (by kernel_rfl) (by simp) ?_
          refine ReadyE.cons rfl (by kernel_rfl) (fun K hK => ?_) ReadyE.nil
          go_simp
          go_at_call 8
          refine (dsame_any 17 w5 _ _ (.slice aoa sd.length capa) (.slice aob sd.length capb) sd (keepsAlts 17 _ _ _ (fun _ => True) _ _ hva (fun q hq hA => ⟨trivial, hb5.block q hq⟩) hb5.size) hvb).mono ?_
          rintro e w6 ⟨rfl, hb6⟩
          have hb96 : Below w9.heap.size w9 w6 := hb95.trans (hb6.mono hb95.size)
          refine hK.out _ _ (fun _ => hb96) ?_
          clear hK K
          refine anyE_take (i := 19) (v := ?_) rfl (by kernel_rfl) (by kernel_rfl) (by kernel_rfl) (by kernel_rfl) (by kernel_rfl) (fun _ _ _ h => h) (Or.inl ⟨by kernel_rfl, ?_⟩) hb96 ?_
          rotate_left
          · intro w _; go_simp; first | with_reducible rfl | (rw [if_neg (by omega)])
          refine anyE_take (i := 20) (v := ?_) rfl (by kernel_rfl) (by kernel_rfl) (by kernel_rfl) (by kernel_rfl) (by kernel_rfl) (fun _ _ _ h => h) (Or.inl ⟨by kernel_rfl, ?_⟩) hb96 ?_
          rotate_left
          · intro w _; go_simp; first | with_reducible rfl | (rw [if_neg (by omega)])
          refine anyE_done (by kernel_rfl) ?_ _
          go_wp2_with fail
          exact ⟨⟨i + 1, congrArg (Value.int .i64) (by omega), hli, HBI.out.trans ((HB9.out.trans (hb96.mono HB9.out.size)).mono hzi)⟩, by simp only [intOf]; omega⟩
        · obtain rfl : i = k := by omega
          clear hbi
          go_wp2_with fail
          go_ret
          exact ⟨rfl, HB2.out.trans ((HB23.out.trans (HBI.out.mono hz3)).mono HB2.out.size)⟩
end Go.Proofs.YtdddbkghleblhaaGreatDoor.lx

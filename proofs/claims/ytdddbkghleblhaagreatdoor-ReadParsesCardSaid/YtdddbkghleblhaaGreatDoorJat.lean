/- For any text the law ReadParses returns true, and what it was handed reads afterwards as it did; no condition. -/
import Derived.Test.YtdddbkghleblhaaGreatDoorJai
import Derived.Test.YtdddbkghleblhaaGreatDoorJar
import Derived.Test.YtdddbkghleblhaaGreatDoorJas
import Derived.Test.YtdddbkghleblhaaGreatDoorJab
import Derived.Test.YtdddbkghleblhaaGreatDoorCards
import Derived.Test.YtdddbkghleblhaaGreatDoorTie
import Derived.Lib.LaidU8
import Derived.Deep.Strs
import Derived.Deep.Slices
import Derived.Lay
import Derived.SevenTiedAt
import Derived.ChangeMaps5
namespace Go.Proofs.YtdddbkghleblhaaGreatDoor.lx
open Go.ChangeShapes Go.WideShapes Go.ChangeAt Go.RowKit
set_option linter.unusedVariables false
attribute [local go_sem] run_store_float
/-! ReadParses -/
theorem plain_any (N : Nat) (hN : N ≤ 69999) : ∀ k, PlainT (AltsAt k) (smS N k)
  | 0 => by
    intro w A v bs h1 _
    obtain ⟨rfl, ao, cap, rfl⟩ := h1
    have h := plain_list (fun _ _ _ _ => False) (fun _ _ _ _ _ _ h _ _ => h.elim) (fun _ _ _ _ h => h.elim) (fun _ => False) (fun _ _ _ _ h _ => h.elim) w A (.slice ao 0 cap) [] ⟨by simp, ao, cap, rfl, fun h => absurd h (by simp)⟩ ⟨by simp, fun j x hx => by simp at hx⟩
    refine h.mono ?_
    rintro e w' ⟨⟨v', rfl, hv⟩, hb⟩
    obtain ⟨ao', cap', rfl⟩ := hv.form
    exact ⟨⟨_, rfl, rfl, ao', cap', rfl⟩, hb⟩
  | k + 1 => fun w A v bs h1 h2 => plain_list (AltsAt k) (keepsAlts k) (fun _ _ _ _ h => h.form) (smS N k) (plain_any N hN k) w A v bs h1 ⟨by have := h2.1; omega, fun j x hx => ⟨by have := (h2.2 j x hx).1; omega, (h2.2 j x hx).2⟩⟩
theorem read_small (s : List UInt8) {ds : List Dfn} {e k : Nat} (h : readAll s = (ds, e, k)) : ∀ (j : Nat) (d : Dfn), ds[j]? = some d → smS 65537 17 d.2.2 := by
  intro j d hj
  unfold readAll at h
  by_cases he : (lexAll s).2.1 = 0
  · rw [if_pos he] at h
    have hn : (lexAll s).1.length ≤ 65537 := by
      unfold lexAll
      by_cases hb : 65536 < s.length
      · rw [if_pos hb]; simp
      · rw [if_neg hb]
        rcases hA : lexA s (nxt s 0) with ⟨x, f⟩
        have := (ok_ge s hA).1
        cases f with
        | none => show x.length ≤ _; omega
        | some f => simp
    cases hp : pText (lexAll s).1.length (lexAll s).1 with
    | error q =>
      rw [hp] at h
      have : ([], q) = (ds, e, k) := h
      cases this
      simp at hj
    | ok ds2 =>
      rw [hp] at h
      have : (ds2, 0, 0) = (ds, e, k) := h
      cases this
      exact sm_text 65537 _ _ _ hn hp j d hj
  · rw [if_neg he] at h
    have h2 : [] = ds := congrArg Prod.fst h
    subst h2
    simp at hj
set_option maxRecDepth 100000 in
set_option maxHeartbeats 8000000 in
theorem parses_all (s : ByteArray) (hs : s.size ≤ maxLen) (w : World) (b off : Nat) (hv : Vs w b off) : Calls Tryz.prog 3 #[.string s] w fun e w' => e = .returned (.bool true) ∧ Below w.heap.size w w' := by
  have hal := ralive_any w b off hv
  have HV := Lib.hid hv
  have HMS := Lib.hid hs
  unfold maxLen at hs
  clear hv
  by_cases hmid : 1500 < s.size ∧ s.size ≤ 65536
  · obtain ⟨hm1, hm2⟩ := hmid
    go_enter Tryz.func3, Tryz.ntmps3
    go_wp2_with fail
    refine hal.mono ?_
    rintro e w1 ⟨rfl, hb1⟩
    have HB1 := Lib.hid hb1
    clear hal hb1
    go_wp2_with fail
    go_ret
    exact ⟨rfl, HB1.out⟩
  have HA1 := Lib.hid (fun w h => parse_any s HMS.out w b off h)
  have HA2 := Lib.hid (rparse_all s HMS.out)
  obtain ⟨⟨ds, e1, k1⟩, hra⟩ : ∃ r, readAll s.data.toList = r := ⟨_, rfl⟩
  have HRA := Lib.hid hra
  have HSM := Lib.hid (read_small _ hra)
  clear hra
  have hcase : s.size ≤ 1500 ∨ 65536 < s.size := by omega
  clear hmid
  rcases hcase with hc | hc
  all_goals
    have hc1 : True := trivial
    go_enter Tryz.func3, Tryz.ntmps3
    go_wp2_with fail
    refine hal.mono ?_
    rintro e w1 ⟨rfl, hb1⟩
    have HB1 := Lib.hid hb1
    clear hal hb1
    go_wp2_with fail
    refine (HA1.out _ (HV.out.below HB1.out)).mono ?_
    rintro e w2 ⟨⟨v1, rfl, hl1⟩, hb2⟩
    rw [HRA.out] at hl1 ⊢
    obtain ⟨ao1, cap1, rfl⟩ := hl1.form
    have HB2 := Lib.hid (HB1.out.trans (hb2.mono HB1.out.size))
    have HL1 := Lib.hid hl1
    clear hb2 hl1
    go_wp2_with fail
    refine (HA2.out _).mono ?_
    rintro e w3 ⟨⟨v2, rfl, hl2⟩, hb3⟩
    rw [HRA.out] at hl2 ⊢
    obtain ⟨ao2, cap2, rfl⟩ := hl2.form
    have hF : Blk w3 w2.heap.size 26 #[.int .i64 e1, .int .i64 k1] := Blk.below (Blk.new w2 26 #[.int .i64 e1, .int .i64 k1]) hb3 (by simp)
    have f0 : w3.cell? ⟨w2.heap.size, 0, none⟩ = some (.int .i64 e1) := hF.cell 0
    have f1 : w3.cell? ⟨w2.heap.size, 1, none⟩ = some (.int .i64 k1) := hF.cell 1
    have hf3 := hF.lt
    have h23 : Below w2.heap.size w2 w3 := ((Below.refl _ w2).alloc (Nat.le_refl _) _).trans (hb3.mono (by simp))
    have HB23 := Lib.hid h23
    have HB3 := Lib.hid (HB2.out.trans (h23.mono HB2.out.size))
    have HL2 := Lib.hid hl2
    have hn7 := hl2.1
    have hn7 : ds.length ≤ maxLen := hn7
    unfold maxLen at hn7
    generalize hn : ds.length = n at *
    have HN := Lib.hid hn
    clear hb3 hl2 hF h23 hn
    go_wp2_with fail
    clear f0 f1 hf3
    have HB33 := Lib.hid (Below.refl w3.heap.size w3)
    go_loopw [50] (fun i wr => ∃ k : Nat, k ≤ n ∧ i = .int .i64 k ∧ Below w3.heap.size w3 wr) (fun i _ => n - (intOf i).toNat)
    case atStart => exact ⟨0, Nat.zero_le _, rfl, HB33.out⟩
    case round =>
      obtain ⟨k, hk, rfl, hbr⟩ := hrel
      have HBR := Lib.hid hbr
      have hzr := hbr.size
      clear hbr
      by_cases hlt : k < n
      · obtain ⟨d, hd⟩ : ∃ d, ds[k]? = some d := ⟨_, List.getElem?_eq_getElem (by rw [HN.out]; exact hlt)⟩
        obtain ⟨g1, rfl, hg1, cs1, _, hcs1, av1, rfl, hav1⟩ := ListOf.at2_ (by rw [HN.out]; exact HL1.out) hd
        obtain ⟨g2, rfl, hg2, cs2, _, hcs2, av2, rfl, hav2⟩ := ListOf.at2_ (by rw [HN.out]; exact HL2.out) hd
        obtain ⟨ay1, cy1, rfl⟩ := (show ListOf 3 (EAlt (AltsAt 16)) w2 _ av1 d.2.2 from hav1).form
        obtain ⟨ay2, cy2, rfl⟩ := (show ListOf 3 (EAlt (AltsAt 16)) w3 _ av2 d.2.2 from hav2).form
        have HSD := Lib.hid (HSM.out k d hd)
        have h2r := HB23.out.trans (HBR.out.mono HB23.out.size)
        have p0 : wr.cell? ⟨g1, k * 3, none⟩ = some (.int .i64 d.1) := (h2r.cell (p := ⟨g1, k * 3, none⟩) hg1).trans (hcs1 0 _ rfl)
        have p1 : wr.cell? ⟨g1, k * 3 + 1, none⟩ = some (.string (S d.2.1)) := (h2r.cell (p := ⟨g1, k * 3 + 1, none⟩) hg1).trans (hcs1 1 _ rfl)
        have p2 : wr.cell? ⟨g1, k * 3 + 2, none⟩ = some (.slice ay1 d.2.2.length cy1) := (h2r.cell (p := ⟨g1, k * 3 + 2, none⟩) hg1).trans (hcs1 2 _ rfl)
        have q0 : wr.cell? ⟨g2, k * 3, none⟩ = some (.int .i64 d.1) := (HBR.out.cell (p := ⟨g2, k * 3, none⟩) hg2).trans (hcs2 0 _ rfl)
        have q1 : wr.cell? ⟨g2, k * 3 + 1, none⟩ = some (.string (S d.2.1)) := (HBR.out.cell (p := ⟨g2, k * 3 + 1, none⟩) hg2).trans (hcs2 1 _ rfl)
        have q2 : wr.cell? ⟨g2, k * 3 + 2, none⟩ = some (.slice ay2 d.2.2.length cy2) := (HBR.out.cell (p := ⟨g2, k * 3 + 2, none⟩) hg2).trans (hcs2 2 _ rfl)
        have HAV1 := Lib.hid (keepsAlts 17 _ _ _ (fun g => True) _ _ hav1 (fun g hg hA => ⟨trivial, h2r.block g hg⟩) h2r.size)
        have HAV2 := Lib.hid (keepsAlts 17 _ _ _ (fun g => True) _ _ hav2 (fun g hg hA => ⟨trivial, HBR.out.block g hg⟩) HBR.out.size)
        have hg2r : g2 < wr.heap.size := by omega
        clear hav1 hav2 hcs1 hcs2 hd h2r
        obtain ⟨d0, d1, bs⟩ := d
        simp only at p0 p1 p2 q0 q1 q2 HAV1 HAV2 HSD
        go_upto_region 12 with fail
        have b9 := Blk.new wr 34 #[.int .i64 d0, .string (S d1), .slice ay1 bs.length cy1]
        have hb9 : Below wr.heap.size wr (wr.alloc (.cells #[.int .i64 d0, .string (S d1), .slice ay1 bs.length cy1] 34)) := (Below.refl _ _).alloc (Nat.le_refl _) _
        clear p0 p1 p2
        generalize wr.alloc (.cells #[.int .i64 d0, .string (S d1), .slice ay1 bs.length cy1] 34) = w9 at *
        replace q0 : w9.cell? ⟨g2, k * 3, none⟩ = some (.int .i64 d0) := (hb9.cell (p := ⟨g2, k * 3, none⟩) hg2r).trans q0
        replace q1 : w9.cell? ⟨g2, k * 3 + 1, none⟩ = some (.string (S d1)) := (hb9.cell (p := ⟨g2, k * 3 + 1, none⟩) hg2r).trans q1
        replace q2 : w9.cell? ⟨g2, k * 3 + 2, none⟩ = some (.slice ay2 bs.length cy2) := (hb9.cell (p := ⟨g2, k * 3 + 2, none⟩) hg2r).trans q2
        have m0 : w9.cell? ⟨wr.heap.size, 0, none⟩ = some (.int .i64 d0) := b9.cell 0
        have m1 : w9.cell? ⟨wr.heap.size, 1, none⟩ = some (.string (S d1)) := b9.cell 1
        have m2 : w9.cell? ⟨wr.heap.size, 2, none⟩ = some (.slice ay1 bs.length cy1) := b9.cell 2
        have hl9 := b9.lt
        have hg29 : g2 < w9.heap.size := by have := hb9.size; omega
        have HB9 := Lib.hid hb9
        have HPL := Lib.hid (fun wx (hx : Below wr.heap.size wr wx) => plain_any 65537 (by decide) 17 wx (fun _ => True) (.slice ay1 bs.length cy1) bs (keepsAlts 17 _ _ _ (fun g => True) _ _ HAV1.out (fun g hg hA => ⟨trivial, hx.block g hg⟩) hx.size) HSD.out)
        have HSA := Lib.hid (fun wx (hx : Below wr.heap.size wr wx) (A : Nat → Prop) v' (hv' : AltsAt 17 wx A v' bs) => dsame_any 17 wx A (fun _ => True) v' (.slice ay2 bs.length cy2) bs hv' (keepsAlts 17 _ _ _ (fun g => True) _ _ HAV2.out (fun g hg hA => ⟨trivial, hx.block g hg⟩) hx.size))
        clear b9 hb9
        refine wp_region_E (fun W => Below w9.heap.size w9 W) [] (by kernel_rfl) ?_
        change anyE _ _ _ _ _ _ _ _ _ (World.drew _)
        have HS : Below w9.heap.size w9 (World.drew w9) := (Below.refl _ _).drew
        refine anyE_take (i := 0) (v := ?_) rfl (by kernel_rfl) (by kernel_rfl) (by kernel_rfl) (by kernel_rfl) (by kernel_rfl) (fun _ _ _ h => h) (Or.inl ⟨by kernel_rfl, ?_⟩) HS ?_
        rotate_left
        · intro w _; go_simp; with_reducible rfl
        refine anyE_take (i := 1) (v := ?_) rfl (by kernel_rfl) (by kernel_rfl) (by kernel_rfl) (by kernel_rfl) (by kernel_rfl) (fun _ _ _ h => h) (Or.inl ⟨by kernel_rfl, ?_⟩) HS ?_
        rotate_left
        · intro w hw; have hw := (hw.cell (p := ⟨wr.heap.size, 0, none⟩) hl9).trans m0; go_simp; with_reducible rfl
        refine anyE_take (i := 2) (v := ?_) rfl (by kernel_rfl) (by kernel_rfl) (by kernel_rfl) (by kernel_rfl) (by kernel_rfl) (fun _ _ _ h => h) (Or.inl ⟨by kernel_rfl, ?_⟩) HS ?_
        rotate_left
        · intro w _; go_simp; with_reducible rfl
        refine anyE_take (i := 3) (v := ?_) rfl (by kernel_rfl) (by kernel_rfl) (by kernel_rfl) (by kernel_rfl) (by kernel_rfl) (fun _ _ _ h => h) (Or.inl ⟨by kernel_rfl, ?_⟩) HS ?_
        rotate_left
        · intro w _; go_simp; with_reducible rfl
        refine anyE_take (i := 4) (v := ?_) rfl (by kernel_rfl) (by kernel_rfl) (by kernel_rfl) (by kernel_rfl) (by kernel_rfl) (fun _ _ _ h => h) (Or.inl ⟨by kernel_rfl, ?_⟩) HS ?_
        rotate_left
        · intro w _; go_simp; with_reducible rfl
        refine anyE_take (i := 5) (v := ?_) rfl (by kernel_rfl) (by kernel_rfl) (by kernel_rfl) (by kernel_rfl) (by kernel_rfl) (fun _ _ _ h => h) (Or.inl ⟨by kernel_rfl, ?_⟩) HS ?_
        rotate_left
        · intro w _; go_simp; with_reducible rfl
        refine anyE_take (i := 6) (v := ?_) rfl (by kernel_rfl) (by kernel_rfl) (by kernel_rfl) (by kernel_rfl) (by kernel_rfl) (fun _ _ _ h => h) (Or.inl ⟨by kernel_rfl, ?_⟩) HS ?_
        rotate_left
        · intro w hw; have hw := (hw.cell (p := ⟨g2, k * 3, none⟩) hg29).trans q0; go_simp; with_reducible rfl
        refine anyE_take (i := 7) (v := ?_) rfl (by kernel_rfl) (by kernel_rfl) (by kernel_rfl) (by kernel_rfl) (by kernel_rfl) (fun _ _ _ h => h) (Or.inl ⟨by kernel_rfl, ?_⟩) HS ?_
        rotate_left
        · intro w _; go_simp; with_reducible rfl
        refine anyE_take (i := 8) (v := ?_) rfl (by kernel_rfl) (by kernel_rfl) (by kernel_rfl) (by kernel_rfl) (by kernel_rfl) (fun _ _ _ h => h) (Or.inl ⟨by kernel_rfl, ?_⟩) HS ?_
        rotate_left
        · intro w _; go_simp; with_reducible rfl
        refine anyE_take (i := 9) (v := ?_) rfl (by kernel_rfl) (by kernel_rfl) (by kernel_rfl) (by kernel_rfl) (by kernel_rfl) (fun _ _ _ h => h) (Or.inl ⟨by kernel_rfl, ?_⟩) HS ?_
        rotate_left
        · intro w _; go_simp; with_reducible rfl
        refine anyE_take (i := 10) (v := ?_) rfl (by kernel_rfl) (by kernel_rfl) (by kernel_rfl) (by kernel_rfl) (by kernel_rfl) (fun _ _ _ h => h) (Or.inl ⟨by kernel_rfl, ?_⟩) HS ?_
        rotate_left
        · intro w hw; have hw := (hw.cell (p := ⟨wr.heap.size, 1, none⟩) hl9).trans m1; go_simp; with_reducible rfl
        refine anyE_take (i := 11) (v := ?_) rfl (by kernel_rfl) (by kernel_rfl) (by kernel_rfl) (by kernel_rfl) (by kernel_rfl) (fun _ _ _ h => h) (Or.inl ⟨by kernel_rfl, ?_⟩) HS ?_
        rotate_left
        · intro w _; go_simp; with_reducible rfl
        refine anyE_take (i := 12) (v := ?_) rfl (by kernel_rfl) (by kernel_rfl) (by kernel_rfl) (by kernel_rfl) (by kernel_rfl) (fun _ _ _ h => h) (Or.inl ⟨by kernel_rfl, ?_⟩) HS ?_
        rotate_left
        · intro w _; go_simp; with_reducible rfl
        refine anyE_take (i := 13) (v := ?_) rfl (by kernel_rfl) (by kernel_rfl) (by kernel_rfl) (by kernel_rfl) (by kernel_rfl) (fun _ _ _ h => h) (Or.inl ⟨by kernel_rfl, ?_⟩) HS ?_
        rotate_left
        · intro w _; go_simp; with_reducible rfl
        refine anyE_take (i := 14) (v := ?_) rfl (by kernel_rfl) (by kernel_rfl) (by kernel_rfl) (by kernel_rfl) (by kernel_rfl) (fun _ _ _ h => h) (Or.inl ⟨by kernel_rfl, ?_⟩) HS ?_
        rotate_left
        · intro w _; go_simp; with_reducible rfl
        refine anyE_take (i := 15) (v := ?_) rfl (by kernel_rfl) (by kernel_rfl) (by kernel_rfl) (by kernel_rfl) (by kernel_rfl) (fun _ _ _ h => h) (Or.inl ⟨by kernel_rfl, ?_⟩) HS ?_
        rotate_left
        · intro w hw; have hw := (hw.cell (p := ⟨g2, k * 3 + 1, none⟩) hg29).trans q1; go_simp; with_reducible rfl
        refine anyE_take (i := 16) (v := ?_) rfl (by kernel_rfl) (by kernel_rfl) (by kernel_rfl) (by kernel_rfl) (by kernel_rfl) (fun _ _ _ h => h) (Or.inl ⟨by kernel_rfl, ?_⟩) HS ?_
        rotate_left
        · intro w _; go_simp; with_reducible rfl
        refine anyE_take (i := 17) (v := ?_) rfl (by kernel_rfl) (by kernel_rfl) (by kernel_rfl) (by kernel_rfl) (by kernel_rfl) (fun _ _ _ h => h) (Or.inl ⟨by kernel_rfl, ?_⟩) HS ?_
        rotate_left
        · intro w _; go_simp; with_reducible rfl
        refine anyE_take (i := 18) (v := ?_) rfl (by kernel_rfl) (by kernel_rfl) (by kernel_rfl) (by kernel_rfl) (by kernel_rfl) (fun _ _ _ h => h) (Or.inl ⟨by kernel_rfl, ?_⟩) HS ?_
        rotate_left
        · intro w _; go_simp; with_reducible rfl
        refine anyE_take (i := 19) (v := ?_) rfl (by kernel_rfl) (by kernel_rfl) (by kernel_rfl) (by kernel_rfl) (by kernel_rfl) (fun _ _ _ h => h) (Or.inl ⟨by kernel_rfl, ?_⟩) HS ?_
        rotate_left
        · intro w _; go_simp; with_reducible rfl
        refine anyE_take (i := 20) (v := ?_) rfl (by kernel_rfl) (by kernel_rfl) (by kernel_rfl) (by kernel_rfl) (by kernel_rfl) (fun _ _ _ h => h) (Or.inl ⟨by kernel_rfl, ?_⟩) HS ?_
        rotate_left
        · intro w hw; have hw := (hw.cell (p := ⟨wr.heap.size, 2, none⟩) hl9).trans m2; go_simp; with_reducible rfl
        refine anyE_take (i := 22) (v := ?_) rfl (by kernel_rfl) (by kernel_rfl) (by kernel_rfl) (by kernel_rfl) (by kernel_rfl) (fun _ _ _ h => h) (Or.inl ⟨by kernel_rfl, ?_⟩) HS ?_
        rotate_left
        · intro w _; go_simp; with_reducible rfl
        refine anyE_take (i := 23) (v := ?_) rfl (by kernel_rfl) (by kernel_rfl) (by kernel_rfl) (by kernel_rfl) (by kernel_rfl) (fun _ _ _ h => h) (Or.inl ⟨by kernel_rfl, ?_⟩) HS ?_
        rotate_left
        · intro w _; go_simp; with_reducible rfl
        refine anyE_take (i := 24) (v := ?_) rfl (by kernel_rfl) (by kernel_rfl) (by kernel_rfl) (by kernel_rfl) (by kernel_rfl) (fun _ _ _ h => h) (Or.inl ⟨by kernel_rfl, ?_⟩) HS ?_
        rotate_left
        · intro w _; go_simp; with_reducible rfl
        refine anyE_take (i := 25) (v := ?_) rfl (by kernel_rfl) (by kernel_rfl) (by kernel_rfl) (by kernel_rfl) (by kernel_rfl) (fun _ _ _ h => h) (Or.inl ⟨by kernel_rfl, ?_⟩) HS ?_
        rotate_left
        · intro w _; go_simp; with_reducible rfl
        refine anyE_take (i := 26) (v := ?_) rfl (by kernel_rfl) (by kernel_rfl) (by kernel_rfl) (by kernel_rfl) (by kernel_rfl) (fun _ _ _ h => h) (Or.inl ⟨by kernel_rfl, ?_⟩) HS ?_
        rotate_left
        · intro w hw; have hw := (hw.cell (p := ⟨g2, k * 3 + 2, none⟩) hg29).trans q2; go_simp; with_reducible rfl
        refine anyE_ready (rs := [21]) (by kernel_rfl) (by simp) ?_
        refine ReadyE.cons rfl (by kernel_rfl) (fun K hK => ?_) ReadyE.nil
        go_simp
        go_at_call 9
        refine (HPL.out _ (HB9.out.trans (HS.mono HB9.out.size))).mono ?_
        rintro e w4 ⟨⟨v', rfl, hv'⟩, hb4⟩
        have hb94 := HS.trans (hb4.mono HS.size)
        refine hK.out _ _ (fun _ => hb94) ?_
        clear hK K
        refine anyE_ready (rs := [27]) (by kernel_rfl) (by simp) ?_
        refine ReadyE.cons rfl (by kernel_rfl) (fun K hK => ?_) ReadyE.nil
        go_simp
        go_at_call 8
        refine (HSA.out _ (HB9.out.trans (hb94.mono HB9.out.size)) _ _ hv').mono ?_
        rintro e w5 ⟨rfl, hb5⟩
        have hb95 := hb94.trans (hb5.mono hb94.size)
        refine hK.out _ _ (fun _ => hb95) ?_
        clear hK K
        refine anyE_take (i := 28) (v := ?_) rfl (by kernel_rfl) (by kernel_rfl) (by kernel_rfl) (by kernel_rfl) (by kernel_rfl) (fun _ _ _ h => h) (Or.inl ⟨by kernel_rfl, ?_⟩) hb95 ?_
        rotate_left
        · intro w _; go_simp; with_reducible rfl
        refine anyE_take (i := 29) (v := ?_) rfl (by kernel_rfl) (by kernel_rfl) (by kernel_rfl) (by kernel_rfl) (by kernel_rfl) (fun _ _ _ h => h) (Or.inl ⟨by kernel_rfl, ?_⟩) hb95 ?_
        rotate_left
        · intro w _; go_simp; with_reducible rfl
        refine anyE_done (by kernel_rfl) ?_ _
        go_wp2_with fail
        exact ⟨⟨k + 1, hlt, congrArg (Value.int .i64) (by omega), HBR.out.trans ((HB9.out.trans (hb95.mono HB9.out.size)).mono hzr)⟩, by simp only [intOf]; omega⟩
      · obtain rfl : k = n := by omega
        go_wp2_with fail
        go_ret
        exact ⟨rfl, HB3.out.trans (HBR.out.mono HB3.out.size)⟩
end Go.Proofs.YtdddbkghleblhaaGreatDoor.lx
namespace Go.Proofs.YtdddbkghleblhaaGreatDoor.lx
open Go.ChangeShapes Go.WideShapes Go.ChangeAt Go.RowKit
set_option linter.unusedVariables false
open Go.Lib Go.Deep
theorem g5 : Tryz.prog.globalNamed "internal/strconv.optimize" = some 5 := by kernel_rfl
theorem g6 : Tryz.prog.globalNamed "internal/strconv.float64info" = some 6 := by kernel_rfl
theorem g9 : Tryz.prog.globalNamed "internal/strconv.float64pow10" = some 9 := by kernel_rfl
theorem y5 : (Tryz.prog.globals[5]?).map (·.type) = some 4 := by kernel_rfl
theorem y6 : (Tryz.prog.globals[6]?).map (·.type) = some 142 := by kernel_rfl
theorem y9 : (Tryz.prog.globals[9]?).map (·.type) = some 181 := by kernel_rfl
theorem v5 {W : World} (h : VarReads Tryz.prog W "internal/strconv.optimize" Rows.laid_internal_strconv_optimize) : W.cell? ⟨5, 0, none⟩ = some (.bool true) := by
  obtain ⟨g, t, cs, fuel, p, hg, ht, hv, hd⟩ := h
  obtain rfl := Option.some.inj (g5.symm.trans hg)
  obtain rfl := Option.some.inj (y5.symm.trans ht)
  obtain ⟨b, e1, e2⟩ := DataW.trod_bool Tryz.underlying4 hd
  have hb : b = true := by
    have := congrArg Prod.fst e2
    simpa [Rows.laid_internal_strconv_optimize] using this.symm
  subst hb
  have := World.var?_cell g5 hv 0
  rw [Array.eq_one_of_toList e1] at this
  simpa using this
theorem cu : Tryz.prog.cellsOf 104 = 1 := by kernel_rfl
theorem cf : Tryz.prog.cellsOf 42 = 1 := by kernel_rfl
theorem v6 {W : World} (h : VarReads Tryz.prog W "internal/strconv.float64info" Rows.laid_internal_strconv_float64info) : W.cell? ⟨6, 0, none⟩ = some (.int .u64 52) := by
  obtain ⟨g, t, cs, fuel, p, hg, ht, hv, hd⟩ := h
  obtain rfl := Option.some.inj (g6.symm.trans hg)
  obtain rfl := Option.some.inj (y6.symm.trans ht)
  obtain ⟨a0, a1, a2, n, e1, e2, e3, e4, e5⟩ := trod_struct3 Tryz.underlying142 hd
  have e1' := congrArg Prod.fst e1
  simp only [Rows.laid_internal_strconv_float64info, DataW.agg.injEq, List.cons.injEq, and_true] at e1'
  obtain ⟨k, f1, f2, _⟩ := DataW.trod_int Tryz.underlying104 (show DataW.trod _ Tryz.prog W 0 _ false n 104 _ = some a0 from e3)
  have hk : k = 52 := by
    rw [f2] at e1'
    simpa using e1'.1.symm
  subst hk
  have := World.var?_cell g6 hv 0
  rw [cu] at f1
  have r0 := congrArg (fun l => l[0]?) f1
  simp at r0
  rw [this]; simpa using r0
theorem trod_float1 {P : Program} {W : World} {t : TypeId} {k : FloatKind} {n : Nat} {v : Value} {b : Nat} {p : List MemPlace} (ht : P.underlying t = some (.float k)) (h : DataW.trod (fun _ => ()) P W 0 (fun _ => true) false n t [v] = some (.lit (.float k b), p)) : v = .float k b := by
  cases n with
  | zero => simp [DataW.trod] at h
  | succ n =>
    simp only [DataW.trod, ht] at h
    cases v <;> simp at h
    simp_all
theorem pw : ∀ k, k ≤ 6 → [4607182418800017408, 4621819117588971520, 4636737291354636288, 4652007308841189376, 4666723172467343360, 4681608360884174848, 4696837146684686336].getD k 0 = Ieee.double.nearest false (10 ^ k) 0 := by decide +kernel
set_option maxRecDepth 100000 in
theorem v9 {W : World} (h : VarReads Tryz.prog W "internal/strconv.float64pow10" Rows.laid_internal_strconv_float64pow10) : ∃ b off, W.cell? ⟨9, 0, none⟩ = some (.slice (some ⟨b, off, none⟩) 23 23) ∧ ∀ k, k ≤ 6 → W.cell? ⟨b, off + k, none⟩ = some (.float .f64 (Ieee.double.nearest false (10 ^ k) 0)) := by
  obtain ⟨g, t, cs, fuel, p, hg, ht, hv, hd⟩ := h
  obtain rfl := Option.some.inj (g9.symm.trans hg)
  obtain rfl := Option.some.inj (y9.symm.trans ht)
  rcases open_slice1 Tryz.underlying181 cf hd with ⟨_, hx⟩ | ⟨a, len, cap, m, n, V, D, Pl, e1, _, hl, _, hm, hx, hc⟩
  · simp [Rows.laid_internal_strconv_float64pow10] at hx
  · have hm' : m = cap := by simpa using hm
    subst hm'
    have e2 := congrArg Prod.fst hx
    simp only [Rows.laid_internal_strconv_float64pow10, DataW.slice.injEq] at e2
    have l1 := congrArg List.length e2.1
    have l2 := congrArg List.length e2.2
    simp at l1 l2
    obtain rfl : len = 23 := by omega
    obtain rfl : m = 23 := by omega
    obtain ⟨b, off, spot⟩ := a
    have hspot : spot = none := by simpa [Addr.add] using World.cell?_spot (hc 0 (by omega)).1
    subst hspot
    refine ⟨b, off, ?_, fun k hk => ?_⟩
    · have := World.var?_cell g9 hv 0
      rw [Array.eq_one_of_toList e1] at this
      simpa using this
    · rw [← pw k hk]
      have hk2 : k = 0 ∨ k = 1 ∨ k = 2 ∨ k = 3 ∨ k = 4 ∨ k = 5 ∨ k = 6 := by omega
      rcases hk2 with rfl | rfl | rfl | rfl | rfl | rfl | rfl
      all_goals
        clear hk
      · obtain ⟨h1, h2⟩ := hc 0 (by omega)
        have e3 := congrArg (fun l => l[0]?) e2.1
        simp at e3
        rw [← e3] at h2
        rw [trod_float1 Tryz.underlying42 h2] at h1
        simpa [Go.WideShapes.add_plain] using h1
      · obtain ⟨h1, h2⟩ := hc 1 (by omega)
        have e3 := congrArg (fun l => l[1]?) e2.1
        simp at e3
        rw [← e3] at h2
        rw [trod_float1 Tryz.underlying42 h2] at h1
        simpa [Go.WideShapes.add_plain] using h1
      · obtain ⟨h1, h2⟩ := hc 2 (by omega)
        have e3 := congrArg (fun l => l[2]?) e2.1
        simp at e3
        rw [← e3] at h2
        rw [trod_float1 Tryz.underlying42 h2] at h1
        simpa [Go.WideShapes.add_plain] using h1
      · obtain ⟨h1, h2⟩ := hc 3 (by omega)
        have e3 := congrArg (fun l => l[3]?) e2.1
        simp at e3
        rw [← e3] at h2
        rw [trod_float1 Tryz.underlying42 h2] at h1
        simpa [Go.WideShapes.add_plain] using h1
      · obtain ⟨h1, h2⟩ := hc 4 (by omega)
        have e3 := congrArg (fun l => l[4]?) e2.1
        simp at e3
        rw [← e3] at h2
        rw [trod_float1 Tryz.underlying42 h2] at h1
        simpa [Go.WideShapes.add_plain] using h1
      · obtain ⟨h1, h2⟩ := hc 5 (by omega)
        have e3 := congrArg (fun l => l[5]?) e2.1
        simp at e3
        rw [← e3] at h2
        rw [trod_float1 Tryz.underlying42 h2] at h1
        simpa [Go.WideShapes.add_plain] using h1
      · obtain ⟨h1, h2⟩ := hc 6 (by omega)
        have e3 := congrArg (fun l => l[6]?) e2.1
        simp at e3
        rw [← e3] at h2
        rw [trod_float1 Tryz.underlying42 h2] at h1
        simpa [Go.WideShapes.add_plain] using h1
theorem vs_of {W : World} (h5 : VarReads Tryz.prog W "internal/strconv.optimize" Rows.laid_internal_strconv_optimize) (h6 : VarReads Tryz.prog W "internal/strconv.float64info" Rows.laid_internal_strconv_float64info) (h9 : VarReads Tryz.prog W "internal/strconv.float64pow10" Rows.laid_internal_strconv_float64pow10) : ∃ b off, Vs W b off := by
  obtain ⟨b, off, h1, h2⟩ := v9 h9
  exact ⟨b, off, v5 h5, v6 h6, h1, h2⟩
end Go.Proofs.YtdddbkghleblhaaGreatDoor.lx
namespace Go.Proofs.YtdddbkghleblhaaGreatDoor.lx.readParses
open Go.ChangeShapes Go.WideShapes Go.ChangeAt Go.RowKit Go.ChangeMaps Go.Lib Go.Deep
set_option linter.unusedVariables false
theorem own : ownKnob Tryz.prog.godebug = none := by kernel_rfl
set_option maxRecDepth 100000 in
theorem lifted (os : Os) (started : os.Started) (H : Type) (enc : TypeId × Value → H) :
    ReturnsInHanded {} Tryz.checked os 3 .any (fun w args => (Rows.readParsesSpec.pre enc Tryz.prog Tryz.f3 [] false w args ∧ laidMetH Tryz.prog Rows.readParsesRow.laid w) ∧ sizedMet enc Tryz.prog Tryz.f3 (OpenSpec.ofChange Rows.readParsesSpec) false w args)
      (Rows.readParsesSpec.post enc Tryz.prog Tryz.f3 false true false false) := by
  refine returnsInHanded_of_change_and (C := Tryz.checked) (X := fun w _ => laidMetH Tryz.prog Rows.readParsesRow.laid w) (fun _ _ _ hh h => h.of_heap hh) own started (by kernel_rfl) Tryz.func3
    (ChangeSpec.witness_shaped (enc := enc) (C := Tryz.checked) (os := os) (X := fun w _ => laidMetH Tryz.prog Rows.readParsesRow.laid w) false (World.laidAll Tryz.prog os Rows.readParsesRow.laid) #[.string ⟨#[]⟩] 8 (World.laidAll_os _ _ _)
      (World.shaped_of_ZipB (by kernel_rfl) (by kernel_rfl)) (by kernel_rfl) (by kernel_rfl) (by kernel_rfl)
      (by rw [MakeChecks.laidMetH_plain _ _ _ (by kernel_rfl)]; exact laidMet_laidAll _ (by kernel_rfl) (by kernel_rfl))) ?_
  intro W base args ds gs before hval0 hW _ _ hL _
  have hval : ∀ (j : Nat) t v, Tryz.f3.params[j]? = some t → args[j]? = some v → Value.okWide Tryz.prog W .any base t v := hval0
  have hW' := hW
  obtain ⟨p, q, hA0, hV, rfl, _, _⟩ := hW
  have hA : DataW.TrodAll enc Tryz.prog W 0 (fun _ => true) true Tryz.f3.params.toList args.toList ds p := hA0
  rw [Tryz.params3] at hA hval
  obtain ⟨v0, vs0, d0, ds0, p0, q0, hargs, rfl, rfl, h0, r0⟩ := trodAll_cons hA
  obtain ⟨rfl, rfl, rfl⟩ := trodAll_nil r0
  obtain rfl : args = #[v0] := by cases args; simp_all
  obtain ⟨rfl, rfl⟩ := trodVars_none hV
  obtain ⟨s0, rfl, rfl, rfl, w0⟩ := open_string Tryz.underlying9 (hval 0 9 v0 rfl rfl) h0
  simp only [List.append_nil] at hW'
  rw [MakeChecks.laidMetH_plain _ _ _ (by kernel_rfl)] at hL
  obtain ⟨b, off, hv⟩ := vs_of (W := W) (laidMet.reads hL (by simp [Rows.readParsesRow])) (laidMet.reads hL (by simp [Rows.readParsesRow])) (laidMet.reads hL (by simp [Rows.readParsesRow]))
  refine (parses_all s0 w0 W b off hv).mono fun e W' ⟨he, hb⟩ => ?_
  subst he
  exact ⟨_, rfl, _, _, _, [], [], [], hW', trodAll_mk1 (shut_bool Tryz.underlying4 _), trodAll_mk1 (shut_string Tryz.underlying9 w0), rfl, hb.frame _, fun h => by cases h⟩
theorem said : Rows.ReadParsesSaid :=
  OpenClaim.holds_of_wide 3 Tryz.f3 rfl rfl rfl rfl rfl rfl rfl ⟨rfl, rfl, rfl, rfl, rfl⟩ rfl rfl rfl rfl rfl (by kernel_rfl) Tryz.func3 (by kernel_rfl)
    (of_decide_eq_true (by kernel_rfl)) (by unfold Func.isWrapper; first | (rw [if_pos (by decide +kernel)]; kernel_rfl) | (rw [if_neg (by decide +kernel)]; exact ⟨rfl, rfl⟩))
    (fun os started H enc _ => lifted os started H enc)
theorem looks_str (t : TypeId) (h : t = 9) : Tryz.prog.wantsStandIn t = false := by
  subst h
  kernel_rfl
theorem plain (f : FuncId) (fn : Func) (hf : Tryz.pinned.checked.prog.funcNamed "accidence/accidencelaw05.ReadParses" = some f) (hfn : Tryz.pinned.checked.prog.funcs[f]? = some fn) :
    true = Tryz.pinned.checked.prog.looks [] ∧ ∀ (j : Nat) t, fn.params[j]? = some t → Tryz.pinned.checked.prog.wantsStandIn t = false := by
  obtain rfl : f = 3 := Option.some.inj ((show Tryz.prog.funcNamed "accidence/accidencelaw05.ReadParses" = some 3 by kernel_rfl).symm.trans hf) |>.symm
  obtain rfl : fn = Tryz.f3 := (Option.some.inj (Tryz.func3.symm.trans hfn)).symm
  refine ⟨by kernel_rfl, fun j t ht => ?_⟩
  rw [Tryz.params3] at ht
  have hm : t ∈ [9] := by simpa using Array.mem_of_getElem? ht
  exact looks_str t (by simpa using hm)
end Go.Proofs.YtdddbkghleblhaaGreatDoor.lx.readParses
namespace Go.Proofs.YtdddbkghleblhaaGreatDoor
theorem readParses_holds : Rows.ReadParsesCardSaid :=
  Claim7.holds_tied_plain_at .later [] _ _ _ _ lx.readParses.said (fun _ h => by cases h) (by kernel_rfl) (fun _ h => by cases h) readParses_row_tie rfl ⟨rfl, rfl⟩ (by kernel_rfl) rfl lx.readParses.plain (by kernel_rfl)
end Go.Proofs.YtdddbkghleblhaaGreatDoor

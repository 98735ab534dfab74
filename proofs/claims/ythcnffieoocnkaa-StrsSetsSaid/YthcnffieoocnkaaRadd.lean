import Derived.Test.YthcnffieoocnkaaRout
namespace Go.Proofs.Ythcnffieoocnkaa.st
open Go.ChangeShapes Go.WideShapes Go.ChangeAt Go.RowKit Go.Maps Go.WideMaps Go.WideElems
set_option linter.unusedVariables false
theorem one_sl {u : Value} {row : Option Nat} {w : World} {x : List Int} (h : AwayW w row u x) : ∀ z ∈ [u], z.oneCell' = true := by
  obtain ⟨_, ao, cap, rfl, _⟩ := h
  intro z hz
  simp at hz
  subst hz
  rfl
theorem made_words (B : Nat) (w : World) (hB : B ≤ w.heap.size) : OutU B (w.alloc (.cells #[] 22)) (.slice (some ⟨w.heap.size, 0, none⟩) 0 0) [] [] := by
  have := World.ownsRow_made (e := 22) (size := 1) (base := B) w #[] 0 hB (by unfold maxLen; omega) rfl
  exact ⟨by simpa using this, fun i hi => absurd hi (Nat.not_lt_zero _)⟩
theorem made_word (w : World) : (w.alloc (.cells #[] 3)).ownsRow w.heap.size 3 1 (.slice (some ⟨w.heap.size, 0, none⟩) 0 0) 0 [] := by
  have := World.ownsRow_made (e := 3) (size := 1) (base := w.heap.size) w #[] 0 (Nat.le_refl _) (by unfold maxLen; omega) rfl
  simpa using this
theorem out_more {B : Nat} {w w' : World} {v v' u : Value} {ws : List (List Int)} {us : List Value} {x : List Int} {o : Obj} (h : OutU B w v ws us) (hx : AwayW w v.ownBlock u x) (h2 : w'.ownsRow B 22 1 v' (ws.length + 1) (us ++ [u])) (hg : (w.alloc o).grownBy w' v.ownBlock) (hat : v'.ownBlock = v.ownBlock ∨ v'.ownBlock = some (w.alloc o).heap.size) : OutU B w' v' (ws ++ [x]) (us ++ [u]) :=
  out_step (h.far (World.grownBy_alloc w o none) (by simp)) (hx.far (World.grownBy_alloc w o none) (by simp)) h2 hg hat
set_option maxRecDepth 100000 in
set_option maxHeartbeats 800000 in
/-- the word is not among them -/
theorem radd_new (w : World) (v u : Value) (L : List (List Int)) (y : List Int) (hv : WordsN w v L) (hu : WordN w u y) (hL : L.length ≤ 4000) (hno : y ∉ L) : Calls Try.prog 30 #[v, u] w fun e w' => ∃ r, e = .returned r ∧ WordsN w' r (insN y false L) ∧ Below w.heap.size w w' := by
  have hh := rhas_any w v u L y hv.words hu.word (by unfold maxLen; omega) hu.1
  rw [decide_eq_false hno] at hh
  obtain ⟨i0, hi, hz0, hz1, hz2⟩ := info_parts info_int
  obtain ⟨i1, ki, kz0, kz1, kz2⟩ := info_parts info_ints
  have HU := Lib.hid hu
  obtain ⟨ao, ca, rfl, hn, hc⟩ := hv
  obtain ⟨hyl, bo, cb, rfl, hbn, hbin, hbc⟩ := hu
  have hnone : bo = none → y.length = 0 ∧ cb = 0 := fun e => by
    refine ⟨?_, hbn e⟩
    rcases Nat.eq_zero_or_pos y.length with h | h
    · exact h
    · obtain ⟨a, e2, _⟩ := hbc 0 h
      rw [e] at e2
      cases e2
  have hly : (IV y).length = y.length * 1 := by simp [IV]
  have hsrc := fun w' => row_src (w' := w') hbc
  have HC := Lib.hid hc
  have HS := Lib.hid hsrc
  have HI := Lib.hid hbin
  clear hc hsrc hbin hbc hbn hn hno
  go_enter Try.func30, Try.ntmps30
  go_wp2_with fail
  refine hh.mono ?_
  rintro e w1 ⟨rfl, hq1⟩
  have hq1 : Qt w w1 := hq1
  have hb1 : Below w.heap.size w w1 := hq1.below
  clear hh
  go_wp2
  go_loopw [5, 6, 7] (fun v d i wr => ∃ (k : Nat) (dd : Bool) (ws : List (List Int)) (us : List Value), i = .int .i64 k ∧ k ≤ L.length ∧ d = .bool dd ∧ OutU w.heap.size wr v ws us ∧ ((dd = false → ws.length ≤ k) ∧ ws.length ≤ k + 1) ∧ ws ++ insN y dd (L.drop k) = insN y false L ∧ Below w.heap.size w wr) (fun _ _ i _ => L.length - (intOf i).toNat)
  case atStart => exact ⟨0, false, [], [], rfl, Nat.zero_le _, rfl, made_words _ w1 hb1.size, ⟨fun _ => by simp, by simp⟩, by simp, hb1.alloc hb1.size _⟩
  case round =>
    obtain ⟨k, dd, ws, us, rfl, hk, rfl, hout, ⟨hwl0, hwl⟩, hins, hbw⟩ := hrel
    have hzw := hbw.size
    by_cases hlt : k < L.length
    · obtain ⟨a, va, rfl, hab, hca, hwx⟩ := HC.out k hlt
      have ck : wr.cell? (a.add k) = some va := (hbw.cell (p := a.add k) (by rw [add_block]; exact hab)).trans hca
      have hat := insN_at y dd L k hlt
      rw [hat] at hins
      clear hat
      generalize L.getD k [] = x at *
      have HK := Lib.hid hca
      have HX := Lib.hid hwx
      have hxl := hwx.1
      obtain ⟨_, xo, xc, rfl, _⟩ := hwx
      clear hca
      cases dd
      · have hwl0 := hwl0 rfl
        have hls := less_any wr _ _ y x (HU.out.below hbw).word (HX.out.below hbw).word hyl hxl
        cases h2 : ltW y x
        · rw [h2] at hls
          simp only [h2, Bool.not_false, Bool.and_false, Bool.false_eq_true, if_false] at hins
          have HN := Lib.hid hins
          have H2 := Lib.hid h2
          clear hins h2
          go_wp2_with fail
          refine hls.mono ?_
          rintro e w2 ⟨rfl, hq2⟩
          have hq2 : Qt wr w2 := hq2
          clear hls
          have hb2 := hbw.trans (hq2.below.mono hzw)
          have hzz := hb2.size
          have ho2 := hout.qt hq2
          have ck2 := (hq2.cell (a.add k)).trans ck
          have haw := away_old HX.out hb2 (out_row ho2)
          have HO := Lib.hid ho2
          have HB := Lib.hid hb2
          have HA := Lib.hid haw
          clear ho2 hb2 haw hq2 ck hout hbw
          go_wp2_with (at_builtin; refine wpList_append_own_at _ rfl (.tmp 35) (.tmp 40) 29 rfl w.heap.size 22 i1 (.slice none 0 0) 1 24 Try.underlying29 ki kz0 kz1 kz2 rfl (by decide) _ ws.length us rfl (HO.out.1.alloc _) ⟨w2.heap.size, 0, none⟩ 1 1 [(.slice xo x.length xc)] rfl rfl (cell_one_new _ _ _) (one_sl HA.out) (by unfold maxLen; first | omega | (simp; omega)) (by first | omega | (simp; omega)) (by simp; omega) ?_; intro v3 w3 hown3 hg3 _ hat3)
          refine ⟨⟨k + 1, false, ws ++ [x], us ++ [.slice xo x.length xc], by go_num, hlt, rfl, out_more HO.out HA.out hown3 hg3 hat3, ⟨(fun _ => by simp; omega), by simp; omega⟩, by simpa using HN.out, (HB.out.alloc hzz _).grown hg3 (by simp; omega) (out_row HO.out)⟩, by simp [intOf]; omega⟩
        · rw [h2] at hls
          simp only [h2, Bool.not_false, Bool.and_true, if_true] at hins
          have HN := Lib.hid hins
          have H2 := Lib.hid h2
          clear hins h2
          go_wp2_with fail
          refine hls.mono ?_
          rintro e w2 ⟨rfl, hq2⟩
          have hq2 : Qt wr w2 := hq2
          clear hls
          have hb2 := hbw.trans (hq2.below.mono hzw)
          have hzz := hb2.size
          have HO := Lib.hid (hout.qt hq2)
          have HB := Lib.hid hb2
          clear hb2 hq2 ck hout hbw
          have hs2 := HS.out (w2.alloc (.cells #[] 3)) (HB.out.alloc hzz _)
          have hm2 := made_word w2
          go_wp2_with (first | (at_builtin; refine wpList_append_src rfl (.tmp 30) (.tmp 31) 22 rfl w2.heap.size 3 i0 (.int .i64 0) 1 8 Try.underlying22 hi hz0 hz1 hz2 rfl (by decide) _ 0 [] rfl hm2 bo y.length cb (IV y) rfl hly hnone hs2 (ints_oneCell .i64 _) (by unfold maxLen; omega) (by omega) (by simp) ?_; intro v3 w3 hown3 hg3; simp only [Nat.zero_add, List.nil_append] at hown3; have HO3 := Lib.hid (HO.out.far ((World.grownBy_alloc w2 (.cells #[] 3) (some w2.heap.size)).trans hg3) (fun k e => by cases e; exact Nat.le_refl _)); have ha3 := away_own hown3 rfl HI.out hyl (out_lt HO.out); obtain ⟨_, o3, c3, e3, _⟩ := id ha3; subst e3; have HA3 := Lib.hid ha3; clear ha3; have HB3 := Lib.hid ((HB.out.alloc hzz (.cells #[] 3)).grown hg3 (by simp; omega) (fun k e => by cases e; omega)); have hz3 := HB3.out.size; clear hown3 hg3 hm2 hs2) | (at_builtin; refine wpList_append_own_at _ rfl (.tmp 29) (.tmp 33) 29 rfl w.heap.size 22 i1 (.slice none 0 0) 1 24 Try.underlying29 ki kz0 kz1 kz2 rfl (by decide) _ ws.length us rfl (HO3.out.1.alloc _) ⟨w3.heap.size, 0, none⟩ 1 1 [(.slice o3 y.length c3)] rfl rfl (cell_one_new _ _ _) (one_sl HA3.out) (by unfold maxLen; first | omega | (simp; omega)) (by first | omega | (simp; omega)) (by simp; omega) ?_; intro v4 w4 hown4 hg4 _ hat4; have HO4 := Lib.hid (out_more HO3.out HA3.out hown4 hg4 hat4); have HB4 := Lib.hid ((HB3.out.alloc hz3 (.cells #[.slice o3 y.length c3] 22)).grown hg4 (by simp; omega) (out_row HO3.out)); have hz4 := HB4.out.size; have HA4 := Lib.hid (away_old HX.out HB4.out (out_row HO4.out)); have ck4 : w4.cell? (a.add k) = some (.slice xo x.length xc) := (HB4.out.cell (p := a.add k) (by rw [add_block]; exact hab)).trans HK.out; clear hown4 hg4 hat4) | (at_builtin; refine wpList_append_own_at _ rfl (.tmp 35) (.tmp 40) 29 rfl w.heap.size 22 i1 (.slice none 0 0) 1 24 Try.underlying29 ki kz0 kz1 kz2 rfl (by decide) _ (ws ++ [y]).length (us ++ [.slice o3 y.length c3]) rfl (HO4.out.1.alloc _) ⟨w4.heap.size, 0, none⟩ 1 1 [(.slice xo x.length xc)] rfl rfl (cell_one_new _ _ _) (one_sl HA4.out) (by unfold maxLen; first | omega | (simp; omega)) (by first | omega | (simp; omega)) (by simp; omega) ?_; intro v5 w5 hown5 hg5 _ hat5) | fail)
          refine ⟨⟨k + 1, true, ws ++ [y] ++ [x], us ++ [.slice o3 y.length c3] ++ [.slice xo x.length xc], by go_num, hlt, rfl, out_more HO4.out HA4.out hown5 hg5 hat5, ⟨(fun h => by cases h), by simp; omega⟩, by simpa using HN.out, (HB4.out.alloc hz4 _).grown hg5 (by simp; omega) (out_row HO4.out)⟩, by simp [intOf]; omega⟩
      · simp only [Bool.not_true, Bool.false_and, Bool.false_eq_true, if_false] at hins
        have HN := Lib.hid hins
        have haw := away_old HX.out hbw (out_row hout)
        have HO := Lib.hid hout
        have HB := Lib.hid hbw
        have HA := Lib.hid haw
        clear hins hout hbw haw
        go_wp2_with (at_builtin; refine wpList_append_own_at _ rfl (.tmp 35) (.tmp 40) 29 rfl w.heap.size 22 i1 (.slice none 0 0) 1 24 Try.underlying29 ki kz0 kz1 kz2 rfl (by decide) _ ws.length us rfl (HO.out.1.alloc _) ⟨wr.heap.size, 0, none⟩ 1 1 [(.slice xo x.length xc)] rfl rfl (cell_one_new _ _ _) (one_sl HA.out) (by unfold maxLen; first | omega | (simp; omega)) (by first | omega | (simp; omega)) (by simp; omega) ?_; intro v3 w3 hown3 hg3 _ hat3)
        refine ⟨⟨k + 1, true, ws ++ [x], us ++ [.slice xo x.length xc], by go_num, hlt, rfl, out_more HO.out HA.out hown3 hg3 hat3, ⟨(fun h => by cases h), by simp; omega⟩, by simpa using HN.out, (HB.out.alloc hzw _).grown hg3 (by simp; omega) (out_row HO.out)⟩, by simp [intOf]; omega⟩
    · obtain rfl : k = L.length := by omega
      rw [List.drop_length] at hins
      cases dd
      · have hins : ws ++ [y] = insN y false L := hins
        have HN := Lib.hid hins
        have HO := Lib.hid hout
        have HB := Lib.hid hbw
        clear hins hout hbw
        have hs2 := HS.out (wr.alloc (.cells #[] 3)) (HB.out.alloc hzw _)
        have hm2 := made_word wr
        go_wp2_with (first | (at_builtin; refine wpList_append_src rfl (.tmp 45) (.tmp 46) 22 rfl wr.heap.size 3 i0 (.int .i64 0) 1 8 Try.underlying22 hi hz0 hz1 hz2 rfl (by decide) _ 0 [] rfl hm2 bo y.length cb (IV y) rfl hly hnone hs2 (ints_oneCell .i64 _) (by unfold maxLen; omega) (by omega) (by simp) ?_; intro v3 w3 hown3 hg3; simp only [Nat.zero_add, List.nil_append] at hown3; have HO3 := Lib.hid (HO.out.far ((World.grownBy_alloc wr (.cells #[] 3) (some wr.heap.size)).trans hg3) (fun k e => by cases e; exact Nat.le_refl _)); have ha3 := away_own hown3 rfl HI.out hyl (out_lt HO.out); obtain ⟨_, o3, c3, e3, _⟩ := id ha3; subst e3; have HA3 := Lib.hid ha3; clear ha3; have HB3 := Lib.hid ((HB.out.alloc hzw (.cells #[] 3)).grown hg3 (by simp; omega) (fun k e => by cases e; omega)); have hz3 := HB3.out.size; clear hown3 hg3 hm2 hs2) | (at_builtin; refine wpList_append_own_at _ rfl (.tmp 44) (.tmp 48) 29 rfl w.heap.size 22 i1 (.slice none 0 0) 1 24 Try.underlying29 ki kz0 kz1 kz2 rfl (by decide) _ ws.length us rfl (HO3.out.1.alloc _) ⟨w3.heap.size, 0, none⟩ 1 1 [(.slice o3 y.length c3)] rfl rfl (cell_one_new _ _ _) (one_sl HA3.out) (by unfold maxLen; first | omega | (simp; omega)) (by first | omega | (simp; omega)) (by simp; omega) ?_; intro v4 w4 hown4 hg4 _ hat4) | fail)
        have ho4 := out_words (out_more HO3.out HA3.out hown4 hg4 hat4)
        rw [HN.out] at ho4
        have hb4 := (HB3.out.alloc hz3 _).grown hg4 (by simp; omega) (out_row HO3.out)
        have HW := Lib.hid ho4
        have HB4 := Lib.hid hb4
        clear ho4 hb4 hown4 hg4 hat4
        go_wp2
        go_ret
        exact ⟨_, rfl, HW.out, HB4.out⟩
      · have hins : ws ++ [] = insN y false L := hins
        rw [List.append_nil] at hins
        have ho := out_words hout
        rw [hins] at ho
        have HW := Lib.hid ho
        have HB := Lib.hid hbw
        clear hins hout hbw ho
        go_wp2
        go_ret
        exact ⟨_, rfl, HW.out, HB.out⟩
set_option maxRecDepth 100000 in
set_option maxHeartbeats 800000 in
theorem radd_any (w : World) (v u : Value) (L : List (List Int)) (y : List Int) (hv : WordsN w v L) (hu : WordN w u y) (hL : L.length ≤ 4000) (hup : Up L) : Calls Try.prog 30 #[v, u] w fun e w' => ∃ r, e = .returned r ∧ WordsN w' r (insW y L) ∧ Below w.heap.size w w' := by
  by_cases hin : y ∈ L
  · have hh := rhas_any w v u L y hv.words hu.word (by unfold maxLen; omega) hu.1
    rw [decide_eq_true hin] at hh
    rw [insW_in hup hin]
    have HV := Lib.hid hv
    clear hv hu hup hin
    go_enter Try.func30, Try.ntmps30
    go_wp2_with fail
    refine hh.mono ?_
    rintro e w1 ⟨rfl, hq1⟩
    have hq1 : Qt w w1 := hq1
    have hb1 : Below w.heap.size w w1 := hq1.below
    clear hh
    go_wp2
    go_ret
    exact ⟨v, rfl, HV.out.below hb1, hb1⟩
  · rw [← insN_ins y L hin]
    exact radd_new w v u L y hv hu hL hin
end Go.Proofs.Ythcnffieoocnkaa.st

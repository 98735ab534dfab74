import Derived.Test.YthcnffieoocnkaaApra
namespace Go.Proofs.Ythcnffieoocnkaa.st
open Go.ChangeShapes Go.WideShapes Go.ChangeAt Go.RowKit Go.Maps Go.WideMaps Go.WideElems
set_option linter.unusedVariables false
theorem made_cop (B : Nat) (w : World) (hB : B ≤ w.heap.size) : CopU B (w.alloc (.cells #[] 22)) (.slice (some ⟨w.heap.size, 0, none⟩) 0 0) [] [] := ⟨made_words B w hB, fun i hi => absurd hi (Nat.not_lt_zero _)⟩
theorem rows_at {lo hi : Nat} {w : World} {ao : Option Addr} {ns : List Nat} (h : RowsI lo hi w ao ns) (j : Nat) (hj : j < ns.length) : ∃ (g gi : Nat) (ui : Option Addr) (ci : Nat), ao = some ⟨g, 0, none⟩ ∧ w.cell? ⟨g, j, none⟩ = some (.slice ui (ns.getD j 0) ci) ∧ (0 < ns.getD j 0 → ui = some ⟨gi, 0, none⟩ ∧ lo ≤ gi ∧ gi < hi ∧ gi ≠ g ∧ IntB w gi (ns.getD j 0)) := by
  obtain ⟨g, ui, ci, e1, hc, hr⟩ := h j hj
  by_cases hn : 0 < ns.getD j 0
  · obtain ⟨gi, h1⟩ := hr hn
    exact ⟨g, gi, ui, ci, e1, hc, fun _ => h1⟩
  · exact ⟨g, 0, ui, ci, e1, hc, fun h => absurd h hn⟩
theorem len_at (A : List (List Int)) (h : ∀ x ∈ A, x.length ≤ 1000) (j : Nat) (hj : j < A.length) : (A.map List.length).getD j 0 ≤ 1000 := by
  have e : (A.map List.length).getD j 0 = (A[j]).length := by simp [List.getD_eq_getElem?_getD, List.getElem?_map, List.getElem?_eq_getElem hj]
  rw [e]
  exact h _ (List.getElem_mem hj)
set_option maxRecDepth 100000 in
set_option maxHeartbeats 2000000 in
theorem apart_few (w : World) (aa : Option Addr) (ca : Nat) (A : List (List Int)) (k : Int) (ha : RowsAt w (.slice aa A.length ca) A) (hk : In64 k) (fa : FewP A) : Calls Try.prog 6 #[.slice aa A.length ca, .int .i64 k] w fun e w' => e = .returned (.bool true) ∧ Below w.heap.size w w' := by
  have hfine := ha.fine fa
  have hl20 := fa.1
  have hset := setW_len A
  have hsl : ∀ x ∈ A, x.length ≤ 1000 := fun x hx => (hfine x hx).2
  have hss : ∀ x ∈ setW A, x.length ≤ 1000 := fun x hx => (hfine x ((mem_setW A x).1 hx)).2
  obtain ⟨i0, hi, hz0, hz1, hz2⟩ := info_parts info_int
  obtain ⟨i1, ki, kz0, kz1, kz2⟩ := info_parts info_ints
  have HA := Lib.hid ha
  have HF := Lib.hid fa
  have HN := Lib.hid hfine
  have HL := Lib.hid hsl
  have HM := Lib.hid hss
  have HC : Hid (∀ i, i < A.length → ∃ (a : Addr) (u : Value), aa = some a ∧ a.block < w.heap.size ∧ w.cell? (a.add i) = some u ∧ RowAt w u (A.getD i [])) := by
    obtain ⟨ao, cap, e, _, hc⟩ := ha
    cases e
    exact Lib.hid hc
  clear ha fa hfine hsl hss
  go_enter Try.func6, Try.ntmps6
  go_wp2_with fail
  refine (alive_any _).mono ?_
  rintro e w1 ⟨rfl, b1⟩
  have B1 := Lib.hid b1
  clear b1
  have f1 := few_any w1 (.slice aa A.length ca) A (HA.out.below B1.out)
  rw [decide_eq_true HF.out] at f1
  go_wp2_with fail
  refine f1.mono ?_
  rintro e w2 ⟨rfl, rfl⟩
  clear f1
  have hy1 := B1.out.size
  go_wp2_with fail
  go_loopw [5, 23] (fun v i wr => ∃ (j : Nat) (us : List Value), i = .int .i64 j ∧ j ≤ A.length ∧ CopU w.heap.size wr v (A.take j) us ∧ Below w.heap.size w wr) (fun _ i _ => A.length - (intOf i).toNat)
  case atStart => exact ⟨0, [], rfl, Nat.zero_le _, made_cop _ w1 hy1, B1.out.alloc hy1 _⟩
  case round =>
    obtain ⟨j, us, rfl, hj, hcop, hbw⟩ := hrel
    have hzw := hbw.size
    by_cases hlt : j < A.length
    · obtain ⟨a, u, rfl, hab, hca, hrow⟩ := HC.out j hlt
      have ck : wr.cell? (a.add j) = some u := (hbw.cell (p := a.add j) (by rw [add_block]; exact hab)).trans hca
      have htake : A.take (j + 1) = A.take j ++ [A.getD j []] := by
        rw [List.take_succ_eq_append_getElem hlt, List.getD_eq_getElem?_getD, List.getElem?_eq_getElem hlt]
        rfl
      have hxl : (A.getD j []).length ≤ 1000 := by
        rw [List.getD_eq_getElem?_getD, List.getElem?_eq_getElem hlt]
        exact HL.out _ (List.getElem_mem hlt)
      have hTl : (A.take j).length ≤ 20 := by simp; omega
      generalize A.getD j [] = x at *
      generalize A.take j = T at *
      obtain ⟨bo, cb, rfl, _, _, hbn, hbin, hbc⟩ := hrow
      have hnone : bo = none → x.length = 0 ∧ cb = 0 := fun e => by
        refine ⟨?_, hbn e⟩
        rcases Nat.eq_zero_or_pos x.length with h | h
        · exact h
        · obtain ⟨a, e2, _⟩ := hbc 0 h
          rw [e] at e2
          cases e2
      have hly : (IV x).length = x.length * 1 := by simp [IV]
      have hs2 := row_src (w' := wr.alloc (.cells #[] 3)) hbc (hbw.alloc hzw _)
      have hm2 := made_word wr
      have HT := Lib.hid htake
      have HI := Lib.hid hbin
      have HO := Lib.hid hcop
      have HB := Lib.hid hbw
      clear htake hbin hcop hbw hbc hbn hca
      go_wp2_with (first | (at_builtin; refine wpList_append_src rfl (.tmp 28) (.tmp 29) 22 rfl wr.heap.size 3 i0 (.int .i64 0) 1 8 Try.underlying22 hi hz0 hz1 hz2 rfl (by decide) _ 0 [] rfl hm2 bo x.length cb (IV x) rfl hly hnone hs2 (ints_oneCell .i64 _) (by unfold maxLen; omega) (by omega) (by simp) ?_; intro v3 w3 hown3 hg3; simp only [Nat.zero_add, List.nil_append] at hown3; have HO3 := Lib.hid (HO.out.far ((World.grownBy_alloc wr (.cells #[] 3) (some wr.heap.size)).trans hg3) (fun k e => by cases e; exact Nat.le_refl _)); have ha3 := away_own hown3 rfl HI.out hxl (out_lt HO.out.1); have HI3 := Lib.hid (own_i hown3 rfl HI.out hzw (out_lt HO.out.1)); obtain ⟨_, o3, c3, e3, _⟩ := id ha3; subst e3; have HA3 := Lib.hid ha3; clear ha3; have HB3 := Lib.hid ((HB.out.alloc hzw (.cells #[] 3)).grown hg3 (by simp; omega) (fun k e => by cases e; omega)); have hz3 := HB3.out.size; clear hown3 hg3 hm2 hs2) | (at_builtin; refine wpList_append_own_at _ rfl (.tmp 27) (.tmp 31) 29 rfl w.heap.size 22 i1 (.slice none 0 0) 1 24 Try.underlying29 ki kz0 kz1 kz2 rfl (by decide) _ T.length us rfl (HO3.out.1.1.alloc _) ⟨w3.heap.size, 0, none⟩ 1 1 [(.slice o3 x.length c3)] rfl rfl (cell_one_new _ _ _) (one_sl HA3.out) (by unfold maxLen; first | omega | (simp; omega)) (by first | omega | (simp; omega)) (by simp; omega) ?_; intro v4 w4 hown4 hg4 _ hat4) | fail)
      refine ⟨⟨j + 1, us ++ [.slice o3 x.length c3], by go_num, hlt, by rw [HT.out]; exact cop_more HO3.out HA3.out HI3.out hown4 hg4 hat4, (HB3.out.alloc hz3 _).grown hg4 (by simp; omega) (out_row HO3.out.1)⟩, by simp [intOf]; omega⟩
    · obtain rfl : j = A.length := by omega
      rw [List.take_length] at hcop
      have hwords := (out_words hcop.1).words
      obtain ⟨co, cc, rfl, hrows⟩ := rows_cop hcop
      obtain ⟨wa, rfl⟩ : ∃ wa : World, wa = wr := ⟨_, rfl⟩
      have c1 := of_x wa _ A hwords HN.out (by omega)
      have HB := Lib.hid hbw
      have HR := Lib.hid hrows
      clear hcop hwords hbw hrows
      go_wp2_with fail
      refine c1.mono ?_
      rintro e w3 ⟨s, mo, Ks, rfl, hX, hKl, b3⟩
      clear c1
      have HX := Lib.hid hX
      have HB3 := Lib.hid (HB.out.trans (b3.mono hzw))
      have HR3 := Lib.hid (HR.out.kp (Kp.of_below b3) (fun i h => h))
      clear hX hKl b3 hlt hj
      go_wp2_with fail
      go_loopw [38] (fun i wr => ∃ j : Nat, i = .int .i64 j ∧ j ≤ A.length ∧ RowsI w.heap.size wa.heap.size wr co (A.map List.length) ∧ Kp (fun i => w.heap.size ≤ i ∧ i < wa.heap.size) w3 wr) (fun i _ => A.length - (intOf i).toNat)
      case atStart => exact ⟨0, rfl, Nat.zero_le _, HR3.out, Kp.refl _ _⟩
      case round =>
        obtain ⟨j, rfl, hj, hR, hK⟩ := hrel
        by_cases hlt : j < A.length
        · obtain ⟨g, gi, ui, ci, rfl, hc, hr⟩ := rows_at hR j (by simpa using hlt)
          have hnl := len_at A HL.out j hlt
          have HQ := Lib.hid hR
          have HK := Lib.hid hK
          clear hR hK
          generalize (A.map List.length).getD j 0 = n at *
          have HR2 := Lib.hid hr
          clear hr
          go_wp2_with fail
          obtain ⟨wb, rfl⟩ : ∃ wb : World, wb = wr := ⟨_, rfl⟩
          go_loopw [44] (fun i wr => ∃ m : Nat, i = .int .i64 m ∧ m ≤ n ∧ (0 < n → IntB wr gi n) ∧ RowsI w.heap.size wa.heap.size wr (some ⟨g, 0, none⟩) (A.map List.length) ∧ Kp (fun i => w.heap.size ≤ i ∧ i < wa.heap.size) w3 wr) (fun i _ => n - (intOf i).toNat)
          case atStart => exact ⟨0, rfl, Nat.zero_le _, fun h => (HR2.out h).2.2.2.2, HQ.out, HK.out⟩
          case round =>
            obtain ⟨m, rfl, hm, hI, hR, hK⟩ := hrel
            clear hc
            by_cases hmn : m < n
            · have hI := hI (by omega)
              obtain ⟨rfl, hlo, hhi, hne, _⟩ := HR2.out (by omega)
              obtain ⟨x, hx, hin⟩ := hI.cell m hmn
              have hfz := hI.frozen m
              have HQ2 := Lib.hid hR
              have HK2 := Lib.hid hK
              have HI2 := Lib.hid hI
              clear hR hK hI
              go_wp2_with fail
              refine ⟨⟨m + 1, by go_num, hmn, fun _ => HI2.out.set_ gi m _ (in_xor _ _), HQ2.out.set_ gi m _ (in_xor _ _) (fun g' e => by cases e; exact fun e => hne e.symm), HK2.out.set_ (.inl ⟨hlo, hhi⟩) _⟩, by simp only [intOf]; omega⟩
            · obtain rfl : m = n := by omega
              have HQ2 := Lib.hid hR
              have HK2 := Lib.hid hK
              clear hR hK hI
              go_wp2_with fail
              refine ⟨⟨j + 1, by go_num, hlt, HQ2.out, HK2.out⟩, by simp only [intOf]; omega⟩
        · obtain rfl : j = A.length := by omega
          obtain ⟨wc, rfl⟩ : ∃ wc : World, wc = wr := ⟨_, rfl⟩
          have hset2 := HX.out.set.kept hK (fun h => by have := HX.out.lo; omega) (fun bm e h => by have := HX.out.mlo bm e; omega)
          have hX2 : SetX wa.heap.size wc s A mo Ks := ⟨hset2, HX.out.lo, HX.out.mlo, HX.out.keys, HX.out.few⟩
          have hb2 : Below w.heap.size w wc := HB3.out.trans (hK.below (fun i h => h.1) HB3.out.size)
          have c4 := all_x wc s mo Ks A (setW A) hX2 (setW_up A) (mem_setW A)
          have HX2 := Lib.hid hX2
          have HB4 := Lib.hid hb2
          clear hset2 hX2 hb2 hK hR hlt hj
          go_wp2_with fail
          refine c4.mono ?_
          rintro e w4 ⟨v, rfl, hall, _, b4⟩
          clear c4
          obtain ⟨vo, vc, rfl, hR4⟩ := rows_all hall (fun x hx => HN.out x ((mem_setW A x).1 hx))
          have HR4 := Lib.hid hR4
          have HB5 := Lib.hid b4
          clear hall hR4 b4
          go_wp2_with fail
          go_loopw [60] (fun i wr => ∃ j : Nat, i = .int .i64 j ∧ j ≤ (setW A).length ∧ RowsI wc.heap.size w4.heap.size wr vo ((setW A).map List.length) ∧ Kp (fun i => wc.heap.size ≤ i) w4 wr) (fun i _ => (setW A).length - (intOf i).toNat)
          case atStart => exact ⟨0, rfl, Nat.zero_le _, HR4.out, Kp.refl _ _⟩
          case round =>
            obtain ⟨j, rfl, hj, hR, hK⟩ := hrel
            by_cases hlt : j < (setW A).length
            · obtain ⟨g, gi, ui, ci, rfl, hc, hr⟩ := rows_at hR j (by simpa using hlt)
              have hnl := len_at (setW A) HM.out j hlt
              have HQ := Lib.hid hR
              have HK := Lib.hid hK
              clear hR hK
              generalize ((setW A).map List.length).getD j 0 = n at *
              have HR2 := Lib.hid hr
              clear hr
              go_wp2_with fail
              obtain ⟨wb, rfl⟩ : ∃ wb : World, wb = wr := ⟨_, rfl⟩
              go_loopw [66] (fun i wr => ∃ m : Nat, i = .int .i64 m ∧ m ≤ n ∧ (0 < n → IntB wr gi n) ∧ RowsI wc.heap.size w4.heap.size wr (some ⟨g, 0, none⟩) ((setW A).map List.length) ∧ Kp (fun i => wc.heap.size ≤ i) w4 wr) (fun i _ => n - (intOf i).toNat)
              case atStart => exact ⟨0, rfl, Nat.zero_le _, fun h => (HR2.out h).2.2.2.2, HQ.out, HK.out⟩
              case round =>
                obtain ⟨m, rfl, hm, hI, hR, hK⟩ := hrel
                clear hc
                by_cases hmn : m < n
                · have hI := hI (by omega)
                  obtain ⟨rfl, hlo, hhi, hne, _⟩ := HR2.out (by omega)
                  obtain ⟨x, hx, hin⟩ := hI.cell m hmn
                  have hfz := hI.frozen m
                  have HQ2 := Lib.hid hR
                  have HK2 := Lib.hid hK
                  have HI2 := Lib.hid hI
                  clear hR hK hI
                  go_wp2_with fail
                  refine ⟨⟨m + 1, by go_num, hmn, fun _ => HI2.out.set_ gi m _ hk, HQ2.out.set_ gi m _ hk (fun g' e => by cases e; exact fun e => hne e.symm), HK2.out.set_ (.inl hlo) _⟩, by simp only [intOf]; omega⟩
                · obtain rfl : m = n := by omega
                  have HQ2 := Lib.hid hR
                  have HK2 := Lib.hid hK
                  clear hR hK hI
                  go_wp2_with fail
                  refine ⟨⟨j + 1, by go_num, hlt, HQ2.out, HK2.out⟩, by simp only [intOf]; omega⟩
            · obtain rfl : j = (setW A).length := by omega
              obtain ⟨wd, rfl⟩ : ∃ wd : World, wd = wr := ⟨_, rfl⟩
              have hbd : Below wc.heap.size wc wd := HB5.out.trans (hK.below (fun i h => h) HB5.out.size)
              have HX3 := Lib.hid (HX2.out.below hbd)
              have HB6 := Lib.hid (HB4.out.trans (hbd.mono HB4.out.size))
              have c5 := of_x wd _ A ((HA.out.below HB6.out).words HF.out) HN.out (by omega)
              clear hbd hK hR hlt hj
              go_wp2_with fail
              refine c5.mono ?_
              rintro e w5 ⟨t, m5, K5, rfl, hX5, _, b5⟩
              clear c5
              have c6 := same_s w5 s t A A mo m5 Ks K5 (HX3.out.below b5) hX5
              rw [decide_eq_true rfl] at c6
              have HX4 := Lib.hid (HX3.out.below b5)
              have HB7 := Lib.hid (HB6.out.trans (b5.mono HB6.out.size))
              clear hX5 b5
              go_wp2_with fail
              refine c6.mono ?_
              rintro e w6 ⟨rfl, b6⟩
              clear c6
              have c7 := len_s w6 s A mo Ks (HX4.out.below b6)
              have HB8 := Lib.hid (HB7.out.trans (b6.mono HB7.out.size))
              clear b6
              go_wp2_with fail
              refine c7.mono ?_
              rintro e w7 ⟨rfl, rfl⟩
              clear c7
              go_wp2_with fail
              go_ret
              exact ⟨rfl, HB8.out⟩
end Go.Proofs.Ythcnffieoocnkaa.st

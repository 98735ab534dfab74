import Derived.Test.YtomikgkoegkofaaTrc
namespace Go.Proofs.Ytomikgkoegkofaa.dt
open Go.ChangeShapes Go.WideShapes Go.ChangeAt Go.RowKit Go.Maps Go.WideMaps Go.WideElems Go.Shelf Go.Proofs.Ytomikgkoegkofaa.dv
set_option linter.unusedVariables false
set_option linter.unusedSimpArgs false
attribute [local go_sem] Oper.semAt_some
/-! all: a tree, gone through -/
theorem info_place : (Try.prog.info? 108).map (fun i => (i.zero, i.size, i.bytes)) = some (some (.agg #[.pointer none, .int .i64 0]), 2, 16) := by kernel_rfl
set_option maxRecDepth 100000 in
set_option maxHeartbeats 4000000 in
theorem all1_any (l m₀ Bt b0 N : Nat) (J : Nat → List (Nat × Nat) → World → Prop) (Jx : World → Prop) (w : World) (hm : m₀ = w.heap.size)
    (hJ : ∀ k s, Abid m₀ (J k s)) (hJx : Abid m₀ Jx) (hb : ∀ k s W, J k s W → s.length ≤ 1000000 ∧ ∀ x ∈ s, x.2 ≤ 1000000)
    (hY : ∀ k b lv rest W1, J k ((b, lv) :: rest) W1 → ∃ k', k = k' + 1 ∧ YieldAt Fence.wide 2 Try.prog l #[PtrV b, .int .i64 (lv : Int)] W1 fun e W' =>
      (e = .returned (.bool true) ∧ (∃ kb, KidsAt W' b kb ∧ J k' (kb.map (fun c => (c, lv + 1)) ++ rest) W') ∧ KeepM m₀ W1 W') ∨ (e = .returned (.bool false) ∧ Jx W' ∧ KeepM m₀ W1 W'))
    (hBt : w.cell? ⟨Bt, 0, none⟩ = some (PtrV b0)) (h0 : J N [(b0, 1)] w) :
    CallsIn Fence.wide 3 Try.prog 79 #[.func (.yield l) #[] #[], .pointer (some ⟨Bt, 0, none⟩)] w fun e w' => (∃ v, e = .returned v) ∧ ((∃ k, J k [] w') ∨ Jx w') := by
  obtain ⟨i0, hi, hz0, hz1, hz2⟩ := info_parts info_place
  have HY := Lib.hid hY
  have HBD := Lib.hid hb
  have HAB := Lib.hid hJ
  have HAX := Lib.hid hJx
  have H0 := Lib.hid h0
  unfold PtrV at hBt
  clear hY hb hJ hJx h0
  refine callsIn_of_wp_marks Try.func79 rfl trivial ?_ rfl
  simp only [Try.ntmps79, List.size_toArray, List.length_cons, List.length_nil, Nat.reduceAdd, Nat.reduceSub, Array.replicate_succ, Array.replicate_zero, List.push_toArray, List.append_toArray, List.nil_append, List.cons_append]
  subst hm
  gi_wp2
  have hrow0 : ((w.alloc (.cells #[.pointer (some ⟨b0, 0, none⟩), .int .i64 1] 108)).alloc (.cells #[.slice (some ⟨w.heap.size, 0, none⟩) 1 1] 109)).ownsRow w.heap.size 108 2 (.slice (some ⟨w.heap.size, 0, none⟩) 1 1) 1 [PtrV b0, .int .i64 1] := by
    have := World.ownsRow_lit (base := w.heap.size) (e := 108) (size := 2) w #[PtrV b0, .int .i64 1] 1 (Nat.le_refl _) (by decide) rfl
    exact this.alloc _
  have hbox0 : Blk ((w.alloc (.cells #[.pointer (some ⟨b0, 0, none⟩), .int .i64 1] 108)).alloc (.cells #[.slice (some ⟨w.heap.size, 0, none⟩) 1 1] 109)) (w.heap.size + 1) 109 #[.slice (some ⟨w.heap.size, 0, none⟩) 1 1] := by
    have := Blk.new (w.alloc (.cells #[.pointer (some ⟨b0, 0, none⟩), .int .i64 1] 108)) 109 #[.slice (some ⟨w.heap.size, 0, none⟩) 1 1]
    rwa [World.size_alloc] at this
  have hts0 : TS w.heap.size (w.heap.size + 1) [] (J N [(b0, 1)]) [(b0, 1)] (.slice (some ⟨w.heap.size, 0, none⟩) 1 1) ((w.alloc (.cells #[.pointer (some ⟨b0, 0, none⟩), .int .i64 1] 108)).alloc (.cells #[.slice (some ⟨w.heap.size, 0, none⟩) 1 1] 109)) :=
    ⟨hbox0, by omega, hrow0, HAB.out _ _, HAB.out _ _ _ _ none (HAB.out _ _ _ _ none H0.out (World.grownBy_alloc w _ none) (fun r e => by cases e)) (World.grownBy_alloc _ _ none) (fun r e => by cases e), List.nodup_nil, fun D hD => by cases hD⟩
  have HT0 := Lib.hid hts0
  clear hrow0 hbox0 hts0 hBt
  obtain ⟨INV, hINV⟩ : ∃ I : Nat → Act → World → Prop, ∀ k a W, I k a W ↔ (∃ (ds : List Nat) (u4 u10 u11 u12 u13 u14 u15 u16 u17 u18 u19 u20 u21 u22 u23 u24 u25 u26 u27 u28 u29 u30 u31 u32 u33 u34 u35 u36 u37 u38 u39 : Value) (T : List (Nat × Nat)) (tv : Value), a = { tmps := #[.func (.yield l) #[] #[], .pointer (some ⟨Bt, 0, none⟩), undef, .pointer (some ⟨w.heap.size + 1, 0, none⟩), u4, undef, undef, .pointer (some ⟨b0, 0, none⟩), .agg #[.pointer (some ⟨b0, 0, none⟩), .int .i64 1], .slice (some ⟨w.heap.size, 0, none⟩) 1 1, u10, u11, u12, u13, u14, u15, u16, u17, u18, u19, u20, u21, u22, u23, u24, u25, u26, u27, u28, u29, u30, u31, u32, u33, u34, u35, u36, u37, u38, u39, undef, undef, undef, undef, undef, undef, undef, undef, undef, undef], defers := ds.map mkD } ∧ TS w.heap.size (w.heap.size + 1) ds (J k T.reverse) T tv W) := ⟨_, fun _ _ _ => Iff.rfl⟩
  have HIN := Lib.hid hINV
  clear hINV
  refine loop_by INV N ?_ ?_
  · refine (HIN.out _ _ _).2 ?_
    (repeat apply Exists.intro)
    exact ⟨(rfl : _ = Act.mk _ (List.map mkD [])), (show TS _ _ _ (J N (List.reverse [(b0, 1)])) [(b0, 1)] _ _ from HT0.out)⟩
  · intro k a W hinv
    obtain ⟨ds, u4, u10, u11, u12, u13, u14, u15, u16, u17, u18, u19, u20, u21, u22, u23, u24, u25, u26, u27, u28, u29, u30, u31, u32, u33, u34, u35, u36, u37, u38, u39, T, tv, rfl, hts⟩ := (HIN.out _ _ _).1 hinv
    have HTS := Lib.hid hts
    have q0 := hts.box.cell 0
    have f0 := hts.box.frozen 0
    simp only [List.getElem?_toArray, List.getElem?_cons_zero] at q0
    clear hinv hts
    rcases List.eq_nil_or_concat T with rfl | ⟨T0, x, hT⟩
    · have htv : tv = .slice none 0 0 ∨ ∃ g cap2, tv = .slice (some ⟨g, 0, none⟩) 0 cap2 := by
        rcases HTS.out.todo.2 with ⟨e, _⟩ | ⟨g, c, cur, e, _⟩
        · exact .inl e
        · exact .inr ⟨g, c, e⟩
      clear HT0 H0
      rcases htv with rfl | ⟨g, cap2, rfl⟩
      all_goals
        gi_wp2
        refine leaves_all (by intro h; cases h) w.heap.size (fun W' => ∃ k, J k [] W') (fun W' D o' hz h0 hD => by
          obtain ⟨k, hk⟩ := hz
          exact ⟨k, HAB.out _ _ _ _ (some D) hk (grownBy_putObj' W' D o') (fun r e => by cases e; exact ⟨h0, _, hD, trivial⟩)⟩) (fun W' hz => ?_) ds _ ⟨k, by simpa using HTS.out.jc⟩ HTS.out.marks
        exact ⟨_, results_none rfl _ _ _, ⟨_, rfl⟩, .inl hz⟩
    · rw [List.concat_eq_append] at hT
      subst hT
      have hlen : (T0 ++ [x]).length = T0.length + 1 := by simp
      have htd := HTS.out.todo
      rw [hlen] at htd
      obtain ⟨g, cap2, rfl, hgB, hgl⟩ := World.ownsRow.form htd (Nat.succ_pos _)
      obtain ⟨n, hn⟩ : ∃ n, n = T0.length := ⟨_, rfl⟩
      rw [← hn] at htd q0
      obtain ⟨hc1, hc2, hpop, hgW, hmx0, hcap⟩ := pc_last hn htd
      have hmx : n + 1 ≤ 9223372036854775807 := by unfold maxLen at hmx0; omega
      have hw0 : wrap64 (n : Int) = (n : Int) := by unfold wrap64; omega
      obtain ⟨b, lv⟩ := x
      have hjl := HBD.out _ _ _ HTS.out.jc
      have hlv : lv ≤ 1000000 := hjl.2 (b, lv) (by simp)
      have htsp := (HTS.out.alloc (.cells #[.pointer (some ⟨b, 0, none⟩), .int .i64 (lv : Int)] 108)).put (T2 := T0) (tv2 := .slice (some ⟨g, 0, none⟩) n cap2) (by rw [← hn]; exact hpop.alloc _)
      have hplp : Pl w.heap.size W.heap.size #[.pointer (some ⟨b, 0, none⟩), .int .i64 (lv : Int)] (.slice (some ⟨g, 0, none⟩) n cap2) ((W.alloc (.cells #[.pointer (some ⟨b, 0, none⟩), .int .i64 (lv : Int)] 108)).setCell ⟨w.heap.size + 1, 0, none⟩ (.slice (some ⟨g, 0, none⟩) n cap2)) := by
        refine ⟨HTS.out.le, (Blk.new W 108 _).far (p := ⟨w.heap.size + 1, 0, none⟩) ?_ _, ?_⟩
        · have := HTS.out.box.lt
          show W.heap.size ≠ w.heap.size + 1
          omega
        · simp only [Value.ownBlock, ne_eq, Option.some.injEq]
          omega
      have p0 := hplp.blk.cell 0
      have p1 := hplp.blk.cell 1
      simp only [List.getElem?_toArray, List.getElem?_cons_zero, List.getElem?_cons_succ] at p0 p1
      have HTP := Lib.hid htsp
      have HPL := Lib.hid hplp
      have hjr : (T0 ++ [(b, lv)]).reverse = (b, lv) :: T0.reverse := by simp
      have hj1 := htsp.jc
      rw [hjr] at hj1
      obtain ⟨k', hk', fn, tmps, assign, body, hy, hR⟩ := HY.out _ _ _ _ _ hj1
      have HKK := Lib.hid hk'
      have HN := Lib.hid hn
      have hnn : ((n + 1 : Nat) : Int) - 1 = (n : Int) := by omega
      have q0a : ∀ o, (W.alloc o).cell? ⟨w.heap.size + 1, 0, none⟩ = some (.slice (some ⟨g, 0, none⟩) (n + 1) cap2) := fun o => by
        have := (HTS.out.box.alloc o).cell 0
        simp only [List.getElem?_toArray, List.getElem?_cons_zero] at this
        rw [this, hn]
      have f0a : ∀ o, (W.alloc o).frozen? ⟨w.heap.size + 1, 0, none⟩ = false := fun o => (HTS.out.box.alloc o).frozen 0
      unfold PtrV at hc1 hy
      clear htsp hplp hjr hj1 hjl htd hpop HT0 H0 hk'
      clear hlen hn
      gi_wp2_with (first
        | (refine hR.mono ?_; clear hR; rintro e W2 (⟨rfl, ⟨kb, hkb, hj2⟩, hkm⟩ | ⟨rfl, hjx, hkm⟩); have hts2 := HTP.out.turn hkm (HAB.out _ _) hj2; have hpl2 : Pl w.heap.size W.heap.size #[.pointer (some ⟨b, 0, none⟩), .int .i64 (lv : Int)] (.slice (some ⟨g, 0, none⟩) n cap2) W2 := ⟨HPL.out.bB, hkm.2 _ _ HPL.out.bB HPL.out.blk (.inr (.inl rfl)), HPL.out.ap⟩; obtain ⟨sy, ru, v, hnb, hkr⟩ := hkb; obtain ⟨ao, kc, rfl, _⟩ := kids_row (Bs := 0) hkr; have r0 := hpl2.blk.cell 0; have r1 := hpl2.blk.cell 1; have r2 := hnb.cell 2; simp only [List.getElem?_toArray, List.getElem?_cons_zero, List.getElem?_cons_succ] at r0 r1 r2; have HT2 := Lib.hid hts2; have HP2 := Lib.hid hpl2; have HKR := Lib.hid hkr; clear hts2 hpl2 hkr hnb hj2 hkm p0 p1)
        | (refine ⟨trivial, ?_⟩; gi_at_call 80; refine (backn_in _ _ trivial rfl _ _ _ _).mono ?_; rintro e w5 ⟨rfl, rfl⟩))
      · have hq1 : (1 : Nat) ≤ 3 := by decide
        have hq2 : (1 : Nat) ≤ 3 - 1 := by decide
        have hbV := Blk.new W2 63 #[.slice ao kb.length kc]
        have hTV := HT2.out.alloc (.cells #[.slice ao kb.length kc] 63)
        have hPV := HP2.out.alloc (.cells #[.slice ao kb.length kc] 63)
        have hkV := HKR.out.alloc (.cells #[.slice ao kb.length kc] 63)
        have hjl2 := (HBD.out _ _ _ HT2.out.jc).1
        have hkbl : kb.length ≤ 1000000 := by simp only [List.length_append, List.length_map] at hjl2; omega
        obtain ⟨ao', kc', he', hRN⟩ := kids_row (Bs := W2.heap.size) hkV
        cases he'
        have hdsl : ∀ D ∈ ds, D < W2.heap.size := fun D hD => (Array.getElem?_eq_some_iff.1 (HT2.out.marks.2 D hD).2).1
        have hpbl : W.heap.size < W2.heap.size := HP2.out.blk.lt
        refine wpIn_rangeFunc_ownG (F := Fence.wide) rfl hq1 (gf := 88) (lb := #[.pointer (some ⟨W2.heap.size, 0, none⟩)]) rfl trivial (enters_of Try.func88 (by kernel_rfl) rfl)
          (backn_stops Fence.wide _ trivial rfl hq2 W2.heap.size kc (Sk W2.heap.size (.slice ao kb.length kc)) (.inl rfl) ao kb hkbl _ hbV hRN) (fun h k => h.trans k) (fun W l o o' hl h hc hw => keepc_b W l o o' h hc) (Below.refl _ _) (fun _ => rfl)
          (fun pre U => (∃ tvx, TS w.heap.size (w.heap.size + 1) ds (J k' (List.map (fun c => (c, lv + 1)) kb ++ T0.reverse)) (T0 ++ pre.map (fun x => (x.2, lv + 1))) tvx U ∧ Pl w.heap.size W.heap.size #[.pointer (some ⟨b, 0, none⟩), .int .i64 (lv : Int)] tvx U) ∧ Blk U W2.heap.size 63 #[.slice ao kb.length kc] ∧ U.ownsRow 0 53 1 (.slice ao kb.length kc) kb.length (PV kb))
          (fun _ _ _ => False)
          (fun pre A B row hs hg hr => by
            obtain ⟨⟨tvx, h1, h2⟩, h3, h4⟩ := hs
            have hc := fun r e => (hr r e).2
            refine ⟨⟨tvx, h1.grownC hg (fun r e => ?_), h2.grown hg (nc_ne h2.blk hc)⟩, h3.grownC hg hc, own_grown h4 hg (row_noncells h4 hc)⟩
            obtain ⟨g1, g2⟩ := hr r e
            rw [World.size_alloc] at g1
            exact ⟨by have := HT2.out.le; omega, fun D hD => by have := hdsl D hD; omega, g2⟩)
          (fun _ _ _ _ _ hs _ _ => hs)
          ⟨⟨_, by simpa using hTV, hPV⟩, hbV, hkV⟩
          (fun x => { tmps := #[.func (.yield l) #[] #[], .pointer (some ⟨Bt, 0, none⟩), undef, .pointer (some ⟨w.heap.size + 1, 0, none⟩), .pointer (some ⟨W.heap.size, 0, none⟩), undef, PtrV x.2, .pointer (some ⟨b0, 0, none⟩), .agg #[.pointer (some ⟨b0, 0, none⟩), .int .i64 1], .slice (some ⟨w.heap.size, 0, none⟩) 1 1, .slice (some ⟨g, 0, none⟩) (n + 1) cap2, .int .i64 (↑n + 1), .bool true, .slice (some ⟨g, 0, none⟩) (n + 1) cap2, .slice (some ⟨g, 0, none⟩) (n + 1) cap2, .int .i64 (↑n + 1), .int .i64 ↑n, .pointer (some ⟨g, n * 2, none⟩), .agg #[.pointer (some ⟨b, 0, none⟩), .int .i64 ↑lv], .slice (some ⟨g, 0, none⟩) (n + 1) cap2, .slice (some ⟨g, 0, none⟩) (n + 1) cap2, .int .i64 (↑n + 1), .int .i64 ↑n, .slice (some ⟨g, 0, none⟩) n cap2, .pointer (some ⟨W.heap.size, 0, none⟩), .pointer (some ⟨b, 0, none⟩), .bool false, .func (.yield l) #[] #[], .pointer (some ⟨W.heap.size, 0, none⟩), .pointer (some ⟨b, 0, none⟩), .pointer (some ⟨W.heap.size, 1, none⟩), .int .i64 ↑lv, .bool true, .bool false, .pointer (some ⟨W.heap.size, 0, none⟩), .pointer (some ⟨b, 0, none⟩), .pointer (some ⟨b, 0, none⟩), .pointer (some ⟨b, 2, none⟩), .slice ao kb.length kc, .func (.func 88) #[] #[.pointer (some ⟨W2.heap.size, 0, none⟩)], .int .i64 (x.1 : Int), PtrV x.2, undef, undef, undef, undef, undef, undef, undef, undef], defers := [] }) ?assign ?body ?done ?stop
        case assign =>
          intro l x U K hK
          gi_wp2
          exact hK
        case body =>
          rintro l2 pre x U ⟨⟨tvx, hTu, hPu⟩, hBu, hKu⟩ hlt
          have c0 := hTu.box.cell 0
          have c1 := hPu.blk.cell 1
          simp only [List.getElem?_toArray, List.getElem?_cons_zero, List.getElem?_cons_succ] at c0 c1
          generalize hL : T0 ++ pre.map (fun x => (x.2, lv + 1)) = L at *
          have hplen : L.length ≤ 2000002 := by
            rw [← hL, List.length_append, List.length_map]
            simp only [List.length_append, List.length_map, List.length_reverse] at hjl2
            omega
          have HNW := Lib.hid (two_new U 108 (.pointer (some ⟨x.2, 0, none⟩)) (.int .i64 ((lv : Int) + 1)))
          have HTA := Lib.hid (hTu.alloc (.cells #[.pointer (some ⟨x.2, 0, none⟩), .int .i64 ((lv : Int) + 1)] 108))
          have hlv1 : wrap64 ((lv : Int) + 1) = (lv : Int) + 1 := by unfold wrap64; omega
          have HTU := Lib.hid hTu
          have HPU := Lib.hid hPu
          have HBU := Lib.hid hBu
          have HKU := Lib.hid hKu
          clear hTu hPu hBu hKu
          unfold PtrV
          gi_wp2_with (gi_at_builtin; refine wpListIn_append_own_at _ rfl _ _ 109 rfl w.heap.size 108 i0 (.agg #[.pointer none, .int .i64 0]) 2 16 Try.underlying109 hi hz0 hz1 hz2 rfl (by decide) tvx L.length (PC L) rfl HTA.out.todo _ 1 1 [.pointer (some ⟨x.2, 0, none⟩), .int .i64 ((lv : Int) + 1)] rfl rfl HNW.out (by simp [Value.oneCell']) (by unfold maxLen; omega) (by omega) HTA.out.le ?_; intro tv9 W9 hown9 hgrow9 hnil9 hat9; obtain ⟨g9, cap9, e9, _, _⟩ := World.ownsRow.form hown9 (Nat.succ_pos _); subst e9; have b9 := HTA.out.box.grown hgrow9 (HTA.out.box.not_row (by decide) HTA.out.todo); have c9 := b9.cell 0; have f9 := b9.frozen 0; simp only [List.getElem?_toArray, List.getElem?_cons_zero] at c9)
          have htbW : w.heap.size + 1 < W.heap.size := HTS.out.box.lt
          have e1 : ((lv + 1 : Nat) : Int) = (lv : Int) + 1 := by omega
          have hpush := TS.push (x := (x.2, lv + 1)) HTA.out (show W9.ownsRow w.heap.size 108 2 (.slice (some ⟨g9, 0, none⟩) (L.length + 1) cap9) (L.length + 1) (PC L ++ [PtrV x.2, .int .i64 ((lv + 1 : Nat) : Int)]) from by rw [e1]; exact hown9) hgrow9
          have hob := row_obj HTA.out.todo
          have hgs := grown_set W9 ⟨w.heap.size + 1, 0, none⟩ (.slice (some ⟨g9, 0, none⟩) (L.length + 1) cap9)
          have hB1 := HBU.out.alloc (.cells #[.pointer (some ⟨x.2, 0, none⟩), .int .i64 ((lv : Int) + 1)] 108)
          have hK1 := HKU.out.alloc (.cells #[.pointer (some ⟨x.2, 0, none⟩), .int .i64 ((lv : Int) + 1)] 108)
          have hP1 := HPU.out.alloc (.cells #[.pointer (some ⟨x.2, 0, none⟩), .int .i64 ((lv : Int) + 1)] 108)
          have hB2 := hB1.grown hgrow9 (hB1.not_row (by decide) HTA.out.todo)
          have hK2 := own_grown hK1 hgrow9 (row_other hK1 HTA.out.todo (by decide))
          have hP2 := hP1.grown hgrow9 (Ne.symm hP1.ap)
          have hB3 := hB2.far (p := ⟨w.heap.size + 1, 0, none⟩) (by show W2.heap.size ≠ w.heap.size + 1; omega) (.slice (some ⟨g9, 0, none⟩) (L.length + 1) cap9)
          have hK3 := own_grown hK2 hgs (.inr (b9.not_row (by decide) hK2).symm)
          have hP3 := hP2.blk.far (p := ⟨w.heap.size + 1, 0, none⟩) (by show W.heap.size ≠ w.heap.size + 1; omega) (.slice (some ⟨g9, 0, none⟩) (L.length + 1) cap9)
          refine ⟨(((KeepsOthers.alloc U _).trans (KeepsOthers.of_grownBy hgrow9 fun j o ej hj => ?_)).trans (KeepsOthers.setCell _ _ _)).from _,
            ((keepc_grown (World.grownBy_alloc U _ none) (fun k _ e => by cases e)).trans (keepc_grown hgrow9 (sk_ne hB1 hK1 fun r e => ?_))).trans (keepc_grown hgs (sk_ne hB2 hK2 fun r e => ?_)), ⟨.slice (some ⟨g9, 0, none⟩) (L.length + 1) cap9, ?_, ⟨HPU.out.bB, hP3, ?_⟩⟩, hB3, hK3⟩
          · obtain ⟨_, cs, fz, ho2⟩ := hob j ej
            rw [ho2] at hj
            cases hj
            rfl
          · obtain ⟨_, cs, fz, ho2⟩ := hob r e
            exact ⟨cs, _, fz, ho2, by decide, by decide⟩
          · cases e
            exact ⟨_, _, _, b9, by decide, by decide⟩
          · have e2 : T0 ++ (pre ++ [x]).map (fun x => (x.2, lv + 1)) = L ++ [(x.2, lv + 1)] := by rw [← hL]; simp
            rw [e2]
            exact hpush
          · rcases hat9 with e | e
            · rw [e]
              exact hP1.ap
            · have := HPU.out.blk.lt
              simp only [Value.ownBlock, World.size_alloc, Option.some.injEq] at e
              simp only [Value.ownBlock, ne_eq, Option.some.injEq]
              omega
        case done =>
          rintro D ys U hD rfl ⟨⟨tvx, hTu, hPu⟩, _, _⟩ hK
          rw [World.size_alloc] at hD
          have hrev : (T0 ++ (upto (bkn kb) kb.length).map (fun x => (x.2, lv + 1))).reverse = kb.map (fun c => (c, lv + 1)) ++ T0.reverse := by
            have : (upto (bkn kb) kb.length).map (fun x => (x.2, lv + 1)) = (kb.reverse).map (fun c => (c, lv + 1)) := by
              rw [← upto_bkn, List.map_map]
              rfl
            rw [this]
            simp
          refine ⟨k', HKK.out, (HIN.out _ _ _).2 ?_⟩
          (repeat apply Exists.intro)
          refine ⟨(rfl : _ = Act.mk _ (List.map mkD (D :: ds))), (show TS _ _ (D :: ds) (J k' (List.reverse (T0 ++ (upto (bkn kb) kb.length).map (fun x => (x.2, lv + 1))))) (T0 ++ (upto (bkn kb) kb.length).map (fun x => (x.2, lv + 1))) tvx U from ?_)⟩
          rw [hrev]
          refine ⟨hTu.box, hTu.bB, hTu.todo, hTu.ab, hTu.jc, List.nodup_cons.2 ⟨fun h => by have := hdsl D h; omega, hTu.marks.1⟩, fun E hE => ?_⟩
          rcases List.mem_cons.1 hE with rfl | hE
          · exact ⟨by have := HT2.out.le; omega, hK⟩
          · exact hTu.marks.2 E hE
        case stop =>
          rintro D c pre U _ _ h _
          exact h.elim
      · refine leaves_all (by intro h; cases h) w.heap.size Jx (fun W' D o' hz h0 hD => HAX.out _ _ (some D) hz (grownBy_putObj' W' D o') (fun r e => by cases e; exact ⟨h0, _, hD, trivial⟩)) (fun W' hz => ?_) ds _ hjx (HTP.out.turn hkm HAX.out hjx).marks
        exact ⟨_, results_none rfl _ _ _, ⟨_, rfl⟩, .inr hz⟩
end Go.Proofs.Ytomikgkoegkofaa.dt

import Derived.Test.YtomikgkoegkofaaGreatDoorUse
import Derived.Test.YtomikgkoegkofaaGreatDoorUsf
namespace Go.Proofs.YtomikgkoegkofaaGreatDoor.dv
open Go.ChangeShapes Go.WideShapes Go.ChangeAt Go.RowKit Go.Maps Go.WideMaps Go.WideElems
set_option linter.unusedVariables false
set_option linter.unusedSimpArgs false
/-! markAll, Useful -/
def mrk (S : List Bool) (s : Int) : List Bool := if 0 ≤ s then S.set s.toNat true else S
def mrks (S : List Bool) (F : List Int) : List Bool := F.foldl mrk S
theorem mrk_len (S : List Bool) (s : Int) : (mrk S s).length = S.length := by unfold mrk; split <;> simp
theorem mrks_len : ∀ (F : List Int) (S : List Bool), (mrks S F).length = S.length
  | [], S => rfl
  | s :: F, S => by
    show (mrks (mrk S s) F).length = _
    rw [mrks_len F, mrk_len]
theorem mrks_snoc (S : List Bool) (F : List Int) (j : Nat) (h : j < F.length) : mrks S (F.take (j + 1)) = mrk (mrks S (F.take j)) (F.getD j 0) := by
  unfold mrks
  rw [List.take_succ_eq_append_getElem h, List.foldl_append, List.getD_eq_getElem?_getD, List.getElem?_eq_getElem h]
  rfl
theorem isTerm_not (w : World) (x : Int) : Calls Tryz.prog 40 #[.int .i64 x] w fun e w' => e = .returned (.bool (decide (x < 0))) ∧ w' = w := isTerm_any w x
set_option maxRecDepth 100000 in
set_option maxHeartbeats 2000000 in
theorem markAll_any (w : World) (B m : Nat) (v fv : Value) (S : List Bool) (F : List Int) (h : MarksAt w B m v S) (hF : RowAt w fv F) (hm : ∀ (ao : Option Addr) (cp : Nat), fv = .slice ao F.length cp → ∀ a : Addr, ao = some a → 0 < F.length → a.block ≠ m) (hr : ∀ s ∈ F, 0 ≤ s → s.toNat < S.length) :
    Calls Tryz.prog 43 #[v, fv] w fun e w' => ∃ b, e = .returned (.bool b) ∧ MarksAt w' B m v (mrks S F) ∧ w.grownBy w' (some m) ∧ (b = false → mrks S F = S ∧ ∀ s ∈ F, 0 ≤ s → at_ S s = true) ∧ (b = true → cnt S < cnt (mrks S F)) := by
  obtain ⟨ao, cp, rfl, hl, hmx, hn, hin, hc⟩ := hF
  have hlen : F.length ≤ 9223372036854775807 := by unfold maxLen at hmx; omega
  have HC := Lib.hid hc
  have HM := Lib.hid (fun a ha => hm ao cp rfl a ha)
  have HR := Lib.hid hr
  have H := Lib.hid h
  obtain ⟨⟨cap, rfl⟩, _⟩ := h
  clear hc hm hr hin
  go_enter Tryz.func43, Tryz.ntmps43
  go_wp2
  go_loopw [5, 10] (fun more q wr => ∃ (j : Nat) (b : Bool), j ≤ F.length ∧ q = .int .i64 j ∧ more = .bool b ∧ MarksAt wr B m (.slice (some ⟨m, 0, none⟩) S.length cap) (mrks S (F.take j)) ∧ w.grownBy wr (some m) ∧ (b = false → mrks S (F.take j) = S ∧ ∀ s ∈ F.take j, 0 ≤ s → at_ S s = true) ∧ (b = true → cnt S < cnt (mrks S (F.take j)))) (fun _ q _ => F.length - (intOf q).toNat)
  case atStart => exact ⟨0, false, Nat.zero_le _, rfl, rfl, H.out, World.grownBy.refl _ _, fun _ => ⟨rfl, fun s hs => by simp at hs⟩, fun h => (by cases h)⟩
  case round =>
    obtain ⟨j, b, hj, rfl, rfl, hmk, hgr, hb1, hb2⟩ := hrel
    have HB1 := Lib.hid hb1
    have HB2 := Lib.hid hb2
    have HMK := Lib.hid hmk
    clear hb1 hb2 hmk
    by_cases hlt : j < F.length
    · obtain ⟨a, rfl, hab, hca⟩ := HC.out j hlt
      have hca2 : wr.cell? (a.add j) = some (.int .i64 (F.getD j 0)) := (World.cell?_of_block (hgr.block _ (by rw [add_block]; exact hab) (by rw [add_block]; intro e; exact HM.out a rfl (by omega) (Option.some.inj e)))).trans hca
      have HSN := Lib.hid (mrks_snoc S F j hlt)
      have hmem : F.getD j 0 ∈ F := by rw [List.getD_eq_getElem?_getD, List.getElem?_eq_getElem hlt]; simp
      have HRJ := Lib.hid (HR.out _ hmem)
      have HTK : Hid (∀ s ∈ F.take (j + 1), s ∈ F.take j ∨ s = F.getD j 0) := Lib.hid (fun s hs => by
        rw [List.take_succ_eq_append_getElem hlt] at hs
        rcases List.mem_append.1 hs with h | h
        · exact .inl h
        · right
          rw [List.mem_singleton.1 h, List.getD_eq_getElem?_getD, List.getElem?_eq_getElem hlt]
          rfl)
      have HLEN := Lib.hid (mrks_len (F.take j) S)
      have HGE : Hid (le S (mrks S (F.take j)) ∨ True) := Lib.hid (.inr trivial)
      clear hca hmem
      generalize F.getD j 0 = x at *
      have ht := isTerm_not wr x
      by_cases h0 : x < 0
      · rw [decide_eq_true h0] at ht
        have hx : mrk (mrks S (F.take j)) x = mrks S (F.take j) := by unfold mrk; rw [if_neg (by omega)]
        have HX := Lib.hid hx
        clear hx
        go_wp2_with fail
        refine ht.mono ?_
        rintro e w2 ⟨rfl, rfl⟩
        go_wp2
        refine ⟨⟨j + 1, b, hlt, congrArg (Value.int .i64) (by omega), rfl, ?_, hgr, fun h => ?_, fun h => ?_⟩, by simp only [intOf]; omega⟩
        · rw [HSN.out, HX.out]; exact HMK.out
        · rw [HSN.out, HX.out]
          obtain ⟨e1, e2⟩ := HB1.out h
          exact ⟨e1, fun s hs hs0 => by
            rcases HTK.out s hs with h' | h'
            · exact e2 s h' hs0
            · omega⟩
        · rw [HSN.out, HX.out]; exact HB2.out h
      · rw [decide_eq_false h0] at ht
        obtain ⟨k, rfl⟩ : ∃ k : Nat, x = k := ⟨x.toNat, by omega⟩
        have hkS : k < (mrks S (F.take j)).length := by rw [HLEN.out]; exact HRJ.out (by omega)
        have hx : mrk (mrks S (F.take j)) (k : Int) = (mrks S (F.take j)).set k true := by unfold mrk; rw [if_pos (by omega)]; rfl
        have HX := Lib.hid hx
        have hmark := mark_any wr B m _ _ k hkS HMK.out
        clear hx
        generalize hM : mrks S (F.take j) = M at *
        go_wp2_with fail
        refine ht.mono ?_
        rintro e w2 ⟨rfl, rfl⟩
        go_wp2_with fail
        refine hmark.mono ?_
        rintro e w3 ⟨rfl, hmk3, hg3⟩
        cases ha : at_ M (k : Int)
        · go_wp2
          refine ⟨⟨j + 1, true, hlt, congrArg (Value.int .i64) (by omega), rfl, ?_, hgr.trans hg3, fun h => (by cases h), fun _ => ?_⟩, by simp only [intOf]; omega⟩
          · rw [HSN.out, HX.out]; exact hmk3
          · rw [HSN.out, HX.out]
            have h1 := cnt_set M k hkS ha
            cases b
            · have := (HB1.out rfl).1
              rw [this] at h1 ⊢
              omega
            · have := HB2.out rfl
              omega
        · have hss : M.set k true = M := set_same M k ha
          rw [hss] at hmk3
          go_wp2
          refine ⟨⟨j + 1, b, hlt, congrArg (Value.int .i64) (by omega), rfl, ?_, hgr.trans hg3, fun h => ?_, fun h => ?_⟩, by simp only [intOf]; omega⟩
          · rw [HSN.out, HX.out, hss]; exact hmk3
          · rw [HSN.out, HX.out, hss]
            obtain ⟨e1, e2⟩ := HB1.out h
            exact ⟨e1, fun s hs hs0 => by
              rcases HTK.out s hs with h' | h'
              · exact e2 s h' hs0
              · rw [h', ← e1]; exact ha⟩
          · rw [HSN.out, HX.out, hss]; exact HB2.out h
    · obtain rfl : j = F.length := by omega
      have h1 := HMK.out
      have h2 := HB1.out
      have h3 := HB2.out
      rw [List.take_length] at h1 h2 h3
      have H1 := Lib.hid h1
      have H2 := Lib.hid h2
      have H3 := Lib.hid h3
      clear h1 h2 h3
      go_wp2
      go_ret
      exact ⟨b, rfl, H1.out, hgr, H2.out, H3.out⟩
theorem mrks_ge : ∀ (F : List Int) (S : List Bool), le S (mrks S F)
  | [], S => le.refl _
  | s :: F, S => by
    refine le.trans ?_ (mrks_ge F (mrk S s))
    unfold mrk
    split
    · exact fun v hv => (set_at _ _ _).2 (.inl hv)
    · exact le.refl _
theorem mrks_le {X : List Bool} : ∀ (F : List Int) (S : List Bool), le S X → (∀ s ∈ F, 0 ≤ s → at_ X s = true) → le (mrks S F) X
  | [], S, h, _ => h
  | s :: F, S, h, hF => by
    refine mrks_le F (mrk S s) ?_ (fun t ht => hF t (List.mem_cons_of_mem _ ht))
    unfold mrk
    split
    · rename_i h0
      intro v hv
      rcases (set_at _ _ _).1 hv with h1 | ⟨rfl, _⟩
      · exact h v h1
      · exact hF s (by simp) h0
    · exact h
def SatU (R : List Rl) (Wd S : List Bool) (i : Nat) : Prop := ∀ r, R[i]? = some r → at_ S r.left = true → allB Wd false r.right = true → ∀ s ∈ r.right, 0 ≤ s → at_ S s = true
def LeastU (R : List Rl) (Wd S0 : List Bool) (n : Nat) (S : List Bool) : Prop := le S0 S ∧ ∀ X : List Bool, X.length = n → ClosedU R Wd X → le S0 X → le S X
def StU (n B m bx wb wm : Nat) (Wd : List Bool) (P : List Bool → Prop) (S : List Bool) (W : World) : Prop := StB n B m bx P S W ∧ wb < W.heap.size ∧ wb ≠ m ∧ wm ≠ m ∧ ∃ wv, W.heap[wb]? = some (.cells #[wv] 34 (0, 0)) ∧ MarksAt W B wm wv Wd
theorem stU_alloc {n B m bx wb wm : Nat} {Wd : List Bool} {P : List Bool → Prop} {S : List Bool} {W : World} (o : Obj) (h : StU n B m bx wb wm Wd P S W) : StU n B m bx wb wm Wd P S (W.alloc o) := by
  obtain ⟨h1, h2, h3, h4, wv, h5, h6⟩ := h
  exact ⟨stB_alloc o h1, by rw [World.size_alloc]; omega, h3, h4, wv, (Below.heap_alloc W o wb h2).trans h5, marks_alloc h6 o⟩
theorem stU_below {n B m bx wb wm : Nat} {Wd : List Bool} {P : List Bool → Prop} {S : List Bool} {W W' : World} (h : StU n B m bx wb wm Wd P S W) (hb : Below W.heap.size W W') : StU n B m bx wb wm Wd P S W' := by
  obtain ⟨h1, h2, h3, h4, wv, h5, h6⟩ := h
  exact ⟨stB_below h1 hb, Nat.lt_of_lt_of_le h2 hb.size, h3, h4, wv, (hb.block wb h2).trans h5, marks_below h6 hb⟩
theorem goes_use1 : Goes 42 := fun args w => enters_of Tryz.func42 (by kernel_rfl) rfl args w
set_option maxRecDepth 100000 in
set_option maxHeartbeats 2000000 in
theorem use1_step (R : List Rl) (n B m bx wb wm B0 : Nat) (Wd S0 : List Bool) (w : World) (hB0 : B0 ≤ m) (hl : ∀ r ∈ R, 0 ≤ r.left ∧ r.left < n) (hv : ∀ r ∈ R, ∀ s ∈ r.right, 0 ≤ s → s.toNat < n) : StepOf R 42 #[.pointer (some ⟨bx, 0, none⟩), .pointer (some ⟨wb, 0, none⟩)] m (StU n B m bx wb wm Wd (LeastU R Wd S0 n)) (fun S => n - cnt S) (SatU R Wd) B0 w := by
  intro S i r ao cp W hbw hSt hrk hrow hu
  obtain ⟨⟨hn, hP, hbx, hne, v, hbox, hmk⟩, hwb, hwne, hwm, wv, hwbox, hwmk⟩ := hSt
  obtain ⟨hl0, hl1⟩ := hl r (List.mem_of_getElem? hrk)
  have hvr := hv r (List.mem_of_getElem? hrk)
  obtain ⟨lf, rt, wt⟩ := r
  dsimp only at hl0 hl1 hvr hrow hu
  obtain ⟨k, rfl⟩ : ∃ k : Nat, lf = k := ⟨lf.toNat, by omega⟩
  have hA : Below W.heap.size W (W.alloc (.cells #[.int .i64 k, .slice ao rt.length cp, .float .f64 wt] 44)) := (Below.refl _ W).alloc (Nat.le_refl _) _
  have b0 := Blk.new W 44 #[.int .i64 k, .slice ao rt.length cp, .float .f64 wt]
  have hbx2 : Blk W bx 34 #[v] := hbox
  have hwb2 : Blk W wb 34 #[wv] := hwbox
  have hbec := becomes_any (W.alloc (.cells #[.int .i64 k, .slice ao rt.length cp, .float .f64 wt] 44)) ⟨k, rt, wt⟩ ao cp wv Wd (hrow.below hA) (hwmk.read.below hA)
  have c0 := b0.cell 0
  have c1 := b0.cell 1
  have c2 := b0.cell 2
  have c4 := hbx2.cell 0
  have c5 := hwb2.cell 0
  simp only [List.getElem?_toArray, List.getElem?_cons_zero, List.getElem?_cons_succ] at c0 c1 c2 c4 c5
  have HMK := Lib.hid hmk
  have HWMK := Lib.hid hwmk
  obtain ⟨⟨vc, rfl⟩, hown⟩ := hmk
  obtain ⟨⟨wc, rfl⟩, _⟩ := hwmk
  have hkS : k < S.length := by omega
  have hcell := hown.cellAt k (by omega)
  have hcw : W.cell? ⟨m, k, none⟩ = some (.bool (at_ S k)) := by
    rw [hcell]
    simp [BV, at_, List.getD_eq_getElem?_getD, List.getElem?_eq_getElem hkS]
  have hmlt := marks_lt HMK.out
  have hcwa : ∀ o, (W.alloc o).cell? ⟨m, k, none⟩ = some (.bool (at_ S k)) := fun o => (World.cell?_alloc_lt W o ⟨m, k, none⟩ hmlt).trans hcw
  have HN := Lib.hid hn
  have HP := Lib.hid hP
  have HB := Lib.hid hbox
  have HWB := Lib.hid hwbox
  have HROW := Lib.hid hrow
  have HU := Lib.hid hu
  have HVR := Lib.hid hvr
  have hsatF : (at_ S k = true → allB Wd false rt = true → ∀ s ∈ rt, 0 ≤ s → at_ S s = true) → Hid (SatU R Wd S i) := fun h => Lib.hid (fun q hq h1 h2 s hs h0 => by
    rw [hrk] at hq
    cases hq
    exact h h1 h2 s hs h0)
  have HSATF := Lib.hid hsatF
  have HMEM := Lib.hid (List.mem_of_getElem? hrk)
  unfold RlV at hbec ⊢
  clear hP hbox hbx2 hwbox hwb2 hown hcell hn hrow hu hvr hsatF
  have hkl : (k : Int) < (S.length : Int) := by omega
  cases ha : at_ S (k : Int)
  · rw [ha] at hcw hcwa
    have HSAT := HSATF.out (fun h => by rw [ha] at h; cases h)
    clear hbec
    go_enter Tryz.func42, Tryz.ntmps42
    go_wp2
    go_ret
    exact ⟨grown_below hA _, .inr ⟨rfl, stU_below ⟨⟨HN.out, HP.out, hbx, hne, _, HB.out, HMK.out⟩, hwb, hwne, hwm, _, HWB.out, HWMK.out⟩ hA, HSAT.out⟩⟩
  · rw [ha] at hcw hcwa
    cases hb : allB Wd false rt
    · have HSAT := HSATF.out (fun _ h => by rw [hb] at h; cases h)
      dsimp only at hbec
      rw [hb] at hbec
      go_enter Tryz.func42, Tryz.ntmps42
      go_wp2_with fail
      refine hbec.mono ?_
      rintro e w2 ⟨rfl, hb2⟩
      have hW := hA.trans (hb2.mono (by simp))
      go_wp2
      go_ret
      exact ⟨grown_below hW _, .inr ⟨rfl, stU_below ⟨⟨HN.out, HP.out, hbx, hne, _, HB.out, HMK.out⟩, hwb, hwne, hwm, _, HWB.out, HWMK.out⟩ hW, HSAT.out⟩⟩
    · dsimp only at hbec
      rw [hb] at hbec
      have HA2 := Lib.hid ha
      have HB3 := Lib.hid hb
      go_enter Tryz.func42, Tryz.ntmps42
      go_wp2_with fail
      refine hbec.mono ?_
      rintro e w2 ⟨rfl, hb2⟩
      have hW := hA.trans (hb2.mono (by simp))
      have b2 := b0.below hb2 (by simp)
      have d0 := b2.cell 0
      have d1 := b2.cell 1
      have d2 := b2.cell 2
      have d3 := ((show Blk W bx 34 #[_] from HB.out).below hW hbx).cell 0
      simp only [List.getElem?_toArray, List.getElem?_cons_zero, List.getElem?_cons_succ] at d0 d1 d2 d3
      have hmall := markAll_any w2 B m _ (.slice ao rt.length cp) S rt (marks_below HMK.out hW) (HROW.out.below hW) (fun ao' cp' e a h h0 => by
        cases e
        have := HU.out a h h0
        omega) (fun s hs h0 => by have := HVR.out s hs h0; have := HN.out; omega)
      clear hbec ha hb hcw hcwa c0 c1 c2 c4 c5
      go_wp2_with fail
      refine hmall.mono ?_
      rintro e w3 ⟨b, rfl, hmk3, hg3, hbf, hbt⟩
      have hgr : W.grownBy w3 (some m) := (grown_below hW (some m)).trans hg3
      have hbox3 : w3.heap[bx]? = some (.cells #[.slice (some ⟨m, 0, none⟩) S.length vc] 34 (0, 0)) := (hgr.block bx hbx (fun e => hne (Option.some.inj e))).trans HB.out
      have hwbox3 : w3.heap[wb]? = some (.cells #[.slice (some ⟨wm, 0, none⟩) Wd.length wc] 34 (0, 0)) := (hgr.block wb hwb (fun e => hwne (Option.some.inj e))).trans HWB.out
      have hwmk3 : MarksAt w3 B wm (.slice (some ⟨wm, 0, none⟩) Wd.length wc) Wd := marks_far HWMK.out hgr hwm
      have hP3 : LeastU R Wd S0 n (mrks S rt) := by
        obtain ⟨p1, p2⟩ := HP.out
        refine ⟨p1.trans (mrks_ge rt S), fun X hX hc h0 => ?_⟩
        have hle := p2 X hX hc h0
        exact mrks_le rt S hle (fun s hs hs0 => hc ⟨k, rt, wt⟩ HMEM.out (hle _ HA2.out) (allB_mono (le.refl _) HB3.out) s hs hs0)
      cases b
      · obtain ⟨e1, e2⟩ := hbf rfl
        have HSAT := HSATF.out (fun _ _ => e2)
        rw [e1] at hmk3
        clear hbf hbt
        go_wp2
        go_ret
        exact ⟨hgr, .inr ⟨rfl, ⟨⟨HN.out, HP.out, Nat.lt_of_lt_of_le hbx hgr.size, hne, _, hbox3, hmk3⟩, Nat.lt_of_lt_of_le hwb hgr.size, hwne, hwm, _, hwbox3, hwmk3⟩, HSAT.out⟩⟩
      · have hcnt := hbt rfl
        have hlen := mrks_len rt S
        have HC := Lib.hid (And.intro hcnt hlen)
        have HP3 := Lib.hid hP3
        clear hbf hbt hcnt hlen hP3
        go_wp2
        go_ret
        refine ⟨hgr, .inl ⟨rfl, mrks S rt, ⟨⟨by rw [HC.out.2]; exact HN.out, HP3.out, Nat.lt_of_lt_of_le hbx hgr.size, hne, _, hbox3, hmk3⟩, Nat.lt_of_lt_of_le hwb hgr.size, hwne, hwm, _, hwbox3, hwmk3⟩, ?_⟩⟩
        have h1 := HC.out.1
        have h2 := cnt_le (mrks S rt)
        rw [HC.out.2, HN.out] at h2
        omega
end Go.Proofs.YtomikgkoegkofaaGreatDoor.dv

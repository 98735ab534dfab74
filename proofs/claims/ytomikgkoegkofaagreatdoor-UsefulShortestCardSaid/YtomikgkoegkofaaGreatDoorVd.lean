import Derived.Test.YtomikgkoegkofaaGreatDoorVa
import Derived.Test.YtomikgkoegkofaaGreatDoorUsh
namespace Go.Proofs.YtomikgkoegkofaaGreatDoor.dv
open Go.ChangeShapes Go.WideShapes Go.ChangeAt Go.RowKit Go.Maps Go.WideMaps Go.WideElems
set_option linter.unusedVariables false
set_option linter.unusedSimpArgs false
/-! Reduce -/
attribute [local go_sem] run_store_fl
set_option maxRecDepth 100000 in
set_option maxHeartbeats 8000000 in
theorem reduce_any (w : World) (B : Nat) (ta va ra : Option Addr) (tc vc rc : Nat) (R : List Rl) (VS TS : List ByteArray) (f : Int → Int) (hR : RulesAt B w (.slice ra R.length rc) R) (hV : TxtAt B w (.slice va VS.length vc) VS) (hT : TxtAt B w (.slice ta TS.length tc) TS) (hB : B ≤ w.heap.size) (hl : ∀ r ∈ R, 0 ≤ r.left ∧ r.left < VS.length) (hvr : ∀ r ∈ R, ∀ s ∈ r.right, 0 ≤ s → s.toNat < VS.length) (h100 : ∀ r ∈ R, r.right.length ≤ 100) (hv : VS.length ≤ 100) (ht : TS.length ≤ 100) (hr : R.length ≤ 100)
    (h0 : at_ (useW R VS.length) 0 = true) (hD : ∀ r ∈ R.filter (keepB (useW R VS.length)), ∀ s, s = r.left ∨ s ∈ r.right → (mapT (mapV (useW R VS.length) VS.length) (fun t => (R.filter (keepB (useW R VS.length))).any (hasB t)) TS TS.length).atKey (.int .i64 s) (.lit (.int .i64 0)) = .lit (.int .i64 (f s)) ∧ In64 (f s)) :
    Calls Tryz.prog 22 #[.agg #[.slice ta TS.length tc, .slice va VS.length vc, .slice ra R.length rc]] w fun e w' => ∃ tv nv rv wv b, e = .returned (.tuple #[.agg #[tv, nv, rv], wv, .bool true]) ∧ w.heap.size ≤ b ∧ w'.ownsRow b 9 1 nv (namesV (useW R VS.length) VS VS.length).length (SV (namesV (useW R VS.length) VS VS.length)) ∧ w'.ownsRow b 9 1 tv (textsT (fun t => (R.filter (keepB (useW R VS.length))).any (hasB t)) TS TS.length).length (SV (textsT (fun t => (R.filter (keepB (useW R VS.length))).any (hasB t)) TS TS.length)) ∧ w'.ownsRow b 3 1 wv (wereV (useW R VS.length) VS.length).length (IV (wereV (useW R VS.length) VS.length)) ∧ RulesAt w'.heap.size w' rv ((R.filter (keepB (useW R VS.length))).map (renR f)) ∧ Below w.heap.size w w' := by
  obtain ⟨i1, hi1, hy0, hy1, hy2⟩ := info_parts info_string
  obtain ⟨i2, hi2, hx0, hx1, hx2⟩ := info_parts info_int
  obtain ⟨i3, hi3, hw0, hw1, hw2⟩ := info_parts info_rule
  have b0 := (Blk.new w 25 #[.slice ta TS.length tc, .slice va VS.length vc, .slice ra R.length rc]).alloc (.cells #[.slice none 0 0, .slice none 0 0, .slice none 0 0] 25)
  have b1 := Blk.new (w.alloc (.cells #[.slice ta TS.length tc, .slice va VS.length vc, .slice ra R.length rc] 25)) 25 #[.slice none 0 0, .slice none 0 0, .slice none 0 0]
  rw [World.size_alloc] at b1
  have hbl : Below w.heap.size w ((w.alloc (.cells #[.slice ta TS.length tc, .slice va VS.length vc, .slice ra R.length rc] 25)).alloc (.cells #[.slice none 0 0, .slice none 0 0, .slice none 0 0] 25)) := ((Below.refl _ w).alloc (Nat.le_refl _) _).alloc (by rw [World.size_alloc]; omega) _
  have hz : ((w.alloc (.cells #[.slice ta TS.length tc, .slice va VS.length vc, .slice ra R.length rc] 25)).alloc (.cells #[.slice none 0 0, .slice none 0 0, .slice none 0 0] 25)).heap.size = w.heap.size + 1 + 1 := by simp
  have HR := Lib.hid (hR.below (hbl.mono hB))
  have HV := Lib.hid (hV.below (hbl.mono hB))
  have HT := Lib.hid (hT.below (hbl.mono hB))
  generalize hW2 : (w.alloc (.cells #[.slice ta TS.length tc, .slice va VS.length vc, .slice ra R.length rc] 25)).alloc (.cells #[.slice none 0 0, .slice none 0 0, .slice none 0 0] 25) = w2 at *
  have hus := useful_any w2 B ta va TS.length tc VS.length vc (.slice ra R.length rc) R HR.out (by omega) hl hvr (by omega)
  generalize hU : useW R VS.length = U at *
  have hUl : U.length = VS.length := by
    rw [← hU]
    unfold useW
    rw [marksR_len]
    unfold startB
    split <;> simp
  have HD := Lib.hid hD
  have HB0 := Lib.hid b0
  have HB1 := Lib.hid b1
  have HBL := Lib.hid hbl
  have HZ := Lib.hid hz
  have H100 := Lib.hid h100
  have H0 := Lib.hid h0
  have HUL := Lib.hid hUl
  have HBB := Lib.hid hB
  have c0 := b0.cell 0
  have c1 := b0.cell 1
  have c2 := b0.cell 2
  simp only [List.getElem?_toArray, List.getElem?_cons_zero, List.getElem?_cons_succ] at c0 c1 c2
  clear hR hV hT hbl hz hl hvr hD b0 b1 h100 h0 hU hUl hB
  go_enter Tryz.func22, Tryz.ntmps22
  go_wp2_with fail
  refine hus.mono ?_
  rintro e w3 ⟨uv, rfl, hmk, hb3⟩
  have HMK := Lib.hid hmk
  obtain ⟨⟨uc, rfl⟩, _⟩ := hmk
  have HB3 := Lib.hid hb3
  have hA3 : Below w3.heap.size w3 (w3.alloc (.cells #[.slice (some ⟨w2.heap.size + 1, 0, none⟩) U.length uc] 34)) := (Below.refl _ w3).alloc (Nat.le_refl _) _
  have bu := Blk.new w3 34 #[.slice (some ⟨w2.heap.size + 1, 0, none⟩) U.length uc]
  have hmark := marked_any (w3.alloc (.cells #[.slice (some ⟨w2.heap.size + 1, 0, none⟩) U.length uc] 34)) _ U 0 (HMK.out.read.below hA3)
  have g3 := HB0.out.below (hb3.trans (hA3.mono hb3.size)) HB0.out.lt
  have q0 := g3.cell 0
  have q1 := g3.cell 1
  have q2 := g3.cell 2
  have q3 := bu.cell 0
  simp only [List.getElem?_toArray, List.getElem?_cons_zero, List.getElem?_cons_succ] at q0 q1 q2 q3
  have htrue : (decide ((0 : Int) ≤ 0) && at_ U 0) = true := by rw [H0.out]; rfl
  rw [htrue] at hmark
  have HA3 := Lib.hid hA3
  have HBU := Lib.hid bu
  have HZ3 := Lib.hid (show w.heap.size + 1 + 1 ≤ w3.heap.size by have := hb3.size; have := HZ.out; omega)
  have hz3 : (w3.alloc (.cells #[.slice (some ⟨w2.heap.size + 1, 0, none⟩) U.length uc] 34)).heap.size = w3.heap.size + 1 := by simp
  have HRS3 := Lib.hid (HR.out.below ((hb3.trans (hA3.mono hb3.size)).mono (by have := HBB.out; have := HZ.out; omega)))
  have HMK3 := Lib.hid (HMK.out.read.below hA3)
  clear hb3 hA3 bu g3 htrue c0 c1 c2 hus
  go_wp2_with fail
  generalize hW3 : w3.alloc (.cells #[.slice (some ⟨w2.heap.size + 1, 0, none⟩) U.length uc] 34) = W3 at *
  refine hmark.mono ?_
  rintro e w4 ⟨rfl, rfl⟩
  have hro := rulesOf_any w4 B ta va ra TS.length tc VS.length vc rc R 50 #[.pointer (some ⟨w3.heap.size, 0, none⟩)] (keepB U) HRS3.out (by have := HBB.out; have := HZ3.out; omega) (by omega) goes_redu1 (redu1_any w4 w3.heap.size _ U (by omega) q3 HMK3.out)
  clear hmark
  go_wp2_with fail
  refine hro.mono ?_
  rintro e w5 ⟨rv0, L, rfl, hL, hownL, hinL, hb5⟩
  generalize hK : R.filter (keepB U) = K at *
  have hKm : ∀ r ∈ K, r ∈ R := fun r hr => by rw [← hK] at hr; exact (List.mem_filter.1 hr).1
  have HKM := Lib.hid hKm
  have HKE := Lib.hid hK
  have hLK : L.length = K.length := by rw [← hL, List.length_map]
  have hLk : K.length ≤ 100 := by
    rw [← hK]
    exact Nat.le_trans (List.length_filter_le _ _) (by omega)
  obtain ⟨ro, rcc, rfl⟩ := own_sl hownL
  rw [hLK] at hownL
  have HRK := Lib.hid (show RulesAt w5.heap.size w5 (.slice ro K.length rcc) K by
    have h := own_rules (L := L) (by rw [hLK]; exact hownL) hinL (by have := hb5.size; have := HBB.out; have := HZ3.out; omega)
    rwa [hL] at h)
  rw [hLK] at *
  clear hK hKm hLK
  have HZ5 := Lib.hid (show w.heap.size + 1 + 1 + 1 ≤ w5.heap.size by have := hb5.size; have := HZ3.out; omega)
  have HA5 := Lib.hid (HB3.out.trans ((HA3.out.trans (hb5.mono (by omega))).mono HB3.out.size))
  have HMK5 := Lib.hid (HMK3.out.below hb5)
  have HBU5 := Lib.hid (HBU.out.below hb5 HBU.out.lt)
  have HRS5 := Lib.hid (HRS3.out.below (hb5.mono (by have := HBB.out; have := HZ3.out; omega)))
  have g5 := HB0.out.below HA5.out HB0.out.lt
  have r1 := (g5.alloc (.cells #[.slice none 0 0, .slice none 0 0, .slice none 0 0] 25)).alloc (.map #[] 0)
  have s1 := r1.cell 1
  simp only [List.getElem?_toArray, List.getElem?_cons_zero, List.getElem?_cons_succ] at s1
  have hmm := @run_makeMap Tryz.prog
  have HV5 := Lib.hid ((HV.out.below (HA5.out.mono (by have := HBB.out; have := HZ.out; omega))))
  have HT5 := Lib.hid ((HT.out.below (HA5.out.mono (by have := HBB.out; have := HZ.out; omega))))
  have hst0 : RSt w5.heap.size w5 [] [] [] 0 (.map []) (.slice none 0 0) (.slice none 0 0) (.slice none 0 0) (.slice none 0 0) ((w5.alloc (.cells #[.slice none 0 0, .slice none 0 0, .slice none 0 0] 25)).alloc (.map #[] 0)) := by
    refine ⟨((Below.refl _ w5).alloc (Nat.le_refl _) _).alloc (by rw [World.size_alloc]; omega) _, by simp, (Blk.new w5 25 _).alloc _, World.ownsRow_nil _ _ _ _, World.ownsRow_nil _ _ _ _, .inl rfl, World.ownsRow_nil _ _ _ _, ?_⟩
    have := World.ownsMap_made (H := Unit) (w5.alloc (.cells #[.slice none 0 0, .slice none 0 0, .slice none 0 0] 25)) Tryz.prog 3 (plainElem Tryz.prog 3)
    rwa [World.size_alloc] at this
  have HST0 := Lib.hid hst0
  have hUl := HUL.out
  rw [hUl] at *
  clear hb5 hro hL hownL hinL q0 q1 q2 q3 hz3 g5 r1 hst0 hUl
  have hV63 : VS.length ≤ 9223372036854775807 := by omega
  go_wp2
  go_loopw [8, 29] (fun wv q wr => ∃ (v n : Nat) (nv : Value), v ≤ VS.length ∧ q = .int .i64 v ∧ n ≤ v ∧ RSt w5.heap.size w5 [] (namesV U VS v) (wereV U v) n (mapV U v) (.slice none 0 0) nv wv (.slice none 0 0) wr) (fun _ q _ => VS.length - (intOf q).toNat)
  case atStart => exact ⟨0, 0, _, Nat.zero_le _, rfl, Nat.le_refl _, HST0.out⟩
  case round =>
    obtain ⟨v, n, nv, hvl, rfl, hnv, hst⟩ := hrel
    have HST := Lib.hid hst
    have hlw := wereV_len U v
    have hln := namesV_len U VS v
    obtain ⟨so, sc, rfl⟩ : ∃ so sc, u8 = .slice so (wereV U v).length sc := by
      rcases hst.were.2 with ⟨hv, h0⟩ | ⟨g, c, cur, hv, _⟩
      · exact ⟨none, 0, by rw [hv, h0]⟩
      · exact ⟨_, _, hv⟩
    obtain ⟨no, nc, rfl⟩ := own_sl hst.names
    have HLW := Lib.hid hlw
    have HLN := Lib.hid hln
    have HNV := Lib.hid hnv
    have hbu := HBU5.out.below HST.out.bel HBU5.out.lt
    have p0 := hbu.cell 0
    simp only [List.getElem?_toArray, List.getElem?_cons_zero] at p0
    clear hst hlw hln hnv s1 hbu
    by_cases hlt : v < VS.length
    · obtain ⟨a, hae, hab, hca⟩ := (HV5.out.below (HST.out.bel.mono (by have := HBB.out; have := HZ5.out; omega))).cell hlt
      subst hae
      have hub : wr.cell? ⟨w2.heap.size + 1, v, none⟩ = some (.bool (U.getD v false)) := by
        obtain ⟨_, _, e1, _, h2⟩ := HMK5.out.below HST.out.bel
        cases e1
        obtain ⟨a3, e3, _, h3⟩ := h2 v (by have := HUL.out; omega)
        cases e3
        rw [zero_add_addr] at h3
        exact h3
      have hkv : (v : Int) < (VS.length : Int) := by omega
      have hkv2 : (v : Int) < (U.length : Int) := by have := HUL.out; omega
      have hnm2 : namesV U VS (v + 1) = namesV U VS v ++ if U.getD v false = true then [VS.getD v ByteArray.empty] else [] := rfl
      have hwr2 : wereV U (v + 1) = wereV U v ++ if U.getD v false = true then [(v : Int)] else [] := rfl
      have hmp2 : mapV U (v + 1) = if U.getD v false = true then (mapV U v).put (.int .i64 v) (.lit (.int .i64 (wereV U v).length)) else mapV U v := rfl
      generalize U.getD v false = ub at *
      generalize VS.getD v ByteArray.empty = nm at *
      have HNM2 := Lib.hid hnm2
      have HWR2 := Lib.hid hwr2
      have HMP2 := Lib.hid hmp2
      clear hnm2 hwr2 hmp2
      cases ub
      · go_wp2
        refine ⟨⟨v + 1, n, .slice no (namesV U VS v).length nc, hlt, congrArg (Value.int .i64) (by omega), by have := HNV.out; omega, ?_⟩, by simp only [intOf]; omega⟩
        have := HST.out
        rw [HNM2.out, HWR2.out, HMP2.out]
        simpa using this
      · have hM := HST.out.map
        have hv64 : In64 (v : Int) := by unfold In64; omega
        have hl64 : In64 (((wereV U v).length : Nat) : Int) := by have := HLW.out; unfold In64; omega
        have hlw := HLW.out
        have hln := HLN.out
        go_wp2_with (first
          | (at_mapUpdate; go_must (refine wpList_mapUpdate_own _ rfl _ _ _ 76 rfl 3 3 lawII Tryz.underlying76 (plainElem Tryz.prog 3) (w5.heap.size + 1) n _ rfl hM (by have := HNV.out; unfold maxLen; omega) _ _ (.int .i64 v) rfl rfl (key_ii v hv64) _ [] (plainElem_int Tryz.underlying3 (wf_in hl64)) ?_); intro w6 hM6 hg6; have HS6 := Lib.hid (HST.out.put_map hM6 hg6); have hN6 := HS6.out.names; have k1 := HS6.out.box.cell 1; simp only [List.getElem?_toArray, List.getElem?_cons_zero, List.getElem?_cons_succ] at k1; have hsz6 := HS6.out.size; clear hM6 hg6)
          | (at_builtin; refine wpList_append_own _ rfl _ _ 22 rfl w5.heap.size 9 i1 (.string ⟨#[]⟩) 1 16 Tryz.underlying22 hi1 hy0 hy1 hy2 rfl (by decide) _ _ _ rfl (hN6.alloc _) ⟨w6.heap.size, 0, none⟩ 1 1 [.string nm] rfl rfl (cell_one_new _ _ _) (by intro u hu; simp at hu; subst hu; rfl) (by unfold maxLen; omega) (by omega) (by simp; omega) ?_; intro nv7 w7 hN7 hg7 _; obtain ⟨n7o, n7c, rfl⟩ := own_sl hN7; have HS7 := Lib.hid ((HS6.out.keep (below_al w6 _)).put_names hN7 hg7); have hW7 := HS7.out.were; have hsz7 := HS7.out.size; clear hN7 hg7)
          | (at_builtin; refine wpList_append_own _ rfl _ _ 28 rfl w5.heap.size 3 i2 (.int .i64 0) 1 8 Tryz.underlying28 hi2 hx0 hx1 hx2 rfl (by decide) _ _ _ rfl (hW7.alloc _) ⟨w7.heap.size, 0, none⟩ 1 1 (IV [(v : Int)]) rfl rfl (cell_one_new _ _ _) (by intro u hu; simp [IV] at hu; subst hu; rfl) (by unfold maxLen; omega) (by omega) (by simp; omega) ?_; intro wv8 w8 hW8 hg8 _; have HS8 := Lib.hid ((HS7.out.alloc _).put_were hW8 hg8); have k2 := HS8.out.box.cell 1; have k3 := HS8.out.box.frozen 1; simp only [List.getElem?_toArray, List.getElem?_cons_zero, List.getElem?_cons_succ] at k2; clear hW8 hg8))
        refine ⟨⟨v + 1, n + 1, .slice n7o ((namesV U VS v).length + 1) n7c, hlt, congrArg (Value.int .i64) (by omega), by have := HNV.out; omega, ?_⟩, by simp only [intOf]; omega⟩
        rw [HNM2.out, HWR2.out, HMP2.out]
        exact HS8.out.store
    · obtain rfl : v = VS.length := by omega
      have gr := (HB0.out.below HA5.out HB0.out.lt).below HST.out.bel (by have := HZ5.out; omega)
      have t0 := gr.cell 0
      simp only [List.getElem?_toArray, List.getElem?_cons_zero] at t0
      have HGR := Lib.hid gr
      clear gr p0
      generalize hnms : namesV U VS VS.length = Nl at *
      generalize hwrs : wereV U VS.length = Wl at *
      generalize hmap0 : mapV U VS.length = D0 at *
      have hT63 : TS.length ≤ 9223372036854775807 := by omega
      go_wp2
      go_loopw [56] (fun q wi => ∃ (t m : Nat) (tv : Value), t ≤ TS.length ∧ q = .int .i64 t ∧ m ≤ VS.length + t ∧ RSt w5.heap.size w5 (textsT (fun t => K.any (hasB t)) TS t) Nl Wl m (mapT D0 (fun t => K.any (hasB t)) TS t) tv (.slice no Nl.length nc) (.slice so Wl.length sc) (.slice none 0 0) wi) (fun q _ => TS.length - (intOf q).toNat)
      case atStart => exact ⟨0, n, _, Nat.zero_le _, rfl, by have := HNV.out; omega, HST.out⟩
      case round =>
        obtain ⟨t, m, tv, htl, rfl, hmt, hst⟩ := hrel
        have HST2 := Lib.hid hst
        have HMT := Lib.hid hmt
        have hlt := textsT_len (fun t => K.any (hasB t)) TS t
        obtain ⟨to, tcp, rfl⟩ := own_sl hst.terms
        have HLT := Lib.hid hlt
        clear hst hlt hmt t0
        by_cases htt : t < TS.length
        · obtain ⟨a, hae, hab, hca⟩ := (HT5.out.below (HST2.out.bel.mono (by have := HBB.out; have := HZ5.out; omega))).cell htt
          subst hae
          have hkt : (t : Int) < (TS.length : Int) := by omega
          have htx2 : textsT (fun t => K.any (hasB t)) TS (t + 1) = textsT (fun t => K.any (hasB t)) TS t ++ if K.any (hasB t) = true then [TS.getD t ByteArray.empty] else [] := rfl
          have hmp2 : mapT D0 (fun t => K.any (hasB t)) TS (t + 1) = if K.any (hasB t) = true then (mapT D0 (fun t => K.any (hasB t)) TS t).put (.int .i64 (-1 - (t : Int))) (.lit (.int .i64 (-1 - ((textsT (fun t => K.any (hasB t)) TS t).length : Int)))) else mapT D0 (fun t => K.any (hasB t)) TS t := rfl
          have ht64 : In64 (t : Int) := by unfold In64; omega
          have hA6 : Below wr.heap.size wr (wr.alloc (.cells #[.int .i64 t] 3)) := below_al wr _
          have bt := Blk.new wr 3 #[.int .i64 t]
          have hcr := containsR_any (wr.alloc (.cells #[.int .i64 t] 3)) w5.heap.size ro rcc K 52 #[.pointer (some ⟨wr.heap.size, 0, none⟩)] (hasB t) goes_redu2 (redu2_any _ wr.heap.size t bt.lt ((bt.cell 0).trans rfl) ht64) (HRK.out.below (HST2.out.bel.trans (hA6.mono (by have := HST2.out.size; omega)))) (by have := HST2.out.size; simp; omega) (by omega)
          have cb := bt.cell 0
          simp only [List.getElem?_toArray, List.getElem?_cons_zero] at cb
          have HBT := Lib.hid bt
          have HA6 := Lib.hid hA6
          generalize K.any (hasB t) = ub at *
          generalize TS.getD t ByteArray.empty = tx at *
          have HTX2 := Lib.hid htx2
          have HMP2 := Lib.hid hmp2
          clear htx2 hmp2 bt hA6
          go_wp2_with fail
          refine hcr.mono ?_
          rintro e w7 ⟨rfl, hb7⟩
          have HS7 := Lib.hid (HST2.out.keep (HA6.out.trans (hb7.mono HA6.out.size)))
          have HBT7 := Lib.hid (HBT.out.below hb7 HBT.out.lt)
          have hsz7 := HS7.out.size
          clear hb7 hcr cb
          cases ub
          · go_wp2
            refine ⟨⟨t + 1, m, .slice to (textsT (fun t => K.any (hasB t)) TS t).length tcp, htt, congrArg (Value.int .i64) (by omega), by have := HMT.out; omega, ?_⟩, by simp only [intOf]; omega⟩
            have := HS7.out
            rw [HTX2.out, HMP2.out]
            simpa using this
          · have hM := HS7.out.map
            have k0 := HS7.out.box.cell 0
            have ct := HBT7.out.cell 0
            simp only [List.getElem?_toArray, List.getElem?_cons_zero] at k0 ct
            have hlt := HLT.out
            generalize hTL : textsT (fun t => K.any (hasB t)) TS t = Tl at *
            have hl64 : In64 ((Tl.length : Nat) : Int) := by unfold In64; omega
            have hx := cm_if (t : Int) ht64
            have hx2 := cm_if ((Tl.length : Nat) : Int) hl64
            have hk64 : In64 (-1 - (t : Int)) := by unfold In64; omega
            have hv64 : In64 (-1 - ((Tl.length : Nat) : Int)) := by unfold In64; omega
            go_wp2_with (first
              | (at_mapUpdate; refine wpList_mapUpdate_own _ rfl _ _ _ 76 rfl 3 3 lawII Tryz.underlying76 (plainElem Tryz.prog 3) (w5.heap.size + 1) m _ rfl hM (by have := HMT.out; unfold maxLen; omega) _ _ (.int .i64 (-1 - (t : Int))) rfl rfl (key_ii _ hk64) _ [] (plainElem_int Tryz.underlying3 (wf_in hv64)) ?_; intro w8 hM8 hg8; have HS8 := Lib.hid (HS7.out.put_map hM8 hg8); have hT8 := HS8.out.terms; have k1 := HS8.out.box.cell 0; simp only [List.getElem?_toArray, List.getElem?_cons_zero] at k1; have hsz8 := HS8.out.size; clear hM8 hg8)
              | (at_builtin; refine wpList_append_own_at _ rfl _ _ 22 rfl w5.heap.size 9 i1 (.string ⟨#[]⟩) 1 16 Tryz.underlying22 hi1 hy0 hy1 hy2 rfl (by decide) _ _ _ rfl (hT8.alloc _) ⟨w8.heap.size, 0, none⟩ 1 1 [.string tx] rfl rfl (cell_one_new _ _ _) (by intro u hu; simp at hu; subst hu; rfl) (by unfold maxLen; omega) (by omega) (by simp; omega) ?_; intro tv9 w9 hT9 hg9 _ hloc9; obtain ⟨t9o, t9c, rfl⟩ := own_sl hT9; have HS9 := Lib.hid ((HS8.out.keep (below_al w8 _)).put_terms hT9 hg9 hloc9 (fun e => by have := (World.ownsRow.lt HS8.out.names _ e).2; rw [World.size_alloc] at this; omega)); have hb9 := (HS8.out.box.alloc (.cells #[.string tx] 9)).grown hg9 ((HS8.out.box.alloc (.cells #[.string tx] 9)).not_row (by decide) (hT8.alloc (.cells #[.string tx] 9))); have k2 := hb9.cell 0; have k3 := hb9.frozen 0; simp only [List.getElem?_toArray, List.getElem?_cons_zero] at k2; clear hT9 hg9 hb9))
            refine ⟨⟨t + 1, m + 1, .slice t9o (Tl.length + 1) t9c, htt, congrArg (Value.int .i64) (by omega), by have := HMT.out; omega, ?_⟩, by simp only [intOf]; omega⟩
            rw [HTX2.out, HMP2.out]
            exact HS9.out
        · obtain rfl : t = TS.length := by omega
          generalize hTL : textsT (fun t => K.any (hasB t)) TS TS.length = Tl at *
          generalize hDD : mapT D0 (fun t => K.any (hasB t)) TS TS.length = DD at *
          have hK63 : K.length ≤ 9223372036854775807 := by omega
          go_wp2
          go_loopw [80] (fun q wi => ∃ (k : Nat) (L' : List Ru) (rv : Value), k ≤ K.length ∧ q = .int .i64 k ∧ RSt w5.heap.size w5 Tl Nl Wl m DD (.slice to Tl.length tcp) (.slice no Nl.length nc) (.slice so Wl.length sc) rv wi ∧ wi.ownsRow w5.heap.size 44 3 rv L'.length (RC L') ∧ Rights w5.heap.size L' wi ∧ L'.map (·.1) = (K.take k).map (renR f)) (fun q _ => K.length - (intOf q).toNat)
          case atStart => exact ⟨0, [], _, Nat.zero_le _, rfl, HST2.out, World.ownsRow_nil _ _ _ _, fun x hx => (by cases hx), by simp⟩
          case round =>
            obtain ⟨k, L', rv, hk, rfl, hst, hown, hri, hLe⟩ := hrel
            have HS3 := Lib.hid hst
            have HOWN := Lib.hid hown
            have HRI := Lib.hid hri
            have HLE := Lib.hid hLe
            have hLk : L'.length ≤ k := by
              have := congrArg List.length hLe
              rw [List.length_map, List.length_map, List.length_take] at this
              omega
            obtain ⟨rvo, rvc, rfl⟩ := own_sl hown
            have HLK := Lib.hid hLk
            clear hst hown hri hLe hLk
            by_cases hkk : k < K.length
            · obtain ⟨a2, r, ao, cp, hae2, hab2, hrk, hc0, hc1, hc2, hcl, hcm, hcn, hru, hin1, hin2⟩ := (HRK.out.below HS3.out.bel).at k hkk
              subst hae2
              have hrK : r ∈ K := List.mem_of_getElem? hrk
              have hkk2 : (k : Int) < (K.length : Int) := by omega
              have htk : (K.take (k + 1)).map (renR f) = (K.take k).map (renR f) ++ [renR f r] := by
                rw [List.take_succ_eq_append_getElem hkk, List.map_append, (List.getElem?_eq_some_iff.1 hrk).2]
                rfl
              have hr100 := H100.out r (HKM.out r hrK)
              have hDr := HD.out r hrK
              have hxin : InR w5.heap.size wr (r, ao, cp) := ⟨hru, hcl, hcm, hcn, hin1, hin2⟩
              have hren := fun j => renamed_any ((wr.alloc (.cells #[.int .i64 r.left, .slice ao r.right.length cp, .float .f64 r.wt] 44)).drewN j) 0 (w5.heap.size + 1) m DD f r.left r.right ao cp r.wt (ownM_below HS3.out.map (below_drewN (below_al wr _) j) HS3.out.map.lt) ((hxin.row (by have := HS3.out.size; omega)).below (below_drewN (below_al wr _) j)) (by omega) hin2 (fun s hs => (hDr s hs).1)
              have hf64 : (∀ n ∈ (renR f r).right, In64 n) ∧ In64 (renR f r).left := ⟨fun n hn => by
                obtain ⟨s, hs, rfl⟩ := List.mem_map.1 hn
                exact (hDr s (.inr hs)).2, (hDr r.left (.inl rfl)).2⟩
              have HREN := Lib.hid hren
              have HTK := Lib.hid htk
              have HF64 := Lib.hid hf64
              have br := Blk.new wr 44 #[.int .i64 r.left, .slice ao r.right.length cp, .float .f64 r.wt]
              have e0 := br.cell 0
              have e1 := br.cell 1
              have e2 := br.cell 2
              have e3 := (HS3.out.box.alloc (.cells #[.int .i64 r.left, .slice ao r.right.length cp, .float .f64 r.wt] 44)).cell 2
              simp only [List.getElem?_toArray, List.getElem?_cons_zero, List.getElem?_cons_succ] at e0 e1 e2 e3
              clear hren htk hf64 hru hxin hin1 hin2 hDr hrk hrK br
              go_wp2
              have e3d := DRC _ _ _ e3
              refine wp_region_E (fun U => U.cell? ⟨wr.heap.size, 0, none⟩ = some (.int .i64 r.left) ∧ U.cell? ⟨wr.heap.size, 1, none⟩ = some (.slice ao r.right.length cp) ∧ U.cell? ⟨wr.heap.size, 2, none⟩ = some (.float .f64 r.wt)) [0, 1, 2, 3, 4, 5, 6, 7, 8] (by kernel_rfl) ?_
              have HS1 : _ := And.intro (DRC _ _ _ e0) (And.intro (DRC _ _ _ e1) (DRC _ _ _ e2))
              change anyE _ _ _ _ _ _ _ _ _ (World.drew _)
              refine anyE_rest (by kernel_rfl) ?_
              have e0d := DRC _ _ _ e0
              have e1d := DRC _ _ _ e1
              have e2d := DRC _ _ _ e2
              clear HS1 e0 e1 e2 e3
              apply later_um
              · intro hg0123
                apply later_um
                · intro hg012
                  apply later_um
                  · intro hg013
                    apply later_um
                    · intro hg023
                      apply later_um
                      · intro hg01
                        apply later_um
                        · intro hg02
                          apply later_um
                          · intro hg03
                            apply later_um
                            · intro hg23
                              apply later_um
                              · intro hg0
                                apply later_um
                                · intro hg2
                                  apply later_um
                                  · intro hg3
                                    refine wpAny_ready (rs := [0, 2, 3]) (by kernel_rfl) (by simp) ?_
                                    refine AllReady.cons rfl (fun K' hK => ?_) (AllReady.cons rfl (fun K' hK => ?_) (AllReady.cons rfl (fun K' hK => ?_) AllReady.nil))
                                    · go_simp
                                      refine hK _ _ ?_
                                      clear hK
                                      exact hg0
                                    · go_simp
                                      refine hK _ _ ?_
                                      clear hK
                                      exact hg2
                                    · go_simp
                                      refine hK _ _ ?_
                                      clear hK
                                      exact hg3
                                  · refine wpAny_ready (rs := [0, 2]) (by kernel_rfl) (by simp) ?_
                                    refine AllReady.cons rfl (fun K' hK => ?_) (AllReady.cons rfl (fun K' hK => ?_) AllReady.nil)
                                    · go_simp
                                      refine hK _ _ ?_
                                      clear hK
                                      exact hg03
                                    · go_simp
                                      refine hK _ _ ?_
                                      clear hK
                                      exact hg23
                                · refine wpAny_ready (rs := [0, 3]) (by kernel_rfl) (by simp) ?_
                                  refine AllReady.cons rfl (fun K' hK => ?_) (AllReady.cons rfl (fun K' hK => ?_) AllReady.nil)
                                  · go_simp
                                    refine hK _ _ ?_
                                    clear hK
                                    exact hg02
                                  · go_simp
                                    refine hK _ _ ?_
                                    clear hK
                                    exact hg23
                              · refine wpAny_ready (rs := [1, 2, 3]) (by kernel_rfl) (by simp) ?_
                                refine AllReady.cons rfl (fun K' hK => ?_) (AllReady.cons rfl (fun K' hK => ?_) (AllReady.cons rfl (fun K' hK => ?_) AllReady.nil))
                                · go_simp
                                  refine hK _ _ ?_
                                  clear hK
                                  exact hg01
                                · go_simp
                                  refine hK _ _ ?_
                                  clear hK
                                  exact hg02
                                · go_simp
                                  refine hK _ _ ?_
                                  clear hK
                                  exact hg03
                            · refine wpAny_ready (rs := [0, 4]) (by kernel_rfl) (by simp) ?_
                              refine AllReady.cons rfl (fun K' hK => ?_) (AllReady.cons rfl (fun K' hK => ?_) AllReady.nil)
                              · go_simp
                                refine hK _ _ ?_
                                clear hK
                                exact hg023
                              · clear hg03 hg02 hg01 hg023 hg013 hg012 hg0123
                                go_simp
                                go_at_call 54
                                refine (HREN.out 1).mono ?_
                                rintro e w6 ⟨mm, rfl, hmm2, hrow6, hb6⟩
                                have HB6 := Lib.hid ((below_drewN (below_al wr (.cells #[.int .i64 r.left, .slice ao r.right.length cp, .float .f64 r.wt] 44)) 1).trans (hb6.mono (by show wr.heap.size ≤ (wr.alloc _).heap.size; simp)))
                                have HROW6 := Lib.hid (own_weak hrow6 (show w5.heap.size ≤ _ by have := HS3.out.size; show w5.heap.size ≤ (wr.alloc _).heap.size; simp; omega))
                                have HS6 := Lib.hid (HS3.out.keep HB6.out)
                                have HOWN6 := Lib.hid (ownsRow_keep HOWN.out (fun g hg _ => HB6.out.block g hg))
                                have HRI6 := Lib.hid (HRI.out.keep HB6.out)
                                have c6 := HS6.out.box.cell 2
                                have c7 := (HS6.out.box.alloc (.cells #[.int .i64 (f r.left), .slice (some ⟨mm, 0, none⟩) r.right.length r.right.length, .float .f64 r.wt] 44)).cell 2
                                simp only [List.getElem?_toArray, List.getElem?_cons_zero, List.getElem?_cons_succ] at c6 c7
                                clear hb6 hrow6
                                refine hK _ _ ?_
                                clear hK
                                apply later_um
                                · intro hT
                                  refine wpAny_ready (rs := [0, 5]) (by kernel_rfl) (by simp) ?_
                                  refine AllReady.cons rfl (fun K' hK => ?_) (AllReady.cons rfl (fun K' hK => ?_) AllReady.nil)
                                  · go_simp
                                    refine hK _ _ ?_
                                    clear hK
                                    refine wpAny_ready (rs := [1, 5]) (by kernel_rfl) (by simp) ?_
                                    refine AllReady.cons rfl (fun K' hK => ?_) (AllReady.cons rfl (fun K' hK => ?_) AllReady.nil)
                                    · go_simp
                                      refine hK _ _ ?_
                                      clear hK
                                      refine wpAny_ready (rs := [5]) (by kernel_rfl) (by simp) ?_
                                      refine AllReady.cons rfl (fun K' hK => ?_) AllReady.nil
                                      go_simp
                                      refine hK _ _ ?_
                                      clear hK
                                      exact hT
                                    · go_simp
                                      refine hK _ _ ?_
                                      clear hK
                                      refine wpAny_ready (rs := [1]) (by kernel_rfl) (by simp) ?_
                                      refine AllReady.cons rfl (fun K' hK => ?_) AllReady.nil
                                      go_simp
                                      refine hK _ _ ?_
                                      clear hK
                                      exact hT
                                  · go_simp
                                    refine hK _ _ ?_
                                    clear hK
                                    refine wpAny_ready (rs := [0]) (by kernel_rfl) (by simp) ?_
                                    refine AllReady.cons rfl (fun K' hK => ?_) AllReady.nil
                                    go_simp
                                    refine hK _ _ ?_
                                    clear hK
                                    refine wpAny_ready (rs := [1]) (by kernel_rfl) (by simp) ?_
                                    refine AllReady.cons rfl (fun K' hK => ?_) AllReady.nil
                                    go_simp
                                    refine hK _ _ ?_
                                    clear hK
                                    exact hT
                                · refine wpAny_ready (rs := [6]) (by kernel_rfl) (by simp) ?_
                                  refine AllReady.cons rfl (fun K' hK => ?_) AllReady.nil
                                  refine step_append_at (by rfl) (.tmp 85) (.tmp 89) 23 (by rfl) w5.heap.size 44 i3 (.agg #[.int .i64 0, .slice none 0 0, .float .f64 0]) 3 40 Tryz.underlying23 hi3 hw0 hw1 hw2 (by rfl) (by decide) (.slice rvo L'.length rvc) L'.length (RC L') (by rfl) (HOWN6.out.alloc _) ⟨w6.heap.size, 0, none⟩ 1 1 [.int .i64 (f r.left), .slice (some ⟨mm, 0, none⟩) r.right.length r.right.length, .float .f64 r.wt] (by rfl) (by rfl) (fun j u hj => by rw [zero_add_addr]; exact ((Blk.new w6 44 #[.int .i64 (f r.left), .slice (some ⟨mm, 0, none⟩) r.right.length r.right.length, .float .f64 r.wt]).cell j).trans (by simpa using hj)) (by intro u hu; simp at hu; rcases hu with rfl | rfl | rfl <;> rfl) (by have := HLK.out; unfold maxLen; omega) (by have := HLK.out; omega) (by have := HS6.out.size; simp; omega) ?_
                                  intro rv9 w9 hR9 hg9 _
                                  obtain ⟨r9o, r9c, rfl⟩ := own_sl hR9
                                  have hput := (HS6.out.keep (below_al w6 (.cells #[.int .i64 (f r.left), .slice (some ⟨mm, 0, none⟩) r.right.length r.right.length, .float .f64 r.wt] 44))).put_rules (L' := L' ++ [(renR f r, some ⟨mm, 0, none⟩, r.right.length)]) (HOWN6.out.alloc (.cells #[.int .i64 (f r.left), .slice (some ⟨mm, 0, none⟩) r.right.length r.right.length, .float .f64 r.wt] 44)) (by rw [rc_snoc, List.length_append]; simpa [renR] using hR9) hg9
                                  have hri9 := ((HRI6.out.keep (below_al w6 (.cells #[.int .i64 (f r.left), .slice (some ⟨mm, 0, none⟩) r.right.length r.right.length, .float .f64 r.wt] 44))).grown (HOWN6.out.alloc (.cells #[.int .i64 (f r.left), .slice (some ⟨mm, 0, none⟩) r.right.length r.right.length, .float .f64 r.wt] 44)) hg9).set_ (i := 2) (u := .slice r9o (L'.length + 1) r9c) hput.2.2
                                  have hrow9 := own_setb (i := 2) (u := .slice r9o (L'.length + 1) r9c) (own_grown (HROW6.out.alloc (.cells #[.int .i64 (f r.left), .slice (some ⟨mm, 0, none⟩) r.right.length r.right.length, .float .f64 r.wt] 44)) hg9 (own_ne_type (HROW6.out.alloc (.cells #[.int .i64 (f r.left), .slice (some ⟨mm, 0, none⟩) r.right.length r.right.length, .float .f64 r.wt] 44)) (HOWN6.out.alloc (.cells #[.int .i64 (f r.left), .slice (some ⟨mm, 0, none⟩) r.right.length r.right.length, .float .f64 r.wt] 44)) (by decide))) hput.2.2 (by decide)
                                  have HPUT := Lib.hid hput
                                  have HRI9 := Lib.hid hri9
                                  have HROW9 := Lib.hid hrow9
                                  have k2 := hput.2.2.cell 2
                                  have k3 := hput.2.2.frozen 2
                                  simp only [List.getElem?_toArray, List.getElem?_cons_zero, List.getElem?_cons_succ] at k2
                                  clear hR9 hg9 hput hri9 hrow9 c6 c7
                                  refine hK _ _ ?_
                                  clear hK
                                  refine wpAny_ready (rs := [7]) (by kernel_rfl) (by simp) ?_
                                  refine AllReady.cons rfl (fun K' hK => ?_) AllReady.nil
                                  go_simp
                                  refine hK _ _ ?_
                                  clear hK
                                  refine wpAny_ready (rs := [8]) (by kernel_rfl) (by simp) ?_
                                  refine AllReady.cons rfl (fun K' hK => ?_) AllReady.nil
                                  go_simp
                                  refine hK _ _ ?_
                                  clear hK k2 k3
                                  refine wpAny_done (by kernel_rfl) ?_ _
                                  go_wp2
                                  refine ⟨⟨k + 1, L' ++ [(renR f r, some ⟨mm, 0, none⟩, r.right.length)], .slice r9o (L'.length + 1) r9c, hkk, congrArg (Value.int .i64) (by omega), HPUT.out.1, HPUT.out.2.1, fun x hx => ?_, by rw [HTK.out, List.map_append, HLE.out]; rfl⟩, by simp only [intOf]; omega⟩
                                  rcases List.mem_append.1 hx with hx | hx
                                  · exact HRI9.out x hx
                                  · have hx2 := List.mem_singleton.1 hx
                                    subst hx2
                                    exact ⟨⟨mm, rfl, by simp [renR], by simpa [renR] using HROW9.out⟩, HF64.out⟩
                          · refine wpAny_ready (rs := [1, 2]) (by kernel_rfl) (by simp) ?_
                            refine AllReady.cons rfl (fun K' hK => ?_) (AllReady.cons rfl (fun K' hK => ?_) AllReady.nil)
                            · go_simp
                              refine hK _ _ ?_
                              clear hK
                              exact hg013
                            · go_simp
                              refine hK _ _ ?_
                              clear hK
                              exact hg023
                        · refine wpAny_ready (rs := [1, 3]) (by kernel_rfl) (by simp) ?_
                          refine AllReady.cons rfl (fun K' hK => ?_) (AllReady.cons rfl (fun K' hK => ?_) AllReady.nil)
                          · go_simp
                            refine hK _ _ ?_
                            clear hK
                            exact hg012
                          · go_simp
                            refine hK _ _ ?_
                            clear hK
                            exact hg023
                      · refine wpAny_ready (rs := [2, 3]) (by kernel_rfl) (by simp) ?_
                        refine AllReady.cons rfl (fun K' hK => ?_) (AllReady.cons rfl (fun K' hK => ?_) AllReady.nil)
                        · go_simp
                          refine hK _ _ ?_
                          clear hK
                          exact hg012
                        · go_simp
                          refine hK _ _ ?_
                          clear hK
                          exact hg013
                    · refine wpAny_ready (rs := [1, 4]) (by kernel_rfl) (by simp) ?_
                      refine AllReady.cons rfl (fun K' hK => ?_) (AllReady.cons rfl (fun K' hK => ?_) AllReady.nil)
                      · go_simp
                        refine hK _ _ ?_
                        clear hK
                        exact hg0123
                      · clear hg013 hg012 hg0123
                        go_simp
                        go_at_call 54
                        refine (HREN.out 1).mono ?_
                        rintro e w6 ⟨mm, rfl, hmm2, hrow6, hb6⟩
                        have HB6 := Lib.hid ((below_drewN (below_al wr (.cells #[.int .i64 r.left, .slice ao r.right.length cp, .float .f64 r.wt] 44)) 1).trans (hb6.mono (by show wr.heap.size ≤ (wr.alloc _).heap.size; simp)))
                        have HROW6 := Lib.hid (own_weak hrow6 (show w5.heap.size ≤ _ by have := HS3.out.size; show w5.heap.size ≤ (wr.alloc _).heap.size; simp; omega))
                        have HS6 := Lib.hid (HS3.out.keep HB6.out)
                        have HOWN6 := Lib.hid (ownsRow_keep HOWN.out (fun g hg _ => HB6.out.block g hg))
                        have HRI6 := Lib.hid (HRI.out.keep HB6.out)
                        have c6 := HS6.out.box.cell 2
                        have c7 := (HS6.out.box.alloc (.cells #[.int .i64 (f r.left), .slice (some ⟨mm, 0, none⟩) r.right.length r.right.length, .float .f64 r.wt] 44)).cell 2
                        simp only [List.getElem?_toArray, List.getElem?_cons_zero, List.getElem?_cons_succ] at c6 c7
                        clear hb6 hrow6
                        refine hK _ _ ?_
                        clear hK
                        apply later_um
                        · intro hT
                          refine wpAny_ready (rs := [1, 5]) (by kernel_rfl) (by simp) ?_
                          refine AllReady.cons rfl (fun K' hK => ?_) (AllReady.cons rfl (fun K' hK => ?_) AllReady.nil)
                          · go_simp
                            refine hK _ _ ?_
                            clear hK
                            refine wpAny_ready (rs := [5]) (by kernel_rfl) (by simp) ?_
                            refine AllReady.cons rfl (fun K' hK => ?_) AllReady.nil
                            go_simp
                            refine hK _ _ ?_
                            clear hK
                            exact hT
                          · go_simp
                            refine hK _ _ ?_
                            clear hK
                            refine wpAny_ready (rs := [1]) (by kernel_rfl) (by simp) ?_
                            refine AllReady.cons rfl (fun K' hK => ?_) AllReady.nil
                            go_simp
                            refine hK _ _ ?_
                            clear hK
                            exact hT
                        · refine wpAny_ready (rs := [6]) (by kernel_rfl) (by simp) ?_
                          refine AllReady.cons rfl (fun K' hK => ?_) AllReady.nil
                          refine step_append_at (by rfl) (.tmp 85) (.tmp 89) 23 (by rfl) w5.heap.size 44 i3 (.agg #[.int .i64 0, .slice none 0 0, .float .f64 0]) 3 40 Tryz.underlying23 hi3 hw0 hw1 hw2 (by rfl) (by decide) (.slice rvo L'.length rvc) L'.length (RC L') (by rfl) (HOWN6.out.alloc _) ⟨w6.heap.size, 0, none⟩ 1 1 [.int .i64 (f r.left), .slice (some ⟨mm, 0, none⟩) r.right.length r.right.length, .float .f64 r.wt] (by rfl) (by rfl) (fun j u hj => by rw [zero_add_addr]; exact ((Blk.new w6 44 #[.int .i64 (f r.left), .slice (some ⟨mm, 0, none⟩) r.right.length r.right.length, .float .f64 r.wt]).cell j).trans (by simpa using hj)) (by intro u hu; simp at hu; rcases hu with rfl | rfl | rfl <;> rfl) (by have := HLK.out; unfold maxLen; omega) (by have := HLK.out; omega) (by have := HS6.out.size; simp; omega) ?_
                          intro rv9 w9 hR9 hg9 _
                          obtain ⟨r9o, r9c, rfl⟩ := own_sl hR9
                          have hput := (HS6.out.keep (below_al w6 (.cells #[.int .i64 (f r.left), .slice (some ⟨mm, 0, none⟩) r.right.length r.right.length, .float .f64 r.wt] 44))).put_rules (L' := L' ++ [(renR f r, some ⟨mm, 0, none⟩, r.right.length)]) (HOWN6.out.alloc (.cells #[.int .i64 (f r.left), .slice (some ⟨mm, 0, none⟩) r.right.length r.right.length, .float .f64 r.wt] 44)) (by rw [rc_snoc, List.length_append]; simpa [renR] using hR9) hg9
                          have hri9 := ((HRI6.out.keep (below_al w6 (.cells #[.int .i64 (f r.left), .slice (some ⟨mm, 0, none⟩) r.right.length r.right.length, .float .f64 r.wt] 44))).grown (HOWN6.out.alloc (.cells #[.int .i64 (f r.left), .slice (some ⟨mm, 0, none⟩) r.right.length r.right.length, .float .f64 r.wt] 44)) hg9).set_ (i := 2) (u := .slice r9o (L'.length + 1) r9c) hput.2.2
                          have hrow9 := own_setb (i := 2) (u := .slice r9o (L'.length + 1) r9c) (own_grown (HROW6.out.alloc (.cells #[.int .i64 (f r.left), .slice (some ⟨mm, 0, none⟩) r.right.length r.right.length, .float .f64 r.wt] 44)) hg9 (own_ne_type (HROW6.out.alloc (.cells #[.int .i64 (f r.left), .slice (some ⟨mm, 0, none⟩) r.right.length r.right.length, .float .f64 r.wt] 44)) (HOWN6.out.alloc (.cells #[.int .i64 (f r.left), .slice (some ⟨mm, 0, none⟩) r.right.length r.right.length, .float .f64 r.wt] 44)) (by decide))) hput.2.2 (by decide)
                          have HPUT := Lib.hid hput
                          have HRI9 := Lib.hid hri9
                          have HROW9 := Lib.hid hrow9
                          have k2 := hput.2.2.cell 2
                          have k3 := hput.2.2.frozen 2
                          simp only [List.getElem?_toArray, List.getElem?_cons_zero, List.getElem?_cons_succ] at k2
                          clear hR9 hg9 hput hri9 hrow9 c6 c7
                          refine hK _ _ ?_
                          clear hK
                          refine wpAny_ready (rs := [7]) (by kernel_rfl) (by simp) ?_
                          refine AllReady.cons rfl (fun K' hK => ?_) AllReady.nil
                          go_simp
                          refine hK _ _ ?_
                          clear hK
                          refine wpAny_ready (rs := [8]) (by kernel_rfl) (by simp) ?_
                          refine AllReady.cons rfl (fun K' hK => ?_) AllReady.nil
                          go_simp
                          refine hK _ _ ?_
                          clear hK k2 k3
                          refine wpAny_done (by kernel_rfl) ?_ _
                          go_wp2
                          refine ⟨⟨k + 1, L' ++ [(renR f r, some ⟨mm, 0, none⟩, r.right.length)], .slice r9o (L'.length + 1) r9c, hkk, congrArg (Value.int .i64) (by omega), HPUT.out.1, HPUT.out.2.1, fun x hx => ?_, by rw [HTK.out, List.map_append, HLE.out]; rfl⟩, by simp only [intOf]; omega⟩
                          rcases List.mem_append.1 hx with hx | hx
                          · exact HRI9.out x hx
                          · have hx2 := List.mem_singleton.1 hx
                            subst hx2
                            exact ⟨⟨mm, rfl, by simp [renR], by simpa [renR] using HROW9.out⟩, HF64.out⟩
                  · refine wpAny_ready (rs := [2]) (by kernel_rfl) (by simp) ?_
                    refine AllReady.cons rfl (fun K' hK => ?_) AllReady.nil
                    go_simp
                    refine hK _ _ ?_
                    clear hK
                    exact hg0123
                · refine wpAny_ready (rs := [3]) (by kernel_rfl) (by simp) ?_
                  refine AllReady.cons rfl (fun K' hK => ?_) AllReady.nil
                  go_simp
                  refine hK _ _ ?_
                  clear hK
                  exact hg0123
              · refine wpAny_ready (rs := [4]) (by kernel_rfl) (by simp) ?_
                refine AllReady.cons rfl (fun K' hK => ?_) AllReady.nil
                go_simp
                go_at_call 54
                refine (HREN.out 1).mono ?_
                rintro e w6 ⟨mm, rfl, hmm2, hrow6, hb6⟩
                have HB6 := Lib.hid ((below_drewN (below_al wr (.cells #[.int .i64 r.left, .slice ao r.right.length cp, .float .f64 r.wt] 44)) 1).trans (hb6.mono (by show wr.heap.size ≤ (wr.alloc _).heap.size; simp)))
                have HROW6 := Lib.hid (own_weak hrow6 (show w5.heap.size ≤ _ by have := HS3.out.size; show w5.heap.size ≤ (wr.alloc _).heap.size; simp; omega))
                have HS6 := Lib.hid (HS3.out.keep HB6.out)
                have HOWN6 := Lib.hid (ownsRow_keep HOWN.out (fun g hg _ => HB6.out.block g hg))
                have HRI6 := Lib.hid (HRI.out.keep HB6.out)
                have c6 := HS6.out.box.cell 2
                have c7 := (HS6.out.box.alloc (.cells #[.int .i64 (f r.left), .slice (some ⟨mm, 0, none⟩) r.right.length r.right.length, .float .f64 r.wt] 44)).cell 2
                simp only [List.getElem?_toArray, List.getElem?_cons_zero, List.getElem?_cons_succ] at c6 c7
                clear hb6 hrow6
                refine hK _ _ ?_
                clear hK
                refine wpAny_ready (rs := [5]) (by kernel_rfl) (by simp) ?_
                refine AllReady.cons rfl (fun K' hK => ?_) AllReady.nil
                go_simp
                refine hK _ _ ?_
                clear hK
                refine wpAny_ready (rs := [6]) (by kernel_rfl) (by simp) ?_
                refine AllReady.cons rfl (fun K' hK => ?_) AllReady.nil
                refine step_append_at (by rfl) (.tmp 85) (.tmp 89) 23 (by rfl) w5.heap.size 44 i3 (.agg #[.int .i64 0, .slice none 0 0, .float .f64 0]) 3 40 Tryz.underlying23 hi3 hw0 hw1 hw2 (by rfl) (by decide) (.slice rvo L'.length rvc) L'.length (RC L') (by rfl) (HOWN6.out.alloc _) ⟨w6.heap.size, 0, none⟩ 1 1 [.int .i64 (f r.left), .slice (some ⟨mm, 0, none⟩) r.right.length r.right.length, .float .f64 r.wt] (by rfl) (by rfl) (fun j u hj => by rw [zero_add_addr]; exact ((Blk.new w6 44 #[.int .i64 (f r.left), .slice (some ⟨mm, 0, none⟩) r.right.length r.right.length, .float .f64 r.wt]).cell j).trans (by simpa using hj)) (by intro u hu; simp at hu; rcases hu with rfl | rfl | rfl <;> rfl) (by have := HLK.out; unfold maxLen; omega) (by have := HLK.out; omega) (by have := HS6.out.size; simp; omega) ?_
                intro rv9 w9 hR9 hg9 _
                obtain ⟨r9o, r9c, rfl⟩ := own_sl hR9
                have hput := (HS6.out.keep (below_al w6 (.cells #[.int .i64 (f r.left), .slice (some ⟨mm, 0, none⟩) r.right.length r.right.length, .float .f64 r.wt] 44))).put_rules (L' := L' ++ [(renR f r, some ⟨mm, 0, none⟩, r.right.length)]) (HOWN6.out.alloc (.cells #[.int .i64 (f r.left), .slice (some ⟨mm, 0, none⟩) r.right.length r.right.length, .float .f64 r.wt] 44)) (by rw [rc_snoc, List.length_append]; simpa [renR] using hR9) hg9
                have hri9 := ((HRI6.out.keep (below_al w6 (.cells #[.int .i64 (f r.left), .slice (some ⟨mm, 0, none⟩) r.right.length r.right.length, .float .f64 r.wt] 44))).grown (HOWN6.out.alloc (.cells #[.int .i64 (f r.left), .slice (some ⟨mm, 0, none⟩) r.right.length r.right.length, .float .f64 r.wt] 44)) hg9).set_ (i := 2) (u := .slice r9o (L'.length + 1) r9c) hput.2.2
                have hrow9 := own_setb (i := 2) (u := .slice r9o (L'.length + 1) r9c) (own_grown (HROW6.out.alloc (.cells #[.int .i64 (f r.left), .slice (some ⟨mm, 0, none⟩) r.right.length r.right.length, .float .f64 r.wt] 44)) hg9 (own_ne_type (HROW6.out.alloc (.cells #[.int .i64 (f r.left), .slice (some ⟨mm, 0, none⟩) r.right.length r.right.length, .float .f64 r.wt] 44)) (HOWN6.out.alloc (.cells #[.int .i64 (f r.left), .slice (some ⟨mm, 0, none⟩) r.right.length r.right.length, .float .f64 r.wt] 44)) (by decide))) hput.2.2 (by decide)
                have HPUT := Lib.hid hput
                have HRI9 := Lib.hid hri9
                have HROW9 := Lib.hid hrow9
                have k2 := hput.2.2.cell 2
                have k3 := hput.2.2.frozen 2
                simp only [List.getElem?_toArray, List.getElem?_cons_zero, List.getElem?_cons_succ] at k2
                clear hR9 hg9 hput hri9 hrow9 c6 c7
                refine hK _ _ ?_
                clear hK
                refine wpAny_ready (rs := [7]) (by kernel_rfl) (by simp) ?_
                refine AllReady.cons rfl (fun K' hK => ?_) AllReady.nil
                go_simp
                refine hK _ _ ?_
                clear hK
                refine wpAny_ready (rs := [8]) (by kernel_rfl) (by simp) ?_
                refine AllReady.cons rfl (fun K' hK => ?_) AllReady.nil
                go_simp
                refine hK _ _ ?_
                clear hK k2 k3
                refine wpAny_done (by kernel_rfl) ?_ _
                go_wp2
                refine ⟨⟨k + 1, L' ++ [(renR f r, some ⟨mm, 0, none⟩, r.right.length)], .slice r9o (L'.length + 1) r9c, hkk, congrArg (Value.int .i64) (by omega), HPUT.out.1, HPUT.out.2.1, fun x hx => ?_, by rw [HTK.out, List.map_append, HLE.out]; rfl⟩, by simp only [intOf]; omega⟩
                rcases List.mem_append.1 hx with hx | hx
                · exact HRI9.out x hx
                · have hx2 := List.mem_singleton.1 hx
                  subst hx2
                  exact ⟨⟨mm, rfl, by simp [renR], by simpa [renR] using HROW9.out⟩, HF64.out⟩
            · obtain rfl : k = K.length := by omega
              have k0 := HS3.out.box.cell 0
              have k1 := HS3.out.box.cell 1
              have k2 := HS3.out.box.cell 2
              have hres : Blk wr (w.heap.size + 1) 25 #[.slice none 0 0, .slice none 0 0, .slice none 0 0] := (HB1.out.below HA5.out HB1.out.lt).below HS3.out.bel (by have := HZ5.out; omega)
              have q0 := hres.cell 0
              have q1 := hres.cell 1
              have q2 := hres.cell 2
              have f0 := hres.frozen 0
              have f1 := hres.frozen 1
              have f2 := hres.frozen 2
              simp only [List.getElem?_toArray, List.getElem?_cons_zero, List.getElem?_cons_succ] at k0 k1 k2 q0 q1 q2
              have HRES := Lib.hid hres
              have HAL : Hid (∃ m, Below w.heap.size w wr ∧ m = 0) := Lib.hid ⟨0, HBL.out.trans ((HA5.out.trans (HS3.out.bel.mono (by have := HA5.out.size; omega))).mono (by have := HZ.out; omega)), rfl⟩
              clear hres
              go_wp2
              refine bodyPost_ret (v := .tuple #[.agg #[.slice to Tl.length tcp, .slice no Nl.length nc, .slice rvo L'.length rvc], .slice so Wl.length sc, .bool true]) (by simp [results, Tryz.results22, go_sem, q0, q1, q2]) rfl ?_
              have hs1 := HRES.out.set_ 0 (.slice to Tl.length tcp)
              have hs2 := hs1.set_ 1 (.slice no Nl.length nc)
              have hle := HLE.out
              rw [List.take_length] at hle
              obtain ⟨_, hbel, _⟩ := HAL.out
              have hz5 := HZ5.out
              refine ⟨_, _, _, _, w5.heap.size, rfl, by omega, ?_, ?_, ?_, ?_, ?_⟩
              · rw [hnms]
                exact own_setb (own_setb (own_setb HS3.out.names HRES.out (by decide)) hs1 (by decide)) hs2 (by decide)
              · rw [HKE.out, hTL]
                exact own_setb (own_setb (own_setb HS3.out.terms HRES.out (by decide)) hs1 (by decide)) hs2 (by decide)
              · rw [hwrs]
                exact own_setb (own_setb (own_setb HS3.out.were HRES.out (by decide)) hs1 (by decide)) hs2 (by decide)
              · have h := own_rules (own_setb (i := 2) (u := .slice rvo L'.length rvc) (own_setb (i := 1) (u := .slice no Nl.length nc) (own_setb (i := 0) (u := .slice to Tl.length tcp) HOWN.out HRES.out (by decide)) hs1 (by decide)) hs2 (by decide)) (((HRI.out.set_ HRES.out).set_ hs1).set_ hs2).inr (Nat.le_refl _)
                rw [hle] at h
                rw [HKE.out]
                exact h
              · exact ((hbel.setCell (by show w.heap.size ≤ w.heap.size + 1; omega) _).setCell (by show w.heap.size ≤ w.heap.size + 1; omega) _).setCell (by show w.heap.size ≤ w.heap.size + 1; omega) _
end Go.Proofs.YtomikgkoegkofaaGreatDoor.dv

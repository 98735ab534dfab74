import Derived.Test.YtldamieigigncaaGreatDoorVcar
namespace Go.Proofs.YtldamieigigncaaGreatDoor.lx
open Go.ChangeShapes Go.WideShapes Go.ChangeAt Go.RowKit
set_option linter.unusedVariables false
attribute [local go_sem] run_store_float
theorem own_thawed {w : World} {B s n : Nat} {e : TypeId} {v : Value} {xs : List Value} (h : w.ownsRow B e s v n xs) {g : Nat} (hg : v.ownBlock = some g) (j : Nat) : w.frozen? ⟨g, j, none⟩ = false := by
  obtain ⟨cur, hc⟩ := own_blk h hg
  exact Lib.frozen_of_heap hc j
theorem trnJ_at {l : Ld} {j : Nat} {r : Rl} {x : Int} (h : r.2.1[j]? = some x) : (trnJ l j r).2.1[j]? = some x := by
  have hj := (List.getElem?_eq_some_iff.1 h).1
  show (_ ++ _)[j]? = _
  rw [List.getElem?_append_right (by simp; omega)]
  have : j - (List.map (turnS l.terms (srt l.terms)) (r.2.1.take j)).length = 0 := by simp; omega
  rw [this, List.getElem?_drop]
  simpa using h
theorem trnJ_len (l : Ld) (j : Nat) (r : Rl) : (trnJ l j r).2.1.length = r.2.1.length := by
  unfold trnJ
  simp
  omega
theorem idx_srt {l : Ld} {n : Nat} {c : List UInt8} (hc : l.terms[n]? = some c) : turnS l.terms (srt l.terms) (-(n : Int) - 1) = -(idxI (srt l.terms) c) - 1 ∧ 0 ≤ idxI (srt l.terms) c ∧ idxI (srt l.terms) c < (l.terms.length : Int) := by
  have hm : c ∈ srt l.terms := (srt_perm l.terms).mem_iff.2 (List.mem_of_getElem? hc)
  have h1 := List.idxOf_lt_length_of_mem hm
  rw [srt_len] at h1
  unfold turnS idxI
  rw [if_pos (by omega), if_pos hm]
  have e : (-(-(n : Int) - 1) - 1).toNat = n := by omega
  rw [e, List.getD_eq_getElem?_getD, hc]
  exact ⟨rfl, by omega, by exact_mod_cast h1⟩
set_option maxRecDepth 100000 in
set_option maxHeartbeats 8000000 in
theorem order_any {gl B N : Nat} {tv vv rv av : Value} {l : Ld} {w : World} (h : LdG gl B N tv vv rv av l w) (hB : B ≤ w.heap.size) (h64 : l.terms.length ≤ 64) (hr256 : l.rules.length ≤ 256) (h24 : ∀ r ∈ l.rules, r.2.1.length ≤ 24) (hsy : ∀ r ∈ l.rules, ∀ x ∈ r.2.1, x < 0 → ∃ n : Nat, x = -(n : Int) - 1 ∧ n < l.terms.length) :
    Calls Tryz.prog 26 #[.pointer (some ⟨gl, 0, none⟩)] w fun e w' => e = .returned (.tuple #[]) ∧ Below B w w' ∧ ∃ tv', LdG gl B N tv' vv rv av { l with terms := srt l.terms, rules := l.rules.map (trn l) } w' := by
  obtain ⟨tbo, tc, rfl⟩ := own_form h.ts
  obtain ⟨us0, _, hor0, _⟩ := h.rs
  obtain ⟨ro, rc, rfl⟩ := own_form hor0
  have H := Lib.hid h
  have H24 := Lib.hid h24
  have HSY := Lib.hid hsy
  have c0 : w.cell? ⟨gl, 0, none⟩ = some (.slice tbo l.terms.length tc) := h.box.cell 0
  have lg := h.box.lt
  have hw1 := h.below ((Below.refl _ w).alloc (Nat.le_refl _) (.cells #[.slice tbo l.terms.length tc] 23))
  have b1 := Blk.new w 23 #[.slice tbo l.terms.length tc]
  have hso := sorted_any (w.alloc (.cells #[.slice tbo l.terms.length tc] 23)) w.heap.size tc tbo l.terms (by omega) b1 (under_of (strs_of hw1.ts) (Nat.le_refl _))
  have HSO := Lib.hid hso
  have hb0 : Below w.heap.size w (w.alloc (.cells #[.slice tbo l.terms.length tc] 23)) := (Below.refl _ w).alloc (Nat.le_refl _) _
  have HB0 := Lib.hid hb0
  generalize htn : l.terms.length = tn at *
  generalize hrn : l.rules.length = rn at *
  have HTN := Lib.hid htn
  have HRN := Lib.hid hrn
  clear h hor0 h24 hsy hw1 b1 hso hb0 htn hrn
  go_enter Tryz.func26, Tryz.ntmps26
  go_upto_region 2 with (first
    | (go_at_call 66; refine (vals_any _ _ _ _).mono ?_; rintro e w' ⟨rfl, rfl⟩)
    | (go_at_call 65; refine HSO.out.mono ?_; rintro e w1 ⟨⟨v, rfl, hv⟩, hbw⟩; have hbz := HB0.out.trans (hbw.mono HB0.out.size); have hvz := own_low hv HB0.out.size; have hw1 := H.out.below hbz; have y0 := hw1.box.cell 0; have f0 := hw1.box.frozen 0; have l0 := hw1.box.lt; obtain ⟨vo, vc, rfl⟩ := own_form hv; have HBZ := Lib.hid hbz; have HVZ := Lib.hid hvz; clear hv hbw hbz hvz hw1))
  have hst := H.out.terms_set (v := .slice vo tn vc) (ts := srt l.terms) HBZ.out (by rw [srt_len, HTN.out]; exact HVZ.out) hB
  have hts := H.out.ts
  rw [HTN.out] at hts
  have hcm : (w1.setCell ⟨gl, 0, none⟩ (.slice vo tn vc)).ownsRow B 9 1 (.slice tbo tn tc) tn (l.terms.map sv) := ownsRow_keep hts (fun g hg hv => hst.2.block g hg (fun e => apartB hts H.out.box (by decide) (by have e : g = gl := e; rw [← e]; exact hv)))
  have hbe : Below B w (w1.setCell ⟨gl, 0, none⟩ (.slice vo tn vc)) := hst.2.below hB (fun i hi => by have hi : i = gl := hi; rw [hi]; exact H.out.ge)
  have HG := Lib.hid (show LdG gl B N (.slice vo tn vc) vv (.slice ro rn rc) av (ordI l 0) (w1.setCell ⟨gl, 0, none⟩ (.slice vo tn vc)) from hst.1)
  have HC := Lib.hid hcm
  have HBE := Lib.hid hbe
  clear hst hts hcm hbe y0 f0 l0 HBZ HVZ HSO HB0 c0 lg
  generalize w1.setCell ⟨gl, 0, none⟩ (.slice vo tn vc) = w2 at *
  have c2 : w2.cell? ⟨gl, 2, none⟩ = some (.slice ro rn rc) := HG.out.box.cell 2
  have lg := HG.out.box.lt
  go_wp2_with fail
  clear c2 lg
  go_loopw [25] (fun q wr => ∃ i : Nat, q = .int .i64 i ∧ i ≤ rn ∧ LdG gl B N (.slice vo tn vc) vv (.slice ro rn rc) av (ordI l i) wr ∧ Below B w wr ∧ wr.ownsRow B 9 1 (.slice tbo tn tc) tn (l.terms.map sv)) (fun q _ => rn - (intOf q).toNat)
  case atStart => exact ⟨0, rfl, Nat.zero_le _, HG.out, HBE.out, HC.out⟩
  case round =>
    clear HG HBE HC
    obtain ⟨i, rfl, hi, hg, hbe, hcm⟩ := hrel
    have HG := Lib.hid hg
    have HBE := Lib.hid hbe
    have HC := Lib.hid hcm
    by_cases hlt : i < rn
    · obtain ⟨r, hr⟩ : ∃ r, l.rules[i]? = some r := ⟨_, List.getElem?_eq_getElem (by rw [HRN.out]; exact hlt)⟩
      have hgj : LdG gl B N (.slice vo tn vc) vv (.slice ro rn rc) av (ordJ l i 0) wr := by rw [ordJ_zero]; exact hg
      obtain ⟨us, uo, uc, gr, cap, erv, hgr, hus, hor, hur, hap, eu, hu, k0, k1, k2⟩ := hgj.rule_at (ordJ_at hr)
      have hlen : (trnJ l 0 r).2.1.length = r.2.1.length := by simp [trnJ]
      rw [hlen] at k1
      injection erv with erv j1 j2
      subst erv
      clear j1 j2
      have hn24 := H24.out r (List.mem_of_getElem? hr)
      generalize hn : r.2.1.length = n at *
      have HN := Lib.hid hn
      have HR := Lib.hid hr
      clear hg hbe hcm hgj hus hor hur hap eu hu hr hn hlen
      have k0' : wr.cell? ⟨gr, i * 3, none⟩ = some (.int .i64 r.1) := k0
      have k2' : wr.cell? ⟨gr, i * 3 + 2, none⟩ = some (.float .f64 r.2.2) := k2
      clear k0 k2
      go_upto_region 5 with fail
      have b4 := Blk.new wr 41 #[.int .i64 r.1, .slice uo n uc, .float .f64 r.2.2]
      have hb4 : Below wr.heap.size wr (wr.alloc (.cells #[.int .i64 r.1, .slice uo n uc, .float .f64 r.2.2] 41)) := (Below.refl _ _).alloc (Nat.le_refl _) _
      have hzB : B ≤ wr.heap.size := Nat.le_trans hB HBE.out.size
      clear k0' k2'
      generalize wr.alloc (.cells #[.int .i64 r.1, .slice uo n uc, .float .f64 r.2.2] 41) = w4 at *
      have HG4 : Hid (LdG gl B N (.slice vo tn vc) vv (.slice (some ⟨gr, 0, none⟩) rn rc) av (ordJ l i 0) w4) := Lib.hid (by rw [ordJ_zero]; exact HG.out.below hb4)
      have HBE4 := Lib.hid (HBE.out.trans (hb4.mono hzB))
      have HC4 := Lib.hid (ownsRow_keep HC.out (fun g hg _ => hb4.block g hg))
      have HK4 : Hid (w4.cell? ⟨gr, i * 3 + 1, none⟩ = some (.slice uo n uc)) := Lib.hid ((hb4.cell (p := ⟨gr, i * 3 + 1, none⟩) hgr).trans k1)
      have q1 : w4.cell? ⟨wr.heap.size, 1, none⟩ = some (.slice uo n uc) := b4.cell 1
      have lb := b4.lt
      have HB4 := Lib.hid b4
      clear b4 hb4 HG HBE HC hgr k1 hzB
      go_wp2_with fail
      clear q1 lb
      obtain ⟨zb, hzb⟩ : ∃ z, wr.heap.size = z := ⟨_, rfl⟩
      rw [hzb] at HB4 ⊢
      clear hzb
      go_loopw [32] (fun q w5 => ∃ j : Nat, q = .int .i64 j ∧ j ≤ n ∧ LdG gl B N (.slice vo tn vc) vv (.slice (some ⟨gr, 0, none⟩) rn rc) av (ordJ l i j) w5 ∧ Below B w w5 ∧ w5.ownsRow B 9 1 (.slice tbo tn tc) tn (l.terms.map sv) ∧ w5.cell? ⟨gr, i * 3 + 1, none⟩ = some (.slice uo n uc) ∧ Blk w5 zb 41 #[.int .i64 r.1, .slice uo n uc, .float .f64 r.2.2]) (fun q _ => n - (intOf q).toNat)
      case atStart => exact ⟨0, rfl, Nat.zero_le _, HG4.out, HBE4.out, HC4.out, HK4.out, HB4.out⟩
      case round =>
        clear HG4 HBE4 HC4 HK4 HB4
        obtain ⟨j, rfl, hj, hg, hbe, hcm, hkc, hbx⟩ := hrel
        have HG := Lib.hid hg
        have HBE := Lib.hid hbe
        have HC := Lib.hid hcm
        have HKC := Lib.hid hkc
        have HBX := Lib.hid hbx
        by_cases hjn : j < n
        · obtain ⟨x, hx⟩ : ∃ x, r.2.1[j]? = some x := ⟨_, List.getElem?_eq_getElem (by rw [HN.out]; exact hjn)⟩
          obtain ⟨us, uo', uc', gr', cap', erv, hgr, hus, hor, hur, hap, eu, hu, k0, k1, k2⟩ := hg.rule_at (ordJ_at HR.out)
          injection erv with erv j1 j2
          clear j1 j2
          injection erv with erv
          injection erv with erv j1 j2
          clear j1 j2
          subst erv
          have hk1 := k1.symm.trans hkc
          injection hk1 with hk1
          injection hk1 with e1 e2 e3
          subst e1 e3
          clear e2
          rw [trnJ_len, HN.out] at eu hu
          obtain ⟨gu, cap2, e4, hBu, hgu, hcu⟩ := own_open hu (by omega)
          injection e4 with e5 j1 j2
          subst e5
          clear j1 j2
          have hgu0 : (Value.slice (some ⟨gu, 0, none⟩) n uc').ownBlock = some gu := rfl
          have c5 : wr.cell? ⟨gu, j, none⟩ = some (.int .i64 x) := hcu j _ (by rw [List.getElem?_map, trnJ_at hx]; rfl)
          have q1 : wr.cell? ⟨zb, 1, none⟩ = some (.slice (some ⟨gu, 0, none⟩) n uc') := hbx.cell 1
          have y0 : wr.cell? ⟨gl, 0, none⟩ = some (.slice vo tn vc) := hg.box.cell 0
          have lb := hbx.lt
          have lg := hg.box.lt
          by_cases h0 : x < 0
          · have hiv : ∀ w, Calls Tryz.prog 20 #[.int .i64 x] w fun e w' => e = .returned (.bool false) ∧ w' = w := fun w => by have := isVar_any x w; rwa [decide_eq_false (by omega)] at this
            obtain ⟨m, hxm, hm⟩ := HSY.out r (List.mem_of_getElem? HR.out) x (List.mem_of_getElem? hx) h0
            obtain ⟨c, hc⟩ : ∃ c, l.terms[m]? = some c := ⟨_, List.getElem?_eq_getElem (by rw [HTN.out]; exact hm)⟩
            have hid := idx_srt hc
            rw [← hxm, HTN.out] at hid
            obtain ⟨gc, cap3, e6, _, hgc, hcc⟩ := own_open hcm (by omega)
            injection e6 with e7 j1 j2
            subst e7
            clear j1 j2
            have cc : wr.cell? ⟨gc, m, none⟩ = some (.string (S c)) := hcc m _ (by rw [List.getElem?_map, hc]; rfl)
            have hxo := xorN m (by omega)
            rw [← hxm] at hxo
            have hxi := xorI (idxI (srt l.terms) c) hid.2.1 (by omega)
            have hlt9 : (ordJ l i j).terms.length = (srt l.terms).length := rfl
            have HTL := Lib.hid hlt9
            have hsl : (srt l.terms).length = tn := by rw [srt_len, HTN.out]
            have HSL := Lib.hid hsl
            have HIX := Lib.hid (fun wx (hx : Below wr.heap.size wr wx) => index_any wx _ (.slice vo tn vc) (srt l.terms) c (strs_of (HG.out.below hx).ts))
            clear hlt9 hsl
            have HID := Lib.hid hid.1
            have HU := Lib.hid hu
            have HOR := Lib.hid hor
            have HUS := Lib.hid hus
            have HUR := Lib.hid hur
            have HAP := Lib.hid hap
            have HEU := Lib.hid eu
            have HX := Lib.hid hx
            have HHR := Lib.hid hcu
            generalize hy : idxI (srt l.terms) c = y at *
            have HXM := Lib.hid hxm
            clear hg hbe hcm hkc hbx hus hor hur hap eu hu k0 k1 k2 hcu hcc hc hx hy hid hxm
            go_upto_region 9 with (go_at_call 20; refine (hiv _).mono ?_; rintro e w' ⟨rfl, rfl⟩)
            have f5 : w'.frozen? ⟨gu, j, none⟩ = false := own_thawed HU.out hgu0 j
            refine wp_region_E (fun W => Below w'.heap.size w' W) [16] (by kernel_rfl) ?_
            change anyE _ _ _ _ _ _ _ _ _ (World.drew _)
            have HS : Below w'.heap.size w' (World.drew w') := (Below.refl _ _).drew
            refine anyE_take (i := 0) (v := ?_) rfl (by kernel_rfl) (by kernel_rfl) (by kernel_rfl) (by kernel_rfl) (by kernel_rfl) (fun _ _ _ h => h) (Or.inl ⟨by kernel_rfl, ?_⟩) HS ?_
            rotate_left
            focus (intro wq _; go_simp; first | with_reducible rfl | (rw [if_pos (by omega)]; first | done | with_reducible rfl) | (rw [if_neg (by omega)]; first | done | with_reducible rfl))
            refine anyE_take (i := 1) (v := ?_) rfl (by kernel_rfl) (by kernel_rfl) (by kernel_rfl) (by kernel_rfl) (by kernel_rfl) (fun _ _ _ h => h) (Or.inl ⟨by kernel_rfl, ?_⟩) HS ?_
            rotate_left
            focus (intro wq hw; have hw := (hw.cell (p := ⟨zb, 1, none⟩) lb).trans q1; go_simp; with_reducible rfl)
            refine anyE_take (i := 2) (v := ?_) rfl (by kernel_rfl) (by kernel_rfl) (by kernel_rfl) (by kernel_rfl) (by kernel_rfl) (fun _ _ _ h => h) (Or.inl ⟨by kernel_rfl, ?_⟩) HS ?_
            rotate_left
            focus (intro wq _; go_simp; first | with_reducible rfl | (rw [if_pos (by omega)]; first | done | with_reducible rfl) | (rw [if_neg (by omega)]; first | done | with_reducible rfl))
            refine anyE_take (i := 3) (v := ?_) rfl (by kernel_rfl) (by kernel_rfl) (by kernel_rfl) (by kernel_rfl) (by kernel_rfl) (fun _ _ _ h => h) (Or.inl ⟨by kernel_rfl, ?_⟩) HS ?_
            rotate_left
            focus (intro wq _; go_simp; first | with_reducible rfl | (rw [if_pos (by omega)]; first | done | with_reducible rfl) | (rw [if_neg (by omega)]; first | done | with_reducible rfl))
            refine anyE_take (i := 4) (v := ?_) rfl (by kernel_rfl) (by kernel_rfl) (by kernel_rfl) (by kernel_rfl) (by kernel_rfl) (fun _ _ _ h => h) (Or.inl ⟨by kernel_rfl, ?_⟩) HS ?_
            rotate_left
            focus (intro wq _; go_simp; first | with_reducible rfl | (rw [if_pos (by omega)]; first | done | with_reducible rfl) | (rw [if_neg (by omega)]; first | done | with_reducible rfl))
            refine anyE_take (i := 5) (v := ?_) rfl (by kernel_rfl) (by kernel_rfl) (by kernel_rfl) (by kernel_rfl) (by kernel_rfl) (fun _ _ _ h => h) (Or.inl ⟨by kernel_rfl, ?_⟩) HS ?_
            rotate_left
            focus (intro wq _; go_simp; first | with_reducible rfl | (rw [if_pos (by omega)]; first | done | with_reducible rfl) | (rw [if_neg (by omega)]; first | done | with_reducible rfl))
            refine anyE_take (i := 6) (v := ?_) rfl (by kernel_rfl) (by kernel_rfl) (by kernel_rfl) (by kernel_rfl) (by kernel_rfl) (fun _ _ _ h => h) (Or.inl ⟨by kernel_rfl, ?_⟩) HS ?_
            rotate_left
            focus (intro wq _; go_simp; first | with_reducible rfl | (rw [if_pos (by omega)]; first | done | with_reducible rfl) | (rw [if_neg (by omega)]; first | done | with_reducible rfl))
            refine anyE_take (i := 7) (v := ?_) rfl (by kernel_rfl) (by kernel_rfl) (by kernel_rfl) (by kernel_rfl) (by kernel_rfl) (fun _ _ _ h => h) (Or.inl ⟨by kernel_rfl, ?_⟩) HS ?_
            rotate_left
            focus (intro wq hw; have hw := (hw.cell (p := ⟨gl, 0, none⟩) lg).trans y0; go_simp; with_reducible rfl)
            refine anyE_take (i := 8) (v := ?_) rfl (by kernel_rfl) (by kernel_rfl) (by kernel_rfl) (by kernel_rfl) (by kernel_rfl) (fun _ _ _ h => h) (Or.inl ⟨by kernel_rfl, ?_⟩) HS ?_
            rotate_left
            focus (intro wq _; go_simp; first | with_reducible rfl | (rw [if_pos (by omega)]; first | done | with_reducible rfl) | (rw [if_neg (by omega)]; first | done | with_reducible rfl))
            refine anyE_take (i := 9) (v := ?_) rfl (by kernel_rfl) (by kernel_rfl) (by kernel_rfl) (by kernel_rfl) (by kernel_rfl) (fun _ _ _ h => h) (Or.inl ⟨by kernel_rfl, ?_⟩) HS ?_
            rotate_left
            focus (intro wq _; go_simp; first | with_reducible rfl | (rw [if_pos (by omega)]; first | done | with_reducible rfl) | (rw [if_neg (by omega)]; first | done | with_reducible rfl))
            refine anyE_take (i := 10) (v := .int .i64 m) rfl (by kernel_rfl) (by kernel_rfl) (by kernel_rfl) (by kernel_rfl) (by kernel_rfl) (fun _ _ _ h => h) (Or.inl ⟨by kernel_rfl, ?_⟩) HS ?_
            focus (intro wq _; go_simp; first | exact hxo | (congr 2; exact hxo) | (rw [hxo]))
            refine anyE_take (i := 11) (v := ?_) rfl (by kernel_rfl) (by kernel_rfl) (by kernel_rfl) (by kernel_rfl) (by kernel_rfl) (fun _ _ _ h => h) (Or.inl ⟨by kernel_rfl, ?_⟩) HS ?_
            rotate_left
            focus (intro wq _; go_simp; first | with_reducible rfl | (rw [if_pos (by omega)]; first | done | with_reducible rfl) | (rw [if_neg (by omega)]; first | done | with_reducible rfl))
            refine anyE_take (i := 12) (v := ?_) rfl (by kernel_rfl) (by kernel_rfl) (by kernel_rfl) (by kernel_rfl) (by kernel_rfl) (fun _ _ _ h => h) (Or.inl ⟨by kernel_rfl, ?_⟩) HS ?_
            rotate_left
            focus (intro wq hw; have hw := (hw.cell (p := ⟨gc, m, none⟩) hgc).trans cc; go_simp; with_reducible rfl)
            refine anyE_ready (rs := [13]) (by kernel_rfl) (by simp) ?_
            refine ReadyE.cons rfl (by kernel_rfl) (fun K hK => ?_) ReadyE.nil
            go_simp
            go_at_call 51
            refine (HIX.out _ HS).mono ?_
            rintro e w2 ⟨rfl, rfl⟩
            refine hK.out _ _ (fun _ => HS) ?_
            clear hK K
            refine anyE_take (i := 14) (v := .int .i64 (-y - 1)) rfl (by kernel_rfl) (by kernel_rfl) (by kernel_rfl) (by kernel_rfl) (by kernel_rfl) (fun _ _ _ h => h) (Or.inl ⟨by kernel_rfl, ?_⟩) HS ?_
            focus (intro wq _; go_simp; first | exact hxi | (congr 2; exact hxi) | (rw [hxi]))
            refine anyE_take (i := 15) (v := ?_) rfl (by kernel_rfl) (by kernel_rfl) (by kernel_rfl) (by kernel_rfl) (by kernel_rfl) (fun _ _ _ h => h) (Or.inl ⟨by kernel_rfl, ?_⟩) HS ?_
            rotate_left
            focus (intro wq _; go_simp; first | with_reducible rfl | (rw [if_pos (by omega)]; first | done | with_reducible rfl) | (rw [if_neg (by omega)]; first | done | with_reducible rfl))
            refine anyE_rest (by kernel_rfl) ?_
            simp only [Act.put, List.setIfInBounds_toArray, List.set_cons_succ, List.set_cons_zero, List.getElem_toArray, List.getElem_cons_succ, List.getElem_cons_zero]
            have c6 : (World.drew w').cell? ⟨gu, j, none⟩ = some (.int .i64 x) := c5
            have f6 : (World.drew w').frozen? ⟨gu, j, none⟩ = false := f5
            have l6 : gu < (World.drew w').heap.size := hgu
            refine wpAny_ready (rs := [16]) (by kernel_rfl) (by simp) ?_
            refine AllReady.cons rfl (fun K hK => ?_) AllReady.nil
            go_simp
            refine hK _ _ ?_
            clear hK K
            refine wpAny_done (by kernel_rfl) ?_ _
            have hst := LdG.right_set (j := j) (y := -y - 1) (HG.out.below HS) HUS.out HOR.out HUR.out HAP.out (ordJ_at HR.out) HEU.out
            have e9 := ordJ_set (j := j) HR.out HX.out
            rw [HID.out] at e9
            rw [e9] at hst
            have hbz : B ≤ (World.drew w').heap.size := Nat.le_trans hB HBE.out.size
            have hbe6 := (HBE.out.trans (HS.mono hbz)).trans (hst.2.below hbz (fun i hi => by rw [hi]; exact hBu))
            have hc6 : World.ownsRow ((World.drew w').setCell ⟨gu, j, none⟩ (iv (-y - 1))) B 9 1 (.slice (some ⟨gc, 0, none⟩) tn tc) tn (l.terms.map sv) := ownsRow_keep HC.out (fun g hg hv => hst.2.block g hg (fun e => apart2 HC.out HU.out (by decide) hv (by rw [e]; rfl)))
            have hk6 : World.cell? ((World.drew w').setCell ⟨gu, j, none⟩ (iv (-y - 1))) ⟨gr, i * 3 + 1, none⟩ = some (.slice (some ⟨gu, 0, none⟩) n uc') := hst.2.cell (p := ⟨gr, i * 3 + 1, none⟩) HKC.out (fun e => apart2 HOR.out HU.out (by decide) rfl (by have e : gr = gu := e; rw [e]; rfl))
            have hx6 : Blk ((World.drew w').setCell ⟨gu, j, none⟩ (iv (-y - 1))) zb 41 #[.int .i64 r.1, .slice (some ⟨gu, 0, none⟩) n uc', .float .f64 r.2.2] := (show Blk (World.drew w') zb 41 #[.int .i64 r.1, .slice (some ⟨gu, 0, none⟩) n uc', .float .f64 r.2.2] from HBX.out).kept hst.2 (fun e => apartB HU.out HBX.out (by decide) (by have e : zb = gu := e; rw [e]; rfl))
            have HG6 := Lib.hid hst.1
            have HBE6 := Lib.hid hbe6
            have HC6 := Lib.hid hc6
            have HK6 := Lib.hid hk6
            have HX6 := Lib.hid hx6
            clear hst e9 hbe6 hc6 hk6 hx6 c6 f6 l6 f5 c5 q1 y0 lb lg cc hgc hgu HG HBE HC HKC HBX HS hbz
            have e6 : (w'.setCell ⟨gu, j, none⟩ (.int .i64 (-y - 1))).drew = (World.drew w').setCell ⟨gu, j, none⟩ (iv (-y - 1)) := rfl
            rw [e6]
            clear e6
            generalize (World.drew w').setCell ⟨gu, j, none⟩ (iv (-y - 1)) = w6 at *
            go_wp2_with fail
            refine ⟨⟨j + 1, ?_, hjn, HG6.out, HBE6.out, HC6.out, HK6.out, HX6.out⟩, ?_⟩
            · exact congrArg (Value.int .i64) (by omega)
            · simp only [intOf]; omega
          · have hiv : ∀ w, Calls Tryz.prog 20 #[.int .i64 x] w fun e w' => e = .returned (.bool true) ∧ w' = w := fun w => by have := isVar_any x w; rwa [decide_eq_true (by omega)] at this
            rw [ordJ_same HR.out hx h0] at hg
            have HG2 := Lib.hid hg
            clear hg hbe hcm hkc hbx hus hor hur hap eu hu k0 k1 k2 hcu y0 lb lg q1
            go_wp2_with (go_at_call 20; refine (hiv _).mono ?_; rintro e w' ⟨rfl, rfl⟩)
            refine ⟨⟨j + 1, ?_, hjn, HG2.out, HBE.out, HC.out, HKC.out, HBX.out⟩, ?_⟩
            · exact congrArg (Value.int .i64) (by omega)
            · simp only [intOf]; omega
        · obtain rfl : j = n := by omega
          rw [← HN.out, ordJ_end HR.out] at hg
          have HG2 := Lib.hid hg
          clear hg hbe hcm hkc hbx
          go_wp2_with fail
          exact ⟨⟨i + 1, congrArg (Value.int .i64) (by omega), hlt, HG2.out, HBE.out, HC.out⟩, by simp only [intOf]; omega⟩
    · obtain rfl : i = rn := by omega
      clear hg hbe hcm
      go_wp2_with fail
      go_end0
      refine ⟨rfl, HBE.out, .slice vo tn vc, ?_⟩
      rw [← ordI_end, HRN.out]
      exact HG.out
end Go.Proofs.YtldamieigigncaaGreatDoor.lx


import Derived.Test.YtomikgkoegkofaaGreatDoorUsz
namespace Go.Proofs.YtomikgkoegkofaaGreatDoor.dv
open Go.ChangeShapes Go.WideShapes Go.ChangeAt Go.RowKit Go.Maps Go.WideMaps Go.WideElems
set_option linter.unusedVariables false
set_option linter.unusedSimpArgs false
/-! layer 9: wide -/
attribute [local go_sem] run_store_fl
theorem wpasses_snoc (R : List Rl) (W : List Way) (n : Nat) : ∀ (k : Nat) (f : Nat → Nat), wpasses R W n (k + 1) f = wpass R W (List.range n) (wpasses R W n k f)
  | 0, f => rfl
  | k + 1, f => by
    rw [wpasses, wpasses_snoc R W n k (wpass R W (List.range n) f)]
    rfl
theorem wpass_app (R : List Rl) (W : List Way) : ∀ (us vs : List Nat) (f : Nat → Nat), wpass R W (us ++ vs) f = wpass R W vs (wpass R W us f)
  | [], vs, f => rfl
  | u :: us, vs, f => by
    show wpass R W (us ++ vs) (upd f u (wst R W f u)) = _
    rw [wpass_app R W us vs]
    rfl
theorem wpass_snoc (R : List Rl) (W : List Way) (u : Nat) (f : Nat → Nat) : wpass R W (List.range (u + 1)) f = upd (wpass R W (List.range u) f) u (wst R W (wpass R W (List.range u) f) u) := by
  rw [List.range_succ, wpass_app]
  rfl
theorem capF_drop {f : Nat → Nat} {C n j : Nat} {F : List Int} (hj : j < F.length) : capF f C n (F.drop j) = capF f C (if 0 ≤ F.getD j 0 then min (n + f (F.getD j 0).toNat) C else n) (F.drop (j + 1)) := by
  have hdr : F.drop j = F.getD j 0 :: F.drop (j + 1) := by
    rw [List.getD_eq_getElem?_getD, List.getElem?_eq_getElem hj, List.drop_eq_getElem_cons hj]; rfl
  rw [hdr, capF]
theorem cap20 (n y : Nat) : min ((n : Int) + (y : Int)) 1048576 = ((min (n + y) 1048576 : Nat) : Int) := by omega
structure StD (w : World) (gc : Array Value) (m vl : Nat) (f : Nat → Nat) (W : World) : Prop where
  gram : Blk W w.heap.size 25 gc
  below : Below w.heap.size w W
  row : W.ownsRow w.heap.size 3 1 (.slice (some ⟨m, 0, none⟩) vl vl) vl (NF vl f)
  top : ∀ x, f x ≤ 1048576
section
variable {w : World} {gc : Array Value} {m vl : Nat} {f : Nat → Nat} {W W' : World}
theorem StD.get (h : StD w gc m vl f W) {x : Nat} (hx : x < vl) : W.cell? ⟨m, x, none⟩ = some (.int .i64 (f x : Nat)) := by
  rw [h.row.cellAt x (by omega)]
  exact nf_get f hx
theorem StD.put (h : StD w gc m vl f W) (x y : Nat) (hy : y ≤ 1048576) : StD w gc m vl (upd f x y) (W.setCell ⟨m, x, none⟩ (.int .i64 (y : Nat))) := by
  obtain ⟨o1, o2⟩ := h.row.stored x (.int .i64 (y : Nat))
  refine ⟨h.gram.grown o2 (h.gram.not_row (by decide) h.row), h.below.grown o2 h.below.size (fun r e => (row_cells h.row r e).1), by rw [nf_upd]; exact o1, fun v => ?_⟩
  unfold upd
  split
  · exact hy
  · exact h.top v
end
set_option maxRecDepth 100000 in
set_option maxHeartbeats 4000000 in
theorem wide_any (w : World) (B : Nat) (ta va : Option Addr) (tl tc vl vc : Nat) (rv bv : Value) (R : List Rl) (Ws : List Way) (D : List Int) (v : Nat) (hR : RulesAt B w rv R) (hB : B ≤ w.heap.size) (hvr : ∀ r ∈ R, ∀ s ∈ r.right, 0 ≤ s → s < vl) (hv : vl ≤ 1000) (hbst : RowAt w bv D) (hDl : D.length = vl) (hD : ∀ u, u < vl → D.getD u 0 = (Ws.getD u noW).2.2) (hkr : ∀ u, u < vl → 0 ≤ (Ws.getD u noW).2.2 → (Ws.getD u noW).2.2 < R.length) (hvv : v < vl) :
    Calls Tryz.prog 20 #[.agg #[.slice ta tl tc, .slice va vl vc, rv], bv, .int .i64 v] w fun e w' => e = .returned (.bool (decide (4096 < wpasses R Ws vl vl (fun _ => 0) v))) ∧ Below w.heap.size w w' := by
  obtain ⟨i0, hi0, hy0, hy1, hy2⟩ := info_parts info_int
  obtain ⟨ra, rc, rfl, hn, _⟩ := id hR
  obtain ⟨bo, bc, rfl, _, hbm, _, _, hbc⟩ := id hbst
  rw [hDl] at *
  have b0 := Blk.new w 25 #[.slice ta tl tc, .slice va vl vc, .slice ra R.length rc]
  have hbl : Below w.heap.size w (w.alloc (.cells #[.slice ta tl tc, .slice va vl vc, .slice ra R.length rc] 25)) := (Below.refl _ w).alloc (Nat.le_refl _) _
  have hR63 : R.length ≤ 9223372036854775807 := by unfold maxLen at hn; omega
  have hz : (w.alloc (.cells #[.slice ta tl tc, .slice va vl vc, .slice ra R.length rc] 25)).heap.size = w.heap.size + 1 := by simp
  generalize hW0 : w.alloc (.cells #[.slice ta tl tc, .slice va vl vc, .slice ra R.length rc] 25) = w0 at *
  obtain ⟨res, hres⟩ : ∃ b, b = decide (4096 < wpasses R Ws vl vl (fun _ => 0) v) := ⟨_, rfl⟩
  rw [← hres]
  have HRES := Lib.hid hres
  have HR := Lib.hid hR
  have HVR := Lib.hid hvr
  have HBC := Lib.hid hbc
  have HD := Lib.hid hD
  have HKR := Lib.hid hkr
  have HB0 := Lib.hid b0
  have HBL := Lib.hid hbl
  have HZ := Lib.hid hz
  have c1 := b0.cell 1
  simp only [List.getElem?_toArray, List.getElem?_cons_zero, List.getElem?_cons_succ] at c1
  clear hR hvr b0 hbl hbst hbc hD hkr hres hDl
  go_enter Tryz.func20, Tryz.ntmps20
  go_wp2_with (at_make; refine wpList_make_full _ rfl _ _ 28 rfl w0.heap.size 3 i0 (.int .i64 0) 1 Tryz.underlying28 hi0 hy0 hy1 .i64 .i64 _ _ vl rfl rfl rfl rfl (by rw [hy2]; omega) (by unfold maxLen; omega) (Nat.le_refl _) ?_; intro w4 hown4 hgrow4; have hb4 : Below w0.heap.size w0 w4 := (Below.refl _ _).grown hgrow4 (Nat.le_refl _) (fun k e => by cases e); have s1 := (HB0.out.below hb4 HB0.out.lt).cell 1; simp only [List.getElem?_toArray, List.getElem?_cons_zero, List.getElem?_cons_succ] at s1; have HOWN4 := Lib.hid hown4; have HB4 := Lib.hid hb4; clear hown4 hgrow4 hb4)
  have hst0 : StD w #[.slice ta tl tc, .slice va vl vc, .slice ra R.length rc] (w.heap.size + 1) vl (fun _ => 0) w4 := by
    refine ⟨HB0.out.below HB4.out HB0.out.lt, HBL.out.trans (HB4.out.mono (by have := HZ.out; omega)), ?_, fun x => Nat.zero_le _⟩
    have h1 := HOWN4.out
    rw [show (Value.int .i64 0).cells = #[.int .i64 0] from rfl, toList_madeCells_one, Nat.mul_one, HZ.out] at h1
    have h2 : NF vl (fun _ => 0) = List.replicate vl (Value.int .i64 0) := by
      unfold NF IV
      rw [List.map_map]
      refine List.ext_getElem (by simp) (fun i h3 h4 => by simp)
    rw [h2]
    exact ⟨h1.1, h1.2.imp id (fun ⟨g, cap, cur, e, hb, h⟩ => ⟨g, cap, cur, e, by omega, h⟩)⟩
  have HST0 := Lib.hid hst0
  clear hst0 c1 s1
  go_loopw [20] (fun q W => ∃ c : Nat, c ≤ vl ∧ q = .int .i64 c ∧ StD w #[.slice ta tl tc, .slice va vl vc, .slice ra R.length rc] (w.heap.size + 1) vl (wpasses R Ws vl c (fun _ => 0)) W) (fun q _ => vl - (intOf q).toNat)
  case atStart => exact ⟨0, Nat.zero_le _, rfl, HST0.out⟩
  case round =>
    obtain ⟨W, rfl⟩ : ∃ W : World, W = wr := ⟨_, rfl⟩
    obtain ⟨c, hc, hq, hst⟩ := hrel
    obtain rfl := hq
    have HST := Lib.hid hst
    have z2 := hst.gram.cell 2
    simp only [List.getElem?_toArray, List.getElem?_cons_zero, List.getElem?_cons_succ] at z2
    clear hst HST0
    have HSN := Lib.hid (wpasses_snoc R Ws vl c (fun _ => 0))
    generalize hFE : wpasses R Ws vl c (fun _ => 0) = f at *
    have HFE := Lib.hid hFE
    clear hFE
    by_cases hlt : c < vl
    · have hlt2 : (c : Int) < (vl : Int) := by omega
      go_wp2
      go_loopw [24] (fun q W => ∃ u : Nat, u ≤ vl ∧ q = .int .i64 u ∧ StD w #[.slice ta tl tc, .slice va vl vc, .slice ra R.length rc] (w.heap.size + 1) vl (wpass R Ws (List.range u) f) W) (fun q _ => vl - (intOf q).toNat)
      case atStart => exact ⟨0, Nat.zero_le _, rfl, HST.out⟩
      case round =>
        obtain ⟨X, rfl⟩ : ∃ X : World, X = wr := ⟨_, rfl⟩
        obtain ⟨u, hu, hq, hst⟩ := hrel
        obtain rfl := hq
        have XST := Lib.hid hst
        have z2 := hst.gram.cell 2
        simp only [List.getElem?_toArray, List.getElem?_cons_zero, List.getElem?_cons_succ] at z2
        by_cases hut : u < vl
        · have hsn := wpass_snoc R Ws u f
          obtain ⟨a4, rfl, hab4, hca4⟩ := HBC.out u hut
          rw [HD.out u hut] at hca4
          have hca4 := (hst.below.cell (p := a4.add u) (by rw [add_block]; exact hab4)).trans hca4
          have hkr := HKR.out u hut
          have hw : ∀ P, wst R Ws P u = if 0 ≤ (Ws.getD u noW).2.2 then capF P 1048576 1 (R.getD (Ws.getD u noW).2.2.toNat ⟨0, [], 0⟩).right else 1 := fun P => rfl
          rw [hw] at hsn
          generalize hPE : wpass R Ws (List.range u) f = P at *
          generalize (Ws.getD u noW).2.2 = kq at *
          have hu0 : (0 : Int) ≤ (u : Int) := by omega
          have hu1 : (u : Int) < (vl : Int) := by omega
          have hput : ∀ z : Int, ∀ y : Nat, z = y → y ≤ 1048576 → wpass R Ws (List.range (u + 1)) f = upd P u y → StD w #[.slice ta tl tc, .slice va vl vc, .slice ra R.length rc] (w.heap.size + 1) vl (wpass R Ws (List.range (u + 1)) f) (X.setCell ⟨w.heap.size + 1, u, none⟩ (.int .i64 z)) := fun z y hz hy he => by
            rw [hz, he]
            exact XST.out.put u y hy
          have hfz : X.frozen? ⟨w.heap.size + 1, u, none⟩ = false := XST.out.row.frozenAt u
          have hcu := XST.out.get hut
          obtain ⟨pu, hpu⟩ : ∃ y, y = P u := ⟨_, rfl⟩
          rw [← hpu] at hcu
          clear hpu
          have HPUT := Lib.hid hput
          have HTOP := Lib.hid hst.top
          by_cases hk0 : 0 ≤ kq
          · have hkl := hkr hk0
            obtain ⟨k, rfl⟩ : ∃ k : Nat, kq = k := ⟨kq.toNat, by omega⟩
            have hkl2 : k < R.length := by omega
            obtain ⟨r, hrk⟩ : ∃ r, R[k]? = some r := ⟨_, List.getElem?_eq_getElem hkl2⟩
            have hrm := List.mem_of_getElem? hrk
            have hvr := HVR.out r hrm
            rw [if_pos hk0, Int.toNat_natCast, List.getD_eq_getElem?_getD, hrk, Option.getD_some] at hsn
            obtain ⟨ra', rc', er, _, hr2⟩ := HR.out.far (hst.below.mono hB)
            cases er
            obtain ⟨a2, rfl, hab2, ao2, c2, h1, h2, h3, h4, h5, h6, h7, h8⟩ := hr2 k r hrk
            rw [addf a2 (k * 3) 1 (by decide)] at h2
            obtain ⟨lf, F, wt⟩ := r
            dsimp only at h1 h2 h3 h4 h5 h6 h7 h8 hvr hsn
            have hF63 : F.length ≤ 9223372036854775807 := by unfold maxLen at h5; omega
            have HF7 := Lib.hid h7
            have HVF := Lib.hid hvr
            have HSNP := Lib.hid hsn
            have hge : decide ((0 : Int) ≤ (k : Int)) = true := decide_eq_true (by omega)
            clear hr2 h1 h3 h4 h5 h6 h7 h8 hrk hrm hvr hsn hput hkr hst hw HST hPE
            go_wp2
            go_loopw [10, 38] (fun qn q wr => ∃ j n : Nat, j ≤ F.length ∧ qn = .int .i64 n ∧ q = .int .i64 j ∧ capF P 1048576 1 F = capF P 1048576 n (F.drop j) ∧ n ≤ 1048576 ∧ wr = X) (fun _ q _ => F.length - (intOf q).toNat)
            case atStart => exact ⟨0, 1, Nat.zero_le _, rfl, rfl, rfl, by decide, by first | exact rfl | trivial⟩
            case round =>
              obtain ⟨j, n, hj, hqn, hq, hns, hn20, hww⟩ := hrel
              obtain rfl := hqn
              obtain rfl := hq
              obtain rfl : X = wr := hww.symm
              clear hww
              have HNS := Lib.hid hns
              clear hns
              by_cases hjt : j < F.length
              · obtain ⟨a3, rfl, hab3, hca⟩ := HF7.out j hjt
                have hsv := HVF.out (F.getD j 0) (by rw [List.getD_eq_getElem?_getD, List.getElem?_eq_getElem hjt]; exact List.getElem_mem _)
                have hnd := HNS.out
                rw [capF_drop hjt] at hnd
                have HND := Lib.hid hnd
                have hj0 : (0 : Int) ≤ (j : Int) := by omega
                have hj1 : (j : Int) < (F.length : Int) := by omega
                clear hnd
                generalize F.getD j 0 = s at *
                by_cases hs0 : 0 ≤ s
                · have hs1 := hsv hs0
                  obtain ⟨sn, rfl⟩ : ∃ sn : Nat, s = sn := ⟨s.toNat, by omega⟩
                  have hsn : sn < vl := by omega
                  have hcs := XST.out.get hsn
                  have htp := HTOP.out sn
                  have hd0 : decide ((0 : Int) ≤ (sn : Int)) = true := decide_eq_true (by omega)
                  have hnd := HND.out
                  rw [if_pos hs0, Int.toNat_natCast] at hnd
                  obtain ⟨y, hy⟩ : ∃ y, y = P sn := ⟨_, rfl⟩
                  rw [← hy] at hcs hnd htp
                  have HND2 := Lib.hid hnd
                  clear hnd hy
                  go_wp2
                  exact ⟨⟨j + 1, min (n + y) 1048576, hjt, congrArg (Value.int .i64) (cap20 n y), congrArg (Value.int .i64) (by omega), HND2.out, Nat.min_le_right _ _, by first | exact rfl | trivial⟩, by simp only [intOf]; omega⟩
                · have hd0 : decide ((0 : Int) ≤ s) = false := decide_eq_false hs0
                  have hnd := HND.out
                  rw [if_neg hs0] at hnd
                  have HND2 := Lib.hid hnd
                  clear hnd
                  go_wp2
                  exact ⟨⟨j + 1, n, hjt, rfl, congrArg (Value.int .i64) (by omega), HND2.out, hn20, by first | exact rfl | trivial⟩, by simp only [intOf]; omega⟩
              · obtain rfl : j = F.length := by omega
                have hsum : capF P 1048576 1 F = n := by rw [HNS.out, List.drop_length]; rfl
                have HPUT2 := Lib.hid (HPUT.out (n : Int) n rfl hn20 (by rw [HSNP.out, hsum]))
                clear hsum
                go_wp2
                exact ⟨⟨u + 1, hut, congrArg (Value.int .i64) (by omega), HPUT2.out⟩, by simp only [intOf]; omega⟩
          · have hge : decide ((0 : Int) ≤ kq) = false := decide_eq_false hk0
            rw [if_neg hk0] at hsn
            have HPUT2 := Lib.hid (HPUT.out 1 1 rfl (by decide) hsn)
            clear hput hkr hst hsn hw HST hPE
            go_wp2
            exact ⟨⟨u + 1, hut, congrArg (Value.int .i64) (by omega), HPUT2.out⟩, by simp only [intOf]; omega⟩
        · obtain rfl : u = vl := by omega
          clear hst
          go_wp2
          refine ⟨⟨c + 1, hlt, congrArg (Value.int .i64) (by omega), ?_⟩, by simp only [intOf]; omega⟩
          rw [HSN.out]
          exact XST.out
    · obtain rfl : c = vl := by omega
      have hcv := HST.out.get hvv
      have hv0 : (0 : Int) ≤ (v : Int) := by omega
      have hv1 : (v : Int) < (c : Int) := by omega
      have hr := HRES.out
      rw [HFE.out] at hr
      obtain ⟨y, hy⟩ : ∃ y, y = f v := ⟨_, rfl⟩
      rw [← hy] at hcv hr
      have HRR := Lib.hid hr
      clear hy hr
      by_cases hyb : 4096 < y
      · have hg : decide ((4096 : Int) < (y : Int)) = true := decide_eq_true (by omega)
        have ht : res = true := by rw [HRR.out]; exact decide_eq_true hyb
        subst ht
        go_wp2
        go_ret
        exact ⟨rfl, HST.out.below⟩
      · have hg : decide ((4096 : Int) < (y : Int)) = false := decide_eq_false (by omega)
        have ht : res = false := by rw [HRR.out]; exact decide_eq_false hyb
        subst ht
        go_wp2
        go_ret
        exact ⟨rfl, HST.out.below⟩
end Go.Proofs.YtomikgkoegkofaaGreatDoor.dv

import Derived.Test.YtomikgkoegkofaaTbb
import Derived.Test.YtomikgkoegkofaaJa
import Derived.BigQuiet
import Derived.Deep.QuietTactic
import Derived.Deep.AppendLies
import Derived.Test.YtomikgkoegkofaaTrm
import Derived.Test.YtomikgkoegkofaaDvq
namespace Go.Proofs.Ytomikgkoegkofaa.dt
open Go.ChangeShapes Go.WideShapes Go.ChangeAt Go.RowKit Go.Maps Go.WideMaps Go.WideElems Go.Shelf Go.Lib Go.Proofs.Ytomikgkoegkofaa.dv
set_option linter.unusedVariables false
set_option linter.unusedSimpArgs false
/-! a tree as text -/
theorem Bld.lt {B b : Nat} {l : List UInt8} {w : World} (h : Bld B b l w) : b < w.heap.size ∧ B ≤ b := by
  rcases h with h | h
  · exact ⟨h.lt, h.1⟩
  · exact ⟨h.lt, h.1⟩
theorem BuilderAt_keep {B b : Nat} {p : Value} {bs : List Value} {w w' : World} (h : Lib.BuilderAt 94 5 B b p bs w) (hb : Below w.heap.size w w') : Lib.BuilderAt 94 5 B b p bs w' := by
  have hlt := h.lt
  obtain ⟨h1, v, h2, h3, h4⟩ := h
  exact ⟨h1, v, (hb.block b hlt).trans h2, ownsRow_keep h3 (fun g hg _ => hb.block g hg), h4⟩
theorem Bld.keep {B b : Nat} {l : List UInt8} {w w' : World} (h : Bld B b l w) (hb : Below w.heap.size w w') : Bld B b l w' := by
  rcases h with h | h
  · exact .inl (BuilderAt_keep h hb)
  · exact .inr (BuilderAt_keep h hb)
theorem others_keep {b : Nat} {w w' : World} (hb : Below w.heap.size w w') : Lib.OthersKept 5 (some b) w w' := fun k o hk _ _ => by
  rw [hb.block k (Array.getElem?_eq_some_iff.1 hk).1]
  exact hk
theorem others_blk {b p : Nat} {w w' : World} {t : TypeId} {cs : Array Value} (h : Lib.OthersKept 5 (some b) w w') (hp : Blk w p t cs) (hne : p ≠ b) (ht : t ≠ 5) : Blk w' p t cs :=
  h p _ hp (fun e => hne (Option.some.inj e)) (fun c fz e => by cases e; exact ht rfl)
theorem getD_short {L : List ByteArray} (h : Short L) (k : Nat) : (L.getD k ByteArray.empty).size ≤ 1000 := by
  by_cases hk : k < L.length
  · exact h _ (getD_mem L k hk)
  · rw [List.getD_eq_getElem?_getD, List.getElem?_eq_none (by omega)]
    exact Nat.zero_le _
theorem nameB_len {VS TS : List ByteArray} (hSV : Short VS) (hST : Short TS) (s : Int) : (nameB VS TS s).size ≤ 1002 := by
  unfold nameB
  split
  · have := getD_short hSV s.toNat; omega
  · have := getD_short hST (-s - 1).toNat
    rw [ByteArray.size_append, ByteArray.size_append]
    have e : ByteArray.size ⟨#[39]⟩ = 1 := rfl
    omega
def nmB (VS TS : List ByteArray) (s : Int) : List UInt8 := (nameB VS TS s).data.toList
theorem nmB_len {VS TS : List ByteArray} (hSV : Short VS) (hST : Short TS) (s : Int) : (nmB VS TS s).length ≤ 1002 := by
  have h := nameB_len hSV hST s
  have e : (nameB VS TS s).data.toList.length = (nameB VS TS s).size := Array.length_toList
  unfold nmB
  omega
theorem Fo.text_len {nm : Int → List UInt8} (h : ∀ s, (nm s).length ≤ 1002) : ∀ f : Fo, (f.text nm).length ≤ 1006 * f.size
  | .nil => Nat.le_refl _
  | .node s r k f => by
    have h1 := text_len h k
    have h2 := text_len h f
    have h3 := h s
    simp only [Fo.text, Fo.size, List.length_append, List.length_cons]
    split <;> (try simp only [List.length_append, List.length_cons, List.length_nil]) <;> omega
theorem paren_size (nm : ByteArray) : (⟨#[40]⟩ ++ nm : ByteArray).size = nm.size + 1 := by
  rw [ByteArray.size_append]
  have : ByteArray.size ⟨#[40]⟩ = 1 := rfl
  omega
theorem paren_app (nm : ByteArray) : (⟨#[40]⟩ ++ nm : ByteArray).data.toList = 40 :: nm.data.toList := by rw [ByteArray.data_append]; simp
theorem cell_lt {W : World} {p : Addr} {v : Value} (h : W.cell? p = some v) : p.block < W.heap.size := by
  unfold World.cell? at h
  cases hh : W.heap[p.block]? with
  | none => rw [hh] at h; cases h
  | some o => exact (Array.getElem?_eq_some_iff.1 hh).1
theorem Fo.text_node (nm : Int → List UInt8) (s r : Int) (k f : Fo) : (Fo.node s r k f).text nm = (32 :: Fo.one nm s k) ++ f.text nm := rfl
theorem Fo.one_len {nm : Int → List UInt8} (h : ∀ s, (nm s).length ≤ 1002) (s : Int) (k : Fo) : (Fo.one nm s k).length ≤ 1006 * (k.size + 1) := by
  have h1 := Fo.text_len h (.node s 0 k .nil)
  rw [Fo.text_node] at h1
  simp only [Fo.size, Fo.text, List.length_append, List.length_cons, List.length_nil] at h1
  omega
set_option maxRecDepth 100000 in
set_option maxHeartbeats 1000000 in
theorem write_tree (w0 : World) (ta va ra : Option Addr) (tc vc rl rc : Nat) (VS TS : List ByteArray) (hV : TxtAt w0.heap.size w0 (.slice va VS.length vc) VS) (hT : TxtAt w0.heap.size w0 (.slice ta TS.length tc) TS) (hSV : Short VS) (hST : Short TS) (b : Nat) :
    ∀ (N : Nat) (s r : Int) (k : Fo) (c : Nat), k.size < N → FoAt w0 [c] (.node s r k .nil) → (Fo.node s r k .nil).For (fun s r => In64 s ∧ symB VS TS s) → k.size ≤ 999999 → ∀ (l : List UInt8) (w : World), Below w0.heap.size w0 w → Bld w0.heap.size b l w → l.length + 1010 * (k.size + 1) ≤ 70368744177664 →
    Calls Try.prog 65 #[PtrV c, .pointer (some ⟨b, 0, none⟩), .agg #[.slice ta TS.length tc, .slice va VS.length vc, .slice ra rl rc]] w fun e w' => e = .returned (.tuple #[]) ∧ Bld w0.heap.size b (l ++ Fo.one (nmB VS TS) s k) w' ∧ Below w0.heap.size w0 w' ∧ Lib.OthersKept 5 (some b) w w' := by
  intro N
  induction N with
  | zero => intro s r k c h; omega
  | succ N ih =>
    intro s r k c hN hc hfor hz l w hbw hbd hl
    obtain ⟨_, _, v, kb, _, _, e1, c1, o1, f1, _⟩ := hc.first
    cases e1
    obtain ⟨ao, cap, rfl, hrow⟩ := ptr_row o1
    have hkl := f1.len
    have hks := Fo.len_size k
    have hkm : kb.length ≤ 999999 := by omega
    have HROW := Lib.hid hrow
    have HKL := Lib.hid hkl
    have HKS := Lib.hid hks
    clear hrow hkl hks
    have hclt := c1.lt
    have hsym := hfor.1
    have hz0 := hbw.size
    have b0 := Blk.new w 25 #[.slice ta TS.length tc, .slice va VS.length vc, .slice ra rl rc]
    have hbl : Below w.heap.size w (w.alloc (.cells #[.slice ta TS.length tc, .slice va VS.length vc, .slice ra rl rc] 25)) := below_lit _ _ _
    have hb1 := hbd.keep hbl
    have hbb := hbd.lt
    have ho1 := others_keep (b := b) hbl
    have hB1 : Below w0.heap.size w0 (w.alloc (.cells #[.slice ta TS.length tc, .slice va VS.length vc, .slice ra rl rc] 25)) := hbw.trans (hbl.mono hz0)
    have hz1 : (w.alloc (.cells #[.slice ta TS.length tc, .slice va VS.length vc, .slice ra rl rc] 25)).heap.size = w.heap.size + 1 := by simp
    generalize hW1 : w.alloc (.cells #[.slice ta TS.length tc, .slice va VS.length vc, .slice ra rl rc] 25) = w1 at *
    have bn := c1.below hB1 hclt
    have d0 := bn.cell 0
    have d2 := bn.cell 2
    have g0 := b0.cell 0
    have g1 := b0.cell 1
    have g2 := b0.cell 2
    simp only [List.getElem?_toArray, List.getElem?_cons_zero, List.getElem?_cons_succ] at d0 d2 g0 g1 g2
    have hnm := name_any w1.drew w0.heap.size ta va ra tc vc rl rc VS TS s (hV.below (hB1.trans (below_drewN (Below.refl _ _) 1))) (hT.below (hB1.trans (below_drewN (Below.refl _ _) 1))) (by show w0.heap.size ≤ w1.heap.size; omega) hsym.1 hsym.2 hSV hST
    have hlen := nameB_len hSV hST s
    have hiv := isVar_any w1 s
    have hbd1 : Bld w0.heap.size b l w1.drew := hb1.keep (below_drewN (Below.refl _ _) 1)
    have ho1d : Lib.OthersKept 5 (some b) w w1.drew := ho1.trans (others_keep (below_drewN (Below.refl _ _) 1))
    have HB1D := Lib.hid (hB1.trans (below_drewN (Below.refl _ w1) 1))
    have HO1D := Lib.hid ho1d
    have HBD1 := Lib.hid hbd1
    have HL := Lib.hid hl
    have HIH := Lib.hid ih
    have HFOR := Lib.hid hfor
    have HF1 := Lib.hid f1
    have HO := Lib.hid o1
    unfold PtrV
    by_cases h0 : s < 0
    · rw [decide_eq_false (by omega)] at hiv
      have hone : Fo.one (nmB VS TS) s k = (nameB VS TS s).data.toList := by unfold Fo.one; rw [if_pos h0]; rfl
      rw [hone]
      generalize nameB VS TS s = nm at *
      have hwr : ∀ w2, Below w1.drew.heap.size w1.drew w2 → Calls Try.prog 81 #[.pointer (some ⟨b, 0, none⟩), .string nm] w2 fun e w' => e = .returned (.tuple #[.int .i64 nm.size, .nilIface]) ∧ Bld w0.heap.size b (l ++ nm.data.toList) w' ∧ Below w0.heap.size w2 w' ∧ Lib.OthersKept 5 (some b) w2 w' := fun w2 h2 =>
        write_any w0.heap.size b l nm w2 (HBD1.out.keep h2) (by have := HL.out; omega) (by have := h2.size; have : w1.drew.heap.size = w1.heap.size := rfl; omega)
      have HWR := Lib.hid hwr
      have HZZ := Lib.hid (show w0.heap.size ≤ w1.drew.heap.size by show w0.heap.size ≤ w1.heap.size; omega)
      clear hwr ih hfor f1 o1 hc hbw hbd hl b0 hbl hb1 ho1 hB1 bn hbd1 ho1d hone hlen hsym hz0 hz1 hbb hclt hV hT
      go_enter Try.func65, Try.ntmps65
      go_wp2_with (go_at_call 47; refine hiv.mono ?_; rintro e w2 ⟨rfl, rfl⟩)
      go_region_law (first
        | (go_simp; go_at_call 82; refine hnm.mono ?_; rintro e w4 ⟨rfl, hb4⟩)
        | (go_simp; go_at_call 81; refine (HWR.out _ (by assumption)).mono ?_; rintro e w5 ⟨rfl, hx1, hx2, hx3⟩))
      all_goals
        go_wp2
        refine bodyPost_ret (results_none rfl _ _ _) rfl ?_
        exact ⟨rfl, hx1, (HB1D.out.trans (hb4.mono HZZ.out)).trans hx2, (HO1D.out.trans (others_keep hb4)).trans hx3⟩
    · rw [decide_eq_true (by omega)] at hiv
      have hone : Fo.one (nmB VS TS) s k = 40 :: (nmB VS TS s ++ (k.text (nmB VS TS) ++ [41])) := by unfold Fo.one; rw [if_neg h0]
      rw [hone]
      have hnmB : nmB VS TS s = (nameB VS TS s).data.toList := rfl
      rw [hnmB]
      generalize nameB VS TS s = nm at *
      obtain ⟨nm2, hnm2⟩ : ∃ x : ByteArray, x = ⟨#[40]⟩ ++ nm := ⟨_, rfl⟩
      have hcat : nm2.data.toList = 40 :: nm.data.toList := by rw [hnm2]; exact paren_app nm
      have hcs : nm2.size = nm.size + 1 := by rw [hnm2]; exact paren_size nm
      have hwr : ∀ w2, Below w1.drew.heap.size w1.drew w2 → Calls Try.prog 81 #[.pointer (some ⟨b, 0, none⟩), .string nm2] w2 fun e w' => (∃ z, e = .returned (.tuple #[.int .i64 z, .nilIface])) ∧ Bld w0.heap.size b (l ++ 40 :: nm.data.toList) w' ∧ Below w0.heap.size w2 w' ∧ Lib.OthersKept 5 (some b) w2 w' := fun w2 h2 => by
        have h3 := write_any w0.heap.size b l nm2 w2 (HBD1.out.keep h2) (by have := HL.out; omega) (by have := h2.size; have : w1.drew.heap.size = w1.heap.size := rfl; omega)
        rw [hcat] at h3
        exact h3.mono fun e w' h => ⟨⟨_, h.1⟩, h.2⟩
      rw [hnm2] at hwr
      have HWR := Lib.hid hwr
      have HZZ := Lib.hid (show w0.heap.size ≤ w1.drew.heap.size by show w0.heap.size ≤ w1.heap.size; omega)
      have hcl : ¬ 9223372036854775807 < 1 + nm.size := by omega
      have HG := Lib.hid b0
      have HBN := Lib.hid bn
      have HZ1 := Lib.hid hz1
      have HBB := Lib.hid hbb
      have HN := Lib.hid hN
      have HZ0 := Lib.hid hz0
      have HC := Lib.hid hc
      have HLT := Lib.hid hclt
      clear hcat hcs hnm2 nm2 hwr ih hfor f1 o1 hc hbw hbd hl b0 hbl hb1 ho1 hB1 bn hbd1 ho1d hone hsym hz0 hz1 hbb hclt hV hT hN hnmB
      go_enter Try.func65, Try.ntmps65
      go_wp2_with (go_at_call 47; refine hiv.mono ?_; rintro e w2 ⟨rfl, rfl⟩)
      go_region_law (first
        | (go_simp; go_at_call 82; refine hnm.mono ?_; rintro e w4 ⟨rfl, hb4⟩)
        | (go_simp; go_at_call 81; refine (HWR.out _ (by assumption)).mono ?_; rintro e w5 ⟨⟨zz, rfl⟩, hx1, hx2, hx3⟩))
      all_goals
        have hB5 := (HB1D.out.trans (hb4.mono HZZ.out)).trans hx2
        have hO5 : Lib.OthersKept 5 (some b) w w5 := (HO1D.out.trans (others_keep hb4)).trans hx3
        have hG5 : Blk w5 w.heap.size 25 #[.slice ta TS.length tc, .slice va VS.length vc, .slice ra rl rc] := others_blk hx3 (Blk.below (show Blk w2.drew w.heap.size 25 #[.slice ta TS.length tc, .slice va VS.length vc, .slice ra rl rc] from HG.out) hb4 (by have := HZ1.out; show w.heap.size < w2.heap.size; omega)) (by have := HBB.out.1; omega) (by decide)
        have q2 := (c1.below hB5 HLT.out).cell 2
        simp only [List.getElem?_toArray, List.getElem?_cons_zero, List.getElem?_cons_succ] at q2
        have HB5 := Lib.hid hB5
        have HO5 := Lib.hid hO5
        have HG5 := Lib.hid hG5
        have HX1 := Lib.hid hx1
        clear hB5 hO5 hG5 hx1 hx2 hx3 hb4 d0 d2 g0 g1 g2 hnm hiv hcl hW1
        go_wp2
        go_loopw [38] (fun i wr => ∃ (j : Nat) (X : List UInt8), j ≤ kb.length ∧ i = .int .i64 j ∧ X ++ (k.drop j).text (nmB VS TS) = k.text (nmB VS TS) ∧ X.length + 1006 * (k.drop j).size ≤ 1006 * k.size ∧ Bld w0.heap.size b ((l ++ 40 :: nm.data.toList) ++ X) wr ∧ Below w0.heap.size w0 wr ∧ Lib.OthersKept 5 (some b) w5 wr) (fun i _ => kb.length - (Go.RowKit.intOf i).toNat)
        case atStart => exact ⟨0, [], Nat.zero_le _, rfl, by rw [Fo.drop_zero]; rfl, by rw [Fo.drop_zero]; simp, by simpa using HX1.out, HB5.out, Lib.OthersKept.refl _ _ _⟩
        case round =>
          obtain ⟨j, X, hj, rfl, hX, hXl, hbd, hbr, hor⟩ := hrel
          have hxl : (l ++ 40 :: nm.data.toList ++ X).length ≤ l.length + 1003 + X.length := by
            have e : nm.data.toList.length = nm.size := Array.length_toList
            simp only [List.length_append, List.length_cons]
            omega
          by_cases hlt : j < kb.length
          · obtain ⟨a, rfl, hca0⟩ := HROW.out j hlt
            obtain ⟨s1, r1, k1, hdr, ht1, _⟩ := HF1.out.at_ j hlt
            have hca : wr.cell? (a.add j) = some (PtrV (kb.getD j 0)) := (hbr.cell (p := a.add j) (cell_lt hca0)).trans hca0
            have hfd := Fo.for_drop j k HFOR.out.2.1
            have hsz1 := Fo.drop_size j k
            rw [hdr] at hfd hX hsz1 hXl
            rw [Fo.text_node] at hX
            simp only [Fo.size] at hsz1
            have hX2 : X ++ (32 :: Fo.one (nmB VS TS) s1 k1) ++ (k.drop (j + 1)).text (nmB VS TS) = k.text (nmB VS TS) := by rw [List.append_assoc]; exact hX
            simp only [Fo.size] at hXl
            have h1l := Fo.text_len (nmB_len hSV hST) (.node s1 0 k1 .nil)
            rw [Fo.text_node] at h1l
            simp only [Fo.size, Fo.text, List.length_append, List.length_cons, List.length_nil] at h1l
            have hw32 := byte32_any w0.heap.size b ((l ++ 40 :: nm.data.toList) ++ X) wr hbd (by have := HL.out; omega) (by have := hbr.size; omega)
            have hkid : ∀ w6, Below w0.heap.size w0 w6 → Bld w0.heap.size b ((l ++ 40 :: nm.data.toList) ++ X ++ [32]) w6 → Calls Try.prog 65 #[PtrV (kb.getD j 0), .pointer (some ⟨b, 0, none⟩), .agg #[.slice ta TS.length tc, .slice va VS.length vc, .slice ra rl rc]] w6 fun e w' => e = .returned (.tuple #[]) ∧ Bld w0.heap.size b ((l ++ 40 :: nm.data.toList) ++ X ++ [32] ++ Fo.one (nmB VS TS) s1 k1) w' ∧ Below w0.heap.size w0 w' ∧ Lib.OthersKept 5 (some b) w6 w' := fun w6 h6 h7 =>
              HIH.out s1 r1 k1 (kb.getD j 0) (by have := HN.out; omega) ht1 ⟨hfd.1, hfd.2.1, trivial⟩ (by omega) _ w6 h6 h7 (by
                have := HL.out
                simp only [List.length_append, List.length_cons, List.length_nil] at hxl ⊢
                omega)
            have hgr := others_blk hor HG5.out (by have := HBB.out.1; omega) (by decide)
            have HKID := Lib.hid hkid
            have HGR := Lib.hid hgr
            have HX2 := Lib.hid hX2
            have HBR := Lib.hid hbr
            have HOR := Lib.hid hor
            clear hkid hgr hX2 hbr hor hX hfd hdr ht1 hbd hca0 q2
            generalize kb.getD j 0 = cj at *
            unfold PtrV at hca
            go_wp2_with (go_at_call 83; refine hw32.mono ?_; rintro e w6 ⟨rfl, y1, y2, y3⟩; have hgr6 := others_blk y3 HGR.out (by have := HBB.out.1; omega) (by decide); have p0 := hgr6.cell 0; have p1 := hgr6.cell 1; have p2 := hgr6.cell 2; simp only [List.getElem?_toArray, List.getElem?_cons_zero, List.getElem?_cons_succ] at p0 p1 p2)
            refine (HKID.out _ (HBR.out.trans y2) y1).mono ?_
            rintro e w7 ⟨rfl, z1, z2, z3⟩
            have HZ1' := Lib.hid z1
            clear hxl
            go_wp2
            refine ⟨⟨j + 1, X ++ (32 :: Fo.one (nmB VS TS) s1 k1), hlt, congrArg (Value.int .i64) (by omega), HX2.out, ?_, ?_, z2, (HOR.out.trans y3).trans z3⟩, by simp only [Go.RowKit.intOf]; omega⟩
            · simp only [List.length_append, List.length_cons]
              omega
            · have := HZ1'.out
              simpa [List.append_assoc] using this
          · have hjk : j = kb.length := by omega
            subst hjk
            have hend : X = k.text (nmB VS TS) := by
              rw [HKL.out, Fo.drop_all] at hX
              simpa [Fo.text] using hX
            subst hend
            have hw41 := byte41_any w0.heap.size b ((l ++ 40 :: nm.data.toList) ++ k.text (nmB VS TS)) wr hbd (by have := HL.out; rw [HKL.out, Fo.drop_all] at hXl; simp only [Fo.size] at hXl; omega) (by have := hbr.size; omega)
            have HBR := Lib.hid hbr
            have HOR := Lib.hid hor
            clear hbr hor hX hXl hbd q2 hxl
            go_wp2_with (go_at_call 83; refine hw41.mono ?_; rintro e w6 ⟨rfl, y1, y2, y3⟩)
            refine bodyPost_end (results_none rfl _ _ _) rfl ?_
            refine ⟨rfl, ?_, HBR.out.trans y2, HO5.out.trans (HOR.out.trans y3)⟩
            simpa [List.append_assoc] using y1
set_option maxRecDepth 100000 in
set_option maxHeartbeats 1000000 in
theorem text_fo (w : World) (ta va ra : Option Addr) (tc vc rl rc : Nat) (VS TS : List ByteArray) (s r : Int) (k : Fo) (c : Nat) (hV : TxtAt w.heap.size w (.slice va VS.length vc) VS) (hT : TxtAt w.heap.size w (.slice ta TS.length tc) TS) (hSV : Short VS) (hST : Short TS) (hc : FoAt w [c] (.node s r k .nil)) (hfor : (Fo.node s r k .nil).For (fun s r => In64 s ∧ symB VS TS s)) (hz : k.size ≤ 999999) :
    Calls Try.prog 32 #[PtrV c, .agg #[.slice ta TS.length tc, .slice va VS.length vc, .slice ra rl rc]] w fun e w' => e = .returned (.string ⟨(Fo.one (nmB VS TS) s k).toArray⟩) ∧ Below w.heap.size w w' := by
  have b0 := (Blk.new w 25 #[.slice ta TS.length tc, .slice va VS.length vc, .slice ra rl rc]).alloc (.cells #[.pointer none, .slice none 0 0] 94)
  have hbl : Below w.heap.size w ((w.alloc (.cells #[.slice ta TS.length tc, .slice va VS.length vc, .slice ra rl rc] 25)).alloc (.cells #[.pointer none, .slice none 0 0] 94)) := two_below _ _ _ _ _
  have hbd : Bld w.heap.size (w.heap.size + 1) [] ((w.alloc (.cells #[.slice ta TS.length tc, .slice va VS.length vc, .slice ra rl rc] 25)).alloc (.cells #[.pointer none, .slice none 0 0] 94)) := by
    have bb := Blk.new (w.alloc (.cells #[.slice ta TS.length tc, .slice va VS.length vc, .slice ra rl rc] 25)) 94 #[.pointer none, .slice none 0 0]
    rw [World.size_alloc] at bb
    exact .inl ⟨by omega, .slice none 0 0, bb, World.ownsRow_nil _ _ _ _, by intro e; cases e⟩
  have hwr := write_tree w ta va ra tc vc rl rc VS TS hV hT hSV hST (w.heap.size + 1) (k.size + 1) s r k c (Nat.lt_succ_self _) hc hfor hz [] _ hbl hbd (by simp; omega)
  have g0 := b0.cell 0
  have g1 := b0.cell 1
  have g2 := b0.cell 2
  simp only [List.getElem?_toArray, List.getElem?_cons_zero, List.getElem?_cons_succ] at g0 g1 g2
  rw [List.nil_append] at hwr
  clear hV hT hc hfor b0 hbd
  unfold PtrV at *
  go_enter Try.func32, Try.ntmps32
  go_wp2_with (first | (go_at_call 65; refine hwr.mono ?_; rintro e w2 ⟨rfl, y1, y2, y3⟩) | (go_at_call 66; refine (string_any _ _ _ _ y1 y2.size).mono ?_; rintro e w3 ⟨rfl, y4⟩))
  go_ret
  exact ⟨rfl, y2.trans y4⟩
end Go.Proofs.Ytomikgkoegkofaa.dt
namespace Go.Proofs.Ytomikgkoegkofaa.dt
open Go.ChangeShapes Go.WideShapes Go.ChangeAt Go.RowKit Go.Maps Go.WideMaps Go.WideElems Go.Shelf Go.Proofs.Ytomikgkoegkofaa.dv
set_option linter.unusedVariables false
set_option linter.unusedSimpArgs false
/-! the document's example of layer 8 -/
def pairsT : List Rl := [⟨0, [-1, 0, -2], 0⟩, ⟨0, [], 0⟩]
set_option maxRecDepth 100000 in
set_option maxHeartbeats 1000000 in
theorem tpairs_any (w : World) : Calls Try.prog 60 #[] w fun e w' => ∃ t v r, e = .returned (.agg #[.slice (some t) 2 2, .slice (some v) 1 1, .slice (some ⟨r, 0, none⟩) 2 2]) ∧ RulesAt w'.heap.size w' (.slice (some ⟨r, 0, none⟩) 2 2) pairsT ∧ TxtAt w'.heap.size w' (.slice (some t) 2 2) [⟨#[97]⟩, ⟨#[98]⟩] ∧ TxtAt w'.heap.size w' (.slice (some v) 1 1) [⟨#[115]⟩] ∧ Below w.heap.size w w' := by
  have bG : Blk (((((w.alloc (.cells #[.slice (some ⟨w.heap.size + 1, 0, none⟩) 2 2, .slice (some ⟨w.heap.size + 1 + 1, 0, none⟩) 1 1, .slice (some ⟨w.heap.size + 1 + 1 + 1 + 1, 0, none⟩) 2 2] 25)).alloc (.cells #[.string ⟨#[97]⟩, .string ⟨#[98]⟩] 9)).alloc (.cells #[.string ⟨#[115]⟩] 9)).alloc (.cells #[.int .i64 (-1), .int .i64 0, .int .i64 (-2)] 3)).alloc (.cells #[.int .i64 0, .slice (some ⟨w.heap.size + 1 + 1 + 1, 0, none⟩) 3 3, .float .f64 0, .int .i64 0, .slice none 0 0, .float .f64 0] 52)) w.heap.size 25 _ := ((((Blk.new w 25 _).alloc _).alloc _).alloc _).alloc _
  have bC : Blk (((((w.alloc (.cells #[.slice (some ⟨w.heap.size + 1, 0, none⟩) 2 2, .slice (some ⟨w.heap.size + 1 + 1, 0, none⟩) 1 1, .slice (some ⟨w.heap.size + 1 + 1 + 1 + 1, 0, none⟩) 2 2] 25)).alloc (.cells #[.string ⟨#[97]⟩, .string ⟨#[98]⟩] 9)).alloc (.cells #[.string ⟨#[115]⟩] 9)).alloc (.cells #[.int .i64 (-1), .int .i64 0, .int .i64 (-2)] 3)).alloc (.cells #[.int .i64 0, .slice (some ⟨w.heap.size + 1 + 1 + 1, 0, none⟩) 3 3, .float .f64 0, .int .i64 0, .slice none 0 0, .float .f64 0] 52)) (w.heap.size + 1 + 1 + 1) 3 #[.int .i64 (-1), .int .i64 0, .int .i64 (-2)] := by
    have := (Blk.new (((w.alloc (.cells #[.slice (some ⟨w.heap.size + 1, 0, none⟩) 2 2, .slice (some ⟨w.heap.size + 1 + 1, 0, none⟩) 1 1, .slice (some ⟨w.heap.size + 1 + 1 + 1 + 1, 0, none⟩) 2 2] 25)).alloc (.cells #[.string ⟨#[97]⟩, .string ⟨#[98]⟩] 9)).alloc (.cells #[.string ⟨#[115]⟩] 9)) 3 #[.int .i64 (-1), .int .i64 0, .int .i64 (-2)]).alloc (.cells #[.int .i64 0, .slice (some ⟨w.heap.size + 1 + 1 + 1, 0, none⟩) 3 3, .float .f64 0, .int .i64 0, .slice none 0 0, .float .f64 0] 52)
    simpa using this
  have bD : Blk (((((w.alloc (.cells #[.slice (some ⟨w.heap.size + 1, 0, none⟩) 2 2, .slice (some ⟨w.heap.size + 1 + 1, 0, none⟩) 1 1, .slice (some ⟨w.heap.size + 1 + 1 + 1 + 1, 0, none⟩) 2 2] 25)).alloc (.cells #[.string ⟨#[97]⟩, .string ⟨#[98]⟩] 9)).alloc (.cells #[.string ⟨#[115]⟩] 9)).alloc (.cells #[.int .i64 (-1), .int .i64 0, .int .i64 (-2)] 3)).alloc (.cells #[.int .i64 0, .slice (some ⟨w.heap.size + 1 + 1 + 1, 0, none⟩) 3 3, .float .f64 0, .int .i64 0, .slice none 0 0, .float .f64 0] 52)) (w.heap.size + 1 + 1 + 1 + 1) 52 #[.int .i64 0, .slice (some ⟨w.heap.size + 1 + 1 + 1, 0, none⟩) 3 3, .float .f64 0, .int .i64 0, .slice none 0 0, .float .f64 0] := by
    have := Blk.new ((((w.alloc (.cells #[.slice (some ⟨w.heap.size + 1, 0, none⟩) 2 2, .slice (some ⟨w.heap.size + 1 + 1, 0, none⟩) 1 1, .slice (some ⟨w.heap.size + 1 + 1 + 1 + 1, 0, none⟩) 2 2] 25)).alloc (.cells #[.string ⟨#[97]⟩, .string ⟨#[98]⟩] 9)).alloc (.cells #[.string ⟨#[115]⟩] 9)).alloc (.cells #[.int .i64 (-1), .int .i64 0, .int .i64 (-2)] 3)) 52 #[.int .i64 0, .slice (some ⟨w.heap.size + 1 + 1 + 1, 0, none⟩) 3 3, .float .f64 0, .int .i64 0, .slice none 0 0, .float .f64 0]
    simpa using this
  have bA : Blk (((((w.alloc (.cells #[.slice (some ⟨w.heap.size + 1, 0, none⟩) 2 2, .slice (some ⟨w.heap.size + 1 + 1, 0, none⟩) 1 1, .slice (some ⟨w.heap.size + 1 + 1 + 1 + 1, 0, none⟩) 2 2] 25)).alloc (.cells #[.string ⟨#[97]⟩, .string ⟨#[98]⟩] 9)).alloc (.cells #[.string ⟨#[115]⟩] 9)).alloc (.cells #[.int .i64 (-1), .int .i64 0, .int .i64 (-2)] 3)).alloc (.cells #[.int .i64 0, .slice (some ⟨w.heap.size + 1 + 1 + 1, 0, none⟩) 3 3, .float .f64 0, .int .i64 0, .slice none 0 0, .float .f64 0] 52)) (w.heap.size + 1) 9 #[.string ⟨#[97]⟩, .string ⟨#[98]⟩] := by
    have := (((Blk.new (w.alloc (.cells #[.slice (some ⟨w.heap.size + 1, 0, none⟩) 2 2, .slice (some ⟨w.heap.size + 1 + 1, 0, none⟩) 1 1, .slice (some ⟨w.heap.size + 1 + 1 + 1 + 1, 0, none⟩) 2 2] 25)) 9 #[.string ⟨#[97]⟩, .string ⟨#[98]⟩]).alloc (.cells #[.string ⟨#[115]⟩] 9)).alloc (.cells #[.int .i64 (-1), .int .i64 0, .int .i64 (-2)] 3)).alloc (.cells #[.int .i64 0, .slice (some ⟨w.heap.size + 1 + 1 + 1, 0, none⟩) 3 3, .float .f64 0, .int .i64 0, .slice none 0 0, .float .f64 0] 52)
    simpa using this
  have bB : Blk (((((w.alloc (.cells #[.slice (some ⟨w.heap.size + 1, 0, none⟩) 2 2, .slice (some ⟨w.heap.size + 1 + 1, 0, none⟩) 1 1, .slice (some ⟨w.heap.size + 1 + 1 + 1 + 1, 0, none⟩) 2 2] 25)).alloc (.cells #[.string ⟨#[97]⟩, .string ⟨#[98]⟩] 9)).alloc (.cells #[.string ⟨#[115]⟩] 9)).alloc (.cells #[.int .i64 (-1), .int .i64 0, .int .i64 (-2)] 3)).alloc (.cells #[.int .i64 0, .slice (some ⟨w.heap.size + 1 + 1 + 1, 0, none⟩) 3 3, .float .f64 0, .int .i64 0, .slice none 0 0, .float .f64 0] 52)) (w.heap.size + 1 + 1) 9 #[.string ⟨#[115]⟩] := by
    have := ((Blk.new ((w.alloc (.cells #[.slice (some ⟨w.heap.size + 1, 0, none⟩) 2 2, .slice (some ⟨w.heap.size + 1 + 1, 0, none⟩) 1 1, .slice (some ⟨w.heap.size + 1 + 1 + 1 + 1, 0, none⟩) 2 2] 25)).alloc (.cells #[.string ⟨#[97]⟩, .string ⟨#[98]⟩] 9)) 9 #[.string ⟨#[115]⟩]).alloc (.cells #[.int .i64 (-1), .int .i64 0, .int .i64 (-2)] 3)).alloc (.cells #[.int .i64 0, .slice (some ⟨w.heap.size + 1 + 1 + 1, 0, none⟩) 3 3, .float .f64 0, .int .i64 0, .slice none 0 0, .float .f64 0] 52)
    simpa using this
  have hbe : Below w.heap.size w (((((w.alloc (.cells #[.slice (some ⟨w.heap.size + 1, 0, none⟩) 2 2, .slice (some ⟨w.heap.size + 1 + 1, 0, none⟩) 1 1, .slice (some ⟨w.heap.size + 1 + 1 + 1 + 1, 0, none⟩) 2 2] 25)).alloc (.cells #[.string ⟨#[97]⟩, .string ⟨#[98]⟩] 9)).alloc (.cells #[.string ⟨#[115]⟩] 9)).alloc (.cells #[.int .i64 (-1), .int .i64 0, .int .i64 (-2)] 3)).alloc (.cells #[.int .i64 0, .slice (some ⟨w.heap.size + 1 + 1 + 1, 0, none⟩) 3 3, .float .f64 0, .int .i64 0, .slice none 0 0, .float .f64 0] 52)) := (((((Below.refl _ w).alloc (Nat.le_refl _) _).alloc (by simp) _).alloc (by simp; omega) _).alloc (by simp; omega) _).alloc (by simp; omega) _
  have e0 := bG.cell 0
  have e1 := bG.cell 1
  have e2 := bG.cell 2
  simp only [List.getElem?_toArray, List.getElem?_cons_zero, List.getElem?_cons_succ] at e0 e1 e2
  go_enter Try.func60, Try.ntmps60
  go_wp2
  refine bodyPost_ret (v := .agg #[.slice (some ⟨w.heap.size + 1, 0, none⟩) 2 2, .slice (some ⟨w.heap.size + 1 + 1, 0, none⟩) 1 1, .slice (some ⟨w.heap.size + 1 + 1 + 1 + 1, 0, none⟩) 2 2]) (by simp [results, Try.results60, go_sem, e0, e1, e2]) rfl ?_
  generalize hW : (((((w.alloc (.cells #[.slice (some ⟨w.heap.size + 1, 0, none⟩) 2 2, .slice (some ⟨w.heap.size + 1 + 1, 0, none⟩) 1 1, .slice (some ⟨w.heap.size + 1 + 1 + 1 + 1, 0, none⟩) 2 2] 25)).alloc (.cells #[.string ⟨#[97]⟩, .string ⟨#[98]⟩] 9)).alloc (.cells #[.string ⟨#[115]⟩] 9)).alloc (.cells #[.int .i64 (-1), .int .i64 0, .int .i64 (-2)] 3)).alloc (.cells #[.int .i64 0, .slice (some ⟨w.heap.size + 1 + 1 + 1, 0, none⟩) 3 3, .float .f64 0, .int .i64 0, .slice none 0 0, .float .f64 0] 52)) = W at *
  clear hW bG e0 e1 e2
  refine ⟨_, _, _, rfl, ⟨_, 2, rfl, by decide, fun k r hk => ?_⟩, ⟨_, 2, rfl, by decide, fun i hi => ⟨_, rfl, bA.lt, ?_⟩⟩, ⟨_, 1, rfl, by decide, fun i hi => ⟨_, rfl, bB.lt, ?_⟩⟩, hbe⟩
  rotate_left
  · rw [Addr.add_lit, Nat.zero_add, bA.cell i]
    match i, hi with
    | 0, _ => rfl
    | 1, _ => rfl
  · rw [Addr.add_lit, Nat.zero_add, bB.cell i]
    match i, hi with
    | 0, _ => rfl
  have hc : ∀ j, W.cell? ((⟨w.heap.size + 1 + 1 + 1 + 1, 0, none⟩ : Addr).add j) = #[.int .i64 0, .slice (some ⟨w.heap.size + 1 + 1 + 1, 0, none⟩) 3 3, .float .f64 0, .int .i64 0, .slice none 0 0, .float .f64 0][j]? := fun j => by
    rw [Addr.add_lit, Nat.zero_add]
    exact bD.cell j
  refine ⟨_, rfl, bD.lt, ?_⟩
  match k, hk with
  | 0, hk =>
    cases hk
    refine ⟨some ⟨w.heap.size + 1 + 1 + 1, 0, none⟩, 3, hc 0, hc 1, hc 2, by decide, by decide, fun h => (by cases h), fun j hj => ⟨_, rfl, bC.lt, ?_⟩, by decide, by decide⟩
    rw [Addr.add_lit, Nat.zero_add, bC.cell j]
    match j, hj with
    | 0, _ => rfl
    | 1, _ => rfl
    | 2, _ => rfl
  | 1, hk =>
    cases hk
    refine ⟨none, 0, hc 3, hc 4, hc 5, by decide, by decide, fun _ => rfl, fun j hj => absurd hj (by simp), by decide, by decide⟩
  | k + 2, hk => cases hk
theorem bf_built {R : List Rl} {F ks : List Int} {f : Fo} (h : BF R F ks f) : ∀ (lv : Nat) (st : List (Int × Nat)) (k2 : List Int) (out : List (Int × Int × Nat)), Built R st k2 out → Built R (F.map (fun x => (x, lv)) ++ st) (ks ++ k2) (f.nodes lv ++ out) := by
  induction h with
  | nil => exact fun _ _ _ _ h => h
  | term h hf ih => exact fun lv st k2 out hb => by simpa [Fo.nodes] using Built.term h (ih lv st k2 out hb)
  | @var s k F k1 k2' f1 f2 h hr h1 h2 ih1 ih2 =>
    intro lv st k2 out hb
    have := Built.var (lv := lv) h hr (ih1 (lv + 1) _ _ _ (ih2 lv st k2 out hb))
    simpa [Fo.nodes, List.append_assoc] using this
theorem bf_one {R : List Rl} {F ks : List Int} {f g : Fo} (h : BF R F ks f) (h2 : BF R F ks g) : f = g := by
  have a := bf_built h 1 [] [] [] .nil
  have b := bf_built h2 1 [] [] [] .nil
  have e := built_one a b
  simp only [List.append_nil] at e
  exact Fo.nodes_eq e
theorem bf_root {R : List Rl} {v : Int} {ks : List Int} {f : Fo} (h : BF R [v] ks f) : ∃ r k, f = .node v r k .nil := by
  cases h with
  | term h hf => cases hf; exact ⟨_, _, rfl⟩
  | var h hr h1 h2 => cases h2; exact ⟨_, _, rfl⟩
theorem bf_size {R : List Rl} {F ks : List Int} {f : Fo} (h : BF R F ks f) (h8 : ∀ r ∈ R, r.right.length ≤ 8) : f.size ≤ F.length + 9 * ks.length := by
  have a := (bf_built h 1 [] [] [] .nil).few h8
  simpa [Fo.nodes_len] using a
/-- what Of answers, as a tree -/
theorem of_fo {R : List Rl} {v : Int} {ks : List Int} {w w' : World} {e : Ending} (h : OfR R v ks w e w') (h0 : (yieldW R [v] ks).2 = 0) : ∃ b r k, e = .returned (.tuple #[PtrV b, .int .i64 0]) ∧ FoAt w' [b] (.node v r k .nil) ∧ BF R [v] ks (.node v r k .nil) := by
  obtain ⟨b, ns, out, he, hb, hs, hn, _, _⟩ := h.ok h0
  obtain ⟨f, hf, hnf⟩ := fo_of hs
  obtain ⟨g, hg, hbg⟩ := built_fo (F := [v]) hb
  have : f = g := Fo.nodes_eq (lv := 1) (by rw [← hnf, ← hg, hn])
  subst this
  obtain ⟨r, k, rfl⟩ := bf_root hbg
  exact ⟨b, r, k, he, hf, hbg⟩
def pairsF : Fo := .node 0 0 (.node (-1) (-1) .nil (.node 0 1 .nil (.node (-2) (-1) .nil .nil))) .nil
theorem pairs_bf : BF pairsT [0] [0, 1] pairsF := by
  have h3 : BF pairsT [-2] [] (.node (-2) (-1) .nil .nil) := .term (by decide) .nil
  have h2 : BF pairsT [0, -2] ([1] ++ []) (.node 0 1 .nil (.node (-2) (-1) .nil .nil)) := .var (by decide) (by decide) (k1 := []) .nil h3
  have h1 : BF pairsT [-1, 0, -2] [1] (.node (-1) (-1) .nil (.node 0 1 .nil (.node (-2) (-1) .nil .nil))) := .term (by decide) h2
  exact .var (by decide) (by decide) (k1 := [1]) (k2 := []) h1 .nil
theorem al_of (w : World) (t v : Addr) (r : Nat) (hR : RulesAt w.heap.size w (.slice (some ⟨r, 0, none⟩) 2 2) pairsT) : Calls Try.prog 29 #[.agg #[.slice (some t) 2 2, .slice (some v) 1 1, .slice (some ⟨r, 0, none⟩) 2 2], .int .i64 0, .slice (some ⟨w.heap.size, 0, none⟩) 2 2] (w.alloc (.cells #[.int .i64 0, .int .i64 1] 3)) fun e w' => ∃ b, e = .returned (.tuple #[PtrV b, .int .i64 0]) ∧ FoAt w' [b] pairsF ∧ Below w.heap.size w w' := by
  refine (of_any (w.alloc (.cells #[.int .i64 0, .int .i64 1] 3)) w.heap.size (some t) (some v) 2 2 1 1 (.slice (some ⟨r, 0, none⟩) 2 2) (.slice (some ⟨w.heap.size, 0, none⟩) 2 2) pairsT 0 [0, 1] (hR.below (below_lit _ _ _)) (by simp) (by decide) (lit_row w [0, 1] 2 _ rfl rfl (by decide) (by decide)) (by decide) (by decide)).mono ?_
  intro e w2 h
  obtain ⟨b, r', k, he, hf, hb⟩ := of_fo h (by decide)
  have e1 := bf_one hb pairs_bf
  rw [e1] at hf
  exact ⟨b, he, hf, (below_lit _ _ _).trans (h.below.mono (by simp))⟩
theorem al_of1 (w : World) (t v : Addr) (r : Nat) (hR : RulesAt w.heap.size w (.slice (some ⟨r, 0, none⟩) 2 2) pairsT) : Calls Try.prog 29 #[.agg #[.slice (some t) 2 2, .slice (some v) 1 1, .slice (some ⟨r, 0, none⟩) 2 2], .int .i64 0, .slice (some ⟨w.heap.size, 0, none⟩) 1 1] (w.alloc (.cells #[.int .i64 0] 3)) fun e w' => e = .returned (.tuple #[.pointer none, .int .i64 13]) ∧ Below w.heap.size w w' := by
  refine (of_any (w.alloc (.cells #[.int .i64 0] 3)) w.heap.size (some t) (some v) 2 2 1 1 (.slice (some ⟨r, 0, none⟩) 2 2) (.slice (some ⟨w.heap.size, 0, none⟩) 1 1) pairsT 0 [0] (hR.below (below_lit _ _ _)) (by simp) (by decide) (lit_row w [0] 1 _ rfl rfl (by decide) (by decide)) (by decide) (by decide)).mono ?_
  intro e w2 h
  have e1 : (yieldW pairsT [0] [0]).2 = 13 := by decide
  have := h.err (by rw [e1]; decide)
  rw [e1] at this
  exact ⟨this, (below_lit _ _ _).trans (h.below.mono (by simp))⟩
def textT : ByteArray := ⟨#[40, 115, 32, 39, 97, 39, 32, 40, 115, 41, 32, 39, 98, 39, 41]⟩
theorem al_text (w : World) (t v : Addr) (r : Nat) (b : Nat) (hT : TxtAt w.heap.size w (.slice (some t) 2 2) [⟨#[97]⟩, ⟨#[98]⟩]) (hV : TxtAt w.heap.size w (.slice (some v) 1 1) [⟨#[115]⟩]) (hf : FoAt w [b] pairsF) :
    Calls Try.prog 32 #[PtrV b, .agg #[.slice (some t) 2 2, .slice (some v) 1 1, .slice (some ⟨r, 0, none⟩) 2 2]] w fun e w' => e = .returned (.string textT) ∧ Below w.heap.size w w' := by
  have h := text_fo w (some t) (some v) (some ⟨r, 0, none⟩) 2 1 2 2 [⟨#[115]⟩] [⟨#[97]⟩, ⟨#[98]⟩] 0 0 _ b hV hT (by intro x hx; simp at hx; subst hx; decide) (by intro x hx; simp at hx; rcases hx with rfl | rfl <;> decide) hf (by
    simp only [Fo.For, symB]
    decide) (by decide)
  refine h.mono fun e w' h => ⟨?_, h.2⟩
  have e1 : (⟨(Fo.one (nmB [⟨#[115]⟩] [⟨#[97]⟩, ⟨#[98]⟩]) 0 (.node (-1) (-1) .nil (.node 0 1 .nil (.node (-2) (-1) .nil .nil)))).toArray⟩ : ByteArray) = textT := by rfl
  rw [h.1, e1]
end Go.Proofs.Ytomikgkoegkofaa.dt
namespace Go.Proofs.Ytomikgkoegkofaa.dt
open Go.ChangeShapes Go.WideShapes Go.ChangeAt Go.RowKit Go.Maps Go.WideMaps Go.WideElems Go.Shelf Go.Proofs.Ytomikgkoegkofaa.dv
set_option linter.unusedVariables false
set_option linter.unusedSimpArgs false
/-! the document's example of layer 8 is as said -/
theorem pairsF_in : pairsF.For fun s r => In64 s ∧ In64 r := by
  simp only [pairsF, Fo.For]
  decide
set_option maxRecDepth 100000 in
set_option maxHeartbeats 2000000 in
theorem talive_any (w : World) : Calls Try.prog 28 #[] w fun e w' => e = .returned (.bool true) ∧ Below w.heap.size w w' := by
  go_enter Try.func28, Try.ntmps28
  go_wp2_with fail
  refine (tpairs_any w).mono ?_
  rintro e w1 ⟨t1, v1, r1, rfl, hR1, _, _, hb1⟩
  go_wp2_with fail
  refine (al_of w1 t1 v1 r1 hR1).mono ?_
  rintro e w2 ⟨b, rfl, hf2, hb2⟩
  have hB2 := hb1.trans (hb2.mono hb1.size)
  clear hR1 hb1 hb2
  go_wp2_with fail
  refine (tpairs_any w2).mono ?_
  rintro e w3 ⟨t3, v3, r3, rfl, hR3, _, _, hb3⟩
  go_wp2_with fail
  refine (al_of1 w3 t3 v3 r3 hR3).mono ?_
  rintro e w4 ⟨rfl, hb4⟩
  have hx4 := hb3.trans (hb4.mono hb3.size)
  clear hR3 hb3 hb4
  unfold PtrV
  go_wp2_with fail
  refine (tpairs_any w4).mono ?_
  rintro e w5 ⟨t5, v5, r5, rfl, _, hT5, hV5, hb5⟩
  have hx5 := hx4.trans (hb5.mono hx4.size)
  have hf5 := hf2.kept hx5
  have h6 := al_text w5 t5 v5 r5 b hT5 hV5 hf5
  unfold textT PtrV at h6
  go_wp2_with fail
  refine h6.mono ?_
  rintro e w6 ⟨rfl, hb6⟩
  have hx6 := hx5.trans (hb6.mono hx5.size)
  have h7 := size_fo w6 b pairsF (hf2.kept hx6) (by decide)
  clear h6 hT5 hV5 hf5 hx4 hx5 hb5 hb6
  unfold PtrV at h7
  go_wp2_with fail
  refine h7.mono ?_
  rintro e w7 ⟨rfl, hb7⟩
  have hx7 := hx6.trans (hb7.mono hx6.size)
  have h8 := height_fo w7 b pairsF (hf2.kept hx7) (by decide)
  unfold PtrV at h8
  clear h7 hb7 hx6
  rw [show ((pairsF.size : Nat) : Int) = 4 from rfl]
  go_wp2_with fail
  refine h8.mono ?_
  rintro e w8 ⟨rfl, hb8⟩
  have hx8 := hx7.trans (hb8.mono hx7.size)
  have h9 := yield_fo w8 b pairsF (hf2.kept hx8) (by decide) pairsF_in
  unfold PtrV at h9
  clear h8 hb8 hx7
  rw [show ((pairsF.high : Nat) : Int) = 2 from rfl]
  go_wp2_with fail
  refine h9.mono ?_
  rintro e w9 ⟨⟨u9, rfl, hu9⟩, hb9⟩
  have hx9 := hx8.trans (hb9.mono hx8.size)
  have hw9 : WordAt w9 u9 [0, 1] := word_own hu9 rfl (by decide)
  have h10 := rsame_self (w9.alloc (.cells #[.int .i64 0, .int .i64 1] 3)) u9 (.slice (some ⟨w9.heap.size, 0, none⟩) 2 2) [0, 1] (hw9.below (below_lit _ _ _)) (lit_row w9 [0, 1] 2 _ rfl rfl (by decide) (by decide)).word (by decide)
  clear h9 hb9 hx8 hu9
  go_wp2_with fail
  refine h10.mono ?_
  rintro e w10 ⟨rfl, hb10⟩
  have hx10 := hx9.trans (((below_lit _ _ _).trans (hb10.mono (by simp))).mono hx9.size)
  have h11 := rules_fo w10 b pairsF (hf2.kept hx10) (by decide) pairsF_in
  unfold PtrV at h11
  clear h10 hb10 hw9 hx9
  go_wp2_with fail
  refine h11.mono ?_
  rintro e w11 ⟨⟨u11, rfl, hu11⟩, hb11⟩
  have hx11 := hx10.trans (hb11.mono hx10.size)
  have hw11 : WordAt w11 u11 [0, 1] := word_own hu11 rfl (by decide)
  have h12 := rsame_self (w11.alloc (.cells #[.int .i64 0, .int .i64 1] 3)) u11 (.slice (some ⟨w11.heap.size, 0, none⟩) 2 2) [0, 1] (hw11.below (below_lit _ _ _)) (lit_row w11 [0, 1] 2 _ rfl rfl (by decide) (by decide)).word (by decide)
  clear h11 hb11 hx10 hu11
  go_wp2_with fail
  refine h12.mono ?_
  rintro e w12 ⟨rfl, hb12⟩
  have hx12 := hx11.trans (((below_lit _ _ _).trans (hb12.mono (by simp))).mono hx11.size)
  clear h12 hb12 hw11 hx11
  go_wp2_with fail
  refine (tpairs_any w12).mono ?_
  rintro e w13 ⟨t13, v13, r13, rfl, hR13, _, _, hb13⟩
  have hx13 := hx12.trans (hb13.mono hx12.size)
  have h14 := valid_fo w13 w13.heap.size b pairsF (some t13) (some v13) (some ⟨r13, 0, none⟩) 2 2 1 1 2 pairsT (hf2.kept hx13) (by decide) pairsF_in hR13 (Nat.le_refl _) (by decide)
  rw [show pairsF.all (fitB 2 pairsT) = true by decide] at h14
  unfold PtrV at h14
  clear hb13 hx12
  go_wp2_with fail
  refine h14.mono ?_
  rintro e w14 ⟨rfl, hb14⟩
  have hx14 := hx13.trans (hb14.mono hx13.size)
  have h15 := same_fo w14 b b 0 0 0 0 _ _ (hf2.kept hx14) (hf2.kept hx14) (by decide) (by decide)
  rw [(Fo.same_iff _ _).2 rfl] at h15
  unfold PtrV at h15
  have hend := hB2.trans (hx14.mono hB2.size)
  clear hb14 hx13 hR13 h14 hB2 hx14 hf2
  go_wp2_with fail
  refine h15.mono ?_
  rintro e w15 ⟨rfl, q, rfl⟩
  go_wp2_with fail
  go_ret
  exact ⟨rfl, below_drewN hend _⟩
end Go.Proofs.Ytomikgkoegkofaa.dt

import Derived.Test.YtomikgkoegkofaaJb
import Derived.Test.YtomikgkoegkofaaJc
namespace Go.Proofs.Ytomikgkoegkofaa.dt
open Go.ChangeShapes Go.WideShapes Go.ChangeAt Go.RowKit Go.Maps Go.WideMaps Go.WideElems Go.Shelf Go.Proofs.Ytomikgkoegkofaa.dv
set_option linter.unusedVariables false
set_option linter.unusedSimpArgs false
/-! the document's Name -/
set_option maxHeartbeats 1000000 in
set_option maxRecDepth 100000 in
theorem rname_any (w : World) (B : Nat) (ta va ra : Option Addr) (tc vc rl rc : Nat) (VS TS : List ByteArray) (s : Int) (hV : TxtAt B w (.slice va VS.length vc) VS) (hT : TxtAt B w (.slice ta TS.length tc) TS) (hB : B ≤ w.heap.size) (hs : In64 s) (hsy : symB VS TS s) (hSV : Short VS) (hST : Short TS) :
    Calls Try.prog 64 #[.agg #[.slice ta TS.length tc, .slice va VS.length vc, .slice ra rl rc], .int .i64 s] w fun e w' => e = .returned (.string (nameB VS TS s)) ∧ Below w.heap.size w w' := by
  have b0 := Blk.new w 25 #[.slice ta TS.length tc, .slice va VS.length vc, .slice ra rl rc]
  have c0 := b0.cell 0
  have c1 := b0.cell 1
  have c2 := b0.cell 2
  simp only [List.getElem?_toArray, List.getElem?_cons_zero, List.getElem?_cons_succ] at c0 c1 c2
  have hbl : Below w.heap.size w (w.alloc (.cells #[.slice ta TS.length tc, .slice va VS.length vc, .slice ra rl rc] 25)) := (Below.refl _ w).alloc (Nat.le_refl _) _
  have hV1 := hV.below (hbl.mono hB)
  have hT1 := hT.below (hbl.mono hB)
  generalize hW0 : w.alloc (.cells #[.slice ta TS.length tc, .slice va VS.length vc, .slice ra rl rc] 25) = w0 at *
  clear hV hT
  by_cases h0 : 0 ≤ s
  · obtain ⟨k, rfl⟩ : ∃ k : Nat, s = k := ⟨s.toNat, by omega⟩
    have hk : k < VS.length := by have := hsy.1 h0; omega
    obtain ⟨a, rfl, hab, hca⟩ := hV1.cell hk
    have hnm : nameB VS TS (k : Int) = VS.getD k ByteArray.empty := by unfold nameB; rw [if_pos h0, Int.toNat_natCast]
    rw [hnm]
    generalize VS.getD k ByteArray.empty = nm at *
    have hklt : (k : Int) < (VS.length : Int) := by omega
    have HBL := Lib.hid hbl
    clear hsy hV1 hT1 hnm hbl b0
    go_enter Try.func64, Try.ntmps64
    go_wp2
    first
      | (go_quiet (fail); go_wp2; go_ret; exact ⟨rfl, below_drewN HBL.out _⟩)
      | (go_ret; exact ⟨rfl, HBL.out⟩)
  · obtain ⟨k, rfl⟩ : ∃ k : Nat, s = -1 - (k : Int) := ⟨(-1 - s).toNat, by omega⟩
    have hk : k < TS.length := by have := hsy.2 (by omega); omega
    obtain ⟨a, rfl, hab, hca⟩ := hT1.cell hk
    have hnm : nameB VS TS (-1 - (k : Int)) = ⟨#[39]⟩ ++ TS.getD k ByteArray.empty ++ ⟨#[39]⟩ := by
      unfold nameB
      rw [if_neg h0, show (-(-1 - (k : Int)) - 1).toNat = k by omega]
    have hsz := hST _ (getD_mem TS k hk)
    have hx := cm_if _ hs
    rw [show -1 - (-1 - (k : Int)) = k by omega] at hx
    rw [hnm]
    generalize TS.getD k ByteArray.empty = nm at *
    have hklt : (k : Int) < (TS.length : Int) := by omega
    generalize hsk : -1 - (k : Int) = s at *
    have HBL := Lib.hid hbl
    clear hsy hV1 hT1 hnm hsk hbl b0
    go_enter Try.func64, Try.ntmps64
    go_wp2
    first
      | (go_quiet (fail); go_wp2; go_ret; exact ⟨rfl, below_drewN HBL.out _⟩)
      | (go_ret; exact ⟨rfl, HBL.out⟩)
theorem bf_split {R : List Rl} {s : Int} {F ks : List Int} {f : Fo} (h : BF R (s :: F) ks f) : ∃ r k f' ka kb, f = .node s r k f' ∧ ks = ka ++ kb ∧ BF R [s] ka (.node s r k .nil) ∧ BF R F kb f' := by
  cases h with
  | @term _ _ _ f h hf => exact ⟨_, _, _, [], _, rfl, rfl, .term h .nil, hf⟩
  | @var _ k _ k1 k2 f1 f2 h hr h1 h2 => exact ⟨_, _, _, k :: k1, k2, rfl, by simp, by simpa using BF.var h hr h1 .nil, h2⟩
end Go.Proofs.Ytomikgkoegkofaa.dt
namespace Go.Proofs.Ytomikgkoegkofaa.dt
open Go.ChangeShapes Go.WideShapes Go.ChangeAt Go.RowKit Go.Maps Go.WideMaps Go.WideElems Go.Shelf Go.Proofs.Ytomikgkoegkofaa.dv
set_option linter.unusedVariables false
set_option linter.unusedSimpArgs false
/-! the document's Text -/
theorem row_drop {w : World} {ao : Option Addr} {cap n : Nat} {F : List Int} (h : RowAt w (.slice ao F.length cap) F) (hn : n ≤ F.length) : RowAt w (if cap = n then .slice ao (F.length - n) (cap - n) else .slice (ao.map fun a => a.add n) (F.length - n) (cap - n)) (F.drop n) := by
  by_cases hc : cap = n
  · rw [if_pos hc]
    obtain ⟨ao', cap', e, h1, h2, h3, h4, h5⟩ := h
    cases e
    have hl : F.length = n := by omega
    have hd : F.drop n = [] := List.drop_eq_nil_of_le (by omega)
    rw [hd]
    exact ⟨ao, cap - n, by simp [hl], by simp, by omega, fun e => by have := h3 e; omega, by simp, fun i hi => absurd hi (Nat.not_lt_zero _)⟩
  · rw [if_neg hc]
    cases ao with
    | none =>
      obtain ⟨ao', cap', e, h1, h2, h3, h4, h5⟩ := h
      cases e
      have := h3 rfl
      omega
    | some a => exact h.drop n hn a rfl
theorem text_node' {nm : Int → List UInt8} {s r : Int} {k f : Fo} {X : List UInt8} : X ++ (Fo.node s r k f).text nm = (X ++ 32 :: Fo.one nm s k) ++ f.text nm := by rw [Fo.text_node, List.append_assoc]
theorem cat_two (a : ByteArray) (c : UInt8) : (a ++ ⟨#[c]⟩ : ByteArray).data.toList = a.data.toList ++ [c] := by rw [ByteArray.data_append]; simp
theorem cat_three (a b : ByteArray) (c : UInt8) : (a ++ ⟨#[c]⟩ ++ b : ByteArray).data.toList = a.data.toList ++ c :: b.data.toList := by rw [ByteArray.data_append, ByteArray.data_append]; simp
def RTxt (nm : Int → List UInt8) (s : Int) (k : Fo) (n : Nat) (w : World) (e : Ending) (w' : World) : Prop := (∃ o : ByteArray, e = .returned (.tuple #[.string o, .int .i64 (n : Int)]) ∧ o.data.toList = Fo.one nm s k) ∧ Below w.heap.size w w'
set_option maxRecDepth 100000 in
set_option maxHeartbeats 2000000 in
theorem rtext_tree (w0 : World) (ta va ra : Option Addr) (tc vc rc : Nat) (VS TS : List ByteArray) (R : List Rl) (hV : TxtAt w0.heap.size w0 (.slice va VS.length vc) VS) (hT : TxtAt w0.heap.size w0 (.slice ta TS.length tc) TS) (hSV : Short VS) (hST : Short TS) (hR : RulesAt w0.heap.size w0 (.slice ra R.length rc) R) :
    ∀ (N : Nat) (s r : Int) (k : Fo) (ks rest L : List Int) (ao : Option Addr) (cap : Nat) (w : World), k.size < N → L = ks ++ rest → BF R [s] ks (.node s r k .nil) → (Fo.node s r k .nil).For (fun s r => In64 s ∧ symB VS TS s) → k.size ≤ 600 → L.length ≤ 600 → Below w0.heap.size w0 w → RowAt w (.slice ao L.length cap) L →
    Calls Try.prog 30 #[.agg #[.slice ta TS.length tc, .slice va VS.length vc, .slice ra R.length rc], .int .i64 s, .slice ao L.length cap] w (RTxt (nmB VS TS) s k ks.length w) := by
  intro N
  induction N with
  | zero => intro s r k ks rest L ao cap w h; omega
  | succ N ih =>
    intro s r k ks rest L ao cap w hN hL hbf hfor hz hl hbw hrow
    have b0 := Blk.new w 25 #[.slice ta TS.length tc, .slice va VS.length vc, .slice ra R.length rc]
    have hbl : Below w.heap.size w (w.alloc (.cells #[.slice ta TS.length tc, .slice va VS.length vc, .slice ra R.length rc] 25)) := below_lit _ _ _
    have hz0 := hbw.size
    have hB1 : Below w0.heap.size w0 (w.alloc (.cells #[.slice ta TS.length tc, .slice va VS.length vc, .slice ra R.length rc] 25)) := hbw.trans (hbl.mono hz0)
    have hrow1 := hrow.below hbl
    have hz1 : (w.alloc (.cells #[.slice ta TS.length tc, .slice va VS.length vc, .slice ra R.length rc] 25)).heap.size = w.heap.size + 1 := by simp
    generalize hW1 : w.alloc (.cells #[.slice ta TS.length tc, .slice va VS.length vc, .slice ra R.length rc] 25) = w1 at *
    have g0 := b0.cell 0
    have g1 := b0.cell 1
    have g2 := b0.cell 2
    simp only [List.getElem?_toArray, List.getElem?_cons_zero, List.getElem?_cons_succ] at g0 g1 g2
    have hnm := rname_any w1 w0.heap.size ta va ra tc vc R.length rc VS TS s (hV.below hB1) (hT.below hB1) (by omega) hfor.1.1 hfor.1.2 hSV hST
    have hlen := nameB_len hSV hST s
    have hR1 := hR.below hB1
    unfold RTxt
    by_cases h0 : s < 0
    · have hone : Fo.one (nmB VS TS) s k = (nameB VS TS s).data.toList := by unfold Fo.one; rw [if_pos h0]; rfl
      have hks : ks.length = 0 := by
        cases hbf with
        | term h hf => cases hf; rfl
        | var h => omega
      rw [hone, hks]
      generalize nameB VS TS s = nm at *
      have HBL := Lib.hid hbl
      clear ih hbf hfor hrow hrow1 hR1 hone hks hB1 hbl
      go_enter Try.func30, Try.ntmps30
      go_wp2_with (go_at_call 64; refine hnm.mono ?_; rintro e w4 ⟨rfl, hb4⟩)
      go_ret2
      exact ⟨⟨nm, rfl, rfl⟩, HBL.out.trans (hb4.mono (by omega))⟩
    · obtain ⟨kn, rl, k1, rfl, hrk, hrw, hbk, hks⟩ : ∃ (kn : Nat) (rl : Rl) (k1 : List Int), r = kn ∧ R[kn]? = some rl ∧ ruleW R kn = rl.right ∧ BF R rl.right k1 k ∧ ks = (kn : Int) :: k1 := by
        cases hbf with
        | term h => omega
        | @var _ _ _ k1 k2 f1 f2 h hr h1 h2 =>
          cases h2
          obtain ⟨kn, rl, rfl, hrk, hrw⟩ := ref_ok hr
          rw [hrw] at h1
          exact ⟨kn, rl, k1, rfl, hrk, hrw, h1, by simp⟩
      subst hks
      have hone : Fo.one (nmB VS TS) s k = 40 :: (nmB VS TS s ++ (k.text (nmB VS TS) ++ [41])) := by unfold Fo.one; rw [if_neg h0]
      rw [hone]
      have hnmB : nmB VS TS s = (nameB VS TS s).data.toList := rfl
      rw [hnmB]
      generalize nameB VS TS s = nm at *
      have hcl : ¬ 9223372036854775807 < 1 + nm.size := by omega
      have hps := paren_size nm
      have hpa := paren_app nm
      have hklt : kn < R.length := (List.getElem?_eq_some_iff.1 hrk).1
      obtain ⟨a, rl', so, sc, rfl, hab, hrk', q0, q1, q2, hq1, hq2, hq3, hru, hq5, hq6⟩ := hR1.at kn hklt
      obtain rfl : rl = rl' := by rw [hrk] at hrk'; exact Option.some.inj hrk'
      have hLp : 0 < L.length := by rw [hL]; simp
      have hL0 : L.getD 0 0 = (kn : Int) := by rw [hL]; rfl
      have hLd : L.drop 1 = k1 ++ rest := by rw [hL]; rfl
      have hLl : L.length = 1 + k1.length + rest.length := by rw [hL]; simp; omega
      obtain ⟨_, _, e, hlc, hcm, _, hin1, hrc⟩ := id hrow1
      cases e
      obtain ⟨ka, rfl, hkab, hkc⟩ := hrc 0 hLp
      rw [hL0] at hkc
      have hkc0 : w1.cell? ka = some (.int .i64 (kn : Int)) := by
        have e : ka.add 0 = ka := by unfold Addr.add; split <;> simp_all
        rw [e] at hkc
        exact hkc
      have hpos : (0 : Int) < (L.length : Int) := by omega
      have hpos1 : (1 : Int) ≤ (L.length : Int) := by omega
      have hRl : (kn : Int) < (R.length : Int) := by omega
      unfold maxLen at hcm
      have hFl : rl.right.length = k.len := by rw [← bf_syms hbk, Fo.len_syms]
      have hkz := Fo.len_size k
      have hF600 : rl.right.length ≤ 600 := by omega
      have HFL := Lib.hid hFl
      clear hFl
      have HROW := Lib.hid hrow1
      have HRU := Lib.hid hru
      have HBK := Lib.hid hbk
      have HLD := Lib.hid hLd
      have HLL := Lib.hid hLl
      have HIH := Lib.hid ih
      have HFOR := Lib.hid hfor
      have HB1 := Lib.hid hB1
      have HBL := Lib.hid hbl
      have HG := Lib.hid b0
      have HN := Lib.hid hN
      have hz1w : w0.heap.size ≤ w1.heap.size := by omega
      have hgl : w.heap.size < w1.heap.size := by omega
      have hq1w : w1.cell? ⟨(a.add (kn * 3)).block, (a.add (kn * 3)).off + 1, none⟩ = some (.slice so rl.right.length sc) := q1
      have hqb : (a.add (kn * 3)).block < w1.heap.size := by rw [add_block]; omega
      have HPA := Lib.hid hpa
      clear ih hbf hfor hrow hrow1 hR1 hone hB1 hbl b0 hru hbk hLd hLl hN hL hL0 hkc hrc hin1 q0 q1 q2 hrk hrk' hrw hnmB hpa hz0 hz1 hbw hq5 hq6 hV hT hR
      generalize hFF : rl.right = F at *
      clear hFF
      go_enter Try.func30, Try.ntmps30
      go_wp2_with (go_at_call 64; refine hnm.mono ?_; rintro e w4 ⟨rfl, hb4⟩)
      have y2 := (hb4.cell (p := ⟨w.heap.size, 2, none⟩) hgl).trans g2
      have ykc := (hb4.cell (p := ka) (by rw [add_block] at *; omega)).trans hkc0
      have yq1 := (hb4.cell (p := ⟨(a.add (kn * 3)).block, (a.add (kn * 3)).off + 1, none⟩) hqb).trans hq1w
      have HB4 := Lib.hid hb4
      clear hb4 hnm g0 g1 g2 hkc0 hq1w
      go_quiet (fail)
      have HB5 := Lib.hid (below_drewN HB4.out nq)
      generalize w4.drewN nq = w5 at *
      go_wp2
      clear y2 ykc yq1
      go_loopw [8, 9, 11] (fun o n i wr => ∃ (j m : Nat) (ob : ByteArray) (kr : List Int) (X : List UInt8), j ≤ F.length ∧ i = .int .i64 j ∧ n = .int .i64 m ∧ o = .string ob ∧ ob.data.toList = 40 :: (nm.data.toList ++ X) ∧ X ++ (k.drop j).text (nmB VS TS) = k.text (nmB VS TS) ∧ X.length + 1006 * (k.drop j).size ≤ 1006 * k.size ∧ BF R (F.drop j) kr (k.drop j) ∧ L.drop m = kr ++ rest ∧ m + kr.length = 1 + k1.length ∧ Below w1.heap.size w1 wr) (fun _ _ i _ => F.length - (intOf i).toNat)
      case atStart => exact ⟨0, 1, ⟨#[40]⟩ ++ nm, k1, [], Nat.zero_le _, rfl, rfl, rfl, by rw [HPA.out, List.append_nil], by rw [Fo.drop_zero]; rfl, by rw [Fo.drop_zero]; simp, by rw [Fo.drop_zero]; exact HBK.out, HLD.out, rfl, HB5.out⟩
      case round =>
        obtain ⟨j, m, ob, kr, X, hj, rfl, rfl, rfl, hob, hX, hXl, hbj, hLm, hmk, hbr⟩ := hrel
        have hobz : ob.size = 1 + nm.size + X.length := by
          have e1 : ob.data.toList.length = ob.size := Array.length_toList
          have e2 : nm.data.toList.length = nm.size := Array.length_toList
          rw [hob] at e1
          simp only [List.length_cons, List.length_append] at e1
          omega
        have hX6 : X.length ≤ 603600 := by omega
        have hm1 : m ≤ L.length := by have := HLL.out; omega
        have hzr := hbr.size
        by_cases hlt : j < F.length
        · obtain ⟨so', rfl, hsb, hsc⟩ := HRU.out j hlt
          have hFd : F.drop j = F.getD j 0 :: F.drop (j + 1) := by
            rw [List.drop_eq_getElem_cons hlt, List.getD_eq_getElem?_getD, List.getElem?_eq_getElem hlt]
            rfl
          rw [hFd] at hbj
          obtain ⟨q, k', f', ka', kb', hk', rfl, hb1, hb2⟩ := bf_split hbj
          obtain ⟨s2, r2, k2, hds⟩ := Fo.drop_step j k (by have := HFL.out; omega)
          have hef : f' = k.drop (j + 1) := by
            rw [hk'] at hds
            cases hds
            rfl
          subst hef
          rw [hk'] at hX hXl
          rw [text_node'] at hX
          simp only [Fo.size] at hXl
          have hfd := Fo.for_drop j k HFOR.out.2.1
          rw [hk'] at hfd
          have hsz1 := Fo.drop_size j k
          rw [hk'] at hsz1
          simp only [Fo.size] at hsz1
          have hLd2 := row_drop (HROW.out.below hbr) hm1
          have hLm2 : L.drop m = ka' ++ (kb' ++ rest) := by rw [hLm, List.append_assoc]
          have hLml : (L.drop m).length = L.length - m := List.length_drop
          have h1l := Fo.one_len (nmB_len hSV hST) (F.getD j 0) k'
          have h1x := Fo.text_len (nmB_len hSV hST) (.node (F.getD j 0) q k' .nil)
          rw [Fo.text_node] at h1x
          simp only [Fo.size, Fo.text, List.length_append, List.length_cons, List.length_nil] at h1x
          have hsc2 : wr.cell? (so'.add j) = some (.int .i64 (F.getD j 0)) := (hbr.cell (p := so'.add j) (by rw [add_block]; omega)).trans hsc
          have hgr := HG.out.below hbr hgl
          have z0 := hgr.cell 0
          have z1 := hgr.cell 1
          have z2 := hgr.cell 2
          simp only [List.getElem?_toArray, List.getElem?_cons_zero, List.getElem?_cons_succ] at z0 z1 z2
          have hrd := hLd2.below (below_drewN (Below.refl _ wr) 1)
          have hBr : Below w0.heap.size w0 (wr.drewN 1) := (HB1.out.trans (hbr.mono hz1w)).trans (below_drewN (Below.refl _ wr) 1)
          have hcc : (if cap = m then Value.slice (some ka) (L.length - m) (cap - m) else .slice ((some ka).map fun a => a.add m) (L.length - m) (cap - m)) = .slice (if cap = m then some ka else some (ka.add m)) (L.drop m).length (cap - m) := by
            rw [hLml]
            split <;> rfl
          rw [hcc] at hrd
          have hcall := HIH.out (F.getD j 0) q k' ka' (kb' ++ rest) (L.drop m) _ _ (wr.drewN 1) (by have := HN.out; omega) hLm2 hb1 ⟨hfd.1, hfd.2.1, trivial⟩ (by omega) (by omega) hBr hrd
          rw [hLml] at hcall
          unfold RTxt at hcall
          have hLm3 : L.drop (m + ka'.length) = kb' ++ rest := by
            rw [← List.drop_drop, hLm2, List.drop_left]
          have hob2 : X.length + (Fo.one (nmB VS TS) (F.getD j 0) k').length + 1 + 1006 * (k.drop (j + 1)).size ≤ 1006 * k.size := by omega
          have HX := Lib.hid hX
          have HOB := Lib.hid hob
          have HB2 := Lib.hid hb2
          have HL3 := Lib.hid hLm3
          have HOB2 := Lib.hid hob2
          have HBR := Lib.hid hbr
          have hka6 : ka'.length ≤ 600 := by simp only [List.length_append] at hmk; have := HLL.out; omega
          have h1600 : (Fo.one (nmB VS TS) (F.getD j 0) k').length ≤ 603600 := by omega
          simp only [List.length_append] at hmk
          clear hX hob hb2 hLm3 hob2 hbj hfd hds hk' hb1 hLd2 hrd hLm hLm2 hsc hFd hgr h1l h1x hLml hcc hBr
          generalize F.getD j 0 = t at *
          have hjF : (j : Int) < (F.length : Int) := by omega
          go_wp2
          go_region_law (first | (go_simp; go_at_call 30; refine hcall.mono ?_; rintro e w6 ⟨⟨o2, rfl, ho2⟩, hb6⟩))
          all_goals
            have hxc : Below w1.heap.size w1 w6 := HBR.out.trans (((below_drewN (Below.refl _ wr) 1).trans hb6).mono hzr)
            have e2 : o2.data.toList.length = o2.size := Array.length_toList
            have ho2l : o2.size = (Fo.one (nmB VS TS) t k').length := by rw [← e2, ho2]
            have hs1 : ¬ 9223372036854775807 < ob.size + 1 := by omega
            have hs2 : ¬ 9223372036854775807 < ob.size + 1 + o2.size := by omega
            have hmka : (m : Int) + (ka'.length : Int) ≤ 2000 := by omega
            have hcat : (ob ++ ⟨#[32]⟩ ++ o2 : ByteArray).data.toList = 40 :: (nm.data.toList ++ (X ++ 32 :: Fo.one (nmB VS TS) t k')) := by
              rw [cat_three, HOB.out, ho2]
              simp
            have HCAT := Lib.hid hcat
            have HXC := Lib.hid hxc
            clear hcat hxc hb6 hcall z0 z1 z2 e2 ho2
            simp only [Act.put, List.setIfInBounds_toArray, List.set_cons_succ, List.set_cons_zero, List.getElem_toArray, List.getElem_cons_zero, List.getElem_cons_succ]
            go_wp2
            refine ⟨⟨j + 1, m + ka'.length, ob ++ ⟨#[32]⟩ ++ o2, kb', X ++ 32 :: Fo.one (nmB VS TS) t k', hlt, congrArg (Value.int .i64) (by omega), congrArg (Value.int .i64) (by omega), rfl, HCAT.out, HX.out, ?_, HB2.out, HL3.out, by omega, HXC.out⟩, by simp only [intOf]; omega⟩
            have := HOB2.out
            simp only [List.length_append, List.length_cons]
            omega
        · have hjk : j = F.length := by omega
          subst hjk
          have hnil : k.drop F.length = .nil := by rw [HFL.out]; exact Fo.drop_all k
          have hnl : F.drop F.length = [] := List.drop_eq_nil_of_le (Nat.le_refl _)
          rw [hnil] at hX hXl hbj
          rw [hnl] at hbj
          cases hbj
          simp only [Fo.text, List.append_nil] at hX
          subst hX
          have hs1 : ¬ 9223372036854775807 < ob.size + 1 := by omega
          have hcat : (ob ++ ⟨#[41]⟩ : ByteArray).data.toList = 40 :: (nm.data.toList ++ (k.text (nmB VS TS) ++ [41])) := by
            rw [cat_two, hob]
            simp
          have hmm : (m : Int) = (((kn : Int) :: k1).length : Int) := by simp at hmk ⊢; omega
          have HCAT := Lib.hid hcat
          have HMM := Lib.hid hmm
          have HBR := Lib.hid hbr
          clear hcat hmm hbr hob hnil hnl hXl hLm hmk hobz
          go_wp2
          go_ret2
          exact ⟨⟨ob ++ ⟨#[41]⟩, congrArg (fun z : Int => Ending.returned (.tuple #[.string (ob ++ (⟨#[41]⟩ : ByteArray)), .int .i64 z])) HMM.out, HCAT.out⟩, HBL.out.trans (HBR.out.mono (by omega))⟩
end Go.Proofs.Ytomikgkoegkofaa.dt
namespace Go.Proofs.Ytomikgkoegkofaa.dt
open Go.ChangeShapes Go.WideShapes Go.ChangeAt Go.RowKit Go.Maps Go.WideMaps Go.WideElems Go.Shelf Go.Proofs.Ytomikgkoegkofaa.dv
set_option linter.unusedVariables false
set_option linter.unusedSimpArgs false
/-! the document's Measure -/
def RMsr (k : Fo) (n : Nat) (w : World) (e : Ending) (w' : World) : Prop := e = .returned (.tuple #[.int .i64 ((k.size : Int) + 1), .int .i64 ((k.high : Int) + 1), .int .i64 (n : Int)]) ∧ Below w.heap.size w w'
set_option maxRecDepth 100000 in
set_option maxHeartbeats 2000000 in
theorem rmeasure_tree (w0 : World) (ta va ra : Option Addr) (tl tc vl vc rc : Nat) (R : List Rl) (hR : RulesAt w0.heap.size w0 (.slice ra R.length rc) R) :
    ∀ (N : Nat) (s r : Int) (k : Fo) (ks rest L : List Int) (ao : Option Addr) (cap : Nat) (w : World), k.size < N → L = ks ++ rest → BF R [s] ks (.node s r k .nil) → k.size ≤ 600 → L.length ≤ 600 → Below w0.heap.size w0 w → RowAt w (.slice ao L.length cap) L →
    Calls Try.prog 31 #[.agg #[.slice ta tl tc, .slice va vl vc, .slice ra R.length rc], .int .i64 s, .slice ao L.length cap] w (RMsr k ks.length w) := by
  intro N
  induction N with
  | zero => intro s r k ks rest L ao cap w h; omega
  | succ N ih =>
    intro s r k ks rest L ao cap w hN hL hbf hz hl hbw hrow
    have b0 := Blk.new w 25 #[.slice ta tl tc, .slice va vl vc, .slice ra R.length rc]
    have hbl : Below w.heap.size w (w.alloc (.cells #[.slice ta tl tc, .slice va vl vc, .slice ra R.length rc] 25)) := below_lit _ _ _
    have hz0 := hbw.size
    have hB1 : Below w0.heap.size w0 (w.alloc (.cells #[.slice ta tl tc, .slice va vl vc, .slice ra R.length rc] 25)) := hbw.trans (hbl.mono hz0)
    have hrow1 := hrow.below hbl
    have hz1 : (w.alloc (.cells #[.slice ta tl tc, .slice va vl vc, .slice ra R.length rc] 25)).heap.size = w.heap.size + 1 := by simp
    generalize hW1 : w.alloc (.cells #[.slice ta tl tc, .slice va vl vc, .slice ra R.length rc] 25) = w1 at *
    have g0 := b0.cell 0
    have g1 := b0.cell 1
    have g2 := b0.cell 2
    simp only [List.getElem?_toArray, List.getElem?_cons_zero, List.getElem?_cons_succ] at g0 g1 g2
    have hR1 := hR.below hB1
    unfold RMsr
    by_cases h0 : s < 0
    · have hks : ks.length = 0 ∧ k = .nil := by
        cases hbf with
        | term h hf => cases hf; exact ⟨rfl, rfl⟩
        | var h => omega
      obtain ⟨hks, rfl⟩ := hks
      rw [hks]
      have HBL := Lib.hid hbl
      clear ih hbf hrow hrow1 hR1 hks hB1 hbl
      go_enter Try.func31, Try.ntmps31
      go_wp2
      refine bodyPost_ret (results_tmp3 rfl _ _ _) rfl ?_
      exact ⟨rfl, HBL.out⟩
    · obtain ⟨kn, rl, k1, rfl, hrk, hrw, hbk, hks⟩ : ∃ (kn : Nat) (rl : Rl) (k1 : List Int), r = kn ∧ R[kn]? = some rl ∧ ruleW R kn = rl.right ∧ BF R rl.right k1 k ∧ ks = (kn : Int) :: k1 := by
        cases hbf with
        | term h => omega
        | @var _ _ _ k1 k2 f1 f2 h hr h1 h2 =>
          cases h2
          obtain ⟨kn, rl, rfl, hrk, hrw⟩ := ref_ok hr
          rw [hrw] at h1
          exact ⟨kn, rl, k1, rfl, hrk, hrw, h1, by simp⟩
      subst hks
      have hklt : kn < R.length := (List.getElem?_eq_some_iff.1 hrk).1
      obtain ⟨a, rl', so, sc, rfl, hab, hrk', q0, q1, q2, hq1, hq2, hq3, hru, hq5, hq6⟩ := hR1.at kn hklt
      obtain rfl : rl = rl' := by rw [hrk] at hrk'; exact Option.some.inj hrk'
      have hLp : 0 < L.length := by rw [hL]; simp
      have hL0 : L.getD 0 0 = (kn : Int) := by rw [hL]; rfl
      have hLd : L.drop 1 = k1 ++ rest := by rw [hL]; rfl
      have hLl : L.length = 1 + k1.length + rest.length := by rw [hL]; simp; omega
      obtain ⟨_, _, e, hlc, hcm, _, hin1, hrc⟩ := id hrow1
      cases e
      obtain ⟨ka, rfl, hkab, hkc⟩ := hrc 0 hLp
      rw [hL0] at hkc
      have hkc0 : w1.cell? ka = some (.int .i64 (kn : Int)) := by
        have e : ka.add 0 = ka := by unfold Addr.add; split <;> simp_all
        rw [e] at hkc
        exact hkc
      have hpos : (0 : Int) < (L.length : Int) := by omega
      have hpos1 : (1 : Int) ≤ (L.length : Int) := by omega
      have hRl : (kn : Int) < (R.length : Int) := by omega
      unfold maxLen at hcm
      have hFl : rl.right.length = k.len := by rw [← bf_syms hbk, Fo.len_syms]
      have hkz := Fo.len_size k
      have hF600 : rl.right.length ≤ 600 := by omega
      have HFL := Lib.hid hFl
      clear hFl
      have HROW := Lib.hid hrow1
      have HRU := Lib.hid hru
      have HBK := Lib.hid hbk
      have HLD := Lib.hid hLd
      have HLL := Lib.hid hLl
      have HIH := Lib.hid ih
      have HB1 := Lib.hid hB1
      have HBL := Lib.hid hbl
      have HG := Lib.hid b0
      have HN := Lib.hid hN
      have hz1w : w0.heap.size ≤ w1.heap.size := by omega
      have hgl : w.heap.size < w1.heap.size := by omega
      have hq1w : w1.cell? ⟨(a.add (kn * 3)).block, (a.add (kn * 3)).off + 1, none⟩ = some (.slice so rl.right.length sc) := q1
      have hqb : (a.add (kn * 3)).block < w1.heap.size := by rw [add_block]; omega
      clear ih hbf hrow hrow1 hR1 hB1 hbl b0 hru hbk hLd hLl hN hL hL0 hkc hrc hin1 q0 q1 q2 hrk hrk' hrw hz0 hz1 hbw hq5 hq6 hR
      generalize hFF : rl.right = F at *
      clear hFF
      go_enter Try.func31, Try.ntmps31
      go_wp2
      go_quiet (fail)
      have HB5 := Lib.hid (below_drewN (Below.refl w1.heap.size w1) nq)
      have hkk : ∀ p : Addr, (w1.drewN nq).cell? p = w1.cell? p := fun p => rfl
      clear g0 g1 g2 hkc0 hq1w
      generalize w1.drewN nq = w5 at *
      go_wp2
      go_loopw [9, 10, 11, 13] (fun sz hi n i wr => ∃ (j m S H : Nat) (kr : List Int), j ≤ F.length ∧ i = .int .i64 j ∧ n = .int .i64 m ∧ sz = .int .i64 S ∧ hi = .int .i64 H ∧ S + (k.drop j).size = 1 + k.size ∧ max H (k.drop j).high = k.high ∧ BF R (F.drop j) kr (k.drop j) ∧ L.drop m = kr ++ rest ∧ m + kr.length = 1 + k1.length ∧ Below w1.heap.size w1 wr) (fun _ _ _ i _ => F.length - (intOf i).toNat)
      case atStart => exact ⟨0, 1, 1, 0, k1, Nat.zero_le _, rfl, rfl, rfl, rfl, by rw [Fo.drop_zero], by rw [Fo.drop_zero]; omega, by rw [Fo.drop_zero]; exact HBK.out, HLD.out, rfl, HB5.out⟩
      case round =>
        obtain ⟨j, m, S, H, kr, hj, rfl, rfl, rfl, rfl, hS, hH, hbj, hLm, hmk, hbr⟩ := hrel
        have hS6 : S ≤ 601 := by omega
        have hkh := Fo.high_size k
        have hH6 : H ≤ 601 := by omega
        have hm1 : m ≤ L.length := by have := HLL.out; omega
        have hzr := hbr.size
        by_cases hlt : j < F.length
        · obtain ⟨so', rfl, hsb, hsc⟩ := HRU.out j hlt
          have hFd : F.drop j = F.getD j 0 :: F.drop (j + 1) := by
            rw [List.drop_eq_getElem_cons hlt, List.getD_eq_getElem?_getD, List.getElem?_eq_getElem hlt]
            rfl
          rw [hFd] at hbj
          obtain ⟨q, k', f', ka', kb', hk', rfl, hb1, hb2⟩ := bf_split hbj
          obtain ⟨s2, r2, k2, hds⟩ := Fo.drop_step j k (by have := HFL.out; omega)
          have hef : f' = k.drop (j + 1) := by
            rw [hk'] at hds
            cases hds
            rfl
          subst hef
          rw [hk'] at hS hH
          simp only [Fo.size, Fo.high] at hS hH
          have hsz1 := Fo.drop_size j k
          rw [hk'] at hsz1
          simp only [Fo.size] at hsz1
          have hLd2 := row_drop (HROW.out.below hbr) hm1
          have hLm2 : L.drop m = ka' ++ (kb' ++ rest) := by rw [hLm, List.append_assoc]
          have hLml : (L.drop m).length = L.length - m := List.length_drop
          have hsc2 : wr.cell? (so'.add j) = some (.int .i64 (F.getD j 0)) := (hbr.cell (p := so'.add j) (by rw [add_block]; omega)).trans hsc
          have hgr := HG.out.below hbr hgl
          have z0 := hgr.cell 0
          have z1 := hgr.cell 1
          have z2 := hgr.cell 2
          simp only [List.getElem?_toArray, List.getElem?_cons_zero, List.getElem?_cons_succ] at z0 z1 z2
          have hrd := hLd2.below (below_drewN (Below.refl _ wr) 1)
          have hBr : Below w0.heap.size w0 (wr.drewN 1) := (HB1.out.trans (hbr.mono hz1w)).trans (below_drewN (Below.refl _ wr) 1)
          have hcc : (if cap = m then Value.slice (some ka) (L.length - m) (cap - m) else .slice ((some ka).map fun a => a.add m) (L.length - m) (cap - m)) = .slice (if cap = m then some ka else some (ka.add m)) (L.drop m).length (cap - m) := by
            rw [hLml]
            split <;> rfl
          rw [hcc] at hrd
          have hcall := HIH.out (F.getD j 0) q k' ka' (kb' ++ rest) (L.drop m) _ _ (wr.drewN 1) (by have := HN.out; omega) hLm2 hb1 (by omega) (by omega) hBr hrd
          rw [hLml] at hcall
          unfold RMsr at hcall
          have hLm3 : L.drop (m + ka'.length) = kb' ++ rest := by
            rw [← List.drop_drop, hLm2, List.drop_left]
          have hkh' := Fo.high_size k'
          have hsk : S + (k'.size + 1) + (k.drop (j + 1)).size = 1 + k.size := by omega
          have hhk : max (max H (k'.high + 1)) (k.drop (j + 1)).high = k.high := by omega
          have hk6 : k'.size ≤ 600 := by omega
          have hkh6 : k'.high ≤ 600 := by omega
          have HSK := Lib.hid hsk
          have HHK := Lib.hid hhk
          have HB2 := Lib.hid hb2
          have HL3 := Lib.hid hLm3
          have HBR := Lib.hid hbr
          have hka6 : ka'.length ≤ 600 := by simp only [List.length_append] at hmk; have := HLL.out; omega
          simp only [List.length_append] at hmk
          clear hS hH hsk hhk hb2 hLm3 hbj hds hk' hb1 hLd2 hrd hLm hLm2 hsc hFd hgr hLml hcc hBr
          generalize F.getD j 0 = t at *
          have hjF : (j : Int) < (F.length : Int) := by omega
          go_wp2
          go_region_law (first | (go_simp; go_at_call 31; refine hcall.mono ?_; rintro e w6 ⟨rfl, hb6⟩))
          all_goals
            have hxc : Below w1.heap.size w1 w6 := HBR.out.trans (((below_drewN (Below.refl _ wr) 1).trans hb6).mono hzr)
            have hmka : (m : Int) + (ka'.length : Int) ≤ 2000 := by omega
            have HXC := Lib.hid hxc
            clear hxc hb6 hcall z0 z1 z2
            simp only [Act.put, List.setIfInBounds_toArray, List.set_cons_succ, List.set_cons_zero, List.getElem_toArray, List.getElem_cons_zero, List.getElem_cons_succ]
            go_wp2
            refine ⟨⟨j + 1, m + ka'.length, S + (k'.size + 1), max H (k'.high + 1), kb', hlt, congrArg (Value.int .i64) (by omega), congrArg (Value.int .i64) (by omega), congrArg (Value.int .i64) (by omega), congrArg (Value.int .i64) (by omega), HSK.out, HHK.out, HB2.out, HL3.out, by omega, HXC.out⟩, by simp only [intOf]; omega⟩
        · have hjk : j = F.length := by omega
          subst hjk
          have hnil : k.drop F.length = .nil := by rw [HFL.out]; exact Fo.drop_all k
          have hnl : F.drop F.length = [] := List.drop_eq_nil_of_le (Nat.le_refl _)
          rw [hnil] at hS hH hbj
          rw [hnl] at hbj
          cases hbj
          simp only [Fo.size, Fo.high] at hS hH
          have hSe : (S : Int) = (k.size : Int) + 1 := by omega
          have hHe : H = k.high := by omega
          subst hHe
          have hmm : (m : Int) = (((kn : Int) :: k1).length : Int) := by simp at hmk ⊢; omega
          have HMM := Lib.hid hmm
          have HSE := Lib.hid hSe
          have HBR := Lib.hid hbr
          clear hmm hbr hnil hnl hS hH hLm hmk hSe
          go_wp2
          refine bodyPost_ret (results_tmp3 rfl _ _ _) rfl ?_
          refine ⟨?_, HBL.out.trans (HBR.out.mono (by omega))⟩
          have hfin : Ending.returned (.tuple #[.int .i64 (S : Int), .int .i64 ((k.high : Int) + 1), .int .i64 (m : Int)]) = .returned (.tuple #[.int .i64 ((k.size : Int) + 1), .int .i64 ((k.high : Int) + 1), .int .i64 ((((kn : Int) :: k1).length : Nat) : Int)]) := by rw [HSE.out, HMM.out]
          exact hfin
end Go.Proofs.Ytomikgkoegkofaa.dt

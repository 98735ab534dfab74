/- For any grammar, any variable, any list of choices and any two numbers the law TreeBends returns true, and what it was handed reads afterwards as it did; no condition. -/
import Derived.Test.YtomikgkoegkofaaJe
import Derived.Test.YtomikgkoegkofaaJc
import Derived.Test.YtomikgkoegkofaaJa
import Derived.Maps.AppendAt
namespace Go.Proofs.Ytomikgkoegkofaa.dt
open Go.ChangeShapes Go.WideShapes Go.ChangeAt Go.RowKit Go.Maps Go.WideMaps Go.WideElems Go.Shelf Go.Proofs.Ytomikgkoegkofaa.dv
set_option linter.unusedVariables false
set_option linter.unusedSimpArgs false
/-! TreeBends -/
theorem bv_and' (x y : Int) : (BitVec.ofInt 64 x &&& BitVec.ofInt 64 y).toNat = (x % 18446744073709551616).toNat &&& (y % 18446744073709551616).toNat := by
  rw [BitVec.toNat_and, BitVec.toNat_ofInt, BitVec.toNat_ofInt]; rfl
theorem and_nat' (x : Int) (m j : Nat) (hm : m = 2 ^ j - 1) (hj : m < 4611686018427387904) (hd : (18446744073709551616 : Nat) % 2 ^ j = 0) : bits .and .i64 x (m : Int) = x % ((2 ^ j : Nat) : Int) := by
  have hp : 0 < 2 ^ j := Nat.two_pow_pos j
  show IntKind.i64.wrap ((BitVec.ofInt 64 x &&& BitVec.ofInt 64 (m : Int)).toNat : Int) = _
  rw [bv_and', Int.emod_eq_of_lt (show (0 : Int) ≤ (m : Int) by omega) (by omega), Int.toNat_natCast, hm, Nat.and_two_pow_sub_one_eq_mod]
  have hlt := Nat.mod_lt (x % 18446744073709551616).toNat hp
  rw [IntWalk.i64_in _ (by omega)]
  generalize hP : 2 ^ j = P at *
  obtain ⟨q, hq⟩ := Nat.dvd_of_mod_eq_zero hd
  have h0 := Int.emod_nonneg x (show (18446744073709551616 : Int) ≠ 0 by decide)
  have e : (((x % 18446744073709551616).toNat % P : Nat) : Int) = (x % 18446744073709551616) % (P : Int) := by
    rw [Int.natCast_emod, Int.toNat_of_nonneg h0]
  rw [e]
  exact Int.emod_emod_of_dvd x ⟨(q : Int), (congrArg (fun m : Nat => (m : Int)) hq).trans (Int.natCast_mul P q)⟩
theorem and65535 (x : Int) : bits .and .i64 x 65535 = x % 65536 := and_nat' x 65535 16 (by decide) (by decide) (by decide)
theorem bends_apart {tl tn : Nat} {R : List Rl} {s r : Int} {S : List Int} {rl : Rl} (hd : ∀ k, k < R.length → DistU R k) (h1 : 0 ≤ s) (hfs : fitB tl R s r S = true) (h2 : R[tn]? = some rl) (h3 : rl.left = s) (h4 : ¬ (tn : Int) = r) : fitB tl R s (tn : Int) S = false := by
  unfold fitB at hfs ⊢
  rw [if_neg (by omega)] at hfs ⊢
  simp only [Bool.and_eq_true, decide_eq_true_eq] at hfs
  obtain ⟨g1, g2⟩ := hfs
  obtain ⟨rn, rr, rfl, hrk, hrw⟩ := ref_ok g1
  have hrl : rr.left = s := by
    by_cases e : rr.left = s
    · exact e
    · exfalso
      have hlt := (List.getElem?_eq_some_iff.1 hrk).1
      have g : refW R s (rn : Int) = 14 := by
        unfold refW
        rw [if_pos (by unfold isRl; simp; omega), if_pos h1, Int.toNat_natCast, List.getD_eq_getElem?_getD, hrk]
        simp [e]
      rw [g] at g1
      cases g1
  have hru : ruleW R (tn : Int) = rl.right := by unfold ruleW; rw [Int.toNat_natCast, List.getD_eq_getElem?_getD, h2]; rfl
  have hne : ¬ S = ruleW R (tn : Int) := fun e => by
    rw [g2, hrw, hru] at e
    have t1 := (List.getElem?_eq_some_iff.1 hrk).1
    have t2 := (List.getElem?_eq_some_iff.1 h2).1
    have hnr : tn ≠ rn := fun e => h4 (by rw [e])
    rcases Nat.lt_or_gt_of_ne hnr with h | h
    · exact hd rn t1 tn rl rr h h2 hrk ⟨by rw [h3, hrl], e.symm⟩
    · exact hd tn t2 rn rr rl h hrk h2 ⟨by rw [h3, hrl], e⟩
  rw [decide_eq_false hne]
  simp
theorem of_fob {R : List Rl} {v : Int} {ks : List Int} {w w' : World} {e : Ending} (h : OfR R v ks w e w') (h0 : (yieldW R [v] ks).2 = 0) : ∃ b r k ls, e = .returned (.tuple #[PtrV b, .int .i64 0]) ∧ FoB w.heap.size w' [b] (.node v r k .nil) ls ∧ ls.Nodup ∧ BF R [v] ks (.node v r k .nil) := by
  obtain ⟨b, ns, out, he, hb, hs, hn, hd, hnew⟩ := h.ok h0
  obtain ⟨f, ls, hf, hl, hnf⟩ := fob_of hs hnew hd
  obtain ⟨g, hg, hbg⟩ := built_fo (F := [v]) hb
  have : f = g := Fo.nodes_eq (lv := 1) (by rw [← hnf, ← hg, hn])
  subst this
  obtain ⟨r, k, rfl⟩ := bf_root hbg
  exact ⟨b, r, k, ls, he, hf, hl, hbg⟩
theorem of_outb {R : List Rl} {v : Int} {ks : List Int} {w w' : World} {e : Ending} (h : OfR R v ks w e w') : ∃ (p : Option Addr) (E : Int), e = .returned (.tuple #[.pointer p, .int .i64 E]) ∧ (E ≠ 0 → p = none) ∧ (E = 0 → ∃ b r k ls, p = some ⟨b, 0, none⟩ ∧ FoB w.heap.size w' [b] (.node v r k .nil) ls ∧ ls.Nodup ∧ BF R [v] ks (.node v r k .nil)) ∧ Below w.heap.size w w' := by
  by_cases h0 : (yieldW R [v] ks).2 = 0
  · obtain ⟨b, r, k, ls, he, hf, hl, hb⟩ := of_fob h h0
    exact ⟨some ⟨b, 0, none⟩, 0, he, fun e => absurd rfl e, fun _ => ⟨b, r, k, ls, rfl, hf, hl, hb⟩, h.below⟩
  · exact ⟨none, _, h.err h0, fun _ => rfl, fun e => absurd e h0, h.below⟩
set_option maxRecDepth 100000 in
set_option maxHeartbeats 8000000 in
theorem tbends_any (w : World) (ta va ra : Option Addr) (tl tc vl vc rc : Nat) (av : Value) (v at_ to : Int) (R : List Rl) (A : List Int) (hR : RulesAt w.heap.size w (.slice ra R.length rc) R) (hT : StrsAt w.heap.size w ta tl) (hV : StrsAt w.heap.size w va vl) (hn : R.length ≤ maxLen) (ht : tl ≤ maxLen) (hv : vl ≤ maxLen) (hA : RowAt w av A) :
    Calls Try.prog 10 #[.agg #[.slice ta tl tc, .slice va vl vc, .slice ra R.length rc], .int .i64 v, av, .int .i64 at_, .int .i64 to] w fun e w' => e = .returned (.bool true) ∧ Below w.heap.size w w' := by
  have b0 := Blk.new w 25 #[.slice ta tl tc, .slice va vl vc, .slice ra R.length rc]
  have hbl : Below w.heap.size w (w.alloc (.cells #[.slice ta tl tc, .slice va vl vc, .slice ra R.length rc] 25)) := below_lit _ _ _
  have hR1 := hR.below hbl
  have hT1 := hT.below hbl
  have hV1 := hV.below hbl
  have hA1 := hA.below hbl
  generalize hW0 : w.alloc (.cells #[.slice ta tl tc, .slice va vl vc, .slice ra R.length rc] 25) = w0 at *
  have hz0 : w0.heap.size = w.heap.size + 1 := by rw [← hW0]; simp
  have HR := Lib.hid hR1
  have HT := Lib.hid hT1
  have HV := Lib.hid hV1
  have HA := Lib.hid hA1
  obtain ⟨ao, ac, rfl, hac, ham, _⟩ := hA
  have ham' : ac ≤ 9223372036854775807 := by unfold maxLen at ham; omega
  clear hR hT hV hR1 hT1 hV1 hA1
  go_enter Try.func10, Try.ntmps10
  go_wp2_with fail
  refine (talive_any w0).mono ?_
  rintro e w1 ⟨rfl, hb1⟩
  have hB1 : Below (w.heap.size + 1) w0 w1 := hb1.mono (by omega)
  have hz1 := hB1.size
  have bx1 := b0.below hB1 (by omega)
  have p0 := bx1.cell 0
  have p1 := bx1.cell 1
  have p2 := bx1.cell 2
  simp only [List.getElem?_toArray, List.getElem?_cons_zero, List.getElem?_cons_succ] at p0 p1 p2
  go_wp2_with fail
  refine (few_any w1 w.heap.size ta va ra tl tc vl vc rc R (HR.out.below (hB1.mono (by omega))) (by omega) hn ht hv).mono ?_
  rintro e w2 ⟨b, rfl, hfew, hb2⟩
  have hB2 : Below (w.heap.size + 1) w0 w2 := hB1.trans (hb2.mono (by omega))
  cases b
  · clear hfew
    go_wp2
    go_ret
    exact ⟨rfl, hbl.trans (hB2.mono (by omega))⟩
  obtain ⟨f1, f2, f3, h8⟩ := hfew rfl
  have H8 := Lib.hid h8
  clear hfew h8
  have hz2 := hB2.size
  have bx2 := b0.below hB2 (by omega)
  have q0 := bx2.cell 0
  have q1 := bx2.cell 1
  have q2 := bx2.cell 2
  simp only [List.getElem?_toArray, List.getElem?_cons_zero, List.getElem?_cons_succ] at q0 q1 q2
  by_cases g1 : A.length ≤ 60
  case neg =>
    go_wp2
    go_ret
    exact ⟨rfl, hbl.trans (hB2.mono (by omega))⟩
  by_cases g2 : A.length = 0
  · have c1 : ((A.length : Int) == 0) = true := by rw [g2]; rfl
    go_wp2
    go_ret
    exact ⟨rfl, hbl.trans (hB2.mono (by omega))⟩
  have c0' : ((A.length : Int) == 0) = false := by simpa using g2
  go_wp2_with fail
  refine (right_full2 w2 w.heap.size ta va ra tl tc vl vc rc R (HR.out.below (hB2.mono (by omega))) (HT.out.below (hB2.mono (by omega))) (HV.out.below (hB2.mono (by omega))) (by omega) f3 f2 f1 H8.out).mono ?_
  rintro e w3 ⟨b, rfl, hri, hb3⟩
  have hB3 : Below (w.heap.size + 1) w0 w3 := hB2.trans (hb3.mono (by omega))
  have hz3 := hB3.size
  have bx3 := b0.below hB3 (by omega)
  have r0 := bx3.cell 0
  have r1 := bx3.cell 1
  have r2 := bx3.cell 2
  simp only [List.getElem?_toArray, List.getElem?_cons_zero, List.getElem?_cons_succ] at r0 r1 r2
  cases b
  · go_wp2
    go_ret
    exact ⟨rfl, hbl.trans (hB3.mono (by omega))⟩
  by_cases hv0 : 0 ≤ v
  case neg =>
    go_wp2
    go_ret
    exact ⟨rfl, hbl.trans (hB3.mono (by omega))⟩
  by_cases hvl : v < (vl : Int)
  case neg =>
    go_wp2
    go_ret
    exact ⟨rfl, hbl.trans (hB3.mono (by omega))⟩
  have HRI := Lib.hid (hri rfl)
  clear hri p0 p1 p2 q0 q1 q2
  have hv64 : In64 v := by unfold In64; omega
  have ho1 := of_any w3 w.heap.size ta va tl tc vl vc (.slice ra R.length rc) (.slice ao A.length ac) R v A (HR.out.below (hB3.mono (by omega))) (by omega) hv64 (HA.out.below (by rw [hz0]; exact hB3)) (by omega) H8.out
  go_wp2_with fail
  refine ho1.mono ?_
  intro e w4 hof1
  obtain ⟨px, ex, rfl, hx0, hx1, hb4⟩ := of_outb hof1
  have hB4 : Below (w.heap.size + 1) w0 w4 := hB3.trans (hb4.mono (by omega))
  have hz4 := hB4.size
  have bx4 := b0.below hB4 (by omega)
  have s0 := bx4.cell 0
  have s1 := bx4.cell 1
  have s2 := bx4.cell 2
  simp only [List.getElem?_toArray, List.getElem?_cons_zero, List.getElem?_cons_succ] at s0 s1 s2
  have HX0 := Lib.hid hx0
  have HX1 := Lib.hid hx1
  clear hof1 ho1 hx0 hx1 r0 r1 r2
  by_cases he1 : ex = 0
  case neg =>
    have c1 : (ex != 0) = true := by simpa using he1
    obtain rfl := HX0.out he1
    go_wp2
    go_ret
    exact ⟨rfl, hbl.trans (hB4.mono (by omega))⟩
  subst he1
  obtain ⟨b, rb, k0, ls, rfl, hfb, hlsd, hbf⟩ := HX1.out rfl
  obtain ⟨z1, z2, z3, z4, z5, z6, z7, hxa, hps⟩ := fob_pos hfb 0 (by simp)
  have hand := and65535 at_
  have ham2 : ∃ n : Nat, n ≤ 65535 ∧ at_ % 65536 = (n : Int) := ⟨(at_ % 65536).toNat, by omega, by omega⟩
  obtain ⟨n0, hn0, hn1⟩ := ham2
  rw [hn1] at hand
  have c1 : ((0 : Int) != 0) = false := rfl
  have hrl := HRI.out.1.2
  have h8 := H8.out
  have hsv : ∀ s ∈ [v], SymOk tl vl s := fun s hs => by
    obtain rfl : s = v := by simpa using hs
    exact ⟨hvl, by omega⟩
  have hin := Fo.for_one _ (Fo.for_mono (q := fun s r => In64 s ∧ In64 r) (fun s r h => ⟨sym_in h.1 f2 f1, h.2⟩) _ (bf_for hbf hrl f3 hsv))
  have hall := bf_all hbf hrl hsv
  have hsz := bf_size hbf h8
  simp only [List.length_cons, List.length_nil] at hsz
  have HIN := Lib.hid hin
  have HALL := Lib.hid hall
  have HSZ := Lib.hid (show (Fo.node v rb k0 .nil).size ≤ 600 by omega)
  clear hrl h8 hsv hin hall hsz
  have HXA := Lib.hid hxa
  have HPS := Lib.hid hps
  have HFB := Lib.hid hfb
  have HLS := Lib.hid hlsd
  have HBF := Lib.hid hbf
  have HG4 := Lib.hid bx4
  clear hxa hps hfb hlsd hbf HX0 HX1 hn1 bx1 bx2 bx3 bx4
  go_wp2
  go_loopw [3, 13] (fun av xv wr => ∃ (n x : Nat) (s r : Int) (u : Value) (kb : List Nat) (k : Fo) (lk : List Nat) (c : Int → Fo → Fo), av = .int .i64 n ∧ n ≤ 65535 ∧ xv = .pointer (some ⟨x, 0, none⟩) ∧ XAt w3.heap.size w4 x s r u kb k lk ∧ Pos w3.heap.size w4 x s r k lk [b] (.node v rb k0 .nil) ls c ∧ Qt w4 wr) (fun av _ _ => (intOf av).toNat)
  case atStart => exact ⟨n0, b, z1, z2, z3, z4, z5, z6, z7, rfl, hn0, rfl, HXA.out, HPS.out, 0, rfl⟩
  case round =>
    obtain ⟨n, x, s, r, u, kb, k, lk, c, rfl, hn, rfl, hxa, hps, hqt⟩ := hrel
    obtain ⟨uo, uc, rfl, huc⟩ := ptr_row (own_base' hxa.own (Nat.zero_le _))
    have d0 := (hqt.cell _).trans (hxa.blk.cell 0)
    have d1 := (hqt.cell _).trans (hxa.blk.cell 1)
    have d2 := (hqt.cell _).trans (hxa.blk.cell 2)
    simp only [List.getElem?_toArray, List.getElem?_cons_zero, List.getElem?_cons_succ] at d0 d1 d2
    by_cases hgo : 0 < n ∧ 0 < kb.length
    · obtain ⟨hn1, hk1⟩ := hgo
      have hil : n % kb.length < kb.length := Nat.mod_lt _ hk1
      obtain ⟨uo', rfl, hca0⟩ := huc _ hil
      have hca := (hqt.cell _).trans hca0
      obtain ⟨y1, y2, y3, y4, y5, y6, y7, hya, hyp⟩ := fob_pos hxa.kids _ hil
      have hyp2 := Pos.comp hxa hyp hps
      have hrem : Int.tmod (n : Int) (kb.length : Int) = ((n % kb.length : Nat) : Int) := by simp [Int.tmod]
      have hquo : Int.tdiv (n : Int) 2 = ((n / 2 : Nat) : Int) := by simp [Int.tdiv]
      have hk0 : ((kb.length : Int) == 0) = false := beq_eq_false_iff_ne.2 (by omega)
      have hil2 : ((n % kb.length : Nat) : Int) < (kb.length : Int) := by omega
      have hm65 : ((n / 2 : Nat) : Int) ≤ 65535 := by omega
      generalize kb.getD (n % kb.length) 0 = y at *
      unfold PtrV at hca
      have HYA := Lib.hid hya
      have HYP := Lib.hid hyp2
      have HQ := Lib.hid hqt
      clear hxa hps hya hyp hyp2 hca0 huc hil hqt
      go_wp2
      go_quiet (fail)
      go_wp2
      exact ⟨⟨n / 2, y, y1, y2, y3, y4, y5, y6, y7 |> fun c2 => fun r' k' => c r (c2 r' k'), congrArg (Value.int .i64) (by omega), by omega, rfl, HYA.out, HYP.out, HQ.out.drewN _⟩, by simp only [intOf]; omega⟩
    · obtain ⟨zz, hzz⟩ := hps.all (p := fitB tl R)
      have hF := HALL.out
      rw [hps.eq, hzz] at hF
      simp only [Bool.and_eq_true] at hF
      obtain ⟨rfl, hfs, hka⟩ := hF
      have hrr : ∀ {to' : Int}, 0 ≤ s → (to' < 0 ∨ (R.length : Int) ≤ to') → fitB tl R s to' k.syms = false := fun {to'} h1 h2 => by
        unfold fitB
        rw [if_neg (by omega)]
        have : refW R s to' = 12 := by
          unfold refW
          rw [if_neg (by unfold isRl; simp; omega)]
        rw [this]
        rfl
      have HT1 := Lib.hid (fun (h1 : s < 0) (h2 : to = -1) => (show fitB tl R s to k.syms = true by
        unfold fitB at hfs ⊢
        rw [if_pos h1] at hfs ⊢
        simp only [Bool.and_eq_true, decide_eq_true_eq] at hfs ⊢
        exact ⟨hfs.1, h2, hfs.2.2⟩))
      have HT2 := Lib.hid (fun (h1 : s < 0) (h2 : ¬ to = -1) => (show fitB tl R s to k.syms = false by
        unfold fitB
        rw [if_pos h1, decide_eq_false h2]
        simp))
      have HT3 := Lib.hid (fun (h1 : 0 ≤ s) (h2 : to < 0 ∨ (R.length : Int) ≤ to) => hrr h1 h2)
      have HT4 := Lib.hid (fun (h1 : 0 ≤ s) (tn : Nat) (rl : Rl) (h2 : R[tn]? = some rl) (h3 : rl.left = s) (h4 : ¬ (tn : Int) = r) => (show fitB tl R s (tn : Int) k.syms = false from bends_apart HRI.out.2 h1 hfs h2 h3 h4))
      have HT5 := Lib.hid (fun (h1 : 0 ≤ s) (tn : Nat) (rl : Rl) (h2 : R[tn]? = some rl) (h3 : ¬ rl.left = s) => (show fitB tl R s (tn : Int) k.syms = false by
        unfold fitB
        rw [if_neg (by omega)]
        have : refW R s (tn : Int) ≠ 0 := by
          have hlt := (List.getElem?_eq_some_iff.1 h2).1
          unfold refW
          rw [if_pos (by unfold isRl; simp; omega), if_pos h1, Int.toNat_natCast, List.getD_eq_getElem?_getD, h2]
          simp [h3]
        rw [decide_eq_false this]
        rfl))
      have HRU := Lib.hid HR.out
      have HW04 := Lib.hid (fun p (hp : p < w.heap.size) => hB4.block p (by omega))
      obtain ⟨i0, hi0, hi1, hi2, hi3⟩ := info_parts info_pnode
      have hkb600 : kb.length ≤ 600 := by
        have h1 := hxa.kids.len
        have h2 := Fo.len_size k
        have h3 := hps.size r .nil
        have h4 := HSZ.out
        simp only [Fo.size] at h3 h4
        omega
      have hz5' : w.heap.size + 1 ≤ w4.heap.size := by omega
      have hall1 : ∀ r', (c r' k).all (fitB tl R) = fitB tl R s r' k.syms := fun r' => by rw [hzz, hka]; simp
      have hall3 : (c r (k.app (.node 0 (-1) .nil .nil))).all (fitB tl R) = false := by
        rw [hzz, Fo.syms_app]
        have := fit_more hfs
        simp only [Fo.syms] at this ⊢
        rw [this]
        rfl
      have hns := hps.notin HLS.out
      have hzx := hxa.blk.lt
      have hxge := hxa.ge
      have hfr := (hps.forr HIN.out)
      have hxw : w.heap.size + 1 ≤ x := by omega
      have hV1 : ∀ W r', Below (w.heap.size + 1) w0 W → w4.heap.size ≤ W.heap.size → (∀ q, q < w4.heap.size → q ≠ x → W.heap[q]? = w4.heap[q]?) → Blk W x 65 #[.int .i64 s, .int .i64 r', .slice uo kb.length uc] → Calls Try.prog 37 #[.pointer (some ⟨b, 0, none⟩), .agg #[.slice ta tl tc, .slice va vl vc, .slice ra R.length rc]] W fun e w' => e = .returned (.bool (fitB tl R s r' k.syms)) ∧ Below W.heap.size W w' := fun W r' hBW hsW hW hb => by
        have hf := hps.turn hxa (fun q hq hqx _ => hW q hq hqx) hb (ownsRow_keep (own_base' hxa.own (Nat.zero_le _)) (fun g hg e => hW g hg (fun e2 => by
          subst e2
          obtain ⟨_, cs, fz, ho⟩ := row_obj hxa.own g e
          exact absurd (blk_typ hxa.blk ho) (by decide)))) (FoB.far1 hxa.blk hW hxa.kids hns.1).at_ HLS.out
        have := valid_foS W w.heap.size b _ ta va ra tl tc vl vc rc R hf (by have := hps.size r' k; have := HSZ.out; omega) (hfr.2.2 r' k hfr.1 hfr.2.1) (HR.out.below (hBW.mono (by omega))) (by have := hBW.size; omega) ht
        rwa [hall1] at this
      have hV3 : ∀ W y v8, Below (w.heap.size + 1) w0 W → (∀ q, q < w4.heap.size → q ≠ x → Value.ownBlock (.slice uo kb.length uc) ≠ some q → W.heap[q]? = w4.heap[q]?) → Blk W x 65 #[.int .i64 s, .int .i64 r, v8] → W.ownsRow 0 53 1 v8 (kb.length + 1) (PV kb ++ [PtrV y]) → Blk W y 65 #[.int .i64 0, .int .i64 (-1), .slice none 0 0] → Calls Try.prog 37 #[.pointer (some ⟨b, 0, none⟩), .agg #[.slice ta tl tc, .slice va vl vc, .slice ra R.length rc]] W fun e w' => e = .returned (.bool false) ∧ Below W.heap.size W w' := fun W y v8 hBW hW hb ho hy => by
        have hkk := (FoB.kidsapart hxa hW hxa.kids hns.2 hns.1 (fun z hz _ => hz)).at_.app (FoAt.cons (k := .nil) (f := .nil) (bs := []) hy (show W.ownsRow 0 53 1 (.slice none 0 0) ([] : List Nat).length (PV []) from World.ownsRow_nil _ _ _ _) .nil .nil)
        have hf := hps.turn hxa hW (kb' := kb ++ [y]) hb (by simpa [PV] using ho) hkk HLS.out
        have := valid_foS W w.heap.size b _ ta va ra tl tc vl vc rc R hf (by have := hps.size r (k.app (.node 0 (-1) .nil .nil)); have := HSZ.out; rw [Fo.size_app] at *; simp only [Fo.size] at *; omega) (hfr.2.2 r _ hfr.1 (Fo.for_app _ _ hfr.2.1 ⟨by decide, trivial, trivial⟩)) (HR.out.below (hBW.mono (by omega))) (by have := hBW.size; omega) ht
        rwa [hall3] at this

      obtain ⟨q, rfl⟩ := hqt
      have hbU : Blk ((w4.drewN q).setCell ⟨x, 1, none⟩ (.int .i64 to)) x 65 #[.int .i64 s, .int .i64 to, .slice uo kb.length uc] := Blk.set_ (w := w4.drewN q) hxa.blk 1 (.int .i64 to)
      have hWU : ∀ p, p ≠ x → ((w4.drewN q).setCell ⟨x, 1, none⟩ (.int .i64 to)).heap[p]? = w4.heap[p]? := fun p hp => Below.heap_setCell (w4.drewN q) ⟨x, 1, none⟩ (.int .i64 to) p hp
      have hBU : Below (w.heap.size + 1) w0 ((w4.drewN q).setCell ⟨x, 1, none⟩ (.int .i64 to)) := (below_drewN hB4 q).setCell (p := ⟨x, 1, none⟩) hxw _
      have hsU : w4.heap.size ≤ ((w4.drewN q).setCell ⟨x, 1, none⟩ (.int .i64 to)).heap.size := by simp
      have hgU := b0.below hBU (by omega)
      have e0 := hbU.cell 0
      have e2 := hgU.cell 0
      have e3 := hgU.cell 1
      have e4 := hgU.cell 2
      have fz : (w4.drewN q).frozen? ⟨x, 1, none⟩ = false := Blk.frozen (w := w4.drewN q) hxa.blk 1
      simp only [List.getElem?_toArray, List.getElem?_cons_zero, List.getElem?_cons_succ] at e0 e2 e3 e4
      have HV1 := Lib.hid hV1
      have HV3 := Lib.hid hV3
      have HBU := Lib.hid hbU
      have HWU := Lib.hid hWU
      have HBB := Lib.hid hBU
      have HSU := Lib.hid hsU
      have HXX := Lib.hid hxa
      clear hV1 hV3 hbU hWU hBU hsU hgU hall1 hall3 hzz hfr hns hps huc hxa
      by_cases hn0 : 0 < n
      · have hk0 : kb.length = 0 := by omega
        have hk00 : decide ((0 : Int) < (kb.length : Int)) = false := decide_eq_false (by omega)
        have HK0 := Lib.hid hk0
        clear hk0
        by_cases hs0 : s < 0
        · have c3 : decide ((0 : Int) ≤ s) = false := decide_eq_false (by omega)
          by_cases hto : to = -1
          · have c2 : (to == -1) = true := by simpa using hto
            have hans : fitB tl R s to k.syms = true := HT1.out hs0 hto
            have HTO := Lib.hid hto
            clear hto
            skip
            go_wp2
            go_quiet (fail)
            go_wp2_with fail
            have hv := HV1.out (((w4.drewN q).setCell ⟨x, 1, none⟩ (.int .i64 to)).drewN nq) to (below_drewN HBB.out nq) HSU.out (fun p _ hpx => HWU.out p hpx) HBU.out
            rw [hans] at hv
            have hW2 : ∀ p, p ≠ x → (((w4.drewN q).setCell ⟨x, 1, none⟩ (.int .i64 to)).drewN nq).heap[p]? = w4.heap[p]? := HWU.out
            have hb2 : Blk (((w4.drewN q).setCell ⟨x, 1, none⟩ (.int .i64 to)).drewN nq) x 65 #[.int .i64 s, .int .i64 to, .slice uo kb.length uc] := HBU.out
            have hBB2 : Below (w.heap.size + 1) w0 (((w4.drewN q).setCell ⟨x, 1, none⟩ (.int .i64 to)).drewN nq) := below_drewN HBB.out nq
            have hs2 : w4.heap.size ≤ (((w4.drewN q).setCell ⟨x, 1, none⟩ (.int .i64 to)).drewN nq).heap.size := HSU.out
            generalize ((w4.drewN q).setCell ⟨x, 1, none⟩ (.int .i64 to)).drewN nq = u2 at *
            refine hv.mono ?_
            rintro e u3 ⟨rfl, hb23⟩
            have hb3 : Blk u3 x 65 #[.int .i64 s, .int .i64 to, .slice uo kb.length uc] := hb2.below hb23 hb2.lt
            have hW3 : ∀ p, p < w4.heap.size → p ≠ x → u3.heap[p]? = w4.heap[p]? := fun p hp hpx => (hb23.block p (by omega)).trans (hW2 p hpx)
            have hBB3 : Below (w.heap.size + 1) w0 u3 := hBB2.trans (hb23.mono (by have := hBB2.size; omega))
            have hs3 : w4.heap.size ≤ u3.heap.size := Nat.le_trans hs2 hb23.size
            have hb4' : Blk (u3.setCell ⟨x, 1, none⟩ (.int .i64 r)) x 65 #[.int .i64 s, .int .i64 r, .slice uo kb.length uc] := hb3.set_ 1 (.int .i64 r)
            have hW4 : ∀ p, p < w4.heap.size → p ≠ x → (u3.setCell ⟨x, 1, none⟩ (.int .i64 r)).heap[p]? = w4.heap[p]? := fun p hp hpx => (Below.heap_setCell u3 ⟨x, 1, none⟩ (.int .i64 r) p hpx).trans (hW3 p hp hpx)
            have hBB4 : Below (w.heap.size + 1) w0 (u3.setCell ⟨x, 1, none⟩ (.int .i64 r)) := hBB3.setCell (p := ⟨x, 1, none⟩) hxw _
            have hs4 : w4.heap.size ≤ (u3.setCell ⟨x, 1, none⟩ (.int .i64 r)).heap.size := by simp; omega
            have f1 := hb3.cell 1
            have ff := hb3.frozen 1
            have g4 := b0.below hBB4 (by omega)
            have g40 := g4.cell 0
            have g41 := g4.cell 1
            have g42 := g4.cell 2
            simp only [List.getElem?_toArray, List.getElem?_cons_zero, List.getElem?_cons_succ] at f1 g40 g41 g42
            have hv2 := HV1.out (u3.setCell ⟨x, 1, none⟩ (.int .i64 r)) r hBB4 hs4 hW4 hb4'
            rw [hfs] at hv2
            have HW4 := Lib.hid hW4
            have HB4' := Lib.hid hb4'
            have HBB4 := Lib.hid hBB4
            have HS4 := Lib.hid hs4
            clear hv hW2 hb2 hBB2 hs2 hb23 hb3 hW3 hBB3 hs3 hW4 hb4' hBB4 hs4 g4 e0 e2 e3 e4 fz d0 d1 d2
            go_wp2_with fail
            refine hv2.mono ?_
            rintro e u5 ⟨rfl, hb45⟩
            have hW5 : ∀ p, p < w4.heap.size → p ≠ x → u5.heap[p]? = w4.heap[p]? := fun p hp hpx => (hb45.block p (by have := HS4.out; omega)).trans (HW4.out p hp hpx)
            have hb5 : Blk u5 x 65 #[.int .i64 s, .int .i64 r, .slice uo kb.length uc] := HB4'.out.below hb45 HB4'.out.lt
            have hBB5 : Below (w.heap.size + 1) w0 u5 := HBB4.out.trans (hb45.mono (by have := HBB4.out.size; omega))
            have hs5 : w4.heap.size ≤ u5.heap.size := Nat.le_trans HS4.out hb45.size
            have hz5 := hBB5.size
            have hown5 : u5.ownsRow w3.heap.size 53 1 (.slice uo kb.length uc) kb.length (PV kb) := ownsRow_keep HXX.out.own (fun g hg e => hW5 g hg (fun e2 => by
              subst e2
              obtain ⟨_, cs, fz, ho⟩ := row_obj HXX.out.own g e
              exact absurd (blk_typ HXX.out.blk ho) (by decide)))
            have hown7 := (hown5.alloc (.cells #[.int .i64 0, .int .i64 (-1), .slice none 0 0] 65)).alloc (.cells #[.pointer (some ⟨u5.heap.size, 0, none⟩)] 53)
            have hnew7 := cell_one_new (u5.alloc (.cells #[.int .i64 0, .int .i64 (-1), .slice none 0 0] 65)) (.pointer (some ⟨u5.heap.size, 0, none⟩)) 53
            rw [World.size_alloc] at hnew7
            have hb7 := (hb5.alloc (.cells #[.int .i64 0, .int .i64 (-1), .slice none 0 0] 65)).alloc (.cells #[.pointer (some ⟨u5.heap.size, 0, none⟩)] 53)
            have hy7 := (Blk.new u5 65 #[.int .i64 0, .int .i64 (-1), .slice none 0 0]).alloc (.cells #[.pointer (some ⟨u5.heap.size, 0, none⟩)] 53)
            have hBB7 := (hBB5.alloc (by omega) (.cells #[.int .i64 0, .int .i64 (-1), .slice none 0 0] 65)).alloc (by rw [World.size_alloc]; omega) (.cells #[.pointer (some ⟨u5.heap.size, 0, none⟩)] 53)
            have hW7 : ∀ p, p < w4.heap.size → p ≠ x → ((u5.alloc (.cells #[.int .i64 0, .int .i64 (-1), .slice none 0 0] 65)).alloc (.cells #[.pointer (some ⟨u5.heap.size, 0, none⟩)] 53)).heap[p]? = w4.heap[p]? := fun p hp hpx => ((Below.heap_alloc _ _ p (by rw [World.size_alloc]; omega)).trans (Below.heap_alloc _ _ p (by omega))).trans (hW5 p hp hpx)
            have hs7 : ((u5.alloc (.cells #[.int .i64 0, .int .i64 (-1), .slice none 0 0] 65)).alloc (.cells #[.pointer (some ⟨u5.heap.size, 0, none⟩)] 53)).heap.size = u5.heap.size + 2 := by simp
            have k5 := hb5.cell 2
            simp only [List.getElem?_toArray, List.getElem?_cons_zero, List.getElem?_cons_succ] at k5
            have HO7 := Lib.hid hown7
            have HN7 := Lib.hid hnew7
            have HB7 := Lib.hid hb7
            have HY7 := Lib.hid hy7
            have HBB7 := Lib.hid hBB7
            have HW7 := Lib.hid hW7
            have HZ7 := Lib.hid hs7
            clear hW5 hb5 hBB5 hown5 hown7 hnew7 hb7 hy7 hBB7 hW7 hs7 hb45 hv2 f1 ff g40 g41 g42
            go_wp2_with (at_builtin; go_must (refine wpList_append_own _ rfl _ _ 63 rfl w3.heap.size 53 i0 (.pointer none) 1 8 Try.underlying63 hi0 hi1 hi2 hi3 rfl (by decide) _ _ _ rfl HO7.out ⟨u5.heap.size + 1, 0, none⟩ 1 1 [.pointer (some ⟨u5.heap.size, 0, none⟩)] rfl rfl HN7.out (by intro u hu; simp at hu; subst hu; rfl) (by unfold maxLen; omega) (by omega) (by have := HZ7.out; omega) ?_); intro v8 w8 hown8 hgrow _; obtain ⟨ao8, c8, rfl⟩ := own_len hown8; have hb8 : Blk w8 x 65 #[.int .i64 s, .int .i64 r, .slice uo kb.length uc] := HB7.out.grown hgrow (HB7.out.not_row (by decide) HO7.out); have k8 : w8.cell? ⟨x, 2, none⟩ = some (.slice uo kb.length uc) := (hb8.cell 2); have f8 : w8.frozen? ⟨x, 2, none⟩ = false := hb8.frozen 2; have hBB8 : Below (w.heap.size + 1) w0 w8 := HBB7.out.grown hgrow (by have := HZ7.out; omega) (fun q hq => by have := (HO7.out.lt q hq).1; omega); have hBB9 : Below (w.heap.size + 1) w0 (w8.setCell ⟨x, 2, none⟩ (.slice ao8 (kb.length + 1) c8)) := hBB8.setCell (p := ⟨x, 2, none⟩) hxw _; have g9 := b0.below hBB9 (by omega); have g90 := g9.cell 0; have g91 := g9.cell 1; have g92 := g9.cell 2; simp only [List.getElem?_toArray, List.getElem?_cons_zero, List.getElem?_cons_succ] at g90 g91 g92)
            have hb9 : Blk (w8.setCell ⟨x, 2, none⟩ (.slice ao8 (kb.length + 1) c8)) x 65 #[.int .i64 s, .int .i64 r, .slice ao8 (kb.length + 1) c8] := hb8.set_ 2 (.slice ao8 (kb.length + 1) c8)
            have hW9 : ∀ p, p < w4.heap.size → p ≠ x → Value.ownBlock (.slice uo kb.length uc) ≠ some p → (w8.setCell ⟨x, 2, none⟩ (.slice ao8 (kb.length + 1) c8)).heap[p]? = w4.heap[p]? := fun p hp hpx hpo => ((Below.heap_setCell w8 ⟨x, 2, none⟩ (.slice ao8 (kb.length + 1) c8) p hpx).trans (hgrow.block p (by have := HZ7.out; omega) (fun e => hpo e.symm))).trans (HW7.out p hp hpx)
            have hown9 : (w8.setCell ⟨x, 2, none⟩ (.slice ao8 (kb.length + 1) c8)).ownsRow 0 53 1 (.slice ao8 (kb.length + 1) c8) (kb.length + 1) (PV kb ++ [PtrV u5.heap.size]) := own_base' (own_grown hown8 (grown_set w8 ⟨x, 2, none⟩ (.slice ao8 (kb.length + 1) c8)) (.inr (hb8.not_row (by decide) hown8).symm)) (Nat.zero_le _)
            have hyx : u5.heap.size ≠ x := by omega
            have hy9 : Blk (w8.setCell ⟨x, 2, none⟩ (.slice ao8 (kb.length + 1) c8)) u5.heap.size 65 #[.int .i64 0, .int .i64 (-1), .slice none 0 0] := Blk.far (HY7.out.grown hgrow (HY7.out.not_row (by decide) HO7.out)) (p := ⟨x, 2, none⟩) hyx _
            have hv3 := HV3.out _ u5.heap.size (.slice ao8 (kb.length + 1) c8) hBB9 hW9 hb9 hown9 hy9
            have HBB9 := Lib.hid hBB9
            clear hb9 hBB8 hBB9 hW9 hown9 hy9 hb8 hown8 hgrow k8 f8 g9
            refine hv3.mono ?_
            rintro e ua ⟨rfl, hba⟩
            have hend := hbl.trans ((HBB9.out.trans (hba.mono (by have := HBB9.out.size; omega))).mono (by omega))
            clear hv3 g90 g91 g92 hba
            go_wp2
            go_ret
            exact ⟨rfl, hend⟩
          · have c2 : (to == -1) = false := by simpa using hto
            have hans : fitB tl R s to k.syms = false := HT2.out hs0 hto
            skip
            go_wp2
            go_quiet (fail)
            go_wp2_with fail
            have hv := HV1.out (((w4.drewN q).setCell ⟨x, 1, none⟩ (.int .i64 to)).drewN nq) to (below_drewN HBB.out nq) HSU.out (fun p _ hpx => HWU.out p hpx) HBU.out
            rw [hans] at hv
            have hW2 : ∀ p, p ≠ x → (((w4.drewN q).setCell ⟨x, 1, none⟩ (.int .i64 to)).drewN nq).heap[p]? = w4.heap[p]? := HWU.out
            have hb2 : Blk (((w4.drewN q).setCell ⟨x, 1, none⟩ (.int .i64 to)).drewN nq) x 65 #[.int .i64 s, .int .i64 to, .slice uo kb.length uc] := HBU.out
            have hBB2 : Below (w.heap.size + 1) w0 (((w4.drewN q).setCell ⟨x, 1, none⟩ (.int .i64 to)).drewN nq) := below_drewN HBB.out nq
            have hs2 : w4.heap.size ≤ (((w4.drewN q).setCell ⟨x, 1, none⟩ (.int .i64 to)).drewN nq).heap.size := HSU.out
            generalize ((w4.drewN q).setCell ⟨x, 1, none⟩ (.int .i64 to)).drewN nq = u2 at *
            refine hv.mono ?_
            rintro e u3 ⟨rfl, hb23⟩
            have hb3 : Blk u3 x 65 #[.int .i64 s, .int .i64 to, .slice uo kb.length uc] := hb2.below hb23 hb2.lt
            have hW3 : ∀ p, p < w4.heap.size → p ≠ x → u3.heap[p]? = w4.heap[p]? := fun p hp hpx => (hb23.block p (by omega)).trans (hW2 p hpx)
            have hBB3 : Below (w.heap.size + 1) w0 u3 := hBB2.trans (hb23.mono (by have := hBB2.size; omega))
            have hs3 : w4.heap.size ≤ u3.heap.size := Nat.le_trans hs2 hb23.size
            have hb4' : Blk (u3.setCell ⟨x, 1, none⟩ (.int .i64 r)) x 65 #[.int .i64 s, .int .i64 r, .slice uo kb.length uc] := hb3.set_ 1 (.int .i64 r)
            have hW4 : ∀ p, p < w4.heap.size → p ≠ x → (u3.setCell ⟨x, 1, none⟩ (.int .i64 r)).heap[p]? = w4.heap[p]? := fun p hp hpx => (Below.heap_setCell u3 ⟨x, 1, none⟩ (.int .i64 r) p hpx).trans (hW3 p hp hpx)
            have hBB4 : Below (w.heap.size + 1) w0 (u3.setCell ⟨x, 1, none⟩ (.int .i64 r)) := hBB3.setCell (p := ⟨x, 1, none⟩) hxw _
            have hs4 : w4.heap.size ≤ (u3.setCell ⟨x, 1, none⟩ (.int .i64 r)).heap.size := by simp; omega
            have f1 := hb3.cell 1
            have ff := hb3.frozen 1
            have g4 := b0.below hBB4 (by omega)
            have g40 := g4.cell 0
            have g41 := g4.cell 1
            have g42 := g4.cell 2
            simp only [List.getElem?_toArray, List.getElem?_cons_zero, List.getElem?_cons_succ] at f1 g40 g41 g42
            have hv2 := HV1.out (u3.setCell ⟨x, 1, none⟩ (.int .i64 r)) r hBB4 hs4 hW4 hb4'
            rw [hfs] at hv2
            have HW4 := Lib.hid hW4
            have HB4' := Lib.hid hb4'
            have HBB4 := Lib.hid hBB4
            have HS4 := Lib.hid hs4
            clear hv hW2 hb2 hBB2 hs2 hb23 hb3 hW3 hBB3 hs3 hW4 hb4' hBB4 hs4 g4 e0 e2 e3 e4 fz d0 d1 d2
            go_wp2_with fail
            refine hv2.mono ?_
            rintro e u5 ⟨rfl, hb45⟩
            have hW5 : ∀ p, p < w4.heap.size → p ≠ x → u5.heap[p]? = w4.heap[p]? := fun p hp hpx => (hb45.block p (by have := HS4.out; omega)).trans (HW4.out p hp hpx)
            have hb5 : Blk u5 x 65 #[.int .i64 s, .int .i64 r, .slice uo kb.length uc] := HB4'.out.below hb45 HB4'.out.lt
            have hBB5 : Below (w.heap.size + 1) w0 u5 := HBB4.out.trans (hb45.mono (by have := HBB4.out.size; omega))
            have hs5 : w4.heap.size ≤ u5.heap.size := Nat.le_trans HS4.out hb45.size
            have hz5 := hBB5.size
            have hown5 : u5.ownsRow w3.heap.size 53 1 (.slice uo kb.length uc) kb.length (PV kb) := ownsRow_keep HXX.out.own (fun g hg e => hW5 g hg (fun e2 => by
              subst e2
              obtain ⟨_, cs, fz, ho⟩ := row_obj HXX.out.own g e
              exact absurd (blk_typ HXX.out.blk ho) (by decide)))
            have hown7 := (hown5.alloc (.cells #[.int .i64 0, .int .i64 (-1), .slice none 0 0] 65)).alloc (.cells #[.pointer (some ⟨u5.heap.size, 0, none⟩)] 53)
            have hnew7 := cell_one_new (u5.alloc (.cells #[.int .i64 0, .int .i64 (-1), .slice none 0 0] 65)) (.pointer (some ⟨u5.heap.size, 0, none⟩)) 53
            rw [World.size_alloc] at hnew7
            have hb7 := (hb5.alloc (.cells #[.int .i64 0, .int .i64 (-1), .slice none 0 0] 65)).alloc (.cells #[.pointer (some ⟨u5.heap.size, 0, none⟩)] 53)
            have hy7 := (Blk.new u5 65 #[.int .i64 0, .int .i64 (-1), .slice none 0 0]).alloc (.cells #[.pointer (some ⟨u5.heap.size, 0, none⟩)] 53)
            have hBB7 := (hBB5.alloc (by omega) (.cells #[.int .i64 0, .int .i64 (-1), .slice none 0 0] 65)).alloc (by rw [World.size_alloc]; omega) (.cells #[.pointer (some ⟨u5.heap.size, 0, none⟩)] 53)
            have hW7 : ∀ p, p < w4.heap.size → p ≠ x → ((u5.alloc (.cells #[.int .i64 0, .int .i64 (-1), .slice none 0 0] 65)).alloc (.cells #[.pointer (some ⟨u5.heap.size, 0, none⟩)] 53)).heap[p]? = w4.heap[p]? := fun p hp hpx => ((Below.heap_alloc _ _ p (by rw [World.size_alloc]; omega)).trans (Below.heap_alloc _ _ p (by omega))).trans (hW5 p hp hpx)
            have hs7 : ((u5.alloc (.cells #[.int .i64 0, .int .i64 (-1), .slice none 0 0] 65)).alloc (.cells #[.pointer (some ⟨u5.heap.size, 0, none⟩)] 53)).heap.size = u5.heap.size + 2 := by simp
            have k5 := hb5.cell 2
            simp only [List.getElem?_toArray, List.getElem?_cons_zero, List.getElem?_cons_succ] at k5
            have HO7 := Lib.hid hown7
            have HN7 := Lib.hid hnew7
            have HB7 := Lib.hid hb7
            have HY7 := Lib.hid hy7
            have HBB7 := Lib.hid hBB7
            have HW7 := Lib.hid hW7
            have HZ7 := Lib.hid hs7
            clear hW5 hb5 hBB5 hown5 hown7 hnew7 hb7 hy7 hBB7 hW7 hs7 hb45 hv2 f1 ff g40 g41 g42
            go_wp2_with (at_builtin; go_must (refine wpList_append_own _ rfl _ _ 63 rfl w3.heap.size 53 i0 (.pointer none) 1 8 Try.underlying63 hi0 hi1 hi2 hi3 rfl (by decide) _ _ _ rfl HO7.out ⟨u5.heap.size + 1, 0, none⟩ 1 1 [.pointer (some ⟨u5.heap.size, 0, none⟩)] rfl rfl HN7.out (by intro u hu; simp at hu; subst hu; rfl) (by unfold maxLen; omega) (by omega) (by have := HZ7.out; omega) ?_); intro v8 w8 hown8 hgrow _; obtain ⟨ao8, c8, rfl⟩ := own_len hown8; have hb8 : Blk w8 x 65 #[.int .i64 s, .int .i64 r, .slice uo kb.length uc] := HB7.out.grown hgrow (HB7.out.not_row (by decide) HO7.out); have k8 : w8.cell? ⟨x, 2, none⟩ = some (.slice uo kb.length uc) := (hb8.cell 2); have f8 : w8.frozen? ⟨x, 2, none⟩ = false := hb8.frozen 2; have hBB8 : Below (w.heap.size + 1) w0 w8 := HBB7.out.grown hgrow (by have := HZ7.out; omega) (fun q hq => by have := (HO7.out.lt q hq).1; omega); have hBB9 : Below (w.heap.size + 1) w0 (w8.setCell ⟨x, 2, none⟩ (.slice ao8 (kb.length + 1) c8)) := hBB8.setCell (p := ⟨x, 2, none⟩) hxw _; have g9 := b0.below hBB9 (by omega); have g90 := g9.cell 0; have g91 := g9.cell 1; have g92 := g9.cell 2; simp only [List.getElem?_toArray, List.getElem?_cons_zero, List.getElem?_cons_succ] at g90 g91 g92)
            have hb9 : Blk (w8.setCell ⟨x, 2, none⟩ (.slice ao8 (kb.length + 1) c8)) x 65 #[.int .i64 s, .int .i64 r, .slice ao8 (kb.length + 1) c8] := hb8.set_ 2 (.slice ao8 (kb.length + 1) c8)
            have hW9 : ∀ p, p < w4.heap.size → p ≠ x → Value.ownBlock (.slice uo kb.length uc) ≠ some p → (w8.setCell ⟨x, 2, none⟩ (.slice ao8 (kb.length + 1) c8)).heap[p]? = w4.heap[p]? := fun p hp hpx hpo => ((Below.heap_setCell w8 ⟨x, 2, none⟩ (.slice ao8 (kb.length + 1) c8) p hpx).trans (hgrow.block p (by have := HZ7.out; omega) (fun e => hpo e.symm))).trans (HW7.out p hp hpx)
            have hown9 : (w8.setCell ⟨x, 2, none⟩ (.slice ao8 (kb.length + 1) c8)).ownsRow 0 53 1 (.slice ao8 (kb.length + 1) c8) (kb.length + 1) (PV kb ++ [PtrV u5.heap.size]) := own_base' (own_grown hown8 (grown_set w8 ⟨x, 2, none⟩ (.slice ao8 (kb.length + 1) c8)) (.inr (hb8.not_row (by decide) hown8).symm)) (Nat.zero_le _)
            have hyx : u5.heap.size ≠ x := by omega
            have hy9 : Blk (w8.setCell ⟨x, 2, none⟩ (.slice ao8 (kb.length + 1) c8)) u5.heap.size 65 #[.int .i64 0, .int .i64 (-1), .slice none 0 0] := Blk.far (HY7.out.grown hgrow (HY7.out.not_row (by decide) HO7.out)) (p := ⟨x, 2, none⟩) hyx _
            have hv3 := HV3.out _ u5.heap.size (.slice ao8 (kb.length + 1) c8) hBB9 hW9 hb9 hown9 hy9
            have HBB9 := Lib.hid hBB9
            clear hb9 hBB8 hBB9 hW9 hown9 hy9 hb8 hown8 hgrow k8 f8 g9
            refine hv3.mono ?_
            rintro e ua ⟨rfl, hba⟩
            have hend := hbl.trans ((HBB9.out.trans (hba.mono (by have := HBB9.out.size; omega))).mono (by omega))
            clear hv3 g90 g91 g92 hba
            go_wp2
            go_ret
            exact ⟨rfl, hend⟩
        · have c3 : decide ((0 : Int) ≤ s) = true := decide_eq_true (by omega)
          by_cases ht0 : to < 0
          · have c4 : decide ((0 : Int) ≤ to) = false := decide_eq_false (by omega)
            have hans : fitB tl R s to k.syms = false := HT3.out (by omega) (.inl ht0)
            skip
            go_wp2
            go_quiet (fail)
            go_wp2_with fail
            have hv := HV1.out (((w4.drewN q).setCell ⟨x, 1, none⟩ (.int .i64 to)).drewN nq) to (below_drewN HBB.out nq) HSU.out (fun p _ hpx => HWU.out p hpx) HBU.out
            rw [hans] at hv
            have hW2 : ∀ p, p ≠ x → (((w4.drewN q).setCell ⟨x, 1, none⟩ (.int .i64 to)).drewN nq).heap[p]? = w4.heap[p]? := HWU.out
            have hb2 : Blk (((w4.drewN q).setCell ⟨x, 1, none⟩ (.int .i64 to)).drewN nq) x 65 #[.int .i64 s, .int .i64 to, .slice uo kb.length uc] := HBU.out
            have hBB2 : Below (w.heap.size + 1) w0 (((w4.drewN q).setCell ⟨x, 1, none⟩ (.int .i64 to)).drewN nq) := below_drewN HBB.out nq
            have hs2 : w4.heap.size ≤ (((w4.drewN q).setCell ⟨x, 1, none⟩ (.int .i64 to)).drewN nq).heap.size := HSU.out
            generalize ((w4.drewN q).setCell ⟨x, 1, none⟩ (.int .i64 to)).drewN nq = u2 at *
            refine hv.mono ?_
            rintro e u3 ⟨rfl, hb23⟩
            have hb3 : Blk u3 x 65 #[.int .i64 s, .int .i64 to, .slice uo kb.length uc] := hb2.below hb23 hb2.lt
            have hW3 : ∀ p, p < w4.heap.size → p ≠ x → u3.heap[p]? = w4.heap[p]? := fun p hp hpx => (hb23.block p (by omega)).trans (hW2 p hpx)
            have hBB3 : Below (w.heap.size + 1) w0 u3 := hBB2.trans (hb23.mono (by have := hBB2.size; omega))
            have hs3 : w4.heap.size ≤ u3.heap.size := Nat.le_trans hs2 hb23.size
            have hb4' : Blk (u3.setCell ⟨x, 1, none⟩ (.int .i64 r)) x 65 #[.int .i64 s, .int .i64 r, .slice uo kb.length uc] := hb3.set_ 1 (.int .i64 r)
            have hW4 : ∀ p, p < w4.heap.size → p ≠ x → (u3.setCell ⟨x, 1, none⟩ (.int .i64 r)).heap[p]? = w4.heap[p]? := fun p hp hpx => (Below.heap_setCell u3 ⟨x, 1, none⟩ (.int .i64 r) p hpx).trans (hW3 p hp hpx)
            have hBB4 : Below (w.heap.size + 1) w0 (u3.setCell ⟨x, 1, none⟩ (.int .i64 r)) := hBB3.setCell (p := ⟨x, 1, none⟩) hxw _
            have hs4 : w4.heap.size ≤ (u3.setCell ⟨x, 1, none⟩ (.int .i64 r)).heap.size := by simp; omega
            have f1 := hb3.cell 1
            have ff := hb3.frozen 1
            have g4 := b0.below hBB4 (by omega)
            have g40 := g4.cell 0
            have g41 := g4.cell 1
            have g42 := g4.cell 2
            simp only [List.getElem?_toArray, List.getElem?_cons_zero, List.getElem?_cons_succ] at f1 g40 g41 g42
            have hv2 := HV1.out (u3.setCell ⟨x, 1, none⟩ (.int .i64 r)) r hBB4 hs4 hW4 hb4'
            rw [hfs] at hv2
            have HW4 := Lib.hid hW4
            have HB4' := Lib.hid hb4'
            have HBB4 := Lib.hid hBB4
            have HS4 := Lib.hid hs4
            clear hv hW2 hb2 hBB2 hs2 hb23 hb3 hW3 hBB3 hs3 hW4 hb4' hBB4 hs4 g4 e0 e2 e3 e4 fz d0 d1 d2
            go_wp2_with fail
            refine hv2.mono ?_
            rintro e u5 ⟨rfl, hb45⟩
            have hW5 : ∀ p, p < w4.heap.size → p ≠ x → u5.heap[p]? = w4.heap[p]? := fun p hp hpx => (hb45.block p (by have := HS4.out; omega)).trans (HW4.out p hp hpx)
            have hb5 : Blk u5 x 65 #[.int .i64 s, .int .i64 r, .slice uo kb.length uc] := HB4'.out.below hb45 HB4'.out.lt
            have hBB5 : Below (w.heap.size + 1) w0 u5 := HBB4.out.trans (hb45.mono (by have := HBB4.out.size; omega))
            have hs5 : w4.heap.size ≤ u5.heap.size := Nat.le_trans HS4.out hb45.size
            have hz5 := hBB5.size
            have hown5 : u5.ownsRow w3.heap.size 53 1 (.slice uo kb.length uc) kb.length (PV kb) := ownsRow_keep HXX.out.own (fun g hg e => hW5 g hg (fun e2 => by
              subst e2
              obtain ⟨_, cs, fz, ho⟩ := row_obj HXX.out.own g e
              exact absurd (blk_typ HXX.out.blk ho) (by decide)))
            have hown7 := (hown5.alloc (.cells #[.int .i64 0, .int .i64 (-1), .slice none 0 0] 65)).alloc (.cells #[.pointer (some ⟨u5.heap.size, 0, none⟩)] 53)
            have hnew7 := cell_one_new (u5.alloc (.cells #[.int .i64 0, .int .i64 (-1), .slice none 0 0] 65)) (.pointer (some ⟨u5.heap.size, 0, none⟩)) 53
            rw [World.size_alloc] at hnew7
            have hb7 := (hb5.alloc (.cells #[.int .i64 0, .int .i64 (-1), .slice none 0 0] 65)).alloc (.cells #[.pointer (some ⟨u5.heap.size, 0, none⟩)] 53)
            have hy7 := (Blk.new u5 65 #[.int .i64 0, .int .i64 (-1), .slice none 0 0]).alloc (.cells #[.pointer (some ⟨u5.heap.size, 0, none⟩)] 53)
            have hBB7 := (hBB5.alloc (by omega) (.cells #[.int .i64 0, .int .i64 (-1), .slice none 0 0] 65)).alloc (by rw [World.size_alloc]; omega) (.cells #[.pointer (some ⟨u5.heap.size, 0, none⟩)] 53)
            have hW7 : ∀ p, p < w4.heap.size → p ≠ x → ((u5.alloc (.cells #[.int .i64 0, .int .i64 (-1), .slice none 0 0] 65)).alloc (.cells #[.pointer (some ⟨u5.heap.size, 0, none⟩)] 53)).heap[p]? = w4.heap[p]? := fun p hp hpx => ((Below.heap_alloc _ _ p (by rw [World.size_alloc]; omega)).trans (Below.heap_alloc _ _ p (by omega))).trans (hW5 p hp hpx)
            have hs7 : ((u5.alloc (.cells #[.int .i64 0, .int .i64 (-1), .slice none 0 0] 65)).alloc (.cells #[.pointer (some ⟨u5.heap.size, 0, none⟩)] 53)).heap.size = u5.heap.size + 2 := by simp
            have k5 := hb5.cell 2
            simp only [List.getElem?_toArray, List.getElem?_cons_zero, List.getElem?_cons_succ] at k5
            have HO7 := Lib.hid hown7
            have HN7 := Lib.hid hnew7
            have HB7 := Lib.hid hb7
            have HY7 := Lib.hid hy7
            have HBB7 := Lib.hid hBB7
            have HW7 := Lib.hid hW7
            have HZ7 := Lib.hid hs7
            clear hW5 hb5 hBB5 hown5 hown7 hnew7 hb7 hy7 hBB7 hW7 hs7 hb45 hv2 f1 ff g40 g41 g42
            go_wp2_with (at_builtin; go_must (refine wpList_append_own _ rfl _ _ 63 rfl w3.heap.size 53 i0 (.pointer none) 1 8 Try.underlying63 hi0 hi1 hi2 hi3 rfl (by decide) _ _ _ rfl HO7.out ⟨u5.heap.size + 1, 0, none⟩ 1 1 [.pointer (some ⟨u5.heap.size, 0, none⟩)] rfl rfl HN7.out (by intro u hu; simp at hu; subst hu; rfl) (by unfold maxLen; omega) (by omega) (by have := HZ7.out; omega) ?_); intro v8 w8 hown8 hgrow _; obtain ⟨ao8, c8, rfl⟩ := own_len hown8; have hb8 : Blk w8 x 65 #[.int .i64 s, .int .i64 r, .slice uo kb.length uc] := HB7.out.grown hgrow (HB7.out.not_row (by decide) HO7.out); have k8 : w8.cell? ⟨x, 2, none⟩ = some (.slice uo kb.length uc) := (hb8.cell 2); have f8 : w8.frozen? ⟨x, 2, none⟩ = false := hb8.frozen 2; have hBB8 : Below (w.heap.size + 1) w0 w8 := HBB7.out.grown hgrow (by have := HZ7.out; omega) (fun q hq => by have := (HO7.out.lt q hq).1; omega); have hBB9 : Below (w.heap.size + 1) w0 (w8.setCell ⟨x, 2, none⟩ (.slice ao8 (kb.length + 1) c8)) := hBB8.setCell (p := ⟨x, 2, none⟩) hxw _; have g9 := b0.below hBB9 (by omega); have g90 := g9.cell 0; have g91 := g9.cell 1; have g92 := g9.cell 2; simp only [List.getElem?_toArray, List.getElem?_cons_zero, List.getElem?_cons_succ] at g90 g91 g92)
            have hb9 : Blk (w8.setCell ⟨x, 2, none⟩ (.slice ao8 (kb.length + 1) c8)) x 65 #[.int .i64 s, .int .i64 r, .slice ao8 (kb.length + 1) c8] := hb8.set_ 2 (.slice ao8 (kb.length + 1) c8)
            have hW9 : ∀ p, p < w4.heap.size → p ≠ x → Value.ownBlock (.slice uo kb.length uc) ≠ some p → (w8.setCell ⟨x, 2, none⟩ (.slice ao8 (kb.length + 1) c8)).heap[p]? = w4.heap[p]? := fun p hp hpx hpo => ((Below.heap_setCell w8 ⟨x, 2, none⟩ (.slice ao8 (kb.length + 1) c8) p hpx).trans (hgrow.block p (by have := HZ7.out; omega) (fun e => hpo e.symm))).trans (HW7.out p hp hpx)
            have hown9 : (w8.setCell ⟨x, 2, none⟩ (.slice ao8 (kb.length + 1) c8)).ownsRow 0 53 1 (.slice ao8 (kb.length + 1) c8) (kb.length + 1) (PV kb ++ [PtrV u5.heap.size]) := own_base' (own_grown hown8 (grown_set w8 ⟨x, 2, none⟩ (.slice ao8 (kb.length + 1) c8)) (.inr (hb8.not_row (by decide) hown8).symm)) (Nat.zero_le _)
            have hyx : u5.heap.size ≠ x := by omega
            have hy9 : Blk (w8.setCell ⟨x, 2, none⟩ (.slice ao8 (kb.length + 1) c8)) u5.heap.size 65 #[.int .i64 0, .int .i64 (-1), .slice none 0 0] := Blk.far (HY7.out.grown hgrow (HY7.out.not_row (by decide) HO7.out)) (p := ⟨x, 2, none⟩) hyx _
            have hv3 := HV3.out _ u5.heap.size (.slice ao8 (kb.length + 1) c8) hBB9 hW9 hb9 hown9 hy9
            have HBB9 := Lib.hid hBB9
            clear hb9 hBB8 hBB9 hW9 hown9 hy9 hb8 hown8 hgrow k8 f8 g9
            refine hv3.mono ?_
            rintro e ua ⟨rfl, hba⟩
            have hend := hbl.trans ((HBB9.out.trans (hba.mono (by have := HBB9.out.size; omega))).mono (by omega))
            clear hv3 g90 g91 g92 hba
            go_wp2
            go_ret
            exact ⟨rfl, hend⟩
          by_cases htl : (R.length : Int) ≤ to
          · have c5 : decide (to < (R.length : Int)) = false := decide_eq_false (by omega)
            have hans : fitB tl R s to k.syms = false := HT3.out (by omega) (.inr htl)
            skip
            go_wp2
            go_quiet (fail)
            go_wp2_with fail
            have hv := HV1.out (((w4.drewN q).setCell ⟨x, 1, none⟩ (.int .i64 to)).drewN nq) to (below_drewN HBB.out nq) HSU.out (fun p _ hpx => HWU.out p hpx) HBU.out
            rw [hans] at hv
            have hW2 : ∀ p, p ≠ x → (((w4.drewN q).setCell ⟨x, 1, none⟩ (.int .i64 to)).drewN nq).heap[p]? = w4.heap[p]? := HWU.out
            have hb2 : Blk (((w4.drewN q).setCell ⟨x, 1, none⟩ (.int .i64 to)).drewN nq) x 65 #[.int .i64 s, .int .i64 to, .slice uo kb.length uc] := HBU.out
            have hBB2 : Below (w.heap.size + 1) w0 (((w4.drewN q).setCell ⟨x, 1, none⟩ (.int .i64 to)).drewN nq) := below_drewN HBB.out nq
            have hs2 : w4.heap.size ≤ (((w4.drewN q).setCell ⟨x, 1, none⟩ (.int .i64 to)).drewN nq).heap.size := HSU.out
            generalize ((w4.drewN q).setCell ⟨x, 1, none⟩ (.int .i64 to)).drewN nq = u2 at *
            refine hv.mono ?_
            rintro e u3 ⟨rfl, hb23⟩
            have hb3 : Blk u3 x 65 #[.int .i64 s, .int .i64 to, .slice uo kb.length uc] := hb2.below hb23 hb2.lt
            have hW3 : ∀ p, p < w4.heap.size → p ≠ x → u3.heap[p]? = w4.heap[p]? := fun p hp hpx => (hb23.block p (by omega)).trans (hW2 p hpx)
            have hBB3 : Below (w.heap.size + 1) w0 u3 := hBB2.trans (hb23.mono (by have := hBB2.size; omega))
            have hs3 : w4.heap.size ≤ u3.heap.size := Nat.le_trans hs2 hb23.size
            have hb4' : Blk (u3.setCell ⟨x, 1, none⟩ (.int .i64 r)) x 65 #[.int .i64 s, .int .i64 r, .slice uo kb.length uc] := hb3.set_ 1 (.int .i64 r)
            have hW4 : ∀ p, p < w4.heap.size → p ≠ x → (u3.setCell ⟨x, 1, none⟩ (.int .i64 r)).heap[p]? = w4.heap[p]? := fun p hp hpx => (Below.heap_setCell u3 ⟨x, 1, none⟩ (.int .i64 r) p hpx).trans (hW3 p hp hpx)
            have hBB4 : Below (w.heap.size + 1) w0 (u3.setCell ⟨x, 1, none⟩ (.int .i64 r)) := hBB3.setCell (p := ⟨x, 1, none⟩) hxw _
            have hs4 : w4.heap.size ≤ (u3.setCell ⟨x, 1, none⟩ (.int .i64 r)).heap.size := by simp; omega
            have f1 := hb3.cell 1
            have ff := hb3.frozen 1
            have g4 := b0.below hBB4 (by omega)
            have g40 := g4.cell 0
            have g41 := g4.cell 1
            have g42 := g4.cell 2
            simp only [List.getElem?_toArray, List.getElem?_cons_zero, List.getElem?_cons_succ] at f1 g40 g41 g42
            have hv2 := HV1.out (u3.setCell ⟨x, 1, none⟩ (.int .i64 r)) r hBB4 hs4 hW4 hb4'
            rw [hfs] at hv2
            have HW4 := Lib.hid hW4
            have HB4' := Lib.hid hb4'
            have HBB4 := Lib.hid hBB4
            have HS4 := Lib.hid hs4
            clear hv hW2 hb2 hBB2 hs2 hb23 hb3 hW3 hBB3 hs3 hW4 hb4' hBB4 hs4 g4 e0 e2 e3 e4 fz d0 d1 d2
            go_wp2_with fail
            refine hv2.mono ?_
            rintro e u5 ⟨rfl, hb45⟩
            have hW5 : ∀ p, p < w4.heap.size → p ≠ x → u5.heap[p]? = w4.heap[p]? := fun p hp hpx => (hb45.block p (by have := HS4.out; omega)).trans (HW4.out p hp hpx)
            have hb5 : Blk u5 x 65 #[.int .i64 s, .int .i64 r, .slice uo kb.length uc] := HB4'.out.below hb45 HB4'.out.lt
            have hBB5 : Below (w.heap.size + 1) w0 u5 := HBB4.out.trans (hb45.mono (by have := HBB4.out.size; omega))
            have hs5 : w4.heap.size ≤ u5.heap.size := Nat.le_trans HS4.out hb45.size
            have hz5 := hBB5.size
            have hown5 : u5.ownsRow w3.heap.size 53 1 (.slice uo kb.length uc) kb.length (PV kb) := ownsRow_keep HXX.out.own (fun g hg e => hW5 g hg (fun e2 => by
              subst e2
              obtain ⟨_, cs, fz, ho⟩ := row_obj HXX.out.own g e
              exact absurd (blk_typ HXX.out.blk ho) (by decide)))
            have hown7 := (hown5.alloc (.cells #[.int .i64 0, .int .i64 (-1), .slice none 0 0] 65)).alloc (.cells #[.pointer (some ⟨u5.heap.size, 0, none⟩)] 53)
            have hnew7 := cell_one_new (u5.alloc (.cells #[.int .i64 0, .int .i64 (-1), .slice none 0 0] 65)) (.pointer (some ⟨u5.heap.size, 0, none⟩)) 53
            rw [World.size_alloc] at hnew7
            have hb7 := (hb5.alloc (.cells #[.int .i64 0, .int .i64 (-1), .slice none 0 0] 65)).alloc (.cells #[.pointer (some ⟨u5.heap.size, 0, none⟩)] 53)
            have hy7 := (Blk.new u5 65 #[.int .i64 0, .int .i64 (-1), .slice none 0 0]).alloc (.cells #[.pointer (some ⟨u5.heap.size, 0, none⟩)] 53)
            have hBB7 := (hBB5.alloc (by omega) (.cells #[.int .i64 0, .int .i64 (-1), .slice none 0 0] 65)).alloc (by rw [World.size_alloc]; omega) (.cells #[.pointer (some ⟨u5.heap.size, 0, none⟩)] 53)
            have hW7 : ∀ p, p < w4.heap.size → p ≠ x → ((u5.alloc (.cells #[.int .i64 0, .int .i64 (-1), .slice none 0 0] 65)).alloc (.cells #[.pointer (some ⟨u5.heap.size, 0, none⟩)] 53)).heap[p]? = w4.heap[p]? := fun p hp hpx => ((Below.heap_alloc _ _ p (by rw [World.size_alloc]; omega)).trans (Below.heap_alloc _ _ p (by omega))).trans (hW5 p hp hpx)
            have hs7 : ((u5.alloc (.cells #[.int .i64 0, .int .i64 (-1), .slice none 0 0] 65)).alloc (.cells #[.pointer (some ⟨u5.heap.size, 0, none⟩)] 53)).heap.size = u5.heap.size + 2 := by simp
            have k5 := hb5.cell 2
            simp only [List.getElem?_toArray, List.getElem?_cons_zero, List.getElem?_cons_succ] at k5
            have HO7 := Lib.hid hown7
            have HN7 := Lib.hid hnew7
            have HB7 := Lib.hid hb7
            have HY7 := Lib.hid hy7
            have HBB7 := Lib.hid hBB7
            have HW7 := Lib.hid hW7
            have HZ7 := Lib.hid hs7
            clear hW5 hb5 hBB5 hown5 hown7 hnew7 hb7 hy7 hBB7 hW7 hs7 hb45 hv2 f1 ff g40 g41 g42
            go_wp2_with (at_builtin; go_must (refine wpList_append_own _ rfl _ _ 63 rfl w3.heap.size 53 i0 (.pointer none) 1 8 Try.underlying63 hi0 hi1 hi2 hi3 rfl (by decide) _ _ _ rfl HO7.out ⟨u5.heap.size + 1, 0, none⟩ 1 1 [.pointer (some ⟨u5.heap.size, 0, none⟩)] rfl rfl HN7.out (by intro u hu; simp at hu; subst hu; rfl) (by unfold maxLen; omega) (by omega) (by have := HZ7.out; omega) ?_); intro v8 w8 hown8 hgrow _; obtain ⟨ao8, c8, rfl⟩ := own_len hown8; have hb8 : Blk w8 x 65 #[.int .i64 s, .int .i64 r, .slice uo kb.length uc] := HB7.out.grown hgrow (HB7.out.not_row (by decide) HO7.out); have k8 : w8.cell? ⟨x, 2, none⟩ = some (.slice uo kb.length uc) := (hb8.cell 2); have f8 : w8.frozen? ⟨x, 2, none⟩ = false := hb8.frozen 2; have hBB8 : Below (w.heap.size + 1) w0 w8 := HBB7.out.grown hgrow (by have := HZ7.out; omega) (fun q hq => by have := (HO7.out.lt q hq).1; omega); have hBB9 : Below (w.heap.size + 1) w0 (w8.setCell ⟨x, 2, none⟩ (.slice ao8 (kb.length + 1) c8)) := hBB8.setCell (p := ⟨x, 2, none⟩) hxw _; have g9 := b0.below hBB9 (by omega); have g90 := g9.cell 0; have g91 := g9.cell 1; have g92 := g9.cell 2; simp only [List.getElem?_toArray, List.getElem?_cons_zero, List.getElem?_cons_succ] at g90 g91 g92)
            have hb9 : Blk (w8.setCell ⟨x, 2, none⟩ (.slice ao8 (kb.length + 1) c8)) x 65 #[.int .i64 s, .int .i64 r, .slice ao8 (kb.length + 1) c8] := hb8.set_ 2 (.slice ao8 (kb.length + 1) c8)
            have hW9 : ∀ p, p < w4.heap.size → p ≠ x → Value.ownBlock (.slice uo kb.length uc) ≠ some p → (w8.setCell ⟨x, 2, none⟩ (.slice ao8 (kb.length + 1) c8)).heap[p]? = w4.heap[p]? := fun p hp hpx hpo => ((Below.heap_setCell w8 ⟨x, 2, none⟩ (.slice ao8 (kb.length + 1) c8) p hpx).trans (hgrow.block p (by have := HZ7.out; omega) (fun e => hpo e.symm))).trans (HW7.out p hp hpx)
            have hown9 : (w8.setCell ⟨x, 2, none⟩ (.slice ao8 (kb.length + 1) c8)).ownsRow 0 53 1 (.slice ao8 (kb.length + 1) c8) (kb.length + 1) (PV kb ++ [PtrV u5.heap.size]) := own_base' (own_grown hown8 (grown_set w8 ⟨x, 2, none⟩ (.slice ao8 (kb.length + 1) c8)) (.inr (hb8.not_row (by decide) hown8).symm)) (Nat.zero_le _)
            have hyx : u5.heap.size ≠ x := by omega
            have hy9 : Blk (w8.setCell ⟨x, 2, none⟩ (.slice ao8 (kb.length + 1) c8)) u5.heap.size 65 #[.int .i64 0, .int .i64 (-1), .slice none 0 0] := Blk.far (HY7.out.grown hgrow (HY7.out.not_row (by decide) HO7.out)) (p := ⟨x, 2, none⟩) hyx _
            have hv3 := HV3.out _ u5.heap.size (.slice ao8 (kb.length + 1) c8) hBB9 hW9 hb9 hown9 hy9
            have HBB9 := Lib.hid hBB9
            clear hb9 hBB8 hBB9 hW9 hown9 hy9 hb8 hown8 hgrow k8 f8 g9
            refine hv3.mono ?_
            rintro e ua ⟨rfl, hba⟩
            have hend := hbl.trans ((HBB9.out.trans (hba.mono (by have := HBB9.out.size; omega))).mono (by omega))
            clear hv3 g90 g91 g92 hba
            go_wp2
            go_ret
            exact ⟨rfl, hend⟩
          obtain ⟨tn, htn⟩ : ∃ tn : Nat, to = (tn : Int) := ⟨to.toNat, by omega⟩
          have htlt : tn < R.length := by omega
          obtain ⟨a, rl, so, sc, rfl, hab, hrk, q0, q1, q2, hq1, hq2, hq3, hru, hq5, hq6⟩ := HRU.out.at tn htlt
          have qq : ((w4.drewN q).setCell ⟨x, 1, none⟩ (.int .i64 to)).cell? (a.add (tn * 3)) = some (.int .i64 rl.left) := (cell_same (p := a.add (tn * 3)) (by rw [add_block]; exact (HWU.out a.block (by omega)).trans (HW04.out a.block (by omega)))).trans q0
          subst htn
          have htl2 : (tn : Int) < (R.length : Int) := by omega
          have hab2 : a.block < w.heap.size := hab
          clear q0 q1 q2 hru hq5 hq6 hq1 hq2 hq3
          by_cases hle : rl.left = s
          · have c6 : (rl.left == s) = true := by simpa using hle
            by_cases hxr : (tn : Int) = r
            · have c7 : ((tn : Int) == r) = true := by simpa using hxr
              have hans : fitB tl R s (tn : Int) k.syms = true := by rw [hxr]; exact hfs
              have HXR := Lib.hid hxr
              have HLE := Lib.hid hle
              clear hxr hle
              skip
              go_wp2
              go_quiet (fail)
              go_wp2_with fail
              have hv := HV1.out (((w4.drewN q).setCell ⟨x, 1, none⟩ (.int .i64 (tn : Int))).drewN nq) (tn : Int) (below_drewN HBB.out nq) HSU.out (fun p _ hpx => HWU.out p hpx) HBU.out
              rw [hans] at hv
              have hW2 : ∀ p, p ≠ x → (((w4.drewN q).setCell ⟨x, 1, none⟩ (.int .i64 (tn : Int))).drewN nq).heap[p]? = w4.heap[p]? := HWU.out
              have hb2 : Blk (((w4.drewN q).setCell ⟨x, 1, none⟩ (.int .i64 (tn : Int))).drewN nq) x 65 #[.int .i64 s, .int .i64 (tn : Int), .slice uo kb.length uc] := HBU.out
              have hBB2 : Below (w.heap.size + 1) w0 (((w4.drewN q).setCell ⟨x, 1, none⟩ (.int .i64 (tn : Int))).drewN nq) := below_drewN HBB.out nq
              have hs2 : w4.heap.size ≤ (((w4.drewN q).setCell ⟨x, 1, none⟩ (.int .i64 (tn : Int))).drewN nq).heap.size := HSU.out
              generalize ((w4.drewN q).setCell ⟨x, 1, none⟩ (.int .i64 (tn : Int))).drewN nq = u2 at *
              refine hv.mono ?_
              rintro e u3 ⟨rfl, hb23⟩
              have hb3 : Blk u3 x 65 #[.int .i64 s, .int .i64 (tn : Int), .slice uo kb.length uc] := hb2.below hb23 hb2.lt
              have hW3 : ∀ p, p < w4.heap.size → p ≠ x → u3.heap[p]? = w4.heap[p]? := fun p hp hpx => (hb23.block p (by omega)).trans (hW2 p hpx)
              have hBB3 : Below (w.heap.size + 1) w0 u3 := hBB2.trans (hb23.mono (by have := hBB2.size; omega))
              have hs3 : w4.heap.size ≤ u3.heap.size := Nat.le_trans hs2 hb23.size
              have hb4' : Blk (u3.setCell ⟨x, 1, none⟩ (.int .i64 r)) x 65 #[.int .i64 s, .int .i64 r, .slice uo kb.length uc] := hb3.set_ 1 (.int .i64 r)
              have hW4 : ∀ p, p < w4.heap.size → p ≠ x → (u3.setCell ⟨x, 1, none⟩ (.int .i64 r)).heap[p]? = w4.heap[p]? := fun p hp hpx => (Below.heap_setCell u3 ⟨x, 1, none⟩ (.int .i64 r) p hpx).trans (hW3 p hp hpx)
              have hBB4 : Below (w.heap.size + 1) w0 (u3.setCell ⟨x, 1, none⟩ (.int .i64 r)) := hBB3.setCell (p := ⟨x, 1, none⟩) hxw _
              have hs4 : w4.heap.size ≤ (u3.setCell ⟨x, 1, none⟩ (.int .i64 r)).heap.size := by simp; omega
              have f1 := hb3.cell 1
              have ff := hb3.frozen 1
              have g4 := b0.below hBB4 (by omega)
              have g40 := g4.cell 0
              have g41 := g4.cell 1
              have g42 := g4.cell 2
              simp only [List.getElem?_toArray, List.getElem?_cons_zero, List.getElem?_cons_succ] at f1 g40 g41 g42
              have hv2 := HV1.out (u3.setCell ⟨x, 1, none⟩ (.int .i64 r)) r hBB4 hs4 hW4 hb4'
              rw [hfs] at hv2
              have HW4 := Lib.hid hW4
              have HB4' := Lib.hid hb4'
              have HBB4 := Lib.hid hBB4
              have HS4 := Lib.hid hs4
              clear hv hW2 hb2 hBB2 hs2 hb23 hb3 hW3 hBB3 hs3 hW4 hb4' hBB4 hs4 g4 e0 e2 e3 e4 fz d0 d1 d2
              go_wp2_with fail
              refine hv2.mono ?_
              rintro e u5 ⟨rfl, hb45⟩
              have hW5 : ∀ p, p < w4.heap.size → p ≠ x → u5.heap[p]? = w4.heap[p]? := fun p hp hpx => (hb45.block p (by have := HS4.out; omega)).trans (HW4.out p hp hpx)
              have hb5 : Blk u5 x 65 #[.int .i64 s, .int .i64 r, .slice uo kb.length uc] := HB4'.out.below hb45 HB4'.out.lt
              have hBB5 : Below (w.heap.size + 1) w0 u5 := HBB4.out.trans (hb45.mono (by have := HBB4.out.size; omega))
              have hs5 : w4.heap.size ≤ u5.heap.size := Nat.le_trans HS4.out hb45.size
              have hz5 := hBB5.size
              have hown5 : u5.ownsRow w3.heap.size 53 1 (.slice uo kb.length uc) kb.length (PV kb) := ownsRow_keep HXX.out.own (fun g hg e => hW5 g hg (fun e2 => by
                subst e2
                obtain ⟨_, cs, fz, ho⟩ := row_obj HXX.out.own g e
                exact absurd (blk_typ HXX.out.blk ho) (by decide)))
              have hown7 := (hown5.alloc (.cells #[.int .i64 0, .int .i64 (-1), .slice none 0 0] 65)).alloc (.cells #[.pointer (some ⟨u5.heap.size, 0, none⟩)] 53)
              have hnew7 := cell_one_new (u5.alloc (.cells #[.int .i64 0, .int .i64 (-1), .slice none 0 0] 65)) (.pointer (some ⟨u5.heap.size, 0, none⟩)) 53
              rw [World.size_alloc] at hnew7
              have hb7 := (hb5.alloc (.cells #[.int .i64 0, .int .i64 (-1), .slice none 0 0] 65)).alloc (.cells #[.pointer (some ⟨u5.heap.size, 0, none⟩)] 53)
              have hy7 := (Blk.new u5 65 #[.int .i64 0, .int .i64 (-1), .slice none 0 0]).alloc (.cells #[.pointer (some ⟨u5.heap.size, 0, none⟩)] 53)
              have hBB7 := (hBB5.alloc (by omega) (.cells #[.int .i64 0, .int .i64 (-1), .slice none 0 0] 65)).alloc (by rw [World.size_alloc]; omega) (.cells #[.pointer (some ⟨u5.heap.size, 0, none⟩)] 53)
              have hW7 : ∀ p, p < w4.heap.size → p ≠ x → ((u5.alloc (.cells #[.int .i64 0, .int .i64 (-1), .slice none 0 0] 65)).alloc (.cells #[.pointer (some ⟨u5.heap.size, 0, none⟩)] 53)).heap[p]? = w4.heap[p]? := fun p hp hpx => ((Below.heap_alloc _ _ p (by rw [World.size_alloc]; omega)).trans (Below.heap_alloc _ _ p (by omega))).trans (hW5 p hp hpx)
              have hs7 : ((u5.alloc (.cells #[.int .i64 0, .int .i64 (-1), .slice none 0 0] 65)).alloc (.cells #[.pointer (some ⟨u5.heap.size, 0, none⟩)] 53)).heap.size = u5.heap.size + 2 := by simp
              have k5 := hb5.cell 2
              simp only [List.getElem?_toArray, List.getElem?_cons_zero, List.getElem?_cons_succ] at k5
              have HO7 := Lib.hid hown7
              have HN7 := Lib.hid hnew7
              have HB7 := Lib.hid hb7
              have HY7 := Lib.hid hy7
              have HBB7 := Lib.hid hBB7
              have HW7 := Lib.hid hW7
              have HZ7 := Lib.hid hs7
              clear hW5 hb5 hBB5 hown5 hown7 hnew7 hb7 hy7 hBB7 hW7 hs7 hb45 hv2 f1 ff g40 g41 g42
              go_wp2_with (at_builtin; go_must (refine wpList_append_own _ rfl _ _ 63 rfl w3.heap.size 53 i0 (.pointer none) 1 8 Try.underlying63 hi0 hi1 hi2 hi3 rfl (by decide) _ _ _ rfl HO7.out ⟨u5.heap.size + 1, 0, none⟩ 1 1 [.pointer (some ⟨u5.heap.size, 0, none⟩)] rfl rfl HN7.out (by intro u hu; simp at hu; subst hu; rfl) (by unfold maxLen; omega) (by omega) (by have := HZ7.out; omega) ?_); intro v8 w8 hown8 hgrow _; obtain ⟨ao8, c8, rfl⟩ := own_len hown8; have hb8 : Blk w8 x 65 #[.int .i64 s, .int .i64 r, .slice uo kb.length uc] := HB7.out.grown hgrow (HB7.out.not_row (by decide) HO7.out); have k8 : w8.cell? ⟨x, 2, none⟩ = some (.slice uo kb.length uc) := (hb8.cell 2); have f8 : w8.frozen? ⟨x, 2, none⟩ = false := hb8.frozen 2; have hBB8 : Below (w.heap.size + 1) w0 w8 := HBB7.out.grown hgrow (by have := HZ7.out; omega) (fun q hq => by have := (HO7.out.lt q hq).1; omega); have hBB9 : Below (w.heap.size + 1) w0 (w8.setCell ⟨x, 2, none⟩ (.slice ao8 (kb.length + 1) c8)) := hBB8.setCell (p := ⟨x, 2, none⟩) hxw _; have g9 := b0.below hBB9 (by omega); have g90 := g9.cell 0; have g91 := g9.cell 1; have g92 := g9.cell 2; simp only [List.getElem?_toArray, List.getElem?_cons_zero, List.getElem?_cons_succ] at g90 g91 g92)
              have hb9 : Blk (w8.setCell ⟨x, 2, none⟩ (.slice ao8 (kb.length + 1) c8)) x 65 #[.int .i64 s, .int .i64 r, .slice ao8 (kb.length + 1) c8] := hb8.set_ 2 (.slice ao8 (kb.length + 1) c8)
              have hW9 : ∀ p, p < w4.heap.size → p ≠ x → Value.ownBlock (.slice uo kb.length uc) ≠ some p → (w8.setCell ⟨x, 2, none⟩ (.slice ao8 (kb.length + 1) c8)).heap[p]? = w4.heap[p]? := fun p hp hpx hpo => ((Below.heap_setCell w8 ⟨x, 2, none⟩ (.slice ao8 (kb.length + 1) c8) p hpx).trans (hgrow.block p (by have := HZ7.out; omega) (fun e => hpo e.symm))).trans (HW7.out p hp hpx)
              have hown9 : (w8.setCell ⟨x, 2, none⟩ (.slice ao8 (kb.length + 1) c8)).ownsRow 0 53 1 (.slice ao8 (kb.length + 1) c8) (kb.length + 1) (PV kb ++ [PtrV u5.heap.size]) := own_base' (own_grown hown8 (grown_set w8 ⟨x, 2, none⟩ (.slice ao8 (kb.length + 1) c8)) (.inr (hb8.not_row (by decide) hown8).symm)) (Nat.zero_le _)
              have hyx : u5.heap.size ≠ x := by omega
              have hy9 : Blk (w8.setCell ⟨x, 2, none⟩ (.slice ao8 (kb.length + 1) c8)) u5.heap.size 65 #[.int .i64 0, .int .i64 (-1), .slice none 0 0] := Blk.far (HY7.out.grown hgrow (HY7.out.not_row (by decide) HO7.out)) (p := ⟨x, 2, none⟩) hyx _
              have hv3 := HV3.out _ u5.heap.size (.slice ao8 (kb.length + 1) c8) hBB9 hW9 hb9 hown9 hy9
              have HBB9 := Lib.hid hBB9
              clear hb9 hBB8 hBB9 hW9 hown9 hy9 hb8 hown8 hgrow k8 f8 g9
              refine hv3.mono ?_
              rintro e ua ⟨rfl, hba⟩
              have hend := hbl.trans ((HBB9.out.trans (hba.mono (by have := HBB9.out.size; omega))).mono (by omega))
              clear hv3 g90 g91 g92 hba
              go_wp2
              go_ret
              exact ⟨rfl, hend⟩
            · have c7 : ((tn : Int) == r) = false := by simpa using hxr
              have hans : fitB tl R s (tn : Int) k.syms = false := HT4.out (by omega) tn rl hrk hle hxr
              have HLE := Lib.hid hle
              clear hle
              skip
              go_wp2
              go_quiet (fail)
              go_wp2_with fail
              have hv := HV1.out (((w4.drewN q).setCell ⟨x, 1, none⟩ (.int .i64 (tn : Int))).drewN nq) (tn : Int) (below_drewN HBB.out nq) HSU.out (fun p _ hpx => HWU.out p hpx) HBU.out
              rw [hans] at hv
              have hW2 : ∀ p, p ≠ x → (((w4.drewN q).setCell ⟨x, 1, none⟩ (.int .i64 (tn : Int))).drewN nq).heap[p]? = w4.heap[p]? := HWU.out
              have hb2 : Blk (((w4.drewN q).setCell ⟨x, 1, none⟩ (.int .i64 (tn : Int))).drewN nq) x 65 #[.int .i64 s, .int .i64 (tn : Int), .slice uo kb.length uc] := HBU.out
              have hBB2 : Below (w.heap.size + 1) w0 (((w4.drewN q).setCell ⟨x, 1, none⟩ (.int .i64 (tn : Int))).drewN nq) := below_drewN HBB.out nq
              have hs2 : w4.heap.size ≤ (((w4.drewN q).setCell ⟨x, 1, none⟩ (.int .i64 (tn : Int))).drewN nq).heap.size := HSU.out
              generalize ((w4.drewN q).setCell ⟨x, 1, none⟩ (.int .i64 (tn : Int))).drewN nq = u2 at *
              refine hv.mono ?_
              rintro e u3 ⟨rfl, hb23⟩
              have hb3 : Blk u3 x 65 #[.int .i64 s, .int .i64 (tn : Int), .slice uo kb.length uc] := hb2.below hb23 hb2.lt
              have hW3 : ∀ p, p < w4.heap.size → p ≠ x → u3.heap[p]? = w4.heap[p]? := fun p hp hpx => (hb23.block p (by omega)).trans (hW2 p hpx)
              have hBB3 : Below (w.heap.size + 1) w0 u3 := hBB2.trans (hb23.mono (by have := hBB2.size; omega))
              have hs3 : w4.heap.size ≤ u3.heap.size := Nat.le_trans hs2 hb23.size
              have hb4' : Blk (u3.setCell ⟨x, 1, none⟩ (.int .i64 r)) x 65 #[.int .i64 s, .int .i64 r, .slice uo kb.length uc] := hb3.set_ 1 (.int .i64 r)
              have hW4 : ∀ p, p < w4.heap.size → p ≠ x → (u3.setCell ⟨x, 1, none⟩ (.int .i64 r)).heap[p]? = w4.heap[p]? := fun p hp hpx => (Below.heap_setCell u3 ⟨x, 1, none⟩ (.int .i64 r) p hpx).trans (hW3 p hp hpx)
              have hBB4 : Below (w.heap.size + 1) w0 (u3.setCell ⟨x, 1, none⟩ (.int .i64 r)) := hBB3.setCell (p := ⟨x, 1, none⟩) hxw _
              have hs4 : w4.heap.size ≤ (u3.setCell ⟨x, 1, none⟩ (.int .i64 r)).heap.size := by simp; omega
              have f1 := hb3.cell 1
              have ff := hb3.frozen 1
              have g4 := b0.below hBB4 (by omega)
              have g40 := g4.cell 0
              have g41 := g4.cell 1
              have g42 := g4.cell 2
              simp only [List.getElem?_toArray, List.getElem?_cons_zero, List.getElem?_cons_succ] at f1 g40 g41 g42
              have hv2 := HV1.out (u3.setCell ⟨x, 1, none⟩ (.int .i64 r)) r hBB4 hs4 hW4 hb4'
              rw [hfs] at hv2
              have HW4 := Lib.hid hW4
              have HB4' := Lib.hid hb4'
              have HBB4 := Lib.hid hBB4
              have HS4 := Lib.hid hs4
              clear hv hW2 hb2 hBB2 hs2 hb23 hb3 hW3 hBB3 hs3 hW4 hb4' hBB4 hs4 g4 e0 e2 e3 e4 fz d0 d1 d2
              go_wp2_with fail
              refine hv2.mono ?_
              rintro e u5 ⟨rfl, hb45⟩
              have hW5 : ∀ p, p < w4.heap.size → p ≠ x → u5.heap[p]? = w4.heap[p]? := fun p hp hpx => (hb45.block p (by have := HS4.out; omega)).trans (HW4.out p hp hpx)
              have hb5 : Blk u5 x 65 #[.int .i64 s, .int .i64 r, .slice uo kb.length uc] := HB4'.out.below hb45 HB4'.out.lt
              have hBB5 : Below (w.heap.size + 1) w0 u5 := HBB4.out.trans (hb45.mono (by have := HBB4.out.size; omega))
              have hs5 : w4.heap.size ≤ u5.heap.size := Nat.le_trans HS4.out hb45.size
              have hz5 := hBB5.size
              have hown5 : u5.ownsRow w3.heap.size 53 1 (.slice uo kb.length uc) kb.length (PV kb) := ownsRow_keep HXX.out.own (fun g hg e => hW5 g hg (fun e2 => by
                subst e2
                obtain ⟨_, cs, fz, ho⟩ := row_obj HXX.out.own g e
                exact absurd (blk_typ HXX.out.blk ho) (by decide)))
              have hown7 := (hown5.alloc (.cells #[.int .i64 0, .int .i64 (-1), .slice none 0 0] 65)).alloc (.cells #[.pointer (some ⟨u5.heap.size, 0, none⟩)] 53)
              have hnew7 := cell_one_new (u5.alloc (.cells #[.int .i64 0, .int .i64 (-1), .slice none 0 0] 65)) (.pointer (some ⟨u5.heap.size, 0, none⟩)) 53
              rw [World.size_alloc] at hnew7
              have hb7 := (hb5.alloc (.cells #[.int .i64 0, .int .i64 (-1), .slice none 0 0] 65)).alloc (.cells #[.pointer (some ⟨u5.heap.size, 0, none⟩)] 53)
              have hy7 := (Blk.new u5 65 #[.int .i64 0, .int .i64 (-1), .slice none 0 0]).alloc (.cells #[.pointer (some ⟨u5.heap.size, 0, none⟩)] 53)
              have hBB7 := (hBB5.alloc (by omega) (.cells #[.int .i64 0, .int .i64 (-1), .slice none 0 0] 65)).alloc (by rw [World.size_alloc]; omega) (.cells #[.pointer (some ⟨u5.heap.size, 0, none⟩)] 53)
              have hW7 : ∀ p, p < w4.heap.size → p ≠ x → ((u5.alloc (.cells #[.int .i64 0, .int .i64 (-1), .slice none 0 0] 65)).alloc (.cells #[.pointer (some ⟨u5.heap.size, 0, none⟩)] 53)).heap[p]? = w4.heap[p]? := fun p hp hpx => ((Below.heap_alloc _ _ p (by rw [World.size_alloc]; omega)).trans (Below.heap_alloc _ _ p (by omega))).trans (hW5 p hp hpx)
              have hs7 : ((u5.alloc (.cells #[.int .i64 0, .int .i64 (-1), .slice none 0 0] 65)).alloc (.cells #[.pointer (some ⟨u5.heap.size, 0, none⟩)] 53)).heap.size = u5.heap.size + 2 := by simp
              have k5 := hb5.cell 2
              simp only [List.getElem?_toArray, List.getElem?_cons_zero, List.getElem?_cons_succ] at k5
              have HO7 := Lib.hid hown7
              have HN7 := Lib.hid hnew7
              have HB7 := Lib.hid hb7
              have HY7 := Lib.hid hy7
              have HBB7 := Lib.hid hBB7
              have HW7 := Lib.hid hW7
              have HZ7 := Lib.hid hs7
              clear hW5 hb5 hBB5 hown5 hown7 hnew7 hb7 hy7 hBB7 hW7 hs7 hb45 hv2 f1 ff g40 g41 g42
              go_wp2_with (at_builtin; go_must (refine wpList_append_own _ rfl _ _ 63 rfl w3.heap.size 53 i0 (.pointer none) 1 8 Try.underlying63 hi0 hi1 hi2 hi3 rfl (by decide) _ _ _ rfl HO7.out ⟨u5.heap.size + 1, 0, none⟩ 1 1 [.pointer (some ⟨u5.heap.size, 0, none⟩)] rfl rfl HN7.out (by intro u hu; simp at hu; subst hu; rfl) (by unfold maxLen; omega) (by omega) (by have := HZ7.out; omega) ?_); intro v8 w8 hown8 hgrow _; obtain ⟨ao8, c8, rfl⟩ := own_len hown8; have hb8 : Blk w8 x 65 #[.int .i64 s, .int .i64 r, .slice uo kb.length uc] := HB7.out.grown hgrow (HB7.out.not_row (by decide) HO7.out); have k8 : w8.cell? ⟨x, 2, none⟩ = some (.slice uo kb.length uc) := (hb8.cell 2); have f8 : w8.frozen? ⟨x, 2, none⟩ = false := hb8.frozen 2; have hBB8 : Below (w.heap.size + 1) w0 w8 := HBB7.out.grown hgrow (by have := HZ7.out; omega) (fun q hq => by have := (HO7.out.lt q hq).1; omega); have hBB9 : Below (w.heap.size + 1) w0 (w8.setCell ⟨x, 2, none⟩ (.slice ao8 (kb.length + 1) c8)) := hBB8.setCell (p := ⟨x, 2, none⟩) hxw _; have g9 := b0.below hBB9 (by omega); have g90 := g9.cell 0; have g91 := g9.cell 1; have g92 := g9.cell 2; simp only [List.getElem?_toArray, List.getElem?_cons_zero, List.getElem?_cons_succ] at g90 g91 g92)
              have hb9 : Blk (w8.setCell ⟨x, 2, none⟩ (.slice ao8 (kb.length + 1) c8)) x 65 #[.int .i64 s, .int .i64 r, .slice ao8 (kb.length + 1) c8] := hb8.set_ 2 (.slice ao8 (kb.length + 1) c8)
              have hW9 : ∀ p, p < w4.heap.size → p ≠ x → Value.ownBlock (.slice uo kb.length uc) ≠ some p → (w8.setCell ⟨x, 2, none⟩ (.slice ao8 (kb.length + 1) c8)).heap[p]? = w4.heap[p]? := fun p hp hpx hpo => ((Below.heap_setCell w8 ⟨x, 2, none⟩ (.slice ao8 (kb.length + 1) c8) p hpx).trans (hgrow.block p (by have := HZ7.out; omega) (fun e => hpo e.symm))).trans (HW7.out p hp hpx)
              have hown9 : (w8.setCell ⟨x, 2, none⟩ (.slice ao8 (kb.length + 1) c8)).ownsRow 0 53 1 (.slice ao8 (kb.length + 1) c8) (kb.length + 1) (PV kb ++ [PtrV u5.heap.size]) := own_base' (own_grown hown8 (grown_set w8 ⟨x, 2, none⟩ (.slice ao8 (kb.length + 1) c8)) (.inr (hb8.not_row (by decide) hown8).symm)) (Nat.zero_le _)
              have hyx : u5.heap.size ≠ x := by omega
              have hy9 : Blk (w8.setCell ⟨x, 2, none⟩ (.slice ao8 (kb.length + 1) c8)) u5.heap.size 65 #[.int .i64 0, .int .i64 (-1), .slice none 0 0] := Blk.far (HY7.out.grown hgrow (HY7.out.not_row (by decide) HO7.out)) (p := ⟨x, 2, none⟩) hyx _
              have hv3 := HV3.out _ u5.heap.size (.slice ao8 (kb.length + 1) c8) hBB9 hW9 hb9 hown9 hy9
              have HBB9 := Lib.hid hBB9
              clear hb9 hBB8 hBB9 hW9 hown9 hy9 hb8 hown8 hgrow k8 f8 g9
              refine hv3.mono ?_
              rintro e ua ⟨rfl, hba⟩
              have hend := hbl.trans ((HBB9.out.trans (hba.mono (by have := HBB9.out.size; omega))).mono (by omega))
              clear hv3 g90 g91 g92 hba
              go_wp2
              go_ret
              exact ⟨rfl, hend⟩
          · have c6 : (rl.left == s) = false := by simpa using hle
            have hans : fitB tl R s (tn : Int) k.syms = false := HT5.out (by omega) tn rl hrk hle
            skip
            go_wp2
            go_quiet (fail)
            go_wp2_with fail
            have hv := HV1.out (((w4.drewN q).setCell ⟨x, 1, none⟩ (.int .i64 (tn : Int))).drewN nq) (tn : Int) (below_drewN HBB.out nq) HSU.out (fun p _ hpx => HWU.out p hpx) HBU.out
            rw [hans] at hv
            have hW2 : ∀ p, p ≠ x → (((w4.drewN q).setCell ⟨x, 1, none⟩ (.int .i64 (tn : Int))).drewN nq).heap[p]? = w4.heap[p]? := HWU.out
            have hb2 : Blk (((w4.drewN q).setCell ⟨x, 1, none⟩ (.int .i64 (tn : Int))).drewN nq) x 65 #[.int .i64 s, .int .i64 (tn : Int), .slice uo kb.length uc] := HBU.out
            have hBB2 : Below (w.heap.size + 1) w0 (((w4.drewN q).setCell ⟨x, 1, none⟩ (.int .i64 (tn : Int))).drewN nq) := below_drewN HBB.out nq
            have hs2 : w4.heap.size ≤ (((w4.drewN q).setCell ⟨x, 1, none⟩ (.int .i64 (tn : Int))).drewN nq).heap.size := HSU.out
            generalize ((w4.drewN q).setCell ⟨x, 1, none⟩ (.int .i64 (tn : Int))).drewN nq = u2 at *
            refine hv.mono ?_
            rintro e u3 ⟨rfl, hb23⟩
            have hb3 : Blk u3 x 65 #[.int .i64 s, .int .i64 (tn : Int), .slice uo kb.length uc] := hb2.below hb23 hb2.lt
            have hW3 : ∀ p, p < w4.heap.size → p ≠ x → u3.heap[p]? = w4.heap[p]? := fun p hp hpx => (hb23.block p (by omega)).trans (hW2 p hpx)
            have hBB3 : Below (w.heap.size + 1) w0 u3 := hBB2.trans (hb23.mono (by have := hBB2.size; omega))
            have hs3 : w4.heap.size ≤ u3.heap.size := Nat.le_trans hs2 hb23.size
            have hb4' : Blk (u3.setCell ⟨x, 1, none⟩ (.int .i64 r)) x 65 #[.int .i64 s, .int .i64 r, .slice uo kb.length uc] := hb3.set_ 1 (.int .i64 r)
            have hW4 : ∀ p, p < w4.heap.size → p ≠ x → (u3.setCell ⟨x, 1, none⟩ (.int .i64 r)).heap[p]? = w4.heap[p]? := fun p hp hpx => (Below.heap_setCell u3 ⟨x, 1, none⟩ (.int .i64 r) p hpx).trans (hW3 p hp hpx)
            have hBB4 : Below (w.heap.size + 1) w0 (u3.setCell ⟨x, 1, none⟩ (.int .i64 r)) := hBB3.setCell (p := ⟨x, 1, none⟩) hxw _
            have hs4 : w4.heap.size ≤ (u3.setCell ⟨x, 1, none⟩ (.int .i64 r)).heap.size := by simp; omega
            have f1 := hb3.cell 1
            have ff := hb3.frozen 1
            have g4 := b0.below hBB4 (by omega)
            have g40 := g4.cell 0
            have g41 := g4.cell 1
            have g42 := g4.cell 2
            simp only [List.getElem?_toArray, List.getElem?_cons_zero, List.getElem?_cons_succ] at f1 g40 g41 g42
            have hv2 := HV1.out (u3.setCell ⟨x, 1, none⟩ (.int .i64 r)) r hBB4 hs4 hW4 hb4'
            rw [hfs] at hv2
            have HW4 := Lib.hid hW4
            have HB4' := Lib.hid hb4'
            have HBB4 := Lib.hid hBB4
            have HS4 := Lib.hid hs4
            clear hv hW2 hb2 hBB2 hs2 hb23 hb3 hW3 hBB3 hs3 hW4 hb4' hBB4 hs4 g4 e0 e2 e3 e4 fz d0 d1 d2
            go_wp2_with fail
            refine hv2.mono ?_
            rintro e u5 ⟨rfl, hb45⟩
            have hW5 : ∀ p, p < w4.heap.size → p ≠ x → u5.heap[p]? = w4.heap[p]? := fun p hp hpx => (hb45.block p (by have := HS4.out; omega)).trans (HW4.out p hp hpx)
            have hb5 : Blk u5 x 65 #[.int .i64 s, .int .i64 r, .slice uo kb.length uc] := HB4'.out.below hb45 HB4'.out.lt
            have hBB5 : Below (w.heap.size + 1) w0 u5 := HBB4.out.trans (hb45.mono (by have := HBB4.out.size; omega))
            have hs5 : w4.heap.size ≤ u5.heap.size := Nat.le_trans HS4.out hb45.size
            have hz5 := hBB5.size
            have hown5 : u5.ownsRow w3.heap.size 53 1 (.slice uo kb.length uc) kb.length (PV kb) := ownsRow_keep HXX.out.own (fun g hg e => hW5 g hg (fun e2 => by
              subst e2
              obtain ⟨_, cs, fz, ho⟩ := row_obj HXX.out.own g e
              exact absurd (blk_typ HXX.out.blk ho) (by decide)))
            have hown7 := (hown5.alloc (.cells #[.int .i64 0, .int .i64 (-1), .slice none 0 0] 65)).alloc (.cells #[.pointer (some ⟨u5.heap.size, 0, none⟩)] 53)
            have hnew7 := cell_one_new (u5.alloc (.cells #[.int .i64 0, .int .i64 (-1), .slice none 0 0] 65)) (.pointer (some ⟨u5.heap.size, 0, none⟩)) 53
            rw [World.size_alloc] at hnew7
            have hb7 := (hb5.alloc (.cells #[.int .i64 0, .int .i64 (-1), .slice none 0 0] 65)).alloc (.cells #[.pointer (some ⟨u5.heap.size, 0, none⟩)] 53)
            have hy7 := (Blk.new u5 65 #[.int .i64 0, .int .i64 (-1), .slice none 0 0]).alloc (.cells #[.pointer (some ⟨u5.heap.size, 0, none⟩)] 53)
            have hBB7 := (hBB5.alloc (by omega) (.cells #[.int .i64 0, .int .i64 (-1), .slice none 0 0] 65)).alloc (by rw [World.size_alloc]; omega) (.cells #[.pointer (some ⟨u5.heap.size, 0, none⟩)] 53)
            have hW7 : ∀ p, p < w4.heap.size → p ≠ x → ((u5.alloc (.cells #[.int .i64 0, .int .i64 (-1), .slice none 0 0] 65)).alloc (.cells #[.pointer (some ⟨u5.heap.size, 0, none⟩)] 53)).heap[p]? = w4.heap[p]? := fun p hp hpx => ((Below.heap_alloc _ _ p (by rw [World.size_alloc]; omega)).trans (Below.heap_alloc _ _ p (by omega))).trans (hW5 p hp hpx)
            have hs7 : ((u5.alloc (.cells #[.int .i64 0, .int .i64 (-1), .slice none 0 0] 65)).alloc (.cells #[.pointer (some ⟨u5.heap.size, 0, none⟩)] 53)).heap.size = u5.heap.size + 2 := by simp
            have k5 := hb5.cell 2
            simp only [List.getElem?_toArray, List.getElem?_cons_zero, List.getElem?_cons_succ] at k5
            have HO7 := Lib.hid hown7
            have HN7 := Lib.hid hnew7
            have HB7 := Lib.hid hb7
            have HY7 := Lib.hid hy7
            have HBB7 := Lib.hid hBB7
            have HW7 := Lib.hid hW7
            have HZ7 := Lib.hid hs7
            clear hW5 hb5 hBB5 hown5 hown7 hnew7 hb7 hy7 hBB7 hW7 hs7 hb45 hv2 f1 ff g40 g41 g42
            go_wp2_with (at_builtin; go_must (refine wpList_append_own _ rfl _ _ 63 rfl w3.heap.size 53 i0 (.pointer none) 1 8 Try.underlying63 hi0 hi1 hi2 hi3 rfl (by decide) _ _ _ rfl HO7.out ⟨u5.heap.size + 1, 0, none⟩ 1 1 [.pointer (some ⟨u5.heap.size, 0, none⟩)] rfl rfl HN7.out (by intro u hu; simp at hu; subst hu; rfl) (by unfold maxLen; omega) (by omega) (by have := HZ7.out; omega) ?_); intro v8 w8 hown8 hgrow _; obtain ⟨ao8, c8, rfl⟩ := own_len hown8; have hb8 : Blk w8 x 65 #[.int .i64 s, .int .i64 r, .slice uo kb.length uc] := HB7.out.grown hgrow (HB7.out.not_row (by decide) HO7.out); have k8 : w8.cell? ⟨x, 2, none⟩ = some (.slice uo kb.length uc) := (hb8.cell 2); have f8 : w8.frozen? ⟨x, 2, none⟩ = false := hb8.frozen 2; have hBB8 : Below (w.heap.size + 1) w0 w8 := HBB7.out.grown hgrow (by have := HZ7.out; omega) (fun q hq => by have := (HO7.out.lt q hq).1; omega); have hBB9 : Below (w.heap.size + 1) w0 (w8.setCell ⟨x, 2, none⟩ (.slice ao8 (kb.length + 1) c8)) := hBB8.setCell (p := ⟨x, 2, none⟩) hxw _; have g9 := b0.below hBB9 (by omega); have g90 := g9.cell 0; have g91 := g9.cell 1; have g92 := g9.cell 2; simp only [List.getElem?_toArray, List.getElem?_cons_zero, List.getElem?_cons_succ] at g90 g91 g92)
            have hb9 : Blk (w8.setCell ⟨x, 2, none⟩ (.slice ao8 (kb.length + 1) c8)) x 65 #[.int .i64 s, .int .i64 r, .slice ao8 (kb.length + 1) c8] := hb8.set_ 2 (.slice ao8 (kb.length + 1) c8)
            have hW9 : ∀ p, p < w4.heap.size → p ≠ x → Value.ownBlock (.slice uo kb.length uc) ≠ some p → (w8.setCell ⟨x, 2, none⟩ (.slice ao8 (kb.length + 1) c8)).heap[p]? = w4.heap[p]? := fun p hp hpx hpo => ((Below.heap_setCell w8 ⟨x, 2, none⟩ (.slice ao8 (kb.length + 1) c8) p hpx).trans (hgrow.block p (by have := HZ7.out; omega) (fun e => hpo e.symm))).trans (HW7.out p hp hpx)
            have hown9 : (w8.setCell ⟨x, 2, none⟩ (.slice ao8 (kb.length + 1) c8)).ownsRow 0 53 1 (.slice ao8 (kb.length + 1) c8) (kb.length + 1) (PV kb ++ [PtrV u5.heap.size]) := own_base' (own_grown hown8 (grown_set w8 ⟨x, 2, none⟩ (.slice ao8 (kb.length + 1) c8)) (.inr (hb8.not_row (by decide) hown8).symm)) (Nat.zero_le _)
            have hyx : u5.heap.size ≠ x := by omega
            have hy9 : Blk (w8.setCell ⟨x, 2, none⟩ (.slice ao8 (kb.length + 1) c8)) u5.heap.size 65 #[.int .i64 0, .int .i64 (-1), .slice none 0 0] := Blk.far (HY7.out.grown hgrow (HY7.out.not_row (by decide) HO7.out)) (p := ⟨x, 2, none⟩) hyx _
            have hv3 := HV3.out _ u5.heap.size (.slice ao8 (kb.length + 1) c8) hBB9 hW9 hb9 hown9 hy9
            have HBB9 := Lib.hid hBB9
            clear hb9 hBB8 hBB9 hW9 hown9 hy9 hb8 hown8 hgrow k8 f8 g9
            refine hv3.mono ?_
            rintro e ua ⟨rfl, hba⟩
            have hend := hbl.trans ((HBB9.out.trans (hba.mono (by have := HBB9.out.size; omega))).mono (by omega))
            clear hv3 g90 g91 g92 hba
            go_wp2
            go_ret
            exact ⟨rfl, hend⟩
      · have hn00 : decide ((0 : Int) < (n : Int)) = false := decide_eq_false (by omega)
        by_cases hs0 : s < 0
        · have c3 : decide ((0 : Int) ≤ s) = false := decide_eq_false (by omega)
          by_cases hto : to = -1
          · have c2 : (to == -1) = true := by simpa using hto
            have hans : fitB tl R s to k.syms = true := HT1.out hs0 hto
            have HTO := Lib.hid hto
            clear hto
            skip
            go_wp2
            go_quiet (fail)
            go_wp2_with fail
            have hv := HV1.out (((w4.drewN q).setCell ⟨x, 1, none⟩ (.int .i64 to)).drewN nq) to (below_drewN HBB.out nq) HSU.out (fun p _ hpx => HWU.out p hpx) HBU.out
            rw [hans] at hv
            have hW2 : ∀ p, p ≠ x → (((w4.drewN q).setCell ⟨x, 1, none⟩ (.int .i64 to)).drewN nq).heap[p]? = w4.heap[p]? := HWU.out
            have hb2 : Blk (((w4.drewN q).setCell ⟨x, 1, none⟩ (.int .i64 to)).drewN nq) x 65 #[.int .i64 s, .int .i64 to, .slice uo kb.length uc] := HBU.out
            have hBB2 : Below (w.heap.size + 1) w0 (((w4.drewN q).setCell ⟨x, 1, none⟩ (.int .i64 to)).drewN nq) := below_drewN HBB.out nq
            have hs2 : w4.heap.size ≤ (((w4.drewN q).setCell ⟨x, 1, none⟩ (.int .i64 to)).drewN nq).heap.size := HSU.out
            generalize ((w4.drewN q).setCell ⟨x, 1, none⟩ (.int .i64 to)).drewN nq = u2 at *
            refine hv.mono ?_
            rintro e u3 ⟨rfl, hb23⟩
            have hb3 : Blk u3 x 65 #[.int .i64 s, .int .i64 to, .slice uo kb.length uc] := hb2.below hb23 hb2.lt
            have hW3 : ∀ p, p < w4.heap.size → p ≠ x → u3.heap[p]? = w4.heap[p]? := fun p hp hpx => (hb23.block p (by omega)).trans (hW2 p hpx)
            have hBB3 : Below (w.heap.size + 1) w0 u3 := hBB2.trans (hb23.mono (by have := hBB2.size; omega))
            have hs3 : w4.heap.size ≤ u3.heap.size := Nat.le_trans hs2 hb23.size
            have hb4' : Blk (u3.setCell ⟨x, 1, none⟩ (.int .i64 r)) x 65 #[.int .i64 s, .int .i64 r, .slice uo kb.length uc] := hb3.set_ 1 (.int .i64 r)
            have hW4 : ∀ p, p < w4.heap.size → p ≠ x → (u3.setCell ⟨x, 1, none⟩ (.int .i64 r)).heap[p]? = w4.heap[p]? := fun p hp hpx => (Below.heap_setCell u3 ⟨x, 1, none⟩ (.int .i64 r) p hpx).trans (hW3 p hp hpx)
            have hBB4 : Below (w.heap.size + 1) w0 (u3.setCell ⟨x, 1, none⟩ (.int .i64 r)) := hBB3.setCell (p := ⟨x, 1, none⟩) hxw _
            have hs4 : w4.heap.size ≤ (u3.setCell ⟨x, 1, none⟩ (.int .i64 r)).heap.size := by simp; omega
            have f1 := hb3.cell 1
            have ff := hb3.frozen 1
            have g4 := b0.below hBB4 (by omega)
            have g40 := g4.cell 0
            have g41 := g4.cell 1
            have g42 := g4.cell 2
            simp only [List.getElem?_toArray, List.getElem?_cons_zero, List.getElem?_cons_succ] at f1 g40 g41 g42
            have hv2 := HV1.out (u3.setCell ⟨x, 1, none⟩ (.int .i64 r)) r hBB4 hs4 hW4 hb4'
            rw [hfs] at hv2
            have HW4 := Lib.hid hW4
            have HB4' := Lib.hid hb4'
            have HBB4 := Lib.hid hBB4
            have HS4 := Lib.hid hs4
            clear hv hW2 hb2 hBB2 hs2 hb23 hb3 hW3 hBB3 hs3 hW4 hb4' hBB4 hs4 g4 e0 e2 e3 e4 fz d0 d1 d2
            go_wp2_with fail
            refine hv2.mono ?_
            rintro e u5 ⟨rfl, hb45⟩
            have hW5 : ∀ p, p < w4.heap.size → p ≠ x → u5.heap[p]? = w4.heap[p]? := fun p hp hpx => (hb45.block p (by have := HS4.out; omega)).trans (HW4.out p hp hpx)
            have hb5 : Blk u5 x 65 #[.int .i64 s, .int .i64 r, .slice uo kb.length uc] := HB4'.out.below hb45 HB4'.out.lt
            have hBB5 : Below (w.heap.size + 1) w0 u5 := HBB4.out.trans (hb45.mono (by have := HBB4.out.size; omega))
            have hs5 : w4.heap.size ≤ u5.heap.size := Nat.le_trans HS4.out hb45.size
            have hz5 := hBB5.size
            have hown5 : u5.ownsRow w3.heap.size 53 1 (.slice uo kb.length uc) kb.length (PV kb) := ownsRow_keep HXX.out.own (fun g hg e => hW5 g hg (fun e2 => by
              subst e2
              obtain ⟨_, cs, fz, ho⟩ := row_obj HXX.out.own g e
              exact absurd (blk_typ HXX.out.blk ho) (by decide)))
            have hown7 := (hown5.alloc (.cells #[.int .i64 0, .int .i64 (-1), .slice none 0 0] 65)).alloc (.cells #[.pointer (some ⟨u5.heap.size, 0, none⟩)] 53)
            have hnew7 := cell_one_new (u5.alloc (.cells #[.int .i64 0, .int .i64 (-1), .slice none 0 0] 65)) (.pointer (some ⟨u5.heap.size, 0, none⟩)) 53
            rw [World.size_alloc] at hnew7
            have hb7 := (hb5.alloc (.cells #[.int .i64 0, .int .i64 (-1), .slice none 0 0] 65)).alloc (.cells #[.pointer (some ⟨u5.heap.size, 0, none⟩)] 53)
            have hy7 := (Blk.new u5 65 #[.int .i64 0, .int .i64 (-1), .slice none 0 0]).alloc (.cells #[.pointer (some ⟨u5.heap.size, 0, none⟩)] 53)
            have hBB7 := (hBB5.alloc (by omega) (.cells #[.int .i64 0, .int .i64 (-1), .slice none 0 0] 65)).alloc (by rw [World.size_alloc]; omega) (.cells #[.pointer (some ⟨u5.heap.size, 0, none⟩)] 53)
            have hW7 : ∀ p, p < w4.heap.size → p ≠ x → ((u5.alloc (.cells #[.int .i64 0, .int .i64 (-1), .slice none 0 0] 65)).alloc (.cells #[.pointer (some ⟨u5.heap.size, 0, none⟩)] 53)).heap[p]? = w4.heap[p]? := fun p hp hpx => ((Below.heap_alloc _ _ p (by rw [World.size_alloc]; omega)).trans (Below.heap_alloc _ _ p (by omega))).trans (hW5 p hp hpx)
            have hs7 : ((u5.alloc (.cells #[.int .i64 0, .int .i64 (-1), .slice none 0 0] 65)).alloc (.cells #[.pointer (some ⟨u5.heap.size, 0, none⟩)] 53)).heap.size = u5.heap.size + 2 := by simp
            have k5 := hb5.cell 2
            simp only [List.getElem?_toArray, List.getElem?_cons_zero, List.getElem?_cons_succ] at k5
            have HO7 := Lib.hid hown7
            have HN7 := Lib.hid hnew7
            have HB7 := Lib.hid hb7
            have HY7 := Lib.hid hy7
            have HBB7 := Lib.hid hBB7
            have HW7 := Lib.hid hW7
            have HZ7 := Lib.hid hs7
            clear hW5 hb5 hBB5 hown5 hown7 hnew7 hb7 hy7 hBB7 hW7 hs7 hb45 hv2 f1 ff g40 g41 g42
            go_wp2_with (at_builtin; go_must (refine wpList_append_own _ rfl _ _ 63 rfl w3.heap.size 53 i0 (.pointer none) 1 8 Try.underlying63 hi0 hi1 hi2 hi3 rfl (by decide) _ _ _ rfl HO7.out ⟨u5.heap.size + 1, 0, none⟩ 1 1 [.pointer (some ⟨u5.heap.size, 0, none⟩)] rfl rfl HN7.out (by intro u hu; simp at hu; subst hu; rfl) (by unfold maxLen; omega) (by omega) (by have := HZ7.out; omega) ?_); intro v8 w8 hown8 hgrow _; obtain ⟨ao8, c8, rfl⟩ := own_len hown8; have hb8 : Blk w8 x 65 #[.int .i64 s, .int .i64 r, .slice uo kb.length uc] := HB7.out.grown hgrow (HB7.out.not_row (by decide) HO7.out); have k8 : w8.cell? ⟨x, 2, none⟩ = some (.slice uo kb.length uc) := (hb8.cell 2); have f8 : w8.frozen? ⟨x, 2, none⟩ = false := hb8.frozen 2; have hBB8 : Below (w.heap.size + 1) w0 w8 := HBB7.out.grown hgrow (by have := HZ7.out; omega) (fun q hq => by have := (HO7.out.lt q hq).1; omega); have hBB9 : Below (w.heap.size + 1) w0 (w8.setCell ⟨x, 2, none⟩ (.slice ao8 (kb.length + 1) c8)) := hBB8.setCell (p := ⟨x, 2, none⟩) hxw _; have g9 := b0.below hBB9 (by omega); have g90 := g9.cell 0; have g91 := g9.cell 1; have g92 := g9.cell 2; simp only [List.getElem?_toArray, List.getElem?_cons_zero, List.getElem?_cons_succ] at g90 g91 g92)
            have hb9 : Blk (w8.setCell ⟨x, 2, none⟩ (.slice ao8 (kb.length + 1) c8)) x 65 #[.int .i64 s, .int .i64 r, .slice ao8 (kb.length + 1) c8] := hb8.set_ 2 (.slice ao8 (kb.length + 1) c8)
            have hW9 : ∀ p, p < w4.heap.size → p ≠ x → Value.ownBlock (.slice uo kb.length uc) ≠ some p → (w8.setCell ⟨x, 2, none⟩ (.slice ao8 (kb.length + 1) c8)).heap[p]? = w4.heap[p]? := fun p hp hpx hpo => ((Below.heap_setCell w8 ⟨x, 2, none⟩ (.slice ao8 (kb.length + 1) c8) p hpx).trans (hgrow.block p (by have := HZ7.out; omega) (fun e => hpo e.symm))).trans (HW7.out p hp hpx)
            have hown9 : (w8.setCell ⟨x, 2, none⟩ (.slice ao8 (kb.length + 1) c8)).ownsRow 0 53 1 (.slice ao8 (kb.length + 1) c8) (kb.length + 1) (PV kb ++ [PtrV u5.heap.size]) := own_base' (own_grown hown8 (grown_set w8 ⟨x, 2, none⟩ (.slice ao8 (kb.length + 1) c8)) (.inr (hb8.not_row (by decide) hown8).symm)) (Nat.zero_le _)
            have hyx : u5.heap.size ≠ x := by omega
            have hy9 : Blk (w8.setCell ⟨x, 2, none⟩ (.slice ao8 (kb.length + 1) c8)) u5.heap.size 65 #[.int .i64 0, .int .i64 (-1), .slice none 0 0] := Blk.far (HY7.out.grown hgrow (HY7.out.not_row (by decide) HO7.out)) (p := ⟨x, 2, none⟩) hyx _
            have hv3 := HV3.out _ u5.heap.size (.slice ao8 (kb.length + 1) c8) hBB9 hW9 hb9 hown9 hy9
            have HBB9 := Lib.hid hBB9
            clear hb9 hBB8 hBB9 hW9 hown9 hy9 hb8 hown8 hgrow k8 f8 g9
            refine hv3.mono ?_
            rintro e ua ⟨rfl, hba⟩
            have hend := hbl.trans ((HBB9.out.trans (hba.mono (by have := HBB9.out.size; omega))).mono (by omega))
            clear hv3 g90 g91 g92 hba
            go_wp2
            go_ret
            exact ⟨rfl, hend⟩
          · have c2 : (to == -1) = false := by simpa using hto
            have hans : fitB tl R s to k.syms = false := HT2.out hs0 hto
            skip
            go_wp2
            go_quiet (fail)
            go_wp2_with fail
            have hv := HV1.out (((w4.drewN q).setCell ⟨x, 1, none⟩ (.int .i64 to)).drewN nq) to (below_drewN HBB.out nq) HSU.out (fun p _ hpx => HWU.out p hpx) HBU.out
            rw [hans] at hv
            have hW2 : ∀ p, p ≠ x → (((w4.drewN q).setCell ⟨x, 1, none⟩ (.int .i64 to)).drewN nq).heap[p]? = w4.heap[p]? := HWU.out
            have hb2 : Blk (((w4.drewN q).setCell ⟨x, 1, none⟩ (.int .i64 to)).drewN nq) x 65 #[.int .i64 s, .int .i64 to, .slice uo kb.length uc] := HBU.out
            have hBB2 : Below (w.heap.size + 1) w0 (((w4.drewN q).setCell ⟨x, 1, none⟩ (.int .i64 to)).drewN nq) := below_drewN HBB.out nq
            have hs2 : w4.heap.size ≤ (((w4.drewN q).setCell ⟨x, 1, none⟩ (.int .i64 to)).drewN nq).heap.size := HSU.out
            generalize ((w4.drewN q).setCell ⟨x, 1, none⟩ (.int .i64 to)).drewN nq = u2 at *
            refine hv.mono ?_
            rintro e u3 ⟨rfl, hb23⟩
            have hb3 : Blk u3 x 65 #[.int .i64 s, .int .i64 to, .slice uo kb.length uc] := hb2.below hb23 hb2.lt
            have hW3 : ∀ p, p < w4.heap.size → p ≠ x → u3.heap[p]? = w4.heap[p]? := fun p hp hpx => (hb23.block p (by omega)).trans (hW2 p hpx)
            have hBB3 : Below (w.heap.size + 1) w0 u3 := hBB2.trans (hb23.mono (by have := hBB2.size; omega))
            have hs3 : w4.heap.size ≤ u3.heap.size := Nat.le_trans hs2 hb23.size
            have hb4' : Blk (u3.setCell ⟨x, 1, none⟩ (.int .i64 r)) x 65 #[.int .i64 s, .int .i64 r, .slice uo kb.length uc] := hb3.set_ 1 (.int .i64 r)
            have hW4 : ∀ p, p < w4.heap.size → p ≠ x → (u3.setCell ⟨x, 1, none⟩ (.int .i64 r)).heap[p]? = w4.heap[p]? := fun p hp hpx => (Below.heap_setCell u3 ⟨x, 1, none⟩ (.int .i64 r) p hpx).trans (hW3 p hp hpx)
            have hBB4 : Below (w.heap.size + 1) w0 (u3.setCell ⟨x, 1, none⟩ (.int .i64 r)) := hBB3.setCell (p := ⟨x, 1, none⟩) hxw _
            have hs4 : w4.heap.size ≤ (u3.setCell ⟨x, 1, none⟩ (.int .i64 r)).heap.size := by simp; omega
            have f1 := hb3.cell 1
            have ff := hb3.frozen 1
            have g4 := b0.below hBB4 (by omega)
            have g40 := g4.cell 0
            have g41 := g4.cell 1
            have g42 := g4.cell 2
            simp only [List.getElem?_toArray, List.getElem?_cons_zero, List.getElem?_cons_succ] at f1 g40 g41 g42
            have hv2 := HV1.out (u3.setCell ⟨x, 1, none⟩ (.int .i64 r)) r hBB4 hs4 hW4 hb4'
            rw [hfs] at hv2
            have HW4 := Lib.hid hW4
            have HB4' := Lib.hid hb4'
            have HBB4 := Lib.hid hBB4
            have HS4 := Lib.hid hs4
            clear hv hW2 hb2 hBB2 hs2 hb23 hb3 hW3 hBB3 hs3 hW4 hb4' hBB4 hs4 g4 e0 e2 e3 e4 fz d0 d1 d2
            go_wp2_with fail
            refine hv2.mono ?_
            rintro e u5 ⟨rfl, hb45⟩
            have hW5 : ∀ p, p < w4.heap.size → p ≠ x → u5.heap[p]? = w4.heap[p]? := fun p hp hpx => (hb45.block p (by have := HS4.out; omega)).trans (HW4.out p hp hpx)
            have hb5 : Blk u5 x 65 #[.int .i64 s, .int .i64 r, .slice uo kb.length uc] := HB4'.out.below hb45 HB4'.out.lt
            have hBB5 : Below (w.heap.size + 1) w0 u5 := HBB4.out.trans (hb45.mono (by have := HBB4.out.size; omega))
            have hs5 : w4.heap.size ≤ u5.heap.size := Nat.le_trans HS4.out hb45.size
            have hz5 := hBB5.size
            have hown5 : u5.ownsRow w3.heap.size 53 1 (.slice uo kb.length uc) kb.length (PV kb) := ownsRow_keep HXX.out.own (fun g hg e => hW5 g hg (fun e2 => by
              subst e2
              obtain ⟨_, cs, fz, ho⟩ := row_obj HXX.out.own g e
              exact absurd (blk_typ HXX.out.blk ho) (by decide)))
            have hown7 := (hown5.alloc (.cells #[.int .i64 0, .int .i64 (-1), .slice none 0 0] 65)).alloc (.cells #[.pointer (some ⟨u5.heap.size, 0, none⟩)] 53)
            have hnew7 := cell_one_new (u5.alloc (.cells #[.int .i64 0, .int .i64 (-1), .slice none 0 0] 65)) (.pointer (some ⟨u5.heap.size, 0, none⟩)) 53
            rw [World.size_alloc] at hnew7
            have hb7 := (hb5.alloc (.cells #[.int .i64 0, .int .i64 (-1), .slice none 0 0] 65)).alloc (.cells #[.pointer (some ⟨u5.heap.size, 0, none⟩)] 53)
            have hy7 := (Blk.new u5 65 #[.int .i64 0, .int .i64 (-1), .slice none 0 0]).alloc (.cells #[.pointer (some ⟨u5.heap.size, 0, none⟩)] 53)
            have hBB7 := (hBB5.alloc (by omega) (.cells #[.int .i64 0, .int .i64 (-1), .slice none 0 0] 65)).alloc (by rw [World.size_alloc]; omega) (.cells #[.pointer (some ⟨u5.heap.size, 0, none⟩)] 53)
            have hW7 : ∀ p, p < w4.heap.size → p ≠ x → ((u5.alloc (.cells #[.int .i64 0, .int .i64 (-1), .slice none 0 0] 65)).alloc (.cells #[.pointer (some ⟨u5.heap.size, 0, none⟩)] 53)).heap[p]? = w4.heap[p]? := fun p hp hpx => ((Below.heap_alloc _ _ p (by rw [World.size_alloc]; omega)).trans (Below.heap_alloc _ _ p (by omega))).trans (hW5 p hp hpx)
            have hs7 : ((u5.alloc (.cells #[.int .i64 0, .int .i64 (-1), .slice none 0 0] 65)).alloc (.cells #[.pointer (some ⟨u5.heap.size, 0, none⟩)] 53)).heap.size = u5.heap.size + 2 := by simp
            have k5 := hb5.cell 2
            simp only [List.getElem?_toArray, List.getElem?_cons_zero, List.getElem?_cons_succ] at k5
            have HO7 := Lib.hid hown7
            have HN7 := Lib.hid hnew7
            have HB7 := Lib.hid hb7
            have HY7 := Lib.hid hy7
            have HBB7 := Lib.hid hBB7
            have HW7 := Lib.hid hW7
            have HZ7 := Lib.hid hs7
            clear hW5 hb5 hBB5 hown5 hown7 hnew7 hb7 hy7 hBB7 hW7 hs7 hb45 hv2 f1 ff g40 g41 g42
            go_wp2_with (at_builtin; go_must (refine wpList_append_own _ rfl _ _ 63 rfl w3.heap.size 53 i0 (.pointer none) 1 8 Try.underlying63 hi0 hi1 hi2 hi3 rfl (by decide) _ _ _ rfl HO7.out ⟨u5.heap.size + 1, 0, none⟩ 1 1 [.pointer (some ⟨u5.heap.size, 0, none⟩)] rfl rfl HN7.out (by intro u hu; simp at hu; subst hu; rfl) (by unfold maxLen; omega) (by omega) (by have := HZ7.out; omega) ?_); intro v8 w8 hown8 hgrow _; obtain ⟨ao8, c8, rfl⟩ := own_len hown8; have hb8 : Blk w8 x 65 #[.int .i64 s, .int .i64 r, .slice uo kb.length uc] := HB7.out.grown hgrow (HB7.out.not_row (by decide) HO7.out); have k8 : w8.cell? ⟨x, 2, none⟩ = some (.slice uo kb.length uc) := (hb8.cell 2); have f8 : w8.frozen? ⟨x, 2, none⟩ = false := hb8.frozen 2; have hBB8 : Below (w.heap.size + 1) w0 w8 := HBB7.out.grown hgrow (by have := HZ7.out; omega) (fun q hq => by have := (HO7.out.lt q hq).1; omega); have hBB9 : Below (w.heap.size + 1) w0 (w8.setCell ⟨x, 2, none⟩ (.slice ao8 (kb.length + 1) c8)) := hBB8.setCell (p := ⟨x, 2, none⟩) hxw _; have g9 := b0.below hBB9 (by omega); have g90 := g9.cell 0; have g91 := g9.cell 1; have g92 := g9.cell 2; simp only [List.getElem?_toArray, List.getElem?_cons_zero, List.getElem?_cons_succ] at g90 g91 g92)
            have hb9 : Blk (w8.setCell ⟨x, 2, none⟩ (.slice ao8 (kb.length + 1) c8)) x 65 #[.int .i64 s, .int .i64 r, .slice ao8 (kb.length + 1) c8] := hb8.set_ 2 (.slice ao8 (kb.length + 1) c8)
            have hW9 : ∀ p, p < w4.heap.size → p ≠ x → Value.ownBlock (.slice uo kb.length uc) ≠ some p → (w8.setCell ⟨x, 2, none⟩ (.slice ao8 (kb.length + 1) c8)).heap[p]? = w4.heap[p]? := fun p hp hpx hpo => ((Below.heap_setCell w8 ⟨x, 2, none⟩ (.slice ao8 (kb.length + 1) c8) p hpx).trans (hgrow.block p (by have := HZ7.out; omega) (fun e => hpo e.symm))).trans (HW7.out p hp hpx)
            have hown9 : (w8.setCell ⟨x, 2, none⟩ (.slice ao8 (kb.length + 1) c8)).ownsRow 0 53 1 (.slice ao8 (kb.length + 1) c8) (kb.length + 1) (PV kb ++ [PtrV u5.heap.size]) := own_base' (own_grown hown8 (grown_set w8 ⟨x, 2, none⟩ (.slice ao8 (kb.length + 1) c8)) (.inr (hb8.not_row (by decide) hown8).symm)) (Nat.zero_le _)
            have hyx : u5.heap.size ≠ x := by omega
            have hy9 : Blk (w8.setCell ⟨x, 2, none⟩ (.slice ao8 (kb.length + 1) c8)) u5.heap.size 65 #[.int .i64 0, .int .i64 (-1), .slice none 0 0] := Blk.far (HY7.out.grown hgrow (HY7.out.not_row (by decide) HO7.out)) (p := ⟨x, 2, none⟩) hyx _
            have hv3 := HV3.out _ u5.heap.size (.slice ao8 (kb.length + 1) c8) hBB9 hW9 hb9 hown9 hy9
            have HBB9 := Lib.hid hBB9
            clear hb9 hBB8 hBB9 hW9 hown9 hy9 hb8 hown8 hgrow k8 f8 g9
            refine hv3.mono ?_
            rintro e ua ⟨rfl, hba⟩
            have hend := hbl.trans ((HBB9.out.trans (hba.mono (by have := HBB9.out.size; omega))).mono (by omega))
            clear hv3 g90 g91 g92 hba
            go_wp2
            go_ret
            exact ⟨rfl, hend⟩
        · have c3 : decide ((0 : Int) ≤ s) = true := decide_eq_true (by omega)
          by_cases ht0 : to < 0
          · have c4 : decide ((0 : Int) ≤ to) = false := decide_eq_false (by omega)
            have hans : fitB tl R s to k.syms = false := HT3.out (by omega) (.inl ht0)
            skip
            go_wp2
            go_quiet (fail)
            go_wp2_with fail
            have hv := HV1.out (((w4.drewN q).setCell ⟨x, 1, none⟩ (.int .i64 to)).drewN nq) to (below_drewN HBB.out nq) HSU.out (fun p _ hpx => HWU.out p hpx) HBU.out
            rw [hans] at hv
            have hW2 : ∀ p, p ≠ x → (((w4.drewN q).setCell ⟨x, 1, none⟩ (.int .i64 to)).drewN nq).heap[p]? = w4.heap[p]? := HWU.out
            have hb2 : Blk (((w4.drewN q).setCell ⟨x, 1, none⟩ (.int .i64 to)).drewN nq) x 65 #[.int .i64 s, .int .i64 to, .slice uo kb.length uc] := HBU.out
            have hBB2 : Below (w.heap.size + 1) w0 (((w4.drewN q).setCell ⟨x, 1, none⟩ (.int .i64 to)).drewN nq) := below_drewN HBB.out nq
            have hs2 : w4.heap.size ≤ (((w4.drewN q).setCell ⟨x, 1, none⟩ (.int .i64 to)).drewN nq).heap.size := HSU.out
            generalize ((w4.drewN q).setCell ⟨x, 1, none⟩ (.int .i64 to)).drewN nq = u2 at *
            refine hv.mono ?_
            rintro e u3 ⟨rfl, hb23⟩
            have hb3 : Blk u3 x 65 #[.int .i64 s, .int .i64 to, .slice uo kb.length uc] := hb2.below hb23 hb2.lt
            have hW3 : ∀ p, p < w4.heap.size → p ≠ x → u3.heap[p]? = w4.heap[p]? := fun p hp hpx => (hb23.block p (by omega)).trans (hW2 p hpx)
            have hBB3 : Below (w.heap.size + 1) w0 u3 := hBB2.trans (hb23.mono (by have := hBB2.size; omega))
            have hs3 : w4.heap.size ≤ u3.heap.size := Nat.le_trans hs2 hb23.size
            have hb4' : Blk (u3.setCell ⟨x, 1, none⟩ (.int .i64 r)) x 65 #[.int .i64 s, .int .i64 r, .slice uo kb.length uc] := hb3.set_ 1 (.int .i64 r)
            have hW4 : ∀ p, p < w4.heap.size → p ≠ x → (u3.setCell ⟨x, 1, none⟩ (.int .i64 r)).heap[p]? = w4.heap[p]? := fun p hp hpx => (Below.heap_setCell u3 ⟨x, 1, none⟩ (.int .i64 r) p hpx).trans (hW3 p hp hpx)
            have hBB4 : Below (w.heap.size + 1) w0 (u3.setCell ⟨x, 1, none⟩ (.int .i64 r)) := hBB3.setCell (p := ⟨x, 1, none⟩) hxw _
            have hs4 : w4.heap.size ≤ (u3.setCell ⟨x, 1, none⟩ (.int .i64 r)).heap.size := by simp; omega
            have f1 := hb3.cell 1
            have ff := hb3.frozen 1
            have g4 := b0.below hBB4 (by omega)
            have g40 := g4.cell 0
            have g41 := g4.cell 1
            have g42 := g4.cell 2
            simp only [List.getElem?_toArray, List.getElem?_cons_zero, List.getElem?_cons_succ] at f1 g40 g41 g42
            have hv2 := HV1.out (u3.setCell ⟨x, 1, none⟩ (.int .i64 r)) r hBB4 hs4 hW4 hb4'
            rw [hfs] at hv2
            have HW4 := Lib.hid hW4
            have HB4' := Lib.hid hb4'
            have HBB4 := Lib.hid hBB4
            have HS4 := Lib.hid hs4
            clear hv hW2 hb2 hBB2 hs2 hb23 hb3 hW3 hBB3 hs3 hW4 hb4' hBB4 hs4 g4 e0 e2 e3 e4 fz d0 d1 d2
            go_wp2_with fail
            refine hv2.mono ?_
            rintro e u5 ⟨rfl, hb45⟩
            have hW5 : ∀ p, p < w4.heap.size → p ≠ x → u5.heap[p]? = w4.heap[p]? := fun p hp hpx => (hb45.block p (by have := HS4.out; omega)).trans (HW4.out p hp hpx)
            have hb5 : Blk u5 x 65 #[.int .i64 s, .int .i64 r, .slice uo kb.length uc] := HB4'.out.below hb45 HB4'.out.lt
            have hBB5 : Below (w.heap.size + 1) w0 u5 := HBB4.out.trans (hb45.mono (by have := HBB4.out.size; omega))
            have hs5 : w4.heap.size ≤ u5.heap.size := Nat.le_trans HS4.out hb45.size
            have hz5 := hBB5.size
            have hown5 : u5.ownsRow w3.heap.size 53 1 (.slice uo kb.length uc) kb.length (PV kb) := ownsRow_keep HXX.out.own (fun g hg e => hW5 g hg (fun e2 => by
              subst e2
              obtain ⟨_, cs, fz, ho⟩ := row_obj HXX.out.own g e
              exact absurd (blk_typ HXX.out.blk ho) (by decide)))
            have hown7 := (hown5.alloc (.cells #[.int .i64 0, .int .i64 (-1), .slice none 0 0] 65)).alloc (.cells #[.pointer (some ⟨u5.heap.size, 0, none⟩)] 53)
            have hnew7 := cell_one_new (u5.alloc (.cells #[.int .i64 0, .int .i64 (-1), .slice none 0 0] 65)) (.pointer (some ⟨u5.heap.size, 0, none⟩)) 53
            rw [World.size_alloc] at hnew7
            have hb7 := (hb5.alloc (.cells #[.int .i64 0, .int .i64 (-1), .slice none 0 0] 65)).alloc (.cells #[.pointer (some ⟨u5.heap.size, 0, none⟩)] 53)
            have hy7 := (Blk.new u5 65 #[.int .i64 0, .int .i64 (-1), .slice none 0 0]).alloc (.cells #[.pointer (some ⟨u5.heap.size, 0, none⟩)] 53)
            have hBB7 := (hBB5.alloc (by omega) (.cells #[.int .i64 0, .int .i64 (-1), .slice none 0 0] 65)).alloc (by rw [World.size_alloc]; omega) (.cells #[.pointer (some ⟨u5.heap.size, 0, none⟩)] 53)
            have hW7 : ∀ p, p < w4.heap.size → p ≠ x → ((u5.alloc (.cells #[.int .i64 0, .int .i64 (-1), .slice none 0 0] 65)).alloc (.cells #[.pointer (some ⟨u5.heap.size, 0, none⟩)] 53)).heap[p]? = w4.heap[p]? := fun p hp hpx => ((Below.heap_alloc _ _ p (by rw [World.size_alloc]; omega)).trans (Below.heap_alloc _ _ p (by omega))).trans (hW5 p hp hpx)
            have hs7 : ((u5.alloc (.cells #[.int .i64 0, .int .i64 (-1), .slice none 0 0] 65)).alloc (.cells #[.pointer (some ⟨u5.heap.size, 0, none⟩)] 53)).heap.size = u5.heap.size + 2 := by simp
            have k5 := hb5.cell 2
            simp only [List.getElem?_toArray, List.getElem?_cons_zero, List.getElem?_cons_succ] at k5
            have HO7 := Lib.hid hown7
            have HN7 := Lib.hid hnew7
            have HB7 := Lib.hid hb7
            have HY7 := Lib.hid hy7
            have HBB7 := Lib.hid hBB7
            have HW7 := Lib.hid hW7
            have HZ7 := Lib.hid hs7
            clear hW5 hb5 hBB5 hown5 hown7 hnew7 hb7 hy7 hBB7 hW7 hs7 hb45 hv2 f1 ff g40 g41 g42
            go_wp2_with (at_builtin; go_must (refine wpList_append_own _ rfl _ _ 63 rfl w3.heap.size 53 i0 (.pointer none) 1 8 Try.underlying63 hi0 hi1 hi2 hi3 rfl (by decide) _ _ _ rfl HO7.out ⟨u5.heap.size + 1, 0, none⟩ 1 1 [.pointer (some ⟨u5.heap.size, 0, none⟩)] rfl rfl HN7.out (by intro u hu; simp at hu; subst hu; rfl) (by unfold maxLen; omega) (by omega) (by have := HZ7.out; omega) ?_); intro v8 w8 hown8 hgrow _; obtain ⟨ao8, c8, rfl⟩ := own_len hown8; have hb8 : Blk w8 x 65 #[.int .i64 s, .int .i64 r, .slice uo kb.length uc] := HB7.out.grown hgrow (HB7.out.not_row (by decide) HO7.out); have k8 : w8.cell? ⟨x, 2, none⟩ = some (.slice uo kb.length uc) := (hb8.cell 2); have f8 : w8.frozen? ⟨x, 2, none⟩ = false := hb8.frozen 2; have hBB8 : Below (w.heap.size + 1) w0 w8 := HBB7.out.grown hgrow (by have := HZ7.out; omega) (fun q hq => by have := (HO7.out.lt q hq).1; omega); have hBB9 : Below (w.heap.size + 1) w0 (w8.setCell ⟨x, 2, none⟩ (.slice ao8 (kb.length + 1) c8)) := hBB8.setCell (p := ⟨x, 2, none⟩) hxw _; have g9 := b0.below hBB9 (by omega); have g90 := g9.cell 0; have g91 := g9.cell 1; have g92 := g9.cell 2; simp only [List.getElem?_toArray, List.getElem?_cons_zero, List.getElem?_cons_succ] at g90 g91 g92)
            have hb9 : Blk (w8.setCell ⟨x, 2, none⟩ (.slice ao8 (kb.length + 1) c8)) x 65 #[.int .i64 s, .int .i64 r, .slice ao8 (kb.length + 1) c8] := hb8.set_ 2 (.slice ao8 (kb.length + 1) c8)
            have hW9 : ∀ p, p < w4.heap.size → p ≠ x → Value.ownBlock (.slice uo kb.length uc) ≠ some p → (w8.setCell ⟨x, 2, none⟩ (.slice ao8 (kb.length + 1) c8)).heap[p]? = w4.heap[p]? := fun p hp hpx hpo => ((Below.heap_setCell w8 ⟨x, 2, none⟩ (.slice ao8 (kb.length + 1) c8) p hpx).trans (hgrow.block p (by have := HZ7.out; omega) (fun e => hpo e.symm))).trans (HW7.out p hp hpx)
            have hown9 : (w8.setCell ⟨x, 2, none⟩ (.slice ao8 (kb.length + 1) c8)).ownsRow 0 53 1 (.slice ao8 (kb.length + 1) c8) (kb.length + 1) (PV kb ++ [PtrV u5.heap.size]) := own_base' (own_grown hown8 (grown_set w8 ⟨x, 2, none⟩ (.slice ao8 (kb.length + 1) c8)) (.inr (hb8.not_row (by decide) hown8).symm)) (Nat.zero_le _)
            have hyx : u5.heap.size ≠ x := by omega
            have hy9 : Blk (w8.setCell ⟨x, 2, none⟩ (.slice ao8 (kb.length + 1) c8)) u5.heap.size 65 #[.int .i64 0, .int .i64 (-1), .slice none 0 0] := Blk.far (HY7.out.grown hgrow (HY7.out.not_row (by decide) HO7.out)) (p := ⟨x, 2, none⟩) hyx _
            have hv3 := HV3.out _ u5.heap.size (.slice ao8 (kb.length + 1) c8) hBB9 hW9 hb9 hown9 hy9
            have HBB9 := Lib.hid hBB9
            clear hb9 hBB8 hBB9 hW9 hown9 hy9 hb8 hown8 hgrow k8 f8 g9
            refine hv3.mono ?_
            rintro e ua ⟨rfl, hba⟩
            have hend := hbl.trans ((HBB9.out.trans (hba.mono (by have := HBB9.out.size; omega))).mono (by omega))
            clear hv3 g90 g91 g92 hba
            go_wp2
            go_ret
            exact ⟨rfl, hend⟩
          by_cases htl : (R.length : Int) ≤ to
          · have c5 : decide (to < (R.length : Int)) = false := decide_eq_false (by omega)
            have hans : fitB tl R s to k.syms = false := HT3.out (by omega) (.inr htl)
            skip
            go_wp2
            go_quiet (fail)
            go_wp2_with fail
            have hv := HV1.out (((w4.drewN q).setCell ⟨x, 1, none⟩ (.int .i64 to)).drewN nq) to (below_drewN HBB.out nq) HSU.out (fun p _ hpx => HWU.out p hpx) HBU.out
            rw [hans] at hv
            have hW2 : ∀ p, p ≠ x → (((w4.drewN q).setCell ⟨x, 1, none⟩ (.int .i64 to)).drewN nq).heap[p]? = w4.heap[p]? := HWU.out
            have hb2 : Blk (((w4.drewN q).setCell ⟨x, 1, none⟩ (.int .i64 to)).drewN nq) x 65 #[.int .i64 s, .int .i64 to, .slice uo kb.length uc] := HBU.out
            have hBB2 : Below (w.heap.size + 1) w0 (((w4.drewN q).setCell ⟨x, 1, none⟩ (.int .i64 to)).drewN nq) := below_drewN HBB.out nq
            have hs2 : w4.heap.size ≤ (((w4.drewN q).setCell ⟨x, 1, none⟩ (.int .i64 to)).drewN nq).heap.size := HSU.out
            generalize ((w4.drewN q).setCell ⟨x, 1, none⟩ (.int .i64 to)).drewN nq = u2 at *
            refine hv.mono ?_
            rintro e u3 ⟨rfl, hb23⟩
            have hb3 : Blk u3 x 65 #[.int .i64 s, .int .i64 to, .slice uo kb.length uc] := hb2.below hb23 hb2.lt
            have hW3 : ∀ p, p < w4.heap.size → p ≠ x → u3.heap[p]? = w4.heap[p]? := fun p hp hpx => (hb23.block p (by omega)).trans (hW2 p hpx)
            have hBB3 : Below (w.heap.size + 1) w0 u3 := hBB2.trans (hb23.mono (by have := hBB2.size; omega))
            have hs3 : w4.heap.size ≤ u3.heap.size := Nat.le_trans hs2 hb23.size
            have hb4' : Blk (u3.setCell ⟨x, 1, none⟩ (.int .i64 r)) x 65 #[.int .i64 s, .int .i64 r, .slice uo kb.length uc] := hb3.set_ 1 (.int .i64 r)
            have hW4 : ∀ p, p < w4.heap.size → p ≠ x → (u3.setCell ⟨x, 1, none⟩ (.int .i64 r)).heap[p]? = w4.heap[p]? := fun p hp hpx => (Below.heap_setCell u3 ⟨x, 1, none⟩ (.int .i64 r) p hpx).trans (hW3 p hp hpx)
            have hBB4 : Below (w.heap.size + 1) w0 (u3.setCell ⟨x, 1, none⟩ (.int .i64 r)) := hBB3.setCell (p := ⟨x, 1, none⟩) hxw _
            have hs4 : w4.heap.size ≤ (u3.setCell ⟨x, 1, none⟩ (.int .i64 r)).heap.size := by simp; omega
            have f1 := hb3.cell 1
            have ff := hb3.frozen 1
            have g4 := b0.below hBB4 (by omega)
            have g40 := g4.cell 0
            have g41 := g4.cell 1
            have g42 := g4.cell 2
            simp only [List.getElem?_toArray, List.getElem?_cons_zero, List.getElem?_cons_succ] at f1 g40 g41 g42
            have hv2 := HV1.out (u3.setCell ⟨x, 1, none⟩ (.int .i64 r)) r hBB4 hs4 hW4 hb4'
            rw [hfs] at hv2
            have HW4 := Lib.hid hW4
            have HB4' := Lib.hid hb4'
            have HBB4 := Lib.hid hBB4
            have HS4 := Lib.hid hs4
            clear hv hW2 hb2 hBB2 hs2 hb23 hb3 hW3 hBB3 hs3 hW4 hb4' hBB4 hs4 g4 e0 e2 e3 e4 fz d0 d1 d2
            go_wp2_with fail
            refine hv2.mono ?_
            rintro e u5 ⟨rfl, hb45⟩
            have hW5 : ∀ p, p < w4.heap.size → p ≠ x → u5.heap[p]? = w4.heap[p]? := fun p hp hpx => (hb45.block p (by have := HS4.out; omega)).trans (HW4.out p hp hpx)
            have hb5 : Blk u5 x 65 #[.int .i64 s, .int .i64 r, .slice uo kb.length uc] := HB4'.out.below hb45 HB4'.out.lt
            have hBB5 : Below (w.heap.size + 1) w0 u5 := HBB4.out.trans (hb45.mono (by have := HBB4.out.size; omega))
            have hs5 : w4.heap.size ≤ u5.heap.size := Nat.le_trans HS4.out hb45.size
            have hz5 := hBB5.size
            have hown5 : u5.ownsRow w3.heap.size 53 1 (.slice uo kb.length uc) kb.length (PV kb) := ownsRow_keep HXX.out.own (fun g hg e => hW5 g hg (fun e2 => by
              subst e2
              obtain ⟨_, cs, fz, ho⟩ := row_obj HXX.out.own g e
              exact absurd (blk_typ HXX.out.blk ho) (by decide)))
            have hown7 := (hown5.alloc (.cells #[.int .i64 0, .int .i64 (-1), .slice none 0 0] 65)).alloc (.cells #[.pointer (some ⟨u5.heap.size, 0, none⟩)] 53)
            have hnew7 := cell_one_new (u5.alloc (.cells #[.int .i64 0, .int .i64 (-1), .slice none 0 0] 65)) (.pointer (some ⟨u5.heap.size, 0, none⟩)) 53
            rw [World.size_alloc] at hnew7
            have hb7 := (hb5.alloc (.cells #[.int .i64 0, .int .i64 (-1), .slice none 0 0] 65)).alloc (.cells #[.pointer (some ⟨u5.heap.size, 0, none⟩)] 53)
            have hy7 := (Blk.new u5 65 #[.int .i64 0, .int .i64 (-1), .slice none 0 0]).alloc (.cells #[.pointer (some ⟨u5.heap.size, 0, none⟩)] 53)
            have hBB7 := (hBB5.alloc (by omega) (.cells #[.int .i64 0, .int .i64 (-1), .slice none 0 0] 65)).alloc (by rw [World.size_alloc]; omega) (.cells #[.pointer (some ⟨u5.heap.size, 0, none⟩)] 53)
            have hW7 : ∀ p, p < w4.heap.size → p ≠ x → ((u5.alloc (.cells #[.int .i64 0, .int .i64 (-1), .slice none 0 0] 65)).alloc (.cells #[.pointer (some ⟨u5.heap.size, 0, none⟩)] 53)).heap[p]? = w4.heap[p]? := fun p hp hpx => ((Below.heap_alloc _ _ p (by rw [World.size_alloc]; omega)).trans (Below.heap_alloc _ _ p (by omega))).trans (hW5 p hp hpx)
            have hs7 : ((u5.alloc (.cells #[.int .i64 0, .int .i64 (-1), .slice none 0 0] 65)).alloc (.cells #[.pointer (some ⟨u5.heap.size, 0, none⟩)] 53)).heap.size = u5.heap.size + 2 := by simp
            have k5 := hb5.cell 2
            simp only [List.getElem?_toArray, List.getElem?_cons_zero, List.getElem?_cons_succ] at k5
            have HO7 := Lib.hid hown7
            have HN7 := Lib.hid hnew7
            have HB7 := Lib.hid hb7
            have HY7 := Lib.hid hy7
            have HBB7 := Lib.hid hBB7
            have HW7 := Lib.hid hW7
            have HZ7 := Lib.hid hs7
            clear hW5 hb5 hBB5 hown5 hown7 hnew7 hb7 hy7 hBB7 hW7 hs7 hb45 hv2 f1 ff g40 g41 g42
            go_wp2_with (at_builtin; go_must (refine wpList_append_own _ rfl _ _ 63 rfl w3.heap.size 53 i0 (.pointer none) 1 8 Try.underlying63 hi0 hi1 hi2 hi3 rfl (by decide) _ _ _ rfl HO7.out ⟨u5.heap.size + 1, 0, none⟩ 1 1 [.pointer (some ⟨u5.heap.size, 0, none⟩)] rfl rfl HN7.out (by intro u hu; simp at hu; subst hu; rfl) (by unfold maxLen; omega) (by omega) (by have := HZ7.out; omega) ?_); intro v8 w8 hown8 hgrow _; obtain ⟨ao8, c8, rfl⟩ := own_len hown8; have hb8 : Blk w8 x 65 #[.int .i64 s, .int .i64 r, .slice uo kb.length uc] := HB7.out.grown hgrow (HB7.out.not_row (by decide) HO7.out); have k8 : w8.cell? ⟨x, 2, none⟩ = some (.slice uo kb.length uc) := (hb8.cell 2); have f8 : w8.frozen? ⟨x, 2, none⟩ = false := hb8.frozen 2; have hBB8 : Below (w.heap.size + 1) w0 w8 := HBB7.out.grown hgrow (by have := HZ7.out; omega) (fun q hq => by have := (HO7.out.lt q hq).1; omega); have hBB9 : Below (w.heap.size + 1) w0 (w8.setCell ⟨x, 2, none⟩ (.slice ao8 (kb.length + 1) c8)) := hBB8.setCell (p := ⟨x, 2, none⟩) hxw _; have g9 := b0.below hBB9 (by omega); have g90 := g9.cell 0; have g91 := g9.cell 1; have g92 := g9.cell 2; simp only [List.getElem?_toArray, List.getElem?_cons_zero, List.getElem?_cons_succ] at g90 g91 g92)
            have hb9 : Blk (w8.setCell ⟨x, 2, none⟩ (.slice ao8 (kb.length + 1) c8)) x 65 #[.int .i64 s, .int .i64 r, .slice ao8 (kb.length + 1) c8] := hb8.set_ 2 (.slice ao8 (kb.length + 1) c8)
            have hW9 : ∀ p, p < w4.heap.size → p ≠ x → Value.ownBlock (.slice uo kb.length uc) ≠ some p → (w8.setCell ⟨x, 2, none⟩ (.slice ao8 (kb.length + 1) c8)).heap[p]? = w4.heap[p]? := fun p hp hpx hpo => ((Below.heap_setCell w8 ⟨x, 2, none⟩ (.slice ao8 (kb.length + 1) c8) p hpx).trans (hgrow.block p (by have := HZ7.out; omega) (fun e => hpo e.symm))).trans (HW7.out p hp hpx)
            have hown9 : (w8.setCell ⟨x, 2, none⟩ (.slice ao8 (kb.length + 1) c8)).ownsRow 0 53 1 (.slice ao8 (kb.length + 1) c8) (kb.length + 1) (PV kb ++ [PtrV u5.heap.size]) := own_base' (own_grown hown8 (grown_set w8 ⟨x, 2, none⟩ (.slice ao8 (kb.length + 1) c8)) (.inr (hb8.not_row (by decide) hown8).symm)) (Nat.zero_le _)
            have hyx : u5.heap.size ≠ x := by omega
            have hy9 : Blk (w8.setCell ⟨x, 2, none⟩ (.slice ao8 (kb.length + 1) c8)) u5.heap.size 65 #[.int .i64 0, .int .i64 (-1), .slice none 0 0] := Blk.far (HY7.out.grown hgrow (HY7.out.not_row (by decide) HO7.out)) (p := ⟨x, 2, none⟩) hyx _
            have hv3 := HV3.out _ u5.heap.size (.slice ao8 (kb.length + 1) c8) hBB9 hW9 hb9 hown9 hy9
            have HBB9 := Lib.hid hBB9
            clear hb9 hBB8 hBB9 hW9 hown9 hy9 hb8 hown8 hgrow k8 f8 g9
            refine hv3.mono ?_
            rintro e ua ⟨rfl, hba⟩
            have hend := hbl.trans ((HBB9.out.trans (hba.mono (by have := HBB9.out.size; omega))).mono (by omega))
            clear hv3 g90 g91 g92 hba
            go_wp2
            go_ret
            exact ⟨rfl, hend⟩
          obtain ⟨tn, htn⟩ : ∃ tn : Nat, to = (tn : Int) := ⟨to.toNat, by omega⟩
          have htlt : tn < R.length := by omega
          obtain ⟨a, rl, so, sc, rfl, hab, hrk, q0, q1, q2, hq1, hq2, hq3, hru, hq5, hq6⟩ := HRU.out.at tn htlt
          have qq : ((w4.drewN q).setCell ⟨x, 1, none⟩ (.int .i64 to)).cell? (a.add (tn * 3)) = some (.int .i64 rl.left) := (cell_same (p := a.add (tn * 3)) (by rw [add_block]; exact (HWU.out a.block (by omega)).trans (HW04.out a.block (by omega)))).trans q0
          subst htn
          have htl2 : (tn : Int) < (R.length : Int) := by omega
          have hab2 : a.block < w.heap.size := hab
          clear q0 q1 q2 hru hq5 hq6 hq1 hq2 hq3
          by_cases hle : rl.left = s
          · have c6 : (rl.left == s) = true := by simpa using hle
            by_cases hxr : (tn : Int) = r
            · have c7 : ((tn : Int) == r) = true := by simpa using hxr
              have hans : fitB tl R s (tn : Int) k.syms = true := by rw [hxr]; exact hfs
              have HXR := Lib.hid hxr
              have HLE := Lib.hid hle
              clear hxr hle
              skip
              go_wp2
              go_quiet (fail)
              go_wp2_with fail
              have hv := HV1.out (((w4.drewN q).setCell ⟨x, 1, none⟩ (.int .i64 (tn : Int))).drewN nq) (tn : Int) (below_drewN HBB.out nq) HSU.out (fun p _ hpx => HWU.out p hpx) HBU.out
              rw [hans] at hv
              have hW2 : ∀ p, p ≠ x → (((w4.drewN q).setCell ⟨x, 1, none⟩ (.int .i64 (tn : Int))).drewN nq).heap[p]? = w4.heap[p]? := HWU.out
              have hb2 : Blk (((w4.drewN q).setCell ⟨x, 1, none⟩ (.int .i64 (tn : Int))).drewN nq) x 65 #[.int .i64 s, .int .i64 (tn : Int), .slice uo kb.length uc] := HBU.out
              have hBB2 : Below (w.heap.size + 1) w0 (((w4.drewN q).setCell ⟨x, 1, none⟩ (.int .i64 (tn : Int))).drewN nq) := below_drewN HBB.out nq
              have hs2 : w4.heap.size ≤ (((w4.drewN q).setCell ⟨x, 1, none⟩ (.int .i64 (tn : Int))).drewN nq).heap.size := HSU.out
              generalize ((w4.drewN q).setCell ⟨x, 1, none⟩ (.int .i64 (tn : Int))).drewN nq = u2 at *
              refine hv.mono ?_
              rintro e u3 ⟨rfl, hb23⟩
              have hb3 : Blk u3 x 65 #[.int .i64 s, .int .i64 (tn : Int), .slice uo kb.length uc] := hb2.below hb23 hb2.lt
              have hW3 : ∀ p, p < w4.heap.size → p ≠ x → u3.heap[p]? = w4.heap[p]? := fun p hp hpx => (hb23.block p (by omega)).trans (hW2 p hpx)
              have hBB3 : Below (w.heap.size + 1) w0 u3 := hBB2.trans (hb23.mono (by have := hBB2.size; omega))
              have hs3 : w4.heap.size ≤ u3.heap.size := Nat.le_trans hs2 hb23.size
              have hb4' : Blk (u3.setCell ⟨x, 1, none⟩ (.int .i64 r)) x 65 #[.int .i64 s, .int .i64 r, .slice uo kb.length uc] := hb3.set_ 1 (.int .i64 r)
              have hW4 : ∀ p, p < w4.heap.size → p ≠ x → (u3.setCell ⟨x, 1, none⟩ (.int .i64 r)).heap[p]? = w4.heap[p]? := fun p hp hpx => (Below.heap_setCell u3 ⟨x, 1, none⟩ (.int .i64 r) p hpx).trans (hW3 p hp hpx)
              have hBB4 : Below (w.heap.size + 1) w0 (u3.setCell ⟨x, 1, none⟩ (.int .i64 r)) := hBB3.setCell (p := ⟨x, 1, none⟩) hxw _
              have hs4 : w4.heap.size ≤ (u3.setCell ⟨x, 1, none⟩ (.int .i64 r)).heap.size := by simp; omega
              have f1 := hb3.cell 1
              have ff := hb3.frozen 1
              have g4 := b0.below hBB4 (by omega)
              have g40 := g4.cell 0
              have g41 := g4.cell 1
              have g42 := g4.cell 2
              simp only [List.getElem?_toArray, List.getElem?_cons_zero, List.getElem?_cons_succ] at f1 g40 g41 g42
              have hv2 := HV1.out (u3.setCell ⟨x, 1, none⟩ (.int .i64 r)) r hBB4 hs4 hW4 hb4'
              rw [hfs] at hv2
              have HW4 := Lib.hid hW4
              have HB4' := Lib.hid hb4'
              have HBB4 := Lib.hid hBB4
              have HS4 := Lib.hid hs4
              clear hv hW2 hb2 hBB2 hs2 hb23 hb3 hW3 hBB3 hs3 hW4 hb4' hBB4 hs4 g4 e0 e2 e3 e4 fz d0 d1 d2
              go_wp2_with fail
              refine hv2.mono ?_
              rintro e u5 ⟨rfl, hb45⟩
              have hW5 : ∀ p, p < w4.heap.size → p ≠ x → u5.heap[p]? = w4.heap[p]? := fun p hp hpx => (hb45.block p (by have := HS4.out; omega)).trans (HW4.out p hp hpx)
              have hb5 : Blk u5 x 65 #[.int .i64 s, .int .i64 r, .slice uo kb.length uc] := HB4'.out.below hb45 HB4'.out.lt
              have hBB5 : Below (w.heap.size + 1) w0 u5 := HBB4.out.trans (hb45.mono (by have := HBB4.out.size; omega))
              have hs5 : w4.heap.size ≤ u5.heap.size := Nat.le_trans HS4.out hb45.size
              have hz5 := hBB5.size
              have hown5 : u5.ownsRow w3.heap.size 53 1 (.slice uo kb.length uc) kb.length (PV kb) := ownsRow_keep HXX.out.own (fun g hg e => hW5 g hg (fun e2 => by
                subst e2
                obtain ⟨_, cs, fz, ho⟩ := row_obj HXX.out.own g e
                exact absurd (blk_typ HXX.out.blk ho) (by decide)))
              have hown7 := (hown5.alloc (.cells #[.int .i64 0, .int .i64 (-1), .slice none 0 0] 65)).alloc (.cells #[.pointer (some ⟨u5.heap.size, 0, none⟩)] 53)
              have hnew7 := cell_one_new (u5.alloc (.cells #[.int .i64 0, .int .i64 (-1), .slice none 0 0] 65)) (.pointer (some ⟨u5.heap.size, 0, none⟩)) 53
              rw [World.size_alloc] at hnew7
              have hb7 := (hb5.alloc (.cells #[.int .i64 0, .int .i64 (-1), .slice none 0 0] 65)).alloc (.cells #[.pointer (some ⟨u5.heap.size, 0, none⟩)] 53)
              have hy7 := (Blk.new u5 65 #[.int .i64 0, .int .i64 (-1), .slice none 0 0]).alloc (.cells #[.pointer (some ⟨u5.heap.size, 0, none⟩)] 53)
              have hBB7 := (hBB5.alloc (by omega) (.cells #[.int .i64 0, .int .i64 (-1), .slice none 0 0] 65)).alloc (by rw [World.size_alloc]; omega) (.cells #[.pointer (some ⟨u5.heap.size, 0, none⟩)] 53)
              have hW7 : ∀ p, p < w4.heap.size → p ≠ x → ((u5.alloc (.cells #[.int .i64 0, .int .i64 (-1), .slice none 0 0] 65)).alloc (.cells #[.pointer (some ⟨u5.heap.size, 0, none⟩)] 53)).heap[p]? = w4.heap[p]? := fun p hp hpx => ((Below.heap_alloc _ _ p (by rw [World.size_alloc]; omega)).trans (Below.heap_alloc _ _ p (by omega))).trans (hW5 p hp hpx)
              have hs7 : ((u5.alloc (.cells #[.int .i64 0, .int .i64 (-1), .slice none 0 0] 65)).alloc (.cells #[.pointer (some ⟨u5.heap.size, 0, none⟩)] 53)).heap.size = u5.heap.size + 2 := by simp
              have k5 := hb5.cell 2
              simp only [List.getElem?_toArray, List.getElem?_cons_zero, List.getElem?_cons_succ] at k5
              have HO7 := Lib.hid hown7
              have HN7 := Lib.hid hnew7
              have HB7 := Lib.hid hb7
              have HY7 := Lib.hid hy7
              have HBB7 := Lib.hid hBB7
              have HW7 := Lib.hid hW7
              have HZ7 := Lib.hid hs7
              clear hW5 hb5 hBB5 hown5 hown7 hnew7 hb7 hy7 hBB7 hW7 hs7 hb45 hv2 f1 ff g40 g41 g42
              go_wp2_with (at_builtin; go_must (refine wpList_append_own _ rfl _ _ 63 rfl w3.heap.size 53 i0 (.pointer none) 1 8 Try.underlying63 hi0 hi1 hi2 hi3 rfl (by decide) _ _ _ rfl HO7.out ⟨u5.heap.size + 1, 0, none⟩ 1 1 [.pointer (some ⟨u5.heap.size, 0, none⟩)] rfl rfl HN7.out (by intro u hu; simp at hu; subst hu; rfl) (by unfold maxLen; omega) (by omega) (by have := HZ7.out; omega) ?_); intro v8 w8 hown8 hgrow _; obtain ⟨ao8, c8, rfl⟩ := own_len hown8; have hb8 : Blk w8 x 65 #[.int .i64 s, .int .i64 r, .slice uo kb.length uc] := HB7.out.grown hgrow (HB7.out.not_row (by decide) HO7.out); have k8 : w8.cell? ⟨x, 2, none⟩ = some (.slice uo kb.length uc) := (hb8.cell 2); have f8 : w8.frozen? ⟨x, 2, none⟩ = false := hb8.frozen 2; have hBB8 : Below (w.heap.size + 1) w0 w8 := HBB7.out.grown hgrow (by have := HZ7.out; omega) (fun q hq => by have := (HO7.out.lt q hq).1; omega); have hBB9 : Below (w.heap.size + 1) w0 (w8.setCell ⟨x, 2, none⟩ (.slice ao8 (kb.length + 1) c8)) := hBB8.setCell (p := ⟨x, 2, none⟩) hxw _; have g9 := b0.below hBB9 (by omega); have g90 := g9.cell 0; have g91 := g9.cell 1; have g92 := g9.cell 2; simp only [List.getElem?_toArray, List.getElem?_cons_zero, List.getElem?_cons_succ] at g90 g91 g92)
              have hb9 : Blk (w8.setCell ⟨x, 2, none⟩ (.slice ao8 (kb.length + 1) c8)) x 65 #[.int .i64 s, .int .i64 r, .slice ao8 (kb.length + 1) c8] := hb8.set_ 2 (.slice ao8 (kb.length + 1) c8)
              have hW9 : ∀ p, p < w4.heap.size → p ≠ x → Value.ownBlock (.slice uo kb.length uc) ≠ some p → (w8.setCell ⟨x, 2, none⟩ (.slice ao8 (kb.length + 1) c8)).heap[p]? = w4.heap[p]? := fun p hp hpx hpo => ((Below.heap_setCell w8 ⟨x, 2, none⟩ (.slice ao8 (kb.length + 1) c8) p hpx).trans (hgrow.block p (by have := HZ7.out; omega) (fun e => hpo e.symm))).trans (HW7.out p hp hpx)
              have hown9 : (w8.setCell ⟨x, 2, none⟩ (.slice ao8 (kb.length + 1) c8)).ownsRow 0 53 1 (.slice ao8 (kb.length + 1) c8) (kb.length + 1) (PV kb ++ [PtrV u5.heap.size]) := own_base' (own_grown hown8 (grown_set w8 ⟨x, 2, none⟩ (.slice ao8 (kb.length + 1) c8)) (.inr (hb8.not_row (by decide) hown8).symm)) (Nat.zero_le _)
              have hyx : u5.heap.size ≠ x := by omega
              have hy9 : Blk (w8.setCell ⟨x, 2, none⟩ (.slice ao8 (kb.length + 1) c8)) u5.heap.size 65 #[.int .i64 0, .int .i64 (-1), .slice none 0 0] := Blk.far (HY7.out.grown hgrow (HY7.out.not_row (by decide) HO7.out)) (p := ⟨x, 2, none⟩) hyx _
              have hv3 := HV3.out _ u5.heap.size (.slice ao8 (kb.length + 1) c8) hBB9 hW9 hb9 hown9 hy9
              have HBB9 := Lib.hid hBB9
              clear hb9 hBB8 hBB9 hW9 hown9 hy9 hb8 hown8 hgrow k8 f8 g9
              refine hv3.mono ?_
              rintro e ua ⟨rfl, hba⟩
              have hend := hbl.trans ((HBB9.out.trans (hba.mono (by have := HBB9.out.size; omega))).mono (by omega))
              clear hv3 g90 g91 g92 hba
              go_wp2
              go_ret
              exact ⟨rfl, hend⟩
            · have c7 : ((tn : Int) == r) = false := by simpa using hxr
              have hans : fitB tl R s (tn : Int) k.syms = false := HT4.out (by omega) tn rl hrk hle hxr
              have HLE := Lib.hid hle
              clear hle
              skip
              go_wp2
              go_quiet (fail)
              go_wp2_with fail
              have hv := HV1.out (((w4.drewN q).setCell ⟨x, 1, none⟩ (.int .i64 (tn : Int))).drewN nq) (tn : Int) (below_drewN HBB.out nq) HSU.out (fun p _ hpx => HWU.out p hpx) HBU.out
              rw [hans] at hv
              have hW2 : ∀ p, p ≠ x → (((w4.drewN q).setCell ⟨x, 1, none⟩ (.int .i64 (tn : Int))).drewN nq).heap[p]? = w4.heap[p]? := HWU.out
              have hb2 : Blk (((w4.drewN q).setCell ⟨x, 1, none⟩ (.int .i64 (tn : Int))).drewN nq) x 65 #[.int .i64 s, .int .i64 (tn : Int), .slice uo kb.length uc] := HBU.out
              have hBB2 : Below (w.heap.size + 1) w0 (((w4.drewN q).setCell ⟨x, 1, none⟩ (.int .i64 (tn : Int))).drewN nq) := below_drewN HBB.out nq
              have hs2 : w4.heap.size ≤ (((w4.drewN q).setCell ⟨x, 1, none⟩ (.int .i64 (tn : Int))).drewN nq).heap.size := HSU.out
              generalize ((w4.drewN q).setCell ⟨x, 1, none⟩ (.int .i64 (tn : Int))).drewN nq = u2 at *
              refine hv.mono ?_
              rintro e u3 ⟨rfl, hb23⟩
              have hb3 : Blk u3 x 65 #[.int .i64 s, .int .i64 (tn : Int), .slice uo kb.length uc] := hb2.below hb23 hb2.lt
              have hW3 : ∀ p, p < w4.heap.size → p ≠ x → u3.heap[p]? = w4.heap[p]? := fun p hp hpx => (hb23.block p (by omega)).trans (hW2 p hpx)
              have hBB3 : Below (w.heap.size + 1) w0 u3 := hBB2.trans (hb23.mono (by have := hBB2.size; omega))
              have hs3 : w4.heap.size ≤ u3.heap.size := Nat.le_trans hs2 hb23.size
              have hb4' : Blk (u3.setCell ⟨x, 1, none⟩ (.int .i64 r)) x 65 #[.int .i64 s, .int .i64 r, .slice uo kb.length uc] := hb3.set_ 1 (.int .i64 r)
              have hW4 : ∀ p, p < w4.heap.size → p ≠ x → (u3.setCell ⟨x, 1, none⟩ (.int .i64 r)).heap[p]? = w4.heap[p]? := fun p hp hpx => (Below.heap_setCell u3 ⟨x, 1, none⟩ (.int .i64 r) p hpx).trans (hW3 p hp hpx)
              have hBB4 : Below (w.heap.size + 1) w0 (u3.setCell ⟨x, 1, none⟩ (.int .i64 r)) := hBB3.setCell (p := ⟨x, 1, none⟩) hxw _
              have hs4 : w4.heap.size ≤ (u3.setCell ⟨x, 1, none⟩ (.int .i64 r)).heap.size := by simp; omega
              have f1 := hb3.cell 1
              have ff := hb3.frozen 1
              have g4 := b0.below hBB4 (by omega)
              have g40 := g4.cell 0
              have g41 := g4.cell 1
              have g42 := g4.cell 2
              simp only [List.getElem?_toArray, List.getElem?_cons_zero, List.getElem?_cons_succ] at f1 g40 g41 g42
              have hv2 := HV1.out (u3.setCell ⟨x, 1, none⟩ (.int .i64 r)) r hBB4 hs4 hW4 hb4'
              rw [hfs] at hv2
              have HW4 := Lib.hid hW4
              have HB4' := Lib.hid hb4'
              have HBB4 := Lib.hid hBB4
              have HS4 := Lib.hid hs4
              clear hv hW2 hb2 hBB2 hs2 hb23 hb3 hW3 hBB3 hs3 hW4 hb4' hBB4 hs4 g4 e0 e2 e3 e4 fz d0 d1 d2
              go_wp2_with fail
              refine hv2.mono ?_
              rintro e u5 ⟨rfl, hb45⟩
              have hW5 : ∀ p, p < w4.heap.size → p ≠ x → u5.heap[p]? = w4.heap[p]? := fun p hp hpx => (hb45.block p (by have := HS4.out; omega)).trans (HW4.out p hp hpx)
              have hb5 : Blk u5 x 65 #[.int .i64 s, .int .i64 r, .slice uo kb.length uc] := HB4'.out.below hb45 HB4'.out.lt
              have hBB5 : Below (w.heap.size + 1) w0 u5 := HBB4.out.trans (hb45.mono (by have := HBB4.out.size; omega))
              have hs5 : w4.heap.size ≤ u5.heap.size := Nat.le_trans HS4.out hb45.size
              have hz5 := hBB5.size
              have hown5 : u5.ownsRow w3.heap.size 53 1 (.slice uo kb.length uc) kb.length (PV kb) := ownsRow_keep HXX.out.own (fun g hg e => hW5 g hg (fun e2 => by
                subst e2
                obtain ⟨_, cs, fz, ho⟩ := row_obj HXX.out.own g e
                exact absurd (blk_typ HXX.out.blk ho) (by decide)))
              have hown7 := (hown5.alloc (.cells #[.int .i64 0, .int .i64 (-1), .slice none 0 0] 65)).alloc (.cells #[.pointer (some ⟨u5.heap.size, 0, none⟩)] 53)
              have hnew7 := cell_one_new (u5.alloc (.cells #[.int .i64 0, .int .i64 (-1), .slice none 0 0] 65)) (.pointer (some ⟨u5.heap.size, 0, none⟩)) 53
              rw [World.size_alloc] at hnew7
              have hb7 := (hb5.alloc (.cells #[.int .i64 0, .int .i64 (-1), .slice none 0 0] 65)).alloc (.cells #[.pointer (some ⟨u5.heap.size, 0, none⟩)] 53)
              have hy7 := (Blk.new u5 65 #[.int .i64 0, .int .i64 (-1), .slice none 0 0]).alloc (.cells #[.pointer (some ⟨u5.heap.size, 0, none⟩)] 53)
              have hBB7 := (hBB5.alloc (by omega) (.cells #[.int .i64 0, .int .i64 (-1), .slice none 0 0] 65)).alloc (by rw [World.size_alloc]; omega) (.cells #[.pointer (some ⟨u5.heap.size, 0, none⟩)] 53)
              have hW7 : ∀ p, p < w4.heap.size → p ≠ x → ((u5.alloc (.cells #[.int .i64 0, .int .i64 (-1), .slice none 0 0] 65)).alloc (.cells #[.pointer (some ⟨u5.heap.size, 0, none⟩)] 53)).heap[p]? = w4.heap[p]? := fun p hp hpx => ((Below.heap_alloc _ _ p (by rw [World.size_alloc]; omega)).trans (Below.heap_alloc _ _ p (by omega))).trans (hW5 p hp hpx)
              have hs7 : ((u5.alloc (.cells #[.int .i64 0, .int .i64 (-1), .slice none 0 0] 65)).alloc (.cells #[.pointer (some ⟨u5.heap.size, 0, none⟩)] 53)).heap.size = u5.heap.size + 2 := by simp
              have k5 := hb5.cell 2
              simp only [List.getElem?_toArray, List.getElem?_cons_zero, List.getElem?_cons_succ] at k5
              have HO7 := Lib.hid hown7
              have HN7 := Lib.hid hnew7
              have HB7 := Lib.hid hb7
              have HY7 := Lib.hid hy7
              have HBB7 := Lib.hid hBB7
              have HW7 := Lib.hid hW7
              have HZ7 := Lib.hid hs7
              clear hW5 hb5 hBB5 hown5 hown7 hnew7 hb7 hy7 hBB7 hW7 hs7 hb45 hv2 f1 ff g40 g41 g42
              go_wp2_with (at_builtin; go_must (refine wpList_append_own _ rfl _ _ 63 rfl w3.heap.size 53 i0 (.pointer none) 1 8 Try.underlying63 hi0 hi1 hi2 hi3 rfl (by decide) _ _ _ rfl HO7.out ⟨u5.heap.size + 1, 0, none⟩ 1 1 [.pointer (some ⟨u5.heap.size, 0, none⟩)] rfl rfl HN7.out (by intro u hu; simp at hu; subst hu; rfl) (by unfold maxLen; omega) (by omega) (by have := HZ7.out; omega) ?_); intro v8 w8 hown8 hgrow _; obtain ⟨ao8, c8, rfl⟩ := own_len hown8; have hb8 : Blk w8 x 65 #[.int .i64 s, .int .i64 r, .slice uo kb.length uc] := HB7.out.grown hgrow (HB7.out.not_row (by decide) HO7.out); have k8 : w8.cell? ⟨x, 2, none⟩ = some (.slice uo kb.length uc) := (hb8.cell 2); have f8 : w8.frozen? ⟨x, 2, none⟩ = false := hb8.frozen 2; have hBB8 : Below (w.heap.size + 1) w0 w8 := HBB7.out.grown hgrow (by have := HZ7.out; omega) (fun q hq => by have := (HO7.out.lt q hq).1; omega); have hBB9 : Below (w.heap.size + 1) w0 (w8.setCell ⟨x, 2, none⟩ (.slice ao8 (kb.length + 1) c8)) := hBB8.setCell (p := ⟨x, 2, none⟩) hxw _; have g9 := b0.below hBB9 (by omega); have g90 := g9.cell 0; have g91 := g9.cell 1; have g92 := g9.cell 2; simp only [List.getElem?_toArray, List.getElem?_cons_zero, List.getElem?_cons_succ] at g90 g91 g92)
              have hb9 : Blk (w8.setCell ⟨x, 2, none⟩ (.slice ao8 (kb.length + 1) c8)) x 65 #[.int .i64 s, .int .i64 r, .slice ao8 (kb.length + 1) c8] := hb8.set_ 2 (.slice ao8 (kb.length + 1) c8)
              have hW9 : ∀ p, p < w4.heap.size → p ≠ x → Value.ownBlock (.slice uo kb.length uc) ≠ some p → (w8.setCell ⟨x, 2, none⟩ (.slice ao8 (kb.length + 1) c8)).heap[p]? = w4.heap[p]? := fun p hp hpx hpo => ((Below.heap_setCell w8 ⟨x, 2, none⟩ (.slice ao8 (kb.length + 1) c8) p hpx).trans (hgrow.block p (by have := HZ7.out; omega) (fun e => hpo e.symm))).trans (HW7.out p hp hpx)
              have hown9 : (w8.setCell ⟨x, 2, none⟩ (.slice ao8 (kb.length + 1) c8)).ownsRow 0 53 1 (.slice ao8 (kb.length + 1) c8) (kb.length + 1) (PV kb ++ [PtrV u5.heap.size]) := own_base' (own_grown hown8 (grown_set w8 ⟨x, 2, none⟩ (.slice ao8 (kb.length + 1) c8)) (.inr (hb8.not_row (by decide) hown8).symm)) (Nat.zero_le _)
              have hyx : u5.heap.size ≠ x := by omega
              have hy9 : Blk (w8.setCell ⟨x, 2, none⟩ (.slice ao8 (kb.length + 1) c8)) u5.heap.size 65 #[.int .i64 0, .int .i64 (-1), .slice none 0 0] := Blk.far (HY7.out.grown hgrow (HY7.out.not_row (by decide) HO7.out)) (p := ⟨x, 2, none⟩) hyx _
              have hv3 := HV3.out _ u5.heap.size (.slice ao8 (kb.length + 1) c8) hBB9 hW9 hb9 hown9 hy9
              have HBB9 := Lib.hid hBB9
              clear hb9 hBB8 hBB9 hW9 hown9 hy9 hb8 hown8 hgrow k8 f8 g9
              refine hv3.mono ?_
              rintro e ua ⟨rfl, hba⟩
              have hend := hbl.trans ((HBB9.out.trans (hba.mono (by have := HBB9.out.size; omega))).mono (by omega))
              clear hv3 g90 g91 g92 hba
              go_wp2
              go_ret
              exact ⟨rfl, hend⟩
          · have c6 : (rl.left == s) = false := by simpa using hle
            have hans : fitB tl R s (tn : Int) k.syms = false := HT5.out (by omega) tn rl hrk hle
            skip
            go_wp2
            go_quiet (fail)
            go_wp2_with fail
            have hv := HV1.out (((w4.drewN q).setCell ⟨x, 1, none⟩ (.int .i64 (tn : Int))).drewN nq) (tn : Int) (below_drewN HBB.out nq) HSU.out (fun p _ hpx => HWU.out p hpx) HBU.out
            rw [hans] at hv
            have hW2 : ∀ p, p ≠ x → (((w4.drewN q).setCell ⟨x, 1, none⟩ (.int .i64 (tn : Int))).drewN nq).heap[p]? = w4.heap[p]? := HWU.out
            have hb2 : Blk (((w4.drewN q).setCell ⟨x, 1, none⟩ (.int .i64 (tn : Int))).drewN nq) x 65 #[.int .i64 s, .int .i64 (tn : Int), .slice uo kb.length uc] := HBU.out
            have hBB2 : Below (w.heap.size + 1) w0 (((w4.drewN q).setCell ⟨x, 1, none⟩ (.int .i64 (tn : Int))).drewN nq) := below_drewN HBB.out nq
            have hs2 : w4.heap.size ≤ (((w4.drewN q).setCell ⟨x, 1, none⟩ (.int .i64 (tn : Int))).drewN nq).heap.size := HSU.out
            generalize ((w4.drewN q).setCell ⟨x, 1, none⟩ (.int .i64 (tn : Int))).drewN nq = u2 at *
            refine hv.mono ?_
            rintro e u3 ⟨rfl, hb23⟩
            have hb3 : Blk u3 x 65 #[.int .i64 s, .int .i64 (tn : Int), .slice uo kb.length uc] := hb2.below hb23 hb2.lt
            have hW3 : ∀ p, p < w4.heap.size → p ≠ x → u3.heap[p]? = w4.heap[p]? := fun p hp hpx => (hb23.block p (by omega)).trans (hW2 p hpx)
            have hBB3 : Below (w.heap.size + 1) w0 u3 := hBB2.trans (hb23.mono (by have := hBB2.size; omega))
            have hs3 : w4.heap.size ≤ u3.heap.size := Nat.le_trans hs2 hb23.size
            have hb4' : Blk (u3.setCell ⟨x, 1, none⟩ (.int .i64 r)) x 65 #[.int .i64 s, .int .i64 r, .slice uo kb.length uc] := hb3.set_ 1 (.int .i64 r)
            have hW4 : ∀ p, p < w4.heap.size → p ≠ x → (u3.setCell ⟨x, 1, none⟩ (.int .i64 r)).heap[p]? = w4.heap[p]? := fun p hp hpx => (Below.heap_setCell u3 ⟨x, 1, none⟩ (.int .i64 r) p hpx).trans (hW3 p hp hpx)
            have hBB4 : Below (w.heap.size + 1) w0 (u3.setCell ⟨x, 1, none⟩ (.int .i64 r)) := hBB3.setCell (p := ⟨x, 1, none⟩) hxw _
            have hs4 : w4.heap.size ≤ (u3.setCell ⟨x, 1, none⟩ (.int .i64 r)).heap.size := by simp; omega
            have f1 := hb3.cell 1
            have ff := hb3.frozen 1
            have g4 := b0.below hBB4 (by omega)
            have g40 := g4.cell 0
            have g41 := g4.cell 1
            have g42 := g4.cell 2
            simp only [List.getElem?_toArray, List.getElem?_cons_zero, List.getElem?_cons_succ] at f1 g40 g41 g42
            have hv2 := HV1.out (u3.setCell ⟨x, 1, none⟩ (.int .i64 r)) r hBB4 hs4 hW4 hb4'
            rw [hfs] at hv2
            have HW4 := Lib.hid hW4
            have HB4' := Lib.hid hb4'
            have HBB4 := Lib.hid hBB4
            have HS4 := Lib.hid hs4
            clear hv hW2 hb2 hBB2 hs2 hb23 hb3 hW3 hBB3 hs3 hW4 hb4' hBB4 hs4 g4 e0 e2 e3 e4 fz d0 d1 d2
            go_wp2_with fail
            refine hv2.mono ?_
            rintro e u5 ⟨rfl, hb45⟩
            have hW5 : ∀ p, p < w4.heap.size → p ≠ x → u5.heap[p]? = w4.heap[p]? := fun p hp hpx => (hb45.block p (by have := HS4.out; omega)).trans (HW4.out p hp hpx)
            have hb5 : Blk u5 x 65 #[.int .i64 s, .int .i64 r, .slice uo kb.length uc] := HB4'.out.below hb45 HB4'.out.lt
            have hBB5 : Below (w.heap.size + 1) w0 u5 := HBB4.out.trans (hb45.mono (by have := HBB4.out.size; omega))
            have hs5 : w4.heap.size ≤ u5.heap.size := Nat.le_trans HS4.out hb45.size
            have hz5 := hBB5.size
            have hown5 : u5.ownsRow w3.heap.size 53 1 (.slice uo kb.length uc) kb.length (PV kb) := ownsRow_keep HXX.out.own (fun g hg e => hW5 g hg (fun e2 => by
              subst e2
              obtain ⟨_, cs, fz, ho⟩ := row_obj HXX.out.own g e
              exact absurd (blk_typ HXX.out.blk ho) (by decide)))
            have hown7 := (hown5.alloc (.cells #[.int .i64 0, .int .i64 (-1), .slice none 0 0] 65)).alloc (.cells #[.pointer (some ⟨u5.heap.size, 0, none⟩)] 53)
            have hnew7 := cell_one_new (u5.alloc (.cells #[.int .i64 0, .int .i64 (-1), .slice none 0 0] 65)) (.pointer (some ⟨u5.heap.size, 0, none⟩)) 53
            rw [World.size_alloc] at hnew7
            have hb7 := (hb5.alloc (.cells #[.int .i64 0, .int .i64 (-1), .slice none 0 0] 65)).alloc (.cells #[.pointer (some ⟨u5.heap.size, 0, none⟩)] 53)
            have hy7 := (Blk.new u5 65 #[.int .i64 0, .int .i64 (-1), .slice none 0 0]).alloc (.cells #[.pointer (some ⟨u5.heap.size, 0, none⟩)] 53)
            have hBB7 := (hBB5.alloc (by omega) (.cells #[.int .i64 0, .int .i64 (-1), .slice none 0 0] 65)).alloc (by rw [World.size_alloc]; omega) (.cells #[.pointer (some ⟨u5.heap.size, 0, none⟩)] 53)
            have hW7 : ∀ p, p < w4.heap.size → p ≠ x → ((u5.alloc (.cells #[.int .i64 0, .int .i64 (-1), .slice none 0 0] 65)).alloc (.cells #[.pointer (some ⟨u5.heap.size, 0, none⟩)] 53)).heap[p]? = w4.heap[p]? := fun p hp hpx => ((Below.heap_alloc _ _ p (by rw [World.size_alloc]; omega)).trans (Below.heap_alloc _ _ p (by omega))).trans (hW5 p hp hpx)
            have hs7 : ((u5.alloc (.cells #[.int .i64 0, .int .i64 (-1), .slice none 0 0] 65)).alloc (.cells #[.pointer (some ⟨u5.heap.size, 0, none⟩)] 53)).heap.size = u5.heap.size + 2 := by simp
            have k5 := hb5.cell 2
            simp only [List.getElem?_toArray, List.getElem?_cons_zero, List.getElem?_cons_succ] at k5
            have HO7 := Lib.hid hown7
            have HN7 := Lib.hid hnew7
            have HB7 := Lib.hid hb7
            have HY7 := Lib.hid hy7
            have HBB7 := Lib.hid hBB7
            have HW7 := Lib.hid hW7
            have HZ7 := Lib.hid hs7
            clear hW5 hb5 hBB5 hown5 hown7 hnew7 hb7 hy7 hBB7 hW7 hs7 hb45 hv2 f1 ff g40 g41 g42
            go_wp2_with (at_builtin; go_must (refine wpList_append_own _ rfl _ _ 63 rfl w3.heap.size 53 i0 (.pointer none) 1 8 Try.underlying63 hi0 hi1 hi2 hi3 rfl (by decide) _ _ _ rfl HO7.out ⟨u5.heap.size + 1, 0, none⟩ 1 1 [.pointer (some ⟨u5.heap.size, 0, none⟩)] rfl rfl HN7.out (by intro u hu; simp at hu; subst hu; rfl) (by unfold maxLen; omega) (by omega) (by have := HZ7.out; omega) ?_); intro v8 w8 hown8 hgrow _; obtain ⟨ao8, c8, rfl⟩ := own_len hown8; have hb8 : Blk w8 x 65 #[.int .i64 s, .int .i64 r, .slice uo kb.length uc] := HB7.out.grown hgrow (HB7.out.not_row (by decide) HO7.out); have k8 : w8.cell? ⟨x, 2, none⟩ = some (.slice uo kb.length uc) := (hb8.cell 2); have f8 : w8.frozen? ⟨x, 2, none⟩ = false := hb8.frozen 2; have hBB8 : Below (w.heap.size + 1) w0 w8 := HBB7.out.grown hgrow (by have := HZ7.out; omega) (fun q hq => by have := (HO7.out.lt q hq).1; omega); have hBB9 : Below (w.heap.size + 1) w0 (w8.setCell ⟨x, 2, none⟩ (.slice ao8 (kb.length + 1) c8)) := hBB8.setCell (p := ⟨x, 2, none⟩) hxw _; have g9 := b0.below hBB9 (by omega); have g90 := g9.cell 0; have g91 := g9.cell 1; have g92 := g9.cell 2; simp only [List.getElem?_toArray, List.getElem?_cons_zero, List.getElem?_cons_succ] at g90 g91 g92)
            have hb9 : Blk (w8.setCell ⟨x, 2, none⟩ (.slice ao8 (kb.length + 1) c8)) x 65 #[.int .i64 s, .int .i64 r, .slice ao8 (kb.length + 1) c8] := hb8.set_ 2 (.slice ao8 (kb.length + 1) c8)
            have hW9 : ∀ p, p < w4.heap.size → p ≠ x → Value.ownBlock (.slice uo kb.length uc) ≠ some p → (w8.setCell ⟨x, 2, none⟩ (.slice ao8 (kb.length + 1) c8)).heap[p]? = w4.heap[p]? := fun p hp hpx hpo => ((Below.heap_setCell w8 ⟨x, 2, none⟩ (.slice ao8 (kb.length + 1) c8) p hpx).trans (hgrow.block p (by have := HZ7.out; omega) (fun e => hpo e.symm))).trans (HW7.out p hp hpx)
            have hown9 : (w8.setCell ⟨x, 2, none⟩ (.slice ao8 (kb.length + 1) c8)).ownsRow 0 53 1 (.slice ao8 (kb.length + 1) c8) (kb.length + 1) (PV kb ++ [PtrV u5.heap.size]) := own_base' (own_grown hown8 (grown_set w8 ⟨x, 2, none⟩ (.slice ao8 (kb.length + 1) c8)) (.inr (hb8.not_row (by decide) hown8).symm)) (Nat.zero_le _)
            have hyx : u5.heap.size ≠ x := by omega
            have hy9 : Blk (w8.setCell ⟨x, 2, none⟩ (.slice ao8 (kb.length + 1) c8)) u5.heap.size 65 #[.int .i64 0, .int .i64 (-1), .slice none 0 0] := Blk.far (HY7.out.grown hgrow (HY7.out.not_row (by decide) HO7.out)) (p := ⟨x, 2, none⟩) hyx _
            have hv3 := HV3.out _ u5.heap.size (.slice ao8 (kb.length + 1) c8) hBB9 hW9 hb9 hown9 hy9
            have HBB9 := Lib.hid hBB9
            clear hb9 hBB8 hBB9 hW9 hown9 hy9 hb8 hown8 hgrow k8 f8 g9
            refine hv3.mono ?_
            rintro e ua ⟨rfl, hba⟩
            have hend := hbl.trans ((HBB9.out.trans (hba.mono (by have := HBB9.out.size; omega))).mono (by omega))
            clear hv3 g90 g91 g92 hba
            go_wp2
            go_ret
            exact ⟨rfl, hend⟩
end Go.Proofs.Ytomikgkoegkofaa.dt
namespace Go.Proofs.Ytomikgkoegkofaa.dv
open Go.ChangeShapes Go.WideShapes Go.ChangeAt Go.RowKit Go.Maps Go.WideMaps Go.WideElems Go.Deep Go.Joins
set_option linter.unusedVariables false
set_option linter.unusedSimpArgs false
set_option maxRecDepth 100000 in
theorem streeBends_lifted (os : Os) (started : os.Started) (H : Type) (enc : TypeId × Value → H) :
    ReturnsInHanded {} Try.checked os 10 .any (Rows.treeBendsSpec.pre6 enc Try.prog Try.f10 Rows.treeBendsRow.domain false) (Rows.treeBendsSpec.post enc Try.prog Try.f10 false true false false) := by
  refine returnsInHanded_of_change (C := Try.checked) own started (by kernel_rfl) Try.func10
    (ChangeSpec.witness6 (enc := enc) (C := Try.checked) false ⟨#[], #[.agg #[.slice none 0 0, .slice none 0 0, .slice none 0 0], .int .i64 0, .slice none 0 0, .int .i64 0, .int .i64 0], []⟩ 8 (by kernel_rfl) (by kernel_rfl) (by kernel_rfl) (by kernel_rfl)) ?_
  intro W base args ds gs before hval0 hW hcnd _
  have hval : ∀ (j : Nat) t v, Try.f10.params[j]? = some t → args[j]? = some v → Value.okWide Try.prog W .any base t v := hval0
  have hW' := hW
  obtain ⟨p, q, hA0, hV, rfl, hfz, hnd⟩ := hW
  have hA : DataW.TrodAll enc Try.prog W 0 (fun _ => true) true Try.f10.params.toList args.toList ds p := hA0
  rw [Try.params10] at hA hval
  obtain ⟨v0, vs0, d0, ds0, p0, q0, hargs, rfl, rfl, h0, r0⟩ := trodAll_cons hA
  obtain ⟨v1, vs1, d1, ds1, p1, q1, rfl, rfl, rfl, h1, r1⟩ := trodAll_cons r0
  obtain ⟨v2, vs2, d2, ds2, p2, q2, rfl, rfl, rfl, h2, r2⟩ := trodAll_cons r1
  obtain ⟨v3, vs3, d3, ds3, p3, q3, rfl, rfl, rfl, h3, r3⟩ := trodAll_cons r2
  obtain ⟨v4, vs4, d4, ds4, p4, q4, rfl, rfl, rfl, h4, r4⟩ := trodAll_cons r3
  obtain ⟨rfl, rfl, rfl⟩ := trodAll_nil r4
  obtain rfl : args = #[v0, v1, v2, v3, v4] := by cases args; simp_all
  obtain ⟨rfl, rfl⟩ := trodVars_none hV
  have h0k := h0
  obtain ⟨g0, g1, g2, y0, y1, y2, n, rfl, _, _, e0, e1, e2⟩ := open_agg3 Try.underlying25 (by kernel_rfl) (by kernel_rfl) (hval 0 25 v0 rfl rfl) h0
  replace e0 : DataW.trod enc Try.prog W 0 (fun _ => true) true n 22 [g0] = some y0 := e0
  replace e1 : DataW.trod enc Try.prog W 0 (fun _ => true) true n 22 [g1] = some y1 := e1
  replace e2 : DataW.trod enc Try.prog W 0 (fun _ => true) true n 23 [g2] = some y2 := e2
  obtain ⟨ta, tl, tc, rfl, _, _, _⟩ := slice_of Try.underlying22 e0
  obtain ⟨va, vl, vc, rfl, _, _, _⟩ := slice_of Try.underlying22 e1
  obtain ⟨ra, rl, rc, rfl, hr1, hr2, _⟩ := slice_of Try.underlying23 e2
  obtain ⟨hT1, hT2⟩ := strs_of e0
  obtain ⟨hV1, hV2⟩ := strs_of e1
  obtain ⟨R, rfl, hR, hwf⟩ := rules_of e2
  obtain ⟨x1, rfl, rfl, rfl, w1⟩ := open_int Try.underlying3 (hval 1 3 v1 rfl rfl) h1
  obtain ⟨a2, len2, cap2, rfl⟩ := okWide_slice Try.underlying26 (hval 2 26 v2 rfl rfl)
  have h2k := h2
  obtain ⟨fu2, hf2⟩ := h2
  obtain ⟨L2, hL2, hF2⟩ := row_of hf2
  obtain ⟨x3, rfl, rfl, rfl, w3⟩ := open_int Try.underlying3 (hval 3 3 v3 rfl rfl) h3
  obtain ⟨x4, rfl, rfl, rfl, w4⟩ := open_int Try.underlying3 (hval 4 3 v4 rfl rfl) h4
  clear hA0 hval0
  simp only [List.append_nil, List.nil_append] at hW'
  have hlt : ∀ x ∈ p0 ++ (p2), x.block < W.heap.size := fun x hx => by simpa using hW'.lt x (by simpa using hx)
  have hback0 : ∀ (W' : World), Below W.heap.size W W' → DataW.Trod enc Try.prog W' 0 (fun b => decide (b < W.heap.size)) true 25 (.agg #[.slice ta tl tc, .slice va vl vc, .slice ra R.length rc]) d0 p0 :=
    fun W' hn => Below.trod laidOut (by kernel_rfl) (of_decide_eq_true (by kernel_rfl)) h0k hn (fun x hx => hlt x (by simp [hx]))
  have hback2 : ∀ (W' : World), Below W.heap.size W W' → DataW.Trod enc Try.prog W' 0 (fun b => decide (b < W.heap.size)) true 26 (.slice a2 len2 cap2) d2 p2 :=
    fun W' hn => Below.trod laidOut (by kernel_rfl) (of_decide_eq_true (by kernel_rfl)) h2k hn (fun x hx => hlt x (by simp [hx]))
  have hT : ∀ (W' : World), Below W.heap.size W W' → DataW.TrodAll enc Try.prog W' 0 (fun b => decide (b < W.heap.size)) true [25, 3, 26, 3, 3] [.agg #[.slice ta tl tc, .slice va vl vc, .slice ra R.length rc], .int .i64 x1, .slice a2 len2 cap2, .int .i64 x3, .int .i64 x4] [d0, .lit (.int .i64 x1), d2, .lit (.int .i64 x3), .lit (.int .i64 x4)] (p0 ++ (p2)) := fun W' hn => by
    have h4 := (trodAll_cons_mk (hback0 _ hn) (trodAll_cons_mk (shut_int (H := H) (enc := enc) (P := Try.prog) (w := W') (base := 0) (spare := fun b => decide (b < W.heap.size)) (held := true) Try.underlying3 w1) (trodAll_cons_mk (hback2 _ hn) (trodAll_cons_mk (shut_int (H := H) (enc := enc) (P := Try.prog) (w := W') (base := 0) (spare := fun b => decide (b < W.heap.size)) (held := true) Try.underlying3 w3) (trodAll_mk1 (shut_int (H := H) (enc := enc) (P := Try.prog) (w := W') (base := 0) (spare := fun b => decide (b < W.heap.size)) (held := true) Try.underlying3 w4))))))
    simpa using h4
  subst hL2
  refine (dt.tbends_any W ta va ra tl tc vl vc rc _ x1 x3 x4 R L2 hR hT1 hV1 (by omega) hT2 hV2 hF2).mono fun e W' ⟨he, hb⟩ => ?_
  subst he
  exact ⟨_, rfl, _, _, _, [], p0 ++ (p2), [], hW', trodAll_mk1 (shut_bool Try.underlying4 _), hT W' hb, rfl, hb.frame _, fun h => by cases h⟩
theorem streeBends_said : Rows.TreeBendsSaid :=
  OpenClaim.holds_of_wide 10 Try.f10 rfl rfl rfl rfl rfl rfl rfl ⟨rfl, rfl, rfl, rfl, rfl⟩ rfl rfl rfl rfl rfl (by kernel_rfl) Try.func10 (by kernel_rfl)
    (of_decide_eq_true (by kernel_rfl)) (by unfold Func.isWrapper; first | (rw [if_pos (by decide +kernel)]; kernel_rfl) | (rw [if_neg (by decide +kernel)]; exact ⟨rfl, rfl⟩))
    (fun os started H enc _ => streeBends_lifted os started H enc)
end Go.Proofs.Ytomikgkoegkofaa.dv
namespace Go.Proofs.Ytomikgkoegkofaa
theorem treeBends_holds : Rows.TreeBendsSaid := dv.streeBends_said
end Go.Proofs.Ytomikgkoegkofaa

/- For any grammar the law LeftJoins returns true, and what it was handed reads afterwards as it did; no condition. -/
import Derived.Test.YtljkobijoenabaaMh
namespace Go.Proofs.Ytljkobijoenabaa.dv
open Go.ChangeShapes Go.WideShapes Go.ChangeAt Go.RowKit Go.Maps Go.WideMaps Go.WideElems
set_option linter.unusedVariables false
set_option linter.unusedSimpArgs false
/-! groups: each in one at most, rising -/
theorem grp_mem {f : Nat → Nat → Bool} {n : Nat} (ht : Trs f n) {x : Nat} : x ∈ (groupsP f n).flatten ↔ x < n ∧ f x x = true := by
  rw [grp_eq f n ht n, List.mem_flatten]
  unfold grpD
  constructor
  · rintro ⟨g, hg, hx⟩
    obtain ⟨v, hv, rfl⟩ := List.mem_map.1 hg
    obtain ⟨h1, h2⟩ := List.mem_filter.1 hx
    refine ⟨by simpa using h1, ?_⟩
    rw [mtl_comm] at h2
    exact mtl_self ht h2
  · rintro ⟨hx, hf⟩
    have hp : mtl f x x = true := by unfold mtl; rw [hf]; rfl
    obtain ⟨v, h1, h2, h3⟩ := least_of (p := mtl f x) n x (by omega) hp
    refine ⟨(List.range n).filter (mtl f v), List.mem_map.2 ⟨v, List.mem_filter.2 ⟨by simp; omega, ?_⟩, rfl⟩, List.mem_filter.2 ⟨by simpa using hx, by rw [mtl_comm]; exact h2⟩⟩
    refine ld_spec.2 ⟨?_, fun u hu => ?_⟩
    · rw [mtl_comm] at h2
      exact mtl_self ht h2
    · cases hc : mtl f v u with
      | false => rfl
      | true =>
        have := mtl_trans ht h2 hc
        rw [h3 u hu] at this
        cases this
theorem grp_nodup {f : Nat → Nat → Bool} {n : Nat} (ht : Trs f n) : (groupsP f n).flatten.Nodup := by
  rw [grp_eq f n ht n]
  unfold grpD
  unfold List.Nodup
  rw [List.pairwise_flatten]
  refine ⟨fun g hg => ?_, ?_⟩
  · obtain ⟨v, hv, rfl⟩ := List.mem_map.1 hg
    exact List.Pairwise.imp (fun h => Nat.ne_of_lt h) (List.Pairwise.filter _ List.pairwise_lt_range)
  · rw [List.pairwise_map]
    have h1 : ((List.range n).filter (ldB f)).Pairwise (· < ·) := List.Pairwise.filter _ List.pairwise_lt_range
    refine List.Pairwise.imp_of_mem ?_ h1
    intro a b ha hb hab x hx y hy e
    subst e
    have hla := ld_spec.1 (List.mem_filter.1 ha).2
    have hlb := ld_spec.1 (List.mem_filter.1 hb).2
    have h2 := (List.mem_filter.1 hx).2
    have h3 := (List.mem_filter.1 hy).2
    rw [mtl_comm] at h2
    have h4 := mtl_trans ht h3 h2
    rw [hlb.2 a hab] at h4
    cases h4
theorem grp_rise {f : Nat → Nat → Bool} {n : Nat} (ht : Trs f n) : ∀ g ∈ groupsP f n, ∀ i, i + 1 < g.length → g.getD i 0 < g.getD (i + 1) 0 := by
  rw [grp_eq f n ht n]
  unfold grpD
  intro g hg i hi
  obtain ⟨v, hv, rfl⟩ := List.mem_map.1 hg
  have h1 : ((List.range n).filter (mtl f v)).Pairwise (· < ·) := List.Pairwise.filter _ List.pairwise_lt_range
  rw [List.getD_eq_getElem?_getD, List.getD_eq_getElem?_getD, List.getElem?_eq_getElem (show i < _ by omega), List.getElem?_eq_getElem hi]
  exact List.pairwise_iff_getElem.1 h1 i (i + 1) (by omega) hi (by omega)
/-- which are in, of so many -/
def inN (n : Nat) (P : List Nat) : List Int := (List.range n).map fun x => if x ∈ P then 1 else 0
theorem inN_len (n : Nat) (P : List Nat) : (inN n P).length = n := by simp [inN]
theorem inN_at (n : Nat) (P : List Nat) (x : Nat) (hx : x < n) : (inN n P).getD x 0 = if x ∈ P then 1 else 0 := by
  unfold inN
  rw [List.getD_eq_getElem?_getD, List.getElem?_map, List.getElem?_range hx]
  rfl
theorem inN_set (n : Nat) (P : List Nat) (x : Nat) : (inN n P).set x 1 = inN n (P ++ [x]) := by
  apply List.ext_getElem (by simp [inN])
  intro i h1 h2
  rw [List.getElem_set]
  unfold inN
  simp only [List.getElem_map, List.getElem_range, List.mem_append, List.mem_singleton]
  by_cases e : x = i
  · subst e; simp
  · rw [if_neg e]
    have e2 : ¬ i = x := fun h => e h.symm
    by_cases hp : i ∈ P
    · rw [if_pos hp, if_pos (.inl hp)]
    · rw [if_neg hp, if_neg (fun h => h.elim hp e2)]
theorem inN_nil (n : Nat) : inN n [] = List.replicate n 0 := by
  unfold inN
  simp [List.map_const']
theorem flat_takeJ {G : List (List Nat)} {i j : Nat} (hi : i < G.length) (hj : j < (G.getD i []).length) (hn : G.flatten.Nodup) : (G.getD i []).getD j 0 ∉ (G.take i).flatten ++ (G.getD i []).take j := by
  have e : G.flatten = (G.take i).flatten ++ ((G.getD i []).take j ++ ((G.getD i []).getD j 0 :: ((G.getD i []).drop (j + 1) ++ (G.drop (i + 1)).flatten))) := by
    conv => lhs; rw [← List.take_append_drop i G, List.flatten_append, List.drop_eq_getElem_cons hi, List.flatten_cons]
    have e1 : G[i] = G.getD i [] := by rw [List.getD_eq_getElem?_getD, List.getElem?_eq_getElem hi]; rfl
    rw [e1]
    congr 1
    conv => lhs; rw [← List.take_append_drop j (G.getD i []), List.drop_eq_getElem_cons hj]
    have e2 : (G.getD i [])[j] = (G.getD i []).getD j 0 := by
      generalize G.getD i [] = g at hj ⊢
      rw [List.getD_eq_getElem?_getD, List.getElem?_eq_getElem hj]; rfl
    rw [e2]
    simp
  rw [e] at hn
  rw [← List.append_assoc, List.nodup_append] at hn
  intro h
  exact hn.2.2 _ h _ (by simp) rfl
theorem flat_succJ {G : List (List Nat)} {i : Nat} (hi : i < G.length) : (G.take i).flatten ++ (G.getD i []).take (G.getD i []).length = (G.take (i + 1)).flatten := by
  rw [List.take_length, List.take_succ_eq_append_getElem hi, List.flatten_append, List.getD_eq_getElem?_getD, List.getElem?_eq_getElem hi]
  simp
theorem take_snocJ {l : List Nat} {j : Nat} (hj : j < l.length) : l.take (j + 1) = l.take j ++ [l.getD j 0] := by
  rw [List.take_succ_eq_append_getElem hj, List.getD_eq_getElem?_getD, List.getElem?_eq_getElem hj]
  rfl
/-! LeftJoins -/
set_option maxRecDepth 100000 in
set_option maxHeartbeats 4000000 in
theorem joins_any (w : World) (ta va ra : Option Addr) (tl tc vl vc rc : Nat) (R : List Rl) (hR : RulesAt w.heap.size w (.slice ra R.length rc) R) (hT : StrsAt w.heap.size w ta tl) (hV : StrsAt w.heap.size w va vl) (hn : R.length ≤ maxLen) (ht : tl ≤ maxLen) (hv : vl ≤ maxLen) :
    Calls Try.prog 11 #[.agg #[.slice ta tl tc, .slice va vl vc, .slice ra R.length rc]] w fun e w' => e = .returned (.bool true) ∧ Below w.heap.size w w' := by
  have b0 := Blk.new w 25 #[.slice ta tl tc, .slice va vl vc, .slice ra R.length rc]
  have hbl : Below w.heap.size w (w.alloc (.cells #[.slice ta tl tc, .slice va vl vc, .slice ra R.length rc] 25)) := below_lit _ _ _
  have hR1 := hR.below hbl
  have hT1 := hT.below hbl
  have hV1 := hV.below hbl
  generalize hW0 : w.alloc (.cells #[.slice ta tl tc, .slice va vl vc, .slice ra R.length rc] 25) = w0 at *
  have hz0 : w0.heap.size = w.heap.size + 1 := by rw [← hW0]; simp
  have HR := Lib.hid hR1
  have HT := Lib.hid hT1
  have HV := Lib.hid hV1
  clear hR hT hV hR1 hT1 hV1
  go_enter Try.func11, Try.ntmps11
  go_wp2_with fail
  refine (lalive_any w0).mono ?_
  rintro e w1 ⟨rfl, hb1⟩
  have hB1 : Below (w.heap.size + 1) w0 w1 := hb1.mono (by omega)
  have hz1 := hB1.size
  have bx1 := b0.below hB1 (by omega)
  have p0 := bx1.cell 0
  have p1 := bx1.cell 1
  have p2 := bx1.cell 2
  simp only [List.getElem?_toArray, List.getElem?_cons_zero, List.getElem?_cons_succ] at p0 p1 p2
  go_wp2_with fail
  refine (few_any w1 w.heap.size ta va ra tl tc vl vc rc R (HR.out.below (hB1.mono (by omega))) (by omega) hn ht hv).mono ?_
  rintro e w2 ⟨b, rfl, hfew, hb2⟩
  have hB2 : Below (w.heap.size + 1) w0 w2 := hB1.trans (hb2.mono (by omega))
  cases b
  · clear hfew
    go_wp2
    go_ret
    exact ⟨rfl, hbl.trans (hB2.mono (by omega))⟩
  · obtain ⟨f1, f2, f3, h8⟩ := hfew rfl
    have H8 := Lib.hid h8
    clear hfew h8
    have hz2 := hB2.size
    have bx2 := b0.below hB2 (by omega)
    have q0 := bx2.cell 0
    have q1 := bx2.cell 1
    have q2 := bx2.cell 2
    simp only [List.getElem?_toArray, List.getElem?_cons_zero, List.getElem?_cons_succ] at q0 q1 q2
    clear bx1 p0 p1 p2 hb1 hb2 hz1
    go_wp2_with fail
    refine (right_yes w2 w.heap.size ta va ra tl tc vl vc rc R (HR.out.below (hB2.mono (by omega))) (HT.out.below (hB2.mono (by omega))) (HV.out.below (hB2.mono (by omega))) (by omega) f3 f2 f1 H8.out).mono ?_
    rintro e w3 ⟨b, rfl, hok, hb3⟩
    have hB3 : Below (w.heap.size + 1) w0 w3 := hB2.trans (hb3.mono (by omega))
    cases b
    · clear hok
      go_wp2
      go_ret
      exact ⟨rfl, hbl.trans (hB3.mono (by omega))⟩
    · obtain ⟨hv1, hrl⟩ := hok rfl
      have hl : ∀ r ∈ R, 0 ≤ r.left ∧ r.left < vl := fun r hr => ⟨(hrl r hr).1, (hrl r hr).2.1⟩
      have hvr : ∀ r ∈ R, ∀ s ∈ r.right, 0 ≤ s → s < vl := fun r hr s hs _ => ((hrl r hr).2.2 s hs).1
      have HL := Lib.hid hl
      have HVR := Lib.hid hvr
      have hz3 := hB3.size
      have bx3 := b0.below hB3 (by omega)
      have r0 := bx3.cell 0
      have r1 := bx3.cell 1
      have r2 := bx3.cell 2
      simp only [List.getElem?_toArray, List.getElem?_cons_zero, List.getElem?_cons_succ] at r0 r1 r2
      clear bx2 q0 q1 q2 hb3 hok hrl hl hvr
      obtain ⟨i0, hi, hy0, hy1, hy2⟩ := info_parts info_int
      go_wp2_with (at_make; refine wpList_make_full _ rfl _ _ 26 rfl w3.heap.size 3 i0 (.int .i64 0) 1 Try.underlying26 hi hy0 hy1 .i64 .i64 _ _ vl rfl rfl rfl rfl (by rw [hy2]; omega) (by unfold maxLen; omega) (Nat.le_refl _) ?_; intro w4 hown4 hgrow4; have hB4 : Below (w.heap.size + 1) w0 w4 := hB3.grown hgrow4 (by omega) (fun k e => by cases e); have bx4 := b0.below hB4 (by omega); have s0 := bx4.cell 0; have s1 := bx4.cell 1; have s2 := bx4.cell 2; simp only [List.getElem?_toArray, List.getElem?_cons_zero, List.getElem?_cons_succ] at s0 s1 s2; have HOWN4 := Lib.hid hown4; have HB4 := Lib.hid hB4; have HB34 := Lib.hid (show Below w3.heap.size w3 w4 from (Below.refl _ _).grown hgrow4 (Nat.le_refl _) (fun k e => by cases e)); clear hown4 hgrow4 hB4 r0 r1 r2 bx4)
      have hz4 := HB4.out.size
      have hrc := recursive_any w4 w.heap.size ta va tl tc vl vc (.slice ra R.length rc) R (HR.out.below (HB4.out.mono (by omega))) (by omega) HL.out (by omega)
      go_wp2_with fail
      refine hrc.mono ?_
      rintro e w5 ⟨rv, rm, rfl, hmk, hb5⟩
      have hB5 : Below (w.heap.size + 1) w0 w5 := HB4.out.trans (hb5.mono (by omega))
      have hz5 := hB5.size
      have bx5 := b0.below hB5 (by omega)
      have t0 := bx5.cell 0
      have t1 := bx5.cell 1
      have t2 := bx5.cell 2
      simp only [List.getElem?_toArray, List.getElem?_cons_zero, List.getElem?_cons_succ] at t0 t1 t2
      have hgr := groups_any w5 w.heap.size ta va tl tc vl vc (.slice ra R.length rc) R (HR.out.below (hB5.mono (by omega))) (by omega) HL.out (by omega)
      have hmkl : (recM vl (begM vl R)).length = vl := by simp [recM]
      obtain ⟨f, hf⟩ : ∃ f, f = matF (begM vl R) := ⟨_, rfl⟩
      have hrec : ∀ x, x < vl → (recM vl (begM vl R)).getD x false = f x x := fun x hx => by
        rw [hf]
        unfold recM matF
        rw [List.getD_eq_getElem?_getD, List.getElem?_map, List.getElem?_range hx]
        rfl
      have htr : Trs f vl := by rw [hf]; exact beg_trs R HL.out
      rw [← hf] at hgr
      obtain ⟨MK, hMK⟩ : ∃ M, M = recM vl (begM vl R) := ⟨_, rfl⟩
      rw [← hMK] at hmk hmkl hrec
      obtain ⟨⟨rcap, rfl⟩, _⟩ := id hmk
      rw [hmkl] at hmk ⊢
      have HMK := Lib.hid hmk
      have HMKL := Lib.hid hmkl
      have HREC := Lib.hid hrec
      have HTR := Lib.hid htr
      have HB5 := Lib.hid hB5
      have HB45 := Lib.hid hb5
      clear hmk hmkl hrec htr hf hMK hb5 s0 s1 s2 hrc hB5 bx5
      go_wp2_with fail
      refine hgr.mono ?_
      rintro e w6 ⟨gv, gvs, rfl, hga, hb6⟩
      have hB6 : Below (w.heap.size + 1) w0 w6 := HB5.out.trans (hb6.mono (by omega))
      obtain ⟨go, gc, rfl⟩ := own_len hga.out
      have hmem := fun x => grp_mem (x := x) HTR.out
      have hnod := grp_nodup HTR.out
      have hrise := grp_rise HTR.out
      have hglen := grp_len f vl
      have hgsh := grp_short f vl
      obtain ⟨G, hG⟩ : ∃ G, G = groupsP f vl := ⟨_, rfl⟩
      rw [← hG] at hga hmem hnod hrise hglen hgsh ⊢
      have hin6 : w6.ownsRow w3.heap.size 3 1 (.slice (some ⟨w3.heap.size, 0, none⟩) vl vl) vl (IV (inN vl [])) := by
        have h1 := HOWN4.out
        rw [show (Value.int .i64 0).cells = #[.int .i64 0] from rfl, toList_madeCells_one, Nat.mul_one] at h1
        have h2 : IV (inN vl []) = List.replicate vl (Value.int .i64 0) := by rw [inN_nil]; simp [IV]
        rw [h2]
        exact ownsRow_keep (ownsRow_keep h1 (fun g hg _ => HB45.out.block g hg)) (fun g hg _ => hb6.block g hg)
      have hmk6 : w6.ownsRow w4.heap.size 4 1 (.slice (some ⟨rm, 0, none⟩) vl rcap) vl (BV MK) := by
        have h1 := HMK.out.2
        rw [HMKL.out] at h1
        exact ownsRow_keep h1 (fun g hg _ => hb6.block g hg)
      have h34 : w3.heap.size < w4.heap.size := by
        have h1 := HOWN4.out
        have := (row_lt h1).1
        omega
      have h45 := HB45.out.size
      have hrm4 : w4.heap.size ≤ rm := (row_cells hmk6 _ (by rfl)).1
      have hno : ∀ i r, i < G.length → (gvs.getD i undef).ownBlock = some r → w3.heap.size < r := fun i r hi e => by
        have := (row_cells (hga.inn i hi).2 r e).1
        omega
      have hno2 : ∀ r, (Value.slice go G.length gc).ownBlock = some r → w3.heap.size < r := fun r e => by
        have := (row_cells hga.out r e).1
        omega
      have HIN6 := Lib.hid hin6
      have HMK6 := Lib.hid hmk6
      have HGA := Lib.hid hga
      have HMEM := Lib.hid hmem
      have HNOD := Lib.hid hnod
      have HRISE := Lib.hid hrise
      have HGSH := Lib.hid hgsh
      have HNO := Lib.hid hno
      have HNO2 := Lib.hid hno2
      have HB6 := Lib.hid hB6
      have hg63 : G.length ≤ 9223372036854775807 := by omega
      clear hin6 hmk6 hga hmem hnod hrise hgsh hno hno2 hB6 hb6 hG t0 t1 t2 hgr
      go_wp2
      go_loopw [30] (fun q wr => ∃ i : Nat, i ≤ G.length ∧ q = .int .i64 i ∧ wr.ownsRow w3.heap.size 3 1 (.slice (some ⟨w3.heap.size, 0, none⟩) vl vl) vl (IV (inN vl ((G.take i).flatten))) ∧ w6.grownBy wr (some w3.heap.size)) (fun q _ => G.length - (intOf q).toNat)
      case atStart => exact ⟨0, Nat.zero_le _, rfl, by simpa using HIN6.out, World.grownBy.refl _ _⟩
      case round =>
        obtain ⟨W, rfl⟩ : ∃ W : World, W = wr := ⟨_, rfl⟩
        obtain ⟨i, hi6, rfl, hinW, hgW⟩ := hrel
        have HINW := Lib.hid hinW
        have HGW := Lib.hid hgW
        clear hinW hgW
        by_cases hlt : i < G.length
        · obtain ⟨hgl0, hgi⟩ := HGA.out.inn i hlt
          have hgo := HGA.out.out
          obtain ⟨gg, gcap, eg, _, _⟩ := World.ownsRow.form hgo (by omega)
          have eg1 : go = some ⟨gg, 0, none⟩ := by cases eg; rfl
          have eg2 : gc = gcap := by cases eg; rfl
          subst eg1
          subst eg2
          have hgoW := own_grown hgo HGW.out (.inr (fun e => by have := HNO2.out _ rfl; have := Option.some.inj e; omega))
          have hgiW := own_grown hgi HGW.out (by
            cases ho : (gvs.getD i undef).ownBlock with
            | none => exact .inl rfl
            | some r => exact .inr (fun e => by have := HNO.out i r hlt ho; have := Option.some.inj e; omega))
          obtain ⟨gb, gbc, eb, _, _⟩ := World.ownsRow.form hgiW hgl0
          rw [eb] at hgiW
          have hcell : W.cell? ⟨gg, i, none⟩ = some (.slice (some ⟨gb, 0, none⟩) (G.getD i []).length gbc) := by
            rw [hgoW.cellAt i (by omega), ← eb, List.getD_eq_getElem?_getD, List.getElem?_eq_getElem (by rw [HGA.out.vl]; exact hlt)]
            rfl
          have hgm : G.getD i [] ∈ G := by
            rw [List.getD_eq_getElem?_getD, List.getElem?_eq_getElem hlt]
            exact List.getElem_mem _
          have hrs := HRISE.out _ hgm
          have hgn := HGSH.out _ hgm
          have hft := fun j hj => flat_takeJ (j := j) hlt hj HNOD.out
          have hfs := flat_succJ hlt
          have hsub : ∀ j, j < (G.getD i []).length → (G.getD i []).getD j 0 < vl ∧ f ((G.getD i []).getD j 0) ((G.getD i []).getD j 0) = true := fun j hj => (HMEM.out _).1 (List.mem_flatten.2 ⟨_, hgm, by
            generalize G.getD i [] = g at hj ⊢
            rw [List.getD_eq_getElem?_getD, List.getElem?_eq_getElem hj]
            exact List.getElem_mem _⟩)
          obtain ⟨L, hL⟩ : ∃ L, L = G.getD i [] := ⟨_, rfl⟩
          rw [← hL] at hgiW hcell hrs hgn hft hfs hsub
          have HGI := Lib.hid hgiW
          have HRS := Lib.hid hrs
          have HFT := Lib.hid hft
          have HFS := Lib.hid hfs
          have HSUB := Lib.hid hsub
          have hi0 : (0 : Int) ≤ (i : Int) := by omega
          have hi1 : (i : Int) < (G.length : Int) := by omega
          have hL63 : L.length ≤ 9223372036854775807 := by omega
          have hgbne : gb ≠ w3.heap.size := by
            have := HNO.out i gb hlt (by rw [eb]; rfl)
            omega
          clear hgl0 hgi hgo eg hgoW hgiW eb hgm hrs hft hfs hsub hL
          go_wp2
          go_loopw [36] (fun q wr => ∃ j : Nat, j ≤ L.length ∧ q = .int .i64 j ∧ wr.ownsRow w3.heap.size 3 1 (.slice (some ⟨w3.heap.size, 0, none⟩) vl vl) vl (IV (inN vl ((G.take i).flatten ++ L.take j))) ∧ w6.grownBy wr (some w3.heap.size) ∧ W.grownBy wr (some w3.heap.size)) (fun q _ => L.length - (intOf q).toNat)
          case atStart => exact ⟨0, Nat.zero_le _, rfl, by simpa using HINW.out, HGW.out, World.grownBy.refl _ _⟩
          case round =>
            obtain ⟨X, rfl⟩ : ∃ X : World, X = wr := ⟨_, rfl⟩
            obtain ⟨j, hj, rfl, hinX, hgX, hgWX⟩ := hrel
            have HINX := Lib.hid hinX
            have HGX := Lib.hid hgX
            have HGWX := Lib.hid hgWX
            by_cases hltj : j < L.length
            · obtain ⟨hx1, hx2⟩ := HSUB.out j hltj
              have hni := HFT.out j hltj
              have hrowX := own_grown HGI.out hgWX (.inr (fun e => hgbne (Option.some.inj e)))
              have hc1 : X.cell? ⟨gb, j, none⟩ = some (.int .i64 ((L.getD j 0 : Nat) : Int)) := by
                rw [hrowX.cellAt j (by omega)]
                simp [IV, List.getD_eq_getElem?_getD, List.getElem?_eq_getElem hltj]
              have hc2 : X.cell? ⟨w3.heap.size, L.getD j 0, none⟩ = some (.int .i64 0) := by
                rw [hinX.cellAt _ (by omega)]
                have h1 := inN_at vl ((G.take i).flatten ++ L.take j) (L.getD j 0) hx1
                rw [if_neg hni] at h1
                unfold IV
                rw [List.getElem?_map]
                have hl := inN_len vl ((G.take i).flatten ++ L.take j)
                rw [List.getD_eq_getElem?_getD, List.getElem?_eq_getElem (by omega)] at h1
                rw [List.getElem?_eq_getElem (by omega)]
                simp only [Option.getD_some] at h1
                rw [h1]
                rfl
              have hmkX := own_grown HMK6.out hgX (.inr (fun e => by have e2 : rm = w3.heap.size := Option.some.inj e; omega))
              have hc3 : X.cell? ⟨rm, L.getD j 0, none⟩ = some (.bool true) := by
                rw [hmkX.cellAt _ (by omega)]
                have h1 := HREC.out _ hx1
                rw [hx2] at h1
                unfold BV
                rw [List.getElem?_map]
                rw [List.getD_eq_getElem?_getD, List.getElem?_eq_getElem (by rw [HMKL.out]; exact hx1)] at h1
                rw [List.getElem?_eq_getElem (by rw [HMKL.out]; exact hx1)]
                simp only [Option.getD_some] at h1
                rw [h1]
                rfl
              have hc4 : ∀ p, j = p + 1 → X.cell? ⟨gb, p, none⟩ = some (.int .i64 ((L.getD p 0 : Nat) : Int)) ∧ L.getD p 0 < L.getD j 0 := fun p hp => by
                refine ⟨?_, by rw [hp]; exact HRS.out p (by omega)⟩
                rw [hrowX.cellAt p (by omega)]
                simp [IV, List.getD_eq_getElem?_getD, List.getElem?_eq_getElem (show p < L.length by omega)]
              obtain ⟨s1, s2⟩ := World.ownsRow.stored hinX (L.getD j 0) (.int .i64 1)
              have hst : (IV (inN vl ((G.take i).flatten ++ L.take j))).set (L.getD j 0) (.int .i64 1) = IV (inN vl ((G.take i).flatten ++ L.take (j + 1))) := by
                rw [take_snocJ hltj, ← List.append_assoc, ← inN_set]
                unfold IV
                rw [List.map_set]
              rw [hst] at s1
              have HS1 := Lib.hid s1
              have HS2 := Lib.hid s2
              have hfz := hinX.frozenAt (L.getD j 0)
              obtain ⟨x, hx⟩ : ∃ x, x = L.getD j 0 := ⟨_, rfl⟩
              rw [← hx] at hx1 hc1 hc2 hc3 hc4 hfz HS1 HS2
              have hx3 : (0 : Int) ≤ (x : Int) := by omega
              have hx4 : (x : Int) < (vl : Int) := by omega
              have hx5 : (vl : Int) ≤ (x : Int) ↔ False := by simp; omega
              have HX := Lib.hid hx
              have hj0 : (0 : Int) ≤ (j : Int) := by omega
              have hj1 : (j : Int) < (L.length : Int) := by omega
              clear hinX hgX hgWX hrowX hmkX s1 s2 hst hni hx2 hx hx5
              cases j with
              | zero =>
                clear hc4
                have hj2 : decide ((0 : Int) < (((0 : Nat)) : Int)) = false := rfl
                go_wp2
                exact ⟨⟨1, by omega, rfl, HS1.out, HGX.out.trans HS2.out, HGWX.out.trans HS2.out⟩, by simp only [intOf]; omega⟩
              | succ p =>
                obtain ⟨hc5, hc6⟩ := hc4 p rfl
                generalize L.getD p 0 = y at *
                have hj2 : decide ((0 : Int) < ((p + 1 : Nat) : Int)) = true := decide_eq_true (by omega)
                have hwp : IntKind.i64.wrap (((p + 1 : Nat) : Int) - 1) = (p : Int) := by rw [IntKind.wrap_i64]; omega
                have hp0 : ((p + 1 : Nat) : Int) - 1 = (p : Int) := by omega
                have hp1 : (0 : Int) ≤ (p : Int) := by omega
                have hp2 : (p : Int) < (L.length : Int) := by omega
                have hxy : decide ((x : Int) ≤ (y : Int)) = false := decide_eq_false (by omega)
                clear hc4
                go_wp2
                exact ⟨⟨p + 2, by omega, congrArg (Value.int .i64) (by omega), HS1.out, HGX.out.trans HS2.out, HGWX.out.trans HS2.out⟩, by simp only [intOf]; omega⟩
            · obtain rfl : j = L.length := by omega
              have hnx := HINX.out
              rw [HFS.out] at hnx
              have HNX := Lib.hid hnx
              clear hnx hinX hgX hgWX
              go_wp2
              exact ⟨⟨i + 1, hlt, congrArg (Value.int .i64) (by omega), HNX.out, HGX.out⟩, by simp only [intOf]; omega⟩
        · obtain rfl : i = G.length := by omega
          have hnx := HINW.out
          rw [List.take_length] at hnx
          have hmkW := own_grown HMK6.out HGW.out (.inr (fun e => by have e2 : rm = w3.heap.size := Option.some.inj e; omega))
          have hfin : Below w.heap.size w W := hbl.trans ((HB6.out.grown HGW.out (by have := HB6.out.size; omega) (fun k e => by cases e; omega)).mono (by omega))
          have HNX := Lib.hid hnx
          have HMKW := Lib.hid hmkW
          have HFIN := Lib.hid hfin
          clear hnx hmkW hfin
          go_wp2
          go_loopw [83] (fun q wr => ∃ k : Nat, k ≤ vl ∧ q = .int .i64 k ∧ wr = W) (fun q _ => vl - (intOf q).toNat)
          case atStart => exact ⟨0, Nat.zero_le _, rfl, rfl⟩
          case round =>
            obtain ⟨k, hk, rfl, rfl⟩ := hrel
            by_cases hltk : k < vl
            · have hk0 : (0 : Int) ≤ (k : Int) := by omega
              have hk1 : (k : Int) < (vl : Int) := by omega
              have hc1 := HNX.out.cellAt k (by omega)
              have hc3 := HMKW.out.cellAt k (by omega)
              have e1 : (IV (inN vl G.flatten))[k]? = some (.int .i64 (if f k k = true then 1 else 0)) := by
                have h1 := inN_at vl G.flatten k hltk
                have hl := inN_len vl G.flatten
                rw [List.getD_eq_getElem?_getD, List.getElem?_eq_getElem (by omega)] at h1
                unfold IV
                rw [List.getElem?_map, List.getElem?_eq_getElem (by omega)]
                simp only [Option.getD_some] at h1
                rw [h1]
                have hm := HMEM.out k
                by_cases hf : f k k = true
                · rw [if_pos (hm.2 ⟨hltk, hf⟩), if_pos hf]; rfl
                · rw [if_neg (fun h => hf (hm.1 h).2), if_neg hf]; rfl
              have e3 : (BV MK)[k]? = some (.bool (f k k)) := by
                have h1 := HREC.out _ hltk
                unfold BV
                rw [List.getElem?_map]
                rw [List.getD_eq_getElem?_getD, List.getElem?_eq_getElem (by rw [HMKL.out]; exact hltk)] at h1
                rw [List.getElem?_eq_getElem (by rw [HMKL.out]; exact hltk)]
                simp only [Option.getD_some] at h1
                rw [h1]
                rfl
              rw [e1] at hc1
              rw [e3] at hc3
              clear e1 e3
              generalize f k k = bb at *
              cases bb
              · rw [if_neg (by decide)] at hc1
                go_wp2
                exact ⟨⟨k + 1, hltk, congrArg (Value.int .i64) (by omega), trivial⟩, by simp only [intOf]; omega⟩
              · rw [if_pos rfl] at hc1
                go_wp2
                exact ⟨⟨k + 1, hltk, congrArg (Value.int .i64) (by omega), trivial⟩, by simp only [intOf]; omega⟩
            · obtain rfl : k = vl := by omega
              go_wp2
              go_ret
              exact ⟨rfl, HFIN.out⟩
end Go.Proofs.Ytljkobijoenabaa.dv
namespace Go.Proofs.Ytljkobijoenabaa.dv
open Go.ChangeShapes Go.WideShapes Go.ChangeAt Go.RowKit Go.Maps Go.WideMaps Go.WideElems Go.Deep Go.Joins
set_option linter.unusedVariables false
set_option linter.unusedSimpArgs false
set_option maxRecDepth 100000 in
theorem sleftJoins_lifted (os : Os) (started : os.Started) (H : Type) (enc : TypeId × Value → H) :
    ReturnsInHanded {} Try.checked os 11 .any (Rows.leftJoinsSpec.pre6 enc Try.prog Try.f11 Rows.leftJoinsRow.domain false) (Rows.leftJoinsSpec.post enc Try.prog Try.f11 false true false false) := by
  refine returnsInHanded_of_change (C := Try.checked) own started (by kernel_rfl) Try.func11
    (ChangeSpec.witness6 (enc := enc) (C := Try.checked) false ⟨#[], #[.agg #[.slice none 0 0, .slice none 0 0, .slice none 0 0]], []⟩ 8 (by kernel_rfl) (by kernel_rfl) (by kernel_rfl) (by kernel_rfl)) ?_
  intro W base args ds gs before hval0 hW hcnd _
  have hval : ∀ (j : Nat) t v, Try.f11.params[j]? = some t → args[j]? = some v → Value.okWide Try.prog W .any base t v := hval0
  have hW' := hW
  obtain ⟨p, q, hA0, hV, rfl, hfz, hnd⟩ := hW
  have hA : DataW.TrodAll enc Try.prog W 0 (fun _ => true) true Try.f11.params.toList args.toList ds p := hA0
  rw [Try.params11] at hA hval
  obtain ⟨v0, vs0, d0, ds0, p0, q0, hargs, rfl, rfl, h0, r0⟩ := trodAll_cons hA
  obtain ⟨rfl, rfl, rfl⟩ := trodAll_nil r0
  obtain rfl : args = #[v0] := by cases args; simp_all
  obtain ⟨rfl, rfl⟩ := trodVars_none hV
  have h0k := h0
  obtain ⟨g0, g1, g2, y0, y1, y2, n, rfl, _, _, e0, e1, e2⟩ := open_agg3 Try.underlying25 (by kernel_rfl) (by kernel_rfl) (hval 0 25 v0 rfl rfl) h0
  replace e0 : DataW.trod enc Try.prog W 0 (fun _ => true) true n 22 [g0] = some y0 := e0
  replace e1 : DataW.trod enc Try.prog W 0 (fun _ => true) true n 22 [g1] = some y1 := e1
  replace e2 : DataW.trod enc Try.prog W 0 (fun _ => true) true n 23 [g2] = some y2 := e2
  obtain ⟨ta, tl, tc, rfl, _, _, _⟩ := slice_of Try.underlying22 e0
  obtain ⟨va, vl, vc, rfl, _, _, _⟩ := slice_of Try.underlying22 e1
  obtain ⟨ra, rl, rc, rfl, hr1, hr2, _⟩ := slice_of Try.underlying23 e2
  obtain ⟨hT1, hT2⟩ := strs_of e0
  obtain ⟨hV1, hV2⟩ := strs_of e1
  obtain ⟨R, rfl, hR, hwf⟩ := rules_of e2
  clear hA0 hval0
  simp only [List.append_nil] at hW'
  have hlt : ∀ x ∈ p0, x.block < W.heap.size := fun x hx => by simpa using hW'.lt x (by simpa using hx)
  have hback0 : ∀ (W' : World), Below W.heap.size W W' → DataW.Trod enc Try.prog W' 0 (fun b => decide (b < W.heap.size)) true 25 (.agg #[.slice ta tl tc, .slice va vl vc, .slice ra R.length rc]) d0 p0 :=
    fun W' hn => Below.trod laidOut (by kernel_rfl) (of_decide_eq_true (by kernel_rfl)) h0k hn (fun x hx => hlt x (by simp [hx]))
  have hT : ∀ (W' : World), Below W.heap.size W W' → DataW.TrodAll enc Try.prog W' 0 (fun b => decide (b < W.heap.size)) true [25] [.agg #[.slice ta tl tc, .slice va vl vc, .slice ra R.length rc]] [d0] (p0) := fun W' hn => by
    have h4 := (trodAll_mk1 (hback0 _ hn))
    simpa using h4
  refine (joins_any W ta va ra tl tc vl vc rc R hR hT1 hV1 (by omega) hT2 hV2).mono fun e W' ⟨he, hb⟩ => ?_
  subst he
  exact ⟨_, rfl, _, _, _, [], p0, [], hW', trodAll_mk1 (shut_bool Try.underlying4 _), hT W' hb, rfl, hb.frame _, fun h => by cases h⟩
theorem sleftJoins_said : Rows.LeftJoinsSaid :=
  OpenClaim.holds_of_wide 11 Try.f11 rfl rfl rfl rfl rfl rfl rfl ⟨rfl, rfl, rfl, rfl, rfl⟩ rfl rfl rfl rfl rfl (by kernel_rfl) Try.func11 (by kernel_rfl)
    (of_decide_eq_true (by kernel_rfl)) (by unfold Func.isWrapper; first | (rw [if_pos (by decide +kernel)]; kernel_rfl) | (rw [if_neg (by decide +kernel)]; exact ⟨rfl, rfl⟩))
    (fun os started H enc _ => sleftJoins_lifted os started H enc)
end Go.Proofs.Ytljkobijoenabaa.dv
namespace Go.Proofs.Ytljkobijoenabaa
theorem leftJoins_holds : Rows.LeftJoinsSaid := dv.sleftJoins_said
end Go.Proofs.Ytljkobijoenabaa

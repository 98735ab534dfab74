import Derived.Test.YtldamieigigncaaGreatDoorVcbb
import Derived.Test.YtldamieigigncaaGreatDoorVcay
namespace Go.Proofs.YtldamieigigncaaGreatDoor.lx
open Go.ChangeShapes Go.WideShapes Go.ChangeAt Go.RowKit Go.Shelf Go.Lib Go.Proofs.YtldamieigigncaaGreatDoor.ky
set_option linter.unusedVariables false
set_option linter.unusedSimpArgs false
attribute [local go_sem] run_store_float
theorem keepW {α : Type} {c B B' : Nat} {E : Elem α} (hE : Keeps E) {v : Value} {ys : List α} {w1 w2 : World} (h : ListOf c E w1 (fun k => k < B) v ys) (hB : B ≤ B') (hbw : Below B w1 w2) : ListOf c E w2 (fun k => k < B') v ys := h.keep hE (fun q hq hA => ⟨Nat.lt_of_lt_of_le hA hB, hbw.block q hA⟩) hbw.size
def altL (g : Gra) (TX : Nat → List UInt8) (r : Rl) : List UInt8 := wtL r.2.2 (TX r.2.2) ++ ruleL g r.2.1
def altsL (g : Gra) (TX : Nat → List UInt8) (f : Nat) : Nat → List UInt8
  | 0 => []
  | n + 1 => altsL g TX f n ++ ((if n = 0 then [] else [32, 124]) ++ altL g TX (g.rules.getD (f + n) (0, [], 0)))
def varL (g : Gra) (TX : Nat → List UInt8) (v : Nat) : List UInt8 := altsL g TX (fromR g.rules v) (toR g.rules v - fromR g.rules v)
def printL (g : Gra) (TX : Nat → List UInt8) : Nat → List UInt8
  | 0 => []
  | v + 1 => printL g TX v ++ (g.vars.getD v [] ++ [32, 61]) ++ varL g TX v ++ [32, 59, 10]
theorem toR_le (rs : List Rl) (v : Int) : toR rs v ≤ rs.length := by
  unfold toR
  exact Nat.le_trans List.countP_le_length (by simp)
structure PrOk (g : Gra) (TX : Nat → List UInt8) : Prop where
  vars : ∀ x ∈ g.vars, x.length ≤ 1000
  terms : ∀ x ∈ g.terms, x.length ≤ 1000
  vl : g.vars.length ≤ 100
  rl : g.rules.length ≤ 300
  rules : ∀ r ∈ g.rules, r.2.1.length ≤ 100 ∧ (∀ s ∈ r.2.1, In64x s ∧ symOk g.vars.length g.terms.length s = true) ∧ r.2.2 < 18446744073709551616
  tx : ∀ F, (TX F).length ≤ 1000
  sorted : SortedL g.rules
theorem altL_len {g : Gra} {TX : Nat → List UInt8} (h : PrOk g TX) (k : Nat) : (altL g TX (g.rules.getD k (0, [], 0))).length ≤ 102000 := by
  have h1 : ∀ r : Rl, r.2.1.length ≤ 100 → (altL g TX r).length ≤ 102000 := fun r hr => by
    unfold altL
    have := ruleL_len h.vars h.terms r.2.1
    have h2 : (wtL r.2.2 (TX r.2.2)).length ≤ 1002 := by
      unfold wtL
      split
      · simp
      · have := h.tx r.2.2
        simp only [List.length_cons]; omega
    rw [List.length_append]
    omega
  rw [List.getD_eq_getElem?_getD]
  cases e : g.rules[k]? with
  | none => exact h1 _ (by simp)
  | some r => exact h1 _ (h.rules r (List.mem_of_getElem? e)).1
theorem altsL_len {g : Gra} {TX : Nat → List UInt8} (h : PrOk g TX) (f : Nat) : ∀ n, (altsL g TX f n).length ≤ 102002 * n
  | 0 => Nat.le_refl _
  | n + 1 => by
    have ih := altsL_len h f n
    have h2 := altL_len h (f + n)
    rw [altsL, List.length_append, List.length_append]
    have : (if n = 0 then ([] : List UInt8) else [32, 124]).length ≤ 2 := by split <;> simp
    omega
theorem printL_len {g : Gra} {TX : Nat → List UInt8} (h : PrOk g TX) : ∀ n, (printL g TX n).length ≤ 30602000 * n
  | 0 => Nat.le_refl _
  | n + 1 => by
    have ih := printL_len h n
    have h2 := altsL_len h (fromR g.rules n) (toR g.rules n - fromR g.rules n)
    have h3 := toR_le g.rules n
    have h4 := h.rl
    have h5 := getD_len h.vars n
    rw [printL, varL]
    simp only [List.length_append, List.length_cons, List.length_nil]
    have : 102002 * (toR g.rules n - fromR g.rules n) ≤ 102002 * 300 := Nat.mul_le_mul_left _ (by omega)
    omega
theorem bld_string {B b : Nat} {l : List UInt8} {w : World} (h : Bld B b l w) (hB : B ≤ w.heap.size) : Calls Tryz.prog 54 #[.pointer (some ⟨b, 0, none⟩)] w fun e w' => e = .returned (.string (S l)) ∧ Below B w w' := string_any B b l w h hB
theorem S_eqs (x : List UInt8) : S x ++ ByteArray.mk #[32, 61] = S (x ++ [32, 61]) := by
  have e : ByteArray.mk #[32, 61] = S [32, 61] := rfl
  rw [e, S_app_]
set_option maxHeartbeats 8000000 in
set_option maxRecDepth 100000 in
theorem print_any (w : World) (B0 : Nat) (tbo vo ro : Option Addr) (tc vc rc : Nat) (g : Gra) (TX : Nat → List UInt8) (h : GrAt w (fun k => k < B0) (.slice tbo g.terms.length tc) (.slice vo g.vars.length vc) (.slice ro g.rules.length rc) g) (hB : B0 ≤ w.heap.size) (hp : PrOk g TX) (htx : ∀ r ∈ g.rules, TxtTell w r.2.2 (TX r.2.2)) :
    Calls Tryz.prog 18 #[.agg #[.slice tbo g.terms.length tc, .slice vo g.vars.length vc, .slice ro g.rules.length rc]] w fun e w' => e = .returned (.string (S (printL g TX g.vars.length))) ∧ Below w.heap.size w w' := by
  have b0 := (Blk.new w 26 #[.slice tbo g.terms.length tc, .slice vo g.vars.length vc, .slice ro g.rules.length rc]).alloc (.cells #[.pointer none, .slice none 0 0] 101)
  have hbd := Lib.fresh_isBuilder 101 5 (w.alloc (.cells #[.slice tbo g.terms.length tc, .slice vo g.vars.length vc, .slice ro g.rules.length rc] 26))
  rw [World.size_alloc] at hbd
  have hbl : Below w.heap.size w ((w.alloc (.cells #[.slice tbo g.terms.length tc, .slice vo g.vars.length vc, .slice ro g.rules.length rc] 26)).alloc (.cells #[.pointer none, .slice none 0 0] 101)) := ((Below.refl _ w).alloc (Nat.le_refl _) _).alloc (by rw [World.size_alloc]; omega) _
  have hz : ((w.alloc (.cells #[.slice tbo g.terms.length tc, .slice vo g.vars.length vc, .slice ro g.rules.length rc] 26)).alloc (.cells #[.pointer none, .slice none 0 0] 101)).heap.size = w.heap.size + 1 + 1 := by simp
  have HV := Lib.hid (keepB keepsStr h.vs (hbl.mono hB))
  have HT := Lib.hid (keepB keepsStr h.ts (hbl.mono hB))
  have HR := Lib.hid (keepB keepsRul h.rs (hbl.mono hB))
  have HTX := Lib.hid htx
  generalize hW2 : (w.alloc (.cells #[.slice tbo g.terms.length tc, .slice vo g.vars.length vc, .slice ro g.rules.length rc] 26)).alloc (.cells #[.pointer none, .slice none 0 0] 101) = w2 at *
  have HB0 := Lib.hid b0
  have HBL := Lib.hid hbl
  have HZ := Lib.hid hz
  have HP := Lib.hid hp
  have HBD : Hid (Bld (w.heap.size + 1) (w.heap.size + 1) [] w2) := Lib.hid hbd
  have HBB := Lib.hid hB
  have e1 := b0.cell 1
  have lb0 := b0.lt
  simp only [List.getElem?_toArray, List.getElem?_cons_zero, List.getElem?_cons_succ] at e1
  have hV63 : g.vars.length ≤ 9223372036854775807 := by have := hp.vl; omega
  clear h b0 hbl hz hp hbd hB htx
  go_enter Tryz.func18, Tryz.ntmps18
  go_wp2
  clear e1 lb0
  go_loopw [12] (fun q wr => ∃ v : Nat, v ≤ g.vars.length ∧ q = .int .i64 v ∧ Bld (w.heap.size + 1) (w.heap.size + 1) (printL g TX v) wr ∧ Below (w.heap.size + 1) w2 wr) (fun q _ => g.vars.length - (intOf q).toNat)
  case atStart => exact ⟨0, Nat.zero_le _, rfl, HBD.out, Below.refl _ _⟩
  case round =>
    obtain ⟨v, hv, rfl, hbd, hbr⟩ := hrel
    have HBR := Lib.hid hbr
    have HBK := Lib.hid hbd
    have HZR := Lib.hid (show w.heap.size + 1 + 1 ≤ wr.heap.size by have := hbr.size; have := HZ.out; omega)
    clear hbd hbr
    by_cases hlt : v < g.vars.length
    · obtain ⟨nm, hnm⟩ : ∃ nm, g.vars[v]? = some nm := ⟨_, List.getElem?_eq_getElem hlt⟩
      obtain ⟨gb, cap', e, hg, hc⟩ := StrsAt.cell (keepB keepsStr HV.out (HBR.out.mono (by have := HBB.out; omega))) hnm
      injection e with e3 j1 j2
      subst e3
      clear j1 j2
      have hnl : nm.length ≤ 1000 := HP.out.vars nm (List.mem_of_getElem? hnm)
      have hpl := printL_len HP.out v
      have hpv : printL g TX (v + 1) = printL g TX v ++ (nm ++ [32, 61]) ++ varL g TX v ++ [32, 59, 10] := by
        show printL g TX v ++ (g.vars.getD v [] ++ [32, 61]) ++ varL g TX v ++ [32, 59, 10] = _
        rw [List.getD_eq_getElem?_getD, hnm]
        rfl
      have hw3 := writeL_any (w.heap.size + 1) (w.heap.size + 1) (printL g TX v) (nm ++ [32, 61]) wr HBK.out (by
        have := HP.out.vl
        simp only [List.length_append, List.length_cons, List.length_nil]
        omega) (by have := HZR.out; omega)
      have hse := S_eqs nm
      rw [← hse] at hw3
      have hs1 : (S nm).size = nm.length := rfl
      have hs2 : (ByteArray.mk #[32, 61]).size = 2 := rfl
      have HPL := Lib.hid hpl
      have HPV := Lib.hid hpv
      have HNL := Lib.hid hnl
      clear hnm hpl hpv hse
      go_wp2_with fail
      refine hw3.mono ?_
      rintro e w3 ⟨rfl, hbd3, hb3, _⟩
      have HB3 := Lib.hid (HBR.out.trans hb3)
      have HBD3 := Lib.hid hbd3
      have HZ3 := Lib.hid (show w.heap.size + 1 + 1 ≤ w3.heap.size by have := hb3.size; have := HZR.out; omega)
      clear hbd3 hb3 hw3 hc hg hs1 hs2
      have g3 := HB0.out.below HB3.out (by omega)
      have q0 := g3.cell 0
      have q1 := g3.cell 1
      have q2 := g3.cell 2
      have lq := g3.lt
      simp only [List.getElem?_toArray, List.getElem?_cons_zero, List.getElem?_cons_succ] at q0 q1 q2
      have hru := rules_any w3 (fun k => k < B0) tbo (some ⟨gb, 0, none⟩) ro g.terms.length tc g.vars.length vc rc g.rules v (keepB keepsRul HR.out (HB3.out.mono (by have := HBB.out; omega))) HP.out.sorted (by have := HP.out.rl; omega)
      obtain ⟨fr, hfr⟩ : ∃ fr, fr = fromR g.rules v := ⟨_, rfl⟩
      obtain ⟨to_, hto⟩ : ∃ to_, to_ = toR g.rules v := ⟨_, rfl⟩
      have HVAR : Hid (varL g TX v = altsL g TX fr (to_ - fr)) := Lib.hid (by rw [hfr, hto]; rfl)
      have hto2 : to_ ≤ g.rules.length := by rw [hto]; exact toR_le _ _
      have hfr2 : fr ≤ g.rules.length := by
        rw [hfr]
        unfold fromR
        exact Nat.le_trans List.countP_le_length (by simp)
      rw [← hfr, ← hto] at hru
      have HTO := Lib.hid hto2
      have HFR := Lib.hid hfr2
      have hr63 : g.rules.length ≤ 300 := HP.out.rl
      have hto63 : to_ ≤ 300 := by omega
      have hfr63 : fr ≤ 300 := by omega
      clear g3 hto2 hfr2 hfr hto
      go_wp2_with fail
      refine hru.mono ?_
      rintro e w4 ⟨rfl, hb4⟩
      have HB4 := Lib.hid (HB3.out.trans (hb4.mono (by have := HZ3.out; omega)))
      have HBD4 := Lib.hid (HBD3.out.keep hb4)
      have HZ4 := Lib.hid (Nat.le_trans HZ3.out hb4.size)
      clear hb4 hru q0 q1 q2 lq HB3 HBD3 HZ3
      obtain ⟨ls, hls⟩ : ∃ ls, ls = printL g TX v ++ (nm ++ [32, 61]) := ⟨_, rfl⟩
      rw [← hls] at HBD4
      have hlsl : ls.length ≤ 30602000 * v + 1002 := by
        rw [hls]
        have := HPL.out
        have := HNL.out
        simp only [List.length_append, List.length_cons, List.length_nil]
        omega
      have HLS := Lib.hid hls
      have HLL := Lib.hid hlsl
      clear hls hlsl
      go_wp2_with fail
      go_loopw [8] (fun q wi => ∃ i : Nat, fr ≤ i ∧ (fr < i → i ≤ to_) ∧ q = .int .i64 i ∧ Bld (w.heap.size + 1) (w.heap.size + 1) (ls ++ altsL g TX fr (i - fr)) wi ∧ Below (w.heap.size + 1) w2 wi) (fun q _ => to_ - (intOf q).toNat)
      case atStart => exact ⟨fr, Nat.le_refl _, fun h => absurd h (Nat.lt_irrefl _), rfl, by rw [Nat.sub_self]; simpa [altsL] using HBD4.out, HB4.out⟩
      case round =>
        obtain ⟨i, hi1, hi2, rfl, hbi, hri⟩ := hrel
        have HBI := Lib.hid hbi
        have HRI := Lib.hid hri
        have HZI := Lib.hid (show w.heap.size + 1 + 1 ≤ wr.heap.size by have := hri.size; have := HZ.out; omega)
        have HI2 := Lib.hid hi2
        clear hbi hri hi2
        have hal := altsL_len HP.out fr (i - fr)
        have HAL := Lib.hid hal
        clear hal
        by_cases hit : i < to_
        · have hiR : i < g.rules.length := by have := HTO.out; omega
          by_cases hif : fr < i
          · have hgt : decide ((fr : Int) < (i : Int)) = true := decide_eq_true (by omega)
            have hw5 := writeL_any (w.heap.size + 1) (w.heap.size + 1) (ls ++ altsL g TX fr (i - fr)) [32, 124] wr HBI.out (by
              have h1 := HAL.out
              have h2 := HLL.out
              have h3 := HP.out.vl
              simp only [List.length_append, List.length_cons, List.length_nil]
              omega) (by have := HZI.out; omega)
            have hsb : S [32, 124] = ByteArray.mk #[32, 124] := rfl
            rw [hsb] at hw5
            clear hsb
            go_wp2_with fail
            refine hw5.mono ?_
            rintro e wj ⟨rfl, hbdj, hbj, _⟩
            have HBJ := Lib.hid (HRI.out.trans hbj)
            have HBDJ := Lib.hid hbdj
            have HZJ := Lib.hid (show w.heap.size + 1 + 1 ≤ wj.heap.size by have := hbj.size; have := HZI.out; omega)
            clear hbdj hbj hw5
            have hpre : (if i - fr = 0 then ([] : List UInt8) else [32, 124]) = [32, 124] := if_neg (by omega)
            have HPRE := Lib.hid hpre
            clear hpre
            go_upto_region 12 with fail
            obtain ⟨r, hr⟩ : ∃ r, g.rules[i]? = some r := ⟨_, List.getElem?_eq_getElem hiR⟩
            obtain ⟨hr100, hsym, hF⟩ := HP.out.rules r (List.mem_of_getElem? hr)
            have hbw := HBL.out.trans (HBJ.out.mono (by omega))
            have HTJ := Lib.hid ((HTX.out r (List.mem_of_getElem? hr)).below hbw)
            have hlr := keepB keepsRul HR.out (HBJ.out.mono (by have := HBB.out; omega))
            obtain ⟨g2, cap2, u, e, hg2, hc0, hc1, hc2, hu⟩ := ERul.at hlr hr
            injection e with e3 j1 j2
            subst e3
            clear j1 j2
            obtain ⟨uo, uc, rfl⟩ := ListOf.form hu
            have htl := HP.out.tx r.2.2
            have hra : altL g TX (g.rules.getD (fr + (i - fr)) (0, [], 0)) = wtL r.2.2 (TX r.2.2) ++ ruleL g r.2.1 := by
              rw [show fr + (i - fr) = i by omega, List.getD_eq_getElem?_getD, hr]
              rfl
            have HRA := Lib.hid hra
            have HVJ := Lib.hid (keepW keepsStr HV.out (show B0 ≤ w.heap.size + 1 by have := HBB.out; omega) (HBJ.out.mono (by have := HBB.out; omega)))
            have HTJ2 := Lib.hid (keepW keepsStr HT.out (show B0 ≤ w.heap.size + 1 by have := HBB.out; omega) (HBJ.out.mono (by have := HBB.out; omega)))
            have HUJ := Lib.hid (keepW (w2 := wj) keepsInt hu (show B0 ≤ w.heap.size + 1 by have := HBB.out; omega) (Below.refl _ _))
            have hll : (ls ++ altsL g TX fr (i - fr) ++ [32, 124]).length ≤ 1000000000000 := by
              have h1 := HAL.out
              have h2 := HLL.out
              have h3 := HP.out.vl
              have h4 : i - fr ≤ 300 := by omega
              simp only [List.length_append, List.length_cons, List.length_nil]
              omega
            have hpr := fun (W : World) (hW : Below wj.heap.size wj W) => printRule_any W (w.heap.size + 1) (w.heap.size + 1) tbo (some ⟨gb, 0, none⟩) (some ⟨g2, 0, none⟩) tc vc g.rules.length rc r.1 r.2.2 g r.2.1 uo uc (ls ++ altsL g TX fr (i - fr) ++ [32, 124]) (TX r.2.2) (keepB keepsStr HVJ.out (hW.mono (by have := HZJ.out; omega))) (keepB keepsStr HTJ2.out (hW.mono (by have := HZJ.out; omega))) (by have := hW.size; have := HZJ.out; omega) (keepB keepsInt HUJ.out (hW.mono (by have := HZJ.out; omega))) hr100 hsym HP.out.vars HP.out.terms (HBDJ.out.keep hW) hll hF (HTJ.out.below hW) htl
            have HPR := Lib.hid hpr
            have g3 := HB0.out.below HBJ.out (by omega)
            have q0 := g3.cell 0
            have q1 := g3.cell 1
            have q2 := g3.cell 2
            have lq := g3.lt
            simp only [List.getElem?_toArray, List.getElem?_cons_zero, List.getElem?_cons_succ] at q0 q1 q2
            have lg2 := hg2
            have HRI2 := Lib.hid hiR
            clear hr hbw hlr hu hra hpr g3 hsym hr100 hF htl hg2 hll
            obtain ⟨r1, r2, r3⟩ := r
            simp only at hc0 hc1 hc2
            generalize hr2 : r2.length = rl at *
            refine wp_region_E (fun W => Below wj.heap.size wj W) [6] (by kernel_rfl) ?_
            change anyE _ _ _ _ _ _ _ _ _ (World.drew _)
            have HS : Below wj.heap.size wj (World.drew wj) := (Below.refl _ _).drew
            refine anyE_take (i := 0) (v := ?_) rfl (by kernel_rfl) (by kernel_rfl) (by kernel_rfl) (by kernel_rfl) (by kernel_rfl) (fun _ _ _ h => h) (Or.inl ⟨by kernel_rfl, ?_⟩) HS ?_
            rotate_left
            focus (intro wq hw; have h0 := (hw.cell (p := ⟨w.heap.size, 0, none⟩) lq).trans q0; have h1 := (hw.cell (p := ⟨w.heap.size, 1, none⟩) lq).trans q1; have h2 := (hw.cell (p := ⟨w.heap.size, 2, none⟩) lq).trans q2; go_simp; with_reducible rfl)
            refine anyE_take (i := 1) (v := ?_) rfl (by kernel_rfl) (by kernel_rfl) (by kernel_rfl) (by kernel_rfl) (by kernel_rfl) (fun _ _ _ h => h) (Or.inl ⟨by kernel_rfl, ?_⟩) HS ?_
            rotate_left
            focus (intro wq _; go_simp; first | with_reducible rfl | (rw [if_pos (by omega)]; first | done | with_reducible rfl) | (rw [if_neg (by omega)]; first | done | with_reducible rfl))
            refine anyE_take (i := 2) (v := ?_) rfl (by kernel_rfl) (by kernel_rfl) (by kernel_rfl) (by kernel_rfl) (by kernel_rfl) (fun _ _ _ h => h) (Or.inl ⟨by kernel_rfl, ?_⟩) HS ?_
            rotate_left
            focus (intro wq hw; have hw := (hw.cell (p := ⟨w.heap.size, 2, none⟩) lq).trans q2; go_simp; with_reducible rfl)
            refine anyE_take (i := 3) (v := ?_) rfl (by kernel_rfl) (by kernel_rfl) (by kernel_rfl) (by kernel_rfl) (by kernel_rfl) (fun _ _ _ h => h) (Or.inl ⟨by kernel_rfl, ?_⟩) HS ?_
            rotate_left
            focus (intro wq _; go_simp; first | with_reducible rfl | (rw [if_pos (by omega)]; first | done | with_reducible rfl) | (rw [if_neg (by omega)]; first | done | with_reducible rfl))
            refine anyE_take (i := 4) (v := ?_) rfl (by kernel_rfl) (by kernel_rfl) (by kernel_rfl) (by kernel_rfl) (by kernel_rfl) (fun _ _ _ h => h) (Or.inl ⟨by kernel_rfl, ?_⟩) HS ?_
            rotate_left
            focus (intro wq _; go_simp; first | with_reducible rfl | (rw [if_pos (by omega)]; first | done | with_reducible rfl) | (rw [if_neg (by omega)]; first | done | with_reducible rfl))
            refine anyE_take (i := 5) (v := ?_) rfl (by kernel_rfl) (by kernel_rfl) (by kernel_rfl) (by kernel_rfl) (by kernel_rfl) (fun _ _ _ h => h) (Or.inl ⟨by kernel_rfl, ?_⟩) HS ?_
            rotate_left
            focus (intro wq hw; have h0 := (hw.cell (p := ⟨g2, i * 3, none⟩) lg2).trans hc0; have h1 := (hw.cell (p := ⟨g2, i * 3 + 1, none⟩) lg2).trans hc1; have h2 := (hw.cell (p := ⟨g2, i * 3 + 2, none⟩) lg2).trans hc2; go_simp; with_reducible rfl)
            refine anyE_rest (by kernel_rfl) ?_
            simp only [Act.put, List.setIfInBounds_toArray, List.set_cons_succ, List.set_cons_zero, List.getElem_toArray, List.getElem_cons_succ, List.getElem_cons_zero]
            refine wpAny_ready (rs := [6]) (by kernel_rfl) (by simp) ?_
            refine AllReady.cons rfl (fun K hK => ?_) AllReady.nil
            go_simp
            go_at_call 53
            refine (HPR.out _ HS).mono ?_
            rintro e w6 ⟨rfl, hbd6, hb6, _⟩
            refine hK _ _ ?_
            clear hK K
            refine wpAny_done (by kernel_rfl) ?_ _
            have HB6 := Lib.hid (HBJ.out.trans ((HS.mono (by have := HZJ.out; omega)).trans hb6))
            have HBD6 := Lib.hid hbd6
            clear hbd6 hb6 HS q0 q1 q2 lq hc0 hc1 hc2 lg2
            go_wp2_with fail
            refine ⟨⟨i + 1, by omega, by omega, congrArg (Value.int .i64) (by omega), ?_, HB6.out⟩, by simp only [intOf]; omega⟩
            have := HBD6.out
            rw [show i + 1 - fr = (i - fr) + 1 by omega, altsL, HRA.out, HPRE.out, ← List.append_assoc, ← List.append_assoc]
            exact this
          · obtain rfl : i = fr := by omega
            have HBJ := HRI
            have HBDJ : Hid (Bld (w.heap.size + 1) (w.heap.size + 1) (ls ++ altsL g TX i (i - i) ++ []) wr) := Lib.hid (by rw [List.append_nil]; exact HBI.out)
            have HZJ := HZI
            have hpre : (if i - i = 0 then ([] : List UInt8) else [32, 124]) = [] := if_pos (by omega)
            have HPRE := Lib.hid hpre
            clear hpre
            generalize wr = wj at *
            go_upto_region 12 with fail
            obtain ⟨r, hr⟩ : ∃ r, g.rules[i]? = some r := ⟨_, List.getElem?_eq_getElem hiR⟩
            obtain ⟨hr100, hsym, hF⟩ := HP.out.rules r (List.mem_of_getElem? hr)
            have hbw := HBL.out.trans (HBJ.out.mono (by omega))
            have HTJ := Lib.hid ((HTX.out r (List.mem_of_getElem? hr)).below hbw)
            have hlr := keepB keepsRul HR.out (HBJ.out.mono (by have := HBB.out; omega))
            obtain ⟨g2, cap2, u, e, hg2, hc0, hc1, hc2, hu⟩ := ERul.at hlr hr
            injection e with e3 j1 j2
            subst e3
            clear j1 j2
            obtain ⟨uo, uc, rfl⟩ := ListOf.form hu
            have htl := HP.out.tx r.2.2
            have hra : altL g TX (g.rules.getD (i + (i - i)) (0, [], 0)) = wtL r.2.2 (TX r.2.2) ++ ruleL g r.2.1 := by
              rw [show i + (i - i) = i by omega, List.getD_eq_getElem?_getD, hr]
              rfl
            have HRA := Lib.hid hra
            have HVJ := Lib.hid (keepW keepsStr HV.out (show B0 ≤ w.heap.size + 1 by have := HBB.out; omega) (HBJ.out.mono (by have := HBB.out; omega)))
            have HTJ2 := Lib.hid (keepW keepsStr HT.out (show B0 ≤ w.heap.size + 1 by have := HBB.out; omega) (HBJ.out.mono (by have := HBB.out; omega)))
            have HUJ := Lib.hid (keepW (w2 := wj) keepsInt hu (show B0 ≤ w.heap.size + 1 by have := HBB.out; omega) (Below.refl _ _))
            have hll : (ls ++ altsL g TX i (i - i) ++ []).length ≤ 1000000000000 := by
              have h1 := HAL.out
              have h2 := HLL.out
              have h3 := HP.out.vl
              have h4 : i - i ≤ 300 := by omega
              simp only [List.length_append, List.length_cons, List.length_nil]
              omega
            have hpr := fun (W : World) (hW : Below wj.heap.size wj W) => printRule_any W (w.heap.size + 1) (w.heap.size + 1) tbo (some ⟨gb, 0, none⟩) (some ⟨g2, 0, none⟩) tc vc g.rules.length rc r.1 r.2.2 g r.2.1 uo uc (ls ++ altsL g TX i (i - i) ++ []) (TX r.2.2) (keepB keepsStr HVJ.out (hW.mono (by have := HZJ.out; omega))) (keepB keepsStr HTJ2.out (hW.mono (by have := HZJ.out; omega))) (by have := hW.size; have := HZJ.out; omega) (keepB keepsInt HUJ.out (hW.mono (by have := HZJ.out; omega))) hr100 hsym HP.out.vars HP.out.terms (HBDJ.out.keep hW) hll hF (HTJ.out.below hW) htl
            have HPR := Lib.hid hpr
            have g3 := HB0.out.below HBJ.out (by omega)
            have q0 := g3.cell 0
            have q1 := g3.cell 1
            have q2 := g3.cell 2
            have lq := g3.lt
            simp only [List.getElem?_toArray, List.getElem?_cons_zero, List.getElem?_cons_succ] at q0 q1 q2
            have lg2 := hg2
            have HRI2 := Lib.hid hiR
            clear hr hbw hlr hu hra hpr g3 hsym hr100 hF htl hg2 hll
            obtain ⟨r1, r2, r3⟩ := r
            simp only at hc0 hc1 hc2
            generalize hr2 : r2.length = rl at *
            refine wp_region_E (fun W => Below wj.heap.size wj W) [6] (by kernel_rfl) ?_
            change anyE _ _ _ _ _ _ _ _ _ (World.drew _)
            have HS : Below wj.heap.size wj (World.drew wj) := (Below.refl _ _).drew
            refine anyE_take (i := 0) (v := ?_) rfl (by kernel_rfl) (by kernel_rfl) (by kernel_rfl) (by kernel_rfl) (by kernel_rfl) (fun _ _ _ h => h) (Or.inl ⟨by kernel_rfl, ?_⟩) HS ?_
            rotate_left
            focus (intro wq hw; have h0 := (hw.cell (p := ⟨w.heap.size, 0, none⟩) lq).trans q0; have h1 := (hw.cell (p := ⟨w.heap.size, 1, none⟩) lq).trans q1; have h2 := (hw.cell (p := ⟨w.heap.size, 2, none⟩) lq).trans q2; go_simp; with_reducible rfl)
            refine anyE_take (i := 1) (v := ?_) rfl (by kernel_rfl) (by kernel_rfl) (by kernel_rfl) (by kernel_rfl) (by kernel_rfl) (fun _ _ _ h => h) (Or.inl ⟨by kernel_rfl, ?_⟩) HS ?_
            rotate_left
            focus (intro wq _; go_simp; first | with_reducible rfl | (rw [if_pos (by omega)]; first | done | with_reducible rfl) | (rw [if_neg (by omega)]; first | done | with_reducible rfl))
            refine anyE_take (i := 2) (v := ?_) rfl (by kernel_rfl) (by kernel_rfl) (by kernel_rfl) (by kernel_rfl) (by kernel_rfl) (fun _ _ _ h => h) (Or.inl ⟨by kernel_rfl, ?_⟩) HS ?_
            rotate_left
            focus (intro wq hw; have hw := (hw.cell (p := ⟨w.heap.size, 2, none⟩) lq).trans q2; go_simp; with_reducible rfl)
            refine anyE_take (i := 3) (v := ?_) rfl (by kernel_rfl) (by kernel_rfl) (by kernel_rfl) (by kernel_rfl) (by kernel_rfl) (fun _ _ _ h => h) (Or.inl ⟨by kernel_rfl, ?_⟩) HS ?_
            rotate_left
            focus (intro wq _; go_simp; first | with_reducible rfl | (rw [if_pos (by omega)]; first | done | with_reducible rfl) | (rw [if_neg (by omega)]; first | done | with_reducible rfl))
            refine anyE_take (i := 4) (v := ?_) rfl (by kernel_rfl) (by kernel_rfl) (by kernel_rfl) (by kernel_rfl) (by kernel_rfl) (fun _ _ _ h => h) (Or.inl ⟨by kernel_rfl, ?_⟩) HS ?_
            rotate_left
            focus (intro wq _; go_simp; first | with_reducible rfl | (rw [if_pos (by omega)]; first | done | with_reducible rfl) | (rw [if_neg (by omega)]; first | done | with_reducible rfl))
            refine anyE_take (i := 5) (v := ?_) rfl (by kernel_rfl) (by kernel_rfl) (by kernel_rfl) (by kernel_rfl) (by kernel_rfl) (fun _ _ _ h => h) (Or.inl ⟨by kernel_rfl, ?_⟩) HS ?_
            rotate_left
            focus (intro wq hw; have h0 := (hw.cell (p := ⟨g2, i * 3, none⟩) lg2).trans hc0; have h1 := (hw.cell (p := ⟨g2, i * 3 + 1, none⟩) lg2).trans hc1; have h2 := (hw.cell (p := ⟨g2, i * 3 + 2, none⟩) lg2).trans hc2; go_simp; with_reducible rfl)
            refine anyE_rest (by kernel_rfl) ?_
            simp only [Act.put, List.setIfInBounds_toArray, List.set_cons_succ, List.set_cons_zero, List.getElem_toArray, List.getElem_cons_succ, List.getElem_cons_zero]
            refine wpAny_ready (rs := [6]) (by kernel_rfl) (by simp) ?_
            refine AllReady.cons rfl (fun K hK => ?_) AllReady.nil
            go_simp
            go_at_call 53
            refine (HPR.out _ HS).mono ?_
            rintro e w6 ⟨rfl, hbd6, hb6, _⟩
            refine hK _ _ ?_
            clear hK K
            refine wpAny_done (by kernel_rfl) ?_ _
            have HB6 := Lib.hid (HBJ.out.trans ((HS.mono (by have := HZJ.out; omega)).trans hb6))
            have HBD6 := Lib.hid hbd6
            clear hbd6 hb6 HS q0 q1 q2 lq hc0 hc1 hc2 lg2
            go_wp2_with fail
            refine ⟨⟨i + 1, by omega, by omega, congrArg (Value.int .i64) (by omega), ?_, HB6.out⟩, by simp only [intOf]; omega⟩
            have := HBD6.out
            rw [show i + 1 - i = (i - i) + 1 by omega, altsL, HRA.out, HPRE.out, ← List.append_assoc, ← List.append_assoc]
            exact this
        · have hge : decide ((i : Int) < (to_ : Int)) = false := decide_eq_false (by omega)
          have hw5 := writeL_any (w.heap.size + 1) (w.heap.size + 1) (ls ++ altsL g TX fr (i - fr)) [32, 59, 10] wr HBI.out (by
            have h1 := HAL.out
            have h2 := HLL.out
            have h3 := HP.out.vl
            have h4 := HI2.out
            simp only [List.length_append, List.length_cons, List.length_nil]
            omega) (by have := HZI.out; omega)
          have hsb : S [32, 59, 10] = ByteArray.mk #[32, 59, 10] := rfl
          rw [hsb] at hw5
          clear hsb
          go_wp2_with fail
          refine hw5.mono ?_
          rintro e wj ⟨rfl, hbdj, hbj, _⟩
          have HBJ := Lib.hid (HRI.out.trans hbj)
          have HBDJ := Lib.hid hbdj
          clear hbdj hbj hw5
          go_wp2_with fail
          refine ⟨⟨v + 1, hlt, congrArg (Value.int .i64) (by omega), ?_, HBJ.out⟩, by simp only [intOf]; omega⟩
          have := HBDJ.out
          rw [HPV.out, HVAR.out, ← HLS.out]
          have e5 : i - fr = to_ - fr := by
            have := HI2.out
            omega
          rw [← e5]
          exact this
    · obtain rfl : v = g.vars.length := by omega
      have hst := bld_string HBK.out (by have := HZR.out; omega)
      go_wp2_with fail
      refine hst.mono ?_
      rintro e w5 ⟨rfl, hb5⟩
      have HB5 := Lib.hid (HBL.out.trans ((HBR.out.trans hb5).mono (by omega)))
      clear hb5 hst
      go_wp2_with fail
      go_ret
      exact ⟨rfl, HB5.out⟩
end Go.Proofs.YtldamieigigncaaGreatDoor.lx


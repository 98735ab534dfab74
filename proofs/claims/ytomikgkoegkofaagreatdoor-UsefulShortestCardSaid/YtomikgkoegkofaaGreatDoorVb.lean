import Derived.Test.YtomikgkoegkofaaGreatDoorUmb
import Derived.Test.YtomikgkoegkofaaGreatDoorUsh
import Derived.Test.YtomikgkoegkofaaGreatDoorVa
import Derived.Test.YtomikgkoegkofaaGreatDoorVd
import Derived.Test.YtomikgkoegkofaaGreatDoorDwn
namespace Go.Proofs.YtomikgkoegkofaaGreatDoor.dv
set_option linter.unusedVariables false
/-! what a derivation of a word from the start takes -/
theorem allB_of {S : List Bool} {F : List Int} (h : varsIn (fun s => at_ S s = true) F) : allB S false F = true := by
  unfold allB
  rw [List.all_eq_true]
  intro s hs
  by_cases h0 : s < 0
  · rw [if_pos h0]; rfl
  · rw [if_neg h0]; exact h s hs (by omega)
theorem rep_len (n : Nat) : (List.replicate n false).length = n := by simp
theorem prod_closed {R : List Rl} {n : Nat} (none : Bool) (hl : ∀ r ∈ R, 0 ≤ r.left ∧ r.left < n) : Closed R none (roundsB R none n (List.replicate n false)) :=
  rounds_closed n _ (fun r hr => by have := hl r hr; rw [rep_len]; omega) (by rw [rep_len]; omega)
theorem derives_all {R : List Rl} {n : Nat} (hl : ∀ r ∈ R, 0 ≤ r.left ∧ r.left < n) (hv : ∀ r ∈ R, ∀ s ∈ r.right, 0 ≤ s → s.toNat < n) (hn : 0 < n) {ks G : List Int} (h : replW R [0] ks 0 = (G, 0, 0)) (hG : ∀ s ∈ G, s < 0) :
    ∀ k ∈ ks, ∃ r, R[k.toNat]? = some r ∧ 0 ≤ k ∧ at_ (roundsB R false n (List.replicate n false)) r.left = true ∧ at_ (useW R n) r.left = true := by
  have hc := prod_closed false hl
  have hP : ∀ r ∈ R, varsIn (fun s => at_ (roundsB R false n (List.replicate n false)) s = true) r.right → at_ (roundsB R false n (List.replicate n false)) r.left = true := fun r hr hs => hc r hr (allB_of hs)
  obtain ⟨h1, h2⟩ := back_all _ hP ks [0] 0 G h hG
  have h0 := h1 0 (by simp) (by decide)
  have hsl : (startB (roundsB R false n (List.replicate n false)) n).length = n := by unfold startB; split <;> simp
  have hu : ClosedU R (roundsB R false n (List.replicate n false)) (useW R n) := by
    unfold useW
    exact marksR_closed n _ (by rw [hsl]; exact hv) (by rw [hsl]; omega)
  have hs0 : at_ (useW R n) 0 = true := by
    unfold useW
    have hge := marksR_ge (roundsB R false n (List.replicate n false)) R n (startB (roundsB R false n (List.replicate n false)) n)
    refine hge 0 ?_
    unfold startB
    rw [if_pos h0]
    exact (set_at _ _ _).2 (.inr ⟨rfl, by simpa using hn⟩)
  have hQ : ∀ r ∈ R, at_ (useW R n) r.left = true → varsIn (fun s => at_ (roundsB R false n (List.replicate n false)) s = true) r.right → varsIn (fun s => at_ (useW R n) s = true) r.right := fun r hr ha hb s hs hs0 => hu r hr ha (allB_of hb) s hs hs0
  have h3 := forth_all _ (fun s => at_ (useW R n) s = true) hQ hP ks [0] 0 G h hG (fun s hs _ => by
    have : s = 0 := by simpa using hs
    rw [this]; exact hs0)
  intro k hk
  obtain ⟨r, hr, e1, e2, e3, _⟩ := h2 k hk
  obtain ⟨q, hq, f1, f2⟩ := h3 k hk
  rw [e1] at f1
  cases f1
  exact ⟨r, e1, e2, e3, f2⟩
theorem derives_empty {R : List Rl} {n : Nat} (hl : ∀ r ∈ R, 0 ≤ r.left ∧ r.left < n) {ks : List Int} (h : replW R [0] ks 0 = ([], 0, 0)) : at_ (roundsB R true n (List.replicate n false)) 0 = true := by
  have hc := prod_closed true hl
  refine (back_empty (fun s => at_ (roundsB R true n (List.replicate n false)) s = true) (fun r hr hs => hc r hr ?_) ks [0] 0 h 0 (by simp)).2
  unfold allB
  rw [List.all_eq_true]
  intro s hs'
  obtain ⟨h0, h1⟩ := hs s hs'
  rw [if_neg (by omega)]
  exact h1
theorem derives_cost {R : List Rl} {n : Nat} {W : List Way} (hI : Inv R n W) (hd : Done R W) (hl : ∀ r ∈ R, 0 ≤ r.left ∧ r.left < n) {ks G : List Int} (h : replW R [0] ks 0 = (G, 0, 0)) (hG : ∀ s ∈ G, s < 0) (hs : G.length < Far) :
    (W.getD 0 noW).1 ≤ G.length ∧ ∀ k ∈ ks, ∃ r, R[k.toNat]? = some r ∧ (W.getD r.left.toNat noW).1 ≠ Far := by
  obtain ⟨h1, h2⟩ := cost_all (cost_inT hI hd (fun r hr => (hl r hr).1)) ks [0] 0 G h hG
  refine ⟨by simpa [sumC] using h1, fun k hk => ?_⟩
  obtain ⟨r, _, e1, e2⟩ := h2 k hk
  exact ⟨r, e1, fun e => by
    have e3 : (W.getD r.left.toNat noW).1 ≤ G.length := e2
    omega⟩
end Go.Proofs.YtomikgkoegkofaaGreatDoor.dv
namespace Go.Proofs.YtomikgkoegkofaaGreatDoor.dv
open Go.ChangeShapes Go.WideShapes Go.ChangeAt Go.RowKit Go.Maps Go.WideMaps Go.WideElems
set_option linter.unusedVariables false
set_option linter.unusedSimpArgs false
/-! the document's example of layer 9: what it is -/
instance ahdDec (w o : Way) : Decidable (ahd w o) := by unfold ahd; infer_instance
def trF (R : List Rl) (n : Nat) : Nat → List Way
  | 0 => List.replicate n noW
  | k + 1 => match R[k % R.length]? with
    | some r => if ahd (wayB (trF R n k) (k % R.length) r.right) ((trF R n k).getD r.left.toNat noW) then (trF R n k).set r.left.toNat (wayB (trF R n k) (k % R.length) r.right) else trF R n k
    | none => trF R n k
theorem trF_trc (R : List Rl) (n : Nat) (h : 0 < R.length) : ∀ k, Trc R n k (trF R n k)
  | 0 => .start
  | k + 1 => by
    have ih := trF_trc R n h k
    have hm := Nat.mod_lt k h
    rw [trF, List.getElem?_eq_getElem hm]
    simp only
    split
    · rename_i ha
      exact .put ih (List.getElem?_eq_getElem hm) ha
    · rename_i ha
      exact .keep ih (List.getElem?_eq_getElem hm) ha
def mixS : List Way := [(0, 2, 1), (0, 1, 3), (Far, Far, -1), (1, 1, 5)]
theorem mixS_eq : trF mixedR 4 12 = mixS := by decide +kernel
theorem mix_trc : Trc mixedR 4 12 mixS := by rw [← mixS_eq]; exact trF_trc _ _ (by decide) 12
theorem mixS_done : Done mixedR mixS := by
  refine ⟨fun i r hr => ?_, 2, mix_trc⟩
  match i, hr with
  | 0, hr => cases hr; decide +kernel
  | 1, hr => cases hr; decide +kernel
  | 2, hr => cases hr; decide +kernel
  | 3, hr => cases hr; decide +kernel
  | 4, hr => cases hr; decide +kernel
  | 5, hr => cases hr; decide +kernel
  | i + 6, hr => cases hr
theorem mix_ways {S : List Way} (hI : Inv mixedR 4 S) (hd : Done mixedR S) : S = mixS := done_one hd mixS_done (by rw [hI.len]; rfl)
theorem mix_exps {ks : List Int} (h : Exps mixedR mixS [0] ks) : ks = [1, 3] := by
  cases h with
  | term h0 h => exact absurd h0 (by decide)
  | var h0 h1 h2 h =>
    rename_i k r ks
    have hk : (k : Int) = 1 := h1.symm.trans (by decide)
    obtain rfl : k = 1 := by omega
    cases h2
    cases h with
    | term h0 h => exact absurd h0 (by decide)
    | var h0 h1 h2 h =>
      rename_i k r ks
      have hk : (k : Int) = 3 := h1.symm.trans (by decide)
      obtain rfl : k = 3 := by omega
      cases h2
      cases h with
      | nil => rfl
theorem mix_l : ∀ r ∈ mixedR, 0 ≤ r.left ∧ r.left < ((4 : Nat) : Int) := by decide
theorem mix_v : ∀ r ∈ mixedR, ∀ s ∈ r.right, 0 ≤ s → s.toNat < 4 := by decide
theorem mix_8 : ∀ r ∈ mixedR, r.right.length ≤ 8 := by decide
theorem mix_use : useW mixedR 4 = [true, true, false, false] := by decide +kernel
theorem mix_prod : roundsB mixedR false 4 (List.replicate 4 false) = [true, true, false, true] := by decide +kernel
theorem mix_null : roundsB mixedR true 4 (List.replicate 4 false) = [true, true, false, false] := by decide +kernel
def lessR : List Rl := [⟨0, [-1, 0], 0⟩, ⟨0, [1], 0⟩, ⟨1, [], 0⟩]
theorem mix_kept : mixedR.filter (keepB [true, true, false, false]) = lessR := by kernel_rfl
theorem less_ren : lessR.map (renR fun s => s) = lessR := by kernel_rfl
theorem mix_names : namesV [true, true, false, false] mixedRV 4 = [⟨#[115]⟩, ⟨#[116]⟩] := rfl
theorem mix_were : wereV [true, true, false, false] 4 = [0, 1] := rfl
theorem mix_texts : textsT (fun t => lessR.any (hasB t)) mixedRT 2 = [⟨#[97]⟩] := by
  have h0 : (lessR.any (hasB (0 : Nat))) = true := by decide +kernel
  have h1 : (lessR.any (hasB (1 : Nat))) = false := by decide +kernel
  simp only [textsT, h0, h1]
  rfl
theorem mix_map : ∀ r ∈ lessR, ∀ s, s = r.left ∨ s ∈ r.right → (mapT (mapV [true, true, false, false] 4) (fun t => lessR.any (hasB t)) mixedRT 2).atKey (.int .i64 s) (.lit (.int .i64 0)) = .lit (.int .i64 s) ∧ In64 s := by
  have h0 : (lessR.any (hasB (0 : Nat))) = true := by decide +kernel
  have h1 : (lessR.any (hasB (1 : Nat))) = false := by decide +kernel
  have hall : ∀ r ∈ lessR, ∀ s, s = r.left ∨ s ∈ r.right → s = 0 ∨ s = 1 ∨ s = -1 := by
    intro r hr s hs
    simp only [lessR, List.mem_cons, List.not_mem_nil, or_false] at hr
    rcases hr with rfl | rfl | rfl <;> simp at hs <;> omega
  intro r hr s hs
  simp only [mapT, h0, h1, if_true, if_false]
  rcases hall r hr s hs with rfl | rfl | rfl
  · exact ⟨rfl, by unfold In64; decide⟩
  · exact ⟨rfl, by unfold In64; decide⟩
  · exact ⟨rfl, by unfold In64; decide⟩
theorem less_sorted : Sorted lessR := by
  intro i j hij hj
  match i, j, hij, hj with
  | 0, 0, _, _ => decide
  | 0, 1, _, _ => decide
  | 0, 2, _, _ => decide
  | 1, 1, _, _ => decide
  | 1, 2, _, _ => decide
  | 2, 2, _, _ => decide
  | i, j + 3, _, hj => exact absurd hj (by simp [lessR])
  | 1, 0, h, _ => exact absurd h (by decide)
  | 2, 0, h, _ => exact absurd h (by decide)
  | 2, 1, h, _ => exact absurd h (by decide)
  | i + 3, 0, h, _ => exact absurd h (by omega)
  | i + 3, 1, h, _ => exact absurd h (by omega)
  | i + 3, 2, h, _ => exact absurd h (by omega)
theorem less_print : printB [⟨#[115]⟩, ⟨#[116]⟩] [⟨#[97]⟩] lessR 2 = [115, 32, 61, 32, 39, 97, 39, 32, 115, 32, 124, 32, 116, 32, 59, 10, 116, 32, 61, 32, 59, 10] := by decide +kernel
theorem less_all : ∀ r ∈ lessR, r.wt = 0 ∧ r.right.length ≤ 100 ∧ ∀ s ∈ r.right, symB [⟨#[115]⟩, ⟨#[116]⟩] [⟨#[97]⟩] s := by
  intro r hr
  simp only [lessR, List.mem_cons, List.not_mem_nil, or_false] at hr
  rcases hr with rfl | rfl | rfl
  · refine ⟨rfl, by decide, fun s hs => ?_⟩
    simp at hs
    rcases hs with rfl | rfl <;> (unfold symB; decide)
  · refine ⟨rfl, by decide, fun s hs => ?_⟩
    simp at hs
    subst hs
    unfold symB; decide
  · exact ⟨rfl, by decide, fun s hs => by cases hs⟩
end Go.Proofs.YtomikgkoegkofaaGreatDoor.dv
namespace Go.Proofs.YtomikgkoegkofaaGreatDoor.dv
open Go.ChangeShapes Go.WideShapes Go.ChangeAt Go.RowKit Go.Maps Go.WideMaps Go.WideElems
set_option linter.unusedVariables false
set_option linter.unusedSimpArgs false
/-! the document's example of layer 9: what the program answers -/
theorem txt_own {w : World} {b n : Nat} {v : Value} {L : List ByteArray} (h : w.ownsRow b 9 1 v n (SV L)) (hn : L.length = n) (hl : n ≤ 1000) : TxtAt w.heap.size w v L := by
  subst hn
  have hlt := fun k hk => (World.ownsRow.lt h k hk).2
  rcases h.2 with ⟨rfl, h0⟩ | ⟨g, cap, cur, rfl, _, hg, hnc, hcm, _⟩
  · exact ⟨none, 0, by rw [h0], by rw [h0]; exact Nat.zero_le _, fun i hi => absurd hi (by omega)⟩
  · refine ⟨_, cap, rfl, by omega, fun i hi => ⟨_, rfl, hlt g rfl, ?_⟩⟩
    rw [zero_add_addr, h.cellAt i (by omega)]
    simp [SV, List.getD_eq_getElem?_getD, List.getElem?_eq_getElem hi]
def MixAt (w : World) (t v : Addr) (r : Nat) : Prop := RulesAt w.heap.size w (.slice (some ⟨r, 0, none⟩) 6 6) mixedR ∧ TxtAt w.heap.size w (.slice (some v) 4 4) mixedRV ∧ TxtAt w.heap.size w (.slice (some t) 2 2) mixedRT
theorem mixed2_any (w : World) : Calls Tryz.prog 23 #[] w fun e w' => ∃ t v r, e = .returned (.agg #[.slice (some t) 2 2, .slice (some v) 4 4, .slice (some ⟨r, 0, none⟩) 6 6]) ∧ MixAt w' t v r ∧ Below w.heap.size w w' := by
  refine (mixed_any w).mono ?_
  rintro e w' ⟨t, v, r, h1, h2, h3, h4, h5⟩
  exact ⟨t, v, r, h1, ⟨h2, h3, h4⟩, h5⟩
theorem mreduce_any (w : World) (t v : Addr) (r : Nat) (h : MixAt w t v r) : Calls Tryz.prog 22 #[.agg #[.slice (some t) 2 2, .slice (some v) 4 4, .slice (some ⟨r, 0, none⟩) 6 6]] w fun e w' => ∃ to tc no nc ro rc wv, e = .returned (.tuple #[.agg #[.slice to 1 tc, .slice no 2 nc, .slice ro 3 rc], wv, .bool true]) ∧ TxtAt w'.heap.size w' (.slice no 2 nc) [⟨#[115]⟩, ⟨#[116]⟩] ∧ TxtAt w'.heap.size w' (.slice to 1 tc) [⟨#[97]⟩] ∧ WordAt w' wv [0, 1] ∧ RulesAt w'.heap.size w' (.slice ro 3 rc) lessR ∧ Below w.heap.size w w' := by
  have e1 : useW mixedR mixedRV.length = [true, true, false, false] := mix_use
  have hrd := reduce_any w w.heap.size (some t) (some v) (some ⟨r, 0, none⟩) 2 4 6 mixedR mixedRV mixedRT (fun s => s) h.1 h.2.1 h.2.2 (Nat.le_refl _) mix_l mix_v (fun r hr => Nat.le_trans (mix_8 r hr) (by decide)) (by decide) (by decide) (by decide) (by rw [e1]; rfl) (by rw [e1, mix_kept]; exact mix_map)
  rw [e1, mix_kept, less_ren] at hrd
  refine hrd.mono ?_
  rintro e w' ⟨tv, nv, rv, wv, b, rfl, hb, hn, ht, hw, hr, hbl⟩
  have e2 : namesV [true, true, false, false] mixedRV mixedRV.length = [⟨#[115]⟩, ⟨#[116]⟩] := mix_names
  have e3 : textsT (fun t => lessR.any (hasB t)) mixedRT mixedRT.length = [⟨#[97]⟩] := mix_texts
  have e4 : wereV [true, true, false, false] mixedRV.length = [0, 1] := mix_were
  rw [e2] at hn
  rw [e3] at ht
  rw [e4] at hw
  obtain ⟨no, nc, rfl⟩ := own_sl hn
  obtain ⟨to, tc, rfl⟩ := own_sl ht
  have hr' := hr
  obtain ⟨ro, rc, rfl, _⟩ := hr'
  exact ⟨to, tc, no, nc, ro, rc, wv, rfl, txt_own hn rfl (by decide), txt_own ht rfl (by decide), word_own hw rfl (fun x hx => by simp at hx; rcases hx with rfl | rfl <;> (unfold In64; decide)), hr, hbl⟩
theorem own_some {w : World} {B s n : Nat} {e : TypeId} {v : Value} {xs : List Value} (h : w.ownsRow B e s v n xs) (hn : 0 < n) : ∃ g c, v = .slice (some ⟨g, 0, none⟩) n c := by
  rcases h.2 with ⟨_, h0⟩ | ⟨g, c, cur, hv, _⟩
  · omega
  · exact ⟨g, c, hv⟩
theorem mcost_any (w : World) (t v : Addr) (r : Nat) (h : MixAt w t v r) : Calls Tryz.prog 9 #[.agg #[.slice (some t) 2 2, .slice (some v) 4 4, .slice (some ⟨r, 0, none⟩) 6 6]] w fun e w' => ∃ c cc d dc, e = .returned (.tuple #[.slice (some ⟨c, 0, none⟩) 4 cc, .slice (some ⟨d, 0, none⟩) 4 dc]) ∧ c < w'.heap.size ∧ d < w'.heap.size ∧ w'.cell? ⟨c, 3, none⟩ = some (.int .i64 1) ∧ w'.cell? ⟨c, 2, none⟩ = some (.int .i64 1073741824) ∧ w'.cell? ⟨d, 2, none⟩ = some (.int .i64 (-1)) ∧ Below w.heap.size w w' := by
  refine (cost_any w w.heap.size (some t) (some v) 2 2 4 4 _ mixedR h.1 (Nat.le_refl _) mix_l (by decide)).mono ?_
  rintro e w' ⟨S, cv, dv, rfl, hI, hd, hb, hc, hdv⟩
  obtain rfl := mix_ways hI hd
  obtain ⟨c, cc, rfl⟩ := own_some hc (by decide)
  obtain ⟨d, dc, rfl⟩ := own_some hdv (by decide)
  exact ⟨c, cc, d, dc, rfl, (World.ownsRow.lt hc c rfl).2, (World.ownsRow.lt hdv d rfl).2, (hc.cellAt 3 (by decide)).trans rfl, (hc.cellAt 2 (by decide)).trans rfl, (hdv.cellAt 2 (by decide)).trans rfl, hb⟩
theorem mshort_any (w : World) (t v : Addr) (r : Nat) (h : MixAt w t v r) : Calls Tryz.prog 19 #[.agg #[.slice (some t) 2 2, .slice (some v) 4 4, .slice (some ⟨r, 0, none⟩) 6 6], .int .i64 0] w fun e w' => ∃ u, e = .returned (.tuple #[u, .bool true]) ∧ WordAt w' u [1, 3] ∧ Below w.heap.size w w' := by
  refine (shortest_any w w.heap.size (some t) (some v) 2 2 4 4 _ mixedR 0 h.1 (Nat.le_refl _) mix_l (by decide) mix_8).mono ?_
  rintro e w' ⟨S, u, b, rfl, hI, hd, hb, hy, hn⟩
  obtain rfl := mix_ways hI hd
  cases b
  · have := (hn rfl).2 (by decide) (by decide)
    exact absurd this (by decide)
  · obtain ⟨_, _, _, ks, hk, hu⟩ := hy rfl
    obtain rfl := mix_exps hk
    exact ⟨u, rfl, word_own hu rfl (fun x hx => by simp at hx; rcases hx with rfl | rfl <;> (unfold In64; decide)), hb⟩
theorem mprint_any (w : World) (B : Nat) (to no ro : Option Addr) (tc nc rc : Nat) (hR : RulesAt B w (.slice ro 3 rc) lessR) (hV : TxtAt B w (.slice no 2 nc) [⟨#[115]⟩, ⟨#[116]⟩]) (hT : TxtAt B w (.slice to 1 tc) [⟨#[97]⟩]) (hB : B ≤ w.heap.size) : Calls Tryz.prog 24 #[.agg #[.slice to 1 tc, .slice no 2 nc, .slice ro 3 rc]] w fun e w' => e = .returned (.string ⟨#[115, 32, 61, 32, 39, 97, 39, 32, 115, 32, 124, 32, 116, 32, 59, 10, 116, 32, 61, 32, 59, 10]⟩) ∧ Below w.heap.size w w' := by
  have h := print_any w B to no ro tc nc rc lessR [⟨#[115]⟩, ⟨#[116]⟩] [⟨#[97]⟩] hR hV hT hB less_sorted (by decide) (by decide) less_all (fun x hx => by simp at hx; rcases hx with rfl | rfl <;> decide) (fun x hx => by simp at hx; subst hx; decide)
  have e1 : printB [⟨#[115]⟩, ⟨#[116]⟩] [⟨#[97]⟩] lessR [(⟨#[115]⟩ : ByteArray), ⟨#[116]⟩].length = [115, 32, 61, 32, 39, 97, 39, 32, 115, 32, 124, 32, 116, 32, 59, 10, 116, 32, 61, 32, 59, 10] := less_print
  rw [e1] at h
  exact h
theorem lit_readB (w : World) (S : List Bool) (n : Nat) (cs : Array Value) (hc : cs = (BV S).toArray) (hn : S.length = n) (hl : n ≤ 1000) : ReadB (w.alloc (.cells cs 4)) (.slice (some ⟨w.heap.size, 0, none⟩) n n) S := by
  subst hn
  subst hc
  refine ⟨_, _, rfl, by unfold maxLen; omega, fun i hi => ⟨_, rfl, by simp, ?_⟩⟩
  rw [zero_add_addr, (Blk.new w 4 (BV S).toArray).cell i]
  simp [BV, List.getD_eq_getElem?_getD, List.getElem?_eq_getElem hi]
end Go.Proofs.YtomikgkoegkofaaGreatDoor.dv
namespace Go.Proofs.YtomikgkoegkofaaGreatDoor.dv
open Go.ChangeShapes Go.WideShapes Go.ChangeAt Go.RowKit Go.Maps Go.WideMaps Go.WideElems
set_option linter.unusedVariables false
set_option linter.unusedSimpArgs false
/-! the document's example of layer 9 is as said -/
theorem mprod_any (w : World) (t v : Addr) (r : Nat) (h : MixAt w t v r) : Calls Tryz.prog 13 #[.agg #[.slice (some t) 2 2, .slice (some v) 4 4, .slice (some ⟨r, 0, none⟩) 6 6]] w fun e w' => ∃ u, e = .returned u ∧ ReadB w' u [true, true, false, true] ∧ Below w.heap.size w w' := by
  refine (productive_any w w.heap.size (some t) (some v) 2 2 4 4 _ mixedR h.1 (Nat.le_refl _) mix_l (by decide)).mono ?_
  rintro e w' ⟨u, rfl, hm, hb⟩
  rw [mix_prod] at hm
  exact ⟨u, rfl, hm.read, hb⟩
theorem mnull_any (w : World) (t v : Addr) (r : Nat) (h : MixAt w t v r) : Calls Tryz.prog 15 #[.agg #[.slice (some t) 2 2, .slice (some v) 4 4, .slice (some ⟨r, 0, none⟩) 6 6]] w fun e w' => ∃ u, e = .returned u ∧ ReadB w' u [true, true, false, false] ∧ Below w.heap.size w w' := by
  refine (nullable_any w w.heap.size (some t) (some v) 2 2 4 4 _ mixedR h.1 (Nat.le_refl _) mix_l (by decide)).mono ?_
  rintro e w' ⟨u, rfl, hm, hb⟩
  rw [mix_null] at hm
  exact ⟨u, rfl, hm.read, hb⟩
theorem museful_any (w : World) (t v : Addr) (r : Nat) (h : MixAt w t v r) : Calls Tryz.prog 17 #[.agg #[.slice (some t) 2 2, .slice (some v) 4 4, .slice (some ⟨r, 0, none⟩) 6 6]] w fun e w' => ∃ u, e = .returned u ∧ ReadB w' u [true, true, false, false] ∧ Below w.heap.size w w' := by
  refine (useful_any w w.heap.size (some t) (some v) 2 2 4 4 _ mixedR h.1 (Nat.le_refl _) mix_l mix_v (by decide)).mono ?_
  rintro e w' ⟨u, rfl, hm, hb⟩
  rw [mix_use] at hm
  exact ⟨u, rfl, hm.read, hb⟩
set_option maxRecDepth 100000 in
set_option maxHeartbeats 8000000 in
theorem ualive_any (w : World) : Calls Tryz.prog 6 #[] w fun e w' => e = .returned (.bool true) ∧ Below w.heap.size w w' := by
  go_enter Tryz.func6, Tryz.ntmps6
  go_wp2_with fail
  refine (mixed2_any w).mono ?_
  rintro e w1 ⟨t1, v1, r1, rfl, hM1, hb1⟩
  have hrd := mreduce_any w1 t1 v1 r1 hM1
  clear hM1
  go_wp2_with fail
  refine hrd.mono ?_
  rintro e w2 ⟨to, tc, no, nc, ro, rc, wv, rfl, hN, hT, hW, hR, hb2⟩
  have HB2 := Lib.hid (hb1.trans (hb2.mono hb1.size))
  obtain ⟨wo, wc, rfl, _⟩ := id hW
  have hA := below_al w2 (.cells #[.slice to 1 tc, .slice no 2 nc, .slice ro 3 rc] 25)
  have HBX := Lib.hid (Blk.new w2 25 #[.slice to 1 tc, .slice no 2 nc, .slice ro 3 rc])
  have HA := Lib.hid hA
  have HN := Lib.hid hN
  have HT := Lib.hid hT
  have HW := Lib.hid hW
  have HR := Lib.hid hR
  clear hN hT hW hR hA hb1 hb2 hrd
  go_wp2_with fail
  generalize hW2' : w2.alloc (.cells #[.slice to 1 tc, .slice no 2 nc, .slice ro 3 rc] 25) = v2 at *
  have hzv : w2.heap.size ≤ v2.heap.size := HA.out.size
  have HC2 := HA
  have HX2 := HBX
  have HZV := Lib.hid hzv
  clear hzv hW2'
  refine (mixed2_any v2).mono ?_
  rintro e v3 ⟨t3, q3, r3, rfl, hM3, hb3⟩
  have HC3 := Lib.hid (HC2.out.trans (hb3.mono HC2.out.size))
  have HX3 := Lib.hid (HX2.out.below hb3 HX2.out.lt)
  have hco := mcost_any v3 t3 q3 r3 hM3
  clear hM3 hb3
  go_wp2_with fail
  refine hco.mono ?_
  rintro e v4 ⟨c, cc, d, dc, rfl, hcl, hdl, hc3, hc2, hd2, hb4⟩
  have HC4 := Lib.hid (HC3.out.trans (hb4.mono HC3.out.size))
  have HX4 := Lib.hid (HX3.out.below hb4 HX3.out.lt)
  have HCC := Lib.hid (show v4.cell? ⟨c, 3, none⟩ = some (.int .i64 1) ∧ v4.cell? ⟨c, 2, none⟩ = some (.int .i64 1073741824) ∧ v4.cell? ⟨d, 2, none⟩ = some (.int .i64 (-1)) from ⟨hc3, hc2, hd2⟩)
  have HCL := Lib.hid (show c < v4.heap.size ∧ d < v4.heap.size from ⟨hcl, hdl⟩)
  have HK4 := Lib.hid (Below.refl v4.heap.size v4)
  clear hb4 hco hc3 hc2 hd2 hcl hdl
  go_wp2_with fail
  refine (mixed2_any v4).mono ?_
  rintro e v5 ⟨t5, q5, r5, rfl, hM5, hb5⟩
  have HC5 := Lib.hid (HC4.out.trans (hb5.mono HC4.out.size))
  have HX5 := Lib.hid (HX4.out.below hb5 HX4.out.lt)
  have HK5 := Lib.hid (HK4.out.trans (hb5.mono HK4.out.size))
  have hsh := mshort_any v5 t5 q5 r5 hM5
  clear hM5 hb5
  go_wp2_with fail
  refine hsh.mono ?_
  rintro e v6 ⟨u6, rfl, hu6, hb6⟩
  have HC6 := Lib.hid (HC5.out.trans (hb6.mono HC5.out.size))
  have HX6 := Lib.hid (HX5.out.below hb6 HX5.out.lt)
  have HK6 := Lib.hid (HK5.out.trans (hb6.mono HK5.out.size))
  obtain ⟨uo, uc, rfl, _⟩ := id hu6
  have HU := Lib.hid hu6
  have HL6 := Lib.hid (Below.refl v6.heap.size v6)
  clear hb6 hsh hu6
  have hA7 := below_al v6 (.cells #[.int .i64 0, .int .i64 1] 3)
  have hsm := rsame_self (v6.alloc (.cells #[.int .i64 0, .int .i64 1] 3)) (.slice wo 2 wc) (.slice (some ⟨v6.heap.size, 0, none⟩) 2 2) [0, 1] ((HW.out.below HC6.out).below hA7) (lit_row v6 [0, 1] 2 _ rfl rfl (fun x hx => by simp at hx; rcases hx with rfl | rfl <;> (unfold In64; decide)) (by decide)).word (by decide)
  have HA7 := Lib.hid hA7
  clear hA7
  go_wp2_with fail
  refine hsm.mono ?_
  rintro e v7 ⟨rfl, hb7⟩
  replace hb7 := HA7.out.trans (hb7.mono HA7.out.size)
  have HC7 := Lib.hid (HC6.out.trans (hb7.mono HC6.out.size))
  have HX7 := Lib.hid (HX6.out.below hb7 HX6.out.lt)
  have HK7 := Lib.hid (HK6.out.trans (hb7.mono HK6.out.size))
  have HL7 := Lib.hid (HL6.out.trans (hb7.mono HL6.out.size))
  have x0 := HX7.out.cell 0
  have x1 := HX7.out.cell 1
  have x2 := HX7.out.cell 2
  simp only [List.getElem?_toArray, List.getElem?_cons_zero, List.getElem?_cons_succ] at x0 x1 x2
  have hpr := mprint_any v7 w2.heap.size to no ro tc nc rc (HR.out.below HC7.out) (HN.out.below HC7.out) (HT.out.below HC7.out) HC7.out.size
  clear hb7 hsm
  go_wp2_with fail
  refine hpr.mono ?_
  rintro e v8 ⟨rfl, hb8⟩
  have HC8 := Lib.hid (HC7.out.trans (hb8.mono HC7.out.size))
  have HX8 := Lib.hid (HX7.out.below hb8 HX7.out.lt)
  have HK8 := Lib.hid (HK7.out.trans (hb8.mono HK7.out.size))
  have HL8 := Lib.hid (HL7.out.trans (hb8.mono HL7.out.size))
  clear hb8 hpr x0 x1 x2
  go_wp2_with fail
  refine (mixed2_any v8).mono ?_
  rintro e v9 ⟨t9, q9, r9, rfl, hM9, hb9⟩
  have HC9 := Lib.hid (HC8.out.trans (hb9.mono HC8.out.size))
  have HX9 := Lib.hid (HX8.out.below hb9 HX8.out.lt)
  have HK9 := Lib.hid (HK8.out.trans (hb9.mono HK8.out.size))
  have HL9 := Lib.hid (HL8.out.trans (hb9.mono HL8.out.size))
  have hpp := mprod_any v9 t9 q9 r9 hM9
  clear hM9 hb9
  go_wp2_with fail
  refine hpp.mono ?_
  rintro e v10 ⟨p10, rfl, hrd10, hb10⟩
  have HC10 := Lib.hid (HC9.out.trans (hb10.mono HC9.out.size))
  have HX10 := Lib.hid (HX9.out.below hb10 HX9.out.lt)
  have HK10 := Lib.hid (HK9.out.trans (hb10.mono HK9.out.size))
  have HL10 := Lib.hid (HL9.out.trans (hb10.mono HL9.out.size))
  obtain ⟨po10, pc10, rfl, _⟩ := id hrd10
  have hA11 := below_al v10 (.cells #[.bool true, .bool true, .bool false, .bool true] 4)
  have hbs := bsame_any (v10.alloc (.cells #[.bool true, .bool true, .bool false, .bool true] 4)) _ (.slice (some ⟨v10.heap.size, 0, none⟩) 4 4) [true, true, false, true] (hrd10.below hA11) (lit_readB v10 [true, true, false, true] 4 _ rfl rfl (by decide))
  have HA11 := Lib.hid hA11
  clear hb10 hpp hrd10 hA11
  go_wp2_with fail
  refine hbs.mono ?_
  rintro e v11 ⟨rfl, hb11⟩
  replace hb11 := HA11.out.trans (hb11.mono HA11.out.size)
  have HC11 := Lib.hid (HC10.out.trans (hb11.mono HC10.out.size))
  have HX11 := Lib.hid (HX10.out.below hb11 HX10.out.lt)
  have HK11 := Lib.hid (HK10.out.trans (hb11.mono HK10.out.size))
  have HL11 := Lib.hid (HL10.out.trans (hb11.mono HL10.out.size))
  clear hb11 hbs
  go_wp2_with fail
  refine (mixed2_any v11).mono ?_
  rintro e v12 ⟨t12, q12, r12, rfl, hM12, hb12⟩
  have HC12 := Lib.hid (HC11.out.trans (hb12.mono HC11.out.size))
  have HX12 := Lib.hid (HX11.out.below hb12 HX11.out.lt)
  have HK12 := Lib.hid (HK11.out.trans (hb12.mono HK11.out.size))
  have HL12 := Lib.hid (HL11.out.trans (hb12.mono HL11.out.size))
  have hpp := museful_any v12 t12 q12 r12 hM12
  clear hM12 hb12
  go_wp2_with fail
  refine hpp.mono ?_
  rintro e v13 ⟨p13, rfl, hrd13, hb13⟩
  have HC13 := Lib.hid (HC12.out.trans (hb13.mono HC12.out.size))
  have HX13 := Lib.hid (HX12.out.below hb13 HX12.out.lt)
  have HK13 := Lib.hid (HK12.out.trans (hb13.mono HK12.out.size))
  have HL13 := Lib.hid (HL12.out.trans (hb13.mono HL12.out.size))
  obtain ⟨po13, pc13, rfl, _⟩ := id hrd13
  have hA14 := below_al v13 (.cells #[.bool true, .bool true, .bool false, .bool false] 4)
  have hbs := bsame_any (v13.alloc (.cells #[.bool true, .bool true, .bool false, .bool false] 4)) _ (.slice (some ⟨v13.heap.size, 0, none⟩) 4 4) [true, true, false, false] (hrd13.below hA14) (lit_readB v13 [true, true, false, false] 4 _ rfl rfl (by decide))
  have HA14 := Lib.hid hA14
  clear hb13 hpp hrd13 hA14
  go_wp2_with fail
  refine hbs.mono ?_
  rintro e v14 ⟨rfl, hb14⟩
  replace hb14 := HA14.out.trans (hb14.mono HA14.out.size)
  have HC14 := Lib.hid (HC13.out.trans (hb14.mono HC13.out.size))
  have HX14 := Lib.hid (HX13.out.below hb14 HX13.out.lt)
  have HK14 := Lib.hid (HK13.out.trans (hb14.mono HK13.out.size))
  have HL14 := Lib.hid (HL13.out.trans (hb14.mono HL13.out.size))
  clear hb14 hbs
  go_wp2_with fail
  refine (mixed2_any v14).mono ?_
  rintro e v15 ⟨t15, q15, r15, rfl, hM15, hb15⟩
  have HC15 := Lib.hid (HC14.out.trans (hb15.mono HC14.out.size))
  have HX15 := Lib.hid (HX14.out.below hb15 HX14.out.lt)
  have HK15 := Lib.hid (HK14.out.trans (hb15.mono HK14.out.size))
  have HL15 := Lib.hid (HL14.out.trans (hb15.mono HL14.out.size))
  have hpp := mnull_any v15 t15 q15 r15 hM15
  clear hM15 hb15
  go_wp2_with fail
  refine hpp.mono ?_
  rintro e v16 ⟨p16, rfl, hrd16, hb16⟩
  have HC16 := Lib.hid (HC15.out.trans (hb16.mono HC15.out.size))
  have HX16 := Lib.hid (HX15.out.below hb16 HX15.out.lt)
  have HK16 := Lib.hid (HK15.out.trans (hb16.mono HK15.out.size))
  have HL16 := Lib.hid (HL15.out.trans (hb16.mono HL15.out.size))
  obtain ⟨po16, pc16, rfl, _⟩ := id hrd16
  have hA17 := below_al v16 (.cells #[.bool true, .bool true, .bool false, .bool false] 4)
  have hbs := bsame_any (v16.alloc (.cells #[.bool true, .bool true, .bool false, .bool false] 4)) _ (.slice (some ⟨v16.heap.size, 0, none⟩) 4 4) [true, true, false, false] (hrd16.below hA17) (lit_readB v16 [true, true, false, false] 4 _ rfl rfl (by decide))
  have HA17 := Lib.hid hA17
  clear hb16 hpp hrd16 hA17
  go_wp2_with fail
  refine hbs.mono ?_
  rintro e v17 ⟨rfl, hb17⟩
  replace hb17 := HA17.out.trans (hb17.mono HA17.out.size)
  have HC17 := Lib.hid (HC16.out.trans (hb17.mono HC16.out.size))
  have HX17 := Lib.hid (HX16.out.below hb17 HX16.out.lt)
  have HK17 := Lib.hid (HK16.out.trans (hb17.mono HK16.out.size))
  have HL17 := Lib.hid (HL16.out.trans (hb17.mono HL16.out.size))
  clear hb17 hbs
  obtain ⟨y1, y2, y3⟩ := HCC.out
  obtain ⟨l1, l2⟩ := HCL.out
  have z1 := (HK17.out.cell (p := ⟨c, 3, none⟩) l1).trans y1
  have z2 := (HK17.out.cell (p := ⟨c, 2, none⟩) l1).trans y2
  have z3 := (HK17.out.cell (p := ⟨d, 2, none⟩) l2).trans y3
  clear y1 y2 y3
  have hA18 := below_al v17 (.cells #[.int .i64 1, .int .i64 3] 3)
  have hsm := rsame_self (v17.alloc (.cells #[.int .i64 1, .int .i64 3] 3)) (.slice uo 2 uc) (.slice (some ⟨v17.heap.size, 0, none⟩) 2 2) [1, 3] ((HU.out.below HL17.out).below hA18) (lit_row v17 [1, 3] 2 _ rfl rfl (fun x hx => by simp at hx; rcases hx with rfl | rfl <;> (unfold In64; decide)) (by decide)).word (by decide)
  have HA18 := Lib.hid hA18
  clear hA18
  go_wp2_with fail
  refine hsm.mono ?_
  rintro e v18 ⟨rfl, hb18⟩
  replace hb18 := HA18.out.trans (hb18.mono HA18.out.size)
  have HC18 := Lib.hid (HC17.out.trans (hb18.mono HC17.out.size))
  have HX18 := Lib.hid (HX17.out.below hb18 HX17.out.lt)
  clear hb18 hsm
  go_wp2
  go_ret
  exact ⟨rfl, HB2.out.trans (HC18.out.mono HB2.out.size)⟩
end Go.Proofs.YtomikgkoegkofaaGreatDoor.dv

import Derived.Test.YtomikgkoegkofaaGreatDoorDvj
namespace Go.Proofs.YtomikgkoegkofaaGreatDoor.dv
open Go.ChangeShapes Go.WideShapes Go.ChangeAt Go.RowKit Go.Maps Go.WideMaps Go.WideElems
set_option linter.unusedVariables false
set_option linter.unusedSimpArgs false
/-! steps, one behind the other -/
def replW (R : List Rl) : List Int → List Int → Nat → List Int × Nat × Int
  | F, [], _ => (F, 0, 0)
  | F, k :: ks, i => if refW R (fvW F) k = 0 then replW R (stepL R F k) ks (i + 1) else ([], i, refW R (fvW F) k)
theorem lead_app (D X : List Int) (h : ∀ x ∈ D, x < 0) : leadW (D ++ X) = D ++ leadW X ∧ restW (D ++ X) = restW X := by
  have ht : ∀ x ∈ D, decide (x < 0) = true := fun x hx => by simpa using h x hx
  exact ⟨List.takeWhile_append_of_pos ht, List.dropWhile_append_of_pos ht⟩
theorem lead_var (D X : List Int) (v : Int) (h : ∀ x ∈ D, x < 0) (hv : 0 ≤ v) : leadW (D ++ v :: X) = D ∧ restW (D ++ v :: X) = v :: X ∧ fvW (D ++ v :: X) = v := by
  obtain ⟨h1, h2⟩ := lead_app D (v :: X) h
  have e1 : leadW (v :: X) = [] := by unfold leadW; rw [List.takeWhile_cons, if_neg (by simp; omega)]
  have e2 : restW (v :: X) = v :: X := by unfold restW; rw [List.dropWhile_cons, if_neg (by simp; omega)]
  rw [e1, List.append_nil] at h1
  rw [e2] at h2
  exact ⟨h1, h2, by unfold fvW; rw [h2]; rfl⟩
theorem fv_none (D : List Int) (h : ∀ x ∈ D, x < 0) : fvW D = -1 := by
  have := (lead_app D [] h).2
  rw [List.append_nil] at this
  unfold fvW
  rw [this]
  rfl
theorem step_parts (R : List Rl) (D T0 : List Int) (v k : Int) (h : ∀ x ∈ D, x < 0) (hv : 0 ≤ v) : stepL R (D ++ (T0 ++ [v]).reverse) k = D ++ (T0 ++ (ruleW R k).reverse).reverse := by
  rw [List.reverse_append, List.reverse_singleton, List.singleton_append]
  obtain ⟨h1, h2, _⟩ := lead_var D T0.reverse v h hv
  unfold stepL
  rw [h1, h2]
  simp
def ReplR (R : List Rl) (F ks : List Int) (w : World) : Ending → World → Prop := fun e w' => ∃ u, e = .returned (.tuple #[u, .int .i64 (replW R F ks 0).2.1, .int .i64 (replW R F ks 0).2.2]) ∧ ((replW R F ks 0).2.2 = 0 → w'.ownsRow w.heap.size 3 1 u (replW R F ks 0).1.length (IV (replW R F ks 0).1)) ∧ ((replW R F ks 0).2.2 ≠ 0 → u = .slice none 0 0) ∧ Below w.heap.size w w'
theorem parts_new {B n : Nat} {w1 : World} {vd vt : Value} {s : List Int} (ho1 : w1.ownsRow B 3 1 vd 0 (IV [])) (ho2 : w1.ownsRow B 3 1 vt n (IV s)) (hn : s.length = n) (hne : vd.ownBlock = none ∨ vd.ownBlock ≠ vt.ownBlock) (hB : B ≤ w1.heap.size) :
    Parts B (w1.alloc (.cells #[vd, vt] 101)) w1.heap.size [] s ∧ Below B w1 (w1.alloc (.cells #[vd, vt] 101)) := by
  subst hn
  exact ⟨⟨hB, vd, vt, Blk.new _ _ _, ho1.alloc _, ho2.alloc _, hne⟩, (Below.refl B w1).alloc hB _⟩
theorem Parts.below {B : Nat} {w w' : World} {b : Nat} {D T : List Int} (h : Parts B w b D T) (hb : Below w.heap.size w w') : Parts B w' b D T := by
  obtain ⟨hB, vd, vt, h1, h2, h3, h4⟩ := h
  exact ⟨hB, vd, vt, h1.below hb h1.lt, ownsRow_keep h2 (fun g hg _ => hb.block g hg), ownsRow_keep h3 (fun g hg _ => hb.block g hg), h4⟩
/-- first, told by the form alone -/
def Fst2 (B : Nat) (w0 w' : World) (b : Nat) (F : List Int) : Prop := ∃ D' T', D' ++ T'.reverse = F ∧ (∀ x ∈ D', x < 0) ∧ Parts B w' b D' T' ∧ Below B w0 w' ∧ ((T' = [] ∧ ¬ 0 ≤ fvW F) ∨ ∃ T0, T' = T0 ++ [fvW F] ∧ 0 ≤ fvW F)
theorem first_form (w : World) (B b : Nat) (D T : List Int) (hp : Parts B w b D T) (hneg : ∀ x ∈ D, x < 0) (hl : D.length + T.length ≤ 1000000) (hBw : B ≤ w.heap.size) :
    Calls Tryz.prog 74 #[.pointer (some ⟨b, 0, none⟩)] w fun e w' => e = .returned (.int .i64 (fvW (D ++ T.reverse))) ∧ Fst2 B w w' b (D ++ T.reverse) := by
  refine (first_any w B b D T hp hneg hl hBw).mono ?_
  rintro e w' ⟨D', T', ⟨h1, h2, h3, h4⟩, ⟨rfl, rfl⟩ | ⟨T0, v, rfl, hv, rfl⟩⟩
  · have e1 : fvW (D ++ T.reverse) = -1 := by
      rw [← h1, List.reverse_nil, List.append_nil]
      exact fv_none D' h2
    rw [e1]
    exact ⟨rfl, D', [], h1, h2, h3, h4, .inl ⟨rfl, by rw [e1]; decide⟩⟩
  · have e1 : fvW (D ++ T.reverse) = v := by
      rw [← h1, List.reverse_append, List.reverse_singleton, List.singleton_append]
      exact (lead_var D' T0.reverse v h2 hv).2.2
    refine ⟨by rw [e1], D', T0 ++ [v], h1, h2, h3, h4, .inr ⟨T0, by rw [e1], by rw [e1]; exact hv⟩⟩
set_option maxRecDepth 100000 in
set_option maxHeartbeats 1000000 in
theorem replay_any (w : World) (B0 : Nat) (ta va : Option Addr) (tl tc vl vc : Nat) (rv v kv : Value) (R : List Rl) (F ks : List Int) (hR : RulesAt B0 w rv R) (hB : B0 ≤ w.heap.size) (h : RowAt w v F) (hk : RowAt w kv ks) (hks : ks.length ≤ 4096) (hF : F.length + 8 * ks.length ≤ 100000) (h8 : ∀ r ∈ R, r.right.length ≤ 8) :
    Calls Tryz.prog 47 #[.agg #[.slice ta tl tc, .slice va vl vc, rv], v, kv] w (ReplR R F ks w) := by
  obtain ⟨ra, rc, rfl, hn, hrl⟩ := id hR
  have b0 := Blk.new w 25 #[.slice ta tl tc, .slice va vl vc, .slice ra R.length rc]
  have hbl : Below w.heap.size w (w.alloc (.cells #[.slice ta tl tc, .slice va vl vc, .slice ra R.length rc] 25)) := (Below.refl _ w).alloc (Nat.le_refl _) _
  have hR1 : RulesAt B0 (w.alloc (.cells #[.slice ta tl tc, .slice va vl vc, .slice ra R.length rc] 25)) (.slice ra R.length rc) R := hR.below (hbl.mono hB)
  have h1 := h.below hbl
  have hk1 := hk.below hbl
  obtain ⟨ao, cap, rfl, hcp, hcm, hcn, hcin, hcc⟩ := h
  obtain ⟨ko, kcap, rfl, kcp, kcm, kcn, kcin, kcc⟩ := hk
  generalize hW0 : w.alloc (.cells #[.slice ta tl tc, .slice va vl vc, .slice ra R.length rc] 25) = w0 at *
  have hz0 : w0.heap.size = w.heap.size + 1 := by rw [← hW0]; simp
  have hbg := begin_any w0 (w.heap.size + 1) cap ao F (fun j hj => by
    obtain ⟨a, e, hab, hca⟩ := hcc j hj
    exact ⟨a, e, by omega, (hbl.cell (p := a.add j) (by rw [add_block]; exact hab)).trans hca⟩) (by omega) (by omega)
  have KC := Lib.hid kcc
  have HR1 := Lib.hid hR1
  have H8 := Lib.hid h8
  clear hcc kcc hR hrl hcin kcin h8 hR1
  go_enter Tryz.func47, Tryz.ntmps47
  go_wp2_with fail
  refine hbg.mono ?_
  rintro e w1 ⟨vd, vt, rfl, ho1, ho2, hne, hb1⟩
  obtain ⟨ad, cd, rfl⟩ := own_len ho1
  obtain ⟨at_, ct, rfl⟩ := own_len ho2
  have n0 := Blk.new w1 101 #[.slice none 0 0, .slice none 0 0]
  have x0 := n0.cell 0
  have x1 := n0.cell 1
  have y0 := n0.frozen 0
  have y1 := n0.frozen 1
  simp only [List.getElem?_toArray, List.getElem?_cons_zero, List.getElem?_cons_succ] at x0 x1
  clear hbg
  go_wp2
  obtain ⟨hP0, hbl0⟩ := parts_new ho1 ho2 (by simp) hne (by have := hb1.size; omega)
  have hBb : Below (w.heap.size + 1) w0 (w1.alloc (.cells #[.slice ad 0 cd, .slice at_ F.length ct] 101)) := hb1.trans hbl0
  go_loopw [20] (fun i wr => ∃ (j : Nat) (D T : List Int), j ≤ ks.length ∧ i = .int .i64 j ∧ Parts (w.heap.size + 1) wr w1.heap.size D T ∧ (∀ x ∈ D, x < 0) ∧ Below (w.heap.size + 1) w0 wr ∧ replW R F ks 0 = replW R (D ++ T.reverse) (ks.drop j) j ∧ D.length + T.length + 8 * (ks.length - j) ≤ 100000) (fun i _ => ks.length - (intOf i).toNat)
  case atStart => exact ⟨0, [], F.reverse, Nat.zero_le _, rfl, hP0, by simp, hBb, by simp, by simpa using hF⟩
  case round =>
    obtain ⟨j, D, T, hj, rfl, hP, hneg, hbr, heq, hbd⟩ := hrel
    clear hP0 hBb x0 x1 y0 y1 n0 hbl0
    have hzr := hbr.size
    have bx := b0.below hbr (by omega)
    have d0 := bx.cell 0
    have d1 := bx.cell 1
    have d2 := bx.cell 2
    simp only [List.getElem?_toArray, List.getElem?_cons_zero, List.getElem?_cons_succ] at d0 d1 d2
    by_cases hlt : j < ks.length
    · obtain ⟨ka, rfl, kab, kca⟩ := KC.out j hlt
      have kc1 : wr.cell? (ka.add j) = some (.int .i64 (ks.getD j 0)) := (hbr.cell (p := ka.add j) (by rw [add_block]; omega)).trans ((hbl.cell (p := ka.add j) (by rw [add_block]; exact kab)).trans kca)
      have hdrop : ks.drop j = ks.getD j 0 :: ks.drop (j + 1) := by rw [List.drop_eq_getElem_cons hlt, List.getD_eq_getElem?_getD, List.getElem?_eq_getElem hlt]; rfl
      rw [hdrop] at heq
      have HEQ := Lib.hid heq
      clear heq hdrop kca
      generalize ks.getD j 0 = k at *
      have hfst := first_form wr.drew (w.heap.size + 1) w1.heap.size D T hP hneg (by omega) (by show w.heap.size + 1 ≤ wr.heap.size; omega)
      generalize hG : D ++ T.reverse = G at *
      have hGl : D.length + T.length = G.length := by rw [← hG]; simp
      have HGL := Lib.hid hGl
      clear hGl hG
      have hf2 : Calls Tryz.prog 74 #[.pointer (some ⟨w1.heap.size, 0, none⟩)] wr.drew fun e w3 => e = .returned (.int .i64 (fvW G)) ∧ Fst2 (w.heap.size + 1) wr.drew w3 w1.heap.size G ∧ Blk w3 w.heap.size 25 #[.slice ta tl tc, .slice va vl vc, .slice ra R.length rc] ∧ Below (w.heap.size + 1) w0 w3 := hfst.mono fun e w3 ⟨he, hF⟩ => by
        obtain ⟨D3, T3, hG3, hn3, hP3, hb3, hor3⟩ := id hF
        exact ⟨he, hF, Blk.below (w := wr.drew) bx hb3 (by omega), hbr.drew.trans hb3⟩
      have hrf : ∀ w3, Below (w.heap.size + 1) w0 w3 → Calls Tryz.prog 73 #[.agg #[.slice ta tl tc, .slice va vl vc, .slice ra R.length rc], .int .i64 (fvW G), .int .i64 k] w3 fun e w' => e = .returned (.int .i64 (refW R (fvW G) k)) ∧ Below w3.heap.size w3 w' := fun w3 hb =>
        refusal_any w3 B0 ta va tl tc vl vc (.slice ra R.length rc) R (fvW G) k (HR1.out.below (hb.mono (by omega))) (by have := hb.size; omega)
      have HRF := Lib.hid hrf
      clear hfst hrf
      go_wp2
      go_region_law (first
        | (go_simp; go_at_call 74; refine hf2.mono ?_; rintro e w3 ⟨rfl, hF3, bx3, hb3⟩; have e0 := bx3.cell 0; have e1 := bx3.cell 1; have e2 := bx3.cell 2; simp only [List.getElem?_toArray, List.getElem?_cons_zero, List.getElem?_cons_succ] at e0 e1 e2)
        | (go_simp; go_at_call 73; refine (HRF.out _ hb3).mono ?_; rintro e w4 ⟨rfl, hb4⟩))
      all_goals
        obtain ⟨D3, T3, hG3, hn3, hP3, hb3', hor3⟩ := hF3
        have hP4 := hP3.below hb4
        have hz3 := hb3.size
        have hz4 := hb4.size
        have hb4' : Below (w.heap.size + 1) w0 w4 := hb3.trans (hb4.mono (by omega))
        have bx4 := bx3.below hb4 bx3.lt
        have g2 := bx4.cell 2
        simp only [List.getElem?_toArray, List.getElem?_cons_zero, List.getElem?_cons_succ] at g2
        clear hP3 hb3' hP hneg hf2 bx bx3
        by_cases hE : refW R (fvW G) k = 0
        · obtain ⟨hk0, hk1, hv0⟩ := refW_ok hE
          rcases hor3 with ⟨_, hv1⟩ | ⟨T0, rfl, _⟩
          · exact absurd hv0 hv1
          · obtain ⟨kn, rfl⟩ : ∃ kn : Nat, k = kn := ⟨k.toNat, by omega⟩
            obtain ⟨r, hrk⟩ : ∃ r, R[kn]? = some r := ⟨_, List.getElem?_eq_getElem (by omega)⟩
            have hrw : ruleW R (kn : Int) = r.right := by simp [ruleW, List.getD_eq_getElem?_getD, hrk]
            have hr8 : r.right.length ≤ 8 := H8.out r (List.mem_of_getElem? hrk)
            have hsp := step_parts R D3 T0 (fvW G) kn hn3 hv0
            rw [hG3, hrw] at hsp
            obtain ⟨ra', rc', er, _, hr2⟩ := HR1.out.below (hb4'.mono (by omega : B0 ≤ w.heap.size + 1))
            cases er
            obtain ⟨a2, rfl, hab2, hrl2⟩ := hr2 kn r hrk
            obtain ⟨ao3, cap3, hc3, hrow3, hun3⟩ := hrl2.row (by omega)
            rw [add_form a2 (kn * 3) 1 (by decide)] at hc3
            have hlen3 : D3.length + (T0.length + 1) = G.length := by rw [← hG3]; simp
            have hglb := HGL.out
            have hrep := replace_any w4 (w.heap.size + 1) w1.heap.size cap3 ao3 D3 T0 r.right (fvW G) hP4 (fun j hj => by
              obtain ⟨a, e, hab, hca⟩ := hun3 j hj
              exact ⟨a, e, by omega, hca⟩) (by omega) (by omega) (by omega)
            have hfin : replW R F ks 0 = replW R (D3 ++ (T0 ++ r.right.reverse).reverse) (ks.drop (j + 1)) (j + 1) := by
              rw [HEQ.out]
              conv => lhs; unfold replW
              rw [if_pos hE, hsp]
            have HFIN := Lib.hid hfin
            have HLN := Lib.hid hlen3
            have HGB := Lib.hid hglb
            rw [hE]
            clear hfin hsp hrl2 hr2 hun3 hrow3 hlen3 hglb hrw
            go_wp2_with fail
            refine hrep.mono ?_
            rintro e w5 ⟨⟨v5, rfl⟩, hP5, hb5⟩
            go_wp2
            refine ⟨⟨j + 1, D3, T0 ++ r.right.reverse, hlt, congrArg (Value.int .i64) (by omega), hP5, hn3, hb4'.trans hb5, HFIN.out, ?_⟩, by simp only [intOf]; omega⟩
            have h1 := HLN.out
            have h2 := HGB.out
            simp
            omega
        · have hrs : replW R F ks 0 = ([], j, refW R (fvW G) k) := by
            rw [HEQ.out]
            conv => lhs; unfold replW
            rw [if_neg hE]
          have hfinal : ReplR R F ks w (.returned (.tuple #[.slice none 0 0, .int .i64 (j : Int), .int .i64 (refW R (fvW G) k)])) w4 := by
            unfold ReplR
            rw [hrs]
            exact ⟨.slice none 0 0, rfl, fun h => absurd h hE, fun _ => rfl, hbl.trans (hb4'.mono (by omega))⟩
          have HF := Lib.hid hfinal
          clear hfinal hrs
          generalize refW R (fvW G) k = E at *
          go_wp2
          refine bodyPost_ret (v := .tuple #[.slice none 0 0, .int .i64 (j : Int), .int .i64 E]) (by simp [results, Tryz.results47, go_sem]) rfl HF.out
    · obtain rfl : j = ks.length := by omega
      have hfo := form_any wr (w.heap.size + 1) w1.heap.size D T hP (by omega) (by omega)
      have hrs : replW R F ks 0 = (D ++ T.reverse, 0, 0) := by
        rw [heq, List.drop_length]
        rfl
      have HRS := Lib.hid hrs
      clear hrs heq
      go_wp2_with fail
      refine hfo.mono ?_
      rintro e w5 ⟨u, rfl, ho5, hb5⟩
      go_wp2
      refine bodyPost_ret (v := .tuple #[u, .int .i64 0, .int .i64 0]) (by simp [results, Tryz.results47, go_sem]) rfl ?_
      unfold ReplR
      rw [HRS.out]
      exact ⟨u, rfl, fun _ => own_weak ho5 (by omega), fun h => absurd rfl h, hbl.trans ((hbr.trans hb5).mono (by omega))⟩
end Go.Proofs.YtomikgkoegkofaaGreatDoor.dv

import Derived.Test.YtomikgkoegkofaaTrg
import Derived.Test.YtomikgkoegkofaaDvi
namespace Go.Proofs.Ytomikgkoegkofaa.dt
open Go.ChangeShapes Go.WideShapes Go.ChangeAt Go.RowKit Go.Maps Go.WideMaps Go.WideElems Go.Shelf Go.Proofs.Ytomikgkoegkofaa.dv
set_option linter.unusedVariables false
set_option linter.unusedSimpArgs false
attribute [local go_sem] Oper.semAt_some
/-! a tree's word -/
def wordN (ns : List Nd) : List Int := (ns.filter fun x => decide (x.sym < 0)).map (fun x => -1 - x.sym)
theorem wordN_take {ns : List Nd} {i : Nat} {x : Nd} (hx : ns[i]? = some x) : wordN (ns.take (i + 1)) = wordN (ns.take i) ++ if x.sym < 0 then [-1 - x.sym] else [] := by
  rw [List.take_add_one, hx]
  by_cases h : x.sym < 0 <;> simp [wordN, h]
theorem wordN_le (ns : List Nd) (i : Nat) : (wordN (ns.take i)).length ≤ ns.length := by
  unfold wordN
  rw [List.length_map]
  exact Nat.le_trans (List.length_filter_le _ _) (by rw [List.length_take]; omega)
set_option maxRecDepth 100000 in
set_option maxHeartbeats 4000000 in
theorem yield_any (w : World) (b0 : Nat) (ns : List Nd) (hs : StackAt w [(b0, 1)] ns) (hN : ns.length ≤ 999999) (h64 : ∀ x ∈ ns, In64 x.sym) :
    Calls Try.prog 35 #[PtrV b0] w fun e w' => (∃ v, e = .returned v ∧ w'.ownsRow w.heap.size 3 1 v (wordN ns).length (IV (wordN ns))) ∧ Below w.heap.size w w' := by
  obtain ⟨i0, hi, hz0, hz1, hz2⟩ := info_parts info_int
  have HS := Lib.hid hs
  unfold PtrV
  refine (callsIn_wide (n := 4)).1 ?_
  refine callsIn_of_wp_marks Try.func35 rfl trivial ?_ rfl
  simp only [Try.ntmps35, List.size_toArray, List.length_cons, List.length_nil, Nat.reduceAdd, Nat.reduceSub, Array.replicate_succ, Array.replicate_zero, List.push_toArray, List.append_toArray, List.nil_append, List.cons_append]
  gi_wp2_with (refine ⟨trivial, ?_⟩; gi_at_call 62; refine (all_in _ _ trivial rfl _ _).mono ?_; rintro e w' ⟨rfl, rfl⟩)
  have b1 := (Blk.new w 26 #[.slice none 0 0]).alloc (.cells #[.pointer (some ⟨b0, 0, none⟩)] 53)
  have b2 := Blk.new (w.alloc (.cells #[.slice none 0 0] 26)) 53 #[.pointer (some ⟨b0, 0, none⟩)]
  rw [World.size_alloc] at b2
  have hb0 : Below w.heap.size w ((w.alloc (.cells #[.slice none 0 0] 26)).alloc (.cells #[.pointer (some ⟨b0, 0, none⟩)] 53)) := ((Below.refl _ w).alloc (Nat.le_refl _) _).alloc (by simp) _
  refine walk_any w (w.heap.size + 1) b0 ns rfl (by simp) (b2.cell 0) hs hN hb0 (fun i W => IntsAt w.heap.size (wordN (ns.take i)) W) (fun _ _ => False) (fun i => abid_ints _ _ _) (fun _ _ _ _ h _ _ => h) ⟨_, b1, World.ownsRow_nil _ _ _ _⟩ ?round ?done (fun _ _ h _ => h.elim)
  case round =>
    intro i x hx
    refine ⟨{ tmps := #[.pointer (some ⟨b0, 0, none⟩), undef, .slice none 0 0, .pointer (some ⟨w.heap.size, 0, none⟩), PtrV x.b, .pointer (some ⟨b0, 0, none⟩), .func (.func 79) #[] #[.pointer (some ⟨w.heap.size + 1, 0, none⟩)], PtrV x.b, .int .i64 (x.lv : Int), undef, undef, undef, undef, undef, undef, undef, undef, undef, undef, undef, undef, undef, undef, undef], defers := [] }, fun W K hK => ?asg, fun U r hU hb hsz hl => ?bdy⟩
    case asg =>
      gi_wp2
      exact hK
    case bdy =>
      have hm := wordN_take hx
      have hle := wordN_le ns i
      have hx64 := h64 x (List.mem_of_getElem? hx)
      unfold In64 at hx64
      obtain ⟨nv, hnw⟩ := HS.out.node i x hx
      have hnb := hnw.below hb hnw.lt
      obtain ⟨v, hv1, hv2⟩ := hU
      have c0 := hv1.cell 0
      have d0 := hnb.cell 0
      have d1 := hnb.cell 1
      simp only [List.getElem?_toArray, List.getElem?_cons_zero, List.getElem?_cons_succ] at c0 d0 d1
      have HM := Lib.hid hm
      have HV1 := Lib.hid hv1
      have HV2 := Lib.hid hv2
      have HB := Lib.hid hb
      have HNL := Lib.hid hnb.lt
      clear hm hv1 hv2 hnb hnw hs b1 b2 hb0 hb
      generalize hL : wordN (ns.take i) = L at *
      unfold PtrV
      by_cases h0 : x.sym < 0
      · gi_wp2_with (refine ⟨trivial, ?_⟩; gi_at_call 47; refine (CallsIn.inRound _ (callsIn_wide.2 (isVar_any _ _))).mono ?_; rintro e w1 ⟨rfl, rfl⟩; simp only [decide_eq_false (show ¬ 0 ≤ x.sym by omega)])
        refine inE (fun U' => U'.cell? ⟨w.heap.size, 0, none⟩ = some v ∧ U'.cell? ⟨x.b, 0, none⟩ = some (.int .i64 x.sym)) [7, 8] (fun i o ho c hc => ?_) (by kernel_rfl) ?_
        · have hm := Array.mem_of_getElem? ho
          simp only [List.mem_toArray, List.mem_cons, List.not_mem_nil, or_false] at hm
          repeat (rcases hm with rfl | hm; · cases hc)
          try (subst hm; cases hc)
        have HS2 : _ := And.intro (DRC w1 _ _ c0) (DRC w1 _ _ d0)
        refine anyE_take (i := 0) (v := ?_) rfl (by kernel_rfl) (by kernel_rfl) (by kernel_rfl) (by kernel_rfl) (by kernel_rfl) (fun c _ _ h => absurd rfl (h.2.1 c)) (Or.inl ⟨by kernel_rfl, ?_⟩) HS2 ?_
        rotate_left
        · intro w hw; have hw := hw.1; go_simp; with_reducible rfl
        refine anyE_take (i := 1) (v := ?_) rfl (by kernel_rfl) (by kernel_rfl) (by kernel_rfl) (by kernel_rfl) (by kernel_rfl) (fun c _ _ h => absurd rfl (h.2.1 c)) (Or.inl ⟨by kernel_rfl, ?_⟩) HS2 ?_
        rotate_left
        · intro w hw; go_simp; with_reducible rfl
        refine anyE_take (i := 2) (v := ?_) rfl (by kernel_rfl) (by kernel_rfl) (by kernel_rfl) (by kernel_rfl) (by kernel_rfl) (fun c _ _ h => absurd rfl (h.2.1 c)) (Or.inl ⟨by kernel_rfl, ?_⟩) HS2 ?_
        rotate_left
        · intro w hw; go_simp; with_reducible rfl
        refine anyE_take (i := 3) (v := ?_) rfl (by kernel_rfl) (by kernel_rfl) (by kernel_rfl) (by kernel_rfl) (by kernel_rfl) (fun c _ _ h => absurd rfl (h.2.1 c)) (Or.inl ⟨by kernel_rfl, ?_⟩) HS2 ?_
        rotate_left
        · intro w hw; go_simp; with_reducible rfl
        refine anyE_take (i := 4) (v := ?_) rfl (by kernel_rfl) (by kernel_rfl) (by kernel_rfl) (by kernel_rfl) (by kernel_rfl) (fun c _ _ h => absurd rfl (h.2.1 c)) (Or.inl ⟨by kernel_rfl, ?_⟩) HS2 ?_
        rotate_left
        · intro w hw; have hw := hw.2; go_simp; with_reducible rfl
        refine anyE_take (i := 5) (v := .int .i64 (-1 - x.sym)) rfl (by kernel_rfl) (by kernel_rfl) (by kernel_rfl) (by kernel_rfl) (by kernel_rfl) (fun c _ _ h => absurd rfl (h.2.1 c)) (Or.inl ⟨by kernel_rfl, ?_⟩) HS2 ?_
        · intro w hw; go_simp; simp only [cm_if x.sym (show In64 x.sym from hx64)]
        refine anyE_ready (rs := [6]) (by kernel_rfl) (by simp) ?_
        refine ReadyE.cons rfl (by kernel_rfl) (fun K hK => ?_) ReadyE.nil
        go_simp
        have hv1 : Blk w1.drew w.heap.size 26 #[v] := HV1.out
        have hv2 : w1.drew.ownsRow w.heap.size 3 1 v L.length (IV L) := HV2.out
        have hB1 : Below w.heap.size w w1.drew := HB.out.drew
        have hgr : ∀ mq, KeepM mq w1 w1.drew := fun mq => ⟨Nat.le_refl _, fun _ _ _ h _ => h⟩
        have hko : KeepsOthers w1 w1.drew := KeepsOthers.drew _
        have hszd : w1.drew.heap.size = w1.heap.size := rfl
        have hls := hv1.lt
        refine hK _ _ (fun _ => ⟨(hv1.alloc _).cell 0, (World.cell?_alloc_lt w1.drew _ ⟨x.b, 0, none⟩ ?_).trans HS2.2⟩) ?_
        · exact HNL.out
        clear hK K HS2
        refine anyE_rest (by kernel_rfl) ?_
        refine wpAny_ready (rs := [7]) (by kernel_rfl) (by simp) ?_
        refine AllReady.cons rfl (fun K hK => ?_) AllReady.nil
        have hsz1 : w.heap.size ≤ (w1.drew.alloc (.cells #[.int .i64 (-1 - x.sym)] 3)).heap.size := by rw [World.size_alloc]; omega
        refine step_append_lies _ (by rfl) (.tmp 15) (.tmp 21) 26 (by rfl) w.heap.size 3 i0 (.int .i64 0) 1 8 Try.underlying26 hi hz0 hz1 hz2 (by rfl) (by decide) v L.length (IV L) (by rfl) (hv2.alloc _) ⟨w1.drew.heap.size, 0, none⟩ 1 1 [.int .i64 (-1 - x.sym)] (by rfl) (by rfl) (one_new _ _ _) (by simp [Value.oneCell']) (by decide) (by unfold maxLen; omega) (by omega) hsz1 (w1.drew.heap.size + 1) (World.size_alloc _ _) ?_
        intro g4 cap4 w4 hown4 hgrow4 hat4 hlt4
        have hb4 := (hv1.alloc (.cells #[.int .i64 (-1 - x.sym)] 3)).grown hgrow4 ((hv1.alloc _).not_row (by decide) (hv2.alloc (.cells #[.int .i64 (-1 - x.sym)] 3)))
        have y0 := hb4.cell 0
        have z0 := hb4.frozen 0
        simp only [List.getElem?_toArray, List.getElem?_cons_zero] at y0
        have hob := row_obj (hv2.alloc (.cells #[.int .i64 (-1 - x.sym)] 3))
        have hgs := grown_set w4 ⟨w.heap.size, 0, none⟩ (.slice (some ⟨g4, 0, none⟩) (L.length + 1) cap4)
        have hbl4 : Below w.heap.size w (w4.setCell ⟨w.heap.size, 0, none⟩ (.slice (some ⟨g4, 0, none⟩) (L.length + 1) cap4)) := ((hB1.alloc hB1.size _).grown hgrow4 hsz1 (fun r e => (hob r e).1)).setCell (p := ⟨w.heap.size, 0, none⟩) (Nat.le_refl _) _
        have hend : ∀ (a : Act) (Bq mq : Nat), rawPost Bq (nodePost mq w (fun W => IntsAt w.heap.size (wordN (List.take (i + 1) ns)) W) (fun _ _ => False) w1) w1 Exit.normal a (w4.setCell ⟨w.heap.size, 0, none⟩ (.slice (some ⟨g4, 0, none⟩) (L.length + 1) cap4)) := fun _ Bq mq => by
          refine ⟨(((hko.trans (KeepsOthers.alloc _ _)).trans (KeepsOthers.of_grownBy hgrow4 fun j o ej hj => ?_)).trans (KeepsOthers.setCell _ _ _)).from _, ?_, hbl4, (((hgr mq).trans (keepm_grown (World.grownBy_alloc _ _ none) (fun r e => by cases e))).trans (keepm_grown hgrow4 (fun r e => ?_))).trans (keepm_set hb4 other_ints _)⟩
          · obtain ⟨_, cs, fz, ho2⟩ := hob j ej
            rw [ho2] at hj
            cases hj
            rfl
          · show IntsAt w.heap.size (wordN (List.take (i + 1) ns)) _
            rw [HM.out, if_pos h0]
            refine ⟨_, hb4.set_ 0 _, ?_⟩
            have e1 : (L ++ [-1 - x.sym]).length = L.length + 1 := by simp
            have e2 : IV (L ++ [-1 - x.sym]) = IV L ++ [.int .i64 (-1 - x.sym)] := by simp [IV]
            rw [e1, e2]
            exact own_grown hown4 hgs (.inr (hb4.not_row (by decide) hown4).symm)
          · obtain ⟨_, cs, fz, ho2⟩ := hob r e
            exact ⟨cs, _, fz, ho2, other_int⟩
        refine hK _ _ ?_
        clear hK K
        refine wpAny_ready (rs := [8]) (by kernel_rfl) (by simp) ?_
        refine AllReady.cons rfl (fun K hK => ?_) AllReady.nil
        go_simp
        refine hK _ _ ?_
        clear hK K
        refine wpAny_done (by kernel_rfl) ?_ _
        exact ⟨(by intro e; cases e), (by intro c e; cases e), hend { tmps := #[], defers := [] } _ _⟩
      · gi_wp2_with (refine ⟨trivial, ?_⟩; gi_at_call 47; refine (CallsIn.inRound _ (callsIn_wide.2 (isVar_any _ _))).mono ?_; rintro e w1 ⟨rfl, rfl⟩; simp only [decide_eq_true (show 0 ≤ x.sym by omega)])
        refine ⟨KeepsFrom.refl _ _, ?_, HB.out, KeepM.refl _ _⟩
        show IntsAt w.heap.size (wordN (List.take (i + 1) ns)) _
        rw [HM.out, if_neg (by omega), List.append_nil]
        exact ⟨v, HV1.out, HV2.out⟩
  case done =>
    rintro W ⟨v, hI1, hI2⟩ hb hK
    rw [List.take_length] at hI2
    have c0 := hI1.cell 0
    simp only [List.getElem?_toArray, List.getElem?_cons_zero] at c0
    gi_wp2
    refine ⟨by simp, .inl ⟨_, _, rfl, run_takeDeferred hK, ?_⟩⟩
    have hlow : w.heap.size ≤ w.heap.size + 1 + 1 := by omega
    refine ⟨_, results_tmp rfl _ _ _, ⟨_, rfl, own_grown hI2 (grownBy_putObj' W _ _) (row_noncells hI2 (fun r e => by cases e; exact ⟨_, hK, rfl⟩))⟩, hb.grown (grownBy_putObj' W _ _) hb.size (fun r e => by cases e; simp; omega)⟩
end Go.Proofs.Ytomikgkoegkofaa.dt

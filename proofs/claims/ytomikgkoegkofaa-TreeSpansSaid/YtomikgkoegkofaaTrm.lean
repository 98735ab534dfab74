import Derived.Test.YtomikgkoegkofaaTrl
import Derived.Test.YtomikgkoegkofaaDvl
import Derived.Test.YtomikgkoegkofaaDwn
namespace Go.Proofs.Ytomikgkoegkofaa.dt
open Go.ChangeShapes Go.WideShapes Go.ChangeAt Go.RowKit Go.Maps Go.WideMaps Go.WideElems Go.Shelf Go.Proofs.Ytomikgkoegkofaa.dv
set_option linter.unusedVariables false
set_option linter.unusedSimpArgs false
attribute [local go_sem] Oper.semAt_some
/-! Of -/
theorem Built.le {R : List Rl} {st : List (Int × Nat)} {ks : List Int} {out : List (Int × Int × Nat)} (h : Built R st ks out) : st.length ≤ out.length := by
  induction h with
  | nil => simp
  | term h hb ih => simp only [List.length_cons]; omega
  | var h hr hb ih => simp only [List.length_cons, List.length_append, List.length_map] at ih ⊢; omega
theorem Built.few {R : List Rl} (h8 : ∀ r ∈ R, r.right.length ≤ 8) {st : List (Int × Nat)} {ks : List Int} {out : List (Int × Int × Nat)} (h : Built R st ks out) : out.length ≤ st.length + 9 * ks.length := by
  have h9 : ∀ k, (ruleW R k).length ≤ 8 := fun k => by
    unfold ruleW
    rw [List.getD_eq_getElem?_getD]
    cases hx : R[k.toNat]? with
    | none => simp
    | some r => exact h8 r (List.mem_of_getElem? hx)
  induction h with
  | nil => simp
  | term h hb ih => simp only [List.length_cons]; omega
  | @var s k lv st ks out h hr hb ih =>
    have := h9 k
    simp only [List.length_cons, List.length_append, List.length_map] at ih ⊢
    omega
theorem LeafS.len {B : Nat} {W : World} {s : List (Nat × Nat)} {st : List (Int × Nat)} (h : LeafS B W s st) : s.length = st.length := by
  induction h with
  | nil => rfl
  | cons h1 h2 h3 ih => simp [ih]
theorem LeafS.first {B b lv : Nat} {W : World} {rest : List (Nat × Nat)} {st : List (Int × Nat)} (h : LeafS B W ((b, lv) :: rest) st) : ∃ sy st', st = (sy, lv) :: st' ∧ B ≤ b ∧ LeafAt W b sy := by
  cases h with
  | cons h1 h2 h3 => exact ⟨_, _, rfl, h1, h2⟩
theorem addf' (a : Addr) (n m : Nat) (hm : m ≠ 0) : a.add (n + m) = { block := (a.add n).block, off := (a.add n).off + m } := by
  unfold Addr.add
  rw [if_neg (by omega)]
  by_cases h : n = 0
  · subst h; simp
  · rw [if_neg h]; simp [Nat.add_assoc]
theorem keepm_same {m : Nat} {X : Nat → Prop} {W W' : World} (h : SameBut X W W') (hs : W.heap.size ≤ W'.heap.size) (hx : ∀ k, X k → ∃ cs t fz, W.heap[k]? = some (.cells cs t fz) ∧ Other t) : KeepM m W W' := ⟨hs, fun k o _ ho hm => h k o (fun hX => by
  obtain ⟨cs, t, fz, h1, ht⟩ := hx k hX
  rw [h1] at ho
  cases ho
  rcases hm with h | h | h
  · exact ht.1 h
  · exact ht.2.1 h
  · exact ht.2.2 h) ho⟩
theorem keeps_same {X : Nat → Prop} {W W' : World} (h : SameBut X W W') (hs : W.heap.size ≤ W'.heap.size) (hx : ∀ k, X k → ∃ cs t fz, W.heap[k]? = some (.cells cs t fz) ∧ Other t) (B : Nat) : KeepsFrom B W W' := ⟨hs, fun k o _ ho hc => h k o (fun hX => by
  obtain ⟨cs, t, fz, h1, ht⟩ := hx k hX
  rw [h1] at ho
  cases ho
  cases hc) ho⟩
theorem ref_ok {R : List Rl} {v k : Int} (h : refW R v k = 0) : ∃ (kn : Nat) (r : Rl), k = kn ∧ R[kn]? = some r ∧ ruleW R k = r.right := by
  unfold refW at h
  by_cases h1 : isRl R k = true
  · unfold isRl at h1
    rw [Bool.and_eq_true, decide_eq_true_eq, decide_eq_true_eq] at h1
    have hl : k.toNat < R.length := by omega
    refine ⟨k.toNat, R[k.toNat], by omega, List.getElem?_eq_getElem hl, ?_⟩
    unfold ruleW
    rw [List.getD_eq_getElem?_getD, List.getElem?_eq_getElem hl]
    rfl
  · rw [if_neg h1] at h
    cases h
/-- what Of answers -/
structure OfR (R : List Rl) (v : Int) (ks : List Int) (w : World) (e : Ending) (w' : World) : Prop where
  below : Below w.heap.size w w'
  err : (yieldW R [v] ks).2 ≠ 0 → e = .returned (.tuple #[.pointer none, .int .i64 (yieldW R [v] ks).2])
  ok : (yieldW R [v] ks).2 = 0 → ∃ b ns out, e = .returned (.tuple #[PtrV b, .int .i64 0]) ∧ Built R [(v, 1)] ks out ∧ StackAt w' [(b, 1)] ns ∧ ns.map trip = out ∧ (ns.map (·.b)).Nodup ∧ ∀ x ∈ ns, NewAt w.heap.size w' x
set_option maxRecDepth 100000 in
set_option maxHeartbeats 4000000 in
theorem of_any (w : World) (B0 : Nat) (ta va : Option Addr) (tl tc vl vc : Nat) (rv kv : Value) (R : List Rl) (v : Int) (ks : List Int) (hR : RulesAt B0 w rv R) (hB : B0 ≤ w.heap.size) (hv : In64 v) (hk : RowAt w kv ks) (hks : ks.length ≤ 4096) (h8 : ∀ r ∈ R, r.right.length ≤ 8) :
    Calls Try.prog 29 #[.agg #[.slice ta tl tc, .slice va vl vc, rv], .int .i64 v, kv] w (OfR R v ks w) := by
  obtain ⟨ra, rc, rfl, hn, _⟩ := id hR
  have b0 := Blk.new w 25 #[.slice ta tl tc, .slice va vl vc, .slice ra R.length rc]
  have hyd : ∀ (W : World) (u : Value), Below w.heap.size w W → RowAt W u [v] → Calls Try.prog 23 #[.agg #[.slice ta tl tc, .slice va vl vc, .slice ra R.length rc], u, kv] W (YieldR R [v] ks W) := fun W u hb hu =>
    dv.yield_any W B0 ta va tl tc vl vc (.slice ra R.length rc) u kv R [v] ks (hR.below (hb.mono hB)) (Nat.le_trans hB hb.size) hu (hk.below hb) hks (by simp; omega) h8
  have HY := Lib.hid hyd
  have HK := Lib.hid hk
  have HR := Lib.hid hR
  obtain ⟨ko, kc, rfl, _⟩ := hk
  have c0 := b0.cell 0
  have c1 := b0.cell 1
  have c2 := b0.cell 2
  simp only [List.getElem?_toArray, List.getElem?_cons_zero, List.getElem?_cons_succ] at c0 c1 c2
  clear hyd hR
  refine (callsIn_wide (n := 4)).1 ?_
  refine callsIn_of_wp_marks Try.func29 rfl trivial ?_ rfl
  simp only [Try.ntmps29, List.size_toArray, List.length_cons, List.length_nil, Nat.reduceAdd, Nat.reduceSub, Array.replicate_succ, Array.replicate_zero, List.push_toArray, List.append_toArray, List.nil_append, List.cons_append]
  have hbA : Below w.heap.size w ((w.alloc (.cells #[.slice ta tl tc, .slice va vl vc, .slice ra R.length rc] 25)).alloc (.cells #[.slice ko ks.length kc] 26)) := ((Below.refl _ w).alloc (Nat.le_refl _) _).alloc (by simp) _
  have hrow := lit_row ((w.alloc (.cells #[.slice ta tl tc, .slice va vl vc, .slice ra R.length rc] 25)).alloc (.cells #[.slice ko ks.length kc] 26)) [v] 1 #[.int .i64 v] rfl rfl (by intro n hn; simp at hn; subst hn; exact hv) (by decide)
  rw [World.size_alloc, World.size_alloc] at hrow
  have hbB := hbA.alloc hbA.size (.cells #[.int .i64 v] 3)
  have hyc := HY.out _ _ hbB hrow
  have bG := (Blk.new w 25 #[.slice ta tl tc, .slice va vl vc, .slice ra R.length rc]).alloc (.cells #[.slice ko ks.length kc] 26)
  have bR := Blk.new (w.alloc (.cells #[.slice ta tl tc, .slice va vl vc, .slice ra R.length rc] 25)) 26 #[.slice ko ks.length kc]
  rw [World.size_alloc] at bR
  have bG2 := bG.alloc (.cells #[.int .i64 v] 3)
  have bR2 := bR.alloc (.cells #[.int .i64 v] 3)
  have g0 := bG.cell 0
  have g1 := bG.cell 1
  have g2 := bG.cell 2
  have r0 := bR.cell 0
  have r0b := bR2.cell 0
  have HBB := Lib.hid hbB
  have HG2 := Lib.hid bG2
  have HR2 := Lib.hid bR2
  simp only [List.getElem?_toArray, List.getElem?_cons_zero, List.getElem?_cons_succ] at g0 g1 g2 r0 r0b
  clear hrow hbB hbA bG bR bG2 bR2 b0 c0 c1 c2
  by_cases hyz : (yieldW R [v] ks).2 = 0
  · have hrw : (replW R [v] ks 0).2.2 = 0 ∧ restW (replW R [v] ks 0).1 = [] := by
      unfold yieldW at hyz
      by_cases h1 : (replW R [v] ks 0).2.2 = 0
      · rw [if_pos h1] at hyz
        by_cases h2 : restW (replW R [v] ks 0).1 = []
        · exact ⟨h1, h2⟩
        · rw [if_neg h2] at hyz
          exact absurd hyz (by decide)
      · rw [if_neg h1] at hyz
        exact absurd hyz h1
    obtain ⟨out, hout⟩ := built_of R ks [(v, 1)] hrw.1 hrw.2
    have HOUT := Lib.hid hout
    clear hrw hout
    have hy := hyz
    have hb1 : ((0 : Int) != 0) = false := rfl
    gi_wp2_with (first
      | (refine ⟨trivial, ?_⟩; gi_at_call 23; refine (callsIn_wide.2 hyc).mono ?_; rintro e w2 ⟨u, rfl, hu1, hu2, hb2⟩; rw [hy])
      | (refine ⟨trivial, ?_⟩; gi_at_call 61; refine (callsIn_wide.2 (leaf_any _ _)).mono ?_; rintro e w3 ⟨rfl, rfl⟩; unfold PtrV)
      | (refine ⟨trivial, ?_⟩; gi_at_call 62; refine (all_in _ _ trivial rfl _ _).mono ?_; rintro e w4 ⟨rfl, rfl⟩))
    obtain ⟨ko', kc', ekk, hkc, _, _, _, hkr⟩ := HK.out
    cases ekk
    have hb2w : Below w.heap.size w w2 := HBB.out.trans (hb2.mono HBB.out.size)
    have hlt2 : w.heap.size + 1 < w2.heap.size := by
      have := hb2.size
      simp at this
      omega
    have bG3 : Blk w2 w.heap.size 25 #[.slice ta tl tc, .slice va vl vc, .slice ra R.length rc] := HG2.out.below hb2 HG2.out.lt
    have bR3 : Blk w2 (w.heap.size + 1) 26 #[.slice ko ks.length kc] := HR2.out.below hb2 HR2.out.lt
    obtain ⟨W0, hW0⟩ : ∃ W0, (w2.alloc (.cells #[.int .i64 v, .int .i64 (-1), .slice none 0 0] 65)).alloc (.cells #[.pointer (some ⟨w2.heap.size, 0, none⟩)] 53) = W0 := ⟨_, rfl⟩
    have hWs : W0.heap.size = w2.heap.size + 2 := by rw [← hW0]; simp
    have bL : LeafAt W0 w2.heap.size v := by rw [← hW0]; exact (Blk.new w2 65 _).alloc _
    have bX : Blk W0 (w2.heap.size + 1) 53 #[.pointer (some ⟨w2.heap.size, 0, none⟩)] := by
      have := Blk.new (w2.alloc (.cells #[.int .i64 v, .int .i64 (-1), .slice none 0 0] 65)) 53 #[.pointer (some ⟨w2.heap.size, 0, none⟩)]
      rw [World.size_alloc] at this
      rw [← hW0]
      exact this
    have bG4 : Blk W0 w.heap.size 25 #[.slice ta tl tc, .slice va vl vc, .slice ra R.length rc] := by rw [← hW0]; exact (bG3.alloc _).alloc _
    have bR4 : Blk W0 (w.heap.size + 1) 26 #[.slice ko ks.length kc] := by rw [← hW0]; exact (bR3.alloc _).alloc _
    have hbW : Below w.heap.size w W0 := by rw [← hW0]; exact (hb2w.alloc hb2w.size _).alloc (by rw [World.size_alloc]; omega) _
    rw [hW0]
    have hrb0 : RBox w ks 0 (w.heap.size + 1) W0 := ⟨ko, kc, by simpa using bR4, fun i hi => by
      obtain ⟨a, e1, e2, e3⟩ := hkr i (by omega)
      exact ⟨a, e1, e2, by simpa using e3⟩, by omega⟩
    have hof0 : OfJ w R ks out w2.heap.size (w.heap.size + 1) w.heap.size #[.slice ta tl tc, .slice va vl vc, .slice ra R.length rc] out.length [(w2.heap.size, 1)] W0 :=
      ⟨0, 0, [], [(v, 1)], by omega, by simpa using HOUT.out, .nil _, rfl, .cons (by omega) bL .nil, by simp, hrb0, bG4, hbW, fun x hx => by cases hx⟩
    have hol := HOUT.out.few h8
    simp only [List.length_cons, List.length_nil] at hol
    have HHR := Lib.hid hrb0
    have HOF := Lib.hid hof0
    clear hW0 hrb0 hof0 bG3 bR3 g0 g1 g2 r0 r0b hyc hu1 hu2 hkr
    refine grow_any (w2.heap.size + 1) w2.heap.size out.length rfl (bX.cell 0)
      (fun k s W => OfJ w R ks out w2.heap.size (w.heap.size + 1) w.heap.size #[.slice ta tl tc, .slice va vl vc, .slice ra R.length rc] k s W ∧ ∀ x ∈ s, x.2 + k ≤ out.length + 1) (fun _ _ => False)
      (fun k s A B row hA hg hr => ⟨abid_of _ (by omega) k s A B row hA.1 hg hr, hA.2⟩) (fun _ _ _ _ h _ _ => h) ⟨HOF.out, fun x hx => by simp at hx; subst hx; simp; omega⟩ ?bounds ?pos ?round ?done (fun _ _ h _ => h.elim)
    case bounds =>
      rintro k s W ⟨⟨i, j, ns, st, h⟩, hl⟩
      have e1 := h.leaf.len
      have e2 := h.built.le
      rw [List.length_drop] at e2
      exact ⟨by omega, fun x hx => by have := hl x hx; omega⟩
    case pos =>
      rintro k x s W ⟨⟨i, j, ns, st, h⟩, _⟩
      have e1 := h.leaf.len
      have e2 := h.built.le
      have e3 := h.num
      rw [List.length_drop] at e2
      simp only [List.length_cons] at e1
      exact ⟨k - 1, by omega⟩
    case round =>
      intro b lv
      refine ⟨{ tmps := #[.agg #[.slice ta tl tc, .slice va vl vc, .slice ra R.length rc], .int .i64 v, .slice ko ks.length kc, .pointer (some ⟨w.heap.size, 0, none⟩), undef, .pointer (some ⟨w.heap.size + 1, 0, none⟩), .pointer none, .int .i64 0, u, .int .i64 0, .pointer (some ⟨w2.heap.size, 0, none⟩), PtrV b, .tuple #[u, .int .i64 0], .agg #[.slice ta tl tc, .slice va vl vc, .slice ra R.length rc], .int .i64 v, .slice (some ⟨w.heap.size + 1 + 1, 0, none⟩) 1 1, .slice ko ks.length kc, .tuple #[u, .int .i64 0], u, .int .i64 0, .int .i64 0, .bool false, undef, .int .i64 v, .pointer (some ⟨w2.heap.size, 0, none⟩), .pointer (some ⟨w2.heap.size, 0, none⟩), .func (.func 79) #[] #[.pointer (some ⟨w2.heap.size + 1, 0, none⟩)], PtrV b, .int .i64 (lv : Int), undef, undef, undef, undef, undef, undef, undef, undef, undef, undef, undef, undef, undef, undef, undef, undef, undef, undef, undef, undef, undef, undef, undef, undef, undef, undef, undef], defers := [] }, fun W K hK => ?asg, fun k rest U r hU hsz hl => ?bdy⟩
      case asg =>
        gi_wp2
        exact hK
      case bdy =>
        obtain ⟨⟨i, j, ns, st, hof⟩, hlv⟩ := hU
        obtain ⟨sy, st', rfl, hbw, hlf⟩ := hof.leaf.first
        have d0 := Blk.cell hlf 0
        simp only [List.getElem?_toArray, List.getElem?_cons_zero] at d0
        have HO := Lib.hid hof
        have hlv1 : lv + (k + 1) ≤ out.length + 1 := hlv (b, lv) (by simp)
        have HLV := Lib.hid hlv
        have HLF := Lib.hid hlf
        clear hof hlv hlf
        unfold PtrV
        by_cases h0 : 0 ≤ sy
        · gi_wp2_with (refine ⟨trivial, ?_⟩; gi_at_call 47; refine (CallsIn.inRound _ (callsIn_wide.2 (isVar_any _ _))).mono ?_; rintro e w1 ⟨rfl, rfl⟩; simp only [decide_eq_true h0])
          obtain ⟨hj, hrf, _, _, _⟩ := HO.out.head h0
          obtain ⟨ko2, kc2, hr1, hr2, hr3⟩ := HO.out.rules
          obtain ⟨a0, rfl, ha0, hka⟩ := hr2 0 (by omega)
          rw [Nat.add_zero] at hka
          have e0 : a0.add 0 = a0 := by unfold Addr.add; split <;> simp_all
          have hbg1 : 0 < ks.length - j := by omega
          have hbg2 : (1 : Int) ≤ ((ks.length - j : Nat) : Int) := by omega
          have hkaU : w1.cell? (a0.add 0) = some (.int .i64 (ks.getD j 0)) := (HO.out.below.cell (p := a0.add 0) (by rw [add_block]; exact ha0)).trans hka
          rw [e0] at hkaU
          have r0 := hr1.cell 0
          simp only [List.getElem?_toArray, List.getElem?_cons_zero] at r0
          have HR1 := Lib.hid hr1
          have HR2 := Lib.hid hr2
          have hbg0 : (0 : Int) < ((ks.length - j : Nat) : Int) := by omega
          have HR2' := Lib.hid hr2
          clear hr1 hr2
          generalize hkk : ks.getD j 0 = kk at *
          refine inE (fun U' => U'.cell? ⟨w.heap.size + 1, 0, none⟩ = some (.slice (some a0) (ks.length - j) kc2) ∧ U'.cell? a0 = some (.int .i64 kk)) [9] (fun i o ho c hc => ?_) (by kernel_rfl) ?_
          · have hm := Array.mem_of_getElem? ho
            simp only [List.mem_toArray, List.mem_cons, List.not_mem_nil, or_false] at hm
            repeat (rcases hm with rfl | hm; · cases hc)
            try (subst hm; cases hc)
          have HS2 : _ := And.intro (DRC w1 _ _ r0) (DRC w1 _ _ hkaU)
          refine anyE_take (i := 0) (v := ?_) rfl (by kernel_rfl) (by kernel_rfl) (by kernel_rfl) (by kernel_rfl) (by kernel_rfl) (fun c _ _ h => absurd rfl (h.2.1 c)) (Or.inl ⟨by kernel_rfl, ?_⟩) HS2 ?_
          rotate_left
          · intro w hw; go_simp; with_reducible rfl
          refine anyE_take (i := 1) (v := ?_) rfl (by kernel_rfl) (by kernel_rfl) (by kernel_rfl) (by kernel_rfl) (by kernel_rfl) (fun c _ _ h => absurd rfl (h.2.1 c)) (Or.inl ⟨by kernel_rfl, ?_⟩) HS2 ?_
          rotate_left
          · intro w hw; have hw := hw.1; go_simp; with_reducible rfl
          refine anyE_take (i := 2) (v := ?_) rfl (by kernel_rfl) (by kernel_rfl) (by kernel_rfl) (by kernel_rfl) (by kernel_rfl) (fun c _ _ h => absurd rfl (h.2.1 c)) (Or.inl ⟨by kernel_rfl, ?_⟩) HS2 ?_
          rotate_left
          · intro w hw; go_simp; with_reducible rfl
          refine anyE_take (i := 3) (v := ?_) rfl (by kernel_rfl) (by kernel_rfl) (by kernel_rfl) (by kernel_rfl) (by kernel_rfl) (fun c _ _ h => absurd rfl (h.2.1 c)) (Or.inl ⟨by kernel_rfl, ?_⟩) HS2 ?_
          rotate_left
          · intro w hw; have hw := hw.2; go_simp; with_reducible rfl
          refine anyE_take (i := 6) (v := ?_) rfl (by kernel_rfl) (by kernel_rfl) (by kernel_rfl) (by kernel_rfl) (by kernel_rfl) (fun c _ _ h => absurd rfl (h.2.1 c)) (Or.inl ⟨by kernel_rfl, ?_⟩) HS2 ?_
          rotate_left
          · intro w hw; go_simp; with_reducible rfl
          refine anyE_take (i := 7) (v := ?_) rfl (by kernel_rfl) (by kernel_rfl) (by kernel_rfl) (by kernel_rfl) (by kernel_rfl) (fun c _ _ h => absurd rfl (h.2.1 c)) (Or.inl ⟨by kernel_rfl, ?_⟩) HS2 ?_
          rotate_left
          · intro w hw; go_simp; with_reducible rfl
          refine anyE_take (i := 4) (v := ?_) rfl (by kernel_rfl) (by kernel_rfl) (by kernel_rfl) (by kernel_rfl) (by kernel_rfl) (fun c _ _ h => absurd rfl (h.2.1 c)) (Or.inl ⟨by kernel_rfl, ?_⟩) HS2 ?_
          rotate_left
          · intro w hw; have hw := hw.1; go_simp; with_reducible rfl
          refine anyE_take (i := 5) (v := ?_) rfl (by kernel_rfl) (by kernel_rfl) (by kernel_rfl) (by kernel_rfl) (by kernel_rfl) (fun c _ _ h => absurd rfl (h.2.1 c)) (Or.inl ⟨by kernel_rfl, ?_⟩) HS2 ?_
          rotate_left
          · intro w hw; go_simp; with_reducible rfl
          have hnode : Blk w1.drew b 65 #[.int .i64 sy, .int .i64 (-1), .slice none 0 0] := HLF.out
          have hn1 := hnode.cell 1
          have hf1 := hnode.frozen 1
          have hrbx : Blk w1.drew (w.heap.size + 1) 26 #[.slice (some a0) (ks.length - j) kc2] := HR1.out
          have hbr : b ≠ w.heap.size + 1 := blk_apart hnode hrbx (by decide)
          have hrb1 := hrbx.far (p := ⟨b, 1, none⟩) hbr.symm (.int .i64 kk)
          have hrc1 := hrb1.cell 0
          have hrf1 := hrb1.frozen 0
          simp only [List.getElem?_toArray, List.getElem?_cons_zero, List.getElem?_cons_succ] at hn1 hrc1
          refine anyE_ready (rs := [8]) (by kernel_rfl) (by simp) ?_
          refine ReadyE.cons rfl (by kernel_rfl) (fun K hK => ?_) ReadyE.nil
          go_simp
          have hbl1 : Below w.heap.size w1 (w1.setCell ⟨b, 1, none⟩ (.int .i64 kk)).drew := ((Below.refl w.heap.size w1).setCell (p := ⟨b, 1, none⟩) hbw (.int .i64 kk)).drew
          have s1 : (w1.setCell ⟨b, 1, none⟩ (.int .i64 kk)).drew.cell? ⟨w.heap.size + 1, 0, none⟩ = some (.slice (some a0) (ks.length - j) kc2) := hrc1
          have s2 : (w1.setCell ⟨b, 1, none⟩ (.int .i64 kk)).drew.frozen? ⟨w.heap.size + 1, 0, none⟩ = false := hrf1
          refine hK _ _ (fun _ => ⟨s1, (hbl1.cell (p := a0) ha0).trans hkaU⟩) ?_
          clear hK K HS2
          refine anyE_rest (by kernel_rfl) ?_
          refine wpAny_ready (rs := [9]) (by kernel_rfl) (by simp) ?_
          refine AllReady.cons rfl (fun K hK => ?_) AllReady.nil
          generalize hpt : (if kc2 = 1 then some a0 else some ⟨a0.block, a0.off + 1, none⟩) = a1
          go_simp
          refine hK _ _ ?_
          clear hK K
          refine wpAny_done (by kernel_rfl) ?_ _
          refine ⟨(by intro e; cases e), (by intro c e; cases e), ?_⟩
          have HBL := Lib.hid hbl1
          have HN0 := Lib.hid hnode
          have HRB := Lib.hid hrbx
          clear hbl1 hnode hrbx hn1 hf1 hrb1 hrc1 hrf1 s1 s2 d0 r0 hkaU
          generalize hW5 : ((w1.setCell ⟨b, 1, none⟩ (.int .i64 kk)).setCell ⟨w.heap.size + 1, 0, none⟩ (.slice a1 (ks.length - j - 1) (kc2 - 1))).drew = W5
          obtain ⟨kn, rr, rfl, hrk, hrw⟩ := ref_ok hrf
          have hbW5 : Below w.heap.size w W5 := by
            rw [← hW5]
            exact (HO.out.below.trans HBL.out).setCell (p := ⟨w.heap.size + 1, 0, none⟩) (by show w.heap.size ≤ w.heap.size + 1; omega) _
          obtain ⟨ra', rc', er, _, hr5⟩ := HR.out.below (hbW5.mono hB)
          cases er
          obtain ⟨a2, rfl, hab2, ao2, c2, q1, q2, q3, q4⟩ := hr5 kn rr hrk
          rw [addf' a2 (kn * 3) 1 (by decide)] at q2
          have hbr2 : b ≠ w.heap.size + 1 := blk_apart HN0.out HRB.out (by decide)
          have hgb1 : w.heap.size ≠ b := blk_apart HO.out.gram HN0.out (by decide)
          have hG5 : Blk W5 w.heap.size 25 #[.slice ta tl tc, .slice va vl vc, .slice (some a2) R.length rc] := by
            rw [← hW5]
            exact (HO.out.gram.far (p := ⟨b, 1, none⟩) hgb1 _).far (p := ⟨w.heap.size + 1, 0, none⟩) (by show w.heap.size ≠ w.heap.size + 1; omega) _
          have hN5 : Blk W5 b 65 #[.int .i64 sy, .int .i64 (kn : Int), .slice none 0 0] := by
            rw [← hW5]
            exact (HLF.out.set_ 1 (.int .i64 (kn : Int))).far (p := ⟨w.heap.size + 1, 0, none⟩) hbr2 _
          have x2 := hG5.cell 2
          have x1 := hN5.cell 1
          simp only [List.getElem?_toArray, List.getElem?_cons_zero, List.getElem?_cons_succ] at x1 x2
          have hkR : kn < R.length := (List.getElem?_eq_some_iff.1 hrk).1
          have hkR2 : (kn : Int) < (R.length : Int) := by omega
          have hkR0 : (0 : Int) ≤ (kn : Int) := by omega
          have HS3 : _ := And.intro (DRC W5 _ _ x2) (And.intro (DRC W5 _ _ x1) (DRC W5 _ _ q2))
          gi_wp2
          refine inE (fun U' => U'.cell? ⟨w.heap.size, 2, none⟩ = some (.slice (some a2) R.length rc) ∧ U'.cell? ⟨b, 1, none⟩ = some (.int .i64 (kn : Int)) ∧ U'.cell? { block := (a2.add (kn * 3)).block, off := (a2.add (kn * 3)).off + 1 } = some (.slice ao2 rr.right.length c2)) [13] (fun i o ho c hc => ?_) (by kernel_rfl) ?_
          · have hm := Array.mem_of_getElem? ho
            simp only [List.mem_toArray, List.mem_cons, List.not_mem_nil, or_false] at hm
            repeat (rcases hm with rfl | hm; · cases hc)
            try (subst hm; cases hc)
          refine anyE_take (i := 0) (v := ?_) rfl (by kernel_rfl) (by kernel_rfl) (by kernel_rfl) (by kernel_rfl) (by kernel_rfl) (fun c _ _ h => absurd rfl (h.2.1 c)) (Or.inl ⟨by kernel_rfl, ?_⟩) HS3 ?_
          rotate_left
          · intro w hw; go_simp; with_reducible rfl
          refine anyE_take (i := 1) (v := ?_) rfl (by kernel_rfl) (by kernel_rfl) (by kernel_rfl) (by kernel_rfl) (by kernel_rfl) (fun c _ _ h => absurd rfl (h.2.1 c)) (Or.inl ⟨by kernel_rfl, ?_⟩) HS3 ?_
          rotate_left
          · intro w hw; go_simp; with_reducible rfl
          refine anyE_take (i := 2) (v := ?_) rfl (by kernel_rfl) (by kernel_rfl) (by kernel_rfl) (by kernel_rfl) (by kernel_rfl) (fun c _ _ h => absurd rfl (h.2.1 c)) (Or.inl ⟨by kernel_rfl, ?_⟩) HS3 ?_
          rotate_left
          · intro w hw; have hw := hw.1; go_simp; with_reducible rfl
          refine anyE_take (i := 3) (v := ?_) rfl (by kernel_rfl) (by kernel_rfl) (by kernel_rfl) (by kernel_rfl) (by kernel_rfl) (fun c _ _ h => absurd rfl (h.2.1 c)) (Or.inl ⟨by kernel_rfl, ?_⟩) HS3 ?_
          rotate_left
          · intro w hw; go_simp; with_reducible rfl
          refine anyE_take (i := 4) (v := ?_) rfl (by kernel_rfl) (by kernel_rfl) (by kernel_rfl) (by kernel_rfl) (by kernel_rfl) (fun c _ _ h => absurd rfl (h.2.1 c)) (Or.inl ⟨by kernel_rfl, ?_⟩) HS3 ?_
          rotate_left
          · intro w hw; go_simp; with_reducible rfl
          refine anyE_take (i := 5) (v := ?_) rfl (by kernel_rfl) (by kernel_rfl) (by kernel_rfl) (by kernel_rfl) (by kernel_rfl) (fun c _ _ h => absurd rfl (h.2.1 c)) (Or.inl ⟨by kernel_rfl, ?_⟩) HS3 ?_
          rotate_left
          · intro w hw; go_simp; with_reducible rfl
          refine anyE_take (i := 6) (v := ?_) rfl (by kernel_rfl) (by kernel_rfl) (by kernel_rfl) (by kernel_rfl) (by kernel_rfl) (fun c _ _ h => absurd rfl (h.2.1 c)) (Or.inl ⟨by kernel_rfl, ?_⟩) HS3 ?_
          rotate_left
          · intro w hw; have hw := hw.2.1; go_simp; with_reducible rfl
          refine anyE_take (i := 7) (v := ?_) rfl (by kernel_rfl) (by kernel_rfl) (by kernel_rfl) (by kernel_rfl) (by kernel_rfl) (fun c _ _ h => absurd rfl (h.2.1 c)) (Or.inl ⟨by kernel_rfl, ?_⟩) HS3 ?_
          rotate_left
          · intro w hw; go_simp; with_reducible rfl
          refine anyE_take (i := 8) (v := ?_) rfl (by kernel_rfl) (by kernel_rfl) (by kernel_rfl) (by kernel_rfl) (by kernel_rfl) (fun c _ _ h => absurd rfl (h.2.1 c)) (Or.inl ⟨by kernel_rfl, ?_⟩) HS3 ?_
          rotate_left
          · intro w hw; go_simp; with_reducible rfl
          refine anyE_take (i := 9) (v := ?_) rfl (by kernel_rfl) (by kernel_rfl) (by kernel_rfl) (by kernel_rfl) (by kernel_rfl) (fun c _ _ h => absurd rfl (h.2.1 c)) (Or.inl ⟨by kernel_rfl, ?_⟩) HS3 ?_
          rotate_left
          · intro w hw; have hw := hw.2.2; go_simp; with_reducible rfl
          obtain ⟨q4a, q4b, q4c, q4d, q4e, _⟩ := q4
          have hrow : RowAt W5.drew (.slice ao2 rr.right.length c2) rr.right := ⟨ao2, c2, rfl, q4a, q4b, q4c, q4e, fun p hp => by
            obtain ⟨a3, e3, hab3, hca⟩ := q4d p hp
            exact ⟨a3, e3, by have := hbW5.size; show a3.block < W5.heap.size; omega, hca⟩⟩
          have hrl := h8 rr (List.mem_of_getElem? hrk)
          refine anyE_ready (rs := [10]) (by kernel_rfl) (by simp) ?_
          refine ReadyE.cons rfl (by kernel_rfl) (fun K hK => ?_) ReadyE.nil
          go_simp
          go_at_call 63
          refine (leaves_any W5.drew (.slice ao2 rr.right.length c2) rr.right hrow (by omega)).mono ?_
          rintro e w6 ⟨u6, bs, rfl, ho6, hl6, hb6, hn6⟩
          have hnB : bs = [] → u6 = .slice none 0 0 := fun e => hn6 (List.eq_nil_of_length_eq_zero (by rw [← hl6.len, e]; rfl))
          have ho0 : w6.ownsRow 0 53 1 u6 bs.length (PV bs) := by
            rw [hl6.len]
            refine ⟨ho6.1, ?_⟩
            rcases ho6.2 with h | ⟨g, cap, cur, e, _, h⟩
            · exact .inl h
            · exact .inr ⟨g, cap, cur, e, Nat.zero_le _, h⟩
          have hoB : w6.ownsRow w.heap.size 53 1 u6 bs.length (PV bs) := by
            have := own_base' ho6 (show w.heap.size ≤ W5.drew.heap.size from hbW5.size)
            rwa [← hl6.len] at this
          obtain ⟨ao6, c6, rfl, _⟩ := kids_row (Bs := 0) ho0
          have hG6 : Blk w6 w.heap.size 25 #[.slice ta tl tc, .slice va vl vc, .slice (some a2) R.length rc] := Blk.below (w := W5.drew) hG5 hb6 hG5.lt
          have hN6 : Blk w6 b 65 #[.int .i64 sy, .int .i64 (kn : Int), .slice none 0 0] := Blk.below (w := W5.drew) hN5 hb6 hN5.lt
          have y2 := hG6.cell 2
          have y1 := hN6.cell 1
          have z2 := hN6.cell 2
          have zf := hN6.frozen 2
          simp only [List.getElem?_toArray, List.getElem?_cons_zero, List.getElem?_cons_succ] at y1 y2 z2
          have y3 := (hb6.cell (p := { block := (a2.add (kn * 3)).block, off := (a2.add (kn * 3)).off + 1 }) (by show (a2.add (kn * 3)).block < W5.heap.size; rw [add_block]; have := hbW5.size; omega)).trans HS3.2.2
          have HS4 : _ := And.intro y2 (And.intro y1 y3)
          refine hK _ _ (fun _ => HS4) ?_
          clear hK K HS3
          refine anyE_take (i := 11) (v := ?_) rfl (by kernel_rfl) (by kernel_rfl) (by kernel_rfl) (by kernel_rfl) (by kernel_rfl) (fun c _ _ h => absurd rfl (h.2.1 c)) (Or.inl ⟨by kernel_rfl, ?_⟩) HS4 ?_
          rotate_left
          · intro w hw; go_simp; with_reducible rfl
          refine anyE_take (i := 12) (v := ?_) rfl (by kernel_rfl) (by kernel_rfl) (by kernel_rfl) (by kernel_rfl) (by kernel_rfl) (fun c _ _ h => absurd rfl (h.2.1 c)) (Or.inl ⟨by kernel_rfl, ?_⟩) HS4 ?_
          rotate_left
          · intro w hw; go_simp; with_reducible rfl
          refine anyE_rest (by kernel_rfl) ?_
          refine wpAny_ready (rs := [13]) (by kernel_rfl) (by simp) ?_
          refine AllReady.cons rfl (fun K hK => ?_) AllReady.nil
          go_simp
          refine hK _ _ ?_
          clear hK K
          refine wpAny_done (by kernel_rfl) ?_ _
          refine ⟨(by intro e; cases e), (by intro c e; cases e), ?_⟩
          have hgs := grown_set w6 ⟨b, 2, none⟩ (.slice ao6 bs.length c6)
          have hX : ∀ k, (k = b ∨ k = w.heap.size + 1) → ∃ cs t fz, w1.heap[k]? = some (.cells cs t fz) ∧ Other t := by
            rintro k (rfl | rfl)
            · exact ⟨_, _, _, HLF.out, other_node⟩
            · exact ⟨_, _, _, HR1.out, other_ints⟩
          have hs5 : SameBut (fun k => k = b ∨ k = w.heap.size + 1) w1 W5 := by
            rw [← hW5]
            have m1 : SameBut (fun k => k = b ∨ k = w.heap.size + 1) w1 (w1.setCell ⟨b, 1, none⟩ (.int .i64 (kn : Int))) := SameBut.grown (grown_set w1 ⟨b, 1, none⟩ _) (fun k e => .inl (Option.some.inj e))
            have m2 : SameBut (fun k => k = b ∨ k = w.heap.size + 1) (w1.setCell ⟨b, 1, none⟩ (.int .i64 (kn : Int))) ((w1.setCell ⟨b, 1, none⟩ (.int .i64 (kn : Int))).setCell ⟨w.heap.size + 1, 0, none⟩ (.slice a1 (ks.length - j - 1) (kc2 - 1))) := SameBut.grown (grown_set _ ⟨w.heap.size + 1, 0, none⟩ _) (fun k e => .inr (Option.some.inj e))
            exact fun k o hx ho => (m1.trans m2) k o hx ho
          have hs6 : SameBut (fun k => k = b ∨ k = w.heap.size + 1) w1 w6 := hs5.trans (SameBut.below (W := W5.drew) hb6)
          have hs7 := hs6.trans (SameBut.grown hgs (fun k e => .inl (by cases e; rfl)))
          have hz5 : W5.heap.size = w1.heap.size := by rw [← hW5]; simp
          have hz7 : w1.heap.size ≤ (w6.setCell ⟨b, 2, none⟩ (.slice ao6 bs.length c6)).heap.size := by
            have h1 := hb6.size
            have h2 : W5.drew.heap.size = W5.heap.size := rfl
            have h3 := hgs.size
            omega
          have hB7 : Below w.heap.size w (w6.setCell ⟨b, 2, none⟩ (.slice ao6 bs.length c6)) := (Below.trans (Below.drew hbW5) (hb6.mono hbW5.size)).setCell (p := ⟨b, 2, none⟩) hbw _
          have hrb5 : Blk W5 (w.heap.size + 1) 26 #[.slice a1 (ks.length - j - 1) (kc2 - 1)] := by
            rw [← hW5]
            exact (HRB.out.far (p := ⟨b, 1, none⟩) hbr2.symm (.int .i64 (kn : Int))).set_ 0 _
          have hrb6 : Blk w6 (w.heap.size + 1) 26 #[.slice a1 (ks.length - j - 1) (kc2 - 1)] := Blk.below (w := W5.drew) hrb5 hb6 hrb5.lt
          have hrb7 : RBox w ks (j + 1) (w.heap.size + 1) (w6.setCell ⟨b, 2, none⟩ (.slice ao6 bs.length c6)) := by
            refine ⟨a1, kc2 - 1, ?_, fun p hp => ?_, by omega⟩
            · have := hrb6.far (p := ⟨b, 2, none⟩) hbr2.symm (.slice ao6 bs.length c6)
              rw [show ks.length - (j + 1) = ks.length - j - 1 by omega]
              exact this
            · obtain ⟨a3, e3, hab3, hca⟩ := HR2'.out (p + 1) (by omega)
              cases e3
              refine ⟨⟨a0.block, a0.off + 1, none⟩, by rw [← hpt, if_neg (by omega)], hab3, ?_⟩
              have e4 : (⟨a0.block, a0.off + 1, none⟩ : Addr).add p = a0.add (p + 1) := by
                unfold Addr.add
                by_cases hp0 : p = 0
                · simp [hp0]
                · simp [hp0]
                  omega
              rw [e4, show j + 1 + p = j + (p + 1) by omega]
              exact hca
          have hown7 := own_grown ho0 hgs (.inr (hN6.not_row (by decide) ho0).symm)
          have hownB7 := own_grown hoB hgs (.inr (hN6.not_row (by decide) hoB).symm)
          have hlv7 : LeavesAt W5.drew.heap.size (w6.setCell ⟨b, 2, none⟩ (.slice ao6 bs.length c6)) bs (ruleW R (ks.getD j 0)) := by
            rw [hkk, hrw]
            refine ⟨hl6.len, hl6.nd, fun p hp => ?_⟩
            obtain ⟨m1, m2⟩ := hl6.at_ p hp
            refine ⟨m1, Blk.far m2 (p := ⟨b, 2, none⟩) (fun e => ?_) _⟩
            have := hN5.lt
            have h2 : W5.drew.heap.size = W5.heap.size := rfl
            have e2 : bs[p] = b := e
            omega
          obtain ⟨t1, t2⟩ := HO.out.var h0 hs7 (u := .slice ao6 bs.length c6) (bs := bs) (B4 := W5.drew.heap.size) (by rw [hkk]; exact hN6.set_ 2 _) hown7 hownB7 hnB hlv7 (by have h2 : W5.drew.heap.size = W5.heap.size := rfl; omega) hrb7 hB7
          have hlvs : ∀ x ∈ bs.map (fun c => (c, lv + 1)) ++ rest, x.2 + k ≤ out.length + 1 := fun x hx => by
            rcases List.mem_append.1 hx with h | h
            · obtain ⟨c, _, rfl⟩ := List.mem_map.1 h
              simp only
              omega
            · have := HLV.out x (List.mem_cons_of_mem _ h)
              omega
          exact ⟨keeps_same hs7 hz7 hX _, ⟨bs, t1, t2, hlvs⟩, keepm_same hs7 hz7 hX⟩
        · gi_wp2_with (refine ⟨trivial, ?_⟩; gi_at_call 47; refine (CallsIn.inRound _ (callsIn_wide.2 (isVar_any _ _))).mono ?_; rintro e w1 ⟨rfl, rfl⟩; simp only [decide_eq_false h0])
          obtain ⟨t1, t2⟩ := HO.out.term (by omega)
          have hx2 : ∀ x ∈ rest, x.2 + k ≤ out.length + 1 := fun x hx => by
            have := HLV.out x (List.mem_cons_of_mem _ hx)
            omega
          exact ⟨KeepsFrom.refl _ _, ⟨[], t1, t2, by simpa using hx2⟩, KeepM.refl _ _⟩
    case done =>
      rintro k W ⟨⟨i, j, ns, st, h⟩, _⟩ hK
      gi_wp2
      have hst : st = [] := by
        have := h.leaf.len
        simpa using this.symm
      have hbt := h.built
      subst hst
      have hi : out.take i = out := by
        generalize hd : out.drop i = od at hbt
        generalize hq : ks.drop j = kq at hbt
        cases hbt
        exact List.take_of_length_le (List.drop_eq_nil_iff.1 hd)
      refine ⟨by simp, .inl ⟨_, _, rfl, run_takeDeferred hK, ?_⟩⟩
      have hg := grownBy_putObj' W W0.heap.size (.deferred none)
      have hS := (h.vis.far hg (fun r e cs t fz ht he => by cases e; rw [hK] at he; cases he)).stack rfl
      exact ⟨.tuple #[.pointer (some ⟨w2.heap.size, 0, none⟩), .int .i64 0], by simp [results, Try.results29, go_sem], h.below.grown hg h.below.size (fun r e => by cases e; omega), fun h => absurd hy h, fun _ => ⟨w2.heap.size, ns, out, rfl, HOUT.out, hS, by rw [h.vals, hi], (by have := h.nd; rw [List.nodup_append] at this; exact this.1), fun x hx => (h.new x hx).far hg (fun r e cs t fz ht he => by cases e; rw [hK] at he; cases he)⟩⟩
  · obtain ⟨y, hy⟩ : ∃ y, (yieldW R [v] ks).2 = y := ⟨_, rfl⟩
    have hyz' : ¬ y = 0 := by rw [← hy]; exact hyz
    have hb1 : (y != 0) = true := by simpa using hyz'
    gi_wp2_with (refine ⟨trivial, ?_⟩; gi_at_call 23; refine (callsIn_wide.2 hyc).mono ?_; rintro e w2 ⟨u, rfl, hu1, hu2, hb2⟩; rw [hy])
    exact ⟨.tuple #[.pointer none, .int .i64 y], by simp [results, Try.results29, go_sem], HBB.out.trans (hb2.mono HBB.out.size), fun _ => by rw [hy], fun h => absurd h hyz⟩
end Go.Proofs.Ytomikgkoegkofaa.dt

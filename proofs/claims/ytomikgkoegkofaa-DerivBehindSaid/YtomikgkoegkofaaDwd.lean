import Derived.Test.YtomikgkoegkofaaDwb
import Derived.Test.YtomikgkoegkofaaDwa
import Derived.Deep.RegionLaw
namespace Go.Proofs.Ytomikgkoegkofaa.dv
open Go.ChangeShapes Go.WideShapes Go.ChangeAt Go.RowKit Go.Maps Go.WideMaps Go.WideElems
set_option linter.unusedVariables false
set_option linter.unusedSimpArgs false
/-! DerivBehind -/
/-- an append of a row that may be nil, as a step of a region that draws its order -/
theorem step_append_src {P : Program} {w : World} {ops : Array Oper} {o : Oper} {a : Act} {K : Act → World → Prop} {Q : Exit → Act → World → Prop} {E : Prop} (hgd : o.guard = none) (s x : Operand) (t : TypeId)
    (ho : o.op = .call { callee := .builtin .append, args := #[s, x], argTypes := #[t, t] })
    (base : Nat) (e : TypeId) (i : TypeInfo) (z : Value) (size bytes : Nat) (ht : P.underlying t = some (.slice e)) (hi : P.info? e = some i) (hz : i.zero = some z)
    (hsize : i.size = size) (hby : i.bytes = bytes) (hzs : z.cells.size = size) (hsz : 0 < size)
    (v : Value) (n : Nat) (xs : List Value) (hs : a.eval s = v) (hown : w.ownsRow base e size v n xs)
    (ao : Option Addr) (m c : Nat) (news : List Value) (hx : a.eval x = .slice ao m c) (hl : news.length = m * size) (hnone : ao = none → m = 0 ∧ c = 0) (hnews : ∀ ad, ao = some ad → ∀ j u, news[j]? = some u → w.cell? (ad.add j) = some u) (h1 : ∀ u ∈ news, u.oneCell' = true)
    (h63 : n + m ≤ maxLen) (hbytes : (n + m) * bytes ≤ 140737488355328) (hbase : base ≤ w.heap.size)
    (h : ∀ v' w', w'.ownsRow base e size v' (n + m) (xs ++ news) → w.grownBy w' v.ownBlock → K (a.put o.dst v') w') :
    if Region.wanted o (yielded ops a.tmps) = true then Oper.wp P o a w K Q else E := by
  have hw : Region.wanted o (yielded ops a.tmps) = true := by simp [Region.wanted, hgd]
  rw [if_pos hw]
  cases ao with
  | some ad => exact wp_append_own w s x t ho base e i z size bytes ht hi hz hsize hby hzs hsz v n xs hs hown ad m c news hx hl (hnews ad rfl) h1 h63 hbytes hbase fun v' w' h2 h3 _ => h v' w' h2 h3
  | none =>
    obtain ⟨rfl, rfl⟩ := hnone rfl
    have hn : news = [] := List.eq_nil_of_length_eq_zero (by simpa using hl)
    subst hn
    have hr := run_append_owned_none (P := P) (w := w) base t o.type e i size ht hi v n xs hown
    unfold Oper.wp execOp
    simp only [ho, resolve, invoke, builtin, Sem.run_bind, Sem.run_pure, Result.andThen_ok, List.map_toArray, List.map_cons, List.map_nil, hs, hx, hr]
    exact h v w (by simpa using hown) (World.grownBy.refl _ _)
theorem iv_one (l : List Int) : ∀ u ∈ IV l, u.oneCell' = true := by
  intro u hu
  simp [IV] at hu
  obtain ⟨q, _, rfl⟩ := hu
  rfl
theorem yield_ok {R : List Rl} {F ks : List Int} (h : (yieldW R F ks).2 = 0) : ∃ G, replW R F ks 0 = (G, 0, 0) ∧ (yieldW R F ks).1 = G.map (fun x => -1 - x) ∧ restW G = [] := by
  unfold yieldW at h ⊢
  by_cases h1 : (replW R F ks 0).2.2 = 0
  · rw [if_pos h1] at h ⊢
    by_cases h2 : restW (replW R F ks 0).1 = []
    · rw [if_pos h2] at h ⊢
      exact ⟨_, Prod.ext rfl (Prod.ext (repl_ok R ks F 0 h1) h1), rfl, h2⟩
    · rw [if_neg h2] at h
      exact absurd h (by decide)
  · rw [if_neg h1] at h
    exact absurd h h1
set_option maxRecDepth 100000 in
set_option maxHeartbeats 4000000 in
theorem behind_any (w : World) (ta va ra : Option Addr) (tl tc vl vc rc : Nat) (fv kv bv : Value) (R : List Rl) (F ks B : List Int) (hR : RulesAt w.heap.size w (.slice ra R.length rc) R) (hT : StrsAt w.heap.size w ta tl) (hV : StrsAt w.heap.size w va vl) (hn : R.length ≤ maxLen) (ht : tl ≤ maxLen) (hv : vl ≤ maxLen) (hF : RowAt w fv F) (hK : RowAt w kv ks) (hD : RowAt w bv B) :
    Calls Try.prog 6 #[.agg #[.slice ta tl tc, .slice va vl vc, .slice ra R.length rc], fv, kv, bv] w fun e w' => e = .returned (.bool true) ∧ Below w.heap.size w w' := by
  obtain ⟨i0, hi, hz0, hz1, hz2⟩ := info_parts info_int
  have b0 := Blk.new w 25 #[.slice ta tl tc, .slice va vl vc, .slice ra R.length rc]
  have hbl : Below w.heap.size w (w.alloc (.cells #[.slice ta tl tc, .slice va vl vc, .slice ra R.length rc] 25)) := below_lit _ _ _
  have hR1 := hR.below hbl
  have hT1 := hT.below hbl
  have hV1 := hV.below hbl
  have hF1 := hF.below hbl
  have hK1 := hK.below hbl
  have hD1 := hD.below hbl
  generalize hW0 : w.alloc (.cells #[.slice ta tl tc, .slice va vl vc, .slice ra R.length rc] 25) = w0 at *
  have hz0' : w0.heap.size = w.heap.size + 1 := by rw [← hW0]; simp
  have HR := Lib.hid hR1
  have HT := Lib.hid hT1
  have HV := Lib.hid hV1
  have HF := Lib.hid hF1
  have HK := Lib.hid hK1
  have HD := Lib.hid hD1
  have HIN := Lib.hid hF.ins
  have HDN := Lib.hid hD.ins
  obtain ⟨fo, fc, rfl, hfc, hfm, _⟩ := hF
  obtain ⟨ko, kc, rfl, hkc, hkm, _⟩ := hK
  obtain ⟨bo, bc, rfl, hbc, hbm, _⟩ := hD
  have hfm' : fc ≤ 9223372036854775807 := by unfold maxLen at hfm; omega
  have hkm' : kc ≤ 9223372036854775807 := by unfold maxLen at hkm; omega
  have hbm' : bc ≤ 9223372036854775807 := by unfold maxLen at hbm; omega
  clear hR hT hV hR1 hT1 hV1 hF1 hK1 hD1
  go_enter Try.func6, Try.ntmps6
  go_wp2_with fail
  refine (alive_any w0).mono ?_
  rintro e w1 ⟨rfl, hb1⟩
  have hB1 : Below (w.heap.size + 1) w0 w1 := hb1.mono (by omega)
  have hz1' := hB1.size
  have bx1 := b0.below hB1 (by omega)
  have p0 := bx1.cell 0
  have p1 := bx1.cell 1
  have p2 := bx1.cell 2
  simp only [List.getElem?_toArray, List.getElem?_cons_zero, List.getElem?_cons_succ] at p0 p1 p2
  go_wp2_with fail
  refine (few_any w1 w.heap.size ta va ra tl tc vl vc rc R (HR.out.below (hB1.mono (by omega))) (by omega) hn ht hv).mono ?_
  rintro e w2 ⟨b, rfl, hfew, hb2⟩
  have hB2 : Below (w.heap.size + 1) w0 w2 := hB1.trans (hb2.mono (by omega))
  cases b
  · clear hfew
    go_wp2
    go_ret
    exact ⟨rfl, hbl.trans (hB2.mono (by omega))⟩
  · obtain ⟨f1, f2, f3, h8⟩ := hfew rfl
    have H8 := Lib.hid h8
    clear hfew h8
    have hz2' := hB2.size
    have bx2 := b0.below hB2 (by omega)
    have q0 := bx2.cell 0
    have q1 := bx2.cell 1
    have q2 := bx2.cell 2
    simp only [List.getElem?_toArray, List.getElem?_cons_zero, List.getElem?_cons_succ] at q0 q1 q2
    by_cases g1 : F.length ≤ 40
    · by_cases g3 : B.length ≤ 40
      · by_cases g2 : ks.length ≤ 60
        · go_wp2_with fail
          refine (right_any w2 w.heap.size ta va ra tl tc vl vc rc R (HR.out.below (hB2.mono (by omega))) (HT.out.below (hB2.mono (by omega))) (HV.out.below (hB2.mono (by omega))) (by omega) f3 f2 f1 H8.out).mono ?_
          rintro e w3 ⟨b, rfl, hb3⟩
          have hB3 : Below (w.heap.size + 1) w0 w3 := hB2.trans (hb3.mono (by omega))
          have hz3 := hB3.size
          cases b
          · go_wp2
            go_ret
            exact ⟨rfl, hbl.trans (hB3.mono (by omega))⟩
          · clear p0 p1 p2 q0 q1 q2 bx1 bx2 hb1 hb2 hb3 hB1 hB2 hz1' hz2'
            have HRI := Lib.hid (rules_in HR.out H8.out)
            have hBw3 : w.heap.size ≤ w3.heap.size := by omega
            have bx3 := b0.below hB3 (by omega)
            have p0 := bx3.cell 0
            have p1 := bx3.cell 1
            have p2 := bx3.cell 2
            simp only [List.getElem?_toArray, List.getElem?_cons_zero, List.getElem?_cons_succ] at p0 p1 p2
            have hF3 : RowAt w3 (.slice fo F.length fc) F := HF.out.below (by rw [hz0']; exact hB3)
            have hK3 : RowAt w3 (.slice ko ks.length kc) ks := HK.out.below (by rw [hz0']; exact hB3)
            have hR3 : RulesAt w.heap.size w3 (.slice ra R.length rc) R := HR.out.below (hB3.mono (by omega))
            have hyl := yield_any w3 w.heap.size ta va tl tc vl vc (.slice ra R.length rc) _ _ R F ks hR3 hBw3 hF3 hK3 (by omega) (by omega) H8.out
            unfold YieldR at hyl
            have HYO := Lib.hid (fun h => yield_ok (R := R) (F := F) (ks := ks) h)
            clear hF3 hK3 hR3
            generalize yieldW R F ks = Y at *
            obtain ⟨yl, ye⟩ := Y
            dsimp only at hyl
            go_wp2_with fail
            refine hyl.mono ?_
            rintro e w4 ⟨u4, rfl, hu1, hu2, hb4⟩
            have hB4 : Below (w.heap.size + 1) w0 w4 := hB3.trans (hb4.mono (by omega))
            by_cases hye : ye = 0
            · have ho4 := hu1 hye
              obtain ⟨G, hG1, hG2, hG3⟩ := HYO.out hye
              try dsimp only at hG2
              subst hye
              subst hG2
              clear hu1 hu2
              have hGin := repl_in HRI.out ks F 0 HIN.out
              rw [hG1] at hGin
              try dsimp only at hGin
              have hgl := hGin.2
              have hgn := hGin.1
              have HGN := Lib.hid hgn
              have hbe := repl_behind R B ks F 0 (by rw [hG1])
              rw [hG1] at hbe
              try dsimp only at hbe
              have HBE := Lib.hid hbe
              obtain ⟨yo, yc, rfl⟩ := own_len ho4
              have HO4 := Lib.hid ho4
              have hz4 := hB4.size
              have bx4 := b0.below hB4 (by omega)
              have r0 := bx4.cell 0
              have r1 := bx4.cell 1
              have r2 := bx4.cell 2
              simp only [List.getElem?_toArray, List.getElem?_cons_zero, List.getElem?_cons_succ] at r0 r1 r2
              have hW5 : Below w4.heap.size w4 (w4.drew.alloc (.cells #[] 3)) := ((Below.refl _ w4).drew).alloc (Nat.le_refl _) _
              have hW6 : Below w4.heap.size w4 (w4.alloc (.cells #[] 3)) := (Below.refl _ w4).alloc (Nat.le_refl _) _
              have hsF := (HF.out.below (by rw [hz0']; exact hB4)).src
              have hsB : ∀ w', Below w4.heap.size w4 w' → SrcAt w' (.slice bo B.length bc) B := fun w' hb => (HD.out.below (by rw [hz0']; exact hB4)).src.below hb
              have HSB := Lib.hid hsB
              have hsB2 : ∀ w', Below w4.heap.size w4 w' → ∀ ad, bo = some ad → ∀ j u, (IV B)[j]? = some u → w'.cell? (ad.add j) = some u := fun w' hb => by
                obtain ⟨_, _, e, _, h⟩ := hsB w' hb
                cases e
                exact fun ad had j u hj => (h ad had j u hj).2
              have HSB2 := Lib.hid hsB2
              obtain ⟨_, _, esf, hsf1, hsf2⟩ := hsF
              cases esf
              have hsF2 : ∀ w', Below w4.heap.size w4 w' → ∀ ad, fo = some ad → ∀ j u, (IV F)[j]? = some u → w'.cell? (ad.add j) = some u := fun w' hb ad had j u hj => by
                obtain ⟨h1, h2⟩ := hsf2 ad had j u hj
                exact (hb.cell (p := ad.add j) (by rw [add_block]; exact h1)).trans h2
              have HSF := Lib.hid hsF2
              have HBX := Lib.hid bx4
              have ra0 := (bx4.below hW6 bx4.lt).cell 0
              have ra1 := (bx4.below hW6 bx4.lt).cell 1
              have ra2 := (bx4.below hW6 bx4.lt).cell 2
              simp only [List.getElem?_toArray, List.getElem?_cons_zero, List.getElem?_cons_succ] at ra0 ra1 ra2
              have hrep : ∀ v w', w'.ownsRow w4.heap.size 3 1 v (F.length + B.length) (IV F ++ IV B) → Below w4.heap.size w4 w' → Calls Try.prog 21 #[.agg #[.slice ta tl tc, .slice va vl vc, .slice ra R.length rc], v, .slice ko ks.length kc] w' (fun e w'' => ∃ u, e = .returned (.tuple #[u, .int .i64 0, .int .i64 0]) ∧ w''.ownsRow w'.heap.size 3 1 u (G.length + B.length) (IV (G ++ B)) ∧ Below w'.heap.size w' w'') := fun v w' ho hb => by
                have hBB := hB4.trans (hb.mono (by omega))
                have hsz := hBB.size
                have hrow : RowAt w' v (F ++ B) := row_own (n := F.length + B.length) (by unfold IV; rw [List.map_append]; exact ho) (by simp) (fun n hn => by
                  rcases List.mem_append.1 hn with h | h
                  · exact HIN.out n h
                  · exact HDN.out n h)
                have hra := replay_any w' w.heap.size ta va tl tc vl vc (.slice ra R.length rc) _ _ R (F ++ B) ks (HR.out.below (hBB.mono (by omega))) (by omega) hrow (HK.out.below (by rw [hz0']; exact hBB)) (by omega) (by simp; omega) H8.out
                unfold ReplR at hra
                rw [HBE.out] at hra
                refine hra.mono ?_
                rintro e w'' ⟨u, rfl, h1, _, h3⟩
                refine ⟨u, rfl, ?_, h3⟩
                have := h1 rfl
                rwa [List.length_append] at this
              have HREP := Lib.hid hrep
              clear hsB hsB2 hsf2 hsF2 hrep ho4 hyl hgn hGin hbe hG1
              have hnl := hsf1
              have hrowB := HSB.out w4 (Below.refl _ _)
              obtain ⟨_, _, esb, hsb1, _⟩ := hrowB
              cases esb
              go_wp2
              go_region_law (first
                | (go_simp; go_at_call 21; refine (HREP.out _ _ hown7 hb7).mono ?_; rintro e w8 ⟨u8, rfl, ho8, hb8⟩)
                | (refine step_append_src (by rfl) (.tmp 57) (.tmp 58) 26 (by rfl) w4.heap.size 3 i0 (.int .i64 0) 1 8 Try.underlying26 hi hz0 hz1 hz2 (by rfl) (by decide) v6 F.length (IV F) (by rfl) hown6 bo B.length bc (IV B) (by rfl) (by simp [IV]) hsb1 (HSB2.out _ hb6) (iv_one B) (by unfold maxLen; omega) (by omega) hb6.size ?_; intro v7 w7 hown7 hgrow7; have hb7 : Below w4.heap.size w4 w7 := hb6.grown hgrow7 hb6.size (fun j hj => (hown6.lt j hj).1); have bx7 := HBX.out.below hb7 HBX.out.lt; have t0 := bx7.cell 0; have t1 := bx7.cell 1; have t2 := bx7.cell 2; simp only [List.getElem?_toArray, List.getElem?_cons_zero, List.getElem?_cons_succ] at t0 t1 t2)
                | (refine step_append_src (by rfl) (.tmp 55) (.tmp 56) 26 (by rfl) w4.heap.size 3 i0 (.int .i64 0) 1 8 Try.underlying26 hi hz0 hz1 hz2 (by rfl) (by decide) _ 0 [] (by rfl) (by first | exact World.ownsRow_lit w4.drew #[] 0 (Nat.le_refl _) (by decide) (by rfl) | exact World.ownsRow_lit w4 #[] 0 (Nat.le_refl _) (by decide) (by rfl)) fo F.length fc (IV F) (by rfl) (by simp [IV]) hnl (HSF.out _ (by first | exact hW5 | exact hW6 | exact hW6.drew)) (iv_one F) (by unfold maxLen; omega) (by omega) (by show w4.heap.size ≤ _; simp) ?_; intro v6 w6 hown6 hgrow6; rw [Nat.zero_add, List.nil_append] at hown6; have hb6 : Below w4.heap.size w4 w6 := (by refine Below.grown ?_ hgrow6 ?_ ?_; (first | exact hW5 | exact hW6 | exact hW6.drew); (first | exact hW5.size | exact hW6.size); (exact fun j hj => by cases hj; exact Nat.le_refl _)); have bx6 := HBX.out.below hb6 HBX.out.lt; have s0 := bx6.cell 0; have s1 := bx6.cell 1; have s2 := bx6.cell 2; simp only [List.getElem?_toArray, List.getElem?_cons_zero, List.getElem?_cons_succ] at s0 s1 s2))
              all_goals
                have hb48 : Below w4.heap.size w4 w8 := hb7.trans (hb8.mono hb7.size)
                have hB8 : Below (w.heap.size + 1) w0 w8 := hB4.trans (hb48.mono (by omega))
                have hGB : (G ++ B).length = G.length + B.length := List.length_append
                have hrow8 : RowAt w8 u8 (G ++ B) := row_own ho8 hGB (fun n hn => by
                  rcases List.mem_append.1 hn with h | h
                  · exact HGN.out n h
                  · exact HDN.out n h)
                have hrow4 : RowAt w8 (.slice yo (G.map fun x => -1 - x).length yc) (G.map fun x => -1 - x) := (row_own HO4.out (by simp) (fun n hn => by
                  obtain ⟨x, hx, rfl⟩ := List.mem_map.1 hn
                  have := HGN.out x hx
                  unfold In64 at *
                  omega)).below hb48
                have hwB : WordAt w8 (.slice bo B.length bc) B := (HD.out.below (by rw [hz0']; exact hB8)).word
                obtain ⟨xo, xc, rfl⟩ := own_len ho8
                have HROW8 := Lib.hid hrow8
                obtain ⟨_, _, e8, x1, x2, x3, _, x5⟩ := hrow8
                rw [hGB] at x1 e8
                injection e8 with e81 e82 e83
                subst e81 e83
                obtain ⟨_, _, e4, y1, y2, y3, _, y5⟩ := hrow4
                rw [List.length_map] at y1 e4
                injection e4 with e41 e42 e43
                subst e41 e43
                have X5 := Lib.hid x5
                have Y5 := Lib.hid y5
                have HWB := Lib.hid hwB
                have hxm : xc ≤ 9223372036854775807 := by unfold maxLen at x2; omega
                have hym : yc ≤ 9223372036854775807 := by unfold maxLen at y2; omega
                clear x5 y5 hwB ho8 e82 e42 hnl hsb1 r0 r1 r2 ra0 ra1 ra2
                try clear s0 s1 s2
                try clear t0 t1 t2
                go_wp2
                clear hb8 hb48 bx4
                go_loopw [79] (fun i wr => ∃ k : Nat, k ≤ G.length ∧ i = .int .i64 k ∧ wr = w8) (fun i _ => G.length - (intOf i).toNat)
                case atStart => exact ⟨0, Nat.zero_le _, rfl, rfl⟩
                case round =>
                  obtain ⟨k, hk, rfl, rfl⟩ := hrel
                  by_cases hlt : k < G.length
                  · obtain ⟨a1, e1, hab1, hc1⟩ := X5.out k (by rw [hGB]; omega)
                    obtain ⟨a2, e2, hab2, hc2⟩ := Y5.out k (by rw [List.length_map]; exact hlt)
                    subst e1 e2
                    have g1' : (G ++ B).getD k 0 = G.getD k 0 := by simp [List.getD_eq_getElem?_getD, List.getElem?_append_left hlt]
                    have g2' : (G.map fun x => -1 - x).getD k 0 = -1 - G.getD k 0 := by simp [List.getD_eq_getElem?_getD, List.getElem?_eq_getElem hlt]
                    rw [g1'] at hc1
                    rw [g2'] at hc2
                    have hnum := HGN.out (G.getD k 0) (by rw [List.getD_eq_getElem?_getD, List.getElem?_eq_getElem hlt]; simp)
                    have hcm := cm_if (-1 - G.getD k 0) (by unfold In64 at *; omega)
                    have hcm2 : -1 - (-1 - G.getD k 0) = G.getD k 0 := by omega
                    rw [hcm2] at hcm
                    clear g1' g2' hcm2 hnum
                    generalize G.getD k 0 = x at *
                    go_wp2
                    exact ⟨⟨k + 1, hlt, congrArg (Value.int .i64) (by omega), trivial⟩, by simp only [intOf]; omega⟩
                  · obtain rfl : G.length = k := by omega
                    have hdW : (xo = none ∧ xc = 0 ∧ B.length = 0 ∧ G.length = 0) ∨ (∃ ka, xo = some ka ∧ xc = G.length ∧ B.length = 0) ∨ (∃ ka, xo = some ka ∧ ¬ xc = G.length ∧ WordAt wr (.slice (some (ka.add G.length)) B.length (xc - G.length)) B) := by
                      cases xo with
                      | none => exact .inl ⟨rfl, x3 rfl, by have := x3 rfl; omega, by have := x3 rfl; omega⟩
                      | some ka =>
                        by_cases h1 : xc = G.length
                        · exact .inr (.inl ⟨ka, rfl, h1, by omega⟩)
                        · refine .inr (.inr ⟨ka, rfl, h1, ?_⟩)
                          have hr := HROW8.out
                          rw [← hGB] at hr
                          have hd := (hr.drop G.length (by omega) ka rfl).word
                          rwa [hGB, Nat.add_sub_cancel_left, List.drop_left] at hd
                    clear x3 HROW8 X5 Y5
                    rcases hdW with ⟨rfl, rfl, hb0, hg0⟩ | ⟨ka, rfl, hxc, hb0⟩ | ⟨ka, rfl, hxc, hwd⟩
                    · have hbn : B = [] := List.length_eq_zero_iff.1 hb0
                      have hgn : G = [] := List.length_eq_zero_iff.1 hg0
                      subst hbn hgn
                      have hsm := rsame_self wr (.slice none 0 0) _ [] ⟨none, 0, rfl, by simp, fun i hi => absurd hi (Nat.not_lt_zero _)⟩ HWB.out (by simp)
                      go_wp2_with fail
                      refine hsm.mono ?_
                      rintro e w9 ⟨rfl, hb9⟩
                      go_wp2
                      go_ret
                      exact ⟨rfl, hbl.trans ((hB8.trans (hb9.mono (by have := hB8.size; omega))).mono (by omega))⟩
                    · have hbn : B = [] := List.length_eq_zero_iff.1 hb0
                      subst hbn
                      have hsm := rsame_self wr (.slice (some ka) 0 0) _ [] ⟨some ka, 0, rfl, by simp, fun i hi => absurd hi (Nat.not_lt_zero _)⟩ HWB.out (by simp)
                      go_wp2_with fail
                      refine hsm.mono ?_
                      rintro e w9 ⟨rfl, hb9⟩
                      go_wp2
                      go_ret
                      exact ⟨rfl, hbl.trans ((hB8.trans (hb9.mono (by have := hB8.size; omega))).mono (by omega))⟩
                    · have hsm := rsame_self wr _ _ _ hwd HWB.out (by omega)
                      go_wp2_with fail
                      refine hsm.mono ?_
                      rintro e w9 ⟨rfl, hb9⟩
                      go_wp2
                      go_ret
                      exact ⟨rfl, hbl.trans ((hB8.trans (hb9.mono (by have := hB8.size; omega))).mono (by omega))⟩
            · obtain rfl := hu2 hye
              clear hu1 hu2
              generalize hY : ye = E at *
              have hne : (E != 0) = true := by simpa using hye
              go_wp2
              go_ret
              exact ⟨rfl, hbl.trans (hB4.mono (by omega))⟩
        · go_wp2
          go_ret
          exact ⟨rfl, hbl.trans (hB2.mono (by omega))⟩
      · go_wp2
        go_ret
        exact ⟨rfl, hbl.trans (hB2.mono (by omega))⟩
    · go_wp2
      go_ret
      exact ⟨rfl, hbl.trans (hB2.mono (by omega))⟩
end Go.Proofs.Ytomikgkoegkofaa.dv

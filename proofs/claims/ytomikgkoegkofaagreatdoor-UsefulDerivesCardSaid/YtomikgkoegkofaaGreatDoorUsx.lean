import Derived.Maps.AppendAt
import Derived.Test.YtomikgkoegkofaaGreatDoorUsw
namespace Go.Proofs.YtomikgkoegkofaaGreatDoor.dv
open Go.ChangeShapes Go.WideShapes Go.ChangeAt Go.RowKit Go.Maps Go.WideMaps Go.WideElems
set_option linter.unusedVariables false
set_option linter.unusedSimpArgs false
/-! Cost -/
theorem step_append_at {P : Program} {w : World} {ops : Array Oper} {o : Oper} {a : Act} {K : Act → World → Prop} {Q : Exit → Act → World → Prop} {E : Prop} (hgd : o.guard = none) (s x : Operand) (t : TypeId)
    (ho : o.op = .call { callee := .builtin .append, args := #[s, x], argTypes := #[t, t] })
    (base : Nat) (e : TypeId) (i : TypeInfo) (z : Value) (size bytes : Nat) (ht : P.underlying t = some (.slice e)) (hi : P.info? e = some i) (hz : i.zero = some z)
    (hsize : i.size = size) (hby : i.bytes = bytes) (hzs : z.cells.size = size) (hsz : 0 < size)
    (v : Value) (n : Nat) (xs : List Value) (hs : a.eval s = v) (hown : w.ownsRow base e size v n xs)
    (ad : Addr) (m c : Nat) (news : List Value) (hx : a.eval x = .slice (some ad) m c) (hl : news.length = m * size) (hnews : ∀ j u, news[j]? = some u → w.cell? (ad.add j) = some u) (h1 : ∀ u ∈ news, u.oneCell' = true)
    (h63 : n + m ≤ maxLen) (hbytes : (n + m) * bytes ≤ 140737488355328) (hbase : base ≤ w.heap.size)
    (h : ∀ v' w', w'.ownsRow base e size v' (n + m) (xs ++ news) → w.grownBy w' v.ownBlock → (v'.ownBlock = v.ownBlock ∨ v'.ownBlock = some w.heap.size) → K (a.put o.dst v') w') :
    if Region.wanted o (yielded ops a.tmps) = true then Oper.wp P o a w K Q else E := by
  have hw : Region.wanted o (yielded ops a.tmps) = true := by simp [Region.wanted, hgd]
  rw [if_pos hw]
  obtain ⟨v', w', hr, h2, h3, h4, h5⟩ := run_append_own_at (P := P) w base t o.type e i z size bytes ht hi hz hsize hby hzs hsz v n xs hown ad m c news hl hnews h1 h63 hbytes hbase
  unfold Oper.wp execOp
  simp only [ho, resolve, invoke, builtin, Sem.run_bind, Sem.run_pure, Result.andThen_ok, List.map_toArray, List.map_cons, List.map_nil, hs, hx, hr]
  exact h v' w' h2 h3 h5
/-- two rows of numbers that grow, apart, beside a way in a box -/
structure CoS (w : World) (b : Nat) (y : Way) (Bw : Nat) (lv : Value) (S : List Way) (kc kd : Nat) (C D : List Int) (cv dv : Value) (U : World) : Prop where
  c : U.ownsRow w.heap.size 3 1 cv kc (IV C)
  d : U.ownsRow w.heap.size 3 1 dv kd (IV D)
  ap : cv.ownBlock = none ∨ cv.ownBlock ≠ dv.ownBlock
  pa : dv.ownBlock = none ∨ dv.ownBlock ≠ cv.ownBlock
  bel : Below w.heap.size w U
  box : Blk U b 57 #[.int .i64 (y.1 : Int), .int .i64 (y.2.1 : Int), .int .i64 y.2.2]
  ways : U.ownsRow Bw 57 3 lv S.length (WV S)
section
variable {w : World} {b Bw : Nat} {y : Way} {lv : Value} {S : List Way} {kc kd : Nat} {C D : List Int} {cv dv : Value} {U U' : World}
theorem CoS.alloc (h : CoS w b y Bw lv S kc kd C D cv dv U) (o : Obj) : CoS w b y Bw lv S kc kd C D cv dv (U.alloc o) := ⟨h.c.alloc o, h.d.alloc o, h.ap, h.pa, h.bel.alloc h.bel.size o, h.box.alloc o, h.ways.alloc o⟩
theorem CoS.drew (h : CoS w b y Bw lv S kc kd C D cv dv U) : CoS w b y Bw lv S kc kd C D cv dv U.drew := ⟨h.c, h.d, h.ap, h.pa, h.bel.drew, h.box, h.ways⟩
theorem CoS.swap (h : CoS w b y Bw lv S kc kd C D cv dv U) : CoS w b y Bw lv S kd kc D C dv cv U := ⟨h.d, h.c, h.pa, h.ap, h.bel, h.box, h.ways⟩
theorem apart_none {v u : Value} (h : v.ownBlock = none ∨ v.ownBlock ≠ u.ownBlock) : u.ownBlock = none ∨ u.ownBlock ≠ v.ownBlock := by
  rcases h with h | h
  · cases hu : u.ownBlock with
    | none => exact .inl rfl
    | some r => right; rw [h]; intro e; cases e
  · exact .inr (fun e => h e.symm)
theorem CoS.putC (h : CoS w b y Bw lv S kc kd C D cv dv U) {cv' : Value} {x : Int} (h1 : U'.ownsRow w.heap.size 3 1 cv' (kc + 1) (IV C ++ [.int .i64 x])) (h2 : U.grownBy U' cv.ownBlock) (h3 : cv'.ownBlock = cv.ownBlock ∨ cv'.ownBlock = some U.heap.size) : CoS w b y Bw lv S (kc + 1) kd (C ++ [x]) D cv' dv U' := by
  have ha : dv.ownBlock = none ∨ dv.ownBlock ≠ cv'.ownBlock := by
    rcases h3 with e | e
    · rw [e]; exact h.pa
    · cases hu : dv.ownBlock with
      | none => exact .inl rfl
      | some r =>
        right
        rw [e]
        intro e2
        have := (h.d.lt r hu).2
        have e3 : r = U.heap.size := Option.some.inj e2
        omega
  refine ⟨by unfold IV at *; rw [List.map_append]; exact h1, own_grown h.d h2 h.pa, apart_none ha, ha, h.bel.grown h2 h.bel.size (fun r e => (row_cells h.c r e).1), h.box.grown h2 (h.box.not_row (by decide) h.c), own_grown h.ways h2 (row_apart h.ways h.c (by decide))⟩
theorem CoS.putD (h : CoS w b y Bw lv S kc kd C D cv dv U) {dv' : Value} {x : Int} (h1 : U'.ownsRow w.heap.size 3 1 dv' (kd + 1) (IV D ++ [.int .i64 x])) (h2 : U.grownBy U' dv.ownBlock) (h3 : dv'.ownBlock = dv.ownBlock ∨ dv'.ownBlock = some U.heap.size) : CoS w b y Bw lv S kc (kd + 1) C (D ++ [x]) cv dv' U' := (h.swap.putC h1 h2 h3).swap
theorem CoS.freshC (h : CoS w b y Bw lv S kc kd C D cv dv U) {r : Nat} (hr : U.heap.size ≤ r) : cv.ownBlock ≠ some r := fun e => by
  have := (h.c.lt r e).2
  omega
theorem blk_one {U : World} {p : Nat} {t : TypeId} {u : Value} (h : Blk U p t #[u]) : ∀ (j : Nat) (v : Value), [u][j]? = some v → U.cell? ((⟨p, 0, none⟩ : Addr).add j) = some v := by
  intro j v hj
  cases j with
  | zero =>
    simp at hj
    subst hj
    have := h.cell 0
    simpa [Addr.add] using this
  | succ j => simp at hj
theorem CoS.cells (h : CoS w b y Bw lv S kc kd C D cv dv U) : U.cell? ⟨b, 0, none⟩ = some (.int .i64 (y.1 : Int)) ∧ U.cell? ⟨b, 2, none⟩ = some (.int .i64 y.2.2) := ⟨h.box.cell 0, h.box.cell 2⟩
end
def wC (S : List Way) (k : Nat) : List Int := (S.take k).map fun x => (x.1 : Int)
def wD (S : List Way) (k : Nat) : List Int := (S.take k).map fun x => x.2.2
theorem wC_succ {S : List Way} {k : Nat} (h : k < S.length) : wC S (k + 1) = wC S k ++ [((S.getD k noW).1 : Int)] := by
  unfold wC
  rw [List.take_succ_eq_append_getElem h, List.map_append, List.getD_eq_getElem?_getD, List.getElem?_eq_getElem h]
  rfl
theorem wD_succ {S : List Way} {k : Nat} (h : k < S.length) : wD S (k + 1) = wD S k ++ [(S.getD k noW).2.2] := by
  unfold wD
  rw [List.take_succ_eq_append_getElem h, List.map_append, List.getD_eq_getElem?_getD, List.getElem?_eq_getElem h]
  rfl
set_option maxRecDepth 100000 in
set_option maxHeartbeats 4000000 in
theorem cost_any (w : World) (B : Nat) (ta va : Option Addr) (tl tc vl vc : Nat) (rv : Value) (R : List Rl) (hR : RulesAt B w rv R) (hB : B ≤ w.heap.size) (hl : ∀ r ∈ R, 0 ≤ r.left ∧ r.left < vl) (hv : vl ≤ 1000) :
    Calls Tryz.prog 9 #[.agg #[.slice ta tl tc, .slice va vl vc, rv]] w fun e w' => ∃ S cv dv, e = .returned (.tuple #[cv, dv]) ∧ Inv R vl S ∧ Done R S ∧ Below w.heap.size w w' ∧ w'.ownsRow w.heap.size 3 1 cv vl (IV (S.map fun x => (x.1 : Int))) ∧ w'.ownsRow w.heap.size 3 1 dv vl (IV (S.map fun x => x.2.2)) := by
  obtain ⟨i0, hi0, hz0i, hz1, hz2⟩ := info_parts info_int
  obtain ⟨ra, rc, rfl, hn, _⟩ := id hR
  have b0 := Blk.new w 25 #[.slice ta tl tc, .slice va vl vc, .slice ra R.length rc]
  have hbl : Below w.heap.size w (w.alloc (.cells #[.slice ta tl tc, .slice va vl vc, .slice ra R.length rc] 25)) := (Below.refl _ w).alloc (Nat.le_refl _) _
  have hz : (w.alloc (.cells #[.slice ta tl tc, .slice va vl vc, .slice ra R.length rc] 25)).heap.size = w.heap.size + 1 := by simp
  generalize hW0 : w.alloc (.cells #[.slice ta tl tc, .slice va vl vc, .slice ra R.length rc] 25) = w0 at *
  have hwy := ways_any w0 B ta va tl tc vl vc (.slice ra R.length rc) R (hR.far (hbl.mono hB)) (by omega) hl hv
  have HBL := Lib.hid hbl
  have HZ := Lib.hid hz
  have c0 := b0.cell 0
  have c1 := b0.cell 1
  have c2 := b0.cell 2
  simp only [List.getElem?_toArray, List.getElem?_cons_zero, List.getElem?_cons_succ] at c0 c1 c2
  clear hR hl b0 hbl
  go_enter Tryz.func9, Tryz.ntmps9
  go_wp2_with fail
  refine hwy.mono ?_
  rintro e w1 ⟨lv, m, S, rfl, hWS, hI, hDn, hb1⟩
  have hw1 : Below w.heap.size w w1 := HBL.out.trans (hb1.mono (by have := HZ.out; omega))
  have hSl : S.length = vl := hI.len
  have HWS := Lib.hid hWS
  have HI := Lib.hid hI
  have HDN := Lib.hid hDn
  have HW1 := Lib.hid hw1
  have HSL := Lib.hid hSl
  obtain ⟨⟨cap, rfl⟩, _⟩ := hWS
  have hSm : S.length ≤ 1000 := by omega
  clear c0 c1 c2 hwy hI hDn hb1 hw1 hSl
  go_wp2
  go_loopw [2, 3, 9] (fun cv dv q W => ∃ k : Nat, k ≤ S.length ∧ q = .int .i64 k ∧ WaysAt W w0.heap.size m (.slice (some ⟨m, 0, none⟩) S.length cap) S ∧ W.ownsRow w.heap.size 3 1 cv k (IV (wC S k)) ∧ W.ownsRow w.heap.size 3 1 dv k (IV (wD S k)) ∧ (cv.ownBlock = none ∨ cv.ownBlock ≠ dv.ownBlock) ∧ Below w.heap.size w W) (fun _ _ q _ => S.length - (intOf q).toNat)
  case atStart => exact ⟨0, Nat.zero_le _, rfl, HWS.out, World.ownsRow_nil _ _ _ _, World.ownsRow_nil _ _ _ _, .inl rfl, HW1.out⟩
  case round =>
    obtain ⟨W, rfl⟩ : ∃ W : World, W = wr := ⟨_, rfl⟩
    obtain ⟨k, hk, hq, hwa, hrc, hrd, hap, hbw⟩ := hrel
    obtain rfl := hq
    have WWA := Lib.hid hwa
    have WRC := Lib.hid hrc
    have WRD := Lib.hid hrd
    have WAP := Lib.hid hap
    have WBW := Lib.hid hbw
    clear hwa hrc hrd hap hbw
    by_cases hlt : k < S.length
    · have hlt2 : (k : Int) < (S.length : Int) := by omega
      have hk0 : (0 : Int) ≤ (k : Int) := by omega
      obtain ⟨q0, q1, q2⟩ := ways_cell WWA.out.2 k hlt
      have hsc := wC_succ hlt
      have hsd := wD_succ hlt
      obtain ⟨y, hy⟩ : ∃ y, y = S.getD k noW := ⟨_, rfl⟩
      rw [← hy] at q0 q1 q2 hsc hsd
      have hco : CoS w W.heap.size y w0.heap.size (.slice (some ⟨m, 0, none⟩) S.length cap) S k k (wC S k) (wD S k) u2 u3 (W.alloc (.cells #[.int .i64 (y.1 : Int), .int .i64 (y.2.1 : Int), .int .i64 y.2.2] 57)) := ⟨WRC.out.alloc _, WRD.out.alloc _, WAP.out, apart_none WAP.out, WBW.out.alloc WBW.out.size _, Blk.new _ _ _, WWA.out.2.alloc _⟩
      obtain ⟨C, hC⟩ : ∃ C, C = wC S k := ⟨_, rfl⟩
      obtain ⟨D, hD⟩ : ∃ D, D = wD S k := ⟨_, rfl⟩
      rw [← hC] at hco hsc
      rw [← hD] at hco hsd
      obtain ⟨y1, y2, y3⟩ := y
      have HSC := Lib.hid hsc
      have HSD := Lib.hid hsd
      have HCO := Lib.hid hco
      have HWF := Lib.hid (fun (X : World) (h : Below W.heap.size W X) => ways_below WWA.out h)
      clear hsc hsd hy hC hD hco
      dsimp only at q0 q1 q2
      go_wp2
      generalize hXX : W.alloc (.cells #[.int .i64 (y1 : Int), .int .i64 (y2 : Int), .int .i64 y3] 57) = X at *
      clear hXX q0 q1 q2
      have hz0 := HCO.out.drew
      have hs0 := HCO.out.cells
      dsimp only at hs0
      refine wp_region_EQ (fun U => U.cell? ⟨W.heap.size, 0, none⟩ = some (.int .i64 (y1 : Int)) ∧ U.cell? ⟨W.heap.size, 2, none⟩ = some (.int .i64 y3)) [] (by kernel_rfl) ?_
      have HS : _ := And.intro (DRC X _ _ hs0.1) (DRC X _ _ hs0.2)
      change anyE _ _ _ _ _ _ _ _ _ (World.drew _)
      generalize World.drew X = Z at *
      refine anyE_take (i := 0) (v := ?_) rfl (by kernel_rfl) (by kernel_rfl) (by kernel_rfl) (by kernel_rfl) (by kernel_rfl) (fun c _ _ h => absurd rfl (h.1 c)) (Or.inl ⟨by kernel_rfl, ?_⟩) HS ?_
      rotate_left
      · intro w _; go_simp; with_reducible rfl
      refine anyE_take (i := 1) (v := ?_) rfl (by kernel_rfl) (by kernel_rfl) (by kernel_rfl) (by kernel_rfl) (by kernel_rfl) (fun c _ _ h => absurd rfl (h.1 c)) (Or.inl ⟨by kernel_rfl, ?_⟩) HS ?_
      rotate_left
      · intro w _; go_simp; with_reducible rfl
      refine anyE_take (i := 5) (v := ?_) rfl (by kernel_rfl) (by kernel_rfl) (by kernel_rfl) (by kernel_rfl) (by kernel_rfl) (fun c _ _ h => absurd rfl (h.1 c)) (Or.inl ⟨by kernel_rfl, ?_⟩) HS ?_
      rotate_left
      · intro w _; go_simp; with_reducible rfl
      refine anyE_take (i := 6) (v := ?_) rfl (by kernel_rfl) (by kernel_rfl) (by kernel_rfl) (by kernel_rfl) (by kernel_rfl) (fun c _ _ h => absurd rfl (h.1 c)) (Or.inl ⟨by kernel_rfl, ?_⟩) HS ?_
      rotate_left
      · intro w _; go_simp; with_reducible rfl
      refine anyE_take (i := 2) (v := ?_) rfl (by kernel_rfl) (by kernel_rfl) (by kernel_rfl) (by kernel_rfl) (by kernel_rfl) (fun c _ _ h => absurd rfl (h.1 c)) (Or.inl ⟨by kernel_rfl, ?_⟩) HS ?_
      rotate_left
      · intro w hw; have hw := hw.1; go_simp; with_reducible rfl
      refine anyE_take (i := 7) (v := ?_) rfl (by kernel_rfl) (by kernel_rfl) (by kernel_rfl) (by kernel_rfl) (by kernel_rfl) (fun c _ _ h => absurd rfl (h.1 c)) (Or.inl ⟨by kernel_rfl, ?_⟩) HS ?_
      rotate_left
      · intro w hw; have hw := hw.2; go_simp; with_reducible rfl
      have hZ := hz0
      have hZZ := hz0
      refine anyE_ready (rs := [3, 8]) (by kernel_rfl) (by simp) ?_
      refine ReadyE.cons rfl (by kernel_rfl) (fun K hK => ?_) (ReadyE.cons rfl (by kernel_rfl) (fun K hK => ?_) ReadyE.nil)
      · go_simp
        have hA := hZ.alloc (.cells #[.int .i64 (y1 : Int)] 3)
        have bCA := Blk.new Z 3 #[.int .i64 (y1 : Int)]
        have hsA := hA.cells
        dsimp only at hsA
        refine hK.out _ _ (fun _ => hsA) ?_
        clear hK K
        generalize hWA : Z.alloc (.cells #[.int .i64 (y1 : Int)] 3) = A at *
        clear hWA
        refine anyE_ready (rs := [4, 8]) (by kernel_rfl) (by simp) ?_
        refine ReadyE.consI rfl (fun K hK => ?_) (ReadyE.cons rfl (by kernel_rfl) (fun K hK => ?_) ReadyE.nil)
        · refine step_append_at (by rfl) (.tmp 13) (.tmp 16) 28 (by rfl) w.heap.size 3 i0 (.int .i64 0) 1 8 Tryz.underlying28 hi0 hz0i hz1 hz2 (by rfl) (by decide) u2 k (IV C) (by rfl) hA.c ⟨Z.heap.size, 0, none⟩ 1 1 [.int .i64 (y1 : Int)] (by rfl) (by rfl) (blk_one bCA) (by simp [Value.oneCell']) (by unfold maxLen; omega) (by omega) hA.bel.size ?_
          intro u22 A2 hownA2 hgrowA2 hatA2
          have hA2 := hA.putC hownA2 hgrowA2 hatA2
          have hsA2 := hA2.cells
          dsimp only at hsA2
          refine hK.out _ _ (fun _ => hsA2) ?_
          clear hK K
          refine anyE_ready (rs := [8]) (by kernel_rfl) (by simp) ?_
          refine ReadyE.cons rfl (by kernel_rfl) (fun K hK => ?_) ReadyE.nil
          go_simp
          have hA3 := hA2.alloc (.cells #[.int .i64 y3] 3)
          have bDA3 := Blk.new A2 3 #[.int .i64 y3]
          have hsA3 := hA3.cells
          dsimp only at hsA3
          refine hK.out _ _ (fun _ => hsA3) ?_
          clear hK K
          generalize hWA3 : A2.alloc (.cells #[.int .i64 y3] 3) = A3 at *
          clear hWA3
          refine anyE_ready (rs := [9]) (by kernel_rfl) (by simp) ?_
          refine ReadyE.consI rfl (fun K hK => ?_) ReadyE.nil
          refine step_append_at (by rfl) (.tmp 18) (.tmp 21) 28 (by rfl) w.heap.size 3 i0 (.int .i64 0) 1 8 Tryz.underlying28 hi0 hz0i hz1 hz2 (by rfl) (by decide) u3 k (IV D) (by rfl) hA3.d ⟨A2.heap.size, 0, none⟩ 1 1 [.int .i64 y3] (by rfl) (by rfl) (blk_one bDA3) (by simp [Value.oneCell']) (by unfold maxLen; omega) (by omega) hA3.bel.size ?_
          intro u32 A4 hownA4 hgrowA4 hatA4
          have hA4 := hA3.putD hownA4 hgrowA4 hatA4
          have hsA4 := hA4.cells
          dsimp only at hsA4
          refine hK.out _ _ (fun _ => hsA4) ?_
          clear hK K
          refine anyE_take (i := 10) (v := ?_) rfl (by kernel_rfl) (by kernel_rfl) (by kernel_rfl) (by kernel_rfl) (by kernel_rfl) (fun c _ _ h => absurd rfl (h.1 c)) (Or.inl ⟨by kernel_rfl, ?_⟩) hsA4 ?_
          rotate_left
          · intro w _; go_simp; with_reducible rfl
          refine anyE_take (i := 11) (v := ?_) rfl (by kernel_rfl) (by kernel_rfl) (by kernel_rfl) (by kernel_rfl) (by kernel_rfl) (fun c _ _ h => absurd rfl (h.1 c)) (Or.inl ⟨by kernel_rfl, ?_⟩) hsA4 ?_
          rotate_left
          · intro w _; go_simp; with_reducible rfl
          refine anyE_done (by kernel_rfl) ?_ _
          refine ⟨(fun c h => by cases h), ?_⟩
          simp only [Act.put, List.setIfInBounds_toArray, List.set_cons_succ, List.set_cons_zero, List.getElem_toArray, List.getElem_cons_zero, List.getElem_cons_succ]
          have HE := Lib.hid hA4
          go_wp2
          exact ⟨⟨k + 1, hlt, congrArg (Value.int .i64) (by omega), ⟨⟨cap, rfl⟩, HE.out.ways⟩, by rw [HSC.out]; exact HE.out.c, by rw [HSD.out]; exact HE.out.d, HE.out.ap, HE.out.bel⟩, by simp only [intOf]; omega⟩
        · go_simp
          have hA2 := hA.alloc (.cells #[.int .i64 y3] 3)
          have bDA2 := Blk.new A 3 #[.int .i64 y3]
          have bCA2 := bCA.alloc (.cells #[.int .i64 y3] 3)
          have hsA2 := hA2.cells
          dsimp only at hsA2
          refine hK.out _ _ (fun _ => hsA2) ?_
          clear hK K
          generalize hWA2 : A.alloc (.cells #[.int .i64 y3] 3) = A2 at *
          clear hWA2
          refine anyE_ready (rs := [4]) (by kernel_rfl) (by simp) ?_
          refine ReadyE.consI rfl (fun K hK => ?_) ReadyE.nil
          refine step_append_at (by rfl) (.tmp 13) (.tmp 16) 28 (by rfl) w.heap.size 3 i0 (.int .i64 0) 1 8 Tryz.underlying28 hi0 hz0i hz1 hz2 (by rfl) (by decide) u2 k (IV C) (by rfl) hA2.c ⟨Z.heap.size, 0, none⟩ 1 1 [.int .i64 (y1 : Int)] (by rfl) (by rfl) (blk_one bCA2) (by simp [Value.oneCell']) (by unfold maxLen; omega) (by omega) hA2.bel.size ?_
          intro u22 A3 hownA3 hgrowA3 hatA3
          have hA3 := hA2.putC hownA3 hgrowA3 hatA3
          have bDA3 := bDA2.grown hgrowA3 (hA.freshC (Nat.le_refl _)).symm
          have hsA3 := hA3.cells
          dsimp only at hsA3
          refine hK.out _ _ (fun _ => hsA3) ?_
          clear hK K
          refine anyE_ready (rs := [9]) (by kernel_rfl) (by simp) ?_
          refine ReadyE.consI rfl (fun K hK => ?_) ReadyE.nil
          refine step_append_at (by rfl) (.tmp 18) (.tmp 21) 28 (by rfl) w.heap.size 3 i0 (.int .i64 0) 1 8 Tryz.underlying28 hi0 hz0i hz1 hz2 (by rfl) (by decide) u3 k (IV D) (by rfl) hA3.d ⟨A.heap.size, 0, none⟩ 1 1 [.int .i64 y3] (by rfl) (by rfl) (blk_one bDA3) (by simp [Value.oneCell']) (by unfold maxLen; omega) (by omega) hA3.bel.size ?_
          intro u32 A4 hownA4 hgrowA4 hatA4
          have hA4 := hA3.putD hownA4 hgrowA4 hatA4
          have hsA4 := hA4.cells
          dsimp only at hsA4
          refine hK.out _ _ (fun _ => hsA4) ?_
          clear hK K
          refine anyE_take (i := 10) (v := ?_) rfl (by kernel_rfl) (by kernel_rfl) (by kernel_rfl) (by kernel_rfl) (by kernel_rfl) (fun c _ _ h => absurd rfl (h.1 c)) (Or.inl ⟨by kernel_rfl, ?_⟩) hsA4 ?_
          rotate_left
          · intro w _; go_simp; with_reducible rfl
          refine anyE_take (i := 11) (v := ?_) rfl (by kernel_rfl) (by kernel_rfl) (by kernel_rfl) (by kernel_rfl) (by kernel_rfl) (fun c _ _ h => absurd rfl (h.1 c)) (Or.inl ⟨by kernel_rfl, ?_⟩) hsA4 ?_
          rotate_left
          · intro w _; go_simp; with_reducible rfl
          refine anyE_done (by kernel_rfl) ?_ _
          refine ⟨(fun c h => by cases h), ?_⟩
          simp only [Act.put, List.setIfInBounds_toArray, List.set_cons_succ, List.set_cons_zero, List.getElem_toArray, List.getElem_cons_zero, List.getElem_cons_succ]
          have HE := Lib.hid hA4
          go_wp2
          exact ⟨⟨k + 1, hlt, congrArg (Value.int .i64) (by omega), ⟨⟨cap, rfl⟩, HE.out.ways⟩, by rw [HSC.out]; exact HE.out.c, by rw [HSD.out]; exact HE.out.d, HE.out.ap, HE.out.bel⟩, by simp only [intOf]; omega⟩
      · go_simp
        have hA := hZ.alloc (.cells #[.int .i64 y3] 3)
        have bDA := Blk.new Z 3 #[.int .i64 y3]
        have hsA := hA.cells
        dsimp only at hsA
        refine hK.out _ _ (fun _ => hsA) ?_
        clear hK K
        generalize hWA : Z.alloc (.cells #[.int .i64 y3] 3) = A at *
        clear hWA
        refine anyE_ready (rs := [3]) (by kernel_rfl) (by simp) ?_
        refine ReadyE.cons rfl (by kernel_rfl) (fun K hK => ?_) ReadyE.nil
        go_simp
        have hA2 := hA.alloc (.cells #[.int .i64 (y1 : Int)] 3)
        have bCA2 := Blk.new A 3 #[.int .i64 (y1 : Int)]
        have bDA2 := bDA.alloc (.cells #[.int .i64 (y1 : Int)] 3)
        have hsA2 := hA2.cells
        dsimp only at hsA2
        refine hK.out _ _ (fun _ => hsA2) ?_
        clear hK K
        generalize hWA2 : A.alloc (.cells #[.int .i64 (y1 : Int)] 3) = A2 at *
        clear hWA2
        refine anyE_ready (rs := [4]) (by kernel_rfl) (by simp) ?_
        refine ReadyE.consI rfl (fun K hK => ?_) ReadyE.nil
        refine step_append_at (by rfl) (.tmp 13) (.tmp 16) 28 (by rfl) w.heap.size 3 i0 (.int .i64 0) 1 8 Tryz.underlying28 hi0 hz0i hz1 hz2 (by rfl) (by decide) u2 k (IV C) (by rfl) hA2.c ⟨A.heap.size, 0, none⟩ 1 1 [.int .i64 (y1 : Int)] (by rfl) (by rfl) (blk_one bCA2) (by simp [Value.oneCell']) (by unfold maxLen; omega) (by omega) hA2.bel.size ?_
        intro u22 A3 hownA3 hgrowA3 hatA3
        have hA3 := hA2.putC hownA3 hgrowA3 hatA3
        have bDA3 := bDA2.grown hgrowA3 (hZZ.freshC (Nat.le_refl _)).symm
        have hsA3 := hA3.cells
        dsimp only at hsA3
        refine hK.out _ _ (fun _ => hsA3) ?_
        clear hK K
        refine anyE_ready (rs := [9]) (by kernel_rfl) (by simp) ?_
        refine ReadyE.consI rfl (fun K hK => ?_) ReadyE.nil
        refine step_append_at (by rfl) (.tmp 18) (.tmp 21) 28 (by rfl) w.heap.size 3 i0 (.int .i64 0) 1 8 Tryz.underlying28 hi0 hz0i hz1 hz2 (by rfl) (by decide) u3 k (IV D) (by rfl) hA3.d ⟨Z.heap.size, 0, none⟩ 1 1 [.int .i64 y3] (by rfl) (by rfl) (blk_one bDA3) (by simp [Value.oneCell']) (by unfold maxLen; omega) (by omega) hA3.bel.size ?_
        intro u32 A4 hownA4 hgrowA4 hatA4
        have hA4 := hA3.putD hownA4 hgrowA4 hatA4
        have hsA4 := hA4.cells
        dsimp only at hsA4
        refine hK.out _ _ (fun _ => hsA4) ?_
        clear hK K
        refine anyE_take (i := 10) (v := ?_) rfl (by kernel_rfl) (by kernel_rfl) (by kernel_rfl) (by kernel_rfl) (by kernel_rfl) (fun c _ _ h => absurd rfl (h.1 c)) (Or.inl ⟨by kernel_rfl, ?_⟩) hsA4 ?_
        rotate_left
        · intro w _; go_simp; with_reducible rfl
        refine anyE_take (i := 11) (v := ?_) rfl (by kernel_rfl) (by kernel_rfl) (by kernel_rfl) (by kernel_rfl) (by kernel_rfl) (fun c _ _ h => absurd rfl (h.1 c)) (Or.inl ⟨by kernel_rfl, ?_⟩) hsA4 ?_
        rotate_left
        · intro w _; go_simp; with_reducible rfl
        refine anyE_done (by kernel_rfl) ?_ _
        refine ⟨(fun c h => by cases h), ?_⟩
        simp only [Act.put, List.setIfInBounds_toArray, List.set_cons_succ, List.set_cons_zero, List.getElem_toArray, List.getElem_cons_zero, List.getElem_cons_succ]
        have HE := Lib.hid hA4
        go_wp2
        exact ⟨⟨k + 1, hlt, congrArg (Value.int .i64) (by omega), ⟨⟨cap, rfl⟩, HE.out.ways⟩, by rw [HSC.out]; exact HE.out.c, by rw [HSD.out]; exact HE.out.d, HE.out.ap, HE.out.bel⟩, by simp only [intOf]; omega⟩
    · obtain rfl : k = S.length := by omega
      go_wp2
      refine bodyPost_ret (v := .tuple #[u2, u3]) (by simp [results, Tryz.results9, go_sem, Act.put]) rfl ?_
      refine ⟨S, u2, u3, rfl, HI.out, HDN.out, WBW.out, ?_, ?_⟩
      · have h := WRC.out
        unfold wC at h
        rw [List.take_length] at h
        rw [← HSL.out]; exact h
      · have h := WRD.out
        unfold wD at h
        rw [List.take_length] at h
        rw [← HSL.out]; exact h
end Go.Proofs.YtomikgkoegkofaaGreatDoor.dv

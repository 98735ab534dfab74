import Derived.Test.YtldamieigigncaaGreatDoorVcao
namespace Go.Proofs.YtldamieigigncaaGreatDoor.lx
open Go.ChangeShapes Go.WideShapes Go.ChangeAt Go.RowKit
set_option linter.unusedVariables false
attribute [local go_sem] run_store_float
def ERul : Elem Rl := fun w A r cs => ∃ u, cs = [.int .i64 r.1, u, .float .f64 r.2.2] ∧ IntsAt w A u r.2.1
theorem keepsRul : Keeps ERul := by
  rintro w w' A A' r cs ⟨u, e, h⟩ hk hs
  exact ⟨u, e, h.keep keepsInt hk hs⟩
theorem ints_of {w : World} {B : Nat} {v : Value} {l : List Int} (h : w.ownsRow B 3 1 v l.length (l.map iv)) : IntsAt w (fun _ => True) v l := by
  have hm : l.length ≤ maxLen := by
    rcases h.2 with ⟨h, h'⟩ | ⟨g, cap, cur, _, _, _, hn, hc, _⟩ <;> omega
  obtain ⟨ao, cap, e⟩ := own_form h
  refine ⟨hm, ao, cap, e, fun h0 => ?_⟩
  obtain ⟨g, cap', e2, _, hg, hc⟩ := own_open h h0
  rw [e] at e2
  injection e2 with e3 _ _
  refine ⟨g, e3, hg, trivial, fun k x hx => ⟨[.int .i64 x], rfl, fun j u hj => ?_, rfl⟩⟩
  have hj0 : j = 0 := by
    have := (List.getElem?_eq_some_iff.1 hj).1
    simp at this
    omega
  subst hj0
  have hu : some (Value.int .i64 x) = some u := hj
  cases hu
  rw [Nat.mul_one, Nat.add_zero]
  exact hc k _ (by rw [List.getElem?_map, hx]; rfl)
theorem rcells_at : ∀ (rs : List Rl) (us : List Value) (k j : Nat) (r : Rl) (u : Value), rs[k]? = some r → us[k]? = some u → j < 3 → (rcells rs us)[k * 3 + j]? = ([.int .i64 r.1, u, .float .f64 r.2.2] : List Value)[j]?
  | [], us, k, j, r, u, h, _, _ => by simp at h
  | r' :: rs, [], k, j, r, u, _, h, _ => by simp at h
  | r' :: rs, u' :: us, 0, j, r, u, h1, h2, hj => by
    obtain rfl : r' = r := by simpa using h1
    obtain rfl : u' = u := by simpa using h2
    unfold rcells
    rw [Nat.zero_mul, Nat.zero_add, List.getElem?_append_left (by simpa using hj)]
  | r' :: rs, u' :: us, k + 1, j, r, u, h1, h2, hj => by
    have := rcells_at rs us k j r u (by simpa using h1) (by simpa using h2) hj
    unfold rcells
    rw [List.getElem?_append_right (by simp; omega)]
    have e : (k + 1) * 3 + j - [Value.int .i64 r'.1, u', Value.float .f64 r'.2.2].length = k * 3 + j := by simp; omega
    rw [e]
    exact this
theorem rules_of {w : World} {B N : Nat} {rv : Value} {rs : List Rl} (h : RlW B N w rv rs) : ListOf 3 ERul w (fun _ => True) rv rs := by
  obtain ⟨us, hus, ho, hu, _⟩ := h
  have hm : rs.length ≤ maxLen := by
    rcases ho.2 with ⟨h, h'⟩ | ⟨g, cap, cur, _, _, _, hn, hc, _⟩ <;> omega
  obtain ⟨ao, cap, e⟩ := own_form ho
  refine ⟨hm, ao, cap, e, fun h0 => ?_⟩
  obtain ⟨g, cap', e2, _, hg, hc⟩ := own_open ho h0
  rw [e] at e2
  injection e2 with e3 _ _
  refine ⟨g, e3, hg, trivial, fun k r hr => ?_⟩
  obtain ⟨u, eu, hou, _⟩ := hu k r hr
  refine ⟨[.int .i64 r.1, u, .float .f64 r.2.2], rfl, fun j z hj => hc _ z ?_, u, rfl, ints_of hou⟩
  have hj3 : j < 3 := (List.getElem?_eq_some_iff.1 hj).1
  rw [rcells_at rs us k j r u hr eu hj3]
  exact hj
set_option maxRecDepth 100000 in
set_option maxHeartbeats 800000 in
theorem equalI_any (w : World) (A A' : Nat → Prop) (v1 v2 : Value) (xs ys : List Int) (h1 : IntsAt w A v1 xs) (h2 : IntsAt w A' v2 ys) : Calls Tryz.prog 85 #[v1, v2] w fun e w' => e = .returned (.bool (decide (xs = ys))) ∧ Below w.heap.size w w' := by
  obtain ⟨ao, cap, rfl⟩ := ListOf.form h1
  obtain ⟨ao2, cap2, rfl⟩ := ListOf.form h2
  have hl := h1.1
  unfold maxLen at hl
  by_cases hlen : xs.length = ys.length
  · have H1 := Lib.hid h1
    have H2 := Lib.hid h2
    generalize hn : xs.length = n at *
    have HN := Lib.hid hn
    have HN2 : Hid (ys.length = n) := Lib.hid hlen.symm
    rw [← hlen]
    rw [← hlen] at H2
    clear h1 h2 hn hlen
    go_enter Tryz.func85, Tryz.ntmps85
    go_wp2_with fail
    go_loopw [13] (fun i wr => ∃ k : Nat, i = .int .i64 k ∧ k ≤ n ∧ Below w.heap.size w wr ∧ ∀ j, j < k → xs[j]? = ys[j]?) (fun i _ => n - (intOf i).toNat)
    case atStart => exact ⟨0, rfl, Nat.zero_le _, Below.refl _ _, fun j h => by omega⟩
    case round =>
      obtain ⟨k, rfl, hk, hbr, hno⟩ := hrel
      have HNO := Lib.hid hno
      have HBR := Lib.hid hbr
      clear hno
      by_cases hlt : k < n
      · obtain ⟨x, hx⟩ : ∃ x, xs[k]? = some x := ⟨_, List.getElem?_eq_getElem (by rw [HN.out]; exact hlt)⟩
        obtain ⟨y, hy⟩ : ∃ y, ys[k]? = some y := ⟨_, List.getElem?_eq_getElem (by rw [HN2.out]; exact hlt)⟩
        obtain ⟨g, cap', e, hg, hc⟩ := IntsAt.cell H1.out hx
        obtain ⟨g2, cap2', e2, hg2, hc2⟩ := IntsAt.cell H2.out hy
        injection e with e3 h5 h6
        injection e2 with e4 h7 h8
        subst e3 e4
        clear h5 h6 h7 h8
        have c1 : wr.cell? ⟨g, k, none⟩ = some (.int .i64 x) := (hbr.cell (p := ⟨g, k, none⟩) hg).trans hc
        have c2 : wr.cell? ⟨g2, k, none⟩ = some (.int .i64 y) := (hbr.cell (p := ⟨g2, k, none⟩) hg2).trans hc2
        have l1 : g < wr.heap.size := Nat.lt_of_lt_of_le hg hbr.size
        have l2 : g2 < wr.heap.size := Nat.lt_of_lt_of_le hg2 hbr.size
        have HX := Lib.hid hx
        have HY := Lib.hid hy
        clear hx hy hc hc2 hbr
        go_upto_region 6 with fail
        refine wp_region_E (fun W => Below wr.heap.size wr W) [] (by kernel_rfl) ?_
        change anyE _ _ _ _ _ _ _ _ _ (World.drew _)
        have HS : Below wr.heap.size wr (World.drew wr) := (Below.refl _ _).drew
        refine anyE_take (i := 0) (v := ?_) rfl (by kernel_rfl) (by kernel_rfl) (by kernel_rfl) (by kernel_rfl) (by kernel_rfl) (fun _ _ _ h => h) (Or.inl ⟨by kernel_rfl, ?_⟩) HS ?_
        rotate_left
        · intro wq _; go_simp; first | with_reducible rfl | (rw [if_neg (by omega)])
        refine anyE_take (i := 1) (v := ?_) rfl (by kernel_rfl) (by kernel_rfl) (by kernel_rfl) (by kernel_rfl) (by kernel_rfl) (fun _ _ _ h => h) (Or.inl ⟨by kernel_rfl, ?_⟩) HS ?_
        rotate_left
        · intro wq _; go_simp; first | with_reducible rfl | (rw [if_neg (by omega)])
        refine anyE_take (i := 2) (v := ?_) rfl (by kernel_rfl) (by kernel_rfl) (by kernel_rfl) (by kernel_rfl) (by kernel_rfl) (fun _ _ _ h => h) (Or.inl ⟨by kernel_rfl, ?_⟩) HS ?_
        rotate_left
        · intro wq _; go_simp; first | with_reducible rfl | (rw [if_neg (by omega)])
        refine anyE_take (i := 3) (v := ?_) rfl (by kernel_rfl) (by kernel_rfl) (by kernel_rfl) (by kernel_rfl) (by kernel_rfl) (fun _ _ _ h => h) (Or.inl ⟨by kernel_rfl, ?_⟩) HS ?_
        rotate_left
        · intro wq hw; have hw := (hw.cell (p := ⟨g, k, none⟩) l1).trans c1; go_simp; with_reducible rfl
        refine anyE_take (i := 4) (v := ?_) rfl (by kernel_rfl) (by kernel_rfl) (by kernel_rfl) (by kernel_rfl) (by kernel_rfl) (fun _ _ _ h => h) (Or.inl ⟨by kernel_rfl, ?_⟩) HS ?_
        rotate_left
        · intro wq _; go_simp; first | with_reducible rfl | (rw [if_neg (by omega)])
        refine anyE_take (i := 5) (v := ?_) rfl (by kernel_rfl) (by kernel_rfl) (by kernel_rfl) (by kernel_rfl) (by kernel_rfl) (fun _ _ _ h => h) (Or.inl ⟨by kernel_rfl, ?_⟩) HS ?_
        rotate_left
        · intro wq _; go_simp; first | with_reducible rfl | (rw [if_neg (by omega)])
        refine anyE_take (i := 6) (v := ?_) rfl (by kernel_rfl) (by kernel_rfl) (by kernel_rfl) (by kernel_rfl) (by kernel_rfl) (fun _ _ _ h => h) (Or.inl ⟨by kernel_rfl, ?_⟩) HS ?_
        rotate_left
        · intro wq _; go_simp; first | with_reducible rfl | (rw [if_neg (by omega)])
        refine anyE_take (i := 7) (v := ?_) rfl (by kernel_rfl) (by kernel_rfl) (by kernel_rfl) (by kernel_rfl) (by kernel_rfl) (fun _ _ _ h => h) (Or.inl ⟨by kernel_rfl, ?_⟩) HS ?_
        rotate_left
        · intro wq hw; have hw := (hw.cell (p := ⟨g2, k, none⟩) l2).trans c2; go_simp; with_reducible rfl
        refine anyE_take (i := 8) (v := ?_) rfl (by kernel_rfl) (by kernel_rfl) (by kernel_rfl) (by kernel_rfl) (by kernel_rfl) (fun _ _ _ h => h) (Or.inl ⟨by kernel_rfl, ?_⟩) HS ?_
        rotate_left
        · intro wq _; go_simp; first | with_reducible rfl | (rw [if_neg (by omega)])
        refine anyE_done (by kernel_rfl) ?_ _
        simp only [Act.put, List.setIfInBounds_toArray, List.set_cons_succ, List.set_cons_zero, List.getElem_toArray, List.getElem_cons_succ, List.getElem_cons_zero]
        have hbz := HBR.out.trans (HS.mono HBR.out.size)
        clear c1 c2 l1 l2
        by_cases hxy : x = y
        · have e1 : (x != y) = false := by rw [bne_eq_false_iff_eq]; exact hxy
          rw [e1]
          have HXY := Lib.hid hxy
          clear e1 hxy
          go_wp2_with fail
          refine ⟨⟨k + 1, congrArg (Value.int .i64) (by omega), hlt, hbz, fun j hj => ?_⟩, by simp only [intOf]; omega⟩
          by_cases hjk : j < k
          · exact HNO.out j hjk
          · obtain rfl : j = k := by omega
            rw [HX.out, HY.out, HXY.out]
        · have e1 : (x != y) = true := by rw [bne_iff_ne]; exact hxy
          rw [e1]
          have HXY := Lib.hid hxy
          clear e1 hxy
          go_wp2_with fail
          go_ret
          refine ⟨?_, hbz⟩
          have hne : xs ≠ ys := fun e => by
            have := HX.out
            rw [e, HY.out] at this
            exact HXY.out (Option.some.inj this).symm
          rw [decide_eq_false hne]
          rfl
      · obtain rfl : k = n := by omega
        have he : xs = ys := List.ext_getElem? (fun j => by
          by_cases hj : j < k
          · exact HNO.out j hj
          · rw [List.getElem?_eq_none (by rw [HN.out]; omega), List.getElem?_eq_none (by rw [HN2.out]; omega)])
        have HE := Lib.hid he
        clear he hbr
        go_wp2_with fail
        go_ret
        refine ⟨?_, HBR.out⟩
        rw [decide_eq_true HE.out]
        rfl
  · have hne : xs ≠ ys := fun e => hlen (by rw [e])
    have e1 : ((xs.length : Int) != (ys.length : Int)) = true := by rw [bne_iff_ne]; omega
    rw [decide_eq_false hne]
    clear hne hlen h1 h2
    go_enter Tryz.func85, Tryz.ntmps85
    go_wp2_with fail
    go_ret
    exact ⟨rfl, Below.refl _ _⟩
theorem ERul.at {w : World} {A : Nat → Prop} {v : Value} {rs : List Rl} (h : ListOf 3 ERul w A v rs) {k : Nat} {r : Rl} (hr : rs[k]? = some r) : ∃ g cap u, v = .slice (some ⟨g, 0, none⟩) rs.length cap ∧ g < w.heap.size ∧ w.cell? ⟨g, k * 3, none⟩ = some (.int .i64 r.1) ∧ w.cell? ⟨g, k * 3 + 1, none⟩ = some u ∧ w.cell? ⟨g, k * 3 + 2, none⟩ = some (.float .f64 r.2.2) ∧ IntsAt w A u r.2.1 := by
  obtain ⟨_, ao, cap, rfl, h⟩ := h
  obtain ⟨hk, _⟩ := List.getElem?_eq_some_iff.1 hr
  obtain ⟨g, rfl, hg, _, h5⟩ := h (by omega)
  obtain ⟨cs, _, h6, u, rfl, hu⟩ := h5 k r hr
  exact ⟨g, cap, u, rfl, hg, h6 0 _ rfl, h6 1 _ rfl, h6 2 _ rfl, hu⟩
theorem info_rule : (Tryz.prog.info? 41).map (fun i => (i.zero, i.size, i.bytes)) = some (some (.agg #[.int .i64 0, .slice none 0 0, .float .f64 0]), 3, 40) := by kernel_rfl
set_option maxRecDepth 100000 in
set_option maxHeartbeats 2000000 in
theorem hasRule1_any (w : World) (bv br v L F : Nat) (yo : Option Addr) (ys xs : List Int) (yc : Nat) (A A' : Nat → Prop) (h1 : Blk w bv 3 #[.int .i64 v]) (h2 : Blk w br 39 #[.slice yo ys.length yc]) (h3 : IntsAt w A (.slice yo ys.length yc) ys) (ao : Option Addr) (c : Nat) (h4 : IntsAt w A' (.slice ao xs.length c) xs) : Calls Tryz.prog 104 #[.agg #[.int .i64 L, .slice ao xs.length c, .float .f64 F], .pointer (some ⟨bv, 0, none⟩), .pointer (some ⟨br, 0, none⟩)] w fun e w' => e = .returned (.bool (decide (L = v ∧ xs = ys))) ∧ Below w.heap.size w w' := by
  have hb1 : Below w.heap.size w (w.alloc (.cells #[.int .i64 L, .slice ao xs.length c, .float .f64 F] 41)) := (Below.refl _ _).alloc (Nat.le_refl _) _
  have b1 := Blk.new w 41 #[.int .i64 L, .slice ao xs.length c, .float .f64 F]
  have heq := equalI_any (w.alloc (.cells #[.int .i64 L, .slice ao xs.length c, .float .f64 F] 41)) (fun _ => True) (fun _ => True) (.slice ao xs.length c) (.slice yo ys.length yc) xs ys (h4.keep keepsInt (fun g hg _ => ⟨trivial, hb1.block g hg⟩) hb1.size) (h3.keep keepsInt (fun g hg _ => ⟨trivial, hb1.block g hg⟩) hb1.size)
  have hv := h1.below hb1 h1.lt
  have hr := h2.below hb1 h2.lt
  have HB1 := Lib.hid hb1
  clear h1 h2 h3 h4 hb1
  generalize hD : decide (xs = ys) = D at *
  have HD := Lib.hid hD
  generalize xs.length = n at *
  generalize ys.length = m at *
  clear hD
  by_cases hL : L = v
  · have e1 : ((L : Int) == (v : Int)) = true := by rw [beq_iff_eq]; omega
    have HG : Hid (decide (L = v ∧ xs = ys) = D) := Lib.hid (by rw [← HD.out]; apply decide_eq_decide.2; simp [hL])
    rw [HG.out]
    clear hL
    go_enter Tryz.func104, Tryz.ntmps104
    go_upto_region 1 with fail
    generalize w.alloc (.cells #[.int .i64 L, .slice ao n c, .float .f64 F] 41) = w1 at *
    have c0 : w1.cell? ⟨w.heap.size, 0, none⟩ = some (.int .i64 L) := b1.cell 0
    have c1 : w1.cell? ⟨w.heap.size, 1, none⟩ = some (.slice ao n c) := b1.cell 1
    have d0 : w1.cell? ⟨bv, 0, none⟩ = some (.int .i64 v) := hv.cell 0
    have d1 : w1.cell? ⟨br, 0, none⟩ = some (.slice yo m yc) := hr.cell 0
    have l0 := b1.lt
    have l1 := hv.lt
    have l2 := hr.lt
    clear b1 hv hr
    go_wp2_with fail
    refine heq.mono ?_
    rintro e w2 ⟨rfl, hb2⟩
    clear heq c0 c1 d0 d1 l0 l1 l2
    go_wp2_with fail
    go_ret
    exact ⟨rfl, HB1.out.trans (hb2.mono HB1.out.size)⟩
  · have e1 : ((L : Int) == (v : Int)) = false := by rw [beq_eq_false_iff_ne]; omega
    have HG : Hid (decide (L = v ∧ xs = ys) = false) := Lib.hid (decide_eq_false (fun h => hL h.1))
    rw [HG.out]
    clear hL heq
    go_enter Tryz.func104, Tryz.ntmps104
    go_upto_region 1 with fail
    generalize w.alloc (.cells #[.int .i64 L, .slice ao n c, .float .f64 F] 41) = w1 at *
    have c0 : w1.cell? ⟨w.heap.size, 0, none⟩ = some (.int .i64 L) := b1.cell 0
    have d0 : w1.cell? ⟨bv, 0, none⟩ = some (.int .i64 v) := hv.cell 0
    have l0 := b1.lt
    have l1 := hv.lt
    clear b1 hv hr
    go_wp2_with fail
    go_ret
    exact ⟨rfl, HB1.out⟩
def TellsR (fn : Nat) (cap : Array Value) (p : Rl → Bool) (w : World) : Prop := ∀ (r : Rl) (ao : Option Addr) (c : Nat) (W : World), Below w.heap.size w W → IntsAt W (fun _ => True) (.slice ao r.2.1.length c) r.2.1 → Calls Tryz.prog fn (#[.agg #[.int .i64 r.1, .slice ao r.2.1.length c, .float .f64 r.2.2]] ++ cap) W fun e W' => e = .returned (.bool (p r)) ∧ Below W.heap.size W W'
def GoesG (f : Nat) : Prop := ∀ (args : Array Value) (w : World), (callFunc f args).run Tryz.prog w = .ok (.enter f args) w
set_option maxRecDepth 100000 in
set_option maxHeartbeats 2000000 in
theorem indexR_any (w : World) (A : Nat → Prop) (v : Value) (rs : List Rl) (fn : Nat) (cap : Array Value) (p : Rl → Bool) (hgo : GoesG fn) (hp : TellsR fn cap p w) (h : ListOf 3 ERul w A v rs) : Calls Tryz.prog 105 #[v, .func (.func fn) #[] cap] w fun e w' => (∃ n : Int, e = .returned (.int .i64 n) ∧ (0 ≤ n ↔ rs.any p = true)) ∧ Below w.heap.size w w' := by
  obtain ⟨ao, cp, rfl⟩ := ListOf.form h
  have hm := h.1
  unfold maxLen at hm
  have H := Lib.hid h
  have hg : ∀ (x : Value) (w : World), (callFunc fn (#[x] ++ cap)).run Tryz.prog w = .ok (.enter fn (#[x] ++ cap)) w := fun x w => hgo _ w
  have HP := Lib.hid hp
  generalize hn : rs.length = n at *
  have HN := Lib.hid hn
  clear h hp hgo hn
  go_enter Tryz.func105, Tryz.ntmps105
  go_wp2_with fail
  go_loopw [8] (fun q wr => ∃ k : Nat, q = .int .i64 k ∧ k ≤ n ∧ (rs.take k).any p = false ∧ Below w.heap.size w wr) (fun q _ => n - (intOf q).toNat)
  case atStart => exact ⟨0, rfl, Nat.zero_le _, rfl, Below.refl _ _⟩
  case round =>
    obtain ⟨k, rfl, hk, hneg, hbr⟩ := hrel
    have HNG := Lib.hid hneg
    have HBR := Lib.hid hbr
    clear hneg
    by_cases hlt : k < n
    · obtain ⟨r, hr⟩ : ∃ r, rs[k]? = some r := ⟨_, List.getElem?_eq_getElem (by rw [HN.out]; exact hlt)⟩
      obtain ⟨g, cap', u, e, hg1, hc0, hc1, hc2, hu⟩ := ERul.at H.out hr
      injection e with e3 h5 h6
      subst e3
      clear h5 h6
      obtain ⟨uo, uc, rfl⟩ := ListOf.form hu
      have htk : (rs.take (k + 1)).any p = p r := by
        have e : rs.take (k + 1) = rs.take k ++ [r] := by rw [List.take_add_one, hr]; rfl
        rw [e, List.any_append, HNG.out]
        simp
      have hmem : p r = true → rs.any p = true := fun h => List.any_eq_true.2 ⟨r, List.mem_of_getElem? hr, h⟩
      have c0 : wr.cell? ⟨g, k * 3, none⟩ = some (.int .i64 r.1) := (hbr.cell (p := ⟨g, k * 3, none⟩) hg1).trans hc0
      have c1 : wr.cell? ⟨g, k * 3 + 1, none⟩ = some (.slice uo r.2.1.length uc) := (hbr.cell (p := ⟨g, k * 3 + 1, none⟩) hg1).trans hc1
      have c2 : wr.cell? ⟨g, k * 3 + 2, none⟩ = some (.float .f64 r.2.2) := (hbr.cell (p := ⟨g, k * 3 + 2, none⟩) hg1).trans hc2
      have hcall := HP.out r uo uc wr hbr (hu.keep keepsInt (fun q hq _ => ⟨trivial, hbr.block q hq⟩) hbr.size)
      have lg : g < wr.heap.size := Nat.lt_of_lt_of_le hg1 hbr.size
      have HT := Lib.hid htk
      have HM := Lib.hid hmem
      clear htk hmem hr hc0 hc1 hc2 hu hbr
      obtain ⟨r1, r2, r3⟩ := r
      simp only at c0 c1 c2 hcall
      generalize hr2 : r2.length = rl at *
      cases hb : p (r1, r2, r3)
      · rw [hb] at hcall
        have HBP := Lib.hid hb
        clear hb
        go_wp2_with fail
        refine hcall.mono ?_
        rintro e w2 ⟨rfl, hb2⟩
        clear c0 c1 c2 lg hcall
        go_wp2_with fail
        exact ⟨⟨k + 1, congrArg (Value.int .i64) (by omega), hlt, by rw [HT.out]; exact HBP.out, HBR.out.trans (hb2.mono HBR.out.size)⟩, by simp only [intOf]; omega⟩
      · rw [hb] at hcall
        have HA := Lib.hid (HM.out hb)
        clear hb
        go_wp2_with fail
        refine hcall.mono ?_
        rintro e w2 ⟨rfl, hb2⟩
        clear c0 c1 c2 lg hcall
        go_wp2_with fail
        go_ret
        exact ⟨⟨k, rfl, ⟨fun _ => HA.out, fun _ => by omega⟩⟩, HBR.out.trans (hb2.mono HBR.out.size)⟩
    · obtain rfl : k = n := by omega
      have hany : rs.any p = false := by have := HNG.out; rwa [← HN.out, List.take_length] at this
      have HA := Lib.hid hany
      clear hany hbr
      go_wp2_with fail
      go_ret
      exact ⟨⟨-1, rfl, ⟨fun h => absurd h (by decide), fun h => by rw [HA.out] at h; cases h⟩⟩, HBR.out⟩
set_option maxRecDepth 100000 in
theorem containsR_any (w : World) (A : Nat → Prop) (v : Value) (rs : List Rl) (fn : Nat) (cap : Array Value) (p : Rl → Bool) (hgo : GoesG fn) (hp : TellsR fn cap p w) (h : ListOf 3 ERul w A v rs) : Calls Tryz.prog 79 #[v, .func (.func fn) #[] cap] w fun e w' => e = .returned (.bool (rs.any p)) ∧ Below w.heap.size w w' := by
  have hix := indexR_any w A v rs fn cap p hgo hp h
  obtain ⟨ao, cp, rfl⟩ := ListOf.form h
  clear hp h hgo
  go_enter Tryz.func79, Tryz.ntmps79
  go_wp2_with fail
  refine hix.mono ?_
  rintro e w1 ⟨⟨n, rfl, hn⟩, hb1⟩
  have HB1 := Lib.hid hb1
  have hd : decide ((0 : Int) ≤ n) = rs.any p := by
    cases ha : rs.any p
    · rw [ha] at hn
      exact decide_eq_false (fun h => by cases hn.1 h)
    · rw [ha] at hn
      exact decide_eq_true (hn.2 rfl)
  have HD := Lib.hid hd
  clear hix hn hb1 hd
  go_wp2_with fail
  go_ret
  refine ⟨?_, HB1.out⟩
  rw [← HD.out]
  rfl
theorem goes_hasRule : GoesG 104 := fun args w => enters_of Tryz.func104 (by kernel_rfl) rfl args w
set_option maxRecDepth 100000 in
set_option maxHeartbeats 2000000 in
theorem hasRule_any (w : World) (A A' : Nat → Prop) (rv : Value) (rs : List Rl) (v : Nat) (yo : Option Addr) (ys : List Int) (yc : Nat) (h : ListOf 3 ERul w A rv rs) (h3 : IntsAt w A' (.slice yo ys.length yc) ys) : Calls Tryz.prog 78 #[rv, .int .i64 v, .slice yo ys.length yc] w fun e w' => e = .returned (.bool (rs.any fun r => r.1 == v && r.2.1 == ys)) ∧ Below w.heap.size w w' := by
  have hb1 : Below w.heap.size w ((w.alloc (.cells #[.int .i64 v] 3)).alloc (.cells #[.slice yo ys.length yc] 39)) := ((Below.refl _ _).alloc (Nat.le_refl _) _).alloc (by simp) _
  have b1 := (Blk.new w 3 #[.int .i64 v]).alloc (.cells #[.slice yo ys.length yc] 39)
  have b2 := Blk.new (w.alloc (.cells #[.int .i64 v] 3)) 39 #[.slice yo ys.length yc]
  rw [World.size_alloc] at b2
  have hct := containsR_any ((w.alloc (.cells #[.int .i64 v] 3)).alloc (.cells #[.slice yo ys.length yc] 39)) (fun _ => True) rv rs 104 #[.pointer (some ⟨w.heap.size, 0, none⟩), .pointer (some ⟨w.heap.size + 1, 0, none⟩)] (fun r => decide (r.1 = v ∧ r.2.1 = ys)) goes_hasRule (fun r ao c W hW hr => hasRule1_any W w.heap.size (w.heap.size + 1) v r.1 r.2.2 yo ys r.2.1 yc (fun _ => True) (fun _ => True) (b1.below hW b1.lt) (b2.below hW b2.lt) (h3.keep keepsInt (fun g hg _ => ⟨trivial, (hb1.trans (hW.mono hb1.size)).block g hg⟩) (Nat.le_trans hb1.size hW.size)) ao c hr) (h.keep keepsRul (fun g hg _ => ⟨trivial, hb1.block g hg⟩) hb1.size)
  have he : (rs.any fun r => decide (r.1 = v ∧ r.2.1 = ys)) = (rs.any fun r => r.1 == v && r.2.1 == ys) := by
    congr 1
    funext r
    by_cases h1 : r.1 = v <;> by_cases h2 : r.2.1 = ys <;> simp [h1, h2]
  rw [he] at hct
  obtain ⟨ao, cp, rfl⟩ := ListOf.form h
  have HB1 := Lib.hid hb1
  generalize (rs.any fun r => r.1 == v && r.2.1 == ys) = D at *
  generalize ys.length = m at *
  generalize rs.length = n at *
  clear h h3 he b1 b2 hb1
  go_enter Tryz.func78, Tryz.ntmps78
  go_wp2_with fail
  refine hct.mono ?_
  rintro e w2 ⟨rfl, hb2⟩
  clear hct
  go_wp2_with fail
  go_ret
  exact ⟨rfl, HB1.out.trans (hb2.mono HB1.out.size)⟩
end Go.Proofs.YtldamieigigncaaGreatDoor.lx


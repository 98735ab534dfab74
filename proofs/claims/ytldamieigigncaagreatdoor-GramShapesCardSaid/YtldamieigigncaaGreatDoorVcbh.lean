import Derived.Test.YtldamieigigncaaGreatDoorVcbg
import Derived.Test.YtldamieigigncaaGreatDoorVcad
namespace Go.Proofs.YtldamieigigncaaGreatDoor.lx
open Go.ChangeShapes Go.WideShapes Go.ChangeAt Go.RowKit
set_option linter.unusedVariables false
theorem info_u8 : (Tryz.prog.info? 5).map (fun i => (i.zero, i.size, i.bytes)) = some (some (.int .u8 0), 1, 1) := by kernel_rfl
def bl (l : List UInt8) : List Value := l.map fun c => Value.int .u8 (c.toNat : Int)
theorem bl_snoc (l : List UInt8) (c : UInt8) : bl (l ++ [c]) = bl l ++ [.int .u8 (c.toNat : Int)] := by simp [bl]
theorem one_u8 (n : Int) : ∀ u ∈ [Value.int .u8 n], u.oneCell' = true := ints_oneCell .u8 [n]
structure OutS (q : Bool) (B b : Nat) (ty : TypeId) (cs : Array Value) (w0 wr : World) (v : Value) (xs : List UInt8) : Prop where
  own : wr.ownsRow B 5 1 v xs.length (bl xs)
  blk : q = true → Blk wr b ty cs
  apart : q = true → some b ≠ v.ownBlock
  bel : Below B w0 wr
  hB : B ≤ wr.heap.size
theorem OutS.step {q : Bool} {B b : Nat} {ty : TypeId} {cs : Array Value} {w0 wr w3 : World} {v v3 : Value} {xs : List UInt8} (h : OutS q B b ty cs w0 wr v xs) (c : UInt8) (o : Obj) (hown : w3.ownsRow B 5 1 v3 (xs.length + 1) (bl xs ++ [.int .u8 (c.toNat : Int)])) (hg : (wr.alloc o).grownBy w3 v.ownBlock) (hat : v3.ownBlock = v.ownBlock ∨ v3.ownBlock = some (wr.alloc o).heap.size) : OutS q B b ty cs w0 w3 v3 (xs ++ [c]) := by
  have hbl := h.bel.alloc h.hB o
  have hz : (wr.alloc o).heap.size = wr.heap.size + 1 := World.size_alloc _ _
  refine ⟨?_, fun hq => ?_, fun hq => ?_, ?_, ?_⟩
  · rw [bl_snoc, List.length_append]
    exact hown
  · have hlt := (h.blk hq).lt
    exact (hg.block b (by omega) (h.apart hq)).trans ((Below.heap_alloc wr o b hlt).trans (h.blk hq))
  · rcases hat with e | e
    · rw [e]; exact h.apart hq
    · rw [e]
      intro e2
      have hlt := (h.blk hq).lt
      have := Option.some.inj e2
      omega
  · exact hbl.grown hg (by have := h.hB; omega) (own_row h.own)
  · have := hg.size
    have := h.hB
    omega
set_option maxRecDepth 100000 in
set_option maxHeartbeats 4000000 in
theorem efg_af (B b : Nat) (ty : TypeId) (G : List UInt8) (rest : List UInt8) (D : Nat) (hD : G.length ≤ D) (hD4 : D ≤ 1000) (hG : 1 ≤ G.length) (hG20 : G.length ≤ 20) (hr : (G ++ rest).length = 32) (w0 w : World) (v : Value) (h : OutS true B b ty (BL (G ++ rest)) w0 w v []) : Calls Tryz.prog 183 #[v, .bool false, .slice (some ⟨b, 0, none⟩) 32 32, .int .i64 (D : Int), .int .i64 G.length, .int .i64 0, .int .u8 102, .bool true] w fun e w' => ∃ v', e = .returned v' ∧ OutS true B b ty (BL (G ++ rest)) w0 w' v' (fm.outN false G (D : Int)) := by
  obtain ⟨i0, hi, hz0, hz1, hz2⟩ := info_parts info_u8
  have H0 := Lib.hid h
  clear h hr
  obtain ⟨n, hn⟩ : ∃ n, G.length = n := ⟨_, rfl⟩
  have HE : Hid (fm.outN false G (D : Int) = ([] : List UInt8)  ++ (G.drop 0).take n ++ List.replicate (D - n) 48) := Lib.hid (by
    have c1 : (0 : Int) < (D : Int) := by omega
    have c2 : ¬ (D : Int) < (G.length : Int) := by omega
    unfold fm.outN
    rw [if_pos c1, if_neg c2, Int.toNat_natCast, List.take_of_length_le hD, List.drop_zero, List.take_of_length_le (by omega), hn]
    simp)
  rw [hn] at hD hG hG20 ⊢
  have HN := Lib.hid hn
  have hD0 : decide (0 < D) = true := decide_eq_true (by omega)
  have hmin : min (n : Int) (D : Int) = (n : Int) := by omega
  have hsub : ((D : Int) - (n : Int)) = ((D - n : Nat) : Int) := by omega
  clear hn
  go_enter Tryz.func183, Tryz.ntmps183
  go_wp2_with fail
  try go_frame
  go_loopw [0, 25, 191] (fun v _ i wr => ∃ k : Nat, i = .int .i64 k ∧ k ≤ n ∧ OutS true B b ty (BL (G ++ rest)) w0 wr v (([] : List UInt8) ++ (G.drop 0).take k)) (fun _ _ i _ => n - (intOf i).toNat)
  case atStart => exact ⟨0, rfl, Nat.zero_le _, by simpa using H0.out⟩
  case round =>
    obtain ⟨k, rfl, hk, ho⟩ := hrel
    clear H0
    have HO := Lib.hid ho
    clear ho
    by_cases hlt : k < n
    · obtain ⟨c, hc⟩ : ∃ c, (G.drop 0)[k]? = some c := ⟨_, List.getElem?_eq_getElem (by rw [List.length_drop, HN.out]; omega)⟩
      have hc2 : G[k]? = some c := by rw [← hc, List.getElem?_drop]; rw [Nat.zero_add]
      have hcell : wr.cell? ⟨b, k, none⟩ = some (.int .u8 (c.toNat : Int)) := by
        rw [(HO.out.blk rfl).cell _, BL_get, List.getElem?_append_left (by rw [HN.out]; omega), hc2]
        rfl
      have HC := Lib.hid (strip_take_last _ k c hc)
      clear hc hc2
      have HXL : Hid ((([] : List UInt8) ++ (G.drop 0).take k).length ≤ 2000) := Lib.hid (by first | (simp; omega) | simp)
      go_wp2_with (at_builtin; refine wpList_append_own_at _ rfl _ _ 99 rfl B 5 i0 (.int .u8 0) 1 1 Tryz.underlying99 hi hz0 hz1 hz2 rfl (by decide) _ (([] : List UInt8) ++ (G.drop 0).take k).length (bl (([] : List UInt8) ++ (G.drop 0).take k)) rfl (HO.out.own.alloc _) ⟨wr.heap.size, 0, none⟩ 1 1 [.int .u8 (c.toNat : Int)] rfl rfl (cell_one_new _ _ _) (one_u8 _) (by unfold maxLen; have := HXL.out; omega) (by have := HXL.out; omega) (by rw [World.size_alloc]; have := HO.out.hB; omega) ?_; intro v3 w3 hown hg _ hat)
      refine ⟨⟨k + 1, by first | exact rfl | go_num, by omega, ?_⟩, by simp only [intOf]; omega⟩
      rw [HC.out, ← List.append_assoc]
      exact HO.out.step c _ hown hg hat
    · have hkM : n = k := by omega
      subst hkM
      go_wp2_with fail
      try go_frame
      go_loopw [0, 203] (fun v i wr => ∃ k : Nat, i = .int .i64 k ∧ k ≤ D - n ∧ OutS true B b ty (BL (G ++ rest)) w0 wr v (([] : List UInt8) ++ (G.drop 0).take (n) ++ List.replicate k 48)) (fun _ i _ => D - n - (intOf i).toNat)
      case atStart => exact ⟨0, rfl, Nat.zero_le _, by simpa using HO.out⟩
      case round =>
        obtain ⟨k, rfl, hk, ho⟩ := hrel
        clear HO
        have HO := Lib.hid ho
        clear ho
        by_cases hlt : k < D - n
        · have HXL : Hid ((([] : List UInt8) ++ (G.drop 0).take (n) ++ List.replicate k 48).length ≤ 2000) := Lib.hid (by first | (simp; omega) | simp)
          go_wp2_with (at_builtin; refine wpList_append_own_at _ rfl _ _ 99 rfl B 5 i0 (.int .u8 0) 1 1 Tryz.underlying99 hi hz0 hz1 hz2 rfl (by decide) _ (([] : List UInt8) ++ (G.drop 0).take (n) ++ List.replicate k 48).length (bl (([] : List UInt8) ++ (G.drop 0).take (n) ++ List.replicate k 48)) rfl (HO.out.own.alloc _) ⟨wr.heap.size, 0, none⟩ 1 1 [.int .u8 48] rfl rfl (cell_one_new _ _ _) (one_u8 _) (by unfold maxLen; have := HXL.out; omega) (by have := HXL.out; omega) (by rw [World.size_alloc]; have := HO.out.hB; omega) ?_; intro v3 w3 hown hg _ hat)
          refine ⟨⟨k + 1, by first | exact rfl | go_num, by omega, ?_⟩, by simp only [intOf]; omega⟩
          rw [List.replicate_succ', ← List.append_assoc]
          exact HO.out.step 48 _ hown hg hat
        · have hkM : D - n = k := by omega
          subst hkM
          go_wp2_with fail
          go_ret
          exact ⟨_, rfl, by rw [HE.out]; exact HO.out⟩
set_option maxRecDepth 100000 in
set_option maxHeartbeats 4000000 in
theorem efg_at (B b : Nat) (ty : TypeId) (G : List UInt8) (rest : List UInt8) (D : Nat) (hD : G.length ≤ D) (hD4 : D ≤ 1000) (hG : 1 ≤ G.length) (hG20 : G.length ≤ 20) (hr : (G ++ rest).length = 32) (w0 w : World) (v : Value) (h : OutS true B b ty (BL (G ++ rest)) w0 w v []) : Calls Tryz.prog 183 #[v, .bool true, .slice (some ⟨b, 0, none⟩) 32 32, .int .i64 (D : Int), .int .i64 G.length, .int .i64 0, .int .u8 102, .bool true] w fun e w' => ∃ v', e = .returned v' ∧ OutS true B b ty (BL (G ++ rest)) w0 w' v' (fm.outN true G (D : Int)) := by
  obtain ⟨i0, hi, hz0, hz1, hz2⟩ := info_parts info_u8
  have H0 := Lib.hid h
  clear h hr
  obtain ⟨n, hn⟩ : ∃ n, G.length = n := ⟨_, rfl⟩
  have HE : Hid (fm.outN true G (D : Int) = ([] : List UInt8)  ++ [45] ++ (G.drop 0).take n ++ List.replicate (D - n) 48) := Lib.hid (by
    have c1 : (0 : Int) < (D : Int) := by omega
    have c2 : ¬ (D : Int) < (G.length : Int) := by omega
    unfold fm.outN
    rw [if_pos c1, if_neg c2, Int.toNat_natCast, List.take_of_length_le hD, List.drop_zero, List.take_of_length_le (by omega), hn]
    simp)
  rw [hn] at hD hG hG20 ⊢
  have HN := Lib.hid hn
  have hD0 : decide (0 < D) = true := decide_eq_true (by omega)
  have hmin : min (n : Int) (D : Int) = (n : Int) := by omega
  have hsub : ((D : Int) - (n : Int)) = ((D - n : Nat) : Int) := by omega
  clear hn
  go_enter Tryz.func183, Tryz.ntmps183
  have HXL0 : Hid ((([] : List UInt8)).length ≤ 2000) := Lib.hid (by first | (simp; omega) | simp)
  have tok0 : True := trivial
  go_wp2_with (first | (at_builtin; have tk := tok0; refine wpList_append_own_at _ rfl _ _ 99 rfl B 5 i0 (.int .u8 0) 1 1 Tryz.underlying99 hi hz0 hz1 hz2 rfl (by decide) _ (([] : List UInt8)).length (bl (([] : List UInt8))) rfl (H0.out.own.alloc _) ⟨w.heap.size, 0, none⟩ 1 1 [.int .u8 45] rfl rfl (cell_one_new _ _ _) (one_u8 _) (by unfold maxLen; have := HXL0.out; omega) (by have := HXL0.out; omega) (by rw [World.size_alloc]; have := H0.out.hB; omega) ?_; intro vp0 wp0 hown hg _ hat; have HP0 := Lib.hid (H0.out.step 45 _ hown hg hat); clear hown hg hat H0 HXL0 tok0 tk))
  try go_frame
  go_loopw [0, 25, 191] (fun v _ i wr => ∃ k : Nat, i = .int .i64 k ∧ k ≤ n ∧ OutS true B b ty (BL (G ++ rest)) w0 wr v (([] : List UInt8) ++ [45] ++ (G.drop 0).take k)) (fun _ _ i _ => n - (intOf i).toNat)
  case atStart => exact ⟨0, rfl, Nat.zero_le _, by simpa using HP0.out⟩
  case round =>
    obtain ⟨k, rfl, hk, ho⟩ := hrel
    clear HP0
    have HO := Lib.hid ho
    clear ho
    by_cases hlt : k < n
    · obtain ⟨c, hc⟩ : ∃ c, (G.drop 0)[k]? = some c := ⟨_, List.getElem?_eq_getElem (by rw [List.length_drop, HN.out]; omega)⟩
      have hc2 : G[k]? = some c := by rw [← hc, List.getElem?_drop]; rw [Nat.zero_add]
      have hcell : wr.cell? ⟨b, k, none⟩ = some (.int .u8 (c.toNat : Int)) := by
        rw [(HO.out.blk rfl).cell _, BL_get, List.getElem?_append_left (by rw [HN.out]; omega), hc2]
        rfl
      have HC := Lib.hid (strip_take_last _ k c hc)
      clear hc hc2
      have HXL : Hid ((([] : List UInt8) ++ [45] ++ (G.drop 0).take k).length ≤ 2000) := Lib.hid (by first | (simp; omega) | simp)
      go_wp2_with (at_builtin; refine wpList_append_own_at _ rfl _ _ 99 rfl B 5 i0 (.int .u8 0) 1 1 Tryz.underlying99 hi hz0 hz1 hz2 rfl (by decide) _ (([] : List UInt8) ++ [45] ++ (G.drop 0).take k).length (bl (([] : List UInt8) ++ [45] ++ (G.drop 0).take k)) rfl (HO.out.own.alloc _) ⟨wr.heap.size, 0, none⟩ 1 1 [.int .u8 (c.toNat : Int)] rfl rfl (cell_one_new _ _ _) (one_u8 _) (by unfold maxLen; have := HXL.out; omega) (by have := HXL.out; omega) (by rw [World.size_alloc]; have := HO.out.hB; omega) ?_; intro v3 w3 hown hg _ hat)
      refine ⟨⟨k + 1, by first | exact rfl | go_num, by omega, ?_⟩, by simp only [intOf]; omega⟩
      rw [HC.out, ← List.append_assoc]
      exact HO.out.step c _ hown hg hat
    · have hkM : n = k := by omega
      subst hkM
      go_wp2_with fail
      try go_frame
      go_loopw [0, 203] (fun v i wr => ∃ k : Nat, i = .int .i64 k ∧ k ≤ D - n ∧ OutS true B b ty (BL (G ++ rest)) w0 wr v (([] : List UInt8) ++ [45] ++ (G.drop 0).take (n) ++ List.replicate k 48)) (fun _ i _ => D - n - (intOf i).toNat)
      case atStart => exact ⟨0, rfl, Nat.zero_le _, by simpa using HO.out⟩
      case round =>
        obtain ⟨k, rfl, hk, ho⟩ := hrel
        clear HO
        have HO := Lib.hid ho
        clear ho
        by_cases hlt : k < D - n
        · have HXL : Hid ((([] : List UInt8) ++ [45] ++ (G.drop 0).take (n) ++ List.replicate k 48).length ≤ 2000) := Lib.hid (by first | (simp; omega) | simp)
          go_wp2_with (at_builtin; refine wpList_append_own_at _ rfl _ _ 99 rfl B 5 i0 (.int .u8 0) 1 1 Tryz.underlying99 hi hz0 hz1 hz2 rfl (by decide) _ (([] : List UInt8) ++ [45] ++ (G.drop 0).take (n) ++ List.replicate k 48).length (bl (([] : List UInt8) ++ [45] ++ (G.drop 0).take (n) ++ List.replicate k 48)) rfl (HO.out.own.alloc _) ⟨wr.heap.size, 0, none⟩ 1 1 [.int .u8 48] rfl rfl (cell_one_new _ _ _) (one_u8 _) (by unfold maxLen; have := HXL.out; omega) (by have := HXL.out; omega) (by rw [World.size_alloc]; have := HO.out.hB; omega) ?_; intro v3 w3 hown hg _ hat)
          refine ⟨⟨k + 1, by first | exact rfl | go_num, by omega, ?_⟩, by simp only [intOf]; omega⟩
          rw [List.replicate_succ', ← List.append_assoc]
          exact HO.out.step 48 _ hown hg hat
        · have hkM : D - n = k := by omega
          subst hkM
          go_wp2_with fail
          go_ret
          exact ⟨_, rfl, by rw [HE.out]; exact HO.out⟩
set_option maxRecDepth 100000 in
set_option maxHeartbeats 4000000 in
theorem efg_bf (B b : Nat) (ty : TypeId) (G : List UInt8) (rest : List UInt8) (D : Nat) (hD : 1 ≤ D) (hD2 : D < G.length) (hG : 1 ≤ G.length) (hG20 : G.length ≤ 20) (hr : (G ++ rest).length = 32) (w0 w : World) (v : Value) (h : OutS true B b ty (BL (G ++ rest)) w0 w v []) : Calls Tryz.prog 183 #[v, .bool false, .slice (some ⟨b, 0, none⟩) 32 32, .int .i64 (D : Int), .int .i64 G.length, .int .i64 ((G.length - D : Nat) : Int), .int .u8 102, .bool true] w fun e w' => ∃ v', e = .returned v' ∧ OutS true B b ty (BL (G ++ rest)) w0 w' v' (fm.outN false G (D : Int)) := by
  obtain ⟨i0, hi, hz0, hz1, hz2⟩ := info_parts info_u8
  have H0 := Lib.hid h
  clear h hr
  obtain ⟨n, hn⟩ : ∃ n, G.length = n := ⟨_, rfl⟩
  obtain ⟨P, hP⟩ : ∃ P, G.length - D = P := ⟨_, rfl⟩
  have HE : Hid (fm.outN false G (D : Int) = ([] : List UInt8)  ++ (G.drop 0).take D ++ [46] ++ (G.drop D).take P) := Lib.hid (by
    have c1 : (0 : Int) < (D : Int) := by omega
    have c2 : (D : Int) < (G.length : Int) := by omega
    have e1 : (-(D : Int)).toNat = 0 := by omega
    unfold fm.outN
    rw [if_pos c1, if_pos c2, Int.toNat_natCast, e1, List.drop_zero, show D - G.length = 0 from by omega, List.take_of_length_le (l := G.drop D) (by rw [List.length_drop]; omega)]
    simp)
  rw [hn] at hD2 hG hG20 hP ⊢
  have HN := Lib.hid hn
  rw [hP]
  have hP1 : 1 ≤ P ∧ P ≤ 20 := by omega
  have hqq : D + P = n := by omega
  have HQQ := Lib.hid hqq
  have hD0 : decide (0 < D) = true := decide_eq_true (by omega)
  have hP0 : decide (0 < P) = true := decide_eq_true (by omega)
  have hmin : min (n : Int) (D : Int) = (D : Int) := by omega
  have hmx : max (0 : Int) (-(D : Int)) = 0 := by omega
  have hmn : min (P : Int) 0 = 0 := by omega
  have hnd : ((n : Int) - (D : Int)) = (P : Int) := by omega
  have hmxp : max (0 : Int) (P : Int) = (P : Int) := by omega
  clear hn hP hqq
  go_enter Tryz.func183, Tryz.ntmps183
  go_wp2_with fail
  try go_frame
  go_loopw [0, 25, 191] (fun v _ i wr => ∃ k : Nat, i = .int .i64 k ∧ k ≤ D ∧ OutS true B b ty (BL (G ++ rest)) w0 wr v (([] : List UInt8) ++ (G.drop 0).take k)) (fun _ _ i _ => D - (intOf i).toNat)
  case atStart => exact ⟨0, rfl, Nat.zero_le _, by simpa using H0.out⟩
  case round =>
    obtain ⟨k, rfl, hk, ho⟩ := hrel
    clear H0
    have HO := Lib.hid ho
    clear ho
    by_cases hlt : k < D
    · obtain ⟨c, hc⟩ : ∃ c, (G.drop 0)[k]? = some c := ⟨_, List.getElem?_eq_getElem (by rw [List.length_drop, HN.out]; omega)⟩
      have hc2 : G[k]? = some c := by rw [← hc, List.getElem?_drop]; rw [Nat.zero_add]
      have hcell : wr.cell? ⟨b, k, none⟩ = some (.int .u8 (c.toNat : Int)) := by
        rw [(HO.out.blk rfl).cell _, BL_get, List.getElem?_append_left (by rw [HN.out]; omega), hc2]
        rfl
      have HC := Lib.hid (strip_take_last _ k c hc)
      clear hc hc2
      have HXL : Hid ((([] : List UInt8) ++ (G.drop 0).take k).length ≤ 2000) := Lib.hid (by first | (simp; omega) | simp)
      go_wp2_with (at_builtin; refine wpList_append_own_at _ rfl _ _ 99 rfl B 5 i0 (.int .u8 0) 1 1 Tryz.underlying99 hi hz0 hz1 hz2 rfl (by decide) _ (([] : List UInt8) ++ (G.drop 0).take k).length (bl (([] : List UInt8) ++ (G.drop 0).take k)) rfl (HO.out.own.alloc _) ⟨wr.heap.size, 0, none⟩ 1 1 [.int .u8 (c.toNat : Int)] rfl rfl (cell_one_new _ _ _) (one_u8 _) (by unfold maxLen; have := HXL.out; omega) (by have := HXL.out; omega) (by rw [World.size_alloc]; have := HO.out.hB; omega) ?_; intro v3 w3 hown hg _ hat)
      refine ⟨⟨k + 1, by first | exact rfl | go_num, by omega, ?_⟩, by simp only [intOf]; omega⟩
      rw [HC.out, ← List.append_assoc]
      exact HO.out.step c _ hown hg hat
    · have hkM : D = k := by omega
      subst hkM
      go_wp2_with fail
      refine wp_loop_rounds 1 ?_
      rw [rounds_succ]
      have HXL0 : Hid ((([] : List UInt8) ++ (G.drop 0).take (D)).length ≤ 2000) := Lib.hid (by first | (simp; omega) | simp)
      have tok0 : True := trivial
      go_wp2_with (first | (at_builtin; have tk := tok0; refine wpList_append_own_at _ rfl _ _ 99 rfl B 5 i0 (.int .u8 0) 1 1 Tryz.underlying99 hi hz0 hz1 hz2 rfl (by decide) _ (([] : List UInt8) ++ (G.drop 0).take (D)).length (bl (([] : List UInt8) ++ (G.drop 0).take (D))) rfl (HO.out.own.alloc _) ⟨wr.heap.size, 0, none⟩ 1 1 [.int .u8 46] rfl rfl (cell_one_new _ _ _) (one_u8 _) (by unfold maxLen; have := HXL0.out; omega) (by have := HXL0.out; omega) (by rw [World.size_alloc]; have := HO.out.hB; omega) ?_; intro vp0 wp0 hown hg _ hat; have HP0 := Lib.hid (HO.out.step 46 _ hown hg hat); clear hown hg hat HO HXL0 tok0 tk))
      refine wp_loop_rounds 1 ?_
      rw [rounds_succ]
      go_wp2_with fail
      try go_frame
      go_loopw [0, 30, 247] (fun v _ i wr => ∃ k : Nat, i = .int .i64 k ∧ k ≤ P ∧ OutS true B b ty (BL (G ++ rest)) w0 wr v (([] : List UInt8) ++ (G.drop 0).take (D) ++ [46] ++ (G.drop D).take k)) (fun _ _ i _ => P - (intOf i).toNat)
      case atStart => exact ⟨0, rfl, Nat.zero_le _, by simpa using HP0.out⟩
      case round =>
        obtain ⟨k, rfl, hk, ho⟩ := hrel
        clear HP0
        have HO := Lib.hid ho
        clear ho
        by_cases hlt : k < P
        · obtain ⟨c, hc⟩ : ∃ c, (G.drop D)[k]? = some c := ⟨_, List.getElem?_eq_getElem (by rw [List.length_drop, HN.out]; omega)⟩
          have hc2 : G[D + k]? = some c := by rw [← hc, List.getElem?_drop]
          have hcell : wr.cell? ⟨b, D + k, none⟩ = some (.int .u8 (c.toNat : Int)) := by
            rw [(HO.out.blk rfl).cell _, BL_get, List.getElem?_append_left (by rw [HN.out]; omega), hc2]
            rfl
          have HC := Lib.hid (strip_take_last _ k c hc)
          clear hc hc2
          have HXL : Hid ((([] : List UInt8) ++ (G.drop 0).take (D) ++ [46] ++ (G.drop D).take k).length ≤ 2000) := Lib.hid (by first | (simp; omega) | simp)
          go_wp2_with (at_builtin; refine wpList_append_own_at _ rfl _ _ 99 rfl B 5 i0 (.int .u8 0) 1 1 Tryz.underlying99 hi hz0 hz1 hz2 rfl (by decide) _ (([] : List UInt8) ++ (G.drop 0).take (D) ++ [46] ++ (G.drop D).take k).length (bl (([] : List UInt8) ++ (G.drop 0).take (D) ++ [46] ++ (G.drop D).take k)) rfl (HO.out.own.alloc _) ⟨wr.heap.size, 0, none⟩ 1 1 [.int .u8 (c.toNat : Int)] rfl rfl (cell_one_new _ _ _) (one_u8 _) (by unfold maxLen; have := HXL.out; omega) (by have := HXL.out; omega) (by rw [World.size_alloc]; have := HO.out.hB; omega) ?_; intro v3 w3 hown hg _ hat)
          refine ⟨⟨k + 1, by first | exact rfl | go_num, by omega, ?_⟩, by simp only [intOf]; omega⟩
          rw [HC.out, ← List.append_assoc]
          exact HO.out.step c _ hown hg hat
        · have hkM : P = k := by omega
          subst hkM
          go_wp2_with fail
          refine wp_loop_rounds 1 ?_
          rw [rounds_succ]
          go_wp2_with fail
          go_ret
          exact ⟨_, rfl, by rw [HE.out]; exact HO.out⟩
set_option maxRecDepth 100000 in
set_option maxHeartbeats 4000000 in
theorem efg_bt (B b : Nat) (ty : TypeId) (G : List UInt8) (rest : List UInt8) (D : Nat) (hD : 1 ≤ D) (hD2 : D < G.length) (hG : 1 ≤ G.length) (hG20 : G.length ≤ 20) (hr : (G ++ rest).length = 32) (w0 w : World) (v : Value) (h : OutS true B b ty (BL (G ++ rest)) w0 w v []) : Calls Tryz.prog 183 #[v, .bool true, .slice (some ⟨b, 0, none⟩) 32 32, .int .i64 (D : Int), .int .i64 G.length, .int .i64 ((G.length - D : Nat) : Int), .int .u8 102, .bool true] w fun e w' => ∃ v', e = .returned v' ∧ OutS true B b ty (BL (G ++ rest)) w0 w' v' (fm.outN true G (D : Int)) := by
  obtain ⟨i0, hi, hz0, hz1, hz2⟩ := info_parts info_u8
  have H0 := Lib.hid h
  clear h hr
  obtain ⟨n, hn⟩ : ∃ n, G.length = n := ⟨_, rfl⟩
  obtain ⟨P, hP⟩ : ∃ P, G.length - D = P := ⟨_, rfl⟩
  have HE : Hid (fm.outN true G (D : Int) = ([] : List UInt8)  ++ [45] ++ (G.drop 0).take D ++ [46] ++ (G.drop D).take P) := Lib.hid (by
    have c1 : (0 : Int) < (D : Int) := by omega
    have c2 : (D : Int) < (G.length : Int) := by omega
    have e1 : (-(D : Int)).toNat = 0 := by omega
    unfold fm.outN
    rw [if_pos c1, if_pos c2, Int.toNat_natCast, e1, List.drop_zero, show D - G.length = 0 from by omega, List.take_of_length_le (l := G.drop D) (by rw [List.length_drop]; omega)]
    simp)
  rw [hn] at hD2 hG hG20 hP ⊢
  have HN := Lib.hid hn
  rw [hP]
  have hP1 : 1 ≤ P ∧ P ≤ 20 := by omega
  have hqq : D + P = n := by omega
  have HQQ := Lib.hid hqq
  have hD0 : decide (0 < D) = true := decide_eq_true (by omega)
  have hP0 : decide (0 < P) = true := decide_eq_true (by omega)
  have hmin : min (n : Int) (D : Int) = (D : Int) := by omega
  have hmx : max (0 : Int) (-(D : Int)) = 0 := by omega
  have hmn : min (P : Int) 0 = 0 := by omega
  have hnd : ((n : Int) - (D : Int)) = (P : Int) := by omega
  have hmxp : max (0 : Int) (P : Int) = (P : Int) := by omega
  clear hn hP hqq
  go_enter Tryz.func183, Tryz.ntmps183
  have HXL0 : Hid ((([] : List UInt8)).length ≤ 2000) := Lib.hid (by first | (simp; omega) | simp)
  have tok0 : True := trivial
  go_wp2_with (first | (at_builtin; have tk := tok0; refine wpList_append_own_at _ rfl _ _ 99 rfl B 5 i0 (.int .u8 0) 1 1 Tryz.underlying99 hi hz0 hz1 hz2 rfl (by decide) _ (([] : List UInt8)).length (bl (([] : List UInt8))) rfl (H0.out.own.alloc _) ⟨w.heap.size, 0, none⟩ 1 1 [.int .u8 45] rfl rfl (cell_one_new _ _ _) (one_u8 _) (by unfold maxLen; have := HXL0.out; omega) (by have := HXL0.out; omega) (by rw [World.size_alloc]; have := H0.out.hB; omega) ?_; intro vp0 wp0 hown hg _ hat; have HP0 := Lib.hid (H0.out.step 45 _ hown hg hat); clear hown hg hat H0 HXL0 tok0 tk))
  try go_frame
  go_loopw [0, 25, 191] (fun v _ i wr => ∃ k : Nat, i = .int .i64 k ∧ k ≤ D ∧ OutS true B b ty (BL (G ++ rest)) w0 wr v (([] : List UInt8) ++ [45] ++ (G.drop 0).take k)) (fun _ _ i _ => D - (intOf i).toNat)
  case atStart => exact ⟨0, rfl, Nat.zero_le _, by simpa using HP0.out⟩
  case round =>
    obtain ⟨k, rfl, hk, ho⟩ := hrel
    clear HP0
    have HO := Lib.hid ho
    clear ho
    by_cases hlt : k < D
    · obtain ⟨c, hc⟩ : ∃ c, (G.drop 0)[k]? = some c := ⟨_, List.getElem?_eq_getElem (by rw [List.length_drop, HN.out]; omega)⟩
      have hc2 : G[k]? = some c := by rw [← hc, List.getElem?_drop]; rw [Nat.zero_add]
      have hcell : wr.cell? ⟨b, k, none⟩ = some (.int .u8 (c.toNat : Int)) := by
        rw [(HO.out.blk rfl).cell _, BL_get, List.getElem?_append_left (by rw [HN.out]; omega), hc2]
        rfl
      have HC := Lib.hid (strip_take_last _ k c hc)
      clear hc hc2
      have HXL : Hid ((([] : List UInt8) ++ [45] ++ (G.drop 0).take k).length ≤ 2000) := Lib.hid (by first | (simp; omega) | simp)
      go_wp2_with (at_builtin; refine wpList_append_own_at _ rfl _ _ 99 rfl B 5 i0 (.int .u8 0) 1 1 Tryz.underlying99 hi hz0 hz1 hz2 rfl (by decide) _ (([] : List UInt8) ++ [45] ++ (G.drop 0).take k).length (bl (([] : List UInt8) ++ [45] ++ (G.drop 0).take k)) rfl (HO.out.own.alloc _) ⟨wr.heap.size, 0, none⟩ 1 1 [.int .u8 (c.toNat : Int)] rfl rfl (cell_one_new _ _ _) (one_u8 _) (by unfold maxLen; have := HXL.out; omega) (by have := HXL.out; omega) (by rw [World.size_alloc]; have := HO.out.hB; omega) ?_; intro v3 w3 hown hg _ hat)
      refine ⟨⟨k + 1, by first | exact rfl | go_num, by omega, ?_⟩, by simp only [intOf]; omega⟩
      rw [HC.out, ← List.append_assoc]
      exact HO.out.step c _ hown hg hat
    · have hkM : D = k := by omega
      subst hkM
      go_wp2_with fail
      refine wp_loop_rounds 1 ?_
      rw [rounds_succ]
      have HXL0 : Hid ((([] : List UInt8) ++ [45] ++ (G.drop 0).take (D)).length ≤ 2000) := Lib.hid (by first | (simp; omega) | simp)
      have tok0 : True := trivial
      go_wp2_with (first | (at_builtin; have tk := tok0; refine wpList_append_own_at _ rfl _ _ 99 rfl B 5 i0 (.int .u8 0) 1 1 Tryz.underlying99 hi hz0 hz1 hz2 rfl (by decide) _ (([] : List UInt8) ++ [45] ++ (G.drop 0).take (D)).length (bl (([] : List UInt8) ++ [45] ++ (G.drop 0).take (D))) rfl (HO.out.own.alloc _) ⟨wr.heap.size, 0, none⟩ 1 1 [.int .u8 46] rfl rfl (cell_one_new _ _ _) (one_u8 _) (by unfold maxLen; have := HXL0.out; omega) (by have := HXL0.out; omega) (by rw [World.size_alloc]; have := HO.out.hB; omega) ?_; intro vp0 wp0 hown hg _ hat; have HP0 := Lib.hid (HO.out.step 46 _ hown hg hat); clear hown hg hat HO HXL0 tok0 tk))
      refine wp_loop_rounds 1 ?_
      rw [rounds_succ]
      go_wp2_with fail
      try go_frame
      go_loopw [0, 30, 247] (fun v _ i wr => ∃ k : Nat, i = .int .i64 k ∧ k ≤ P ∧ OutS true B b ty (BL (G ++ rest)) w0 wr v (([] : List UInt8) ++ [45] ++ (G.drop 0).take (D) ++ [46] ++ (G.drop D).take k)) (fun _ _ i _ => P - (intOf i).toNat)
      case atStart => exact ⟨0, rfl, Nat.zero_le _, by simpa using HP0.out⟩
      case round =>
        obtain ⟨k, rfl, hk, ho⟩ := hrel
        clear HP0
        have HO := Lib.hid ho
        clear ho
        by_cases hlt : k < P
        · obtain ⟨c, hc⟩ : ∃ c, (G.drop D)[k]? = some c := ⟨_, List.getElem?_eq_getElem (by rw [List.length_drop, HN.out]; omega)⟩
          have hc2 : G[D + k]? = some c := by rw [← hc, List.getElem?_drop]
          have hcell : wr.cell? ⟨b, D + k, none⟩ = some (.int .u8 (c.toNat : Int)) := by
            rw [(HO.out.blk rfl).cell _, BL_get, List.getElem?_append_left (by rw [HN.out]; omega), hc2]
            rfl
          have HC := Lib.hid (strip_take_last _ k c hc)
          clear hc hc2
          have HXL : Hid ((([] : List UInt8) ++ [45] ++ (G.drop 0).take (D) ++ [46] ++ (G.drop D).take k).length ≤ 2000) := Lib.hid (by first | (simp; omega) | simp)
          go_wp2_with (at_builtin; refine wpList_append_own_at _ rfl _ _ 99 rfl B 5 i0 (.int .u8 0) 1 1 Tryz.underlying99 hi hz0 hz1 hz2 rfl (by decide) _ (([] : List UInt8) ++ [45] ++ (G.drop 0).take (D) ++ [46] ++ (G.drop D).take k).length (bl (([] : List UInt8) ++ [45] ++ (G.drop 0).take (D) ++ [46] ++ (G.drop D).take k)) rfl (HO.out.own.alloc _) ⟨wr.heap.size, 0, none⟩ 1 1 [.int .u8 (c.toNat : Int)] rfl rfl (cell_one_new _ _ _) (one_u8 _) (by unfold maxLen; have := HXL.out; omega) (by have := HXL.out; omega) (by rw [World.size_alloc]; have := HO.out.hB; omega) ?_; intro v3 w3 hown hg _ hat)
          refine ⟨⟨k + 1, by first | exact rfl | go_num, by omega, ?_⟩, by simp only [intOf]; omega⟩
          rw [HC.out, ← List.append_assoc]
          exact HO.out.step c _ hown hg hat
        · have hkM : P = k := by omega
          subst hkM
          go_wp2_with fail
          refine wp_loop_rounds 1 ?_
          rw [rounds_succ]
          go_wp2_with fail
          go_ret
          exact ⟨_, rfl, by rw [HE.out]; exact HO.out⟩
set_option maxRecDepth 100000 in
set_option maxHeartbeats 4000000 in
theorem efg_cf (B b : Nat) (ty : TypeId) (G : List UInt8) (rest : List UInt8) (Z : Nat) (hZ4 : Z ≤ 1000) (hG : 1 ≤ G.length) (hG20 : G.length ≤ 20) (hr : (G ++ rest).length = 32) (w0 w : World) (v : Value) (h : OutS true B b ty (BL (G ++ rest)) w0 w v []) : Calls Tryz.prog 183 #[v, .bool false, .slice (some ⟨b, 0, none⟩) 32 32, .int .i64 (-(Z : Int)), .int .i64 G.length, .int .i64 ((G.length + Z : Nat) : Int), .int .u8 102, .bool true] w fun e w' => ∃ v', e = .returned v' ∧ OutS true B b ty (BL (G ++ rest)) w0 w' v' (fm.outN false G (-(Z : Int))) := by
  obtain ⟨i0, hi, hz0, hz1, hz2⟩ := info_parts info_u8
  have H0 := Lib.hid h
  clear h hr
  obtain ⟨n, hn⟩ : ∃ n, G.length = n := ⟨_, rfl⟩
  have HE : Hid (fm.outN false G (-(Z : Int)) = ([] : List UInt8)  ++ [48] ++ [46] ++ List.replicate (Z) 48 ++ (G.drop 0).take n) := Lib.hid (by
    have c1 : ¬ (0 : Int) < -(Z : Int) := by omega
    have c2 : -(Z : Int) < (G.length : Int) := by omega
    have e1 : (-(-(Z : Int))).toNat = Z := by omega
    have e2 : (-(Z : Int)).toNat = 0 := by omega
    unfold fm.outN
    rw [if_neg c1, if_pos c2, e1, e2, List.drop_zero, List.take_of_length_le (by omega)]
    simp)
  obtain ⟨P, hP⟩ : ∃ P, G.length + Z = P := ⟨_, rfl⟩
  rw [hP]
  rw [hn] at hG hG20 hP ⊢
  have HN := Lib.hid hn
  have hdz : decide ((0 : Int) < -(Z : Int)) = false := decide_eq_false (by omega)
  have hP0 : decide (0 < P) = true := decide_eq_true (by omega)
  have hP4 : P ≤ 1020 := by omega
  have hmx : max (0 : Int) (Z : Int) = (Z : Int) := by omega
  have hmn : min (P : Int) (Z : Int) = (Z : Int) := by omega
  have hzz0 : (-(Z : Int) + (Z : Int)) = 0 := by omega
  have hpz : ((P : Int) - (Z : Int)) = (n : Int) := by omega
  have hmxn : max (0 : Int) (n : Int) = (n : Int) := by omega
  clear hn hP
  go_enter Tryz.func183, Tryz.ntmps183
  have HXL0 : Hid ((([] : List UInt8)).length ≤ 2000) := Lib.hid (by first | (simp; omega) | simp)
  have tok0 : True := trivial
  have HXL1 : Hid ((([] : List UInt8) ++ [48]).length ≤ 2000) := Lib.hid (by first | (simp; omega) | simp)
  have tok1 : True := trivial
  go_wp2_with (first | (at_builtin; have tk := tok0; refine wpList_append_own_at _ rfl _ _ 99 rfl B 5 i0 (.int .u8 0) 1 1 Tryz.underlying99 hi hz0 hz1 hz2 rfl (by decide) _ (([] : List UInt8)).length (bl (([] : List UInt8))) rfl (H0.out.own.alloc _) ⟨w.heap.size, 0, none⟩ 1 1 [.int .u8 48] rfl rfl (cell_one_new _ _ _) (one_u8 _) (by unfold maxLen; have := HXL0.out; omega) (by have := HXL0.out; omega) (by rw [World.size_alloc]; have := H0.out.hB; omega) ?_; intro vp0 wp0 hown hg _ hat; have HP0 := Lib.hid (H0.out.step 48 _ hown hg hat); clear hown hg hat H0 HXL0 tok0 tk) | (at_builtin; have tk := tok1; refine wpList_append_own_at _ rfl _ _ 99 rfl B 5 i0 (.int .u8 0) 1 1 Tryz.underlying99 hi hz0 hz1 hz2 rfl (by decide) _ (([] : List UInt8) ++ [48]).length (bl (([] : List UInt8) ++ [48])) rfl (HP0.out.own.alloc _) ⟨wp0.heap.size, 0, none⟩ 1 1 [.int .u8 46] rfl rfl (cell_one_new _ _ _) (one_u8 _) (by unfold maxLen; have := HXL1.out; omega) (by have := HXL1.out; omega) (by rw [World.size_alloc]; have := HP0.out.hB; omega) ?_; intro vp1 wp1 hown hg _ hat; have HP1 := Lib.hid (HP0.out.step 46 _ hown hg hat); clear hown hg hat HP0 HXL1 tok1 tk))
  try go_frame
  go_loopw [0, 240] (fun v i wr => ∃ k : Nat, i = .int .i64 k ∧ k ≤ Z ∧ OutS true B b ty (BL (G ++ rest)) w0 wr v (([] : List UInt8) ++ [48] ++ [46] ++ List.replicate k 48)) (fun _ i _ => Z - (intOf i).toNat)
  case atStart => exact ⟨0, rfl, Nat.zero_le _, by simpa using HP1.out⟩
  case round =>
    obtain ⟨k, rfl, hk, ho⟩ := hrel
    clear HP1
    have HO := Lib.hid ho
    clear ho
    by_cases hlt : k < Z
    · have HXL : Hid ((([] : List UInt8) ++ [48] ++ [46] ++ List.replicate k 48).length ≤ 2000) := Lib.hid (by first | (simp; omega) | simp)
      go_wp2_with (at_builtin; refine wpList_append_own_at _ rfl _ _ 99 rfl B 5 i0 (.int .u8 0) 1 1 Tryz.underlying99 hi hz0 hz1 hz2 rfl (by decide) _ (([] : List UInt8) ++ [48] ++ [46] ++ List.replicate k 48).length (bl (([] : List UInt8) ++ [48] ++ [46] ++ List.replicate k 48)) rfl (HO.out.own.alloc _) ⟨wr.heap.size, 0, none⟩ 1 1 [.int .u8 48] rfl rfl (cell_one_new _ _ _) (one_u8 _) (by unfold maxLen; have := HXL.out; omega) (by have := HXL.out; omega) (by rw [World.size_alloc]; have := HO.out.hB; omega) ?_; intro v3 w3 hown hg _ hat)
      refine ⟨⟨k + 1, by first | exact rfl | go_num, by omega, ?_⟩, by simp only [intOf]; omega⟩
      rw [List.replicate_succ', ← List.append_assoc]
      exact HO.out.step 48 _ hown hg hat
    · have hkM : Z = k := by omega
      subst hkM
      go_wp2_with fail
      try go_frame
      go_loopw [0, 30, 247] (fun v _ i wr => ∃ k : Nat, i = .int .i64 k ∧ k ≤ n ∧ OutS true B b ty (BL (G ++ rest)) w0 wr v (([] : List UInt8) ++ [48] ++ [46] ++ List.replicate (Z) 48 ++ (G.drop 0).take k)) (fun _ _ i _ => n - (intOf i).toNat)
      case atStart => exact ⟨0, rfl, Nat.zero_le _, by simpa using HO.out⟩
      case round =>
        obtain ⟨k, rfl, hk, ho⟩ := hrel
        clear HO
        have HO := Lib.hid ho
        clear ho
        by_cases hlt : k < n
        · obtain ⟨c, hc⟩ : ∃ c, (G.drop 0)[k]? = some c := ⟨_, List.getElem?_eq_getElem (by rw [List.length_drop, HN.out]; omega)⟩
          have hc2 : G[k]? = some c := by rw [← hc, List.getElem?_drop]; rw [Nat.zero_add]
          have hcell : wr.cell? ⟨b, k, none⟩ = some (.int .u8 (c.toNat : Int)) := by
            rw [(HO.out.blk rfl).cell _, BL_get, List.getElem?_append_left (by rw [HN.out]; omega), hc2]
            rfl
          have HC := Lib.hid (strip_take_last _ k c hc)
          clear hc hc2
          have HXL : Hid ((([] : List UInt8) ++ [48] ++ [46] ++ List.replicate (Z) 48 ++ (G.drop 0).take k).length ≤ 2000) := Lib.hid (by first | (simp; omega) | simp)
          go_wp2_with (at_builtin; refine wpList_append_own_at _ rfl _ _ 99 rfl B 5 i0 (.int .u8 0) 1 1 Tryz.underlying99 hi hz0 hz1 hz2 rfl (by decide) _ (([] : List UInt8) ++ [48] ++ [46] ++ List.replicate (Z) 48 ++ (G.drop 0).take k).length (bl (([] : List UInt8) ++ [48] ++ [46] ++ List.replicate (Z) 48 ++ (G.drop 0).take k)) rfl (HO.out.own.alloc _) ⟨wr.heap.size, 0, none⟩ 1 1 [.int .u8 (c.toNat : Int)] rfl rfl (cell_one_new _ _ _) (one_u8 _) (by unfold maxLen; have := HXL.out; omega) (by have := HXL.out; omega) (by rw [World.size_alloc]; have := HO.out.hB; omega) ?_; intro v3 w3 hown hg _ hat)
          refine ⟨⟨k + 1, by first | exact rfl | go_num, by omega, ?_⟩, by simp only [intOf]; omega⟩
          rw [HC.out, ← List.append_assoc]
          exact HO.out.step c _ hown hg hat
        · have hkM : n = k := by omega
          subst hkM
          go_wp2_with fail
          refine wp_loop_rounds 1 ?_
          rw [rounds_succ]
          go_wp2_with fail
          go_ret
          exact ⟨_, rfl, by rw [HE.out]; exact HO.out⟩
set_option maxRecDepth 100000 in
set_option maxHeartbeats 4000000 in
theorem efg_ct (B b : Nat) (ty : TypeId) (G : List UInt8) (rest : List UInt8) (Z : Nat) (hZ4 : Z ≤ 1000) (hG : 1 ≤ G.length) (hG20 : G.length ≤ 20) (hr : (G ++ rest).length = 32) (w0 w : World) (v : Value) (h : OutS true B b ty (BL (G ++ rest)) w0 w v []) : Calls Tryz.prog 183 #[v, .bool true, .slice (some ⟨b, 0, none⟩) 32 32, .int .i64 (-(Z : Int)), .int .i64 G.length, .int .i64 ((G.length + Z : Nat) : Int), .int .u8 102, .bool true] w fun e w' => ∃ v', e = .returned v' ∧ OutS true B b ty (BL (G ++ rest)) w0 w' v' (fm.outN true G (-(Z : Int))) := by
  obtain ⟨i0, hi, hz0, hz1, hz2⟩ := info_parts info_u8
  have H0 := Lib.hid h
  clear h hr
  obtain ⟨n, hn⟩ : ∃ n, G.length = n := ⟨_, rfl⟩
  have HE : Hid (fm.outN true G (-(Z : Int)) = ([] : List UInt8)  ++ [45] ++ [48] ++ [46] ++ List.replicate (Z) 48 ++ (G.drop 0).take n) := Lib.hid (by
    have c1 : ¬ (0 : Int) < -(Z : Int) := by omega
    have c2 : -(Z : Int) < (G.length : Int) := by omega
    have e1 : (-(-(Z : Int))).toNat = Z := by omega
    have e2 : (-(Z : Int)).toNat = 0 := by omega
    unfold fm.outN
    rw [if_neg c1, if_pos c2, e1, e2, List.drop_zero, List.take_of_length_le (by omega)]
    simp)
  obtain ⟨P, hP⟩ : ∃ P, G.length + Z = P := ⟨_, rfl⟩
  rw [hP]
  rw [hn] at hG hG20 hP ⊢
  have HN := Lib.hid hn
  have hdz : decide ((0 : Int) < -(Z : Int)) = false := decide_eq_false (by omega)
  have hP0 : decide (0 < P) = true := decide_eq_true (by omega)
  have hP4 : P ≤ 1020 := by omega
  have hmx : max (0 : Int) (Z : Int) = (Z : Int) := by omega
  have hmn : min (P : Int) (Z : Int) = (Z : Int) := by omega
  have hzz0 : (-(Z : Int) + (Z : Int)) = 0 := by omega
  have hpz : ((P : Int) - (Z : Int)) = (n : Int) := by omega
  have hmxn : max (0 : Int) (n : Int) = (n : Int) := by omega
  clear hn hP
  go_enter Tryz.func183, Tryz.ntmps183
  have HXL0 : Hid ((([] : List UInt8)).length ≤ 2000) := Lib.hid (by first | (simp; omega) | simp)
  have tok0 : True := trivial
  have HXL1 : Hid ((([] : List UInt8) ++ [45]).length ≤ 2000) := Lib.hid (by first | (simp; omega) | simp)
  have tok1 : True := trivial
  have HXL2 : Hid ((([] : List UInt8) ++ [45] ++ [48]).length ≤ 2000) := Lib.hid (by first | (simp; omega) | simp)
  have tok2 : True := trivial
  go_wp2_with (first | (at_builtin; have tk := tok0; refine wpList_append_own_at _ rfl _ _ 99 rfl B 5 i0 (.int .u8 0) 1 1 Tryz.underlying99 hi hz0 hz1 hz2 rfl (by decide) _ (([] : List UInt8)).length (bl (([] : List UInt8))) rfl (H0.out.own.alloc _) ⟨w.heap.size, 0, none⟩ 1 1 [.int .u8 45] rfl rfl (cell_one_new _ _ _) (one_u8 _) (by unfold maxLen; have := HXL0.out; omega) (by have := HXL0.out; omega) (by rw [World.size_alloc]; have := H0.out.hB; omega) ?_; intro vp0 wp0 hown hg _ hat; have HP0 := Lib.hid (H0.out.step 45 _ hown hg hat); clear hown hg hat H0 HXL0 tok0 tk) | (at_builtin; have tk := tok1; refine wpList_append_own_at _ rfl _ _ 99 rfl B 5 i0 (.int .u8 0) 1 1 Tryz.underlying99 hi hz0 hz1 hz2 rfl (by decide) _ (([] : List UInt8) ++ [45]).length (bl (([] : List UInt8) ++ [45])) rfl (HP0.out.own.alloc _) ⟨wp0.heap.size, 0, none⟩ 1 1 [.int .u8 48] rfl rfl (cell_one_new _ _ _) (one_u8 _) (by unfold maxLen; have := HXL1.out; omega) (by have := HXL1.out; omega) (by rw [World.size_alloc]; have := HP0.out.hB; omega) ?_; intro vp1 wp1 hown hg _ hat; have HP1 := Lib.hid (HP0.out.step 48 _ hown hg hat); clear hown hg hat HP0 HXL1 tok1 tk) | (at_builtin; have tk := tok2; refine wpList_append_own_at _ rfl _ _ 99 rfl B 5 i0 (.int .u8 0) 1 1 Tryz.underlying99 hi hz0 hz1 hz2 rfl (by decide) _ (([] : List UInt8) ++ [45] ++ [48]).length (bl (([] : List UInt8) ++ [45] ++ [48])) rfl (HP1.out.own.alloc _) ⟨wp1.heap.size, 0, none⟩ 1 1 [.int .u8 46] rfl rfl (cell_one_new _ _ _) (one_u8 _) (by unfold maxLen; have := HXL2.out; omega) (by have := HXL2.out; omega) (by rw [World.size_alloc]; have := HP1.out.hB; omega) ?_; intro vp2 wp2 hown hg _ hat; have HP2 := Lib.hid (HP1.out.step 46 _ hown hg hat); clear hown hg hat HP1 HXL2 tok2 tk))
  try go_frame
  go_loopw [0, 240] (fun v i wr => ∃ k : Nat, i = .int .i64 k ∧ k ≤ Z ∧ OutS true B b ty (BL (G ++ rest)) w0 wr v (([] : List UInt8) ++ [45] ++ [48] ++ [46] ++ List.replicate k 48)) (fun _ i _ => Z - (intOf i).toNat)
  case atStart => exact ⟨0, rfl, Nat.zero_le _, by simpa using HP2.out⟩
  case round =>
    obtain ⟨k, rfl, hk, ho⟩ := hrel
    clear HP2
    have HO := Lib.hid ho
    clear ho
    by_cases hlt : k < Z
    · have HXL : Hid ((([] : List UInt8) ++ [45] ++ [48] ++ [46] ++ List.replicate k 48).length ≤ 2000) := Lib.hid (by first | (simp; omega) | simp)
      go_wp2_with (at_builtin; refine wpList_append_own_at _ rfl _ _ 99 rfl B 5 i0 (.int .u8 0) 1 1 Tryz.underlying99 hi hz0 hz1 hz2 rfl (by decide) _ (([] : List UInt8) ++ [45] ++ [48] ++ [46] ++ List.replicate k 48).length (bl (([] : List UInt8) ++ [45] ++ [48] ++ [46] ++ List.replicate k 48)) rfl (HO.out.own.alloc _) ⟨wr.heap.size, 0, none⟩ 1 1 [.int .u8 48] rfl rfl (cell_one_new _ _ _) (one_u8 _) (by unfold maxLen; have := HXL.out; omega) (by have := HXL.out; omega) (by rw [World.size_alloc]; have := HO.out.hB; omega) ?_; intro v3 w3 hown hg _ hat)
      refine ⟨⟨k + 1, by first | exact rfl | go_num, by omega, ?_⟩, by simp only [intOf]; omega⟩
      rw [List.replicate_succ', ← List.append_assoc]
      exact HO.out.step 48 _ hown hg hat
    · have hkM : Z = k := by omega
      subst hkM
      go_wp2_with fail
      try go_frame
      go_loopw [0, 30, 247] (fun v _ i wr => ∃ k : Nat, i = .int .i64 k ∧ k ≤ n ∧ OutS true B b ty (BL (G ++ rest)) w0 wr v (([] : List UInt8) ++ [45] ++ [48] ++ [46] ++ List.replicate (Z) 48 ++ (G.drop 0).take k)) (fun _ _ i _ => n - (intOf i).toNat)
      case atStart => exact ⟨0, rfl, Nat.zero_le _, by simpa using HO.out⟩
      case round =>
        obtain ⟨k, rfl, hk, ho⟩ := hrel
        clear HO
        have HO := Lib.hid ho
        clear ho
        by_cases hlt : k < n
        · obtain ⟨c, hc⟩ : ∃ c, (G.drop 0)[k]? = some c := ⟨_, List.getElem?_eq_getElem (by rw [List.length_drop, HN.out]; omega)⟩
          have hc2 : G[k]? = some c := by rw [← hc, List.getElem?_drop]; rw [Nat.zero_add]
          have hcell : wr.cell? ⟨b, k, none⟩ = some (.int .u8 (c.toNat : Int)) := by
            rw [(HO.out.blk rfl).cell _, BL_get, List.getElem?_append_left (by rw [HN.out]; omega), hc2]
            rfl
          have HC := Lib.hid (strip_take_last _ k c hc)
          clear hc hc2
          have HXL : Hid ((([] : List UInt8) ++ [45] ++ [48] ++ [46] ++ List.replicate (Z) 48 ++ (G.drop 0).take k).length ≤ 2000) := Lib.hid (by first | (simp; omega) | simp)
          go_wp2_with (at_builtin; refine wpList_append_own_at _ rfl _ _ 99 rfl B 5 i0 (.int .u8 0) 1 1 Tryz.underlying99 hi hz0 hz1 hz2 rfl (by decide) _ (([] : List UInt8) ++ [45] ++ [48] ++ [46] ++ List.replicate (Z) 48 ++ (G.drop 0).take k).length (bl (([] : List UInt8) ++ [45] ++ [48] ++ [46] ++ List.replicate (Z) 48 ++ (G.drop 0).take k)) rfl (HO.out.own.alloc _) ⟨wr.heap.size, 0, none⟩ 1 1 [.int .u8 (c.toNat : Int)] rfl rfl (cell_one_new _ _ _) (one_u8 _) (by unfold maxLen; have := HXL.out; omega) (by have := HXL.out; omega) (by rw [World.size_alloc]; have := HO.out.hB; omega) ?_; intro v3 w3 hown hg _ hat)
          refine ⟨⟨k + 1, by first | exact rfl | go_num, by omega, ?_⟩, by simp only [intOf]; omega⟩
          rw [HC.out, ← List.append_assoc]
          exact HO.out.step c _ hown hg hat
        · have hkM : n = k := by omega
          subst hkM
          go_wp2_with fail
          refine wp_loop_rounds 1 ?_
          rw [rounds_succ]
          go_wp2_with fail
          go_ret
          exact ⟨_, rfl, by rw [HE.out]; exact HO.out⟩
set_option maxRecDepth 100000 in
set_option maxHeartbeats 4000000 in
theorem efg_zf (B : Nat) (w0 w : World) (v : Value) (h : OutS false B 0 0 #[] w0 w v []) : Calls Tryz.prog 183 #[v, .bool false, .slice none 0 0, .int .i64 0, .int .i64 0, .int .i64 (-1), .int .u8 102, .bool true] w fun e w' => ∃ v', e = .returned v' ∧ OutS false B 0 0 #[] w0 w' v' (fm.outN false [] 0) := by
  obtain ⟨i0, hi, hz0, hz1, hz2⟩ := info_parts info_u8
  have H0 := Lib.hid h
  clear h
  have HE : Hid (fm.outN false [] 0 = ([] : List UInt8)  ++ [48]) := Lib.hid (by unfold fm.outN; simp)
  go_enter Tryz.func183, Tryz.ntmps183
  have HXL0 : Hid ((([] : List UInt8)).length ≤ 2000) := Lib.hid (by simp)
  have tok0 : True := trivial
  go_wp2_with (first | (at_builtin; have tk := tok0; refine wpList_append_own_at _ rfl _ _ 99 rfl B 5 i0 (.int .u8 0) 1 1 Tryz.underlying99 hi hz0 hz1 hz2 rfl (by decide) _ (([] : List UInt8)).length (bl (([] : List UInt8))) rfl (H0.out.own.alloc _) ⟨w.heap.size, 0, none⟩ 1 1 [.int .u8 48] rfl rfl (cell_one_new _ _ _) (one_u8 _) (by unfold maxLen; have := HXL0.out; omega) (by have := HXL0.out; omega) (by rw [World.size_alloc]; have := H0.out.hB; omega) ?_; intro vp0 wp0 hown hg _ hat; have HP0 := Lib.hid (H0.out.step 48 _ hown hg hat); clear hown hg hat H0 HXL0 tok0 tk))
  go_ret
  exact ⟨_, rfl, by rw [HE.out]; exact HP0.out⟩
set_option maxRecDepth 100000 in
set_option maxHeartbeats 4000000 in
theorem efg_zt (B : Nat) (w0 w : World) (v : Value) (h : OutS false B 0 0 #[] w0 w v []) : Calls Tryz.prog 183 #[v, .bool true, .slice none 0 0, .int .i64 0, .int .i64 0, .int .i64 (-1), .int .u8 102, .bool true] w fun e w' => ∃ v', e = .returned v' ∧ OutS false B 0 0 #[] w0 w' v' (fm.outN true [] 0) := by
  obtain ⟨i0, hi, hz0, hz1, hz2⟩ := info_parts info_u8
  have H0 := Lib.hid h
  clear h
  have HE : Hid (fm.outN true [] 0 = ([] : List UInt8)  ++ [45] ++ [48]) := Lib.hid (by unfold fm.outN; simp)
  go_enter Tryz.func183, Tryz.ntmps183
  have HXL0 : Hid ((([] : List UInt8)).length ≤ 2000) := Lib.hid (by simp)
  have tok0 : True := trivial
  have HXL1 : Hid ((([] : List UInt8) ++ [45]).length ≤ 2000) := Lib.hid (by simp)
  have tok1 : True := trivial
  go_wp2_with (first | (at_builtin; have tk := tok0; refine wpList_append_own_at _ rfl _ _ 99 rfl B 5 i0 (.int .u8 0) 1 1 Tryz.underlying99 hi hz0 hz1 hz2 rfl (by decide) _ (([] : List UInt8)).length (bl (([] : List UInt8))) rfl (H0.out.own.alloc _) ⟨w.heap.size, 0, none⟩ 1 1 [.int .u8 45] rfl rfl (cell_one_new _ _ _) (one_u8 _) (by unfold maxLen; have := HXL0.out; omega) (by have := HXL0.out; omega) (by rw [World.size_alloc]; have := H0.out.hB; omega) ?_; intro vp0 wp0 hown hg _ hat; have HP0 := Lib.hid (H0.out.step 45 _ hown hg hat); clear hown hg hat H0 HXL0 tok0 tk) | (at_builtin; have tk := tok1; refine wpList_append_own_at _ rfl _ _ 99 rfl B 5 i0 (.int .u8 0) 1 1 Tryz.underlying99 hi hz0 hz1 hz2 rfl (by decide) _ (([] : List UInt8) ++ [45]).length (bl (([] : List UInt8) ++ [45])) rfl (HP0.out.own.alloc _) ⟨wp0.heap.size, 0, none⟩ 1 1 [.int .u8 48] rfl rfl (cell_one_new _ _ _) (one_u8 _) (by unfold maxLen; have := HXL1.out; omega) (by have := HXL1.out; omega) (by rw [World.size_alloc]; have := HP0.out.hB; omega) ?_; intro vp1 wp1 hown hg _ hat; have HP1 := Lib.hid (HP0.out.step 48 _ hown hg hat); clear hown hg hat HP0 HXL1 tok1 tk))
  go_ret
  exact ⟨_, rfl, by rw [HE.out]; exact HP1.out⟩
end Go.Proofs.YtldamieigigncaaGreatDoor.lx


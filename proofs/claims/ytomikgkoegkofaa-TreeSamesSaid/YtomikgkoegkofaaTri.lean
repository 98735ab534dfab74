import Derived.Test.YtomikgkoegkofaaTrh
namespace Go.Proofs.Ytomikgkoegkofaa.dt
open Go.ChangeShapes Go.WideShapes Go.ChangeAt Go.RowKit Go.Maps Go.WideMaps Go.WideElems Go.Shelf Go.Proofs.Ytomikgkoegkofaa.dv
set_option linter.unusedVariables false
set_option linter.unusedSimpArgs false
/-! leaves -/
theorem info_pnode : (Try.prog.info? 53).map (fun i => (i.zero, i.size, i.bytes)) = some (some (.pointer none), 1, 8) := by kernel_rfl
def LeafAt (W : World) (b : Nat) (s : Int) : Prop := Blk W b 65 #[.int .i64 s, .int .i64 (-1), .slice none 0 0]
set_option maxHeartbeats 1000000 in
theorem leaf_any (w : World) (s : Int) : Calls Try.prog 61 #[.int .i64 s] w fun e w' => e = .returned (PtrV w.heap.size) ∧ w' = w.alloc (.cells #[.int .i64 s, .int .i64 (-1), .slice none 0 0] 65) := by
  go_enter Try.func61, Try.ntmps61
  go_wp2
  go_ret
  exact ⟨rfl, rfl⟩
/-- leaves, new ones, of a form -/
structure LeavesAt (B : Nat) (W : World) (bs : List Nat) (F : List Int) : Prop where
  len : bs.length = F.length
  nd : bs.Nodup
  at_ : ∀ j (h : j < bs.length), B ≤ bs[j] ∧ LeafAt W bs[j] (F.getD j 0)
theorem LeavesAt.kept {B : Nat} {W W' : World} {bs : List Nat} {F : List Int} {row : Option Nat} (h : LeavesAt B W bs F) (hg : W.grownBy W' row) (hr : ∀ r, row = some r → ∃ cs t fz, W.heap[r]? = some (.cells cs t fz) ∧ t ≠ 65) : LeavesAt B W' bs F := ⟨h.len, h.nd, fun j hj => by
  obtain ⟨h1, h2⟩ := h.at_ j hj
  refine ⟨h1, Blk.grown h2 hg (fun e => ?_)⟩
  obtain ⟨cs, t, fz, ho, ht⟩ := hr _ e.symm
  have := (show W.heap[bs[j]]? = _ from h2).symm.trans ho
  simp at this
  exact ht this.2.1.symm⟩
theorem LeavesAt.more {B : Nat} {W : World} {bs : List Nat} {F : List Int} {s : Int} (h : LeavesAt B W bs F) (hB : B ≤ W.heap.size) : LeavesAt B (W.alloc (.cells #[.int .i64 s, .int .i64 (-1), .slice none 0 0] 65)) (bs ++ [W.heap.size]) (F ++ [s]) := by
  have hlt : ∀ b ∈ bs, b < W.heap.size := fun b hb => by
    obtain ⟨j, hj, rfl⟩ := List.mem_iff_getElem.1 hb
    exact (h.at_ j hj).2.lt
  refine ⟨by simp [h.len], ?_, fun j hj => ?_⟩
  · rw [List.nodup_append]
    refine ⟨h.nd, by simp, fun a ha b hb e => ?_⟩
    have := hlt a ha
    simp at hb
    omega
  · by_cases e : j < bs.length
    · obtain ⟨h1, h2⟩ := h.at_ j e
      rw [List.getElem_append_left e]
      refine ⟨h1, ?_⟩
      have : (F ++ [s]).getD j 0 = F.getD j 0 := by
        simp only [List.getD_eq_getElem?_getD]
        rw [List.getElem?_append_left (by rw [← h.len]; exact e)]
      rw [this]
      exact Blk.alloc h2 _
    · have e2 : j = bs.length := by simp at hj; omega
      subst e2
      rw [List.getElem_append_right (Nat.le_refl _)]
      simp only [Nat.sub_self, List.getElem_cons_zero]
      refine ⟨hB, ?_⟩
      have : (F ++ [s]).getD bs.length 0 = s := by simp [h.len]
      rw [this]
      exact Blk.new W _ _
set_option maxRecDepth 100000 in
set_option maxHeartbeats 2000000 in
theorem leaves_any (w : World) (v : Value) (F : List Int) (h : RowAt w v F) (hF : F.length ≤ 1000000) : Calls Try.prog 63 #[v] w fun e w' => ∃ u bs, e = .returned u ∧ w'.ownsRow w.heap.size 53 1 u F.length (PV bs) ∧ LeavesAt w.heap.size w' bs F ∧ Below w.heap.size w w' ∧ (F = [] → u = .slice none 0 0) := by
  obtain ⟨i0, hi, hz0, hz1, hz2⟩ := info_parts info_pnode
  obtain ⟨ao, cap, rfl, hl, hm, hn, hin, hc⟩ := h
  have HC := Lib.hid hc
  clear hc hin
  go_enter Try.func63, Try.ntmps63
  go_wp2
  go_loopw [3, 8] (fun z i wr => ∃ (k : Nat) (bs : List Nat), k ≤ F.length ∧ i = .int .i64 k ∧ wr.ownsRow w.heap.size 53 1 z k (PV bs) ∧ LeavesAt w.heap.size wr bs (F.take k) ∧ Below w.heap.size w wr ∧ (k = 0 → z = .slice none 0 0)) (fun _ i _ => F.length - (intOf i).toNat)
  case atStart => exact ⟨0, [], Nat.zero_le _, rfl, World.ownsRow_nil _ _ _ _, ⟨by simp, List.nodup_nil, fun j hj => absurd hj (Nat.not_lt_zero _)⟩, Below.refl _ _, fun _ => rfl⟩
  case round =>
    obtain ⟨k, bs, hk, rfl, hown, hlv, hbr, hno⟩ := hrel
    have HNO := Lib.hid hno
    clear hno
    have hzr := hbr.size
    have HOW := Lib.hid hown
    have HLV := Lib.hid hlv
    have HBR := Lib.hid hbr
    by_cases hlt : k < F.length
    · obtain ⟨a, rfl, hab, hca⟩ := HC.out k hlt
      have hca2 : wr.cell? (a.add k) = some (.int .i64 (F.getD k 0)) := (hbr.cell (p := a.add k) (by rw [add_block]; exact hab)).trans hca
      have hlt' : (k : Int) < (F.length : Int) := by omega
      have hst : F.take k ++ [F.getD k 0] = F.take (k + 1) := by
        rw [List.take_succ_eq_append_getElem hlt, List.getD_eq_getElem?_getD, List.getElem?_eq_getElem hlt]
        rfl
      have HS := Lib.hid hst
      have hbl : bs.length = k := by rw [hlv.len, List.length_take]; omega
      clear hst hca hlv hbr
      generalize F.getD k 0 = s at *
      have HO1 := Lib.hid (hown.alloc (.cells #[.int .i64 s, .int .i64 (-1), .slice none 0 0] 65))
      have HM := Lib.hid (HLV.out.more (s := s) hzr)
      clear hown
      unfold PtrV at *
      go_wp2_with (first | (go_at_call 61; refine (leaf_any _ _).mono ?_; rintro e w2 ⟨rfl, rfl⟩; unfold PtrV) | (at_builtin; go_must (refine wpList_append_own _ rfl _ _ 63 rfl w.heap.size 53 i0 (.pointer none) 1 8 Try.underlying63 hi hz0 hz1 hz2 rfl (by decide) _ _ _ rfl (HO1.out.alloc (.cells #[.pointer (some ⟨wr.heap.size, 0, none⟩)] 53)) ⟨wr.heap.size + 1, 0, none⟩ 1 1 [.pointer (some ⟨wr.heap.size, 0, none⟩)] rfl rfl (by have := cell_one_new (wr.alloc (.cells #[.int .i64 s, .int .i64 (-1), .slice none 0 0] 65)) (.pointer (some ⟨wr.heap.size, 0, none⟩)) 53; rw [World.size_alloc] at this; exact this) (by intro u hu; simp at hu; subst hu; rfl) (by unfold maxLen; omega) (by omega) (by simp; omega) ?_); intro v' w2 hown' hgrow _))
      have hrow := fun r (e : _ = some r) => row_obj (HO1.out.alloc (.cells #[.pointer (some ⟨wr.heap.size, 0, none⟩)] 53)) r e
      have hlv2 : LeavesAt w.heap.size w2 (bs ++ [wr.heap.size]) (F.take (k + 1)) := by
        have h1 := HM.out
        rw [HS.out] at h1
        refine (h1.kept (World.grownBy_alloc _ _ none) (fun r e => by cases e)).kept hgrow (fun r e => ?_)
        obtain ⟨_, cs, fz, ho⟩ := hrow r e
        exact ⟨cs, _, fz, ho, by decide⟩
      have hb2 : Below w.heap.size w w2 := ((HBR.out.alloc hzr _).alloc (by rw [World.size_alloc]; omega) _).grown hgrow (by simp; omega) (fun r e => (hrow r e).1)
      refine ⟨⟨k + 1, bs ++ [wr.heap.size], hlt, congrArg (Value.int .i64) (by omega), ?_, hlv2, hb2, fun h => absurd h (Nat.succ_ne_zero _)⟩, by simp only [intOf]; omega⟩
      have e1 : PV (bs ++ [wr.heap.size]) = PV bs ++ [.pointer (some ⟨wr.heap.size, 0, none⟩)] := by simp [PV, PtrV]
      rw [e1]
      exact hown'
    · obtain rfl : k = F.length := by omega
      have hl2 := HLV.out
      rw [List.take_length] at hl2
      have HE := Lib.hid hl2
      clear hown hlv hl2 hbr
      go_wp2
      go_ret
      exact ⟨_, bs, rfl, HOW.out, HE.out, HBR.out, fun h => HNO.out (by rw [h]; rfl)⟩
end Go.Proofs.Ytomikgkoegkofaa.dt

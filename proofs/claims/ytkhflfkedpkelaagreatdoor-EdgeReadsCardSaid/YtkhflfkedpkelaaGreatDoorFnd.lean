import Derived.Test.YtkhflfkedpkelaaGreatDoorFnb
namespace Go.Proofs.YtkhflfkedpkelaaGreatDoor.lx
open Go.ChangeShapes Go.WideShapes Go.ChangeAt Go.RowKit Go.Shelf Go.Sort
set_option linter.unusedVariables false
/-! digits, in a row of bytes -/
theorem bool2i_any (b : Bool) (w : World) : Calls Tryz.prog 98 #[.bool b] w fun e w' => e = .returned (.int .i64 (b.toNat : Nat)) ∧ w = w' := by
  cases b
  all_goals
    go_enter Tryz.func98, Tryz.ntmps98
    go_wp2
    go_ret
    exact ⟨rfl, rfl⟩
set_option maxRecDepth 100000 in
set_option maxHeartbeats 1000000 in
theorem nd_any (d : Nat) (hd : d < 18446744073709551616) (w : World) (hv : Ps w) : Calls Tryz.prog 61 #[.int .u64 d] w fun e w' => e = .returned (.int .i64 (fm.ndN d : Nat)) ∧ w = w' := by
  obtain ⟨_, _, n3, n4, _⟩ := fm.nd_spec d hd
  have hl := len_any d hd
  have hb := fm.bitL_le d hd
  have h10 := l10_any (fm.bitL d) (by omega) (by omega)
  unfold fm.ndN
  obtain ⟨K, hK⟩ : ∃ K : Nat, (fm.l10 (fm.bitL d)) = (K : Int) := ⟨(fm.l10 (fm.bitL d)).toNat, by omega⟩
  rw [hK] at h10 n4 ⊢
  rw [Int.toNat_natCast] at n4 ⊢
  have hc := hv.h7 K (by omega)
  generalize fm.bitL d = L at *
  have hbb := bool2i_any (decide (10 ^ K ≤ d))
  have hsum : ((K : Int) + ((decide (10 ^ K ≤ d)).toNat : Nat)) = ((K + (if 10 ^ K ≤ d then 1 else 0) : Nat) : Int) := by
    by_cases h : 10 ^ K ≤ d
    · rw [decide_eq_true h, if_pos h]; rfl
    · rw [decide_eq_false h, if_neg h]; rfl
  rw [← hsum]
  clear hsum
  generalize 10 ^ K = E at *
  have hb1 := Bool.toNat_le (decide (E ≤ d))
  generalize (decide (E ≤ d)).toNat = X at hbb hb1 ⊢
  have HBB := Lib.hid hbb
  clear hbb
  have hK20 : (K : Int) < 20 := by omega
  clear n3 hK hv
  go_enter Tryz.func61, Tryz.ntmps61
  go_wp2_with fail
  refine (hl _).mono ?_
  rintro e w1 ⟨rfl, rfl⟩
  go_wp2_with fail
  refine (h10 _).mono ?_
  rintro e w1 ⟨rfl, rfl⟩
  go_wp2_with fail
  refine (HBB.out _).mono ?_
  rintro e w1 ⟨rfl, rfl⟩
  go_wp2_with fail
  go_ret
  exact ⟨rfl, rfl⟩
def BL (l : List UInt8) : Array Value := (l.map fun c => Value.int .u8 (c.toNat : Int)).toArray
theorem BL_get (l : List UInt8) (i : Nat) : (BL l)[i]? = (l[i]?).map fun c => Value.int .u8 (c.toNat : Int) := by
  unfold BL
  simp
theorem digs_get : ∀ (n d t : Nat), t < n → (fm.digs n d)[t]? = some (UInt8.ofNat (48 + d / 10 ^ (n - 1 - t) % 10))
  | 0, d, t, h => by omega
  | n + 1, d, t, h => by
    unfold fm.digs
    rcases Nat.lt_or_ge t n with h1 | h1
    · rw [List.getElem?_append_left (by rw [fm.digs_len]; exact h1), digs_get n (d / 10) t h1]
      congr 2
      rw [Nat.div_div_eq_div_mul, Nat.mul_comm, ← Nat.pow_succ]
      congr 4
      omega
    · obtain rfl : t = n := by omega
      rw [List.getElem?_append_right (by rw [fm.digs_len]; exact Nat.le_refl _), fm.digs_len, Nat.sub_self]
      simp
theorem fb_any (ty b nd u : Nat) (l : List UInt8) (hl : l.length = 32) (hn : nd ≤ 32) (hu : u < 10 ^ nd) (hu64 : u < 18446744073709551616) (w : World) (hb : Blk w b ty (BL l)) : Calls Tryz.prog 97 #[.slice (some ⟨b, 0, none⟩) nd 32, .int .u64 u] w fun e w' => e = .returned (.tuple #[]) ∧ Blk w' b ty (BL (fm.digs nd u ++ l.drop nd)) ∧ w.grownBy w' (some b) := by
  obtain ⟨d, hd⟩ : ∃ d : Array UInt8, d = (l.take nd).toArray := ⟨_, rfl⟩
  have hds : d.size = nd := by rw [hd]; simp; omega
  have hH : Holds (fun (b : UInt8) => Value.int .u8 (b.toNat : Int)) w b 0 d := by
    intro j hj
    rw [hds] at hj
    refine ⟨?_, hb.frozen _⟩
    rw [Nat.zero_add, hb.cell j, BL_get]
    have hj2 : j < l.length := by omega
    have e : d[j]! = l[j] := by
      rw [getElem!_pos d j (by omega)]
      simp [hd]
    rw [e, List.getElem?_eq_getElem hj2]
    rfl
  have h := Any.internal_strconv_formatBase10 Tryz.lays285 b 0 32 u d w hH (by rw [hds]; exact hu) hu64 (by omega)
  rw [hds] at h
  refine h.mono ?_
  rintro e w' ⟨rfl, n, v', dk, rfl, hf⟩
  refine ⟨rfl, ?_, ?_⟩
  · show (((putRow (fun (b : UInt8) => Value.int .u8 (b.toNat : Int)) w b 0 dk).drewN n).heap)[b]? = _
    show (w.heap.modify b (onCells (putCells (fun (b : UInt8) => Value.int .u8 (b.toNat : Int)) 0 dk)))[b]? = _
    rw [Array.getElem?_modify, if_pos rfl, show w.heap[b]? = some (.cells (BL l) ty (0, 0)) from hb]
    show some (Obj.cells (putCells _ 0 dk (BL l)) ty (0, 0)) = _
    congr 2
    apply Array.ext_getElem?
    intro i
    unfold putCells
    rw [Array.getElem?_mapIdx, BL_get, BL_get]
    have hsz := hf.size
    rcases Nat.lt_or_ge i nd with hi | hi
    · have hi2 : i < l.length := by omega
      rw [List.getElem?_eq_getElem hi2, List.getElem?_append_left (by rw [fm.digs_len]; exact hi), digs_get nd u i hi]
      show some (if 0 ≤ i ∧ i < 0 + dk.size then _ else _) = _
      rw [if_pos ⟨Nat.zero_le _, by omega⟩, Nat.sub_zero, hf.done i (Nat.zero_le _) hi]
      rfl
    · rw [List.getElem?_append_right (by rw [fm.digs_len]; exact hi), fm.digs_len, List.getElem?_drop, show nd + (i - nd) = i from by omega]
      cases hx : l[i]? with
      | none => rfl
      | some c =>
        show some (if 0 ≤ i ∧ i < 0 + dk.size then _ else _) = _
        rw [if_neg (by omega)]
        rfl
  · refine ⟨rfl, rfl, rfl, ?_, fun k hk hne => ?_⟩
    · show w.heap.size ≤ (w.heap.modify b _).size
      simp
    · show (w.heap.modify b _)[k]? = _
      rw [Array.getElem?_modify, if_neg (fun e => hne (by rw [e]))]
end Go.Proofs.YtkhflfkedpkelaaGreatDoor.lx

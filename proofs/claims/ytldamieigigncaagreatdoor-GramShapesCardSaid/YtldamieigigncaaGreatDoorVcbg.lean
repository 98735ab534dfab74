import Derived.Test.YtldamieigigncaaGreatDoorVcbf
import Derived.Test.YtldamieigigncaaGreatDoorVcad
namespace Go.Proofs.YtldamieigigncaaGreatDoor.lx
open Go.ChangeShapes Go.WideShapes Go.ChangeAt Go.RowKit Go.Shelf
set_option linter.unusedVariables false
def TT (i : Nat) : Nat × Nat := Go.Pinned.pow10Rows.getD i (0, 0)
theorem tt_small : ∀ i : Nat, i < 696 → (decide ((TT i).1 < 18446744073709551616) && decide ((TT i).2 < 18446744073709551616)) = true := by decide +kernel
theorem tt_good : fm.Good TT := by
  have h : ∀ p : Nat, p < 24 → 7 ≤ p → (decide ((TT (p + 348)).2 = 0) && decide ((TT (p + 348)).1 < 18446744073709551616) && decide ((TT (p + 348)).1 * 2 ^ (fm.l2p p).toNat = 10 ^ p * 9223372036854775808)) = true := by decide +kernel
  intro p h7 h23
  have := h p (by omega) h7
  simp only [Bool.and_eq_true, decide_eq_true_eq] at this
  exact ⟨this.1.1, this.1.2, this.2⟩
structure Ps (w : World) : Prop where
  h7 : ∀ i : Nat, i < 20 → w.cell? ⟨2, i, none⟩ = some (.int .u64 ((10 ^ i : Nat) : Int))
  h11 : ∀ i : Nat, i < 696 → w.cell? ⟨6, i * 2, none⟩ = some (.int .u64 ((TT i).1 : Nat)) ∧ w.cell? ⟨6, i * 2 + 1, none⟩ = some (.int .u64 ((TT i).2 : Nat))
theorem Ps.below {w w' : World} (h : Ps w) (hb : Below w.heap.size w w') : Ps w' :=
  ⟨fun i hi => (hb.cell (p := ⟨2, i, none⟩) (lt_size (h.h7 i hi))).trans (h.h7 i hi), fun i hi => ⟨(hb.cell (p := ⟨6, i * 2, none⟩) (lt_size (h.h11 i hi).1)).trans (h.h11 i hi).1, (hb.cell (p := ⟨6, i * 2 + 1, none⟩) (lt_size (h.h11 i hi).2)).trans (h.h11 i hi).2⟩⟩
theorem Ps.grown {w w' : World} {g : Nat} (h : Ps w) (hb : w.grownBy w' (some g)) (hg1 : g ≠ 2) (hg2 : g ≠ 6) : Ps w' :=
  ⟨fun i hi => hb.cell (h.h7 i hi) (fun e => hg1 (Option.some.inj e).symm), fun i hi => ⟨hb.cell (h.h11 i hi).1 (fun e => hg2 (Option.some.inj e).symm), hb.cell (h.h11 i hi).2 (fun e => hg2 (Option.some.inj e).symm)⟩⟩
theorem usc_lt (x hi lo s : Nat) (hx : x < 18446744073709551616) (hh : hi < 18446744073709551616) : fm.uscN x hi lo s < 18446744073709551616 := by
  have hP : x * hi < 18446744073709551616 * 18446744073709551616 := Nat.lt_of_le_of_lt (Nat.mul_le_mul_left x (Nat.le_of_lt hh)) (Nat.mul_lt_mul_of_pos_right hx (by decide))
  have hH : x * hi / 18446744073709551616 < 18446744073709551616 := Nat.div_lt_of_lt_mul hP
  have o1 : ∀ v : Nat, v < 18446744073709551616 → v ||| 1 < 18446744073709551616 := fun v hv => by rw [fm.or_one]; omega
  have hm : (x * hi / 18446744073709551616 + 18446744073709551616 - (if x * hi % 18446744073709551616 < x * lo / 18446744073709551616 then 1 else 0)) % 18446744073709551616 < 18446744073709551616 := Nat.mod_lt _ (by decide)
  unfold fm.uscN
  generalize (x * hi / 18446744073709551616 + 18446744073709551616 - (if x * hi % 18446744073709551616 < x * lo / 18446744073709551616 then 1 else 0)) % 18446744073709551616 = A at *
  generalize x * hi / 18446744073709551616 = H at *
  generalize (x * hi % 18446744073709551616 + 18446744073709551616 - x * lo / 18446744073709551616) % 18446744073709551616 = V at *
  have hA : A / 2 ^ s < 18446744073709551616 := Nat.lt_of_le_of_lt (Nat.div_le_self _ _) hm
  have hB : H / 2 ^ s < 18446744073709551616 := Nat.lt_of_le_of_lt (Nat.div_le_self _ _) hH
  by_cases h1 : H / 2 ^ s * 2 ^ s = H
  · rw [if_pos h1]
    by_cases h2 : 1 < V
    · rw [if_pos h2]; exact o1 _ hA
    · rw [if_neg h2, Nat.or_zero]; exact hA
  · rw [if_neg h1]; exact o1 _ hB
theorem nudge_up (u o : Nat) (w : World) : Calls Tryz.prog 211 #[.int .u64 u, .int .i64 (o : Nat)] w fun e w' => e = .returned (.int .u64 (((u + o) % 18446744073709551616 : Nat) : Int)) ∧ w = w' :=
  (nudge_any u (o : Int) w).mono (by rintro e w' ⟨rfl, rfl⟩; exact ⟨by rw [show ((u : Int) + (o : Int)) % 18446744073709551616 = (((u + o) % 18446744073709551616 : Nat) : Int) from by omega], rfl⟩)
theorem nudge_dn (u o : Nat) (hu : u < 18446744073709551616) (ho : o ≤ 1) (w : World) : Calls Tryz.prog 211 #[.int .u64 u, .int .i64 (-(o : Int))] w fun e w' => e = .returned (.int .u64 (((u + 18446744073709551616 - o) % 18446744073709551616 : Nat) : Int)) ∧ w = w' :=
  (nudge_any u (-(o : Int)) w).mono (by
    rintro e w' ⟨rfl, rfl⟩
    exact ⟨by rw [show ((u : Int) + -(o : Int)) % 18446744073709551616 = (((u + 18446744073709551616 - o) % 18446744073709551616 : Nat) : Int) from by omega], rfl⟩)
set_option maxRecDepth 100000 in
set_option maxHeartbeats 1000000 in
theorem prescale_any (i : Nat) (hi : i < 696) (e p lp : Int) (hp : p = (i : Int) - 348) (he : -5000 ≤ e ∧ e ≤ 5000) (hlp : -5000 ≤ lp ∧ lp ≤ 5000) (w : World) (b : Nat) (v0 v1 v2 : Value) (hv : Ps w) (hb : Blk w b 259 #[v0, v1, v2]) : Calls Tryz.prog 208 #[.pointer (some ⟨b, 0, none⟩), .int .i64 e, .int .i64 p, .int .i64 lp] w fun r w' => r = .returned (.tuple #[]) ∧ w' = ((w.setCell ⟨b, 0, none⟩ (.int .u64 ((TT i).1 : Nat))).setCell ⟨b, 1, none⟩ (.int .u64 ((TT i).2 : Nat))).setCell ⟨b, 2, none⟩ (.int .i64 (-(e + lp + 3))) := by
  obtain ⟨t1, t2⟩ := hv.h11 i hi
  have hpi : (p - -348 : Int) = (i : Int) := by omega
  generalize (TT i).1 = A at *
  generalize (TT i).2 = B at *
  have f0 := hb.frozen 0
  have f1 := hb.frozen 1
  have f2 := hb.frozen 2
  have z0 := hb.cell 0
  have z1 := hb.cell 1
  have z2 := hb.cell 2
  simp only [List.getElem?_toArray, List.getElem?_cons_zero, List.getElem?_cons_succ] at z0 z1 z2
  have hw : IntKind.i64.wrap (-(e + lp + 3)) = -(e + lp + 3) := wrap_i64 _ (by omega) (by omega)
  clear hv hb
  go_enter Tryz.func208, Tryz.ntmps208
  go_wp2_with fail
  go_end0
  exact ⟨rfl, rfl⟩
end Go.Proofs.YtldamieigigncaaGreatDoor.lx

namespace Go.Proofs.YtldamieigigncaaGreatDoor.lx
open Go.ChangeShapes Go.WideShapes Go.ChangeAt Go.RowKit Go.Shelf Go.Sort
set_option linter.unusedVariables false
theorem bool2i_any (b : Bool) (w : World) : Calls Tryz.prog 216 #[.bool b] w fun e w' => e = .returned (.int .i64 (b.toNat : Nat)) ∧ w = w' := by
  cases b
  all_goals
    go_enter Tryz.func216, Tryz.ntmps216
    go_wp2
    go_ret
    exact ⟨rfl, rfl⟩
set_option maxRecDepth 100000 in
set_option maxHeartbeats 1000000 in
theorem nd_any (d : Nat) (hd : d < 18446744073709551616) (w : World) (hv : Ps w) : Calls Tryz.prog 186 #[.int .u64 d] w fun e w' => e = .returned (.int .i64 (fm.ndN d : Nat)) ∧ w = w' := by
  obtain ⟨_, _, n3, n4, _⟩ := fm.nd_spec d hd
  have hl := len_any d hd
  have hb := fm.bitL_le d hd
  have h10 := l10_any (fm.bitL d) (by omega) (by omega)
  unfold fm.ndN
  obtain ⟨K, hK⟩ : ∃ K : Nat, (fm.l10 (fm.bitL d)) = (K : Int) := ⟨(fm.l10 (fm.bitL d)).toNat, by omega⟩
  rw [hK] at h10 n4 ⊢
  rw [Int.toNat_natCast] at n4 ⊢
  have hc := hv.h7 K (by omega)
  generalize fm.bitL d = L at *
  have hbb := bool2i_any (decide (10 ^ K ≤ d))
  have hsum : ((K : Int) + ((decide (10 ^ K ≤ d)).toNat : Nat)) = ((K + (if 10 ^ K ≤ d then 1 else 0) : Nat) : Int) := by
    by_cases h : 10 ^ K ≤ d
    · rw [decide_eq_true h, if_pos h]; rfl
    · rw [decide_eq_false h, if_neg h]; rfl
  rw [← hsum]
  clear hsum
  generalize 10 ^ K = E at *
  have hb1 := Bool.toNat_le (decide (E ≤ d))
  generalize (decide (E ≤ d)).toNat = X at hbb hb1 ⊢
  have HBB := Lib.hid hbb
  clear hbb
  have hK20 : (K : Int) < 20 := by omega
  clear n3 hK hv
  go_enter Tryz.func186, Tryz.ntmps186
  go_wp2_with fail
  refine (hl _).mono ?_
  rintro e w1 ⟨rfl, rfl⟩
  go_wp2_with fail
  refine (h10 _).mono ?_
  rintro e w1 ⟨rfl, rfl⟩
  go_wp2_with fail
  refine (HBB.out _).mono ?_
  rintro e w1 ⟨rfl, rfl⟩
  go_wp2_with fail
  go_ret
  exact ⟨rfl, rfl⟩
def BL (l : List UInt8) : Array Value := (l.map fun c => Value.int .u8 (c.toNat : Int)).toArray
theorem BL_get (l : List UInt8) (i : Nat) : (BL l)[i]? = (l[i]?).map fun c => Value.int .u8 (c.toNat : Int) := by
  unfold BL
  simp
theorem digs_get : ∀ (n d t : Nat), t < n → (fm.digs n d)[t]? = some (UInt8.ofNat (48 + d / 10 ^ (n - 1 - t) % 10))
  | 0, d, t, h => by omega
  | n + 1, d, t, h => by
    unfold fm.digs
    rcases Nat.lt_or_ge t n with h1 | h1
    · rw [List.getElem?_append_left (by rw [fm.digs_len]; exact h1), digs_get n (d / 10) t h1]
      congr 2
      rw [Nat.div_div_eq_div_mul, Nat.mul_comm, ← Nat.pow_succ]
      congr 4
      omega
    · obtain rfl : t = n := by omega
      rw [List.getElem?_append_right (by rw [fm.digs_len]; exact Nat.le_refl _), fm.digs_len, Nat.sub_self]
      simp
theorem fb_any (ty b nd u : Nat) (l : List UInt8) (hl : l.length = 32) (hn : nd ≤ 32) (hu : u < 10 ^ nd) (hu64 : u < 18446744073709551616) (w : World) (hb : Blk w b ty (BL l)) : Calls Tryz.prog 215 #[.slice (some ⟨b, 0, none⟩) nd 32, .int .u64 u] w fun e w' => e = .returned (.tuple #[]) ∧ Blk w' b ty (BL (fm.digs nd u ++ l.drop nd)) ∧ w.grownBy w' (some b) := by
  obtain ⟨d, hd⟩ : ∃ d : Array UInt8, d = (l.take nd).toArray := ⟨_, rfl⟩
  have hds : d.size = nd := by rw [hd]; simp; omega
  have hH : Holds (fun (b : UInt8) => Value.int .u8 (b.toNat : Int)) w b 0 d := by
    intro j hj
    rw [hds] at hj
    refine ⟨?_, hb.frozen _⟩
    rw [Nat.zero_add, hb.cell j, BL_get]
    have hj2 : j < l.length := by omega
    have e : d[j]! = l[j] := by
      rw [getElem!_pos d j (by omega)]
      simp [hd]
    rw [e, List.getElem?_eq_getElem hj2]
    rfl
  have h := Any.internal_strconv_formatBase10 Tryz.lays285 b 0 32 u d w hH (by rw [hds]; exact hu) hu64 (by omega)
  rw [hds] at h
  refine h.mono ?_
  rintro e w' ⟨rfl, n, v', dk, rfl, hf⟩
  refine ⟨rfl, ?_, ?_⟩
  · show (((putRow (fun (b : UInt8) => Value.int .u8 (b.toNat : Int)) w b 0 dk).drewN n).heap)[b]? = _
    show (w.heap.modify b (onCells (putCells (fun (b : UInt8) => Value.int .u8 (b.toNat : Int)) 0 dk)))[b]? = _
    rw [Array.getElem?_modify, if_pos rfl, show w.heap[b]? = some (.cells (BL l) ty (0, 0)) from hb]
    show some (Obj.cells (putCells _ 0 dk (BL l)) ty (0, 0)) = _
    congr 2
    apply Array.ext_getElem?
    intro i
    unfold putCells
    rw [Array.getElem?_mapIdx, BL_get, BL_get]
    have hsz := hf.size
    rcases Nat.lt_or_ge i nd with hi | hi
    · have hi2 : i < l.length := by omega
      rw [List.getElem?_eq_getElem hi2, List.getElem?_append_left (by rw [fm.digs_len]; exact hi), digs_get nd u i hi]
      show some (if 0 ≤ i ∧ i < 0 + dk.size then _ else _) = _
      rw [if_pos ⟨Nat.zero_le _, by omega⟩, Nat.sub_zero, hf.done i (Nat.zero_le _) hi]
      rfl
    · rw [List.getElem?_append_right (by rw [fm.digs_len]; exact hi), fm.digs_len, List.getElem?_drop, show nd + (i - nd) = i from by omega]
      cases hx : l[i]? with
      | none => rfl
      | some c =>
        show some (if 0 ≤ i ∧ i < 0 + dk.size then _ else _) = _
        rw [if_neg (by omega)]
        rfl
  · refine ⟨rfl, rfl, rfl, ?_, fun k hk hne => ?_⟩
    · show w.heap.size ≤ (w.heap.modify b _).size
      simp
    · show (w.heap.modify b _)[k]? = _
      rw [Array.getElem?_modify, if_neg (fun e => hne (by rw [e]))]
end Go.Proofs.YtldamieigigncaaGreatDoor.lx

namespace Go.Proofs.YtldamieigigncaaGreatDoor.lx
open Go.ChangeShapes Go.WideShapes Go.ChangeAt Go.RowKit
set_option linter.unusedVariables false
theorem strip_take_last (l : List UInt8) (n : Nat) (c : UInt8) (hc : l[n]? = some c) : l.take (n + 1) = l.take n ++ [c] := by
  obtain ⟨h, e⟩ := List.getElem?_eq_some_iff.1 hc
  rw [List.take_succ_eq_append_getElem h, e]
set_option maxRecDepth 100000 in
set_option maxHeartbeats 1000000 in
theorem sd_any (ty b d nd : Nat) (p : Int) (hp : -5000 ≤ p ∧ p ≤ 5000) (hd : d < 10 ^ nd) (hd64 : d < 18446744073709551616) (hn : nd ≤ 20) (w : World) (hb : Blk w b ty (BL (List.replicate 32 0))) : Calls Tryz.prog 185 #[.slice (some ⟨b, 0, none⟩) 32 32, .int .u64 d, .int .i64 p, .int .i64 nd] w fun e w' => e = .returned (.tuple #[.int .i64 (nd + p), .int .i64 ((fm.stripZ (fm.digs nd d)).length : Nat)]) ∧ Blk w' b ty (BL (fm.digs nd d ++ List.replicate (32 - nd) 0)) ∧ w.grownBy w' (some b) := by
  have hf := fb_any ty b nd d (List.replicate 32 0) (by simp) (by omega) hd hd64 w hb
  rw [List.drop_replicate] at hf
  have hlen := fm.digs_len nd d
  generalize fm.digs nd d = G at *
  clear hb hd
  go_enter Tryz.func185, Tryz.ntmps185
  go_wp2_with fail
  refine hf.mono ?_
  rintro e w1 ⟨rfl, hk, hg⟩
  have HK := Lib.hid hk
  have HG := Lib.hid hg
  have HL := Lib.hid hlen
  clear hf hk hg hlen
  go_wp2_with fail
  go_loopw [3] (fun i wr => ∃ n : Nat, i = .int .i64 n ∧ n ≤ nd ∧ fm.stripZ (G.take n) = fm.stripZ G ∧ wr = w1) (fun i _ => (intOf i).toNat)
  case atStart => exact ⟨nd, rfl, Nat.le_refl _, by rw [List.take_of_length_le (by rw [HL.out]; exact Nat.le_refl _)], rfl⟩
  case round =>
    obtain ⟨n, rfl, hn2, hs, hwr⟩ := hrel
    subst hwr
    cases n with
    | zero =>
      have hz : Hid ((fm.stripZ G).length = 0) := Lib.hid (by rw [← hs]; rfl)
      clear hs
      go_wp2_with fail
      go_ret2
      exact ⟨by rw [hz.out]; rfl, HK.out, HG.out⟩
    | succ n =>
      obtain ⟨c, hc⟩ : ∃ c, G[n]? = some c := ⟨_, List.getElem?_eq_getElem (by rw [HL.out]; omega)⟩
      have ht := strip_take_last G n c hc
      have hcell : wr.cell? ⟨b, n, none⟩ = some (.int .u8 (c.toNat : Int)) := by
        rw [HK.out.cell n, BL_get, List.getElem?_append_left (by rw [HL.out]; omega), hc]
        rfl
      by_cases h48 : c = 48
      · have h2 : Hid (fm.stripZ (G.take n) = fm.stripZ G) := Lib.hid (by rw [← hs, ht, h48, fm.strip_snoc0])
        have hv : ((c.toNat : Int) == 48) = true := by rw [h48]; rfl
        generalize c.toNat = cn at *
        clear hs hc ht h48
        go_wp2_with fail
        exact ⟨⟨n, rfl, by omega, h2.out, by first | exact rfl | trivial⟩, by simp only [intOf]; omega⟩
      · have hlz : Hid ((fm.stripZ G).length = n + 1) := Lib.hid (by
          rw [← hs, ht, fm.strip_snoc _ _ h48, List.length_append, List.length_take, HL.out]
          simp
          omega)
        have hv : ((c.toNat : Int) == 48) = false := by
          rw [beq_eq_false_iff_ne]
          intro e
          exact h48 (UInt8.toNat.inj (by show c.toNat = 48; omega))
        generalize c.toNat = cn at *
        clear hs hc ht h48
        go_wp2_with fail
        go_ret2
        exact ⟨by rw [hlz.out]; rfl, HK.out, HG.out⟩
end Go.Proofs.YtldamieigigncaaGreatDoor.lx


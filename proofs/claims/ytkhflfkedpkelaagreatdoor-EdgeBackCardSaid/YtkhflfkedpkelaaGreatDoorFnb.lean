import Derived.Test.YtkhflfkedpkelaaGreatDoorFna
import Derived.Test.YtkhflfkedpkelaaGreatDoorLxi
namespace Go.Proofs.YtkhflfkedpkelaaGreatDoor.lx
open Go.ChangeShapes Go.WideShapes Go.ChangeAt Go.RowKit Go.Shelf
set_option linter.unusedVariables false
/-! the shortest digits -/
def TT (i : Nat) : Nat × Nat := Go.Pinned.pow10Rows.getD i (0, 0)
theorem tt_small : ∀ i : Nat, i < 696 → (decide ((TT i).1 < 18446744073709551616) && decide ((TT i).2 < 18446744073709551616)) = true := by decide +kernel
theorem tt_good : fm.Good TT := by
  have h : ∀ p : Nat, p < 24 → 7 ≤ p → (decide ((TT (p + 348)).2 = 0) && decide ((TT (p + 348)).1 < 18446744073709551616) && decide ((TT (p + 348)).1 * 2 ^ (fm.l2p p).toNat = 10 ^ p * 9223372036854775808)) = true := by decide +kernel
  intro p h7 h23
  have := h p (by omega) h7
  simp only [Bool.and_eq_true, decide_eq_true_eq] at this
  exact ⟨this.1.1, this.1.2, this.2⟩
/-- the tables that printing leans on -/
structure Ps (w : World) : Prop where
  h7 : ∀ i : Nat, i < 20 → w.cell? ⟨7, i, none⟩ = some (.int .u64 ((10 ^ i : Nat) : Int))
  h11 : ∀ i : Nat, i < 696 → w.cell? ⟨11, i * 2, none⟩ = some (.int .u64 ((TT i).1 : Nat)) ∧ w.cell? ⟨11, i * 2 + 1, none⟩ = some (.int .u64 ((TT i).2 : Nat))
theorem Ps.below {w w' : World} (h : Ps w) (hb : Below w.heap.size w w') : Ps w' :=
  ⟨fun i hi => (hb.cell (p := ⟨7, i, none⟩) (lt_size (h.h7 i hi))).trans (h.h7 i hi), fun i hi => ⟨(hb.cell (p := ⟨11, i * 2, none⟩) (lt_size (h.h11 i hi).1)).trans (h.h11 i hi).1, (hb.cell (p := ⟨11, i * 2 + 1, none⟩) (lt_size (h.h11 i hi).2)).trans (h.h11 i hi).2⟩⟩
theorem Ps.grown {w w' : World} {g : Nat} (h : Ps w) (hb : w.grownBy w' (some g)) (hg1 : g ≠ 7) (hg2 : g ≠ 11) : Ps w' :=
  ⟨fun i hi => hb.cell (h.h7 i hi) (fun e => hg1 (Option.some.inj e).symm), fun i hi => ⟨hb.cell (h.h11 i hi).1 (fun e => hg2 (Option.some.inj e).symm), hb.cell (h.h11 i hi).2 (fun e => hg2 (Option.some.inj e).symm)⟩⟩
theorem usc_lt (x hi lo s : Nat) (hx : x < 18446744073709551616) (hh : hi < 18446744073709551616) : fm.uscN x hi lo s < 18446744073709551616 := by
  have hP : x * hi < 18446744073709551616 * 18446744073709551616 := Nat.lt_of_le_of_lt (Nat.mul_le_mul_left x (Nat.le_of_lt hh)) (Nat.mul_lt_mul_of_pos_right hx (by decide))
  have hH : x * hi / 18446744073709551616 < 18446744073709551616 := Nat.div_lt_of_lt_mul hP
  have o1 : ∀ v : Nat, v < 18446744073709551616 → v ||| 1 < 18446744073709551616 := fun v hv => by rw [fm.or_one]; omega
  have hm : (x * hi / 18446744073709551616 + 18446744073709551616 - (if x * hi % 18446744073709551616 < x * lo / 18446744073709551616 then 1 else 0)) % 18446744073709551616 < 18446744073709551616 := Nat.mod_lt _ (by decide)
  unfold fm.uscN
  generalize (x * hi / 18446744073709551616 + 18446744073709551616 - (if x * hi % 18446744073709551616 < x * lo / 18446744073709551616 then 1 else 0)) % 18446744073709551616 = A at *
  generalize x * hi / 18446744073709551616 = H at *
  generalize (x * hi % 18446744073709551616 + 18446744073709551616 - x * lo / 18446744073709551616) % 18446744073709551616 = V at *
  have hA : A / 2 ^ s < 18446744073709551616 := Nat.lt_of_le_of_lt (Nat.div_le_self _ _) hm
  have hB : H / 2 ^ s < 18446744073709551616 := Nat.lt_of_le_of_lt (Nat.div_le_self _ _) hH
  by_cases h1 : H / 2 ^ s * 2 ^ s = H
  · rw [if_pos h1]
    by_cases h2 : 1 < V
    · rw [if_pos h2]; exact o1 _ hA
    · rw [if_neg h2, Nat.or_zero]; exact hA
  · rw [if_neg h1]; exact o1 _ hB
theorem nudge_up (u o : Nat) (w : World) : Calls Tryz.prog 93 #[.int .u64 u, .int .i64 (o : Nat)] w fun e w' => e = .returned (.int .u64 (((u + o) % 18446744073709551616 : Nat) : Int)) ∧ w = w' :=
  (nudge_any u (o : Int) w).mono (by rintro e w' ⟨rfl, rfl⟩; exact ⟨by rw [show ((u : Int) + (o : Int)) % 18446744073709551616 = (((u + o) % 18446744073709551616 : Nat) : Int) from by omega], rfl⟩)
theorem nudge_dn (u o : Nat) (hu : u < 18446744073709551616) (ho : o ≤ 1) (w : World) : Calls Tryz.prog 93 #[.int .u64 u, .int .i64 (-(o : Int))] w fun e w' => e = .returned (.int .u64 (((u + 18446744073709551616 - o) % 18446744073709551616 : Nat) : Int)) ∧ w = w' :=
  (nudge_any u (-(o : Int)) w).mono (by
    rintro e w' ⟨rfl, rfl⟩
    exact ⟨by rw [show ((u : Int) + -(o : Int)) % 18446744073709551616 = (((u + 18446744073709551616 - o) % 18446744073709551616 : Nat) : Int) from by omega], rfl⟩)
set_option maxRecDepth 100000 in
set_option maxHeartbeats 1000000 in
theorem prescale_any (i : Nat) (hi : i < 696) (e p lp : Int) (hp : p = (i : Int) - 348) (he : -5000 ≤ e ∧ e ≤ 5000) (hlp : -5000 ≤ lp ∧ lp ≤ 5000) (w : World) (b : Nat) (v0 v1 v2 : Value) (hv : Ps w) (hb : Blk w b 122 #[v0, v1, v2]) : Calls Tryz.prog 90 #[.pointer (some ⟨b, 0, none⟩), .int .i64 e, .int .i64 p, .int .i64 lp] w fun r w' => r = .returned (.tuple #[]) ∧ w' = ((w.setCell ⟨b, 0, none⟩ (.int .u64 ((TT i).1 : Nat))).setCell ⟨b, 1, none⟩ (.int .u64 ((TT i).2 : Nat))).setCell ⟨b, 2, none⟩ (.int .i64 (-(e + lp + 3))) := by
  obtain ⟨t1, t2⟩ := hv.h11 i hi
  have hpi : (p - -348 : Int) = (i : Int) := by omega
  generalize (TT i).1 = A at *
  generalize (TT i).2 = B at *
  have f0 := hb.frozen 0
  have f1 := hb.frozen 1
  have f2 := hb.frozen 2
  have z0 := hb.cell 0
  have z1 := hb.cell 1
  have z2 := hb.cell 2
  simp only [List.getElem?_toArray, List.getElem?_cons_zero, List.getElem?_cons_succ] at z0 z1 z2
  have hw : IntKind.i64.wrap (-(e + lp + 3)) = -(e + lp + 3) := wrap_i64 _ (by omega) (by omega)
  clear hv hb
  go_enter Tryz.func90, Tryz.ntmps90
  go_wp2_with fail
  go_end0
  exact ⟨rfl, rfl⟩
end Go.Proofs.YtkhflfkedpkelaaGreatDoor.lx

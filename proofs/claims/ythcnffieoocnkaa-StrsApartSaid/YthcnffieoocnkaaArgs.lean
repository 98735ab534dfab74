import Derived.Test.YthcnffieoocnkaaFew
namespace Go.Proofs.Ythcnffieoocnkaa.st
open Go.ChangeShapes Go.WideShapes Go.ChangeAt Go.RowKit Go.Maps Go.WideMaps Go.WideElems
set_option linter.unusedVariables false
/-! from what is read to rows -/
theorem own : ownKnob Try.prog.godebug = none := by kernel_rfl
theorem laidOut : laidOutB Try.prog = true := by kernel_rfl
theorem cInt : Try.prog.cellsOf 3 = 1 := by kernel_rfl
theorem cInts : Try.prog.cellsOf 22 = 1 := by kernel_rfl
theorem blk_lt {w : World} {a : Addr} {v : Value} (h : w.cell? a = some v) : a.block < w.heap.size := by
  rcases Nat.lt_or_ge a.block w.heap.size with hlt | hge
  · exact hlt
  · rw [World.cell?] at h
    simp [Array.getElem?_eq_none hge] at h
theorem blk_lt_add {w : World} {a : Addr} {j : Nat} {v : Value} (h : w.cell? (a.add j) = some v) : a.block < w.heap.size := by
  have := blk_lt h
  rwa [add_block] at this
theorem in64_wf {n : Int} (h : (Lit.int .i64 n).wf = true) : In64 n := by
  simp [Lit.wf, IntKind.min, IntKind.max, IntKind.signed, IntKind.bits] at h
  constructor <;> omega
theorem row_of {H : Type} {enc : TypeId × Value → H} {W : World} {a0 : Option Addr} {len cap fuel : Nat} {d : DataW H} {p : List MemPlace} (hf : DataW.trod enc Try.prog W 0 (fun _ => true) true fuel 22 (Value.slice a0 len cap).cells.toList = some (d, p)) : ∃ x : List Int, x.length = len ∧ RowAt W (.slice a0 len cap) x := by
  rcases open_ints Try.underlying22 Try.underlying3 cInt hf with ⟨hcs, hx⟩ | ⟨a, len', cap', zs, hcs, _, hl, hm, hz, hx, hcell, hwz⟩
  · simp [Value.cells] at hcs
    obtain ⟨rfl, rfl, rfl⟩ := hcs
    exact ⟨[], rfl, none, 0, rfl, Nat.le_refl _, Nat.zero_le _, fun _ => rfl, by simp, fun i hi => absurd hi (Nat.not_lt_zero _)⟩
  · simp [Value.cells] at hcs
    obtain ⟨rfl, rfl, rfl⟩ := hcs
    simp only [if_true] at hz
    have hL : (zs.take len).length = len := by simp; omega
    refine ⟨zs.take len, hL, some a, cap, by rw [hL], by omega, hm, fun h => (by cases h), fun n hn => in64_wf (hwz n (List.mem_of_mem_take hn)), fun i hi => ⟨a, rfl, blk_lt_add (hcell i (by omega)), ?_⟩⟩
    rw [hcell i (by omega)]
    simp [List.getD, List.getElem?_eq_getElem (show i < zs.length by omega), show i < len from by omega]
theorem rows_of {H : Type} {enc : TypeId × Value → H} {W : World} {a0 : Option Addr} {len cap fuel : Nat} {d : DataW H} {p : List MemPlace} (hf : DataW.trod enc Try.prog W 0 (fun _ => true) true fuel 29 (Value.slice a0 len cap).cells.toList = some (d, p)) : ∃ X : List (List Int), X.length = len ∧ RowsAt W (.slice a0 len cap) X := by
  rcases Deep.open_int_rows Try.underlying29 Try.underlying22 Try.underlying3 cInts cInt hf with ⟨hcs, hx⟩ | ⟨a, len', cap', A, L, C, Z, hcs, _, hl, hm, hx, hcell⟩
  · simp [Value.cells] at hcs
    obtain ⟨rfl, rfl, rfl⟩ := hcs
    exact ⟨[], rfl, none, 0, rfl, Nat.zero_le _, fun i hi => absurd hi (Nat.not_lt_zero _)⟩
  · simp [Value.cells] at hcs
    obtain ⟨rfl, rfl, rfl⟩ := hcs
    refine ⟨(List.range len).map fun r => (Z r).take (L r), by simp, some a, cap, by simp, by simp; omega, fun i hi => ?_⟩
    have hi2 : i < len := by simpa using hi
    obtain ⟨h1, h2, h3, h4, h5, h6, h7⟩ := hcell i (by omega)
    have e : ((List.range len).map fun r => (Z r).take (L r)).getD i [] = (Z i).take (L i) := by
      simp [List.getD, hi2]
    rw [e]
    have hL : ((Z i).take (L i)).length = L i := by simp; omega
    refine ⟨a, _, rfl, blk_lt_add h1, h1, A i, C i, by rw [hL], by omega, h3, h6, fun n hn => in64_wf (h5 n (List.mem_of_mem_take hn)), fun j hj => ?_⟩
    have hj2 : j < L i := by omega
    cases hA : A i with
    | none => have := h6 hA; omega
    | some a' =>
      obtain ⟨_, hc⟩ := h7 a' hA
      refine ⟨a', rfl, blk_lt_add (hc j (by omega)), ?_⟩
      rw [hc j (by omega)]
      simp [List.getD, List.getElem?_eq_getElem (show j < (Z i).length by omega), hj2]
end Go.Proofs.Ythcnffieoocnkaa.st

import Derived.Test.YtomikgkoegkofaaGreatDoorDvt
import Derived.Deep.Slices
import Derived.Deep.Fields
import Derived.ChangeSame
import Derived.Lib.SmallJoins
import Derived.SliceStrings
namespace Go.Proofs.YtomikgkoegkofaaGreatDoor.dv
open Go.ChangeShapes Go.WideShapes Go.ChangeAt Go.RowKit Go.Maps Go.WideMaps Go.WideElems Go.Deep Go.Joins
set_option linter.unusedVariables false
set_option linter.unusedSimpArgs false
/-! from what is read to rows and grammars -/
theorem own : ownKnob Tryz.prog.godebug = none := by kernel_rfl
theorem laidOut : laidOutB Tryz.prog = true := by kernel_rfl
theorem cInt : Tryz.prog.cellsOf 3 = 1 := by kernel_rfl
theorem cRule : Tryz.prog.cellsOf 44 = 3 := by kernel_rfl
theorem blk_lt {w : World} {a : Addr} {v : Value} (h : w.cell? a = some v) : a.block < w.heap.size := by
  rcases Nat.lt_or_ge a.block w.heap.size with hlt | hge
  · exact hlt
  · rw [World.cell?] at h
    simp [Array.getElem?_eq_none hge] at h
theorem blk_lt_add {w : World} {a : Addr} {j : Nat} {v : Value} (h : w.cell? (a.add j) = some v) : a.block < w.heap.size := by
  have := blk_lt h
  rwa [add_block] at this
theorem in64_wf {n : Int} (h : (Lit.int .i64 n).wf = true) : In64 n := by
  simp [Lit.wf, IntKind.min, IntKind.max, IntKind.signed, IntKind.bits] at h
  constructor <;> omega
section
variable {H : Type} {enc : TypeId × Value → H} {W : World}
theorem row_of {a0 : Option Addr} {len cap fuel : Nat} {x : DataW H × List MemPlace} (hf : DataW.trod enc Tryz.prog W 0 (fun _ => true) true fuel 28 [Value.slice a0 len cap] = some x) : ∃ l : List Int, l.length = len ∧ RowAt W (.slice a0 len cap) l := by
  obtain ⟨d, p⟩ := x
  rcases open_ints Tryz.underlying28 Tryz.underlying3 cInt hf with ⟨hcs, hx⟩ | ⟨a, len', cap', zs, hcs, _, hl, hm, hz, hx, hcell, hwz⟩
  · simp at hcs
    obtain ⟨rfl, rfl, rfl⟩ := hcs
    exact ⟨[], rfl, none, 0, rfl, Nat.le_refl _, Nat.zero_le _, fun _ => rfl, by simp, fun i hi => absurd hi (Nat.not_lt_zero _)⟩
  · simp at hcs
    obtain ⟨rfl, rfl, rfl⟩ := hcs
    simp only [if_true] at hz
    have hL : (zs.take len).length = len := by simp; omega
    refine ⟨zs.take len, hL, some a, cap, by rw [hL], by omega, hm, fun h => (by cases h), fun n hn => in64_wf (hwz n (List.mem_of_mem_take hn)), fun i hi => ⟨a, rfl, blk_lt_add (hcell i (by omega)), ?_⟩⟩
    rw [hcell i (by omega)]
    simp [List.getD, List.getElem?_eq_getElem (show i < zs.length by omega), show i < len from by omega]
theorem slice_of {t e : TypeId} {fuel : Nat} {v : Value} {x : DataW H × List MemPlace} (ht : Tryz.prog.underlying t = some (.slice e)) (hf : DataW.trod enc Tryz.prog W 0 (fun _ => true) true fuel t [v] = some x) : ∃ a len cap, v = .slice a len cap ∧ len ≤ cap ∧ cap ≤ maxLen ∧ (a = none → cap = 0) := by
  rcases open_slice ht hf with ⟨hcs, _⟩ | ⟨a, len, cap, m, n, D, Pl, hcs, _, hl, hm, _⟩
  · simp at hcs
    exact ⟨none, 0, 0, hcs, Nat.le_refl _, Nat.zero_le _, fun _ => rfl⟩
  · simp at hcs
    exact ⟨some a, len, cap, hcs, hl, hm, fun h => (by cases h)⟩
theorem trod_fl {P : Program} {t : TypeId} {k : FloatKind} {fuel : Nat} {cs : List Value} {x : DataW H × List MemPlace} {base : Nat} {spare : Nat → Bool} {held : Bool} (ht : P.underlying t = some (.float k)) (h : DataW.trod enc P W base spare held fuel t cs = some x) : ∃ b, cs = [.float k b] ∧ (Lit.float k b).wf = true := by
  cases fuel with
  | zero => simp [DataW.trod] at h
  | succ n =>
    unfold DataW.trod at h
    rw [ht] at h
    split at h <;> simp_all
theorem float_of {fuel : Nat} {cs : List Value} {x : DataW H × List MemPlace} (hf : DataW.trod enc Tryz.prog W 0 (fun _ => true) true fuel 42 cs = some x) : ∃ b, cs = [.float .f64 b] ∧ b < 18446744073709551616 := by
  obtain ⟨b, rfl, hw⟩ := trod_fl Tryz.underlying42 hf
  refine ⟨b, rfl, ?_⟩
  have e : (2 : Nat) ^ FloatKind.f64.format.width = 18446744073709551616 := by decide
  simp [Lit.wf] at hw
  rw [← e]; exact hw
set_option maxRecDepth 100000 in
theorem rule_of {fuel : Nat} {a : Addr} {i : Nat} {cs' : List Value} {x : DataW H × List MemPlace} (hc : W.cells? 0 (a.add (i * 3)) 3 = some cs') (hf : DataW.trod enc Tryz.prog W 0 (fun _ => true) true fuel 44 cs' = some x) : ∃ r : Rl, RlAt W.heap.size W a i r ∧ r.wt < 18446744073709551616 ∧ a.block < W.heap.size := by
  obtain ⟨ys, n, _, hx, hlen, hyl, hfl⟩ := DataW.trod_struct Tryz.underlying44 hf
  rw [cRule] at hlen
  obtain ⟨_, hcl, hat⟩ := World.cells?_some hc
  obtain ⟨c0, c1, c2, rfl⟩ : ∃ c0 c1 c2, cs' = [c0, c1, c2] := by
    match cs', hlen with
    | [c0, c1, c2], _ => exact ⟨c0, c1, c2, rfl⟩
  obtain ⟨y0, y1, y2, rfl⟩ : ∃ y0 y1 y2, ys = [y0, y1, y2] := by
    have hyl' : ys.length = 3 := hyl
    clear hyl hfl hx
    match ys, hyl' with
    | [y0, y1, y2], _ => exact ⟨y0, y1, y2, rfl⟩
  have cInts : Tryz.prog.cellsOf 28 = 1 := by kernel_rfl
  have cF : Tryz.prog.cellsOf 42 = 1 := by kernel_rfl
  have h0 : DataW.trod enc Tryz.prog W 0 (fun _ => true) true n 3 (List.take (Tryz.prog.cellsOf 3) [c0, c1, c2]) = some y0 := hfl 0 _ rfl
  have h1 : DataW.trod enc Tryz.prog W 0 (fun _ => true) true n 28 (List.take (Tryz.prog.cellsOf 28) [c1, c2]) = some y1 := hfl 1 _ rfl
  have h2 : DataW.trod enc Tryz.prog W 0 (fun _ => true) true n 42 (List.take (Tryz.prog.cellsOf 42) [c2]) = some y2 := hfl 2 _ rfl
  rw [cInt] at h0
  rw [cInts] at h1
  rw [cF] at h2
  replace h0 : DataW.trod enc Tryz.prog W 0 (fun _ => true) true n 3 [c0] = some y0 := h0
  replace h1 : DataW.trod enc Tryz.prog W 0 (fun _ => true) true n 28 [c1] = some y1 := h1
  replace h2 : DataW.trod enc Tryz.prog W 0 (fun _ => true) true n 42 [c2] = some y2 := h2
  clear hfl
  obtain ⟨l, e0, _, hl⟩ := DataW.trod_int Tryz.underlying3 h0
  obtain ⟨ao, len, cap, e1, _⟩ := slice_of Tryz.underlying28 h1
  subst e1
  obtain ⟨xs, hxl, ao', cap', e, g1, g2, g3, g4, g5⟩ := row_of h1
  obtain ⟨b, e2, hb⟩ := float_of h2
  simp at e0 e2
  subst e0
  subst e2
  cases e
  have k0 := hat 0 (by omega)
  have k1 := hat 1 (by omega)
  have k2 := hat 2 (by omega)
  rw [Addr.add_add] at k0 k1 k2
  exact ⟨⟨l, xs, b⟩, ⟨ao, cap, k0, k1, k2, g1, g2, g3, fun j hj => by
    obtain ⟨a', ea, hab, hca⟩ := g5 j hj
    exact ⟨a', ea, hab, hca⟩, g4, in64_wf hl⟩, hb, blk_lt_add k0⟩
theorem rules_of {a0 : Option Addr} {len cap fuel : Nat} {x : DataW H × List MemPlace} (hf : DataW.trod enc Tryz.prog W 0 (fun _ => true) true fuel 23 [Value.slice a0 len cap] = some x) : ∃ R : List Rl, R.length = len ∧ RulesAt W.heap.size W (.slice a0 len cap) R ∧ Wf R := by
  rcases open_slice Tryz.underlying23 hf with ⟨hcs, _⟩ | ⟨a, len', cap', m, n, D, Pl, hcs, _, hl, hm, hmm, _, hi⟩
  · simp at hcs
    obtain ⟨rfl, rfl, rfl⟩ := hcs
    exact ⟨[], rfl, ⟨none, 0, rfl, Nat.zero_le _, fun k r hk => by simp at hk⟩, fun r hr => by cases hr⟩
  · simp at hcs
    obtain ⟨rfl, rfl, rfl⟩ := hcs
    simp only [if_true] at hmm
    subst hmm
    have hex : ∀ i, ∃ r : Rl, i < len → RlAt W.heap.size W a i r ∧ r.wt < 18446744073709551616 ∧ a.block < W.heap.size := fun i => by
      by_cases h : i < len
      · obtain ⟨cs', hc, ht⟩ := hi i (by omega)
        rw [cRule] at hc
        obtain ⟨r, hr⟩ := rule_of hc ht
        exact ⟨r, fun _ => hr⟩
      · exact ⟨⟨0, [], 0⟩, fun h' => absurd h' h⟩
    refine ⟨(List.range len).map fun i => (hex i).choose, by simp, ⟨some a, m, by simp, by simp; omega, fun k r hk => ?_⟩, fun r hr => ?_⟩
    · have hkl : k < len := by have := (List.getElem?_eq_some_iff.1 hk).1; simpa using this
      have e : (hex k).choose = r := by simpa [hkl] using hk
      have := (hex k).choose_spec hkl
      rw [e] at this
      exact ⟨a, rfl, this.2.2, this.1⟩
    · obtain ⟨i, hil, rfl⟩ := List.mem_map.1 hr
      exact ((hex i).choose_spec (by simpa using hil)).2.1
theorem strs_of {a0 : Option Addr} {len cap fuel : Nat} {x : DataW H × List MemPlace} (hf : DataW.trod enc Tryz.prog W 0 (fun _ => true) true fuel 22 [Value.slice a0 len cap] = some x) : StrsAt W.heap.size W a0 len ∧ len ≤ maxLen := by
  have cStr : Tryz.prog.cellsOf 9 = 1 := by kernel_rfl
  rcases open_slice Tryz.underlying22 hf with ⟨hcs, _⟩ | ⟨a, len', cap', m, n, D, Pl, hcs, _, hl, hm, hmm, _, hi⟩
  · simp at hcs
    obtain ⟨rfl, rfl, rfl⟩ := hcs
    exact ⟨fun i hi => absurd hi (Nat.not_lt_zero _), Nat.zero_le _⟩
  · simp at hcs
    obtain ⟨rfl, rfl, rfl⟩ := hcs
    simp only [if_true] at hmm
    subst hmm
    refine ⟨fun i hil => ?_, by omega⟩
    obtain ⟨cs', hc, ht⟩ := hi i (by omega)
    rw [cStr, Nat.mul_one] at hc
    obtain ⟨s, rfl, _, hs⟩ := DataW.trod_string Tryz.underlying9 ht
    obtain ⟨_, hcl, hat⟩ := World.cells?_some hc
    have k0 := hat 0 (by omega)
    rw [Addr.add_add, Nat.add_zero] at k0
    exact ⟨a, s, rfl, blk_lt_add k0, k0, hs⟩
end
end Go.Proofs.YtomikgkoegkofaaGreatDoor.dv

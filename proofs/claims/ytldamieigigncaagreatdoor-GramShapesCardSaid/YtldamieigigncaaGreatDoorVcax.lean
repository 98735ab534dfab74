import Derived.Test.YtldamieigigncaaGreatDoorVcap
import Derived.Test.YtldamieigigncaaGreatDoorVcae
import Derived.Test.YtldamieigigncaaGreatDoorVcar
namespace Go.Proofs.YtldamieigigncaaGreatDoor.lx
open Go.ChangeShapes Go.WideShapes Go.ChangeAt Go.RowKit
set_option linter.unusedVariables false
set_option linter.unusedSimpArgs false
theorem ListOf.cut {α : Type} {c : Nat} {E : Elem α} {w : World} {A : Nat → Prop} {ao : Option Addr} {cap : Nat} {xs : List α} (h : ListOf c E w A (.slice ao xs.length cap) xs) (k : Nat) (hk : k ≤ xs.length) : ListOf c E w A (.slice ao k cap) (xs.take k) := by
  obtain ⟨hl, ao', cap', e, h⟩ := h
  injection e with e1 e2 e3
  subst e1 e3
  refine ⟨by rw [List.length_take]; omega, ao, cap, by rw [List.length_take, Nat.min_eq_left hk], fun h0 => ?_⟩
  rw [List.length_take] at h0
  obtain ⟨g, e2, hg, hA, hc⟩ := h (by omega)
  refine ⟨g, e2, hg, hA, fun j x hj => hc j x ?_⟩
  rw [List.getElem?_take] at hj
  split at hj
  · exact hj
  · cases hj
def TellB (P : Prop) (e : Ending) : Prop := ∃ b : Bool, e = .returned (.bool b) ∧ (b = true ↔ P)
theorem TellB.yes {P : Prop} (h : P) : TellB P (.returned (.bool true)) := ⟨true, rfl, ⟨fun _ => h, fun _ => rfl⟩⟩
theorem TellB.no {P : Prop} (h : ¬ P) : TellB P (.returned (.bool false)) := ⟨false, rfl, ⟨fun h => (by cases h), fun k => absurd k h⟩⟩
def VarsOk (l : List (List UInt8)) : Prop := ∀ (k : Nat) (x : List UInt8), l[k]? = some x → isNameB x = true ∧ x ∉ l.take k
def TermsOk (l : List (List UInt8)) : Prop := ∀ (k : Nat) (x : List UInt8), l[k]? = some x → isQuoteB x = true ∧ ∀ (j : Nat) (y : List UInt8), k = j + 1 → l[j]? = some y → y < x
set_option maxRecDepth 100000 in
set_option maxHeartbeats 2000000 in
theorem rightVars_any (w : World) (A : Nat → Prop) (ao : Option Addr) (cap : Nat) (l : List (List UInt8)) (h : StrsAt w A (.slice ao l.length cap) l) (hc : l.length ≤ cap) (hx : ∀ x ∈ l, x.length ≤ maxLen) : Calls Tryz.prog 45 #[.slice ao l.length cap] w fun e w' => TellB (VarsOk l) e ∧ w = w' := by
  have hl := h.1
  unfold maxLen at hl
  have H := Lib.hid h
  have HX := Lib.hid hx
  generalize hn : l.length = n at *
  have HN := Lib.hid hn
  clear h hx hn
  go_enter Tryz.func45, Tryz.ntmps45
  go_wp2_with fail
  go_loopw [7] (fun i wr => ∃ k : Nat, i = .int .i64 k ∧ k ≤ n ∧ w = wr ∧ ∀ (j : Nat) (y : List UInt8), j < k → l[j]? = some y → isNameB y = true ∧ y ∉ l.take j) (fun i _ => n - (intOf i).toNat)
  case atStart => exact ⟨0, rfl, Nat.zero_le _, rfl, fun j y h => by omega⟩
  case round =>
    obtain ⟨k, rfl, hk, rfl, hno⟩ := hrel
    have HNO := Lib.hid hno
    clear hno
    by_cases hlt : k < n
    · obtain ⟨y, hy⟩ : ∃ y, l[k]? = some y := ⟨_, List.getElem?_eq_getElem (by rw [HN.out]; exact hlt)⟩
      obtain ⟨g, cap', e, hg, hcl⟩ := StrsAt.cell H.out hy
      rw [HN.out] at e
      cases e
      have HY := Lib.hid hy
      have hnm := isname_any (S y) (show y.length ≤ maxLen from HX.out y (List.mem_of_getElem? hy)) w
      have e1 : (S y).data.toList = y := rfl
      rw [e1] at hnm
      have hct := contains_any w A (.slice (some ⟨g, 0, none⟩) k cap) (l.take k) y (ListOf.cut (by rw [HN.out]; exact H.out) k (by rw [HN.out]; exact hk))
      have hkc : k ≤ cap := by omega
      clear hy e1
      cases hq : isNameB y with
      | false =>
        rw [hq] at hnm
        have HQ := Lib.hid hq
        clear hq hct
        go_wp2_with fail
        refine hnm.mono ?_
        rintro e w1 ⟨rfl, rfl⟩
        clear hnm
        go_wp2_with fail
        go_ret
        exact ⟨TellB.no (fun hh => by have := (hh k y HY.out).1; rw [HQ.out] at this; cases this), rfl⟩
      | true =>
        rw [hq] at hnm
        have HQ := Lib.hid hq
        clear hq
        by_cases hm : y ∈ l.take k
        · rw [decide_eq_true hm] at hct
          have HM := Lib.hid hm
          clear hm
          go_wp2_with fail
          refine hnm.mono ?_
          rintro e w1 ⟨rfl, rfl⟩
          clear hnm
          go_wp2_with fail
          refine hct.mono ?_
          rintro e w1 ⟨rfl, rfl⟩
          clear hct
          go_wp2_with fail
          go_ret
          exact ⟨TellB.no (fun hh => (hh k y HY.out).2 HM.out), rfl⟩
        · rw [decide_eq_false hm] at hct
          have HM := Lib.hid hm
          clear hm
          go_wp2_with fail
          refine hnm.mono ?_
          rintro e w1 ⟨rfl, rfl⟩
          clear hnm
          go_wp2_with fail
          refine hct.mono ?_
          rintro e w1 ⟨rfl, rfl⟩
          clear hct
          go_wp2_with fail
          refine ⟨⟨k + 1, by go_num, hlt, by first | exact rfl | trivial, fun j z hj hz => ?_⟩, by simp only [intOf]; omega⟩
          by_cases hjk : j < k
          · exact HNO.out j z hjk hz
          · obtain rfl : j = k := by omega
            have : z = y := Option.some.inj (hz.symm.trans HY.out)
            rw [this]
            exact ⟨HQ.out, HM.out⟩
    · obtain rfl : k = n := by omega
      go_wp2_with fail
      go_ret
      exact ⟨TellB.yes (fun j y hj => HNO.out j y (by have := (List.getElem?_eq_some_iff.1 hj).1; have := HN.out; omega) hj), rfl⟩
theorem bytesLess_lt : ∀ (x y : List UInt8), Go.Op.bytesLess x y = decide (x < y)
  | _, [] => by simp [Go.Op.bytesLess]
  | [], _ :: _ => by simp [Go.Op.bytesLess]
  | a :: x, b :: y => by
    unfold Go.Op.bytesLess
    rw [bytesLess_lt x y]
    by_cases h1 : a < b
    · rw [decide_eq_true h1, Bool.true_or, decide_eq_true (List.cons_lt_cons_iff.2 (.inl h1))]
    · rw [decide_eq_false h1, Bool.false_or]
      by_cases h2 : a = b
      · subst h2
        by_cases h3 : x < y
        · rw [decide_eq_true h3, decide_eq_true (List.cons_lt_cons_iff.2 (.inr ⟨rfl, h3⟩))]
          simp
        · rw [decide_eq_false h3, decide_eq_false (fun h => (List.cons_lt_cons_iff.1 h).elim h1 (fun h => h3 h.2))]
          simp
      · rw [decide_eq_false (fun h => (List.cons_lt_cons_iff.1 h).elim h1 (fun h => h2 h.1))]
        simp [h2]
theorem S_leq (x y : List UInt8) : (Go.Op.bytesLess (S x).toList (S y).toList || (S x).toList == (S y).toList) = decide (x ≤ y) := by
  rw [S_eq, ← list_data, ← list_data]
  show (Go.Op.bytesLess x y || decide (x = y)) = _
  rw [bytesLess_lt]
  by_cases h1 : x < y
  · rw [decide_eq_true h1, decide_eq_true (List.le_of_lt h1)]; rfl
  · by_cases h2 : x = y
    · subst h2; simp
    · rw [decide_eq_false h1, decide_eq_false h2, decide_eq_false (fun h => by
        rcases List.le_iff_lt_or_eq.1 h with h | h
        · exact h1 h
        · exact h2 h)]
      rfl
set_option maxRecDepth 100000 in
set_option maxHeartbeats 2000000 in
theorem rightTerms_any (w : World) (A : Nat → Prop) (ao : Option Addr) (cap : Nat) (l : List (List UInt8)) (h : StrsAt w A (.slice ao l.length cap) l) (hx : ∀ x ∈ l, x.length ≤ maxLen) : Calls Tryz.prog 46 #[.slice ao l.length cap] w fun e w' => TellB (TermsOk l) e ∧ w = w' := by
  have hl := h.1
  unfold maxLen at hl
  have H := Lib.hid h
  have HX := Lib.hid hx
  generalize hn : l.length = n at *
  have HN := Lib.hid hn
  clear h hx hn
  go_enter Tryz.func46, Tryz.ntmps46
  go_wp2_with fail
  go_loopw [7] (fun i wr => ∃ k : Nat, i = .int .i64 k ∧ k ≤ n ∧ w = wr ∧ ∀ (j : Nat) (y : List UInt8), j < k → l[j]? = some y → isQuoteB y = true ∧ ∀ (i : Nat) (z : List UInt8), j = i + 1 → l[i]? = some z → z < y) (fun i _ => n - (intOf i).toNat)
  case atStart => exact ⟨0, rfl, Nat.zero_le _, rfl, fun j y h => by omega⟩
  case round =>
    obtain ⟨k, rfl, hk, rfl, hno⟩ := hrel
    have HNO := Lib.hid hno
    clear hno
    by_cases hlt : k < n
    · obtain ⟨y, hy⟩ : ∃ y, l[k]? = some y := ⟨_, List.getElem?_eq_getElem (by rw [HN.out]; exact hlt)⟩
      obtain ⟨g, cap', e, hg, hcl⟩ := StrsAt.cell H.out hy
      rw [HN.out] at e
      cases e
      have HY := Lib.hid hy
      have hnm := isquote_any (S y) (show y.length ≤ maxLen from HX.out y (List.mem_of_getElem? hy)) w
      have e1 : (S y).data.toList = y := rfl
      rw [e1] at hnm
      clear hy e1
      cases hq : isQuoteB y with
      | false =>
        rw [hq] at hnm
        have HQ := Lib.hid hq
        clear hq
        go_wp2_with fail
        refine hnm.mono ?_
        rintro e w1 ⟨rfl, rfl⟩
        clear hnm
        go_wp2_with fail
        go_ret
        exact ⟨TellB.no (fun hh => by have := (hh k y HY.out).1; rw [HQ.out] at this; cases this), rfl⟩
      | true =>
        rw [hq] at hnm
        have HQ := Lib.hid hq
        clear hq
        by_cases h0 : k = 0
        · subst h0
          go_wp2_with fail
          refine hnm.mono ?_
          rintro e w1 ⟨rfl, rfl⟩
          clear hnm
          go_wp2_with fail
          refine ⟨⟨1, rfl, hlt, by first | exact rfl | trivial, fun j z hj hz => ?_⟩, by simp only [intOf]; omega⟩
          obtain rfl : j = 0 := by omega
          have : z = y := Option.some.inj (hz.symm.trans HY.out)
          rw [this]
          exact ⟨HQ.out, fun i z h => by omega⟩
        · obtain ⟨p, rfl⟩ : ∃ p, k = p + 1 := ⟨k - 1, by omega⟩
          have hgt : decide ((0 : Int) < ((p + 1 : Nat) : Int)) = true := decide_eq_true (by omega)
          obtain ⟨x, hxp⟩ : ∃ x, l[p]? = some x := ⟨_, List.getElem?_eq_getElem (by rw [HN.out]; omega)⟩
          obtain ⟨g', cap', e, _, hcp⟩ := StrsAt.cell H.out hxp
          rw [HN.out] at e
          cases e
          have HXP := Lib.hid hxp
          have hle := S_leq y x
          clear hxp
          by_cases hyx : y ≤ x
          · rw [decide_eq_true hyx] at hle
            have HYX := Lib.hid hyx
            clear hyx
            go_wp2_with fail
            refine hnm.mono ?_
            rintro e w1 ⟨rfl, rfl⟩
            clear hnm
            go_wp2_with fail
            go_ret
            exact ⟨TellB.no (fun hh => by
              have := (hh (p + 1) y HY.out).2 p x rfl HXP.out
              exact absurd this (List.not_lt.2 HYX.out)), rfl⟩
          · rw [decide_eq_false hyx] at hle
            have HYX := Lib.hid hyx
            clear hyx
            go_wp2_with fail
            refine hnm.mono ?_
            rintro e w1 ⟨rfl, rfl⟩
            clear hnm
            go_wp2_with fail
            refine ⟨⟨p + 1 + 1, by go_num, hlt, by first | exact rfl | trivial, fun j z hj hz => ?_⟩, by simp only [intOf]; omega⟩
            by_cases hjk : j < p + 1
            · exact HNO.out j z hjk hz
            · obtain rfl : j = p + 1 := by omega
              have : z = y := Option.some.inj (hz.symm.trans HY.out)
              rw [this]
              refine ⟨HQ.out, fun i u hi hu => ?_⟩
              obtain rfl : i = p := by omega
              have : u = x := Option.some.inj (hu.symm.trans HXP.out)
              rw [this]
              exact List.not_le.1 HYX.out
    · obtain rfl : k = n := by omega
      go_wp2_with fail
      go_ret
      exact ⟨TellB.yes (fun j y hj => HNO.out j y (by have := (List.getElem?_eq_some_iff.1 hj).1; have := HN.out; omega) hj), rfl⟩
end Go.Proofs.YtldamieigigncaaGreatDoor.lx

namespace Go.Proofs.YtldamieigigncaaGreatDoor.lx
open Go.ChangeShapes Go.WideShapes Go.ChangeAt Go.RowKit
set_option linter.unusedVariables false
set_option linter.unusedSimpArgs false
attribute [local go_sem] run_store_float
def In64x (n : Int) : Prop := -9223372036854775808 ≤ n ∧ n < 9223372036854775808
theorem cmx_any (x : Int) (h : In64x x) : bits .xor .i64 (-1) x = -1 - x := by
  show IntKind.i64.wrap ((BitVec.ofInt 64 (-1) ^^^ BitVec.ofInt 64 x).toNat : Int) = _
  have e : BitVec.ofInt 64 (-1) = BitVec.allOnes 64 := by decide
  obtain ⟨h1, h2⟩ := h
  rw [e, BitVec.allOnes_xor, BitVec.toNat_not, BitVec.toNat_ofInt]
  rw [IntKind.wrap_i64]
  have hp : ((2 ^ 64 : Nat) : Int) = 18446744073709551616 := by decide
  have hq : (2 ^ 64 : Nat) = 18446744073709551616 := by decide
  rw [hq]
  have h3 := Int.emod_nonneg x (show (18446744073709551616 : Int) ≠ 0 by decide)
  have h4 := Int.emod_lt_of_pos x (show (0 : Int) < 18446744073709551616 by decide)
  omega
theorem cmx_if (x : Int) (h : In64x x) : bits .xor .i64 (if IntKind.i64.signed = true then -1 else 9223372036854775807) x = -1 - x := cmx_any x h
structure GrAt (w : World) (A : Nat → Prop) (tv vv rv : Value) (g : Gra) : Prop where
  ts : StrsAt w A tv g.terms
  vs : StrsAt w A vv g.vars
  rs : ListOf 3 ERul w A rv g.rules
theorem GrAt.keep {w w' : World} {A A' : Nat → Prop} {tv vv rv : Value} {g : Gra} (h : GrAt w A tv vv rv g) (hk : ∀ b, b < w.heap.size → A b → A' b ∧ w'.heap[b]? = w.heap[b]?) (hs : w.heap.size ≤ w'.heap.size) : GrAt w' A' tv vv rv g :=
  ⟨h.ts.keep keepsStr hk hs, h.vs.keep keepsStr hk hs, h.rs.keep keepsRul hk hs⟩
theorem GrAt.below {w w' : World} {A : Nat → Prop} {tv vv rv : Value} {g : Gra} (h : GrAt w A tv vv rv g) (hb : Below w.heap.size w w') : GrAt w' A tv vv rv g :=
  h.keep (fun b hb2 hA => ⟨hA, hb.block b hb2⟩) hb.size
def symOk (vn tn : Nat) (s : Int) : Bool := if 0 ≤ s then decide (s < (vn : Int)) else decide (-1 - s < (tn : Int))
set_option maxRecDepth 100000 in
set_option maxHeartbeats 1000000 in
theorem isSymbol_any (w : World) (tbo vo ro : Option Addr) (tn tc vn vc rn rc : Nat) (s : Int) (hs : In64x s) : Calls Tryz.prog 44 #[.agg #[.slice tbo tn tc, .slice vo vn vc, .slice ro rn rc], .int .i64 s] w fun e w' => e = .returned (.bool (symOk vn tn s)) ∧ Below w.heap.size w w' := by
  have hbl : Below w.heap.size w (w.alloc (.cells #[.slice tbo tn tc, .slice vo vn vc, .slice ro rn rc] 26)) := (Below.refl _ w).alloc (Nat.le_refl _) _
  have b1 := Blk.new w 26 #[.slice tbo tn tc, .slice vo vn vc, .slice ro rn rc]
  have hx := cmx_if s hs
  have HBL := Lib.hid hbl
  clear hbl
  by_cases h0 : 0 ≤ s
  · have hq : symOk vn tn s = decide (s < (vn : Int)) := by unfold symOk; rw [if_pos h0]
    rw [hq]
    have hiv : ∀ w, Calls Tryz.prog 20 #[.int .i64 s] w fun e w' => e = .returned (.bool true) ∧ w' = w := fun w => by have := isVar_any s w; rwa [decide_eq_true h0] at this
    generalize hd : decide (s < (vn : Int)) = D at *
    clear hq h0
    go_enter Tryz.func44, Tryz.ntmps44
    go_upto_region 1 with fail
    generalize w.alloc (.cells #[.slice tbo tn tc, .slice vo vn vc, .slice ro rn rc] 26) = w1 at *
    have c1 : w1.cell? ⟨w.heap.size, 1, none⟩ = some (.slice vo vn vc) := b1.cell 1
    have l1 := b1.lt
    clear b1
    go_wp2_with fail
    refine (hiv _).mono ?_
    rintro e w2 ⟨rfl, rfl⟩
    go_wp2_with fail
    go_ret
    exact ⟨rfl, HBL.out⟩
  · have hq : symOk vn tn s = decide (-1 - s < (tn : Int)) := by unfold symOk; rw [if_neg h0]
    rw [hq]
    have hiv : ∀ w, Calls Tryz.prog 20 #[.int .i64 s] w fun e w' => e = .returned (.bool false) ∧ w' = w := fun w => by have := isVar_any s w; rwa [decide_eq_false h0] at this
    generalize hd : decide (-1 - s < (tn : Int)) = D at *
    clear hq h0
    go_enter Tryz.func44, Tryz.ntmps44
    go_upto_region 1 with fail
    generalize w.alloc (.cells #[.slice tbo tn tc, .slice vo vn vc, .slice ro rn rc] 26) = w1 at *
    have c0 : w1.cell? ⟨w.heap.size, 0, none⟩ = some (.slice tbo tn tc) := b1.cell 0
    have l1 := b1.lt
    clear b1
    go_wp2_with fail
    refine (hiv _).mono ?_
    rintro e w2 ⟨rfl, rfl⟩
    go_wp2_with fail
    go_ret
    exact ⟨rfl, HBL.out⟩
def TellsI (fn : Nat) (cap : Array Value) (p : Int → Bool) (P : Int → Prop) (w : World) : Prop := ∀ (x : Int) (W : World), P x → Below w.heap.size w W → Calls Tryz.prog fn (#[.int .i64 x] ++ cap) W fun e W' => e = .returned (.bool (p x)) ∧ Below W.heap.size W W'
set_option maxRecDepth 100000 in
set_option maxHeartbeats 2000000 in
theorem indexFI_any (w : World) (A : Nat → Prop) (v : Value) (xs : List Int) (fn : Nat) (cap : Array Value) (p : Int → Bool) (P : Int → Prop) (hgo : GoesG fn) (hp : TellsI fn cap p P w) (h : IntsAt w A v xs) (hx : ∀ x ∈ xs, P x) : Calls Tryz.prog 136 #[v, .func (.func fn) #[] cap] w fun e w' => (∃ n : Int, e = .returned (.int .i64 n) ∧ (0 ≤ n ↔ xs.any p = true)) ∧ Below w.heap.size w w' := by
  obtain ⟨ao, cp, rfl⟩ := ListOf.form h
  have hl := h.1
  unfold maxLen at hl
  have H := Lib.hid h
  have HX := Lib.hid hx
  have hg : ∀ (c : Int) (w : World), (callFunc fn (#[.int .i64 c] ++ cap)).run Tryz.prog w = .ok (.enter fn (#[.int .i64 c] ++ cap)) w := fun c w => hgo _ w
  have HP := Lib.hid hp
  generalize hn : xs.length = n at *
  have HN := Lib.hid hn
  clear h hp hgo hx hn
  go_enter Tryz.func136, Tryz.ntmps136
  go_wp2_with fail
  go_loopw [5, 8] (fun i q wr => ∃ k : Nat, k ≤ n ∧ q = .int .i64 k ∧ (xs.take k).any p = false ∧ Below w.heap.size w wr) (fun _ q _ => n - (intOf q).toNat)
  case atStart => exact ⟨0, Nat.zero_le _, rfl, rfl, Below.refl _ _⟩
  case round =>
    obtain ⟨k, hk, rfl, hneg, hbr⟩ := hrel
    have HNG := Lib.hid hneg
    clear hneg
    by_cases hlt : k < n
    · obtain ⟨x, hy⟩ : ∃ x, xs[k]? = some x := ⟨_, List.getElem?_eq_getElem (by rw [HN.out]; exact hlt)⟩
      obtain ⟨g, cap', e, hgl, hcl⟩ := IntsAt.cell H.out hy
      rw [HN.out] at e
      cases e
      have hca2 : wr.cell? ⟨g, k, none⟩ = some (.int .i64 x) := (hbr.cell (p := ⟨g, k, none⟩) hgl).trans hcl
      have htk : (xs.take (k + 1)).any p = p x := by
        obtain ⟨h1, h2⟩ := List.getElem?_eq_some_iff.1 hy
        rw [List.take_succ_eq_append_getElem h1, List.any_append, HNG.out, h2]
        simp
      have hmem : p x = true → xs.any p = true := fun h => by
        rw [List.any_eq_true]
        exact ⟨x, List.mem_of_getElem? hy, h⟩
      have hcall := HP.out x wr (HX.out x (List.mem_of_getElem? hy)) hbr
      have HT := Lib.hid htk
      have HM := Lib.hid hmem
      have HBR := Lib.hid hbr
      clear hcl htk hmem hy hbr
      cases hb : p x
      · rw [hb] at hcall
        have HBV := Lib.hid hb
        clear hb
        go_wp2_with fail
        refine hcall.mono ?_
        rintro e w2 ⟨rfl, hb2⟩
        clear hcall
        go_wp2_with fail
        exact ⟨⟨k + 1, hlt, congrArg (Value.int .i64) (by omega), by rw [HT.out]; exact HBV.out, HBR.out.trans (hb2.mono HBR.out.size)⟩, by simp only [intOf]; omega⟩
      · rw [hb] at hcall
        have HA := Lib.hid (HM.out hb)
        clear hb
        go_wp2_with fail
        refine hcall.mono ?_
        rintro e w2 ⟨rfl, hb2⟩
        clear hcall
        go_wp2_with fail
        go_ret
        exact ⟨⟨k, rfl, ⟨fun _ => HA.out, fun _ => by omega⟩⟩, HBR.out.trans (hb2.mono HBR.out.size)⟩
    · obtain rfl : k = n := by omega
      have hany : xs.any p = false := by have := HNG.out; rwa [← HN.out, List.take_length] at this
      have HA := Lib.hid hany
      have HBR := Lib.hid hbr
      clear hany hbr
      go_wp2_with fail
      go_ret
      exact ⟨⟨-1, rfl, ⟨fun h => absurd h (by decide), fun h => by rw [HA.out] at h; cases h⟩⟩, HBR.out⟩
set_option maxRecDepth 100000 in
theorem containsFI_any (w : World) (A : Nat → Prop) (v : Value) (xs : List Int) (fn : Nat) (cap : Array Value) (p : Int → Bool) (P : Int → Prop) (hgo : GoesG fn) (hp : TellsI fn cap p P w) (h : IntsAt w A v xs) (hx : ∀ x ∈ xs, P x) : Calls Tryz.prog 102 #[v, .func (.func fn) #[] cap] w fun e w' => e = .returned (.bool (xs.any p)) ∧ Below w.heap.size w w' := by
  have hix := indexFI_any w A v xs fn cap p P hgo hp h hx
  obtain ⟨ao, cp, rfl⟩ := ListOf.form h
  clear hp h hgo hx
  go_enter Tryz.func102, Tryz.ntmps102
  go_wp2_with fail
  refine hix.mono ?_
  rintro e w1 ⟨⟨n, rfl, hn⟩, hb1⟩
  have HB1 := Lib.hid hb1
  have hd : decide ((0 : Int) ≤ n) = xs.any p := by
    cases ha : xs.any p
    · rw [ha] at hn
      exact decide_eq_false (fun h => by cases hn.1 h)
    · rw [ha] at hn
      exact decide_eq_true (hn.2 rfl)
  have HD := Lib.hid hd
  clear hix hn hb1 hd
  go_wp2_with fail
  go_ret
  refine ⟨?_, HB1.out⟩
  rw [← HD.out]
  rfl
theorem goes_rightRule : GoesG 103 := fun args w => enters_of Tryz.func103 (by kernel_rfl) rfl args w
set_option maxRecDepth 100000 in
theorem rightRule1_any (W : World) (bg : Nat) (tbo vo ro : Option Addr) (tn tc vn vc rn rc : Nat) (s : Int) (hs : In64x s) (hb : Blk W bg 26 #[.slice tbo tn tc, .slice vo vn vc, .slice ro rn rc]) : Calls Tryz.prog 103 #[.int .i64 s, .pointer (some ⟨bg, 0, none⟩)] W fun e w' => e = .returned (.bool (!symOk vn tn s)) ∧ Below W.heap.size W w' := by
  have hsy := isSymbol_any W tbo vo ro tn tc vn vc rn rc s hs
  generalize symOk vn tn s = D at *
  have c0 := hb.cell 0
  have c1 := hb.cell 1
  have c2 := hb.cell 2
  have l1 := hb.lt
  simp only [List.getElem?_toArray, List.getElem?_cons_zero, List.getElem?_cons_succ] at c0 c1 c2
  clear hb
  go_enter Tryz.func103, Tryz.ntmps103
  go_wp2_with fail
  refine hsy.mono ?_
  rintro e w2 ⟨rfl, hb2⟩
  clear hsy
  go_wp2_with fail
  go_ret
  exact ⟨rfl, hb2⟩
end Go.Proofs.YtldamieigigncaaGreatDoor.lx

namespace Go.Proofs.YtldamieigigncaaGreatDoor.lx
open Go.ChangeShapes Go.WideShapes Go.ChangeAt Go.RowKit
set_option linter.unusedVariables false
attribute [local go_sem] run_store_float
set_option maxRecDepth 100000 in
theorem isNaNi_any (x : Int) (w : World) : Calls Tryz.prog 100 #[.int .i64 x] w fun e w' => e = .returned (.bool false) ∧ w' = w := by
  have h : (x != x) = false := by simp
  go_enter Tryz.func100, Tryz.ntmps100
  go_wp2_with fail
  go_ret
  exact ⟨rfl, rfl⟩
def cmpI (x y : Int) : Int := if x < y then -1 else if y < x then 1 else 0
set_option maxRecDepth 100000 in
set_option maxHeartbeats 1000000 in
theorem compareI_any (x y : Int) (w : World) : Calls Tryz.prog 76 #[.int .i64 x, .int .i64 y] w fun e w' => e = .returned (.int .i64 (cmpI x y)) ∧ w' = w := by
  by_cases h1 : x < y
  · have e1 : cmpI x y = -1 := by unfold cmpI; rw [if_pos h1]
    rw [e1]
    have d1 : decide (x < y) = true := decide_eq_true h1
    clear h1 e1
    go_enter Tryz.func76, Tryz.ntmps76
    go_wp2_with fail
    refine (isNaNi_any _ _).mono ?_
    rintro e w1 ⟨rfl, rfl⟩
    go_wp2_with fail
    refine (isNaNi_any _ _).mono ?_
    rintro e w1 ⟨rfl, rfl⟩
    go_wp2_with fail
    go_ret
    exact ⟨rfl, rfl⟩
  · by_cases h2 : y < x
    · have e1 : cmpI x y = 1 := by unfold cmpI; rw [if_neg h1, if_pos h2]
      rw [e1]
      have d1 : decide (x < y) = false := decide_eq_false h1
      have d2 : decide (y < x) = true := decide_eq_true h2
      clear h1 h2 e1
      go_enter Tryz.func76, Tryz.ntmps76
      go_wp2_with fail
      refine (isNaNi_any _ _).mono ?_
      rintro e w1 ⟨rfl, rfl⟩
      go_wp2_with fail
      refine (isNaNi_any _ _).mono ?_
      rintro e w1 ⟨rfl, rfl⟩
      go_wp2_with fail
      go_ret
      exact ⟨rfl, rfl⟩
    · have e1 : cmpI x y = 0 := by unfold cmpI; rw [if_neg h1, if_neg h2]
      rw [e1]
      have d1 : decide (x < y) = false := decide_eq_false h1
      have d2 : decide (y < x) = false := decide_eq_false h2
      clear h1 h2 e1
      go_enter Tryz.func76, Tryz.ntmps76
      go_wp2_with fail
      refine (isNaNi_any _ _).mono ?_
      rintro e w1 ⟨rfl, rfl⟩
      go_wp2_with fail
      refine (isNaNi_any _ _).mono ?_
      rintro e w1 ⟨rfl, rfl⟩
      go_wp2_with fail
      go_ret
      exact ⟨rfl, rfl⟩
set_option maxRecDepth 100000 in
set_option maxHeartbeats 1000000 in
theorem rightRules1_any (w : World) (x y : Int) (F1 F2 : Nat) (a1 a2 : Option Addr) (n1 c1 n2 c2 : Nat) : Calls Tryz.prog 75 #[.agg #[.int .i64 x, .slice a1 n1 c1, .float .f64 F1], .agg #[.int .i64 y, .slice a2 n2 c2, .float .f64 F2]] w fun e w' => e = .returned (.int .i64 (cmpI x y)) ∧ Below w.heap.size w w' := by
  have hb1 : Below w.heap.size w ((w.alloc (.cells #[.int .i64 x, .slice a1 n1 c1, .float .f64 F1] 41)).alloc (.cells #[.int .i64 y, .slice a2 n2 c2, .float .f64 F2] 41)) := ((Below.refl _ _).alloc (Nat.le_refl _) _).alloc (by simp) _
  have b1 := (Blk.new w 41 #[.int .i64 x, .slice a1 n1 c1, .float .f64 F1]).alloc (.cells #[.int .i64 y, .slice a2 n2 c2, .float .f64 F2] 41)
  have b2 := Blk.new (w.alloc (.cells #[.int .i64 x, .slice a1 n1 c1, .float .f64 F1] 41)) 41 #[.int .i64 y, .slice a2 n2 c2, .float .f64 F2]
  rw [World.size_alloc] at b2
  have HB1 := Lib.hid hb1
  clear hb1
  go_enter Tryz.func75, Tryz.ntmps75
  go_upto_region 1 with fail
  generalize (w.alloc (.cells #[.int .i64 x, .slice a1 n1 c1, .float .f64 F1] 41)).alloc (.cells #[.int .i64 y, .slice a2 n2 c2, .float .f64 F2] 41) = w1 at *
  have c0 : w1.cell? ⟨w.heap.size, 0, none⟩ = some (.int .i64 x) := b1.cell 0
  have d0 : w1.cell? ⟨w.heap.size + 1, 0, none⟩ = some (.int .i64 y) := b2.cell 0
  have l1 := b1.lt
  have l2 := b2.lt
  clear b1 b2
  go_wp2_with fail
  refine (compareI_any _ _ _).mono ?_
  rintro e w2 ⟨rfl, rfl⟩
  clear c0 d0 l1 l2
  go_wp2_with fail
  go_ret
  exact ⟨rfl, HB1.out⟩
theorem goes_rightRules : GoesG 75 := fun args w => enters_of Tryz.func75 (by kernel_rfl) rfl args w
def SortedL (rs : List Rl) : Prop := ∀ (k : Nat) (a b : Rl), rs[k]? = some a → rs[k + 1]? = some b → a.1 ≤ b.1
set_option maxRecDepth 100000 in
set_option maxHeartbeats 4000000 in
theorem sortedR_any (w : World) (A : Nat → Prop) (v : Value) (rs : List Rl) (h : ListOf 3 ERul w A v rs) : Calls Tryz.prog 74 #[v, .func (.func 75) #[] #[]] w fun e w' => TellB (SortedL rs) e ∧ Below w.heap.size w w' := by
  obtain ⟨ao, cp, rfl⟩ := ListOf.form h
  have hm := h.1
  unfold maxLen at hm
  have H := Lib.hid h
  have hg : ∀ (x y : Value) (w : World), (callFunc 75 (#[x, y] ++ #[])).run Tryz.prog w = .ok (.enter 75 (#[x, y] ++ #[])) w := fun x y w => goes_rightRules _ w
  generalize hn : rs.length = n at *
  have HN := Lib.hid hn
  clear h hn
  go_enter Tryz.func74, Tryz.ntmps74
  go_wp2_with fail
  go_loopw [5] (fun q wr => ∃ k : Int, q = .int .i64 k ∧ -1 ≤ k ∧ k < n ∧ (∀ (j : Nat) (a b : Rl), k < ((j + 1 : Nat) : Int) → rs[j]? = some a → rs[j + 1]? = some b → a.1 ≤ b.1) ∧ Below w.heap.size w wr) (fun q _ => (intOf q + 1).toNat)
  case atStart =>
    refine ⟨(n : Int) - 1, by go_num, by omega, by omega, fun j a b hj ha hb => ?_, Below.refl _ _⟩
    have h1 := (List.getElem?_eq_some_iff.1 hb).1
    have := HN.out
    omega
  case round =>
    obtain ⟨k, rfl, hk1, hk2, hno, hbr⟩ := hrel
    have HNO := Lib.hid hno
    have HBR := Lib.hid hbr
    clear hno
    by_cases hlt : 0 < k
    · obtain ⟨p, rfl⟩ : ∃ p : Nat, k = ((p + 1 : Nat) : Int) := ⟨(k - 1).toNat, by omega⟩
      have hd : decide ((0 : Int) < ((p + 1 : Nat) : Int)) = true := decide_eq_true hlt
      obtain ⟨b, hb⟩ : ∃ b, rs[p + 1]? = some b := ⟨_, List.getElem?_eq_getElem (by rw [HN.out]; omega)⟩
      obtain ⟨a, ha⟩ : ∃ a, rs[p]? = some a := ⟨_, List.getElem?_eq_getElem (by rw [HN.out]; omega)⟩
      obtain ⟨g, cap', u, e, hg1, hc0, hc1, hc2, hu⟩ := ERul.at H.out hb
      obtain ⟨g2, cap2, u2, e2, hg2, he0, he1, he2, hu2⟩ := ERul.at H.out ha
      injection e with e3 h5 h6
      subst e3
      injection e2 with e4 h7 h8
      injection e4 with e4
      injection e4 with e4
      subst e4
      clear h5 h6 h7 h8
      obtain ⟨uo, uc, rfl⟩ := ListOf.form hu
      obtain ⟨uo2, uc2, rfl⟩ := ListOf.form hu2
      have c0 : wr.cell? ⟨g, (p + 1) * 3, none⟩ = some (.int .i64 b.1) := (hbr.cell (p := ⟨g, (p + 1) * 3, none⟩) hg1).trans hc0
      have c1 : wr.cell? ⟨g, (p + 1) * 3 + 1, none⟩ = some (.slice uo b.2.1.length uc) := (hbr.cell (p := ⟨g, (p + 1) * 3 + 1, none⟩) hg1).trans hc1
      have c2 : wr.cell? ⟨g, (p + 1) * 3 + 2, none⟩ = some (.float .f64 b.2.2) := (hbr.cell (p := ⟨g, (p + 1) * 3 + 2, none⟩) hg1).trans hc2
      have d0 : wr.cell? ⟨g, p * 3, none⟩ = some (.int .i64 a.1) := (hbr.cell (p := ⟨g, p * 3, none⟩) hg1).trans he0
      have d1 : wr.cell? ⟨g, p * 3 + 1, none⟩ = some (.slice uo2 a.2.1.length uc2) := (hbr.cell (p := ⟨g, p * 3 + 1, none⟩) hg1).trans he1
      have d2 : wr.cell? ⟨g, p * 3 + 2, none⟩ = some (.float .f64 a.2.2) := (hbr.cell (p := ⟨g, p * 3 + 2, none⟩) hg1).trans he2
      have lg : g < wr.heap.size := Nat.lt_of_lt_of_le hg1 hbr.size
      have HA := Lib.hid ha
      have HB := Lib.hid hb
      clear ha hb hc0 hc1 hc2 he0 he1 he2 hu hu2 hbr hg2
      generalize b.2.1.length = bl at *
      generalize a.2.1.length = al at *
      have hpn : p + 1 < n := by omega
      go_upto_region 4 with fail
      refine wp_region_E (fun W => Below wr.heap.size wr W) [] (by kernel_rfl) ?_
      change anyE _ _ _ _ _ _ _ _ _ (World.drew _)
      have HS : Below wr.heap.size wr (World.drew wr) := (Below.refl _ _).drew
      refine anyE_take (i := 0) (v := ?_) rfl (by kernel_rfl) (by kernel_rfl) (by kernel_rfl) (by kernel_rfl) (by kernel_rfl) (fun _ _ _ h => h) (Or.inl ⟨by kernel_rfl, ?_⟩) HS ?_
      rotate_left
      focus (intro wq _; go_simp; first | with_reducible rfl | (rw [if_pos (by omega)]; first | done | with_reducible rfl) | (rw [if_neg (by omega)]; first | done | with_reducible rfl))
      refine anyE_take (i := 1) (v := ?_) rfl (by kernel_rfl) (by kernel_rfl) (by kernel_rfl) (by kernel_rfl) (by kernel_rfl) (fun _ _ _ h => h) (Or.inl ⟨by kernel_rfl, ?_⟩) HS ?_
      rotate_left
      focus (intro wq _; go_simp; first | with_reducible rfl | (rw [if_pos (by omega)]; first | done | with_reducible rfl) | (rw [if_neg (by omega)]; first | done | with_reducible rfl))
      refine anyE_take (i := 2) (v := ?_) rfl (by kernel_rfl) (by kernel_rfl) (by kernel_rfl) (by kernel_rfl) (by kernel_rfl) (fun _ _ _ h => h) (Or.inl ⟨by kernel_rfl, ?_⟩) HS ?_
      rotate_left
      focus (intro wq _; go_simp; first | with_reducible rfl | (rw [if_pos (by omega)]; first | done | with_reducible rfl) | (rw [if_neg (by omega)]; first | done | with_reducible rfl))
      refine anyE_take (i := 3) (v := ?_) rfl (by kernel_rfl) (by kernel_rfl) (by kernel_rfl) (by kernel_rfl) (by kernel_rfl) (fun _ _ _ h => h) (Or.inl ⟨by kernel_rfl, ?_⟩) HS ?_
      rotate_left
      focus (intro wq _; go_simp; first | with_reducible rfl | (rw [if_pos (by omega)]; first | done | with_reducible rfl) | (rw [if_neg (by omega)]; first | done | with_reducible rfl))
      refine anyE_take (i := 4) (v := ?_) rfl (by kernel_rfl) (by kernel_rfl) (by kernel_rfl) (by kernel_rfl) (by kernel_rfl) (fun _ _ _ h => h) (Or.inl ⟨by kernel_rfl, ?_⟩) HS ?_
      rotate_left
      focus (intro wq hw; have h0 := (hw.cell (p := ⟨g, (p + 1) * 3, none⟩) lg).trans c0; have h1 := (hw.cell (p := ⟨g, (p + 1) * 3 + 1, none⟩) lg).trans c1; have h2 := (hw.cell (p := ⟨g, (p + 1) * 3 + 2, none⟩) lg).trans c2; go_simp; with_reducible rfl)
      refine anyE_take (i := 5) (v := ?_) rfl (by kernel_rfl) (by kernel_rfl) (by kernel_rfl) (by kernel_rfl) (by kernel_rfl) (fun _ _ _ h => h) (Or.inl ⟨by kernel_rfl, ?_⟩) HS ?_
      rotate_left
      focus (intro wq _; go_simp; first | with_reducible rfl | (rw [if_pos (by omega)]; first | done | with_reducible rfl) | (rw [if_neg (by omega)]; first | done | with_reducible rfl))
      refine anyE_take (i := 6) (v := ?_) rfl (by kernel_rfl) (by kernel_rfl) (by kernel_rfl) (by kernel_rfl) (by kernel_rfl) (fun _ _ _ h => h) (Or.inl ⟨by kernel_rfl, ?_⟩) HS ?_
      rotate_left
      focus (intro wq _; go_simp; first | with_reducible rfl | (rw [if_pos (by omega)]; first | done | with_reducible rfl) | (rw [if_neg (by omega)]; first | done | with_reducible rfl))
      refine anyE_take (i := 7) (v := .int .i64 p) rfl (by kernel_rfl) (by kernel_rfl) (by kernel_rfl) (by kernel_rfl) (by kernel_rfl) (fun _ _ _ h => h) (Or.inl ⟨by kernel_rfl, ?_⟩) HS ?_
      focus (intro wq hw; go_simp; have hwp : IntKind.i64.wrap (p : Int) = (p : Int) := (by rw [IntKind.wrap_i64]; omega); first | (rw [hwp]; done) | (rw [hwp]; with_reducible rfl))
      refine anyE_take (i := 8) (v := ?_) rfl (by kernel_rfl) (by kernel_rfl) (by kernel_rfl) (by kernel_rfl) (by kernel_rfl) (fun _ _ _ h => h) (Or.inl ⟨by kernel_rfl, ?_⟩) HS ?_
      rotate_left
      focus (intro wq _; go_simp; first | with_reducible rfl | (rw [if_pos (by omega)]; first | done | with_reducible rfl) | (rw [if_neg (by omega)]; first | done | with_reducible rfl))
      refine anyE_take (i := 9) (v := ?_) rfl (by kernel_rfl) (by kernel_rfl) (by kernel_rfl) (by kernel_rfl) (by kernel_rfl) (fun _ _ _ h => h) (Or.inl ⟨by kernel_rfl, ?_⟩) HS ?_
      rotate_left
      focus (intro wq hw; have h0 := (hw.cell (p := ⟨g, p * 3, none⟩) lg).trans d0; have h1 := (hw.cell (p := ⟨g, p * 3 + 1, none⟩) lg).trans d1; have h2 := (hw.cell (p := ⟨g, p * 3 + 2, none⟩) lg).trans d2; go_simp; with_reducible rfl)
      simp only [Act.put, List.setIfInBounds_toArray, List.set_cons_succ, List.set_cons_zero, List.getElem_toArray, List.getElem_cons_succ, List.getElem_cons_zero]
      refine anyE_ready (rs := [10]) (by kernel_rfl) (by simp) ?_
      refine ReadyE.cons rfl (by kernel_rfl) (fun K hK => ?_) ReadyE.nil
      go_simp
      refine (rightRules1_any _ _ _ _ _ _ _ _ _ _ _).mono ?_
      rintro e w5 ⟨rfl, hb5⟩
      have HS5 := HS.trans (hb5.mono HS.size)
      have HZ5 := Lib.hid (HBR.out.trans (HS5.mono HBR.out.size))
      refine hK.out _ _ (fun _ => HS5) ?_
      clear hK K
      clear c0 c1 c2 d0 d1 d2 lg hb5
      by_cases hab : a.1 ≤ b.1
      · have ec : decide (cmpI b.1 a.1 < 0) = false := decide_eq_false (by unfold cmpI; split <;> first | omega | (split <;> omega))
        have HAB := Lib.hid hab
        clear hab
        generalize cmpI b.1 a.1 = z at *
        refine anyE_take (i := 11) (v := ?_) rfl (by kernel_rfl) (by kernel_rfl) (by kernel_rfl) (by kernel_rfl) (by kernel_rfl) (fun _ _ _ h => h) (Or.inl ⟨by kernel_rfl, ?_⟩) HS5 ?_
        rotate_left
        focus (intro wq _; go_simp; with_reducible rfl)
        refine anyE_done (by kernel_rfl) ?_ _
        simp only [Act.put, List.setIfInBounds_toArray, List.set_cons_succ, List.set_cons_zero, List.getElem_toArray, List.getElem_cons_succ, List.getElem_cons_zero]
        go_wp2_with fail
        refine ⟨⟨(p : Int), by go_num, by omega, by omega, fun j a' b' hj ha' hb' => ?_, HZ5.out⟩, by simp only [intOf]; omega⟩
        by_cases hjp : j = p
        · subst hjp
          have e1 := Option.some.inj (ha'.symm.trans HA.out)
          have e2 := Option.some.inj (hb'.symm.trans HB.out)
          rw [e1, e2]
          exact HAB.out
        · exact HNO.out j a' b' (by omega) ha' hb'
      · have ec : decide (cmpI b.1 a.1 < 0) = true := decide_eq_true (by unfold cmpI; rw [if_pos (by omega)]; decide)
        have HAB := Lib.hid hab
        clear hab
        generalize cmpI b.1 a.1 = z at *
        refine anyE_take (i := 11) (v := ?_) rfl (by kernel_rfl) (by kernel_rfl) (by kernel_rfl) (by kernel_rfl) (by kernel_rfl) (fun _ _ _ h => h) (Or.inl ⟨by kernel_rfl, ?_⟩) HS5 ?_
        rotate_left
        focus (intro wq _; go_simp; with_reducible rfl)
        refine anyE_done (by kernel_rfl) ?_ _
        simp only [Act.put, List.setIfInBounds_toArray, List.set_cons_succ, List.set_cons_zero, List.getElem_toArray, List.getElem_cons_succ, List.getElem_cons_zero]
        go_wp2_with fail
        go_ret
        exact ⟨TellB.no (fun hh => HAB.out (hh p a b HA.out HB.out)), HZ5.out⟩
    · have hd : decide ((0 : Int) < k) = false := decide_eq_false hlt
      clear hbr
      go_wp2_with fail
      go_ret
      exact ⟨TellB.yes (fun j a b ha hb => HNO.out j a b (by omega) ha hb), HBR.out⟩
end Go.Proofs.YtldamieigigncaaGreatDoor.lx


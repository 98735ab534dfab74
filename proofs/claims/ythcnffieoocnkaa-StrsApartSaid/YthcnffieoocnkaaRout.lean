import Derived.Test.YthcnffieoocnkaaRcut
import Derived.Maps.AppendAt
namespace Go.Proofs.Ythcnffieoocnkaa.st
open Go.ChangeShapes Go.WideShapes Go.ChangeAt Go.RowKit Go.Maps Go.WideMaps Go.WideElems
set_option linter.unusedVariables false
/-! lists of words that grow: what is laid into an own row of words -/
/-- a word, nil only if it has no room -/
def WordN (w : World) (u : Value) (x : List Int) : Prop := x.length ≤ 1000 ∧ ∃ ao cap, u = .slice ao x.length cap ∧ (ao = none → cap = 0) ∧ (∀ n ∈ x, In64 n) ∧ ∀ j, j < x.length → ∃ a : Addr, ao = some a ∧ a.block < w.heap.size ∧ w.cell? (a.add j) = some (.int .i64 (x.getD j 0))
def WordsN (w : World) (v : Value) (L : List (List Int)) : Prop := ∃ ao cap, v = .slice ao L.length cap ∧ (ao = none → cap = 0) ∧ ∀ i, i < L.length → ∃ (a : Addr) (u : Value), ao = some a ∧ a.block < w.heap.size ∧ w.cell? (a.add i) = some u ∧ WordN w u (L.getD i [])
theorem WordN.word {w : World} {u : Value} {x : List Int} (h : WordN w u x) : WordAt w u x := by
  obtain ⟨_, ao, cap, e, _, hin, hc⟩ := h
  exact ⟨ao, cap, e, hin, hc⟩
theorem WordsN.words {w : World} {v : Value} {L : List (List Int)} (h : WordsN w v L) : WordsAt w v L := by
  obtain ⟨ao, cap, e, _, hc⟩ := h
  refine ⟨ao, cap, e, fun i hi => ?_⟩
  obtain ⟨a, u, e2, hab, hcell, hw⟩ := hc i hi
  exact ⟨a, u, e2, hab, hcell, hw.word, hw.1⟩
theorem WordN.below {w w' : World} {u : Value} {x : List Int} (h : WordN w u x) (hb : Below w.heap.size w w') : WordN w' u x := by
  obtain ⟨hl, ao, cap, e, hn, hin, hc⟩ := h
  refine ⟨hl, ao, cap, e, hn, hin, fun j hj => ?_⟩
  obtain ⟨a, e2, hab, hcell⟩ := hc j hj
  exact ⟨a, e2, Nat.lt_of_lt_of_le hab hb.size, (hb.cell (p := a.add j) (by rw [add_block]; exact hab)).trans hcell⟩
theorem WordsN.below {w w' : World} {v : Value} {L : List (List Int)} (h : WordsN w v L) (hb : Below w.heap.size w w') : WordsN w' v L := by
  obtain ⟨ao, cap, e, hn, hc⟩ := h
  refine ⟨ao, cap, e, hn, fun i hi => ?_⟩
  obtain ⟨a, u, e2, hab, hcell, hw⟩ := hc i hi
  exact ⟨a, u, e2, Nat.lt_of_lt_of_le hab hb.size, (hb.cell (p := a.add i) (by rw [add_block]; exact hab)).trans hcell, hw.below hb⟩
theorem RowAt.wordN {w : World} {u : Value} {x : List Int} (h : RowAt w u x) (hl : x.length ≤ 1000) : WordN w u x := by
  obtain ⟨ao, cap, e, _, _, hn, hin, hc⟩ := h
  exact ⟨hl, ao, cap, e, hn, hin, hc⟩
/-- a word away from a row -/
def AwayW (w : World) (row : Option Nat) (u : Value) (x : List Int) : Prop := x.length ≤ 1000 ∧ ∃ ao cap, u = .slice ao x.length cap ∧ (ao = none → cap = 0) ∧ (∀ n ∈ x, In64 n) ∧ ∀ j, j < x.length → ∃ a : Addr, ao = some a ∧ a.block < w.heap.size ∧ some a.block ≠ row ∧ w.cell? (a.add j) = some (.int .i64 (x.getD j 0))
theorem AwayW.wordN {w : World} {row : Option Nat} {u : Value} {x : List Int} (h : AwayW w row u x) : WordN w u x := by
  obtain ⟨hl, ao, cap, e, hn, hin, hc⟩ := h
  refine ⟨hl, ao, cap, e, hn, hin, fun j hj => ?_⟩
  obtain ⟨a, e2, hab, _, hcell⟩ := hc j hj
  exact ⟨a, e2, hab, hcell⟩
theorem AwayW.step {w w' : World} {row row' : Option Nat} {u : Value} {x : List Int} (h : AwayW w row u x) (hg : w.grownBy w' row) (hat : row' = row ∨ row' = some w.heap.size) : AwayW w' row' u x := by
  obtain ⟨hl, ao, cap, e, hn, hin, hc⟩ := h
  refine ⟨hl, ao, cap, e, hn, hin, fun j hj => ?_⟩
  obtain ⟨a, e2, hab, hne, hcell⟩ := hc j hj
  refine ⟨a, e2, Nat.lt_of_lt_of_le hab hg.size, ?_, hg.cell hcell (by rw [add_block]; exact hne)⟩
  rcases hat with h | h
  · rw [h]; exact hne
  · rw [h]
    intro e3
    have := Option.some.inj e3
    omega
theorem AwayW.far {w w' : World} {row r2 : Option Nat} {u : Value} {x : List Int} (h : AwayW w row u x) (hg : w.grownBy w' r2) (hr : ∀ k, r2 = some k → w.heap.size ≤ k) : AwayW w' row u x := by
  obtain ⟨hl, ao, cap, e, hn, hin, hc⟩ := h
  refine ⟨hl, ao, cap, e, hn, hin, fun j hj => ?_⟩
  obtain ⟨a, e2, hab, hne, hcell⟩ := hc j hj
  refine ⟨a, e2, Nat.lt_of_lt_of_le hab hg.size, hne, hg.cell hcell ?_⟩
  rw [add_block]
  intro e3
  have := hr _ e3.symm
  omega
theorem away_old {w0 w : World} {row : Option Nat} {u : Value} {x : List Int} (h : WordN w0 u x) (hb : Below w0.heap.size w0 w) (hrow : ∀ k, row = some k → w0.heap.size ≤ k) : AwayW w row u x := by
  obtain ⟨hl, ao, cap, e, hn, hin, hc⟩ := h
  refine ⟨hl, ao, cap, e, hn, hin, fun j hj => ?_⟩
  obtain ⟨a, e2, hab, hcell⟩ := hc j hj
  refine ⟨a, e2, Nat.lt_of_lt_of_le hab hb.size, ?_, (hb.cell (p := a.add j) (by rw [add_block]; exact hab)).trans hcell⟩
  intro e3
  have := hrow _ e3.symm
  omega
theorem away_own {B : Nat} {w : World} {row : Option Nat} {v : Value} {x : List Int} {n : Nat} (h : w.ownsRow B 3 1 v n (IV x)) (hn : x.length = n) (hin : ∀ n ∈ x, In64 n) (hl : x.length ≤ 1000) (hrow : ∀ k, row = some k → k < B) : AwayW w row v x := by
  have h' := h
  rcases h.2 with ⟨hv, h0⟩ | ⟨g, cap, cur, hv, hB, _, hc, hm, _⟩
  · subst hv
    subst hn
    have h0 : x.length = 0 := by omega
    exact ⟨hl, none, 0, by rw [h0], fun _ => rfl, hin, fun i hi => by omega⟩
  · subst hv
    subst hn
    refine ⟨hl, _, cap, rfl, fun e => (by cases e), hin, fun i hi => ⟨_, rfl, own_lt h', fun e3 => ?_, own_cells' h' i _ ?_⟩⟩
    · have := hrow _ e3.symm
      simp at this
      omega
    · simp [IV, List.getD_eq_getElem?_getD, List.getElem?_eq_getElem hi]
def OutU (B : Nat) (w : World) (v : Value) (ws : List (List Int)) (us : List Value) : Prop := w.ownsRow B 22 1 v ws.length us ∧ ∀ i, i < ws.length → ∃ u, us[i]? = some u ∧ AwayW w v.ownBlock u (ws.getD i [])
theorem OutU.far {B : Nat} {w w' : World} {v : Value} {ws : List (List Int)} {us : List Value} {r2 : Option Nat} (h : OutU B w v ws us) (hg : w.grownBy w' r2) (hr : ∀ k, r2 = some k → w.heap.size ≤ k) : OutU B w' v ws us := by
  refine ⟨h.1.kept hg ?_, fun i hi => ?_⟩
  · cases hv : v.ownBlock with
    | none => exact .inl rfl
    | some k =>
      right
      intro e
      have h1 := (h.1.lt k hv).2
      have h2 := hr k e.symm
      omega
  · obtain ⟨u, e, hw⟩ := h.2 i hi
    exact ⟨u, e, hw.far hg hr⟩
theorem OutU.qt {B : Nat} {w w' : World} {v : Value} {ws : List (List Int)} {us : List Value} (h : OutU B w v ws us) (hq : Qt w w') : OutU B w' v ws us := by
  obtain ⟨n, rfl⟩ := hq
  exact h
theorem out_step {B : Nat} {w w' : World} {v v' u : Value} {ws : List (List Int)} {us : List Value} {x : List Int} (h : OutU B w v ws us) (hx : AwayW w v.ownBlock u x) (h2 : w'.ownsRow B 22 1 v' (ws.length + 1) (us ++ [u])) (hg : w.grownBy w' v.ownBlock) (hat : v'.ownBlock = v.ownBlock ∨ v'.ownBlock = some w.heap.size) : OutU B w' v' (ws ++ [x]) (us ++ [u]) := by
  have hus : us.length = ws.length := by have := h.1.1; omega
  refine ⟨by simpa using h2, fun i hi => ?_⟩
  by_cases hlt : i < ws.length
  · obtain ⟨u', e, hw⟩ := h.2 i hlt
    refine ⟨u', by rw [List.getElem?_append_left (by omega)]; exact e, ?_⟩
    rw [List.getD_eq_getElem?_getD, List.getElem?_append_left hlt, ← List.getD_eq_getElem?_getD]
    exact hw.step hg hat
  · have e : i = ws.length := by simp at hi; omega
    subst e
    refine ⟨u, by rw [← hus]; simp, ?_⟩
    rw [List.getD_eq_getElem?_getD]
    simp only [List.getElem?_concat_length, Option.getD_some]
    exact hx.step hg hat
theorem out_words {B : Nat} {w : World} {v : Value} {ws : List (List Int)} {us : List Value} (h : OutU B w v ws us) : WordsN w v ws := by
  obtain ⟨hown, hi⟩ := h
  have h' := hown
  rcases hown.2 with ⟨hv, h0⟩ | ⟨g, cap, cur, hv, hB, _, hc, hm, _⟩
  · subst hv
    exact ⟨none, 0, by rw [h0], fun _ => rfl, fun i hi => by omega⟩
  · subst hv
    refine ⟨_, cap, rfl, fun e => (by cases e), fun i hlt => ?_⟩
    obtain ⟨u, hu, hw⟩ := hi i hlt
    exact ⟨_, u, rfl, own_lt h', own_cells' h' i u hu, hw.wordN⟩
theorem out_row {B : Nat} {w : World} {v : Value} {ws : List (List Int)} {us : List Value} (h : OutU B w v ws us) : ∀ k, v.ownBlock = some k → B ≤ k := fun k hk => (h.1.lt k hk).1
theorem out_lt {B : Nat} {w : World} {v : Value} {ws : List (List Int)} {us : List Value} (h : OutU B w v ws us) : ∀ k, v.ownBlock = some k → k < w.heap.size := fun k hk => (h.1.lt k hk).2
/-- laid in order, with what is still to come -/
def insN (a : List Int) : Bool → List (List Int) → List (List Int)
  | d, [] => if d then [] else [a]
  | d, b :: L => if !d && ltW a b then a :: b :: insN a true L else b :: insN a d L
theorem insN_true (a : List Int) : ∀ (L : List (List Int)), insN a true L = L
  | [] => by simp [insN]
  | b :: L => by simp [insN, insN_true a L]
theorem insN_ins (a : List Int) : ∀ (L : List (List Int)), a ∉ L → insN a false L = insW a L
  | [], _ => by simp [insN, insW]
  | b :: L, h => by
    simp only [List.mem_cons, not_or] at h
    unfold insN insW
    cases h1 : ltW a b with
    | true => simp [insN_true]
    | false =>
      cases h2 : ltW b a with
      | true => simp [insN_ins a L h.2]
      | false => exact absurd (ltW_same h1 h2) h.1
theorem insW_in {a : List Int} {L : List (List Int)} (h : Up L) (ha : a ∈ L) : insW a L = L := by
  refine Up.unique (up_insW h) h fun x => ?_
  rw [mem_insW]
  constructor
  · rintro (e | e)
    · rw [e]; exact ha
    · exact e
  · exact .inr
theorem insN_at (a : List Int) (d : Bool) (L : List (List Int)) (k : Nat) (h : k < L.length) : insN a d (L.drop k) = if !d && ltW a (L.getD k []) then a :: L.getD k [] :: insN a true (L.drop (k + 1)) else L.getD k [] :: insN a d (L.drop (k + 1)) := by
  rw [List.drop_eq_getElem_cons h, List.getD_eq_getElem?_getD, List.getElem?_eq_getElem h]
  rfl
set_option maxRecDepth 100000 in
set_option maxHeartbeats 1000000 in
theorem rhas_any (w : World) (v u : Value) (L : List (List Int)) (y : List Int) (hv : WordsAt w v L) (hu : WordAt w u y) (hL : L.length ≤ maxLen) (hy : y.length ≤ 1000) : Calls Try.prog 23 #[v, u] w fun e w' => e = .returned (.bool (decide (y ∈ L))) ∧ ∃ n, w' = w.drewN n := by
  unfold maxLen at hL
  obtain ⟨ao, ca, rfl, hc⟩ := hv
  have HC := Lib.hid hc
  have HU := Lib.hid hu
  clear hc hu
  go_enter Try.func23, Try.ntmps23
  go_wp2
  go_loopw [5] (fun i wr => ∃ k : Nat, i = .int .i64 k ∧ k ≤ L.length ∧ y ∉ L.take k ∧ Qt w wr) (fun i _ => L.length - (intOf i).toNat)
  case atStart => exact ⟨0, rfl, Nat.zero_le _, by simp, ⟨0, rfl⟩⟩
  case round =>
    obtain ⟨k, rfl, hk, htk, hq⟩ := hrel
    by_cases h2 : k < L.length
    · obtain ⟨a, va, rfl, hab, hca, hwa, hla⟩ := HC.out k h2
      have ca : wr.cell? (a.add k) = some va := (hq.cell _).trans hca
      have hsm := rsame_any wr va u _ _ (hwa.qt hq) (HU.out.qt hq) hla hy
      have hmem : L.getD k [] ∈ L := by rw [List.getD_eq_getElem?_getD, List.getElem?_eq_getElem h2]; exact List.getElem_mem h2
      have hmo : L.getD k [] ≠ y → y ∉ L.take (k + 1) := fun hne hm => by
        rw [List.take_succ_eq_append_getElem h2, List.mem_append] at hm
        rcases hm with hm | hm
        · exact htk hm
        · rw [List.getD_eq_getElem?_getD, List.getElem?_eq_getElem h2] at hne
          simp at hm
          exact hne hm.symm
      clear hca hwa hla
      generalize L.getD k [] = x at *
      have HM := Lib.hid hmo
      have HI := Lib.hid hmem
      clear hmo hmem htk
      by_cases he : x = y
      · subst he
        simp only [decide_true] at hsm
        go_wp2_with fail
        refine hsm.mono ?_
        rintro e w1 ⟨rfl, hq1⟩
        clear hsm
        go_wp2
        go_ret
        exact ⟨ret_bool (decide_eq_true HI.out).symm, hq.trans hq1⟩
      · rw [decide_eq_false he] at hsm
        go_wp2_with fail
        refine hsm.mono ?_
        rintro e w1 ⟨rfl, hq1⟩
        clear hsm
        go_wp2
        exact ⟨⟨k + 1, congrArg (Value.int .i64) (by omega), h2, HM.out he, hq.trans hq1⟩, by simp only [intOf]; omega⟩
    · obtain rfl : k = L.length := by omega
      rw [List.take_length] at htk
      have HX := Lib.hid htk
      clear htk
      go_wp2
      go_ret
      exact ⟨ret_bool (decide_eq_false HX.out).symm, hq⟩
end Go.Proofs.Ythcnffieoocnkaa.st

import Derived.Test.YtomikgkoegkofaaGreatDoorDvk
namespace Go.Proofs.YtomikgkoegkofaaGreatDoor.dv
open Go.ChangeShapes Go.WideShapes Go.ChangeAt Go.RowKit Go.Maps Go.WideMaps Go.WideElems
set_option linter.unusedVariables false
set_option linter.unusedSimpArgs false
/-! the word of a derivation -/
theorem row_own {w : World} {B n : Nat} {v : Value} {x : List Int} (h : w.ownsRow B 3 1 v n (IV x)) (hn : x.length = n) (hin : ∀ n ∈ x, In64 n) : RowAt w v x := by
  subst hn
  rcases h.2 with ⟨rfl, h0⟩ | ⟨g, cap, cur, rfl, _⟩
  · have : x = [] := List.length_eq_zero_iff.1 h0
    subst this
    exact ⟨none, 0, rfl, Nat.le_refl _, Nat.zero_le _, fun _ => rfl, hin, fun i hi => absurd hi (Nat.not_lt_zero _)⟩
  · obtain ⟨h1, h2⟩ := own_cap h
    refine ⟨_, cap, rfl, h1, h2, fun h => (by cases h), hin, fun i hi => ⟨_, rfl, own_lt h, own_cells' h i _ ?_⟩⟩
    simp [IV, List.getD_eq_getElem?_getD, List.getElem?_eq_getElem hi]
theorem RowAt.ins {w : World} {v : Value} {x : List Int} (h : RowAt w v x) : ∀ n ∈ x, In64 n := by
  obtain ⟨_, _, _, _, _, _, hin, _⟩ := h
  exact hin
def RulesIn (R : List Rl) : Prop := ∀ r ∈ R, r.right.length ≤ 8 ∧ ∀ n ∈ r.right, In64 n
theorem rules_in {B : Nat} {w : World} {v : Value} {R : List Rl} (h : RulesAt B w v R) (h8 : ∀ r ∈ R, r.right.length ≤ 8) : RulesIn R := by
  obtain ⟨ao, cap, e, _, hr⟩ := h
  intro r hm
  obtain ⟨k, hk, rfl⟩ := List.mem_iff_getElem.1 hm
  obtain ⟨a, _, _, ao2, c2, _, _, _, _, _, _, _, h8', _⟩ := hr k _ (List.getElem?_eq_getElem hk)
  exact ⟨h8 _ hm, h8'⟩
theorem ruleW_in {R : List Rl} (h : RulesIn R) (k : Int) : (ruleW R k).length ≤ 8 ∧ ∀ n ∈ ruleW R k, In64 n := by
  unfold ruleW
  rw [List.getD_eq_getElem?_getD]
  cases hk : R[k.toNat]? with
  | none => simp
  | some r => simpa using h r (List.mem_of_getElem? hk)
theorem tail_sub {l : List Int} {x : Int} (h : x ∈ l.tail) : x ∈ l := List.mem_of_mem_tail h
theorem stepL_in {R : List Rl} (h : RulesIn R) (F : List Int) (k : Int) (hF : ∀ n ∈ F, In64 n) : (∀ n ∈ stepL R F k, In64 n) ∧ (stepL R F k).length ≤ F.length + 8 := by
  have e := lead_rest F
  constructor
  · intro n hn
    unfold stepL at hn
    rcases List.mem_append.1 hn with h1 | h1
    · exact hF n (by rw [← e]; exact List.mem_append_left _ h1)
    · rcases List.mem_append.1 h1 with h1 | h1
      · exact (ruleW_in h k).2 n h1
      · exact hF n (by rw [← e]; exact List.mem_append_right _ (tail_sub h1))
  · have h1 := (ruleW_in h k).1
    have h2 := congrArg List.length e
    simp at h2
    unfold stepL
    simp
    omega
theorem repl_in {R : List Rl} (h : RulesIn R) : ∀ (ks F : List Int) (i : Nat), (∀ n ∈ F, In64 n) → (∀ n ∈ (replW R F ks i).1, In64 n) ∧ (replW R F ks i).1.length ≤ F.length + 8 * ks.length
  | [], F, i, hF => ⟨hF, by simp [replW]⟩
  | k :: ks, F, i, hF => by
    unfold replW
    by_cases hE : refW R (fvW F) k = 0
    · rw [if_pos hE]
      obtain ⟨h1, h2⟩ := stepL_in h F k hF
      obtain ⟨h3, h4⟩ := repl_in h ks (stepL R F k) (i + 1) h1
      exact ⟨h3, by simp; omega⟩
    · rw [if_neg hE]
      exact ⟨by simp, by simp⟩
def yieldW (R : List Rl) (F ks : List Int) : List Int × Int :=
  if (replW R F ks 0).2.2 = 0 then (if restW (replW R F ks 0).1 = [] then ((replW R F ks 0).1.map fun x => -1 - x, 0) else ([], 13)) else ([], (replW R F ks 0).2.2)
def YieldR (R : List Rl) (F ks : List Int) (w : World) : Ending → World → Prop := fun e w' => ∃ u, e = .returned (.tuple #[u, .int .i64 (yieldW R F ks).2]) ∧ ((yieldW R F ks).2 = 0 → w'.ownsRow w.heap.size 3 1 u (yieldW R F ks).1.length (IV (yieldW R F ks).1)) ∧ ((yieldW R F ks).2 ≠ 0 → u = .slice none 0 0) ∧ Below w.heap.size w w'
set_option maxRecDepth 100000 in
set_option maxHeartbeats 1000000 in
theorem yield_any (w : World) (B0 : Nat) (ta va : Option Addr) (tl tc vl vc : Nat) (rv v kv : Value) (R : List Rl) (F ks : List Int) (hR : RulesAt B0 w rv R) (hB : B0 ≤ w.heap.size) (h : RowAt w v F) (hk : RowAt w kv ks) (hks : ks.length ≤ 4096) (hF : F.length + 8 * ks.length ≤ 100000) (h8 : ∀ r ∈ R, r.right.length ≤ 8) :
    Calls Tryz.prog 21 #[.agg #[.slice ta tl tc, .slice va vl vc, rv], v, kv] w (YieldR R F ks w) := by
  have hri := rules_in hR h8
  have hin : ∀ n ∈ F, In64 n := h.ins
  obtain ⟨ra, rc, rfl, hn, hrl⟩ := id hR
  have b0 := Blk.new w 25 #[.slice ta tl tc, .slice va vl vc, .slice ra R.length rc]
  have c0 := b0.cell 0
  have c1 := b0.cell 1
  have c2 := b0.cell 2
  simp only [List.getElem?_toArray, List.getElem?_cons_zero, List.getElem?_cons_succ] at c0 c1 c2
  have hbl : Below w.heap.size w (w.alloc (.cells #[.slice ta tl tc, .slice va vl vc, .slice ra R.length rc] 25)) := (Below.refl _ w).alloc (Nat.le_refl _) _
  have hrep := replay_any (w.alloc (.cells #[.slice ta tl tc, .slice va vl vc, .slice ra R.length rc] 25)) B0 ta va tl tc vl vc (.slice ra R.length rc) v kv R F ks (hR.below (hbl.mono hB)) (by simp; omega) (h.below hbl) (hk.below hbl) hks hF h8
  obtain ⟨hin2, hlen2⟩ := repl_in hri ks F 0 hin
  have hz : (w.alloc (.cells #[.slice ta tl tc, .slice va vl vc, .slice ra R.length rc] 25)).heap.size = w.heap.size + 1 := by simp
  have hY : yieldW R F ks = if (replW R F ks 0).2.2 = 0 then (if restW (replW R F ks 0).1 = [] then ((replW R F ks 0).1.map fun x => -1 - x, 0) else ([], 13)) else ([], (replW R F ks 0).2.2) := rfl
  have HY := Lib.hid hY
  clear hY
  unfold ReplR at hrep
  generalize hr : replW R F ks 0 = Q at *
  obtain ⟨G, at_, E⟩ := Q
  dsimp only at hrep hin2 hlen2
  obtain ⟨ao, cap, rfl, _⟩ := h
  obtain ⟨ko, kcap, rfl, _⟩ := hk
  clear hR hrl hr
  go_enter Tryz.func21, Tryz.ntmps21
  go_wp2_with fail
  refine hrep.mono ?_
  rintro e w1 ⟨u, rfl, ho1, hu1, hb1⟩
  by_cases hE : E = 0
  · have ho := ho1 hE
    have hro := row_own ho rfl hin2
    have hle := lead_any w1 u G hro (by omega)
    have hbw : Below w.heap.size w w1 := hbl.trans (hb1.mono (by omega))
    obtain ⟨uo, uc, rfl⟩ := own_len ho
    by_cases hre : restW G = []
    · have e1 : idxW G = -1 := by unfold idxW; rw [if_pos hre]
      have e2 : leadW G = G := by have := lead_rest G; rwa [hre, List.append_nil] at this
      rw [e1, e2] at hle
      have hfin : yieldW R F ks = (G.map fun x => -1 - x, 0) := by rw [HY.out, if_pos hE, if_pos hre]
      have HFIN := Lib.hid hfin
      clear hfin
      subst hE
      go_wp2_with fail
      refine hle.mono ?_
      rintro e w2 ⟨u2, rfl, ho2, hb2⟩
      go_wp2
      refine bodyPost_ret (v := .tuple #[u2, .int .i64 0]) (by simp [results, Tryz.results21, go_sem]) rfl ?_
      unfold YieldR
      rw [HFIN.out]
      refine ⟨u2, rfl, fun _ => ?_, fun h => absurd rfl h, hbw.trans (hb2.mono hbw.size)⟩
      have := own_weak (base' := w.heap.size) ho2 hbw.size
      simpa using this
    · have e1 : idxW G = ((leadW G).length : Int) := by unfold idxW; rw [if_neg hre]
      rw [e1] at hle
      have hfin : yieldW R F ks = ([], 13) := by rw [HY.out, if_pos hE, if_neg hre]
      have HFIN := Lib.hid hfin
      clear hfin
      subst hE
      generalize (leadW G).length = m at *
      go_wp2_with fail
      refine hle.mono ?_
      rintro e w2 ⟨u2, rfl, ho2, hb2⟩
      go_wp2
      refine bodyPost_ret (v := .tuple #[.slice none 0 0, .int .i64 13]) (by simp [results, Tryz.results21, go_sem]) rfl ?_
      unfold YieldR
      rw [HFIN.out]
      exact ⟨_, rfl, fun h => absurd h (by decide), fun h => rfl, hbw.trans (hb2.mono hbw.size)⟩
  · have hfin : yieldW R F ks = ([], E) := by rw [HY.out, if_neg hE]
    have HFIN := Lib.hid hfin
    clear hfin
    obtain rfl := hu1 hE
    go_wp2
    refine bodyPost_ret (v := .tuple #[.slice none 0 0, .int .i64 E]) (by simp [results, Tryz.results21, go_sem]) rfl ?_
    unfold YieldR
    rw [HFIN.out]
    exact ⟨_, rfl, fun h => absurd h hE, fun h => rfl, hbl.trans (hb1.mono (by omega))⟩
end Go.Proofs.YtomikgkoegkofaaGreatDoor.dv

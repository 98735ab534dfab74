import Derived.Test.YtomikgkoegkofaaTtb
import Derived.BigQuiet
import Derived.Deep.QuietTactic
import Derived.Test.YtomikgkoegkofaaDvt
namespace Go.Proofs.Ytomikgkoegkofaa.dt
open Go.ChangeShapes Go.WideShapes Go.ChangeAt Go.RowKit Go.Maps Go.WideMaps Go.WideElems Go.Shelf Go.Proofs.Ytomikgkoegkofaa.dv
set_option linter.unusedVariables false
set_option linter.unusedSimpArgs false
/-! the same trees -/
/-- a row of nodes, to be read -/
def PtrRow (w : World) (ao : Option Addr) (kb : List Nat) : Prop := ∀ j, j < kb.length → ∃ a : Addr, ao = some a ∧ w.cell? (a.add j) = some (PtrV (kb.getD j 0))
theorem ptr_row {w : World} {v : Value} {kb : List Nat} (h : w.ownsRow 0 53 1 v kb.length (PV kb)) : ∃ ao cap, v = .slice ao kb.length cap ∧ PtrRow w ao kb := by
  obtain ⟨ao, cap, e, hr⟩ := kids_row (Bs := 0) h
  refine ⟨ao, cap, e, fun j hj => ?_⟩
  obtain ⟨a, e1, _, _, hc⟩ := hr j hj
  exact ⟨a, e1, hc⟩
set_option maxHeartbeats 1000000 in
theorem areOf1_any (w : World) (b : Nat) (s x : Int) (h : w.cell? ⟨b, 0, none⟩ = some (.int .i64 s)) : Calls Try.prog 92 #[PtrV b, .int .i64 x] w fun e w' => e = .returned (.bool (decide (s = x))) ∧ w' = w := by
  unfold PtrV
  by_cases hx : s = x
  · subst hx
    have h1 : (s == s) = true := by simp
    rw [decide_eq_true rfl]
    go_enter Try.func92, Try.ntmps92
    go_wp2
    go_ret
    exact ⟨rfl, rfl⟩
  · have h1 : (s == x) = false := by simpa using hx
    rw [decide_eq_false hx]
    go_enter Try.func92, Try.ntmps92
    go_wp2
    go_ret
    exact ⟨rfl, rfl⟩
theorem take_all {xs ys : List Int} {k : Nat} (h : xs.take k = ys.take k) (h1 : k = xs.length) (h2 : k = ys.length) : xs = ys := by
  have e1 := List.take_length (l := xs)
  have e2 := List.take_length (l := ys)
  rw [← h1] at e1
  rw [← h2] at e2
  rw [← e1, h, e2]
set_option maxRecDepth 100000 in
set_option maxHeartbeats 2000000 in
theorem equalNI_any (w : World) (ao so : Option Addr) (kb : List Nat) (ks syms : List Int) (cap sc : Nat) (hkl : ks.length = kb.length) (hk : PtrRow w ao kb) (hkc : ∀ j, j < kb.length → w.cell? ⟨kb.getD j 0, 0, none⟩ = some (.int .i64 (ks.getD j 0)))
    (hs : ∀ j, j < syms.length → ∃ a : Addr, so = some a ∧ w.cell? (a.add j) = some (.int .i64 (syms.getD j 0))) (hm : kb.length ≤ maxLen) (hm2 : syms.length ≤ maxLen) :
    Calls Try.prog 91 #[.slice ao kb.length cap, .slice so syms.length sc, .func (.func 92) #[] #[]] w fun e w' => e = .returned (.bool (decide (ks = syms))) ∧ w' = w := by
  unfold maxLen at hm hm2
  obtain ⟨ans, hans⟩ : ∃ ans, ans = decide (ks = syms) := ⟨_, rfl⟩
  rw [← hans]
  have HAN := Lib.hid hans
  clear hans
  by_cases hl : kb.length = syms.length
  · have HL := Lib.hid hl
    have HKL := Lib.hid hkl
    have h1 : ((kb.length : Int) != (syms.length : Int)) = false := by rw [hl]; simp
    have HK := Lib.hid hk
    have HKC := Lib.hid hkc
    have HS := Lib.hid hs
    clear hl hkl hk hkc hs
    go_enter Try.func91, Try.ntmps91
    go_wp2
    go_loopw [17] (fun i wr => ∃ k : Nat, k ≤ kb.length ∧ i = .int .i64 k ∧ ks.take k = syms.take k ∧ wr = w) (fun i _ => kb.length - (intOf i).toNat)
    case atStart => exact ⟨0, Nat.zero_le _, rfl, by simp, rfl⟩
    case round =>
      obtain ⟨k, hkk, rfl, htk, rfl⟩ := hrel
      by_cases hlt : k < kb.length
      · obtain ⟨a, rfl, hca⟩ := HK.out k hlt
        have hcs := HKC.out k hlt
        have hlt2 : k < syms.length := by have := HL.out; omega
        obtain ⟨a2, rfl, hca2⟩ := HS.out k hlt2
        have HT := Lib.hid htk
        have hi1 : (k : Int) < (syms.length : Int) := by omega
        clear htk
        by_cases hx : ks.getD k 0 = syms.getD k 0
        · have HN := Lib.hid (take_more (by have := HKL.out; omega) hlt2 HT.out hx)
          have hct := areOf1_any wr (kb.getD k 0) (ks.getD k 0) (syms.getD k 0) hcs
          rw [decide_eq_true hx] at hct
          clear hx hcs
          generalize syms.getD k 0 = y at *
          generalize ks.getD k 0 = x at *
          generalize kb.getD k 0 = b at *
          unfold PtrV at hca hct
          go_wp2_with (go_at_call 92; refine hct.mono ?_; rintro e w1 ⟨rfl, rfl⟩)
          exact ⟨⟨k + 1, hlt, congrArg (Value.int .i64) (by omega), HN.out, trivial⟩, by simp only [intOf]; omega⟩
        · obtain rfl : ans = false := by rw [HAN.out]; exact decide_eq_false (fun e => hx (by rw [e]))
          have hct := areOf1_any wr (kb.getD k 0) (ks.getD k 0) (syms.getD k 0) hcs
          rw [decide_eq_false hx] at hct
          clear hx hcs
          generalize syms.getD k 0 = y at *
          generalize ks.getD k 0 = x at *
          generalize kb.getD k 0 = b at *
          unfold PtrV at hca hct
          go_wp2_with (go_at_call 92; refine hct.mono ?_; rintro e w1 ⟨rfl, rfl⟩)
          go_ret
          exact ⟨rfl, rfl⟩
      · have hkk2 : k = kb.length := by omega
        subst hkk2
        obtain rfl : ans = true := by rw [HAN.out]; exact decide_eq_true (take_all htk (by have := HKL.out; omega) (by have := HL.out; omega))
        clear htk
        go_wp2
        go_ret
        exact ⟨rfl, rfl⟩
  · have h1 : ((kb.length : Int) != (syms.length : Int)) = true := by simp; omega
    obtain rfl : ans = false := by rw [HAN.out]; exact decide_eq_false (fun e => hl (by rw [← hkl, e]))
    clear hl hkl hk hkc hs
    go_enter Try.func91, Try.ntmps91
    go_wp2
    go_ret
    exact ⟨rfl, rfl⟩
set_option maxHeartbeats 1000000 in
theorem areOf_any (w : World) (ao so : Option Addr) (kb : List Nat) (ks syms : List Int) (cap sc : Nat) (hkl : ks.length = kb.length) (hk : PtrRow w ao kb) (hkc : ∀ j, j < kb.length → w.cell? ⟨kb.getD j 0, 0, none⟩ = some (.int .i64 (ks.getD j 0)))
    (hs : ∀ j, j < syms.length → ∃ a : Addr, so = some a ∧ w.cell? (a.add j) = some (.int .i64 (syms.getD j 0))) (hm : kb.length ≤ maxLen) (hm2 : syms.length ≤ maxLen) :
    Calls Try.prog 84 #[.slice ao kb.length cap, .slice so syms.length sc] w fun e w' => e = .returned (.bool (decide (ks = syms))) ∧ w' = w := by
  have h := equalNI_any w ao so kb ks syms cap sc hkl hk hkc hs hm hm2
  clear hk hkc hs
  go_enter Try.func84, Try.ntmps84
  go_wp2_with (go_at_call 91; refine h.mono ?_; rintro e w1 ⟨rfl, rfl⟩)
  go_ret
  exact ⟨rfl, rfl⟩
/-- answers for pairs of nodes, whatever is drawn -/
def Pairs (w : World) (kb kc : List Nat) (bs : Nat → Bool) : Prop := ∀ j, j < kb.length → j < kc.length → ∀ m, Calls Try.prog 38 #[PtrV (kb.getD j 0), PtrV (kc.getD j 0)] (w.drewN m) fun e w' => e = .returned (.bool (bs j)) ∧ ∃ q, w' = (w.drewN m).drewN q
set_option maxRecDepth 100000 in
set_option maxHeartbeats 2000000 in
theorem equalNN_any (w : World) (ao so : Option Addr) (kb kc : List Nat) (bs : Nat → Bool) (ans : Bool) (cap sc : Nat) (hk : PtrRow w ao kb) (hs : PtrRow w so kc) (hp : Pairs w kb kc bs) (hm : kb.length ≤ maxLen) (hm2 : kc.length ≤ maxLen)
    (hans : ans = true ↔ (kb.length = kc.length ∧ ∀ j, j < kb.length → bs j = true)) :
    Calls Try.prog 68 #[.slice ao kb.length cap, .slice so kc.length sc, .func (.func 38) #[] #[]] w fun e w' => e = .returned (.bool ans) ∧ ∃ q, w' = w.drewN q := by
  unfold maxLen at hm hm2
  by_cases hl : kb.length = kc.length
  · have HL := Lib.hid hl
    have h1 : ((kb.length : Int) != (kc.length : Int)) = false := by rw [hl]; simp
    have HA := Lib.hid hans
    have HK := Lib.hid hk
    have HS := Lib.hid hs
    have HP := Lib.hid hp
    clear hl hk hs hp hans
    go_enter Try.func68, Try.ntmps68
    go_wp2
    go_loopw [17] (fun i wr => ∃ k n : Nat, k ≤ kb.length ∧ i = .int .i64 k ∧ (∀ j, j < k → bs j = true) ∧ wr = w.drewN n) (fun i _ => kb.length - (intOf i).toNat)
    case atStart => exact ⟨0, 0, Nat.zero_le _, rfl, fun j hj => absurd hj (Nat.not_lt_zero _), rfl⟩
    case round =>
      obtain ⟨k, n, hkk, rfl, hall, rfl⟩ := hrel
      have HALL := Lib.hid hall
      clear hall
      by_cases hlt : k < kb.length
      · obtain ⟨a, rfl, hca⟩ := HK.out k hlt
        have hlt2 : k < kc.length := by have := HL.out; omega
        obtain ⟨a2, rfl, hca2⟩ := HS.out k hlt2
        have hi1 : (k : Int) < (kc.length : Int) := by omega
        have hct := HP.out k hlt hlt2 n
        replace hca : (w.drewN n).cell? (a.add k) = some (PtrV (kb.getD k 0)) := hca
        replace hca2 : (w.drewN n).cell? (a2.add k) = some (PtrV (kc.getD k 0)) := hca2
        generalize kc.getD k 0 = c at *
        generalize kb.getD k 0 = b at *
        unfold PtrV at hca hca2 hct
        by_cases hx : bs k = true
        · rw [hx] at hct
          have HX := Lib.hid hx
          clear hx
          go_wp2_with (go_at_call 38; refine hct.mono ?_; rintro e w1 ⟨rfl, q, rfl⟩)
          refine ⟨⟨k + 1, n + q, hlt, congrArg (Value.int .i64) (by omega), fun j hj => ?_, rfl⟩, by simp only [intOf]; omega⟩
          rcases Nat.lt_or_ge j k with h | h
          · exact HALL.out j h
          · obtain rfl : j = k := by omega
            exact HX.out
        · have hf : bs k = false := by simpa using hx
          rw [hf] at hct
          obtain rfl : ans = false := by
            cases ans with
            | false => rfl
            | true => exact absurd ((HA.out.1 rfl).2 k hlt) hx
          clear hx hf
          go_wp2_with (go_at_call 38; refine hct.mono ?_; rintro e w1 ⟨rfl, q, rfl⟩)
          go_ret
          exact ⟨rfl, _, rfl⟩
      · have hkk2 : k = kb.length := by omega
        subst hkk2
        obtain rfl : ans = true := HA.out.2 ⟨HL.out, HALL.out⟩
        go_wp2
        go_ret
        exact ⟨rfl, _, rfl⟩
  · have h1 : ((kb.length : Int) != (kc.length : Int)) = true := by simp; omega
    obtain rfl : ans = false := by
      cases ans with
      | false => rfl
      | true => exact absurd (hans.1 rfl).1 hl
    clear hl hk hs hp hans
    go_enter Try.func68, Try.ntmps68
    go_wp2
    go_ret
    exact ⟨rfl, 0, rfl⟩
end Go.Proofs.Ytomikgkoegkofaa.dt
namespace Go.Proofs.Ytomikgkoegkofaa.dt
open Go.ChangeShapes Go.WideShapes Go.ChangeAt Go.RowKit Go.Maps Go.WideMaps Go.WideElems Go.Shelf Go.Proofs.Ytomikgkoegkofaa.dv
set_option linter.unusedVariables false
set_option linter.unusedSimpArgs false
/-! Same, of trees -/
def Fo.sgl : Fo → Fo
  | .nil => .nil
  | .node s r k _ => .node s r k .nil
theorem Fo.same_at : ∀ f g : Fo, f.same g = true ↔ (f.len = g.len ∧ ∀ j, j < f.len → ((f.drop j).sgl).same ((g.drop j).sgl) = true)
  | .nil, .nil => by simp [Fo.same, Fo.len]
  | .nil, .node _ _ _ _ => by simp [Fo.same, Fo.len]
  | .node _ _ _ _, .nil => by simp [Fo.same, Fo.len]
  | .node s r k f, .node s' r' k' g => by
    have ih := Fo.same_at f g
    constructor
    · intro h
      have h1 := (Fo.same_iff _ _).1 h
      cases h1
      exact ⟨rfl, fun j _ => (Fo.same_iff _ _).2 rfl⟩
    · rintro ⟨h1, h2⟩
      have h3 := h2 0 (by simp [Fo.len])
      have e := (Fo.same_iff _ _).1 h3
      simp only [Fo.drop, Fo.sgl, Fo.node.injEq, and_true] at e
      obtain ⟨rfl, rfl, rfl⟩ := e
      have h4 : f.same g = true := ih.2 ⟨by simp [Fo.len] at h1; exact h1, fun j hj => by
        have := h2 (j + 1) (by simp [Fo.len]; omega)
        simpa [Fo.drop] using this⟩
      rw [(Fo.same_iff _ _).1 h4]
      exact (Fo.same_iff _ _).2 rfl
theorem Fo.sgl_size (f : Fo) : f.sgl.size ≤ f.size := by
  cases f with
  | nil => exact Nat.le_refl _
  | node s r k f => simp only [Fo.sgl, Fo.size]; omega
set_option maxRecDepth 100000 in
set_option maxHeartbeats 4000000 in
theorem same_tree (w : World) : ∀ (N : Nat) (s r s' r' : Int) (k k' : Fo) (b c : Nat), k.size < N → FoAt w [b] (.node s r k .nil) → FoAt w [c] (.node s' r' k' .nil) → k.size ≤ 999999 → k'.size ≤ 999999 →
    ∀ m, Calls Try.prog 38 #[PtrV b, PtrV c] (w.drewN m) fun e w' => e = .returned (.bool ((Fo.node s r k .nil).same (.node s' r' k' .nil))) ∧ ∃ q, w' = (w.drewN m).drewN q := by
  intro N
  induction N with
  | zero => intro s r s' r' k k' b c h; omega
  | succ N ih =>
    intro s r s' r' k k' b c hN hb hc hz hz' m
    have hans : (Fo.node s r k .nil).same (.node s' r' k' .nil) = ((decide (s = s') && decide (r = r')) && k.same k') := by simp [Fo.same]
    rw [hans]
    obtain ⟨_, _, v, kb, _, _, e1, b1, o1, f1, _⟩ := hb.first
    obtain ⟨_, _, v', kc, _, _, e2, b2, o2, f2, _⟩ := hc.first
    cases e1
    cases e2
    obtain ⟨ao, cap, rfl, hr1⟩ := ptr_row o1
    obtain ⟨so, sc, rfl, hr2⟩ := ptr_row o2
    have hl1 := f1.len
    have hl2 := f2.len
    have hs1 := Fo.len_size k
    have hs2 := Fo.len_size k'
    have hp : Pairs w kb kc (fun j => ((k.drop j).sgl).same ((k'.drop j).sgl)) := fun j hj hj' m' => by
      obtain ⟨s1, r1, k1, d1, g1, _⟩ := f1.at_ j hj
      obtain ⟨s2, r2, k2, d2, g2, _⟩ := f2.at_ j hj'
      have z1 := Fo.drop_size j k
      have z2 := Fo.drop_size j k'
      rw [d1] at z1
      rw [d2] at z2
      simp only [Fo.size] at z1 z2
      have := ih s1 r1 s2 r2 k1 k2 _ _ (by omega) g1 g2 (by omega) (by omega) m'
      simp only [d1, d2, Fo.sgl]
      exact this
    have hq : ∀ m', Calls Try.prog 68 #[.slice ao kb.length cap, .slice so kc.length sc, .func (.func 38) #[] #[]] (w.drewN m') fun e w' => e = .returned (.bool (k.same k')) ∧ ∃ q, w' = (w.drewN m').drewN q := fun m' =>
      equalNN_any (w.drewN m') ao so kb kc _ (k.same k') cap sc hr1 hr2 (fun j h1 h2 m2 => by rw [World.drewN_drewN]; exact hp j h1 h2 (m' + m2)) (by unfold maxLen; omega) (by unfold maxLen; omega) (by rw [Fo.same_at, hl1, hl2])
    clear hp ih hr1 hr2 o1 o2 f1 f2 hb hc hans hl1 hl2 hs1 hs2
    have c0 : (w.drewN m).cell? ⟨b, 0, none⟩ = some (.int .i64 s) := b1.cell 0
    have c1 : (w.drewN m).cell? ⟨b, 1, none⟩ = some (.int .i64 r) := b1.cell 1
    have c2 : (w.drewN m).cell? ⟨b, 2, none⟩ = some (.slice ao kb.length cap) := b1.cell 2
    have d0 : (w.drewN m).cell? ⟨c, 0, none⟩ = some (.int .i64 s') := b2.cell 0
    have d1 : (w.drewN m).cell? ⟨c, 1, none⟩ = some (.int .i64 r') := b2.cell 1
    have d2 : (w.drewN m).cell? ⟨c, 2, none⟩ = some (.slice so kc.length sc) := b2.cell 2
    replace hq : ∀ n, Calls Try.prog 68 #[.slice ao kb.length cap, .slice so kc.length sc, .func (.func 38) #[] #[]] ((w.drewN m).drewN n) fun e w' => e = .returned (.bool (k.same k')) ∧ ∃ q, w' = ((w.drewN m).drewN n).drewN q := fun n => by
      rw [World.drewN_drewN]
      exact hq (m + n)
    have HQ := Lib.hid hq
    clear b1 b2 hq
    generalize w.drewN m = w1 at *
    generalize k.same k' = ans at *
    unfold PtrV
    by_cases h1 : s = s'
    · subst h1
      by_cases h2 : r = r'
      · subst h2
        have g1 : (s == s) = true := by simp
        have g2 : (r == r) = true := by simp
        simp only [decide_true, Bool.true_and]
        go_enter Try.func38, Try.ntmps38
        go_wp2
        go_quiet (first | (go_at_call 68; exact Calls.quiet_of (HQ.out _)))
        go_wp2
        go_ret
        exact ⟨rfl, _, rfl⟩
      · have g1 : (s == s) = true := by simp
        have g2 : (r == r') = false := by simpa using h2
        simp only [decide_eq_false h2, Bool.and_false, Bool.false_and]
        go_enter Try.func38, Try.ntmps38
        go_wp2
        go_quiet (fail)
        go_wp2
        go_ret
        exact ⟨rfl, _, rfl⟩
    · have g1 : (s == s') = false := by simpa using h1
      simp only [decide_eq_false h1, Bool.false_and]
      go_enter Try.func38, Try.ntmps38
      go_wp2
      go_quiet (fail)
      go_wp2
      go_ret
      exact ⟨rfl, _, rfl⟩
theorem same_fo (w : World) (b c : Nat) (s r s' r' : Int) (k k' : Fo) (hb : FoAt w [b] (.node s r k .nil)) (hc : FoAt w [c] (.node s' r' k' .nil)) (hz : k.size ≤ 999999) (hz' : k'.size ≤ 999999) :
    Calls Try.prog 38 #[PtrV b, PtrV c] w fun e w' => e = .returned (.bool ((Fo.node s r k .nil).same (.node s' r' k' .nil))) ∧ ∃ q, w' = w.drewN q := same_tree w (k.size + 1) s r s' r' k k' b c (Nat.lt_succ_self _) hb hc hz hz' 0
end Go.Proofs.Ytomikgkoegkofaa.dt
namespace Go.Proofs.Ytomikgkoegkofaa.dt
open Go.ChangeShapes Go.WideShapes Go.ChangeAt Go.RowKit Go.Maps Go.WideMaps Go.WideElems Go.Shelf Go.Proofs.Ytomikgkoegkofaa.dv
set_option linter.unusedVariables false
set_option linter.unusedSimpArgs false
/-! whether a node fits -/
def fitB (tl : Nat) (R : List Rl) (s r : Int) (syms : List Int) : Bool := if s < 0 then decide (-1 - s < (tl : Int)) && (decide (r = -1) && decide (syms = [])) else decide (refW R s r = 0) && decide (syms = ruleW R r)
set_option maxRecDepth 100000 in
set_option maxHeartbeats 4000000 in
theorem fits_any (w : World) (B0 b : Nat) (s r : Int) (v : Value) (kb : List Nat) (ks : List Int) (ta va ra : Option Addr) (tl tc vl vc rc : Nat) (R : List Rl) (h64 : In64 s) (hb : Blk w b 65 #[.int .i64 s, .int .i64 r, v]) (ho : w.ownsRow 0 53 1 v kb.length (PV kb)) (hkl : ks.length = kb.length)
    (hkc : ∀ j, j < kb.length → w.cell? ⟨kb.getD j 0, 0, none⟩ = some (.int .i64 (ks.getD j 0))) (hkm : kb.length ≤ 999999) (hR : RulesAt B0 w (.slice ra R.length rc) R) (hB0 : B0 ≤ w.heap.size) (ht : tl ≤ maxLen) :
    Calls Try.prog 67 #[PtrV b, .agg #[.slice ta tl tc, .slice va vl vc, .slice ra R.length rc]] w fun e w' => e = .returned (.bool (fitB tl R s r ks)) ∧ Below w.heap.size w w' := by
  have b0 := Blk.new w 25 #[.slice ta tl tc, .slice va vl vc, .slice ra R.length rc]
  have hbl : Below w.heap.size w (w.alloc (.cells #[.slice ta tl tc, .slice va vl vc, .slice ra R.length rc] 25)) := below_lit _ _ _
  have hbn := hb.alloc (.cells #[.slice ta tl tc, .slice va vl vc, .slice ra R.length rc] 25)
  obtain ⟨ao, cap, rfl, hrow0⟩ := ptr_row ho
  have hrow : PtrRow (w.alloc (.cells #[.slice ta tl tc, .slice va vl vc, .slice ra R.length rc] 25)) ao kb := by
    obtain ⟨ao', cap', e, h⟩ := ptr_row (ho.alloc (.cells #[.slice ta tl tc, .slice va vl vc, .slice ra R.length rc] 25))
    cases e
    exact h
  have hkc1 : ∀ j, j < kb.length → (w.alloc (.cells #[.slice ta tl tc, .slice va vl vc, .slice ra R.length rc] 25)).cell? ⟨kb.getD j 0, 0, none⟩ = some (.int .i64 (ks.getD j 0)) := fun j hj => by
    have hc := hkc j hj
    refine (World.cell?_alloc_lt w _ ⟨kb.getD j 0, 0, none⟩ ?_).trans hc
    show kb.getD j 0 < w.heap.size
    generalize kb.getD j 0 = q at *
    unfold World.cell? at hc
    dsimp only at hc
    cases hh : w.heap[q]? with
    | none => rw [hh] at hc; cases hc
    | some o => exact (Array.getElem?_eq_some_iff.1 hh).1
  have hR1 := hR.below (hbl.mono hB0)
  obtain ⟨_, _, e, hn, _⟩ := id hR
  cases e
  unfold maxLen at hn ht
  have c0 := b0.cell 0
  have c2 := b0.cell 2
  have d0 := hbn.cell 0
  have d1 := hbn.cell 1
  have d2 := hbn.cell 2
  simp only [List.getElem?_toArray, List.getElem?_cons_zero, List.getElem?_cons_succ] at c0 c2 d0 d1 d2
  have hz : w.heap.size < (w.alloc (.cells #[.slice ta tl tc, .slice va vl vc, .slice ra R.length rc] 25)).heap.size := by simp
  clear hrow0 hkc hR ho hb hbn
  generalize hW : w.alloc (.cells #[.slice ta tl tc, .slice va vl vc, .slice ra R.length rc] 25) = w0 at *
  have hiv := isVar_any w0 s
  have hx := cm_if s h64
  have HBL := Lib.hid hbl
  have HROW := Lib.hid hrow
  have HKC := Lib.hid hkc1
  have HR := Lib.hid hR1
  have HKL := Lib.hid hkl
  clear hbl hrow hkc1 hR1 b0 hkl
  unfold PtrV
  by_cases hs : s < 0
  · rw [decide_eq_false (by omega)] at hiv
    have hf : fitB tl R s r ks = (decide (-1 - s < (tl : Int)) && (decide (r = -1) && decide (ks = []))) := by unfold fitB; rw [if_pos hs]
    rw [hf]
    by_cases h1 : -1 - s < (tl : Int)
    · have g1 : decide (-1 - s < (tl : Int)) = true := decide_eq_true h1
      by_cases h2 : r = -1
      · subst h2
        have g2 : ((-1 : Int) == -1) = true := rfl
        by_cases h3 : kb.length = 0
        · have g3 : ((kb.length : Int) == 0) = true := by rw [h3]; rfl
          have e3 : ks = [] := List.eq_nil_of_length_eq_zero (by rw [HKL.out, h3])
          have e4 : (decide (-1 - s < (tl : Int)) && (decide ((-1 : Int) = -1) && decide (ks = []))) = true := by rw [e3, g1]; rfl
          rw [e4]
          clear hf e4 e3 h3
          go_enter Try.func67, Try.ntmps67
          go_wp2_with (go_at_call 47; refine hiv.mono ?_; rintro e w1 ⟨rfl, rfl⟩)
          go_quiet (fail)
          go_wp2
          go_ret
          exact ⟨rfl, below_drewN HBL.out _⟩
        · have g3 : ((kb.length : Int) == 0) = false := by simpa using h3
          have e3 : ks ≠ [] := fun e => h3 (by rw [← HKL.out, e]; rfl)
          have e4 : (decide (-1 - s < (tl : Int)) && (decide ((-1 : Int) = -1) && decide (ks = []))) = false := by rw [decide_eq_false e3]; simp
          rw [e4]
          clear hf e4 e3 h3
          go_enter Try.func67, Try.ntmps67
          go_wp2_with (go_at_call 47; refine hiv.mono ?_; rintro e w1 ⟨rfl, rfl⟩)
          go_quiet (fail)
          go_wp2
          go_ret
          exact ⟨rfl, below_drewN HBL.out _⟩
      · have g2 : (r == -1) = false := by simpa using h2
        have e4 : (decide (-1 - s < (tl : Int)) && (decide (r = -1) && decide (ks = []))) = false := by rw [decide_eq_false h2]; simp
        rw [e4]
        clear hf e4
        go_enter Try.func67, Try.ntmps67
        go_wp2_with (go_at_call 47; refine hiv.mono ?_; rintro e w1 ⟨rfl, rfl⟩)
        go_quiet (fail)
        go_wp2
        go_ret
        exact ⟨rfl, below_drewN HBL.out _⟩
    · have g1 : decide (-1 - s < (tl : Int)) = false := decide_eq_false h1
      have e4 : (decide (-1 - s < (tl : Int)) && (decide (r = -1) && decide (ks = []))) = false := by rw [g1]; rfl
      rw [e4]
      clear hf e4
      go_enter Try.func67, Try.ntmps67
      go_wp2_with (go_at_call 47; refine hiv.mono ?_; rintro e w1 ⟨rfl, rfl⟩)
      go_quiet (fail)
      go_wp2
      go_ret
      exact ⟨rfl, below_drewN HBL.out _⟩
  · rw [decide_eq_true (by omega)] at hiv
    have hf : fitB tl R s r ks = (decide (refW R s r = 0) && decide (ks = ruleW R r)) := by unfold fitB; rw [if_neg hs]
    rw [hf]
    by_cases h1 : r < 0
    · have g1 : decide (r < 0) = true := decide_eq_true h1
      have e4 : (decide (refW R s r = 0) && decide (ks = ruleW R r)) = false := by
        have : refW R s r = 12 := by
          unfold refW
          rw [if_neg (by unfold isRl; simp; omega)]
        rw [this]
        rfl
      rw [e4]
      clear hf e4
      go_enter Try.func67, Try.ntmps67
      go_wp2_with (go_at_call 47; refine hiv.mono ?_; rintro e w1 ⟨rfl, rfl⟩)
      go_quiet (fail)
      go_wp2
      go_ret
      exact ⟨rfl, below_drewN HBL.out _⟩
    · have g1 : decide (r < 0) = false := decide_eq_false h1
      by_cases h2 : r < (R.length : Int)
      · obtain ⟨kn, rfl⟩ : ∃ kn : Nat, r = kn := ⟨r.toNat, by omega⟩
        have hkn : kn < R.length := by omega
        have g2 : decide ((R.length : Int) ≤ (kn : Int)) = false := decide_eq_false (by omega)
        obtain ⟨a, rl, so, sc, rfl, hab, hrk, q0, q1, q2, hq1, hq2, hq3, hru, hq5, hq6⟩ := HR.out.at kn hkn
        have hgd : R.getD kn ⟨0, [], 0⟩ = rl := by rw [List.getD_eq_getElem?_getD, hrk]; rfl
        have hrw : ruleW R (kn : Int) = rl.right := by unfold ruleW; rw [Int.toNat_natCast, hgd]
        have hil : isRl R (kn : Int) = true := by unfold isRl; simp; omega
        have hrf : refW R s (kn : Int) = if rl.left = s then 0 else 14 := by
          unfold refW
          rw [if_pos hil, if_pos (by omega), Int.toNat_natCast, hgd]
        rw [hrw, hrf]
        have hknl : (kn : Int) < (R.length : Int) := by omega
        by_cases h3 : rl.left = s
        · have g3 : (rl.left != s) = false := by simpa using h3
          rw [if_pos h3]
          simp only [decide_true, Bool.true_and]
          have hq : ∀ n, Calls Try.prog 84 #[.slice ao kb.length cap, .slice so rl.right.length sc] (w0.drewN n) fun e w' => e = .returned (.bool (decide (ks = rl.right))) ∧ w' = w0.drewN n := fun n =>
            areOf_any (w0.drewN n) ao so kb ks rl.right cap sc HKL.out HROW.out HKC.out (fun j hj => by
              obtain ⟨a2, e1, _, e2⟩ := hru j hj
              exact ⟨a2, e1, e2⟩) (by unfold maxLen; omega) (by omega)
          have HQ := Lib.hid hq
          have HQQ : ∀ n m, Calls Try.prog 84 #[.slice ao kb.length cap, .slice so rl.right.length sc] ((w0.drewN n).drewN m) fun e w' => e = .returned (.bool (decide (ks = rl.right))) ∧ w' = (w0.drewN n).drewN m := fun n m => by
            rw [World.drewN_drewN]
            exact hq (n + m)
          have HQ2 := Lib.hid HQQ
          clear hq HQQ hru hf hrf hrw hgd hrk hq5
          generalize decide (ks = rl.right) = ans at *
          go_enter Try.func67, Try.ntmps67
          go_wp2_with (go_at_call 47; refine hiv.mono ?_; rintro e w1 ⟨rfl, rfl⟩)
          go_quiet (fail)
          go_wp2
          have hc : ∀ p : Addr, (w1.drewN nq).cell? p = w1.cell? p := fun p => rfl
          have d1' := (hc _).trans d1
          have d2' := (hc _).trans d2
          have c2' := (hc _).trans c2
          have q1' := (hc _).trans q1
          have HQ3 := Lib.hid (HQ2.out nq)
          have HBL2 := Lib.hid (below_drewN HBL.out nq)
          clear hc d0 d1 d2 c0 c2 q0 q1 q2 HQ HQ2 HBL
          generalize w1.drewN nq = w2 at *
          go_quiet (first | (go_at_call 84; exact Calls.quiet_of_same (HQ3.out _)))
          go_wp2
          go_ret
          exact ⟨rfl, below_drewN HBL2.out _⟩
        · have g3 : (rl.left != s) = true := by simpa using h3
          rw [if_neg h3]
          clear hru hf hrf hrw hgd hrk hq5
          go_enter Try.func67, Try.ntmps67
          go_wp2_with (go_at_call 47; refine hiv.mono ?_; rintro e w1 ⟨rfl, rfl⟩)
          go_quiet (fail)
          go_wp2
          go_ret
          exact ⟨by first | rfl | simp, below_drewN HBL.out _⟩
      · have g2 : decide ((R.length : Int) ≤ r) = true := decide_eq_true (by omega)
        have e4 : (decide (refW R s r = 0) && decide (ks = ruleW R r)) = false := by
          have : refW R s r = 12 := by
            unfold refW
            rw [if_neg (by unfold isRl; simp; omega)]
          rw [this]
          rfl
        rw [e4]
        clear hf e4
        go_enter Try.func67, Try.ntmps67
        go_wp2_with (go_at_call 47; refine hiv.mono ?_; rintro e w1 ⟨rfl, rfl⟩)
        go_quiet (fail)
        go_wp2
        go_ret
        exact ⟨rfl, below_drewN HBL.out _⟩
end Go.Proofs.Ytomikgkoegkofaa.dt
namespace Go.Proofs.Ytomikgkoegkofaa.dt
open Go.ChangeShapes Go.WideShapes Go.ChangeAt Go.RowKit Go.Maps Go.WideMaps Go.WideElems Go.Shelf Go.Proofs.Ytomikgkoegkofaa.dv
set_option linter.unusedVariables false
set_option linter.unusedSimpArgs false
attribute [local go_sem] Oper.semAt_some
/-! Valid, of trees -/
def Fo.look : Fo → List (Int × Int × List Int)
  | .nil => []
  | .node s r k f => (s, r, k.syms) :: (k.look ++ f.look)
theorem Fo.look_all (p : Int → Int → List Int → Bool) : ∀ f : Fo, f.all p = f.look.all fun x => p x.1 x.2.1 x.2.2
  | .nil => rfl
  | .node s r k f => by simp [Fo.all, Fo.look, look_all p k, look_all p f, Bool.and_assoc]
theorem Fo.look_len : ∀ f : Fo, f.look.length = f.size
  | .nil => rfl
  | .node s r k f => by simp [Fo.look, Fo.size, look_len k, look_len f]
/-- a node, its symbol, its rule, its kids' symbols -/
structure NK (W : World) (x : Nd) (y : Int × Int × List Int) : Prop where
  sym : y.1 = x.sym
  rule : y.2.1 = x.rule
  kids : ∃ v kb, Blk W x.b 65 #[.int .i64 x.sym, .int .i64 x.rule, v] ∧ W.ownsRow 0 53 1 v kb.length (PV kb) ∧ y.2.2.length = kb.length ∧ ∀ j, j < kb.length → W.cell? ⟨kb.getD j 0, 0, none⟩ = some (.int .i64 (y.2.2.getD j 0))
theorem NK.kept {W W' : World} {x : Nd} {y : Int × Int × List Int} (h : NK W x y) (hb : Below W.heap.size W W') : NK W' x y := by
  obtain ⟨h1, h2, v, kb, h3, h4, h5, h6⟩ := h
  refine ⟨h1, h2, v, kb, h3.below hb h3.lt, ownsRow_keep h4 (fun g hg _ => hb.block g hg), h5, fun j hj => ?_⟩
  have hc := h6 j hj
  refine (hb.cell (p := ⟨kb.getD j 0, 0, none⟩) ?_).trans hc
  show kb.getD j 0 < W.heap.size
  generalize kb.getD j 0 = q at *
  unfold World.cell? at hc
  dsimp only at hc
  cases hh : W.heap[q]? with
  | none => rw [hh] at hc; cases hc
  | some o => exact (Array.getElem?_eq_some_iff.1 hh).1
inductive AllNK (W : World) : List Nd → List (Int × Int × List Int) → Prop
  | nil : AllNK W [] []
  | cons {x : Nd} {y : Int × Int × List Int} {ns : List Nd} {ys : List (Int × Int × List Int)} (h : NK W x y) (t : AllNK W ns ys) : AllNK W (x :: ns) (y :: ys)
theorem AllNK.app {W : World} {a b : List Nd} {c d : List (Int × Int × List Int)} (h : AllNK W a c) (k : AllNK W b d) : AllNK W (a ++ b) (c ++ d) := by
  induction h with
  | nil => exact k
  | cons h t ih => exact .cons h ih
theorem AllNK.at_ {W : World} {a : List Nd} {c : List (Int × Int × List Int)} (h : AllNK W a c) : ∀ (i : Nat) (x : Nd), a[i]? = some x → ∃ y, c[i]? = some y ∧ NK W x y := by
  induction h with
  | nil => intro i x hx; simp at hx
  | @cons x0 y0 ns ys h t ih =>
    intro i x hx
    cases i with
    | zero => simp at hx; subst hx; exact ⟨y0, by simp, h⟩
    | succ i => simpa using ih i x (by simpa using hx)
theorem FoAt.symcell {W : World} {bs : List Nat} {f : Fo} (h : FoAt W bs f) : ∀ j, j < bs.length → W.cell? ⟨bs.getD j 0, 0, none⟩ = some (.int .i64 (f.syms.getD j 0)) := by
  induction h with
  | nil => intro j hj; exact absurd hj (Nat.not_lt_zero _)
  | cons h1 h2 h3 h4 ih3 ih4 =>
    intro j hj
    cases j with
    | zero => simpa [Fo.syms] using h1.cell 0
    | succ j => simpa [Fo.syms] using ih4 j (by simpa using hj)
theorem FoAt.stackK {W : World} {bs : List Nat} {f : Fo} (h : FoAt W bs f) : ∀ (lv : Nat) (rest : List (Nat × Nat)) (n2 : List Nd), StackAt W rest n2 → ∃ n1, StackAt W (bs.map (fun c => (c, lv)) ++ rest) (n1 ++ n2) ∧ n1.map trip = f.nodes lv ∧ AllNK W n1 f.look := by
  induction h with
  | nil => exact fun _ _ n2 hs => ⟨[], hs, rfl, .nil⟩
  | @cons b bs s r v kb k f h1 h2 h3 h4 ih3 ih4 =>
    intro lv rest n2 hs
    obtain ⟨n4, g4, e4, a4⟩ := ih4 lv rest n2 hs
    obtain ⟨n3, g3, e3, a3⟩ := ih3 (lv + 1) _ _ g4
    exact ⟨⟨b, s, r, lv⟩ :: (n3 ++ n4), by rw [List.cons_append, List.append_assoc]; exact .cons h1 h2 g3, by simp [Fo.nodes, trip, e3, e4], .cons ⟨rfl, rfl, v, kb, h1, h2, by rw [Fo.len_syms, h3.len], h3.symcell⟩ (a3.app a4)⟩
theorem Fo.look_le : ∀ (f : Fo), ∀ y ∈ f.look, y.2.2.length ≤ f.size
  | .nil, y, h => by cases h
  | .node s r k f, y, h => by
    simp only [Fo.look, List.mem_cons, List.mem_append] at h
    have h1 := Fo.len_size k
    rcases h with rfl | h | h
    · simp only [Fo.len_syms, Fo.size]; omega
    · have := look_le k y h; simp only [Fo.size]; omega
    · have := look_le f y h; simp only [Fo.size]; omega
theorem other_bool : Other 4 := ⟨by decide, by decide, by decide⟩
theorem keepsFrom_below {B : Nat} {U W : World} (h : Below U.heap.size U W) : KeepsFrom B U W := ⟨h.size, fun k o _ ho _ => (h.block k (Array.getElem?_eq_some_iff.1 ho).1).trans ho⟩
theorem take_all_more {l : List (Int × Int × List Int)} {p : Int × Int × List Int → Bool} {i : Nat} {y : Int × Int × List Int} (h : l[i]? = some y) (ha : (l.take i).all p = true) : (l.take (i + 1)).all p = p y := by
  rw [List.take_add_one, h, List.all_append, ha]
  simp
theorem all_false {l : List (Int × Int × List Int)} {p : Int × Int × List Int → Bool} {i : Nat} {y : Int × Int × List Int} (h : l[i]? = some y) (hp : p y = false) : l.all p = false := by
  rw [List.all_eq_false]
  exact ⟨y, List.mem_of_getElem? h, by simp [hp]⟩
set_option maxRecDepth 100000 in
set_option maxHeartbeats 4000000 in
theorem valid_foS (w : World) (B0 b : Nat) (f : Fo) (ta va ra : Option Addr) (tl tc vl vc rc : Nat) (R : List Rl) (h : FoAt w [b] f) (hN : f.size ≤ 999999) (h64 : f.For fun s _ => In64 s) (hR : RulesAt B0 w (.slice ra R.length rc) R) (hB0 : B0 ≤ w.heap.size) (ht : tl ≤ maxLen) :
    Calls Try.prog 37 #[PtrV b, .agg #[.slice ta tl tc, .slice va vl vc, .slice ra R.length rc]] w fun e w' => e = .returned (.bool (f.all (fitB tl R))) ∧ Below w.heap.size w w' := by
  obtain ⟨ns, hs, hn, hnk⟩ := h.stackK 1 [] [] .nil
  replace hs : StackAt w [(b, 1)] ns := by simpa using hs
  have hl : ns.length = f.size := by
    have := congrArg List.length hn
    rwa [List.length_map, Fo.nodes_len] at this
  have hlk := Fo.look_len f
  rw [Fo.look_all]
  have h64n : ∀ x ∈ ns, In64 x.sym := fun x hx => Fo.for_nodes f 1 h64 (trip x) (by rw [← hn]; exact List.mem_map_of_mem hx)
  have hle := Fo.look_le f
  generalize f.look = L at *
  have HLE := Lib.hid hle
  clear hle
  have HNK := Lib.hid hnk
  have HR := Lib.hid hR
  have H64 := Lib.hid h64n
  obtain ⟨ans, hans⟩ : ∃ ans, ans = L.all fun x => fitB tl R x.1 x.2.1 x.2.2 := ⟨_, rfl⟩
  rw [← hans]
  have HANS := Lib.hid hans
  clear hnk hR h64n hn h h64 hans
  unfold PtrV
  refine (callsIn_wide (n := 4)).1 ?_
  refine callsIn_of_wp_marks Try.func37 rfl trivial ?_ rfl
  simp only [Try.ntmps37, List.size_toArray, List.length_cons, List.length_nil, Nat.reduceAdd, Nat.reduceSub, Array.replicate_succ, Array.replicate_zero, List.push_toArray, List.append_toArray, List.nil_append, List.cons_append]
  gi_wp2_with (refine ⟨trivial, ?_⟩; gi_at_call 62; refine (all_in _ _ trivial rfl _ _).mono ?_; rintro e w' ⟨rfl, rfl⟩)
  have hG := ((Blk.new w 25 #[.slice ta tl tc, .slice va vl vc, .slice ra R.length rc]).alloc (.cells #[.bool false] 4)).alloc (.cells #[.pointer (some ⟨b, 0, none⟩)] 53)
  have hF := (Blk.new (w.alloc (.cells #[.slice ta tl tc, .slice va vl vc, .slice ra R.length rc] 25)) 4 #[.bool false]).alloc (.cells #[.pointer (some ⟨b, 0, none⟩)] 53)
  have hP := Blk.new ((w.alloc (.cells #[.slice ta tl tc, .slice va vl vc, .slice ra R.length rc] 25)).alloc (.cells #[.bool false] 4)) 53 #[.pointer (some ⟨b, 0, none⟩)]
  rw [World.size_alloc] at hF
  rw [World.size_alloc, World.size_alloc] at hP
  have hb0 : Below w.heap.size w (((w.alloc (.cells #[.slice ta tl tc, .slice va vl vc, .slice ra R.length rc] 25)).alloc (.cells #[.bool false] 4)).alloc (.cells #[.pointer (some ⟨b, 0, none⟩)] 53)) := (((Below.refl _ w).alloc (Nat.le_refl _) _).alloc (by simp) _).alloc (by simp; omega) _
  have hsz0 : (((w.alloc (.cells #[.slice ta tl tc, .slice va vl vc, .slice ra R.length rc] 25)).alloc (.cells #[.bool false] 4)).alloc (.cells #[.pointer (some ⟨b, 0, none⟩)] 53)).heap.size = w.heap.size + 3 := by simp
  generalize hW0 : ((w.alloc (.cells #[.slice ta tl tc, .slice va vl vc, .slice ra R.length rc] 25)).alloc (.cells #[.bool false] 4)).alloc (.cells #[.pointer (some ⟨b, 0, none⟩)] 53) = w0 at *
  have HSZ := Lib.hid hsz0
  refine walk_any w (w.heap.size + 1 + 1) b ns rfl (by omega) (hP.cell 0) hs (by omega) hb0
    (fun i W => Blk W w.heap.size 25 #[.slice ta tl tc, .slice va vl vc, .slice ra R.length rc] ∧ Blk W (w.heap.size + 1) 4 #[.bool false] ∧ (L.take i).all (fun x => fitB tl R x.1 x.2.1 x.2.2) = true)
    (fun c W => c = .ret ∧ Blk W (w.heap.size + 1) 4 #[.bool false] ∧ ans = false ∧ Below w.heap.size w W)
    (fun i A B row hA hg hr => ⟨hA.1.grown hg (other_ne hA.1 other_gram (fun r e => (hr r e).2)), hA.2.1.grown hg (other_ne hA.2.1 other_bool (fun r e => (hr r e).2)), hA.2.2⟩)
    (fun c A B row hA hg hr => ⟨hA.1, hA.2.1.grown hg (other_ne hA.2.1 other_bool (fun r e => (hr r e).2)), hA.2.2.1, hA.2.2.2.grown hg hA.2.2.2.size (fun r e => by have := (hr r e).1; omega)⟩)
    ⟨hG, hF, by simp⟩ ?round ?done ?stop
  case round =>
    intro i x hx
    refine ⟨{ tmps := #[.pointer (some ⟨b, 0, none⟩), .agg #[.slice ta tl tc, .slice va vl vc, .slice ra R.length rc], undef, .pointer (some ⟨w.heap.size, 0, none⟩), .pointer (some ⟨w.heap.size + 1, 0, none⟩), PtrV x.b, .pointer (some ⟨b, 0, none⟩), .func (.func 79) #[] #[.pointer (some ⟨w.heap.size + 1 + 1, 0, none⟩)], PtrV x.b, .int .i64 (x.lv : Int), undef, undef, undef, undef, undef, undef], defers := [] }, fun W K hK => ?asg, fun U r hU hb hsz hl => ?bdy⟩
    case asg =>
      gi_wp2
      exact hK
    case bdy =>
      obtain ⟨u1, u2, u3⟩ := hU
      obtain ⟨y, hy, hnk⟩ := HNK.out.at_ i x hx
      have hnk2 := hnk.kept hb
      obtain ⟨y1, y2, v, kb, n1, n2, n3, n4⟩ := hnk2
      have hyl := HLE.out y (List.mem_of_getElem? hy)
      have hfit := fits_any U B0 x.b x.sym x.rule v kb y.2.2 ta va ra tl tc vl vc rc R (H64.out x (List.mem_of_getElem? hx)) n1 n2 n3 n4 (by omega) (HR.out.below (hb.mono hB0)) (Nat.le_trans hB0 hb.size) ht
      rw [← y1, ← y2] at hfit
      obtain ⟨z, hz⟩ : ∃ z, z = fitB tl R y.1 y.2.1 y.2.2 := ⟨_, rfl⟩
      rw [← hz] at hfit
      have HZ := Lib.hid hz
      have HY := Lib.hid hy
      have HU1 := Lib.hid u1
      have HU2 := Lib.hid u2
      have HU3 := Lib.hid u3
      have HB := Lib.hid hb
      have g0 := u1.cell 0
      have g1 := u1.cell 1
      have g2 := u1.cell 2
      simp only [List.getElem?_toArray, List.getElem?_cons_zero, List.getElem?_cons_succ] at g0 g1 g2
      clear u1 u3 hnk n1 n2 n3 n4 hz hy hb hG hF hP hs hW0 hx
      unfold PtrV at hfit ⊢
      cases z
      · gi_wp2_with (refine ⟨trivial, ?_⟩; gi_at_call 67; refine (CallsIn.inRound _ (callsIn_wide.2 hfit)).mono ?_; rintro e w1 ⟨rfl, hb1⟩; have v2 := HU2.out.below hb1 HU2.out.lt; have v0 := v2.cell 0; have vf := v2.frozen 0; simp only [List.getElem?_toArray, List.getElem?_cons_zero] at v0)
        refine ⟨?_, ⟨rfl, v2.set_ 0 (.bool false), ?_, ?_⟩, (KeepM.below hb1).trans (keepm_set v2 other_bool _)⟩
        · exact (keepsFrom_below hb1).trans ((KeepsOthers.setCell _ _ _).from _)
        · rw [HANS.out]; exact all_false HY.out HZ.out.symm
        · exact (HB.out.trans (hb1.mono HB.out.size)).setCell (p := ⟨w.heap.size + 1, 0, none⟩) (by simp) _
      · gi_wp2_with (refine ⟨trivial, ?_⟩; gi_at_call 67; refine (CallsIn.inRound _ (callsIn_wide.2 hfit)).mono ?_; rintro e w1 ⟨rfl, hb1⟩)
        refine ⟨keepsFrom_below hb1, ⟨HU1.out.below hb1 HU1.out.lt, HU2.out.below hb1 HU2.out.lt, ?_⟩, HB.out.trans (hb1.mono HB.out.size), KeepM.below hb1⟩
        rw [take_all_more HY.out HU3.out]
        exact HZ.out.symm
  case done =>
    rintro W ⟨u1, u2, u3⟩ hb hK
    rw [List.take_of_length_le (by omega)] at u3
    have hA : ans = true := by rw [HANS.out]; exact u3
    subst hA
    have v0 := u2.cell 0
    have vf := u2.frozen 0
    simp only [List.getElem?_toArray, List.getElem?_cons_zero] at v0
    gi_wp2
    have HK2 : (W.setCell ⟨w.heap.size + 1, 0, none⟩ (.bool true)).heap[w0.heap.size]? = some (.deferred (some [])) := (Below.heap_setCell W ⟨w.heap.size + 1, 0, none⟩ (.bool true) w0.heap.size (by show w0.heap.size ≠ w.heap.size + 1; omega)).trans hK
    have u4 : Blk (W.setCell ⟨w.heap.size + 1, 0, none⟩ (.bool true)) (w.heap.size + 1) 4 #[.bool true] := u2.set_ 0 (.bool true)
    refine ⟨by simp, .inl ⟨_, _, rfl, run_takeDeferred HK2, ?_⟩⟩
    have u5 := u4.grown (grownBy_putObj' (W.setCell ⟨w.heap.size + 1, 0, none⟩ (.bool true)) w0.heap.size (.deferred none)) (by intro e; have := Option.some.inj e; omega)
    have v1 := u5.cell 0
    simp only [List.getElem?_toArray, List.getElem?_cons_zero] at v1
    refine ⟨.bool true, by simp [results, Try.results37, go_sem, v1], rfl, ?_⟩
    exact (hb.setCell (p := ⟨w.heap.size + 1, 0, none⟩) (by simp) _).grown (grownBy_putObj' _ _ _) (hb.setCell (p := ⟨w.heap.size + 1, 0, none⟩) (by simp) _).size (fun r e => by cases e; omega)
  case stop =>
    rintro c W ⟨rfl, u2, rfl, hb⟩ hK
    have v0 := u2.cell 0
    simp only [List.getElem?_toArray, List.getElem?_cons_zero] at v0
    gi_wp2
    refine ⟨by simp, .inl ⟨_, _, rfl, run_takeDeferred hK, ?_⟩⟩
    have u5 := u2.grown (grownBy_putObj' W w0.heap.size (.deferred none)) (by intro e; have := Option.some.inj e; omega)
    have v1 := u5.cell 0
    simp only [List.getElem?_toArray, List.getElem?_cons_zero] at v1
    refine ⟨.bool false, by simp [results, Try.results37, go_sem, v1], rfl, ?_⟩
    exact hb.grown (grownBy_putObj' W _ _) hb.size (fun r e => by cases e; omega)
theorem Fo.for_one : ∀ f : Fo, (f.For fun s r => In64 s ∧ In64 r) → f.For fun s _ => In64 s
  | .nil, _ => trivial
  | .node s r k f, h => ⟨h.1.1, for_one k h.2.1, for_one f h.2.2⟩
theorem valid_fo (w : World) (B0 b : Nat) (f : Fo) (ta va ra : Option Addr) (tl tc vl vc rc : Nat) (R : List Rl) (h : FoAt w [b] f) (hN : f.size ≤ 999999) (h64 : f.For fun s r => In64 s ∧ In64 r) (hR : RulesAt B0 w (.slice ra R.length rc) R) (hB0 : B0 ≤ w.heap.size) (ht : tl ≤ maxLen) :
    Calls Try.prog 37 #[PtrV b, .agg #[.slice ta tl tc, .slice va vl vc, .slice ra R.length rc]] w fun e w' => e = .returned (.bool (f.all (fitB tl R))) ∧ Below w.heap.size w w' := valid_foS w B0 b f ta va ra tl tc vl vc rc R h hN (Fo.for_one f h64) hR hB0 ht
end Go.Proofs.Ytomikgkoegkofaa.dt

import Derived.Test.YtomikgkoegkofaaDvx
import Derived.Test.YtomikgkoegkofaaJb
import Derived.Maps.AppendAt
import Derived.BigRegion
namespace Go.Proofs.Ytomikgkoegkofaa.dt
open Go.ChangeShapes Go.WideShapes Go.ChangeAt Go.RowKit Go.Maps Go.WideMaps Go.WideElems Go.Proofs.Ytomikgkoegkofaa.dv
set_option linter.unusedVariables false
set_option linter.unusedSimpArgs false
/-! a right grammar's names are short -/
def ShortAt (w : World) (ao : Option Addr) (n : Nat) : Prop := ∀ i, i < n → ∃ (a : Addr) (s : ByteArray), ao = some a ∧ w.cell? (a.add i) = some (.string s) ∧ s.size ≤ 24
theorem ShortAt.nil (w : World) (ao : Option Addr) : ShortAt w ao 0 := fun i h => absurd h (Nat.not_lt_zero _)
theorem ShortAt.more {w : World} {ao : Option Addr} {k : Nat} {a : Addr} {s : ByteArray} (h : ShortAt w ao k) (e : ao = some a) (hc : w.cell? (a.add k) = some (.string s)) (hs : s.size ≤ 24) : ShortAt w ao (k + 1) := fun i hi => by
  rcases Nat.lt_or_ge i k with h1 | h1
  · exact h i h1
  · obtain rfl : i = k := by omega
    exact ⟨a, s, e, hc, hs⟩
theorem short_back {B n : Nat} {w w' : World} {ao : Option Addr} (h : StrsAt B w ao n) (hb : Below B w w') (hs : ShortAt w' ao n) : ShortAt w ao n := fun i hi => by
  obtain ⟨a, s, e, hab, hc, _⟩ := h i hi
  obtain ⟨a', s', e', hc', hs'⟩ := hs i hi
  rw [e] at e'
  cases e'
  have := (hb.cell (p := a.add i) (by rw [add_block]; exact hab)).trans hc
  rw [hc'] at this
  cases this
  exact ⟨a, s, e, hc, hs'⟩
set_option maxHeartbeats 1000000 in
theorem isQuote_long (s : ByteArray) (hs : s.size ≤ maxLen) (h16 : 16 < s.size) : ∀ w, Calls Try.prog 42 #[.string s] w (Says false w) := by
  unfold maxLen at hs
  obtain ⟨q, hq⟩ := Classical.axiomOfChoice quotable_det
  have HQ := Lib.hid hq
  clear hq
  by_cases hall : ∀ (k : Nat) (h : k < s.size), q (s[k].toNat : Int) = true
  · have HA := Lib.hid hall
    clear hall
    intro w
    go_enter Try.func42, Try.ntmps42
    go_wp2
    go_loopw [3] (fun i wr => ∃ k : Nat, k ≤ s.size ∧ i = .int .i64 k ∧ wr = w) (fun i _ => s.size - (intOf i).toNat)
    case atStart => exact ⟨0, Nat.zero_le _, rfl, rfl⟩
    case round =>
      obtain ⟨k, hk, rfl, rfl⟩ := hrel
      by_cases hlt : k < s.size
      · have hc := HQ.out (s[k].toNat : Int) wr
        rw [HA.out k hlt] at hc
        go_wp2_with (go_at_call 71; refine hc.mono ?_; rintro e w1 ⟨rfl, rfl⟩)
        exact ⟨⟨k + 1, hlt, congrArg (Value.int .i64) (by omega), trivial⟩, by simp only [intOf]; omega⟩
      · obtain rfl : k = s.size := by omega
        go_wp2
        all_goals go_ret
        all_goals refine ⟨ret_bool ?_, rfl⟩
        all_goals first | (exact decide_eq_false (by omega)) | (simp; omega)
  · have HA := Lib.hid hall
    clear hall
    intro w
    go_enter Try.func42, Try.ntmps42
    go_wp2
    go_loopw [3] (fun i wr => ∃ k : Nat, k ≤ s.size ∧ i = .int .i64 k ∧ (∀ (j : Nat) (h : j < s.size), j < k → q (s[j].toNat : Int) = true) ∧ wr = w) (fun i _ => s.size - (intOf i).toNat)
    case atStart => exact ⟨0, Nat.zero_le _, rfl, fun j _ hj => absurd hj (Nat.not_lt_zero _), rfl⟩
    case round =>
      obtain ⟨k, hk, rfl, hj, rfl⟩ := hrel
      have HJ := Lib.hid hj
      clear hj
      by_cases hlt : k < s.size
      · have hc := HQ.out (s[k].toNat : Int) wr
        cases hb : q (s[k].toNat : Int) with
        | false =>
          rw [hb] at hc
          clear hb
          go_wp2_with (go_at_call 71; refine hc.mono ?_; rintro e w1 ⟨rfl, rfl⟩)
          go_ret
          exact ⟨rfl, rfl⟩
        | true =>
          have hmo : ∀ (j : Nat) (h : j < s.size), j < k + 1 → q (s[j].toNat : Int) = true := fun j h hj => by
            rcases Nat.lt_or_ge j k with h2 | h2
            · exact HJ.out j h h2
            · obtain rfl : j = k := by omega
              exact hb
          have HM := Lib.hid hmo
          rw [hb] at hc
          clear hb hmo
          go_wp2_with (go_at_call 71; refine hc.mono ?_; rintro e w1 ⟨rfl, rfl⟩)
          exact ⟨⟨k + 1, hlt, congrArg (Value.int .i64) (by omega), HM.out, trivial⟩, by simp only [intOf]; omega⟩
      · obtain rfl : k = s.size := by omega
        exact absurd (fun j h => HJ.out j h h) HA.out
theorem isQuote_det2 (s : ByteArray) (hs : s.size ≤ maxLen) : ∃ b, (∀ w, Calls Try.prog 42 #[.string s] w (Says b w)) ∧ (b = true → s.size ≤ 24) := by
  by_cases h : s.size ≤ 16
  · obtain ⟨b, hb⟩ := isQuote_det s hs
    exact ⟨b, hb, fun _ => by omega⟩
  · exact ⟨false, isQuote_long s hs (by omega), fun h => by cases h⟩
theorem isName_long (s : ByteArray) (hs : s.size ≤ maxLen) (h24 : ¬ s.size ≤ 24) : ∀ w, Calls Try.prog 40 #[.string s] w (Says false w) := by
  unfold maxLen at hs
  intro w
  have h1 : 1 ≤ s.size := by omega
  go_enter Try.func40, Try.ntmps40
  go_wp2
  go_ret
  exact ⟨rfl, rfl⟩
theorem isName_det2 (s : ByteArray) (hs : s.size ≤ maxLen) : ∃ b, (∀ w, Calls Try.prog 40 #[.string s] w (Says b w)) ∧ (b = true → s.size ≤ 24) := by
  by_cases h : s.size ≤ 24
  · obtain ⟨b, hb⟩ := isName_det s hs
    exact ⟨b, hb, fun _ => h⟩
  · exact ⟨false, isName_long s hs h, fun h => by cases h⟩
set_option maxRecDepth 100000 in
set_option maxHeartbeats 2000000 in
theorem right_full (w : World) (B : Nat) (ta va ra : Option Addr) (tl tc vl vc rc : Nat) (R : List Rl) (hR : RulesAt B w (.slice ra R.length rc) R) (hT : StrsAt B w ta tl) (hV : StrsAt B w va vl) (hB : B ≤ w.heap.size) (hn : R.length ≤ 24) (ht : tl ≤ 6) (hv : vl ≤ 8) (h8 : ∀ r ∈ R, r.right.length ≤ 8) :
    Calls Try.prog 14 #[.agg #[.slice ta tl tc, .slice va vl vc, .slice ra R.length rc]] w (AnsIf ((1 ≤ vl ∧ ∀ r ∈ R, RlOk tl vl r) ∧ ShortAt w va vl ∧ ShortAt w ta tl) w) := by
  have b0 := Blk.new w 25 #[.slice ta tl tc, .slice va vl vc, .slice ra R.length rc]
  have hbl : Below w.heap.size w (w.alloc (.cells #[.slice ta tl tc, .slice va vl vc, .slice ra R.length rc] 25)) := below_lit _ _ _
  have hR1 := hR.below (hbl.mono hB)
  have hT1 := hT.below (hbl.mono hB)
  have hV1 := hV.below (hbl.mono hB)
  generalize hW0 : w.alloc (.cells #[.slice ta tl tc, .slice va vl vc, .slice ra R.length rc] 25) = w0 at *
  have hz0 : w0.heap.size = w.heap.size + 1 := by rw [← hW0]; simp
  have d0 := b0.cell 0
  have d1 := b0.cell 1
  have d2 := b0.cell 2
  simp only [List.getElem?_toArray, List.getElem?_cons_zero, List.getElem?_cons_succ] at d0 d1 d2
  have HR := Lib.hid hR1
  have HT := Lib.hid hT1
  have HV := Lib.hid hV1
  have H8 := Lib.hid h8
  have HVW := Lib.hid (fun (h : ShortAt w0 va vl) => short_back hV (hbl.mono hB) h)
  have HTW := Lib.hid (fun (h : ShortAt w0 ta tl) => short_back hT (hbl.mono hB) h)
  clear hR hT hV hR1 hT1 hV1 h8
  by_cases hv1 : 1 ≤ vl
  · go_enter Try.func14, Try.ntmps14
    go_wp2
    go_loopw [3] (fun i wr => ∃ k : Nat, k ≤ vl ∧ i = .int .i64 k ∧ ShortAt w0 va k ∧ Qt w0 wr) (fun i _ => vl - (intOf i).toNat)
    case atStart => exact ⟨0, Nat.zero_le _, rfl, ShortAt.nil _ _, 0, rfl⟩
    case round =>
      obtain ⟨k, hk, rfl, hsh, hqt⟩ := hrel
      have HSH := Lib.hid hsh
      clear hsh
      have f0 := (hqt.cell _).trans d0
      have f1 := (hqt.cell _).trans d1
      have f2 := (hqt.cell _).trans d2
      have hbw : Below w.heap.size w wr := hbl.trans (hqt.below.mono (by omega))
      by_cases hlt : k < vl
      · obtain ⟨a, s, rfl, hab, hc0, hs⟩ := HV.out k hlt
        have hc := (hqt.cell _).trans hc0
        obtain ⟨b, hb, hb24⟩ := isName_det2 s hs
        have HSM := Lib.hid (fun (e : b = true) => HSH.out.more rfl hc0 (hb24 e))
        clear hb24
        obtain ⟨x, hx⟩ := place_det w0 B (some a) vl vc s hs hv HV.out
        have HBN := Lib.hid hb
        have HX2 : ∀ n, Calls Try.prog 41 #[.slice (some a) vl vc, .string s] (wr.drewN n) fun e w' => e = .returned (.int .i64 x) ∧ w' = wr.drewN n := fun n => by
          obtain ⟨m, rfl⟩ := hqt
          rw [drewN_add]
          exact hx (m + n)
        have HX := Lib.hid HX2
        have HQ := Lib.hid hqt
        clear hb hx HX2 hqt hc0
        cases b
        · go_wp2
          go_quiet ((go_at_call 40; exact Calls.quiet_of_same ((HBN.out _).mono fun _ _ h => ⟨h.1, h.2⟩)))
          go_wp2
          go_ret
          exact ⟨_, rfl, (fun h => by cases h), below_drewN hbw _⟩
        · go_wp2
          go_quiet ((first | (go_at_call 40; exact Calls.quiet_of_same ((HBN.out _).mono fun _ _ h => ⟨h.1, h.2⟩)) | (go_at_call 41; exact Calls.quiet_of_same (HX.out _))))
          by_cases hxk : x = k
          · subst hxk
            go_wp2
            exact ⟨⟨k + 1, hlt, congrArg (Value.int .i64) (by omega), HSM.out trivial, HQ.out.drewN _⟩, by simp only [intOf]; omega⟩
          · go_wp2
            go_ret
            exact ⟨_, rfl, (fun h => by cases h), below_drewN hbw _⟩
      · obtain rfl : vl = k := by omega
        go_wp2
        go_loopw [4] (fun i wr => ∃ k : Nat, k ≤ tl ∧ i = .int .i64 k ∧ ShortAt w0 ta k ∧ Qt w0 wr) (fun i _ => tl - (intOf i).toNat)
        case atStart => exact ⟨0, Nat.zero_le _, rfl, ShortAt.nil _ _, hqt⟩
        case round =>
          clear f0 f1 f2 hbw hqt
          obtain ⟨j, hj, rfl, hsh2, hqt⟩ := hrel
          have HST := Lib.hid hsh2
          clear hsh2
          have f0 := (hqt.cell _).trans d0
          have f1 := (hqt.cell _).trans d1
          have f2 := (hqt.cell _).trans d2
          have hbw : Below w.heap.size w wr := hbl.trans (hqt.below.mono (by omega))
          by_cases hlt : j < tl
          · obtain ⟨a, s, rfl, hab, hc0, hs⟩ := HT.out j hlt
            have hc := (hqt.cell _).trans hc0
            obtain ⟨b, hb, hb24⟩ := isQuote_det2 s hs
            have HTM := Lib.hid (fun (e : b = true) => HST.out.more rfl hc0 (hb24 e))
            clear hb24
            have HBN := Lib.hid hb
            have HQ := Lib.hid hqt
            clear hb hc0
            cases b
            · clear hqt
              go_wp2
              go_quiet ((go_at_call 42; exact Calls.quiet_of_same ((HBN.out _).mono fun _ _ h => ⟨h.1, h.2⟩)))
              go_wp2
              go_ret
              exact ⟨_, rfl, (fun h => by cases h), below_drewN hbw _⟩
            · by_cases h0 : 0 < j
              · obtain ⟨p, hp⟩ : ∃ p, j = p + 1 := ⟨j - 1, by omega⟩
                obtain ⟨a', s', ea, _, hc0', hs'⟩ := HT.out p (by omega)
                cases ea
                have hc' := (hqt.cell _).trans hc0'
                have e1 : (j : Int) - 1 = (p : Int) := by omega
                have e2 : IntKind.i64.wrap ((j : Int) - 1) = (p : Int) := by rw [IntKind.wrap_i64]; omega
                have c3' : decide ((0 : Int) < (j : Int)) = true := decide_eq_true (by omega)
                have hpl : p < tl := by omega
                have hpi : (p : Int) < (tl : Int) := by omega
                clear hc0' hqt hp
                go_wp2
                go_quiet ((go_at_call 42; exact Calls.quiet_of_same ((HBN.out _).mono fun _ _ h => ⟨h.1, h.2⟩)))
                go_wp2
                all_goals first
                  | (go_ret; exact ⟨_, rfl, (fun h => by cases h), below_drewN hbw _⟩)
                  | exact ⟨⟨j + 1, hlt, congrArg (Value.int .i64) (by omega), HTM.out trivial, HQ.out.drewN _⟩, by simp only [intOf]; omega⟩
              · have c3' : decide ((0 : Int) < (j : Int)) = false := decide_eq_false (by omega)
                clear hqt
                go_wp2
                go_quiet ((go_at_call 42; exact Calls.quiet_of_same ((HBN.out _).mono fun _ _ h => ⟨h.1, h.2⟩)))
                go_wp2
                exact ⟨⟨j + 1, hlt, congrArg (Value.int .i64) (by omega), HTM.out trivial, HQ.out.drewN _⟩, by simp only [intOf]; omega⟩
          · obtain rfl : tl = j := by omega
            go_wp2
            go_loopw [5] (fun i wr => ∃ q : Nat, q ≤ R.length ∧ i = .int .i64 q ∧ (∀ i r', i < q → R[i]? = some r' → RlOk tl vl r') ∧ Below (w.heap.size + 1) w0 wr) (fun i _ => R.length - (intOf i).toNat)
            case atStart => exact ⟨0, Nat.zero_le _, rfl, fun i r' hi => absurd hi (Nat.not_lt_zero _), hqt.below.mono (by omega)⟩
            case round =>
              clear f0 f1 f2 hbw hqt
              obtain ⟨q, hq, rfl, hal, hbr⟩ := hrel
              have HAL := Lib.hid hal
              clear hal
              have hzr := hbr.size
              have bx := b0.below hbr (by omega)
              have f0 := bx.cell 0
              have f1 := bx.cell 1
              have f2 := bx.cell 2
              simp only [List.getElem?_toArray, List.getElem?_cons_zero, List.getElem?_cons_succ] at f0 f1 f2
              by_cases hlt : q < R.length
              · have hru := rule_any wr B ta va ra tl tc vl vc rc R q hlt (HR.out.below (hbr.mono (by omega))) (by omega) hn ht hv H8.out
                go_wp2_with fail
                refine hru.mono ?_
                rintro e w2 ⟨b1, rfl, hok, hb2⟩
                have HOK := Lib.hid hok
                clear hok
                have hb2' : Below (w.heap.size + 1) w0 w2 := hbr.trans (hb2.mono (by omega))
                cases b1
                · go_wp2
                  go_ret
                  exact ⟨_, rfl, (fun h => by cases h), hbl.trans (hb2'.mono (by omega))⟩
                · go_wp2
                  exact ⟨⟨q + 1, hlt, congrArg (Value.int .i64) (by omega), (fun i r' hi hr => by
                    rcases Nat.lt_or_ge i q with h1 | h1
                    · exact HAL.out i r' h1 hr
                    · obtain rfl : i = q := by omega
                      exact HOK.out (by simp) r' hr), hb2'⟩, by simp only [intOf]; omega⟩
              · have hqR : q = R.length := by omega
                subst hqR
                have hfin : ((1 ≤ vl ∧ ∀ r ∈ R, RlOk tl vl r) ∧ ShortAt w va vl ∧ ShortAt w ta tl) := ⟨⟨hv1, fun r hr => by
                  obtain ⟨i, hi, rfl⟩ := List.mem_iff_getElem.1 hr
                  exact HAL.out i _ hi (List.getElem?_eq_getElem hi)⟩, HVW.out HSH.out, HTW.out HST.out⟩
                have HFIN := Lib.hid hfin
                clear hfin
                go_wp2
                go_loopw [6] (fun i wr => ∃ q : Nat, q ≤ vl ∧ i = .int .i64 q ∧ Below (w.heap.size + 1) w0 wr) (fun i _ => vl - (intOf i).toNat)
                case atStart => exact ⟨0, Nat.zero_le _, rfl, hbr⟩
                case round =>
                  clear f0 f1 f2 bx hzr hbr
                  obtain ⟨q, hq, rfl, hbr⟩ := hrel
                  have hzr := hbr.size
                  have bx := b0.below hbr (by omega)
                  have f0 := bx.cell 0
                  have f1 := bx.cell 1
                  have f2 := bx.cell 2
                  simp only [List.getElem?_toArray, List.getElem?_cons_zero, List.getElem?_cons_succ] at f0 f1 f2
                  by_cases hlt : q < vl
                  · have hru := count_any wr B ta va ra tl tc vl vc rc R (q : Int) (HR.out.below (hbr.mono (by omega))) (by omega) hn
                    go_wp2_with fail
                    refine hru.mono ?_
                    rintro e w2 ⟨x1, rfl, hb2⟩
                    have hb2' : Below (w.heap.size + 1) w0 w2 := hbr.trans (hb2.mono (by omega))
                    go_wp2
                    · go_ret
                      exact ⟨_, rfl, (fun h => by cases h), hbl.trans (hb2'.mono (by omega))⟩
                    · exact ⟨⟨q + 1, hlt, congrArg (Value.int .i64) (by omega), hb2'⟩, by simp only [intOf]; omega⟩
                  · obtain rfl : vl = q := by omega
                    go_wp2
                    go_loopw [7] (fun i wr => ∃ q : Nat, q ≤ tl ∧ i = .int .i64 q ∧ Below (w.heap.size + 1) w0 wr) (fun i _ => tl - (intOf i).toNat)
                    case atStart => exact ⟨0, Nat.zero_le _, rfl, hbr⟩
                    case round =>
                      clear f0 f1 f2 bx hzr hbr
                      obtain ⟨q, hq, rfl, hbr⟩ := hrel
                      have hzr := hbr.size
                      have bx := b0.below hbr (by omega)
                      have f0 := bx.cell 0
                      have f1 := bx.cell 1
                      have f2 := bx.cell 2
                      simp only [List.getElem?_toArray, List.getElem?_cons_zero, List.getElem?_cons_succ] at f0 f1 f2
                      by_cases hlt : q < tl
                      · have hru : ∀ z, Calls Try.prog 45 _ wr _ := fun z => uses_any wr B ta va ra tl tc vl vc rc R z (HR.out.below (hbr.mono (by omega))) (by omega) hn H8.out
                        go_wp2_with fail
                        refine (hru _).mono ?_
                        rintro e w2 ⟨b1, rfl, hb2⟩
                        have hb2' : Below (w.heap.size + 1) w0 w2 := hbr.trans (hb2.mono (by omega))
                        cases b1
                        · go_wp2
                          go_ret
                          exact ⟨_, rfl, (fun h => by cases h), hbl.trans (hb2'.mono (by omega))⟩
                        · go_wp2
                          exact ⟨⟨q + 1, hlt, congrArg (Value.int .i64) (by omega), hb2'⟩, by simp only [intOf]; omega⟩
                      · obtain rfl : tl = q := by omega
                        go_wp2
                        go_ret
                        exact ⟨_, rfl, (fun _ => HFIN.out), hbl.trans (hbr.mono (by omega))⟩
  · go_enter Try.func14, Try.ntmps14
    go_wp2
    go_ret
    exact ⟨_, rfl, (fun h => by cases h), hbl⟩
end Go.Proofs.Ytomikgkoegkofaa.dt
namespace Go.Proofs.Ytomikgkoegkofaa.dt
open Go.ChangeShapes Go.WideShapes Go.ChangeAt Go.RowKit Go.Maps Go.WideMaps Go.WideElems Go.Shelf Go.Proofs.Ytomikgkoegkofaa.dv
set_option linter.unusedVariables false
set_option linter.unusedSimpArgs false
/-! what the laws of layer 8 share -/
theorem txt_of {B n cap : Nat} {w : World} {ao : Option Addr} (h : StrsAt B w ao n) (hn : n ≤ maxLen) (hs : ShortAt w ao n) : ∃ L : List ByteArray, L.length = n ∧ TxtAt B w (.slice ao n cap) L ∧ Short L := by
  have hex : ∀ i, ∃ s : ByteArray, i < n → ∃ a : Addr, ao = some a ∧ a.block < B ∧ w.cell? (a.add i) = some (.string s) ∧ s.size ≤ 24 := fun i => by
    by_cases hi : i < n
    · obtain ⟨a, s, e, hab, hc, _⟩ := h i hi
      obtain ⟨a', s', e', hc', hs'⟩ := hs i hi
      rw [e] at e'
      cases e'
      rw [hc] at hc'
      cases hc'
      exact ⟨s, fun _ => ⟨a, e, hab, hc, hs'⟩⟩
    · exact ⟨ByteArray.empty, fun h => absurd h hi⟩
  obtain ⟨f, hf⟩ := Classical.axiomOfChoice hex
  have hg : ∀ i, i < n → ((List.range n).map f).getD i ByteArray.empty = f i := fun i hi => by simp [List.getD_eq_getElem?_getD, hi]
  refine ⟨(List.range n).map f, by simp, ⟨ao, cap, by simp, by simpa using hn, fun i hi => ?_⟩, fun x hx => ?_⟩
  · have hi' : i < n := by simpa using hi
    obtain ⟨a, e, hab, hc, _⟩ := hf i hi'
    exact ⟨a, e, hab, by rw [hg i hi']; exact hc⟩
  · obtain ⟨i, hi, rfl⟩ := List.mem_map.1 hx
    obtain ⟨a, e, hab, hc, h24⟩ := hf i (by simpa using hi)
    omega
theorem TxtAt.wide {B B' : Nat} {w : World} {v : Value} {L : List ByteArray} (h : TxtAt B w v L) (hb : B ≤ B') : TxtAt B' w v L := by
  obtain ⟨ao, cap, e, hm, hc⟩ := h
  refine ⟨ao, cap, e, hm, fun i hi => ?_⟩
  obtain ⟨a, e2, hab, hca⟩ := hc i hi
  exact ⟨a, e2, by omega, hca⟩
theorem Fo.for_mono {p q : Int → Int → Prop} (h : ∀ s r, p s r → q s r) : ∀ f : Fo, f.For p → f.For q
  | .nil, _ => trivial
  | .node s r k f, hp => ⟨h s r hp.1, for_mono h k hp.2.1, for_mono h f hp.2.2⟩
theorem bf_for {R : List Rl} {F ks : List Int} {f : Fo} {tl vl : Nat} (h : BF R F ks f) (hR : ∀ r ∈ R, RlOk tl vl r) (hn : R.length ≤ 24) : (∀ s ∈ F, SymOk tl vl s) → f.For fun s r => SymOk tl vl s ∧ In64 r := by
  induction h with
  | nil => exact fun _ => trivial
  | term h hf ih => exact fun hF => ⟨⟨hF _ (by simp), by decide⟩, trivial, ih fun s hs => hF s (by simp [hs])⟩
  | @var s k F k1 k2 f1 f2 h hr h1 h2 ih1 ih2 =>
    intro hF
    obtain ⟨kn, r, rfl, hk, hru⟩ := ref_ok hr
    have hlt := (List.getElem?_eq_some_iff.1 hk).1
    refine ⟨⟨hF _ (by simp), ?_⟩, ih1 fun s hs => ?_, ih2 fun s hs => hF s (by simp [hs])⟩
    · unfold In64; omega
    · rw [hru] at hs
      exact (hR r (List.mem_of_getElem? hk)).2.2 s hs
theorem sym_in {tl vl : Nat} {s : Int} (h : SymOk tl vl s) (ht : tl ≤ 6) (hv : vl ≤ 8) : In64 s := by
  unfold SymOk at h
  unfold In64
  omega
theorem sym_b {tl vl : Nat} {s : Int} {VS TS : List ByteArray} (h : SymOk tl vl s) (ht : TS.length = tl) (hv : VS.length = vl) : symB VS TS s := by
  unfold SymOk at h
  exact ⟨fun _ => by omega, fun _ => by omega⟩
/-- whatever Of answers -/
theorem of_out {R : List Rl} {v : Int} {ks : List Int} {w w' : World} {e : Ending} (h : OfR R v ks w e w') : ∃ (p : Option Addr) (E : Int), e = .returned (.tuple #[.pointer p, .int .i64 E]) ∧ E = (yieldW R [v] ks).2 ∧ (E ≠ 0 → p = none) ∧ (E = 0 → ∃ b r k, p = some ⟨b, 0, none⟩ ∧ FoAt w' [b] (.node v r k .nil) ∧ BF R [v] ks (.node v r k .nil)) ∧ Below w.heap.size w w' := by
  by_cases h0 : (yieldW R [v] ks).2 = 0
  · obtain ⟨b, r, k, he, hf, hb⟩ := of_fo h h0
    exact ⟨some ⟨b, 0, none⟩, 0, he, h0.symm, fun e => absurd rfl e, fun _ => ⟨b, r, k, rfl, hf, hb⟩, h.below⟩
  · exact ⟨none, _, h.err h0, rfl, fun _ => rfl, fun e => absurd e h0, h.below⟩
theorem bf_same {R : List Rl} {v : Int} {a b : List Int} {f g : Fo} (hf : BF R [v] a f) (hg : BF R [v] b g) : f.same g = decide (a = b) := by
  by_cases h : a = b
  · subst h
    rw [bf_one hf hg, decide_eq_true rfl]
    exact (Fo.same_iff _ _).2 rfl
  · rw [decide_eq_false h]
    cases hs : f.same g with
    | false => rfl
    | true =>
      have e := (Fo.same_iff _ _).1 hs
      subst e
      exact absurd ((bf_rules hf).symm.trans (bf_rules hg)) h
theorem yield_ok {R : List Rl} {v : Int} {ks : List Int} {f : Fo} (h : BF R [v] ks f) : f.word = (replW R [v] ks 0).1.map fun x => -1 - x := by
  have hb := bf_built h 1 [] [] [] .nil
  simp only [List.append_nil] at hb
  have hw := built_word hb
  rw [← Fo.nodes_word f 1]
  have e : ([v].map (fun x => (x, 1))).map (·.1) = [v] := rfl
  rw [e] at hw
  rw [← hw, List.map_map]
  rfl
end Go.Proofs.Ytomikgkoegkofaa.dt
namespace Go.Proofs.Ytomikgkoegkofaa.dt
open Go.ChangeShapes Go.WideShapes Go.ChangeAt Go.RowKit Go.Maps Go.WideMaps Go.WideElems Go.Shelf Go.Proofs.Ytomikgkoegkofaa.dv
set_option linter.unusedVariables false
set_option linter.unusedSimpArgs false
/-! TreeSpans: two rows that grow; what a tree's kids tell -/
theorem wpList_append_src_at {P : Program} {w : World} {ops : Array Oper} {rest : List Oper} {o : Oper} {a : Act} {Q : Exit → Act → World → Prop} (hgd : o.guard = none) (s x : Operand) (t : TypeId)
    (ho : o.op = .call { callee := .builtin .append, args := #[s, x], argTypes := #[t, t] })
    (base : Nat) (e : TypeId) (i : TypeInfo) (z : Value) (size bytes : Nat) (ht : P.underlying t = some (.slice e)) (hi : P.info? e = some i) (hz : i.zero = some z)
    (hsize : i.size = size) (hby : i.bytes = bytes) (hzs : z.cells.size = size) (hsz : 0 < size)
    (v : Value) (n : Nat) (xs : List Value) (hs : a.eval s = v) (hown : w.ownsRow base e size v n xs)
    (ao : Option Addr) (m c : Nat) (news : List Value) (hx : a.eval x = .slice ao m c) (hl : news.length = m * size) (hnone : ao = none → m = 0 ∧ c = 0) (hnews : ∀ ad, ao = some ad → ∀ j u, news[j]? = some u → w.cell? (ad.add j) = some u) (h1 : ∀ u ∈ news, u.oneCell' = true)
    (h63 : n + m ≤ maxLen) (hbytes : (n + m) * bytes ≤ 140737488355328) (hbase : base ≤ w.heap.size)
    (h : ∀ v' w', w'.ownsRow base e size v' (n + m) (xs ++ news) → w.grownBy w' v.ownBlock → (v'.ownBlock = v.ownBlock ∨ v'.ownBlock = some w.heap.size) → wpList P ops Q rest (a.put o.dst v') w') : wpList P ops Q (o :: rest) a w := by
  cases ao with
  | some ad => exact wpList_append_own_at w hgd s x t ho base e i z size bytes ht hi hz hsize hby hzs hsz v n xs hs hown ad m c news hx hl (hnews ad rfl) h1 h63 hbytes hbase fun v' w' h2 h3 _ h5 => h v' w' h2 h3 h5
  | none =>
    obtain ⟨rfl, rfl⟩ := hnone rfl
    have hn : news = [] := List.eq_nil_of_length_eq_zero (by simpa using hl)
    subst hn
    exact wpList_append_own_none hgd s x t ho base e i size ht hi v n xs hs hown hx (h v w (by simpa using hown) (World.grownBy.refl _ _) (.inl rfl))
structure Two (B : Nat) (W : World) (u v : Value) (X Y : List Int) : Prop where
  fst : W.ownsRow B 3 1 u X.length (IV X)
  snd : W.ownsRow B 3 1 v Y.length (IV Y)
  apart : ∀ g, u.ownBlock = some g → v.ownBlock = some g → False
theorem Two.kept {B : Nat} {W W' : World} {u v : Value} {X Y : List Int} (h : Two B W u v X Y) (hb : Below W.heap.size W W') : Two B W' u v X Y :=
  ⟨ownsRow_keep h.fst (fun g hg _ => hb.block g hg), ownsRow_keep h.snd (fun g hg _ => hb.block g hg), h.apart⟩
theorem Two.swap {B : Nat} {W : World} {u v : Value} {X Y : List Int} (h : Two B W u v X Y) : Two B W v u Y X := ⟨h.snd, h.fst, fun g h1 h2 => h.apart g h2 h1⟩
theorem Two.grow {B : Nat} {W W' : World} {u u' v : Value} {X Y Z : List Int} (h : Two B W u v X Y) (ho : W'.ownsRow B 3 1 u' (X.length + Z.length) (IV X ++ IV Z)) (hg : W.grownBy W' u.ownBlock) (hat : u'.ownBlock = u.ownBlock ∨ u'.ownBlock = some W.heap.size) : Two B W' u' v (X ++ Z) Y := by
  refine ⟨by rw [List.length_append]; simpa [IV] using ho, ?_, ?_⟩
  · refine own_grown h.snd hg ?_
    cases hv : v.ownBlock with
    | none => exact .inl rfl
    | some g => exact .inr (fun e => h.apart g e.symm hv)
  · intro g h1 h2
    rcases hat with e | e
    · exact h.apart g (e ▸ h1) h2
    · rw [e] at h1
      cases h1
      have := (h.snd.lt _ h2).2
      omega
theorem bf_all {R : List Rl} {F ks : List Int} {f : Fo} {tl vl : Nat} (h : BF R F ks f) (hR : ∀ r ∈ R, RlOk tl vl r) : (∀ s ∈ F, SymOk tl vl s) → f.all (fitB tl R) = true := by
  induction h with
  | nil => exact fun _ => rfl
  | @term s F ks f h hf ih =>
    intro hF
    have h1 := ih fun s hs => hF s (by simp [hs])
    have h2 := (hF s (by simp)).2
    simp only [Fo.all, h1, Bool.and_true]
    unfold fitB
    rw [if_pos h, decide_eq_true h2]
    rfl
  | @var s k F k1 k2 f1 f2 h hr h1 h2 ih1 ih2 =>
    intro hF
    obtain ⟨kn, r, rfl, hk, hru⟩ := ref_ok hr
    have e1 := ih1 fun s hs => by
      rw [hru] at hs
      exact (hR r (List.mem_of_getElem? hk)).2.2 s hs
    have e2 := ih2 fun s hs => hF s (by simp [hs])
    simp only [Fo.all, e1, e2, Bool.and_true]
    unfold fitB
    rw [if_neg (by omega), bf_syms h1, hr]
    simp
theorem Fo.all_drop {p : Int → Int → List Int → Bool} : ∀ (i : Nat) (f : Fo), f.all p = true → (f.drop i).all p = true
  | 0, f, h => by rw [Fo.drop_zero]; exact h
  | _ + 1, .nil, _ => by simp [Fo.drop, Fo.all]
  | i + 1, .node s r k f, h => by
    simp only [Fo.all, Bool.and_eq_true] at h
    simpa [Fo.drop] using all_drop i f h.2.2
theorem own_row {W : World} {B g n cap : Nat} {e : TypeId} {cur : Array Value} {xs : List Value} (hg : W.heap[g]? = some (.cells cur e (0, 0))) (hB : B ≤ g) (hn : n ≤ cap) (hc : cap ≤ maxLen) (hs : cur.size = cap * 1) (hx : cur.toList.take (n * 1) = xs) (hl : xs.length = n * 1) : W.ownsRow B e 1 (.slice (some ⟨g, 0, none⟩) n cap) n xs :=
  ⟨hl, .inr ⟨g, cap, cur, rfl, hB, hg, hn, hc, hs, hx⟩⟩
theorem two_ab (w : World) (r : Int) : Two w.heap.size ((w.alloc (.cells #[] 3)).alloc (.cells #[.int .i64 r] 3)).drew (.slice (some ⟨w.heap.size, 0, none⟩) 0 0) (.slice (some ⟨w.heap.size + 1, 0, none⟩) 1 1) [] [r] := by
  have h1 : Blk ((w.alloc (.cells #[] 3)).alloc (.cells #[.int .i64 r] 3)).drew w.heap.size 3 #[] := (Blk.new w 3 #[]).alloc _
  have h2 : Blk ((w.alloc (.cells #[] 3)).alloc (.cells #[.int .i64 r] 3)).drew (w.heap.size + 1) 3 #[.int .i64 r] := by
    have := Blk.new (w.alloc (.cells #[] 3)) 3 #[.int .i64 r]
    rw [World.size_alloc] at this
    exact this
  exact ⟨own_row h1 (Nat.le_refl _) (Nat.le_refl _) (by decide) rfl rfl rfl, own_row h2 (by omega) (Nat.le_refl _) (by decide) rfl rfl rfl, fun g e1 e2 => by cases e1; have := Option.some.inj e2; simp at this⟩
theorem two_ba (w : World) (r : Int) : Two w.heap.size ((w.alloc (.cells #[.int .i64 r] 3)).alloc (.cells #[] 3)).drew (.slice (some ⟨w.heap.size + 1, 0, none⟩) 0 0) (.slice (some ⟨w.heap.size, 0, none⟩) 1 1) [] [r] := by
  have h1 : Blk ((w.alloc (.cells #[.int .i64 r] 3)).alloc (.cells #[] 3)).drew w.heap.size 3 #[.int .i64 r] := (Blk.new w 3 _).alloc _
  have h2 : Blk ((w.alloc (.cells #[.int .i64 r] 3)).alloc (.cells #[] 3)).drew (w.heap.size + 1) 3 #[] := by
    have := Blk.new (w.alloc (.cells #[.int .i64 r] 3)) 3 #[]
    rw [World.size_alloc] at this
    exact this
  exact ⟨own_row h2 (by omega) (Nat.le_refl _) (by decide) rfl rfl rfl, own_row h1 (Nat.le_refl _) (Nat.le_refl _) (by decide) rfl rfl rfl, fun g e1 e2 => by cases e1; have := Option.some.inj e2; simp at this⟩
theorem two_below_ab (w : World) (a b : Obj) : Below w.heap.size w ((w.alloc a).alloc b).drew := below_drewN (((Below.refl _ w).alloc (Nat.le_refl _) a).alloc (by simp) b) 1
theorem own_src {W : World} {B n : Nat} {e : TypeId} {v : Value} {xs : List Value} (h : W.ownsRow B e 1 v n xs) : ∃ uo uc, v = .slice uo n uc ∧ (uo = none → n = 0 ∧ uc = 0) ∧ ∀ ad, uo = some ad → ∀ j u, xs[j]? = some u → W.cell? (ad.add j) = some u := by
  rcases h.2 with ⟨rfl, rfl⟩ | ⟨g, cap, cur, rfl, h3, h4, h5, h6, h7, h8⟩
  · exact ⟨none, 0, rfl, fun _ => ⟨rfl, rfl⟩, fun ad e => by cases e⟩
  · refine ⟨some ⟨g, 0, none⟩, cap, rfl, (fun e => by cases e), fun ad e j u hu => ?_⟩
    cases e
    exact h.cells rfl j u hu
theorem iv_one (xs : List Int) : ∀ u ∈ IV xs, u.oneCell' = true := fun u hu => by
  obtain ⟨x, _, rfl⟩ := List.mem_map.1 hu
  rfl
theorem iv_len (xs : List Int) : (IV xs).length = xs.length * 1 := by simp [IV]
theorem Fo.word_split (s r : Int) (k f : Fo) : (Fo.node s r k f).word = (Fo.node s r k .nil).word ++ f.word := by simp [Fo.word]
theorem Fo.rules_split (s r : Int) (k f : Fo) : (Fo.node s r k f).rules = (Fo.node s r k .nil).rules ++ f.rules := by simp [Fo.rules]
theorem Fo.size_split (s r : Int) (k f : Fo) : (Fo.node s r k f).size = (Fo.node s r k .nil).size + f.size := by simp only [Fo.size]; omega
theorem Fo.high_split (s r : Int) (k f : Fo) : (Fo.node s r k f).high = max (Fo.node s r k .nil).high f.high := by simp only [Fo.high]; omega
theorem Fo.word_in : ∀ f : Fo, (f.For fun s r => In64 s ∧ In64 r) → ∀ x ∈ f.word, In64 x
  | .nil, _, x, h => by cases h
  | .node s r k f, hf, x, h => by
    simp only [Fo.word, List.mem_append] at h
    rcases h with h | h | h
    · by_cases hs : s < 0
      · rw [if_pos hs] at h
        have e : x = -1 - s := by simpa using h
        have := hf.1.1
        unfold In64 at this ⊢
        omega
      · rw [if_neg hs] at h
        cases h
    · exact word_in k hf.2.1 x h
    · exact word_in f hf.2.2 x h
theorem Fo.rules_in : ∀ f : Fo, (f.For fun s r => In64 s ∧ In64 r) → ∀ x ∈ f.rules, In64 x
  | .nil, _, x, h => by cases h
  | .node s r k f, hf, x, h => by
    simp only [Fo.rules, List.mem_append] at h
    rcases h with h | h | h
    · by_cases hs : 0 ≤ s
      · rw [if_pos hs] at h
        have e : x = r := by simpa using h
        rw [e]
        exact hf.1.2
      · rw [if_neg hs] at h
        cases h
    · exact rules_in k hf.2.1 x h
    · exact rules_in f hf.2.2 x h
end Go.Proofs.Ytomikgkoegkofaa.dt

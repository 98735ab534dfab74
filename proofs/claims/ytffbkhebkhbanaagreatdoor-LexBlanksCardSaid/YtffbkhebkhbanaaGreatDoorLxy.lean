import Derived.Test.YtffbkhebkhbanaaGreatDoorLxx
namespace Go.Proofs.YtffbkhebkhbanaaGreatDoor.lx
open Go.ChangeShapes Go.WideShapes Go.ChangeAt Go.RowKit
set_option linter.unusedVariables false
attribute [local go_sem] run_store_float
theorem info_rtok : (Tryz.prog.info? 60).map (fun i => (i.zero, i.size, i.bytes)) = some (some (.agg tok0), 4, 40) := by kernel_rfl
/-- the answer of the document's All -/
def RAllV (B : Nat) (s : List UInt8) (e : Ending) (w : World) : Prop := ∃ v, e = .returned (.tuple #[v, .int .i64 (lexAll s).2.1, .int .i64 (lexAll s).2.2]) ∧ w.ownsRow B 60 4 v (lexAll s).1.length (tcells (lexAll s).1)
set_option maxRecDepth 100000 in
set_option maxHeartbeats 2000000 in
theorem rall_any (s : ByteArray) (hs : s.size ≤ maxLen) (w : World) : Calls Tryz.prog 12 #[.string s] w fun e w' => RAllV w.heap.size s.data.toList e w' ∧ Below w.heap.size w w' := by
  have hsl : s.data.toList.length = s.size := by simp
  have HM := Lib.hid hs
  unfold maxLen at hs
  by_cases hbig : 65536 < s.size
  · have e : ∀ w', RAllV w.heap.size s.data.toList (.returned (.tuple #[.slice none 0 0, .int .i64 1, .int .i64 0])) w' := fun w' => by
      have : lexAll s.data.toList = ([], 1, 0) := by
        unfold lexAll
        rw [if_pos (by omega)]
      unfold RAllV
      rw [this]
      exact ⟨_, rfl, World.ownsRow_nil _ _ _ _⟩
    have HE := Lib.hid e
    clear e hsl
    go_enter Tryz.func12, Tryz.ntmps12
    go_wp2_with fail
    refine bodyPost_ret (v := .tuple #[.slice none 0 0, .int .i64 1, .int .i64 0]) (by simp [results, Tryz.results12, go_sem]) rfl ⟨HE.out _, ?_⟩
    go_grown
  · obtain ⟨i1, ki, kz0, kz1, kz2⟩ := info_parts info_rtok
    have hsk := fun w => rskip_any s HM.out 0 (Nat.zero_le _) w
    have HL := Lib.hid hsl
    have HK := Lib.hid hsk
    clear hsl hsk
    have hst := LexRel.start s.data.toList
    generalize nxt s.data.toList 0 = k0 at *
    have HST := Lib.hid hst
    have HK0 : Hid (k0 ≤ s.size) := Lib.hid (by have := hst.2.2; rw [HL.out] at this; exact this)
    clear hst
    go_enter Tryz.func12, Tryz.ntmps12
    go_wp2_with (go_at_call 28; refine (HK.out _).mono ?_; rintro e w1 ⟨rfl, rfl⟩)
    go_loopw [5, 6] (fun v i wr => ∃ (k : Nat) (ts : List Tok), i = .int .i64 k ∧ k ≤ s.size ∧ wr.ownsRow w.heap.size 60 4 v ts.length (tcells ts) ∧ LexRel s.data.toList k ts ∧ Below w.heap.size w wr) (fun _ i _ => s.size - (intOf i).toNat)
    case atStart => exact ⟨k0, [], rfl, HK0.out, World.ownsRow_lit w #[] 0 (Nat.le_refl _) (by decide) rfl, HST.out, (Below.refl _ _).alloc (Nat.le_refl _) _⟩
    case round =>
      obtain ⟨k, ts, rfl, hk, hown, hrel, hbr⟩ := hrel
      have hzr := hbr.size
      have HO := Lib.hid hown
      have HR := Lib.hid hrel
      have HB := Lib.hid hbr
      have htl := hrel.2.1
      clear hown hrel hbr
      by_cases hlt : k < s.size
      · have hnx := rword_any s HM.out k hlt wr
        cases hwd : wordAt (s.data.toList.drop k) with
        | error e =>
          rw [hwd] at hnx
          have HE : Hid (lexAll s.data.toList = ([], e, k)) := Lib.hid (HR.out.err (by rw [HL.out]; exact hlt) hwd (by rw [HL.out]; omega))
          have he := word_e hwd
          have m1 : ((e : Int) != 0) = true := by rw [bne_iff_ne]; omega
          clear hwd he
          have hnx : Calls Tryz.prog 29 #[.string s, .int .i64 k] wr fun e_1 w' => e_1 = .returned (.tuple #[.agg #[.int .i64 0, .int .i64 0, .string ⟨#[]⟩, .float .f64 0], .int .i64 k, .int .i64 e]) ∧ Below wr.heap.size wr w' := hnx
          go_wp2_with (go_at_call 29; refine hnx.mono ?_; rintro e1 w2 ⟨rfl, hb2⟩)
          have hz2 := hb2.size
          refine bodyPost_ret (v := .tuple #[.slice none 0 0, .int .i64 e, .int .i64 k]) (by simp [results, Tryz.results12, go_sem]) rfl ⟨?_, ?_⟩
          · refine ⟨.slice none 0 0, ?_, ?_⟩
            · rw [HE.out]
            · rw [HE.out]
              exact World.ownsRow_nil _ _ _ _
          · have hq := (HB.out.trans (hb2.mono hzr)).alloc (o := .cells #[.int .i64 0, .int .i64 0, .string ⟨#[]⟩, .float .f64 0] 60) (by omega)
            first | exact hq | (go_grown; exact hq) | (go_grown; exact HB.out.trans (hb2.mono hzr))
        | ok x =>
          obtain ⟨kd, t, wt, n⟩ := x
          rw [hwd] at hnx
          obtain ⟨hr2, hn2⟩ := HR.out.step (by rw [HL.out]; exact hlt) hwd
          rw [HL.out] at hn2
          have HR2 := Lib.hid hr2
          have hsk := fun w => rskip_any s HM.out (k + n + 1) hn2 w
          have HK2 : Hid (nxt s.data.toList (k + n + 1) ≤ s.size ∧ k < nxt s.data.toList (k + n + 1)) := Lib.hid ⟨by have := nxt_le s.data.toList (k + n + 1) (by rw [HL.out]; omega); rw [HL.out] at this; exact this, by have := nxt_ge s.data.toList (k + n + 1); omega⟩
          generalize nxt s.data.toList (k + n + 1) = k2 at *
          have hnx : Calls Tryz.prog 29 #[.string s, .int .i64 k] wr fun e_1 w' => e_1 = .returned (.tuple #[.agg #[.int .i64 kd, .int .i64 k, .string (S t), .float .f64 wt], .int .i64 (k + n + 1 : Nat), .int .i64 0]) ∧ Below wr.heap.size wr w' := hnx
          have HSK := Lib.hid hsk
          clear hwd hr2 hsk
          go_wp2_with fail
          refine hnx.mono ?_
          rintro e1 w2 ⟨rfl, hb2⟩
          have HB2 := Lib.hid (HB.out.trans (hb2.mono hzr))
          have hz2 := hb2.size
          have HB2' := Lib.hid hb2
          clear hnx hb2
          have ho2 := own_below HO.out HB2'.out
          have HO2 := Lib.hid ho2
          have hz3 : w.heap.size ≤ w2.heap.size := by omega
          clear ho2
          go_wp2_with (at_builtin; refine wpList_append_own_at _ rfl (.tmp 31) (.tmp 33) 29 rfl w.heap.size 60 i1 (.agg tok0) 4 40 Tryz.underlying29 ki kz0 kz1 kz2 rfl (by decide) _ ts.length (tcells ts) rfl ((HO2.out.alloc _).alloc _) ⟨w2.heap.size + 1, 0, none⟩ 1 1 (tokC ⟨kd, k, t, wt⟩) rfl rfl (tok_new2 _ _ _ _) (tok_one _) (by unfold maxLen; omega) (by omega) (by simp; omega) ?_; intro v3 w3 hown3 hg3 _ _)
          have HO3 := Lib.hid hown3
          have HB3 := Lib.hid (((HB2.out.alloc hz3 (.cells #[.int .i64 kd, .int .i64 k, .string (S t), .float .f64 wt] 60)).alloc (by simp; omega) (.cells (tokC ⟨kd, k, t, wt⟩).toArray 60)).grown hg3 (by simp; omega) (own_row HO2.out))
          clear hown3 hg3
          refine (HSK.out w3).mono ?_
          rintro e1 w4 ⟨rfl, rfl⟩
          go_wp2_with fail
          refine ⟨⟨k2, ts ++ [⟨kd, k, t, wt⟩], rfl, HK2.out.1, ?_, HR2.out, HB3.out⟩, by simp only [intOf]; have := HK2.out.2; omega⟩
          rw [tcells_snoc, List.length_append]
          exact HO3.out
      · obtain rfl : k = s.size := by omega
        have hdn := HR.out
        rw [← HL.out] at hdn
        have HE : Hid (lexAll s.data.toList = (ts ++ [⟨0, s.size, [], 0⟩], 0, 0)) := Lib.hid (by rw [hdn.done (by rw [HL.out]; omega), HL.out])
        clear hdn
        go_wp2_with (at_builtin; refine wpList_append_own_at _ rfl (.tmp 38) (.tmp 41) 29 rfl w.heap.size 60 i1 (.agg tok0) 4 40 Tryz.underlying29 ki kz0 kz1 kz2 rfl (by decide) _ ts.length (tcells ts) rfl (HO.out.alloc _) ⟨wr.heap.size, 0, none⟩ 1 1 (tokC ⟨0, s.size, [], 0⟩) rfl rfl (tok_new _ _ _) (tok_one _) (by unfold maxLen; omega) (by omega) (by simp; omega) ?_; intro v3 w3 hown3 hg3 _ _)
        have HB3 := (HB.out.alloc hzr (.cells (tokC ⟨0, s.size, [], 0⟩).toArray 60)).grown hg3 (by simp; omega) (own_row HO.out)
        refine bodyPost_ret (v := .tuple #[v3, .int .i64 0, .int .i64 0]) (by simp [results, Tryz.results12, go_sem]) rfl ⟨?_, HB3⟩
        refine ⟨v3, ?_, ?_⟩
        · rw [HE.out]
          rfl
        · rw [HE.out, tcells_snoc, List.length_append]
          exact hown3
end Go.Proofs.YtffbkhebkhbanaaGreatDoor.lx

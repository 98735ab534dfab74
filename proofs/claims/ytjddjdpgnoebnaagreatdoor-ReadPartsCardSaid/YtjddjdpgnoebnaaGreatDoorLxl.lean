import Derived.Test.YtjddjdpgnoebnaaGreatDoorLxk
namespace Go.Proofs.YtjddjdpgnoebnaaGreatDoor.lx
open Go.ChangeShapes Go.WideShapes Go.ChangeAt Go.RowKit
set_option linter.unusedVariables false
attribute [local go_sem] run_store_float
theorem info_tok : (Tryz.prog.info? 36).map (fun i => (i.zero, i.size, i.bytes)) = some (some (.agg tok0), 4, 40) := by kernel_rfl
def tokC (t : Tok) : List Value := [.int .i64 t.kind, .int .i64 t.at_, .string (S t.text), .float .f64 t.wt]
def tcells (ts : List Tok) : List Value := ts.flatMap tokC
theorem tcells_snoc (ts : List Tok) (t : Tok) : tcells (ts ++ [t]) = tcells ts ++ tokC t := by simp [tcells]
theorem tcells_len (ts : List Tok) : (tcells ts).length = ts.length * 4 := by
  induction ts with
  | nil => rfl
  | cons t ts ih =>
    have : tcells (t :: ts) = tokC t ++ tcells ts := rfl
    rw [this, List.length_append, ih]
    simp [tokC]
    omega
theorem add0 (g i : Nat) : (⟨g, 0, none⟩ : Addr).add i = ⟨g, i, none⟩ := by
  simp [Addr.add]
  exact fun h => h.symm
theorem tok_new (w : World) (t : TypeId) (x : Tok) : ∀ j u, (tokC x)[j]? = some u → (w.alloc (.cells (tokC x).toArray t)).cell? ((⟨w.heap.size, 0, none⟩ : Addr).add j) = some u := fun j u h => by
  rw [add0, (Blk.new w t (tokC x).toArray).cell j]
  simpa using h
theorem tok_new2 (w : World) (o : Obj) (t : TypeId) (x : Tok) : ∀ j u, (tokC x)[j]? = some u → ((w.alloc o).alloc (.cells (tokC x).toArray t)).cell? ((⟨w.heap.size + 1, 0, none⟩ : Addr).add j) = some u := by
  have h := tok_new (w.alloc o) t x
  rwa [World.size_alloc] at h
theorem own_below {w w' : World} {base size n : Nat} {e : TypeId} {v : Value} {xs : List Value} (h : w.ownsRow base e size v n xs) (hb : Below w.heap.size w w') : w'.ownsRow base e size v n xs := by
  obtain ⟨hl, h | ⟨g, cap, cur, hv, hB, hh, r⟩⟩ := h
  · exact ⟨hl, .inl h⟩
  · have hg : g < w.heap.size := by
      rcases Nat.lt_or_ge g w.heap.size with h | h
      · exact h
      · rw [Array.getElem?_eq_none h] at hh; cases hh
    exact ⟨hl, .inr ⟨g, cap, cur, hv, hB, (hb.block g hg).trans hh, r⟩⟩
theorem own_base {w : World} {base base' size n : Nat} {e : TypeId} {v : Value} {xs : List Value} (h : w.ownsRow base e size v n xs) (hb : base' ≤ base) : w.ownsRow base' e size v n xs := by
  obtain ⟨hl, h | ⟨g, cap, cur, hv, hB, r⟩⟩ := h
  · exact ⟨hl, .inl h⟩
  · exact ⟨hl, .inr ⟨g, cap, cur, hv, by omega, r⟩⟩
theorem own_set {w : World} {base size n g i : Nat} {e : TypeId} {v u : Value} {xs : List Value} (h : w.ownsRow base e size v n xs) (hg : g < base) : (w.setCell ⟨g, i, none⟩ u).ownsRow base e size v n xs := by
  obtain ⟨hl, h | ⟨g', cap, cur, hv, hB, hh, r⟩⟩ := h
  · exact ⟨hl, .inl h⟩
  · exact ⟨hl, .inr ⟨g', cap, cur, hv, hB, (RowKit.Below.heap_setCell w ⟨g, i, none⟩ u g' (by show g' ≠ g; omega)).trans hh, r⟩⟩
theorem own_row {w : World} {base size n : Nat} {e : TypeId} {v : Value} {xs : List Value} (h : w.ownsRow base e size v n xs) : ∀ k, v.ownBlock = some k → base ≤ k := fun k e => (h.lt k e).1
theorem tok_one (x : Tok) : ∀ z ∈ tokC x, z.oneCell' = true := by
  intro z hz
  simp [tokC] at hz
  rcases hz with rfl | rfl | rfl | rfl <;> rfl
theorem word_n {l : List UInt8} {k w n : Nat} {t : List UInt8} (h : wordAt l = .ok (k, t, w, n)) : n + 1 ≤ l.length := by
  cases l with
  | nil => cases h
  | cons c r =>
    rw [word_cons] at h
    have h1 := runP_le namB r
    have h2 := runP_le quoB r
    have h3 := runP_le wgtB r
    split at h
    · split at h
      · cases h; simp; omega
      · cases h
    · split at h
      · split at h
        · cases h
        · rename_i hq
          split at h
          · cases h
            have hq2 : (r.drop (runP quoB r)).head? = some 39 := by
              have := not_or.1 hq
              simpa using this.2
            have : runP quoB r < r.length := by
              rcases Nat.lt_or_ge (runP quoB r) r.length with h | h
              · exact h
              · rw [List.drop_eq_nil_of_le h] at hq2
                cases hq2
            simp; omega
          · cases h
      · split at h
        · split at h
          · cases h; simp; omega
          · cases h
        · split at h
          · cases h; simp
          · cases h
theorem word_e {l : List UInt8} {e : Nat} (h : wordAt l = .error e) : 1 ≤ e ∧ e ≤ 4 := by
  cases l with
  | nil => cases h; decide
  | cons c r =>
    rw [word_cons] at h
    repeat' (first | (cases h; done) | (cases h; decide) | split at h)
def LexRel (s : List UInt8) (k : Nat) (ts : List Tok) : Prop := lexA s (nxt s 0) = (ts ++ (lexA s k).1, (lexA s k).2) ∧ ts.length ≤ k ∧ k ≤ s.length
theorem LexRel.start (s : List UInt8) : LexRel s (nxt s 0) [] := ⟨by simp, by simp, nxt_le s 0 (Nat.zero_le _)⟩
theorem nxt_ge (s : List UInt8) (a : Nat) : a ≤ nxt s a := by unfold nxt; omega
theorem LexRel.step {s : List UInt8} {k : Nat} {ts : List Tok} (h : LexRel s k ts) (hk : k < s.length) {kd w n : Nat} {t : List UInt8} (hw : wordAt (s.drop k) = .ok (kd, t, w, n)) : LexRel s (nxt s (k + n + 1)) (ts ++ [⟨kd, k, t, w⟩]) ∧ k + n + 1 ≤ s.length := by
  obtain ⟨h1, h2, h3⟩ := h
  have hn := word_n hw
  rw [List.length_drop] at hn
  have hg := nxt_ge s (k + n + 1)
  refine ⟨⟨?_, by simp; omega, nxt_le s _ (by omega)⟩, by omega⟩
  rw [h1, lexA_ok s k kd w n t hk hw]
  simp
theorem LexRel.err {s : List UInt8} {k : Nat} {ts : List Tok} (h : LexRel s k ts) (hk : k < s.length) {e : Nat} (hw : wordAt (s.drop k) = .error e) (hs : s.length ≤ 65536) : lexAll s = ([], e, k) := by
  unfold lexAll
  rw [if_neg (by omega), h.1, lexA_error s k e hk hw]
theorem LexRel.done {s : List UInt8} {ts : List Tok} (h : LexRel s s.length ts) (hs : s.length ≤ 65536) : lexAll s = (ts ++ [⟨0, s.length, [], 0⟩], 0, 0) := by
  unfold lexAll
  rw [if_neg (by omega), h.1, lexA_end]
def flt0 : Array Value := #[.int .i64 0, .int .i64 0]
theorem flt_cells {w : World} {g : Nat} (h : Blk w g 26 flt0) : w.cell? ⟨g, 0, none⟩ = some (.int .i64 0) ∧ w.cell? ⟨g, 1, none⟩ = some (.int .i64 0) ∧ w.frozen? ⟨g, 0, none⟩ = false ∧ w.frozen? ⟨g, 1, none⟩ = false := ⟨h.cell 0, h.cell 1, h.frozen 0, h.frozen 1⟩
/-- the answer of All -/
def AllV (B : Nat) (s : List UInt8) (e : Ending) (w : World) : Prop := ∃ v, e = .returned (.tuple #[v, .agg #[.int .i64 (lexAll s).2.1, .int .i64 (lexAll s).2.2]]) ∧ w.ownsRow B 36 4 v (lexAll s).1.length (tcells (lexAll s).1)
set_option maxRecDepth 100000 in
set_option maxHeartbeats 2000000 in
theorem all_any (s : ByteArray) (hs : s.size ≤ maxLen) (w : World) (b off : Nat) (hv : Vs w b off) : Calls Tryz.prog 11 #[.string s] w fun e w' => AllV w.heap.size s.data.toList e w' ∧ Below w.heap.size w w' := by
  have hsl : s.data.toList.length = s.size := by simp
  have HM := Lib.hid hs
  unfold maxLen at hs
  have HV := Lib.hid hv
  by_cases hbig : 65536 < s.size
  · have e : ∀ w', AllV w.heap.size s.data.toList (.returned (.tuple #[.slice none 0 0, .agg #[.int .i64 1, .int .i64 0]])) w' := fun w' => by
      have : lexAll s.data.toList = ([], 1, 0) := by
        unfold lexAll
        rw [if_pos (by omega)]
      unfold AllV
      rw [this]
      exact ⟨_, rfl, World.ownsRow_nil _ _ _ _⟩
    have HE := Lib.hid e
    clear e hv hsl
    go_enter Tryz.func11, Tryz.ntmps11
    go_wp2_with fail
    refine bodyPost_ret (v := .tuple #[.slice none 0 0, .agg #[.int .i64 1, .int .i64 0]]) (by simp [results, Tryz.results11, go_sem]) rfl ⟨HE.out _, ?_⟩
    go_grown
  · obtain ⟨i1, ki, kz0, kz1, kz2⟩ := info_parts info_tok
    have hsk := fun w => skip_any s HM.out 0 (Nat.zero_le _) w
    have HL := Lib.hid hsl
    have HK := Lib.hid hsk
    clear hv hsl hsk
    go_enter Tryz.func11, Tryz.ntmps11
    go_wp2_with fail
    refine (HK.out _).mono ?_
    rintro e w1 ⟨rfl, hb1⟩
    have hW0 : Blk (w.alloc (.cells flt0 26)) w.heap.size 26 flt0 := Blk.new w _ _
    have hWB : Below w.heap.size w (w.alloc (.cells flt0 26)) := (Below.refl _ _).alloc (Nat.le_refl _) _
    have hWs : w.heap.size < (w.alloc (.cells flt0 26)).heap.size := by simp
    have hWv : Vs (w.alloc (.cells flt0 26)) b off := HV.out.below hWB
    have hb1 : Below (w.alloc (.cells flt0 26)).heap.size (w.alloc (.cells flt0 26)) w1 := hb1
    generalize w.alloc (.cells flt0 26) = W0 at *
    have HW0 := Lib.hid hW0
    have HWB := Lib.hid hWB
    have HWV := Lib.hid hWv
    have HB1 := Lib.hid hb1
    have hst := LexRel.start s.data.toList
    generalize nxt s.data.toList 0 = k0 at *
    have HST := Lib.hid hst
    have HK0 : Hid (k0 ≤ s.size) := Lib.hid (by have := hst.2.2; rw [HL.out] at this; exact this)
    clear hW0 hWB hWv hb1 hst
    go_wp2_with fail
    go_loopw [4, 5] (fun v i wr => ∃ (k : Nat) (ts : List Tok), i = .int .i64 k ∧ k ≤ s.size ∧ wr.ownsRow W0.heap.size 36 4 v ts.length (tcells ts) ∧ LexRel s.data.toList k ts ∧ Below W0.heap.size W0 wr) (fun _ i _ => s.size - (intOf i).toNat)
    case atStart => exact ⟨k0, [], rfl, HK0.out, World.ownsRow_nil _ _ _ _, HST.out, HB1.out⟩
    case round =>
      obtain ⟨k, ts, rfl, hk, hown, hrel, hbr⟩ := hrel
      have hzr := hbr.size
      have HO := Lib.hid hown
      have HR := Lib.hid hrel
      have HB := Lib.hid hbr
      have hvr : Vs wr b off := HWV.out.below hbr
      have htl := hrel.2.1
      clear hown hrel hbr
      by_cases hlt : k < s.size
      · have hnx := next_any s HM.out k hlt wr b off hvr
        clear hvr
        cases hwd : wordAt (s.data.toList.drop k) with
        | error e =>
          rw [hwd] at hnx
          have HE : Hid (lexAll s.data.toList = ([], e, k)) := Lib.hid (HR.out.err (by rw [HL.out]; exact hlt) hwd (by rw [HL.out]; omega))
          have he := word_e hwd
          have m1 : ((e : Int) != 0) = true := by rw [bne_iff_ne]; omega
          clear hwd he
          have hnx : Calls Tryz.prog 27 #[.string s, .int .i64 k] wr fun e_1 w' => e_1 = .returned (.tuple #[.agg #[.int .i64 0, .int .i64 0, .string ⟨#[]⟩, .float .f64 0], .int .i64 0, .int .i64 e]) ∧ Below wr.heap.size wr w' := hnx
          go_wp2_with fail
          refine hnx.mono ?_
          rintro e1 w2 ⟨rfl, hb2⟩
          have HB2 := Lib.hid (HB.out.trans (hb2.mono hzr))
          have hz2 := hb2.size
          clear hnx hb2
          obtain ⟨c0, c1, f0, f1⟩ := flt_cells (HW0.out.below HB2.out hWs)
          have hz3 : w.heap.size < w2.heap.size := by omega
          go_wp2_with fail
          refine bodyPost_ret (v := .tuple #[.slice none 0 0, .agg #[.int .i64 e, .int .i64 k]]) (by simp [results, Tryz.results11, go_sem, c0, c1, hz3]) rfl ⟨?_, ?_⟩
          · refine ⟨.slice none 0 0, ?_, ?_⟩
            · rw [HE.out]
            · rw [HE.out]
              exact World.ownsRow_nil _ _ _ _
          · exact (((HWB.out.trans (HB2.out.mono (Nat.le_of_lt hWs))).setCell (Nat.le_refl _) _).setCell (Nat.le_refl _) _).alloc (by simp; omega) _
        | ok x =>
          obtain ⟨kd, t, wt, n⟩ := x
          rw [hwd] at hnx
          obtain ⟨hr2, hn2⟩ := HR.out.step (by rw [HL.out]; exact hlt) hwd
          rw [HL.out] at hn2
          have HR2 := Lib.hid hr2
          have hsk := fun w => skip_any s HM.out (k + n + 1) hn2 w
          have HK2 : Hid (nxt s.data.toList (k + n + 1) ≤ s.size ∧ k < nxt s.data.toList (k + n + 1)) := Lib.hid ⟨by have := nxt_le s.data.toList (k + n + 1) (by rw [HL.out]; omega); rw [HL.out] at this; exact this, by have := nxt_ge s.data.toList (k + n + 1); omega⟩
          generalize nxt s.data.toList (k + n + 1) = k2 at *
          have hnx : Calls Tryz.prog 27 #[.string s, .int .i64 k] wr fun e_1 w' => e_1 = .returned (.tuple #[.agg #[.int .i64 kd, .int .i64 0, .string (S t), .float .f64 wt], .int .i64 (k + n + 1 : Nat), .int .i64 0]) ∧ Below wr.heap.size wr w' := hnx
          have HSK := Lib.hid hsk
          clear hwd hr2 hsk
          go_wp2_with fail
          refine hnx.mono ?_
          rintro e1 w2 ⟨rfl, hb2⟩
          have HB2 := Lib.hid (HB.out.trans (hb2.mono hzr))
          have hz2 := hb2.size
          have HB2' := Lib.hid hb2
          clear hnx hb2
          have ho2 := own_below HO.out HB2'.out
          have HO2 := Lib.hid ho2
          have hz3 : W0.heap.size ≤ w2.heap.size := by omega
          clear ho2
          go_wp2_with (at_builtin; refine wpList_append_own_at _ rfl (.tmp 36) (.tmp 38) 23 rfl W0.heap.size 36 i1 (.agg tok0) 4 40 Tryz.underlying23 ki kz0 kz1 kz2 rfl (by decide) _ ts.length (tcells ts) rfl ((HO2.out.alloc _).alloc _) ⟨w2.heap.size + 1, 0, none⟩ 1 1 (tokC ⟨kd, k, t, wt⟩) rfl rfl (tok_new2 _ _ _ _) (tok_one _) (by unfold maxLen; omega) (by omega) (by simp; omega) ?_; intro v3 w3 hown3 hg3 _ _)
          have HO3 := Lib.hid hown3
          have HB3 := Lib.hid (((HB2.out.alloc hz3 (.cells #[.int .i64 kd, .int .i64 k, .string (S t), .float .f64 wt] 36)).alloc (by simp; omega) (.cells (tokC ⟨kd, k, t, wt⟩).toArray 36)).grown hg3 (by simp; omega) (own_row HO2.out))
          clear hown3 hg3
          refine (HSK.out w3).mono ?_
          rintro e1 w4 ⟨rfl, hb4⟩
          have HO4 := Lib.hid (own_below HO3.out hb4)
          have HB4 := Lib.hid (HB3.out.trans (hb4.mono HB3.out.size))
          clear hb4
          go_wp2_with fail
          refine ⟨⟨k2, ts ++ [⟨kd, k, t, wt⟩], rfl, HK2.out.1, ?_, HR2.out, HB4.out⟩, by simp only [intOf]; have := HK2.out.2; omega⟩
          rw [tcells_snoc, List.length_append]
          exact HO4.out
      · obtain rfl : k = s.size := by omega
        have hdn := HR.out
        rw [← HL.out] at hdn
        have HE : Hid (lexAll s.data.toList = (ts ++ [⟨0, s.size, [], 0⟩], 0, 0)) := Lib.hid (by rw [hdn.done (by rw [HL.out]; omega), HL.out])
        clear hdn hvr
        obtain ⟨c0, c1, f0, f1⟩ := flt_cells (HW0.out.below HB.out hWs)
        go_wp2_with (at_builtin; refine wpList_append_own_at _ rfl (.tmp 41) (.tmp 45) 23 rfl W0.heap.size 36 i1 (.agg tok0) 4 40 Tryz.underlying23 ki kz0 kz1 kz2 rfl (by decide) _ ts.length (tcells ts) rfl (HO.out.alloc _) ⟨wr.heap.size, 0, none⟩ 1 1 (tokC ⟨0, s.size, [], 0⟩) rfl rfl (tok_new _ _ _) (tok_one _) (by unfold maxLen; omega) (by omega) (by simp; omega) ?_; intro v3 w3 hown3 hg3 _ _; have HO3 := Lib.hid hown3; have HB3 := Lib.hid ((HB.out.alloc hzr (.cells (tokC ⟨0, s.size, [], 0⟩).toArray 36)).grown hg3 (by simp; omega) (own_row HO.out)); clear hown3 hg3 c0 c1 f0 f1; obtain ⟨c0, c1, f0, f1⟩ := flt_cells (HW0.out.below HB3.out hWs))
        refine bodyPost_ret (v := .tuple #[v3, .agg #[.int .i64 0, .int .i64 0]]) (by simp [results, Tryz.results11, go_sem, c0, c1]) rfl ⟨?_, ?_⟩
        · refine ⟨v3, ?_, ?_⟩
          · rw [HE.out]
            rfl
          · rw [HE.out, tcells_snoc, List.length_append]
            exact own_base (own_set (own_set HO3.out hWs) hWs) (Nat.le_of_lt hWs)
        · exact ((HWB.out.trans (HB3.out.mono (Nat.le_of_lt hWs))).setCell (Nat.le_refl _) _).setCell (Nat.le_refl _) _
end Go.Proofs.YtjddjdpgnoebnaaGreatDoor.lx

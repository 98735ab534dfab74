import Derived.Test.YtdddbkghleblhaaGreatDoorJah
import Derived.Deep.RegionHeld3
namespace Go.Proofs.YtdddbkghleblhaaGreatDoor.lx
open Go.ChangeShapes Go.WideShapes Go.ChangeAt Go.RowKit
set_option linter.unusedVariables false
theorem lex_split (s : List UInt8) : ∀ (m k : Nat), s.length - k < m → k ≤ s.length → ∀ ts, lexA s k = (ts, none) → ∃ u, ts = u ++ [⟨0, s.length, [], 0⟩] ∧ ∀ t ∈ u, t.kind ≠ 0
  | 0, k, h, _, _, _ => by omega
  | m + 1, k, h, hk, ts, hts => by
    by_cases hlt : k < s.length
    · cases hx : wordAt (s.drop k) with
      | error e =>
        rw [lexA_error _ _ e hlt hx] at hts
        cases hts
      | ok x =>
        obtain ⟨kd, t, w, n⟩ := x
        have hn := word_n hx
        rw [List.length_drop] at hn
        have hg := nxt_ge s (k + n + 1)
        have hle := nxt_le s (k + n + 1) (by omega)
        have hkd := word_kind hx
        rw [lexA_ok _ _ kd w n t hlt hx] at hts
        rcases hy : lexA s (nxt s (k + n + 1)) with ⟨us, f⟩
        rw [hy] at hts
        obtain rfl : f = none := congrArg Prod.snd hts
        obtain rfl : ⟨kd, k, t, w⟩ :: us = ts := congrArg Prod.fst hts
        obtain ⟨u, rfl, hu⟩ := lex_split s m _ (by omega) hle _ hy
        refine ⟨⟨kd, k, t, w⟩ :: u, rfl, fun t' ht' => ?_⟩
        rcases List.mem_cons.1 ht' with rfl | ht'
        · show kd ≠ 0
          omega
        · exact hu t' ht'
    · obtain rfl : k = s.length := by omega
      rw [lexA_end] at hts
      obtain rfl : _ = ts := congrArg Prod.fst hts
      exact ⟨[], rfl, fun t ht => by simp at ht⟩
theorem all_split (s : List UInt8) {x : List Tok} (h : lexAll s = (x, 0, 0)) : ∃ u, x = u ++ [⟨0, s.length, [], 0⟩] ∧ ∀ t ∈ u, t.kind ≠ 0 := by
  unfold lexAll at h
  by_cases hb : 65536 < s.length
  · rw [if_pos hb] at h
    cases h
  · rw [if_neg hb] at h
    rcases hA : lexA s (nxt s 0) with ⟨y, f⟩
    rw [hA] at h
    cases f with
    | some f =>
      obtain ⟨e, k⟩ := f
      have := err_ge s hA
      have h' : ([], e, k) = (x, 0, 0) := h
      have : e = 0 := congrArg (fun z => z.2.1) h'
      omega
    | none =>
      have h' : (y, 0, 0) = (x, 0, 0) := h
      obtain rfl : y = x := congrArg Prod.fst h'
      exact lex_split s _ _ (Nat.lt_succ_self _) (nxt_le s 0 (Nat.zero_le _)) _ hA
theorem read_of_bad {s : List UInt8} {e k : Nat} {x : List Tok} (h : lexAll s = (x, e, k)) (he : 1 ≤ e) : readAll s = ([], e, k) := by
  unfold readAll
  rw [h]
  exact if_neg (by show ¬ e = 0; omega)
theorem read_of_ok {s : List UInt8} {x : List Tok} (h : lexAll s = (x, 0, 0)) : readAll s = (match pText x.length x with
    | .error e => ([], e)
    | .ok ds => (ds, 0, 0)) := by
  unfold readAll
  rw [h]
  rfl
theorem VDs.len {k : Nat} : ∀ {x y : List Dfn}, VDs k x y → y.length = x.length
  | [], [], _ => rfl
  | d :: ds, d' :: ds', ⟨_, h⟩ => congrArg (· + 1) (VDs.len h)
/-- the definitions of two texts, one behind the other -/
theorem read_join (a b : List UInt8) (ha : a.length ≤ 600) (hb : b.length ≤ 600) :
    (∃ e k, 0 < e ∧ readAll a = ([], e, k) ∧ (k = a.length ∨ ∃ e' k', 0 < e' ∧ readAll (joinT a b) = ([], e', k'))) ∨
    (∃ x e k, 0 < e ∧ x ≠ [] ∧ readAll a = (x, 0, 0) ∧ readAll b = ([], e, k) ∧ ((∃ z, readAll (joinT a b) = (z, 0, 0) ∧ z.length = x.length) ∨ ∃ e' k', 0 < e' ∧ a.length < k' ∧ readAll (joinT a b) = ([], e', k'))) ∨
    (∃ x y y', x ≠ [] ∧ readAll a = (x, 0, 0) ∧ readAll b = (y, 0, 0) ∧ readAll (joinT a b) = (x ++ y', 0, 0) ∧ VDs (a.length + 1) y y') := by
  rcases lex_join a b ha hb with ⟨e, k, ⟨he, hk⟩, ea, ej⟩ | ⟨x, e, k, ⟨he, hk⟩, ⟨hx, hxl⟩, ea, eb, ej⟩ | ⟨x, y, ⟨hx, hxl, hxa⟩, ⟨hy, hyl, hya⟩, ea, eb, ej⟩
  · exact .inl ⟨e, k, he, read_of_bad ea he, .inr ⟨e, k, he, read_of_bad ej he⟩⟩
  · have hja := read_of_bad ej he
    have hjb := read_of_bad eb he
    have hra := read_of_ok ea
    cases hp : pText x.length x with
    | error q =>
      rw [hp] at hra
      exact .inl ⟨q.1, q.2, pos_text _ _ _ hp, hra, .inr ⟨_, _, he, hja⟩⟩
    | ok ds =>
      rw [hp] at hra
      have hne : ds ≠ [] := by
        obtain ⟨u, hu, huk⟩ := all_split a ea
        have h := loc_text (E := ⟨0, a.length, [], 0⟩) rfl (R := [⟨0, a.length, [], 0⟩]) (by simp) (u.length + 1) u (u.length + 1) (u.length + 1) (by omega) (by omega) (by omega) (by omega) huk
        rw [show u.length + 1 = x.length from by rw [hu]; simp, ← hu, hp] at h
        obtain ⟨_, _, _, h, _⟩ := h
        exact h
      exact .inr (.inl ⟨ds, e, k, he, hne, hra, hjb, .inr ⟨_, _, he, by omega, hja⟩⟩)
  · obtain ⟨u, rfl, huk⟩ := all_split a ea
    obtain ⟨v, rfl, hvk⟩ := all_split b eb
    have hra := read_of_ok ea
    have hrb := read_of_ok eb
    have hrj := read_of_ok ej
    rw [List.dropLast_concat] at hrj
    have hR : (v ++ [(⟨0, b.length, [], 0⟩ : Tok)]).map (shT (a.length + 1)) ≠ [] := by simp
    have hlu : (u ++ [(⟨0, a.length, [], 0⟩ : Tok)]).length = u.length + 1 := by simp
    have hlj : (u ++ (v ++ [(⟨0, b.length, [], 0⟩ : Tok)]).map (shT (a.length + 1))).length = u.length + (v.length + 1) := by simp
    have h := loc_text (E := ⟨0, a.length, [], 0⟩) rfl hR (u.length + 1) u (u.length + 1) (u.length + (v.length + 1)) (by omega) (by omega) (by omega) (by omega) huk
    rw [hlu] at hra
    rw [hlj] at hrj
    cases hp : pText (u.length + 1) (u ++ [⟨0, a.length, [], 0⟩]) with
    | error q =>
      rw [hp] at hra h
      refine .inl ⟨q.1, q.2, pos_text _ _ _ hp, hra, ?_⟩
      rcases h with h | h
      · exact .inl h
      · rw [h] at hrj
        exact .inr ⟨q.1, q.2, pos_text _ _ _ hp, hrj⟩
    | ok ds =>
      rw [hp] at hra h
      obtain ⟨f', g1, g2, g3, g4⟩ := h
      rw [g4] at hrj
      have hsh := sh_text (E := ⟨0, b.length, [], 0⟩) rfl (a.length + 1) (v.length + 1) v (by omega)
      have hlv : (v ++ [(⟨0, b.length, [], 0⟩ : Tok)]).length = v.length + 1 := by simp
      rw [hlv] at hrb
      have hkm : (v ++ [(⟨0, b.length, [], 0⟩ : Tok)]).map (shT (a.length + 1)) = v.map (shT (a.length + 1)) ++ [shT (a.length + 1) ⟨0, b.length, [], 0⟩] := by simp
      have hfu : pText f' ((v ++ [(⟨0, b.length, [], 0⟩ : Tok)]).map (shT (a.length + 1))) = pText (v.length + 1) ((v ++ [(⟨0, b.length, [], 0⟩ : Tok)]).map (shT (a.length + 1))) := by
        rw [hkm]
        exact fuel_text (E := shT (a.length + 1) ⟨0, b.length, [], 0⟩) rfl (v.length + 1) _ _ _ (by simp) (by simp; omega) (by simp)
      by_cases h0 : (hd ((v ++ [(⟨0, b.length, [], 0⟩ : Tok)]).map (shT (a.length + 1)))).kind = 0
      · have hv0 : v = [] := by
          cases v with
          | nil => rfl
          | cons t v => exact absurd h0 (hvk t (by simp))
        subst hv0
        have hpb : pText 1 [(⟨0, b.length, [], 0⟩ : Tok)] = .error (5, b.length) := text_err 0 _ _ (if_neg (by show ¬ 0 = 1; decide))
        rw [show pText (([] : List Tok).length + 1) ([] ++ [(⟨0, b.length, [], 0⟩ : Tok)]) = .error (5, b.length) from hpb] at hrb
        have hpr : pRest f' (([] ++ [(⟨0, b.length, [], 0⟩ : Tok)]).map (shT (a.length + 1))) = .ok [] := if_pos h0
        rw [hpr] at hrj
        refine .inr (.inl ⟨ds, 5, b.length, by decide, g3, hra, hrb, .inl ⟨ds ++ [], hrj, by simp⟩⟩)
      · rw [show pRest f' ((v ++ [(⟨0, b.length, [], 0⟩ : Tok)]).map (shT (a.length + 1))) = pText f' ((v ++ [(⟨0, b.length, [], 0⟩ : Tok)]).map (shT (a.length + 1))) from if_neg h0, hfu] at hrj
        cases hq : pText (v.length + 1) (v ++ [(⟨0, b.length, [], 0⟩ : Tok)]) with
        | error q =>
          cases hq' : pText (v.length + 1) ((v ++ [(⟨0, b.length, [], 0⟩ : Tok)]).map (shT (a.length + 1))) with
          | error q' =>
            rw [hq, hq'] at hsh
            rw [hq] at hrb
            rw [hq', show q' = (q.1, q.2 + (a.length + 1)) from hsh] at hrj
            exact .inr (.inl ⟨ds, q.1, q.2, pos_text _ _ _ hq, g3, hra, hrb, .inr ⟨q.1, q.2 + (a.length + 1), pos_text _ _ _ hq, by omega, hrj⟩⟩)
          | ok y => rw [hq, hq'] at hsh; exact hsh.elim
        | ok y =>
          cases hq' : pText (v.length + 1) ((v ++ [(⟨0, b.length, [], 0⟩ : Tok)]).map (shT (a.length + 1))) with
          | error q' => rw [hq, hq'] at hsh; exact hsh.elim
          | ok y' =>
            rw [hq, hq'] at hsh
            rw [hq] at hrb
            rw [hq'] at hrj
            exact .inr (.inr ⟨ds, y, y', g3, hra, hrb, hrj, hsh⟩)
end Go.Proofs.YtdddbkghleblhaaGreatDoor.lx
namespace Go.Proofs.YtdddbkghleblhaaGreatDoor.lx
open Go.ChangeShapes Go.WideShapes Go.ChangeAt Go.RowKit
set_option linter.unusedVariables false
/-! the document's example -/
theorem ra1 : readAll [101, 32, 61, 32, 37, 50, 32, 39, 97, 39, 32, 40, 101, 32, 124, 32, 41, 42, 32, 59, 32, 102, 32, 61, 32, 59] = ([(0, [101], [(4, 4611686018427387904, [.mk 7 1 [97] [] 0, .mk 11 2 [] [(12, 0, [.mk 12 0 [101] [] 0]), (16, 0, [])] 42])]), (21, [102], [(25, 0, [])])], 0, 0) := by
  unfold readAll
  rw [lexAll_G _ (by decide)]
  kernel_rfl
theorem ra2 : readAll [101, 32, 61, 32, 40, 32, 59] = ([], 5, 6) := by
  unfold readAll
  rw [lexAll_G _ (by decide)]
  kernel_rfl
end Go.Proofs.YtdddbkghleblhaaGreatDoor.lx
namespace Go.Proofs.YtdddbkghleblhaaGreatDoor.lx
open Go.ChangeShapes Go.WideShapes Go.ChangeAt Go.RowKit
set_option linter.unusedVariables false
attribute [local go_sem] run_store_float
/-! what goes up is taken -/
theorem wr_eql (n a : Nat) (w : World) : (binOp BinOp.eql 20 (Wrong n a) .nilIface).run Tryz.prog w = .ok (.bool false) w := by unfold Wrong; kernel_rfl
theorem wr_guard (n a : Nat) (w : World) : (eqGuard BinOp.eql 20 (Operand.tmp 5) (Operand.const Value.nilIface) (Wrong n a) Value.nilIface).run Tryz.prog w = .ok () w := by unfold Wrong; kernel_rfl
theorem wr_assert (n a : Nat) (w : World) : (Instr.typeAssert (Wrong n a) 20 51 true).run Tryz.prog w = .ok (.tuple #[.agg #[.int .i64 n, .int .i64 a], .bool true]) w := by unfold Wrong; kernel_rfl
set_option maxRecDepth 100000 in
theorem catch_idle (x y : Value) (w : World) :
    CallsD Tryz.prog 14 #[x, y] .returning w fun e u' w' => e = .returned (.tuple #[]) ∧ u' = .returning ∧ w = w' := by
  have hq : ∀ w : World, (binOp BinOp.eql 20 .nilIface .nilIface).run Tryz.prog w = .ok (.bool true) w := fun _ => by kernel_rfl
  refine callsD_of_wpS Tryz.func14 rfl fun c₀ cs hu => ?_
  apply wpS_seq
  apply wpS_region
  simp [wpOpsS, go_sem, recoverD, hu, Tryz.ntmps14, Exit.thenS]
  refine wpS_of_wp ?_
  go_wp2
  cases c₀
  simp_all [bodyPostS, results, Tryz.results14]
theorem tm12 (x y f : Value) : (#[x, y] ++ (Array.replicate 10 undef).setIfInBounds 3 f) = #[x, y, undef, undef, undef, f, undef, undef, undef, undef, undef, undef] := rfl
set_option maxRecDepth 100000 in
set_option maxHeartbeats 1000000 in
theorem catch_wrong (n a b0 b1 : Nat) (hne : b0 ≠ b1) (older : List PanicEntry) (w : World) (v0 : Value) (f0 f1 : Value) (h0 : Blk w b0 23 #[v0]) (h1 : Blk w b1 26 #[f0, f1]) :
    CallsD Tryz.prog 14 #[.pointer (some ⟨b0, 0, none⟩), .pointer (some ⟨b1, 0, none⟩)] (.panicking ({ v := Wrong n a, recovered := false } :: older)) w fun e u' w' => e = .returned (.tuple #[]) ∧ u' = .panicking ({ v := Wrong n a, recovered := true } :: older) ∧ Blk w' b0 23 #[.slice none 0 0] ∧ Blk w' b1 26 #[.int .i64 n, .int .i64 a] ∧ Kp (fun i => i = b0 ∨ i = b1) w w' := by
  have e1 := wr_eql n a
  have e2 := wr_assert n a
  have e3 := wr_guard n a
  have x0 := h0.cell 0
  have y0 := h1.cell 0
  have y1 := h1.cell 1
  simp only [List.getElem?_toArray, List.getElem?_cons_zero, List.getElem?_cons_succ] at x0 y0 y1
  have u0 := h0.frozen 0
  have u1 := h1.frozen 0
  have u2 := h1.frozen 1
  have l0 := h0.lt
  have l1 := h1.lt
  refine callsD_of_wpS Tryz.func14 rfl fun c₀ cs hu => ?_
  apply wpS_seq
  apply wpS_region
  generalize Wrong n a = fg at *
  simp [wpOpsS, go_sem, recoverD, hu, Tryz.ntmps14, Exit.thenS]
  refine wpS_of_wp ?_
  rw [tm12]
  go_wp2
  go_region
  all_goals
    go_wp2
    refine ⟨rfl, _, rfl, .tuple #[], results_none rfl _ _ _, rfl, rfl, ?_, ?_, ?_⟩
    · exact (((h0.set_ 0 (.slice none 0 0)).far (p := ⟨b1, 0, none⟩) hne _).far (p := ⟨b1, 1, none⟩) hne _).alloc _
    · exact (((h1.far (p := ⟨b0, 0, none⟩) (Ne.symm hne) (.slice none 0 0)).set_ 0 (.int .i64 n)).set_ 1 (.int .i64 a)).alloc _
    · have k1 : Kp (fun i => i = b0 ∨ i = b1) w (((w.setCell ⟨b0, 0, none⟩ (.slice none 0 0)).setCell ⟨b1, 0, none⟩ (.int .i64 n)).setCell ⟨b1, 1, none⟩ (.int .i64 a)) := Kp.set_ (S := fun i => i = b0 ∨ i = b1) (Kp.set_ (S := fun i => i = b0 ∨ i = b1) (Kp.set_ (S := fun i => i = b0 ∨ i = b1) (Kp.refl _ w) (.inl (.inl rfl)) _) (.inl (.inr rfl)) _) (.inl (.inr rfl)) _
      have k2 := k1.trans (Kp.alloc _ _ (.cells #[.int .i64 n, .int .i64 a] 51))
      exact ⟨k2.os, k2.tape, k2.output, k2.size, k2.block⟩
/-- the answer of Parse -/
def ParseV (B : Nat) (s : List UInt8) (e : Ending) (w : World) : Prop := ∃ v, e = .returned (.tuple #[v, .agg #[.int .i64 (readAll s).2.1, .int .i64 (readAll s).2.2]]) ∧ ListOf 3 EDef w (fun g => B ≤ g) v (readAll s).1
theorem mf (fn : Fn) (first cap : Array Value) (w : World) : (Instr.makeFunc fn first cap).run Tryz.prog w = .ok (.func fn first cap) w := rfl
theorem Kp.below {S : Nat → Prop} {w w' : World} {n : Nat} (k : Kp S w w') (hn : n ≤ w.heap.size) (hS : ∀ i, S i → n ≤ i) : Below n w w' := ⟨k.os, k.tape, k.output, k.size, fun i hi => k.block i (by omega) (fun h => by have := hS i h; omega)⟩
theorem read_bad (s : List UInt8) (h : (lexAll s).2.1 ≠ 0) : readAll s = ([], (lexAll s).2) := if_neg h
theorem read_err (s : List UInt8) (h : (lexAll s).2.1 = 0) (p : Nat × Nat) (h2 : pText (lexAll s).1.length (lexAll s).1 = .error p) : readAll s = ([], p) := by
  unfold readAll
  rw [if_pos h, h2]
theorem read_ok (s : List UInt8) (h : (lexAll s).2.1 = 0) (ds : List Dfn) (h2 : pText (lexAll s).1.length (lexAll s).1 = .ok ds) : readAll s = (ds, 0, 0) := by
  unfold readAll
  rw [if_pos h, h2]
theorem all_len (s : List UInt8) (h : (lexAll s).2.1 = 0) : (lexAll s).1.length ≤ 65537 := by
  unfold lexAll at h ⊢
  by_cases hb : 65536 < s.length
  · rw [if_pos hb] at h
    exact absurd h (by decide)
  · rw [if_neg hb] at h ⊢
    rcases hA : lexA s (nxt s 0) with ⟨x, f⟩
    have hx := (ok_ge s hA).1
    cases f with
    | some f =>
      obtain ⟨e, k⟩ := f
      exact Nat.zero_le _
    | none =>
      show x.length ≤ _
      omega
set_option maxRecDepth 100000 in
set_option maxHeartbeats 4000000 in
theorem parse_any (s : ByteArray) (hs : s.size ≤ maxLen) (w : World) (b off : Nat) (hv : Vs w b off) : Calls Tryz.prog 6 #[.string s] w fun e w' => ParseV w.heap.size s.data.toList e w' ∧ Below w.heap.size w w' := by
  have hmf := mf
  have HV := Lib.hid hv
  have ha := fun w h => all_any s hs w b off h
  have HA := Lib.hid ha
  have b0 := (Blk.new w 23 #[.slice none 0 0]).alloc (.cells #[.int .i64 0, .int .i64 0] 26)
  have b1 := Blk.new (w.alloc (.cells #[.slice none 0 0] 23)) 26 #[.int .i64 0, .int .i64 0]
  have hw0 : Below w.heap.size w ((w.alloc (.cells #[.slice none 0 0] 23)).alloc (.cells #[.int .i64 0, .int .i64 0] 26)) := ((Below.refl _ _).alloc (Nat.le_refl _) _).alloc (by simp) _
  rw [World.size_alloc] at b1
  have HB0 := Lib.hid b0
  have HB1 := Lib.hid b1
  have HW0 := Lib.hid hw0
  obtain ⟨L, hL⟩ : ∃ L, L = lexAll s.data.toList := ⟨_, rfl⟩
  have HL := Lib.hid hL
  clear b0 b1 hw0 ha hv hL
  by_cases he : L.2.1 = 0
  · have HE : Hid ((lexAll s.data.toList).2.1 = 0) := Lib.hid (by rw [← HL.out]; exact he)
    have hgd := all_good _ HE.out
    have hlen := all_len _ HE.out
    rw [← HL.out] at hgd hlen
    have HRE := Lib.hid (read_err _ HE.out)
    have HRO := Lib.hid (read_ok _ HE.out)
    rw [← HL.out] at HRE HRO
    have hAV : ∀ w' : World, AllV w'.heap.size s.data.toList = fun e w'' => ∃ v, e = .returned (.tuple #[v, .agg #[.int .i64 0, .int .i64 0]]) ∧ w''.ownsRow w'.heap.size 77 4 v L.1.length (tcells L.1) := fun w' => by
      unfold AllV
      rw [← HL.out, he, hgd.2]
      rfl
    have HAV := Lib.hid hAV
    obtain ⟨ts, hts⟩ : ∃ ts, ts = L.1 := ⟨_, rfl⟩
    rw [← hts] at HRE HRO HAV hlen
    have HG : Hid (Good ts) := Lib.hid (by rw [hts]; exact hgd.1)
    have hpos := HG.out.pos
    clear he hgd hts hAV HL HE
    go_enter_defers Tryz.func6, Tryz.ntmps6
    go_wp2_with fail
    refine (HA.out _ (HV.out.below HW0.out)).mono ?_
    rintro e w1 ⟨hall, hb1⟩
    rw [HAV.out] at hall
    obtain ⟨v, rfl, ho⟩ := hall
    obtain ⟨_, ⟨_, h0⟩ | ⟨g, c, cur, rfl, hB, hh, hn, hc, _⟩⟩ := id ho
    · omega
    have hg := lt_heap hh
    have hcs := ho.cells (show (Value.slice (some ⟨g, 0, none⟩) ts.length c).ownBlock = some g from rfl)
    have hsz0 : ((w.alloc (.cells #[.slice none 0 0] 23)).alloc (.cells #[.int .i64 0, .int .i64 0] 26)).heap.size = w.heap.size + 2 := by simp
    rw [hsz0] at hB
    have hz1 : w.heap.size + 2 ≤ w1.heap.size := by have := hb1.size; rw [hsz0] at this; omega
    have b0 := HB0.out.below hb1 (by simp; omega)
    have b1 := HB1.out.below hb1 (by simp)
    have x0 := b0.cell 0
    have y0 := b1.cell 0
    have y1 := b1.cell 1
    simp only [List.getElem?_toArray, List.getElem?_cons_zero, List.getElem?_cons_succ] at x0 y0 y1
    have u0 := b0.frozen 0
    have u1 := b1.frozen 0
    have u2 := b1.frozen 1
    have l0 := b0.lt
    have l1 := b1.lt
    have HB1w := Lib.hid (HW0.out.trans (hb1.mono (by simp; omega)))
    have HC := Lib.hid hcs
    clear ho hb1 hh hcs hsz0
    go_wp2_with fail
    have b0 := (b0.far (p := ⟨w.heap.size + 1, 0, none⟩) (by show w.heap.size ≠ w.heap.size + 1; omega) (.int .i64 0)).far (p := ⟨w.heap.size + 1, 1, none⟩) (by show w.heap.size ≠ w.heap.size + 1; omega) (.int .i64 0)
    have b1 := (b1.set_ 0 (.int .i64 0)).set_ 1 (.int .i64 0)
    have hk2 : Kp (fun i => i = w.heap.size + 1) w1 ((w1.setCell ⟨w.heap.size + 1, 0, none⟩ (.int .i64 0)).setCell ⟨w.heap.size + 1, 1, none⟩ (.int .i64 0)) := (kp_at _ _ _ _).trans (kp_at _ _ _ _)
    have hz2 : ((w1.setCell ⟨w.heap.size + 1, 0, none⟩ (.int .i64 0)).setCell ⟨w.heap.size + 1, 1, none⟩ (.int .i64 0)).heap.size = w1.heap.size := by simp
    have hC2 : ∀ j u, (tcells ts)[j]? = some u → ((w1.setCell ⟨w.heap.size + 1, 0, none⟩ (.int .i64 0)).setCell ⟨w.heap.size + 1, 1, none⟩ (.int .i64 0)).cell? ⟨g, j, none⟩ = some u := fun j u hj => hk2.cell (by have := HC.out j u hj; rwa [add0] at this) (by show ¬ g = w.heap.size + 1; omega)
    have hbw := HB1w.out.trans (hk2.below (n := w.heap.size) (by omega) (fun i hi => by omega))
    generalize (w1.setCell ⟨w.heap.size + 1, 0, none⟩ (.int .i64 0)).setCell ⟨w.heap.size + 1, 1, none⟩ (.int .i64 0) = w2 at *
    rw [← hz2] at hz1 hg ⊢
    clear hk2 x0 y0 y1 u0 u1 u2 l0 l1 hz2
    have bp := Blk.new w2 53 #[.slice (some ⟨g, 0, none⟩) ts.length c, .int .i64 0]
    have hsz : (w2.alloc (.cells #[.slice (some ⟨g, 0, none⟩) ts.length c, .int .i64 0] 53)).heap.size = w2.heap.size + 1 := World.size_alloc _ _
    have hpat : PAt (w2.alloc (.cells #[.slice (some ⟨g, 0, none⟩) ts.length c, .int .i64 0] 53)) w2.heap.size ts 0 := ⟨g, 0, c, bp, hn, hc, hg, by rw [hsz]; omega, fun j u hj => by
      rw [Nat.zero_add]
      exact (World.cell?_alloc_lt w2 _ ⟨g, j, none⟩ hg).trans (hC2 j u hj)⟩
    have b0 := b0.alloc (.cells #[.slice (some ⟨g, 0, none⟩) ts.length c, .int .i64 0] 53)
    have b1 := b1.alloc (.cells #[.slice (some ⟨g, 0, none⟩) ts.length c, .int .i64 0] 53)
    have hbw3 := hbw.alloc (by omega) (.cells #[.slice (some ⟨g, 0, none⟩) ts.length c, .int .i64 0] 53)
    generalize w2.alloc (.cells #[.slice (some ⟨g, 0, none⟩) ts.length c, .int .i64 0] 53) = w3 at *
    clear hbw hC2 bp
    refine (text_any w3 w2.heap.size ts hpat HG.out (by omega)).mono ?_
    rintro e w4 ⟨hk4, h4⟩
    have b0 := b0.kept hk4 (by show ¬ w.heap.size = w2.heap.size; omega)
    have b1 := b1.kept hk4 (by show ¬ w.heap.size + 1 = w2.heap.size; omega)
    have hz4 := hk4.size
    have hbw4 := hbw3.trans (hk4.below (n := w.heap.size) (by omega) (fun i hi => by omega))
    clear hbw3 hk4 hpat
    cases hx : pText ts.length ts with
    | error p =>
      rw [hx] at h4
      obtain rfl : e = _ := h4
      have HR := Lib.hid (HRE.out p hx)
      clear hx HRE HRO
      go_wp2_with fail
      refine leaves_cons (f := 14) (args := #[.pointer (some ⟨w.heap.size, 0, none⟩), .pointer (some ⟨w.heap.size + 1, 0, none⟩)]) (by simp) (by simp [go_sem]) ?_
      refine (catch_wrong p.1 p.2 w.heap.size (w.heap.size + 1) (by omega) [] w4 _ _ _ b0 b1).mono ?_
      rintro e u' w5 ⟨rfl, rfl, c0, c1, hk5⟩
      have z0 := c0.cell 0
      have z1 := c1.cell 0
      have z2 := c1.cell 1
      simp only [List.getElem?_toArray, List.getElem?_cons_zero, List.getElem?_cons_succ] at z0 z1 z2
      have l0 := c0.lt
      have l1 := c1.lt
      have hbf := hbw4.trans (hk5.below (n := w.heap.size) (by omega) (fun i hi => by omega))
      have HF : Hid (∀ w', ParseV w.heap.size s.data.toList (.returned (.tuple #[.slice none 0 0, .agg #[.int .i64 p.1, .int .i64 p.2]])) w') := Lib.hid fun w' => by
        unfold ParseV
        rw [HR.out]
        exact ⟨_, rfl, ListOf.nil _ _⟩
      simp [Leaves, settle, results, Tryz.results6, go_sem, z0, z1, z2]
      exact ⟨HF.out _, hbf⟩
    | ok ds =>
      rw [hx] at h4
      obtain ⟨v, rfl, hv⟩ := h4
      obtain ⟨ao, cc, rfl⟩ := hv.form
      have HR := Lib.hid (HRO.out ds hx)
      have HVV := Lib.hid hv
      have x0 := b0.cell 0
      have y0 := b1.cell 0
      have y1 := b1.cell 1
      simp only [List.setIfInBounds_toArray, List.set_cons_zero, List.set_cons_succ, List.getElem?_toArray, List.getElem?_cons_zero, List.getElem?_cons_succ] at x0 y0 y1
      have u0 := b0.frozen 0
      have u1 := b1.frozen 0
      have u2 := b1.frozen 1
      have l0 := b0.lt
      have l1 := b1.lt
      have HC0 := Lib.hid b0
      have HC1 := Lib.hid b1
      have HBW := Lib.hid hbw4
      clear hx HRE HRO hv b0 b1 hbw4
      go_wp2_with fail
      have c0 : Blk (((w4.setCell ⟨w.heap.size, 0, none⟩ (.slice ao ds.length cc)).setCell ⟨w.heap.size + 1, 0, none⟩ (.int .i64 0)).setCell ⟨w.heap.size + 1, 1, none⟩ (.int .i64 0)) w.heap.size 23 #[.slice ao ds.length cc] := ((HC0.out.set_ 0 (.slice ao ds.length cc)).far (p := ⟨w.heap.size + 1, 0, none⟩) (by show w.heap.size ≠ w.heap.size + 1; omega) _).far (p := ⟨w.heap.size + 1, 1, none⟩) (by show w.heap.size ≠ w.heap.size + 1; omega) _
      have c1 : Blk (((w4.setCell ⟨w.heap.size, 0, none⟩ (.slice ao ds.length cc)).setCell ⟨w.heap.size + 1, 0, none⟩ (.int .i64 0)).setCell ⟨w.heap.size + 1, 1, none⟩ (.int .i64 0)) (w.heap.size + 1) 26 #[.int .i64 0, .int .i64 0] := ((HC1.out.far (p := ⟨w.heap.size, 0, none⟩) (by show w.heap.size + 1 ≠ w.heap.size; omega) (.slice ao ds.length cc)).set_ 0 (.int .i64 0)).set_ 1 (.int .i64 0)
      have k1 : Kp (fun i => i = w.heap.size ∨ i = w.heap.size + 1) w4 (((w4.setCell ⟨w.heap.size, 0, none⟩ (.slice ao ds.length cc)).setCell ⟨w.heap.size + 1, 0, none⟩ (.int .i64 0)).setCell ⟨w.heap.size + 1, 1, none⟩ (.int .i64 0)) := Kp.set_ (S := fun i => i = w.heap.size ∨ i = w.heap.size + 1) (Kp.set_ (S := fun i => i = w.heap.size ∨ i = w.heap.size + 1) (Kp.set_ (S := fun i => i = w.heap.size ∨ i = w.heap.size + 1) (Kp.refl _ w4) (.inl (.inl rfl)) _) (.inl (.inr rfl)) _) (.inl (.inr rfl)) _
      have hbf := HBW.out.trans (k1.below (n := w.heap.size) (by omega) (fun i hi => by omega))
      have hvf := HVV.out.keep keepsDef (A' := fun g => w.heap.size ≤ g) (fun g hg hA => ⟨by omega, k1.block g hg (by omega)⟩) k1.size
      generalize ((w4.setCell ⟨w.heap.size, 0, none⟩ (.slice ao ds.length cc)).setCell ⟨w.heap.size + 1, 0, none⟩ (.int .i64 0)).setCell ⟨w.heap.size + 1, 1, none⟩ (.int .i64 0) = w5 at *
      refine leaves_cons (f := 14) (args := #[.pointer (some ⟨w.heap.size, 0, none⟩), .pointer (some ⟨w.heap.size + 1, 0, none⟩)]) (by simp) (by simp [go_sem]) ?_
      refine (catch_idle _ _ _).mono ?_
      rintro e u' w6 ⟨rfl, rfl, rfl⟩
      have z0 := c0.cell 0
      have z1 := c1.cell 0
      have z2 := c1.cell 1
      simp only [List.getElem?_toArray, List.getElem?_cons_zero, List.getElem?_cons_succ] at z0 z1 z2
      have l0 := c0.lt
      have l1 := c1.lt
      have HF : Hid (ParseV w.heap.size s.data.toList (.returned (.tuple #[.slice ao ds.length cc, .agg #[.int .i64 0, .int .i64 0]])) w5) := Lib.hid (by
        unfold ParseV
        rw [HR.out]
        exact ⟨_, rfl, hvf⟩)
      simp [Leaves, settle, results, Tryz.results6, go_sem, z0, z1, z2]
      exact ⟨HF.out, hbf⟩
  · have HR := Lib.hid (read_bad _ (by rw [← HL.out]; exact he))
    have he' : ((L.2.1 : Int) != 0) = true := by rw [bne_iff_ne]; omega
    go_enter_defers Tryz.func6, Tryz.ntmps6
    go_wp2_with fail
    refine (HA.out _ (HV.out.below HW0.out)).mono ?_
    rintro e w1 ⟨⟨v, rfl, ho⟩, hb1⟩
    rw [← HL.out] at ho
    rw [← HL.out]
    obtain ⟨ao, c, rfl⟩ := own_form ho
    have hz1 : w.heap.size + 2 ≤ w1.heap.size := by have := hb1.size; simp at this; omega
    have b0 := HB0.out.below hb1 (by simp; omega)
    have b1 := HB1.out.below hb1 (by simp)
    have x0 := b0.cell 0
    have y0 := b1.cell 0
    have y1 := b1.cell 1
    simp only [List.getElem?_toArray, List.getElem?_cons_zero, List.getElem?_cons_succ] at x0 y0 y1
    have u0 := b0.frozen 0
    have u1 := b1.frozen 0
    have u2 := b1.frozen 1
    have l0 := b0.lt
    have l1 := b1.lt
    have HB1w := Lib.hid (HW0.out.trans (hb1.mono (by simp; omega)))
    clear ho hb1 he
    go_wp2_with fail
    have b0 := (b0.far (p := ⟨w.heap.size + 1, 0, none⟩) (by show w.heap.size ≠ w.heap.size + 1; omega) (.int .i64 L.2.1)).far (p := ⟨w.heap.size + 1, 1, none⟩) (by show w.heap.size ≠ w.heap.size + 1; omega) (.int .i64 L.2.2)
    have b1 := (b1.set_ 0 (.int .i64 L.2.1)).set_ 1 (.int .i64 L.2.2)
    have hk2 : Kp (fun i => i = w.heap.size + 1) w1 ((w1.setCell ⟨w.heap.size + 1, 0, none⟩ (.int .i64 L.2.1)).setCell ⟨w.heap.size + 1, 1, none⟩ (.int .i64 L.2.2)) := (kp_at _ _ _ _).trans (kp_at _ _ _ _)
    have hbw := HB1w.out.trans (hk2.below (n := w.heap.size) (by omega) (fun i hi => by omega))
    generalize (w1.setCell ⟨w.heap.size + 1, 0, none⟩ (.int .i64 L.2.1)).setCell ⟨w.heap.size + 1, 1, none⟩ (.int .i64 L.2.2) = w2 at *
    clear x0 y0 y1 u0 u1 u2 l0 l1 hk2
    have x0 := b0.cell 0
    have y0 := b1.cell 0
    have y1 := b1.cell 1
    simp only [List.setIfInBounds_toArray, List.set_cons_zero, List.set_cons_succ, List.getElem?_toArray, List.getElem?_cons_zero, List.getElem?_cons_succ] at x0 y0 y1
    have u0 := b0.frozen 0
    have u1 := b1.frozen 0
    have u2 := b1.frozen 1
    have l0 := b0.lt
    have l1 := b1.lt
    have HBW := Lib.hid hbw
    have HC0 := Lib.hid b0
    have HC1 := Lib.hid b1
    clear hbw b0 b1
    go_region
    all_goals
      go_wp2
      have c0 : Blk ((((w2.setCell ⟨w.heap.size, 0, none⟩ (.slice none 0 0)).setCell ⟨w.heap.size + 1, 0, none⟩ (.int .i64 L.2.1)).setCell ⟨w.heap.size + 1, 1, none⟩ (.int .i64 L.2.2)).drew) w.heap.size 23 #[.slice none 0 0] := ((HC0.out.set_ 0 (.slice none 0 0)).far (p := ⟨w.heap.size + 1, 0, none⟩) (by show w.heap.size ≠ w.heap.size + 1; omega) _).far (p := ⟨w.heap.size + 1, 1, none⟩) (by show w.heap.size ≠ w.heap.size + 1; omega) _
      have c1 : Blk ((((w2.setCell ⟨w.heap.size, 0, none⟩ (.slice none 0 0)).setCell ⟨w.heap.size + 1, 0, none⟩ (.int .i64 L.2.1)).setCell ⟨w.heap.size + 1, 1, none⟩ (.int .i64 L.2.2)).drew) (w.heap.size + 1) 26 #[.int .i64 L.2.1, .int .i64 L.2.2] := ((HC1.out.far (p := ⟨w.heap.size, 0, none⟩) (by show w.heap.size + 1 ≠ w.heap.size; omega) (.slice none 0 0)).set_ 0 (.int .i64 L.2.1)).set_ 1 (.int .i64 L.2.2)
      have k1 : Kp (fun i => i = w.heap.size ∨ i = w.heap.size + 1) w2 ((((w2.setCell ⟨w.heap.size, 0, none⟩ (.slice none 0 0)).setCell ⟨w.heap.size + 1, 0, none⟩ (.int .i64 L.2.1)).setCell ⟨w.heap.size + 1, 1, none⟩ (.int .i64 L.2.2))) := Kp.set_ (S := fun i => i = w.heap.size ∨ i = w.heap.size + 1) (Kp.set_ (S := fun i => i = w.heap.size ∨ i = w.heap.size + 1) (Kp.set_ (S := fun i => i = w.heap.size ∨ i = w.heap.size + 1) (Kp.refl _ w2) (.inl (.inl rfl)) _) (.inl (.inr rfl)) _) (.inl (.inr rfl)) _
      have k2 : Kp (fun i => i = w.heap.size ∨ i = w.heap.size + 1) w2 ((((w2.setCell ⟨w.heap.size, 0, none⟩ (.slice none 0 0)).setCell ⟨w.heap.size + 1, 0, none⟩ (.int .i64 L.2.1)).setCell ⟨w.heap.size + 1, 1, none⟩ (.int .i64 L.2.2)).drew) := ⟨k1.os, k1.tape, k1.output, k1.size, k1.block⟩
      have hbf := HBW.out.trans (k2.below (n := w.heap.size) (by omega) (fun i hi => by omega))
      generalize (((w2.setCell ⟨w.heap.size, 0, none⟩ (.slice none 0 0)).setCell ⟨w.heap.size + 1, 0, none⟩ (.int .i64 L.2.1)).setCell ⟨w.heap.size + 1, 1, none⟩ (.int .i64 L.2.2)).drew = w3 at *
      have z0 := c0.cell 0
      have z1 := c1.cell 0
      have z2 := c1.cell 1
      simp only [List.getElem?_toArray, List.getElem?_cons_zero, List.getElem?_cons_succ] at z0 z1 z2
      have l0 := c0.lt
      have l1 := c1.lt
      have HF : Hid (∀ w', ParseV w.heap.size s.data.toList (.returned (.tuple #[.slice none 0 0, .agg #[.int .i64 L.2.1, .int .i64 L.2.2]])) w') := Lib.hid fun w' => by
        unfold ParseV
        rw [HR.out, ← HL.out]
        exact ⟨_, rfl, ListOf.nil _ _⟩
      clear c0 c1 k1 k2
      simp [bodyPostD, Leaves, results, Tryz.results6, go_sem, z0, z1, z2]
      exact ⟨HF.out _, hbf⟩
end Go.Proofs.YtdddbkghleblhaaGreatDoor.lx
namespace Go.Proofs.YtdddbkghleblhaaGreatDoor.lx
open Go.ChangeShapes Go.WideShapes Go.ChangeAt Go.RowKit
set_option linter.unusedVariables false
attribute [local go_sem] run_store_float
/-- an element of a list -/
theorem ListOf.at {α : Type} {c : Nat} {E : Elem α} {w : World} {A : Nat → Prop} {v : Value} {xs : List α} (h : ListOf c E w A v xs) {n cap : Nat} {ao : Option Addr} (e : v = .slice ao n cap) (h0 : 0 < xs.length) : ∃ g, ao = some ⟨g, 0, none⟩ ∧ g < w.heap.size ∧ ∀ k x, xs[k]? = some x → ∃ cs, cs.length = c ∧ (∀ j u, cs[j]? = some u → w.cell? ⟨g, k * c + j, none⟩ = some u) ∧ E w A x cs := by
  obtain ⟨_, ao', cap', e', h⟩ := h
  obtain ⟨g, e2, hg, _, hc⟩ := h h0
  rw [e] at e'
  cases e'
  exact ⟨g, e2, hg, hc⟩
theorem behind3 {w : World} {a : Addr} {v : Value} (h : w.cell? a = some v) (hl : a.block < w.heap.size) (o1 o2 o3 : Obj) : (((w.alloc o1).alloc o2).alloc o3).cell? a = some v :=
  (World.cell?_alloc_lt _ o3 a (by rw [World.size_alloc, World.size_alloc]; omega)).trans ((World.cell?_alloc_lt _ o2 a (by rw [World.size_alloc]; omega)).trans ((World.cell?_alloc_lt w o1 a hl).trans h))
set_option maxRecDepth 100000 in
set_option maxHeartbeats 4000000 in
theorem ralive_any (w : World) (b off : Nat) (hv : Vs w b off) : Calls Tryz.prog 5 #[] w fun e w' => e = .returned (.bool true) ∧ Below w.heap.size w w' := by
  have a1 := parse_any ⟨#[101, 32, 61, 32, 37, 50, 32, 39, 97, 39, 32, 40, 101, 32, 124, 32, 41, 42, 32, 59, 32, 102, 32, 61, 32, 59]⟩ (by decide) w b off hv
  have a2 := fun w h => parse_any ⟨#[101, 32, 61, 32, 40, 32, 59]⟩ (by decide) w b off h
  have HV := Lib.hid hv
  have HA2 := Lib.hid a2
  clear hv a2
  go_enter Tryz.func5, Tryz.ntmps5
  go_wp2_with fail
  refine a1.mono ?_
  rintro e w1 ⟨⟨v, rfl, hl⟩, hb1⟩
  rw [ra1] at hl ⊢
  obtain ⟨ao, cap, rfl⟩ := hl.form
  obtain ⟨g, rfl, hg, hc⟩ := hl.at rfl (by decide)
  obtain ⟨_, _, d0, ⟨av, rfl, hav⟩⟩ := hc 0 _ rfl
  obtain ⟨_, _, d1, ⟨av3, rfl, hav3⟩⟩ := hc 1 _ rfl
  obtain ⟨ao2, cap2, rfl⟩ := hav.form
  obtain ⟨ao3, cap3, rfl⟩ := hav3.form
  obtain ⟨g2, rfl, hg2, hc2⟩ := ListOf.at (show ListOf 3 (EAlt (AltsAt 16)) _ _ _ _ from hav) rfl (by decide)
  obtain ⟨_, _, f0, ⟨iv, rfl, hiv⟩⟩ := hc2 0 _ rfl
  obtain ⟨ao4, cap4, rfl⟩ := hiv.form
  obtain ⟨g3, rfl, hg3, hc3⟩ := hiv.at rfl (by decide)
  obtain ⟨_, _, i1, ⟨av5, rfl, hav5⟩⟩ := hc3 1 _ rfl
  obtain ⟨ao5, cap5, rfl⟩ := hav5.form
  obtain ⟨g4, rfl, hg4, hc4⟩ := ListOf.at (show ListOf 3 (EAlt (AltsAt 15)) _ _ _ _ from hav5) rfl (by decide)
  obtain ⟨_, _, j1, ⟨iv6, rfl, hiv6⟩⟩ := hc4 1 _ rfl
  obtain ⟨ao6, cap6, rfl⟩ := hiv6.form
  have HB1 := Lib.hid hb1
  have p0 := d0 0 _ rfl
  have p1 := d0 1 _ rfl
  have p2 := d0 2 _ rfl
  have q0 := d1 0 _ rfl
  have q1 := d1 1 _ rfl
  have q2 := d1 2 _ rfl
  have r0 := f0 0 _ rfl
  have r1 := f0 1 _ rfl
  have r2 := f0 2 _ rfl
  have s0 := i1 0 _ rfl
  have s1 := i1 1 _ rfl
  have s2 := i1 2 _ rfl
  have s3 := i1 3 _ rfl
  have s4 := i1 4 _ rfl
  have t0 := j1 0 _ rfl
  have t1 := j1 1 _ rfl
  have t2 := j1 2 _ rfl
  have HP := Lib.hid (And.intro p0 (And.intro p1 (And.intro p2 (And.intro q0 (And.intro q1 (And.intro q2 (And.intro r0 (And.intro r1 (And.intro r2 (And.intro s0 (And.intro s1 (And.intro s2 (And.intro s3 (And.intro s4 (And.intro t0 (And.intro t1 t2))))))))))))))))
  clear p0 p1 p2 q0 q1 q2 r0 r1 r2 s0 s1 s2 s3 s4 t0 t1 t2 d0 d1 f0 i1 j1 hc hc2 hc3 hc4 hav hav3 hiv hav5 hiv6 hl a1
  have hvs : ∀ o, Vs (w1.alloc o) b off := fun o => (HV.out.below hb1).below ((Below.refl _ _).alloc (Nat.le_refl _) _)
  have HVS := Lib.hid hvs
  clear hb1 hvs
  go_wp2_with fail
  refine (HA2.out _ (HVS.out _)).mono ?_
  rintro e w2 ⟨⟨v2, rfl, hl2⟩, hb2⟩
  rw [ra2] at hl2 ⊢
  obtain ⟨ao7, cap7, rfl⟩ := hl2.form
  have hK : ∀ a u, a.block < w1.heap.size → w1.cell? a = some u → w2.cell? a = some u := fun a u ha hu => (hb2.cell (p := a) (by rw [World.size_alloc]; omega)).trans ((World.cell?_alloc_lt w1 _ a ha).trans hu)
  obtain ⟨p0, p1, p2, q0, q1, q2, r0, r1, r2, s0, s1, s2, s3, s4, t0, t1, t2⟩ := HP.out
  replace p0 := hK _ _ hg p0
  replace p1 := hK _ _ hg p1
  replace p2 := hK _ _ hg p2
  replace q0 := hK _ _ hg q0
  replace q1 := hK _ _ hg q1
  replace q2 := hK _ _ hg q2
  replace r0 := hK _ _ hg2 r0
  replace r1 := hK _ _ hg2 r1
  replace r2 := hK _ _ hg2 r2
  replace s0 := hK _ _ hg3 s0
  replace s1 := hK _ _ hg3 s1
  replace s2 := hK _ _ hg3 s2
  replace s3 := hK _ _ hg3 s3
  replace s4 := hK _ _ hg3 s4
  replace t0 := hK _ _ hg4 t0
  replace t1 := hK _ _ hg4 t1
  replace t2 := hK _ _ hg4 t2
  have hF : Blk w2 w1.heap.size 26 flt0 := Blk.below (Blk.new w1 26 flt0) hb2 (by simp)
  obtain ⟨f0, f1, f2, f3⟩ := flt_cells hF
  have hz2 : w1.heap.size + 1 ≤ w2.heap.size := by have := hb2.size; rw [World.size_alloc] at this; exact this
  have HB3 := Lib.hid ((HB1.out.alloc HB1.out.size _).trans (hb2.mono (by have := HB1.out.size; rw [World.size_alloc]; omega)))
  have h1' : w1.heap.size < w2.heap.size := by omega
  have hg' : g < w2.heap.size := by omega
  have hg2' : g2 < w2.heap.size := by omega
  have hg3' : g3 < w2.heap.size := by omega
  have hg4' : g4 < w2.heap.size := by omega
  have hS : ((S [101]).toList == [101]) = true := by rw [← list_data]; rfl
  have y0 := behind3 t0 hg4'
  have y1 := behind3 t1 hg4'
  have y2 := behind3 t2 hg4'
  have z0 := behind3 q0 hg'
  have z1 := behind3 q1 hg'
  have z2 := behind3 q2 hg'
  clear hK hb2 hl2 hF HP
  go_wp2_with fail
  go_ret
  exact ⟨rfl, ((HB3.out.alloc (by have := HB3.out.size; omega) _).alloc (by have := HB3.out.size; rw [World.size_alloc]; omega) _).alloc (by have := HB3.out.size; rw [World.size_alloc, World.size_alloc]; omega) _⟩
end Go.Proofs.YtdddbkghleblhaaGreatDoor.lx
namespace Go.Proofs.YtdddbkghleblhaaGreatDoor.lx
open Go.ChangeShapes Go.WideShapes Go.ChangeAt Go.RowKit
set_option linter.unusedVariables false
attribute [local go_sem] run_store_float
theorem pdef_at {ts r : List Tok} {d : Dfn} (h : pDef ts = .ok (d, r)) : (hd ts).kind = 1 ∧ d.1 = (hd ts).at_ := by
  unfold pDef at h
  by_cases h1 : (hd ts).kind = 1
  · rw [if_pos h1] at h
    by_cases h2 : sg ts.tail = 61
    · rw [if_pos h2] at h
      cases hp : pShut 59 (pA 16 ts.tail.tail) with
      | error e => rw [hp] at h; cases h
      | ok q =>
        obtain ⟨bs, r2⟩ := q
        rw [hp] at h
        cases h
        exact ⟨h1, rfl⟩
    · rw [if_neg h2] at h
      cases h
  · rw [if_neg h1] at h
    cases h
theorem ptext_at {E : Tok} (hE : E.kind = 0) : ∀ (f : Nat) (u : List Tok) (ds : List Dfn), pText f (u ++ [E]) = .ok ds → ∀ d ∈ ds, ∃ t ∈ u, d.1 = t.at_
  | 0, u, ds, h => by cases h
  | f + 1, u, ds, h => by
    have hl := loc_def hE (R := [E]) (by simp) u
    unfold pText at h
    cases hp : pDef (u ++ [E]) with
    | error e => rw [hp] at h; cases h
    | ok q =>
      obtain ⟨d, r⟩ := q
      rw [hp] at h hl
      obtain ⟨t, v, rfl, hv, _⟩ := hl
      obtain ⟨k1, e1⟩ := pdef_at hp
      have hu : (hd (u ++ [E])) ∈ u := by
        cases u with
        | nil => exact absurd k1 (by show ¬ E.kind = 1; omega)
        | cons a u => exact List.mem_cons_self
      simp only at h
      intro d' hd'
      by_cases hk : (hd (v ++ [E])).kind = 0
      · rw [if_pos hk] at h
        cases h
        rw [List.mem_singleton.1 hd']
        exact ⟨_, hu, e1⟩
      · rw [if_neg hk] at h
        cases hq : pText f (v ++ [E]) with
        | error e => rw [hq] at h; cases h
        | ok ds2 =>
          rw [hq] at h
          cases h
          rcases List.mem_cons.1 hd' with rfl | hd'
          · exact ⟨_, hu, e1⟩
          · obtain ⟨t', h1, h2⟩ := ptext_at hE f v ds2 hq d' hd'
            exact ⟨t', hv.subset (List.mem_cons_of_mem _ h1), h2⟩
/-- where definitions stand -/
theorem read_at (s : List UInt8) {ds : List Dfn} (h : readAll s = (ds, 0, 0)) : ∀ d ∈ ds, d.1 ≤ s.length := by
  intro d hd'
  rcases hx : lexAll s with ⟨x, e, k⟩
  unfold readAll at h
  rw [hx] at h
  by_cases he : e = 0
  · subst he
    have hx2 : lexAll s = (x, 0, 0) := by
      unfold lexAll at hx ⊢
      by_cases hb : 65536 < s.length
      · rw [if_pos hb] at hx
        cases hx
      · rw [if_neg hb] at hx ⊢
        rcases hA : lexA s (nxt s 0) with ⟨y, f⟩
        rw [hA] at hx
        cases f with
        | some f =>
          obtain ⟨e', k'⟩ := f
          have := (err_ge s hA).1
          have h' : ([], e', k') = (x, 0, k) := hx
          have : e' = 0 := congrArg (fun z => z.2.1) h'
          omega
        | none =>
          have h' : (y, 0, 0) = (x, 0, k) := hx
          cases h'
          rfl
    obtain ⟨u, rfl, hu⟩ := all_split s hx2
    have hle : ∀ t ∈ u, t.at_ ≤ s.length := by
      unfold lexAll at hx2
      by_cases hb : 65536 < s.length
      · rw [if_pos hb] at hx2
        exact absurd (show (1 : Nat) = 0 from congrArg (fun z => z.2.1) hx2) (by decide)
      · rw [if_neg hb] at hx2
        rcases hA : lexA s (nxt s 0) with ⟨y, f⟩
        rw [hA] at hx2
        cases f with
        | some f =>
          obtain ⟨e', k'⟩ := f
          have := (err_ge s hA).1
          have : e' = 0 := congrArg (fun z => z.2.1) (show ([], e', k') = (_, 0, 0) from hx2)
          omega
        | none =>
          have e2 : y = u ++ [⟨0, s.length, [], 0⟩] := congrArg Prod.fst hx2
          intro t ht
          exact (ok_ge s hA).2 t (by rw [e2]; simp [ht])
    simp only [if_true] at h
    cases hp : pText (u ++ [(⟨0, s.length, [], 0⟩ : Tok)]).length (u ++ [(⟨0, s.length, [], 0⟩ : Tok)]) with
    | error q =>
      rw [hp] at h
      have : ds = [] := (congrArg Prod.fst h).symm
      subst this
      cases hd'
    | ok ds2 =>
      rw [hp] at h
      have : ds2 = ds := congrArg Prod.fst h
      subst this
      obtain ⟨t, ht, e⟩ := ptext_at rfl _ u _ hp d hd'
      rw [e]
      exact hle t ht
  · rw [if_neg he] at h
    have : ds = [] := (congrArg Prod.fst h).symm
    subst this
    cases hd'
/-- definitions in memory, as far as their lengths -/
def DefsAt (w : World) (g : Nat) (xs : List Dfn) : Prop := g < w.heap.size ∧ ∀ (k : Nat) (d : Dfn), xs[k]? = some d → ∃ ao cap, w.cell? ⟨g, k * 3, none⟩ = some (.int .i64 d.1) ∧ w.cell? ⟨g, k * 3 + 1, none⟩ = some (.string (S d.2.1)) ∧ w.cell? ⟨g, k * 3 + 2, none⟩ = some (.slice ao d.2.2.length cap)
theorem defs_at {w : World} {A : Nat → Prop} {ao : Option Addr} {cap : Nat} {xs : List Dfn} (h : ListOf 3 EDef w A (.slice ao xs.length cap) xs) (h0 : 0 < xs.length) : ∃ g, ao = some ⟨g, 0, none⟩ ∧ DefsAt w g xs := by
  obtain ⟨g, e, hg, hc⟩ := h.at rfl h0
  refine ⟨g, e, hg, fun k d hd => ?_⟩
  obtain ⟨cs, _, h1, ⟨av, rfl, hav⟩⟩ := hc k d hd
  obtain ⟨ao2, cap2, rfl⟩ := (show ListOf 3 (EAlt (AltsAt 16)) w A av d.2.2 from hav).form
  exact ⟨ao2, cap2, h1 0 _ rfl, h1 1 _ rfl, h1 2 _ rfl⟩
theorem DefsAt.below {w w' : World} {g : Nat} {xs : List Dfn} (h : DefsAt w g xs) (hb : Below w.heap.size w w') : DefsAt w' g xs := by
  refine ⟨Nat.lt_of_lt_of_le h.1 hb.size, fun k d hd => ?_⟩
  obtain ⟨ao, cap, h1, h2, h3⟩ := h.2 k d hd
  exact ⟨ao, cap, (hb.cell (p := ⟨g, _, none⟩) h.1).trans h1, (hb.cell (p := ⟨g, _, none⟩) h.1).trans h2, (hb.cell (p := ⟨g, _, none⟩) h.1).trans h3⟩
theorem VDs.at {k : Nat} : ∀ {y y' : List Dfn} (j : Nat) (d' : Dfn), VDs k y y' → y'[j]? = some d' → ∃ d, y[j]? = some d ∧ VD k d d'
  | [], [], j, d', h, hj => by simp at hj
  | [], e :: es, j, d', h, hj => h.elim
  | d :: ds, [], j, d', h, hj => h.elim
  | d :: ds, e :: es, 0, d', h, hj => by
    obtain rfl : e = d' := by simpa using hj
    exact ⟨d, rfl, h.1⟩
  | d :: ds, e :: es, j + 1, d', h, hj => by
    obtain ⟨c, h1, h2⟩ := VDs.at j d' h.2 (by simpa using hj)
    exact ⟨c, by simpa using h1, h2⟩
end Go.Proofs.YtdddbkghleblhaaGreatDoor.lx
namespace Go.Proofs.YtdddbkghleblhaaGreatDoor.lx
open Go.ChangeShapes Go.WideShapes Go.ChangeAt Go.RowKit
set_option linter.unusedVariables false
attribute [local go_sem] run_store_float
/-! the document's small functions -/
/-- the document's state -/
def StV (g n cap p d e : Nat) : Value := .agg #[.slice (some ⟨g, 0, none⟩) n cap, .int .i64 p, .int .i64 d, .int .i64 e]
/-- the words in memory -/
structure TAt (w : World) (g cap : Nat) (T : List Tok) : Prop where
  lt : g < w.heap.size
  cells : ∀ j u, (tcells T)[j]? = some u → w.cell? ⟨g, j, none⟩ = some u
  len : T.length ≤ 65537
  capl : T.length ≤ cap
  capm : cap ≤ maxLen
theorem TAt.below {w w' : World} {g cap n : Nat} {T : List Tok} (h : TAt w g cap T) (hb : Below n w w') (hn : g < n) : TAt w' g cap T := ⟨Nat.lt_of_lt_of_le h.lt hb.size, fun j u hj => (hb.cell (p := ⟨g, j, none⟩) hn).trans (h.cells j u hj), h.len, h.capl, h.capm⟩
theorem drop_lt {T : List Tok} {p : Nat} {t : Tok} {r : List Tok} (h : T.drop p = t :: r) : p < T.length ∧ T.getD p ⟨0, 0, [], 0⟩ = t ∧ T.drop (p + 1) = r := by
  have hlt : p < T.length := by
    rcases Nat.lt_or_ge p T.length with h1 | h1
    · exact h1
    · rw [List.drop_eq_nil_of_le h1] at h
      cases h
  rw [List.drop_eq_getElem_cons hlt] at h
  obtain ⟨h1, h2⟩ := List.cons.inj h
  exact ⟨hlt, by rw [List.getD_eq_getElem?_getD, List.getElem?_eq_getElem hlt]; exact h1, h2⟩
theorem TAt.tok {w : World} {g cap p : Nat} {T : List Tok} (h : TAt w g cap T) {t : Tok} {r : List Tok} (hd : T.drop p = t :: r) : w.cell? ⟨g, p * 4, none⟩ = some (.int .i64 t.kind) ∧ w.cell? ⟨g, p * 4 + 1, none⟩ = some (.int .i64 t.at_) ∧ w.cell? ⟨g, p * 4 + 2, none⟩ = some (.string (S t.text)) ∧ w.cell? ⟨g, p * 4 + 3, none⟩ = some (.float .f64 t.wt) := by
  obtain ⟨hlt, hg, _⟩ := drop_lt hd
  have hx := fun j hj => tcells_at T p j hlt hj
  rw [hg] at hx
  exact ⟨h.cells _ _ (hx 0 (by decide)), h.cells _ _ (hx 1 (by decide)), h.cells _ _ (hx 2 (by decide)), h.cells _ _ (hx 3 (by decide))⟩
theorem Good.sign' {ts : List Tok} {t : Tok} {r : List Tok} (h : Good ts) (hd : ts = t :: r) (hk : t.kind = 4) : ∃ c : UInt8, t.text = [c] := by
  subst hd
  obtain ⟨c, h, _⟩ := h.sign hk
  exact ⟨c, h⟩
theorem S_eq1 (c c' : UInt8) : ((S [c]).toList == (ByteArray.mk #[c']).toList) = decide (c.toNat = c'.toNat) := by
  rw [← list_data, ← list_data]
  show ([c] == [c']) = _
  rw [Bool.eq_iff_iff]
  simp [← UInt8.toNat_inj]
set_option maxRecDepth 100000 in
set_option maxHeartbeats 1000000 in
theorem rsign_any (w : World) (g cap p d e : Nat) (T : List Tok) (c : UInt8) (hc : 0 < c.toNat) (h : TAt w g cap T) (hg : Good (T.drop p)) : Calls Tryz.prog 30 #[StV g T.length cap p d e, .string ⟨#[c]⟩] w fun e w' => e = .returned (.bool (decide (sg (T.drop p) = c.toNat))) ∧ Below w.heap.size w w' := by
  obtain ⟨t, r, hd⟩ := hg.ne
  obtain ⟨hlt, _, _⟩ := drop_lt hd
  obtain ⟨c0, c1, c2, c3⟩ := h.tok hd
  have hgl := h.lt
  have hsg := fun h4 => hg.sign' hd h4
  have e : sg (T.drop p) = sgOf t := by rw [hd]; rfl
  rw [e]
  have hcl := h.capl
  have hcm := h.capm
  unfold maxLen at hcm
  generalize T.length = n at *
  obtain ⟨K, P, X, F⟩ := t
  unfold sgOf StV
  clear h hg hd e
  by_cases h4 : K = 4
  · subst h4
    obtain ⟨c', hT⟩ := hsg rfl
    have hT : X = [c'] := hT
    subst hT
    have hq := S_eq1 c' c
    have c0 : w.cell? ⟨g, p * 4, none⟩ = some (.int .i64 4) := c0
    have c2 : w.cell? ⟨g, p * 4 + 2, none⟩ = some (.string (S [c'])) := c2
    show Calls _ _ _ _ fun e w' => e = .returned (.bool (decide (c'.toNat = c.toNat))) ∧ _
    rw [← hq]
    generalize S [c'] = Y at *
    clear hsg hq
    go_enter Tryz.func30, Tryz.ntmps30
    go_wp2
    go_ret
    refine ⟨rfl, ?_⟩
    go_grown
  · have h4' : ((K : Int) == 4) = false := by rw [beq_eq_false_iff_ne]; omega
    rw [if_neg h4, decide_eq_false (show ¬ 0 = c.toNat by omega)]
    clear hsg h4
    go_enter Tryz.func30, Tryz.ntmps30
    go_wp2
    go_ret
    refine ⟨rfl, ?_⟩
    go_grown
theorem kp_st (w : World) (b : Nat) (v0 v1 v2 v3 : Value) : Kp (fun i => i = b) w ((((w.setCell ⟨b, 0, none⟩ v0).setCell ⟨b, 1, none⟩ v1).setCell ⟨b, 2, none⟩ v2).setCell ⟨b, 3, none⟩ v3) := (((kp_at _ _ _ _).trans (kp_at _ _ _ _)).trans (kp_at _ _ _ _)).trans (kp_at _ _ _ _)
set_option maxRecDepth 100000 in
set_option maxHeartbeats 1000000 in
theorem rpass_err (w : World) (g n cap p d e : Nat) (s : ByteArray) (he : 0 < e) : Calls Tryz.prog 17 #[StV g n cap p d e, .string s] w fun e_1 w' => e_1 = .returned (StV g n cap p d e) ∧ Below w.heap.size w w' := by
  unfold StV
  have he' : ((e : Int) == 0) = false := by rw [beq_eq_false_iff_ne]; omega
  go_enter Tryz.func17, Tryz.ntmps17
  go_wp2_with fail
  refine bodyPost_ret (v := .agg #[.slice (some ⟨g, 0, none⟩) n cap, .int .i64 p, .int .i64 d, .int .i64 e]) (by simp [results, Tryz.results17, go_sem]) rfl ⟨rfl, ?_⟩
  go_grown
set_option maxRecDepth 100000 in
set_option maxHeartbeats 1000000 in
theorem rpass_any (w : World) (g cap p d : Nat) (T : List Tok) (c : UInt8) (hc : 0 < c.toNat) (h : TAt w g cap T) (hg : Good (T.drop p)) : Calls Tryz.prog 17 #[StV g T.length cap p d 0, .string ⟨#[c]⟩] w fun e w' => e = .returned (if sg (T.drop p) = c.toNat then StV g T.length cap (p + 1) d 0 else StV g T.length cap p d 5) ∧ Below w.heap.size w w' := by
  have hlt : p < T.length := by
    obtain ⟨t, r, hd⟩ := hg.ne
    exact (drop_lt hd).1
  have hn := h.len
  have hs := fun w h => rsign_any w g cap p d 0 T c hc h hg
  have HS := Lib.hid hs
  have HT := Lib.hid h
  have hgl := h.lt
  have b0 := (Blk.new w 59 #[.slice (some ⟨g, 0, none⟩) T.length cap, .int .i64 p, .int .i64 d, .int .i64 0]).alloc (.cells #[.slice none 0 0, .int .i64 0, .int .i64 0, .int .i64 0] 59)
  have b1 := Blk.new (w.alloc (.cells #[.slice (some ⟨g, 0, none⟩) T.length cap, .int .i64 p, .int .i64 d, .int .i64 0] 59)) 59 #[.slice none 0 0, .int .i64 0, .int .i64 0, .int .i64 0]
  rw [World.size_alloc] at b1
  have hw0 : Below w.heap.size w ((w.alloc (.cells #[.slice (some ⟨g, 0, none⟩) T.length cap, .int .i64 p, .int .i64 d, .int .i64 0] 59)).alloc (.cells #[.slice none 0 0, .int .i64 0, .int .i64 0, .int .i64 0] 59)) := ((Below.refl _ _).alloc (Nat.le_refl _) _).alloc (by simp) _
  have hsz0 : ((w.alloc (.cells #[.slice (some ⟨g, 0, none⟩) T.length cap, .int .i64 p, .int .i64 d, .int .i64 0] 59)).alloc (.cells #[.slice none 0 0, .int .i64 0, .int .i64 0, .int .i64 0] 59)).heap.size = w.heap.size + 2 := by simp
  have HB0 := Lib.hid b0
  have HB1 := Lib.hid b1
  have HW0 := Lib.hid hw0
  have HZ0 := Lib.hid hsz0
  unfold StV at HS ⊢
  clear h hg hs b0 b1 hw0 hsz0
  by_cases hq : sg (T.drop p) = c.toNat
  · rw [if_pos hq]
    rw [decide_eq_true hq] at HS
    clear hq
    go_enter Tryz.func17, Tryz.ntmps17
    go_wp2_with fail
    refine (HS.out _ (HT.out.below HW0.out hgl)).mono ?_
    rintro e w1 ⟨rfl, hb1⟩
    rw [HZ0.out] at hb1
    have b0 := HB0.out.below hb1 (by omega)
    have b1 := HB1.out.below hb1 (by omega)
    have hz1 : w.heap.size + 2 ≤ w1.heap.size := by have := hb1.size; rw [HZ0.out] at this; exact this
    have HB := Lib.hid (HW0.out.trans (hb1.mono (by omega)))
    have l0 := b0.lt
    have l1 := b1.lt
    have x0 := b0.cell 0
    have x1 := b0.cell 1
    have x2 := b0.cell 2
    have x3 := b0.cell 3
    have y0 := b1.cell 0
    have y1 := b1.cell 1
    have y2 := b1.cell 2
    have y3 := b1.cell 3
    simp only [List.getElem?_toArray, List.getElem?_cons_zero, List.getElem?_cons_succ] at x0 x1 x2 x3 y0 y1 y2 y3
    have v1 := b0.frozen 1
    have v3 := b0.frozen 3
    have u0 := b1.frozen 0
    have u1 := b1.frozen 1
    have u2 := b1.frozen 2
    have u3 := b1.frozen 3
    clear b0 b1 hb1
    go_wp2_with fail
    have hke := kp_st (w1.setCell ⟨w.heap.size, 1, none⟩ (.int .i64 ((p : Int) + 1))) (w.heap.size + 1) (.slice (some ⟨g, 0, none⟩) T.length cap) (.int .i64 ((p : Int) + 1)) (.int .i64 d) (.int .i64 0)
    have hk1 := kp_at w1 w.heap.size 1 (.int .i64 ((p : Int) + 1))
    refine bodyPost_ret (v := .agg #[.slice (some ⟨g, 0, none⟩) T.length cap, .int .i64 (p + 1 : Nat), .int .i64 d, .int .i64 0]) (by simp [results, Tryz.results17, go_sem, y0, y1, y2, y3]) rfl ⟨rfl, (HB.out.trans (hk1.below (by omega) (fun i hi => by omega))).trans (hke.below (by simp; omega) (fun i hi => by omega))⟩
  · rw [if_neg hq]
    rw [decide_eq_false hq] at HS
    clear hq
    go_enter Tryz.func17, Tryz.ntmps17
    go_wp2_with fail
    refine (HS.out _ (HT.out.below HW0.out hgl)).mono ?_
    rintro e w1 ⟨rfl, hb1⟩
    rw [HZ0.out] at hb1
    have b0 := HB0.out.below hb1 (by omega)
    have b1 := HB1.out.below hb1 (by omega)
    have hz1 : w.heap.size + 2 ≤ w1.heap.size := by have := hb1.size; rw [HZ0.out] at this; exact this
    have HB := Lib.hid (HW0.out.trans (hb1.mono (by omega)))
    have l0 := b0.lt
    have l1 := b1.lt
    have x0 := b0.cell 0
    have x1 := b0.cell 1
    have x2 := b0.cell 2
    have x3 := b0.cell 3
    have y0 := b1.cell 0
    have y1 := b1.cell 1
    have y2 := b1.cell 2
    have y3 := b1.cell 3
    simp only [List.getElem?_toArray, List.getElem?_cons_zero, List.getElem?_cons_succ] at x0 x1 x2 x3 y0 y1 y2 y3
    have v1 := b0.frozen 1
    have v3 := b0.frozen 3
    have u0 := b1.frozen 0
    have u1 := b1.frozen 1
    have u2 := b1.frozen 2
    have u3 := b1.frozen 3
    clear b0 b1 hb1
    go_wp2_with fail
    have hke := kp_st (w1.setCell ⟨w.heap.size, 3, none⟩ (.int .i64 5)) (w.heap.size + 1) (.slice (some ⟨g, 0, none⟩) T.length cap) (.int .i64 p) (.int .i64 d) (.int .i64 5)
    have hk1 := kp_at w1 w.heap.size 3 (.int .i64 5)
    refine bodyPost_ret (v := .agg #[.slice (some ⟨g, 0, none⟩) T.length cap, .int .i64 p, .int .i64 d, .int .i64 5]) (by simp [results, Tryz.results17, go_sem, y0, y1, y2, y3]) rfl ⟨rfl, (HB.out.trans (hk1.below (by omega) (fun i hi => by omega))).trans (hke.below (by simp; omega) (fun i hi => by omega))⟩
end Go.Proofs.YtdddbkghleblhaaGreatDoor.lx

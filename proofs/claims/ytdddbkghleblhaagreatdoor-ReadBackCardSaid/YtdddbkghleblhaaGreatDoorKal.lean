import Derived.Test.YtdddbkghleblhaaGreatDoorKah
import Derived.Deep.RegionHeld3
import Derived.Test.YtdddbkghleblhaaGreatDoorKak
import Derived.Deep.Cut
import Derived.Test.YtdddbkghleblhaaGreatDoorKad
import Derived.Test.YtdddbkghleblhaaGreatDoorKaj
namespace Go.Proofs.YtdddbkghleblhaaGreatDoor.lx
open Go.ChangeShapes Go.WideShapes Go.ChangeAt Go.RowKit
set_option linter.unusedVariables false
attribute [local go_sem] run_store_float
/-! what goes up is taken -/
theorem wr_eql (n a : Nat) (w : World) : (binOp BinOp.eql 20 (Wrong n a) .nilIface).run Tryz.prog w = .ok (.bool false) w := by unfold Wrong; kernel_rfl
theorem wr_guard (n a : Nat) (w : World) : (eqGuard BinOp.eql 20 (Operand.tmp 5) (Operand.const Value.nilIface) (Wrong n a) Value.nilIface).run Tryz.prog w = .ok () w := by unfold Wrong; kernel_rfl
theorem wr_assert (n a : Nat) (w : World) : (Instr.typeAssert (Wrong n a) 20 51 true).run Tryz.prog w = .ok (.tuple #[.agg #[.int .i64 n, .int .i64 a], .bool true]) w := by unfold Wrong; kernel_rfl
set_option maxRecDepth 100000 in
theorem catch_idle (x y : Value) (w : World) :
    CallsD Tryz.prog 14 #[x, y] .returning w fun e u' w' => e = .returned (.tuple #[]) ∧ u' = .returning ∧ w = w' := by
  have hq : ∀ w : World, (binOp BinOp.eql 20 .nilIface .nilIface).run Tryz.prog w = .ok (.bool true) w := fun _ => by kernel_rfl
  refine callsD_of_wpS Tryz.func14 rfl fun c₀ cs hu => ?_
  apply wpS_seq
  apply wpS_region
  simp [wpOpsS, go_sem, recoverD, hu, Tryz.ntmps14, Exit.thenS]
  refine wpS_of_wp ?_
  go_wp2
  cases c₀
  simp_all [bodyPostS, results, Tryz.results14]
theorem tm12 (x y f : Value) : (#[x, y] ++ (Array.replicate 10 undef).setIfInBounds 3 f) = #[x, y, undef, undef, undef, f, undef, undef, undef, undef, undef, undef] := rfl
set_option maxRecDepth 100000 in
set_option maxHeartbeats 1000000 in
theorem catch_wrong (n a b0 b1 : Nat) (hne : b0 ≠ b1) (older : List PanicEntry) (w : World) (v0 : Value) (f0 f1 : Value) (h0 : Blk w b0 23 #[v0]) (h1 : Blk w b1 26 #[f0, f1]) :
    CallsD Tryz.prog 14 #[.pointer (some ⟨b0, 0, none⟩), .pointer (some ⟨b1, 0, none⟩)] (.panicking ({ v := Wrong n a, recovered := false } :: older)) w fun e u' w' => e = .returned (.tuple #[]) ∧ u' = .panicking ({ v := Wrong n a, recovered := true } :: older) ∧ Blk w' b0 23 #[.slice none 0 0] ∧ Blk w' b1 26 #[.int .i64 n, .int .i64 a] ∧ Kp (fun i => i = b0 ∨ i = b1) w w' := by
  have e1 := wr_eql n a
  have e2 := wr_assert n a
  have e3 := wr_guard n a
  have x0 := h0.cell 0
  have y0 := h1.cell 0
  have y1 := h1.cell 1
  simp only [List.getElem?_toArray, List.getElem?_cons_zero, List.getElem?_cons_succ] at x0 y0 y1
  have u0 := h0.frozen 0
  have u1 := h1.frozen 0
  have u2 := h1.frozen 1
  have l0 := h0.lt
  have l1 := h1.lt
  refine callsD_of_wpS Tryz.func14 rfl fun c₀ cs hu => ?_
  apply wpS_seq
  apply wpS_region
  generalize Wrong n a = fg at *
  simp [wpOpsS, go_sem, recoverD, hu, Tryz.ntmps14, Exit.thenS]
  refine wpS_of_wp ?_
  rw [tm12]
  go_wp2
  go_region
  all_goals
    go_wp2
    refine ⟨rfl, _, rfl, .tuple #[], results_none rfl _ _ _, rfl, rfl, ?_, ?_, ?_⟩
    · exact (((h0.set_ 0 (.slice none 0 0)).far (p := ⟨b1, 0, none⟩) hne _).far (p := ⟨b1, 1, none⟩) hne _).alloc _
    · exact (((h1.far (p := ⟨b0, 0, none⟩) (Ne.symm hne) (.slice none 0 0)).set_ 0 (.int .i64 n)).set_ 1 (.int .i64 a)).alloc _
    · have k1 : Kp (fun i => i = b0 ∨ i = b1) w (((w.setCell ⟨b0, 0, none⟩ (.slice none 0 0)).setCell ⟨b1, 0, none⟩ (.int .i64 n)).setCell ⟨b1, 1, none⟩ (.int .i64 a)) := Kp.set_ (S := fun i => i = b0 ∨ i = b1) (Kp.set_ (S := fun i => i = b0 ∨ i = b1) (Kp.set_ (S := fun i => i = b0 ∨ i = b1) (Kp.refl _ w) (.inl (.inl rfl)) _) (.inl (.inr rfl)) _) (.inl (.inr rfl)) _
      have k2 := k1.trans (Kp.alloc _ _ (.cells #[.int .i64 n, .int .i64 a] 51))
      exact ⟨k2.os, k2.tape, k2.output, k2.size, k2.block⟩
/-- the answer of Parse -/
def ParseV (B : Nat) (s : List UInt8) (e : Ending) (w : World) : Prop := ∃ v, e = .returned (.tuple #[v, .agg #[.int .i64 (readAll s).2.1, .int .i64 (readAll s).2.2]]) ∧ ListOf 3 EDef w (fun g => B ≤ g) v (readAll s).1
theorem mf (fn : Fn) (first cap : Array Value) (w : World) : (Instr.makeFunc fn first cap).run Tryz.prog w = .ok (.func fn first cap) w := rfl
theorem Kp.below {S : Nat → Prop} {w w' : World} {n : Nat} (k : Kp S w w') (hn : n ≤ w.heap.size) (hS : ∀ i, S i → n ≤ i) : Below n w w' := ⟨k.os, k.tape, k.output, k.size, fun i hi => k.block i (by omega) (fun h => by have := hS i h; omega)⟩
theorem read_bad (s : List UInt8) (h : (lexAll s).2.1 ≠ 0) : readAll s = ([], (lexAll s).2) := if_neg h
theorem read_err (s : List UInt8) (h : (lexAll s).2.1 = 0) (p : Nat × Nat) (h2 : pText (lexAll s).1.length (lexAll s).1 = .error p) : readAll s = ([], p) := by
  unfold readAll
  rw [if_pos h, h2]
theorem read_ok (s : List UInt8) (h : (lexAll s).2.1 = 0) (ds : List Dfn) (h2 : pText (lexAll s).1.length (lexAll s).1 = .ok ds) : readAll s = (ds, 0, 0) := by
  unfold readAll
  rw [if_pos h, h2]
theorem all_len (s : List UInt8) (h : (lexAll s).2.1 = 0) : (lexAll s).1.length ≤ 65537 := by
  unfold lexAll at h ⊢
  by_cases hb : 65536 < s.length
  · rw [if_pos hb] at h
    exact absurd h (by decide)
  · rw [if_neg hb] at h ⊢
    rcases hA : lexA s (nxt s 0) with ⟨x, f⟩
    have hx := (ok_ge s hA).1
    cases f with
    | some f =>
      obtain ⟨e, k⟩ := f
      exact Nat.zero_le _
    | none =>
      show x.length ≤ _
      omega
set_option maxRecDepth 100000 in
set_option maxHeartbeats 4000000 in
theorem parse_any (s : ByteArray) (hs : s.size ≤ maxLen) (w : World) (b off : Nat) (hv : Vs w b off) : Calls Tryz.prog 6 #[.string s] w fun e w' => ParseV w.heap.size s.data.toList e w' ∧ Below w.heap.size w w' := by
  have hmf := mf
  have HV := Lib.hid hv
  have ha := fun w h => all_any s hs w b off h
  have HA := Lib.hid ha
  have b0 := (Blk.new w 23 #[.slice none 0 0]).alloc (.cells #[.int .i64 0, .int .i64 0] 26)
  have b1 := Blk.new (w.alloc (.cells #[.slice none 0 0] 23)) 26 #[.int .i64 0, .int .i64 0]
  have hw0 : Below w.heap.size w ((w.alloc (.cells #[.slice none 0 0] 23)).alloc (.cells #[.int .i64 0, .int .i64 0] 26)) := ((Below.refl _ _).alloc (Nat.le_refl _) _).alloc (by simp) _
  rw [World.size_alloc] at b1
  have HB0 := Lib.hid b0
  have HB1 := Lib.hid b1
  have HW0 := Lib.hid hw0
  obtain ⟨L, hL⟩ : ∃ L, L = lexAll s.data.toList := ⟨_, rfl⟩
  have HL := Lib.hid hL
  clear b0 b1 hw0 ha hv hL
  by_cases he : L.2.1 = 0
  · have HE : Hid ((lexAll s.data.toList).2.1 = 0) := Lib.hid (by rw [← HL.out]; exact he)
    have hgd := all_good _ HE.out
    have hlen := all_len _ HE.out
    rw [← HL.out] at hgd hlen
    have HRE := Lib.hid (read_err _ HE.out)
    have HRO := Lib.hid (read_ok _ HE.out)
    rw [← HL.out] at HRE HRO
    have hAV : ∀ w' : World, AllV w'.heap.size s.data.toList = fun e w'' => ∃ v, e = .returned (.tuple #[v, .agg #[.int .i64 0, .int .i64 0]]) ∧ w''.ownsRow w'.heap.size 77 4 v L.1.length (tcells L.1) := fun w' => by
      unfold AllV
      rw [← HL.out, he, hgd.2]
      rfl
    have HAV := Lib.hid hAV
    obtain ⟨ts, hts⟩ : ∃ ts, ts = L.1 := ⟨_, rfl⟩
    rw [← hts] at HRE HRO HAV hlen
    have HG : Hid (Good ts) := Lib.hid (by rw [hts]; exact hgd.1)
    have hpos := HG.out.pos
    clear he hgd hts hAV HL HE
    go_enter_defers Tryz.func6, Tryz.ntmps6
    go_wp2_with fail
    refine (HA.out _ (HV.out.below HW0.out)).mono ?_
    rintro e w1 ⟨hall, hb1⟩
    rw [HAV.out] at hall
    obtain ⟨v, rfl, ho⟩ := hall
    obtain ⟨_, ⟨_, h0⟩ | ⟨g, c, cur, rfl, hB, hh, hn, hc, _⟩⟩ := id ho
    · omega
    have hg := lt_heap hh
    have hcs := ho.cells (show (Value.slice (some ⟨g, 0, none⟩) ts.length c).ownBlock = some g from rfl)
    have hsz0 : ((w.alloc (.cells #[.slice none 0 0] 23)).alloc (.cells #[.int .i64 0, .int .i64 0] 26)).heap.size = w.heap.size + 2 := by simp
    rw [hsz0] at hB
    have hz1 : w.heap.size + 2 ≤ w1.heap.size := by have := hb1.size; rw [hsz0] at this; omega
    have b0 := HB0.out.below hb1 (by simp; omega)
    have b1 := HB1.out.below hb1 (by simp)
    have x0 := b0.cell 0
    have y0 := b1.cell 0
    have y1 := b1.cell 1
    simp only [List.getElem?_toArray, List.getElem?_cons_zero, List.getElem?_cons_succ] at x0 y0 y1
    have u0 := b0.frozen 0
    have u1 := b1.frozen 0
    have u2 := b1.frozen 1
    have l0 := b0.lt
    have l1 := b1.lt
    have HB1w := Lib.hid (HW0.out.trans (hb1.mono (by simp; omega)))
    have HC := Lib.hid hcs
    clear ho hb1 hh hcs hsz0
    go_wp2_with fail
    have b0 := (b0.far (p := ⟨w.heap.size + 1, 0, none⟩) (by show w.heap.size ≠ w.heap.size + 1; omega) (.int .i64 0)).far (p := ⟨w.heap.size + 1, 1, none⟩) (by show w.heap.size ≠ w.heap.size + 1; omega) (.int .i64 0)
    have b1 := (b1.set_ 0 (.int .i64 0)).set_ 1 (.int .i64 0)
    have hk2 : Kp (fun i => i = w.heap.size + 1) w1 ((w1.setCell ⟨w.heap.size + 1, 0, none⟩ (.int .i64 0)).setCell ⟨w.heap.size + 1, 1, none⟩ (.int .i64 0)) := (kp_at _ _ _ _).trans (kp_at _ _ _ _)
    have hz2 : ((w1.setCell ⟨w.heap.size + 1, 0, none⟩ (.int .i64 0)).setCell ⟨w.heap.size + 1, 1, none⟩ (.int .i64 0)).heap.size = w1.heap.size := by simp
    have hC2 : ∀ j u, (tcells ts)[j]? = some u → ((w1.setCell ⟨w.heap.size + 1, 0, none⟩ (.int .i64 0)).setCell ⟨w.heap.size + 1, 1, none⟩ (.int .i64 0)).cell? ⟨g, j, none⟩ = some u := fun j u hj => hk2.cell (by have := HC.out j u hj; rwa [add0] at this) (by show ¬ g = w.heap.size + 1; omega)
    have hbw := HB1w.out.trans (hk2.below (n := w.heap.size) (by omega) (fun i hi => by omega))
    generalize (w1.setCell ⟨w.heap.size + 1, 0, none⟩ (.int .i64 0)).setCell ⟨w.heap.size + 1, 1, none⟩ (.int .i64 0) = w2 at *
    rw [← hz2] at hz1 hg ⊢
    clear hk2 x0 y0 y1 u0 u1 u2 l0 l1 hz2
    have bp := Blk.new w2 53 #[.slice (some ⟨g, 0, none⟩) ts.length c, .int .i64 0]
    have hsz : (w2.alloc (.cells #[.slice (some ⟨g, 0, none⟩) ts.length c, .int .i64 0] 53)).heap.size = w2.heap.size + 1 := World.size_alloc _ _
    have hpat : PAt (w2.alloc (.cells #[.slice (some ⟨g, 0, none⟩) ts.length c, .int .i64 0] 53)) w2.heap.size ts 0 := ⟨g, 0, c, bp, hn, hc, hg, by rw [hsz]; omega, fun j u hj => by
      rw [Nat.zero_add]
      exact (World.cell?_alloc_lt w2 _ ⟨g, j, none⟩ hg).trans (hC2 j u hj)⟩
    have b0 := b0.alloc (.cells #[.slice (some ⟨g, 0, none⟩) ts.length c, .int .i64 0] 53)
    have b1 := b1.alloc (.cells #[.slice (some ⟨g, 0, none⟩) ts.length c, .int .i64 0] 53)
    have hbw3 := hbw.alloc (by omega) (.cells #[.slice (some ⟨g, 0, none⟩) ts.length c, .int .i64 0] 53)
    generalize w2.alloc (.cells #[.slice (some ⟨g, 0, none⟩) ts.length c, .int .i64 0] 53) = w3 at *
    clear hbw hC2 bp
    refine (text_any w3 w2.heap.size ts hpat HG.out (by omega)).mono ?_
    rintro e w4 ⟨hk4, h4⟩
    have b0 := b0.kept hk4 (by show ¬ w.heap.size = w2.heap.size; omega)
    have b1 := b1.kept hk4 (by show ¬ w.heap.size + 1 = w2.heap.size; omega)
    have hz4 := hk4.size
    have hbw4 := hbw3.trans (hk4.below (n := w.heap.size) (by omega) (fun i hi => by omega))
    clear hbw3 hk4 hpat
    cases hx : pText ts.length ts with
    | error p =>
      rw [hx] at h4
      obtain rfl : e = _ := h4
      have HR := Lib.hid (HRE.out p hx)
      clear hx HRE HRO
      go_wp2_with fail
      refine leaves_cons (f := 14) (args := #[.pointer (some ⟨w.heap.size, 0, none⟩), .pointer (some ⟨w.heap.size + 1, 0, none⟩)]) (by simp) (by simp [go_sem]) ?_
      refine (catch_wrong p.1 p.2 w.heap.size (w.heap.size + 1) (by omega) [] w4 _ _ _ b0 b1).mono ?_
      rintro e u' w5 ⟨rfl, rfl, c0, c1, hk5⟩
      have z0 := c0.cell 0
      have z1 := c1.cell 0
      have z2 := c1.cell 1
      simp only [List.getElem?_toArray, List.getElem?_cons_zero, List.getElem?_cons_succ] at z0 z1 z2
      have l0 := c0.lt
      have l1 := c1.lt
      have hbf := hbw4.trans (hk5.below (n := w.heap.size) (by omega) (fun i hi => by omega))
      have HF : Hid (∀ w', ParseV w.heap.size s.data.toList (.returned (.tuple #[.slice none 0 0, .agg #[.int .i64 p.1, .int .i64 p.2]])) w') := Lib.hid fun w' => by
        unfold ParseV
        rw [HR.out]
        exact ⟨_, rfl, ListOf.nil _ _⟩
      simp [Leaves, settle, results, Tryz.results6, go_sem, z0, z1, z2]
      exact ⟨HF.out _, hbf⟩
    | ok ds =>
      rw [hx] at h4
      obtain ⟨v, rfl, hv⟩ := h4
      obtain ⟨ao, cc, rfl⟩ := hv.form
      have HR := Lib.hid (HRO.out ds hx)
      have HVV := Lib.hid hv
      have x0 := b0.cell 0
      have y0 := b1.cell 0
      have y1 := b1.cell 1
      simp only [List.setIfInBounds_toArray, List.set_cons_zero, List.set_cons_succ, List.getElem?_toArray, List.getElem?_cons_zero, List.getElem?_cons_succ] at x0 y0 y1
      have u0 := b0.frozen 0
      have u1 := b1.frozen 0
      have u2 := b1.frozen 1
      have l0 := b0.lt
      have l1 := b1.lt
      have HC0 := Lib.hid b0
      have HC1 := Lib.hid b1
      have HBW := Lib.hid hbw4
      clear hx HRE HRO hv b0 b1 hbw4
      go_wp2_with fail
      have c0 : Blk (((w4.setCell ⟨w.heap.size, 0, none⟩ (.slice ao ds.length cc)).setCell ⟨w.heap.size + 1, 0, none⟩ (.int .i64 0)).setCell ⟨w.heap.size + 1, 1, none⟩ (.int .i64 0)) w.heap.size 23 #[.slice ao ds.length cc] := ((HC0.out.set_ 0 (.slice ao ds.length cc)).far (p := ⟨w.heap.size + 1, 0, none⟩) (by show w.heap.size ≠ w.heap.size + 1; omega) _).far (p := ⟨w.heap.size + 1, 1, none⟩) (by show w.heap.size ≠ w.heap.size + 1; omega) _
      have c1 : Blk (((w4.setCell ⟨w.heap.size, 0, none⟩ (.slice ao ds.length cc)).setCell ⟨w.heap.size + 1, 0, none⟩ (.int .i64 0)).setCell ⟨w.heap.size + 1, 1, none⟩ (.int .i64 0)) (w.heap.size + 1) 26 #[.int .i64 0, .int .i64 0] := ((HC1.out.far (p := ⟨w.heap.size, 0, none⟩) (by show w.heap.size + 1 ≠ w.heap.size; omega) (.slice ao ds.length cc)).set_ 0 (.int .i64 0)).set_ 1 (.int .i64 0)
      have k1 : Kp (fun i => i = w.heap.size ∨ i = w.heap.size + 1) w4 (((w4.setCell ⟨w.heap.size, 0, none⟩ (.slice ao ds.length cc)).setCell ⟨w.heap.size + 1, 0, none⟩ (.int .i64 0)).setCell ⟨w.heap.size + 1, 1, none⟩ (.int .i64 0)) := Kp.set_ (S := fun i => i = w.heap.size ∨ i = w.heap.size + 1) (Kp.set_ (S := fun i => i = w.heap.size ∨ i = w.heap.size + 1) (Kp.set_ (S := fun i => i = w.heap.size ∨ i = w.heap.size + 1) (Kp.refl _ w4) (.inl (.inl rfl)) _) (.inl (.inr rfl)) _) (.inl (.inr rfl)) _
      have hbf := HBW.out.trans (k1.below (n := w.heap.size) (by omega) (fun i hi => by omega))
      have hvf := HVV.out.keep keepsDef (A' := fun g => w.heap.size ≤ g) (fun g hg hA => ⟨by omega, k1.block g hg (by omega)⟩) k1.size
      generalize ((w4.setCell ⟨w.heap.size, 0, none⟩ (.slice ao ds.length cc)).setCell ⟨w.heap.size + 1, 0, none⟩ (.int .i64 0)).setCell ⟨w.heap.size + 1, 1, none⟩ (.int .i64 0) = w5 at *
      refine leaves_cons (f := 14) (args := #[.pointer (some ⟨w.heap.size, 0, none⟩), .pointer (some ⟨w.heap.size + 1, 0, none⟩)]) (by simp) (by simp [go_sem]) ?_
      refine (catch_idle _ _ _).mono ?_
      rintro e u' w6 ⟨rfl, rfl, rfl⟩
      have z0 := c0.cell 0
      have z1 := c1.cell 0
      have z2 := c1.cell 1
      simp only [List.getElem?_toArray, List.getElem?_cons_zero, List.getElem?_cons_succ] at z0 z1 z2
      have l0 := c0.lt
      have l1 := c1.lt
      have HF : Hid (ParseV w.heap.size s.data.toList (.returned (.tuple #[.slice ao ds.length cc, .agg #[.int .i64 0, .int .i64 0]])) w5) := Lib.hid (by
        unfold ParseV
        rw [HR.out]
        exact ⟨_, rfl, hvf⟩)
      simp [Leaves, settle, results, Tryz.results6, go_sem, z0, z1, z2]
      exact ⟨HF.out, hbf⟩
  · have HR := Lib.hid (read_bad _ (by rw [← HL.out]; exact he))
    have he' : ((L.2.1 : Int) != 0) = true := by rw [bne_iff_ne]; omega
    go_enter_defers Tryz.func6, Tryz.ntmps6
    go_wp2_with fail
    refine (HA.out _ (HV.out.below HW0.out)).mono ?_
    rintro e w1 ⟨⟨v, rfl, ho⟩, hb1⟩
    rw [← HL.out] at ho
    rw [← HL.out]
    obtain ⟨ao, c, rfl⟩ := own_form ho
    have hz1 : w.heap.size + 2 ≤ w1.heap.size := by have := hb1.size; simp at this; omega
    have b0 := HB0.out.below hb1 (by simp; omega)
    have b1 := HB1.out.below hb1 (by simp)
    have x0 := b0.cell 0
    have y0 := b1.cell 0
    have y1 := b1.cell 1
    simp only [List.getElem?_toArray, List.getElem?_cons_zero, List.getElem?_cons_succ] at x0 y0 y1
    have u0 := b0.frozen 0
    have u1 := b1.frozen 0
    have u2 := b1.frozen 1
    have l0 := b0.lt
    have l1 := b1.lt
    have HB1w := Lib.hid (HW0.out.trans (hb1.mono (by simp; omega)))
    clear ho hb1 he
    go_wp2_with fail
    have b0 := (b0.far (p := ⟨w.heap.size + 1, 0, none⟩) (by show w.heap.size ≠ w.heap.size + 1; omega) (.int .i64 L.2.1)).far (p := ⟨w.heap.size + 1, 1, none⟩) (by show w.heap.size ≠ w.heap.size + 1; omega) (.int .i64 L.2.2)
    have b1 := (b1.set_ 0 (.int .i64 L.2.1)).set_ 1 (.int .i64 L.2.2)
    have hk2 : Kp (fun i => i = w.heap.size + 1) w1 ((w1.setCell ⟨w.heap.size + 1, 0, none⟩ (.int .i64 L.2.1)).setCell ⟨w.heap.size + 1, 1, none⟩ (.int .i64 L.2.2)) := (kp_at _ _ _ _).trans (kp_at _ _ _ _)
    have hbw := HB1w.out.trans (hk2.below (n := w.heap.size) (by omega) (fun i hi => by omega))
    generalize (w1.setCell ⟨w.heap.size + 1, 0, none⟩ (.int .i64 L.2.1)).setCell ⟨w.heap.size + 1, 1, none⟩ (.int .i64 L.2.2) = w2 at *
    clear x0 y0 y1 u0 u1 u2 l0 l1 hk2
    have x0 := b0.cell 0
    have y0 := b1.cell 0
    have y1 := b1.cell 1
    simp only [List.setIfInBounds_toArray, List.set_cons_zero, List.set_cons_succ, List.getElem?_toArray, List.getElem?_cons_zero, List.getElem?_cons_succ] at x0 y0 y1
    have u0 := b0.frozen 0
    have u1 := b1.frozen 0
    have u2 := b1.frozen 1
    have l0 := b0.lt
    have l1 := b1.lt
    have HBW := Lib.hid hbw
    have HC0 := Lib.hid b0
    have HC1 := Lib.hid b1
    clear hbw b0 b1
    go_region
    all_goals
      go_wp2
      have c0 : Blk ((((w2.setCell ⟨w.heap.size, 0, none⟩ (.slice none 0 0)).setCell ⟨w.heap.size + 1, 0, none⟩ (.int .i64 L.2.1)).setCell ⟨w.heap.size + 1, 1, none⟩ (.int .i64 L.2.2)).drew) w.heap.size 23 #[.slice none 0 0] := ((HC0.out.set_ 0 (.slice none 0 0)).far (p := ⟨w.heap.size + 1, 0, none⟩) (by show w.heap.size ≠ w.heap.size + 1; omega) _).far (p := ⟨w.heap.size + 1, 1, none⟩) (by show w.heap.size ≠ w.heap.size + 1; omega) _
      have c1 : Blk ((((w2.setCell ⟨w.heap.size, 0, none⟩ (.slice none 0 0)).setCell ⟨w.heap.size + 1, 0, none⟩ (.int .i64 L.2.1)).setCell ⟨w.heap.size + 1, 1, none⟩ (.int .i64 L.2.2)).drew) (w.heap.size + 1) 26 #[.int .i64 L.2.1, .int .i64 L.2.2] := ((HC1.out.far (p := ⟨w.heap.size, 0, none⟩) (by show w.heap.size + 1 ≠ w.heap.size; omega) (.slice none 0 0)).set_ 0 (.int .i64 L.2.1)).set_ 1 (.int .i64 L.2.2)
      have k1 : Kp (fun i => i = w.heap.size ∨ i = w.heap.size + 1) w2 ((((w2.setCell ⟨w.heap.size, 0, none⟩ (.slice none 0 0)).setCell ⟨w.heap.size + 1, 0, none⟩ (.int .i64 L.2.1)).setCell ⟨w.heap.size + 1, 1, none⟩ (.int .i64 L.2.2))) := Kp.set_ (S := fun i => i = w.heap.size ∨ i = w.heap.size + 1) (Kp.set_ (S := fun i => i = w.heap.size ∨ i = w.heap.size + 1) (Kp.set_ (S := fun i => i = w.heap.size ∨ i = w.heap.size + 1) (Kp.refl _ w2) (.inl (.inl rfl)) _) (.inl (.inr rfl)) _) (.inl (.inr rfl)) _
      have k2 : Kp (fun i => i = w.heap.size ∨ i = w.heap.size + 1) w2 ((((w2.setCell ⟨w.heap.size, 0, none⟩ (.slice none 0 0)).setCell ⟨w.heap.size + 1, 0, none⟩ (.int .i64 L.2.1)).setCell ⟨w.heap.size + 1, 1, none⟩ (.int .i64 L.2.2)).drew) := ⟨k1.os, k1.tape, k1.output, k1.size, k1.block⟩
      have hbf := HBW.out.trans (k2.below (n := w.heap.size) (by omega) (fun i hi => by omega))
      generalize (((w2.setCell ⟨w.heap.size, 0, none⟩ (.slice none 0 0)).setCell ⟨w.heap.size + 1, 0, none⟩ (.int .i64 L.2.1)).setCell ⟨w.heap.size + 1, 1, none⟩ (.int .i64 L.2.2)).drew = w3 at *
      have z0 := c0.cell 0
      have z1 := c1.cell 0
      have z2 := c1.cell 1
      simp only [List.getElem?_toArray, List.getElem?_cons_zero, List.getElem?_cons_succ] at z0 z1 z2
      have l0 := c0.lt
      have l1 := c1.lt
      have HF : Hid (∀ w', ParseV w.heap.size s.data.toList (.returned (.tuple #[.slice none 0 0, .agg #[.int .i64 L.2.1, .int .i64 L.2.2]])) w') := Lib.hid fun w' => by
        unfold ParseV
        rw [HR.out, ← HL.out]
        exact ⟨_, rfl, ListOf.nil _ _⟩
      clear c0 c1 k1 k2
      simp [bodyPostD, Leaves, results, Tryz.results6, go_sem, z0, z1, z2]
      exact ⟨HF.out _, hbf⟩
end Go.Proofs.YtdddbkghleblhaaGreatDoor.lx
namespace Go.Proofs.YtdddbkghleblhaaGreatDoor.lx
open Go.ChangeShapes Go.WideShapes Go.ChangeAt Go.RowKit Go.Proofs.YtdddbkghleblhaaGreatDoor.ky
set_option linter.unusedVariables false
attribute [local go_sem] run_store_float
/-! one of a few weights as text -/
theorem S_cat (a b : List UInt8) : S a ++ S b = S (a ++ b) := by
  apply ByteArray.ext
  simp [S]
theorem numP_at {w k : Nat} {s : List UInt8} (hk : numL[k]? = some s) (h : keyN w = keyN (readF s)) (hno : ∀ (j : Nat) (t : List UInt8), j < k → numL[j]? = some t → keyN w ≠ keyN (readF t)) : numP w = s := by
  have : numL.find? (fun s => decide (keyN w = keyN (readF s))) = some s := by
    rw [List.find?_eq_some_iff_getElem]
    obtain ⟨hl, he⟩ := List.getElem?_eq_some_iff.1 hk
    refine ⟨by simpa using h, k, hl, he, fun j hj => ?_⟩
    have := hno j _ hj (List.getElem?_eq_getElem (by omega))
    simpa using this
  unfold numP
  rw [this]
  rfl
theorem numP_no {w : Nat} (hno : ∀ (j : Nat) (t : List UInt8), j < 6 → numL[j]? = some t → keyN w ≠ keyN (readF t)) : numP w = [49] := by
  have : numL.find? (fun s => decide (keyN w = keyN (readF s))) = none := by
    rw [List.find?_eq_none]
    intro s hs
    obtain ⟨j, hj, he⟩ := List.getElem_of_mem hs
    have h6 : j < 6 := hj
    have := hno j s h6 (by rw [List.getElem?_eq_getElem hj, he])
    simpa using this
  unfold numP
  rw [this]
  rfl
theorem num_cells : ∀ (k : Nat) (s : List UInt8), numL[k]? = some s → ([.string ⟨#[110, 97, 110]⟩, .string ⟨#[105, 110, 102]⟩, .string ⟨#[45, 105, 110, 102]⟩, .string ⟨#[45, 48]⟩, .string ⟨#[49, 46, 53]⟩, .string ⟨#[45, 50]⟩] : List Value)[k]? = some (.string (S s)) := by
  intro k s h
  have hk : k < 6 := (List.getElem?_eq_some_iff.1 h).1
  have : k = 0 ∨ k = 1 ∨ k = 2 ∨ k = 3 ∨ k = 4 ∨ k = 5 := by omega
  rcases this with rfl | rfl | rfl | rfl | rfl | rfl <;> (cases h; rfl)
set_option maxRecDepth 100000 in
set_option maxHeartbeats 2000000 in
theorem number_any (n : Nat) (hn : n < 18446744073709551616) (w : World) : Calls Tryz.prog 23 #[.float .f64 n] w fun e w' => e = .returned (.string (S (numP n))) ∧ Below w.heap.size w w' := by
  go_enter Tryz.func23, Tryz.ntmps23
  go_wp2_with fail
  have b0 := Blk.new w 9 #[.string ⟨#[110, 97, 110]⟩, .string ⟨#[105, 110, 102]⟩, .string ⟨#[45, 105, 110, 102]⟩, .string ⟨#[45, 48]⟩, .string ⟨#[49, 46, 53]⟩, .string ⟨#[45, 50]⟩]
  have hb0 : Below w.heap.size w (w.alloc (.cells #[.string ⟨#[110, 97, 110]⟩, .string ⟨#[105, 110, 102]⟩, .string ⟨#[45, 105, 110, 102]⟩, .string ⟨#[45, 48]⟩, .string ⟨#[49, 46, 53]⟩, .string ⟨#[45, 50]⟩] 9)) := (Below.refl _ _).alloc (Nat.le_refl _) _
  have B0 := Lib.hid b0
  have HB0 := Lib.hid hb0
  clear b0 hb0
  go_loopw [9] (fun i wr => ∃ k : Nat, i = .int .i64 k ∧ k ≤ 6 ∧ Below w.heap.size w wr ∧ Blk wr w.heap.size 9 #[.string ⟨#[110, 97, 110]⟩, .string ⟨#[105, 110, 102]⟩, .string ⟨#[45, 105, 110, 102]⟩, .string ⟨#[45, 48]⟩, .string ⟨#[49, 46, 53]⟩, .string ⟨#[45, 50]⟩] ∧ ∀ (j : Nat) (t : List UInt8), j < k → numL[j]? = some t → keyN n ≠ keyN (readF t)) (fun i _ => 6 - (intOf i).toNat)
  case atStart => exact ⟨0, rfl, by decide, HB0.out, B0.out, fun j t h => by omega⟩
  case round =>
    clear B0 HB0
    obtain ⟨k, rfl, hk, hb, b0, hno⟩ := hrel
    have HB := Lib.hid hb
    have B0 := Lib.hid b0
    have HNO := Lib.hid hno
    have hl0 := b0.lt
    clear hno hb
    by_cases hlt : k < 6
    · obtain ⟨s, hs⟩ : ∃ s, numL[k]? = some s := ⟨_, List.getElem?_eq_getElem hlt⟩
      have c0 : wr.cell? ⟨w.heap.size, k, none⟩ = some (.string (S s)) := by
        rw [b0.cell k]
        have := num_cells k s hs
        simpa using this
      obtain ⟨hro, _, _, hl4, hrl⟩ := num_facts s (by
        have := List.mem_of_getElem? hs
        simp only [numL, List.mem_cons, List.not_mem_nil, or_false] at this ⊢
        rcases this with h | h | h | h | h | h <;> simp [h])
      have HS := Lib.hid hs
      have HR := Lib.hid (fun w => rread_any (S s) (by show s.length ≤ _; unfold maxLen; omega) w)
      have HSM := Lib.hid (fun w => rsame_any n (readF s) w hn hrl)
      rw [show (S s).data.toList = s from rfl] at HR
      generalize hf : readF s = f at *
      have HF := Lib.hid hf
      clear hs b0 hro hf
      go_wp2_with fail
      refine (HR.out _).mono ?_
      rintro e w1 ⟨rfl, hq⟩
      have HB1 := Lib.hid (HB.out.trans (hq.below (B := w.heap.size)))
      have HBK := Lib.hid (B0.out.below (hq.below (B := wr.heap.size)) B0.out.lt)
      clear c0 hl0 hq
      by_cases hsm : keyN n = keyN f
      · rw [decide_eq_true hsm] at HSM
        go_wp2_with fail
        refine (HSM.out _).mono ?_
        rintro e w2 ⟨rfl, rfl⟩
        go_wp2_with fail
        go_ret
        refine ⟨?_, HB1.out⟩
        rw [numP_at HS.out (by rw [HF.out]; exact hsm) HNO.out]
        rfl
      · rw [decide_eq_false hsm] at HSM
        go_wp2_with fail
        refine (HSM.out _).mono ?_
        rintro e w2 ⟨rfl, rfl⟩
        go_wp2_with fail
        refine ⟨⟨k + 1, by go_num, hlt, HB1.out, HBK.out, fun j t hj ht => ?_⟩, by simp only [intOf]; omega⟩
        by_cases hjk : j < k
        · exact HNO.out j t hjk ht
        · obtain rfl : j = k := by omega
          have : t = s := Option.some.inj (ht.symm.trans HS.out)
          rw [this, HF.out]
          exact hsm
    · obtain rfl : k = 6 := by omega
      go_wp2_with fail
      go_ret
      exact ⟨by rw [numP_no HNO.out]; rfl, HB.out⟩
end Go.Proofs.YtdddbkghleblhaaGreatDoor.lx
namespace Go.Proofs.YtdddbkghleblhaaGreatDoor.lx
open Go.ChangeShapes Go.WideShapes Go.ChangeAt Go.RowKit
set_option linter.unusedVariables false
attribute [local go_sem] run_store_float
/-! the document's small functions -/
/-- the document's state -/
def StV (g n cap p d e : Nat) : Value := .agg #[.slice (some ⟨g, 0, none⟩) n cap, .int .i64 p, .int .i64 d, .int .i64 e]
/-- the words in memory -/
structure TAt (w : World) (g cap : Nat) (T : List Tok) : Prop where
  lt : g < w.heap.size
  cells : ∀ j u, (tcells T)[j]? = some u → w.cell? ⟨g, j, none⟩ = some u
  len : T.length ≤ 65537
  capl : T.length ≤ cap
  capm : cap ≤ maxLen
theorem TAt.below {w w' : World} {g cap n : Nat} {T : List Tok} (h : TAt w g cap T) (hb : Below n w w') (hn : g < n) : TAt w' g cap T := ⟨Nat.lt_of_lt_of_le h.lt hb.size, fun j u hj => (hb.cell (p := ⟨g, j, none⟩) hn).trans (h.cells j u hj), h.len, h.capl, h.capm⟩
theorem drop_lt {T : List Tok} {p : Nat} {t : Tok} {r : List Tok} (h : T.drop p = t :: r) : p < T.length ∧ T.getD p ⟨0, 0, [], 0⟩ = t ∧ T.drop (p + 1) = r := by
  have hlt : p < T.length := by
    rcases Nat.lt_or_ge p T.length with h1 | h1
    · exact h1
    · rw [List.drop_eq_nil_of_le h1] at h
      cases h
  rw [List.drop_eq_getElem_cons hlt] at h
  obtain ⟨h1, h2⟩ := List.cons.inj h
  exact ⟨hlt, by rw [List.getD_eq_getElem?_getD, List.getElem?_eq_getElem hlt]; exact h1, h2⟩
theorem TAt.tok {w : World} {g cap p : Nat} {T : List Tok} (h : TAt w g cap T) {t : Tok} {r : List Tok} (hd : T.drop p = t :: r) : w.cell? ⟨g, p * 4, none⟩ = some (.int .i64 t.kind) ∧ w.cell? ⟨g, p * 4 + 1, none⟩ = some (.int .i64 t.at_) ∧ w.cell? ⟨g, p * 4 + 2, none⟩ = some (.string (S t.text)) ∧ w.cell? ⟨g, p * 4 + 3, none⟩ = some (.float .f64 t.wt) := by
  obtain ⟨hlt, hg, _⟩ := drop_lt hd
  have hx := fun j hj => tcells_at T p j hlt hj
  rw [hg] at hx
  exact ⟨h.cells _ _ (hx 0 (by decide)), h.cells _ _ (hx 1 (by decide)), h.cells _ _ (hx 2 (by decide)), h.cells _ _ (hx 3 (by decide))⟩
theorem Good.sign' {ts : List Tok} {t : Tok} {r : List Tok} (h : Good ts) (hd : ts = t :: r) (hk : t.kind = 4) : ∃ c : UInt8, t.text = [c] := by
  subst hd
  obtain ⟨c, h, _⟩ := h.sign hk
  exact ⟨c, h⟩
theorem S_eq1 (c c' : UInt8) : ((S [c]).toList == (ByteArray.mk #[c']).toList) = decide (c.toNat = c'.toNat) := by
  rw [← list_data, ← list_data]
  show ([c] == [c']) = _
  rw [Bool.eq_iff_iff]
  simp [← UInt8.toNat_inj]
set_option maxRecDepth 100000 in
set_option maxHeartbeats 1000000 in
theorem rsign_any (w : World) (g cap p d e : Nat) (T : List Tok) (c : UInt8) (hc : 0 < c.toNat) (h : TAt w g cap T) (hg : Good (T.drop p)) : Calls Tryz.prog 30 #[StV g T.length cap p d e, .string ⟨#[c]⟩] w fun e w' => e = .returned (.bool (decide (sg (T.drop p) = c.toNat))) ∧ Below w.heap.size w w' := by
  obtain ⟨t, r, hd⟩ := hg.ne
  obtain ⟨hlt, _, _⟩ := drop_lt hd
  obtain ⟨c0, c1, c2, c3⟩ := h.tok hd
  have hgl := h.lt
  have hsg := fun h4 => hg.sign' hd h4
  have e : sg (T.drop p) = sgOf t := by rw [hd]; rfl
  rw [e]
  have hcl := h.capl
  have hcm := h.capm
  unfold maxLen at hcm
  generalize T.length = n at *
  obtain ⟨K, P, X, F⟩ := t
  unfold sgOf StV
  clear h hg hd e
  by_cases h4 : K = 4
  · subst h4
    obtain ⟨c', hT⟩ := hsg rfl
    have hT : X = [c'] := hT
    subst hT
    have hq := S_eq1 c' c
    have c0 : w.cell? ⟨g, p * 4, none⟩ = some (.int .i64 4) := c0
    have c2 : w.cell? ⟨g, p * 4 + 2, none⟩ = some (.string (S [c'])) := c2
    show Calls _ _ _ _ fun e w' => e = .returned (.bool (decide (c'.toNat = c.toNat))) ∧ _
    rw [← hq]
    generalize S [c'] = Y at *
    clear hsg hq
    go_enter Tryz.func30, Tryz.ntmps30
    go_wp2
    go_ret
    refine ⟨rfl, ?_⟩
    go_grown
  · have h4' : ((K : Int) == 4) = false := by rw [beq_eq_false_iff_ne]; omega
    rw [if_neg h4, decide_eq_false (show ¬ 0 = c.toNat by omega)]
    clear hsg h4
    go_enter Tryz.func30, Tryz.ntmps30
    go_wp2
    go_ret
    refine ⟨rfl, ?_⟩
    go_grown
theorem kp_st (w : World) (b : Nat) (v0 v1 v2 v3 : Value) : Kp (fun i => i = b) w ((((w.setCell ⟨b, 0, none⟩ v0).setCell ⟨b, 1, none⟩ v1).setCell ⟨b, 2, none⟩ v2).setCell ⟨b, 3, none⟩ v3) := (((kp_at _ _ _ _).trans (kp_at _ _ _ _)).trans (kp_at _ _ _ _)).trans (kp_at _ _ _ _)
set_option maxRecDepth 100000 in
set_option maxHeartbeats 1000000 in
theorem rpass_err (w : World) (g n cap p d e : Nat) (s : ByteArray) (he : 0 < e) : Calls Tryz.prog 17 #[StV g n cap p d e, .string s] w fun e_1 w' => e_1 = .returned (StV g n cap p d e) ∧ Below w.heap.size w w' := by
  unfold StV
  have he' : ((e : Int) == 0) = false := by rw [beq_eq_false_iff_ne]; omega
  go_enter Tryz.func17, Tryz.ntmps17
  go_wp2_with fail
  refine bodyPost_ret (v := .agg #[.slice (some ⟨g, 0, none⟩) n cap, .int .i64 p, .int .i64 d, .int .i64 e]) (by simp [results, Tryz.results17, go_sem]) rfl ⟨rfl, ?_⟩
  go_grown
set_option maxRecDepth 100000 in
set_option maxHeartbeats 1000000 in
theorem rpass_any (w : World) (g cap p d : Nat) (T : List Tok) (c : UInt8) (hc : 0 < c.toNat) (h : TAt w g cap T) (hg : Good (T.drop p)) : Calls Tryz.prog 17 #[StV g T.length cap p d 0, .string ⟨#[c]⟩] w fun e w' => e = .returned (if sg (T.drop p) = c.toNat then StV g T.length cap (p + 1) d 0 else StV g T.length cap p d 5) ∧ Below w.heap.size w w' := by
  have hlt : p < T.length := by
    obtain ⟨t, r, hd⟩ := hg.ne
    exact (drop_lt hd).1
  have hn := h.len
  have hs := fun w h => rsign_any w g cap p d 0 T c hc h hg
  have HS := Lib.hid hs
  have HT := Lib.hid h
  have hgl := h.lt
  have b0 := (Blk.new w 59 #[.slice (some ⟨g, 0, none⟩) T.length cap, .int .i64 p, .int .i64 d, .int .i64 0]).alloc (.cells #[.slice none 0 0, .int .i64 0, .int .i64 0, .int .i64 0] 59)
  have b1 := Blk.new (w.alloc (.cells #[.slice (some ⟨g, 0, none⟩) T.length cap, .int .i64 p, .int .i64 d, .int .i64 0] 59)) 59 #[.slice none 0 0, .int .i64 0, .int .i64 0, .int .i64 0]
  rw [World.size_alloc] at b1
  have hw0 : Below w.heap.size w ((w.alloc (.cells #[.slice (some ⟨g, 0, none⟩) T.length cap, .int .i64 p, .int .i64 d, .int .i64 0] 59)).alloc (.cells #[.slice none 0 0, .int .i64 0, .int .i64 0, .int .i64 0] 59)) := ((Below.refl _ _).alloc (Nat.le_refl _) _).alloc (by simp) _
  have hsz0 : ((w.alloc (.cells #[.slice (some ⟨g, 0, none⟩) T.length cap, .int .i64 p, .int .i64 d, .int .i64 0] 59)).alloc (.cells #[.slice none 0 0, .int .i64 0, .int .i64 0, .int .i64 0] 59)).heap.size = w.heap.size + 2 := by simp
  have HB0 := Lib.hid b0
  have HB1 := Lib.hid b1
  have HW0 := Lib.hid hw0
  have HZ0 := Lib.hid hsz0
  unfold StV at HS ⊢
  clear h hg hs b0 b1 hw0 hsz0
  by_cases hq : sg (T.drop p) = c.toNat
  · rw [if_pos hq]
    rw [decide_eq_true hq] at HS
    clear hq
    go_enter Tryz.func17, Tryz.ntmps17
    go_wp2_with fail
    refine (HS.out _ (HT.out.below HW0.out hgl)).mono ?_
    rintro e w1 ⟨rfl, hb1⟩
    rw [HZ0.out] at hb1
    have b0 := HB0.out.below hb1 (by omega)
    have b1 := HB1.out.below hb1 (by omega)
    have hz1 : w.heap.size + 2 ≤ w1.heap.size := by have := hb1.size; rw [HZ0.out] at this; exact this
    have HB := Lib.hid (HW0.out.trans (hb1.mono (by omega)))
    have l0 := b0.lt
    have l1 := b1.lt
    have x0 := b0.cell 0
    have x1 := b0.cell 1
    have x2 := b0.cell 2
    have x3 := b0.cell 3
    have y0 := b1.cell 0
    have y1 := b1.cell 1
    have y2 := b1.cell 2
    have y3 := b1.cell 3
    simp only [List.getElem?_toArray, List.getElem?_cons_zero, List.getElem?_cons_succ] at x0 x1 x2 x3 y0 y1 y2 y3
    have v1 := b0.frozen 1
    have v3 := b0.frozen 3
    have u0 := b1.frozen 0
    have u1 := b1.frozen 1
    have u2 := b1.frozen 2
    have u3 := b1.frozen 3
    clear b0 b1 hb1
    go_wp2_with fail
    have hke := kp_st (w1.setCell ⟨w.heap.size, 1, none⟩ (.int .i64 ((p : Int) + 1))) (w.heap.size + 1) (.slice (some ⟨g, 0, none⟩) T.length cap) (.int .i64 ((p : Int) + 1)) (.int .i64 d) (.int .i64 0)
    have hk1 := kp_at w1 w.heap.size 1 (.int .i64 ((p : Int) + 1))
    refine bodyPost_ret (v := .agg #[.slice (some ⟨g, 0, none⟩) T.length cap, .int .i64 (p + 1 : Nat), .int .i64 d, .int .i64 0]) (by simp [results, Tryz.results17, go_sem, y0, y1, y2, y3]) rfl ⟨rfl, (HB.out.trans (hk1.below (by omega) (fun i hi => by omega))).trans (hke.below (by simp; omega) (fun i hi => by omega))⟩
  · rw [if_neg hq]
    rw [decide_eq_false hq] at HS
    clear hq
    go_enter Tryz.func17, Tryz.ntmps17
    go_wp2_with fail
    refine (HS.out _ (HT.out.below HW0.out hgl)).mono ?_
    rintro e w1 ⟨rfl, hb1⟩
    rw [HZ0.out] at hb1
    have b0 := HB0.out.below hb1 (by omega)
    have b1 := HB1.out.below hb1 (by omega)
    have hz1 : w.heap.size + 2 ≤ w1.heap.size := by have := hb1.size; rw [HZ0.out] at this; exact this
    have HB := Lib.hid (HW0.out.trans (hb1.mono (by omega)))
    have l0 := b0.lt
    have l1 := b1.lt
    have x0 := b0.cell 0
    have x1 := b0.cell 1
    have x2 := b0.cell 2
    have x3 := b0.cell 3
    have y0 := b1.cell 0
    have y1 := b1.cell 1
    have y2 := b1.cell 2
    have y3 := b1.cell 3
    simp only [List.getElem?_toArray, List.getElem?_cons_zero, List.getElem?_cons_succ] at x0 x1 x2 x3 y0 y1 y2 y3
    have v1 := b0.frozen 1
    have v3 := b0.frozen 3
    have u0 := b1.frozen 0
    have u1 := b1.frozen 1
    have u2 := b1.frozen 2
    have u3 := b1.frozen 3
    clear b0 b1 hb1
    go_wp2_with fail
    have hke := kp_st (w1.setCell ⟨w.heap.size, 3, none⟩ (.int .i64 5)) (w.heap.size + 1) (.slice (some ⟨g, 0, none⟩) T.length cap) (.int .i64 p) (.int .i64 d) (.int .i64 5)
    have hk1 := kp_at w1 w.heap.size 3 (.int .i64 5)
    refine bodyPost_ret (v := .agg #[.slice (some ⟨g, 0, none⟩) T.length cap, .int .i64 p, .int .i64 d, .int .i64 5]) (by simp [results, Tryz.results17, go_sem, y0, y1, y2, y3]) rfl ⟨rfl, (HB.out.trans (hk1.below (by omega) (fun i hi => by omega))).trans (hke.below (by simp; omega) (fun i hi => by omega))⟩
end Go.Proofs.YtdddbkghleblhaaGreatDoor.lx
namespace Go.Proofs.YtdddbkghleblhaaGreatDoor.lx
open Go.ChangeShapes Go.WideShapes Go.ChangeAt Go.RowKit
set_option linter.unusedVariables false
/-! the document's own words: blanks and signs -/
attribute [local go_sem] get_lit
theorem sgn_get : ∀ k, k < 8 → ([61, 59, 124, 40, 41, 63, 42, 43] : List UInt8).getD k 0 ∈ ([61, 59, 124, 40, 41, 63, 42, 43] : List UInt8) := by decide
theorem sgn_list (c : UInt8) : sgnB c = ([61, 59, 124, 40, 41, 63, 42, 43] : List UInt8).contains c := by
  unfold sgnB
  rw [Bool.eq_iff_iff]
  simp [or_assoc]
set_option maxRecDepth 100000 in
set_option maxHeartbeats 1000000 in
theorem rsign4_any (c : UInt8) (w : World) : Calls Tryz.prog 51 #[.int .u8 c.toNat] w fun e w' => e = .returned (.bool (sgnB c)) ∧ w = w' := by
  have hc := b_lt c
  have h : sgnB c = decide (c.toNat = 61 ∨ c.toNat = 59 ∨ c.toNat = 124 ∨ c.toNat = 40 ∨ c.toNat = 41 ∨ c.toNat = 63 ∨ c.toNat = 42 ∨ c.toNat = 43) := by
    unfold sgnB
    simp only [beq_n]
    rw [Bool.eq_iff_iff]
    simp [or_assoc]
  rw [h]
  clear h
  generalize c.toNat = n at *
  have h : n = 61 ∨ n = 59 ∨ n = 124 ∨ n = 40 ∨ n = 41 ∨ n = 63 ∨ n = 42 ∨ n = 43 ∨ (n ≠ 61 ∧ n ≠ 59 ∧ n ≠ 124 ∧ n ≠ 40 ∧ n ≠ 41 ∧ n ≠ 63 ∧ n ≠ 42 ∧ n ≠ 43) := by omega
  rcases h with rfl | rfl | rfl | rfl | rfl | rfl | rfl | rfl | ⟨h1, h2, h3, h4, h5, h6, h7, h8⟩
  · go_enter Tryz.func51, Tryz.ntmps51
    go_wp2
    go_rounds 1
    go_ret
    exact ⟨rfl, rfl⟩
  · go_enter Tryz.func51, Tryz.ntmps51
    go_wp2
    go_rounds 2
    go_ret
    exact ⟨rfl, rfl⟩
  · go_enter Tryz.func51, Tryz.ntmps51
    go_wp2
    go_rounds 3
    go_ret
    exact ⟨rfl, rfl⟩
  · go_enter Tryz.func51, Tryz.ntmps51
    go_wp2
    go_rounds 4
    go_ret
    exact ⟨rfl, rfl⟩
  · go_enter Tryz.func51, Tryz.ntmps51
    go_wp2
    go_rounds 5
    go_ret
    exact ⟨rfl, rfl⟩
  · go_enter Tryz.func51, Tryz.ntmps51
    go_wp2
    go_rounds 6
    go_ret
    exact ⟨rfl, rfl⟩
  · go_enter Tryz.func51, Tryz.ntmps51
    go_wp2
    go_rounds 7
    go_ret
    exact ⟨rfl, rfl⟩
  · go_enter Tryz.func51, Tryz.ntmps51
    go_wp2
    go_rounds 8
    go_ret
    exact ⟨rfl, rfl⟩
  · have k1 : ((61 : Int) == (n : Int)) = false := by rw [beq_eq_false_iff_ne]; omega
    have k2 : ((59 : Int) == (n : Int)) = false := by rw [beq_eq_false_iff_ne]; omega
    have k3 : ((124 : Int) == (n : Int)) = false := by rw [beq_eq_false_iff_ne]; omega
    have k4 : ((40 : Int) == (n : Int)) = false := by rw [beq_eq_false_iff_ne]; omega
    have k5 : ((41 : Int) == (n : Int)) = false := by rw [beq_eq_false_iff_ne]; omega
    have k6 : ((63 : Int) == (n : Int)) = false := by rw [beq_eq_false_iff_ne]; omega
    have k7 : ((42 : Int) == (n : Int)) = false := by rw [beq_eq_false_iff_ne]; omega
    have k8 : ((43 : Int) == (n : Int)) = false := by rw [beq_eq_false_iff_ne]; omega
    have e : decide (n = 61 ∨ n = 59 ∨ n = 124 ∨ n = 40 ∨ n = 41 ∨ n = 63 ∨ n = 42 ∨ n = 43) = false := by rw [decide_eq_false_iff_not]; omega
    rw [e]
    clear e h1 h2 h3 h4 h5 h6 h7 h8
    go_enter Tryz.func51, Tryz.ntmps51
    go_wp2
    go_rounds 9
    go_ret
    exact ⟨rfl, rfl⟩
set_option maxRecDepth 100000 in
set_option maxHeartbeats 2000000 in
theorem rskip_any (s : ByteArray) (hs : s.size ≤ maxLen) (a : Nat) (ha : a ≤ s.size) (w : World) : Calls Tryz.prog 28 #[.string s, .int .i64 a] w fun e w' => e = .returned (.int .i64 (nxt s.data.toList a : Nat)) ∧ w = w' := by
  unfold maxLen at hs
  unfold nxt
  go_enter Tryz.func28, Tryz.ntmps28
  go_wp2
  go_loop [1, 5] (fun i r => ∃ (k : Nat) (x : Bool), i = .int .i64 k ∧ r = .bool x ∧ k ≤ s.size ∧ a + runN skipS false (s.data.toList.drop a) = k + runN skipS x (s.data.toList.drop k)) (fun i _ => s.size - (intOf i).toNat)
  case atStart => exact ⟨a, false, rfl, rfl, ha, rfl⟩
  case round =>
    obtain ⟨k, x, rfl, rfl, hk, hsum⟩ := hrel
    have HM := Lib.hid hsum
    clear hsum
    by_cases hlt : k < s.size
    · have HD := Lib.hid (bytes_drop s k hlt)
      have hb := b_lt s[k]
      have HR : Hid (∀ x : Bool, runN skipS x (s[k] :: s.data.toList.drop (k + 1)) = if (skipS x s[k]).1 = true then runN skipS (skipS x s[k]).2 (s.data.toList.drop (k + 1)) + 1 else 0) := Lib.hid (fun x => rfl)
      have HK : Hid (∀ x : Bool, skipS x s[k] = ((decide (s[k].toNat = 35) || (x && decide (s[k].toNat ≠ 10))) || decide (s[k].toNat = 32 ∨ s[k].toNat = 9 ∨ s[k].toNat = 13 ∨ s[k].toNat = 10), decide (s[k].toNat = 35) || (x && decide (s[k].toNat ≠ 10)))) := Lib.hid (fun x => by
        have e1 : (s[k] == 35 || (x && s[k] != 10)) = (decide (s[k].toNat = 35) || (x && decide (s[k].toNat ≠ 10))) := by
          rw [beq_n]
          congr 2
          rw [Bool.eq_iff_iff]
          simp [← UInt8.toNat_inj]
        unfold skipS
        rw [e1, blk_n])
      have h : s[k].toNat = 35 ∨ s[k].toNat = 10 ∨ s[k].toNat = 32 ∨ s[k].toNat = 9 ∨ s[k].toNat = 13 ∨ (s[k].toNat ≠ 35 ∧ s[k].toNat ≠ 10 ∧ s[k].toNat ≠ 32 ∧ s[k].toNat ≠ 9 ∧ s[k].toNat ≠ 13) := by omega
      rcases h with h | h | h | h | h | ⟨h1, h2, h3, h4, h5⟩
      · have HS : Hid (runN skipS x (s.data.toList.drop k) = runN skipS true (s.data.toList.drop (k + 1)) + 1) := Lib.hid (by rw [HD.out, HR.out, HK.out, h]; cases x <;> rfl)
        clear HR HK HD hb
        go_wp2_with fail
        exact ⟨⟨k + 1, true, by go_num, rfl, hlt, by have := HM.out; have := HS.out; omega⟩, by simp only [intOf]; omega⟩
      · have HS : Hid (runN skipS x (s.data.toList.drop k) = runN skipS false (s.data.toList.drop (k + 1)) + 1) := Lib.hid (by rw [HD.out, HR.out, HK.out, h]; cases x <;> rfl)
        clear HR HK HD hb
        go_wp2_with fail
        exact ⟨⟨k + 1, false, by go_num, rfl, hlt, by have := HM.out; have := HS.out; omega⟩, by simp only [intOf]; omega⟩
      · cases x
        · have HS : Hid (runN skipS false (s.data.toList.drop k) = runN skipS false (s.data.toList.drop (k + 1)) + 1) := Lib.hid (by rw [HD.out, HR.out, HK.out, h]; rfl)
          clear HR HK HD hb
          go_wp2_with fail
          exact ⟨⟨k + 1, false, by go_num, rfl, hlt, by have := HM.out; have := HS.out; omega⟩, by simp only [intOf]; omega⟩
        · have HS : Hid (runN skipS true (s.data.toList.drop k) = runN skipS true (s.data.toList.drop (k + 1)) + 1) := Lib.hid (by rw [HD.out, HR.out, HK.out, h]; rfl)
          clear HR HK HD hb
          go_wp2_with fail
          exact ⟨⟨k + 1, true, by go_num, rfl, hlt, by have := HM.out; have := HS.out; omega⟩, by simp only [intOf]; omega⟩
      · cases x
        · have HS : Hid (runN skipS false (s.data.toList.drop k) = runN skipS false (s.data.toList.drop (k + 1)) + 1) := Lib.hid (by rw [HD.out, HR.out, HK.out, h]; rfl)
          clear HR HK HD hb
          go_wp2_with fail
          exact ⟨⟨k + 1, false, by go_num, rfl, hlt, by have := HM.out; have := HS.out; omega⟩, by simp only [intOf]; omega⟩
        · have HS : Hid (runN skipS true (s.data.toList.drop k) = runN skipS true (s.data.toList.drop (k + 1)) + 1) := Lib.hid (by rw [HD.out, HR.out, HK.out, h]; rfl)
          clear HR HK HD hb
          go_wp2_with fail
          exact ⟨⟨k + 1, true, by go_num, rfl, hlt, by have := HM.out; have := HS.out; omega⟩, by simp only [intOf]; omega⟩
      · cases x
        · have HS : Hid (runN skipS false (s.data.toList.drop k) = runN skipS false (s.data.toList.drop (k + 1)) + 1) := Lib.hid (by rw [HD.out, HR.out, HK.out, h]; rfl)
          clear HR HK HD hb
          go_wp2_with fail
          exact ⟨⟨k + 1, false, by go_num, rfl, hlt, by have := HM.out; have := HS.out; omega⟩, by simp only [intOf]; omega⟩
        · have HS : Hid (runN skipS true (s.data.toList.drop k) = runN skipS true (s.data.toList.drop (k + 1)) + 1) := Lib.hid (by rw [HD.out, HR.out, HK.out, h]; rfl)
          clear HR HK HD hb
          go_wp2_with fail
          exact ⟨⟨k + 1, true, by go_num, rfl, hlt, by have := HM.out; have := HS.out; omega⟩, by simp only [intOf]; omega⟩
      · have k1 : ((s[k].toNat : Int) == 35) = false := by rw [beq_eq_false_iff_ne]; omega
        have k2 : ((s[k].toNat : Int) == 10) = false := by rw [beq_eq_false_iff_ne]; omega
        have k3 : ((s[k].toNat : Int) != 32) = true := by rw [bne_iff_ne]; omega
        have k4 : ((s[k].toNat : Int) != 9) = true := by rw [bne_iff_ne]; omega
        have k5 : ((s[k].toNat : Int) != 13) = true := by rw [bne_iff_ne]; omega
        have k6 : ((s[k].toNat : Int) != 10) = true := by rw [bne_iff_ne]; omega
        have e1 : decide (s[k].toNat = 35) = false := decide_eq_false h1
        have e2 : decide (s[k].toNat ≠ 10) = true := decide_eq_true h2
        have e3 : decide (s[k].toNat = 32 ∨ s[k].toNat = 9 ∨ s[k].toNat = 13 ∨ s[k].toNat = 10) = false := decide_eq_false (by omega)
        cases x
        · have HS : Hid (runN skipS false (s.data.toList.drop k) = 0) := Lib.hid (by rw [HD.out, HR.out, HK.out, e1, e2, e3]; rfl)
          clear HR HK HD hb e1 e2 e3 h1 h2 h3 h4 h5
          go_wp2_with fail
          go_ret
          exact ⟨ret_int (by have := HM.out; have := HS.out; omega), rfl⟩
        · have HS : Hid (runN skipS true (s.data.toList.drop k) = runN skipS true (s.data.toList.drop (k + 1)) + 1) := Lib.hid (by rw [HD.out, HR.out, HK.out, e1, e2, e3]; rfl)
          clear HR HK HD hb e1 e2 e3 h1 h2 h3 h4 h5
          go_wp2_with fail
          exact ⟨⟨k + 1, true, by go_num, rfl, hlt, by have := HM.out; have := HS.out; omega⟩, by simp only [intOf]; omega⟩
    · obtain rfl : k = s.size := by omega
      go_wp2
      go_ret
      have h := HM.out
      rw [show s.data.toList.drop s.size = [] from List.drop_eq_nil_of_le (by simp)] at h
      have h0 : runN skipS x [] = 0 := rfl
      exact ⟨ret_int (by omega), rfl⟩
end Go.Proofs.YtdddbkghleblhaaGreatDoor.lx
namespace Go.Proofs.YtdddbkghleblhaaGreatDoor.lx
open Go.ChangeShapes Go.WideShapes Go.ChangeAt Go.RowKit
set_option linter.unusedVariables false
attribute [local go_sem] run_store_float
/-! the document's own words -/
/-- a run, byte by byte: p holds from place a on, up to place k -/
def Runs (p : UInt8 → Bool) (l : List UInt8) (a k : Nat) : Prop := a ≤ k ∧ k ≤ l.length ∧ runP p (l.drop a) = (k - a) + runP p (l.drop k)
theorem Runs.start (p : UInt8 → Bool) (l : List UInt8) (a : Nat) (h : a ≤ l.length) : Runs p l a a := ⟨Nat.le_refl _, h, by rw [Nat.sub_self, Nat.zero_add]⟩
theorem Runs.on {p : UInt8 → Bool} {s : ByteArray} {a k : Nat} (h : Runs p s.data.toList a k) (hk : k < s.size) (hp : p s[k] = true) : Runs p s.data.toList a (k + 1) := by
  obtain ⟨h1, h2, h3⟩ := h
  have hl : s.data.toList.length = s.size := by simp
  refine ⟨by omega, by omega, ?_⟩
  rw [h3, bytes_drop s k hk]
  unfold runP
  rw [List.takeWhile_cons_of_pos hp, List.length_cons]
  omega
theorem Runs.off {p : UInt8 → Bool} {s : ByteArray} {a k : Nat} (h : Runs p s.data.toList a k) (hk : k < s.size) (hp : p s[k] = false) : runP p (s.data.toList.drop a) = k - a := by
  rw [h.2.2, bytes_drop s k hk]
  unfold runP
  rw [List.takeWhile_cons_of_neg (by rw [hp]; decide)]
  rfl
theorem Runs.fin {p : UInt8 → Bool} {s : ByteArray} {a : Nat} (h : Runs p s.data.toList a s.size) : runP p (s.data.toList.drop a) = s.size - a := by
  rw [h.2.2, List.drop_eq_nil_of_le (by simp)]
  rfl
/-- a word as the document has it -/
def rwordV (a : Nat) (x : Except Nat (Nat × List UInt8 × Nat × Nat)) : Value :=
  match x with
  | .ok (k, t, w, n) => .tuple #[TV k a t w, .int .i64 (a + n + 1 : Nat), .int .i64 0]
  | .error e => .tuple #[TV 0 0 [] 0, .int .i64 a, .int .i64 e]
set_option maxRecDepth 100000 in
set_option maxHeartbeats 4000000 in
theorem rword_name (s : ByteArray) (hs : s.size ≤ maxLen) (a : Nat) (ha : a < s.size) (hc : letB s[a] = true) (w : World) : Calls Tryz.prog 29 #[.string s, .int .i64 a] w fun e w' => e = .returned (rwordV a (wordAt (s.data.toList.drop a))) ∧ Below w.heap.size w w' := by
  have hlt := rletter_n s[a].toNat (b_lt _)
  rw [← let_n, hc] at hlt
  have hl : s.data.toList.length = s.size := by simp
  have hst := Runs.start namB s.data.toList (a + 1) (by omega)
  have HST := Lib.hid hst
  have HW : Hid (∀ n, runP namB (s.data.toList.drop (a + 1)) = n → wordAt (s.data.toList.drop a) = if n + 1 ≤ 24 then .ok (1, (s.data.toList.drop a).take (n + 1), 0, n) else .error 1) := Lib.hid (fun n hn => by
    rw [bytes_drop s a ha, word_let _ _ hc, hn])
  have HX : Hid (∀ k, a + 1 ≤ k → s.extract a k = S ((s.data.toList.drop a).take (k - a))) := Lib.hid (fun k _ => ext_S s a k)
  unfold maxLen at hs
  clear hl hst hc
  go_enter Tryz.func29, Tryz.ntmps29
  go_wp2_with (go_at_call 47; refine (hlt _).mono ?_; rintro e w1 ⟨rfl, rfl⟩)
  go_loop [8] (fun i => ∃ k : Nat, i = .int .i64 k ∧ Runs namB s.data.toList (a + 1) k) (fun i => s.size - (intOf i).toNat)
  case atStart => exact ⟨a + 1, by go_num, HST.out⟩
  case round =>
    obtain ⟨k, rfl, hr⟩ := hrel
    have hk1 : a + 1 ≤ k := hr.1
    have hk2 : k ≤ s.size := by have := hr.2.1; simpa using this
    have HR := Lib.hid hr
    clear hr
    have hfin : ∀ n, k = a + 1 + n → runP namB (s.data.toList.drop (a + 1)) = n → (n + 1 ≤ 24 → rwordV a (wordAt (s.data.toList.drop a)) = .tuple #[.agg #[.int .i64 1, .int .i64 a, .string (s.extract a k), .float .f64 0], .int .i64 k, .int .i64 0]) ∧ (¬ n + 1 ≤ 24 → rwordV a (wordAt (s.data.toList.drop a)) = .tuple #[.agg #[.int .i64 0, .int .i64 0, .string ⟨#[]⟩, .float .f64 0], .int .i64 a, .int .i64 1]) := fun n e hn => by
      subst e
      refine ⟨fun h => ?_, fun h => ?_⟩
      · rw [HW.out n hn, if_pos h, HX.out _ (by omega), show a + 1 + n - a = n + 1 from by omega]
        unfold rwordV TV
        simp only
        rw [show a + n + 1 = a + 1 + n from by omega]
        rfl
      · rw [HW.out n hn, if_neg h]
        rfl
    have HF := Lib.hid hfin
    clear hfin
    by_cases hlk : k < s.size
    · have hin := rinner_n s[k].toNat (b_lt _)
      rw [← nam_n] at hin
      cases hb : namB s[k]
      · rw [hb] at hin
        have hn := HR.out.off hlk hb
        obtain ⟨h1, h2⟩ := HF.out (k - (a + 1)) (by omega) hn
        clear hb hn
        by_cases h24 : k - (a + 1) + 1 ≤ 24
        · have HV := Lib.hid (h1 h24)
          clear h1 h2
          go_wp2_with (go_at_call 48; refine (hin _).mono ?_; rintro e w1 ⟨rfl, rfl⟩)
          refine bodyPost_ret (v := .tuple #[.agg #[.int .i64 1, .int .i64 a, .string (s.extract a k), .float .f64 0], .int .i64 k, .int .i64 0]) (by simp [results, Tryz.results29, go_sem]) rfl ⟨by rw [HV.out], ?_⟩
          go_grown
        · have HV := Lib.hid (h2 h24)
          clear h1 h2
          go_wp2_with (go_at_call 48; refine (hin _).mono ?_; rintro e w1 ⟨rfl, rfl⟩)
          refine bodyPost_ret (v := .tuple #[.agg #[.int .i64 0, .int .i64 0, .string ⟨#[]⟩, .float .f64 0], .int .i64 a, .int .i64 1]) (by simp [results, Tryz.results29, go_sem]) rfl ⟨by rw [HV.out], ?_⟩
          go_grown
      · rw [hb] at hin
        have HR2 := Lib.hid (HR.out.on hlk hb)
        clear hb
        go_wp2_with (go_at_call 48; refine (hin _).mono ?_; rintro e w1 ⟨rfl, rfl⟩)
        go_round
        case rel => exact ⟨k + 1, by go_num, HR2.out⟩
        case measure => simp [intOf]; omega
    · obtain rfl : k = s.size := by omega
      have hn := HR.out.fin
      obtain ⟨h1, h2⟩ := HF.out (s.size - (a + 1)) (by omega) hn
      clear hn
      by_cases h24 : s.size - (a + 1) + 1 ≤ 24
      · have HV := Lib.hid (h1 h24)
        clear h1 h2
        go_wp2_with fail
        refine bodyPost_ret (v := .tuple #[.agg #[.int .i64 1, .int .i64 a, .string (s.extract a s.size), .float .f64 0], .int .i64 s.size, .int .i64 0]) (by simp [results, Tryz.results29, go_sem]) rfl ⟨by rw [HV.out], ?_⟩
        go_grown
      · have HV := Lib.hid (h2 h24)
        clear h1 h2
        go_wp2_with fail
        refine bodyPost_ret (v := .tuple #[.agg #[.int .i64 0, .int .i64 0, .string ⟨#[]⟩, .float .f64 0], .int .i64 a, .int .i64 1]) (by simp [results, Tryz.results29, go_sem]) rfl ⟨by rw [HV.out], ?_⟩
        go_grown
end Go.Proofs.YtdddbkghleblhaaGreatDoor.lx

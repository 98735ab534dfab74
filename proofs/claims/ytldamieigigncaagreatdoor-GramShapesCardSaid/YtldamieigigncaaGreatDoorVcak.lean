import Derived.Test.YtldamieigigncaaGreatDoorVcaj
import Derived.Deep.RegionHeld3
import Derived.Test.YtldamieigigncaaGreatDoorVcaf
import Derived.Deep.RegionHeld
import Derived.Deep.Cut
namespace Go.Proofs.YtldamieigigncaaGreatDoor.lx
open Go.ChangeShapes Go.WideShapes Go.ChangeAt Go.RowKit
set_option linter.unusedVariables false
attribute [local go_sem] run_store_float
theorem wr_eql (n a : Nat) (w : World) : (binOp BinOp.eql 20 (Wrong n a) .nilIface).run Tryz.prog w = .ok (.bool false) w := by unfold Wrong; kernel_rfl
theorem wr_guard (n a : Nat) (w : World) : (eqGuard BinOp.eql 20 (Operand.tmp 5) (Operand.const Value.nilIface) (Wrong n a) Value.nilIface).run Tryz.prog w = .ok () w := by unfold Wrong; kernel_rfl
theorem wr_assert (n a : Nat) (w : World) : (Instr.typeAssert (Wrong n a) 20 114 true).run Tryz.prog w = .ok (.tuple #[.agg #[.int .i64 n, .int .i64 a], .bool true]) w := by unfold Wrong; kernel_rfl
set_option maxRecDepth 100000 in
theorem catch_idle (x y : Value) (w : World) :
    CallsD Tryz.prog 59 #[x, y] .returning w fun e u' w' => e = .returned (.tuple #[]) ∧ u' = .returning ∧ w = w' := by
  have hq : ∀ w : World, (binOp BinOp.eql 20 .nilIface .nilIface).run Tryz.prog w = .ok (.bool true) w := fun _ => by kernel_rfl
  refine callsD_of_wpS Tryz.func59 rfl fun c₀ cs hu => ?_
  apply wpS_seq
  apply wpS_region
  simp [wpOpsS, go_sem, recoverD, hu, Tryz.ntmps59, Exit.thenS]
  refine wpS_of_wp ?_
  go_wp2
  cases c₀
  simp_all [bodyPostS, results, Tryz.results59]
theorem tm12 (x y f : Value) : (#[x, y] ++ (Array.replicate 10 undef).setIfInBounds 3 f) = #[x, y, undef, undef, undef, f, undef, undef, undef, undef, undef, undef] := rfl
set_option maxRecDepth 100000 in
set_option maxHeartbeats 1000000 in
theorem catch_wrong (n a b0 b1 : Nat) (hne : b0 ≠ b1) (older : List PanicEntry) (w : World) (v0 : Value) (f0 f1 : Value) (h0 : Blk w b0 54 #[v0]) (h1 : Blk w b1 29 #[f0, f1]) :
    CallsD Tryz.prog 59 #[.pointer (some ⟨b0, 0, none⟩), .pointer (some ⟨b1, 0, none⟩)] (.panicking ({ v := Wrong n a, recovered := false } :: older)) w fun e u' w' => e = .returned (.tuple #[]) ∧ u' = .panicking ({ v := Wrong n a, recovered := true } :: older) ∧ Blk w' b0 54 #[.slice none 0 0] ∧ Blk w' b1 29 #[.int .i64 n, .int .i64 a] ∧ Kp (fun i => i = b0 ∨ i = b1) w w' := by
  have e1 := wr_eql n a
  have e2 := wr_assert n a
  have e3 := wr_guard n a
  have x0 := h0.cell 0
  have y0 := h1.cell 0
  have y1 := h1.cell 1
  simp only [List.getElem?_toArray, List.getElem?_cons_zero, List.getElem?_cons_succ] at x0 y0 y1
  have u0 := h0.frozen 0
  have u1 := h1.frozen 0
  have u2 := h1.frozen 1
  have l0 := h0.lt
  have l1 := h1.lt
  refine callsD_of_wpS Tryz.func59 rfl fun c₀ cs hu => ?_
  apply wpS_seq
  apply wpS_region
  generalize Wrong n a = fg at *
  simp [wpOpsS, go_sem, recoverD, hu, Tryz.ntmps59, Exit.thenS]
  refine wpS_of_wp ?_
  rw [tm12]
  go_wp2
  go_region
  all_goals
    go_wp2
    refine ⟨rfl, _, rfl, .tuple #[], results_none rfl _ _ _, rfl, rfl, ?_, ?_, ?_⟩
    · exact (((h0.set_ 0 (.slice none 0 0)).far (p := ⟨b1, 0, none⟩) hne _).far (p := ⟨b1, 1, none⟩) hne _).alloc _
    · exact (((h1.far (p := ⟨b0, 0, none⟩) (Ne.symm hne) (.slice none 0 0)).set_ 0 (.int .i64 n)).set_ 1 (.int .i64 a)).alloc _
    · have k1 : Kp (fun i => i = b0 ∨ i = b1) w (((w.setCell ⟨b0, 0, none⟩ (.slice none 0 0)).setCell ⟨b1, 0, none⟩ (.int .i64 n)).setCell ⟨b1, 1, none⟩ (.int .i64 a)) := Kp.set_ (S := fun i => i = b0 ∨ i = b1) (Kp.set_ (S := fun i => i = b0 ∨ i = b1) (Kp.set_ (S := fun i => i = b0 ∨ i = b1) (Kp.refl _ w) (.inl (.inl rfl)) _) (.inl (.inr rfl)) _) (.inl (.inr rfl)) _
      have k2 := k1.trans (Kp.alloc _ _ (.cells #[.int .i64 n, .int .i64 a] 114))
      exact ⟨k2.os, k2.tape, k2.output, k2.size, k2.block⟩
def ParseV (B : Nat) (s : List UInt8) (e : Ending) (w : World) : Prop := ∃ v, e = .returned (.tuple #[v, .agg #[.int .i64 (readAll s).2.1, .int .i64 (readAll s).2.2]]) ∧ ListOf 3 EDef w (fun g => B ≤ g) v (readAll s).1
theorem mf (fn : Fn) (first cap : Array Value) (w : World) : (Instr.makeFunc fn first cap).run Tryz.prog w = .ok (.func fn first cap) w := rfl
theorem Kp.below {S : Nat → Prop} {w w' : World} {n : Nat} (k : Kp S w w') (hn : n ≤ w.heap.size) (hS : ∀ i, S i → n ≤ i) : Below n w w' := ⟨k.os, k.tape, k.output, k.size, fun i hi => k.block i (by omega) (fun h => by have := hS i h; omega)⟩
theorem read_bad (s : List UInt8) (h : (lexAll s).2.1 ≠ 0) : readAll s = ([], (lexAll s).2) := if_neg h
theorem read_err (s : List UInt8) (h : (lexAll s).2.1 = 0) (p : Nat × Nat) (h2 : pText (lexAll s).1.length (lexAll s).1 = .error p) : readAll s = ([], p) := by
  unfold readAll
  rw [if_pos h, h2]
theorem read_ok (s : List UInt8) (h : (lexAll s).2.1 = 0) (ds : List Dfn) (h2 : pText (lexAll s).1.length (lexAll s).1 = .ok ds) : readAll s = (ds, 0, 0) := by
  unfold readAll
  rw [if_pos h, h2]
theorem all_len (s : List UInt8) (h : (lexAll s).2.1 = 0) : (lexAll s).1.length ≤ 65537 := by
  unfold lexAll at h ⊢
  by_cases hb : 65536 < s.length
  · rw [if_pos hb] at h
    exact absurd h (by decide)
  · rw [if_neg hb] at h ⊢
    rcases hA : lexA s (nxt s 0) with ⟨x, f⟩
    have hx := (ok_ge s hA).1
    cases f with
    | some f =>
      obtain ⟨e, k⟩ := f
      exact Nat.zero_le _
    | none =>
      show x.length ≤ _
      omega
set_option maxRecDepth 100000 in
set_option maxHeartbeats 4000000 in
theorem parse_any (s : ByteArray) (hs : s.size ≤ maxLen) (w : World) (b off : Nat) (hv : Vs w b off) : Calls Tryz.prog 21 #[.string s] w fun e w' => ParseV w.heap.size s.data.toList e w' ∧ Below w.heap.size w w' := by
  have hmf := mf
  have HV := Lib.hid hv
  have ha := fun w h => all_any s hs w b off h
  have HA := Lib.hid ha
  have b0 := (Blk.new w 54 #[.slice none 0 0]).alloc (.cells #[.int .i64 0, .int .i64 0] 29)
  have b1 := Blk.new (w.alloc (.cells #[.slice none 0 0] 54)) 29 #[.int .i64 0, .int .i64 0]
  have hw0 : Below w.heap.size w ((w.alloc (.cells #[.slice none 0 0] 54)).alloc (.cells #[.int .i64 0, .int .i64 0] 29)) := ((Below.refl _ _).alloc (Nat.le_refl _) _).alloc (by simp) _
  rw [World.size_alloc] at b1
  have HB0 := Lib.hid b0
  have HB1 := Lib.hid b1
  have HW0 := Lib.hid hw0
  obtain ⟨L, hL⟩ : ∃ L, L = lexAll s.data.toList := ⟨_, rfl⟩
  have HL := Lib.hid hL
  clear b0 b1 hw0 ha hv hL
  by_cases he : L.2.1 = 0
  · have HE : Hid ((lexAll s.data.toList).2.1 = 0) := Lib.hid (by rw [← HL.out]; exact he)
    have hgd := all_good _ HE.out
    have hlen := all_len _ HE.out
    rw [← HL.out] at hgd hlen
    have HRE := Lib.hid (read_err _ HE.out)
    have HRO := Lib.hid (read_ok _ HE.out)
    rw [← HL.out] at HRE HRO
    have hAV : ∀ w' : World, AllV w'.heap.size s.data.toList = fun e w'' => ∃ v, e = .returned (.tuple #[v, .agg #[.int .i64 0, .int .i64 0]]) ∧ w''.ownsRow w'.heap.size 162 4 v L.1.length (tcells L.1) := fun w' => by
      unfold AllV
      rw [← HL.out, he, hgd.2]
      rfl
    have HAV := Lib.hid hAV
    obtain ⟨ts, hts⟩ : ∃ ts, ts = L.1 := ⟨_, rfl⟩
    rw [← hts] at HRE HRO HAV hlen
    have HG : Hid (Good ts) := Lib.hid (by rw [hts]; exact hgd.1)
    have hpos := HG.out.pos
    clear he hgd hts hAV HL HE
    go_enter_defers Tryz.func21, Tryz.ntmps21
    go_wp2_with fail
    refine (HA.out _ (HV.out.below HW0.out)).mono ?_
    rintro e w1 ⟨hall, hb1⟩
    rw [HAV.out] at hall
    obtain ⟨v, rfl, ho⟩ := hall
    obtain ⟨_, ⟨_, h0⟩ | ⟨g, c, cur, rfl, hB, hh, hn, hc, _⟩⟩ := id ho
    · omega
    have hg := lt_heap hh
    have hcs := ho.cells (show (Value.slice (some ⟨g, 0, none⟩) ts.length c).ownBlock = some g from rfl)
    have hsz0 : ((w.alloc (.cells #[.slice none 0 0] 54)).alloc (.cells #[.int .i64 0, .int .i64 0] 29)).heap.size = w.heap.size + 2 := by simp
    rw [hsz0] at hB
    have hz1 : w.heap.size + 2 ≤ w1.heap.size := by have := hb1.size; rw [hsz0] at this; omega
    have b0 := HB0.out.below hb1 (by simp; omega)
    have b1 := HB1.out.below hb1 (by simp)
    have x0 := b0.cell 0
    have y0 := b1.cell 0
    have y1 := b1.cell 1
    simp only [List.getElem?_toArray, List.getElem?_cons_zero, List.getElem?_cons_succ] at x0 y0 y1
    have u0 := b0.frozen 0
    have u1 := b1.frozen 0
    have u2 := b1.frozen 1
    have l0 := b0.lt
    have l1 := b1.lt
    have HB1w := Lib.hid (HW0.out.trans (hb1.mono (by simp; omega)))
    have HC := Lib.hid hcs
    clear ho hb1 hh hcs hsz0
    go_wp2_with fail
    have b0 := (b0.far (p := ⟨w.heap.size + 1, 0, none⟩) (by show w.heap.size ≠ w.heap.size + 1; omega) (.int .i64 0)).far (p := ⟨w.heap.size + 1, 1, none⟩) (by show w.heap.size ≠ w.heap.size + 1; omega) (.int .i64 0)
    have b1 := (b1.set_ 0 (.int .i64 0)).set_ 1 (.int .i64 0)
    have hk2 : Kp (fun i => i = w.heap.size + 1) w1 ((w1.setCell ⟨w.heap.size + 1, 0, none⟩ (.int .i64 0)).setCell ⟨w.heap.size + 1, 1, none⟩ (.int .i64 0)) := (kp_at _ _ _ _).trans (kp_at _ _ _ _)
    have hz2 : ((w1.setCell ⟨w.heap.size + 1, 0, none⟩ (.int .i64 0)).setCell ⟨w.heap.size + 1, 1, none⟩ (.int .i64 0)).heap.size = w1.heap.size := by simp
    have hC2 : ∀ j u, (tcells ts)[j]? = some u → ((w1.setCell ⟨w.heap.size + 1, 0, none⟩ (.int .i64 0)).setCell ⟨w.heap.size + 1, 1, none⟩ (.int .i64 0)).cell? ⟨g, j, none⟩ = some u := fun j u hj => hk2.cell (by have := HC.out j u hj; rwa [add0] at this) (by show ¬ g = w.heap.size + 1; omega)
    have hbw := HB1w.out.trans (hk2.below (n := w.heap.size) (by omega) (fun i hi => by omega))
    generalize (w1.setCell ⟨w.heap.size + 1, 0, none⟩ (.int .i64 0)).setCell ⟨w.heap.size + 1, 1, none⟩ (.int .i64 0) = w2 at *
    rw [← hz2] at hz1 hg ⊢
    clear hk2 x0 y0 y1 u0 u1 u2 l0 l1 hz2
    have bp := Blk.new w2 116 #[.slice (some ⟨g, 0, none⟩) ts.length c, .int .i64 0]
    have hsz : (w2.alloc (.cells #[.slice (some ⟨g, 0, none⟩) ts.length c, .int .i64 0] 116)).heap.size = w2.heap.size + 1 := World.size_alloc _ _
    have hpat : PAt (w2.alloc (.cells #[.slice (some ⟨g, 0, none⟩) ts.length c, .int .i64 0] 116)) w2.heap.size ts 0 := ⟨g, 0, c, bp, hn, hc, hg, by rw [hsz]; omega, fun j u hj => by
      rw [Nat.zero_add]
      exact (World.cell?_alloc_lt w2 _ ⟨g, j, none⟩ hg).trans (hC2 j u hj)⟩
    have b0 := b0.alloc (.cells #[.slice (some ⟨g, 0, none⟩) ts.length c, .int .i64 0] 116)
    have b1 := b1.alloc (.cells #[.slice (some ⟨g, 0, none⟩) ts.length c, .int .i64 0] 116)
    have hbw3 := hbw.alloc (by omega) (.cells #[.slice (some ⟨g, 0, none⟩) ts.length c, .int .i64 0] 116)
    generalize w2.alloc (.cells #[.slice (some ⟨g, 0, none⟩) ts.length c, .int .i64 0] 116) = w3 at *
    clear hbw hC2 bp
    refine (ptext_any w3 w2.heap.size ts hpat HG.out (by omega)).mono ?_
    rintro e w4 ⟨hk4, h4⟩
    have b0 := b0.kept hk4 (by show ¬ w.heap.size = w2.heap.size; omega)
    have b1 := b1.kept hk4 (by show ¬ w.heap.size + 1 = w2.heap.size; omega)
    have hz4 := hk4.size
    have hbw4 := hbw3.trans (hk4.below (n := w.heap.size) (by omega) (fun i hi => by omega))
    clear hbw3 hk4 hpat
    cases hx : pText ts.length ts with
    | error p =>
      rw [hx] at h4
      obtain rfl : e = _ := h4
      have HR := Lib.hid (HRE.out p hx)
      clear hx HRE HRO
      go_wp2_with fail
      refine leaves_cons (f := 59) (args := #[.pointer (some ⟨w.heap.size, 0, none⟩), .pointer (some ⟨w.heap.size + 1, 0, none⟩)]) (by simp) (by simp [go_sem]) ?_
      refine (catch_wrong p.1 p.2 w.heap.size (w.heap.size + 1) (by omega) [] w4 _ _ _ b0 b1).mono ?_
      rintro e u' w5 ⟨rfl, rfl, c0, c1, hk5⟩
      have z0 := c0.cell 0
      have z1 := c1.cell 0
      have z2 := c1.cell 1
      simp only [List.getElem?_toArray, List.getElem?_cons_zero, List.getElem?_cons_succ] at z0 z1 z2
      have l0 := c0.lt
      have l1 := c1.lt
      have hbf := hbw4.trans (hk5.below (n := w.heap.size) (by omega) (fun i hi => by omega))
      have HF : Hid (∀ w', ParseV w.heap.size s.data.toList (.returned (.tuple #[.slice none 0 0, .agg #[.int .i64 p.1, .int .i64 p.2]])) w') := Lib.hid fun w' => by
        unfold ParseV
        rw [HR.out]
        exact ⟨_, rfl, ListOf.nil _ _⟩
      simp [Leaves, settle, results, Tryz.results21, go_sem, z0, z1, z2]
      exact ⟨HF.out _, hbf⟩
    | ok ds =>
      rw [hx] at h4
      obtain ⟨v, rfl, hv⟩ := h4
      obtain ⟨ao, cc, rfl⟩ := hv.form
      have HR := Lib.hid (HRO.out ds hx)
      have HVV := Lib.hid hv
      have x0 := b0.cell 0
      have y0 := b1.cell 0
      have y1 := b1.cell 1
      simp only [List.setIfInBounds_toArray, List.set_cons_zero, List.set_cons_succ, List.getElem?_toArray, List.getElem?_cons_zero, List.getElem?_cons_succ] at x0 y0 y1
      have u0 := b0.frozen 0
      have u1 := b1.frozen 0
      have u2 := b1.frozen 1
      have l0 := b0.lt
      have l1 := b1.lt
      have HC0 := Lib.hid b0
      have HC1 := Lib.hid b1
      have HBW := Lib.hid hbw4
      clear hx HRE HRO hv b0 b1 hbw4
      go_wp2_with fail
      have c0 : Blk (((w4.setCell ⟨w.heap.size, 0, none⟩ (.slice ao ds.length cc)).setCell ⟨w.heap.size + 1, 0, none⟩ (.int .i64 0)).setCell ⟨w.heap.size + 1, 1, none⟩ (.int .i64 0)) w.heap.size 54 #[.slice ao ds.length cc] := ((HC0.out.set_ 0 (.slice ao ds.length cc)).far (p := ⟨w.heap.size + 1, 0, none⟩) (by show w.heap.size ≠ w.heap.size + 1; omega) _).far (p := ⟨w.heap.size + 1, 1, none⟩) (by show w.heap.size ≠ w.heap.size + 1; omega) _
      have c1 : Blk (((w4.setCell ⟨w.heap.size, 0, none⟩ (.slice ao ds.length cc)).setCell ⟨w.heap.size + 1, 0, none⟩ (.int .i64 0)).setCell ⟨w.heap.size + 1, 1, none⟩ (.int .i64 0)) (w.heap.size + 1) 29 #[.int .i64 0, .int .i64 0] := ((HC1.out.far (p := ⟨w.heap.size, 0, none⟩) (by show w.heap.size + 1 ≠ w.heap.size; omega) (.slice ao ds.length cc)).set_ 0 (.int .i64 0)).set_ 1 (.int .i64 0)
      have k1 : Kp (fun i => i = w.heap.size ∨ i = w.heap.size + 1) w4 (((w4.setCell ⟨w.heap.size, 0, none⟩ (.slice ao ds.length cc)).setCell ⟨w.heap.size + 1, 0, none⟩ (.int .i64 0)).setCell ⟨w.heap.size + 1, 1, none⟩ (.int .i64 0)) := Kp.set_ (S := fun i => i = w.heap.size ∨ i = w.heap.size + 1) (Kp.set_ (S := fun i => i = w.heap.size ∨ i = w.heap.size + 1) (Kp.set_ (S := fun i => i = w.heap.size ∨ i = w.heap.size + 1) (Kp.refl _ w4) (.inl (.inl rfl)) _) (.inl (.inr rfl)) _) (.inl (.inr rfl)) _
      have hbf := HBW.out.trans (k1.below (n := w.heap.size) (by omega) (fun i hi => by omega))
      have hvf := HVV.out.keep keepsDef (A' := fun g => w.heap.size ≤ g) (fun g hg hA => ⟨by omega, k1.block g hg (by omega)⟩) k1.size
      generalize ((w4.setCell ⟨w.heap.size, 0, none⟩ (.slice ao ds.length cc)).setCell ⟨w.heap.size + 1, 0, none⟩ (.int .i64 0)).setCell ⟨w.heap.size + 1, 1, none⟩ (.int .i64 0) = w5 at *
      refine leaves_cons (f := 59) (args := #[.pointer (some ⟨w.heap.size, 0, none⟩), .pointer (some ⟨w.heap.size + 1, 0, none⟩)]) (by simp) (by simp [go_sem]) ?_
      refine (catch_idle _ _ _).mono ?_
      rintro e u' w6 ⟨rfl, rfl, rfl⟩
      have z0 := c0.cell 0
      have z1 := c1.cell 0
      have z2 := c1.cell 1
      simp only [List.getElem?_toArray, List.getElem?_cons_zero, List.getElem?_cons_succ] at z0 z1 z2
      have l0 := c0.lt
      have l1 := c1.lt
      have HF : Hid (ParseV w.heap.size s.data.toList (.returned (.tuple #[.slice ao ds.length cc, .agg #[.int .i64 0, .int .i64 0]])) w5) := Lib.hid (by
        unfold ParseV
        rw [HR.out]
        exact ⟨_, rfl, hvf⟩)
      simp [Leaves, settle, results, Tryz.results21, go_sem, z0, z1, z2]
      exact ⟨HF.out, hbf⟩
  · have HR := Lib.hid (read_bad _ (by rw [← HL.out]; exact he))
    have he' : ((L.2.1 : Int) != 0) = true := by rw [bne_iff_ne]; omega
    go_enter_defers Tryz.func21, Tryz.ntmps21
    go_wp2_with fail
    refine (HA.out _ (HV.out.below HW0.out)).mono ?_
    rintro e w1 ⟨⟨v, rfl, ho⟩, hb1⟩
    rw [← HL.out] at ho
    rw [← HL.out]
    obtain ⟨ao, c, rfl⟩ := own_form ho
    have hz1 : w.heap.size + 2 ≤ w1.heap.size := by have := hb1.size; simp at this; omega
    have b0 := HB0.out.below hb1 (by simp; omega)
    have b1 := HB1.out.below hb1 (by simp)
    have x0 := b0.cell 0
    have y0 := b1.cell 0
    have y1 := b1.cell 1
    simp only [List.getElem?_toArray, List.getElem?_cons_zero, List.getElem?_cons_succ] at x0 y0 y1
    have u0 := b0.frozen 0
    have u1 := b1.frozen 0
    have u2 := b1.frozen 1
    have l0 := b0.lt
    have l1 := b1.lt
    have HB1w := Lib.hid (HW0.out.trans (hb1.mono (by simp; omega)))
    clear ho hb1 he
    go_wp2_with fail
    have b0 := (b0.far (p := ⟨w.heap.size + 1, 0, none⟩) (by show w.heap.size ≠ w.heap.size + 1; omega) (.int .i64 L.2.1)).far (p := ⟨w.heap.size + 1, 1, none⟩) (by show w.heap.size ≠ w.heap.size + 1; omega) (.int .i64 L.2.2)
    have b1 := (b1.set_ 0 (.int .i64 L.2.1)).set_ 1 (.int .i64 L.2.2)
    have hk2 : Kp (fun i => i = w.heap.size + 1) w1 ((w1.setCell ⟨w.heap.size + 1, 0, none⟩ (.int .i64 L.2.1)).setCell ⟨w.heap.size + 1, 1, none⟩ (.int .i64 L.2.2)) := (kp_at _ _ _ _).trans (kp_at _ _ _ _)
    have hbw := HB1w.out.trans (hk2.below (n := w.heap.size) (by omega) (fun i hi => by omega))
    generalize (w1.setCell ⟨w.heap.size + 1, 0, none⟩ (.int .i64 L.2.1)).setCell ⟨w.heap.size + 1, 1, none⟩ (.int .i64 L.2.2) = w2 at *
    clear x0 y0 y1 u0 u1 u2 l0 l1 hk2
    have x0 := b0.cell 0
    have y0 := b1.cell 0
    have y1 := b1.cell 1
    simp only [List.setIfInBounds_toArray, List.set_cons_zero, List.set_cons_succ, List.getElem?_toArray, List.getElem?_cons_zero, List.getElem?_cons_succ] at x0 y0 y1
    have u0 := b0.frozen 0
    have u1 := b1.frozen 0
    have u2 := b1.frozen 1
    have l0 := b0.lt
    have l1 := b1.lt
    have HBW := Lib.hid hbw
    have HC0 := Lib.hid b0
    have HC1 := Lib.hid b1
    clear hbw b0 b1
    go_region
    all_goals
      go_wp2
      have c0 : Blk ((((w2.setCell ⟨w.heap.size, 0, none⟩ (.slice none 0 0)).setCell ⟨w.heap.size + 1, 0, none⟩ (.int .i64 L.2.1)).setCell ⟨w.heap.size + 1, 1, none⟩ (.int .i64 L.2.2)).drew) w.heap.size 54 #[.slice none 0 0] := ((HC0.out.set_ 0 (.slice none 0 0)).far (p := ⟨w.heap.size + 1, 0, none⟩) (by show w.heap.size ≠ w.heap.size + 1; omega) _).far (p := ⟨w.heap.size + 1, 1, none⟩) (by show w.heap.size ≠ w.heap.size + 1; omega) _
      have c1 : Blk ((((w2.setCell ⟨w.heap.size, 0, none⟩ (.slice none 0 0)).setCell ⟨w.heap.size + 1, 0, none⟩ (.int .i64 L.2.1)).setCell ⟨w.heap.size + 1, 1, none⟩ (.int .i64 L.2.2)).drew) (w.heap.size + 1) 29 #[.int .i64 L.2.1, .int .i64 L.2.2] := ((HC1.out.far (p := ⟨w.heap.size, 0, none⟩) (by show w.heap.size + 1 ≠ w.heap.size; omega) (.slice none 0 0)).set_ 0 (.int .i64 L.2.1)).set_ 1 (.int .i64 L.2.2)
      have k1 : Kp (fun i => i = w.heap.size ∨ i = w.heap.size + 1) w2 ((((w2.setCell ⟨w.heap.size, 0, none⟩ (.slice none 0 0)).setCell ⟨w.heap.size + 1, 0, none⟩ (.int .i64 L.2.1)).setCell ⟨w.heap.size + 1, 1, none⟩ (.int .i64 L.2.2))) := Kp.set_ (S := fun i => i = w.heap.size ∨ i = w.heap.size + 1) (Kp.set_ (S := fun i => i = w.heap.size ∨ i = w.heap.size + 1) (Kp.set_ (S := fun i => i = w.heap.size ∨ i = w.heap.size + 1) (Kp.refl _ w2) (.inl (.inl rfl)) _) (.inl (.inr rfl)) _) (.inl (.inr rfl)) _
      have k2 : Kp (fun i => i = w.heap.size ∨ i = w.heap.size + 1) w2 ((((w2.setCell ⟨w.heap.size, 0, none⟩ (.slice none 0 0)).setCell ⟨w.heap.size + 1, 0, none⟩ (.int .i64 L.2.1)).setCell ⟨w.heap.size + 1, 1, none⟩ (.int .i64 L.2.2)).drew) := ⟨k1.os, k1.tape, k1.output, k1.size, k1.block⟩
      have hbf := HBW.out.trans (k2.below (n := w.heap.size) (by omega) (fun i hi => by omega))
      generalize (((w2.setCell ⟨w.heap.size, 0, none⟩ (.slice none 0 0)).setCell ⟨w.heap.size + 1, 0, none⟩ (.int .i64 L.2.1)).setCell ⟨w.heap.size + 1, 1, none⟩ (.int .i64 L.2.2)).drew = w3 at *
      have z0 := c0.cell 0
      have z1 := c1.cell 0
      have z2 := c1.cell 1
      simp only [List.getElem?_toArray, List.getElem?_cons_zero, List.getElem?_cons_succ] at z0 z1 z2
      have l0 := c0.lt
      have l1 := c1.lt
      have HF : Hid (∀ w', ParseV w.heap.size s.data.toList (.returned (.tuple #[.slice none 0 0, .agg #[.int .i64 L.2.1, .int .i64 L.2.2]])) w') := Lib.hid fun w' => by
        unfold ParseV
        rw [HR.out, ← HL.out]
        exact ⟨_, rfl, ListOf.nil _ _⟩
      clear c0 c1 k1 k2
      simp [bodyPostD, Leaves, results, Tryz.results21, go_sem, z0, z1, z2]
      exact ⟨HF.out _, hbf⟩
end Go.Proofs.YtldamieigigncaaGreatDoor.lx

namespace Go.Proofs.YtldamieigigncaaGreatDoor.lx
set_option linter.unusedVariables false
def smS (N : Nat) : Nat → List Altn → Prop
  | 0, bs => bs = []
  | k + 1, bs => bs.length ≤ N + 1 ∧ ∀ (j : Nat) (x : Altn), bs[j]? = some x → x.2.2.length ≤ N + 1 ∧ ∀ (i : Nat) (y : Itm), x.2.2[i]? = some y → smS N k y.alts
section
variable {N k : Nat} {sub : List Tok → Res (List Altn)} (hs : ∀ ts bs r, ts.length ≤ N → sub ts = .ok (bs, r) → smS N k bs ∧ r.length ≤ ts.length)
include hs
end
end Go.Proofs.YtldamieigigncaaGreatDoor.lx

namespace Go.Proofs.YtldamieigigncaaGreatDoor.lx
open Go.ChangeShapes Go.WideShapes Go.ChangeAt Go.RowKit
set_option linter.unusedVariables false
set_option linter.unusedSimpArgs false
section
variable {P : Program} {ops : Array Oper} {Q : Exit → Act → World → Prop} {md : Region.Mode} {S : World → Prop} {E : List Nat}
def clB (md : Region.Mode) (ops : Array Oper) (ls : Array Bool) : Bool := (List.range ops.size).all fun j => !ls.getD j false || match ops[j]? with
  | some q => q.after.all fun x => !Region.binds md x || ls.getD x.on false
  | none => true
def ancB (md : Region.Mode) (ops : Array Oper) (i : Nat) : Nat → Nat → Bool
  | 0, _ => false
  | n + 1, j => match ops[j]? with
    | some q => q.after.any fun x => Region.binds md x && (x.on == i || ancB md ops i n x.on)
    | none => false
theorem cl_spec {ls : Array Bool} (h : clB md ops ls = true) {j : Nat} {q : Oper} (hq : ops[j]? = some q) (hj : ls.getD j false = true) : ∀ x ∈ q.after, Region.binds md x = true → ls.getD x.on false = true := fun x hx hb => by
  unfold clB at h
  rw [List.all_eq_true] at h
  have k := h j (List.mem_range.2 (Array.getElem?_eq_some_iff.1 hq).1)
  rw [hj, hq] at k
  simp only [Bool.not_true, Bool.false_or] at k
  have k2 := (Array.all_eq_true_iff_forall_mem.1 k) x hx
  rw [hb] at k2
  simpa using k2
theorem anc_spec {ls : Array Bool} (h : clB md ops ls = true) {i : Nat} : ∀ (n j : Nat) (q : Oper), ops[j]? = some q → ancB md ops i n j = true → (∀ x ∈ q.after, Region.binds md x = true → ls.getD x.on false = true) → ls.getD i false = true
  | 0, _, _, _, k, _ => by cases k
  | n + 1, j, q, hq, k, hall => by
    unfold ancB at k
    rw [hq] at k
    simp only at k
    obtain ⟨x, hx, hb⟩ := Array.any_eq_true'.1 k
    simp only [Bool.and_eq_true, Bool.or_eq_true, beq_iff_eq] at hb
    have h1 := hall x hx hb.1
    rcases hb.2 with e | e
    · rw [← e]; exact h1
    · cases hx2 : ops[x.on]? with
      | none =>
        cases n with
        | zero => cases e
        | succ n => unfold ancB at e; rw [hx2] at e; cases e
      | some q2 => exact anc_spec h n x.on q2 hx2 e (cl_spec h hx2 h1)
theorem cl_set {ls : Array Bool} (h : clB md ops ls = true) {j : Nat} (hj : j ∈ Region.ready md ops ls) : clB md ops (ls.setIfInBounds j true) = true := by
  obtain ⟨_, q, hq, hall⟩ := mem_ready.1 hj
  unfold clB
  rw [List.all_eq_true]
  intro k hk
  cases hk2 : ops[k]? with
  | none => simp
  | some r =>
    by_cases e : j = k
    · subst e
      rw [hq] at hk2
      cases hk2
      simp only [Bool.or_eq_true]
      right
      rw [Array.all_eq_true_iff_forall_mem]
      intro x hx
      cases hb : Region.binds md x
      · rfl
      · simpa using getD_set_true (hall x hx hb)
    · rw [getD_set_ne false e]
      cases hl : ls.getD k false
      · rfl
      · simp only [Bool.or_eq_true]
        right
        rw [Array.all_eq_true_iff_forall_mem]
        intro x hx
        cases hb : Region.binds md x
        · rfl
        · simpa using getD_set_true (cl_spec h hk2 hl x hx hb)
def anyE (P : Program) (md : Region.Mode) (ops : Array Oper) (Q : Exit → Act → World → Prop) (S : World → Prop) (E : List Nat) : Nat → Array Bool → Act → World → Prop
  | 0, ls, a, w => Region.ready md ops ls = [] ∧ Q .normal a w
  | n + 1, ls, a, w => (Region.ready md ops ls = [] → Q .normal a w) ∧ ∀ i ∈ Region.ready md ops ls, wpOp P ops Q i (fun b u => (E.contains i = false → S u) ∧ anyE P md ops Q S E n (ls.setIfInBounds i true) b u) a w
theorem any_of_anyE : ∀ (n : Nat) (ls : Array Bool) (a : Act) (w : World), anyE P md ops Q S E n ls a w → wpAny P md ops Q n ls a w
  | 0, _, _, _, h => h
  | n + 1, _, _, _, h => ⟨h.1, fun i hi => wpOp_mono (fun b u k => any_of_anyE n _ b u k.2) (h.2 i hi)⟩
theorem anyE_first {i : Nat} {o : Oper} {v : Value} (hi : ops[i]? = some o) (hsel : ∀ (j : Nat) (q : Oper) cs b, ops[j]? = some q → q.op ≠ .select cs b) (hQ : ∀ c a w, Q (.panic c) (a.put o.dst v) w → Q (.panic c) a w) (hanc : ∀ j ∈ E, ancB md ops i ops.size j = true) :
    ∀ (n : Nat) (ls : Array Bool) (a : Act) (w : World), clB md ops ls = true → (∀ j q, ops[j]? = some q → j ≠ i → ls.getD j true = false → (∀ e ∈ q.after, Region.binds md e = true → e.on ≠ i) → o.apart ops q = true) →
      i ∈ Region.ready md ops ls → YieldsIf P ops S o v a → S w → anyE P md ops Q S E n (ls.setIfInBounds i true) (a.put o.dst v) w → anyE P md ops Q S E (n + 1) ls a w
  | 0, ls, a, w, _, _, hr, hy, hS, H => by
    refine ⟨fun h => (by rw [h] at hr; cases hr), fun j hj => ?_⟩
    by_cases e : j = i
    · subst e; exact hy.wpOp hi hS ⟨fun _ => hS, H⟩
    · have := ready_mono hj e
      rw [H.1] at this
      cases this
  | n + 1, ls, a, w, hcl, hfr, hr, hy, hS, H => by
    refine ⟨fun h => (by rw [h] at hr; cases hr), fun j hj => ?_⟩
    by_cases e : j = i
    · subst e; exact hy.wpOp hi hS ⟨fun _ => hS, H⟩
    · have h1 := H.2 j (ready_mono hj e)
      obtain ⟨hun, q, hq, hall⟩ := mem_ready.1 hj
      have hiu := (mem_ready.1 hr).1
      have hif : ls.getD i false = false := by
        rcases Nat.lt_or_ge i ls.size with h' | h'
        · simp [h'] at hiu ⊢; exact hiu
        · simp [Array.getElem?_eq_none h']
      have hno : ∀ x ∈ q.after, Region.binds md x = true → x.on ≠ i := fun x hx hb he => by
        have k := hall x hx hb
        rw [he, hif] at k
        cases k
      have hjE : E.contains j = false := by
        cases hc : E.contains j
        · rfl
        · have k := anc_spec hcl ops.size j q hq (hanc j (by simpa using hc)) hall
          rw [hif] at k
          cases k
      have h2 := wpOp_putIf hq (hfr j q hq e hun hno) (fun cs b => hsel i o cs b hi) (fun cs b => hsel j q cs b hq) hQ hy h1
      refine wpOp_mono (fun b u k => ⟨fun _ => k.2.1 hjE, anyE_first hi hsel hQ hanc n (ls.setIfInBounds j true) b u (cl_set hcl hj) ?_ (ready_mono hr (Ne.symm e)) k.1 (k.2.1 hjE) ?_⟩) h2
      · intro k q2 hk hki hun2 hno2
        refine hfr k q2 hk hki ?_ hno2
        by_cases hjk : j = k
        · subst hjk; exact hun
        · rw [getD_set_ne true hjk] at hun2; exact hun2
      · rw [Array.setIfInBounds_comm _ _ e]
        exact k.2.2
theorem anyE_take {i : Nat} {o : Oper} {v : Value} {n : Nat} {ls : Array Bool} {a : Act} {w : World} (hi : ops[i]? = some o) (hs : Region.noSelect ops = true) (hcl : clB md ops ls = true) (hanc : E.all (ancB md ops i ops.size) = true) (hf : Region.free md ops ls i = true) (hr : (Region.ready md ops ls).contains i = true)
    (hQ : ∀ c a w, Q (.panic c) (a.put o.dst v) w → Q (.panic c) a w) (hy : YieldsIf P ops S o v a) (hS : S w) (h : anyE P md ops Q S E n (ls.setIfInBounds i true) (a.put o.dst v) w) : anyE P md ops Q S E (n + 1) ls a w :=
  anyE_first hi (Region.noSelect_spec hs) hQ (fun j hj => List.all_eq_true.1 hanc j hj) n ls a w hcl (Region.free_spec hi hf) (by simpa using hr) hy hS h
theorem anyE_all {rs : List Nat} {n : Nat} {ls : Array Bool} {a : Act} {w : World} (hr : Region.ready md ops ls = rs) (hne : rs ≠ []) (h : ∀ i ∈ rs, wpOp P ops Q i (fun b u => (E.contains i = false → S u) ∧ anyE P md ops Q S E n (ls.setIfInBounds i true) b u) a w) : anyE P md ops Q S E (n + 1) ls a w :=
  ⟨fun h0 => absurd (hr ▸ h0) hne, hr ▸ h⟩
theorem anyE_done {ls : Array Bool} {a : Act} {w : World} (hr : Region.ready md ops ls = []) (h : Q .normal a w) : ∀ n, anyE P md ops Q S E n ls a w
  | 0 => ⟨hr, h⟩
  | _ + 1 => ⟨fun _ => h, by rw [hr]; simp⟩
theorem wp_region_E {id : Nat} {a : Act} {w : World} (S : World → Prop) (E : List Nat) (hm : P.follows .mixedOrders = true) (h : anyE P .any ops Q S E ops.size (Array.replicate ops.size false) a { w with drawn := w.drawn + 1 }) : (Code.region id ops true).wp P Q a w :=
  wp_region_any hm (any_of_anyE _ _ _ _ h)
def ReadyE (P : Program) (md : Region.Mode) (ops : Array Oper) (Q : Exit → Act → World → Prop) (S : World → Prop) (E : List Nat) (n : Nat) (ls : Array Bool) (a : Act) (w : World) (rs : List Nat) : Prop := ∀ i ∈ rs, wpOp P ops Q i (fun b u => (E.contains i = false → S u) ∧ anyE P md ops Q S E n (ls.setIfInBounds i true) b u) a w
theorem ReadyE.nil {n : Nat} {ls : Array Bool} {a : Act} {w : World} : ReadyE P md ops Q S E n ls a w [] := fun _ h => by cases h
theorem ReadyE.cons {n : Nat} {ls : Array Bool} {a : Act} {w : World} {i : Nat} {o : Oper} {rs : List Nat} (ho : ops[i]? = some o) (hw : Region.wanted o (yielded ops a.tmps) = true)
    (h : ∀ K : Act → World → Prop, Shut (∀ b u, (E.contains i = false → S u) → anyE P md ops Q S E n (ls.setIfInBounds i true) b u → K b u) → Oper.wp P o a w K Q) (hs : ReadyE P md ops Q S E n ls a w rs) : ReadyE P md ops Q S E n ls a w (i :: rs) := fun j hj => by
  rcases List.mem_cons.1 hj with rfl | hj
  · exact wpOp_step ho (fun K hK => by rw [if_pos hw]; exact h K (fun b u h1 h2 => hK b u ⟨h1, h2⟩))
  · exact hs j hj
theorem anyE_ready {rs : List Nat} {n : Nat} {ls : Array Bool} {a : Act} {w : World} (hr : Region.ready md ops ls = rs) (hne : rs ≠ []) (h : ReadyE P md ops Q S E n ls a w rs) : anyE P md ops Q S E (n + 1) ls a w := anyE_all hr hne h
theorem anyE_of_any : ∀ (n : Nat) (ls : Array Bool) (a : Act) (w : World), (∀ i, ls.getD i true = false → E.contains i = true) → wpAny P md ops Q n ls a w → anyE P md ops Q S E n ls a w
  | 0, _, _, _, _, h => h
  | n + 1, ls, a, w, hE, h => ⟨h.1, fun i hi => wpOp_mono (fun b u k => ⟨fun hc => (by rw [hE i (mem_ready.1 hi).1] at hc; cases hc), anyE_of_any n _ b u (fun j hj => by
      by_cases e : i = j
      · subst e; exact hE i (mem_ready.1 hi).1
      · rw [getD_set_ne true e] at hj; exact hE j hj) k⟩) (h.2 i hi)⟩
theorem anyE_rest {n : Nat} {ls : Array Bool} {a : Act} {w : World} (hE : ((List.range ls.size).all fun i => ls.getD i true || E.contains i) = true) (h : wpAny P md ops Q n ls a w) : anyE P md ops Q S E n ls a w :=
  anyE_of_any n ls a w (fun i hi => by
    rcases Nat.lt_or_ge i ls.size with hl | hl
    · have := List.all_eq_true.1 hE i (List.mem_range.2 hl)
      rw [hi] at this
      simpa using this
    · simp [Array.getElem?_eq_none hl] at hi) h
end
end Go.Proofs.YtldamieigigncaaGreatDoor.lx

namespace Go.Proofs.YtldamieigigncaaGreatDoor.lx
open Go.ChangeShapes Go.WideShapes Go.ChangeAt Go.RowKit
set_option linter.unusedVariables false
attribute [local go_sem] run_store_float
def EStr : Elem (List UInt8) := fun _ _ x cs => cs = [.string (S x)]
def EInt : Elem Int := fun _ _ x cs => cs = [.int .i64 x]
theorem keepsStr : Keeps EStr := fun _ _ _ _ _ _ h _ _ => h
theorem keepsInt : Keeps EInt := fun _ _ _ _ _ _ h _ _ => h
abbrev StrsAt (w : World) (A : Nat → Prop) (v : Value) (l : List (List UInt8)) : Prop := ListOf 1 EStr w A v l
abbrev IntsAt (w : World) (A : Nat → Prop) (v : Value) (l : List Int) : Prop := ListOf 1 EInt w A v l
theorem StrsAt.cell {w : World} {A : Nat → Prop} {v : Value} {l : List (List UInt8)} (h : StrsAt w A v l) {k : Nat} {x : List UInt8} (hx : l[k]? = some x) : ∃ g cap, v = .slice (some ⟨g, 0, none⟩) l.length cap ∧ g < w.heap.size ∧ w.cell? ⟨g, k, none⟩ = some (.string (S x)) := by
  obtain ⟨_, ao, cap, rfl, h⟩ := h
  obtain ⟨hk, _⟩ := List.getElem?_eq_some_iff.1 hx
  obtain ⟨g, rfl, hg, _, h5⟩ := h (by omega)
  obtain ⟨cs, _, h6, h7⟩ := h5 k x hx
  have h7 : cs = [.string (S x)] := h7
  subst h7
  refine ⟨g, cap, rfl, hg, ?_⟩
  have := h6 0 _ rfl
  rwa [Nat.mul_one, Nat.add_zero] at this
theorem IntsAt.cell {w : World} {A : Nat → Prop} {v : Value} {l : List Int} (h : IntsAt w A v l) {k : Nat} {x : Int} (hx : l[k]? = some x) : ∃ g cap, v = .slice (some ⟨g, 0, none⟩) l.length cap ∧ g < w.heap.size ∧ w.cell? ⟨g, k, none⟩ = some (.int .i64 x) := by
  obtain ⟨_, ao, cap, rfl, h⟩ := h
  obtain ⟨hk, _⟩ := List.getElem?_eq_some_iff.1 hx
  obtain ⟨g, rfl, hg, _, h5⟩ := h (by omega)
  obtain ⟨cs, _, h6, h7⟩ := h5 k x hx
  have h7 : cs = [.int .i64 x] := h7
  subst h7
  refine ⟨g, cap, rfl, hg, ?_⟩
  have := h6 0 _ rfl
  rwa [Nat.mul_one, Nat.add_zero] at this
theorem S_eq (x y : List UInt8) : ((S x).toList == (S y).toList) = decide (x = y) := by
  rw [← list_data, ← list_data]
  show (x == y) = decide (x = y)
  by_cases h : x = y <;> simp [h]
def idxI (l : List (List UInt8)) (x : List UInt8) : Int := if x ∈ l then (l.idxOf x : Int) else -1
theorem idx_at {l : List (List UInt8)} {x : List UInt8} {k : Nat} (hk : l[k]? = some x) (hno : ∀ (j : Nat) (y : List UInt8), j < k → l[j]? = some y → y ≠ x) : idxI l x = k := by
  have hm := List.mem_of_getElem? hk
  obtain ⟨hl, he⟩ := List.getElem?_eq_some_iff.1 hk
  unfold idxI
  rw [if_pos hm]
  have h1 : l.idxOf x ≤ k := by
    rcases Nat.lt_or_ge k (l.idxOf x) with h | h
    · have := List.not_of_lt_findIdx (p := fun y => y == x) (xs := l) h
      simp [he] at this
    · exact h
  have h2 : ¬ l.idxOf x < k := fun h => by
    have hlt := List.idxOf_lt_length_of_mem hm
    exact hno _ _ h (List.getElem?_eq_getElem hlt) (List.getElem_idxOf hlt)
  omega
theorem idx_no {l : List (List UInt8)} {x : List UInt8} (hno : ∀ (j : Nat) (y : List UInt8), l[j]? = some y → y ≠ x) : idxI l x = -1 := by
  unfold idxI
  rw [if_neg]
  intro hm
  obtain ⟨j, hj, he⟩ := List.getElem_of_mem hm
  exact hno j _ (List.getElem?_eq_getElem hj) he
set_option maxRecDepth 100000 in
theorem index_any (w : World) (A : Nat → Prop) (v : Value) (l : List (List UInt8)) (x : List UInt8) (h : StrsAt w A v l) : Calls Tryz.prog 51 #[v, .string (S x)] w fun e w' => e = .returned (.int .i64 (idxI l x)) ∧ w = w' := by
  obtain ⟨ao, cap, rfl⟩ := ListOf.form h
  have hl := h.1
  unfold maxLen at hl
  have H := Lib.hid h
  generalize hn : l.length = n at *
  have HN := Lib.hid hn
  clear h hn
  go_enter Tryz.func51, Tryz.ntmps51
  go_wp2_with fail
  go_loopw [8] (fun i wr => ∃ k : Nat, i = .int .i64 k ∧ k ≤ n ∧ w = wr ∧ ∀ (j : Nat) (y : List UInt8), j < k → l[j]? = some y → y ≠ x) (fun i _ => n - (intOf i).toNat)
  case atStart => exact ⟨0, rfl, Nat.zero_le _, rfl, fun j y h => by omega⟩
  case round =>
    obtain ⟨k, rfl, hk, rfl, hno⟩ := hrel
    have HNO := Lib.hid hno
    clear hno
    by_cases hlt : k < n
    · obtain ⟨y, hy⟩ : ∃ y, l[k]? = some y := ⟨_, List.getElem?_eq_getElem (by rw [HN.out]; exact hlt)⟩
      obtain ⟨g, cap', e, hg, hc⟩ := StrsAt.cell H.out hy
      rw [HN.out] at e
      cases e
      have HY := Lib.hid hy
      have he := S_eq x y
      clear hy
      by_cases hxy : x = y
      · rw [decide_eq_true hxy] at he
        go_wp2_with fail
        go_ret
        refine ⟨?_, rfl⟩
        rw [idx_at (by rw [HY.out, hxy]) HNO.out]
        rfl
      · rw [decide_eq_false hxy] at he
        go_wp2_with fail
        refine ⟨⟨k + 1, by go_num, hlt, by first | exact rfl | trivial, fun j z hj hz => ?_⟩, by simp only [intOf]; omega⟩
        by_cases hjk : j < k
        · exact HNO.out j z hjk hz
        · obtain rfl : j = k := by omega
          have : z = y := Option.some.inj (hz.symm.trans HY.out)
          rw [this]
          exact fun e => hxy e.symm
    · obtain rfl : k = n := by omega
      go_wp2_with fail
      go_ret
      refine ⟨?_, rfl⟩
      rw [idx_no (fun j y hj => HNO.out j y (by have := (List.getElem?_eq_some_iff.1 hj).1; have := HN.out; omega) hj)]
      rfl
theorem idxI_ge (l : List (List UInt8)) (x : List UInt8) : decide ((0 : Int) ≤ idxI l x) = decide (x ∈ l) := by
  unfold idxI
  by_cases h : x ∈ l
  · rw [if_pos h]; simp [h]
  · rw [if_neg h]; simp [h]
set_option maxRecDepth 100000 in
theorem contains_any (w : World) (A : Nat → Prop) (v : Value) (l : List (List UInt8)) (x : List UInt8) (h : StrsAt w A v l) : Calls Tryz.prog 61 #[v, .string (S x)] w fun e w' => e = .returned (.bool (decide (x ∈ l))) ∧ w = w' := by
  have hi := index_any w A v l x h
  have HG := Lib.hid (idxI_ge l x)
  generalize idxI l x = z at *
  obtain ⟨ao, cap, rfl⟩ := ListOf.form h
  clear h
  go_enter Tryz.func61, Tryz.ntmps61
  go_wp2_with fail
  refine hi.mono ?_
  rintro e w' ⟨rfl, rfl⟩
  clear hi
  go_wp2_with fail
  go_ret
  refine ⟨?_, rfl⟩
  rw [← HG.out]
  rfl
def WrongG (n a : Nat) : Value := .iface 58 (.agg #[.int .i64 n, .int .i64 a])
set_option maxRecDepth 100000 in
theorem gfail_any (w : World) (n a : Nat) : Calls Tryz.prog 62 #[.int .i64 n, .int .i64 a] w fun e w' => e = .panicked [{ v := WrongG n a, recovered := false }] ∧ w = w' := by
  go_enter Tryz.func62, Tryz.ntmps62
  go_wp2
  first | exact ⟨rfl, rfl, rfl⟩ | exact ⟨rfl, rfl⟩
end Go.Proofs.YtldamieigigncaaGreatDoor.lx


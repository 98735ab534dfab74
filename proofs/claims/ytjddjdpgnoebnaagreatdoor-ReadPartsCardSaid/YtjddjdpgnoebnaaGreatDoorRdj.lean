import Derived.Test.YtjddjdpgnoebnaaGreatDoorRdi
import Derived.Deep.RegionHeld3
namespace Go.Proofs.YtjddjdpgnoebnaaGreatDoor.lx
open Go.ChangeShapes Go.WideShapes Go.ChangeAt Go.RowKit
set_option linter.unusedVariables false
attribute [local go_sem] run_store_float
/-! what goes up is taken -/
theorem wr_eql (n a : Nat) (w : World) : (binOp BinOp.eql 20 (Wrong n a) .nilIface).run Tryz.prog w = .ok (.bool false) w := by unfold Wrong; kernel_rfl
theorem wr_guard (n a : Nat) (w : World) : (eqGuard BinOp.eql 20 (Operand.tmp 5) (Operand.const Value.nilIface) (Wrong n a) Value.nilIface).run Tryz.prog w = .ok () w := by unfold Wrong; kernel_rfl
theorem wr_assert (n a : Nat) (w : World) : (Instr.typeAssert (Wrong n a) 20 70 true).run Tryz.prog w = .ok (.tuple #[.agg #[.int .i64 n, .int .i64 a], .bool true]) w := by unfold Wrong; kernel_rfl
set_option maxRecDepth 100000 in
theorem catch_idle (x y : Value) (w : World) :
    CallsD Tryz.prog 38 #[x, y] .returning w fun e u' w' => e = .returned (.tuple #[]) ∧ u' = .returning ∧ w = w' := by
  have hq : ∀ w : World, (binOp BinOp.eql 20 .nilIface .nilIface).run Tryz.prog w = .ok (.bool true) w := fun _ => by kernel_rfl
  refine callsD_of_wpS Tryz.func38 rfl fun c₀ cs hu => ?_
  apply wpS_seq
  apply wpS_region
  simp [wpOpsS, go_sem, recoverD, hu, Tryz.ntmps38, Exit.thenS]
  refine wpS_of_wp ?_
  go_wp2
  cases c₀
  simp_all [bodyPostS, results, Tryz.results38]
theorem tm12 (x y f : Value) : (#[x, y] ++ (Array.replicate 10 undef).setIfInBounds 3 f) = #[x, y, undef, undef, undef, f, undef, undef, undef, undef, undef, undef] := rfl
set_option maxRecDepth 100000 in
set_option maxHeartbeats 1000000 in
theorem catch_wrong (n a b0 b1 : Nat) (hne : b0 ≠ b1) (older : List PanicEntry) (w : World) (v0 : Value) (f0 f1 : Value) (h0 : Blk w b0 42 #[v0]) (h1 : Blk w b1 26 #[f0, f1]) :
    CallsD Tryz.prog 38 #[.pointer (some ⟨b0, 0, none⟩), .pointer (some ⟨b1, 0, none⟩)] (.panicking ({ v := Wrong n a, recovered := false } :: older)) w fun e u' w' => e = .returned (.tuple #[]) ∧ u' = .panicking ({ v := Wrong n a, recovered := true } :: older) ∧ Blk w' b0 42 #[.slice none 0 0] ∧ Blk w' b1 26 #[.int .i64 n, .int .i64 a] ∧ Kp (fun i => i = b0 ∨ i = b1) w w' := by
  have e1 := wr_eql n a
  have e2 := wr_assert n a
  have e3 := wr_guard n a
  have x0 := h0.cell 0
  have y0 := h1.cell 0
  have y1 := h1.cell 1
  simp only [List.getElem?_toArray, List.getElem?_cons_zero, List.getElem?_cons_succ] at x0 y0 y1
  have u0 := h0.frozen 0
  have u1 := h1.frozen 0
  have u2 := h1.frozen 1
  have l0 := h0.lt
  have l1 := h1.lt
  refine callsD_of_wpS Tryz.func38 rfl fun c₀ cs hu => ?_
  apply wpS_seq
  apply wpS_region
  generalize Wrong n a = fg at *
  simp [wpOpsS, go_sem, recoverD, hu, Tryz.ntmps38, Exit.thenS]
  refine wpS_of_wp ?_
  rw [tm12]
  go_wp2
  go_region
  all_goals
    go_wp2
    refine ⟨rfl, _, rfl, .tuple #[], results_none rfl _ _ _, rfl, rfl, ?_, ?_, ?_⟩
    · exact (((h0.set_ 0 (.slice none 0 0)).far (p := ⟨b1, 0, none⟩) hne _).far (p := ⟨b1, 1, none⟩) hne _).alloc _
    · exact (((h1.far (p := ⟨b0, 0, none⟩) (Ne.symm hne) (.slice none 0 0)).set_ 0 (.int .i64 n)).set_ 1 (.int .i64 a)).alloc _
    · have k1 : Kp (fun i => i = b0 ∨ i = b1) w (((w.setCell ⟨b0, 0, none⟩ (.slice none 0 0)).setCell ⟨b1, 0, none⟩ (.int .i64 n)).setCell ⟨b1, 1, none⟩ (.int .i64 a)) := Kp.set_ (S := fun i => i = b0 ∨ i = b1) (Kp.set_ (S := fun i => i = b0 ∨ i = b1) (Kp.set_ (S := fun i => i = b0 ∨ i = b1) (Kp.refl _ w) (.inl (.inl rfl)) _) (.inl (.inr rfl)) _) (.inl (.inr rfl)) _
      have k2 := k1.trans (Kp.alloc _ _ (.cells #[.int .i64 n, .int .i64 a] 70))
      exact ⟨k2.os, k2.tape, k2.output, k2.size, k2.block⟩
/-- the answer of Parse -/
def ParseV (B : Nat) (s : List UInt8) (e : Ending) (w : World) : Prop := ∃ v, e = .returned (.tuple #[v, .agg #[.int .i64 (readAll s).2.1, .int .i64 (readAll s).2.2]]) ∧ ListOf 3 EDef w (fun g => B ≤ g) v (readAll s).1
theorem mf (fn : Fn) (first cap : Array Value) (w : World) : (Instr.makeFunc fn first cap).run Tryz.prog w = .ok (.func fn first cap) w := rfl
theorem Kp.below {S : Nat → Prop} {w w' : World} {n : Nat} (k : Kp S w w') (hn : n ≤ w.heap.size) (hS : ∀ i, S i → n ≤ i) : Below n w w' := ⟨k.os, k.tape, k.output, k.size, fun i hi => k.block i (by omega) (fun h => by have := hS i h; omega)⟩
theorem read_bad (s : List UInt8) (h : (lexAll s).2.1 ≠ 0) : readAll s = ([], (lexAll s).2) := if_neg h
theorem read_err (s : List UInt8) (h : (lexAll s).2.1 = 0) (p : Nat × Nat) (h2 : pText (lexAll s).1.length (lexAll s).1 = .error p) : readAll s = ([], p) := by
  unfold readAll
  rw [if_pos h, h2]
theorem read_ok (s : List UInt8) (h : (lexAll s).2.1 = 0) (ds : List Dfn) (h2 : pText (lexAll s).1.length (lexAll s).1 = .ok ds) : readAll s = (ds, 0, 0) := by
  unfold readAll
  rw [if_pos h, h2]
theorem all_len (s : List UInt8) (h : (lexAll s).2.1 = 0) : (lexAll s).1.length ≤ 65537 := by
  unfold lexAll at h ⊢
  by_cases hb : 65536 < s.length
  · rw [if_pos hb] at h
    exact absurd h (by decide)
  · rw [if_neg hb] at h ⊢
    rcases hA : lexA s (nxt s 0) with ⟨x, f⟩
    have hx := (ok_ge s hA).1
    cases f with
    | some f =>
      obtain ⟨e, k⟩ := f
      exact Nat.zero_le _
    | none =>
      show x.length ≤ _
      omega
set_option maxRecDepth 100000 in
set_option maxHeartbeats 4000000 in
theorem parse_any (s : ByteArray) (hs : s.size ≤ maxLen) (w : World) (b off : Nat) (hv : Vs w b off) : Calls Tryz.prog 20 #[.string s] w fun e w' => ParseV w.heap.size s.data.toList e w' ∧ Below w.heap.size w w' := by
  have hmf := mf
  have HV := Lib.hid hv
  have ha := fun w h => all_any s hs w b off h
  have HA := Lib.hid ha
  have b0 := (Blk.new w 42 #[.slice none 0 0]).alloc (.cells #[.int .i64 0, .int .i64 0] 26)
  have b1 := Blk.new (w.alloc (.cells #[.slice none 0 0] 42)) 26 #[.int .i64 0, .int .i64 0]
  have hw0 : Below w.heap.size w ((w.alloc (.cells #[.slice none 0 0] 42)).alloc (.cells #[.int .i64 0, .int .i64 0] 26)) := ((Below.refl _ _).alloc (Nat.le_refl _) _).alloc (by simp) _
  rw [World.size_alloc] at b1
  have HB0 := Lib.hid b0
  have HB1 := Lib.hid b1
  have HW0 := Lib.hid hw0
  obtain ⟨L, hL⟩ : ∃ L, L = lexAll s.data.toList := ⟨_, rfl⟩
  have HL := Lib.hid hL
  clear b0 b1 hw0 ha hv hL
  by_cases he : L.2.1 = 0
  · have HE : Hid ((lexAll s.data.toList).2.1 = 0) := Lib.hid (by rw [← HL.out]; exact he)
    have hgd := all_good _ HE.out
    have hlen := all_len _ HE.out
    rw [← HL.out] at hgd hlen
    have HRE := Lib.hid (read_err _ HE.out)
    have HRO := Lib.hid (read_ok _ HE.out)
    rw [← HL.out] at HRE HRO
    have hAV : ∀ w' : World, AllV w'.heap.size s.data.toList = fun e w'' => ∃ v, e = .returned (.tuple #[v, .agg #[.int .i64 0, .int .i64 0]]) ∧ w''.ownsRow w'.heap.size 36 4 v L.1.length (tcells L.1) := fun w' => by
      unfold AllV
      rw [← HL.out, he, hgd.2]
      rfl
    have HAV := Lib.hid hAV
    obtain ⟨ts, hts⟩ : ∃ ts, ts = L.1 := ⟨_, rfl⟩
    rw [← hts] at HRE HRO HAV hlen
    have HG : Hid (Good ts) := Lib.hid (by rw [hts]; exact hgd.1)
    have hpos := HG.out.pos
    clear he hgd hts hAV HL HE
    go_enter_defers Tryz.func20, Tryz.ntmps20
    go_wp2_with fail
    refine (HA.out _ (HV.out.below HW0.out)).mono ?_
    rintro e w1 ⟨hall, hb1⟩
    rw [HAV.out] at hall
    obtain ⟨v, rfl, ho⟩ := hall
    obtain ⟨_, ⟨_, h0⟩ | ⟨g, c, cur, rfl, hB, hh, hn, hc, _⟩⟩ := id ho
    · omega
    have hg := lt_heap hh
    have hcs := ho.cells (show (Value.slice (some ⟨g, 0, none⟩) ts.length c).ownBlock = some g from rfl)
    have hsz0 : ((w.alloc (.cells #[.slice none 0 0] 42)).alloc (.cells #[.int .i64 0, .int .i64 0] 26)).heap.size = w.heap.size + 2 := by simp
    rw [hsz0] at hB
    have hz1 : w.heap.size + 2 ≤ w1.heap.size := by have := hb1.size; rw [hsz0] at this; omega
    have b0 := HB0.out.below hb1 (by simp; omega)
    have b1 := HB1.out.below hb1 (by simp)
    have x0 := b0.cell 0
    have y0 := b1.cell 0
    have y1 := b1.cell 1
    simp only [List.getElem?_toArray, List.getElem?_cons_zero, List.getElem?_cons_succ] at x0 y0 y1
    have u0 := b0.frozen 0
    have u1 := b1.frozen 0
    have u2 := b1.frozen 1
    have l0 := b0.lt
    have l1 := b1.lt
    have HB1w := Lib.hid (HW0.out.trans (hb1.mono (by simp; omega)))
    have HC := Lib.hid hcs
    clear ho hb1 hh hcs hsz0
    go_wp2_with fail
    have b0 := (b0.far (p := ⟨w.heap.size + 1, 0, none⟩) (by show w.heap.size ≠ w.heap.size + 1; omega) (.int .i64 0)).far (p := ⟨w.heap.size + 1, 1, none⟩) (by show w.heap.size ≠ w.heap.size + 1; omega) (.int .i64 0)
    have b1 := (b1.set_ 0 (.int .i64 0)).set_ 1 (.int .i64 0)
    have hk2 : Kp (fun i => i = w.heap.size + 1) w1 ((w1.setCell ⟨w.heap.size + 1, 0, none⟩ (.int .i64 0)).setCell ⟨w.heap.size + 1, 1, none⟩ (.int .i64 0)) := (kp_at _ _ _ _).trans (kp_at _ _ _ _)
    have hz2 : ((w1.setCell ⟨w.heap.size + 1, 0, none⟩ (.int .i64 0)).setCell ⟨w.heap.size + 1, 1, none⟩ (.int .i64 0)).heap.size = w1.heap.size := by simp
    have hC2 : ∀ j u, (tcells ts)[j]? = some u → ((w1.setCell ⟨w.heap.size + 1, 0, none⟩ (.int .i64 0)).setCell ⟨w.heap.size + 1, 1, none⟩ (.int .i64 0)).cell? ⟨g, j, none⟩ = some u := fun j u hj => hk2.cell (by have := HC.out j u hj; rwa [add0] at this) (by show ¬ g = w.heap.size + 1; omega)
    have hbw := HB1w.out.trans (hk2.below (n := w.heap.size) (by omega) (fun i hi => by omega))
    generalize (w1.setCell ⟨w.heap.size + 1, 0, none⟩ (.int .i64 0)).setCell ⟨w.heap.size + 1, 1, none⟩ (.int .i64 0) = w2 at *
    rw [← hz2] at hz1 hg ⊢
    clear hk2 x0 y0 y1 u0 u1 u2 l0 l1 hz2
    have bp := Blk.new w2 72 #[.slice (some ⟨g, 0, none⟩) ts.length c, .int .i64 0]
    have hsz : (w2.alloc (.cells #[.slice (some ⟨g, 0, none⟩) ts.length c, .int .i64 0] 72)).heap.size = w2.heap.size + 1 := World.size_alloc _ _
    have hpat : PAt (w2.alloc (.cells #[.slice (some ⟨g, 0, none⟩) ts.length c, .int .i64 0] 72)) w2.heap.size ts 0 := ⟨g, 0, c, bp, hn, hc, hg, by rw [hsz]; omega, fun j u hj => by
      rw [Nat.zero_add]
      exact (World.cell?_alloc_lt w2 _ ⟨g, j, none⟩ hg).trans (hC2 j u hj)⟩
    have b0 := b0.alloc (.cells #[.slice (some ⟨g, 0, none⟩) ts.length c, .int .i64 0] 72)
    have b1 := b1.alloc (.cells #[.slice (some ⟨g, 0, none⟩) ts.length c, .int .i64 0] 72)
    have hbw3 := hbw.alloc (by omega) (.cells #[.slice (some ⟨g, 0, none⟩) ts.length c, .int .i64 0] 72)
    generalize w2.alloc (.cells #[.slice (some ⟨g, 0, none⟩) ts.length c, .int .i64 0] 72) = w3 at *
    clear hbw hC2 bp
    refine (text_any w3 w2.heap.size ts hpat HG.out (by omega)).mono ?_
    rintro e w4 ⟨hk4, h4⟩
    have b0 := b0.kept hk4 (by show ¬ w.heap.size = w2.heap.size; omega)
    have b1 := b1.kept hk4 (by show ¬ w.heap.size + 1 = w2.heap.size; omega)
    have hz4 := hk4.size
    have hbw4 := hbw3.trans (hk4.below (n := w.heap.size) (by omega) (fun i hi => by omega))
    clear hbw3 hk4 hpat
    cases hx : pText ts.length ts with
    | error p =>
      rw [hx] at h4
      obtain rfl : e = _ := h4
      have HR := Lib.hid (HRE.out p hx)
      clear hx HRE HRO
      go_wp2_with fail
      refine leaves_cons (f := 38) (args := #[.pointer (some ⟨w.heap.size, 0, none⟩), .pointer (some ⟨w.heap.size + 1, 0, none⟩)]) (by simp) (by simp [go_sem]) ?_
      refine (catch_wrong p.1 p.2 w.heap.size (w.heap.size + 1) (by omega) [] w4 _ _ _ b0 b1).mono ?_
      rintro e u' w5 ⟨rfl, rfl, c0, c1, hk5⟩
      have z0 := c0.cell 0
      have z1 := c1.cell 0
      have z2 := c1.cell 1
      simp only [List.getElem?_toArray, List.getElem?_cons_zero, List.getElem?_cons_succ] at z0 z1 z2
      have l0 := c0.lt
      have l1 := c1.lt
      have hbf := hbw4.trans (hk5.below (n := w.heap.size) (by omega) (fun i hi => by omega))
      have HF : Hid (∀ w', ParseV w.heap.size s.data.toList (.returned (.tuple #[.slice none 0 0, .agg #[.int .i64 p.1, .int .i64 p.2]])) w') := Lib.hid fun w' => by
        unfold ParseV
        rw [HR.out]
        exact ⟨_, rfl, ListOf.nil _ _⟩
      simp [Leaves, settle, results, Tryz.results20, go_sem, z0, z1, z2]
      exact ⟨HF.out _, hbf⟩
    | ok ds =>
      rw [hx] at h4
      obtain ⟨v, rfl, hv⟩ := h4
      obtain ⟨ao, cc, rfl⟩ := hv.form
      have HR := Lib.hid (HRO.out ds hx)
      have HVV := Lib.hid hv
      have x0 := b0.cell 0
      have y0 := b1.cell 0
      have y1 := b1.cell 1
      simp only [List.setIfInBounds_toArray, List.set_cons_zero, List.set_cons_succ, List.getElem?_toArray, List.getElem?_cons_zero, List.getElem?_cons_succ] at x0 y0 y1
      have u0 := b0.frozen 0
      have u1 := b1.frozen 0
      have u2 := b1.frozen 1
      have l0 := b0.lt
      have l1 := b1.lt
      have HC0 := Lib.hid b0
      have HC1 := Lib.hid b1
      have HBW := Lib.hid hbw4
      clear hx HRE HRO hv b0 b1 hbw4
      go_wp2_with fail
      have c0 : Blk (((w4.setCell ⟨w.heap.size, 0, none⟩ (.slice ao ds.length cc)).setCell ⟨w.heap.size + 1, 0, none⟩ (.int .i64 0)).setCell ⟨w.heap.size + 1, 1, none⟩ (.int .i64 0)) w.heap.size 42 #[.slice ao ds.length cc] := ((HC0.out.set_ 0 (.slice ao ds.length cc)).far (p := ⟨w.heap.size + 1, 0, none⟩) (by show w.heap.size ≠ w.heap.size + 1; omega) _).far (p := ⟨w.heap.size + 1, 1, none⟩) (by show w.heap.size ≠ w.heap.size + 1; omega) _
      have c1 : Blk (((w4.setCell ⟨w.heap.size, 0, none⟩ (.slice ao ds.length cc)).setCell ⟨w.heap.size + 1, 0, none⟩ (.int .i64 0)).setCell ⟨w.heap.size + 1, 1, none⟩ (.int .i64 0)) (w.heap.size + 1) 26 #[.int .i64 0, .int .i64 0] := ((HC1.out.far (p := ⟨w.heap.size, 0, none⟩) (by show w.heap.size + 1 ≠ w.heap.size; omega) (.slice ao ds.length cc)).set_ 0 (.int .i64 0)).set_ 1 (.int .i64 0)
      have k1 : Kp (fun i => i = w.heap.size ∨ i = w.heap.size + 1) w4 (((w4.setCell ⟨w.heap.size, 0, none⟩ (.slice ao ds.length cc)).setCell ⟨w.heap.size + 1, 0, none⟩ (.int .i64 0)).setCell ⟨w.heap.size + 1, 1, none⟩ (.int .i64 0)) := Kp.set_ (S := fun i => i = w.heap.size ∨ i = w.heap.size + 1) (Kp.set_ (S := fun i => i = w.heap.size ∨ i = w.heap.size + 1) (Kp.set_ (S := fun i => i = w.heap.size ∨ i = w.heap.size + 1) (Kp.refl _ w4) (.inl (.inl rfl)) _) (.inl (.inr rfl)) _) (.inl (.inr rfl)) _
      have hbf := HBW.out.trans (k1.below (n := w.heap.size) (by omega) (fun i hi => by omega))
      have hvf := HVV.out.keep keepsDef (A' := fun g => w.heap.size ≤ g) (fun g hg hA => ⟨by omega, k1.block g hg (by omega)⟩) k1.size
      generalize ((w4.setCell ⟨w.heap.size, 0, none⟩ (.slice ao ds.length cc)).setCell ⟨w.heap.size + 1, 0, none⟩ (.int .i64 0)).setCell ⟨w.heap.size + 1, 1, none⟩ (.int .i64 0) = w5 at *
      refine leaves_cons (f := 38) (args := #[.pointer (some ⟨w.heap.size, 0, none⟩), .pointer (some ⟨w.heap.size + 1, 0, none⟩)]) (by simp) (by simp [go_sem]) ?_
      refine (catch_idle _ _ _).mono ?_
      rintro e u' w6 ⟨rfl, rfl, rfl⟩
      have z0 := c0.cell 0
      have z1 := c1.cell 0
      have z2 := c1.cell 1
      simp only [List.getElem?_toArray, List.getElem?_cons_zero, List.getElem?_cons_succ] at z0 z1 z2
      have l0 := c0.lt
      have l1 := c1.lt
      have HF : Hid (ParseV w.heap.size s.data.toList (.returned (.tuple #[.slice ao ds.length cc, .agg #[.int .i64 0, .int .i64 0]])) w5) := Lib.hid (by
        unfold ParseV
        rw [HR.out]
        exact ⟨_, rfl, hvf⟩)
      simp [Leaves, settle, results, Tryz.results20, go_sem, z0, z1, z2]
      exact ⟨HF.out, hbf⟩
  · have HR := Lib.hid (read_bad _ (by rw [← HL.out]; exact he))
    have he' : ((L.2.1 : Int) != 0) = true := by rw [bne_iff_ne]; omega
    go_enter_defers Tryz.func20, Tryz.ntmps20
    go_wp2_with fail
    refine (HA.out _ (HV.out.below HW0.out)).mono ?_
    rintro e w1 ⟨⟨v, rfl, ho⟩, hb1⟩
    rw [← HL.out] at ho
    rw [← HL.out]
    obtain ⟨ao, c, rfl⟩ := own_form ho
    have hz1 : w.heap.size + 2 ≤ w1.heap.size := by have := hb1.size; simp at this; omega
    have b0 := HB0.out.below hb1 (by simp; omega)
    have b1 := HB1.out.below hb1 (by simp)
    have x0 := b0.cell 0
    have y0 := b1.cell 0
    have y1 := b1.cell 1
    simp only [List.getElem?_toArray, List.getElem?_cons_zero, List.getElem?_cons_succ] at x0 y0 y1
    have u0 := b0.frozen 0
    have u1 := b1.frozen 0
    have u2 := b1.frozen 1
    have l0 := b0.lt
    have l1 := b1.lt
    have HB1w := Lib.hid (HW0.out.trans (hb1.mono (by simp; omega)))
    clear ho hb1 he
    go_wp2_with fail
    have b0 := (b0.far (p := ⟨w.heap.size + 1, 0, none⟩) (by show w.heap.size ≠ w.heap.size + 1; omega) (.int .i64 L.2.1)).far (p := ⟨w.heap.size + 1, 1, none⟩) (by show w.heap.size ≠ w.heap.size + 1; omega) (.int .i64 L.2.2)
    have b1 := (b1.set_ 0 (.int .i64 L.2.1)).set_ 1 (.int .i64 L.2.2)
    have hk2 : Kp (fun i => i = w.heap.size + 1) w1 ((w1.setCell ⟨w.heap.size + 1, 0, none⟩ (.int .i64 L.2.1)).setCell ⟨w.heap.size + 1, 1, none⟩ (.int .i64 L.2.2)) := (kp_at _ _ _ _).trans (kp_at _ _ _ _)
    have hbw := HB1w.out.trans (hk2.below (n := w.heap.size) (by omega) (fun i hi => by omega))
    generalize (w1.setCell ⟨w.heap.size + 1, 0, none⟩ (.int .i64 L.2.1)).setCell ⟨w.heap.size + 1, 1, none⟩ (.int .i64 L.2.2) = w2 at *
    clear x0 y0 y1 u0 u1 u2 l0 l1 hk2
    have x0 := b0.cell 0
    have y0 := b1.cell 0
    have y1 := b1.cell 1
    simp only [List.setIfInBounds_toArray, List.set_cons_zero, List.set_cons_succ, List.getElem?_toArray, List.getElem?_cons_zero, List.getElem?_cons_succ] at x0 y0 y1
    have u0 := b0.frozen 0
    have u1 := b1.frozen 0
    have u2 := b1.frozen 1
    have l0 := b0.lt
    have l1 := b1.lt
    have HBW := Lib.hid hbw
    have HC0 := Lib.hid b0
    have HC1 := Lib.hid b1
    clear hbw b0 b1
    go_region
    all_goals
      go_wp2
      have c0 : Blk ((((w2.setCell ⟨w.heap.size, 0, none⟩ (.slice none 0 0)).setCell ⟨w.heap.size + 1, 0, none⟩ (.int .i64 L.2.1)).setCell ⟨w.heap.size + 1, 1, none⟩ (.int .i64 L.2.2)).drew) w.heap.size 42 #[.slice none 0 0] := ((HC0.out.set_ 0 (.slice none 0 0)).far (p := ⟨w.heap.size + 1, 0, none⟩) (by show w.heap.size ≠ w.heap.size + 1; omega) _).far (p := ⟨w.heap.size + 1, 1, none⟩) (by show w.heap.size ≠ w.heap.size + 1; omega) _
      have c1 : Blk ((((w2.setCell ⟨w.heap.size, 0, none⟩ (.slice none 0 0)).setCell ⟨w.heap.size + 1, 0, none⟩ (.int .i64 L.2.1)).setCell ⟨w.heap.size + 1, 1, none⟩ (.int .i64 L.2.2)).drew) (w.heap.size + 1) 26 #[.int .i64 L.2.1, .int .i64 L.2.2] := ((HC1.out.far (p := ⟨w.heap.size, 0, none⟩) (by show w.heap.size + 1 ≠ w.heap.size; omega) (.slice none 0 0)).set_ 0 (.int .i64 L.2.1)).set_ 1 (.int .i64 L.2.2)
      have k1 : Kp (fun i => i = w.heap.size ∨ i = w.heap.size + 1) w2 ((((w2.setCell ⟨w.heap.size, 0, none⟩ (.slice none 0 0)).setCell ⟨w.heap.size + 1, 0, none⟩ (.int .i64 L.2.1)).setCell ⟨w.heap.size + 1, 1, none⟩ (.int .i64 L.2.2))) := Kp.set_ (S := fun i => i = w.heap.size ∨ i = w.heap.size + 1) (Kp.set_ (S := fun i => i = w.heap.size ∨ i = w.heap.size + 1) (Kp.set_ (S := fun i => i = w.heap.size ∨ i = w.heap.size + 1) (Kp.refl _ w2) (.inl (.inl rfl)) _) (.inl (.inr rfl)) _) (.inl (.inr rfl)) _
      have k2 : Kp (fun i => i = w.heap.size ∨ i = w.heap.size + 1) w2 ((((w2.setCell ⟨w.heap.size, 0, none⟩ (.slice none 0 0)).setCell ⟨w.heap.size + 1, 0, none⟩ (.int .i64 L.2.1)).setCell ⟨w.heap.size + 1, 1, none⟩ (.int .i64 L.2.2)).drew) := ⟨k1.os, k1.tape, k1.output, k1.size, k1.block⟩
      have hbf := HBW.out.trans (k2.below (n := w.heap.size) (by omega) (fun i hi => by omega))
      generalize (((w2.setCell ⟨w.heap.size, 0, none⟩ (.slice none 0 0)).setCell ⟨w.heap.size + 1, 0, none⟩ (.int .i64 L.2.1)).setCell ⟨w.heap.size + 1, 1, none⟩ (.int .i64 L.2.2)).drew = w3 at *
      have z0 := c0.cell 0
      have z1 := c1.cell 0
      have z2 := c1.cell 1
      simp only [List.getElem?_toArray, List.getElem?_cons_zero, List.getElem?_cons_succ] at z0 z1 z2
      have l0 := c0.lt
      have l1 := c1.lt
      have HF : Hid (∀ w', ParseV w.heap.size s.data.toList (.returned (.tuple #[.slice none 0 0, .agg #[.int .i64 L.2.1, .int .i64 L.2.2]])) w') := Lib.hid fun w' => by
        unfold ParseV
        rw [HR.out, ← HL.out]
        exact ⟨_, rfl, ListOf.nil _ _⟩
      clear c0 c1 k1 k2
      simp [bodyPostD, Leaves, results, Tryz.results20, go_sem, z0, z1, z2]
      exact ⟨HF.out _, hbf⟩
end Go.Proofs.YtjddjdpgnoebnaaGreatDoor.lx

import Derived.Test.YtldamieigigncaaGreatDoorVcba
import Derived.Test.YtldamieigigncaaGreatDoorVcav
namespace Go.Proofs.YtldamieigigncaaGreatDoor.lx
open Go.ChangeShapes Go.WideShapes Go.ChangeAt Go.RowKit Go.Shelf Go.Lib Go.Proofs.YtldamieigigncaaGreatDoor.ky
set_option linter.unusedVariables false
set_option linter.unusedSimpArgs false
attribute [local go_sem] run_store_float
def TxtTell (w : World) (F : Nat) (tx : List UInt8) : Prop := ∀ W, Below w.heap.size w W → Calls Tryz.prog 84 #[.float .f64 F] W fun e W' => e = .returned (.string (S tx)) ∧ Below W.heap.size W W'
theorem TxtTell.below {w w' : World} {F : Nat} {tx : List UInt8} (h : TxtTell w F tx) (hb : Below w.heap.size w w') : TxtTell w' F tx := fun W hW => h W (hb.trans (hW.mono hb.size))
def wtL (F : Nat) (tx : List UInt8) : List UInt8 := if keyN F = keyN 0 then [] else 32 :: 37 :: tx
def ruleL (g : Gra) (xs : List Int) : List UInt8 := xs.flatMap fun s => 32 :: nameL g s
theorem ruleL_snoc (g : Gra) {xs : List Int} {k : Nat} {s : Int} (h : xs[k]? = some s) : ruleL g (xs.take (k + 1)) = ruleL g (xs.take k) ++ 32 :: nameL g s := by
  have e : xs.take (k + 1) = xs.take k ++ [s] := by rw [List.take_add_one, h]; rfl
  unfold ruleL
  rw [e, List.flatMap_append]
  simp
theorem getD_len {l : List (List UInt8)} {m : Nat} (h : ∀ x ∈ l, x.length ≤ m) (k : Nat) : (l.getD k []).length ≤ m := by
  rw [List.getD_eq_getElem?_getD]
  cases e : l[k]? with
  | none => simp
  | some x => exact h x (List.mem_of_getElem? e)
theorem nameL_len {g : Gra} {m : Nat} (hV : ∀ x ∈ g.vars, x.length ≤ m) (hT : ∀ x ∈ g.terms, x.length ≤ m) (s : Int) : (nameL g s).length ≤ m + 2 := by
  unfold nameL
  split
  · have := getD_len hV s.toNat; omega
  · have := getD_len hT (-s - 1).toNat
    rw [List.length_cons, List.length_append, List.length_singleton]
    omega
theorem ruleL_len {g : Gra} (hV : ∀ x ∈ g.vars, x.length ≤ 1000) (hT : ∀ x ∈ g.terms, x.length ≤ 1000) : ∀ (xs : List Int), (ruleL g xs).length ≤ 1003 * xs.length
  | [] => Nat.le_refl _
  | s :: xs => by
    have ih := ruleL_len hV hT xs
    have h := nameL_len hV hT s
    unfold ruleL at *
    rw [List.flatMap_cons, List.length_append, List.length_cons, List.length_cons]
    omega
theorem S_sp (x : List UInt8) : ByteArray.mk #[32] ++ S x = S (32 :: x) := by
  have e : ByteArray.mk #[32] = S [32] := rfl
  rw [e, S_app_]
  rfl
theorem S_pct (x : List UInt8) : ByteArray.mk #[32, 37] ++ S x = S (32 :: 37 :: x) := by
  have e : ByteArray.mk #[32, 37] = S [32, 37] := rfl
  rw [e, S_app_]
  rfl
theorem writeL_any (B b : Nat) (l x : List UInt8) (w : World) (h : Bld B b l w) (hl : l.length + x.length ≤ 140737488355328) (hB : B ≤ w.heap.size) :
    Calls Tryz.prog 52 #[.pointer (some ⟨b, 0, none⟩), .string (S x)] w fun e w' => e = .returned (.tuple #[.int .i64 x.length, .nilIface]) ∧ Bld B b (l ++ x) w' ∧ Below B w w' ∧ Lib.OthersKept 5 (some b) w w' := write_any B b l (S x) w h hl hB
theorem keepB {α : Type} {c B : Nat} {E : Elem α} (hE : Keeps E) {v : Value} {ys : List α} {w1 w2 : World} (h : ListOf c E w1 (fun k => k < B) v ys) (hbw : Below B w1 w2) : ListOf c E w2 (fun k => k < B) v ys := h.keep hE (fun q hq hA => ⟨hA, hbw.block q hA⟩) hbw.size
set_option maxHeartbeats 4000000 in
set_option maxRecDepth 100000 in
theorem printRule_any (w : World) (B b : Nat) (tbo vo ro : Option Addr) (tc vc rn rc L F : Nat) (g : Gra) (xs : List Int) (ao : Option Addr) (cp : Nat) (l tx : List UInt8) (hV : StrsAt w (fun k => k < B) (.slice vo g.vars.length vc) g.vars) (hT : StrsAt w (fun k => k < B) (.slice tbo g.terms.length tc) g.terms) (hB : B ≤ w.heap.size) (hx : IntsAt w (fun k => k < B) (.slice ao xs.length cp) xs) (hxl : xs.length ≤ 100) (hin : ∀ s ∈ xs, In64x s ∧ symOk g.vars.length g.terms.length s = true) (hV1 : ∀ x ∈ g.vars, x.length ≤ 1000) (hT1 : ∀ x ∈ g.terms, x.length ≤ 1000) (hb : Bld B b l w) (hl : l.length ≤ 1000000000000) (hF : F < 18446744073709551616) (htx : TxtTell w F tx) (htl : tx.length ≤ 1000) :
    Calls Tryz.prog 53 #[.pointer (some ⟨b, 0, none⟩), .agg #[.slice tbo g.terms.length tc, .slice vo g.vars.length vc, .slice ro rn rc], .agg #[.int .i64 L, .slice ao xs.length cp, .float .f64 F]] w fun e w' => e = .returned (.tuple #[]) ∧ Bld B b (l ++ (wtL F tx ++ ruleL g xs)) w' ∧ Below B w w' ∧ Lib.OthersKept 5 (some b) w w' := by
  have b0 := (Blk.new w 26 #[.slice tbo g.terms.length tc, .slice vo g.vars.length vc, .slice ro rn rc]).alloc (.cells #[.int .i64 L, .slice ao xs.length cp, .float .f64 F] 41)
  have b1 := Blk.new (w.alloc (.cells #[.slice tbo g.terms.length tc, .slice vo g.vars.length vc, .slice ro rn rc] 26)) 41 #[.int .i64 L, .slice ao xs.length cp, .float .f64 F]
  rw [World.size_alloc] at b1
  have hbl : Below w.heap.size w ((w.alloc (.cells #[.slice tbo g.terms.length tc, .slice vo g.vars.length vc, .slice ro rn rc] 26)).alloc (.cells #[.int .i64 L, .slice ao xs.length cp, .float .f64 F] 41)) := ((Below.refl _ w).alloc (Nat.le_refl _) _).alloc (by rw [World.size_alloc]; omega) _
  have hbb := hb.lt
  have hb2 := hb.keep hbl
  have ho2 := others_keep (b := b) hbl
  have hV2 := keepB keepsStr hV (hbl.mono hB)
  have hT2 := keepB keepsStr hT (hbl.mono hB)
  have hX2 := keepB keepsInt hx (hbl.mono hB)
  have htx2 := htx.below hbl
  have hz : ((w.alloc (.cells #[.slice tbo g.terms.length tc, .slice vo g.vars.length vc, .slice ro rn rc] 26)).alloc (.cells #[.int .i64 L, .slice ao xs.length cp, .float .f64 F] 41)).heap.size = w.heap.size + 1 + 1 := by simp
  generalize hW2 : (w.alloc (.cells #[.slice tbo g.terms.length tc, .slice vo g.vars.length vc, .slice ro rn rc] 26)).alloc (.cells #[.int .i64 L, .slice ao xs.length cp, .float .f64 F] 41) = w2 at *
  have HV := Lib.hid hV2
  have HT := Lib.hid hT2
  have HX := Lib.hid hX2
  have HIN := Lib.hid hin
  have HV1 := Lib.hid hV1
  have HT1 := Lib.hid hT1
  have HB0 := Lib.hid b0
  have HB1 := Lib.hid b1
  have HBL := Lib.hid (hbl.mono hB)
  have HO2 := Lib.hid ho2
  have HBD := Lib.hid hb2
  have HZ := Lib.hid hz
  have HXL := Lib.hid hxl
  have HL := Lib.hid hl
  have hsm := ky.same_any F 0 w2 hF (by decide)
  have e1 := b1.cell 1
  have e2 := b1.cell 2
  have l2 := b1.lt
  simp only [List.getElem?_toArray, List.getElem?_cons_zero, List.getElem?_cons_succ] at e1 e2
  have hx63 : xs.length ≤ 9223372036854775807 := by omega
  obtain ⟨l0, hl0⟩ : ∃ l0, l0 = l ++ wtL F tx := ⟨_, rfl⟩
  have hl0l : l0.length ≤ 1000000001002 := by
    rw [hl0, List.length_append]
    unfold wtL
    split
    · simp; omega
    · simp only [List.length_cons]; omega
  have HL0 := Lib.hid hl0
  have HL0L := Lib.hid hl0l
  have hwr := fun w1 (hbd : Bld B b l w1) (hBw : B ≤ w1.heap.size) => writeL_any B b l (32 :: 37 :: tx) w1 hbd (by simp only [List.length_cons]; omega) hBw
  have HWR := Lib.hid hwr
  have HTX := Lib.hid htx2
  have hsz : (ByteArray.mk #[32, 37]).size = 2 := rfl
  have hszt : (S tx).size = tx.length := rfl
  have hpct := S_pct tx
  clear hV hT hx hin b0 b1 hbl hb hb2 ho2 hV2 hT2 hX2 hz hxl hl htx htx2 hl0 hl0l hwr hV1 hT1
  go_enter Tryz.func53, Tryz.ntmps53
  -- behind the weight
  have tail : ∀ w3, Bld B b l0 w3 → Below B w2 w3 → Lib.OthersKept 5 (some b) w2 w3 → True := fun _ _ _ _ => trivial
  clear tail
  by_cases h0 : keyN F = keyN 0
  · rw [decide_eq_true h0] at hsm
    have HLL : Hid (l0 = l) := Lib.hid (by rw [HL0.out]; unfold wtL; rw [if_pos h0, List.append_nil])
    have HBD0 : Hid (Bld B b l0 w2) := Lib.hid (by rw [HLL.out]; exact HBD.out)
    clear h0 hpct hszt hsz
    go_wp2_with fail
    refine hsm.mono ?_
    rintro e w3 ⟨rfl, rfl⟩
    clear hsm
    go_wp2_with fail
    clear e1 e2 l2
    go_loopw [21] (fun q wr => ∃ k : Nat, k ≤ xs.length ∧ q = .int .i64 k ∧ Bld B b (l0 ++ ruleL g (xs.take k)) wr ∧ Below B w2 wr ∧ Lib.OthersKept 5 (some b) w2 wr) (fun q _ => xs.length - (intOf q).toNat)
    case atStart => exact ⟨0, Nat.zero_le _, rfl, by simpa [ruleL] using HBD0.out, Below.refl _ _, Lib.OthersKept.refl _ _ _⟩
    case round =>
      obtain ⟨k, hk, rfl, hbd, hbr, hor⟩ := hrel
      have HBR := Lib.hid hbr
      have HOR := Lib.hid hor
      have HBK := Lib.hid hbd
      clear hbd hbr hor
      by_cases hlt : k < xs.length
      · obtain ⟨s, hs⟩ : ∃ s, xs[k]? = some s := ⟨_, List.getElem?_eq_getElem hlt⟩
        obtain ⟨gb, cap', e, hg, hc⟩ := IntsAt.cell HX.out hs
        injection e with e3 j1 j2
        subst e3
        clear j1 j2
        have hgB : gb < B := by
          obtain ⟨_, ao', cap', e, h5⟩ := HX.out
          injection e with e4 j1 j2
          obtain ⟨g', e5, _, hA, _⟩ := h5 (by omega)
          rw [← e4] at e5
          injection e5 with e5
          injection e5 with e5
          rw [e5]; exact hA
        have hca2 : wr.cell? ⟨gb, k, none⟩ = some (.int .i64 s) := (HBR.out.cell (p := ⟨gb, k, none⟩) hgB).trans hc
        have hsn := ruleL_snoc g hs
        obtain ⟨hi64, hsy⟩ := HIN.out _ (List.mem_of_getElem? hs)
        have hlen := ruleL_len HV1.out HT1.out (xs.take k)
        rw [List.length_take] at hlen
        have HSN := Lib.hid hsn
        have HLEN := Lib.hid hlen
        have g0 := others_blk HOR.out HB0.out (by omega) (by decide)
        have q0 := g0.cell 0
        have q1 := g0.cell 1
        have q2 := g0.cell 2
        have lq := g0.lt
        have lgb : gb < wr.heap.size := Nat.lt_of_lt_of_le hg HBR.out.size
        simp only [List.getElem?_toArray, List.getElem?_cons_zero, List.getElem?_cons_succ] at q0 q1 q2
        have hzr : B ≤ wr.heap.size := by have := HBR.out.size; have := HZ.out; omega
        have hnm := gname_any wr (fun k => k < B) tbo vo ro tc vc rn rc g s (keepB keepsStr HV.out HBR.out) (keepB keepsStr HT.out HBR.out) hi64 hsy (fun x hx => by have := HT1.out x hx; omega)
        have hns := nameL_len HV1.out HT1.out s
        have HZR := Lib.hid hzr
        obtain ⟨nm, hnme⟩ : ∃ nm, nm = nameL g s := ⟨_, rfl⟩
        rw [← hnme] at hnm hns
        have HNM := Lib.hid hnme
        have hsp := S_sp nm
        have hs1 : (ByteArray.mk #[32]).size = 1 := rfl
        have hs2 : (S nm).size = nm.length := rfl
        clear hsn hc hg hgB hsy g0 hlen hs hnme hzr hi64
        go_wp2_with fail
        refine hnm.mono ?_
        rintro e w4 ⟨rfl, hb4⟩
        have hw4 := writeL_any B b (l0 ++ ruleL g (xs.take k)) (32 :: nm) w4 (HBK.out.keep hb4) (by
          have := HLEN.out; have := HXL.out; have := HL0L.out
          rw [List.length_append, List.length_cons]
          omega) (by have := hb4.size; have := HZR.out; omega)
        rw [← hsp] at hw4
        have HB4 := Lib.hid hb4
        clear hb4 hnm q0 q1 q2 hca2 lq lgb
        go_wp2_with fail
        refine hw4.mono ?_
        rintro e w5 ⟨rfl, hbd5, hb5, ho5⟩
        have HBD5 := Lib.hid hbd5
        have HB5 := Lib.hid hb5
        have HO5 := Lib.hid ho5
        clear hbd5 hb5 ho5 hw4 hsp hs1 hs2
        go_wp2_with fail
        refine ⟨⟨k + 1, hlt, congrArg (Value.int .i64) (by omega), ?_, (HBR.out.trans (HB4.out.mono HZR.out)).trans HB5.out, (HOR.out.trans (others_keep HB4.out)).trans HO5.out⟩, by simp only [intOf]; omega⟩
        have := HBD5.out
        rw [HSN.out, ← HNM.out, ← List.append_assoc]
        exact this
      · obtain rfl : k = xs.length := by omega
        go_wp2_with fail
        go_end0
        have := HBK.out
        rw [List.take_length, HL0.out, List.append_assoc] at this
        exact ⟨rfl, this, HBL.out.trans HBR.out, HO2.out.trans HOR.out⟩
  · rw [decide_eq_false h0] at hsm
    have HLL : Hid (l0 = l ++ 32 :: 37 :: tx) := Lib.hid (by rw [HL0.out]; unfold wtL; rw [if_neg h0])
    clear h0
    go_wp2_with fail
    refine hsm.mono ?_
    rintro e w3 ⟨rfl, rfl⟩
    clear hsm
    go_wp2_with fail
    refine (HTX.out _ (Below.refl _ _)).mono ?_
    rintro e w3 ⟨rfl, hb3⟩
    have hw3 := HWR.out w3 (HBD.out.keep hb3) (by have := hb3.size; have := HZ.out; omega)
    have HB3 := Lib.hid hb3
    clear e1 e2 l2 hb3
    rw [← hpct] at hw3
    go_wp2_with fail
    refine hw3.mono ?_
    rintro e w4 ⟨rfl, hbd4, hb4, ho4⟩
    have HBD0 : Hid (Bld B b l0 w4) := Lib.hid (by rw [HLL.out]; exact hbd4)
    have HB4 := Lib.hid ((HB3.out.mono (by have := HZ.out; omega)).trans hb4)
    have HO4 := Lib.hid ((others_keep HB3.out).trans ho4)
    have d1 := others_blk HO4.out HB1.out (by omega) (by decide)
    have e1 := d1.cell 1
    have l2 := d1.lt
    simp only [List.getElem?_toArray, List.getElem?_cons_zero, List.getElem?_cons_succ] at e1
    clear hw3 hbd4 hb4 ho4 d1 hpct hszt hsz
    go_wp2_with fail
    clear e1 l2
    go_loopw [21] (fun q wr => ∃ k : Nat, k ≤ xs.length ∧ q = .int .i64 k ∧ Bld B b (l0 ++ ruleL g (xs.take k)) wr ∧ Below B w2 wr ∧ Lib.OthersKept 5 (some b) w2 wr) (fun q _ => xs.length - (intOf q).toNat)
    case atStart => exact ⟨0, Nat.zero_le _, rfl, by simpa [ruleL] using HBD0.out, HB4.out, HO4.out⟩
    case round =>
      obtain ⟨k, hk, rfl, hbd, hbr, hor⟩ := hrel
      have HBR := Lib.hid hbr
      have HOR := Lib.hid hor
      have HBK := Lib.hid hbd
      clear hbd hbr hor
      by_cases hlt : k < xs.length
      · obtain ⟨s, hs⟩ : ∃ s, xs[k]? = some s := ⟨_, List.getElem?_eq_getElem hlt⟩
        obtain ⟨gb, cap', e, hg, hc⟩ := IntsAt.cell HX.out hs
        injection e with e3 j1 j2
        subst e3
        clear j1 j2
        have hgB : gb < B := by
          obtain ⟨_, ao', cap', e, h5⟩ := HX.out
          injection e with e4 j1 j2
          obtain ⟨g', e5, _, hA, _⟩ := h5 (by omega)
          rw [← e4] at e5
          injection e5 with e5
          injection e5 with e5
          rw [e5]; exact hA
        have hca2 : wr.cell? ⟨gb, k, none⟩ = some (.int .i64 s) := (HBR.out.cell (p := ⟨gb, k, none⟩) hgB).trans hc
        have hsn := ruleL_snoc g hs
        obtain ⟨hi64, hsy⟩ := HIN.out _ (List.mem_of_getElem? hs)
        have hlen := ruleL_len HV1.out HT1.out (xs.take k)
        rw [List.length_take] at hlen
        have HSN := Lib.hid hsn
        have HLEN := Lib.hid hlen
        have g0 := others_blk HOR.out HB0.out (by omega) (by decide)
        have q0 := g0.cell 0
        have q1 := g0.cell 1
        have q2 := g0.cell 2
        have lq := g0.lt
        have lgb : gb < wr.heap.size := Nat.lt_of_lt_of_le hg HBR.out.size
        simp only [List.getElem?_toArray, List.getElem?_cons_zero, List.getElem?_cons_succ] at q0 q1 q2
        have hzr : B ≤ wr.heap.size := by have := HBR.out.size; have := HZ.out; omega
        have hnm := gname_any wr (fun k => k < B) tbo vo ro tc vc rn rc g s (keepB keepsStr HV.out HBR.out) (keepB keepsStr HT.out HBR.out) hi64 hsy (fun x hx => by have := HT1.out x hx; omega)
        have hns := nameL_len HV1.out HT1.out s
        have HZR := Lib.hid hzr
        obtain ⟨nm, hnme⟩ : ∃ nm, nm = nameL g s := ⟨_, rfl⟩
        rw [← hnme] at hnm hns
        have HNM := Lib.hid hnme
        have hsp := S_sp nm
        have hs1 : (ByteArray.mk #[32]).size = 1 := rfl
        have hs2 : (S nm).size = nm.length := rfl
        clear hsn hc hg hgB hsy g0 hlen hs hnme hzr hi64
        go_wp2_with fail
        refine hnm.mono ?_
        rintro e w4 ⟨rfl, hb4⟩
        have hw4 := writeL_any B b (l0 ++ ruleL g (xs.take k)) (32 :: nm) w4 (HBK.out.keep hb4) (by
          have := HLEN.out; have := HXL.out; have := HL0L.out
          rw [List.length_append, List.length_cons]
          omega) (by have := hb4.size; have := HZR.out; omega)
        rw [← hsp] at hw4
        have HB4 := Lib.hid hb4
        clear hb4 hnm q0 q1 q2 hca2 lq lgb
        go_wp2_with fail
        refine hw4.mono ?_
        rintro e w5 ⟨rfl, hbd5, hb5, ho5⟩
        have HBD5 := Lib.hid hbd5
        have HB5 := Lib.hid hb5
        have HO5 := Lib.hid ho5
        clear hbd5 hb5 ho5 hw4 hsp hs1 hs2
        go_wp2_with fail
        refine ⟨⟨k + 1, hlt, congrArg (Value.int .i64) (by omega), ?_, (HBR.out.trans (HB4.out.mono HZR.out)).trans HB5.out, (HOR.out.trans (others_keep HB4.out)).trans HO5.out⟩, by simp only [intOf]; omega⟩
        have := HBD5.out
        rw [HSN.out, ← HNM.out, ← List.append_assoc]
        exact this
      · obtain rfl : k = xs.length := by omega
        go_wp2_with fail
        go_end0
        have := HBK.out
        rw [List.take_length, HL0.out, List.append_assoc] at this
        exact ⟨rfl, this, HBL.out.trans HBR.out, HO2.out.trans HOR.out⟩
end Go.Proofs.YtldamieigigncaaGreatDoor.lx


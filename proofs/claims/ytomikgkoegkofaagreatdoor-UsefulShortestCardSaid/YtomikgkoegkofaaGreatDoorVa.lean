import Derived.Test.YtomikgkoegkofaaGreatDoorUub
import Derived.Test.YtomikgkoegkofaaGreatDoorDvs
import Derived.Shelf.Strings.BuilderK
import Derived.Shelf.SlSorted.Search
import Derived.Test.YtomikgkoegkofaaGreatDoorDvt
import Derived.Maps.Own
import Derived.Maps.OwnOps
import Derived.Maps.Views
import Derived.Maps.AppendAt
namespace Go.Proofs
section
open Go.Shelf
def Tryz.lays169_ren : Go.Shelf.Ren := ⟨fun | 169 => 58 | n => n, fun | 70 => 80 | 9 => 9 | 0 => 0 | 72 => 83 | 37 => 81 | 127 => 114 | 3 => 3 | 5 => 5 | n => n, fun | n => n⟩
theorem Tryz.lays169 : Go.Proofs.Lays.n169 Tryz.prog Tryz.lays169_ren := {
  mixed := by kernel_rfl
  f169 := Tryz.func58.trans (congrArg some (by kernel_rfl))
  t0 := Tryz.underlying0
  a0 := Tryz.isAgg0
  z0 := Tryz.sizeOf0
  v0 := Tryz.zeroValue0
  t3 := Tryz.underlying3
  a3 := Tryz.isAgg3
  z3 := Tryz.sizeOf3
  v3 := Tryz.zeroValue3
  t9 := Tryz.underlying9
  a9 := Tryz.isAgg9
  z9 := Tryz.sizeOf9
  v9 := Tryz.zeroValue9
  t37 := Tryz.underlying81
  a37 := Tryz.isAgg81
  z37 := Tryz.sizeOf81
  v37 := Tryz.zeroValue81
  t70 := Tryz.underlying80
  a70 := Tryz.isAgg80
  z70 := Tryz.sizeOf80
  v70 := Tryz.zeroValue80
  t72 := Tryz.underlying83
  a72 := Tryz.isAgg83
  z72 := Tryz.sizeOf83
  v72 := Tryz.zeroValue83
  t127 := Tryz.underlying114
  a127 := Tryz.isAgg114
  z127 := Tryz.sizeOf114
  v127 := Tryz.zeroValue114 }
end
section
open Go.Shelf
def Tryz.search16_ren : Go.Shelf.Ren := ⟨fun | 16 => 81 | n => n, fun | 3 => 3 | 35 => 64 | 4 => 4 | 38 => 117 | n => n, fun | n => n⟩
theorem Tryz.search16 : Go.Proofs.SlLaysO.n16 Tryz.prog Tryz.search16_ren := {
  mixed := by kernel_rfl
  f16 := Tryz.func81.trans (congrArg some (by kernel_rfl))
  t3 := Tryz.underlying3
  a3 := Tryz.isAgg3
  z3 := Tryz.sizeOf3
  v3 := Tryz.zeroValue3
  t4 := Tryz.underlying4
  a4 := Tryz.isAgg4
  z4 := Tryz.sizeOf4
  v4 := Tryz.zeroValue4
  t35 := Tryz.underlying64
  a35 := Tryz.isAgg64
  z35 := Tryz.sizeOf64
  v35 := Tryz.zeroValue64
  t38 := Tryz.underlying117
  a38 := Tryz.isAgg117
  z38 := Tryz.sizeOf117
  v38 := Tryz.zeroValue117 }
end
namespace YtomikgkoegkofaaGreatDoor.dv
open Go.ChangeShapes Go.WideShapes Go.ChangeAt Go.RowKit Go.Maps Go.WideMaps Go.WideElems Go.Shelf Go.Lib
set_option linter.unusedVariables false
set_option linter.unusedSimpArgs false
/-! Print: a builder, a symbol's name -/
def Bld (B b : Nat) (l : List UInt8) (w : World) : Prop := Lib.IsBuilder 83 5 B b (Lib.byteCells l) w
theorem bytes_app (l : List UInt8) (s : ByteArray) : Lib.byteCells (l ++ s.data.toList) = Lib.byteCells l ++ Lib.strCells s := by
  unfold Lib.byteCells Lib.strCells
  rw [List.map_append]
theorem bytes_len (l : List UInt8) : (Lib.byteCells l).length = l.length := by unfold Lib.byteCells; rw [List.length_map]
theorem size_builder : (Tryz.prog.info? 83).map (·.size) = some 2 := by kernel_rfl
theorem lies_builder : liesAt Tryz.prog Tryz.prog.depth 83 (2 / Tryz.prog.cellsOf 83) 0 83 1 = true := by kernel_rfl
theorem info_u8 : (Tryz.prog.info? 5).map (fun i => (i.zero, i.size, i.bytes)) = some (some (.int .u8 0), 1, 1) := by kernel_rfl
set_option maxRecDepth 100000 in
theorem check_used (b : Nat) (w : World) (h : w.cell? ⟨b, 0, none⟩ = some (.pointer (some ⟨b, 0, none⟩))) : Calls Tryz.prog 80 #[.pointer (some ⟨b, 0, none⟩)] w fun e w' => e = .returned (.tuple #[]) ∧ w' = w := by
  obtain ⟨j, hj, _⟩ := Option.map_eq_some_iff.1 size_builder
  have hne := Lib.run_neq_ptr_same (P := Tryz.prog) w ⟨b, 0, none⟩ Tryz.underlying80 hj
  clear hj
  go_enter Tryz.func80, Tryz.ntmps80
  go_wp2
  go_end0
  exact ⟨rfl, rfl⟩
set_option maxRecDepth 100000 in
theorem check_fresh (b : Nat) (w : World) (h : w.cell? ⟨b, 0, none⟩ = some (.pointer none)) (hs : w.shape? b = some (83, 2)) (hf : w.frozen? ⟨b, 0, none⟩ = false) : Calls Tryz.prog 80 #[.pointer (some ⟨b, 0, none⟩)] w fun e w' => e = .returned (.tuple #[]) ∧ w' = w.setCell ⟨b, 0, none⟩ (.pointer (some ⟨b, 0, none⟩)) := by
  obtain ⟨j, hj, hjs⟩ := Option.map_eq_some_iff.1 size_builder
  have h1 := Lib.run_to_unsafe (P := Tryz.prog) w ⟨b, 0, none⟩ Tryz.underlying80 Tryz.underlying124 hj (by rw [hjs]; decide) hs (Nat.zero_lt_succ 1)
  have h2 := Lib.run_from_unsafe (P := Tryz.prog) w ⟨b, 0, none⟩ Tryz.underlying124 Tryz.underlying80 hj hs lies_builder
  have h3 : ∀ x, (callFunc 98 #[x]).run Tryz.prog w = .ok (.value x) w := fun x => by
    rw [run_callFunc_extern Tryz.func98 (by kernel_rfl) (by kernel_rfl) (by kernel_rfl) (e := Extern.AbiNoEscape.same) (by kernel_rfl), Lib.run_noEscape]
    rfl
  clear hj hjs
  go_enter Tryz.func80, Tryz.ntmps80
  go_wp2
  go_end0
  exact ⟨rfl, rfl⟩
theorem check_any (B b : Nat) (bs : List Value) (w : World) (h : Lib.IsBuilder 83 5 B b bs w) : Calls Tryz.prog 80 #[.pointer (some ⟨b, 0, none⟩)] w fun e w' => e = .returned (.tuple #[]) ∧ Lib.BuilderAt 83 5 B b (.pointer (some ⟨b, 0, none⟩)) bs w' ∧ Below B w w' ∧ Lib.OthersKept 5 (some b) w w' := by
  rcases h with h | h
  · refine (check_fresh b w h.cell0 h.shape h.frozen0).mono ?_
    rintro e w' ⟨rfl, rfl⟩
    exact ⟨rfl, h.used _, (Below.refl B w).setCell (p := ⟨b, 0, none⟩) h.1 _, (Lib.OthersKept.refl _ _ w).setCell ⟨b, 0, none⟩ rfl _⟩
  · refine (check_used b w h.cell0).mono ?_
    rintro e w' ⟨rfl, rfl⟩
    exact ⟨rfl, h, Below.refl B _, Lib.OthersKept.refl _ _ _⟩
theorem own_kind {w : World} {B : Nat} {e : TypeId} {v : Value} {n : Nat} {xs : List Value} (h : w.ownsRow B e 1 v n xs) : ∀ g, v.ownBlock = some g → ∃ c fz, w.heap[g]? = some (.cells c e fz) := Lib.ownsRowF_kind (World.ownsRowF_of h)
set_option maxHeartbeats 1000000 in
set_option maxRecDepth 100000 in
theorem write_any (B b : Nat) (l : List UInt8) (s : ByteArray) (w : World) (h : Bld B b l w) (hl : l.length + s.size ≤ 140737488355328) (hB : B ≤ w.heap.size) :
    Calls Tryz.prog 55 #[.pointer (some ⟨b, 0, none⟩), .string s] w fun e w' => e = .returned (.tuple #[.int .i64 s.size, .nilIface]) ∧ Bld B b (l ++ s.data.toList) w' ∧ Below B w w' ∧ Lib.OthersKept 5 (some b) w w' := by
  obtain ⟨i0, hi, hz0, hz1, hz2⟩ := info_parts info_u8
  have hbl := bytes_len l
  have hck := check_any B b (Lib.byteCells l) w h
  unfold Bld
  rw [bytes_app]
  generalize Lib.byteCells l = bs at *
  rw [← hbl] at hl
  have HL := Lib.hid hl
  clear hbl h hl
  go_enter Tryz.func55, Tryz.ntmps55
  go_wp2_with fail
  refine hck.mono ?_
  rintro e w1 ⟨rfl, h1, hb1, hk1⟩
  obtain ⟨hBb, v, hbk, hown, hne⟩ := h1
  have c0 : w1.cell? ⟨b, 0, none⟩ = some (.pointer (some ⟨b, 0, none⟩)) := by rw [Lib.cell_of_heap hbk]; rfl
  have c1 : w1.cell? ⟨b, 1, none⟩ = some v := by rw [Lib.cell_of_heap hbk]; rfl
  have hz1' := hb1.size
  have HZ := Lib.hid hz1'
  clear hz1'
  go_wp2_with (at_builtin; refine Lib.wpList_append_own_string _ rfl _ _ 81 9 rfl B 5 i0 Tryz.underlying81 Tryz.underlying9 hi hz0 hz1 hz2 _ _ _ rfl hown s rfl (by have := HL.out; unfold maxLen; omega) (by have := HL.out; omega) (by have := HZ.out; omega) ?_; intro v' w2 hown' hgrow _; have hlt := lt_heap hbk; have hb2 : w2.heap[b]? = some (.cells #[.pointer (some ⟨b, 0, none⟩), v] 83 (0, 0)) := (hgrow.block b hlt (fun e => hne e.symm)).trans hbk; have d0 : w2.cell? ⟨b, 0, none⟩ = some (.pointer (some ⟨b, 0, none⟩)) := (by rw [Lib.cell_of_heap hb2]; rfl); have d1 : w2.cell? ⟨b, 1, none⟩ = some v := (by rw [Lib.cell_of_heap hb2]; rfl); have f1 : w2.frozen? ⟨b, 1, none⟩ = false := Lib.frozen_of_heap hb2 1; obtain ⟨ao, n', cap, rfl⟩ : ∃ ao n' cap, v' = .slice ao n' cap := (by
    rcases hown'.2 with ⟨hv, _⟩ | ⟨g, cap, cur, hv, _⟩
    · exact ⟨_, _, _, hv⟩
    · exact ⟨_, _, _, hv⟩))
  go_ret2
  refine ⟨rfl, .inr ?_, ?_, (hk1.grown hgrow (own_kind hown)).setCell ⟨b, 1, none⟩ rfl _⟩
  · exact Lib.BuilderAt.put (T := 83) (e := 5) hBb hb2 (bs' := bs ++ Lib.strCells s) (by simpa [Lib.strCells_length] using hown') (by decide)
  · exact (hb1.grown hgrow (Nat.le_trans hB hb1.size) (fun k hk => (hown.lt k hk).1)).setCell (p := ⟨b, 1, none⟩) hBb _
theorem string_any (B b : Nat) (l : List UInt8) (w : World) (h : Bld B b l w) (hB : B ≤ w.heap.size) :
    Calls Tryz.prog 58 #[.pointer (some ⟨b, 0, none⟩)] w fun e w' => e = .returned (.string ⟨l.toArray⟩) ∧ Below B w w' := by
  refine (Any.Builder_String_any_k Tryz.lays169 ⟨⟨by kernel_rfl, by kernel_rfl⟩, by kernel_rfl, by intro w; kernel_rfl, by intro w; kernel_rfl, by intro w; kernel_rfl, by kernel_rfl, by kernel_rfl, by kernel_rfl, by decide⟩ B b l w (Lib.IsBuilderF.of h) hB).mono ?_
  rintro e w' ⟨h1, h2, h3, h4⟩
  exact ⟨h1, h3⟩
attribute [local go_sem] x_frombits x_bits
set_option maxRecDepth 100000 in
theorem key0_any (w : World) : Calls Tryz.prog 99 #[.float .f64 0] w fun e w' => e = .returned (.int .u64 9223372036854775808) ∧ w = w' := by
  have h1 : (FloatKind.f64.format.order 0 0 != some .eq) = false := by decide +kernel
  have h2 : bits .and .u64 0 9223372036854775808 = 0 := by decide +kernel
  have h3 : bits .or .u64 0 9223372036854775808 = 9223372036854775808 := by decide +kernel
  go_enter Tryz.func99, Tryz.ntmps99
  go_wp2
  go_ret
  exact ⟨rfl, rfl⟩
set_option maxRecDepth 100000 in
theorem same0_any (w : World) : Calls Tryz.prog 84 #[.float .f64 0, .float .f64 0] w fun e w' => e = .returned (.bool true) ∧ w = w' := by
  go_enter Tryz.func84, Tryz.ntmps84
  go_wp2_with fail
  refine (key0_any _).mono ?_
  rintro e w1 ⟨rfl, rfl⟩
  go_wp2_with fail
  refine (key0_any _).mono ?_
  rintro e w1 ⟨rfl, rfl⟩
  go_wp2
  go_ret
  exact ⟨rfl, rfl⟩
end Go.Proofs.YtomikgkoegkofaaGreatDoor.dv
namespace Go.Proofs.YtomikgkoegkofaaGreatDoor.dv
open Go.ChangeShapes Go.WideShapes Go.ChangeAt Go.RowKit Go.Maps Go.WideMaps Go.WideElems Go.Shelf Go.Lib
set_option linter.unusedVariables false
set_option linter.unusedSimpArgs false
/-! a symbol's name; a rule's alternative -/
def symB (VS TS : List ByteArray) (s : Int) : Prop := (0 ≤ s → s.toNat < VS.length) ∧ (s < 0 → (-s - 1).toNat < TS.length)
def nameB (VS TS : List ByteArray) (s : Int) : ByteArray := if 0 ≤ s then VS.getD s.toNat ByteArray.empty else ⟨#[39]⟩ ++ TS.getD (-s - 1).toNat ByteArray.empty ++ ⟨#[39]⟩
theorem isv2_any (w : World) (x : Int) : Calls Tryz.prog 70 #[.int .i64 x] w fun e w' => e = .returned (.bool (decide (0 ≤ x))) ∧ w' = w := isv_any w x
set_option maxRecDepth 100000 in
theorem isSym_any (w : World) (ta va ra : Option Addr) (tl tc vl vc rl rc : Nat) (s : Int) (h : (0 ≤ s → s.toNat < vl) ∧ (s < 0 → (-s - 1).toNat < tl)) (hs : In64 s) : Calls Tryz.prog 103 #[.agg #[.slice ta tl tc, .slice va vl vc, .slice ra rl rc], .int .i64 s] w fun e w' => e = .returned (.bool true) ∧ Below w.heap.size w w' := by
  have b0 := Blk.new w 25 #[.slice ta tl tc, .slice va vl vc, .slice ra rl rc]
  have c0 := b0.cell 0
  have c1 := b0.cell 1
  have c2 := b0.cell 2
  simp only [List.getElem?_toArray, List.getElem?_cons_zero, List.getElem?_cons_succ] at c0 c1 c2
  have hbl : Below w.heap.size w (w.alloc (.cells #[.slice ta tl tc, .slice va vl vc, .slice ra rl rc] 25)) := (Below.refl _ w).alloc (Nat.le_refl _) _
  have hiv := isv_any (w.alloc (.cells #[.slice ta tl tc, .slice va vl vc, .slice ra rl rc] 25)) s
  have hx := cm_if s hs
  by_cases h0 : 0 ≤ s
  · rw [decide_eq_true h0] at hiv
    have hlt : decide (s < (vl : Int)) = true := decide_eq_true (by have := h.1 h0; omega)
    clear h
    go_enter Tryz.func103, Tryz.ntmps103
    go_wp2_with fail
    refine hiv.mono ?_
    rintro e w1 ⟨rfl, rfl⟩
    go_wp2
    go_ret
    exact ⟨by first | rfl | rw [hlt], hbl⟩
  · rw [decide_eq_false h0] at hiv
    have hlt : decide (-1 - s < (tl : Int)) = true := decide_eq_true (by have := h.2 (by omega); omega)
    clear h
    go_enter Tryz.func103, Tryz.ntmps103
    go_wp2_with fail
    refine hiv.mono ?_
    rintro e w1 ⟨rfl, rfl⟩
    go_wp2
    go_ret
    exact ⟨by first | rfl | rw [hlt], hbl⟩
theorem TxtAt.cell {B : Nat} {w : World} {a0 : Option Addr} {cap : Nat} {L : List ByteArray} (h : TxtAt B w (.slice a0 L.length cap) L) {k : Nat} (hk : k < L.length) : ∃ a : Addr, a0 = some a ∧ a.block < B ∧ w.cell? (a.add k) = some (.string (L.getD k ByteArray.empty)) := by
  obtain ⟨ao, c, e, _, hc⟩ := h
  cases e
  exact hc k hk
theorem getD_mem (L : List ByteArray) (k : Nat) (hk : k < L.length) : L.getD k ByteArray.empty ∈ L := by
  rw [List.getD_eq_getElem?_getD, List.getElem?_eq_getElem hk]
  exact List.getElem_mem _
def Short (L : List ByteArray) : Prop := ∀ x ∈ L, x.size ≤ 1000
set_option maxHeartbeats 1000000 in
set_option maxRecDepth 100000 in
theorem name_any (w : World) (B : Nat) (ta va ra : Option Addr) (tc vc rl rc : Nat) (VS TS : List ByteArray) (s : Int) (hV : TxtAt B w (.slice va VS.length vc) VS) (hT : TxtAt B w (.slice ta TS.length tc) TS) (hB : B ≤ w.heap.size) (hs : In64 s) (hsy : symB VS TS s) (hSV : Short VS) (hST : Short TS) :
    Calls Tryz.prog 86 #[.agg #[.slice ta TS.length tc, .slice va VS.length vc, .slice ra rl rc], .int .i64 s] w fun e w' => e = .returned (.string (nameB VS TS s)) ∧ Below w.heap.size w w' := by
  have b0 := Blk.new w 25 #[.slice ta TS.length tc, .slice va VS.length vc, .slice ra rl rc]
  have c0 := b0.cell 0
  have c1 := b0.cell 1
  have c2 := b0.cell 2
  simp only [List.getElem?_toArray, List.getElem?_cons_zero, List.getElem?_cons_succ] at c0 c1 c2
  have hbl : Below w.heap.size w (w.alloc (.cells #[.slice ta TS.length tc, .slice va VS.length vc, .slice ra rl rc] 25)) := (Below.refl _ w).alloc (Nat.le_refl _) _
  have hsym := isSym_any (w.alloc (.cells #[.slice ta TS.length tc, .slice va VS.length vc, .slice ra rl rc] 25)) ta va ra TS.length tc VS.length vc rl rc s hsy hs
  have hV1 := hV.below (hbl.mono hB)
  have hT1 := hT.below (hbl.mono hB)
  have hz : w.heap.size < (w.alloc (.cells #[.slice ta TS.length tc, .slice va VS.length vc, .slice ra rl rc] 25)).heap.size := by simp
  generalize hW0 : w.alloc (.cells #[.slice ta TS.length tc, .slice va VS.length vc, .slice ra rl rc] 25) = w0 at *
  clear hV hT
  by_cases h0 : 0 ≤ s
  · obtain ⟨k, rfl⟩ : ∃ k : Nat, s = k := ⟨s.toNat, by omega⟩
    have hk : k < VS.length := by have := hsy.1 h0; omega
    obtain ⟨a, rfl, hab, hca⟩ := hV1.cell hk
    have hnm : nameB VS TS (k : Int) = VS.getD k ByteArray.empty := by unfold nameB; rw [if_pos h0, Int.toNat_natCast]
    rw [hnm]
    generalize VS.getD k ByteArray.empty = nm at *
    have hklt : (k : Int) < (VS.length : Int) := by omega
    clear hsy hV1 hT1 hnm
    go_enter Tryz.func86, Tryz.ntmps86
    go_wp2_with fail
    refine hsym.mono ?_
    rintro e w1 ⟨rfl, hb1⟩
    have hiv := isv_any w1 (k : Int)
    rw [decide_eq_true h0] at hiv
    have d := b0.below hb1 hz
    have d0 := d.cell 0
    have d1 := d.cell 1
    have hca1 : w1.cell? (a.add k) = some (.string nm) := (hb1.cell (p := a.add k) (by rw [add_block]; omega)).trans hca
    simp only [List.getElem?_toArray, List.getElem?_cons_zero, List.getElem?_cons_succ] at d0 d1
    have HB1 := Lib.hid (hbl.trans (hb1.mono (Nat.le_of_lt hz)))
    clear c0 c1 c2 hca hsym hbl d b0 hb1 hz
    go_wp2_with fail
    refine hiv.mono ?_
    rintro e w2 ⟨rfl, rfl⟩
    go_wp2
    go_ret
    exact ⟨rfl, HB1.out⟩
  · obtain ⟨k, rfl⟩ : ∃ k : Nat, s = -1 - (k : Int) := ⟨(-1 - s).toNat, by omega⟩
    have hk : k < TS.length := by have := hsy.2 (by omega); omega
    obtain ⟨a, rfl, hab, hca⟩ := hT1.cell hk
    have hnm : nameB VS TS (-1 - (k : Int)) = ⟨#[39]⟩ ++ TS.getD k ByteArray.empty ++ ⟨#[39]⟩ := by
      unfold nameB
      rw [if_neg h0, show (-(-1 - (k : Int)) - 1).toNat = k by omega]
    have hsz := hST _ (getD_mem TS k hk)
    have hx := cm_if _ hs
    rw [show -1 - (-1 - (k : Int)) = k by omega] at hx
    rw [hnm]
    generalize TS.getD k ByteArray.empty = nm at *
    have hklt : (k : Int) < (TS.length : Int) := by omega
    generalize hsk : -1 - (k : Int) = s at *
    clear hsy hV1 hT1 hnm hsk
    go_enter Tryz.func86, Tryz.ntmps86
    go_wp2_with fail
    refine hsym.mono ?_
    rintro e w1 ⟨rfl, hb1⟩
    have hiv := isv_any w1 s
    rw [decide_eq_false (by omega)] at hiv
    have d := b0.below hb1 hz
    have d0 := d.cell 0
    have d1 := d.cell 1
    have hca1 : w1.cell? (a.add k) = some (.string nm) := (hb1.cell (p := a.add k) (by rw [add_block]; omega)).trans hca
    simp only [List.getElem?_toArray, List.getElem?_cons_zero, List.getElem?_cons_succ] at d0 d1
    have HB1 := Lib.hid (hbl.trans (hb1.mono (Nat.le_of_lt hz)))
    clear c0 c1 c2 hca hsym hbl d b0 hb1 hz
    go_wp2_with fail
    refine hiv.mono ?_
    rintro e w2 ⟨rfl, rfl⟩
    go_wp2
    go_ret
    exact ⟨rfl, HB1.out⟩
end Go.Proofs.YtomikgkoegkofaaGreatDoor.dv
namespace Go.Proofs.YtomikgkoegkofaaGreatDoor.dv
open Go.ChangeShapes Go.WideShapes Go.ChangeAt Go.RowKit Go.Maps Go.WideMaps Go.WideElems Go.Shelf Go.Lib
set_option linter.unusedVariables false
set_option linter.unusedSimpArgs false
/-! a rule's alternative, printed -/
theorem Bld.lt {B b : Nat} {l : List UInt8} {w : World} (h : Bld B b l w) : b < w.heap.size ∧ B ≤ b := by
  rcases h with h | h
  · exact ⟨h.lt, h.1⟩
  · exact ⟨h.lt, h.1⟩
theorem BuilderAt_keep {B b : Nat} {p : Value} {bs : List Value} {w w' : World} (h : Lib.BuilderAt 83 5 B b p bs w) (hb : Below w.heap.size w w') : Lib.BuilderAt 83 5 B b p bs w' := by
  have hlt := h.lt
  obtain ⟨h1, v, h2, h3, h4⟩ := h
  exact ⟨h1, v, (hb.block b hlt).trans h2, ownsRow_keep h3 (fun g hg _ => hb.block g hg), h4⟩
theorem Bld.keep {B b : Nat} {l : List UInt8} {w w' : World} (h : Bld B b l w) (hb : Below w.heap.size w w') : Bld B b l w' := by
  rcases h with h | h
  · exact .inl (BuilderAt_keep h hb)
  · exact .inr (BuilderAt_keep h hb)
theorem others_keep {b : Nat} {w w' : World} (hb : Below w.heap.size w w') : Lib.OthersKept 5 (some b) w w' := fun k o hk _ _ => by
  rw [hb.block k (Array.getElem?_eq_some_iff.1 hk).1]
  exact hk
theorem others_blk {b p : Nat} {w w' : World} {t : TypeId} {cs : Array Value} (h : Lib.OthersKept 5 (some b) w w') (hp : Blk w p t cs) (hne : p ≠ b) (ht : t ≠ 5) : Blk w' p t cs :=
  h p _ hp (fun e => hne (Option.some.inj e)) (fun c fz e => by cases e; exact ht rfl)
def ruleB (VS TS : List ByteArray) (F : List Int) : List UInt8 := F.flatMap fun s => 32 :: (nameB VS TS s).data.toList
theorem ruleB_snoc {VS TS : List ByteArray} {F : List Int} {k : Nat} (h : k < F.length) : ruleB VS TS (F.take (k + 1)) = ruleB VS TS (F.take k) ++ 32 :: (nameB VS TS (F.getD k 0)).data.toList := by
  unfold ruleB
  rw [List.take_succ_eq_append_getElem h, List.flatMap_append, List.getD_eq_getElem?_getD, List.getElem?_eq_getElem h]
  simp
theorem getD_short {L : List ByteArray} (h : Short L) (k : Nat) : (L.getD k ByteArray.empty).size ≤ 1000 := by
  by_cases hk : k < L.length
  · exact h _ (getD_mem L k hk)
  · rw [List.getD_eq_getElem?_getD, List.getElem?_eq_none (by omega)]
    exact Nat.zero_le _
theorem nameB_len {VS TS : List ByteArray} (hSV : Short VS) (hST : Short TS) (s : Int) : (nameB VS TS s).size ≤ 1002 := by
  unfold nameB
  split
  · have := getD_short hSV s.toNat; omega
  · have := getD_short hST (-s - 1).toNat
    rw [ByteArray.size_append, ByteArray.size_append]
    have e : ByteArray.size ⟨#[39]⟩ = 1 := rfl
    omega
theorem ruleB_len {VS TS : List ByteArray} (hSV : Short VS) (hST : Short TS) : ∀ (F : List Int), (ruleB VS TS F).length ≤ 1003 * F.length
  | [] => Nat.le_refl _
  | s :: F => by
    have ih := ruleB_len hSV hST F
    have h := nameB_len hSV hST s
    unfold ruleB at *
    rw [List.flatMap_cons, List.length_append, List.length_cons, List.length_cons]
    have e : (nameB VS TS s).data.toList.length = (nameB VS TS s).size := Array.length_toList
    omega
set_option maxHeartbeats 2000000 in
set_option maxRecDepth 100000 in
theorem printRule_any (w : World) (B b : Nat) (ta va ra : Option Addr) (tc vc rl rc : Nat) (VS TS : List ByteArray) (lf : Int) (F : List Int) (ao : Option Addr) (cp : Nat) (l : List UInt8) (hV : TxtAt B w (.slice va VS.length vc) VS) (hT : TxtAt B w (.slice ta TS.length tc) TS) (hB : B ≤ w.heap.size) (hF : RowUnder B w ao F) (hFl : F.length ≤ 100) (hin : ∀ s ∈ F, In64 s ∧ symB VS TS s) (hSV : Short VS) (hST : Short TS) (hb : Bld B b l w) (hl : l.length ≤ 1000000000000) :
    Calls Tryz.prog 57 #[.pointer (some ⟨b, 0, none⟩), .agg #[.slice ta TS.length tc, .slice va VS.length vc, .slice ra rl rc], .agg #[.int .i64 lf, .slice ao F.length cp, .float .f64 0]] w fun e w' => e = .returned (.tuple #[]) ∧ Bld B b (l ++ ruleB VS TS F) w' ∧ Below B w w' ∧ Lib.OthersKept 5 (some b) w w' := by
  have b0 := (Blk.new w 25 #[.slice ta TS.length tc, .slice va VS.length vc, .slice ra rl rc]).alloc (.cells #[.int .i64 lf, .slice ao F.length cp, .float .f64 0] 44)
  have b1 := Blk.new (w.alloc (.cells #[.slice ta TS.length tc, .slice va VS.length vc, .slice ra rl rc] 25)) 44 #[.int .i64 lf, .slice ao F.length cp, .float .f64 0]
  rw [World.size_alloc] at b1
  have hbl : Below w.heap.size w ((w.alloc (.cells #[.slice ta TS.length tc, .slice va VS.length vc, .slice ra rl rc] 25)).alloc (.cells #[.int .i64 lf, .slice ao F.length cp, .float .f64 0] 44)) := ((Below.refl _ w).alloc (Nat.le_refl _) _).alloc (by rw [World.size_alloc]; omega) _
  have hbb := hb.lt
  have hb2 := hb.keep hbl
  have ho2 := others_keep (b := b) hbl
  have hV2 := hV.below (hbl.mono hB)
  have hT2 := hT.below (hbl.mono hB)
  have hF2 : RowUnder B ((w.alloc (.cells #[.slice ta TS.length tc, .slice va VS.length vc, .slice ra rl rc] 25)).alloc (.cells #[.int .i64 lf, .slice ao F.length cp, .float .f64 0] 44)) ao F := fun j hj => by
    obtain ⟨a, e, hab, hc⟩ := hF j hj
    exact ⟨a, e, hab, ((hbl.mono hB).cell (p := a.add j) (by rw [add_block]; exact hab)).trans hc⟩
  have hz : ((w.alloc (.cells #[.slice ta TS.length tc, .slice va VS.length vc, .slice ra rl rc] 25)).alloc (.cells #[.int .i64 lf, .slice ao F.length cp, .float .f64 0] 44)).heap.size = w.heap.size + 1 + 1 := by simp
  generalize hW2 : (w.alloc (.cells #[.slice ta TS.length tc, .slice va VS.length vc, .slice ra rl rc] 25)).alloc (.cells #[.int .i64 lf, .slice ao F.length cp, .float .f64 0] 44) = w2 at *
  have HV := Lib.hid hV2
  have HT := Lib.hid hT2
  have HF := Lib.hid hF2
  have HIN := Lib.hid hin
  have HB0 := Lib.hid b0
  have HB1 := Lib.hid b1
  have HBL := Lib.hid (hbl.mono hB)
  have HO2 := Lib.hid ho2
  have HBD := Lib.hid hb2
  have HZ := Lib.hid hz
  have HFL := Lib.hid hFl
  have HL := Lib.hid hl
  have e2 := b1.cell 2
  have e1 := b1.cell 1
  simp only [List.getElem?_toArray, List.getElem?_cons_zero, List.getElem?_cons_succ] at e1 e2
  have hF63 : F.length ≤ 9223372036854775807 := by omega
  clear hV hT hF hin b0 b1 hbl hb hb2 ho2 hV2 hT2 hF2 hz hFl hl
  go_enter Tryz.func57, Tryz.ntmps57
  go_wp2_with fail
  refine (same0_any w2).mono ?_
  rintro e w3 ⟨rfl, rfl⟩
  go_wp2
  go_loopw [21] (fun q wr => ∃ k : Nat, k ≤ F.length ∧ q = .int .i64 k ∧ Bld B b (l ++ ruleB VS TS (F.take k)) wr ∧ Below B w2 wr ∧ Lib.OthersKept 5 (some b) w2 wr) (fun q _ => F.length - (intOf q).toNat)
  case atStart => exact ⟨0, Nat.zero_le _, rfl, by simpa [ruleB] using HBD.out, Below.refl _ _, Lib.OthersKept.refl _ _ _⟩
  case round =>
    obtain ⟨k, hk, rfl, hbd, hbr, hor⟩ := hrel
    have HBR := Lib.hid hbr
    have HOR := Lib.hid hor
    have HBK := Lib.hid hbd
    clear hbd hbr hor e1 e2
    by_cases hlt : k < F.length
    · obtain ⟨a, rfl, hab, hca⟩ := HF.out k hlt
      have hca2 : wr.cell? (a.add k) = some (.int .i64 (F.getD k 0)) := (HBR.out.cell (p := a.add k) (by rw [add_block]; exact hab)).trans hca
      have hsn := ruleB_snoc (VS := VS) (TS := TS) hlt
      have hmem : F.getD k 0 ∈ F := by rw [List.getD_eq_getElem?_getD, List.getElem?_eq_getElem hlt]; exact List.getElem_mem _
      obtain ⟨hi64, hsy⟩ := HIN.out _ hmem
      have hlen := ruleB_len hSV hST (F.take k)
      rw [List.length_take] at hlen
      have HSN := Lib.hid hsn
      have HLEN := Lib.hid hlen
      have g0 := others_blk HOR.out HB0.out (by omega) (by decide)
      have q0 := g0.cell 0
      have q1 := g0.cell 1
      have q2 := g0.cell 2
      simp only [List.getElem?_toArray, List.getElem?_cons_zero, List.getElem?_cons_succ] at q0 q1 q2
      generalize F.getD k 0 = s at *
      have hnm := name_any wr B ta va ra tc vc rl rc VS TS s (HV.out.below HBR.out) (HT.out.below HBR.out) (by have := HBR.out.size; have := HZ.out; omega) hi64 hsy hSV hST
      have hns := nameB_len hSV hST s
      have HZR := Lib.hid (show B ≤ wr.heap.size by have := HBR.out.size; have := HZ.out; omega)
      generalize nameB VS TS s = nm at *
      clear hsn hca hmem hsy g0 hlen
      go_wp2_with fail
      refine hnm.mono ?_
      rintro e w4 ⟨rfl, hb4⟩
      have hw4 := write_any B b (l ++ ruleB VS TS (F.take k)) (⟨#[32]⟩ ++ nm) w4 (HBK.out.keep hb4) (by
        have := HLEN.out; have := HFL.out; have := HL.out
        rw [List.length_append, ByteArray.size_append]
        have e : ByteArray.size ⟨#[32]⟩ = 1 := rfl
        omega) (by have := hb4.size; have := HZR.out; omega)
      have HB4 := Lib.hid hb4
      clear hb4 hnm q0 q1 q2 hca2
      go_wp2_with fail
      refine hw4.mono ?_
      rintro e w5 ⟨rfl, hbd5, hb5, ho5⟩
      have HBD5 := Lib.hid hbd5
      have HB5 := Lib.hid hb5
      have HO5 := Lib.hid ho5
      clear hbd5 hb5 ho5 hw4
      go_wp2
      refine ⟨⟨k + 1, hlt, congrArg (Value.int .i64) (by omega), ?_, (HBR.out.trans (HB4.out.mono HZR.out)).trans HB5.out, (HOR.out.trans (others_keep HB4.out)).trans HO5.out⟩, by simp only [intOf]; omega⟩
      have := HBD5.out
      rw [HSN.out]
      simpa [ByteArray.data_append] using this
    · obtain rfl : k = F.length := by omega
      go_wp2
      go_end0
      have := HBK.out
      rw [List.take_length] at this
      exact ⟨rfl, this, HBL.out.trans HBR.out, HO2.out.trans HOR.out⟩
end Go.Proofs.YtomikgkoegkofaaGreatDoor.dv
namespace Go.Proofs.YtomikgkoegkofaaGreatDoor.dv
open Go.ChangeShapes Go.WideShapes Go.ChangeAt Go.RowKit Go.Maps Go.WideMaps Go.WideElems Go.Shelf Go.Lib Go.Sort
set_option linter.unusedVariables false
set_option linter.unusedSimpArgs false
/-! a variable's rules, by the order of their lefts -/
def lefts (R : List Rl) (i : Nat) : Int := (R.getD i ⟨0, [], 0⟩).left
def Sorted (R : List Rl) : Prop := ∀ i j, i ≤ j → j < R.length → lefts R i ≤ lefts R j
def fromN (R : List Rl) (v : Int) : Nat := (List.range R.length).countP fun i => !decide (v ≤ lefts R i)
def toN (R : List Rl) (v : Int) : Nat := (List.range R.length).countP fun i => !decide (v < lefts R i)
theorem goes_rules1 : Goes 82 := fun args w => enters_of Tryz.func82 (by kernel_rfl) rfl args w
theorem goes_rules2 : Goes 83 := fun args w => enters_of Tryz.func83 (by kernel_rfl) rfl args w
set_option maxRecDepth 100000 in
theorem rules1_any (X : World) (p q : Nat) (a : Addr) (n rc i : Nat) (v lf : Int) (hp : X.cell? ⟨p, 2, none⟩ = some (.slice (some a) n rc)) (hq : X.cell? ⟨q, 0, none⟩ = some (.int .i64 v)) (hi : i < n) (hc : X.cell? (a.add (i * 3)) = some (.int .i64 lf)) : Calls Tryz.prog 82 #[.int .i64 i, .pointer (some ⟨p, 0, none⟩), .pointer (some ⟨q, 0, none⟩)] X fun e X' => e = .returned (.bool (decide (v ≤ lf))) ∧ ∃ m, X' = X.drewN m := by
  have hlt : (i : Int) < (n : Int) := by omega
  go_enter Tryz.func82, Tryz.ntmps82
  go_wp2
  go_quiet (fail)
  go_wp2
  go_ret
  exact ⟨rfl, _, rfl⟩
set_option maxRecDepth 100000 in
theorem rules2_any (X : World) (p q : Nat) (a : Addr) (n rc i : Nat) (v lf : Int) (hp : X.cell? ⟨p, 2, none⟩ = some (.slice (some a) n rc)) (hq : X.cell? ⟨q, 0, none⟩ = some (.int .i64 v)) (hi : i < n) (hc : X.cell? (a.add (i * 3)) = some (.int .i64 lf)) : Calls Tryz.prog 83 #[.int .i64 i, .pointer (some ⟨p, 0, none⟩), .pointer (some ⟨q, 0, none⟩)] X fun e X' => e = .returned (.bool (decide (v < lf))) ∧ ∃ m, X' = X.drewN m := by
  have hlt : (i : Int) < (n : Int) := by omega
  go_enter Tryz.func83, Tryz.ntmps83
  go_wp2
  go_quiet (fail)
  go_wp2
  go_ret
  exact ⟨rfl, _, rfl⟩
theorem lefts_at {R : List Rl} {k : Nat} {r : Rl} (h : R[k]? = some r) : lefts R k = r.left := by
  unfold lefts
  rw [List.getD_eq_getElem?_getD, h]
  rfl
/-- sort.Search over a variable's rules -/
theorem search_any (w : World) (B p q : Nat) (ta va ra : Option Addr) (tl tc vl vc rc : Nat) (R : List Rl) (v : Int) (fn : Nat) (f : Int → Bool) (hgo : Goes fn) (hR : RulesAt B w (.slice ra R.length rc) R) (hB : B ≤ w.heap.size) (hbp : Blk w p 25 #[.slice ta tl tc, .slice va vl vc, .slice ra R.length rc]) (hbq : Blk w q 3 #[.int .i64 v]) (hn : R.length < 4611686018427387904)
    (hfn : ∀ (X : World) (a : Addr) (i : Nat) (lf : Int), X.cell? ⟨p, 2, none⟩ = some (.slice (some a) R.length rc) → X.cell? ⟨q, 0, none⟩ = some (.int .i64 v) → i < R.length → X.cell? (a.add (i * 3)) = some (.int .i64 lf) → Calls Tryz.prog fn #[.int .i64 i, .pointer (some ⟨p, 0, none⟩), .pointer (some ⟨q, 0, none⟩)] X fun e X' => e = .returned (.bool (f lf)) ∧ ∃ m, X' = X.drewN m)
    (hm : ∀ a b, a ≤ b → b < R.length → f (lefts R a) = true → f (lefts R b) = true) :
    Calls Tryz.prog 81 #[.int .i64 R.length, .func (.func fn) #[] #[.pointer (some ⟨p, 0, none⟩), .pointer (some ⟨q, 0, none⟩)]] w fun e w' => e = .returned (.int .i64 ((List.range R.length).countP (fun i => !f (lefts R i)) : Nat)) ∧ Below w.heap.size w w' := by
  have h := Any.sort_Search Tryz.search16 fn #[.pointer (some ⟨p, 0, none⟩), .pointer (some ⟨q, 0, none⟩)] R.length (fun i => f (lefts R i)) w hgo hn (fun m os i hi => by
    have hX : Below w.heap.size w (grow (w.drewN m) os) := below_grown_sl _ _ _ _ (Nat.le_refl _)
    obtain ⟨a, r, ao, cap, rfl, hab, hr, hc, _⟩ := hR.at i hi
    rw [lefts_at hr]
    have c1 : (grow (w.drewN m) os).cell? ⟨p, 2, none⟩ = some (.slice (some a) R.length rc) := (hX.cell (p := ⟨p, 2, none⟩) hbp.lt).trans ((hbp.cell 2).trans rfl)
    have c2 : (grow (w.drewN m) os).cell? ⟨q, 0, none⟩ = some (.int .i64 v) := (hX.cell (p := ⟨q, 0, none⟩) hbq.lt).trans ((hbq.cell 0).trans rfl)
    have c3 : (grow (w.drewN m) os).cell? (a.add (i * 3)) = some (.int .i64 r.left) := (hX.cell (p := a.add (i * 3)) (by rw [add_block]; omega)).trans hc
    refine (hfn _ a i r.left c1 c2 hi c3).mono ?_
    rintro e X' ⟨rfl, m', rfl⟩
    exact ⟨rfl, m', #[], (grow_empty _).symm⟩) hm
  refine h.mono ?_
  rintro e w' ⟨rfl, q', os, rfl⟩
  exact ⟨rfl, below_grown_sl _ _ _ _ (Nat.le_refl _)⟩
set_option maxRecDepth 100000 in
set_option maxHeartbeats 1000000 in
theorem grules_any (w : World) (B : Nat) (ta va ra : Option Addr) (tl tc vl vc rc : Nat) (R : List Rl) (v : Int) (hR : RulesAt B w (.slice ra R.length rc) R) (hB : B ≤ w.heap.size) (hs : Sorted R) (hn : R.length < 4611686018427387904) :
    Calls Tryz.prog 56 #[.agg #[.slice ta tl tc, .slice va vl vc, .slice ra R.length rc], .int .i64 v] w fun e w' => e = .returned (.tuple #[.int .i64 (fromN R v), .int .i64 (toN R v)]) ∧ Below w.heap.size w w' := by
  have b0 := (Blk.new w 25 #[.slice ta tl tc, .slice va vl vc, .slice ra R.length rc]).alloc (.cells #[.int .i64 v] 3)
  have b1 := Blk.new (w.alloc (.cells #[.slice ta tl tc, .slice va vl vc, .slice ra R.length rc] 25)) 3 #[.int .i64 v]
  rw [World.size_alloc] at b1
  have hbl : Below w.heap.size w ((w.alloc (.cells #[.slice ta tl tc, .slice va vl vc, .slice ra R.length rc] 25)).alloc (.cells #[.int .i64 v] 3)) := ((Below.refl _ w).alloc (Nat.le_refl _) _).alloc (by rw [World.size_alloc]; omega) _
  have hz : ((w.alloc (.cells #[.slice ta tl tc, .slice va vl vc, .slice ra R.length rc] 25)).alloc (.cells #[.int .i64 v] 3)).heap.size = w.heap.size + 1 + 1 := by simp
  have hR2 := hR.below (hbl.mono hB)
  generalize hW2 : (w.alloc (.cells #[.slice ta tl tc, .slice va vl vc, .slice ra R.length rc] 25)).alloc (.cells #[.int .i64 v] 3) = w2 at *
  have h1 := search_any w2 B w.heap.size (w.heap.size + 1) ta va ra tl tc vl vc rc R v 82 (fun lf => decide (v ≤ lf)) goes_rules1 hR2 (by omega) b0 b1 hn (fun X a i lf => rules1_any X _ _ a _ _ i v lf) (fun a b h1 h2 h3 => by have := hs a b h1 h2; simp at h3 ⊢; omega)
  have h2 : ∀ w3, Below w2.heap.size w2 w3 → _ := fun w3 hb => search_any w3 B w.heap.size (w.heap.size + 1) ta va ra tl tc vl vc rc R v 83 (fun lf => decide (v < lf)) goes_rules2 (hR2.below (hb.mono (by omega))) (by have := hb.size; omega) (b0.below hb b0.lt) (b1.below hb b1.lt) hn (fun X a i lf => rules2_any X _ _ a _ _ i v lf) (fun a b h1 h2 h3 => by have := hs a b h1 h2; simp at h3 ⊢; omega)
  have H2 := Lib.hid h2
  have HBL := Lib.hid hbl
  have HZ := Lib.hid hz
  have e2 := b0.cell 2
  simp only [List.getElem?_toArray, List.getElem?_cons_zero, List.getElem?_cons_succ] at e2
  have hf1 : ((List.range R.length).countP fun i => !(fun lf => decide (v ≤ lf)) (lefts R i)) = fromN R v := rfl
  rw [hf1] at h1
  clear hR hR2 hs h2 hbl hf1 hz
  have HB0 := Lib.hid b0
  clear b0 b1
  go_enter Tryz.func56, Tryz.ntmps56
  go_wp2_with fail
  refine h1.mono ?_
  rintro e w3 ⟨rfl, hb3⟩
  have h2 := H2.out w3 hb3
  have hf2 : ((List.range R.length).countP fun i => !(fun lf => decide (v < lf)) (lefts R i)) = toN R v := rfl
  rw [hf2] at h2
  have d := HB0.out.below hb3 HB0.out.lt
  have d2 := d.cell 2
  simp only [List.getElem?_toArray, List.getElem?_cons_zero, List.getElem?_cons_succ] at d2
  have HB3 := Lib.hid hb3
  clear hb3 hf2 e2 d h1
  go_wp2_with fail
  refine h2.mono ?_
  rintro e w4 ⟨rfl, hb4⟩
  have HB4 := Lib.hid hb4
  clear hb4 h2
  go_wp2
  go_ret2
  exact ⟨rfl, (HBL.out.trans (HB3.out.mono (by have := HZ.out; omega))).trans (HB4.out.mono (by have := HZ.out; have := HB3.out.size; omega))⟩
end Go.Proofs.YtomikgkoegkofaaGreatDoor.dv
namespace Go.Proofs.YtomikgkoegkofaaGreatDoor.dv
open Go.ChangeShapes Go.WideShapes Go.ChangeAt Go.RowKit Go.Maps Go.WideMaps Go.WideElems Go.Shelf Go.Lib
set_option linter.unusedVariables false
set_option linter.unusedSimpArgs false
/-! Print, of rules that all weigh 0 -/
def rightOf (R : List Rl) (i : Nat) : List Int := (R.getD i ⟨0, [], 0⟩).right
def altsB (VS TS : List ByteArray) (R : List Rl) (f : Nat) : Nat → List UInt8
  | 0 => []
  | n + 1 => altsB VS TS R f n ++ (if n = 0 then [] else [32, 124]) ++ ruleB VS TS (rightOf R (f + n))
def varB (VS TS : List ByteArray) (R : List Rl) (v : Nat) : List UInt8 := (VS.getD v ByteArray.empty).data.toList ++ [32, 61] ++ altsB VS TS R (fromN R v) (toN R v - fromN R v) ++ [32, 59, 10]
def printB (VS TS : List ByteArray) (R : List Rl) : Nat → List UInt8
  | 0 => []
  | v + 1 => printB VS TS R v ++ varB VS TS R v
theorem toN_le (R : List Rl) (v : Int) : toN R v ≤ R.length := by
  unfold toN
  exact Nat.le_trans List.countP_le_length (by simp)
theorem altsB_len {VS TS : List ByteArray} {R : List Rl} (hSV : Short VS) (hST : Short TS) (h8 : ∀ i, (rightOf R i).length ≤ 100) (f : Nat) : ∀ n, (altsB VS TS R f n).length ≤ 100302 * n
  | 0 => Nat.le_refl _
  | n + 1 => by
    have ih := altsB_len hSV hST h8 f n
    have h := ruleB_len hSV hST (rightOf R (f + n))
    have h2 := h8 (f + n)
    rw [altsB, List.length_append, List.length_append]
    have : (if n = 0 then ([] : List UInt8) else [32, 124]).length ≤ 2 := by split <;> simp
    omega
theorem printB_len {VS TS : List ByteArray} {R : List Rl} (hSV : Short VS) (hST : Short TS) (h8 : ∀ i, (rightOf R i).length ≤ 100) (hR : R.length ≤ 100) : ∀ n, (printB VS TS R n).length ≤ 10040000 * n
  | 0 => Nat.le_refl _
  | n + 1 => by
    have ih := printB_len hSV hST h8 hR n
    have h := altsB_len hSV hST h8 (fromN R n) (toN R n - fromN R n)
    have h2 := toN_le R n
    have h3 := getD_short hSV n
    have e : (VS.getD n ByteArray.empty).data.toList.length = (VS.getD n ByteArray.empty).size := Array.length_toList
    rw [printB, varB]
    simp only [List.length_append, List.length_cons, List.length_nil]
    have : 100302 * (toN R n - fromN R n) ≤ 100302 * 100 := Nat.mul_le_mul_left _ (by omega)
    omega
theorem right_mem {R : List Rl} {i : Nat} (h : i < R.length) : R.getD i ⟨0, [], 0⟩ ∈ R := by
  rw [List.getD_eq_getElem?_getD, List.getElem?_eq_getElem h]
  exact List.getElem_mem _
set_option maxHeartbeats 4000000 in
set_option maxRecDepth 100000 in
theorem print_any (w : World) (B0 : Nat) (ta va ra : Option Addr) (tc vc rc : Nat) (R : List Rl) (VS TS : List ByteArray) (hR : RulesAt B0 w (.slice ra R.length rc) R) (hV : TxtAt B0 w (.slice va VS.length vc) VS) (hT : TxtAt B0 w (.slice ta TS.length tc) TS) (hB : B0 ≤ w.heap.size) (hs : Sorted R) (hRl : R.length ≤ 100) (hVl : VS.length ≤ 100) (hw : ∀ r ∈ R, r.wt = 0 ∧ r.right.length ≤ 100 ∧ ∀ s ∈ r.right, symB VS TS s) (hSV : Short VS) (hST : Short TS) :
    Calls Tryz.prog 24 #[.agg #[.slice ta TS.length tc, .slice va VS.length vc, .slice ra R.length rc]] w fun e w' => e = .returned (.string ⟨(printB VS TS R VS.length).toArray⟩) ∧ Below w.heap.size w w' := by
  have b0 := (Blk.new w 25 #[.slice ta TS.length tc, .slice va VS.length vc, .slice ra R.length rc]).alloc (.cells #[.pointer none, .slice none 0 0] 83)
  have hbd := Lib.fresh_isBuilder 83 5 (w.alloc (.cells #[.slice ta TS.length tc, .slice va VS.length vc, .slice ra R.length rc] 25))
  rw [World.size_alloc] at hbd
  have hbl : Below w.heap.size w ((w.alloc (.cells #[.slice ta TS.length tc, .slice va VS.length vc, .slice ra R.length rc] 25)).alloc (.cells #[.pointer none, .slice none 0 0] 83)) := ((Below.refl _ w).alloc (Nat.le_refl _) _).alloc (by rw [World.size_alloc]; omega) _
  have hz : ((w.alloc (.cells #[.slice ta TS.length tc, .slice va VS.length vc, .slice ra R.length rc] 25)).alloc (.cells #[.pointer none, .slice none 0 0] 83)).heap.size = w.heap.size + 1 + 1 := by simp
  have h8 : ∀ i, (rightOf R i).length ≤ 100 := fun i => by
    unfold rightOf
    by_cases hi : i < R.length
    · exact (hw _ (right_mem hi)).2.1
    · rw [List.getD_eq_getElem?_getD, List.getElem?_eq_none (by omega)]
      exact Nat.zero_le _
  have HR := Lib.hid (hR.below (hbl.mono hB))
  have HV := Lib.hid (hV.below (hbl.mono hB))
  have HT := Lib.hid (hT.below (hbl.mono hB))
  generalize hW2 : (w.alloc (.cells #[.slice ta TS.length tc, .slice va VS.length vc, .slice ra R.length rc] 25)).alloc (.cells #[.pointer none, .slice none 0 0] 83) = w2 at *
  have HB0 := Lib.hid b0
  have HBL := Lib.hid hbl
  have HZ := Lib.hid hz
  have HW := Lib.hid hw
  have HS := Lib.hid hs
  have H8 := Lib.hid h8
  have HRL := Lib.hid hRl
  have HVL := Lib.hid hVl
  have HBD : Hid (Bld (w.heap.size + 1) (w.heap.size + 1) [] w2) := Lib.hid hbd
  have HBB := Lib.hid hB
  have e1 := b0.cell 1
  simp only [List.getElem?_toArray, List.getElem?_cons_zero, List.getElem?_cons_succ] at e1
  have hV63 : VS.length ≤ 9223372036854775807 := by omega
  clear hR hV hT b0 hbl hz hw hs h8 hbd hRl hVl hB
  go_enter Tryz.func24, Tryz.ntmps24
  go_wp2
  go_loopw [12] (fun q wr => ∃ v : Nat, v ≤ VS.length ∧ q = .int .i64 v ∧ Bld (w.heap.size + 1) (w.heap.size + 1) (printB VS TS R v) wr ∧ Below (w.heap.size + 1) w2 wr) (fun q _ => VS.length - (intOf q).toNat)
  case atStart => exact ⟨0, Nat.zero_le _, rfl, HBD.out, Below.refl _ _⟩
  case round =>
    obtain ⟨v, hv, rfl, hbd, hbr⟩ := hrel
    have HBR := Lib.hid hbr
    have HBK := Lib.hid hbd
    have HZR := Lib.hid (show w.heap.size + 1 + 1 ≤ wr.heap.size by have := hbr.size; have := HZ.out; omega)
    clear hbd hbr e1
    by_cases hlt : v < VS.length
    · obtain ⟨a, hae, hab, hca⟩ := (HV.out.below (HBR.out.mono (by have := HBB.out; omega))).cell hlt
      subst hae
      have hnl := getD_short hSV v
      have hpl := printB_len (VS := VS) (TS := TS) hSV hST H8.out HRL.out v
      have hpv : printB VS TS R (v + 1) = printB VS TS R v ++ ((VS.getD v ByteArray.empty).data.toList ++ [32, 61] ++ altsB VS TS R (fromN R v) (toN R v - fromN R v) ++ [32, 59, 10]) := rfl
      have HPV := Lib.hid hpv
      generalize VS.getD v ByteArray.empty = nm at *
      have hw3 := write_any (w.heap.size + 1) (w.heap.size + 1) (printB VS TS R v) (nm ++ ⟨#[32, 61]⟩) wr HBK.out (by
        rw [ByteArray.size_append]
        have e : ByteArray.size ⟨#[32, 61]⟩ = 2 := rfl
        have := HVL.out
        omega) (by have := HZR.out; omega)
      have HPL := Lib.hid hpl
      clear hpl hpv
      go_wp2_with fail
      refine hw3.mono ?_
      rintro e w3 ⟨rfl, hbd3, hb3, ho3⟩
      have HB3 := Lib.hid (HBR.out.trans hb3)
      have HBD3 := Lib.hid hbd3
      have HZ3 := Lib.hid (show w.heap.size + 1 + 1 ≤ w3.heap.size by have := hb3.size; have := HZR.out; omega)
      have g3 := HB0.out.below HB3.out (by omega)
      have q0 := g3.cell 0
      have q1 := g3.cell 1
      have q2 := g3.cell 2
      simp only [List.getElem?_toArray, List.getElem?_cons_zero, List.getElem?_cons_succ] at q0 q1 q2
      have hgr := grules_any w3 B0 ta (some a) ra TS.length tc VS.length vc rc R v (HR.out.below (HB3.out.mono (by have := HBB.out; omega))) (by have := HBB.out; have := HZ3.out; omega) HS.out (by have := HRL.out; omega)
      clear hbd3 hb3 ho3 hw3 hca g3
      go_wp2_with fail
      refine hgr.mono ?_
      rintro e w4 ⟨rfl, hb4⟩
      have HB4 := Lib.hid (HB3.out.trans (hb4.mono (by have := HZ3.out; omega)))
      have HBD4 := Lib.hid (HBD3.out.keep hb4)
      have HZ4 := Lib.hid (show w.heap.size + 1 + 1 ≤ w4.heap.size by have := hb4.size; have := HZ3.out; omega)
      have hto := toN_le R v
      have HFR := Lib.hid (show fromN R (v : Int) ≤ R.length from Nat.le_trans List.countP_le_length (by simp))
      generalize fromN R (v : Int) = fr at *
      generalize toN R (v : Int) = to at *
      have HTO := Lib.hid hto
      have hfr := HFR.out
      have hls : (printB VS TS R v ++ (nm ++ ⟨#[32, 61]⟩).data.toList).length ≤ 10040000 * v + 1002 := by
        have := HPL.out
        have e : (nm ++ ⟨#[32, 61]⟩).data.toList.length = (nm ++ ⟨#[32, 61]⟩).size := Array.length_toList
        rw [ByteArray.size_append] at e
        have e2 : ByteArray.size ⟨#[32, 61]⟩ = 2 := rfl
        rw [List.length_append, e]
        omega
      have HLS : Hid (∃ ls, ls = printB VS TS R v ++ (nm ++ ⟨#[32, 61]⟩).data.toList) := Lib.hid ⟨_, rfl⟩
      obtain ⟨ls, hlse⟩ := HLS.out
      rw [← hlse] at HBD4 hls
      have HPRE := Lib.hid hls
      have HLSE := Lib.hid hlse
      clear hls hlse HLS HBD3
      go_wp2
      go_loopw [8] (fun q wi => ∃ i : Nat, fr ≤ i ∧ (fr < i → i ≤ to) ∧ q = .int .i64 i ∧ Bld (w.heap.size + 1) (w.heap.size + 1) (ls ++ altsB VS TS R fr (i - fr)) wi ∧ Below (w.heap.size + 1) w2 wi) (fun q _ => to - (intOf q).toNat)
      case atStart => exact ⟨fr, Nat.le_refl _, fun h => absurd h (Nat.lt_irrefl _), rfl, by rw [Nat.sub_self]; simpa [altsB] using HBD4.out, HB4.out⟩
      case round =>
        obtain ⟨i, hi1, hi2, rfl, hbi, hri⟩ := hrel
        have HBI := Lib.hid hbi
        have HRI := Lib.hid hri
        have HZI := Lib.hid (show w.heap.size + 1 + 1 ≤ wr.heap.size by have := hri.size; have := HZ.out; omega)
        have HI2 := Lib.hid hi2
        clear hbi hri hi2
        have ho1 := HTO.out
        have ho2 := HRL.out
        by_cases hit : i < to
        · have hiR : i < R.length := by omega
          have hlt1 : (i : Int) < (to : Int) := by omega
          have hlt2 : (i : Int) < (R.length : Int) := by omega
          clear ho1 ho2
          by_cases hif : fr < i
          · have hgt : decide ((fr : Int) < (i : Int)) = true := decide_eq_true (by omega)
            have hw5 := write_any (w.heap.size + 1) (w.heap.size + 1) (ls ++ altsB VS TS R fr (i - fr)) ⟨#[32, 124]⟩ wr HBI.out (by
              have h1 := altsB_len (VS := VS) (TS := TS) hSV hST H8.out fr (i - fr)
              have h2 := HPRE.out
              have h3 := HVL.out
              have h4 := HTO.out
              have h5 := HRL.out
              have e : ByteArray.size ⟨#[32, 124]⟩ = 2 := rfl
              rw [List.length_append]
              omega) (by have := HZI.out; omega)
            go_wp2_with fail
            refine hw5.mono ?_
            rintro e wj ⟨rfl, hbdj, hbj, _⟩
            have HBJ := Lib.hid (HRI.out.trans hbj)
            have HBDJ : Hid (Bld (w.heap.size + 1) (w.heap.size + 1) (ls ++ altsB VS TS R fr (i - fr) ++ [32, 124]) wj) := Lib.hid hbdj
            have HZJ := Lib.hid (show w.heap.size + 1 + 1 ≤ wj.heap.size by have := hbj.size; have := HZI.out; omega)
            clear hbdj hbj hw5
            go_wp2
            have gj := HB0.out.below HBJ.out (by omega)
            have j0 := gj.cell 0
            have j1 := gj.cell 1
            have j2 := gj.cell 2
            simp only [List.getElem?_toArray, List.getElem?_cons_zero, List.getElem?_cons_succ] at j0 j1 j2
            obtain ⟨a2, r, ao, cap, hae2, hab2, hrk, hc0, hc1, hc2, hcl, hcm, hcn, hru, hin1, hin2⟩ := (HR.out.below (HBJ.out.mono (by have := HBB.out; omega))).at i hiR
            subst hae2
            obtain ⟨hwt, hr100, hsym⟩ := HW.out r (List.mem_of_getElem? hrk)
            have hright : rightOf R i = r.right := by unfold rightOf; rw [List.getD_eq_getElem?_getD, hrk]; rfl
            obtain ⟨lf, F, wt⟩ := r
            dsimp only at hwt hr100 hsym hright hc0 hc1 hc2 hcl hru hin1 hin2
            subst hwt
            have hpr := fun m => printRule_any (wj.drewN m) (w.heap.size + 1) (w.heap.size + 1) ta (some a) (some a2) tc vc R.length rc VS TS lf F ao cap (ls ++ altsB VS TS R fr (i - fr) ++ [32, 124]) ((HV.out.below (HBJ.out.mono (by have := HBB.out; omega))).weak (by have := HBB.out; omega)) ((HT.out.below (HBJ.out.mono (by have := HBB.out; omega))).weak (by have := HBB.out; omega)) (by have := HZJ.out; show w.heap.size + 1 ≤ wj.heap.size; omega) (fun j hj => by
              obtain ⟨x, e1, e2, e3⟩ := hru j hj
              exact ⟨x, e1, by have := HBB.out; omega, e3⟩) hr100 (fun s hs => ⟨hin1 s hs, hsym s hs⟩) hSV hST HBDJ.out (by
              have h1 := altsB_len (VS := VS) (TS := TS) hSV hST H8.out fr (i - fr)
              have h2 := HPRE.out
              have h3 := HVL.out
              have h4 := HTO.out
              have h5 := HRL.out
              simp only [List.length_append, List.length_cons, List.length_nil]
              omega)
            have HPR := Lib.hid hpr
            have HRG := Lib.hid hright
            clear hpr gj hru hin1 hin2 hrk hright hsym
            refine wp_region_E (fun U => (U.cell? ⟨w.heap.size, 0, none⟩ = some (.slice ta TS.length tc) ∧ U.cell? ⟨w.heap.size, 1, none⟩ = some (.slice (some a) VS.length vc) ∧ U.cell? ⟨w.heap.size, 2, none⟩ = some (.slice (some a2) R.length rc)) ∧ U.cell? (a2.add (i * 3)) = some (.int .i64 lf) ∧ U.cell? { block := (a2.add (i * 3)).block, off := (a2.add (i * 3)).off + 1 } = some (.slice ao F.length cap) ∧ U.cell? { block := (a2.add (i * 3)).block, off := (a2.add (i * 3)).off + 2 } = some (.float .f64 0)) [6] (by kernel_rfl) ?_
            have HS1 : _ := And.intro (And.intro (DRC wj _ _ j0) (And.intro (DRC wj _ _ j1) (DRC wj _ _ j2))) (And.intro (DRC wj _ _ hc0) (And.intro (DRC wj _ _ hc1) (DRC wj _ _ hc2)))
            change anyE _ _ _ _ _ _ _ _ _ (World.drew _)
            refine anyE_take (i := 0) (v := ?_) rfl (by kernel_rfl) (by kernel_rfl) (by kernel_rfl) (by kernel_rfl) (by kernel_rfl) (fun _ _ _ h => h) (Or.inl ⟨by kernel_rfl, ?_⟩) HS1 ?_
            rotate_left
            · intro w hw; obtain ⟨⟨k0, k1, k2⟩, _⟩ := hw; go_simp; with_reducible rfl
            refine anyE_take (i := 1) (v := ?_) rfl (by kernel_rfl) (by kernel_rfl) (by kernel_rfl) (by kernel_rfl) (by kernel_rfl) (fun _ _ _ h => h) (Or.inl ⟨by kernel_rfl, ?_⟩) HS1 ?_
            rotate_left
            · intro w hw; go_simp; with_reducible rfl
            refine anyE_take (i := 2) (v := ?_) rfl (by kernel_rfl) (by kernel_rfl) (by kernel_rfl) (by kernel_rfl) (by kernel_rfl) (fun _ _ _ h => h) (Or.inl ⟨by kernel_rfl, ?_⟩) HS1 ?_
            rotate_left
            · intro w hw; obtain ⟨⟨k0, k1, k2⟩, _⟩ := hw; go_simp; with_reducible rfl
            refine anyE_take (i := 3) (v := ?_) rfl (by kernel_rfl) (by kernel_rfl) (by kernel_rfl) (by kernel_rfl) (by kernel_rfl) (fun _ _ _ h => h) (Or.inl ⟨by kernel_rfl, ?_⟩) HS1 ?_
            rotate_left
            · intro w hw; go_simp; with_reducible rfl
            refine anyE_take (i := 4) (v := ?_) rfl (by kernel_rfl) (by kernel_rfl) (by kernel_rfl) (by kernel_rfl) (by kernel_rfl) (fun _ _ _ h => h) (Or.inl ⟨by kernel_rfl, ?_⟩) HS1 ?_
            rotate_left
            · intro w hw; go_simp; with_reducible rfl
            refine anyE_take (i := 5) (v := ?_) rfl (by kernel_rfl) (by kernel_rfl) (by kernel_rfl) (by kernel_rfl) (by kernel_rfl) (fun _ _ _ h => h) (Or.inl ⟨by kernel_rfl, ?_⟩) HS1 ?_
            rotate_left
            · intro w hw; obtain ⟨_, k0, k1, k2⟩ := hw; go_simp; with_reducible rfl
            refine anyE_rest (by kernel_rfl) ?_
            refine wpAny_ready (rs := [6]) (by kernel_rfl) (by simp) ?_
            refine AllReady.cons rfl (fun K hK => ?_) AllReady.nil
            go_simp
            go_at_call 57
            refine (HPR.out 1).mono ?_
            rintro e w6 ⟨rfl, hbd6, hb6, ho6⟩
            refine hK _ _ ?_
            clear hK K
            refine wpAny_done (by kernel_rfl) ?_ _
            have HB6 := Lib.hid (HBJ.out.trans ((Below.refl (w.heap.size + 1) wj).drew.trans hb6))
            have HBD6 := Lib.hid hbd6
            clear hbd6 hb6 ho6 HS1 j0 j1 j2 hc0 hc1 hc2
            have hi63 : i ≤ 100 := by have := HRL.out; omega
            go_wp2
            have hz6 := HB6.out.size
            refine ⟨⟨i + 1, by omega, by omega, congrArg (Value.int .i64) (by omega), ?_, HB6.out⟩, by simp only [intOf]; omega⟩
            have e1 : i + 1 - fr = (i - fr) + 1 := by omega
            have e2 : fr + (i - fr) = i := by omega
            have := HBD6.out
            rw [e1, altsB, e2, HRG.out]
            rw [if_neg (by omega)]
            simpa [List.append_assoc] using this
          · obtain rfl : i = fr := by omega
            have HBJ := HRI
            have HBDJ : Hid (Bld (w.heap.size + 1) (w.heap.size + 1) (ls ++ altsB VS TS R i (i - i) ++ []) wr) := Lib.hid (by rw [List.append_nil]; exact HBI.out)
            have HZJ := HZI
            generalize wr = wj at *
            go_wp2
            have gj := HB0.out.below HBJ.out (by omega)
            have j0 := gj.cell 0
            have j1 := gj.cell 1
            have j2 := gj.cell 2
            simp only [List.getElem?_toArray, List.getElem?_cons_zero, List.getElem?_cons_succ] at j0 j1 j2
            obtain ⟨a2, r, ao, cap, hae2, hab2, hrk, hc0, hc1, hc2, hcl, hcm, hcn, hru, hin1, hin2⟩ := (HR.out.below (HBJ.out.mono (by have := HBB.out; omega))).at i hiR
            subst hae2
            obtain ⟨hwt, hr100, hsym⟩ := HW.out r (List.mem_of_getElem? hrk)
            have hright : rightOf R i = r.right := by unfold rightOf; rw [List.getD_eq_getElem?_getD, hrk]; rfl
            obtain ⟨lf, F, wt⟩ := r
            dsimp only at hwt hr100 hsym hright hc0 hc1 hc2 hcl hru hin1 hin2
            subst hwt
            have hpr := fun m => printRule_any (wj.drewN m) (w.heap.size + 1) (w.heap.size + 1) ta (some a) (some a2) tc vc R.length rc VS TS lf F ao cap (ls ++ altsB VS TS R i (i - i) ++ []) ((HV.out.below (HBJ.out.mono (by have := HBB.out; omega))).weak (by have := HBB.out; omega)) ((HT.out.below (HBJ.out.mono (by have := HBB.out; omega))).weak (by have := HBB.out; omega)) (by have := HZJ.out; show w.heap.size + 1 ≤ wj.heap.size; omega) (fun j hj => by
              obtain ⟨x, e1, e2, e3⟩ := hru j hj
              exact ⟨x, e1, by have := HBB.out; omega, e3⟩) hr100 (fun s hs => ⟨hin1 s hs, hsym s hs⟩) hSV hST HBDJ.out (by
              have h1 := altsB_len (VS := VS) (TS := TS) hSV hST H8.out i (i - i)
              have h2 := HPRE.out
              have h3 := HVL.out
              have h4 := HTO.out
              have h5 := HRL.out
              simp only [List.length_append, List.length_cons, List.length_nil]
              omega)
            have HPR := Lib.hid hpr
            have HRG := Lib.hid hright
            clear hpr gj hru hin1 hin2 hrk hright hsym
            refine wp_region_E (fun U => (U.cell? ⟨w.heap.size, 0, none⟩ = some (.slice ta TS.length tc) ∧ U.cell? ⟨w.heap.size, 1, none⟩ = some (.slice (some a) VS.length vc) ∧ U.cell? ⟨w.heap.size, 2, none⟩ = some (.slice (some a2) R.length rc)) ∧ U.cell? (a2.add (i * 3)) = some (.int .i64 lf) ∧ U.cell? { block := (a2.add (i * 3)).block, off := (a2.add (i * 3)).off + 1 } = some (.slice ao F.length cap) ∧ U.cell? { block := (a2.add (i * 3)).block, off := (a2.add (i * 3)).off + 2 } = some (.float .f64 0)) [6] (by kernel_rfl) ?_
            have HS1 : _ := And.intro (And.intro (DRC wj _ _ j0) (And.intro (DRC wj _ _ j1) (DRC wj _ _ j2))) (And.intro (DRC wj _ _ hc0) (And.intro (DRC wj _ _ hc1) (DRC wj _ _ hc2)))
            change anyE _ _ _ _ _ _ _ _ _ (World.drew _)
            refine anyE_take (i := 0) (v := ?_) rfl (by kernel_rfl) (by kernel_rfl) (by kernel_rfl) (by kernel_rfl) (by kernel_rfl) (fun _ _ _ h => h) (Or.inl ⟨by kernel_rfl, ?_⟩) HS1 ?_
            rotate_left
            · intro w hw; obtain ⟨⟨k0, k1, k2⟩, _⟩ := hw; go_simp; with_reducible rfl
            refine anyE_take (i := 1) (v := ?_) rfl (by kernel_rfl) (by kernel_rfl) (by kernel_rfl) (by kernel_rfl) (by kernel_rfl) (fun _ _ _ h => h) (Or.inl ⟨by kernel_rfl, ?_⟩) HS1 ?_
            rotate_left
            · intro w hw; go_simp; with_reducible rfl
            refine anyE_take (i := 2) (v := ?_) rfl (by kernel_rfl) (by kernel_rfl) (by kernel_rfl) (by kernel_rfl) (by kernel_rfl) (fun _ _ _ h => h) (Or.inl ⟨by kernel_rfl, ?_⟩) HS1 ?_
            rotate_left
            · intro w hw; obtain ⟨⟨k0, k1, k2⟩, _⟩ := hw; go_simp; with_reducible rfl
            refine anyE_take (i := 3) (v := ?_) rfl (by kernel_rfl) (by kernel_rfl) (by kernel_rfl) (by kernel_rfl) (by kernel_rfl) (fun _ _ _ h => h) (Or.inl ⟨by kernel_rfl, ?_⟩) HS1 ?_
            rotate_left
            · intro w hw; go_simp; with_reducible rfl
            refine anyE_take (i := 4) (v := ?_) rfl (by kernel_rfl) (by kernel_rfl) (by kernel_rfl) (by kernel_rfl) (by kernel_rfl) (fun _ _ _ h => h) (Or.inl ⟨by kernel_rfl, ?_⟩) HS1 ?_
            rotate_left
            · intro w hw; go_simp; with_reducible rfl
            refine anyE_take (i := 5) (v := ?_) rfl (by kernel_rfl) (by kernel_rfl) (by kernel_rfl) (by kernel_rfl) (by kernel_rfl) (fun _ _ _ h => h) (Or.inl ⟨by kernel_rfl, ?_⟩) HS1 ?_
            rotate_left
            · intro w hw; obtain ⟨_, k0, k1, k2⟩ := hw; go_simp; with_reducible rfl
            refine anyE_rest (by kernel_rfl) ?_
            refine wpAny_ready (rs := [6]) (by kernel_rfl) (by simp) ?_
            refine AllReady.cons rfl (fun K hK => ?_) AllReady.nil
            go_simp
            go_at_call 57
            refine (HPR.out 1).mono ?_
            rintro e w6 ⟨rfl, hbd6, hb6, ho6⟩
            refine hK _ _ ?_
            clear hK K
            refine wpAny_done (by kernel_rfl) ?_ _
            have HB6 := Lib.hid (HBJ.out.trans ((Below.refl (w.heap.size + 1) wj).drew.trans hb6))
            have HBD6 := Lib.hid hbd6
            clear hbd6 hb6 ho6 HS1 j0 j1 j2 hc0 hc1 hc2
            have hi63 : i ≤ 100 := by have := HRL.out; omega
            go_wp2
            have hz6 := HB6.out.size
            refine ⟨⟨i + 1, by omega, by omega, congrArg (Value.int .i64) (by omega), ?_, HB6.out⟩, by simp only [intOf]; omega⟩
            have e1 : i + 1 - i = (i - i) + 1 := by omega
            have e2 : i + (i - i) = i := by omega
            have := HBD6.out
            rw [e1, altsB, e2, HRG.out]
            rw [if_pos (by omega)]
            simpa [List.append_assoc] using this
        · have hge : decide ((i : Int) < (to : Int)) = false := decide_eq_false (by omega)
          have hw5 := write_any (w.heap.size + 1) (w.heap.size + 1) (ls ++ altsB VS TS R fr (i - fr)) ⟨#[32, 59, 10]⟩ wr HBI.out (by
            have h1 := altsB_len (VS := VS) (TS := TS) hSV hST H8.out fr (i - fr)
            have h2 := HPRE.out
            have h3 := HVL.out
            have h4 := HTO.out
            have h5 := HRL.out
            have h6 := HI2.out
            have h7 := HFR.out
            have e : ByteArray.size ⟨#[32, 59, 10]⟩ = 3 := rfl
            have : i ≤ R.length := by omega
            rw [List.length_append]
            omega) (by have := HZI.out; omega)
          go_wp2_with fail
          refine hw5.mono ?_
          rintro e wj ⟨rfl, hbdj, hbj, _⟩
          have HBJ := Lib.hid (HRI.out.trans hbj)
          have HBDJ := Lib.hid hbdj
          clear hbdj hbj hw5
          go_wp2
          refine ⟨⟨v + 1, hlt, congrArg (Value.int .i64) (by omega), ?_, HBJ.out⟩, by simp only [intOf]; omega⟩
          have h6 := HI2.out
          have h := HBDJ.out
          rw [HLSE.out] at h
          rw [HPV.out, show to - fr = i - fr by omega]
          simpa [List.append_assoc, ByteArray.data_append] using h
    · obtain rfl : v = VS.length := by omega
      have hst := string_any (w.heap.size + 1) (w.heap.size + 1) (printB VS TS R VS.length) wr HBK.out (by have := HZR.out; omega)
      go_wp2_with fail
      refine hst.mono ?_
      rintro e w3 ⟨rfl, hb3⟩
      have HB3 := Lib.hid hb3
      clear hb3 hst
      go_wp2
      go_ret
      exact ⟨rfl, HBL.out.trans ((HBR.out.trans HB3.out).mono (by omega))⟩
end Go.Proofs.YtomikgkoegkofaaGreatDoor.dv
namespace Go.Proofs.YtomikgkoegkofaaGreatDoor.dv
open Go.ChangeShapes Go.WideShapes Go.ChangeAt Go.RowKit Go.Maps Go.WideMaps Go.WideElems
set_option linter.unusedVariables false
set_option linter.unusedSimpArgs false
/-! rules that are taken out of a grammar -/
attribute [local go_sem] run_store_fl
/-- a function value that tells something of rules -/
def TellsR (fn : Nat) (cap : Array Value) (p : Rl → Bool) (w : World) : Prop := ∀ (r : Rl) (ao : Option Addr) (cp : Nat) (W : World), Below w.heap.size w W → RowAt W (.slice ao r.right.length cp) r.right → Calls Tryz.prog fn (#[RlV r ao cp] ++ cap) W fun e W' => e = .returned (.bool (p r)) ∧ Below W.heap.size W W'
abbrev Ru := Rl × Option Addr × Nat
def RC (L : List Ru) : List Value := L.flatMap fun x => [.int .i64 x.1.left, .slice x.2.1 x.1.right.length x.2.2, .float .f64 x.1.wt]
theorem rc_snoc (L : List Ru) (x : Ru) : RC (L ++ [x]) = RC L ++ [.int .i64 x.1.left, .slice x.2.1 x.1.right.length x.2.2, .float .f64 x.1.wt] := by unfold RC; rw [List.flatMap_append]; rfl
theorem rc_cons (x : Ru) (L : List Ru) : RC (x :: L) = .int .i64 x.1.left :: .slice x.2.1 x.1.right.length x.2.2 :: .float .f64 x.1.wt :: RC L := rfl
theorem rc_at : ∀ (L : List Ru) (i : Nat) (x : Ru), L[i]? = some x → (RC L)[i * 3]? = some (.int .i64 x.1.left) ∧ (RC L)[i * 3 + 1]? = some (.slice x.2.1 x.1.right.length x.2.2) ∧ (RC L)[i * 3 + 2]? = some (.float .f64 x.1.wt)
  | y :: L, 0, x, h => by cases h; exact ⟨rfl, rfl, rfl⟩
  | y :: L, i + 1, x, h => by
    obtain ⟨h1, h2, h3⟩ := rc_at L i x (by simpa using h)
    rw [rc_cons, show (i + 1) * 3 = i * 3 + 1 + 1 + 1 by omega]
    exact ⟨by simpa using h1, by rw [show i * 3 + 1 + 1 + 1 + 1 = (i * 3 + 1) + 1 + 1 + 1 by omega]; simpa using h2, by rw [show i * 3 + 1 + 1 + 1 + 2 = (i * 3 + 2) + 1 + 1 + 1 by omega]; simpa using h3⟩
/-- what is below B of rules -/
def InR (B : Nat) (w : World) (x : Ru) : Prop := RowUnder B w x.2.1 x.1.right ∧ x.1.right.length ≤ x.2.2 ∧ x.2.2 ≤ maxLen ∧ (x.2.1 = none → x.2.2 = 0) ∧ (∀ n ∈ x.1.right, In64 n) ∧ In64 x.1.left
theorem RowUnder.below {B : Nat} {w w' : World} {ao : Option Addr} {F : List Int} (h : RowUnder B w ao F) (hb : Below B w w') : RowUnder B w' ao F := fun j hj => by
  obtain ⟨a, e, hab, hc⟩ := h j hj
  exact ⟨a, e, hab, (hb.cell (p := a.add j) (by rw [add_block]; exact hab)).trans hc⟩
theorem RowUnder.weak {B B' : Nat} {w : World} {ao : Option Addr} {F : List Int} (h : RowUnder B w ao F) (hb : B ≤ B') : RowUnder B' w ao F := fun j hj => by
  obtain ⟨a, e, hab, hc⟩ := h j hj
  exact ⟨a, e, by omega, hc⟩
theorem InR.below {B : Nat} {w w' : World} {x : Ru} (h : InR B w x) (hb : Below B w w') : InR B w' x := ⟨RowUnder.below h.1 hb, h.2⟩
theorem InR.weak {B B' : Nat} {w : World} {x : Ru} (h : InR B w x) (hb : B ≤ B') : InR B' w x := ⟨RowUnder.weak h.1 hb, h.2⟩
theorem InR.row {B : Nat} {w : World} {x : Ru} (h : InR B w x) (hB : B ≤ w.heap.size) : RowAt w (.slice x.2.1 x.1.right.length x.2.2) x.1.right := ⟨_, _, rfl, h.2.1, h.2.2.1, h.2.2.2.1, h.2.2.2.2.1, fun i hi => by
  obtain ⟨a, e, hab, hc⟩ := h.1 i hi
  exact ⟨a, e, by omega, hc⟩⟩
/-- rules of one's own in memory are rules -/
theorem own_rules {w : World} {B b : Nat} {v : Value} {L : List Ru} (h : w.ownsRow b 44 3 v L.length (RC L)) (hin : ∀ x ∈ L, InR B w x) (hB : B ≤ w.heap.size) : RulesAt w.heap.size w v (L.map (·.1)) := by
  have hlt := fun k hk => (World.ownsRow.lt h k hk).2
  rcases h.2 with ⟨rfl, h0⟩ | ⟨g, cap, cur, rfl, _, hg, hnc, hcm, _⟩
  · refine ⟨none, 0, by rw [List.length_map, h0], by rw [List.length_map, h0]; exact Nat.zero_le _, fun k r hk => ?_⟩
    have hL : L = [] := List.length_eq_zero_iff.1 h0
    subst hL
    cases hk
  · refine ⟨_, cap, by rw [List.length_map], by rw [List.length_map]; omega, fun k r hk => ⟨_, rfl, hlt g rfl, ?_⟩⟩
    rw [List.getElem?_map] at hk
    obtain ⟨x, hx, rfl⟩ := Option.map_eq_some_iff.1 hk
    obtain ⟨h1, h2, h3⟩ := rc_at L k x hx
    have hi := hin x (List.mem_of_getElem? hx)
    have hkl := (List.getElem?_eq_some_iff.1 hx).1
    have hc : ∀ j u, j < L.length * 3 → (RC L)[j]? = some u → w.cell? ((⟨g, 0, none⟩ : Addr).add j) = some u := fun j u hj hu => by
      rw [zero_add_addr]
      exact (h.cellAt j hj).trans hu
    exact ⟨x.2.1, x.2.2, hc _ _ (by omega) h1, hc _ _ (by omega) h2, hc _ _ (by omega) h3, hi.2.1, hi.2.2.1, hi.2.2.2.1, RowUnder.weak hi.1 hB, hi.2.2.2.2.1, hi.2.2.2.2.2⟩
theorem info_rule : (Tryz.prog.info? 44).map (fun i => (i.zero, i.size, i.bytes)) = some (some (.agg #[.int .i64 0, .slice none 0 0, .float .f64 0]), 3, 40) := by kernel_rfl
theorem filter_snoc {p : Rl → Bool} {R : List Rl} {k : Nat} {r : Rl} (h : R[k]? = some r) : (R.take (k + 1)).filter p = (R.take k).filter p ++ if p r then [r] else [] := by
  obtain ⟨hk, e⟩ := List.getElem?_eq_some_iff.1 h
  rw [List.take_succ_eq_append_getElem hk, List.filter_append, e]
  cases hp : p r <;> simp [hp]
set_option maxRecDepth 100000 in
set_option maxHeartbeats 4000000 in
theorem rulesOf_any (w : World) (B : Nat) (ta va ra : Option Addr) (tl tc vl vc rc : Nat) (R : List Rl) (fn : Nat) (cap : Array Value) (p : Rl → Bool) (hR : RulesAt B w (.slice ra R.length rc) R) (hB : B ≤ w.heap.size) (hRl : R.length ≤ 1000) (hgo : Goes fn) (hp : TellsR fn cap p w) :
    Calls Tryz.prog 49 #[.agg #[.slice ta tl tc, .slice va vl vc, .slice ra R.length rc], .func (.func fn) #[] cap] w fun e w' => ∃ v L, e = .returned v ∧ L.map (·.1) = R.filter p ∧ w'.ownsRow w.heap.size 44 3 v L.length (RC L) ∧ (∀ x ∈ L, InR B w' x) ∧ Below w.heap.size w w' := by
  obtain ⟨i0, hi, hz0, hz1, hz2⟩ := info_parts info_rule
  have hg : ∀ (r : Value) (w : World), (callFunc fn (#[r] ++ cap)).run Tryz.prog w = .ok (.enter fn (#[r] ++ cap)) w := fun r w => hgo _ w
  have b0 := Blk.new w 25 #[.slice ta tl tc, .slice va vl vc, .slice ra R.length rc]
  have hbl : Below w.heap.size w (w.alloc (.cells #[.slice ta tl tc, .slice va vl vc, .slice ra R.length rc] 25)) := (Below.refl _ w).alloc (Nat.le_refl _) _
  have e2 := b0.cell 2
  simp only [List.getElem?_toArray, List.getElem?_cons_zero, List.getElem?_cons_succ] at e2
  have hz : (w.alloc (.cells #[.slice ta tl tc, .slice va vl vc, .slice ra R.length rc] 25)).heap.size = w.heap.size + 1 := by simp
  generalize hW0 : w.alloc (.cells #[.slice ta tl tc, .slice va vl vc, .slice ra R.length rc] 25) = w0 at *
  have HR := Lib.hid hR
  have HP := Lib.hid hp
  have HBL := Lib.hid hbl
  have HZ := Lib.hid hz
  have hR63 : R.length ≤ 9223372036854775807 := by omega
  clear hR hp hgo hz hbl b0
  go_enter Tryz.func49, Tryz.ntmps49
  go_wp2
  go_loopw [5, 11] (fun v q wr => ∃ (k : Nat) (L : List Ru), k ≤ R.length ∧ q = .int .i64 k ∧ L.map (·.1) = (R.take k).filter p ∧ wr.ownsRow w.heap.size 44 3 v L.length (RC L) ∧ (∀ x ∈ L, InR B wr x) ∧ Below w.heap.size w wr ∧ w0.heap.size ≤ wr.heap.size) (fun _ q _ => R.length - (intOf q).toNat)
  case atStart => exact ⟨0, [], Nat.zero_le _, rfl, by simp, World.ownsRow_nil _ _ _ _, fun x hx => (by cases hx), HBL.out, Nat.le_refl _⟩
  case round =>
    obtain ⟨k, L, hk, rfl, hL, hown, hin, hbr, hzr⟩ := hrel
    have HOWN := Lib.hid hown
    have HIN := Lib.hid hin
    have HBR := Lib.hid hbr
    have HL := Lib.hid hL
    have HZR := Lib.hid hzr
    have hLk : L.length ≤ k := by
      have := congrArg List.length hL
      rw [List.length_map] at this
      rw [this]
      exact Nat.le_trans (List.length_filter_le _ _) (by rw [List.length_take]; exact Nat.min_le_left _ _)
    obtain ⟨so, sc, rfl⟩ : ∃ so sc, u5 = .slice so L.length sc := by
      rcases hown.2 with ⟨hv, h0⟩ | ⟨g, c, cur, hv, _⟩
      · exact ⟨none, 0, by rw [hv, h0]⟩
      · exact ⟨_, _, hv⟩
    have HLK := Lib.hid hLk
    clear hown hin hbr hL hLk hzr e2
    by_cases hlt : k < R.length
    · obtain ⟨a2, r, ao, cp, rfl, hab2, hrk, hc0, hc1, hc2, hcl, hcm, hcn, hru, hin1, hin2⟩ := (HR.out.below (HBR.out.mono hB)).at k hlt
      have hxin : InR B wr (r, ao, cp) := ⟨hru, hcl, hcm, hcn, hin1, hin2⟩
      have HXIN := Lib.hid hxin
      have hfs := filter_snoc (p := p) hrk
      have HFS := Lib.hid hfs
      have hwr : w.heap.size + 1 ≤ wr.heap.size := by have := HZ.out; have := HZR.out; omega
      have hA : Below wr.heap.size wr (wr.alloc (.cells #[.int .i64 r.left, .slice ao r.right.length cp, .float .f64 r.wt] 44)) := (Below.refl _ wr).alloc (Nat.le_refl _) _
      have hcall := HP.out r ao cp (wr.alloc (.cells #[.int .i64 r.left, .slice ao r.right.length cp, .float .f64 r.wt] 44)) (HBR.out.trans (hA.mono (by omega))) ((hxin.row (by omega)).below hA)
      have br := Blk.new wr 44 #[.int .i64 r.left, .slice ao r.right.length cp, .float .f64 r.wt]
      have p0 := br.cell 0
      have p1 := br.cell 1
      have p2 := br.cell 2
      simp only [List.getElem?_toArray, List.getElem?_cons_zero, List.getElem?_cons_succ] at p0 p1 p2
      unfold RlV at hcall
      have HA := Lib.hid hA
      have HBRR := Lib.hid br
      have HWR := Lib.hid hwr
      clear hru hfs hxin hrk hin1 hin2 hA br hwr
      cases hpr : p r
      · rw [hpr] at hcall
        have HPR := Lib.hid hpr
        clear hpr
        go_wp2_with fail
        refine hcall.mono ?_
        rintro e w2 ⟨rfl, hb2⟩
        have HB2 := Lib.hid (HA.out.trans (hb2.mono (by simp)))
        clear hb2 hcall p0 p1 p2 hc0 hc1 hc2
        go_wp2
        refine ⟨⟨k + 1, L, hlt, congrArg (Value.int .i64) (by omega), ?_, ownsRow_keep HOWN.out (fun g hg _ => HB2.out.block g hg), fun x hx => (HIN.out x hx).below (HB2.out.mono (by have := HWR.out; omega)), HBR.out.trans (HB2.out.mono (by have := HWR.out; omega)), Nat.le_trans HZR.out HB2.out.size⟩, by simp only [intOf]; omega⟩
        rw [HFS.out, HPR.out, HL.out]
        simp
      · rw [hpr] at hcall
        have HPR := Lib.hid hpr
        clear hpr
        go_wp2_with fail
        refine hcall.mono ?_
        rintro e w2 ⟨rfl, hb2⟩
        have HB2 := Lib.hid (HA.out.trans (hb2.mono (by simp)))
        have br2 := HBRR.out.below hb2 HBRR.out.lt
        have q0 := br2.cell 0
        have q1 := br2.cell 1
        have q2 := br2.cell 2
        simp only [List.getElem?_toArray, List.getElem?_cons_zero, List.getElem?_cons_succ] at q0 q1 q2
        have hown2 : w2.ownsRow w.heap.size 44 3 (.slice so L.length sc) L.length (RC L) := ownsRow_keep HOWN.out (fun g hg _ => HB2.out.block g hg)
        have hln : L.length ≤ 1000 := by have := HLK.out; omega
        clear hb2 hcall p0 p1 p2 hc0 hc1 hc2 br2
        go_wp2_with (at_builtin; go_must (refine wpList_append_own _ rfl _ _ 23 rfl w.heap.size 44 i0 _ 3 40 Tryz.underlying23 hi hz0 hz1 hz2 rfl (by decide) _ _ _ rfl (hown2.alloc _) ⟨w2.heap.size, 0, none⟩ 1 1 [.int .i64 r.left, .slice ao r.right.length cp, .float .f64 r.wt] rfl rfl (fun j u hj => by rw [zero_add_addr]; exact ((Blk.new w2 44 #[.int .i64 r.left, .slice ao r.right.length cp, .float .f64 r.wt]).cell j).trans (by simpa using hj)) (by intro u hu; simp at hu; rcases hu with rfl | rfl | rfl <;> rfl) (by unfold maxLen; omega) (by omega) (by have := HB2.out.size; have := HWR.out; simp; omega) ?_); intro v' w3 hown' hgrow _)
        have hg3 := (World.grownBy_alloc w2 (.cells #[.int .i64 r.left, .slice ao r.right.length cp, .float .f64 r.wt] 44) (Value.slice so L.length sc).ownBlock).trans hgrow
        have hB3 : Below w.heap.size w2 w3 := (Below.refl _ w2).grown hg3 (by have := HB2.out.size; have := HWR.out; omega) (fun g hg => (World.ownsRow.lt hown2 g hg).1)
        have HB3 := Lib.hid hB3
        have HOWN3 := Lib.hid hown'
        clear hown' hgrow hg3 hB3 hown2 q0 q1 q2
        go_wp2
        refine ⟨⟨k + 1, L ++ [(r, ao, cp)], hlt, congrArg (Value.int .i64) (by omega), ?_, ?_, fun x hx => ?_, (HBR.out.trans (HB2.out.mono (by have := HWR.out; omega))).trans HB3.out, Nat.le_trans HZR.out (Nat.le_trans HB2.out.size HB3.out.size)⟩, by simp only [intOf]; omega⟩
        · rw [HFS.out, HPR.out, List.map_append, HL.out]
          rfl
        · rw [rc_snoc, List.length_append]
          exact HOWN3.out
        · have h1 : InR B wr x := by
            rcases List.mem_append.1 hx with hx | hx
            · exact HIN.out x hx
            · have := List.mem_singleton.1 hx
              subst this
              exact HXIN.out
          exact (h1.below (HB2.out.mono (by have := HWR.out; omega))).below (HB3.out.mono hB)
    · obtain rfl : k = R.length := by omega
      have hL := HL.out
      rw [List.take_length] at hL
      have HL2 := Lib.hid hL
      clear hL
      go_wp2
      go_ret
      exact ⟨_, L, rfl, HL2.out, HOWN.out, HIN.out, HBR.out⟩
end Go.Proofs.YtomikgkoegkofaaGreatDoor.dv
namespace Go.Proofs.YtomikgkoegkofaaGreatDoor.dv
open Go.ChangeShapes Go.WideShapes Go.ChangeAt Go.RowKit Go.Maps Go.WideMaps Go.WideElems
set_option linter.unusedVariables false
set_option linter.unusedSimpArgs false
/-! the closures of Reduce; what is among numbers, and among rules -/
attribute [local go_sem] run_store_fl
def keepB (U : List Bool) (r : Rl) : Bool := (decide (0 ≤ r.left) && at_ U r.left) && allB U false r.right
theorem goes_redu1 : Goes 50 := fun args w => enters_of Tryz.func50 (by kernel_rfl) rfl args w
set_option maxRecDepth 100000 in
set_option maxHeartbeats 1000000 in
theorem redu1_any (w : World) (bl : Nat) (v : Value) (U : List Bool) (hbl : bl < w.heap.size) (hb : w.cell? ⟨bl, 0, none⟩ = some v) (hU : ReadB w v U) : TellsR 50 #[.pointer (some ⟨bl, 0, none⟩)] (keepB U) w := by
  intro r ao cp W hW hrow
  have hc : W.cell? ⟨bl, 0, none⟩ = some v := (hW.cell (p := ⟨bl, 0, none⟩) hbl).trans hb
  have hU2 := hU.below hW
  have br := Blk.new W 44 #[.int .i64 r.left, .slice ao r.right.length cp, .float .f64 r.wt]
  have hA : Below W.heap.size W (W.alloc (.cells #[.int .i64 r.left, .slice ao r.right.length cp, .float .f64 r.wt] 44)) := (Below.refl _ W).alloc (Nat.le_refl _) _
  have hmk := marked_any (W.alloc (.cells #[.int .i64 r.left, .slice ao r.right.length cp, .float .f64 r.wt] 44)) v U r.left (hU2.below hA)
  have hbe := becomes_any (W.alloc (.cells #[.int .i64 r.left, .slice ao r.right.length cp, .float .f64 r.wt] 44)) r ao cp v U (hrow.below hA) (hU2.below hA)
  have hc1 : (W.alloc (.cells #[.int .i64 r.left, .slice ao r.right.length cp, .float .f64 r.wt] 44)).cell? ⟨bl, 0, none⟩ = some v := (hA.cell (p := ⟨bl, 0, none⟩) (by have := hW.size; show bl < _; omega)).trans hc
  have p0 := br.cell 0
  have p1 := br.cell 1
  have p2 := br.cell 2
  simp only [List.getElem?_toArray, List.getElem?_cons_zero, List.getElem?_cons_succ] at p0 p1 p2
  unfold RlV at hbe ⊢
  unfold keepB
  obtain ⟨uo, uc, rfl, _⟩ := hU
  have HA := Lib.hid hA
  generalize hq : (decide (0 ≤ r.left) && at_ U r.left) = q at *
  generalize hs : allB U false r.right = s at *
  clear hq hs hrow hU2 hc hb br hW
  cases q
  · go_enter Tryz.func50, Tryz.ntmps50
    go_wp2_with fail
    refine hmk.mono ?_
    rintro e w1 ⟨rfl, rfl⟩
    go_wp2
    go_ret
    exact ⟨rfl, HA.out⟩
  · go_enter Tryz.func50, Tryz.ntmps50
    go_wp2_with fail
    refine hmk.mono ?_
    rintro e w1 ⟨rfl, rfl⟩
    go_wp2_with fail
    refine hbe.mono ?_
    rintro e w2 ⟨rfl, hb2⟩
    have HB2 := Lib.hid (HA.out.trans (hb2.mono (by simp)))
    clear hb2 hbe hmk
    go_wp2
    go_ret
    exact ⟨by cases s <;> rfl, HB2.out⟩
set_option maxRecDepth 100000 in
set_option maxHeartbeats 1000000 in
theorem indexI_any (w : World) (v : Value) (F : List Int) (y : Int) (h : RowAt w v F) : Calls Tryz.prog 79 #[v, .int .i64 y] w fun e w' => (∃ n : Int, e = .returned (.int .i64 n) ∧ (0 ≤ n ↔ F.any (fun x => decide (x = y)) = true)) ∧ w' = w := by
  obtain ⟨ao, cp, rfl, hl, hm, hn, hin, hc⟩ := h
  have hlen : F.length ≤ 9223372036854775807 := by unfold maxLen at hm; omega
  have HC := Lib.hid hc
  clear hc hin
  go_enter Tryz.func79, Tryz.ntmps79
  go_wp2
  go_loopw [5, 8] (fun i q wr => ∃ k : Nat, k ≤ F.length ∧ q = .int .i64 k ∧ (F.take k).any (fun x => decide (x = y)) = false ∧ wr = w) (fun _ q _ => F.length - (intOf q).toNat)
  case atStart => exact ⟨0, Nat.zero_le _, rfl, rfl, rfl⟩
  case round =>
    obtain ⟨k, hk, rfl, hneg, rfl⟩ := hrel
    have HN := Lib.hid hneg
    clear hneg
    by_cases hlt : k < F.length
    · obtain ⟨a, rfl, hab, hca⟩ := HC.out k hlt
      have htk : (F.take (k + 1)).any (fun x => decide (x = y)) = decide (F.getD k 0 = y) := by
        rw [List.take_succ_eq_append_getElem hlt, List.any_append, HN.out, List.getD_eq_getElem?_getD, List.getElem?_eq_getElem hlt]
        simp
      have hmem : F.getD k 0 = y → F.any (fun x => decide (x = y)) = true := fun h => by
        rw [List.any_eq_true]
        exact ⟨F.getD k 0, by rw [List.getD_eq_getElem?_getD, List.getElem?_eq_getElem hlt]; simp, decide_eq_true h⟩
      have HT := Lib.hid htk
      have HM := Lib.hid hmem
      clear htk hmem
      generalize F.getD k 0 = x at *
      by_cases hb : x = y
      · have hany := HM.out hb
        have HA := Lib.hid hany
        subst hb
        clear hany
        go_wp2
        go_ret
        exact ⟨⟨k, rfl, ⟨fun _ => by have := HA.out; simpa using this, fun _ => by omega⟩⟩, rfl⟩
      · have hne : (y == x) = false := by simpa using fun h => hb h.symm
        have hne2 : ¬ y = x := fun h => hb h.symm
        have HB := Lib.hid hb
        clear hb
        go_wp2
        exact ⟨⟨k + 1, hlt, congrArg (Value.int .i64) (by omega), by rw [HT.out]; exact decide_eq_false HB.out, by first | exact rfl | trivial⟩, by simp only [intOf]; omega⟩
    · obtain rfl : k = F.length := by omega
      have hany : F.any (fun x => decide (x = y)) = false := by have := HN.out; rwa [List.take_length] at this
      have HA := Lib.hid hany
      clear hany
      go_wp2
      go_ret
      exact ⟨⟨-1, rfl, ⟨fun h => absurd h (by decide), fun h => by rw [HA.out] at h; cases h⟩⟩, rfl⟩
set_option maxRecDepth 100000 in
theorem containsI_any (w : World) (v : Value) (F : List Int) (y : Int) (h : RowAt w v F) : Calls Tryz.prog 53 #[v, .int .i64 y] w fun e w' => e = .returned (.bool (F.any fun x => decide (x = y))) ∧ w' = w := by
  have hix := indexI_any w v F y h
  obtain ⟨ao, cp, rfl, _⟩ := h
  go_enter Tryz.func53, Tryz.ntmps53
  go_wp2_with fail
  refine hix.mono ?_
  rintro e w1 ⟨⟨n, rfl, hn⟩, rfl⟩
  cases ha : F.any fun x => decide (x = y)
  · rw [ha] at hn
    have h0 : ¬ 0 ≤ n := fun h => by cases hn.1 h
    go_wp2
    go_ret
    exact ⟨by first | rfl | (rw [ha]; simp), rfl⟩
  · rw [ha] at hn
    have h0 : 0 ≤ n := hn.2 rfl
    go_wp2
    go_ret
    exact ⟨by first | rfl | (rw [ha]; simp), rfl⟩
def hasB (t : Int) (r : Rl) : Bool := r.right.any fun x => decide (x = -1 - t)
theorem goes_redu2 : Goes 52 := fun args w => enters_of Tryz.func52 (by kernel_rfl) rfl args w
set_option maxRecDepth 100000 in
set_option maxHeartbeats 1000000 in
theorem redu2_any (w : World) (bt : Nat) (t : Int) (hbt : bt < w.heap.size) (hb : w.cell? ⟨bt, 0, none⟩ = some (.int .i64 t)) (ht : In64 t) : TellsR 52 #[.pointer (some ⟨bt, 0, none⟩)] (hasB t) w := by
  intro r ao cp W hW hrow
  have hc : W.cell? ⟨bt, 0, none⟩ = some (.int .i64 t) := (hW.cell (p := ⟨bt, 0, none⟩) hbt).trans hb
  have br := Blk.new W 44 #[.int .i64 r.left, .slice ao r.right.length cp, .float .f64 r.wt]
  have hA : Below W.heap.size W (W.alloc (.cells #[.int .i64 r.left, .slice ao r.right.length cp, .float .f64 r.wt] 44)) := (Below.refl _ W).alloc (Nat.le_refl _) _
  have hct := containsI_any (W.alloc (.cells #[.int .i64 r.left, .slice ao r.right.length cp, .float .f64 r.wt] 44)) (.slice ao r.right.length cp) r.right (-1 - t) (hrow.below hA)
  have hc1 : (W.alloc (.cells #[.int .i64 r.left, .slice ao r.right.length cp, .float .f64 r.wt] 44)).cell? ⟨bt, 0, none⟩ = some (.int .i64 t) := (hA.cell (p := ⟨bt, 0, none⟩) (by have := hW.size; show bt < _; omega)).trans hc
  have p0 := br.cell 0
  have p1 := br.cell 1
  have p2 := br.cell 2
  simp only [List.getElem?_toArray, List.getElem?_cons_zero, List.getElem?_cons_succ] at p0 p1 p2
  have hx := cm_if t ht
  unfold RlV
  have HA := Lib.hid hA
  unfold hasB
  generalize (r.right.any fun x => decide (x = -1 - t)) = q at *
  generalize -1 - t = nt at *
  clear hc hb br hW hrow
  go_enter Tryz.func52, Tryz.ntmps52
  go_wp2_with fail
  refine hct.mono ?_
  rintro e w1 ⟨rfl, rfl⟩
  go_wp2
  go_ret
  exact ⟨rfl, HA.out⟩
set_option maxRecDepth 100000 in
set_option maxHeartbeats 1000000 in
theorem indexR_any (w : World) (B : Nat) (ra : Option Addr) (rc : Nat) (R : List Rl) (fn : Nat) (cap : Array Value) (p : Rl → Bool) (hgo : Goes fn) (hp : TellsR fn cap p w) (hR : RulesAt B w (.slice ra R.length rc) R) (hB : B ≤ w.heap.size) (hRl : R.length ≤ 1000) : Calls Tryz.prog 78 #[.slice ra R.length rc, .func (.func fn) #[] cap] w fun e w' => (∃ n : Int, e = .returned (.int .i64 n) ∧ (0 ≤ n ↔ R.any p = true)) ∧ Below w.heap.size w w' := by
  have hlen : R.length ≤ 9223372036854775807 := by omega
  have hg : ∀ (r : Value) (w : World), (callFunc fn (#[r] ++ cap)).run Tryz.prog w = .ok (.enter fn (#[r] ++ cap)) w := fun r w => hgo _ w
  have HP := Lib.hid hp
  have HR := Lib.hid hR
  clear hp hgo hR
  go_enter Tryz.func78, Tryz.ntmps78
  go_wp2
  go_loopw [5, 8] (fun i q wr => ∃ k : Nat, k ≤ R.length ∧ q = .int .i64 k ∧ (R.take k).any p = false ∧ Below w.heap.size w wr) (fun _ q _ => R.length - (intOf q).toNat)
  case atStart => exact ⟨0, Nat.zero_le _, rfl, rfl, Below.refl _ _⟩
  case round =>
    obtain ⟨k, hk, rfl, hneg, hbr⟩ := hrel
    have HN := Lib.hid hneg
    have HBR := Lib.hid hbr
    clear hneg hbr
    by_cases hlt : k < R.length
    · obtain ⟨a2, r, ao, cp, rfl, hab2, hrk, hc0, hc1, hc2, hcl, hcm, hcn, hru, hin1, hin2⟩ := (HR.out.below (HBR.out.mono hB)).at k hlt
      have hxin : InR B wr (r, ao, cp) := ⟨hru, hcl, hcm, hcn, hin1, hin2⟩
      have hcall := HP.out r ao cp wr HBR.out (hxin.row (by have := HBR.out.size; omega))
      have hrk2 : R[k] = r := (List.getElem?_eq_some_iff.1 hrk).2
      have htk : (R.take (k + 1)).any p = p r := by
        rw [List.take_succ_eq_append_getElem hlt, List.any_append, HN.out, hrk2]
        simp
      have hmem : p r = true → R.any p = true := fun h => by
        rw [List.any_eq_true]
        exact ⟨r, List.mem_of_getElem? hrk, h⟩
      have HT := Lib.hid htk
      have HM := Lib.hid hmem
      unfold RlV at hcall
      clear htk hmem hrk2 hrk hxin hru hin1 hin2
      cases hb : p r
      · rw [hb] at hcall
        have HB := Lib.hid hb
        clear hb
        go_wp2_with fail
        refine hcall.mono ?_
        rintro e w2 ⟨rfl, hb2⟩
        have HB2 := Lib.hid (HBR.out.trans (hb2.mono HBR.out.size))
        clear hb2 hcall hc0 hc1 hc2
        go_wp2
        exact ⟨⟨k + 1, hlt, congrArg (Value.int .i64) (by omega), by rw [HT.out]; exact HB.out, HB2.out⟩, by simp only [intOf]; omega⟩
      · rw [hb] at hcall
        have hany := HM.out hb
        have HA := Lib.hid hany
        clear hany hb
        go_wp2_with fail
        refine hcall.mono ?_
        rintro e w2 ⟨rfl, hb2⟩
        have HB2 := Lib.hid (HBR.out.trans (hb2.mono HBR.out.size))
        clear hb2 hcall hc0 hc1 hc2
        go_wp2
        go_ret
        exact ⟨⟨k, rfl, ⟨fun _ => HA.out, fun _ => by omega⟩⟩, HB2.out⟩
    · obtain rfl : k = R.length := by omega
      have hany : R.any p = false := by have := HN.out; rwa [List.take_length] at this
      have HA := Lib.hid hany
      clear hany
      go_wp2
      go_ret
      exact ⟨⟨-1, rfl, ⟨fun h => absurd h (by decide), fun h => by rw [HA.out] at h; cases h⟩⟩, HBR.out⟩
set_option maxRecDepth 100000 in
theorem containsR_any (w : World) (B : Nat) (ra : Option Addr) (rc : Nat) (R : List Rl) (fn : Nat) (cap : Array Value) (p : Rl → Bool) (hgo : Goes fn) (hp : TellsR fn cap p w) (hR : RulesAt B w (.slice ra R.length rc) R) (hB : B ≤ w.heap.size) (hRl : R.length ≤ 1000) : Calls Tryz.prog 51 #[.slice ra R.length rc, .func (.func fn) #[] cap] w fun e w' => e = .returned (.bool (R.any p)) ∧ Below w.heap.size w w' := by
  have hix := indexR_any w B ra rc R fn cap p hgo hp hR hB hRl
  clear hp hR
  go_enter Tryz.func51, Tryz.ntmps51
  go_wp2_with fail
  refine hix.mono ?_
  rintro e w1 ⟨⟨n, rfl, hn⟩, hb1⟩
  cases ha : R.any p
  · rw [ha] at hn
    have h0 : ¬ 0 ≤ n := fun h => by cases hn.1 h
    go_wp2
    go_ret
    exact ⟨by first | rfl | (rw [ha]; simp), hb1⟩
  · rw [ha] at hn
    have h0 : 0 ≤ n := hn.2 rfl
    go_wp2
    go_ret
    exact ⟨by first | rfl | (rw [ha]; simp), hb1⟩
end Go.Proofs.YtomikgkoegkofaaGreatDoor.dv
namespace Go.Proofs.YtomikgkoegkofaaGreatDoor.dv
open Go.ChangeShapes Go.WideShapes Go.ChangeAt Go.RowKit Go.Maps Go.WideMaps Go.WideElems
set_option linter.unusedVariables false
set_option linter.unusedSimpArgs false
/-! a rule with other numbers -/
attribute [local go_sem] run_store_fl
theorem lawII : Keyed Tryz.prog 3 := int_keyed Tryz.underlying3
theorem zeroI (w : World) : (zeroValue 3).run Tryz.prog w = .ok (.int .i64 0) w := by kernel_rfl
theorem wf_in {r : Int} (h : In64 r) : (Lit.int .i64 r).wf = true := by
  have := h.1; have := h.2
  simp [Lit.wf, IntKind.min, IntKind.max, IntKind.signed, IntKind.bits]; omega
theorem key_ii (r : Int) (h : In64 r) : keyOf Tryz.prog 3 (.int .i64 r) = some (.int .i64 r) := keyOf_int_mk Tryz.underlying3 (wf_in h)
abbrev OwnM (w : World) (b n : Nat) (D : DataW Unit) : Prop := w.ownsMap Tryz.prog 3 (plainElem Tryz.prog 3) b n D
theorem look_ii {w : World} {b n : Nat} {D : DataW Unit} (h : OwnM w b n D) {s c : Int} (hs : In64 s) (hh : D.atKey (.int .i64 s) (.lit (.int .i64 0)) = .lit (.int .i64 c)) : (Instr.lookup 76 (.map (some b)) (.int .i64 s) false).run Tryz.prog w = .ok (.int .i64 c) w := by
  obtain ⟨c', hrun, hat, _⟩ := h.lookup_int lawII Tryz.underlying76 Tryz.underlying3 (zeroI w) (key_ii s hs)
  rw [hh] at hat
  cases hat
  exact hrun
theorem ownM_below {w w' : World} {b n : Nat} {D : DataW Unit} (h : OwnM w b n D) {B : Nat} (hb : Below B w w') (hlt : b < B) : OwnM w' b n D := by
  obtain ⟨es, clock, h1, h2⟩ := h
  exact ⟨es, clock, (hb.block b hlt).trans h1, h2⟩
def NI (n : Nat) (g : Nat → Int) : List Value := (List.range n).map fun i => .int .i64 (g i)
def updI (g : Nat → Int) (k : Nat) (u : Int) : Nat → Int := fun i => if i = k then u else g i
theorem ni_set (n : Nat) (g : Nat → Int) (k : Nat) (u : Int) : (NI n g).set k (.int .i64 u) = NI n (updI g k u) := by
  apply List.ext_getElem (by simp [NI])
  intro i h1 h2
  simp only [NI, List.getElem_set, List.getElem_map, List.getElem_range, updI]
  by_cases h : k = i
  · subst h; simp
  · rw [if_neg h, if_neg (fun e => h e.symm)]
theorem ni_get {n x : Nat} (g : Nat → Int) (hx : x < n) : (NI n g)[x]? = some (.int .i64 (g x)) := by
  simp [NI, hx]
def gF (f : Int → Int) (F : List Int) (k : Nat) : Nat → Int := fun i => if i < k then f (F.getD i 0) else 0
theorem gF_succ (f : Int → Int) (F : List Int) (k : Nat) : updI (gF f F k) k (f (F.getD k 0)) = gF f F (k + 1) := by
  funext i
  unfold updI gF
  by_cases h : i = k
  · subst h; simp
  · by_cases h2 : i < k
    · rw [if_neg h, if_pos h2, if_pos (by omega)]
    · rw [if_neg h, if_neg h2, if_neg (by omega)]
theorem gF_zero (f : Int → Int) (F : List Int) (n : Nat) : NI n (gF f F 0) = List.replicate n (.int .i64 0) := by
  apply List.ext_getElem (by simp [NI])
  intro i h1 h2
  simp [NI, gF]
theorem gF_all (f : Int → Int) (F : List Int) : NI F.length (gF f F F.length) = IV (F.map f) := by
  apply List.ext_getElem (by simp [NI, IV])
  intro i h1 h2
  have hi : i < F.length := by simpa [NI] using h1
  simp [NI, gF, IV, hi, List.getD_eq_getElem?_getD]
theorem own_set {w : World} {B g n cap p i : Nat} {e : TypeId} {size : Nat} {xs : List Value} {u : Value} (h : w.ownsRow B e size (.slice (some ⟨g, 0, none⟩) n cap) n xs) (hp : p ≠ g) : (w.setCell ⟨p, i, none⟩ u).ownsRow B e size (.slice (some ⟨g, 0, none⟩) n cap) n xs :=
  ownsRow_keep h (fun k hk hv => Below.heap_setCell w ⟨p, i, none⟩ u k (fun e => by
    have e1 : g = k := by simpa [Value.ownBlock] using hv
    have e2 : k = p := e
    omega))
set_option maxRecDepth 100000 in
set_option maxHeartbeats 4000000 in
theorem renamed_any (w : World) (B bm mn : Nat) (D : DataW Unit) (f : Int → Int) (lf : Int) (F : List Int) (ao : Option Addr) (cp wt : Nat) (hM : OwnM w bm mn D) (hrow : RowAt w (.slice ao F.length cp) F) (hF : F.length ≤ 1000) (hlf : In64 lf) (hD : ∀ s, s = lf ∨ s ∈ F → D.atKey (.int .i64 s) (.lit (.int .i64 0)) = .lit (.int .i64 (f s))) :
    Calls Tryz.prog 54 #[.agg #[.int .i64 lf, .slice ao F.length cp, .float .f64 wt], .map (some bm)] w fun e w' => ∃ m, e = .returned (.agg #[.int .i64 (f lf), .slice (some ⟨m, 0, none⟩) F.length F.length, .float .f64 wt]) ∧ w.heap.size ≤ m ∧ w'.ownsRow w.heap.size 3 1 (.slice (some ⟨m, 0, none⟩) F.length F.length) F.length (IV (F.map f)) ∧ Below w.heap.size w w' := by
  obtain ⟨i0, hi0, hy0, hy1, hy2⟩ := info_parts info_int
  have b0 := (Blk.new w 44 #[.int .i64 lf, .slice ao F.length cp, .float .f64 wt]).alloc (.cells #[.int .i64 0, .slice none 0 0, .float .f64 0] 44)
  have b1 := Blk.new (w.alloc (.cells #[.int .i64 lf, .slice ao F.length cp, .float .f64 wt] 44)) 44 #[.int .i64 0, .slice none 0 0, .float .f64 0]
  rw [World.size_alloc] at b1
  have hbl : Below w.heap.size w ((w.alloc (.cells #[.int .i64 lf, .slice ao F.length cp, .float .f64 wt] 44)).alloc (.cells #[.int .i64 0, .slice none 0 0, .float .f64 0] 44)) := ((Below.refl _ w).alloc (Nat.le_refl _) _).alloc (by rw [World.size_alloc]; omega) _
  have hz : ((w.alloc (.cells #[.int .i64 lf, .slice ao F.length cp, .float .f64 wt] 44)).alloc (.cells #[.int .i64 0, .slice none 0 0, .float .f64 0] 44)).heap.size = w.heap.size + 1 + 1 := by simp
  have hml := hM.lt
  obtain ⟨_, _, e0, hl, hm, hn, hin, hc⟩ := hrow
  cases e0
  generalize hW2 : (w.alloc (.cells #[.int .i64 lf, .slice ao F.length cp, .float .f64 wt] 44)).alloc (.cells #[.int .i64 0, .slice none 0 0, .float .f64 0] 44) = w2 at *
  have HM := Lib.hid hM
  have HC := Lib.hid hc
  have HIN := Lib.hid hin
  have HB0 := Lib.hid b0
  have HB1 := Lib.hid b1
  have HBL := Lib.hid hbl
  have HZ := Lib.hid hz
  have HD := Lib.hid hD
  have HML := Lib.hid hml
  have hF63 : F.length ≤ 9223372036854775807 := by omega
  have e1 := b0.cell 1
  simp only [List.getElem?_toArray, List.getElem?_cons_zero, List.getElem?_cons_succ] at e1
  clear hM hc hin hbl hz hD hml b0 b1 hl hm hn
  go_enter Tryz.func54, Tryz.ntmps54
  go_wp2_with (at_make; refine wpList_make_full _ rfl _ _ 28 rfl w2.heap.size 3 i0 (.int .i64 0) 1 Tryz.underlying28 hi0 hy0 hy1 .i64 .i64 _ _ F.length rfl rfl rfl rfl (by rw [hy2]; omega) (by unfold maxLen; omega) (Nat.le_refl _) ?_; intro w4 hown4 hgrow4; have hb4 : Below w2.heap.size w2 w4 := (Below.refl _ _).grown hgrow4 (Nat.le_refl _) (fun k e => by cases e); have s1 := (HB0.out.below hb4 HB0.out.lt).cell 1; simp only [List.getElem?_toArray, List.getElem?_cons_zero, List.getElem?_cons_succ] at s1; have HOWN4 := Lib.hid hown4; have HB4 := Lib.hid hb4; clear hown4 hgrow4 hb4)
  have hst : w4.ownsRow w2.heap.size 3 1 (.slice (some ⟨w2.heap.size, 0, none⟩) F.length F.length) F.length (NI F.length (gF f F 0)) := by
    rw [gF_zero]
    have h := HOWN4.out
    rwa [show (Value.int .i64 0).cells = #[.int .i64 0] from rfl, toList_madeCells_one, Nat.mul_one] at h
  have HST := Lib.hid hst
  clear hst HOWN4
  go_loopw [15] (fun q wr => ∃ k : Nat, k ≤ F.length ∧ q = .int .i64 k ∧ wr.ownsRow w2.heap.size 3 1 (.slice (some ⟨w2.heap.size, 0, none⟩) F.length F.length) F.length (NI F.length (gF f F k)) ∧ Below w2.heap.size w2 wr) (fun q _ => F.length - (intOf q).toNat)
  case atStart => exact ⟨0, Nat.zero_le _, rfl, HST.out, HB4.out⟩
  case round =>
    obtain ⟨k, hk, rfl, hown, hbr⟩ := hrel
    have HOWN := Lib.hid hown
    have HBR := Lib.hid hbr
    have hMr := ownM_below HM.out (HBL.out.trans (hbr.mono (by have := HZ.out; omega))) HML.out
    have br := HB0.out.below hbr HB0.out.lt
    clear hown hbr s1 e1
    by_cases hlt : k < F.length
    · obtain ⟨a, rfl, hab, hca⟩ := HC.out k hlt
      have hca2 : wr.cell? (a.add k) = some (.int .i64 (F.getD k 0)) := ((HBL.out.trans (HBR.out.mono (by have := HZ.out; omega))).cell (p := a.add k) (by rw [add_block]; exact hab)).trans hca
      have hmem : F.getD k 0 ∈ F := by rw [List.getD_eq_getElem?_getD, List.getElem?_eq_getElem hlt]; exact List.getElem_mem _
      have hlk := look_ii hMr (HIN.out _ hmem) (HD.out _ (.inr hmem))
      have hold : wr.cell? ⟨w2.heap.size, k, none⟩ = some (.int .i64 (gF f F k k)) := by
        rw [HOWN.out.cellAt k (by omega)]
        exact ni_get _ hlt
      have hfro := HOWN.out.frozenAt k
      obtain ⟨o1, o2⟩ := HOWN.out.stored k (.int .i64 (f (F.getD k 0)))
      rw [ni_set, gF_succ] at o1
      have HO1 := Lib.hid o1
      have HO2 := Lib.hid (HBR.out.trans ((Below.refl w2.heap.size wr).grown o2 HBR.out.size (fun g e => by cases e; exact Nat.le_refl _)))
      have hklt : (k : Int) < (F.length : Int) := by omega
      clear o1 o2 hca hmem hMr br
      generalize F.getD k 0 = s at *
      generalize f s = fs at *
      generalize gF f F k k = old at *
      go_wp2
      exact ⟨⟨k + 1, hlt, congrArg (Value.int .i64) (by omega), HO1.out, HO2.out⟩, by simp only [intOf]; omega⟩
    · obtain rfl : k = F.length := by omega
      have hlk := look_ii hMr hlf (HD.out _ (.inl rfl))
      have p0 := br.cell 0
      have p2 := br.cell 2
      simp only [List.getElem?_toArray, List.getElem?_cons_zero, List.getElem?_cons_succ] at p0 p2
      have b1r := HB1.out.below HBR.out HB1.out.lt
      have q0 := b1r.cell 0
      have q1 := b1r.cell 1
      have q2 := b1r.cell 2
      have f0 := b1r.frozen 0
      have f1 := b1r.frozen 1
      have f2 := b1r.frozen 2
      simp only [List.getElem?_toArray, List.getElem?_cons_zero, List.getElem?_cons_succ] at q0 q1 q2
      have hend := HOWN.out
      rw [gF_all] at hend
      have HEND := Lib.hid hend
      have HB1R := Lib.hid b1r
      clear hend hMr br b1r
      go_wp2
      refine bodyPost_ret (v := .agg #[.int .i64 (f lf), .slice (some ⟨w2.heap.size, 0, none⟩) F.length F.length, .float .f64 wt]) (by simp [results, Tryz.results54, go_sem, q0, q1, q2]) rfl ?_
      have hz := HZ.out
      refine ⟨_, rfl, by omega, own_weak (own_set (own_set (own_set HEND.out (by omega)) (by omega)) (by omega)) (by omega), ?_⟩
      exact (((HBL.out.trans (HBR.out.mono (by omega))).setCell (by show w.heap.size ≤ w.heap.size + 1; omega) _).setCell (by show w.heap.size ≤ w.heap.size + 1; omega) _).setCell (by show w.heap.size ≤ w.heap.size + 1; omega) _
end Go.Proofs.YtomikgkoegkofaaGreatDoor.dv
namespace Go.Proofs.YtomikgkoegkofaaGreatDoor.dv
open Go.ChangeShapes Go.WideShapes Go.ChangeAt Go.RowKit Go.Maps Go.WideMaps Go.WideElems
set_option linter.unusedVariables false
set_option linter.unusedSimpArgs false
/-! what Reduce has made so far -/
def SV (L : List ByteArray) : List Value := L.map Value.string
theorem sv_snoc (L : List ByteArray) (x : ByteArray) : SV (L ++ [x]) = SV L ++ [.string x] := by unfold SV; rw [List.map_append]; rfl
theorem iv_snoc1 (L : List Int) (x : Int) : IV (L ++ [x]) = IV L ++ [.int .i64 x] := by unfold IV; rw [List.map_append]; rfl
theorem own_ne_type {w : World} {B1 B2 s1 s2 n1 n2 : Nat} {e1 e2 : TypeId} {v1 v2 : Value} {xs1 xs2 : List Value} (h1 : w.ownsRow B1 e1 s1 v1 n1 xs1) (h2 : w.ownsRow B2 e2 s2 v2 n2 xs2) (he : e1 ≠ e2) : v1.ownBlock = none ∨ v1.ownBlock ≠ v2.ownBlock := by
  rcases h1.2 with ⟨rfl, _⟩ | ⟨g, cap, cur, rfl, _, hg, _⟩
  · exact .inl rfl
  · right
    rcases h2.2 with ⟨rfl, _⟩ | ⟨g', cap', cur', rfl, _, hg', _⟩
    · simp [Value.ownBlock]
    · simp only [Value.ownBlock]
      intro e
      have e3 : g = g' := by simpa using e
      subst e3
      rw [hg] at hg'
      have := Option.some.inj hg'
      injection this with _ h3
      exact he h3
theorem own_ne_map {w : World} {B s n : Nat} {e : TypeId} {v : Value} {xs : List Value} {bm k : Nat} {D : DataW Unit} (h : w.ownsRow B e s v n xs) (hm : OwnM w bm k D) : v.ownBlock ≠ some bm := by
  rcases h.2 with ⟨rfl, _⟩ | ⟨g, cap, cur, rfl, _, hg, _⟩
  · simp [Value.ownBlock]
  · obtain ⟨es, clock, h1, _⟩ := hm
    simp only [Value.ownBlock]
    intro e
    have e3 : g = bm := by simpa using e
    subst e3
    rw [hg] at h1
    cases h1
structure RSt (b1 : Nat) (w5 : World) (Tl Nl : List ByteArray) (wl : List Int) (n : Nat) (D : DataW Unit) (tv nv wv rv : Value) (W : World) : Prop where
  bel : Below b1 w5 W
  size : b1 + 1 + 1 ≤ W.heap.size
  box : Blk W b1 25 #[tv, nv, rv]
  names : W.ownsRow b1 9 1 nv Nl.length (SV Nl)
  terms : W.ownsRow b1 9 1 tv Tl.length (SV Tl)
  apart : tv.ownBlock = none ∨ tv.ownBlock ≠ nv.ownBlock
  were : W.ownsRow b1 3 1 wv wl.length (IV wl)
  map : OwnM W (b1 + 1) n D
section
variable {b1 : Nat} {w5 : World} {Tl Nl : List ByteArray} {wl : List Int} {n : Nat} {D : DataW Unit} {tv nv wv rv : Value} {W W' : World}
/-- all that stood stands -/
theorem RSt.keep (h : RSt b1 w5 Tl Nl wl n D tv nv wv rv W) (hb : Below W.heap.size W W') : RSt b1 w5 Tl Nl wl n D tv nv wv rv W' :=
  ⟨h.bel.trans (hb.mono (by have := h.size; omega)), Nat.le_trans h.size hb.size, h.box.below hb h.box.lt, ownsRow_keep h.names (fun g hg _ => hb.block g hg), ownsRow_keep h.terms (fun g hg _ => hb.block g hg), h.apart, ownsRow_keep h.were (fun g hg _ => hb.block g hg), ownM_below h.map hb h.map.lt⟩
theorem below_grown {B : Nat} {a w w' : World} {row : Option Nat} (h : Below B a w) (hg : w.grownBy w' row) (hB : B ≤ w.heap.size) (hr : ∀ g, row = some g → B ≤ g) : Below B a w' := h.grown hg hB hr
theorem RSt.put_map (h : RSt b1 w5 Tl Nl wl n D tv nv wv rv W) {D' : DataW Unit} (hm : OwnM W' (b1 + 1) (n + 1) D') (hg : W.grownBy W' (some (b1 + 1))) : RSt b1 w5 Tl Nl wl (n + 1) D' tv nv wv rv W' :=
  ⟨h.bel.grown hg (by have := h.size; omega) (fun g e => by cases e; omega), Nat.le_trans h.size hg.size, h.box.grown hg (by simp), own_grown h.names hg (.inr (own_ne_map h.names h.map)), own_grown h.terms hg (.inr (own_ne_map h.terms h.map)), h.apart, own_grown h.were hg (.inr (own_ne_map h.were h.map)), hm⟩
theorem ownM_grown {bm : Nat} {row : Option Nat} (h : OwnM W bm n D) (hg : W.grownBy W' row) (hne : row ≠ some bm) : OwnM W' bm n D := h.kept hg (fun e => hne e.symm)
/-- the names, written behind; the old ones still stand in the box -/
structure RNm (b1 : Nat) (w5 : World) (Nl : List ByteArray) (wl : List Int) (n : Nat) (D : DataW Unit) (nv nv' wv rv : Value) (W : World) : Prop where
  bel : Below b1 w5 W
  size : b1 + 1 + 1 ≤ W.heap.size
  box : Blk W b1 25 #[.slice none 0 0, nv, rv]
  names : W.ownsRow b1 9 1 nv' Nl.length (SV Nl)
  were : W.ownsRow b1 3 1 wv wl.length (IV wl)
  map : OwnM W (b1 + 1) n D
theorem RSt.put_names (h : RSt b1 w5 [] Nl wl n D (.slice none 0 0) nv wv rv W) {nv' : Value} {nm : ByteArray} (hn : W'.ownsRow b1 9 1 nv' (Nl.length + 1) (SV Nl ++ [.string nm])) (hg : W.grownBy W' nv.ownBlock) : RNm b1 w5 (Nl ++ [nm]) wl n D nv nv' wv rv W' :=
  ⟨h.bel.grown hg (by have := h.size; omega) (fun g e => (World.ownsRow.lt h.names g e).1), Nat.le_trans h.size hg.size, h.box.grown hg (h.box.not_row (by decide) h.names), by rw [sv_snoc, List.length_append]; exact hn, own_grown h.were hg (own_ne_type h.were h.names (by decide)), ownM_grown h.map hg (own_ne_map h.names h.map)⟩
theorem RNm.alloc {nv' : Value} (h : RNm b1 w5 Nl wl n D nv nv' wv rv W) (o : Obj) : RNm b1 w5 Nl wl n D nv nv' wv rv (W.alloc o) :=
  ⟨h.bel.alloc (by have := h.size; omega) o, by rw [World.size_alloc]; have := h.size; omega, h.box.alloc o, h.names.alloc o, h.were.alloc o, h.map.alloc o⟩
theorem RNm.put_were {nv' wv' : Value} {x : Int} (h : RNm b1 w5 Nl wl n D nv nv' wv rv W) (hn : W'.ownsRow b1 3 1 wv' (wl.length + 1) (IV wl ++ [.int .i64 x])) (hg : W.grownBy W' wv.ownBlock) : RNm b1 w5 Nl (wl ++ [x]) n D nv nv' wv' rv W' :=
  ⟨h.bel.grown hg (by have := h.size; omega) (fun g e => (World.ownsRow.lt h.were g e).1), Nat.le_trans h.size hg.size, h.box.grown hg (h.box.not_row (by decide) h.were), own_grown h.names hg (own_ne_type h.names h.were (by decide)), by rw [iv_snoc1, List.length_append]; exact hn, ownM_grown h.map hg (own_ne_map h.were h.map)⟩
theorem own_setb {B s k p i : Nat} {e t : TypeId} {v u : Value} {xs : List Value} {cs : Array Value} (h : W.ownsRow B e s v k xs) (hb : Blk W p t cs) (hte : t ≠ e) : (W.setCell ⟨p, i, none⟩ u).ownsRow B e s v k xs :=
  ownsRow_keep h (fun g hg hv => Below.heap_setCell W ⟨p, i, none⟩ u g (fun e2 => hb.not_row hte h (by rw [hv]; exact congrArg some (show p = g from e2.symm))))
theorem ownM_set {bm p i : Nat} {u : Value} (h : OwnM W bm n D) (hne : p ≠ bm) : OwnM (W.setCell ⟨p, i, none⟩ u) bm n D := by
  obtain ⟨es, clock, h1, h2⟩ := h
  exact ⟨es, clock, (Below.heap_setCell W ⟨p, i, none⟩ u bm (fun e => hne e.symm)).trans h1, h2⟩
theorem RNm.store {nv' : Value} (h : RNm b1 w5 Nl wl n D nv nv' wv rv W) : RSt b1 w5 [] Nl wl n D (.slice none 0 0) nv' wv rv (W.setCell ⟨b1, 1, none⟩ nv') :=
  ⟨h.bel.setCell (Nat.le_refl b1) _, by rw [World.size_setCell]; exact h.size, h.box.set_ 1 nv', own_setb h.names h.box (by decide), World.ownsRow_nil _ _ _ _, .inl rfl, own_setb h.were h.box (by decide), ownM_set h.map (by omega)⟩
/-- the terminals' texts, written behind -/
theorem RSt.put_terms (h : RSt b1 w5 Tl Nl wl n D tv nv wv rv W) {tv' : Value} {tx : ByteArray} (hn : W'.ownsRow b1 9 1 tv' (Tl.length + 1) (SV Tl ++ [.string tx])) (hg : W.grownBy W' tv.ownBlock) (hl : tv'.ownBlock = tv.ownBlock ∨ tv'.ownBlock = some W.heap.size) (hns : nv.ownBlock ≠ some W.heap.size) : RSt b1 w5 (Tl ++ [tx]) Nl wl n D tv' nv wv rv (W'.setCell ⟨b1, 0, none⟩ tv') := by
  have hap : tv.ownBlock = none ∨ nv.ownBlock = none ∨ nv.ownBlock ≠ tv.ownBlock := by
    rcases h.apart with e | e
    · exact .inl e
    · exact .inr (.inr (fun e2 => e e2.symm))
  have hnm : W'.ownsRow b1 9 1 nv Nl.length (SV Nl) := ownsRow_keep h.names (fun g hg' hv => hg.block g hg' (fun e => by
    rcases hap with e1 | e1 | e1
    · rw [e1] at e; cases e
    · rw [e1] at hv; cases hv
    · exact e1 (by rw [hv, e])))
  have hbx := h.box.grown hg (h.box.not_row (by decide) h.terms)
  have hwr := own_grown h.were hg (own_ne_type h.were h.terms (by decide))
  have hmp := ownM_grown h.map hg (own_ne_map h.terms h.map)
  refine ⟨(h.bel.grown hg (by have := h.size; omega) (fun g e => (World.ownsRow.lt h.terms g e).1)).setCell (Nat.le_refl b1) _, by rw [World.size_setCell]; exact Nat.le_trans h.size hg.size, hbx.set_ 0 tv', own_setb hnm hbx (by decide), ?_, ?_, own_setb hwr hbx (by decide), ownM_set hmp (by omega)⟩
  · rw [sv_snoc, List.length_append]
    exact own_setb hn hbx (by decide)
  · rcases hl with e | e
    · rcases h.apart with e1 | e1
      · exact .inl (by rw [e, e1])
      · exact .inr (by rw [e]; exact e1)
    · exact .inr (by rw [e]; exact fun e2 => hns e2.symm)
end
def wereV (U : List Bool) : Nat → List Int
  | 0 => []
  | v + 1 => wereV U v ++ if U.getD v false = true then [(v : Int)] else []
def namesV (U : List Bool) (VS : List ByteArray) : Nat → List ByteArray
  | 0 => []
  | v + 1 => namesV U VS v ++ if U.getD v false = true then [VS.getD v ByteArray.empty] else []
def mapV (U : List Bool) : Nat → DataW Unit
  | 0 => .map []
  | v + 1 => if U.getD v false = true then (mapV U v).put (.int .i64 v) (.lit (.int .i64 (wereV U v).length)) else mapV U v
def textsT (q : Nat → Bool) (TS : List ByteArray) : Nat → List ByteArray
  | 0 => []
  | t + 1 => textsT q TS t ++ if q t = true then [TS.getD t ByteArray.empty] else []
def mapT (D : DataW Unit) (q : Nat → Bool) (TS : List ByteArray) : Nat → DataW Unit
  | 0 => D
  | t + 1 => if q t = true then (mapT D q TS t).put (.int .i64 (-1 - (t : Int))) (.lit (.int .i64 (-1 - ((textsT q TS t).length : Int)))) else mapT D q TS t
theorem wereV_len (U : List Bool) : ∀ v, (wereV U v).length ≤ v
  | 0 => Nat.le_refl _
  | v + 1 => by
    have := wereV_len U v
    rw [wereV, List.length_append]
    split <;> simp <;> omega
theorem namesV_len (U : List Bool) (VS : List ByteArray) : ∀ v, (namesV U VS v).length ≤ v
  | 0 => Nat.le_refl _
  | v + 1 => by
    have := namesV_len U VS v
    rw [namesV, List.length_append]
    split <;> simp <;> omega
theorem textsT_len (q : Nat → Bool) (TS : List ByteArray) : ∀ v, (textsT q TS v).length ≤ v
  | 0 => Nat.le_refl _
  | v + 1 => by
    have := textsT_len q TS v
    rw [textsT, List.length_append]
    split <;> simp <;> omega
theorem below_al (w : World) (o : Obj) : Below w.heap.size w (w.alloc o) := (Below.refl _ w).alloc (Nat.le_refl _) o
theorem own_sl {w : World} {B s n : Nat} {e : TypeId} {v : Value} {xs : List Value} (h : w.ownsRow B e s v n xs) : ∃ o c, v = .slice o n c := by
  rcases h.2 with ⟨hv, h0⟩ | ⟨g, c, cur, hv, _⟩
  · exact ⟨none, 0, by rw [hv, h0]⟩
  · exact ⟨_, _, hv⟩
theorem info_string : (Tryz.prog.info? 9).map (fun i => (i.zero, i.size, i.bytes)) = some (some (.string ⟨#[]⟩), 1, 16) := by kernel_rfl
theorem later_um {G A : Prop} (h : G → A) (g : G) : A := h g
/-- the right sides that were made -/
def Rights (b1 : Nat) (L : List Ru) (W : World) : Prop := ∀ x ∈ L, (∃ m, x.2.1 = some ⟨m, 0, none⟩ ∧ x.2.2 = x.1.right.length ∧ W.ownsRow b1 3 1 (.slice (some ⟨m, 0, none⟩) x.1.right.length x.1.right.length) x.1.right.length (IV x.1.right)) ∧ (∀ n ∈ x.1.right, In64 n) ∧ In64 x.1.left
theorem Rights.keep {b1 : Nat} {L : List Ru} {W W' : World} (h : Rights b1 L W) (hb : Below W.heap.size W W') : Rights b1 L W' := fun x hx => by
  obtain ⟨⟨m, e1, e2, e3⟩, h2⟩ := h x hx
  exact ⟨⟨m, e1, e2, ownsRow_keep e3 (fun g hg _ => hb.block g hg)⟩, h2⟩
theorem Rights.grown {b1 B s n : Nat} {L : List Ru} {W W' : World} {v : Value} {xs : List Value} (h : Rights b1 L W) (hv : W.ownsRow B 44 s v n xs) (hg : W.grownBy W' v.ownBlock) : Rights b1 L W' := fun x hx => by
  obtain ⟨⟨m, e1, e2, e3⟩, h2⟩ := h x hx
  exact ⟨⟨m, e1, e2, own_grown e3 hg (own_ne_type e3 hv (by decide))⟩, h2⟩
theorem Rights.set_ {b1 p i : Nat} {L : List Ru} {W : World} {u : Value} {cs : Array Value} (h : Rights b1 L W) (hb : Blk W p 25 cs) : Rights b1 L (W.setCell ⟨p, i, none⟩ u) := fun x hx => by
  obtain ⟨⟨m, e1, e2, e3⟩, h2⟩ := h x hx
  exact ⟨⟨m, e1, e2, own_setb e3 hb (by decide)⟩, h2⟩
theorem Rights.inr {b1 : Nat} {L : List Ru} {W : World} (h : Rights b1 L W) : ∀ x ∈ L, InR W.heap.size W x := fun x hx => by
  obtain ⟨⟨m, e1, e2, e3⟩, h2, h3⟩ := h x hx
  obtain ⟨_, hm⟩ := (own_cap e3)
  exact ⟨fun j hj => ⟨_, e1, own_lt e3, own_cells' e3 j _ (by simp [IV, List.getD_eq_getElem?_getD, List.getElem?_eq_getElem hj])⟩, by omega, by omega, fun e => (by rw [e1] at e; cases e), h2, h3⟩
theorem RSt.put_rules {b1 : Nat} {w5 : World} {Tl Nl : List ByteArray} {wl : List Int} {n : Nat} {D : DataW Unit} {tv nv wv rv rv' : Value} {W W' : World} {L L' : List Ru} (h : RSt b1 w5 Tl Nl wl n D tv nv wv rv W) (hr : W.ownsRow b1 44 3 rv L.length (RC L)) (hn : W'.ownsRow b1 44 3 rv' L'.length (RC L')) (hg : W.grownBy W' rv.ownBlock) : RSt b1 w5 Tl Nl wl n D tv nv wv rv' (W'.setCell ⟨b1, 2, none⟩ rv') ∧ (W'.setCell ⟨b1, 2, none⟩ rv').ownsRow b1 44 3 rv' L'.length (RC L') ∧ Blk W' b1 25 #[tv, nv, rv] := by
  have hbx := h.box.grown hg (h.box.not_row (by decide) hr)
  exact ⟨⟨(h.bel.grown hg (by have := h.size; omega) (fun g e => (World.ownsRow.lt hr g e).1)).setCell (Nat.le_refl b1) _, by rw [World.size_setCell]; exact Nat.le_trans h.size hg.size, hbx.set_ 2 rv', own_setb (own_grown h.names hg (own_ne_type h.names hr (by decide))) hbx (by decide), own_setb (own_grown h.terms hg (own_ne_type h.terms hr (by decide))) hbx (by decide), h.apart, own_setb (own_grown h.were hg (own_ne_type h.were hr (by decide))) hbx (by decide), ownM_set (ownM_grown h.map hg (own_ne_map hr h.map)) (by omega)⟩, own_setb hn hbx (by decide), hbx⟩
def renR (f : Int → Int) (r : Rl) : Rl := ⟨f r.left, r.right.map f, r.wt⟩
end Go.Proofs.YtomikgkoegkofaaGreatDoor.dv

import Derived.Test.YtoogdidgcclmnaaGreatDoorRows
import Derived.WalkKit
import Derived.WalkLawsBesides
import Derived.WalkSpells
import Derived.ProofKit
import Derived.OpenShut
import Derived.Handy
import Derived.Outline
import Derived.Lib.Hide
import Derived.Below
import Derived.Laws.OwnMore
import Derived.Deep.Draws
import Derived.Laws.Rows
import Derived.Deep.QuietTactic
import Derived.BigQuiet
import Derived.Laws.Externs
import Derived.Laws.FloatArith
namespace Go.Proofs.YtoogdidgcclmnaaGreatDoor.alv
open Go.ChangeShapes Go.WideShapes Go.ChangeAt Go.RowKit
def S (l : List UInt8) : ByteArray := ⟨l.toArray⟩
theorem x_frombits (n : Int) (w : World) : (callFunc 9 #[.int .u64 n]).run Tryz.prog w = .ok (.value (.float .f64 n.toNat)) w :=
  run_callFunc_extern (e := Extern.MathFloatBits.float64frombits) Tryz.func9 (by kernel_rfl) (by kernel_rfl) (by kernel_rfl) (by kernel_rfl) _ w
theorem x_bits (n : Nat) (w : World) : (callFunc 28 #[.float .f64 n]).run Tryz.prog w = .ok (.value (.int .u64 n)) w :=
  run_callFunc_extern (e := Extern.MathFloatBits.float64bits) Tryz.func28 (by kernel_rfl) (by kernel_rfl) (by kernel_rfl) (by kernel_rfl) _ w
theorem x_sbits (n : Nat) (w : World) : (callFunc 59 #[.float .f64 n]).run Tryz.prog w = .ok (.value (.int .u64 n)) w :=
  run_callFunc_extern (e := Extern.MathFloatBits.float64bits) Tryz.func59 (by kernel_rfl) (by kernel_rfl) (by kernel_rfl) (by kernel_rfl) _ w
theorem x_sfrombits (n : Int) (w : World) : (callFunc 87 #[.int .u64 n]).run Tryz.prog w = .ok (.value (.float .f64 n.toNat)) w :=
  run_callFunc_extern (e := Extern.MathFloatBits.float64frombits) Tryz.func87 (by kernel_rfl) (by kernel_rfl) (by kernel_rfl) (by kernel_rfl) _ w
theorem x_index (s : ByteArray) (c : Int) (w : World) : (callFunc 112 #[.string s, .int .u8 c]).run Tryz.prog w = .ok (.value (.int .i64 (firstIdx s c.toNat.toUInt8))) w := by
  rw [run_callFunc_extern (e := Extern.BytealgIndexByte.indexByte) Tryz.func112 (by kernel_rfl) (by kernel_rfl) (by kernel_rfl) (by kernel_rfl) _ w, run_indexByte_string]
  rfl
theorem ext_lit (l : List UInt8) (i j : Nat) : (ByteArray.mk l.toArray).extract i j = ⟨((l.drop i).take (j - i)).toArray⟩ := by
  apply ByteArray.ext
  simp [ByteArray.data_extract, List.extract_toArray, List.extract_eq_take_drop]
attribute [local go_sem] ext_lit
attribute [local go_sem] x_frombits x_bits x_sbits x_sfrombits x_index

theorem get_lit (l : List UInt8) (i : Nat) (h : i < (ByteArray.mk l.toArray).size) : (ByteArray.mk l.toArray)[i]'h = l[i]'(by simpa [ByteArray.size] using h) := rfl
theorem fi_1 : firstIdx ⟨#[49,46,50,53,48]⟩ 46 = 1 := by decide +kernel
attribute [local go_sem] get_lit fi_1
theorem bv_and (x y : Int) : (BitVec.ofInt 64 x &&& BitVec.ofInt 64 y).toNat = (x % 18446744073709551616).toNat &&& (y % 18446744073709551616).toNat := by
  rw [BitVec.toNat_and, BitVec.toNat_ofInt, BitVec.toNat_ofInt]; rfl
theorem bv_or (x y : Int) : (BitVec.ofInt 64 x ||| BitVec.ofInt 64 y).toNat = (x % 18446744073709551616).toNat ||| (y % 18446744073709551616).toNat := by
  rw [BitVec.toNat_or, BitVec.toNat_ofInt, BitVec.toNat_ofInt]; rfl
theorem bits_and_u64_l (x y : Int) : bits .and .u64 x y = (((x % 18446744073709551616).toNat &&& (y % 18446744073709551616).toNat : Nat) : Int) := by
  have h : (x % 18446744073709551616).toNat &&& (y % 18446744073709551616).toNat < 18446744073709551616 := by
    have := @Nat.and_le_left (x % 18446744073709551616).toNat (y % 18446744073709551616).toNat
    omega
  rw [← bv_and] at h ⊢
  show IntKind.u64.wrap ((BitVec.ofInt 64 x &&& BitVec.ofInt 64 y).toNat : Int) = _
  rw [IntKind.wrap_u64]; omega
theorem bits_or_u64_l (x y : Int) : bits .or .u64 x y = (((x % 18446744073709551616).toNat ||| (y % 18446744073709551616).toNat : Nat) : Int) := by
  have h : (x % 18446744073709551616).toNat ||| (y % 18446744073709551616).toNat < 2 ^ 64 := Nat.or_lt_two_pow (by omega) (by omega)
  rw [← bv_or] at h ⊢
  show IntKind.u64.wrap ((BitVec.ofInt 64 x ||| BitVec.ofInt 64 y).toNat : Int) = _
  rw [IntKind.wrap_u64]; omega
theorem bits_and_i64_l (x y : Int) : bits .and .i64 x y = ((((x % 18446744073709551616).toNat &&& (y % 18446744073709551616).toNat : Nat) : Int) + 9223372036854775808) % 18446744073709551616 - 9223372036854775808 := by
  rw [← bv_and]
  show IntKind.i64.wrap ((BitVec.ofInt 64 x &&& BitVec.ofInt 64 y).toNat : Int) = _
  rw [IntKind.wrap_i64]
attribute [local go_sem] bits_and_u64_l bits_or_u64_l bits_and_i64_l IntKind.wrap_u64
theorem lt_size {w : World} {b o : Nat} {v : Value} (h : w.cell? ⟨b, o, none⟩ = some v) : b < w.heap.size := by
  rcases Nat.lt_or_ge b w.heap.size with hlt | hge
  · exact hlt
  · rw [World.cell?] at h; simp [Array.getElem?_eq_none hge] at h
def Blk (w : World) (g : Nat) (t : TypeId) (cs : Array Value) : Prop := w.heap[g]? = some (.cells cs t (0, 0))
section
variable {w w' : World} {g : Nat} {t : TypeId} {cs : Array Value}
theorem Blk.lt (h : Blk w g t cs) : g < w.heap.size := by
  rcases Nat.lt_or_ge g w.heap.size with hlt | hge
  · exact hlt
  · unfold Blk at h; rw [Array.getElem?_eq_none hge] at h; cases h
theorem Blk.cell (h : Blk w g t cs) (i : Nat) : w.cell? ⟨g, i, none⟩ = cs[i]? := cell_of_row w g i cs t (0, 0) h
theorem Blk.frozen (h : Blk w g t cs) (i : Nat) : w.frozen? ⟨g, i, none⟩ = false := by
  unfold Blk at h
  simp [World.frozen?, h]
theorem Blk.drew (h : Blk w g t cs) : Blk w.drew g t cs := h
theorem Blk.set_ (h : Blk w g t cs) (i : Nat) (u : Value) : Blk (w.setCell ⟨g, i, none⟩ u) g t (cs.setIfInBounds i u) := by
  unfold Blk at h ⊢
  simp [World.setCell, Array.getElem?_modify, h]
theorem Blk.below {B : Nat} (h : Blk w g t cs) (hb : Below B w w') (hg : g < B) : Blk w' g t cs := (hb.block g hg).trans h
end
theorem grown_set {w w' : World} {g i : Nat} {u : Value} (h : w.grownBy w' (some g)) : w.grownBy (w'.setCell ⟨g, i, none⟩ u) (some g) :=
  ⟨h.os, h.tape, h.output, by rw [World.size_setCell]; exact h.size, fun j hj hne => (RowKit.Below.heap_setCell _ _ _ _ (fun e => hne (by rw [e]))).trans (h.block j hj hne)⟩
theorem grown_drew {w w' : World} {r : Option Nat} (h : w.grownBy w' r) : w.grownBy w'.drew r := ⟨h.os, h.tape, h.output, h.size, h.block⟩
theorem blk_is {w : World} {g : Nat} {t : TypeId} {cs cs' : Array Value} (h : Blk w g t cs) (e : cs = cs') : Blk w g t cs' := e ▸ h
set_option maxRecDepth 100000 in
theorem read_nan (w : World) : Calls Tryz.prog 18 #[.string (S [110,97,110])] w fun e w' => e = .returned (.tuple #[.float .f64 0x7FF8000000000001, .bool true]) ∧ w = w' := by
  unfold S
  go_enter Tryz.func18, Tryz.ntmps18
  go_wp2
  go_ret2
  exact ⟨rfl, rfl⟩
set_option maxRecDepth 100000 in
theorem rf_m0 (w : World) : Calls Tryz.prog 78 #[.string ⟨#[45,48]⟩] w fun e w' => e = .returned (.tuple #[.int .u64 0, .int .i64 0, .bool true, .bool false, .bool false, .int .i64 2, .bool true]) ∧ w = w' := by
  go_enter Tryz.func78, Tryz.ntmps78
  go_wp2
  go_step3
  go_wp2
  go_step3
  go_wp2
  go_rounds 2
  rw [Exit.noGoto_ret]
  refine bodyPost_ret (v := .tuple #[.int .u64 0, .int .i64 0, .bool true, .bool false, .bool false, .int .i64 2, .bool true]) (by simp [results, Tryz.results78, go_sem]) rfl ?_
  exact ⟨rfl, rfl⟩
set_option maxRecDepth 100000 in
theorem rf_125 (w : World) : Calls Tryz.prog 78 #[.string ⟨#[49,46,50,53,48]⟩] w fun e w' => e = .returned (.tuple #[.int .u64 1250, .int .i64 (-3), .bool false, .bool false, .bool false, .int .i64 5, .bool true]) ∧ w = w' := by
  go_enter Tryz.func78, Tryz.ntmps78
  go_wp2
  go_step3
  go_wp2
  go_step3
  go_wp2
  go_rounds 6
  rw [Exit.noGoto_ret]
  refine bodyPost_ret (v := .tuple #[.int .u64 1250, .int .i64 (-3), .bool false, .bool false, .bool false, .int .i64 5, .bool true]) (by simp [results, Tryz.results78, go_sem]) rfl ?_
  exact ⟨rfl, rfl⟩
set_option maxRecDepth 100000 in
theorem sp_m0 (w : World) : Calls Tryz.prog 77 #[.string ⟨#[45,48]⟩] w fun e w' => e = .returned (.tuple #[.float .f64 0, .int .i64 0, .bool false]) ∧ w = w' := by
  go_enter Tryz.func77, Tryz.ntmps77
  go_wp2
  go_rounds 1
  go_ret3
  exact ⟨rfl, rfl⟩
set_option maxRecDepth 100000 in
theorem sp_125 (w : World) : Calls Tryz.prog 77 #[.string ⟨#[49,46,50,53,48]⟩] w fun e w' => e = .returned (.tuple #[.float .f64 0, .int .i64 0, .bool false]) ∧ w = w' := by
  go_enter Tryz.func77, Tryz.ntmps77
  go_wp2
  go_ret3
  exact ⟨rfl, rfl⟩
theorem fo_1250 : floatOfInt .f64 1250 = 4653212373585231872 := by decide +kernel
attribute [local go_sem] fo_1250
set_option maxRecDepth 100000 in
theorem ex_125 (w : World) (b off : Nat) (h6 : w.cell? ⟨6, 0, none⟩ = some (.int .u64 52)) (h10 : w.cell? ⟨10, 0, none⟩ = some (.slice (some ⟨b, off, none⟩) 23 23)) (h10' : w.cell? ⟨b, off + 3, none⟩ = some (.float .f64 4652007308841189376)) : Calls Tryz.prog 88 #[.int .u64 1250, .int .i64 (-3), .bool false] w fun e w' => e = .returned (.tuple #[.float .f64 0x3ff4000000000000, .bool true]) ∧ w = w' := by
  have hq := fun w => run_float_arith (P := Tryz.prog) w .quo 24 .f64 4653212373585231872 4652007308841189376 4608308318706860032 (by decide +kernel)
  go_enter Tryz.func88, Tryz.ntmps88
  go_wp2
  go_ret2
  exact ⟨rfl, rfl⟩
set_option maxRecDepth 100000 in
theorem nd_125 (w : World) (h7 : w.cell? ⟨7, 15, none⟩ = some (.int .u64 1000000000000000)) : Calls Tryz.prog 66 #[.int .u64 1250000000000000] w fun e w' => e = .returned (.int .i64 16) ∧ w = w' := by
  go_enter Tryz.func66, Tryz.ntmps66
  go_wp2
  go_ret
  exact ⟨rfl, rfl⟩
set_option maxRecDepth 100000 in
theorem sf_125 (w : World) (h11 : w.cell? ⟨11, 728, none⟩ = some (.int .u64 10240000000000000000)) (h11b : w.cell? ⟨11, 729, none⟩ = some (.int .u64 0)) : Calls Tryz.prog 72 #[.int .u64 11529215046068469760, .int .i64 (-63)] w fun e w' => e = .returned (.tuple #[.int .u64 1250000000000000, .int .i64 (-15)]) ∧ Below w.heap.size w w' := by
  have h1 : ∀ o, (w.alloc o).cell? ⟨11, 728, none⟩ = some (.int .u64 10240000000000000000) := fun o => (World.cell?_alloc_lt w o ⟨11, 728, none⟩ (lt_size h11)).trans h11
  have h2 : ∀ o, (w.alloc o).cell? ⟨11, 729, none⟩ = some (.int .u64 0) := fun o => (World.cell?_alloc_lt w o ⟨11, 729, none⟩ (lt_size h11)).trans h11b
  have hz := lt_size h11
  clear h11 h11b
  go_enter Tryz.func72, Tryz.ntmps72
  go_wp2
  go_ret2
  exact ⟨rfl, by go_grown⟩
end Go.Proofs.YtoogdidgcclmnaaGreatDoor.alv

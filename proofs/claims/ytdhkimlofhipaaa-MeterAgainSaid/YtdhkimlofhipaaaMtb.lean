import Derived.Test.YtdhkimlofhipaaaMta
import Derived.LaidEqlPtr
import Derived.Lib.Builder
namespace Go.Proofs.Ytdhkimlofhipaaa.mt
open Go.ChangeShapes Go.WideShapes Go.ChangeAt Go.RowKit
set_option linter.unusedVariables false
theorem lt_cell {w : World} {b o : Nat} {v : Value} (h : w.cell? ⟨b, o, none⟩ = some v) : b < w.heap.size := by
  rcases Nat.lt_or_ge b w.heap.size with hlt | hge
  · exact hlt
  · rw [World.cell?] at h; simp [Array.getElem?_eq_none hge] at h
theorem full_eql (g : Nat) (w : World) : (binOp BinOp.eql 20 (Full g) .nilIface).run Try.prog w = .ok (.bool false) w := by unfold Full; kernel_rfl
theorem full_guard (g : Nat) (w : World) : (eqGuard BinOp.eql 20 (Operand.tmp 4) (Operand.const Value.nilIface) (Full g) Value.nilIface).run Try.prog w = .ok () w := by unfold Full; kernel_rfl
theorem full_assert (g : Nat) (w : World) : (Instr.typeAssert (Full g) 20 41 true).run Try.prog w = .ok (.tuple #[.agg #[.pointer (some ⟨g, 0, none⟩)], .bool true]) w := by unfold Full; kernel_rfl
set_option maxRecDepth 100000 in
theorem catch_idle (c : Nat) (w : World) :
    CallsD Try.prog 27 #[.pointer (some ⟨c, 0, none⟩)] .returning w fun e u' w' => e = .returned (.tuple #[]) ∧ u' = .returning ∧ w = w' := by
  have hq : ∀ w : World, (binOp BinOp.eql 20 .nilIface .nilIface).run Try.prog w = .ok (.bool true) w := fun _ => by kernel_rfl
  refine callsD_of_wpS Try.func27 rfl fun c₀ cs hu => ?_
  apply wpS_seq
  apply wpS_region
  simp [wpOpsS, go_sem, recoverD, hu, Try.ntmps27, Exit.thenS]
  refine wpS_of_wp ?_
  go_wp2
  cases c₀
  simp_all [bodyPostS, results, Try.results27]
theorem neq_same (g : Nat) (w : World) : (binOp .neq 24 (.pointer (some ⟨g, 0, none⟩)) (.pointer (some ⟨g, 0, none⟩))).run Try.prog w = .ok (.bool false) w :=
  Lib.run_neq_ptr_same w _ Try.underlying24 (j := (Try.prog.info? 39).get (by kernel_rfl)) (Option.some_get _).symm
theorem run_neq_ptr_other {P : Program} (w : World) {tp te : TypeId} {j : TypeInfo} {a b : Addr} {ca cb : Array Value} {ta tb : TypeId} (hp : P.underlying tp = some (.pointer te)) (hte : P.info? te = some j) (hsz : j.size ≠ 0)
    (hne : a ≠ b) (ha : w.heap[a.block]? = some (.cells ca ta (0, 0))) (hb : w.heap[b.block]? = some (.cells cb tb (0, 0))) :
    (binOp .neq tp (.pointer (some a)) (.pointer (some b))).run P w = .ok (.bool true) w := by
  have h : ∀ d : Nat, (Op.equalIn (d + 1) tp (.pointer (some a)) (.pointer (some b))).run P w = .ok false w := fun d => by
    simp [Op.equalIn, run_underlying hp, sizeOf, typeInfo, hte, hsz, run_sameAddr_other w hne ha hb]
  simp only [binOp]
  simp [Op.equal, Op.maxDepth, h 9999]
theorem neq_other {g j : Nat} (w : World) {cg cj : Array Value} (hj : j ≠ g) (hg : Blk w g 39 cg) (hb : Blk w j 39 cj) : (binOp .neq 24 (.pointer (some ⟨j, 0, none⟩)) (.pointer (some ⟨g, 0, none⟩))).run Try.prog w = .ok (.bool true) w :=
  run_neq_ptr_other w Try.underlying24 (j := (Try.prog.info? 39).get (by kernel_rfl)) (Option.some_get _).symm (by decide +kernel) (fun e => hj (by cases e; rfl)) hb hg
theorem tm16 (x f : Value) : (#[x] ++ (Array.replicate 15 undef).setIfInBounds 3 f) = #[x, undef, undef, undef, f, undef, undef, undef, undef, undef, undef, undef, undef, undef, undef, undef] := rfl
set_option maxRecDepth 100000 in
theorem catch_full (g c : Nat) (older : List PanicEntry) (w : World) (hc : w.cell? ⟨c, 0, none⟩ = some (.pointer (some ⟨g, 0, none⟩))) :
    CallsD Try.prog 27 #[.pointer (some ⟨c, 0, none⟩)] (.panicking ({ v := Full g, recovered := false } :: older)) w fun e u' w' => e = .returned (.tuple #[]) ∧ u' = .panicking ({ v := Full g, recovered := true } :: older) ∧ Below w.heap.size w w' := by
  have hlt := lt_cell hc
  have hc' : ∀ o, (w.alloc o).cell? ⟨c, 0, none⟩ = some (.pointer (some ⟨g, 0, none⟩)) := fun o => (World.cell?_alloc_lt w o ⟨c, 0, none⟩ hlt).trans hc
  have h1 := full_eql g
  have h2 := full_assert g
  have h3 := full_guard g
  have h4 := neq_same g
  refine callsD_of_wpS Try.func27 rfl fun c₀ cs hu => ?_
  apply wpS_seq
  apply wpS_region
  generalize Full g = fg at *
  simp [wpOpsS, go_sem, recoverD, hu, Try.ntmps27, Exit.thenS]
  refine wpS_of_wp ?_
  rw [tm16]
  go_wp2
  exact ⟨rfl, _, rfl, .tuple #[], results_none rfl _ _ _, rfl, rfl, (Below.refl _ _).alloc (Nat.le_refl _) _⟩
set_option maxRecDepth 100000 in
theorem catch_past (g j c : Nat) (hj : j ≠ g) (older : List PanicEntry) (w : World) {cg cj : Array Value} (hg : Blk w g 39 cg) (hb : Blk w j 39 cj) (hc : w.cell? ⟨c, 0, none⟩ = some (.pointer (some ⟨g, 0, none⟩))) :
    CallsD Try.prog 27 #[.pointer (some ⟨c, 0, none⟩)] (.panicking ({ v := Full j, recovered := false } :: older)) w fun e u' w' => e = .panicked [{ v := Full j, recovered := false }] ∧ u' = .panicking ({ v := Full j, recovered := true } :: older) ∧ Below w.heap.size w w' := by
  have hlt := lt_cell hc
  have hc' : ∀ o, (w.alloc o).cell? ⟨c, 0, none⟩ = some (.pointer (some ⟨g, 0, none⟩)) := fun o => (World.cell?_alloc_lt w o ⟨c, 0, none⟩ hlt).trans hc
  have h1 := full_eql j
  have h2 := full_assert j
  have h3 := full_guard j
  have h4 := fun o => neq_other (w.alloc o) hj (hg.alloc o) (hb.alloc o)
  have hjg : ¬ j = g := hj
  refine callsD_of_wpS Try.func27 rfl fun c₀ cs hu => ?_
  apply wpS_seq
  apply wpS_region
  have hF : Full j = .iface 41 (.agg #[.pointer (some ⟨j, 0, none⟩)]) := rfl
  have HF := Lib.hid hF
  clear hF
  generalize Full j = fg at *
  simp [wpOpsS, go_sem, recoverD, hu, Try.ntmps27, Exit.thenS]
  refine wpS_of_wp ?_
  rw [tm16]
  go_wp2
  exact ⟨rfl, _, rfl, by rw [HF.out], rfl, (Below.refl _ _).alloc (Nat.le_refl _) _⟩
end Go.Proofs.Ytdhkimlofhipaaa.mt

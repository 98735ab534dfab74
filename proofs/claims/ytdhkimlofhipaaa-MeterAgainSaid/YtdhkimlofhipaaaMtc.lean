import Derived.Test.YtdhkimlofhipaaaMtb
namespace Go.Proofs.Ytdhkimlofhipaaa.mt
open Go.ChangeShapes Go.WideShapes Go.ChangeAt Go.RowKit
set_option linter.unusedVariables false
theorem mf (fn : Fn) (first cap : Array Value) (w : World) : (Instr.makeFunc fn first cap).run Try.prog w = .ok (.func fn first cap) w := rfl
theorem fn_neq (f : Nat) (cap : Array Value) (w : World) : (binOp .neq 1 (.func (.func f) #[] cap) .nilFunc).run Try.prog w = .ok (.bool true) w := by kernel_rfl
theorem mfn_neq (f : Nat) (cap : Array Value) (w : World) : (binOp .neq 36 (.func (.func f) #[] cap) .nilFunc).run Try.prog w = .ok (.bool true) w := by kernel_rfl
/-- a function with a body: it is entered -/
def Goes (f : Nat) : Prop := ∀ (args : Array Value) (w : World), (callFunc f args).run Try.prog w = .ok (.enter f args) w
theorem goes_25 : Goes 25 := fun _ _ => by kernel_rfl
/-- the variable that the deferred closure has of the meter -/
def Var (w : World) (c g : Nat) : Prop := w.cell? ⟨c, 0, none⟩ = some (.pointer (some ⟨g, 0, none⟩))
def Past (B : Nat) (R : World → Prop) (w' : World) : Prop := ∃ w1, R w1 ∧ Below w1.heap.size w1 w'
set_option maxRecDepth 100000 in
theorem run_done (w : World) (g f : Nat) (cap : Array Value) (v : Value) (R : World → Prop) (hgo : Goes f) (hc : Calls Try.prog f cap (w.alloc (.cells #[.pointer (some ⟨g, 0, none⟩)] 24)) fun e w' => e = .returned v ∧ R w') : Calls Try.prog 12 #[.pointer (some ⟨g, 0, none⟩), .func (.func f) #[] cap] w fun e w' => e = .returned (.bool true) ∧ R w' := by
  have hmf := mf
  have hn := fn_neq f cap
  have hg : ∀ w : World, (callFunc f cap).run Try.prog w = .ok (.enter f cap) w := fun w => hgo cap w
  clear hgo
  go_enter_defers Try.func12, Try.ntmps12
  go_wp2
  refine hc.mono ?_
  rintro e w1 ⟨rfl, hr⟩
  clear hc
  go_wp2
  refine leaves_cons (f := 27) (args := #[.pointer (some ⟨w.heap.size, 0, none⟩)]) (by simp) (by simp [go_sem]) ?_
  refine (catch_idle w.heap.size _).mono ?_
  rintro e u' w2 ⟨rfl, rfl, rfl⟩
  simp [Leaves, settle, results, Try.results12, go_sem]
  exact hr
set_option maxRecDepth 100000 in
theorem run_full (w : World) (g f : Nat) (cap : Array Value) (older : List PanicEntry) (R : World → Prop) (hgo : Goes f) (hold : older.dropWhile (fun e => !e.goexit) = []) (hR : ∀ w', R w' → Var w' w.heap.size g) (hc : Calls Try.prog f cap (w.alloc (.cells #[.pointer (some ⟨g, 0, none⟩)] 24)) fun e w' => e = .panicked ({ v := Full g, recovered := false } :: older) ∧ R w') : Calls Try.prog 12 #[.pointer (some ⟨g, 0, none⟩), .func (.func f) #[] cap] w fun e w' => e = .returned (.bool false) ∧ ∃ w1, R w1 ∧ Below w1.heap.size w1 w' := by
  have hmf := mf
  have hn := fn_neq f cap
  have hg : ∀ w : World, (callFunc f cap).run Try.prog w = .ok (.enter f cap) w := fun w => hgo cap w
  clear hgo
  go_enter_defers Try.func12, Try.ntmps12
  go_wp2
  refine hc.mono ?_
  rintro e w1 ⟨rfl, hr⟩
  clear hc
  have hv := hR _ hr
  go_wp2
  refine leaves_cons (f := 27) (args := #[.pointer (some ⟨w.heap.size, 0, none⟩)]) (by simp) (by simp [go_sem]) ?_
  refine (catch_full g w.heap.size older _ hv).mono ?_
  rintro e u' w2 ⟨rfl, rfl, hb⟩
  simp [Leaves, settle, results, Try.results12, go_sem, hold]
  exact ⟨w1, hr, hb⟩
set_option maxRecDepth 100000 in
theorem run_past (w : World) (g j f : Nat) (hj : j ≠ g) (cap : Array Value) (older : List PanicEntry) (R : World → Prop) (hgo : Goes f) (hR : ∀ w', R w' → Var w' w.heap.size g ∧ (∃ cg, Blk w' g 39 cg) ∧ (∃ cj, Blk w' j 39 cj)) (hc : Calls Try.prog f cap (w.alloc (.cells #[.pointer (some ⟨g, 0, none⟩)] 24)) fun e w' => e = .panicked ({ v := Full j, recovered := false } :: older) ∧ R w') : Calls Try.prog 12 #[.pointer (some ⟨g, 0, none⟩), .func (.func f) #[] cap] w fun e w' => e = .panicked ({ v := Full j, recovered := false } :: { v := Full j, recovered := true } :: older) ∧ ∃ w1, R w1 ∧ Below w1.heap.size w1 w' := by
  have hmf := mf
  have hn := fn_neq f cap
  have hg : ∀ w : World, (callFunc f cap).run Try.prog w = .ok (.enter f cap) w := fun w => hgo cap w
  clear hgo
  go_enter_defers Try.func12, Try.ntmps12
  go_wp2
  refine hc.mono ?_
  rintro e w1 ⟨rfl, hr⟩
  clear hc
  obtain ⟨hv, ⟨cg, hbg⟩, ⟨cj, hbj⟩⟩ := hR _ hr
  go_wp2
  refine leaves_cons (f := 27) (args := #[.pointer (some ⟨w.heap.size, 0, none⟩)]) (by simp) (by simp [go_sem]) ?_
  refine (catch_past g j w.heap.size hj older _ hbg hbj hv).mono ?_
  rintro e u' w2 ⟨rfl, rfl, hb⟩
  simp [Leaves, raised, go_sem]
  exact ⟨w1, hr, hb⟩
end Go.Proofs.Ytdhkimlofhipaaa.mt

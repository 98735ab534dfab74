import Derived.Test.YtdhkimlofhipaaaMtc
namespace Go.Proofs.Ytdhkimlofhipaaa.mt
open Go.ChangeShapes Go.WideShapes Go.ChangeAt Go.RowKit
set_option linter.unusedVariables false
set_option maxRecDepth 100000 in
theorem try1_done (w : World) (c1 c2 g f : Nat) (cap : Array Value) (v : Value) (R : World → Prop) (hgo : Goes f) (h1 : w.cell? ⟨c1, 0, none⟩ = some (.func (.func f) #[] cap)) (h2 : w.cell? ⟨c2, 0, none⟩ = some (.pointer (some ⟨g, 0, none⟩))) (hc : Calls Try.prog f (#[.pointer (some ⟨g, 0, none⟩)] ++ cap) w fun e w' => e = .returned v ∧ R w') : Calls Try.prog 28 #[.pointer (some ⟨c1, 0, none⟩), .pointer (some ⟨c2, 0, none⟩)] w fun e w' => e = .returned (.tuple #[]) ∧ R w' := by
  have hn := mfn_neq f cap
  have hg : ∀ (x : Value) (w : World), (callFunc f (#[x] ++ cap)).run Try.prog w = .ok (.enter f (#[x] ++ cap)) w := fun x w => hgo _ w
  clear hgo
  go_enter Try.func28, Try.ntmps28
  go_wp2
  refine hc.mono ?_
  rintro e w1 ⟨rfl, hr⟩
  clear hc
  go_wp2
  refine bodyPost_end (results_none rfl _ _ _) rfl ?_
  exact ⟨rfl, hr⟩
set_option maxRecDepth 100000 in
theorem try1_full (w : World) (c1 c2 g f : Nat) (cap : Array Value) (ch : List PanicEntry) (R : World → Prop) (hgo : Goes f) (h1 : w.cell? ⟨c1, 0, none⟩ = some (.func (.func f) #[] cap)) (h2 : w.cell? ⟨c2, 0, none⟩ = some (.pointer (some ⟨g, 0, none⟩))) (hc : Calls Try.prog f (#[.pointer (some ⟨g, 0, none⟩)] ++ cap) w fun e w' => e = .panicked ch ∧ R w') : Calls Try.prog 28 #[.pointer (some ⟨c1, 0, none⟩), .pointer (some ⟨c2, 0, none⟩)] w fun e w' => e = .panicked ch ∧ R w' := by
  have hn := mfn_neq f cap
  have hg : ∀ (x : Value) (w : World), (callFunc f (#[x] ++ cap)).run Try.prog w = .ok (.enter f (#[x] ++ cap)) w := fun x w => hgo _ w
  clear hgo
  go_enter Try.func28, Try.ntmps28
  go_wp2
  refine hc.mono ?_
  rintro e w1 ⟨rfl, hr⟩
  clear hc
  go_wp2
  exact ⟨rfl, rfl, hr⟩
theorem goes_try : Goes 28 := fun _ _ => by kernel_rfl
theorem Blk.new' {w : World} {t : TypeId} {cs : Array Value} {n : Nat} (h : n = w.heap.size) : Blk (w.alloc (.cells cs t)) n t cs := h ▸ Blk.new w t cs
theorem mt_new {w : World} {n : Int} {g : Nat} (h : g = w.heap.size) : MtAt (w.alloc (.cells #[.int .i64 (heldI n), .int .i64 0] 39)) g (heldI n) 0 := ⟨Blk.new' h, (heldI_bd n).1, Int.le_refl _, by have := (heldI_bd n).2; omega⟩
theorem MtAt.alloc {w : World} {g : Nat} {l s : Int} (h : MtAt w g l s) (o : Obj) : MtAt (w.alloc o) g l s := ⟨h.1.alloc o, h.2⟩
theorem Kp.back {S T : Nat → Prop} {w w1 w' : World} (h : Kp T w1 w') (hb : Below w.heap.size w w1) (hT : ∀ i, i < w.heap.size → T i → S i) : Kp S w w' :=
  ⟨h.os.trans hb.os, h.tape.trans hb.tape, h.output.trans hb.output, Nat.le_trans hb.size h.size, fun i hi hn => (h.block i (Nat.lt_of_lt_of_le hi hb.size) (fun ht => hn (hT i hi ht))).trans (hb.block i hi)⟩
set_option maxRecDepth 100000 in
set_option maxHeartbeats 400000 in
theorem try_done (w : World) (n l s : Int) (f : Nat) (cap : Array Value) (v : Value) (S : Nat → Prop) (X : World → Prop) (hgo : Goes f) (hS : ∀ i, S i → i < w.heap.size)
    (hc : ∀ W : World, MtAt W (w.heap.size + 1) (heldI n) 0 → Below w.heap.size w W → w.heap.size + 1 < W.heap.size → Calls Try.prog f (#[.pointer (some ⟨w.heap.size + 1, 0, none⟩)] ++ cap) W fun e w' => e = .returned v ∧ (MtAt w' (w.heap.size + 1) l s ∧ Kp (fun i => i = w.heap.size + 1 ∨ S i) W w' ∧ X w')) :
    Calls Try.prog 21 #[.int .i64 n, .func (.func f) #[] cap] w fun e w' => e = .returned (.tuple #[.int .i64 s, .bool true]) ∧ X w' ∧ Kp S w w' := by
  have hmf := mf
  generalize hWd : ((((w.alloc (.cells #[.func (.func f) #[] cap] 36)).alloc (.cells #[.int .i64 (heldI n), .int .i64 0] 39)).alloc (.cells #[.pointer (some ⟨w.heap.size + 1, 0, none⟩)] 24))).alloc (.cells #[.pointer (some ⟨w.heap.size + 1, 0, none⟩)] 24) = Wd
  have b1 : Blk Wd w.heap.size 36 #[.func (.func f) #[] cap] := by rw [← hWd]; exact (((Blk.new' rfl).alloc _).alloc _).alloc _
  have b2 : MtAt Wd (w.heap.size + 1) (heldI n) 0 := by rw [← hWd]; exact ((mt_new (by simp)).alloc _).alloc _
  have b3 : Blk Wd (w.heap.size + 1 + 1) 24 #[.pointer (some ⟨w.heap.size + 1, 0, none⟩)] := by rw [← hWd]; exact (Blk.new' (by simp)).alloc _
  have hB : Below w.heap.size w Wd := by rw [← hWd]; exact ((((Below.refl _ _).alloc (Nat.le_refl _) _).alloc (by simp) _).alloc (by simp; omega) _).alloc (by simp; omega) _
  have hz : w.heap.size + 1 < Wd.heap.size := by have := b3.lt; omega
  have h1 := try1_done Wd w.heap.size (w.heap.size + 1 + 1) (w.heap.size + 1) f cap v _ hgo (b1.cell 0) (b3.cell 0) (hc Wd b2 hB hz)
  rw [← hWd] at h1
  have h2 := run_done _ _ _ _ _ _ goes_try h1
  rw [hWd] at h2
  have H2 := Lib.hid h2
  clear h1 h2 hc hWd
  go_enter Try.func21, Try.ntmps21
  go_wp2_with (first | (go_at_call 8; refine (new_any _ _).mono ?_; rintro e w1 ⟨rfl, rfl⟩) | (go_at_call 12; refine H2.out.mono ?_; rintro e w1 ⟨rfl, hm, hk, hx⟩; have c3 : w1.cell? ⟨w.heap.size + 1 + 1, 0, none⟩ = some (.pointer (some ⟨w.heap.size + 1, 0, none⟩)) := (hk.blk b3 (fun h => h.elim (fun h => by omega) (fun h => by have := hS _ h; omega))).cell 0) | (go_at_call 11; refine (spent_any _ _ _ _ hm).mono ?_; rintro e w2 ⟨rfl, rfl⟩))
  go_ret2
  exact ⟨rfl, hx, hk.back hB (fun i hi h => h.elim (fun h => by omega) id)⟩
set_option maxRecDepth 100000 in
set_option maxHeartbeats 400000 in
theorem try_full (w : World) (n l s : Int) (f : Nat) (cap : Array Value) (S : Nat → Prop) (X : World → Prop) (hgo : Goes f) (hS : ∀ i, S i → i < w.heap.size)
    (hc : ∀ W : World, MtAt W (w.heap.size + 1) (heldI n) 0 → Below w.heap.size w W → w.heap.size + 1 < W.heap.size → Calls Try.prog f (#[.pointer (some ⟨w.heap.size + 1, 0, none⟩)] ++ cap) W fun e w' => e = .panicked [{ v := Full (w.heap.size + 1), recovered := false }] ∧ (MtAt w' (w.heap.size + 1) l s ∧ Kp (fun i => i = w.heap.size + 1 ∨ S i) W w' ∧ X w')) :
    Calls Try.prog 21 #[.int .i64 n, .func (.func f) #[] cap] w fun e w' => e = .returned (.tuple #[.int .i64 s, .bool false]) ∧ Kp S w w' ∧ ∃ w1, X w1 ∧ Below w1.heap.size w1 w' := by
  have hmf := mf
  generalize hW3 : (((w.alloc (.cells #[.func (.func f) #[] cap] 36)).alloc (.cells #[.int .i64 (heldI n), .int .i64 0] 39)).alloc (.cells #[.pointer (some ⟨w.heap.size + 1, 0, none⟩)] 24)) = W3
  generalize hWd : W3.alloc (.cells #[.pointer (some ⟨w.heap.size + 1, 0, none⟩)] 24) = Wd
  have z3 : W3.heap.size = w.heap.size + 1 + 1 + 1 := by rw [← hW3]; simp
  have b1 : Blk Wd w.heap.size 36 #[.func (.func f) #[] cap] := by rw [← hWd, ← hW3]; exact (((Blk.new' rfl).alloc _).alloc _).alloc _
  have b2 : MtAt Wd (w.heap.size + 1) (heldI n) 0 := by rw [← hWd, ← hW3]; exact ((mt_new (by simp)).alloc _).alloc _
  have b3 : Blk Wd (w.heap.size + 1 + 1) 24 #[.pointer (some ⟨w.heap.size + 1, 0, none⟩)] := by rw [← hWd, ← hW3]; exact (Blk.new' (by simp)).alloc _
  have b4 : Blk Wd W3.heap.size 24 #[.pointer (some ⟨w.heap.size + 1, 0, none⟩)] := by rw [← hWd]; exact Blk.new' rfl
  have hB : Below w.heap.size w Wd := by rw [← hWd, ← hW3]; exact ((((Below.refl _ _).alloc (Nat.le_refl _) _).alloc (by simp) _).alloc (by simp; omega) _).alloc (by simp; omega) _
  have hz : w.heap.size + 1 < Wd.heap.size := by have := b3.lt; omega
  have h1 := try1_full Wd w.heap.size (w.heap.size + 1 + 1) (w.heap.size + 1) f cap _ _ hgo (b1.cell 0) (b3.cell 0) (hc Wd b2 hB hz)
  rw [← hWd] at h1
  have h2 := run_full _ _ _ _ [] _ goes_try rfl (fun w' hr => by
    obtain ⟨_, hk, _⟩ := hr
    rw [hWd] at hk
    exact (hk.blk b4 (fun h => by
      rcases h with h | h
      · omega
      · have := hS _ h; omega)).cell 0) h1
  rw [hWd, ← hW3] at h2
  have H2 := Lib.hid h2
  clear h1 h2 hc hWd hW3 z3
  go_enter Try.func21, Try.ntmps21
  go_wp2_with (first | (go_at_call 8; refine (new_any _ _).mono ?_; rintro e w1 ⟨rfl, rfl⟩) | (go_at_call 12; refine H2.out.mono ?_; rintro e w2 ⟨rfl, w1, ⟨hm0, hk, hx⟩, hb⟩; have hm := hm0.kept (Kp.of_below hb) (by have := hm0.1.lt; omega); have c3 : w2.cell? ⟨w.heap.size + 1 + 1, 0, none⟩ = some (.pointer (some ⟨w.heap.size + 1, 0, none⟩)) := ((Kp.of_below hb).blk (hk.blk b3 (fun h => h.elim (fun h => by omega) (fun h => by have := hS _ h; omega))) (by have := (hk.blk b3 (fun h => h.elim (fun h => by omega) (fun h => by have := hS _ h; omega))).lt; omega)).cell 0) | (go_at_call 11; refine (spent_any _ _ _ _ hm).mono ?_; rintro e w3 ⟨rfl, rfl⟩))
  go_ret2
  exact ⟨rfl, (hk.then_ (Kp.of_below hb) (fun i hi => .inr (Nat.le_trans hk.size hi))).back hB (fun i hi h => h.elim (fun h => by omega) id), w1, hx, hb⟩
end Go.Proofs.Ytdhkimlofhipaaa.mt

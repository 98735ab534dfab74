import Derived.Test.YtomikgkoegkofaaGreatDoorUsc
namespace Go.Proofs.YtomikgkoegkofaaGreatDoor.dv
open Go.ChangeShapes Go.WideShapes Go.ChangeAt Go.RowKit Go.Maps Go.WideMaps Go.WideElems
set_option linter.unusedVariables false
set_option linter.unusedSimpArgs false
/-! becomes, mark, markAll -/
attribute [local go_sem] run_store_fl
set_option maxRecDepth 100000 in
theorem bec1_any (w : World) (bl : Nat) (v : Value) (S : List Bool) (x : Int) (hb : w.cell? ⟨bl, 0, none⟩ = some v) (h : ReadB w v S) : Calls Tryz.prog 68 #[.int .i64 x, .pointer (some ⟨bl, 0, none⟩)] w fun e w' => e = .returned (.bool (!decide (x < 0) && !at_ S x)) ∧ w' = w := by
  have ht := isTerm_any w x
  have hm := marked_any w v S x h
  obtain ⟨ao, cap, rfl, _⟩ := h
  by_cases h0 : x < 0
  · rw [decide_eq_true h0] at ht ⊢
    clear hm
    go_enter Tryz.func68, Tryz.ntmps68
    go_wp2_with fail
    refine ht.mono ?_
    rintro e w1 ⟨rfl, rfl⟩
    go_wp2
    go_ret
    exact ⟨rfl, rfl⟩
  · rw [decide_eq_false h0] at ht ⊢
    rw [decide_eq_true (show 0 ≤ x by omega)] at hm
    generalize at_ S x = b at *
    go_enter Tryz.func68, Tryz.ntmps68
    go_wp2_with fail
    refine ht.mono ?_
    rintro e w1 ⟨rfl, rfl⟩
    go_wp2_with fail
    refine hm.mono ?_
    rintro e w1 ⟨rfl, rfl⟩
    cases b
    · go_wp2
      go_ret
      exact ⟨rfl, rfl⟩
    · go_wp2
      go_ret
      exact ⟨rfl, rfl⟩
theorem any_all (S : List Bool) : ∀ (F : List Int), (!F.any fun x => !decide (x < 0) && !at_ S x) = allB S false F
  | [] => rfl
  | s :: F => by
    have ih := any_all S F
    unfold allB at *
    rw [List.any_cons, List.all_cons, ← ih]
    by_cases h : s < 0
    · simp [h]
    · simp [h]
theorem goes_bec : Goes 68 := fun args w => enters_of Tryz.func68 (by kernel_rfl) rfl args w
set_option maxRecDepth 100000 in
set_option maxHeartbeats 1000000 in
theorem becomes_any (w : World) (r : Rl) (ao : Option Addr) (cp : Nat) (v : Value) (S : List Bool) (hr : RowAt w (.slice ao r.right.length cp) r.right) (hS : ReadB w v S) : Calls Tryz.prog 35 #[RlV r ao cp, v] w fun e w' => e = .returned (.bool (allB S false r.right)) ∧ Below w.heap.size w w' := by
  have e := any_all S r.right
  rw [← e]
  clear e
  unfold RlV
  have b0 := Blk.new w 44 #[.int .i64 r.left, .slice ao r.right.length cp, .float .f64 r.wt]
  have b1 := Blk.new (w.alloc (.cells #[.int .i64 r.left, .slice ao r.right.length cp, .float .f64 r.wt] 44)) 34 #[v]
  rw [World.size_alloc] at b1
  have b0' := b0.alloc (.cells #[v] 34)
  have c0 := b0'.cell 0
  have c1 := b0'.cell 1
  have c2 := b0'.cell 2
  have c3 := b1.cell 0
  simp only [List.getElem?_toArray, List.getElem?_cons_zero, List.getElem?_cons_succ] at c0 c1 c2 c3
  have hbl : Below w.heap.size w ((w.alloc (.cells #[.int .i64 r.left, .slice ao r.right.length cp, .float .f64 r.wt] 44)).alloc (.cells #[v] 34)) := ((Below.refl _ w).alloc (Nat.le_refl _) _).alloc (by simp) _
  have hct := contains_any ((w.alloc (.cells #[.int .i64 r.left, .slice ao r.right.length cp, .float .f64 r.wt] 44)).alloc (.cells #[v] 34)) _ r.right 68 #[.pointer (some ⟨w.heap.size + 1, 0, none⟩)] (fun x => !decide (x < 0) && !at_ S x) goes_bec (fun x W hW => (bec1_any W (w.heap.size + 1) v S x ((hW.cell (p := ⟨w.heap.size + 1, 0, none⟩) b1.lt).trans c3) ((hS.below hbl).below hW)).mono fun e w' h => ⟨h.1, by rw [h.2]; exact hW⟩) (hr.below hbl)
  obtain ⟨vo, vc, rfl, _⟩ := hS
  generalize (r.right.any fun x => !decide (x < 0) && !at_ S x) = b at *
  go_enter Tryz.func35, Tryz.ntmps35
  go_wp2_with fail
  refine hct.mono ?_
  rintro e w1 ⟨rfl, hb1⟩
  go_wp2
  go_ret
  exact ⟨rfl, hbl.trans (hb1.mono (by simp; omega))⟩
/-- marks that are one's own, from block m on -/
def MarksAt (w : World) (B m : Nat) (v : Value) (S : List Bool) : Prop := (∃ cap, v = .slice (some ⟨m, 0, none⟩) S.length cap) ∧ w.ownsRow B 4 1 v S.length (BV S)
theorem MarksAt.read {w : World} {B m : Nat} {v : Value} {S : List Bool} (h : MarksAt w B m v S) : ReadB w v S := readB_own h.2 rfl
theorem bv_set (S : List Bool) (k : Nat) : (BV S).set k (.bool true) = BV (S.set k true) := by unfold BV; rw [List.map_set]
set_option maxRecDepth 100000 in
set_option maxHeartbeats 1000000 in
theorem mark_any (w : World) (B m : Nat) (v : Value) (S : List Bool) (k : Nat) (hk : k < S.length) (h : MarksAt w B m v S) : Calls Tryz.prog 36 #[v, .int .i64 k] w fun e w' => e = .returned (.bool (!at_ S (k : Int))) ∧ MarksAt w' B m v (S.set k true) ∧ w.grownBy w' (some m) := by
  obtain ⟨⟨cap, rfl⟩, hown⟩ := h
  have hc := hown.cellAt k (by omega)
  have hcw : w.cell? ⟨m, k, none⟩ = some (.bool (S.getD k false)) := by
    rw [hc]
    simp [BV, List.getD_eq_getElem?_getD, List.getElem?_eq_getElem hk]
  have hfw := hown.frozenAt k
  have hat : at_ S (k : Int) = S.getD k false := rfl
  obtain ⟨o1, o2⟩ := hown.stored k (.bool true)
  rw [bv_set] at o1
  have HO1 := Lib.hid o1
  have HO2 := Lib.hid o2
  have hk2 : (k : Int) < (S.length : Int) := by omega
  rw [hat]
  clear hc o1 o2
  generalize S.getD k false = b at *
  go_enter Tryz.func36, Tryz.ntmps36
  go_wp2
  go_ret
  exact ⟨rfl, ⟨⟨cap, by simp⟩, by simpa using HO1.out⟩, HO2.out⟩
theorem set_len (S : List Bool) (k : Nat) : (S.set k true).length = S.length := by simp
theorem cnt_le_set (S : List Bool) (k : Nat) (h : k < S.length) (hf : S.getD k false = false) : S.length - cnt (S.set k true) < S.length - cnt S := by
  have h1 := cnt_set S k h hf
  have h2 := cnt_le (S.set k true)
  simp at h2
  omega
theorem set_same (S : List Bool) (k : Nat) (h : S.getD k false = true) : S.set k true = S := by
  by_cases hk : k < S.length
  · rw [List.getD_eq_getElem?_getD, List.getElem?_eq_getElem hk] at h
    have h' : S[k] = true := by simpa using h
    apply List.ext_getElem (by simp)
    intro i h1 h2
    rw [List.getElem_set]
    split
    · rename_i e
      subst e
      exact h'.symm
    · rfl
  · exact List.set_eq_of_length_le (by omega)
/-- the marks that a closure has: in a box, in block m, below what is closed, of n -/
def StB (n B m bx : Nat) (P : List Bool → Prop) (S : List Bool) (W : World) : Prop := S.length = n ∧ P S ∧ bx < W.heap.size ∧ bx ≠ m ∧ ∃ v, W.heap[bx]? = some (.cells #[v] 34 (0, 0)) ∧ MarksAt W B m v S
theorem marks_alloc {w : World} {B m : Nat} {v : Value} {S : List Bool} (h : MarksAt w B m v S) (o : Obj) : MarksAt (w.alloc o) B m v S := ⟨h.1, h.2.alloc o⟩
theorem marks_lt {w : World} {B m : Nat} {v : Value} {S : List Bool} (h : MarksAt w B m v S) : m < w.heap.size := by
  obtain ⟨⟨cap, rfl⟩, ho⟩ := h
  exact own_lt ho
theorem marks_below {w w' : World} {B m : Nat} {v : Value} {S : List Bool} (h : MarksAt w B m v S) (hb : Below w.heap.size w w') : MarksAt w' B m v S := ⟨h.1, ownsRow_keep h.2 (fun g hg _ => hb.block g hg)⟩
theorem stB_alloc {n B m bx : Nat} {P : List Bool → Prop} {S : List Bool} {W : World} (o : Obj) (h : StB n B m bx P S W) : StB n B m bx P S (W.alloc o) := by
  obtain ⟨h1, h2, h3, h4, v, h5, h6⟩ := h
  exact ⟨h1, h2, by rw [World.size_alloc]; omega, h4, v, (Below.heap_alloc W o bx h3).trans h5, marks_alloc h6 o⟩
theorem stB_mu {n B m bx : Nat} {P : List Bool → Prop} (X Y : List Bool) (W : World) (h : StB n B m bx P X W) (k : StB n B m bx P Y W) : n - cnt X = n - cnt Y := by
  obtain ⟨h1, _, _, _, v, h5, ⟨c, hv⟩, h6⟩ := h
  obtain ⟨k1, _, _, _, u, k5, ⟨d, hu⟩, k6⟩ := k
  rw [h5] at k5
  cases k5
  subst hv
  have e : X = Y := by
    apply List.ext_getElem (by omega)
    intro i h1' h2'
    have a := h6.cellAt i (by omega)
    have b := k6.2
    have b' : W.cell? ⟨m, i, none⟩ = (BV Y)[i]? := by
      rw [hu] at k6
      exact k6.cellAt i (by omega)
    rw [b'] at a
    simp [BV, List.getElem?_eq_getElem h1', List.getElem?_eq_getElem h2'] at a
    exact a.symm
  rw [e]
theorem stB_below {n B m bx : Nat} {P : List Bool → Prop} {S : List Bool} {W W' : World} (h : StB n B m bx P S W) (hb : Below W.heap.size W W') : StB n B m bx P S W' := by
  obtain ⟨h1, h2, h3, h4, v, h5, h6⟩ := h
  exact ⟨h1, h2, Nat.lt_of_lt_of_le h3 hb.size, h4, v, (hb.block bx h3).trans h5, marks_below h6 hb⟩
theorem grown_below {W W' : World} (h : Below W.heap.size W W') (row : Option Nat) : W.grownBy W' row := ⟨h.os, h.tape, h.output, h.size, fun k hk _ => h.block k hk⟩
/-- what is settled of a rule -/
def SatB (R : List Rl) (none : Bool) (S : List Bool) (i : Nat) : Prop := ∀ r, R[i]? = some r → allB S none r.right = true → at_ S r.left = true
def LeastB (R : List Rl) (none : Bool) (n : Nat) (S : List Bool) : Prop := ∀ X : List Bool, X.length = n → Closed R none X → le S X
theorem least_set {R : List Rl} {none : Bool} {n : Nat} {S : List Bool} {r : Rl} (h : LeastB R none n S) (hr : r ∈ R) (ha : allB S none r.right = true) : LeastB R none n (S.set r.left.toNat true) := fun X hX hc v hv => by
  rcases (set_at _ _ _).1 hv with h1 | ⟨rfl, _⟩
  · exact h X hX hc v h1
  · exact hc r hr (allB_mono (h X hX hc) ha)
theorem info_bool : (Tryz.prog.info? 4).map (fun i => (i.zero, i.size, i.bytes)) = some (some (.bool false), 1, 1) := by kernel_rfl
theorem bv_rep (n : Nat) : BV (List.replicate n false) = List.replicate n (Value.bool false) := by simp [BV]
theorem least_none (R : List Rl) (none : Bool) (n : Nat) : LeastB R none n (List.replicate n false) := fun X _ _ v hv => by
  rw [List.getD_eq_getElem?_getD, List.getElem?_replicate] at hv
  split at hv <;> simp at hv
theorem sat_closed {R : List Rl} {none : Bool} {S : List Bool} (h : ∀ i, i < R.length → SatB R none S i) : Closed R none S := fun r hr ha => by
  obtain ⟨i, hi, rfl⟩ := List.mem_iff_getElem.1 hr
  exact h i hi _ (List.getElem?_eq_getElem hi) ha
theorem marks_weak {w : World} {B B' m : Nat} {v : Value} {S : List Bool} (h : MarksAt w B m v S) (hb : B' ≤ B) : MarksAt w B' m v S := ⟨h.1, own_weak h.2 hb⟩
theorem marks_far {w w' : World} {B m m' : Nat} {v : Value} {S : List Bool} (h : MarksAt w B m v S) (hg : w.grownBy w' (some m')) (hne : m ≠ m') : MarksAt w' B m v S := by
  obtain ⟨⟨cap, rfl⟩, ho⟩ := h
  exact ⟨⟨cap, rfl⟩, ownsRow_keep ho (fun g hg' hv => hg.block g hg' (fun e => by
    have e1 : m = g := by simpa [Value.ownBlock] using hv
    have e2 := Option.some.inj e
    omega))⟩
theorem RulesAt.far {B : Nat} {w w' : World} {v : Value} {R : List Rl} (h : RulesAt B w v R) (hb : Below B w w') : RulesAt B w' v R := by
  obtain ⟨ao', cap', e, hn2, hr⟩ := h
  refine ⟨ao', cap', e, hn2, fun j q hj => ?_⟩
  obtain ⟨a, ea, hab, ao2, c2, h1, h2, h3, h4, h5, h6, h7, h8⟩ := hr j q hj
  have hc : ∀ n v, w.cell? (a.add n) = some v → w'.cell? (a.add n) = some v := fun n v hv => (hb.cell (p := a.add n) (by rw [add_block]; exact hab)).trans hv
  refine ⟨a, ea, hab, ao2, c2, hc _ _ h1, hc _ _ h2, hc _ _ h3, h4, h5, h6, fun i hi => ?_, h8⟩
  obtain ⟨a2, e2, hab2, hca⟩ := h7 i hi
  exact ⟨a2, e2, hab2, (hb.cell (p := a2.add i) (by rw [add_block]; exact hab2)).trans hca⟩
end Go.Proofs.YtomikgkoegkofaaGreatDoor.dv

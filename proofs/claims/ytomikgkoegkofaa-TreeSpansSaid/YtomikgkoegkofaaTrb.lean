import Derived.Test.YtomikgkoegkofaaDvc
import Derived.Test.YtomikgkoegkofaaTra
namespace Go.Proofs.Ytomikgkoegkofaa.dt
open Go.ChangeShapes Go.WideShapes Go.ChangeAt Go.RowKit Go.Maps Go.WideMaps Go.WideElems Go.Shelf Go.Proofs.Ytomikgkoegkofaa.dv
set_option linter.unusedVariables false
attribute [local go_sem] Oper.semAt_some
/-! nodes in memory; a row of nodes, gone through from its end -/
def PtrV (b : Nat) : Value := .pointer (some ⟨b, 0, none⟩)
def PV (l : List Nat) : List Value := l.map PtrV
def PC (l : List (Nat × Nat)) : List Value := l.flatMap fun x => [PtrV x.1, .int .i64 x.2]
theorem PC_length (l : List (Nat × Nat)) : (PC l).length = l.length * 2 := by
  induction l with
  | nil => rfl
  | cons x l ih => simp only [PC, List.flatMap_cons, List.length_append, List.length_cons, List.length_nil] at ih ⊢; omega
theorem PC_snoc (l : List (Nat × Nat)) (x : Nat × Nat) : PC (l ++ [x]) = PC l ++ [PtrV x.1, .int .i64 x.2] := by simp [PC]
/-- what the going through lays and turns: blocks of places, and what holds no cells -/
def Mine : Obj → Prop
  | .cells _ t _ => t = 109 ∨ t = 108 ∨ t = 63
  | _ => True
/-- what abides that -/
def Abid (m₀ : Nat) (Jc : World → Prop) : Prop := ∀ A B row, Jc A → A.grownBy B row → (∀ r, row = some r → m₀ ≤ r ∧ ∃ o : Obj, A.heap[r]? = some o ∧ Mine o) → Jc B
/-- what a body keeps for it -/
def KeepM (m₀ : Nat) (W W' : World) : Prop := W.heap.size ≤ W'.heap.size ∧ ∀ (k : Nat) (o : Obj), m₀ ≤ k → W.heap[k]? = some o → Mine o → W'.heap[k]? = some o
theorem KeepM.refl (m₀ : Nat) (W : World) : KeepM m₀ W W := ⟨Nat.le_refl _, fun _ _ _ h _ => h⟩
theorem KeepM.trans {m₀ : Nat} {A B C : World} (h : KeepM m₀ A B) (k : KeepM m₀ B C) : KeepM m₀ A C := ⟨Nat.le_trans h.1 k.1, fun i o hi ho hm => k.2 i o hi (h.2 i o hi ho hm) hm⟩
theorem KeepM.below {m₀ : Nat} {A B : World} (h : Below A.heap.size A B) : KeepM m₀ A B := ⟨h.size, fun k o _ ho _ => (h.block k (Array.getElem?_eq_some_iff.1 ho).1).trans ho⟩
theorem mine_other {o : Obj} (h : o.isCells = false) : Mine o := by
  cases o <;> first | trivial | (simp [Obj.isCells] at h)
/-- cells in blocks of a kind lie as they lay -/
def KeepC (S : Nat → Prop) (W W' : World) : Prop := ∀ (k : Nat) (o : Obj), S k → W.heap[k]? = some o → o.isCells = true → W'.heap[k]? = some o
theorem KeepC.refl (S : Nat → Prop) (W : World) : KeepC S W W := fun _ _ _ h _ => h
theorem KeepC.trans {S : Nat → Prop} {A B C : World} (h : KeepC S A B) (k : KeepC S B C) : KeepC S A C := fun i o hi ho hc => k i o hi (h i o hi ho hc) hc
theorem cell_same {W W' : World} {p : Addr} (h : W'.heap[p.block]? = W.heap[p.block]?) : W'.cell? p = W.cell? p := by
  unfold World.cell?
  rw [h]
def RowN (S : Nat → Prop) (W : World) (ao : Option Addr) (zs : List Nat) : Prop := ∀ j, j < zs.length → ∃ a : Addr, ao = some a ∧ S a.block ∧ (∃ o : Obj, W.heap[a.block]? = some o ∧ o.isCells = true) ∧ W.cell? (a.add j) = some (PtrV (zs.getD j 0))
theorem RowN.kept {S : Nat → Prop} {W W' : World} {ao : Option Addr} {zs : List Nat} (h : RowN S W ao zs) (k : KeepC S W W') : RowN S W' ao zs := fun j hj => by
  obtain ⟨a, e, hs, ⟨o, ho, hc⟩, hv⟩ := h j hj
  have h2 := k _ o hs ho hc
  exact ⟨a, e, hs, ⟨o, h2, hc⟩, (cell_same (p := a.add j) (by rw [add_block, h2, ho])).trans hv⟩
def bkn (zs : List Nat) (k : Nat) : Nat × Nat := (zs.length - 1 - k, zs.getD (zs.length - 1 - k) 0)
theorem upto_bkn (zs : List Nat) : (upto (bkn zs) zs.length).map (·.2) = zs.reverse := by
  apply List.ext_getElem
  · simp [upto]
  · intro i h1 h2
    have : i < zs.length := by simp [upto] at h1; omega
    simp [upto, bkn, List.getD_eq_getElem?_getD, List.getElem?_eq_getElem (show zs.length - 1 - i < zs.length by omega)]
set_option maxRecDepth 100000 in
set_option maxHeartbeats 2000000 in
theorem back1n_in (F : Fence) (n : Nat) (h7 : F.fn 88) (hro : F.round = none) (hn : 1 ≤ n) (l Bs cap : Nat) (S : Nat → Prop) (hSB : S Bs) (ao : Option Addr) (zs : List Nat) (hreach : zs.length ≤ 1000000) (J Jx : List (Nat × Nat) → World → Prop)
    (hY : ∀ pre x W, J pre W → pre.length < zs.length → YieldAt F (n - 1) Try.prog l #[.int .i64 (x.1 : Int), PtrV x.2] W fun e W' =>
      (e = .returned (.bool true) ∧ J (pre ++ [x]) W' ∧ KeepC S W W') ∨ (e = .returned (.bool false) ∧ Jx (pre ++ [x]) W'))
    (W : World) (hBs : Blk W Bs 63 #[.slice ao zs.length cap]) (hc : RowN S W ao zs) (h0 : J [] W) :
    CallsIn F n Try.prog 88 #[.func (.yield l) #[] #[], .pointer (some ⟨Bs, 0, none⟩)] W fun e W' => (∃ v, e = .returned v) ∧
      ((∃ ys, ys = upto (bkn zs) zs.length ∧ J ys W') ∨ (∃ pre, (∃ k, k ≤ zs.length ∧ pre = upto (bkn zs) k) ∧ Jx pre W')) := by
  have HC := Lib.hid hc
  have HB := Lib.hid hBs
  have c0 := hBs.cell 0
  simp only [List.getElem?_toArray, List.getElem?_cons_zero] at c0
  clear hc hBs
  refine callsIn_of_wp Try.func88 rfl h7 ?_ hro
  simp only [Try.ntmps88, List.size_toArray, List.length_cons, List.length_nil, Nat.reduceAdd, Nat.reduceSub, Array.replicate_succ, Array.replicate_zero, List.push_toArray, List.append_toArray, List.nil_append, List.cons_append]
  gi_wp2
  clear c0
  gi_loopw [3] (fun i wr => ∃ m : Nat, m ≤ zs.length ∧ i = .int .i64 ((m : Int) - 1) ∧ J (upto (bkn zs) (zs.length - m)) wr ∧ KeepC S W wr)
    (fun i _ => (intOf i + 1).toNat)
  case atStart => exact ⟨zs.length, Nat.le_refl _, rfl, by rw [Nat.sub_self]; exact h0, KeepC.refl _ _⟩
  case round =>
    obtain ⟨m, hk, rfl, hJs, hnx⟩ := hrel
    have hbw : Blk wr Bs 63 #[.slice ao zs.length cap] := hnx _ _ hSB HB.out rfl
    have hcb := hbw.cell 0
    simp only [List.getElem?_toArray, List.getElem?_cons_zero] at hcb
    clear hbw
    cases m with
    | zero =>
      rw [Nat.sub_zero] at hJs
      gi_wp2
      go_end0
      exact ⟨⟨_, rfl⟩, .inl ⟨_, rfl, hJs⟩⟩
    | succ m =>
      have e1 : ((m + 1 : Nat) : Int) - 1 = (m : Int) := by omega
      obtain ⟨a, rfl, _, _, hcx⟩ := (HC.out.kept hnx) m (by omega)
      have e2 : zs.length - 1 - (zs.length - (m + 1)) = m := by omega
      have e3 : bkn zs (zs.length - (m + 1)) = (m, zs.getD m 0) := by unfold bkn; rw [e2]
      have e4 : zs.length - m = zs.length - (m + 1) + 1 := by omega
      obtain ⟨fn, tmps, assign, body, hy, hR⟩ := hY _ (m, zs.getD m 0) wr hJs (by rw [upto_length]; omega)
      dsimp only at hy
      have hup : upto (bkn zs) (zs.length - m) = upto (bkn zs) (zs.length - (m + 1)) ++ [(m, zs.getD m 0)] := by rw [e4, upto_succ, e3]
      have HU := Lib.hid hup
      clear hup e2 e3 e4
      generalize zs.getD m 0 = z at *
      unfold PtrV at hcx hy
      simp only [e1]
      gi_wp2
      refine hR.mono ?_
      rintro e W3 (⟨rfl, hJ3, hk3⟩ | ⟨rfl, hJx3⟩)
      · gi_wp2
        go_roundw
        case rel => exact ⟨m, by omega, rfl, by rw [HU.out]; exact hJ3, hnx.trans hk3⟩
        case measure => simp only [intOf]; omega
      · gi_wp2
        refine bodyPost_ret (results_none rfl _ _ _) rfl ?_
        exact ⟨⟨_, rfl⟩, .inr ⟨_, ⟨zs.length - m, by omega, HU.out.symm⟩, hJx3⟩⟩
set_option maxHeartbeats 1000000 in
theorem backn_in (F : Fence) (n : Nat) (h5 : F.fn 80) (hro : F.round = none) (a : Option Addr) (len cap : Nat) (w : World) :
    CallsIn F n Try.prog 80 #[.slice a len cap] w fun e w' => e = .returned (.func (.func 88) #[] #[.pointer (some ⟨w.heap.size, 0, none⟩)]) ∧ w' = w.alloc (.cells #[.slice a len cap] 63) := by
  refine callsIn_of_wp Try.func80 rfl h5 ?_ hro
  simp only [Try.ntmps80, List.size_toArray, List.length_cons, List.length_nil, Nat.reduceAdd, Nat.reduceSub, Array.replicate_succ, Array.replicate_zero, List.push_toArray, List.append_toArray, List.nil_append, List.cons_append]
  gi_wp2
  go_ret
  exact ⟨rfl, rfl⟩
theorem backn_stops (F : Fence) (n : Nat) (h7 : F.fn 88) (hro : F.round = none) (hn : 1 ≤ n) (Bs cap : Nat) (S : Nat → Prop) (hSB : S Bs) (ao : Option Addr) (zs : List Nat) (hreach : zs.length ≤ 1000000) (w : World)
    (hBs : Blk w Bs 63 #[.slice ao zs.length cap]) (hI : RowN S w ao zs) :
    SeqStopsK F n Try.prog 88 #[.pointer (some ⟨Bs, 0, none⟩)] (fun x : Nat × Nat => #[Value.int .i64 (x.1 : Int), PtrV x.2]) (KeepC S) (fun ys => ys = upto (bkn zs) zs.length)
      (fun pre => ∃ k, k ≤ zs.length ∧ pre = upto (bkn zs) k) zs.length w := fun l J Jx W hW _ _ hY h0 =>
  back1n_in F n h7 hro hn l Bs cap S hSB ao zs hreach J Jx hY W (hBs.below hW hBs.lt) (hI.kept (fun k o _ ho _ => (hW.block k (Array.getElem?_eq_some_iff.1 ho).1).trans ho)) h0
theorem keepc_b {S : Nat → Prop} : ∀ (W : World) (l : Nat) (o o' : Obj), W.heap[l]? = some o → o.isCells = false → KeepC S W (W.putObj l o') := fun W l o o' h hc k x _ hx hxc => by
  by_cases e : k = l
  · subst e
    rw [h] at hx
    cases hx
    rw [hc] at hxc
    cases hxc
  · exact (World.putObj_heap_other e).trans hx
end Go.Proofs.Ytomikgkoegkofaa.dt

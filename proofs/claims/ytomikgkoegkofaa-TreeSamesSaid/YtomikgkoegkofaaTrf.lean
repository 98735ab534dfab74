import Derived.Test.YtomikgkoegkofaaTre
namespace Go.Proofs.Ytomikgkoegkofaa.dt
open Go.ChangeShapes Go.WideShapes Go.ChangeAt Go.RowKit Go.Maps Go.WideMaps Go.WideElems Go.Shelf Go.Proofs.Ytomikgkoegkofaa.dv
set_option linter.unusedVariables false
set_option linter.unusedSimpArgs false
attribute [local go_sem] Oper.semAt_some
/-! a tree's size and height -/
def Other (t : TypeId) : Prop := t ≠ 109 ∧ t ≠ 108 ∧ t ≠ 63
theorem other_ne {W : World} {b : Nat} {t : TypeId} {cs : Array Value} (h : Blk W b t cs) (ht : Other t) {row : Option Nat} (hr : ∀ r, row = some r → ∃ o : Obj, W.heap[r]? = some o ∧ Mine o) : some b ≠ row := fun e => by
  obtain ⟨o, ho, hm⟩ := hr b e.symm
  have := (show W.heap[b]? = _ from h).symm.trans ho
  cases this
  rcases hm with h | h | h
  · exact ht.1 h
  · exact ht.2.1 h
  · exact ht.2.2 h
theorem abid_blk (m b : Nat) (t : TypeId) (cs : Array Value) (ht : Other t) : Abid m (fun W => Blk W b t cs) := fun A B row hA hg hr => hA.grown hg (other_ne hA ht (fun r e => (hr r e).2))
theorem keepm_set {m b k : Nat} {t : TypeId} {cs : Array Value} {U : World} (h : Blk U b t cs) (ht : Other t) (v : Value) : KeepM m U (U.setCell ⟨b, k, none⟩ v) := by
  have hg := grown_set U ⟨b, k, none⟩ v
  refine ⟨hg.size, fun j o _ ho hm => (hg.block j (Array.getElem?_eq_some_iff.1 ho).1 (fun e => ?_)).trans ho⟩
  exact other_ne h ht (row := some j) (fun r e => by cases e; exact ⟨o, ho, hm⟩) e.symm
theorem other_int : Other 3 := ⟨by decide, by decide, by decide⟩
set_option maxHeartbeats 1000000 in
theorem all_in (F : Fence) (n : Nat) (h5 : F.fn 62) (hro : F.round = none) (p0 : Option Addr) (w : World) :
    CallsIn F n Try.prog 62 #[.pointer p0] w fun e w' => e = .returned (.func (.func 79) #[] #[.pointer (some ⟨w.heap.size, 0, none⟩)]) ∧ w' = w.alloc (.cells #[.pointer p0] 53) := by
  refine callsIn_of_wp Try.func62 rfl h5 ?_ hro
  simp only [Try.ntmps62, List.size_toArray, List.length_cons, List.length_nil, Nat.reduceAdd, Nat.reduceSub, Array.replicate_succ, Array.replicate_zero, List.push_toArray, List.append_toArray, List.nil_append, List.cons_append]
  gi_wp2
  go_ret
  exact ⟨rfl, rfl⟩
set_option maxRecDepth 100000 in
set_option maxHeartbeats 2000000 in
theorem size_any (w : World) (b0 : Nat) (ns : List Nd) (hs : StackAt w [(b0, 1)] ns) (hN : ns.length ≤ 999999) :
    Calls Try.prog 33 #[PtrV b0] w fun e w' => e = .returned (.int .i64 (ns.length : Int)) ∧ Below w.heap.size w w' := by
  unfold PtrV
  refine (callsIn_wide (n := 4)).1 ?_
  refine callsIn_of_wp_marks Try.func33 rfl trivial ?_ rfl
  simp only [Try.ntmps33, List.size_toArray, List.length_cons, List.length_nil, Nat.reduceAdd, Nat.reduceSub, Array.replicate_succ, Array.replicate_zero, List.push_toArray, List.append_toArray, List.nil_append, List.cons_append]
  gi_wp2_with (refine ⟨trivial, ?_⟩; gi_at_call 62; refine (all_in _ _ trivial rfl _ _).mono ?_; rintro e w' ⟨rfl, rfl⟩)
  have b1 := (Blk.new w 3 #[.int .i64 0]).alloc (.cells #[.pointer (some ⟨b0, 0, none⟩)] 53)
  have b2 := Blk.new (w.alloc (.cells #[.int .i64 0] 3)) 53 #[.pointer (some ⟨b0, 0, none⟩)]
  rw [World.size_alloc] at b2
  have hb0 : Below w.heap.size w ((w.alloc (.cells #[.int .i64 0] 3)).alloc (.cells #[.pointer (some ⟨b0, 0, none⟩)] 53)) := ((Below.refl _ w).alloc (Nat.le_refl _) _).alloc (by simp) _
  refine walk_any w (w.heap.size + 1) b0 ns rfl (by simp) (b2.cell 0) hs hN hb0 (fun i W => Blk W w.heap.size 3 #[.int .i64 (i : Int)]) (fun _ _ => False) (fun i => abid_blk _ _ _ _ other_int) (fun _ _ _ _ h _ _ => h) b1 ?round ?done (fun _ _ h _ => h.elim)
  case round =>
    intro i x hx
    have hlt : i < ns.length := (List.getElem?_eq_some_iff.1 hx).1
    refine ⟨{ tmps := #[.pointer (some ⟨b0, 0, none⟩), undef, .int .i64 0, .pointer (some ⟨w.heap.size, 0, none⟩), .pointer (some ⟨b0, 0, none⟩), .func (.func 79) #[] #[.pointer (some ⟨w.heap.size + 1, 0, none⟩)], PtrV x.b, .int .i64 (x.lv : Int), undef, undef, undef], defers := [] }, fun W K hK => ?asg, fun U r hU hb hsz hl => ?bdy⟩
    case asg =>
      gi_wp2
      exact hK
    case bdy =>
      have c0 := hU.cell 0
      have f0 := hU.frozen 0
      simp only [List.getElem?_toArray, List.getElem?_cons_zero] at c0
      have hw1 : wrap64 ((i : Int) + 1) = ((i + 1 : Nat) : Int) := by unfold wrap64; omega
      have HU := Lib.hid hU
      clear hU
      gi_wp2
      refine ⟨(KeepsOthers.setCell _ _ _).from _, ?_, hb.setCell (p := ⟨w.heap.size, 0, none⟩) (Nat.le_refl _) _, keepm_set HU.out other_int _⟩
      have := HU.out.set_ 0 (.int .i64 ((i + 1 : Nat) : Int))
      exact this
  case done =>
    intro W hI hb hK
    have c0 := hI.cell 0
    simp only [List.getElem?_toArray, List.getElem?_cons_zero] at c0
    gi_wp2
    refine ⟨by simp, .inl ⟨_, _, rfl, run_takeDeferred hK, ?_⟩⟩
    exact ⟨_, results_tmp rfl _ _ _, rfl, hb.grown (grownBy_putObj' W _ _) hb.size (fun r e => by cases e; simp; omega)⟩
/-- how many nodes stand above one another at most -/
def highN (ns : List Nd) : Nat := ns.foldl (fun h x => max h x.lv) 0
theorem highN_take {ns : List Nd} {i : Nat} {x : Nd} (hx : ns[i]? = some x) : highN (ns.take (i + 1)) = max (highN (ns.take i)) x.lv := by
  rw [List.take_add_one, hx]
  simp [highN]
set_option maxRecDepth 100000 in
set_option maxHeartbeats 2000000 in
theorem height_any (w : World) (b0 : Nat) (ns : List Nd) (hs : StackAt w [(b0, 1)] ns) (hN : ns.length ≤ 999999) :
    Calls Try.prog 34 #[PtrV b0] w fun e w' => e = .returned (.int .i64 (highN ns : Int)) ∧ Below w.heap.size w w' := by
  unfold PtrV
  refine (callsIn_wide (n := 4)).1 ?_
  refine callsIn_of_wp_marks Try.func34 rfl trivial ?_ rfl
  simp only [Try.ntmps34, List.size_toArray, List.length_cons, List.length_nil, Nat.reduceAdd, Nat.reduceSub, Array.replicate_succ, Array.replicate_zero, List.push_toArray, List.append_toArray, List.nil_append, List.cons_append]
  gi_wp2_with (refine ⟨trivial, ?_⟩; gi_at_call 62; refine (all_in _ _ trivial rfl _ _).mono ?_; rintro e w' ⟨rfl, rfl⟩)
  have b1 := (Blk.new w 3 #[.int .i64 0]).alloc (.cells #[.pointer (some ⟨b0, 0, none⟩)] 53)
  have b2 := Blk.new (w.alloc (.cells #[.int .i64 0] 3)) 53 #[.pointer (some ⟨b0, 0, none⟩)]
  rw [World.size_alloc] at b2
  have hb0 : Below w.heap.size w ((w.alloc (.cells #[.int .i64 0] 3)).alloc (.cells #[.pointer (some ⟨b0, 0, none⟩)] 53)) := ((Below.refl _ w).alloc (Nat.le_refl _) _).alloc (by simp) _
  refine walk_any w (w.heap.size + 1) b0 ns rfl (by simp) (b2.cell 0) hs hN hb0 (fun i W => Blk W w.heap.size 3 #[.int .i64 (highN (ns.take i) : Int)]) (fun _ _ => False) (fun i => abid_blk _ _ _ _ other_int) (fun _ _ _ _ h _ _ => h) (by simpa [highN] using b1) ?round ?done (fun _ _ h _ => h.elim)
  case round =>
    intro i x hx
    refine ⟨{ tmps := #[.pointer (some ⟨b0, 0, none⟩), undef, .int .i64 0, .pointer (some ⟨w.heap.size, 0, none⟩), undef, .int .i64 (x.lv : Int), .pointer (some ⟨b0, 0, none⟩), .func (.func 79) #[] #[.pointer (some ⟨w.heap.size + 1, 0, none⟩)], PtrV x.b, .int .i64 (x.lv : Int), undef, undef, undef, undef], defers := [] }, fun W K hK => ?asg, fun U r hU hb hsz hl => ?bdy⟩
    case asg =>
      gi_wp2
      exact hK
    case bdy =>
      have hm := highN_take hx
      have c0 := hU.cell 0
      have f0 := hU.frozen 0
      simp only [List.getElem?_toArray, List.getElem?_cons_zero] at c0
      have HU := Lib.hid hU
      have HM := Lib.hid hm
      clear hU hm
      gi_wp2
      all_goals
        refine ⟨(KeepsOthers.setCell _ _ _).from _, ?_, hb.setCell (p := ⟨w.heap.size, 0, none⟩) (Nat.le_refl _) _, keepm_set HU.out other_int _⟩
        have hm := HM.out
        first
          | (have e : highN (ns.take (i + 1)) = x.lv := by omega
             show Blk _ _ _ #[.int .i64 (highN (ns.take (i + 1)) : Int)]
             rw [e]
             exact HU.out.set_ 0 (.int .i64 (x.lv : Int)))
          | (have e : highN (ns.take (i + 1)) = highN (ns.take i) := by omega
             show Blk _ _ _ #[.int .i64 (highN (ns.take (i + 1)) : Int)]
             rw [e]
             exact HU.out.set_ 0 (.int .i64 (highN (ns.take i) : Int)))
  case done =>
    intro W hI hb hK
    rw [List.take_length] at hI
    have c0 := hI.cell 0
    simp only [List.getElem?_toArray, List.getElem?_cons_zero] at c0
    gi_wp2
    refine ⟨by simp, .inl ⟨_, _, rfl, run_takeDeferred hK, ?_⟩⟩
    exact ⟨_, results_tmp rfl _ _ _, rfl, hb.grown (grownBy_putObj' W _ _) hb.size (fun r e => by cases e; simp; omega)⟩
end Go.Proofs.Ytomikgkoegkofaa.dt

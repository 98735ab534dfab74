import Derived.Maps.OwnIn
import Derived.Maps.AppendAt
import Derived.Deep.QuietTactic
import Derived.BigQuiet
import Derived.Test.YtljkobijoenabaaMc
namespace Go.Proofs.Ytljkobijoenabaa.dv
open Go.ChangeShapes Go.WideShapes Go.ChangeAt Go.RowKit Go.Maps Go.WideMaps Go.WideElems Go.Shelf
set_option linter.unusedVariables false
set_option linter.unusedSimpArgs false
/-! marks of ranges over functions, taken at a function's end; what Shortest has on its way -/
def mkD (D : Nat) : Deferred := { target := .collected D, args := #[] }
def Marks (n0 : Nat) (ds : List Nat) (W : World) : Prop := ds.Nodup ∧ ∀ D ∈ ds, n0 ≤ D ∧ W.heap[D]? = some (.deferred (some []))
theorem leaves_all {F : Fence} {n : Nat} {P : Program} {fn : Func} {tmps : Array Value} {R : Ending → World → Prop} {u : FrameMode} (hu : u ≠ .run) (n0 : Nat) (Z : World → Prop)
    (hZ : ∀ (W : World) (D : Nat) (o' : Obj), Z W → n0 ≤ D → W.heap[D]? = some (.deferred (some [])) → Z (W.putObj D o')) (hend : ∀ W, Z W → LeavesIn F n P fn tmps R [] u W) :
    ∀ (ds : List Nat) (W : World), Z W → Marks n0 ds W → LeavesInM F n P fn tmps R (ds.map mkD) u W
  | [], W, hz, _ => hend W hz
  | D :: ds, W, hz, ⟨hn, hm⟩ => by
    obtain ⟨h0, hD⟩ := hm D (by simp)
    have hlt : D < W.heap.size := (Array.getElem?_eq_some_iff.1 hD).1
    refine ⟨hu, .inl ⟨_, _, rfl, run_takeDeferred hD, ?_⟩⟩
    refine leaves_all hu n0 Z hZ hend ds _ (hZ W D _ hz h0 hD) ⟨(List.nodup_cons.1 hn).2, fun E hE => ?_⟩
    obtain ⟨e0, eE⟩ := hm E (List.mem_cons_of_mem _ hE)
    have hne : E ≠ D := fun e => (List.nodup_cons.1 hn).1 (e ▸ hE)
    exact ⟨e0, (World.putObj_heap_other hne).trans eE⟩
theorem Marks.grown {n0 : Nat} {ds : List Nat} {W W' : World} {row : Option Nat} (h : Marks n0 ds W) (hg : W.grownBy W' row) (hr : ∀ r, row = some r → ∃ o : Obj, W.heap[r]? = some o ∧ o.isCells = true) : Marks n0 ds W' := ⟨h.1, fun D hD => by
  obtain ⟨h0, h1⟩ := h.2 D hD
  refine ⟨h0, (hg.block D (Array.getElem?_eq_some_iff.1 h1).1 (fun e => ?_)).trans h1⟩
  obtain ⟨o, ho, hc⟩ := hr D e.symm
  rw [h1] at ho
  cases ho
  cases hc⟩
theorem row_apart {W : World} {B1 B2 s1 s2 n1 n2 : Nat} {e1 e2 : TypeId} {v1 v2 : Value} {x1 x2 : List Value} (h : W.ownsRow B1 e1 s1 v1 n1 x1) (k : W.ownsRow B2 e2 s2 v2 n2 x2) (hne : e1 ≠ e2) : v1.ownBlock = none ∨ v1.ownBlock ≠ v2.ownBlock := by
  rcases h.2 with ⟨rfl, _⟩ | ⟨g, cap, cur, rfl, _, hg, _⟩
  · exact .inl rfl
  · right
    rcases k.2 with ⟨rfl, _⟩ | ⟨g2, cap2, cur2, rfl, _, hg2, _⟩
    · simp [Value.ownBlock]
    · intro e
      obtain rfl : g = g2 := by simpa [Value.ownBlock] using e
      rw [hg] at hg2
      simp at hg2
      exact hne hg2.2
theorem row_cells {W : World} {B s n : Nat} {e : TypeId} {v : Value} {x : List Value} (h : W.ownsRow B e s v n x) : ∀ r, v.ownBlock = some r → B ≤ r ∧ ∃ o : Obj, W.heap[r]? = some o ∧ o.isCells = true := fun r hr => by
  rcases h.2 with ⟨rfl, _⟩ | ⟨g, cap, cur, rfl, hB, hg, _⟩
  · simp [Value.ownBlock] at hr
  · obtain rfl : g = r := by simpa [Value.ownBlock] using hr
    exact ⟨hB, _, hg, rfl⟩
theorem row_noncells {W : World} {B s n : Nat} {e : TypeId} {v : Value} {x : List Value} {row : Option Nat} (h : W.ownsRow B e s v n x) (hr : ∀ r, row = some r → ∃ o : Obj, W.heap[r]? = some o ∧ o.isCells = false) : v.ownBlock = none ∨ v.ownBlock ≠ row := by
  cases hv : v.ownBlock with
  | none => exact .inl rfl
  | some r =>
    right
    intro e
    obtain ⟨_, o, ho, hc⟩ := row_cells h r hv
    obtain ⟨o2, ho2, hc2⟩ := hr r e.symm
    rw [ho] at ho2
    cases ho2
    rw [hc] at hc2
    cases hc2
/-- on the way: what is still to do, in a box; the rules so far -/
structure Sh (B : Nat) (w : World) (S : List Way) (gc : Array Value) (m : Nat) (lv : Value) (bt : Nat) (ds : List Nat) (T ks : List Int) (tv rv : Value) (W : World) : Prop where
  box : Blk W bt 26 #[tv]
  bB : B ≤ bt
  todo : W.ownsRow B 3 1 tv T.length (IV T)
  rows : W.ownsRow B 3 1 rv ks.length (IV ks)
  apart : rv.ownBlock = none ∨ rv.ownBlock ≠ tv.ownBlock
  ways : WaysAt W B m lv S
  gram : Blk W B 25 gc
  below : Below B w W
  marks : Marks B ds W
theorem WaysAt.grown {W W' : World} {B m : Nat} {v : Value} {S : List Way} {row : Option Nat} (h : WaysAt W B m v S) (hg : W.grownBy W' row) (hne : v.ownBlock = none ∨ v.ownBlock ≠ row) : WaysAt W' B m v S := ⟨h.1, own_grown h.2 hg hne⟩
theorem Sh.alloc {B : Nat} {w : World} {S : List Way} {gc : Array Value} {m : Nat} {lv : Value} {bt : Nat} {ds : List Nat} {T ks : List Int} {tv rv : Value} {W : World} (h : Sh B w S gc m lv bt ds T ks tv rv W) (o : Obj) : Sh B w S gc m lv bt ds T ks tv rv (W.alloc o) :=
  ⟨h.box.alloc o, h.bB, h.todo.alloc o, h.rows.alloc o, h.apart, ways_alloc h.ways o, h.gram.alloc o, h.below.alloc (Nat.le_of_lt h.gram.lt) o, h.marks.grown (World.grownBy_alloc W o none) (fun r e => by cases e)⟩
theorem Sh.drew {B : Nat} {w : World} {S : List Way} {gc : Array Value} {m : Nat} {lv : Value} {bt : Nat} {ds : List Nat} {T ks : List Int} {tv rv : Value} {W : World} (h : Sh B w S gc m lv bt ds T ks tv rv W) : Sh B w S gc m lv bt ds T ks tv rv W.drew :=
  ⟨h.box, h.bB, h.todo, h.rows, h.apart, h.ways, h.gram, h.below.drew, h.marks⟩
/-- what is not of cells may turn -/
theorem Sh.grownC {B : Nat} {w : World} {S : List Way} {gc : Array Value} {m : Nat} {lv : Value} {bt : Nat} {ds : List Nat} {T ks : List Int} {tv rv : Value} {W W' : World} {row : Option Nat} (h : Sh B w S gc m lv bt ds T ks tv rv W) (hg : W.grownBy W' row) (hr : ∀ r, row = some r → B ≤ r ∧ (∀ D ∈ ds, D ≠ r) ∧ ∃ o : Obj, W.heap[r]? = some o ∧ o.isCells = false) : Sh B w S gc m lv bt ds T ks tv rv W' := by
  have hc := fun r e => (hr r e).2.2
  refine ⟨h.box.grownC hg hc, h.bB, own_grown h.todo hg (row_noncells h.todo hc), own_grown h.rows hg (row_noncells h.rows hc), h.apart, h.ways.grown hg (row_noncells h.ways.2 hc), h.gram.grownC hg hc, h.below.grown hg (Nat.le_of_lt h.gram.lt) (fun k e => (hr k e).1), h.marks.1, fun D hD => ?_⟩
  obtain ⟨h0, h1⟩ := h.marks.2 D hD
  refine ⟨h0, (hg.block D (Array.getElem?_eq_some_iff.1 h1).1 (fun e => ?_)).trans h1⟩
  exact (hr D e.symm).2.1 D hD rfl
/-- a store into the box, of what is a row then -/
theorem Sh.put {B : Nat} {w : World} {S : List Way} {gc : Array Value} {m : Nat} {lv : Value} {bt : Nat} {ds : List Nat} {T ks T2 : List Int} {tv rv tv2 : Value} {W : World} (h : Sh B w S gc m lv bt ds T ks tv rv W) (h2 : W.ownsRow B 3 1 tv2 T2.length (IV T2)) (ha : rv.ownBlock = none ∨ rv.ownBlock ≠ tv2.ownBlock) : Sh B w S gc m lv bt ds T2 ks tv2 rv (W.setCell ⟨bt, 0, none⟩ tv2) := by
  have hg := grown_set W ⟨bt, 0, none⟩ tv2
  refine ⟨h.box.set_ 0 tv2, h.bB, own_grown h2 hg (.inr (h.box.not_row (by decide) h2).symm), own_grown h.rows hg (.inr (h.box.not_row (by decide) h.rows).symm), ha, h.ways.grown hg (.inr (h.box.not_row (by decide) h.ways.2).symm), h.gram.far (p := ⟨bt, 0, none⟩) (fun e => ?_) tv2, h.below.setCell (p := ⟨bt, 0, none⟩) h.bB tv2, h.marks.grown hg (fun r e => ?_)⟩
  · exact blk_apart h.gram h.box (by decide) e
  · cases e
    exact ⟨_, h.box, rfl⟩
/-- one rule more -/
theorem Sh.rule {B : Nat} {w : World} {S : List Way} {gc : Array Value} {m : Nat} {lv : Value} {bt : Nat} {ds : List Nat} {T ks : List Int} {tv rv rv2 : Value} {W W' : World} {x : Int} (h : Sh B w S gc m lv bt ds T ks tv rv W) (h2 : W'.ownsRow B 3 1 rv2 (ks.length + 1) (IV ks ++ [.int .i64 x])) (hg : W.grownBy W' rv.ownBlock) (hat : rv2.ownBlock = rv.ownBlock ∨ rv2.ownBlock = some W.heap.size) : Sh B w S gc m lv bt ds T (ks ++ [x]) tv rv2 W' := by
  refine ⟨h.box.grown hg (h.box.not_row (by decide) h.rows), h.bB, own_grown h.todo hg ?_, by simpa [IV_snoc] using h2, ?_, h.ways.grown hg (row_apart h.ways.2 h.rows (by decide)), h.gram.grown hg (h.gram.not_row (by decide) h.rows), h.below.grown hg (Nat.le_of_lt h.gram.lt) (fun k e => (row_cells h.rows k e).1), h.marks.grown hg (fun r e => (row_cells h.rows r e).2)⟩
  · rcases h.apart with e | e
    · rw [e]
      cases tv.ownBlock <;> simp
    · exact .inr (Ne.symm e)
  · rcases hat with e | e
    · rw [e]; exact h.apart
    · rw [e]
      right
      intro e2
      have := (h.todo.lt _ e2.symm).2
      omega
/-- one symbol more to do -/
theorem Sh.push {B : Nat} {w : World} {S : List Way} {gc : Array Value} {m : Nat} {lv : Value} {bt : Nat} {ds : List Nat} {T ks : List Int} {tv rv tv2 : Value} {W W' : World} {x : Int} (h : Sh B w S gc m lv bt ds T ks tv rv W) (h2 : W'.ownsRow B 3 1 tv2 (T.length + 1) (IV T ++ [.int .i64 x])) (hg : W.grownBy W' tv.ownBlock) (hat : tv2.ownBlock = tv.ownBlock ∨ tv2.ownBlock = some W.heap.size) : Sh B w S gc m lv bt ds (T ++ [x]) ks tv2 rv (W'.setCell ⟨bt, 0, none⟩ tv2) := by
  have hs : Sh B w S gc m lv bt ds [] ks (.slice none 0 0) rv (W'.setCell ⟨bt, 0, none⟩ (.slice none 0 0)) ∧ Sh B w S gc m lv bt ds [] ks tv rv W' ∨ True := .inr trivial
  have hap : rv.ownBlock = none ∨ rv.ownBlock ≠ tv.ownBlock := h.apart
  have hbox : Blk W' bt 26 #[tv] := h.box.grown hg (h.box.not_row (by decide) h.todo)
  have hrows : W'.ownsRow B 3 1 rv ks.length (IV ks) := own_grown h.rows hg hap
  have hways := h.ways.grown hg (row_apart h.ways.2 h.todo (by decide))
  have hgram := h.gram.grown hg (h.gram.not_row (by decide) h.todo)
  have hbelow := h.below.grown hg (Nat.le_of_lt h.gram.lt) (fun k e => (row_cells h.todo k e).1)
  have hmarks := h.marks.grown hg (fun r e => (row_cells h.todo r e).2)
  have hgs := grown_set W' ⟨bt, 0, none⟩ tv2
  refine ⟨hbox.set_ 0 tv2, h.bB, own_grown (by simpa [IV_snoc] using h2) hgs (.inr (hbox.not_row (by decide) h2).symm), own_grown hrows hgs (.inr (hbox.not_row (by decide) hrows).symm), ?_, hways.grown hgs (.inr (hbox.not_row (by decide) hways.2).symm), hgram.far (p := ⟨bt, 0, none⟩) (fun e => blk_apart hgram hbox (by decide) e) tv2, hbelow.setCell (p := ⟨bt, 0, none⟩) h.bB tv2, hmarks.grown hgs (fun r e => by cases e; exact ⟨_, hbox, rfl⟩)⟩
  rcases hap with e | e
  · exact .inl e
  · rcases hat with e2 | e2
    · rw [e2]; exact .inr e
    · rw [e2]
      right
      intro e3
      have := (h.rows.lt _ e3).2
      omega
end Go.Proofs.Ytljkobijoenabaa.dv
namespace Go.Proofs.Ytljkobijoenabaa.dv
open Go.ChangeShapes Go.WideShapes Go.ChangeAt Go.RowKit Go.Maps Go.WideMaps Go.WideElems Go.Shelf
set_option linter.unusedVariables false
set_option linter.unusedSimpArgs false
/-! Shortest: what is to do -/
theorem iv_inj : ∀ (a b : List Int), IV a = IV b → a = b
  | [], [], _ => rfl
  | [], y :: b, h => by simp [IV] at h
  | x :: a, [], h => by simp [IV] at h
  | x :: a, y :: b, h => by
    simp only [IV, List.map_cons, List.cons.injEq, Value.int.injEq, true_and] at h
    rw [h.1, iv_inj a b h.2]
/-- what is to do, as memory has it -/
def TodoAt (B bt : Nat) (T : List Int) (W : World) : Prop := ∃ tv, Blk W bt 26 #[tv] ∧ W.ownsRow B 3 1 tv T.length (IV T)
theorem todo_fun {B bt : Nat} {S : List Way} (X Y : List Int) (W : World) (h : TodoAt B bt X W) (k : TodoAt B bt Y W) : todoM S X.reverse = todoM S Y.reverse := by
  obtain ⟨a, h1, h2⟩ := h
  obtain ⟨b, k1, k2⟩ := k
  have e := (show W.heap[bt]? = _ from h1).symm.trans k1
  simp at e
  subst e
  have hl : X.length = Y.length := by
    rcases h2.2 with ⟨e1, e2⟩ | ⟨g, cap, cur, e1, _⟩ <;> rcases k2.2 with ⟨f1, f2⟩ | ⟨g2, cap2, cur2, f1, _⟩
    · rw [e2, f2]
    · rw [e1] at f1; cases f1
    · rw [e1] at f1; cases f1
    · rw [e1] at f1; exact (Value.slice.inj f1).2.1
  have e2 : IV X = IV Y := by
    rcases h2.2 with ⟨e1, e2⟩ | ⟨g, cap, cur, e1, _, hg, _, _, _, ht⟩ <;> rcases k2.2 with ⟨f1, f2⟩ | ⟨g2, cap2, cur2, f1, _, kg, _, _, _, kt⟩
    · have hx : X = [] := List.length_eq_zero_iff.1 e2
      have hy : Y = [] := List.length_eq_zero_iff.1 f2
      rw [hx, hy]
    · rw [e1] at f1; cases f1
    · rw [e1] at f1; cases f1
    · rw [e1] at f1
      obtain ⟨f2, _, _⟩ := Value.slice.inj f1
      have f3 : g = g2 := by simpa using f2
      subst f3
      rw [hg] at kg
      simp at kg
      subst kg
      rw [← ht, ← kt, hl]
  rw [iv_inj _ _ e2]
/-- what is to do has rules -/
def GoodT (R : List Rl) (S : List Way) (T : List Int) : Prop := ∀ s ∈ T, 0 ≤ s → s.toNat < S.length ∧ ∃ (k : Nat) (r : Rl), (S.getD s.toNat noW).2.2 = k ∧ R[k]? = some r
theorem sS_le {S : List Way} {F : List Int} {s : Int} (h : s ∈ F) (h0 : 0 ≤ s) : (S.getD s.toNat noW).2.1 ≤ sS S F := by
  have := sum_ge (fun s => (wat S s).2.1) F s h
  rw [wat_var h0] at this
  exact this
theorem good_kids {R : List Rl} {n : Nat} {S : List Way} (hI : Inv R n S) (hd : Done R S) {v k : Nat} {r : Rl} (h : (S.getD v noW).2.2 = k) (hr : R[k]? = some r) : GoodT R S r.right := fun s hs h0 => by
  obtain ⟨_, e2, _⟩ := way_eq hI hd h hr
  obtain ⟨h1, h2⟩ := child_way hI e2 hs h0
  exact ⟨by rw [hI.len]; exact h1, h2⟩
end Go.Proofs.Ytljkobijoenabaa.dv
namespace Go.Proofs.Ytljkobijoenabaa.dv
open Go.ChangeShapes Go.WideShapes Go.ChangeAt Go.RowKit Go.Maps Go.WideMaps Go.WideElems Go.Shelf
set_option linter.unusedVariables false
set_option linter.unusedSimpArgs false
attribute [local go_sem] Oper.semAt_some
/-! Shortest -/
set_option maxRecDepth 100000 in
set_option maxHeartbeats 4000000 in
theorem shortest_any (w : World) (B : Nat) (ta va : Option Addr) (tl tc vl vc : Nat) (rv : Value) (R : List Rl) (v : Int) (hR : RulesAt B w rv R) (hB : B ≤ w.heap.size) (hl : ∀ r ∈ R, 0 ≤ r.left ∧ r.left < vl) (hv : vl ≤ 1000) (h8 : ∀ r ∈ R, r.right.length ≤ 8) :
    Calls Try.prog 82 #[.agg #[.slice ta tl tc, .slice va vl vc, rv], .int .i64 v] w fun e w' => ∃ S u b, e = .returned (.tuple #[u, .bool b]) ∧ Inv R vl S ∧ Done R S ∧ Below w.heap.size w w' ∧
      (b = true → 0 ≤ v ∧ v < vl ∧ (S.getD v.toNat noW).2.1 ≤ 4096 ∧ ∃ ks, Exps R S [v] ks ∧ w'.ownsRow w.heap.size 3 1 u ks.length (IV ks)) ∧ (b = false → u = .slice none 0 0 ∧ (0 ≤ v → v < vl → 4096 < (S.getD v.toNat noW).2.1)) := by
  obtain ⟨ra, rc, rfl, hn, _⟩ := id hR
  have b0 := Blk.new w 25 #[.slice ta tl tc, .slice va vl vc, .slice ra R.length rc]
  have hbl : Below w.heap.size w (w.alloc (.cells #[.slice ta tl tc, .slice va vl vc, .slice ra R.length rc] 25)) := (Below.refl _ w).alloc (Nat.le_refl _) _
  have hwy := ways_any (w.alloc (.cells #[.slice ta tl tc, .slice va vl vc, .slice ra R.length rc] 25)) B ta va tl tc vl vc (.slice ra R.length rc) R (hR.far (hbl.mono hB)) (by rw [World.size_alloc]; omega) hl hv
  have HR := Lib.hid hR
  have HL := Lib.hid hl
  have HB0 := Lib.hid b0
  have HBL := Lib.hid hbl
  have H8 := Lib.hid h8
  have c0 := b0.cell 0
  have c1 := b0.cell 1
  have c2 := b0.cell 2
  simp only [List.getElem?_toArray, List.getElem?_cons_zero, List.getElem?_cons_succ] at c0 c1 c2
  clear hR hl b0 hbl h8
  refine (callsIn_wide (n := 3)).1 ?_
  refine callsIn_of_wp_marks Try.func82 rfl trivial ?_ rfl
  simp only [Try.ntmps82, List.size_toArray, List.length_cons, List.length_nil, Nat.reduceAdd, Nat.reduceSub, Array.replicate_succ, Array.replicate_zero, List.push_toArray, List.append_toArray, List.nil_append, List.cons_append]
  gi_wp2_with (refine ⟨trivial, ?_⟩; gi_at_call 96; refine (callsIn_wide.2 hwy).mono ?_; rintro e w1 ⟨lv, m, S, rfl, hWS, hI, hDn, hb1⟩; have hb1w : Below w.heap.size w w1 := HBL.out.trans (hb1.mono (by simp)); have bg := HB0.out.below hb1 (by simp); have g0 := bg.cell 0; have g1 := bg.cell 1; have g2 := bg.cell 2; simp only [List.getElem?_toArray, List.getElem?_cons_zero, List.getElem?_cons_succ] at g0 g1 g2; have hva := isVarOf_any w1 ta va ra tl tc vl vc R.length rc v; have HWS := Lib.hid hWS; obtain ⟨⟨cap, rfl⟩, _⟩ := hWS; have HI := Lib.hid hI; have HDN := Lib.hid hDn; have HB1 := Lib.hid hb1w; have HBG := Lib.hid bg; clear hb1w hI hDn c0 c1 c2 hwy bg)
  by_cases hok : 0 ≤ v ∧ v < vl
  · rw [decide_eq_true hok.1, decide_eq_true hok.2] at hva
    obtain ⟨k, rfl⟩ : ∃ k : Nat, v = k := ⟨v.toNat, by omega⟩
    have hkl : k < vl := by omega
    have hkS : k < S.length := by rw [HI.out.len]; exact hkl
    have hk2 : (k : Int) < (S.length : Int) := by omega
    have hk0 : (0 : Int) ≤ (k : Int) := by omega
    obtain ⟨q0, q1, q2⟩ := ways_cell HWS.out.2 k hkS
    have hmlt := ways_lt HWS.out
    have qa : ∀ o, (w1.alloc o).cell? ⟨m, k * 3 + 1, none⟩ = some (.int .i64 ((S.getD k noW).2.1 : Int)) := fun o => (World.cell?_alloc_lt w1 o ⟨m, k * 3 + 1, none⟩ hmlt).trans q1
    have HVA := Lib.hid hva
    clear hva q0 q1 q2
    obtain ⟨st, hste⟩ : ∃ st, st = (S.getD k noW).2.1 := ⟨_, rfl⟩
    rw [← hste] at qa
    have HSTE := Lib.hid hste
    clear hste
    by_cases hst : st ≤ 4096
    · have hgt : decide ((4096 : Int) < (st : Int)) = false := decide_eq_false (by omega)
      have hgt2 : decide (4096 < st) = false := decide_eq_false (by omega)
      gi_wp2_with (refine ⟨trivial, ?_⟩; gi_at_call 97; refine (callsIn_wide.2 HVA.out).mono ?_; rintro e w2 ⟨rfl, o2, rfl⟩)
      have hz1 : w.heap.size < w1.heap.size := HBG.out.lt
      refine wpIn_wide.2 ?_
      have HST := Lib.hid hst
      have hw2 : Below w.heap.size w (w1.alloc o2) := HB1.out.alloc HB1.out.size _
      have hsh0 : Sh w.heap.size w S #[.slice ta tl tc, .slice va vl vc, .slice ra R.length rc] m (.slice (some ⟨m, 0, none⟩) S.length cap) (w1.heap.size + 1 + 1) [] [(k : Int)] [] (.slice (some ⟨w1.heap.size + 1, 0, none⟩) 1 1) (.slice none 0 0) (((w1.alloc o2).alloc (.cells #[.int .i64 k] 3)).alloc (.cells #[.slice (some ⟨w1.heap.size + 1, 0, none⟩) 1 1] 26)) := by
        have hrow : ((w1.alloc o2).alloc (.cells #[.int .i64 k] 3)).ownsRow w.heap.size 3 1 (.slice (some ⟨w1.heap.size + 1, 0, none⟩) 1 1) 1 [.int .i64 k] := by
          have := World.ownsRow_lit (base := w.heap.size) (e := 3) (size := 1) (w1.alloc o2) #[.int .i64 k] 1 (by rw [World.size_alloc]; omega) (by decide) rfl
          rwa [World.size_alloc] at this
        have hbx : Blk (((w1.alloc o2).alloc (.cells #[.int .i64 k] 3)).alloc (.cells #[.slice (some ⟨w1.heap.size + 1, 0, none⟩) 1 1] 26)) (w1.heap.size + 1 + 1) 26 #[.slice (some ⟨w1.heap.size + 1, 0, none⟩) 1 1] := by
          have := Blk.new ((w1.alloc o2).alloc (.cells #[.int .i64 k] 3)) 26 #[.slice (some ⟨w1.heap.size + 1, 0, none⟩) 1 1]
          rwa [World.size_alloc, World.size_alloc] at this
        exact ⟨hbx, by omega, hrow.alloc _, World.ownsRow_nil _ _ _ _, .inl rfl, ways_alloc (ways_alloc (ways_alloc (ways_weak HWS.out (by simp)) _) _) _, ((HBG.out.alloc _).alloc _).alloc _, (hw2.alloc hw2.size _).alloc (by rw [World.size_alloc]; have := hw2.size; omega) _, List.nodup_nil, fun D hD => by cases hD⟩
      have HSH0 := Lib.hid hsh0
      have hgood : GoodT R S [(k : Int)] := fun s hs h0 => by
        obtain rfl : s = (k : Int) := by simpa using hs
        rw [Int.toNat_natCast]
        refine ⟨hkS, ?_⟩
        rcases HI.out.form k with he | ⟨_, k', r, e1, e2, _⟩
        · have h1 := HSTE.out
          rw [he] at h1
          have h2 := HST.out
          unfold noW Far at h1
          simp only at h1
          omega
        · exact ⟨k', r, e1, e2⟩
      have hm0 : todoM S [(k : Int)] ≤ 65537 := by
        have h1 := HSTE.out
        have h2 := HST.out
        unfold todoM sS
        simp only [List.map_cons, List.map_nil, List.sum_cons, List.sum_nil, List.length_cons, List.length_nil, wat_var (show (0 : Int) ≤ (k : Int) by omega), Int.toNat_natCast, ← h1]
        omega
      have HG0 := Lib.hid hgood
      have HM0 := Lib.hid hm0
      clear hsh0 hgood hm0 hst hgt hgt2 g0 g1 g2 qa
      obtain ⟨INV, hINV⟩ : ∃ I : Act → World → Prop, ∀ a W, I a W ↔ (fun a W => ∃ (ds : List Nat) (u7 u9 u10 u11 u28 u29 u30 u31 u32 u33 u34 u35 u36 u37 u38 u39 u40 u41 u42 u43 u44 u45 u46 u47 u48 u49 u50 u51 u52 u53 u54 u55 u56 u57 u58 u59 u60 u61 u62 u63 u64 u65 u66 u67 u68 : Value), a = { tmps := #[.agg #[.slice ta tl tc, .slice va vl vc, .slice ra R.length rc], .int .i64 k, .pointer (some ⟨w.heap.size, 0, none⟩), undef, .slice none 0 0, .bool false, .slice (some ⟨m, 0, none⟩) S.length cap, u7, .pointer (some ⟨w1.heap.size + 1 + 1, 0, none⟩), u9, u10, u11, .agg #[.slice ta tl tc, .slice va vl vc, .slice ra R.length rc], .slice (some ⟨m, 0, none⟩) S.length cap, .agg #[.slice ta tl tc, .slice va vl vc, .slice ra R.length rc], .int .i64 k, .bool true, .bool false, .bool false, .slice (some ⟨m, 0, none⟩) S.length cap, .int .i64 k, .pointer (some ⟨m, k * 3, none⟩), .pointer (some ⟨m, k * 3 + 1, none⟩), .int .i64 st, .bool false, .bool false, .int .i64 k, .slice (some ⟨w1.heap.size + 1, 0, none⟩) 1 1, u28, u29, u30, u31, u32, u33, u34, u35, u36, u37, u38, u39, u40, u41, u42, u43, u44, u45, u46, u47, u48, u49, u50, u51, u52, u53, u54, u55, u56, u57, u58, u59, u60, u61, u62, u63, u64, u65, u66, u67, u68, undef], defers := ds.map mkD } ∧ ∃ T ks tv, Sh w.heap.size w S #[.slice ta tl tc, .slice va vl vc, .slice ra R.length rc] m (.slice (some ⟨m, 0, none⟩) S.length cap) (w1.heap.size + 1 + 1) ds T ks tv u7 W ∧ GoodT R S T ∧ ks.length + todoM S T.reverse ≤ 65537 ∧ (∀ l, Exps R S T.reverse l → Exps R S [(k : Int)] (ks ++ l))) a W := ⟨_, fun _ _ => Iff.rfl⟩
      have HIN := Lib.hid hINV
      obtain ⟨MU, hMU⟩ : ∃ M : World → Nat, ∀ (T : List Int) (W : World), TodoAt w.heap.size (w1.heap.size + 1 + 1) T W → M W = todoM S T.reverse := ⟨muW (TodoAt w.heap.size (w1.heap.size + 1 + 1)) (fun T => todoM S T.reverse), fun T W h => muW_eq (fun X Y W h k => todo_fun X Y W h k) h⟩
      have HMU := Lib.hid hMU
      clear hINV hMU
      refine wp_loop INV (fun _ W => MU W) ?_ ?_
      · refine (HIN.out _ _).2 ?_
        (repeat apply Exists.intro)
        exact ⟨(rfl : _ = Act.mk _ (List.map mkD [])), [(k : Int)], [], _, HSH0.out, HG0.out, by simpa using HM0.out, fun l hl => hl⟩
      · intro a W hinv
        obtain ⟨ds, u7, u9, u10, u11, u28, u29, u30, u31, u32, u33, u34, u35, u36, u37, u38, u39, u40, u41, u42, u43, u44, u45, u46, u47, u48, u49, u50, u51, u52, u53, u54, u55, u56, u57, u58, u59, u60, u61, u62, u63, u64, u65, u66, u67, u68, rfl, T, ks, tv, hsh, hg, hm, hx⟩ := (HIN.out _ _).1 hinv
        have HSH := Lib.hid hsh
        have HG := Lib.hid hg
        have HM := Lib.hid hm
        have HX := Lib.hid hx
        have hbx := hsh.box
        have q0 := hbx.cell 0
        simp only [List.getElem?_toArray, List.getElem?_cons_zero] at q0
        have HMT := Lib.hid (HMU.out T W ⟨tv, hsh.box, hsh.todo⟩)
        clear hsh hg hm hx hinv
        rcases List.eq_nil_or_concat T with rfl | ⟨T0, s, hT⟩
        · have HZ : Hid (∀ W' : World, (W'.ownsRow w.heap.size 3 1 u7 ks.length (IV ks) ∧ Below w.heap.size w W') → ∃ S u b, Ending.returned (.tuple #[u7, .bool true]) = .returned (.tuple #[u, .bool b]) ∧ Inv R vl S ∧ Done R S ∧ Below w.heap.size w W' ∧ (b = true → 0 ≤ (k : Int) ∧ (k : Int) < vl ∧ (S.getD (k : Int).toNat noW).2.1 ≤ 4096 ∧ ∃ ks, Exps R S [(k : Int)] ks ∧ W'.ownsRow w.heap.size 3 1 u ks.length (IV ks)) ∧ (b = false → u = .slice none 0 0 ∧ (0 ≤ (k : Int) → (k : Int) < vl → 4096 < (S.getD (k : Int).toNat noW).2.1))) := Lib.hid (fun W' hz => by
            have hx := HX.out [] Exps.nil
            rw [List.append_nil] at hx
            exact ⟨S, u7, true, rfl, HI.out, HDN.out, hz.2, fun _ => ⟨by omega, by omega, by rw [Int.toNat_natCast, ← HSTE.out]; exact HST.out, ks, hx, hz.1⟩, fun h => by cases h⟩)
          have htv : tv = .slice none 0 0 ∨ ∃ g cap2, tv = .slice (some ⟨g, 0, none⟩) 0 cap2 := by
            rcases HSH.out.todo.2 with ⟨e, _⟩ | ⟨g, c, cur, e, _⟩
            · exact .inl e
            · exact .inr ⟨g, c, e⟩
          clear HMT HMU HIN HM HG HG0 HM0 HSH0 HVA
          rcases htv with rfl | ⟨g, cap2, rfl⟩
          all_goals
            go_wp2
            gi_wp2
            refine leaves_all (by intro h; cases h) w.heap.size (fun W' => W'.ownsRow w.heap.size 3 1 u7 ks.length (IV ks) ∧ Below w.heap.size w W') (fun W' D o' hz h0 hD => ⟨own_grown hz.1 (grownBy_putObj' W' D o') (row_noncells hz.1 (fun r e => by cases e; exact ⟨_, hD, rfl⟩)), hz.2.grown (grownBy_putObj' W' D o') hz.2.size (fun r e => by cases e; exact h0)⟩) (fun W' hz => ?_) ds _ ⟨HSH.out.rows, HSH.out.below⟩ HSH.out.marks
            exact ⟨.tuple #[u7, .bool true], by simp [results, Try.results82, go_sem], HZ.out W' hz⟩
        · rw [List.concat_eq_append] at hT
          subst hT
          clear q0
          have hsh := HSH.out
          have hlen : (T0 ++ [s]).length = T0.length + 1 := by simp
          have htd := hsh.todo
          rw [hlen] at htd
          obtain ⟨g, cap2, rfl, hgB, hgl⟩ := World.ownsRow.form htd (Nat.succ_pos _)
          obtain ⟨n, hn⟩ : ∃ n, n = T0.length := ⟨_, rfl⟩
          rw [← hn] at htd hbx
          have hcs : W.cell? ⟨g, n, none⟩ = some (.int .i64 s) := by
            rw [htd.cellAt n (by omega)]
            simp [IV, hn]
          obtain ⟨_, hc1, hc2⟩ := row_lt htd
          have hpop := own_pop (by simpa [IV_snoc] using htd) (show (IV T0).length = n by simp [IV, hn])
          have hsh1 := hsh.put (T2 := T0) (tv2 := .slice (some ⟨g, 0, none⟩) n cap2) (by rw [← hn]; exact hpop) hsh.apart
          have HSH1 := Lib.hid hsh1
          have hmx : n + 1 ≤ 9223372036854775807 := by unfold maxLen at hc2; omega
          have hw1' : IntKind.i64.wrap (((n + 1 : Nat) : Int) - 1) = (n : Int) := by rw [IntKind.wrap_i64]; omega
          have hf0 := hbx.frozen 0
          have q0 := hbx.cell 0
          simp only [List.getElem?_toArray, List.getElem?_cons_zero] at q0
          have hit := fun U => isTerm_any U s
          have hMT : MU W = todoM S (s :: T0.reverse) := by have := HMT.out; simpa using this
          have HMT2 := Lib.hid hMT
          have hXs := HX.out
          rw [List.reverse_append, List.reverse_singleton, List.singleton_append] at hXs
          have HXS := Lib.hid hXs
          have hMs := HM.out
          rw [List.reverse_append, List.reverse_singleton, List.singleton_append] at hMs
          have HMS := Lib.hid hMs
          have HN := Lib.hid hn
          have hmu1 := HMU.out T0 _ ⟨_, hsh1.box, hsh1.todo⟩
          have HMU1 := Lib.hid hmu1
          clear hsh hsh1 htd hpop hMT hXs hMs hmu1 hn HMT HG0 HM0 HSH0 HVA hlen
          have hnn : ((n + 1 : Nat) : Int) - 1 = (n : Int) := by omega
          by_cases hs : s < 0
          · simp only [decide_eq_true hs] at hit
            go_wp2_with (go_at_call 93; refine (hit _).mono ?_; rintro e w' ⟨rfl, rfl⟩)
            have hb := HMS.out
            have ht := todo_term S hs T0.reverse
            refine ⟨(HIN.out _ _).2 ?_, ?_⟩
            · (repeat apply Exists.intro)
              exact ⟨rfl, T0, ks, _, HSH1.out, fun x hx => HG.out x (List.mem_append_left _ hx), by omega, fun l hl => HXS.out l (Exps.term hs hl)⟩
            · rw [HMU1.out, HMT2.out]
              exact ht
          · simp only [decide_eq_false hs] at hit
            obtain ⟨q, rfl⟩ : ∃ q : Nat, s = q := ⟨s.toNat, by omega⟩
            obtain ⟨hqS, kr, r, hkr, hrk⟩ := HG.out (q : Int) (by simp) (by omega)
            rw [Int.toNat_natCast] at hqS hkr
            have hkR : kr < R.length := (List.getElem?_eq_some_iff.1 hrk).1
            obtain ⟨y0, y1, y2⟩ := ways_cell HSH1.out.ways.2 q hqS
            rw [hkr] at y2
            have hq2 : (q : Int) < (S.length : Int) := by omega
            have hq0 : (0 : Int) ≤ (q : Int) := by omega
            have hkr2 : (kr : Int) < (R.length : Int) := by omega
            have hkr0 : (0 : Int) ≤ (kr : Int) := by omega
            obtain ⟨i0, hi, hz0, hz1, hz2⟩ := info_parts info_int
            have hsa := HSH1.out.alloc (.cells #[.int .i64 kr] 3)
            have HSA := Lib.hid hsa
            have hkl2 := HMS.out
            have hnews := one_new (W.setCell ⟨w1.heap.size + 1 + 1, 0, none⟩ (.slice (some ⟨g, 0, none⟩) n cap2)) 3 (.int .i64 kr)
            rw [show (W.setCell ⟨w1.heap.size + 1 + 1, 0, none⟩ (.slice (some ⟨g, 0, none⟩) n cap2)).heap.size = W.heap.size from by simp] at hnews
            have HNW := Lib.hid hnews
            have HKR := Lib.hid hkr
            have HRK := Lib.hid hrk
            clear hsa hnews hkr hrk y0 y1
            have HKL := Lib.hid hkl2
            clear hkl2
            go_wp2_with (first | (go_at_call 93; refine (hit _).mono ?_; rintro e w' ⟨rfl, rfl⟩) | (at_builtin; refine wpList_append_own_at _ rfl _ _ 26 rfl w.heap.size 3 i0 (.int .i64 0) 1 8 Try.underlying26 hi hz0 hz1 hz2 rfl (by decide) u7 ks.length (IV ks) rfl HSA.out.rows _ 1 1 [.int .i64 kr] rfl rfl HNW.out (by simp [Value.oneCell']) (by have := HKL.out; unfold maxLen; omega) (by have := HKL.out; omega) (Nat.le_of_lt HSA.out.gram.lt) ?_; intro u72 W2 hown2 hgrow2 hnil2 hat2))
            have hsr := Sh.rule (x := (kr : Int)) HSA.out (by simpa using hown2) hgrow2 hat2
            have hrw := HR.out.far (hsr.below.mono hB)
            obtain ⟨ra', rc', er, _, hr2⟩ := hrw
            cases er
            obtain ⟨a2, rfl, hab2, ao2, c2, h1, h2, h3, h4, h5, h6, h7, h8⟩ := hr2 kr r HRK.out
            rw [addf a2 (kr * 3) 1 (by decide)] at h2
            obtain ⟨y0, y1, y2⟩ := ways_cell hsr.ways.2 q hqS
            rw [HKR.out] at y2
            have z2 := hsr.gram.cell 2
            simp only [List.getElem?_toArray, List.getElem?_cons_zero, List.getElem?_cons_succ] at z2
            have HSR := Lib.hid hsr
            have HRU : Hid (RowUnder w.heap.size W2 ao2 r.right) := Lib.hid (fun j hj => by
              obtain ⟨a3, e3, hab3, hca⟩ := h7 j hj
              exact ⟨a3, e3, Nat.lt_of_lt_of_le hab3 hB, hca⟩)
            clear hsr hown2 hgrow2 hnil2 hat2 hr2 h1 h3 h4 h5 h6 h7 h8 y0 y1 hi hz0 hz1 hz2 hbx hcs q0 hf0
            refine wp_region_EQ (fun U => U.cell? ⟨w.heap.size, 2, none⟩ = some (.slice (some a2) R.length rc) ∧ U.cell? ⟨m, q * 3 + 2, none⟩ = some (.int .i64 kr) ∧ U.cell? { block := (a2.add (kr * 3)).block, off := (a2.add (kr * 3)).off + 1 } = some (.slice ao2 r.right.length c2)) [10] (by kernel_rfl) ?_
            have HS : _ := And.intro (DRC W2 _ _ z2) (And.intro (DRC W2 _ _ y2) (DRC W2 _ _ h2))
            change anyE _ _ _ _ _ _ _ _ _ (World.drew _)
            refine anyE_take (i := 0) (v := ?_) rfl (by kernel_rfl) (by kernel_rfl) (by kernel_rfl) (by kernel_rfl) (by kernel_rfl) (fun c _ _ h => absurd rfl (h.1 c)) (Or.inl ⟨by kernel_rfl, ?_⟩) HS ?_
            rotate_left
            · intro w _; go_simp; with_reducible rfl
            refine anyE_take (i := 1) (v := ?_) rfl (by kernel_rfl) (by kernel_rfl) (by kernel_rfl) (by kernel_rfl) (by kernel_rfl) (fun c _ _ h => absurd rfl (h.1 c)) (Or.inl ⟨by kernel_rfl, ?_⟩) HS ?_
            rotate_left
            · intro w hw; have hw := hw.1; go_simp; with_reducible rfl
            refine anyE_take (i := 2) (v := ?_) rfl (by kernel_rfl) (by kernel_rfl) (by kernel_rfl) (by kernel_rfl) (by kernel_rfl) (fun c _ _ h => absurd rfl (h.1 c)) (Or.inl ⟨by kernel_rfl, ?_⟩) HS ?_
            rotate_left
            · intro w _; go_simp; with_reducible rfl
            refine anyE_take (i := 3) (v := ?_) rfl (by kernel_rfl) (by kernel_rfl) (by kernel_rfl) (by kernel_rfl) (by kernel_rfl) (fun c _ _ h => absurd rfl (h.1 c)) (Or.inl ⟨by kernel_rfl, ?_⟩) HS ?_
            rotate_left
            · intro w _; go_simp; with_reducible rfl
            refine anyE_take (i := 4) (v := ?_) rfl (by kernel_rfl) (by kernel_rfl) (by kernel_rfl) (by kernel_rfl) (by kernel_rfl) (fun c _ _ h => absurd rfl (h.1 c)) (Or.inl ⟨by kernel_rfl, ?_⟩) HS ?_
            rotate_left
            · intro w _; go_simp; with_reducible rfl
            refine anyE_take (i := 5) (v := ?_) rfl (by kernel_rfl) (by kernel_rfl) (by kernel_rfl) (by kernel_rfl) (by kernel_rfl) (fun c _ _ h => absurd rfl (h.1 c)) (Or.inl ⟨by kernel_rfl, ?_⟩) HS ?_
            rotate_left
            · intro w _; go_simp; with_reducible rfl
            refine anyE_take (i := 6) (v := ?_) rfl (by kernel_rfl) (by kernel_rfl) (by kernel_rfl) (by kernel_rfl) (by kernel_rfl) (fun c _ _ h => absurd rfl (h.1 c)) (Or.inl ⟨by kernel_rfl, ?_⟩) HS ?_
            rotate_left
            · intro w hw; have hw := hw.2.1; go_simp; with_reducible rfl
            refine anyE_take (i := 7) (v := ?_) rfl (by kernel_rfl) (by kernel_rfl) (by kernel_rfl) (by kernel_rfl) (by kernel_rfl) (fun c _ _ h => absurd rfl (h.1 c)) (Or.inl ⟨by kernel_rfl, ?_⟩) HS ?_
            rotate_left
            · intro w _; go_simp; with_reducible rfl
            refine anyE_take (i := 8) (v := ?_) rfl (by kernel_rfl) (by kernel_rfl) (by kernel_rfl) (by kernel_rfl) (by kernel_rfl) (fun c _ _ h => absurd rfl (h.1 c)) (Or.inl ⟨by kernel_rfl, ?_⟩) HS ?_
            rotate_left
            · intro w _; go_simp; with_reducible rfl
            refine anyE_take (i := 9) (v := ?_) rfl (by kernel_rfl) (by kernel_rfl) (by kernel_rfl) (by kernel_rfl) (by kernel_rfl) (fun c _ _ h => absurd rfl (h.1 c)) (Or.inl ⟨by kernel_rfl, ?_⟩) HS ?_
            rotate_left
            · intro w hw; have hw := hw.2.2; go_simp; with_reducible rfl
            refine anyE_rest (by kernel_rfl) ?_
            refine wpAny_ready (rs := [10]) (by kernel_rfl) (by simp) ?_
            refine AllReady.cons rfl (fun K hK => ?_) AllReady.nil
            go_simp
            go_at_call 88
            refine (callsIn_wide.1 (back_in Fence.wide 3 trivial rfl _ _ _ _)).mono ?_
            rintro e w5 ⟨rfl, rfl⟩
            refine hK _ _ ?_
            clear hK K
            refine wpAny_done (by kernel_rfl) ?_ _
            refine ⟨fun c h => (by cases h), ?_⟩
            go_wp2
            have HV := Lib.hid (Sh.drew HSR.out)
            have hbT : RowUnder w.heap.size W2.drew ao2 r.right := HRU.out
            have HVU := Lib.hid hbT
            clear hbT HS HSR HRU h2 y2 z2
            generalize W2.drew = V at *
            have hq1 : (1 : Nat) ≤ 3 := by decide
            have hq2 : (1 : Nat) ≤ 3 - 1 := by decide
            have hbV := Blk.new V 26 #[.slice ao2 r.right.length c2]
            have hltV : w.heap.size ≤ V.heap.size := Nat.le_of_lt HV.out.gram.lt
            have hbtl : w1.heap.size + 1 + 1 < V.heap.size := HV.out.box.lt
            have hdsl : ∀ D ∈ ds, D < V.heap.size := fun D hD => (Array.getElem?_eq_some_iff.1 (HV.out.marks.2 D hD).2).1
            have hr8 := H8.out r (List.mem_of_getElem? HRK.out)
            refine (wpIn_wide (n := 3)).1 ?_
            refine wpIn_rangeFunc_ownG (F := Fence.wide) rfl hq1 (gf := 101) (lb := #[.pointer (some ⟨V.heap.size, 0, none⟩)]) rfl trivial (enters_of Try.func101 (by kernel_rfl) rfl)
              (back_stops Fence.wide _ trivial rfl hq2 V.heap.size w.heap.size c2 ao2 r.right (by omega) _ (by rw [World.size_alloc]; omega) (by rw [World.size_alloc]; omega) (hbV.cell 0) (fun j hj => by
                obtain ⟨a, e, hab, hca⟩ := HVU.out j hj
                exact ⟨a, e, hab, (World.cell?_alloc_lt V _ (a.add j) (by rw [add_block]; omega)).trans hca⟩)) (fun h k => h.trans k) (fun W l o o' hl h hc hw => kb_b (w := w) (m := w.heap.size) (Nat.le_refl _) W l o o' (by rw [World.size_alloc] at hl; omega) (Nat.le_refl _) h hc hw) (Below.refl _ _) (fun _ => rfl)
              (fun pre U => (∃ tvx, Sh w.heap.size w S #[.slice ta tl tc, .slice va vl vc, .slice (some a2) R.length rc] m (.slice (some ⟨m, 0, none⟩) S.length cap) (w1.heap.size + 1 + 1) ds (T0 ++ pre.map (·.2)) (ks ++ [(kr : Int)]) tvx u72 U) ∧ Blk U V.heap.size 26 #[.slice ao2 r.right.length c2])
              (fun _ _ _ => False)
              (fun pre A B row hs hg hr => by
                obtain ⟨⟨tvx, h1⟩, h2⟩ := hs
                refine ⟨⟨tvx, h1.grownC hg (fun r e => ?_)⟩, h2.grownC hg (fun r e => (hr r e).2)⟩
                obtain ⟨g1, g2⟩ := hr r e
                rw [World.size_alloc] at g1
                exact ⟨by omega, fun D hD => by have := hdsl D hD; omega, g2⟩)
              (fun _ _ _ _ _ hs _ _ => hs)
              ⟨⟨_, by simpa using HV.out.alloc _⟩, hbV⟩
              (fun x => { tmps := #[.agg #[.slice ta tl tc, .slice va vl vc, .slice (some a2) R.length rc], .int .i64 ↑k, .pointer (some ⟨w.heap.size, 0, none⟩), undef, .slice none 0 0, .bool false, .slice (some { block := m, off := 0 }) S.length cap, u72, .pointer (some { block := w1.heap.size + 1 + 1, off := 0 }), .int .i64 ↑q, u10, .int .i64 x.2, .agg #[.slice ta tl tc, .slice va vl vc, .slice (some a2) R.length rc], .slice (some { block := m, off := 0 }) S.length cap, .agg #[.slice ta tl tc, .slice va vl vc, .slice (some a2) R.length rc], .int .i64 ↑k, .bool true, .bool false, .bool false, .slice (some { block := m, off := 0 }) S.length cap, .int .i64 ↑k, .pointer (some { block := m, off := k * 3 }), .pointer (some { block := m, off := k * 3 + 1 }), .int .i64 ↑st, .bool false, .bool false, .int .i64 ↑k, .slice (some { block := w1.heap.size + 1, off := 0 }) 1 1, .slice (some { block := g, off := 0 }) (n + 1) cap2, .int .i64 (↑n + 1), .bool true, .slice (some { block := g, off := 0 }) (n + 1) cap2, .slice (some { block := g, off := 0 }) (n + 1) cap2, .int .i64 (↑n + 1), .int .i64 ↑n, .pointer (some { block := g, off := n }), .int .i64 ↑q, .slice (some { block := g, off := 0 }) (n + 1) cap2, .slice (some { block := g, off := 0 }) (n + 1) cap2, .int .i64 (↑n + 1), .int .i64 ↑n, .slice (some { block := g, off := 0 }) n cap2, .int .i64 ↑q, .bool false, u7, .slice (some { block := m, off := 0 }) S.length cap, .int .i64 ↑q, .pointer (some { block := m, off := q * 3 }), .pointer (some { block := m, off := q * 3 + 2 }), .int .i64 ↑kr, .slice (some { block := W.heap.size, off := 0 }) 1 1, u72, .pointer (some { block := w.heap.size, off := 2 }), .slice (some a2) R.length rc, .slice (some { block := m, off := 0 }) S.length cap, .int .i64 ↑q, .pointer (some { block := m, off := q * 3 }), .pointer (some { block := m, off := q * 3 + 2 }), .int .i64 ↑kr, .pointer (some (a2.add (kr * 3))), .pointer (some { block := (a2.add (kr * 3)).block, off := (a2.add (kr * 3)).off + 1 }), .slice ao2 r.right.length c2, .func (.func 101) #[] #[.pointer (some { block := V.heap.size, off := 0 })], .int .i64 (x.1 : Int), .int .i64 x.2, u65, u66, u67, u68, undef], defers := [] }) ?assign ?body ?done ?stop
            case assign =>
              intro l x U K hK
              gi_wp2
              exact hK
            case body =>
              rintro l pre x U ⟨⟨tvx, hI⟩, hbbU⟩ hlt
              have c0 := hI.box.cell 0
              simp only [List.getElem?_toArray, List.getElem?_cons_zero] at c0
              obtain ⟨i0, hi, hz0, hz1, hz2⟩ := info_parts info_int
              have hsa := hI.alloc (.cells #[.int .i64 x.2] 3)
              have hplen : (T0 ++ pre.map (·.2)).length ≤ 65537 + 9 := by
                have hk := HMS.out
                unfold todoM at hk
                simp only [List.length_append, List.length_map, List.length_cons, List.length_reverse] at hk ⊢
                omega
              have hpb := Blk.alloc hbbU (.cells #[.int .i64 x.2] 3)
              generalize hL : T0 ++ pre.map (·.2) = L at *
              have HPL := Lib.hid hplen
              have HSA2 := Lib.hid hsa
              have HNW2 := Lib.hid (one_new U 3 (.int .i64 x.2))
              have HI2 := Lib.hid hI
              have HL := Lib.hid hL
              have HPB := Lib.hid hpb
              have HBB := Lib.hid hbbU
              clear hplen hsa hpb hL hI hbbU
              gi_wp2_with (gi_at_builtin; refine wpListIn_append_own_at _ rfl _ _ 26 rfl w.heap.size 3 i0 (.int .i64 0) 1 8 Try.underlying26 hi hz0 hz1 hz2 rfl (by decide) tvx L.length (IV L) rfl HSA2.out.todo _ 1 1 [.int .i64 x.2] rfl rfl HNW2.out (by simp [Value.oneCell']) (by have := HPL.out; unfold maxLen; omega) (by have := HPL.out; omega) (Nat.le_of_lt HSA2.out.gram.lt) ?_; intro tv9 W9 hown9 hgrow9 hnil9 hat9; obtain ⟨g9, cap9, e9, _, _⟩ := World.ownsRow.form hown9 (Nat.succ_pos _); subst e9; have b9 := HSA2.out.box.grown hgrow9 (HSA2.out.box.not_row (by decide) HSA2.out.todo); have c9 := b9.cell 0; have f9 := b9.frozen 0; simp only [List.getElem?_toArray, List.getElem?_cons_zero] at c9)
              have hL := HL.out
              have hmem : L ++ [x.2] = T0 ++ (pre ++ [x]).map (·.2) := by rw [← hL]; simp
              have hgr2 := grown_set W9 ⟨w1.heap.size + 1 + 1, 0, none⟩ (.slice (some ⟨g9, 0, none⟩) (L.length + 1) cap9)
              have hpush := Sh.push (x := x.2) HSA2.out hown9 hgrow9 hat9
              rw [hmem] at hpush
              have hbb9 := (HPB.out.grown hgrow9 (HPB.out.not_row (by decide) HSA2.out.todo)).far (p := ⟨w1.heap.size + 1 + 1, 0, none⟩) (by show V.heap.size ≠ w1.heap.size + 1 + 1; omega) (.slice (some ⟨g9, 0, none⟩) (L.length + 1) cap9)
              have hbl9 : Below w.heap.size U (W9.setCell ⟨w1.heap.size + 1 + 1, 0, none⟩ (.slice (some ⟨g9, 0, none⟩) (L.length + 1) cap9)) := (((Below.refl w.heap.size U).alloc (Nat.le_of_lt HI2.out.gram.lt) _).grown hgrow9 (Nat.le_of_lt HSA2.out.gram.lt) (fun r e => (row_cells HSA2.out.todo r e).1)).setCell (p := ⟨w1.heap.size + 1 + 1, 0, none⟩) (by show w.heap.size ≤ w1.heap.size + 1 + 1; omega) _
              refine ⟨(((KeepsOthers.alloc U _).trans (KeepsOthers.of_grownBy hgrow9 fun j o ej hj => ?_)).trans (KeepsOthers.setCell _ _ _)).from _, ⟨hbl9, fun v hv => ?_⟩, ⟨_, hpush⟩, hbb9⟩
              · obtain ⟨_, o2, ho2, hc2⟩ := row_cells HSA2.out.todo j ej
                rw [ho2] at hj
                cases hj
                exact hc2
              · have e1 := HBB.out.cell 0
                have e2 := hbb9.cell 0
                rw [e1] at hv
                rw [e2]
                exact hv
            case done =>
              rintro D ys U hD rfl ⟨⟨tvx, hI⟩, hbbU⟩ hK
              rw [upto_bk] at hI
              rw [World.size_alloc] at hD
              have hway := way_eq HI.out HDN.out HKR.out HRK.out
              have hrev : (T0 ++ r.right.reverse).reverse = r.right ++ T0.reverse := by simp
              have hstp : (S.getD ((q : Int)).toNat noW).2.1 = 1 + sS S r.right := by
                have h1 := hway.2.2.2
                have h2 := HMS.out
                have h3 := sS_le (S := S) (F := (q : Int) :: T0.reverse) (s := (q : Int)) (by simp) (by omega)
                rw [Int.toNat_natCast] at h3 ⊢
                unfold todoM at h2
                unfold Far at h1
                omega
              have htv := todo_var S (s := (q : Int)) (r := r) (by omega) hr8 hstp T0.reverse
              have hmu2 := HMU.out _ U ⟨tvx, hI.box, hI.todo⟩
              rw [hrev] at hmu2
              refine ⟨(HIN.out _ _).2 ?_, ?_⟩
              · (repeat apply Exists.intro)
                refine ⟨(rfl : _ = Act.mk _ (List.map mkD (D :: ds))), T0 ++ r.right.reverse, ks ++ [(kr : Int)], tvx, ⟨hI.box, hI.bB, hI.todo, hI.rows, hI.apart, hI.ways, hI.gram, hI.below, ⟨List.nodup_cons.2 ⟨fun h => by have := hdsl D h; omega, hI.marks.1⟩, fun E hE => ?_⟩⟩, ?_, ?_, fun l hl => ?_⟩
                · rcases List.mem_cons.1 hE with rfl | hE
                  · exact ⟨by omega, hK⟩
                  · exact hI.marks.2 E hE
                · intro y hy h0
                  rcases List.mem_append.1 hy with h | h
                  · exact HG.out y (List.mem_append_left _ h) h0
                  · exact good_kids HI.out HDN.out HKR.out HRK.out y (List.mem_reverse.1 h) h0
                · have h2 := HMS.out
                  rw [hrev]
                  simp only [List.length_append, List.length_cons, List.length_nil]
                  omega
                · rw [hrev] at hl
                  have := HXS.out _ (Exps.var (by omega) (by rw [Int.toNat_natCast]; exact HKR.out) HRK.out hl)
                  simpa using this
              · rw [hmu2, HMT2.out]
                exact htv
            case stop =>
              rintro D c pre U _ _ h _
              exact h.elim
    · have hgt : decide ((4096 : Int) < (st : Int)) = true := decide_eq_true (by omega)
      have hgt2 : decide (4096 < st) = true := decide_eq_true (by omega)
      gi_wp2_with (refine ⟨trivial, ?_⟩; gi_at_call 97; refine (callsIn_wide.2 HVA.out).mono ?_; rintro e w2 ⟨rfl, o2, rfl⟩)
      refine ⟨.tuple #[.slice none 0 0, .bool false], by simp [results, Try.results82, go_sem], S, .slice none 0 0, false, rfl, HI.out, HDN.out, HB1.out.alloc HB1.out.size _, fun h => (by cases h), fun _ => ⟨rfl, fun _ _ => by rw [Int.toNat_natCast, ← HSTE.out]; omega⟩⟩
  · have hvf : (decide (0 ≤ v) && decide (v < vl)) = false := by
      rw [Bool.and_eq_false_iff]
      by_cases h0 : 0 ≤ v
      · exact .inr (decide_eq_false (fun h => hok ⟨h0, h⟩))
      · exact .inl (decide_eq_false h0)
    rw [hvf] at hva
    have HVA := Lib.hid hva
    clear hva hvf
    gi_wp2_with (refine ⟨trivial, ?_⟩; gi_at_call 97; refine (callsIn_wide.2 HVA.out).mono ?_; rintro e w2 ⟨rfl, o2, rfl⟩)
    refine ⟨.tuple #[.slice none 0 0, .bool false], by simp [results, Try.results82, go_sem], S, .slice none 0 0, false, rfl, HI.out, HDN.out, HB1.out.alloc HB1.out.size _, fun h => (by cases h), fun _ => ⟨rfl, fun h1 h2 => absurd ⟨h1, h2⟩ hok⟩⟩
end Go.Proofs.Ytljkobijoenabaa.dv
namespace Go.Proofs.Ytljkobijoenabaa.dv
open Go.ChangeShapes Go.WideShapes Go.ChangeAt Go.RowKit Go.Maps Go.WideMaps Go.WideElems
set_option linter.unusedVariables false
set_option linter.unusedSimpArgs false
/-! left: whether a variable; what leads a form; marks of another row -/
set_option maxRecDepth 100000 in
theorem lisVarOf_any (w : World) (ta va ra : Option Addr) (tl tc vl vc rl rc : Nat) (x : Int) : Calls Try.prog 63 #[.agg #[.slice ta tl tc, .slice va vl vc, .slice ra rl rc], .int .i64 x] w fun e w' => e = .returned (.bool (decide (0 ≤ x) && decide (x < vl))) ∧ ∃ o, w' = w.alloc o := by
  have b0 := Blk.new w 25 #[.slice ta tl tc, .slice va vl vc, .slice ra rl rc]
  have c0 := b0.cell 0
  have c1 := b0.cell 1
  have c2 := b0.cell 2
  simp only [List.getElem?_toArray, List.getElem?_cons_zero, List.getElem?_cons_succ] at c0 c1 c2
  have hbl : Below w.heap.size w (w.alloc (.cells #[.slice ta tl tc, .slice va vl vc, .slice ra rl rc] 25)) := (Below.refl _ w).alloc (Nat.le_refl _) _
  have hiv := isv_any (w.alloc (.cells #[.slice ta tl tc, .slice va vl vc, .slice ra rl rc] 25)) x
  by_cases h0 : 0 ≤ x
  · rw [decide_eq_true h0] at hiv ⊢
    go_enter Try.func63, Try.ntmps63
    go_wp2_with fail
    refine hiv.mono ?_
    rintro e w1 ⟨rfl, rfl⟩
    go_wp2
    go_ret
    exact ⟨rfl, _, rfl⟩
  · rw [decide_eq_false h0] at hiv ⊢
    go_enter Try.func63, Try.ntmps63
    go_wp2_with fail
    refine hiv.mono ?_
    rintro e w1 ⟨rfl, rfl⟩
    go_wp2
    go_ret
    exact ⟨rfl, _, rfl⟩
/-- variables at a form's beginning, up to one that doesn't vanish -/
def leadF (vl : Nat) (p : Int → Bool) : List Int → List Int
  | [] => []
  | s :: F => if 0 ≤ s ∧ s < vl then (if p s then s :: leadF vl p F else [s]) else []
theorem leadF_take (vl : Nat) (p : Int → Bool) : ∀ F, leadF vl p F = F.take (leadF vl p F).length
  | [] => rfl
  | s :: F => by
    have ih := leadF_take vl p F
    unfold leadF
    split
    · split
      · rw [List.length_cons, List.take_succ_cons, ← ih]
      · rfl
    · rfl
theorem leadF_le (vl : Nat) (p : Int → Bool) (F : List Int) : (leadF vl p F).length ≤ F.length := by
  rw [leadF_take vl p F]
  rw [List.length_take]; omega
theorem leadF_var (vl : Nat) (p : Int → Bool) : ∀ F, ∀ s ∈ leadF vl p F, 0 ≤ s ∧ s < vl
  | [], s, h => by cases h
  | x :: F, s, h => by
    have ih := leadF_var vl p F
    unfold leadF at h
    split at h
    · rename_i hx
      split at h
      · rcases List.mem_cons.1 h with rfl | h
        · exact hx
        · exact ih s h
      · rw [List.mem_singleton.1 h]; exact hx
    · cases h
/-- a function value that tells something of variables -/
def TellsV (vl : Nat) (fn : Nat) (cap : Array Value) (p : Int → Bool) (w : World) : Prop := ∀ (x : Int) (W : World), 0 ≤ x → x < vl → Below w.heap.size w W → Calls Try.prog fn (#[.int .i64 x] ++ cap) W fun e W' => e = .returned (.bool (p x)) ∧ Below W.heap.size W W'
set_option maxRecDepth 100000 in
set_option maxHeartbeats 2000000 in
theorem leads_any (w : World) (ta va ra : Option Addr) (tl tc vl vc rl rc : Nat) (v : Value) (F : List Int) (fn : Nat) (cap : Array Value) (p : Int → Bool) (hgo : Goes fn) (hp : TellsV vl fn cap p w) (h : RowAt w v F) :
    Calls Try.prog 79 #[.agg #[.slice ta tl tc, .slice va vl vc, .slice ra rl rc], v, .func (.func fn) #[] cap] w fun e w' => (∃ ao cp, v = .slice ao F.length cp ∧ e = .returned (.slice ao (leadF vl p F).length cp)) ∧ Below w.heap.size w w' := by
  obtain ⟨ao, cp, rfl, hl, hm, hn, hin, hc⟩ := h
  have hlen : F.length ≤ 9223372036854775807 := by unfold maxLen at hm; omega
  have b0 := Blk.new w 25 #[.slice ta tl tc, .slice va vl vc, .slice ra rl rc]
  have hbl : Below w.heap.size w (w.alloc (.cells #[.slice ta tl tc, .slice va vl vc, .slice ra rl rc] 25)) := (Below.refl _ w).alloc (Nat.le_refl _) _
  have HC := Lib.hid hc
  have hg : ∀ (c : Int) (w : World), (callFunc fn (#[.int .i64 c] ++ cap)).run Try.prog w = .ok (.enter fn (#[.int .i64 c] ++ cap)) w := fun c w => hgo _ w
  have HP := Lib.hid hp
  have HLE := Lib.hid (leadF_le vl p F)
  have HB0 := Lib.hid b0
  have HBL := Lib.hid hbl
  have hcp : F.length ≤ cp := hl
  clear hc hin hp hgo b0 hbl
  go_enter Try.func79, Try.ntmps79
  go_wp2
  go_loopw [11] (fun q wr => ∃ k : Nat, k ≤ F.length ∧ q = .int .i64 k ∧ (leadF vl p F).length = k + (leadF vl p (F.drop k)).length ∧ Below (w.heap.size + 1) (w.alloc (.cells #[.slice ta tl tc, .slice va vl vc, .slice ra rl rc] 25)) wr) (fun q _ => F.length - (intOf q).toNat)
  case atStart => exact ⟨0, Nat.zero_le _, rfl, by simp, Below.refl _ _⟩
  case round =>
    obtain ⟨k, hk, rfl, hld, hbr⟩ := hrel
    have HLD := Lib.hid hld
    have HBR := Lib.hid hbr
    have bg := HB0.out.below hbr (by omega)
    have g0 := bg.cell 0
    have g1 := bg.cell 1
    have g2 := bg.cell 2
    simp only [List.getElem?_toArray, List.getElem?_cons_zero, List.getElem?_cons_succ] at g0 g1 g2
    have hbw : Below w.heap.size w wr := HBL.out.trans (hbr.mono (by omega))
    have HBW := Lib.hid hbw
    have hsz := hbr.size
    rw [World.size_alloc] at hsz
    clear hld hbr bg
    by_cases hlt : k < F.length
    · obtain ⟨a, rfl, hab, hca⟩ := HC.out k hlt
      have hca2 : wr.cell? (a.add k) = some (.int .i64 (F.getD k 0)) := (hbw.cell (p := a.add k) (by rw [add_block]; exact hab)).trans hca
      have hdr : F.drop k = F.getD k 0 :: F.drop (k + 1) := by
        rw [List.getD_eq_getElem?_getD, List.getElem?_eq_getElem hlt, List.drop_eq_getElem_cons hlt]; rfl
      have HDR := Lib.hid hdr
      have hva := lisVarOf_any wr ta va ra tl tc vl vc rl rc (F.getD k 0)
      have hk0 : (0 : Int) ≤ (k : Int) := by omega
      have hk1 : (k : Int) ≤ (cp : Int) := by omega
      have hk2 : (k : Int) + 1 ≤ (cp : Int) := by omega
      have hk3 : (k : Int) ≤ (F.length : Int) := by omega
      clear hca hdr hbw
      generalize F.getD k 0 = x at *
      by_cases hx : 0 ≤ x ∧ x < vl
      · rw [decide_eq_true hx.1, decide_eq_true hx.2] at hva
        have hcall := fun W hb => HP.out x W hx.1 hx.2 hb
        have HCALL := Lib.hid hcall
        clear hcall
        cases hpx : p x
        · have hfin : (leadF vl p F).length = k + 1 := by
            rw [HLD.out, HDR.out]
            unfold leadF
            rw [if_pos hx, hpx]
            rfl
          have HFIN := Lib.hid hfin
          clear hfin
          go_wp2_with fail
          refine hva.mono ?_
          rintro e w2 ⟨rfl, o2, rfl⟩
          have e2 : (true && true) = true := rfl
          rw [e2]
          have hc2 := HCALL.out (wr.alloc o2) (HBW.out.alloc (by omega) o2)
          rw [hpx] at hc2
          go_wp2_with fail
          refine hc2.mono ?_
          rintro e w3 ⟨rfl, hb3⟩
          go_wp2
          go_ret
          exact ⟨⟨_, _, rfl, by rw [HFIN.out]; rfl⟩, (HBW.out.alloc (by omega) o2).trans (hb3.mono (by rw [World.size_alloc]; omega))⟩
        · have hfin : (leadF vl p F).length = k + 1 + (leadF vl p (F.drop (k + 1))).length := by
            rw [HLD.out, HDR.out]
            show k + (leadF vl p (x :: F.drop (k + 1))).length = _
            rw [leadF, if_pos hx, hpx, if_pos rfl, List.length_cons]
            omega
          have HFIN := Lib.hid hfin
          clear hfin
          go_wp2_with fail
          refine hva.mono ?_
          rintro e w2 ⟨rfl, o2, rfl⟩
          have e2 : (true && true) = true := rfl
          rw [e2]
          have hc2 := HCALL.out (wr.alloc o2) (HBW.out.alloc (by omega) o2)
          rw [hpx] at hc2
          go_wp2_with fail
          refine hc2.mono ?_
          rintro e w3 ⟨rfl, hb3⟩
          have HB4 := Lib.hid ((HBR.out.alloc (by omega) o2).trans (hb3.mono (by rw [World.size_alloc]; omega)))
          clear hb3 hc2
          go_wp2
          exact ⟨⟨k + 1, hlt, congrArg (Value.int .i64) (by omega), HFIN.out, HB4.out⟩, by simp only [intOf]; omega⟩
      · have hvf : (decide (0 ≤ x) && decide (x < (vl : Int))) = false := by
          rw [Bool.and_eq_false_iff]
          by_cases h0 : 0 ≤ x
          · exact .inr (decide_eq_false (fun h => hx ⟨h0, h⟩))
          · exact .inl (decide_eq_false h0)
        rw [hvf] at hva
        have hfin : (leadF vl p F).length = k := by
          rw [HLD.out, HDR.out]
          show k + (leadF vl p (x :: F.drop (k + 1))).length = _
          rw [leadF, if_neg hx]
          rfl
        have HFIN := Lib.hid hfin
        clear hfin hvf
        go_wp2_with fail
        refine hva.mono ?_
        rintro e w2 ⟨rfl, o2, rfl⟩
        go_wp2
        go_ret
        exact ⟨⟨_, _, rfl, by rw [HFIN.out]; rfl⟩, HBW.out.alloc (by omega) o2⟩
    · obtain rfl : k = F.length := by omega
      have hfin : (leadF vl p F).length = F.length := by rw [HLD.out, List.drop_length]; rfl
      have HFIN := Lib.hid hfin
      clear hfin
      go_wp2
      go_ret
      exact ⟨⟨_, _, rfl, by rw [HFIN.out]; rfl⟩, HBW.out⟩
end Go.Proofs.Ytljkobijoenabaa.dv
namespace Go.Proofs.Ytljkobijoenabaa.dv
open Go.ChangeShapes Go.WideShapes Go.ChangeAt Go.RowKit Go.Maps Go.WideMaps Go.WideElems
set_option linter.unusedVariables false
set_option linter.unusedSimpArgs false
/-! left: marks of another row -/
/-- the first k of a row, and another one's -/
def orK (S T : List Bool) (k : Nat) : List Bool := S.mapIdx fun i b => if i < k then b || T.getD i false else b
theorem orK_len (S T : List Bool) (k : Nat) : (orK S T k).length = S.length := by simp [orK]
theorem orK_get (S T : List Bool) (k i : Nat) (h : i < S.length) : (orK S T k).getD i false = if i < k then S.getD i false || T.getD i false else S.getD i false := by
  by_cases h2 : i < k <;> simp [orK, List.getD_eq_getElem?_getD, List.getElem?_mapIdx, List.getElem?_eq_getElem h, h2]
theorem orK_zero (S T : List Bool) : orK S T 0 = S := by
  apply List.ext_getElem (by simp [orK])
  intro i h1 h2
  simp [orK]
theorem orK_succ (S T : List Bool) (k : Nat) (h : k < S.length) : orK S T (k + 1) = (orK S T k).set k (S.getD k false || T.getD k false) := by
  apply List.ext_getElem (by simp [orK])
  intro i h1 h2
  have hi : i < S.length := by simpa [orK] using h1
  rw [List.getElem_set]
  by_cases e : k = i
  · subst e
    simp [orK, List.getD_eq_getElem?_getD, List.getElem?_eq_getElem h]
  · rw [if_neg e]
    simp only [orK, List.getElem_mapIdx]
    by_cases h3 : i < k
    · rw [if_pos h3, if_pos (by omega)]
    · rw [if_neg h3, if_neg (by omega)]
theorem bv_setb (S : List Bool) (k : Nat) (b : Bool) : (BV S).set k (.bool b) = BV (S.set k b) := by unfold BV; rw [List.map_set]
theorem marks_store {w : World} {B m : Nat} {cap : Nat} {S : List Bool} (h : w.ownsRow B 4 1 (.slice (some ⟨m, 0, none⟩) S.length cap) S.length (BV S)) (k : Nat) (b : Bool) : MarksAt (w.setCell ⟨m, k, none⟩ (.bool b)) B m (.slice (some ⟨m, 0, none⟩) S.length cap) (S.set k b) ∧ w.grownBy (w.setCell ⟨m, k, none⟩ (.bool b)) (some m) := by
  obtain ⟨o1, o2⟩ := h.stored k (.bool b)
  rw [bv_setb] at o1
  exact ⟨⟨⟨cap, by simp⟩, by simpa using o1⟩, o2⟩
set_option maxRecDepth 100000 in
set_option maxHeartbeats 2000000 in
theorem lmark_any (w : World) (B b n oc : Nat) (v : Value) (oa : Addr) (S T : List Bool) (hS : S.length = n) (hn : n ≤ 1000) (h : MarksAt w B b v S)
    (hread : ∀ k wr, k < n → MarksAt wr B b v (orK S T k) → w.grownBy wr (some b) → wr.cell? (oa.add k) = some (.bool (T.getD k false))) :
    Calls Try.prog 81 #[v, .slice (some oa) n oc] w fun e w' => (∃ u, e = .returned u) ∧ MarksAt w' B b v (orK S T n) ∧ w.grownBy w' (some b) := by
  subst hS
  have H := Lib.hid h
  have HR := Lib.hid hread
  obtain ⟨⟨cap, rfl⟩, _⟩ := h
  clear hread
  go_enter Try.func81, Try.ntmps81
  go_wp2
  go_loopw [8] (fun q wr => ∃ k : Nat, k ≤ S.length ∧ q = .int .i64 k ∧ MarksAt wr B b (.slice (some ⟨b, 0, none⟩) S.length cap) (orK S T k) ∧ w.grownBy wr (some b)) (fun q _ => S.length - (intOf q).toNat)
  case atStart => exact ⟨0, Nat.zero_le _, rfl, by rw [orK_zero]; exact H.out, World.grownBy.refl _ _⟩
  case round =>
    obtain ⟨k, hk, rfl, hmk, hgr⟩ := hrel
    have HMK := Lib.hid hmk
    have HGR := Lib.hid hgr
    by_cases hlt : k < S.length
    · have hlen : (orK S T k).length = S.length := orK_len S T k
      have hmk' := hmk.2
      have hrd := HR.out k wr hlt hmk hgr
      have hrow : wr.ownsRow B 4 1 (.slice (some ⟨b, 0, none⟩) (orK S T k).length cap) (orK S T k).length (BV (orK S T k)) := by
        obtain ⟨⟨c2, e2⟩, h2⟩ := hmk
        rw [hlen] at h2 ⊢
        exact h2
      have hcell : wr.cell? ⟨b, k, none⟩ = some (.bool (S.getD k false)) := by
        rw [hrow.cellAt k (by rw [hlen]; omega)]
        have := orK_get S T k k hlt
        rw [if_neg (Nat.lt_irrefl _)] at this
        rw [← this]
        simp [BV, List.getD_eq_getElem?_getD, List.getElem?_eq_getElem (show k < (orK S T k).length by omega)]
      have hfr := hrow.frozenAt k
      obtain ⟨s1, s2⟩ := marks_store hrow k (S.getD k false || T.getD k false)
      rw [← orK_succ S T k hlt, hlen] at s1
      have HS1 := Lib.hid s1
      have HS2 := Lib.hid (hgr.trans s2)
      have hk2 : (k : Int) < (S.length : Int) := by omega
      have hk0 : (0 : Int) ≤ (k : Int) := by omega
      clear s1 s2 hrow hmk hmk' hgr hlen
      generalize S.getD k false = x at *
      generalize T.getD k false = y at *
      cases x
      · go_wp2
        exact ⟨⟨k + 1, hlt, congrArg (Value.int .i64) (by omega), by simpa using HS1.out, by simpa using HS2.out⟩, by simp only [intOf]; omega⟩
      · go_wp2
        exact ⟨⟨k + 1, hlt, congrArg (Value.int .i64) (by omega), by simpa using HS1.out, by simpa using HS2.out⟩, by simp only [intOf]; omega⟩
    · obtain rfl : k = S.length := by omega
      clear hmk hgr
      go_wp2
      go_end0
      exact ⟨⟨_, rfl⟩, HMK.out, HGR.out⟩
end Go.Proofs.Ytljkobijoenabaa.dv
namespace Go.Proofs.Ytljkobijoenabaa.dv
open Go.ChangeShapes Go.WideShapes Go.ChangeAt Go.RowKit Go.Maps Go.WideMaps Go.WideElems
set_option linter.unusedVariables false
set_option linter.unusedSimpArgs false
/-! left: rows of marks in memory; the closure that tells whether a variable vanishes -/
def slB (n b : Nat) : Value := .slice (some ⟨b, 0, none⟩) n n
/-- n rows of n marks: the outer one in block m, the inner ones in blocks bs -/
structure MatAt (w : World) (B m n : Nat) (bs : List Nat) (M : List (List Bool)) : Prop where
  bl : bs.length = n
  ml : M.length = n
  rl : ∀ i, i < n → (M.getD i []).length = n
  nod : bs.Nodup
  out : w.ownsRow B 55 1 (slB n m) n (bs.map (slB n))
  inn : ∀ i, i < n → w.ownsRow B 4 1 (slB n (bs.getD i 0)) n (BV (M.getD i []))
theorem bs_get {bs : List Nat} {i : Nat} (h : i < bs.length) : bs.getD i 0 = bs[i] := by rw [List.getD_eq_getElem?_getD, List.getElem?_eq_getElem h]; rfl
theorem nod_ne {bs : List Nat} (h : bs.Nodup) {i j : Nat} (hi : i < bs.length) (hj : j < bs.length) (hne : i ≠ j) : bs.getD i 0 ≠ bs.getD j 0 := by
  rw [bs_get hi, bs_get hj]
  have hp := List.pairwise_iff_getElem.1 h
  rcases Nat.lt_or_ge i j with c | c
  · exact hp i j hi hj c
  · exact (hp j i hj hi (by omega)).symm
theorem own_of_block {w w' : World} {B s n : Nat} {e : TypeId} {v : Value} {x : List Value} {row : Option Nat} (h : w.ownsRow B e s v n x) (hg : w.grownBy w' row) (hne : ∀ r, v.ownBlock = some r → row ≠ some r) : w'.ownsRow B e s v n x :=
  ownsRow_keep h fun g hg' hv => hg.block g hg' (fun e => hne g hv e.symm)
theorem MatAt.grown {w w' : World} {B m n : Nat} {bs : List Nat} {M : List (List Bool)} {row : Option Nat} (h : MatAt w B m n bs M) (hg : w.grownBy w' row) (hm : row ≠ some m) (hb : ∀ b ∈ bs, row ≠ some b) : MatAt w' B m n bs M := by
  refine ⟨h.bl, h.ml, h.rl, h.nod, own_of_block h.out hg (fun r e => ?_), fun i hi => own_of_block (h.inn i hi) hg (fun r e => ?_)⟩
  · obtain rfl : m = r := by simpa [slB, Value.ownBlock] using e
    exact hm
  · obtain rfl : bs.getD i 0 = r := by simpa [slB, Value.ownBlock] using e
    rw [bs_get (by rw [h.bl]; exact hi)]
    exact hb _ (List.getElem_mem _)
theorem MatAt.alloc {w : World} {B m n : Nat} {bs : List Nat} {M : List (List Bool)} (h : MatAt w B m n bs M) (o : Obj) : MatAt (w.alloc o) B m n bs M := h.grown (World.grownBy_alloc w o none) (fun e => by cases e) (fun _ _ e => by cases e)
theorem MatAt.below {w w' : World} {B m n : Nat} {bs : List Nat} {M : List (List Bool)} (h : MatAt w B m n bs M) (hb : Below w.heap.size w w') : MatAt w' B m n bs M := h.grown (row := none) ⟨hb.os, hb.tape, hb.output, hb.size, fun k hk _ => hb.block k hk⟩ (fun e => by cases e) (fun _ _ e => by cases e)
theorem MatAt.cell {w : World} {B m n : Nat} {bs : List Nat} {M : List (List Bool)} (h : MatAt w B m n bs M) (i : Nat) (hi : i < n) : w.cell? ⟨m, i, none⟩ = some (slB n (bs.getD i 0)) := by
  have := World.ownsRow.cellAt (show w.ownsRow B 55 1 (.slice (some ⟨m, 0, none⟩) n n) n (bs.map (slB n)) from h.out) i (by omega)
  rw [this, List.getElem?_map, List.getElem?_eq_getElem (show i < bs.length by rw [h.bl]; exact hi), bs_get (by rw [h.bl]; exact hi)]
  rfl
theorem MatAt.marks {w : World} {B m n : Nat} {bs : List Nat} {M : List (List Bool)} (h : MatAt w B m n bs M) (i : Nat) (hi : i < n) : MarksAt w B (bs.getD i 0) (slB n (bs.getD i 0)) (M.getD i []) := by
  refine ⟨⟨n, by rw [h.rl i hi]; rfl⟩, ?_⟩
  rw [h.rl i hi]
  exact h.inn i hi
theorem MatAt.mark {w : World} {B m n : Nat} {bs : List Nat} {M : List (List Bool)} (h : MatAt w B m n bs M) (i j : Nat) (hi : i < n) (hj : j < n) : w.cell? ⟨bs.getD i 0, j, none⟩ = some (.bool ((M.getD i []).getD j false)) := by
  have := World.ownsRow.cellAt (show w.ownsRow B 4 1 (.slice (some ⟨bs.getD i 0, 0, none⟩) n n) n (BV (M.getD i [])) from h.inn i hi) j (by omega)
  rw [this]
  simp [BV, List.getD_eq_getElem?_getD, List.getElem?_eq_getElem (show j < (M.getD i []).length by rw [h.rl i hi]; exact hj)]
  rw [List.getElem?_eq_getElem]
  · simp
  · have := h.rl i hi
    rw [List.getD_eq_getElem?_getD] at this
    omega
/-- one row turned -/
theorem MatAt.row {w w' : World} {B m n : Nat} {bs : List Nat} {M : List (List Bool)} (h : MatAt w B m n bs M) (i : Nat) (hi : i < n) (X : List Bool) (hX : X.length = n) (ho : w'.ownsRow B 4 1 (slB n (bs.getD i 0)) n (BV X)) (hg : w.grownBy w' (some (bs.getD i 0))) : MatAt w' B m n bs (M.set i X) := by
  have hib : i < bs.length := by rw [h.bl]; exact hi
  have hget : ∀ j, (M.set i X).getD j [] = if j = i then X else M.getD j [] := fun j => by
    rw [List.getD_eq_getElem?_getD, List.getElem?_set]
    by_cases e : i = j
    · subst e
      simp [h.ml, hi]
    · rw [if_neg e, if_neg (fun e2 => e e2.symm), List.getD_eq_getElem?_getD]
  refine ⟨h.bl, by simpa using h.ml, fun j hj => ?_, h.nod, own_of_block h.out hg (fun r e e2 => ?_), fun j hj => ?_⟩
  · rw [hget]
    split
    · exact hX
    · exact h.rl j hj
  · obtain rfl : m = r := by simpa [slB, Value.ownBlock] using e
    have e3 : bs.getD i 0 = m := Option.some.inj e2
    rcases row_apart (h.inn i hi) h.out (by decide) with e4 | e4
    · simp [slB, Value.ownBlock] at e4
    · exact e4 (by show some (bs.getD i 0) = some m; rw [e3])
  · rw [hget]
    split
    · rename_i e; subst e; exact ho
    · rename_i e
      refine own_of_block (h.inn j hj) hg (fun r e1 e2 => ?_)
      obtain rfl : bs.getD j 0 = r := by simpa [slB, Value.ownBlock] using e1
      exact nod_ne h.nod hib (by rw [h.bl]; exact hj) (fun e3 => e e3.symm) (Option.some.inj e2)
theorem goes_begins1 : Goes 80 := fun args w => enters_of Try.func80 (by kernel_rfl) rfl args w
set_option maxRecDepth 100000 in
theorem begins1_any (w : World) (bx : Nat) (ev : Value) (E : List Bool) (hbx : Blk w bx 55 #[ev]) (hE : ReadB w ev E) : TellsV E.length 80 #[.pointer (some ⟨bx, 0, none⟩)] (fun x => at_ E x) w := by
  intro x W h0 h1 hb
  obtain ⟨k, rfl⟩ : ∃ k : Nat, x = k := ⟨x.toNat, by omega⟩
  have hbW := hbx.below hb hbx.lt
  have c0 := hbW.cell 0
  simp only [List.getElem?_toArray, List.getElem?_cons_zero] at c0
  obtain ⟨ao, cap, rfl, hm, hc⟩ := hE.below hb
  obtain ⟨a, rfl, hab, hca⟩ := hc k (by omega)
  have hat : at_ E (k : Int) = E.getD k false := rfl
  have hk0 : (0 : Int) ≤ (k : Int) := by omega
  dsimp only
  rw [hat]
  clear hc hE hbx hbW
  generalize E.getD k false = b at *
  go_enter Try.func80, Try.ntmps80
  go_wp2
  go_ret
  exact ⟨rfl, Below.refl _ _⟩
end Go.Proofs.Ytljkobijoenabaa.dv
namespace Go.Proofs.Ytljkobijoenabaa.dv
open Go.ChangeShapes Go.WideShapes Go.ChangeAt Go.RowKit Go.Maps Go.WideMaps Go.WideElems
set_option linter.unusedVariables false
set_option linter.unusedSimpArgs false
/-! left: who begins with whom, as it is reckoned -/
attribute [local go_sem] run_store_fl
theorem info_bools : (Try.prog.info? 55).map (fun i => (i.zero, i.size, i.bytes)) = some (some (.slice none 0 0), 1, 24) := by kernel_rfl
def falses (n : Nat) : List Bool := List.replicate n false
/-- k rows are made -/
structure MadeAt (w : World) (B m n k : Nat) (bs : List Nat) : Prop where
  bl : bs.length = k
  nod : bs.Nodup
  out : w.ownsRow B 55 1 (slB n m) n (bs.map (slB n) ++ List.replicate (n - k) (.slice none 0 0))
  inn : ∀ b ∈ bs, w.ownsRow B 4 1 (slB n b) n (BV (falses n)) ∧ b < w.heap.size
theorem MadeAt.full {w : World} {B m n : Nat} {bs : List Nat} (h : MadeAt w B m n n bs) : MatAt w B m n bs (List.replicate n (falses n)) := by
  have hget : ∀ i, i < n → (List.replicate n (falses n)).getD i [] = falses n := fun i hi => by
    rw [List.getD_eq_getElem?_getD, List.getElem?_replicate, if_pos hi]; rfl
  refine ⟨h.bl, by simp, fun i hi => by rw [hget i hi]; simp [falses], h.nod, by simpa using h.out, fun i hi => ?_⟩
  rw [hget i hi, bs_get (by rw [h.bl]; exact hi)]
  exact (h.inn _ (List.getElem_mem _)).1
theorem made_set (bs : List Nat) (n k b : Nat) (hk : k < n) (hl : bs.length = k) : (bs.map (slB n) ++ List.replicate (n - k) (Value.slice none 0 0)).set k (slB n b) = (bs ++ [b]).map (slB n) ++ List.replicate (n - (k + 1)) (.slice none 0 0) := by
  have e : n - k = (n - (k + 1)) + 1 := by omega
  rw [e, List.replicate_succ, List.set_append_right _ _ (by simp [hl])]
  simp [hl]
theorem made_none (w : World) (B m n : Nat) (h : w.ownsRow B 55 1 (slB n m) n (List.replicate n (.slice none 0 0))) : MadeAt w B m n 0 [] := ⟨rfl, List.nodup_nil, by simpa using h, fun b hb => by cases hb⟩
theorem MadeAt.cell {w : World} {B m n k : Nat} {bs : List Nat} (h : MadeAt w B m n k bs) (hk : k < n) : w.frozen? ⟨m, k, none⟩ = false ∧ ∃ u, w.cell? ⟨m, k, none⟩ = some u := by
  have ho : w.ownsRow B 55 1 (.slice (some ⟨m, 0, none⟩) n n) n _ := h.out
  refine ⟨ho.frozenAt k, ?_⟩
  have := ho.cellAt k (by omega)
  rw [this]
  exact ⟨_, List.getElem?_eq_getElem (by have := ho.1; omega)⟩
theorem MadeAt.step {w w2 : World} {B m n k : Nat} {bs : List Nat} (h : MadeAt w B m n k bs) (hk : k < n) (hg : w.grownBy w2 none) (ho : w2.ownsRow B 4 1 (slB n w.heap.size) n (BV (falses n))) : MadeAt (w2.setCell ⟨m, k, none⟩ (slB n w.heap.size)) B m n (k + 1) (bs ++ [w.heap.size]) := by
  have ho2 : w2.ownsRow B 55 1 (.slice (some ⟨m, 0, none⟩) n n) n (bs.map (slB n) ++ List.replicate (n - k) (.slice none 0 0)) := own_of_block h.out hg (fun r e e2 => by cases e2)
  obtain ⟨s1, s2⟩ := ho2.stored k (slB n w.heap.size)
  rw [made_set bs n k _ hk h.bl] at s1
  have hlt : w.heap.size < w2.heap.size := (row_lt ho).1
  have hne : ∀ b, w2.ownsRow B 4 1 (slB n b) n (BV (falses n)) → m ≠ b := fun b hb e => by
    rcases row_apart hb ho2 (by decide) with e4 | e4
    · simp [slB, Value.ownBlock] at e4
    · exact e4 (by show some b = some m; rw [e])
  have hkeep : ∀ b, w2.ownsRow B 4 1 (slB n b) n (BV (falses n)) → (w2.setCell ⟨m, k, none⟩ (slB n w.heap.size)).ownsRow B 4 1 (slB n b) n (BV (falses n)) := fun b hb => own_of_block hb s2 (fun r e e2 => by
    obtain rfl : b = r := by simpa [slB, Value.ownBlock] using e
    exact hne b hb (Option.some.inj e2))
  refine ⟨by simp [h.bl], ?_, s1, fun b hb => ?_⟩
  · rw [List.nodup_append]
    refine ⟨h.nod, by simp, fun a ha b hb e => ?_⟩
    rw [List.mem_singleton.1 hb] at e
    have := (h.inn a ha).2
    omega
  · have hsz : (w2.setCell ⟨m, k, none⟩ (slB n w.heap.size)).heap.size = w2.heap.size := by simp
    rw [hsz]
    rcases List.mem_append.1 hb with hb | hb
    · obtain ⟨h1, h2⟩ := h.inn b hb
      have h3 : w2.ownsRow B 4 1 (slB n b) n (BV (falses n)) := own_of_block h1 hg (fun r e e2 => by cases e2)
      exact ⟨hkeep b h3, by have := hg.size; omega⟩
    · rw [List.mem_singleton.1 hb]
      exact ⟨hkeep _ ho, hlt⟩
def mset (M : List (List Bool)) (v u : Nat) : List (List Bool) := M.set v ((M.getD v []).set u true)
def addL (M : List (List Bool)) (v : Nat) (L : List Int) : List (List Bool) := L.foldl (fun M s => mset M v s.toNat) M
def begR (vl : Nat) (p : Int → Bool) (R : List Rl) (M : List (List Bool)) : List (List Bool) := R.foldl (fun M r => addL M r.left.toNat (leadF vl p r.right)) M
def wrow (n : Nat) (M : List (List Bool)) (k i : Nat) : List (List Bool) := if (M.getD i []).getD k false then M.set i (orK (M.getD i []) (M.getD k []) n) else M
def wby (n : Nat) (M : List (List Bool)) (k : Nat) : List (List Bool) := (List.range n).foldl (fun M i => wrow n M k i) M
def wall (n : Nat) (M : List (List Bool)) : List (List Bool) := (List.range n).foldl (wby n) M
/-- who begins with whom -/
def begM (vl : Nat) (R : List Rl) : List (List Bool) := wall vl (begR vl (fun x => at_ (roundsB R true vl (List.replicate vl false)) x) R (List.replicate vl (falses vl)))
theorem fold_range {β : Type} (f : β → Nat → β) (b : β) (k : Nat) : (List.range (k + 1)).foldl f b = f ((List.range k).foldl f b) k := by rw [List.range_succ, List.foldl_append]; rfl
theorem foldl_snoc {α β : Type} (f : β → α → β) (b : β) (l : List α) (k : Nat) (h : k < l.length) : (l.take (k + 1)).foldl f b = f ((l.take k).foldl f b) l[k] := by
  rw [List.take_succ_eq_append_getElem h, List.foldl_append]
  rfl
/-- what the loops keep -/
structure BegSt (B : Nat) (w : World) (gc : Array Value) (m n : Nat) (bs : List Nat) (bx me : Nat) (ev : Value) (E : List Bool) (M : List (List Bool)) (W : World) : Prop where
  mat : MatAt W B m n bs M
  below : Below B w W
  gram : Blk W B 25 gc
  box : Blk W bx 55 #[ev]
  emp : MarksAt W B me ev E
theorem BegSt.alloc {B : Nat} {w : World} {gc : Array Value} {m n : Nat} {bs : List Nat} {bx me : Nat} {ev : Value} {E : List Bool} {M : List (List Bool)} {W : World} (h : BegSt B w gc m n bs bx me ev E M W) (o : Obj) : BegSt B w gc m n bs bx me ev E M (W.alloc o) :=
  ⟨h.mat.alloc o, h.below.alloc (Nat.le_of_lt h.gram.lt) o, h.gram.alloc o, h.box.alloc o, marks_alloc h.emp o⟩
theorem BegSt.far {B : Nat} {w : World} {gc : Array Value} {m n : Nat} {bs : List Nat} {bx me : Nat} {ev : Value} {E : List Bool} {M : List (List Bool)} {W W' : World} (h : BegSt B w gc m n bs bx me ev E M W) (hb : Below W.heap.size W W') : BegSt B w gc m n bs bx me ev E M W' :=
  ⟨h.mat.below hb, h.below.trans (hb.mono (Nat.le_of_lt h.gram.lt)), h.gram.below hb h.gram.lt, h.box.below hb h.box.lt, marks_below h.emp hb⟩
theorem BegSt.row {B : Nat} {w : World} {gc : Array Value} {m n : Nat} {bs : List Nat} {bx me : Nat} {ev : Value} {E : List Bool} {M : List (List Bool)} {W W' : World} (h : BegSt B w gc m n bs bx me ev E M W) (hme : ∀ b ∈ bs, b ≠ me) (i : Nat) (hi : i < n) (X : List Bool) (hX : X.length = n) (ho : W'.ownsRow B 4 1 (slB n (bs.getD i 0)) n (BV X)) (hg : W.grownBy W' (some (bs.getD i 0))) : BegSt B w gc m n bs bx me ev E (M.set i X) W' := by
  have hro := h.mat.inn i hi
  have hob : (slB n (bs.getD i 0)).ownBlock = some (bs.getD i 0) := rfl
  have hg' : W.grownBy W' (slB n (bs.getD i 0)).ownBlock := hg
  have hib : i < bs.length := by rw [h.mat.bl]; exact hi
  refine ⟨h.mat.row i hi X hX ho hg, h.below.grown hg (Nat.le_of_lt h.gram.lt) (fun k e => ?_), h.gram.grown hg' (h.gram.not_row (by decide) hro), h.box.grown hg' (h.box.not_row (by decide) hro), marks_far h.emp hg (fun e => ?_)⟩
  · cases e
    exact (row_cells hro _ hob).1
  · exact hme _ (by rw [bs_get hib]; exact List.getElem_mem _) e.symm
theorem BegSt.set {B : Nat} {w : World} {gc : Array Value} {m n : Nat} {bs : List Nat} {bx me : Nat} {ev : Value} {E : List Bool} {M : List (List Bool)} {W : World} (h : BegSt B w gc m n bs bx me ev E M W) (hme : ∀ b ∈ bs, b ≠ me) (i j : Nat) (hi : i < n) (hj : j < n) : BegSt B w gc m n bs bx me ev E (mset M i j) (W.setCell ⟨bs.getD i 0, j, none⟩ (.bool true)) := by
  obtain ⟨o1, o2⟩ := World.ownsRow.stored (show W.ownsRow B 4 1 (.slice (some ⟨bs.getD i 0, 0, none⟩) n n) n (BV (M.getD i [])) from h.mat.inn i hi) j (.bool true)
  rw [bv_set] at o1
  exact h.row hme i hi _ (by simpa using h.mat.rl i hi) o1 o2
set_option maxRecDepth 100000 in
set_option maxHeartbeats 4000000 in
theorem begins_any (w : World) (B : Nat) (ta va : Option Addr) (tl tc vl vc : Nat) (rv : Value) (R : List Rl) (hR : RulesAt B w rv R) (hB : B ≤ w.heap.size) (hl : ∀ r ∈ R, 0 ≤ r.left ∧ r.left < vl) (hv : vl ≤ 1000) :
    Calls Try.prog 60 #[.agg #[.slice ta tl tc, .slice va vl vc, rv]] w fun e w' => ∃ m bs, e = .returned (slB vl m) ∧ MatAt w' w.heap.size m vl bs (begM vl R) ∧ Below w.heap.size w w' := by
  obtain ⟨i0, hi, hz0, hz1, hz2⟩ := info_parts info_bools
  obtain ⟨j0, hj, hy0, hy1, hy2⟩ := info_parts info_bool
  obtain ⟨ra, rc, rfl, hn, _⟩ := id hR
  have b0 := Blk.new w 25 #[.slice ta tl tc, .slice va vl vc, .slice ra R.length rc]
  have hbl : Below w.heap.size w (w.alloc (.cells #[.slice ta tl tc, .slice va vl vc, .slice ra R.length rc] 25)) := (Below.refl _ w).alloc (Nat.le_refl _) _
  have hR63 : R.length ≤ 9223372036854775807 := by unfold maxLen at hn; omega
  have HR := Lib.hid hR
  have HL := Lib.hid hl
  generalize hW0 : w.alloc (.cells #[.slice ta tl tc, .slice va vl vc, .slice ra R.length rc] 25) = w0 at *
  have hz : w0.heap.size = w.heap.size + 1 := by rw [← hW0]; simp
  have HB0 := Lib.hid b0
  have HBL := Lib.hid hbl
  have HZ := Lib.hid hz
  have c0 := b0.cell 0
  have c1 := b0.cell 1
  have c2 := b0.cell 2
  simp only [List.getElem?_toArray, List.getElem?_cons_zero, List.getElem?_cons_succ] at c0 c1 c2
  clear hR hl b0 hbl
  go_enter Try.func60, Try.ntmps60
  go_wp2_with (at_make; refine wpList_make_full _ rfl _ _ 53 rfl w.heap.size 55 i0 (.slice none 0 0) 1 Try.underlying53 hi hz0 hz1 .i64 .i64 _ _ vl rfl rfl rfl rfl (by rw [hz2]; omega) (by unfold maxLen; omega) (by omega) ?_; intro w1 hown1 hgrow1)
  rw [show (Value.slice none 0 0).cells = #[.slice none 0 0] from rfl, toList_madeCells_one, Nat.mul_one, hz] at hown1
  have hm0 := made_none w1 w.heap.size (w.heap.size + 1) vl hown1
  have hB1 : Below w0.heap.size w0 w1 := (Below.refl _ _).grown hgrow1 (Nat.le_refl _) (fun k e => by cases e)
  have HM0 := Lib.hid hm0
  have HB1 := Lib.hid hB1
  clear hm0 hown1 hgrow1 hB1 c0 c1 c2
  go_loopw [19] (fun q wr => ∃ (k : Nat) (bs : List Nat), k ≤ vl ∧ q = .int .i64 k ∧ MadeAt wr w.heap.size (w.heap.size + 1) vl k bs ∧ Below w0.heap.size w0 wr) (fun q _ => vl - (intOf q).toNat)
  case atStart => exact ⟨0, [], Nat.zero_le _, rfl, HM0.out, HB1.out⟩
  case round =>
    obtain ⟨k, bs, hk, rfl, hmd, hbr⟩ := hrel
    have HMD := Lib.hid hmd
    have HBR := Lib.hid hbr
    have bg := HB0.out.below hbr (by omega)
    have HBG := Lib.hid bg
    have hsz := hbr.size
    rw [HZ.out] at hsz
    have g0 := bg.cell 0
    have g1 := bg.cell 1
    have g2 := bg.cell 2
    simp only [List.getElem?_toArray, List.getElem?_cons_zero, List.getElem?_cons_succ] at g0 g1 g2
    clear hmd hbr bg
    by_cases hlt : k < vl
    · have hk0 : (0 : Int) ≤ (k : Int) := by omega
      have hk1 : (k : Int) < (vl : Int) := by omega
      clear HM0 HB1
      go_wp2_with (at_make; refine wpList_make_full _ rfl _ _ 55 rfl w.heap.size 4 j0 (.bool false) 1 Try.underlying55 hj hy0 hy1 .i64 .i64 _ _ vl rfl rfl rfl rfl (by rw [hy2]; omega) (by unfold maxLen; omega) (by omega) ?_; intro w2 hown2 hgrow2; obtain ⟨f0, u, q0⟩ := (show w2.frozen? ⟨w.heap.size + 1, k, none⟩ = false ∧ ∃ u, w2.cell? ⟨w.heap.size + 1, k, none⟩ = some u from by (obtain ⟨f0, u, q0⟩ := HMD.out.cell hlt; have hb2 : Below wr.heap.size wr w2 := (Below.refl _ _).grown hgrow2 (Nat.le_refl _) (fun k e => by cases e); exact ⟨(hb2.frozen (p := ⟨w.heap.size + 1, k, none⟩) (by show w.heap.size + 1 < wr.heap.size; have := (row_lt (show wr.ownsRow _ _ _ (.slice (some ⟨w.heap.size + 1, 0, none⟩) vl vl) vl _ from HMD.out.out)).1; omega)).trans f0, u, (hb2.cell (p := ⟨w.heap.size + 1, k, none⟩) (by show w.heap.size + 1 < wr.heap.size; have := (row_lt (show wr.ownsRow _ _ _ (.slice (some ⟨w.heap.size + 1, 0, none⟩) vl vl) vl _ from HMD.out.out)).1; omega)).trans q0⟩)))
      rw [show (Value.bool false).cells = #[.bool false] from rfl, toList_madeCells_one, Nat.mul_one, ← bv_rep] at hown2
      have hst := HMD.out.step hlt hgrow2 hown2
      have HST := Lib.hid hst
      have HB2 : Hid (Below w0.heap.size w0 (w2.setCell ⟨w.heap.size + 1, k, none⟩ (slB vl wr.heap.size))) := Lib.hid ((HBR.out.grown hgrow2 HBR.out.size (fun k e => by cases e)).setCell (p := ⟨w.heap.size + 1, k, none⟩) (by rw [HZ.out]; exact Nat.le_refl _) _)
      clear hst hown2 hgrow2
      go_wp2
      exact ⟨⟨k + 1, bs ++ [wr.heap.size], hlt, congrArg (Value.int .i64) (by omega), HST.out, HB2.out⟩, by simp only [intOf]; omega⟩
    · obtain rfl : vl = k := by omega
      have hmat := HMD.out.full
      have hblo : ∀ b ∈ bs, b < wr.heap.size := fun b hb => (HMD.out.inn b hb).2
      have HBLO := Lib.hid hblo
      have hnul := nullable_any wr B ta va tl tc vl vc (.slice ra R.length rc) R (HR.out.far ((HBL.out.trans (HBR.out.mono (by have := HZ.out; omega))).mono hB)) (by omega) HL.out hv
      obtain ⟨E, hEe⟩ : ∃ E, E = roundsB R true vl (List.replicate vl false) := ⟨_, rfl⟩
      rw [← hEe] at hnul
      have hEl : E.length = vl := by rw [hEe, rounds_len]; simp
      have HEL := Lib.hid hEl
      have HEE := Lib.hid hEe
      have HMAT := Lib.hid hmat
      clear HM0 HB1 HMD hmat hblo hEl hEe
      go_wp2_with (go_at_call 78; refine hnul.mono ?_; rintro e w3 ⟨ev, rfl, hE, hb3⟩; have bg3 := HBG.out.below hb3 HBG.out.lt; have y0 := bg3.cell 0; have y1 := bg3.cell 1; have y2 := bg3.cell 2; simp only [List.getElem?_toArray, List.getElem?_cons_zero, List.getElem?_cons_succ] at y0 y1 y2; have y2' : ∀ o, (w3.alloc o).cell? ⟨w.heap.size, 2, none⟩ = some (.slice ra R.length rc) := fun o => (bg3.alloc o).cell 2; have HE := Lib.hid hE; obtain ⟨⟨ec, rfl⟩, _⟩ := hE; have HB3 := Lib.hid hb3; clear hb3 bg3)
      obtain ⟨wo, rfl⟩ : ∃ wo : World, wo = wr := ⟨_, rfl⟩
      have hst0 : BegSt w.heap.size w #[.slice ta tl tc, .slice va vl vc, .slice ra R.length rc] (w.heap.size + 1) vl bs w3.heap.size (wo.heap.size + 1) (.slice (some ⟨wo.heap.size + 1, 0, none⟩) E.length ec) E (List.replicate vl (falses vl)) (w3.alloc (.cells #[.slice (some ⟨wo.heap.size + 1, 0, none⟩) E.length ec] 55)) :=
        ⟨(HMAT.out.below HB3.out).alloc _, (HBL.out.trans ((HBR.out.mono (by have := HZ.out; omega)).trans (HB3.out.mono (by omega)))).alloc (by have := HB3.out.size; omega) _, (HBG.out.below HB3.out HBG.out.lt).alloc _, Blk.new w3 55 _, marks_alloc (marks_weak HE.out (by omega)) _⟩
      have hme : ∀ b ∈ bs, b ≠ wo.heap.size + 1 := fun b hb => by have := HBLO.out b hb; omega
      have HME := Lib.hid hme
      have HST0 := Lib.hid hst0
      clear hst0 hme hnul g0 g1 g2 y0 y1 y2 y2'
      go_loopw [35] (fun q W => ∃ i : Nat, i ≤ R.length ∧ q = .int .i64 i ∧ BegSt w.heap.size w #[.slice ta tl tc, .slice va vl vc, .slice ra R.length rc] (w.heap.size + 1) vl bs w3.heap.size (wo.heap.size + 1) (.slice (some ⟨wo.heap.size + 1, 0, none⟩) E.length ec) E (begR vl (fun x => at_ E x) (R.take i) (List.replicate vl (falses vl))) W) (fun q _ => R.length - (intOf q).toNat)
      case atStart => exact ⟨0, Nat.zero_le _, rfl, HST0.out⟩
      case round =>
        obtain ⟨W, rfl⟩ : ∃ W : World, W = wr := ⟨_, rfl⟩
        obtain ⟨i, hik, rfl, hst⟩ := hrel
        have hbw := hst.below.mono hB
        have HST := Lib.hid hst
        have HBW := Lib.hid hst.below
        have z0 := hst.gram.cell 0
        have z1 := hst.gram.cell 1
        have z2 := hst.gram.cell 2
        simp only [List.getElem?_toArray, List.getElem?_cons_zero, List.getElem?_cons_succ] at z0 z1 z2
        clear hst
        by_cases hlt : i < R.length
        · obtain ⟨r, hrk⟩ : ∃ r, R[i]? = some r := ⟨_, List.getElem?_eq_getElem hlt⟩
          obtain ⟨hl0, hl1⟩ := HL.out r (List.mem_of_getElem? hrk)
          obtain ⟨ra', rc', er, _, hr2⟩ := HR.out.far hbw
          cases er
          obtain ⟨a2, rfl, hab2, ao2, c2, h1, h2, h3, h4, h5, h6, h7, h8⟩ := hr2 i r hrk
          rw [addf a2 (i * 3) 1 (by decide)] at h2
          rw [addf a2 (i * 3) 2 (by decide)] at h3
          obtain ⟨lf, F, wt⟩ := r
          dsimp only at hl0 hl1 h1 h2 h3 h4 h5 h6 h7 h8
          obtain ⟨lv, rfl⟩ : ∃ lv : Nat, lf = lv := ⟨lf.toNat, by omega⟩
          have hrow : RowAt W (.slice ao2 F.length c2) F := ⟨ao2, c2, rfl, h4, h5, h6, h8.1, fun j hj => by
            obtain ⟨a3, e3, hab3, hca⟩ := h7 j hj
            exact ⟨a3, e3, Nat.lt_of_lt_of_le hab3 (by have := HBW.out.size; omega), hca⟩⟩
          have hF63 : F.length ≤ 9223372036854775807 := by unfold maxLen at h5; omega
          have HROW := Lib.hid hrow
          have HFU : Hid (∀ U : World, Below w.heap.size w U → ∀ j, j < F.length → ∃ a : Addr, ao2 = some a ∧ U.cell? (a.add j) = some (.int .i64 (F.getD j 0))) := Lib.hid (fun U hU j hj => by
            obtain ⟨a3, e3, hab3, hca⟩ := h7 j hj
            have hb3 : (a3.add j).block < w.heap.size := by rw [add_block]; omega
            exact ⟨a3, e3, (hU.cell hb3).trans ((HBW.out.cell hb3).symm.trans hca)⟩)
          have hva := fun U => lisVarOf_any U ta va (some a2) tl tc vl vc R.length rc (lv : Int)
          rw [decide_eq_true hl0, decide_eq_true hl1] at hva
          have HVA := Lib.hid hva
          have HRK := Lib.hid hrk
          have hl2 : lv < vl := by omega
          have hi0 : (0 : Int) ≤ (i : Int) := by omega
          have hi1 : (i : Int) < (R.length : Int) := by omega
          have hs1 := HST.out.alloc (.cells #[.int .i64 lv, .slice ao2 F.length c2, .float .f64 wt] 52)
          have bR := Blk.new W 52 #[.int .i64 lv, .slice ao2 F.length c2, .float .f64 wt]
          have HS1 := Lib.hid hs1
          have HBR2 := Lib.hid bR
          have pa0 : ∀ o, (W.alloc o).cell? ⟨w.heap.size, 0, none⟩ = some (.slice ta tl tc) := fun o => (HST.out.gram.alloc o).cell 0
          have pa1 : ∀ o, (W.alloc o).cell? ⟨w.heap.size, 1, none⟩ = some (.slice va vl vc) := fun o => (HST.out.gram.alloc o).cell 1
          have pa2 : ∀ o, (W.alloc o).cell? ⟨w.heap.size, 2, none⟩ = some (.slice (some a2) R.length rc) := fun o => (HST.out.gram.alloc o).cell 2
          have q0 := bR.cell 0
          have q1 := bR.cell 1
          simp only [List.getElem?_toArray, List.getElem?_cons_zero, List.getElem?_cons_succ] at q0 q1
          clear hr2 h4 h5 h6 h7 h8 hrow hva hrk hs1 bR hbw HST0 z0 z1 z2
          go_wp2_with fail
          refine (HVA.out _).mono ?_
          rintro e w5 ⟨rfl, o5, rfl⟩
          have e2 : (true && true) = true := rfl
          rw [e2]
          have hs2 := HS1.out.alloc o5
          have bR2 := HBR2.out.alloc o5
          have hb2 : Below W.heap.size W ((W.alloc (.cells #[.int .i64 lv, .slice ao2 F.length c2, .float .f64 wt] 52)).alloc o5) := ((Below.refl _ W).alloc (Nat.le_refl _) _).alloc (by simp) _
          generalize hWW : ((W.alloc (.cells #[.int .i64 lv, .slice ao2 F.length c2, .float .f64 wt] 52)).alloc o5) = W2 at *
          have hld := leads_any W2 ta va (some a2) tl tc vl vc R.length rc (.slice ao2 F.length c2) F 80 #[.pointer (some ⟨w3.heap.size, 0, none⟩)] (fun x => at_ E x) goes_begins1 (by have := begins1_any W2 w3.heap.size _ E hs2.box hs2.emp.read; rwa [HEL.out] at this) (HROW.out.below hb2)
          have z0 := hs2.gram.cell 0
          have z1 := hs2.gram.cell 1
          have z2 := hs2.gram.cell 2
          have r0 := bR2.cell 0
          have r1 := bR2.cell 1
          simp only [List.getElem?_toArray, List.getElem?_cons_zero, List.getElem?_cons_succ] at z0 z1 z2 r0 r1
          have HS2 := Lib.hid hs2
          have HBR3 := Lib.hid bR2
          have HLD := Lib.hid hld
          have HROW2 := Lib.hid (HROW.out.below hb2)
          clear hs2 bR2 hb2 hWW hld q0 q1 pa0 pa1 pa2 h1 h2 h3
          go_wp2_with fail
          refine HLD.out.mono ?_
          rintro e w6 ⟨⟨ao', cp', ev', rfl⟩, hb6⟩
          cases ev'
          have hs6 := HS2.out.far hb6
          have bR6 := HBR3.out.below hb6 HBR3.out.lt
          have HS6 := Lib.hid hs6
          have HBR6 := Lib.hid bR6
          have hL1 := leadF_le vl (fun x => at_ E x) F
          have HLV := Lib.hid (leadF_var vl (fun x => at_ E x) F)
          have HLT := Lib.hid (leadF_take vl (fun x => at_ E x) F)
          obtain ⟨L, hLe⟩ : ∃ L, L = leadF vl (fun x => at_ E x) F := ⟨_, rfl⟩
          rw [← hLe] at HLV HLT hL1
          have HLE := Lib.hid hLe
          have HL1 := Lib.hid hL1
          have hL63 : L.length ≤ 9223372036854775807 := by omega
          clear hs6 bR6 hb6 HLD hL1 z0 z1 z2 r0 r1
          rw [← hLe]
          clear hLe
          go_wp2
          go_loopw [50] (fun q U => ∃ j : Nat, j ≤ L.length ∧ q = .int .i64 j ∧ BegSt w.heap.size w #[.slice ta tl tc, .slice va vl vc, .slice (some a2) R.length rc] (w.heap.size + 1) vl bs w3.heap.size (wo.heap.size + 1) (.slice (some ⟨wo.heap.size + 1, 0, none⟩) E.length ec) E (addL (begR vl (fun x => at_ E x) (R.take i) (List.replicate vl (falses vl))) lv (L.take j)) U ∧ Blk U W.heap.size 52 #[.int .i64 lv, .slice ao2 F.length c2, .float .f64 wt]) (fun q _ => L.length - (intOf q).toNat)
          case atStart => exact ⟨0, Nat.zero_le _, rfl, HS6.out, HBR6.out⟩
          case round =>
            obtain ⟨U, rfl⟩ : ∃ U : World, U = wr := ⟨_, rfl⟩
            obtain ⟨j, hjk, rfl, hst2, hbR2⟩ := hrel
            have HST2 := Lib.hid hst2
            have HBRU := Lib.hid hbR2
            have hbu := hst2.below
            have r0 := hbR2.cell 0
            simp only [List.getElem?_toArray, List.getElem?_cons_zero] at r0
            clear hst2 hbR2
            by_cases hlt2 : j < L.length
            · have hjF : j < F.length := by have := HL1.out; omega
              obtain ⟨a, rfl, hca⟩ := HFU.out U hbu j hjF
              obtain ⟨hs0, hs1⟩ := HLV.out L[j] (List.getElem_mem _)
              have hLF : F.getD j 0 = L[j] := by
                have e1 : L[j]? = F[j]? := by
                  have h := congrArg (fun l : List Int => l[j]?) HLT.out
                  simp only [List.getElem?_take, if_pos hlt2] at h
                  exact h
                rw [List.getElem?_eq_getElem hlt2] at e1
                rw [List.getD_eq_getElem?_getD, ← e1]
                rfl
              rw [hLF] at hca
              obtain ⟨sv, hsv⟩ : ∃ sv : Nat, L[j] = sv := ⟨L[j].toNat, by omega⟩
              have hsn : sv < vl := by omega
              have hmo : addL (begR vl (fun x => at_ E x) (R.take i) (List.replicate vl (falses vl))) lv (L.take (j + 1)) = mset (addL (begR vl (fun x => at_ E x) (R.take i) (List.replicate vl (falses vl))) lv (L.take j)) lv sv := by
                show (L.take (j + 1)).foldl _ _ = _
                rw [foldl_snoc _ _ L j hlt2, hsv]
                rfl
              have HMO := Lib.hid hmo
              rw [hsv] at hca
              have q0 := HST2.out.mat.cell lv hl2
              have q1 := HST2.out.mat.mark lv sv hl2 hsn
              have q2 := World.ownsRow.frozenAt (show U.ownsRow _ _ 1 (.slice (some ⟨bs.getD lv 0, 0, none⟩) vl vl) vl _ from HST2.out.mat.inn lv hl2) sv
              have hst3 := HST2.out.set HME.out lv sv hl2 hsn
              have HST3 := Lib.hid hst3
              unfold slB at q0
              have hbx := HST.out.box.lt
              have hb3 := HB3.out.size
              have hbl := HBLO.out (bs.getD lv 0) (by rw [bs_get (by rw [HST2.out.mat.bl]; exact hl2)]; exact List.getElem_mem _)
              have hne : W.heap.size ≠ bs.getD lv 0 := by omega
              have HBR4 := Lib.hid (HBRU.out.far (p := ⟨bs.getD lv 0, sv, none⟩) hne (.bool true))
              have hl4 : (0 : Int) ≤ (lv : Int) := by omega
              have hl5 : (lv : Int) < (vl : Int) := by omega
              have hs4 : (0 : Int) ≤ (sv : Int) := by omega
              have hs5 : (sv : Int) < (vl : Int) := by omega
              clear hLF hsv hmo hst3 hbl hne hbx hb3 hs0 hs1
              generalize bs.getD lv 0 = bb at *
              go_wp2
              exact ⟨⟨j + 1, hlt2, congrArg (Value.int .i64) (by omega), by rw [HMO.out]; exact HST3.out, HBR4.out⟩, by simp only [intOf]; omega⟩
            · obtain rfl : j = L.length := by omega
              have hmo : begR vl (fun x => at_ E x) (R.take (i + 1)) (List.replicate vl (falses vl)) = addL (begR vl (fun x => at_ E x) (R.take i) (List.replicate vl (falses vl))) lv (L.take L.length) := by
                show (R.take (i + 1)).foldl _ _ = _
                obtain ⟨hil, hre⟩ := List.getElem?_eq_some_iff.1 HRK.out
                rw [foldl_snoc _ _ R i hil, hre, List.take_length, HLE.out]
                rfl
              have HMO := Lib.hid hmo
              clear hmo
              go_wp2
              exact ⟨⟨i + 1, hlt, congrArg (Value.int .i64) (by omega), by rw [HMO.out]; exact HST2.out⟩, by simp only [intOf]; omega⟩
        · obtain rfl : i = R.length := by omega
          obtain ⟨M0, hM0⟩ : ∃ M0, M0 = begR vl (fun x => at_ E x) (R.take R.length) (List.replicate vl (falses vl)) := ⟨_, rfl⟩
          have hst := HST.out
          rw [← hM0] at hst
          have HSTM := Lib.hid hst
          have HM0 := Lib.hid hM0
          clear hst hM0 HST0 HST z0 z1 z2
          go_wp2
          go_loopw [65] (fun q U => ∃ k : Nat, k ≤ vl ∧ q = .int .i64 k ∧ BegSt w.heap.size w #[.slice ta tl tc, .slice va vl vc, .slice ra R.length rc] (w.heap.size + 1) vl bs w3.heap.size (wo.heap.size + 1) (.slice (some ⟨wo.heap.size + 1, 0, none⟩) E.length ec) E ((List.range k).foldl (wby vl) M0) U) (fun q _ => vl - (intOf q).toNat)
          case atStart => exact ⟨0, Nat.zero_le _, rfl, HSTM.out⟩
          case round =>
            obtain ⟨U, rfl⟩ : ∃ U : World, U = wr := ⟨_, rfl⟩
            obtain ⟨k, hkk, rfl, hst2⟩ := hrel
            have HST2 := Lib.hid hst2
            clear hst2
            by_cases hlt : k < vl
            · have hk4 : (0 : Int) ≤ (k : Int) := by omega
              have hk5 : (k : Int) < (vl : Int) := by omega
              obtain ⟨M1, hM1⟩ : ∃ M1, M1 = (List.range k).foldl (wby vl) M0 := ⟨_, rfl⟩
              have hst := HST2.out
              rw [← hM1] at hst
              have HST3 := Lib.hid hst
              have HM1 := Lib.hid hM1
              clear hst hM1 HSTM
              go_wp2
              go_loopw [70] (fun q X => ∃ i : Nat, i ≤ vl ∧ q = .int .i64 i ∧ BegSt w.heap.size w #[.slice ta tl tc, .slice va vl vc, .slice ra R.length rc] (w.heap.size + 1) vl bs w3.heap.size (wo.heap.size + 1) (.slice (some ⟨wo.heap.size + 1, 0, none⟩) E.length ec) E ((List.range i).foldl (fun M i => wrow vl M k i) M1) X) (fun q _ => vl - (intOf q).toNat)
              case atStart => exact ⟨0, Nat.zero_le _, rfl, HST3.out⟩
              case round =>
                obtain ⟨X, rfl⟩ : ∃ X : World, X = wr := ⟨_, rfl⟩
                obtain ⟨i, hik2, rfl, hst4⟩ := hrel
                by_cases hlti : i < vl
                · have hi4 : (0 : Int) ≤ (i : Int) := by omega
                  have hi5 : (i : Int) < (vl : Int) := by omega
                  have hfr := fold_range (fun M i => wrow vl M k i) M1 i
                  obtain ⟨M2, hM2⟩ : ∃ M2, M2 = (List.range i).foldl (fun M i => wrow vl M k i) M1 := ⟨_, rfl⟩
                  rw [← hM2] at hst4 hfr
                  have HFR := Lib.hid hfr
                  have HST4 := Lib.hid hst4
                  have q0 := hst4.mat.cell i hlti
                  have q1 := hst4.mat.mark i k hlti hlt
                  have q2 := hst4.mat.cell k hlt
                  unfold slB at q0 q2
                  have hmk := hst4.mat.marks i hlti
                  have hlm := lmark_any X w.heap.size (bs.getD i 0) vl vl (slB vl (bs.getD i 0)) ⟨bs.getD k 0, 0, none⟩ (M2.getD i []) (M2.getD k []) (hst4.mat.rl i hlti) hv hmk (fun j Y hj hY hg => by
                    rw [zero_add_addr]
                    by_cases e : k = i
                    · subst e
                      obtain ⟨⟨cc, ec2⟩, ho⟩ := hY
                      have hol : (orK (M2.getD k []) (M2.getD k []) j).length = vl := by rw [orK_len]; exact hst4.mat.rl k hlt
                      rw [hol] at ho ec2
                      rw [ec2] at ho
                      have := ho.cellAt j (by omega)
                      rw [this]
                      have hg2 := orK_get (M2.getD k []) (M2.getD k []) j j (by rw [hst4.mat.rl k hlt]; exact hj)
                      rw [if_neg (Nat.lt_irrefl _)] at hg2
                      rw [← hg2]
                      simp [BV, List.getD_eq_getElem?_getD]
                      rw [List.getElem?_eq_getElem (by rw [← List.getD_eq_getElem?_getD, hol]; exact hj)]
                      simp
                    · have hne : bs.getD k 0 ≠ bs.getD i 0 := nod_ne hst4.mat.nod (by rw [hst4.mat.bl]; exact hlt) (by rw [hst4.mat.bl]; exact hlti) e
                      have hb := hst4.mat.mark k j hlt hj
                      have hlt2 : bs.getD k 0 < X.heap.size := (row_lt (show X.ownsRow _ _ 1 (.slice (some ⟨bs.getD k 0, 0, none⟩) vl vl) vl _ from hst4.mat.inn k hlt)).1
                      exact (World.cell?_of_block (a := ⟨bs.getD k 0, j, none⟩) (hg.block _ hlt2 (fun e => hne (Option.some.inj e)))).trans hb)
                  unfold slB at hlm
                  obtain ⟨bi, hbi⟩ : ∃ b, b = bs.getD i 0 := ⟨_, rfl⟩
                  obtain ⟨bk, hbk⟩ : ∃ b, b = bs.getD k 0 := ⟨_, rfl⟩
                  rw [← hbi] at q0 q1 hlm
                  rw [← hbk] at q2 hlm
                  have HBI := Lib.hid hbi
                  clear hbi hbk
                  have HLM := Lib.hid hlm
                  clear hst4 hfr hM2 hmk hlm
                  cases hb : (M2.getD i []).getD k false
                  · rw [hb] at q1
                    have hw : wrow vl M2 k i = M2 := by unfold wrow; rw [hb]; rfl
                    have HW := Lib.hid hw
                    clear hw hb
                    go_wp2
                    exact ⟨⟨i + 1, hlti, congrArg (Value.int .i64) (by omega), by rw [HFR.out, HW.out]; exact HST4.out⟩, by simp only [intOf]; omega⟩
                  · rw [hb] at q1
                    have hw : wrow vl M2 k i = M2.set i (orK (M2.getD i []) (M2.getD k []) vl) := by unfold wrow; rw [hb]; rfl
                    have HW := Lib.hid hw
                    clear hw hb
                    go_wp2_with (go_at_call 81; refine HLM.out.mono ?_; rintro e w7 ⟨⟨u, rfl⟩, hm7, hg7⟩)
                    have hol : (orK (M2.getD i []) (M2.getD k []) vl).length = vl := by rw [orK_len]; exact HST4.out.mat.rl i hlti
                    rw [HBI.out] at hm7 hg7
                    have hro : w7.ownsRow w.heap.size 4 1 (slB vl (bs.getD i 0)) vl (BV (orK (M2.getD i []) (M2.getD k []) vl)) := by
                      have := hm7.2
                      rw [hol] at this
                      exact this
                    have hst7 := HST4.out.row HME.out i hlti _ hol hro hg7
                    exact ⟨⟨i + 1, hlti, congrArg (Value.int .i64) (by omega), by rw [HFR.out, HW.out]; exact hst7⟩, by simp only [intOf]; omega⟩
                · obtain rfl : vl = i := by omega
                  have HST4 := Lib.hid hst4
                  have hfr : (List.range (k + 1)).foldl (wby vl) M0 = (List.range vl).foldl (fun M i => wrow vl M k i) M1 := by
                    rw [fold_range, ← HM1.out]
                    rfl
                  have HFR := Lib.hid hfr
                  clear hst4 hfr
                  go_wp2
                  exact ⟨⟨k + 1, hlt, congrArg (Value.int .i64) (by omega), by rw [HFR.out]; exact HST4.out⟩, by simp only [intOf]; omega⟩
            · obtain rfl : vl = k := by omega
              have hM : (List.range vl).foldl (wby vl) M0 = begM vl R := by
                rw [HM0.out, List.take_length, HEE.out]
                rfl
              have hst := HST2.out
              rw [hM] at hst
              have HST3 := Lib.hid hst
              clear hst hM HSTM
              go_wp2
              go_ret
              exact ⟨w.heap.size + 1, bs, rfl, HST3.out.mat, HST3.out.below⟩
end Go.Proofs.Ytljkobijoenabaa.dv
namespace Go.Proofs.Ytljkobijoenabaa.dv
open Go.ChangeShapes Go.WideShapes Go.ChangeAt Go.RowKit Go.Maps Go.WideMaps Go.WideElems
set_option linter.unusedVariables false
set_option linter.unusedSimpArgs false
/-! left: who begins with itself -/
def recM (n : Nat) (M : List (List Bool)) : List Bool := (List.range n).map fun v => (M.getD v []).getD v false
/-- the first k are told -/
def recK (n : Nat) (M : List (List Bool)) (k : Nat) : List Bool := (List.range k).map (fun v => (M.getD v []).getD v false) ++ List.replicate (n - k) false
theorem recK_len (n : Nat) (M : List (List Bool)) (k : Nat) (h : k ≤ n) : (recK n M k).length = n := by simp [recK]; omega
theorem recK_zero (n : Nat) (M : List (List Bool)) : recK n M 0 = List.replicate n false := by simp [recK]
theorem recK_full (n : Nat) (M : List (List Bool)) : recK n M n = recM n M := by simp [recK, recM]
theorem recK_succ (n : Nat) (M : List (List Bool)) (k : Nat) (h : k < n) : recK n M (k + 1) = (recK n M k).set k ((M.getD k []).getD k false) := by
  have e : n - k = (n - (k + 1)) + 1 := by omega
  unfold recK
  rw [List.range_succ, List.map_append, e, List.replicate_succ, List.set_append_right _ _ (by simp)]
  simp
set_option maxRecDepth 100000 in
set_option maxHeartbeats 4000000 in
theorem recursive_any (w : World) (B : Nat) (ta va : Option Addr) (tl tc vl vc : Nat) (rv : Value) (R : List Rl) (hR : RulesAt B w rv R) (hB : B ≤ w.heap.size) (hl : ∀ r ∈ R, 0 ≤ r.left ∧ r.left < vl) (hv : vl ≤ 1000) :
    Calls Try.prog 30 #[.agg #[.slice ta tl tc, .slice va vl vc, rv]] w fun e w' => ∃ v m, e = .returned v ∧ MarksAt w' w.heap.size m v (recM vl (begM vl R)) ∧ Below w.heap.size w w' := by
  obtain ⟨j0, hj, hy0, hy1, hy2⟩ := info_parts info_bool
  obtain ⟨ra, rc, rfl, hn, _⟩ := id hR
  have b0 := Blk.new w 25 #[.slice ta tl tc, .slice va vl vc, .slice ra R.length rc]
  have hbl : Below w.heap.size w (w.alloc (.cells #[.slice ta tl tc, .slice va vl vc, .slice ra R.length rc] 25)) := (Below.refl _ w).alloc (Nat.le_refl _) _
  have HR := Lib.hid hR
  have HL := Lib.hid hl
  generalize hW0 : w.alloc (.cells #[.slice ta tl tc, .slice va vl vc, .slice ra R.length rc] 25) = w0 at *
  have hz : w0.heap.size = w.heap.size + 1 := by rw [← hW0]; simp
  have HB0 := Lib.hid b0
  have HBL := Lib.hid hbl
  have HZ := Lib.hid hz
  have c0 := b0.cell 0
  have c1 := b0.cell 1
  have c2 := b0.cell 2
  simp only [List.getElem?_toArray, List.getElem?_cons_zero, List.getElem?_cons_succ] at c0 c1 c2
  clear hR hl b0 hbl
  go_enter Try.func30, Try.ntmps30
  go_wp2_with (at_make; refine wpList_make_full _ rfl _ _ 55 rfl w.heap.size 4 j0 (.bool false) 1 Try.underlying55 hj hy0 hy1 .i64 .i64 _ _ vl rfl rfl rfl rfl (by rw [hy2]; omega) (by unfold maxLen; omega) (by omega) ?_; intro w1 hown1 hgrow1; have hB1 : Below w0.heap.size w0 w1 := (Below.refl _ _).grown hgrow1 (Nat.le_refl _) (fun k e => by cases e); have bg := HB0.out.below hB1 HB0.out.lt; have g0 := bg.cell 0; have g1 := bg.cell 1; have g2 := bg.cell 2; simp only [List.getElem?_toArray, List.getElem?_cons_zero, List.getElem?_cons_succ] at g0 g1 g2; have HB1 := Lib.hid hB1; clear hB1 bg c0 c1 c2)
  rw [show (Value.bool false).cells = #[.bool false] from rfl, toList_madeCells_one, Nat.mul_one, ← bv_rep, hz] at hown1
  have hbw : Below w.heap.size w w1 := HBL.out.trans (HB1.out.mono (by omega))
  have hbg := begins_any w1 B ta va tl tc vl vc (.slice ra R.length rc) R (HR.out.far (hbw.mono hB)) (by have := hbw.size; omega) HL.out hv
  have HOWN := Lib.hid hown1
  have HBW := Lib.hid hbw
  have hlt1 : w.heap.size + 1 < w1.heap.size := (row_lt hown1).1
  clear hown1 hgrow1 hbw
  go_wp2_with fail
  refine hbg.mono ?_
  rintro e w2 ⟨m, bs, rfl, hmat, hb2⟩
  have hml : (recK vl (begM vl R) 0).length = vl := recK_len _ _ 0 (Nat.zero_le _)
  have hm0 : MarksAt w2 w.heap.size (w.heap.size + 1) (.slice (some ⟨w.heap.size + 1, 0, none⟩) vl vl) (recK vl (begM vl R) 0) := by
    rw [recK_zero]
    refine ⟨⟨vl, by simp⟩, ?_⟩
    rw [List.length_replicate]
    exact own_of_block HOWN.out (row := none) ⟨hb2.os, hb2.tape, hb2.output, hb2.size, fun k hk _ => hb2.block k hk⟩ (fun r e e2 => by cases e2)
  have HM0 := Lib.hid hm0
  have HMAT := Lib.hid hmat
  have HB2 := Lib.hid (HBW.out.trans (hb2.mono HBW.out.size))
  unfold slB
  have hne : ∀ b ∈ bs, w1.heap.size ≤ b := fun b hb => by
    obtain ⟨i, hi, rfl⟩ := List.mem_iff_getElem.1 hb
    have := (row_cells (hmat.inn i (by rw [← hmat.bl]; exact hi)) _ (by rfl)).1
    rwa [bs_get hi] at this
  have hnm : w1.heap.size ≤ m := (row_cells hmat.out _ (by rfl)).1
  have HNE := Lib.hid hne
  clear hm0 hmat hb2 hml hne
  go_wp2
  go_loopw [13] (fun q wr => ∃ k : Nat, k ≤ vl ∧ q = .int .i64 k ∧ MarksAt wr w.heap.size (w.heap.size + 1) (.slice (some ⟨w.heap.size + 1, 0, none⟩) vl vl) (recK vl (begM vl R) k) ∧ MatAt wr w1.heap.size m vl bs (begM vl R) ∧ Below w.heap.size w wr) (fun q _ => vl - (intOf q).toNat)
  case atStart => exact ⟨0, Nat.zero_le _, rfl, HM0.out, HMAT.out, HB2.out⟩
  case round =>
    obtain ⟨k, hk, rfl, hmk, hmt, hbr⟩ := hrel
    have HMK := Lib.hid hmk
    have HMT := Lib.hid hmt
    have HBR := Lib.hid hbr
    by_cases hlt : k < vl
    · have hk0 : (0 : Int) ≤ (k : Int) := by omega
      have hk1 : (k : Int) < (vl : Int) := by omega
      have q0 := hmt.cell k hlt
      have q1 := hmt.mark k k hlt hlt
      unfold slB at q0
      have hlen := recK_len vl (begM vl R) k (by omega)
      have hown : wr.ownsRow w.heap.size 4 1 (.slice (some ⟨w.heap.size + 1, 0, none⟩) (recK vl (begM vl R) k).length vl) (recK vl (begM vl R) k).length (BV (recK vl (begM vl R) k)) := by
        have := hmk.2
        rw [hlen] at this ⊢
        exact this
      have hfr := hown.frozenAt k
      have hcl : ∃ u, wr.cell? ⟨w.heap.size + 1, k, none⟩ = some u := by
        rw [hown.cellAt k (by omega)]
        exact ⟨_, List.getElem?_eq_getElem (by simp [BV]; omega)⟩
      obtain ⟨s1, s2⟩ := marks_store hown k ((((begM vl R).getD k []).getD k false))
      rw [← recK_succ vl _ k hlt, hlen] at s1
      have hmt2 := hmt.grown s2 (fun e => by have := Option.some.inj e; omega) (fun b hb e => by have := HNE.out b hb; have := Option.some.inj e; omega)
      have HS1 := Lib.hid s1
      have HMT2 := Lib.hid hmt2
      have HBR2 := Lib.hid (hbr.grown s2 hbr.size (fun k e => by cases e; omega))
      obtain ⟨u, hcu⟩ := hcl
      obtain ⟨bk, hbk⟩ : ∃ b, b = bs.getD k 0 := ⟨_, rfl⟩
      rw [← hbk] at q0 q1
      clear hmk hmt hbr hown s1 s2 hmt2 hlen hbk
      generalize ((begM vl R).getD k []).getD k false = b at *
      go_wp2
      exact ⟨⟨k + 1, hlt, congrArg (Value.int .i64) (by omega), HS1.out, HMT2.out, HBR2.out⟩, by simp only [intOf]; omega⟩
    · obtain rfl : vl = k := by omega
      have hend := HMK.out
      rw [recK_full] at hend
      have HEND := Lib.hid hend
      clear hmk hmt hbr hend
      go_wp2
      go_ret
      exact ⟨_, _, rfl, HEND.out, HBR.out⟩
end Go.Proofs.Ytljkobijoenabaa.dv
namespace Go.Proofs.Ytljkobijoenabaa.dv
open Go.ChangeShapes Go.WideShapes Go.ChangeAt Go.RowKit Go.Maps Go.WideMaps Go.WideElems
set_option linter.unusedVariables false
set_option linter.unusedSimpArgs false
/-! left: the closure of Groups; the first group of which it tells -/
def matF (M : List (List Bool)) (v u : Nat) : Bool := (M.getD v []).getD u false
theorem goes_groups1 : Goes 62 := fun args w => enters_of Try.func62 (by kernel_rfl) rfl args w
set_option maxRecDepth 100000 in
set_option maxHeartbeats 4000000 in
theorem groups1_any (w : World) (B m n : Nat) (bs : List Nat) (M : List (List Bool)) (bx bv v g0 : Nat) (ga : Addr) (gl gc : Nat) (hM : MatAt w B m n bs M) (hbx : Blk w bx 53 #[slB n m]) (hbv : Blk w bv 3 #[.int .i64 v]) (hv : v < n) (hg : g0 < n) (hgl : 0 < gl) (hga : w.cell? ga = some (.int .i64 g0)) :
    Calls Try.prog 62 #[.slice (some ga) gl gc, .pointer (some ⟨bx, 0, none⟩), .pointer (some ⟨bv, 0, none⟩)] w fun e w' => e = .returned (.bool (matF M v g0 && matF M g0 v)) ∧ ∃ q, w' = w.drewN q := by
  have p0 := hbx.cell 0
  have p1 := hbv.cell 0
  simp only [List.getElem?_toArray, List.getElem?_cons_zero] at p0 p1
  have q0 := hM.cell v hv
  have q1 := hM.mark v g0 hv hg
  have q2 := hM.cell g0 hg
  have q3 := hM.mark g0 v hg hv
  unfold slB at q0 q2 p0
  obtain ⟨bi, hbi⟩ : ∃ b, b = bs.getD v 0 := ⟨_, rfl⟩
  obtain ⟨bk, hbk⟩ : ∃ b, b = bs.getD g0 0 := ⟨_, rfl⟩
  rw [← hbi] at q0 q1
  rw [← hbk] at q2 q3
  unfold matF
  have hv0 : (0 : Int) ≤ (v : Int) := by omega
  have hv1 : (v : Int) < (n : Int) := by omega
  have hg0 : (0 : Int) ≤ (g0 : Int) := by omega
  have hg1 : (g0 : Int) < (n : Int) := by omega
  have hgl0 : (0 : Int) < (gl : Int) := by omega
  clear hM hbx hbv hbi hbk
  generalize (M.getD v []).getD g0 false = x at *
  generalize (M.getD g0 []).getD v false = y at *
  cases x
  · go_enter Try.func62, Try.ntmps62
    go_wp2
    go_quiet (fail)
    go_wp2
    go_ret
    exact ⟨by simp, nq, rfl⟩
  · go_enter Try.func62, Try.ntmps62
    go_wp2
    go_quiet (fail)
    go_wp2
    go_ret
    exact ⟨by simp, nq, rfl⟩
/-- groups of variables in memory -/
structure GrAt (w : World) (B : Nat) (v : Value) (vs : List Value) (G : List (List Nat)) : Prop where
  vl : vs.length = G.length
  out : w.ownsRow B 26 1 v G.length vs
  inn : ∀ i, i < G.length → 0 < (G.getD i []).length ∧ w.ownsRow B 3 1 (vs.getD i undef) (G.getD i []).length (IV ((G.getD i []).map fun x : Nat => (x : Int)))
  dis : ∀ i j, i < G.length → j < G.length → i ≠ j → (vs.getD i undef).ownBlock ≠ (vs.getD j undef).ownBlock
def TellsG (fn : Nat) (cap : Array Value) (p : Nat → Bool) (w : World) (vs : List Value) : Prop := ∀ (i q : Nat), i < vs.length → Calls Try.prog fn (#[vs.getD i undef] ++ cap) (w.drewN q) fun e w' => e = .returned (.bool (p i)) ∧ ∃ q2, w' = w.drewN q2
set_option maxRecDepth 100000 in
set_option maxHeartbeats 2000000 in
theorem indexG_any (w : World) (B : Nat) (v : Value) (vs : List Value) (G : List (List Nat)) (fn : Nat) (cap : Array Value) (p : Nat → Bool) (hgo : Goes fn) (hp : TellsG fn cap p w vs) (h : GrAt w B v vs G) (hlen : G.length ≤ 1000) :
    Calls Try.prog 61 #[v, .func (.func fn) #[] cap] w fun e w' => (∃ n : Int, e = .returned (.int .i64 n) ∧ ((∃ i : Nat, n = i ∧ i < G.length ∧ p i = true ∧ ∀ j, j < i → p j = false) ∨ (n = -1 ∧ ∀ j, j < G.length → p j = false))) ∧ ∃ q, w' = w.drewN q := by
  have hg : ∀ (c : Value) (w : World), (callFunc fn (#[c] ++ cap)).run Try.prog w = .ok (.enter fn (#[c] ++ cap)) w := fun c w => hgo _ w
  have hform : v = .slice none 0 0 ∧ G.length = 0 ∨ ∃ g cp, v = .slice (some ⟨g, 0, none⟩) G.length cp := by
    rcases h.out.2 with ⟨e, e2⟩ | ⟨g, cp, cur, e, _⟩
    · exact .inl ⟨e, e2⟩
    · exact .inr ⟨g, cp, e⟩
  have HP := Lib.hid hp
  have H := Lib.hid h
  clear hp hgo h
  rcases hform with ⟨rfl, h0⟩ | ⟨g, cp, rfl⟩
  · have HG0 := Lib.hid h0
    clear h0
    go_enter Try.func61, Try.ntmps61
    go_wp2
    go_rounds 1
    go_ret
    exact ⟨⟨-1, rfl, .inr ⟨rfl, fun j hj => by have := HG0.out; omega⟩⟩, 0, rfl⟩
  · go_enter Try.func61, Try.ntmps61
    go_wp2
    go_loopw [5, 8] (fun i q wr => ∃ k : Nat, k ≤ G.length ∧ q = .int .i64 k ∧ (∀ j, j < k → p j = false) ∧ ∃ r, wr = w.drewN r) (fun _ q _ => G.length - (intOf q).toNat)
    case atStart => exact ⟨0, Nat.zero_le _, rfl, fun j hj => absurd hj (Nat.not_lt_zero _), 0, rfl⟩
    case round =>
      obtain ⟨k, hk, rfl, hneg, r, rfl⟩ := hrel
      have HN := Lib.hid hneg
      clear hneg
      by_cases hlt : k < G.length
      · have hk0 : (0 : Int) ≤ (k : Int) := by omega
        have hk1 : (k : Int) < (G.length : Int) := by omega
        have hcell : (w.drewN r).cell? ⟨g, k, none⟩ = some (vs.getD k undef) := by
          have := World.ownsRow.cellAt (show (w.drewN r).ownsRow B 26 1 (.slice (some ⟨g, 0, none⟩) G.length cp) G.length vs from H.out.out) k (by omega)
          rw [this, List.getD_eq_getElem?_getD, List.getElem?_eq_getElem (show k < vs.length by rw [H.out.vl]; exact hlt)]
          rfl
        have hcall := HP.out k r (by rw [H.out.vl]; exact hlt)
        have hform : ∃ g2 c2, vs.getD k undef = .slice (some ⟨g2, 0, none⟩) (G.getD k []).length c2 := by
          obtain ⟨h1, h2⟩ := H.out.inn k hlt
          obtain ⟨g2, c2, e, _⟩ := World.ownsRow.form h2 h1
          exact ⟨g2, c2, e⟩
        obtain ⟨g2, c2, hvs⟩ := hform
        rw [hvs] at hcell hcall
        have HV := Lib.hid hvs
        clear hvs
        generalize (G.getD k []).length = gl at *
        cases hb : p k
        · rw [hb] at hcall
          have HB := Lib.hid hb
          clear hb
          go_wp2_with fail
          refine hcall.mono ?_
          rintro e w3 ⟨rfl, q2, rfl⟩
          go_wp2
          exact ⟨⟨k + 1, hlt, congrArg (Value.int .i64) (by omega), fun j hj => by
            rcases Nat.lt_or_ge j k with h | h
            · exact HN.out j h
            · obtain rfl : j = k := by omega
              exact HB.out, q2, rfl⟩, by simp only [intOf]; omega⟩
        · rw [hb] at hcall
          have HB := Lib.hid hb
          clear hb
          go_wp2_with fail
          refine hcall.mono ?_
          rintro e w3 ⟨rfl, q2, rfl⟩
          go_wp2
          go_ret
          exact ⟨⟨k, rfl, .inl ⟨k, rfl, hlt, HB.out, HN.out⟩⟩, q2, rfl⟩
      · obtain rfl : k = G.length := by omega
        go_wp2
        go_ret
        exact ⟨⟨-1, rfl, .inr ⟨rfl, HN.out⟩⟩, r, rfl⟩
end Go.Proofs.Ytljkobijoenabaa.dv
namespace Go.Proofs.Ytljkobijoenabaa.dv
open Go.ChangeShapes Go.WideShapes Go.ChangeAt Go.RowKit Go.Maps Go.WideMaps Go.WideElems
set_option linter.unusedVariables false
set_option linter.unusedSimpArgs false
/-! left: the groups -/
theorem info_ints : (Try.prog.info? 26).map (fun i => (i.zero, i.size, i.bytes)) = some (some (.slice none 0 0), 1, 24) := by kernel_rfl
def IN (l : List Nat) : List Value := IV (l.map fun x : Nat => (x : Int))
theorem getD_snoc {α : Type} (l : List α) (x d : α) (i : Nat) : (l ++ [x]).getD i d = if i < l.length then l.getD i d else if i = l.length then x else d := by
  rw [List.getD_eq_getElem?_getD]
  by_cases h : i < l.length
  · rw [if_pos h, List.getElem?_append_left h, List.getD_eq_getElem?_getD]
  · rw [if_neg h, List.getElem?_append_right (by omega)]
    by_cases h2 : i = l.length
    · subst h2; simp
    · rw [if_neg h2, List.getElem?_eq_none (by simp; omega)]; rfl
theorem getD_setl {α : Type} (l : List α) (x d : α) (k i : Nat) (hk : k < l.length) : (l.set k x).getD i d = if i = k then x else l.getD i d := by
  rw [List.getD_eq_getElem?_getD, List.getElem?_set]
  by_cases h : k = i
  · subst h; simp [hk]
  · rw [if_neg h, if_neg (fun e => h e.symm), List.getD_eq_getElem?_getD]
/-- what a change keeps, if it is to none of the groups' blocks -/
theorem GrAt.grown {w w' : World} {B : Nat} {v : Value} {vs : List Value} {G : List (List Nat)} {row : Option Nat} (h : GrAt w B v vs G) (hg : w.grownBy w' row) (h1 : ∀ r, v.ownBlock = some r → row ≠ some r) (h2 : ∀ i r, i < G.length → (vs.getD i undef).ownBlock = some r → row ≠ some r) : GrAt w' B v vs G :=
  ⟨h.vl, own_of_block h.out hg h1, fun i hi => ⟨(h.inn i hi).1, own_of_block (h.inn i hi).2 hg (fun r e => h2 i r hi e)⟩, h.dis⟩
theorem GrAt.alloc {w : World} {B : Nat} {v : Value} {vs : List Value} {G : List (List Nat)} (h : GrAt w B v vs G) (o : Obj) : GrAt (w.alloc o) B v vs G := h.grown (World.grownBy_alloc w o none) (fun _ _ e => by cases e) (fun _ _ _ _ e => by cases e)
theorem GrAt.below {w w' : World} {B : Nat} {v : Value} {vs : List Value} {G : List (List Nat)} (h : GrAt w B v vs G) (hb : Below w.heap.size w w') : GrAt w' B v vs G := h.grown (row := none) ⟨hb.os, hb.tape, hb.output, hb.size, fun k hk _ => hb.block k hk⟩ (fun _ _ e => by cases e) (fun _ _ _ _ e => by cases e)
/-- one group more -/
theorem GrAt.push {w w' : World} {B : Nat} {v v' : Value} {vs : List Value} {G : List (List Nat)} {x : Value} {l : List Nat} (h : GrAt w B v vs G) (hl : 0 < l.length) (hx : w.ownsRow B 3 1 x l.length (IN l)) (hd : ∀ i, i < G.length → (vs.getD i undef).ownBlock ≠ x.ownBlock) (ho : w'.ownsRow B 26 1 v' (G.length + 1) (vs ++ [x])) (hg : w.grownBy w' v.ownBlock) : GrAt w' B v' (vs ++ [x]) (G ++ [l]) := by
  have hkeep : ∀ {u : Value} {n : Nat} {xs : List Value}, w.ownsRow B 3 1 u n xs → w'.ownsRow B 3 1 u n xs := fun {u n xs} hu => own_grown hu hg (row_apart hu h.out (by decide))
  refine ⟨by simp [h.vl], by simpa using ho, fun i hi => ?_, fun i j hi hj hne => ?_⟩
  · rw [getD_snoc, getD_snoc, h.vl]
    rw [List.length_append, List.length_singleton] at hi
    by_cases c : i < G.length
    · rw [if_pos c, if_pos c]
      exact ⟨(h.inn i c).1, hkeep (h.inn i c).2⟩
    · have e : i = G.length := by omega
      rw [if_neg c, if_pos e, if_neg c, if_pos e]
      exact ⟨hl, hkeep hx⟩
  · rw [getD_snoc, getD_snoc, h.vl]
    rw [List.length_append, List.length_singleton] at hi hj
    by_cases c : i < G.length <;> by_cases d : j < G.length
    · rw [if_pos c, if_pos d]; exact h.dis i j c d hne
    · rw [if_pos c, if_neg d, if_pos (by omega)]; exact hd i c
    · rw [if_neg c, if_pos (by omega), if_pos d]; exact (hd j d).symm
    · omega
/-- one group longer -/
theorem GrAt.more {w w1 : World} {B g cap : Nat} {vs : List Value} {G : List (List Nat)} {x : Value} {i : Nat} {y : Nat} (h : GrAt w B (.slice (some ⟨g, 0, none⟩) G.length cap) vs G) (hi : i < G.length) (ho : w1.ownsRow B 3 1 x ((G.getD i []).length + 1) (IN (G.getD i []) ++ [.int .i64 y])) (hg : w.grownBy w1 (vs.getD i undef).ownBlock) (hat : x.ownBlock = (vs.getD i undef).ownBlock ∨ x.ownBlock = some w.heap.size) : GrAt (w1.setCell ⟨g, i, none⟩ x) B (.slice (some ⟨g, 0, none⟩) G.length cap) (vs.set i x) (G.set i (G.getD i [] ++ [y])) ∧ w1.ownsRow B 26 1 (.slice (some ⟨g, 0, none⟩) G.length cap) G.length vs := by
  have hiv : i < vs.length := by rw [h.vl]; exact hi
  obtain ⟨hpi, hri⟩ := h.inn i hi
  have hout : w1.ownsRow B 26 1 (.slice (some ⟨g, 0, none⟩) G.length cap) G.length vs := own_grown h.out hg (row_apart h.out hri (by decide))
  obtain ⟨s1, s2⟩ := hout.stored i x
  have hset : ∀ {u : Value} {n : Nat} {xs : List Value}, w1.ownsRow B 3 1 u n xs → (w1.setCell ⟨g, i, none⟩ x).ownsRow B 3 1 u n xs := fun {u n xs} hu => own_grown hu s2 (by
    rcases row_apart hu hout (by decide) with e | e
    · exact .inl e
    · exact .inr e)
  refine ⟨⟨by simp [h.vl], by simpa using s1, fun j hj => ?_, fun j k hj hk hne => ?_⟩, hout⟩
  · rw [List.length_set] at hj
    rw [getD_setl _ _ _ _ _ hi, getD_setl _ _ _ _ _ hiv]
    by_cases c : j = i
    · rw [if_pos c, if_pos c]
      refine ⟨by simp, hset ?_⟩
      rw [List.length_append, List.length_singleton, List.map_append]
      simpa [IN, IV] using ho
    · rw [if_neg c, if_neg c]
      refine ⟨(h.inn j hj).1, hset (own_grown (h.inn j hj).2 hg (.inr (h.dis j i hj hi c)))⟩
  · rw [List.length_set] at hj hk
    rw [getD_setl _ _ _ _ _ hiv, getD_setl _ _ _ _ _ hiv]
    have hfresh : ∀ j, j < G.length → j ≠ i → (vs.getD j undef).ownBlock ≠ x.ownBlock := fun j hj hji => by
      rcases hat with e | e
      · rw [e]; exact h.dis j i hj hi hji
      · rw [e]
        intro e2
        have := ((h.inn j hj).2.lt _ e2).2
        omega
    by_cases c : j = i <;> by_cases d : k = i
    · omega
    · rw [if_pos c, if_neg d]; exact (hfresh k hk d).symm
    · rw [if_neg c, if_pos d]; exact hfresh j hj c
    · rw [if_neg c, if_neg d]; exact h.dis j k hj hk hne
end Go.Proofs.Ytljkobijoenabaa.dv

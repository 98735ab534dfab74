import Derived.Test.YtomikgkoegkofaaGreatDoorUst
import Derived.Test.YtomikgkoegkofaaGreatDoorUmb
import Derived.Test.YtomikgkoegkofaaGreatDoorDvc
namespace Go.Proofs.YtomikgkoegkofaaGreatDoor.dv
open Go.ChangeShapes Go.WideShapes Go.ChangeAt Go.RowKit Go.Maps Go.WideMaps Go.WideElems Go.Shelf
set_option linter.unusedVariables false
set_option linter.unusedSimpArgs false
/-! marks of ranges over functions, taken at a function's end; what Shortest has on its way -/
def mkD (D : Nat) : Deferred := { target := .collected D, args := #[] }
def Marks (n0 : Nat) (ds : List Nat) (W : World) : Prop := ds.Nodup ∧ ∀ D ∈ ds, n0 ≤ D ∧ W.heap[D]? = some (.deferred (some []))
theorem leaves_all {F : Fence} {n : Nat} {P : Program} {fn : Func} {tmps : Array Value} {R : Ending → World → Prop} {u : FrameMode} (hu : u ≠ .run) (n0 : Nat) (Z : World → Prop)
    (hZ : ∀ (W : World) (D : Nat) (o' : Obj), Z W → n0 ≤ D → W.heap[D]? = some (.deferred (some [])) → Z (W.putObj D o')) (hend : ∀ W, Z W → LeavesIn F n P fn tmps R [] u W) :
    ∀ (ds : List Nat) (W : World), Z W → Marks n0 ds W → LeavesInM F n P fn tmps R (ds.map mkD) u W
  | [], W, hz, _ => hend W hz
  | D :: ds, W, hz, ⟨hn, hm⟩ => by
    obtain ⟨h0, hD⟩ := hm D (by simp)
    have hlt : D < W.heap.size := (Array.getElem?_eq_some_iff.1 hD).1
    refine ⟨hu, .inl ⟨_, _, rfl, run_takeDeferred hD, ?_⟩⟩
    refine leaves_all hu n0 Z hZ hend ds _ (hZ W D _ hz h0 hD) ⟨(List.nodup_cons.1 hn).2, fun E hE => ?_⟩
    obtain ⟨e0, eE⟩ := hm E (List.mem_cons_of_mem _ hE)
    have hne : E ≠ D := fun e => (List.nodup_cons.1 hn).1 (e ▸ hE)
    exact ⟨e0, (World.putObj_heap_other hne).trans eE⟩
theorem Marks.grown {n0 : Nat} {ds : List Nat} {W W' : World} {row : Option Nat} (h : Marks n0 ds W) (hg : W.grownBy W' row) (hr : ∀ r, row = some r → ∃ o : Obj, W.heap[r]? = some o ∧ o.isCells = true) : Marks n0 ds W' := ⟨h.1, fun D hD => by
  obtain ⟨h0, h1⟩ := h.2 D hD
  refine ⟨h0, (hg.block D (Array.getElem?_eq_some_iff.1 h1).1 (fun e => ?_)).trans h1⟩
  obtain ⟨o, ho, hc⟩ := hr D e.symm
  rw [h1] at ho
  cases ho
  cases hc⟩
theorem row_apart {W : World} {B1 B2 s1 s2 n1 n2 : Nat} {e1 e2 : TypeId} {v1 v2 : Value} {x1 x2 : List Value} (h : W.ownsRow B1 e1 s1 v1 n1 x1) (k : W.ownsRow B2 e2 s2 v2 n2 x2) (hne : e1 ≠ e2) : v1.ownBlock = none ∨ v1.ownBlock ≠ v2.ownBlock := by
  rcases h.2 with ⟨rfl, _⟩ | ⟨g, cap, cur, rfl, _, hg, _⟩
  · exact .inl rfl
  · right
    rcases k.2 with ⟨rfl, _⟩ | ⟨g2, cap2, cur2, rfl, _, hg2, _⟩
    · simp [Value.ownBlock]
    · intro e
      obtain rfl : g = g2 := by simpa [Value.ownBlock] using e
      rw [hg] at hg2
      simp at hg2
      exact hne hg2.2
theorem row_cells {W : World} {B s n : Nat} {e : TypeId} {v : Value} {x : List Value} (h : W.ownsRow B e s v n x) : ∀ r, v.ownBlock = some r → B ≤ r ∧ ∃ o : Obj, W.heap[r]? = some o ∧ o.isCells = true := fun r hr => by
  rcases h.2 with ⟨rfl, _⟩ | ⟨g, cap, cur, rfl, hB, hg, _⟩
  · simp [Value.ownBlock] at hr
  · obtain rfl : g = r := by simpa [Value.ownBlock] using hr
    exact ⟨hB, _, hg, rfl⟩
theorem row_noncells {W : World} {B s n : Nat} {e : TypeId} {v : Value} {x : List Value} {row : Option Nat} (h : W.ownsRow B e s v n x) (hr : ∀ r, row = some r → ∃ o : Obj, W.heap[r]? = some o ∧ o.isCells = false) : v.ownBlock = none ∨ v.ownBlock ≠ row := by
  cases hv : v.ownBlock with
  | none => exact .inl rfl
  | some r =>
    right
    intro e
    obtain ⟨_, o, ho, hc⟩ := row_cells h r hv
    obtain ⟨o2, ho2, hc2⟩ := hr r e.symm
    rw [ho] at ho2
    cases ho2
    rw [hc] at hc2
    cases hc2
/-- on the way: what is still to do, in a box; the rules so far -/
structure Sh (B : Nat) (w : World) (S : List Way) (gc : Array Value) (m : Nat) (lv : Value) (bt : Nat) (ds : List Nat) (T ks : List Int) (tv rv : Value) (W : World) : Prop where
  box : Blk W bt 28 #[tv]
  bB : B ≤ bt
  todo : W.ownsRow B 3 1 tv T.length (IV T)
  rows : W.ownsRow B 3 1 rv ks.length (IV ks)
  apart : rv.ownBlock = none ∨ rv.ownBlock ≠ tv.ownBlock
  ways : WaysAt W B m lv S
  gram : Blk W B 25 gc
  below : Below B w W
  marks : Marks B ds W
theorem WaysAt.grown {W W' : World} {B m : Nat} {v : Value} {S : List Way} {row : Option Nat} (h : WaysAt W B m v S) (hg : W.grownBy W' row) (hne : v.ownBlock = none ∨ v.ownBlock ≠ row) : WaysAt W' B m v S := ⟨h.1, own_grown h.2 hg hne⟩
theorem Sh.alloc {B : Nat} {w : World} {S : List Way} {gc : Array Value} {m : Nat} {lv : Value} {bt : Nat} {ds : List Nat} {T ks : List Int} {tv rv : Value} {W : World} (h : Sh B w S gc m lv bt ds T ks tv rv W) (o : Obj) : Sh B w S gc m lv bt ds T ks tv rv (W.alloc o) :=
  ⟨h.box.alloc o, h.bB, h.todo.alloc o, h.rows.alloc o, h.apart, ways_alloc h.ways o, h.gram.alloc o, h.below.alloc (Nat.le_of_lt h.gram.lt) o, h.marks.grown (World.grownBy_alloc W o none) (fun r e => by cases e)⟩
theorem Sh.drew {B : Nat} {w : World} {S : List Way} {gc : Array Value} {m : Nat} {lv : Value} {bt : Nat} {ds : List Nat} {T ks : List Int} {tv rv : Value} {W : World} (h : Sh B w S gc m lv bt ds T ks tv rv W) : Sh B w S gc m lv bt ds T ks tv rv W.drew :=
  ⟨h.box, h.bB, h.todo, h.rows, h.apart, h.ways, h.gram, h.below.drew, h.marks⟩
/-- what is not of cells may turn -/
theorem Sh.grownC {B : Nat} {w : World} {S : List Way} {gc : Array Value} {m : Nat} {lv : Value} {bt : Nat} {ds : List Nat} {T ks : List Int} {tv rv : Value} {W W' : World} {row : Option Nat} (h : Sh B w S gc m lv bt ds T ks tv rv W) (hg : W.grownBy W' row) (hr : ∀ r, row = some r → B ≤ r ∧ (∀ D ∈ ds, D ≠ r) ∧ ∃ o : Obj, W.heap[r]? = some o ∧ o.isCells = false) : Sh B w S gc m lv bt ds T ks tv rv W' := by
  have hc := fun r e => (hr r e).2.2
  refine ⟨h.box.grownC hg hc, h.bB, own_grown h.todo hg (row_noncells h.todo hc), own_grown h.rows hg (row_noncells h.rows hc), h.apart, h.ways.grown hg (row_noncells h.ways.2 hc), h.gram.grownC hg hc, h.below.grown hg (Nat.le_of_lt h.gram.lt) (fun k e => (hr k e).1), h.marks.1, fun D hD => ?_⟩
  obtain ⟨h0, h1⟩ := h.marks.2 D hD
  refine ⟨h0, (hg.block D (Array.getElem?_eq_some_iff.1 h1).1 (fun e => ?_)).trans h1⟩
  exact (hr D e.symm).2.1 D hD rfl
/-- a store into the box, of what is a row then -/
theorem Sh.put {B : Nat} {w : World} {S : List Way} {gc : Array Value} {m : Nat} {lv : Value} {bt : Nat} {ds : List Nat} {T ks T2 : List Int} {tv rv tv2 : Value} {W : World} (h : Sh B w S gc m lv bt ds T ks tv rv W) (h2 : W.ownsRow B 3 1 tv2 T2.length (IV T2)) (ha : rv.ownBlock = none ∨ rv.ownBlock ≠ tv2.ownBlock) : Sh B w S gc m lv bt ds T2 ks tv2 rv (W.setCell ⟨bt, 0, none⟩ tv2) := by
  have hg := grown_set W ⟨bt, 0, none⟩ tv2
  refine ⟨h.box.set_ 0 tv2, h.bB, own_grown h2 hg (.inr (h.box.not_row (by decide) h2).symm), own_grown h.rows hg (.inr (h.box.not_row (by decide) h.rows).symm), ha, h.ways.grown hg (.inr (h.box.not_row (by decide) h.ways.2).symm), h.gram.far (p := ⟨bt, 0, none⟩) (fun e => ?_) tv2, h.below.setCell (p := ⟨bt, 0, none⟩) h.bB tv2, h.marks.grown hg (fun r e => ?_)⟩
  · exact blk_apart h.gram h.box (by decide) e
  · cases e
    exact ⟨_, h.box, rfl⟩
/-- one rule more -/
theorem Sh.rule {B : Nat} {w : World} {S : List Way} {gc : Array Value} {m : Nat} {lv : Value} {bt : Nat} {ds : List Nat} {T ks : List Int} {tv rv rv2 : Value} {W W' : World} {x : Int} (h : Sh B w S gc m lv bt ds T ks tv rv W) (h2 : W'.ownsRow B 3 1 rv2 (ks.length + 1) (IV ks ++ [.int .i64 x])) (hg : W.grownBy W' rv.ownBlock) (hat : rv2.ownBlock = rv.ownBlock ∨ rv2.ownBlock = some W.heap.size) : Sh B w S gc m lv bt ds T (ks ++ [x]) tv rv2 W' := by
  refine ⟨h.box.grown hg (h.box.not_row (by decide) h.rows), h.bB, own_grown h.todo hg ?_, by simpa [IV_snoc] using h2, ?_, h.ways.grown hg (row_apart h.ways.2 h.rows (by decide)), h.gram.grown hg (h.gram.not_row (by decide) h.rows), h.below.grown hg (Nat.le_of_lt h.gram.lt) (fun k e => (row_cells h.rows k e).1), h.marks.grown hg (fun r e => (row_cells h.rows r e).2)⟩
  · rcases h.apart with e | e
    · rw [e]
      cases tv.ownBlock <;> simp
    · exact .inr (Ne.symm e)
  · rcases hat with e | e
    · rw [e]; exact h.apart
    · rw [e]
      right
      intro e2
      have := (h.todo.lt _ e2.symm).2
      omega
/-- one symbol more to do -/
theorem Sh.push {B : Nat} {w : World} {S : List Way} {gc : Array Value} {m : Nat} {lv : Value} {bt : Nat} {ds : List Nat} {T ks : List Int} {tv rv tv2 : Value} {W W' : World} {x : Int} (h : Sh B w S gc m lv bt ds T ks tv rv W) (h2 : W'.ownsRow B 3 1 tv2 (T.length + 1) (IV T ++ [.int .i64 x])) (hg : W.grownBy W' tv.ownBlock) (hat : tv2.ownBlock = tv.ownBlock ∨ tv2.ownBlock = some W.heap.size) : Sh B w S gc m lv bt ds (T ++ [x]) ks tv2 rv (W'.setCell ⟨bt, 0, none⟩ tv2) := by
  have hs : Sh B w S gc m lv bt ds [] ks (.slice none 0 0) rv (W'.setCell ⟨bt, 0, none⟩ (.slice none 0 0)) ∧ Sh B w S gc m lv bt ds [] ks tv rv W' ∨ True := .inr trivial
  have hap : rv.ownBlock = none ∨ rv.ownBlock ≠ tv.ownBlock := h.apart
  have hbox : Blk W' bt 28 #[tv] := h.box.grown hg (h.box.not_row (by decide) h.todo)
  have hrows : W'.ownsRow B 3 1 rv ks.length (IV ks) := own_grown h.rows hg hap
  have hways := h.ways.grown hg (row_apart h.ways.2 h.todo (by decide))
  have hgram := h.gram.grown hg (h.gram.not_row (by decide) h.todo)
  have hbelow := h.below.grown hg (Nat.le_of_lt h.gram.lt) (fun k e => (row_cells h.todo k e).1)
  have hmarks := h.marks.grown hg (fun r e => (row_cells h.todo r e).2)
  have hgs := grown_set W' ⟨bt, 0, none⟩ tv2
  refine ⟨hbox.set_ 0 tv2, h.bB, own_grown (by simpa [IV_snoc] using h2) hgs (.inr (hbox.not_row (by decide) h2).symm), own_grown hrows hgs (.inr (hbox.not_row (by decide) hrows).symm), ?_, hways.grown hgs (.inr (hbox.not_row (by decide) hways.2).symm), hgram.far (p := ⟨bt, 0, none⟩) (fun e => blk_apart hgram hbox (by decide) e) tv2, hbelow.setCell (p := ⟨bt, 0, none⟩) h.bB tv2, hmarks.grown hgs (fun r e => by cases e; exact ⟨_, hbox, rfl⟩)⟩
  rcases hap with e | e
  · exact .inl e
  · rcases hat with e2 | e2
    · rw [e2]; exact .inr e
    · rw [e2]
      right
      intro e3
      have := (h.rows.lt _ e3).2
      omega
end Go.Proofs.YtomikgkoegkofaaGreatDoor.dv

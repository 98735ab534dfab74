import Derived.Test.YtomikgkoegkofaaTrb
import Derived.Maps.OwnIn
import Derived.Maps.AppendAt
import Derived.LoopNIn
namespace Go.Proofs.Ytomikgkoegkofaa.dt
open Go.ChangeShapes Go.WideShapes Go.ChangeAt Go.RowKit Go.Maps Go.WideMaps Go.WideElems Go.Shelf Go.Proofs.Ytomikgkoegkofaa.dv
set_option linter.unusedVariables false
set_option linter.unusedSimpArgs false
attribute [local go_sem] Oper.semAt_some
/-! what is to do, on its way -/
theorem rounds_by {F : Fence} {n : Nat} {P : Program} {c : Code} {Q : Exit → Act → World → Prop} (I : Nat → Act → World → Prop)
    (h : ∀ k a W, I k a W → c.wpIn F n P (Exit.then (fun a' W' => ∃ k', k = k' + 1 ∧ I k' a' W') Q) a W) : ∀ k a W, I k a W → Code.roundsIn F n P c Q (k + 1) a W := by
  intro k
  induction k with
  | zero =>
    intro a W hi
    refine wpIn_mono (h 0 a W hi) fun e a' W' hq => ?_
    cases e <;> first | exact hq | (obtain ⟨k', hk, _⟩ := hq; omega)
  | succ k ih =>
    intro a W hi
    refine wpIn_mono (h (k + 1) a W hi) fun e a' W' hq => ?_
    cases e <;> first | exact hq | (obtain ⟨k', hk, hi'⟩ := hq; obtain rfl : k = k' := (by omega); exact ih _ _ hi')
theorem loop_by {F : Fence} {n : Nat} {P : Program} {c : Code} {Q : Exit → Act → World → Prop} {a : Act} {w : World} (I : Nat → Act → World → Prop) (N : Nat) (h0 : I N a w)
    (h : ∀ k a W, I k a W → c.wpIn F n P (Exit.then (fun a' W' => ∃ k', k = k' + 1 ∧ I k' a' W') Q) a W) : (Code.loop c).wpIn F n P Q a w := wpIn_loop_rounds (N + 1) (rounds_by I h N a w h0)
def mkD (D : Nat) : Deferred := { target := .collected D, args := #[] }
def Marks (n0 : Nat) (ds : List Nat) (W : World) : Prop := ds.Nodup ∧ ∀ D ∈ ds, n0 ≤ D ∧ W.heap[D]? = some (.deferred (some []))
theorem leaves_all {F : Fence} {n : Nat} {P : Program} {fn : Func} {tmps : Array Value} {R : Ending → World → Prop} {u : FrameMode} (hu : u ≠ .run) (n0 : Nat) (Z : World → Prop)
    (hZ : ∀ (W : World) (D : Nat) (o' : Obj), Z W → n0 ≤ D → W.heap[D]? = some (.deferred (some [])) → Z (W.putObj D o')) (hend : ∀ W, Z W → LeavesIn F n P fn tmps R [] u W) :
    ∀ (ds : List Nat) (W : World), Z W → Marks n0 ds W → LeavesInM F n P fn tmps R (ds.map mkD) u W
  | [], W, hz, _ => hend W hz
  | D :: ds, W, hz, ⟨hn, hm⟩ => by
    obtain ⟨h0, hD⟩ := hm D (by simp)
    have hlt : D < W.heap.size := (Array.getElem?_eq_some_iff.1 hD).1
    refine ⟨hu, .inl ⟨_, _, rfl, run_takeDeferred hD, ?_⟩⟩
    refine leaves_all hu n0 Z hZ hend ds _ (hZ W D _ hz h0 hD) ⟨(List.nodup_cons.1 hn).2, fun E hE => ?_⟩
    obtain ⟨e0, eE⟩ := hm E (List.mem_cons_of_mem _ hE)
    have hne : E ≠ D := fun e => (List.nodup_cons.1 hn).1 (e ▸ hE)
    exact ⟨e0, (World.putObj_heap_other hne).trans eE⟩
theorem Marks.grown {n0 : Nat} {ds : List Nat} {W W' : World} {row : Option Nat} (h : Marks n0 ds W) (hg : W.grownBy W' row) (hr : ∀ r, row = some r → ∃ o : Obj, W.heap[r]? = some o ∧ o.isCells = true) : Marks n0 ds W' := ⟨h.1, fun D hD => by
  obtain ⟨h0, h1⟩ := h.2 D hD
  refine ⟨h0, (hg.block D (Array.getElem?_eq_some_iff.1 h1).1 (fun e => ?_)).trans h1⟩
  obtain ⟨o, ho, hc⟩ := hr D e.symm
  rw [h1] at ho
  cases ho
  cases hc⟩
theorem row_obj {W : World} {B s n : Nat} {e : TypeId} {v : Value} {x : List Value} (h : W.ownsRow B e s v n x) : ∀ r, v.ownBlock = some r → B ≤ r ∧ ∃ cs fz, W.heap[r]? = some (.cells cs e fz) := fun r hr => by
  rcases h.2 with ⟨rfl, _⟩ | ⟨g, cap, cur, rfl, hB, hg, _⟩
  · simp [Value.ownBlock] at hr
  · obtain rfl : g = r := by simpa [Value.ownBlock] using hr
    exact ⟨hB, _, _, hg⟩
theorem row_noncells {W : World} {B s n : Nat} {e : TypeId} {v : Value} {x : List Value} {row : Option Nat} (h : W.ownsRow B e s v n x) (hr : ∀ r, row = some r → ∃ o : Obj, W.heap[r]? = some o ∧ o.isCells = false) : v.ownBlock = none ∨ v.ownBlock ≠ row := by
  cases hv : v.ownBlock with
  | none => exact .inl rfl
  | some r =>
    right
    intro e
    obtain ⟨_, cs, fz, ho⟩ := row_obj h r hv
    obtain ⟨o2, ho2, hc2⟩ := hr r e.symm
    rw [ho] at ho2
    cases ho2
    cases hc2
structure TS (m₀ tb : Nat) (ds : List Nat) (Jc : World → Prop) (T : List (Nat × Nat)) (tv : Value) (W : World) : Prop where
  box : Blk W tb 109 #[tv]
  bB : m₀ ≤ tb
  todo : W.ownsRow m₀ 108 2 tv T.length (PC T)
  ab : Abid m₀ Jc
  jc : Jc W
  marks : Marks m₀ ds W
theorem TS.le {m₀ tb : Nat} {ds : List Nat} {Jc : World → Prop} {T : List (Nat × Nat)} {tv : Value} {W : World} (h : TS m₀ tb ds Jc T tv W) : m₀ ≤ W.heap.size := Nat.le_trans h.bB (Nat.le_of_lt h.box.lt)
theorem TS.alloc {m₀ tb : Nat} {ds : List Nat} {Jc : World → Prop} {T : List (Nat × Nat)} {tv : Value} {W : World} (h : TS m₀ tb ds Jc T tv W) (o : Obj) : TS m₀ tb ds Jc T tv (W.alloc o) :=
  ⟨h.box.alloc o, h.bB, h.todo.alloc o, h.ab, h.ab W _ none h.jc (World.grownBy_alloc W o none) (fun r e => by cases e), h.marks.grown (World.grownBy_alloc W o none) (fun r e => by cases e)⟩
theorem TS.grownC {m₀ tb : Nat} {ds : List Nat} {Jc : World → Prop} {T : List (Nat × Nat)} {tv : Value} {W W' : World} {row : Option Nat} (h : TS m₀ tb ds Jc T tv W) (hg : W.grownBy W' row) (hr : ∀ r, row = some r → m₀ ≤ r ∧ (∀ D ∈ ds, D ≠ r) ∧ ∃ o : Obj, W.heap[r]? = some o ∧ o.isCells = false) : TS m₀ tb ds Jc T tv W' := by
  have hc := fun r e => (hr r e).2.2
  refine ⟨h.box.grownC hg hc, h.bB, own_grown h.todo hg (row_noncells h.todo hc), h.ab, h.ab W _ row h.jc hg (fun r e => ?_), h.marks.1, fun D hD => ?_⟩
  · obtain ⟨h1, _, o, ho, hoc⟩ := hr r e
    exact ⟨h1, o, ho, mine_other hoc⟩
  · obtain ⟨h0, h1⟩ := h.marks.2 D hD
    refine ⟨h0, (hg.block D (Array.getElem?_eq_some_iff.1 h1).1 (fun e => ?_)).trans h1⟩
    exact (hr D e.symm).2.1 D hD rfl
theorem TS.put {m₀ tb : Nat} {ds : List Nat} {Jc : World → Prop} {T T2 : List (Nat × Nat)} {tv tv2 : Value} {W : World} (h : TS m₀ tb ds Jc T tv W) (h2 : W.ownsRow m₀ 108 2 tv2 T2.length (PC T2)) : TS m₀ tb ds Jc T2 tv2 (W.setCell ⟨tb, 0, none⟩ tv2) := by
  have hg := grown_set W ⟨tb, 0, none⟩ tv2
  refine ⟨h.box.set_ 0 tv2, h.bB, own_grown h2 hg (.inr (h.box.not_row (by decide) h2).symm), h.ab, h.ab W _ _ h.jc hg (fun r e => ?_), h.marks.grown hg (fun r e => ?_)⟩
  · cases e
    exact ⟨h.bB, _, h.box, .inl rfl⟩
  · cases e
    exact ⟨_, h.box, rfl⟩
theorem TS.push {m₀ tb : Nat} {ds : List Nat} {Jc : World → Prop} {T : List (Nat × Nat)} {tv tv2 : Value} {W W' : World} {x : Nat × Nat} (h : TS m₀ tb ds Jc T tv W) (h2 : W'.ownsRow m₀ 108 2 tv2 (T.length + 1) (PC T ++ [PtrV x.1, .int .i64 x.2])) (hg : W.grownBy W' tv.ownBlock) : TS m₀ tb ds Jc (T ++ [x]) tv2 (W'.setCell ⟨tb, 0, none⟩ tv2) := by
  have hob := row_obj h.todo
  have hbox : Blk W' tb 109 #[tv] := h.box.grown hg (h.box.not_row (by decide) h.todo)
  have hjc := h.ab W W' _ h.jc hg (fun r e => by
    obtain ⟨h1, cs, fz, ho⟩ := hob r e
    exact ⟨h1, _, ho, .inr (.inl rfl)⟩)
  have hmarks := h.marks.grown hg (fun r e => by
    obtain ⟨h1, cs, fz, ho⟩ := hob r e
    exact ⟨_, ho, rfl⟩)
  have hgs := grown_set W' ⟨tb, 0, none⟩ tv2
  refine ⟨hbox.set_ 0 tv2, h.bB, own_grown (by rw [PC_snoc]; simpa using h2) hgs (.inr (hbox.not_row (by decide) h2).symm), h.ab, h.ab W' _ _ hjc hgs (fun r e => ?_), hmarks.grown hgs (fun r e => ?_)⟩
  · cases e
    exact ⟨h.bB, _, hbox, .inl rfl⟩
  · cases e
    exact ⟨_, hbox, rfl⟩
/-- behind a round of the caller's -/
theorem TS.turn {m₀ tb : Nat} {ds : List Nat} {Jc Jd : World → Prop} {T : List (Nat × Nat)} {tv : Value} {W W' : World} (h : TS m₀ tb ds Jc T tv W) (hk : KeepM m₀ W W') (hab : Abid m₀ Jd) (hj : Jd W') : TS m₀ tb ds Jd T tv W' := by
  refine ⟨hk.2 _ _ h.bB h.box (.inl rfl), h.bB, ownsRow_keep h.todo (fun g hg hv => ?_), hab, hj, h.marks.1, fun D hD => ?_⟩
  · obtain ⟨h1, cs, fz, ho⟩ := row_obj h.todo g hv
    exact (hk.2 _ _ h1 ho (.inr (.inl rfl))).trans ho.symm
  · obtain ⟨h0, h1⟩ := h.marks.2 D hD
    exact ⟨h0, hk.2 _ _ h0 h1 trivial⟩
/-- the place that is gone through, in its box -/
structure Pl (m₀ pb : Nat) (pv : Array Value) (tv : Value) (W : World) : Prop where
  bB : m₀ ≤ pb
  blk : Blk W pb 108 pv
  ap : tv.ownBlock ≠ some pb
def KidsAt (W : World) (b : Nat) (kb : List Nat) : Prop := ∃ (s r : Int) (v : Value), Blk W b 65 #[.int .i64 s, .int .i64 r, v] ∧ W.ownsRow 0 53 1 v kb.length (PV kb)
theorem Pl.grown {m₀ pb : Nat} {pv : Array Value} {tv : Value} {W W' : World} {row : Option Nat} (h : Pl m₀ pb pv tv W) (hg : W.grownBy W' row) (hne : some pb ≠ row) : Pl m₀ pb pv tv W' := ⟨h.bB, h.blk.grown hg hne, h.ap⟩
theorem Pl.alloc {m₀ pb : Nat} {pv : Array Value} {tv : Value} {W : World} (h : Pl m₀ pb pv tv W) (o : Obj) : Pl m₀ pb pv tv (W.alloc o) := ⟨h.bB, h.blk.alloc o, h.ap⟩
theorem nc_ne {W : World} {b : Nat} {t : TypeId} {cs : Array Value} (h : Blk W b t cs) {row : Option Nat} (hr : ∀ r, row = some r → ∃ o : Obj, W.heap[r]? = some o ∧ o.isCells = false) : some b ≠ row := fun e => by
  obtain ⟨o', ho', hc'⟩ := hr b e.symm
  have := (show W.heap[b]? = _ from h).symm.trans ho'
  cases this
  cases hc'
theorem keepc_grown {S : Nat → Prop} {W W' : World} {row : Option Nat} (hg : W.grownBy W' row) (hS : ∀ k, S k → some k ≠ row) : KeepC S W W' := fun k o hs ho _ => (hg.block k (Array.getElem?_eq_some_iff.1 ho).1 (hS k hs)).trans ho
/-- where the kids lie -/
def Sk (Bs : Nat) (v : Value) : Nat → Prop := fun k => k = Bs ∨ v.ownBlock = some k
theorem kids_row {W : World} {v : Value} {kb : List Nat} {Bs : Nat} (h : W.ownsRow 0 53 1 v kb.length (PV kb)) : ∃ ao cap, v = .slice ao kb.length cap ∧ RowN (Sk Bs v) W ao kb := by
  rcases h.2 with ⟨rfl, h2⟩ | ⟨g, cap, cur, rfl, _, hg, _⟩
  · exact ⟨none, 0, by rw [h2], fun j hj => by omega⟩
  · refine ⟨some ⟨g, 0, none⟩, cap, rfl, fun j hj => ⟨⟨g, 0, none⟩, rfl, .inr rfl, ⟨_, hg, rfl⟩, ?_⟩⟩
    have := h.cells (g := g) rfl j (PtrV (kb.getD j 0)) (by simp [PV, List.getD_eq_getElem?_getD, List.getElem?_eq_getElem hj])
    exact this
/-- the places of the kids, as they are put -/
def kidT (lv : Nat) (zs : List Nat) : List (Nat × Nat) := zs.map fun c => (c, lv + 1)
theorem pc_last {W : World} {m₀ g n cap : Nat} {T0 : List (Nat × Nat)} {x : Nat × Nat} (hn : n = T0.length) (h : W.ownsRow m₀ 108 2 (.slice (some ⟨g, 0, none⟩) (n + 1) cap) (n + 1) (PC (T0 ++ [x]))) :
    W.cell? ⟨g, n * 2, none⟩ = some (PtrV x.1) ∧ W.cell? ⟨g, n * 2 + 1, none⟩ = some (.int .i64 (x.2 : Int)) ∧ W.ownsRow m₀ 108 2 (.slice (some ⟨g, 0, none⟩) n cap) n (PC T0) ∧ g < W.heap.size ∧ n + 1 ≤ maxLen ∧ n + 1 ≤ cap := by
  have hl : (PC T0).length = n * 2 := by rw [PC_length, hn]
  refine ⟨?_, ?_, ?_, ?_, ?_, ?_⟩
  · rw [h.cellAt (n * 2) (by omega), PC_snoc, List.getElem?_append_right (by omega), hl]
    simp
  · rw [h.cellAt (n * 2 + 1) (by omega), PC_snoc, List.getElem?_append_right (by omega), hl]
    simp
  · rw [PC_snoc] at h
    exact ownsRow_pop hl h
  · exact (h.lt g rfl).2
  · rcases h.2 with ⟨e, _⟩ | ⟨g', cap', cur, e, _, _, h1, h2, _⟩
    · cases e
    · cases e
      omega
  · rcases h.2 with ⟨e, _⟩ | ⟨g', cap', cur, e, _, _, h1, h2, _⟩
    · cases e
    · cases e
      omega
theorem row_other {W : World} {B1 B2 s1 s2 n1 n2 : Nat} {e1 e2 : TypeId} {v1 v2 : Value} {x1 x2 : List Value} (h : W.ownsRow B1 e1 s1 v1 n1 x1) (k : W.ownsRow B2 e2 s2 v2 n2 x2) (hne : e1 ≠ e2) : v1.ownBlock = none ∨ v1.ownBlock ≠ v2.ownBlock := by
  cases hv : v1.ownBlock with
  | none => exact .inl rfl
  | some r =>
    right
    intro e
    obtain ⟨_, cs, fz, h1⟩ := row_obj h r hv
    obtain ⟨_, cs2, fz2, h2⟩ := row_obj k r e.symm
    rw [h1] at h2
    simp at h2
    exact hne h2.2.1
theorem sk_ne {U : World} {Bs n : Nat} {v : Value} {cs : Array Value} {xs : List Value} {row : Option Nat} (hB : Blk U Bs 63 cs) (hK : U.ownsRow 0 53 1 v n xs) (hrow : ∀ r, row = some r → ∃ cs t fz, U.heap[r]? = some (.cells cs t fz) ∧ t ≠ 63 ∧ t ≠ 53) : ∀ k, Sk Bs v k → some k ≠ row := by
  rintro k (rfl | hk) e
  · obtain ⟨c2, t, fz, h1, h2, _⟩ := hrow _ e.symm
    have := (show U.heap[k]? = _ from hB).symm.trans h1
    simp at this
    exact h2 this.2.1.symm
  · obtain ⟨_, c1, f1, h0⟩ := row_obj hK k hk
    obtain ⟨c2, t, fz, h1, _, h3⟩ := hrow _ e.symm
    rw [h0] at h1
    simp at h1
    exact h3 h1.2.1.symm
theorem two_new (w : World) (t : TypeId) (x y : Value) : ∀ (j : Nat) (v : Value), [x, y][j]? = some v → (w.alloc (.cells #[x, y] t)).cell? ((⟨w.heap.size, 0, none⟩ : Addr).add j) = some v := cell_two_new w x y t
end Go.Proofs.Ytomikgkoegkofaa.dt

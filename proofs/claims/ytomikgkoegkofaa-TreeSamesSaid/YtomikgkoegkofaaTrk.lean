import Derived.Test.YtomikgkoegkofaaTrj
import Derived.Test.YtomikgkoegkofaaTma
namespace Go.Proofs.Ytomikgkoegkofaa.dt
open Go.ChangeShapes Go.WideShapes Go.ChangeAt Go.RowKit Go.Maps Go.WideMaps Go.WideElems Go.Shelf Go.Proofs.Ytomikgkoegkofaa.dv
set_option linter.unusedVariables false
set_option linter.unusedSimpArgs false
/-! Of: a tree on its way -/
theorem other_node : Other 65 := ⟨by decide, by decide, by decide⟩
theorem other_pnode : Other 53 := ⟨by decide, by decide, by decide⟩
theorem other_gram : Other 25 := ⟨by decide, by decide, by decide⟩
/-- what is still to be gone through: leaves of these symbols -/
inductive LeafS (B : Nat) (W : World) : List (Nat × Nat) → List (Int × Nat) → Prop
  | nil : LeafS B W [] []
  | cons {b lv : Nat} {s : Int} {rest : List (Nat × Nat)} {st : List (Int × Nat)} (h1 : B ≤ b) (h2 : LeafAt W b s) (h3 : LeafS B W rest st) : LeafS B W ((b, lv) :: rest) ((s, lv) :: st)
theorem LeafS.kept {B : Nat} {W W' : World} {s : List (Nat × Nat)} {st : List (Int × Nat)} (h : LeafS B W s st) {row : Option Nat} (hg : W.grownBy W' row) (hn : ∀ x ∈ s, some x.1 ≠ row) : LeafS B W' s st := by
  induction h with
  | nil => exact .nil
  | @cons b lv sy rest st h1 h2 h3 ih => exact .cons h1 (Blk.grown h2 hg (hn (b, lv) (by simp))) (ih fun x hx => hn x (by simp [hx]))
theorem LeafS.far {B : Nat} {W W' : World} {s : List (Nat × Nat)} {st : List (Int × Nat)} (h : LeafS B W s st) {row : Option Nat} (hg : W.grownBy W' row) (hr : ∀ r, row = some r → ∀ cs fz, W.heap[r]? ≠ some (.cells cs 65 fz)) : LeafS B W' s st := by
  induction h with
  | nil => exact .nil
  | @cons b lv sy rest st h1 h2 h3 ih => exact .cons h1 (Blk.grown h2 hg (fun e => hr b e.symm _ _ h2)) ih
theorem LeafS.app {B : Nat} {W : World} {s s2 : List (Nat × Nat)} {st st2 : List (Int × Nat)} (h : LeafS B W s st) (k : LeafS B W s2 st2) : LeafS B W (s ++ s2) (st ++ st2) := by
  induction h with
  | nil => exact k
  | cons h1 h2 h3 ih => exact .cons h1 h2 ih
theorem LeafS.of_leaves {B lv : Nat} {W : World} : ∀ {bs : List Nat} {F : List Int}, LeavesAt B W bs F → LeafS B W (bs.map fun c => (c, lv)) (F.map fun x => (x, lv))
  | [], [], _ => .nil
  | [], x :: F, h => by have := h.len; simp at this
  | b :: bs, [], h => by have := h.len; simp at this
  | b :: bs, x :: F, h => by
    obtain ⟨h1, h2⟩ := h.at_ 0 (by simp)
    refine .cons h1 h2 (LeafS.of_leaves ⟨by have := h.len; simpa using this, (List.nodup_cons.1 h.nd).2, fun j hj => ?_⟩)
    have := h.at_ (j + 1) (by simp; omega)
    simpa using this
theorem Vis.far {W W' : World} {s s' : List (Nat × Nat)} {ns : List Nd} (h : Vis W s ns s') {row : Option Nat} (hg : W.grownBy W' row) (hr : ∀ r, row = some r → ∀ cs t fz, t = 65 ∨ t = 53 → W.heap[r]? ≠ some (.cells cs t fz)) : Vis W' s ns s' := by
  induction h with
  | nil s => exact .nil s
  | @cons b lv rest s' sy ru v kb ns h1 h2 h3 ih =>
    refine .cons (h1.grown hg (fun e => hr b e.symm _ _ _ (.inl rfl) h1)) (own_grown h2 hg ?_) ih
    cases hv : v.ownBlock with
    | none => exact .inl rfl
    | some r =>
      right
      intro e
      obtain ⟨_, cs, fz, ho⟩ := row_obj h2 r hv
      exact hr r e.symm cs _ fz (.inr rfl) ho
theorem mine_far {W : World} {row : Option Nat} (hr : ∀ r, row = some r → ∃ o : Obj, W.heap[r]? = some o ∧ Mine o) {t : TypeId} (ht : Other t) : ∀ r, row = some r → ∀ cs fz, W.heap[r]? ≠ some (.cells cs t fz) := fun r e cs fz ho => by
  obtain ⟨o, ho2, hm⟩ := hr r e
  rw [ho] at ho2
  cases ho2
  rcases hm with h | h | h
  · exact ht.1 h
  · exact ht.2.1 h
  · exact ht.2.2 h
theorem own_base' {B B' s n : Nat} {W : World} {e : TypeId} {v : Value} {xs : List Value} (h : W.ownsRow B e s v n xs) (hB : B' ≤ B) : W.ownsRow B' e s v n xs := by
  refine ⟨h.1, ?_⟩
  rcases h.2 with h | ⟨g, cap, cur, e, h1, h⟩
  · exact .inl h
  · exact .inr ⟨g, cap, cur, e, by omega, h⟩
/-- a node that Of has made itself, with its kids' row -/
def NewAt (B : Nat) (W : World) (x : Nd) : Prop := B ≤ x.b ∧ ∃ (v : Value) (kb : List Nat), Blk W x.b 65 #[.int .i64 x.sym, .int .i64 x.rule, v] ∧ W.ownsRow B 53 1 v kb.length (PV kb) ∧ (kb = [] → v = .slice none 0 0)
theorem NewAt.far {B : Nat} {W W' : World} {x : Nd} (h : NewAt B W x) {row : Option Nat} (hg : W.grownBy W' row) (hr : ∀ r, row = some r → ∀ cs t fz, t = 65 ∨ t = 53 → W.heap[r]? ≠ some (.cells cs t fz)) : NewAt B W' x := by
  obtain ⟨h0, v, kb, h1, h2, h3⟩ := h
  refine ⟨h0, v, kb, h1.grown hg (fun e => hr _ e.symm _ _ _ (.inl rfl) h1), own_grown h2 hg ?_, h3⟩
  cases hv : v.ownBlock with
  | none => exact .inl rfl
  | some r =>
    right
    intro e
    obtain ⟨_, cs, fz, ho⟩ := row_obj h2 r hv
    exact hr r e.symm cs _ fz (.inr rfl) ho
def trip (x : Nd) : Int × Int × Nat := (x.sym, x.rule, x.lv)
/-- the rules that are still to be done, in their box -/
def RBox (w : World) (ks : List Int) (j rb : Nat) (W : World) : Prop := ∃ ko kc, Blk W rb 26 #[.slice ko (ks.length - j) kc] ∧ (∀ i, i < ks.length - j → ∃ a : Addr, ko = some a ∧ a.block < w.heap.size ∧ w.cell? (a.add i) = some (.int .i64 (ks.getD (j + i) 0))) ∧ ks.length - j ≤ kc
structure OfS (w : World) (R : List Rl) (ks : List Int) (out : List (Int × Int × Nat)) (root rb gb : Nat) (gc : Array Value) (k : Nat) (s : List (Nat × Nat)) (i j : Nat) (ns : List Nd) (st : List (Int × Nat)) (W : World) : Prop where
  num : k + i = out.length
  built : Built R st (ks.drop j) (out.drop i)
  vis : Vis W [(root, 1)] ns s
  vals : ns.map trip = out.take i
  leaf : LeafS w.heap.size W s st
  nd : (ns.map (·.b) ++ s.map (·.1)).Nodup
  rules : RBox w ks j rb W
  gram : Blk W gb 25 gc
  below : Below w.heap.size w W
  new : ∀ x ∈ ns, NewAt w.heap.size W x
def OfJ (w : World) (R : List Rl) (ks : List Int) (out : List (Int × Int × Nat)) (root rb gb : Nat) (gc : Array Value) (k : Nat) (s : List (Nat × Nat)) (W : World) : Prop := ∃ i j ns st, OfS w R ks out root rb gb gc k s i j ns st W
theorem OfS.far {w : World} {R : List Rl} {ks : List Int} {out : List (Int × Int × Nat)} {root rb gb : Nat} {gc : Array Value} {k : Nat} {s : List (Nat × Nat)} {i j : Nat} {ns : List Nd} {st : List (Int × Nat)} {W W' : World} (h : OfS w R ks out root rb gb gc k s i j ns st W) {row : Option Nat} (hg : W.grownBy W' row) (hr : ∀ r, row = some r → w.heap.size ≤ r ∧ ∃ o : Obj, W.heap[r]? = some o ∧ Mine o) : OfS w R ks out root rb gb gc k s i j ns st W' := by
  have hm := fun r e => (hr r e).2
  refine ⟨h.num, h.built, h.vis.far hg (fun r e cs t fz ht => ?_), h.vals, h.leaf.far hg (mine_far hm other_node), h.nd, ?_, h.gram.grown hg (other_ne h.gram other_gram hm), h.below.grown hg h.below.size (fun r e => (hr r e).1), fun x hx => (h.new x hx).far hg (fun r e cs t fz ht => ?_)⟩
  rotate_left 2
  · rcases ht with rfl | rfl
    · exact mine_far hm other_node r e cs fz
    · exact mine_far hm other_pnode r e cs fz
  · rcases ht with rfl | rfl
    · exact mine_far hm other_node r e cs fz
    · exact mine_far hm other_pnode r e cs fz
  · obtain ⟨ko, kc, h1, h2⟩ := h.rules
    exact ⟨ko, kc, h1.grown hg (other_ne h1 other_ints hm), h2⟩
theorem abid_of {w : World} {R : List Rl} {ks : List Int} {out : List (Int × Int × Nat)} {root rb gb : Nat} {gc : Array Value} (m : Nat) (hm : w.heap.size ≤ m) (k : Nat) (s : List (Nat × Nat)) : Abid m (OfJ w R ks out root rb gb gc k s) := fun A B row hA hg hr => by
  obtain ⟨i, j, ns, st, h⟩ := hA
  exact ⟨i, j, ns, st, h.far hg (fun r e => by obtain ⟨g1, g2⟩ := hr r e; exact ⟨by omega, g2⟩)⟩
/-- a terminal -/
theorem OfS.term {w : World} {R : List Rl} {ks : List Int} {out : List (Int × Int × Nat)} {root rb gb : Nat} {gc : Array Value} {k b lv : Nat} {rest : List (Nat × Nat)} {i j : Nat} {ns : List Nd} {sy : Int} {st : List (Int × Nat)} {W : World} (h : OfS w R ks out root rb gb gc (k + 1) ((b, lv) :: rest) i j ns ((sy, lv) :: st) W) (hs : sy < 0) :
    KidsAt W b [] ∧ OfJ w R ks out root rb gb gc k rest W := by
  obtain ⟨g1, g2, g3, g4, g5, g6, g7, g8, g9, g10⟩ := h
  generalize hd : out.drop i = od at g2
  cases g5 with
  | cons l1 l2 l3 =>
    refine ⟨⟨sy, -1, _, l2, World.ownsRow_nil _ _ _ _⟩, ?_⟩
    generalize hks : ks.drop j = kd at g2
    cases g2 with
    | @term _ _ _ _ od' h1 hb =>
      have hlt : i < out.length := by omega
      have hd1 : out.drop (i + 1) = od' := by
        have := congrArg List.tail hd
        simpa [List.tail_drop] using this
      have hx : out[i]? = some (sy, -1, lv) := by
        have := congrArg (fun l => l[0]?) hd
        simpa [List.getElem?_drop] using this
      have hv := g3.snoc (kb := []) rfl l2 (World.ownsRow_nil _ _ _ _)
      refine ⟨i + 1, j, ns ++ [⟨b, sy, -1, lv⟩], st, by omega, by rw [hd1, hks]; exact hb, by simpa using hv, ?_, l3, by simpa using g6, g7, g8, g9, fun x hx => ?_⟩
      rotate_left
      · rcases List.mem_append.1 hx with hx | hx
        · exact g10 x hx
        · obtain rfl : x = ⟨b, sy, -1, lv⟩ := by simpa using hx
          exact ⟨l1, _, [], l2, World.ownsRow_nil _ _ _ _, fun _ => rfl⟩
      rw [List.map_append, g4, List.take_add_one, hx]
      rfl
    | var h1 => omega
end Go.Proofs.Ytomikgkoegkofaa.dt

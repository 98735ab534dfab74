import Derived.Test.YtomikgkoegkofaaTmb
import Derived.Test.YtomikgkoegkofaaTrk
namespace Go.Proofs.Ytomikgkoegkofaa.dt
open Go.ChangeShapes Go.WideShapes Go.ChangeAt Go.RowKit Go.Maps Go.WideMaps Go.WideElems Go.Shelf Go.Proofs.Ytomikgkoegkofaa.dv
set_option linter.unusedVariables false
set_option linter.unusedSimpArgs false
/-! trees in memory, as trees -/
def Fo.For (p : Int → Int → Prop) : Fo → Prop
  | .nil => True
  | .node s r k f => p s r ∧ k.For p ∧ f.For p
theorem Fo.for_nodes {p : Int → Int → Prop} : ∀ (f : Fo) (lv : Nat), f.For p → ∀ x ∈ f.nodes lv, p x.1 x.2.1
  | .nil, _, _, x, hx => by cases hx
  | .node s r k f, lv, h, x, hx => by
    simp only [Fo.nodes, List.mem_cons, List.mem_append] at hx
    rcases hx with rfl | hx | hx
    · exact h.1
    · exact for_nodes k _ h.2.1 x hx
    · exact for_nodes f _ h.2.2 x hx
theorem Fo.for_drop {p : Int → Int → Prop} : ∀ (i : Nat) (f : Fo), f.For p → (f.drop i).For p
  | 0, f, h => by rw [Fo.drop_zero]; exact h
  | _ + 1, .nil, _ => by simp [Fo.drop, Fo.For]
  | i + 1, .node s r k f, h => by simpa [Fo.drop] using for_drop i f h.2.2

inductive FoAt (W : World) : List Nat → Fo → Prop
  | nil : FoAt W [] .nil
  | cons {b : Nat} {bs : List Nat} {s r : Int} {v : Value} {kb : List Nat} {k f : Fo} (h1 : Blk W b 65 #[.int .i64 s, .int .i64 r, v]) (h2 : W.ownsRow 0 53 1 v kb.length (PV kb)) (h3 : FoAt W kb k) (h4 : FoAt W bs f) : FoAt W (b :: bs) (.node s r k f)
theorem FoAt.len {W : World} {bs : List Nat} {f : Fo} (h : FoAt W bs f) : bs.length = f.len := by
  induction h with
  | nil => rfl
  | cons h1 h2 h3 h4 ih3 ih4 => simp [Fo.len, ih4]
theorem FoAt.kept {W W' : World} {bs : List Nat} {f : Fo} (h : FoAt W bs f) (hb : Below W.heap.size W W') : FoAt W' bs f := by
  induction h with
  | nil => exact .nil
  | cons h1 h2 h3 h4 ih3 ih4 => exact .cons (h1.below hb h1.lt) (ownsRow_keep h2 (fun g hg _ => hb.block g hg)) ih3 ih4
theorem FoAt.drop {W : World} {bs : List Nat} {f : Fo} (h : FoAt W bs f) (i : Nat) : FoAt W (bs.drop i) (f.drop i) := by
  induction h generalizing i with
  | nil => cases i <;> simp [Fo.drop] <;> exact .nil
  | cons h1 h2 h3 h4 ih3 ih4 =>
    cases i with
    | zero => rw [Fo.drop_zero]; exact .cons h1 h2 h3 h4
    | succ i => simpa [Fo.drop] using ih4 i
theorem FoAt.lt {W : World} {bs : List Nat} {f : Fo} (h : FoAt W bs f) : ∀ b ∈ bs, b < W.heap.size := by
  induction h with
  | nil => intro b hb; cases hb
  | cons h1 h2 h3 h4 ih3 ih4 =>
    intro b hb
    rcases List.mem_cons.1 hb with rfl | hb
    · exact h1.lt
    · exact ih4 b hb
theorem FoAt.first {W : World} {b : Nat} {bs : List Nat} {f : Fo} (h : FoAt W (b :: bs) f) : ∃ s r v kb k f', f = .node s r k f' ∧ Blk W b 65 #[.int .i64 s, .int .i64 r, v] ∧ W.ownsRow 0 53 1 v kb.length (PV kb) ∧ FoAt W kb k ∧ FoAt W bs f' := by
  cases h with
  | cons h1 h2 h3 h4 => exact ⟨_, _, _, _, _, _, rfl, h1, h2, h3, h4⟩
/-- the i-th tree of a row of trees -/
theorem FoAt.at_ {W : World} {bs : List Nat} {f : Fo} (h : FoAt W bs f) (i : Nat) (hi : i < bs.length) : ∃ s r k, f.drop i = .node s r k (f.drop (i + 1)) ∧ FoAt W [bs.getD i 0] (.node s r k .nil) ∧ ∃ v kb, Blk W (bs.getD i 0) 65 #[.int .i64 s, .int .i64 r, v] ∧ W.ownsRow 0 53 1 v kb.length (PV kb) ∧ FoAt W kb k := by
  obtain ⟨s, r, k, e⟩ := Fo.drop_step i f (by rw [← h.len]; exact hi)
  have hd := h.drop i
  rw [e, List.drop_eq_getElem_cons hi] at hd
  have hg : bs[i] = bs.getD i 0 := by rw [List.getD_eq_getElem?_getD, List.getElem?_eq_getElem hi]; rfl
  rw [hg] at hd
  cases hd with
  | cons h1 h2 h3 h4 => exact ⟨s, r, k, e, .cons h1 h2 h3 .nil, _, _, h1, h2, h3⟩
theorem fo_of_n {W : World} : ∀ (n : Nat) (bs : List Nat) (lv : Nat) (rest : List (Nat × Nat)) (ns : List Nd), ns.length ≤ n → StackAt W (bs.map (fun c => (c, lv)) ++ rest) ns → ∃ f n1 n2, ns = n1 ++ n2 ∧ FoAt W bs f ∧ n1.map trip = f.nodes lv ∧ StackAt W rest n2
  | _, [], lv, rest, ns, _, h => ⟨.nil, [], ns, rfl, .nil, rfl, h⟩
  | 0, b :: bs, lv, rest, ns, hn, h => by
    have := h.le
    simp at this
    omega
  | n + 1, b :: bs, lv, rest, ns, hn, h => by
    cases h with
    | @cons _ _ _ sy ru v kb ns' h1 h2 h3 =>
      obtain ⟨k, n1, n2, rfl, g1, g2, g3⟩ := fo_of_n n kb (lv + 1) _ ns' (by simp at hn; omega) h3
      obtain ⟨f, n3, n4, rfl, g4, g5, g6⟩ := fo_of_n n bs lv rest n2 (by simp at hn; omega) g3
      exact ⟨_, ⟨b, sy, ru, lv⟩ :: (n1 ++ n3), n4, by simp, .cons h1 h2 g1 g4, by simp [Fo.nodes, trip, g2, g5], g6⟩
theorem fo_of {W : World} {b : Nat} {ns : List Nd} (h : StackAt W [(b, 1)] ns) : ∃ f, FoAt W [b] f ∧ ns.map trip = f.nodes 1 := by
  obtain ⟨f, n1, n2, rfl, h1, h2, h3⟩ := fo_of_n _ [b] 1 [] ns (Nat.le_refl _) h
  cases h3
  exact ⟨f, h1, by simpa using h2⟩
theorem FoAt.stack {W : World} {bs : List Nat} {f : Fo} (h : FoAt W bs f) : ∀ (lv : Nat) (rest : List (Nat × Nat)) (n2 : List Nd), StackAt W rest n2 → ∃ n1, StackAt W (bs.map (fun c => (c, lv)) ++ rest) (n1 ++ n2) ∧ n1.map trip = f.nodes lv := by
  induction h with
  | nil => exact fun _ _ n2 hs => ⟨[], hs, rfl⟩
  | @cons b bs s r v kb k f h1 h2 h3 h4 ih3 ih4 =>
    intro lv rest n2 hs
    obtain ⟨n4, g4, e4⟩ := ih4 lv rest n2 hs
    obtain ⟨n3, g3, e3⟩ := ih3 (lv + 1) _ _ g4
    exact ⟨⟨b, s, r, lv⟩ :: (n3 ++ n4), by rw [List.cons_append, List.append_assoc]; exact .cons h1 h2 g3, by simp [Fo.nodes, trip, e3, e4]⟩
theorem FoAt.walk {W : World} {b : Nat} {f : Fo} (h : FoAt W [b] f) : ∃ ns, StackAt W [(b, 1)] ns ∧ ns.map trip = f.nodes 1 ∧ ns.length = f.size := by
  obtain ⟨n1, h1, h2⟩ := h.stack 1 [] [] .nil
  refine ⟨n1, by simpa using h1, h2, ?_⟩
  have := congrArg List.length h2
  rw [List.length_map, Fo.nodes_len] at this
  exact this
theorem size_fo (w : World) (b : Nat) (f : Fo) (h : FoAt w [b] f) (hN : f.size ≤ 999999) : Calls Try.prog 33 #[PtrV b] w fun e w' => e = .returned (.int .i64 (f.size : Int)) ∧ Below w.heap.size w w' := by
  obtain ⟨ns, h1, h2, h3⟩ := h.walk
  rw [← h3]
  exact size_any w b ns h1 (by omega)
theorem height_fo (w : World) (b : Nat) (f : Fo) (h : FoAt w [b] f) (hN : f.size ≤ 999999) : Calls Try.prog 34 #[PtrV b] w fun e w' => e = .returned (.int .i64 (f.high : Int)) ∧ Below w.heap.size w w' := by
  obtain ⟨ns, h1, h2, h3⟩ := h.walk
  have e : highN ns = f.high := by
    have e1 : ∀ (l : List Nd) (a : Nat), l.foldl (fun h x => max h x.lv) a = (l.map trip).foldl (fun h x => max h x.2.2) a := fun l => by
      induction l with
      | nil => exact fun _ => rfl
      | cons x l ih => exact fun a => by rw [List.foldl_cons, ih]; rfl
    unfold highN
    rw [e1, h2, Fo.nodes_high f 1 (Nat.le_refl _)]
    split <;> omega
  rw [← e]
  exact height_any w b ns h1 (by omega)
theorem rules_fo (w : World) (b : Nat) (f : Fo) (h : FoAt w [b] f) (hN : f.size ≤ 999999) (h64 : f.For fun s r => In64 s ∧ In64 r) : Calls Try.prog 36 #[PtrV b] w fun e w' => (∃ v, e = .returned v ∧ w'.ownsRow w.heap.size 3 1 v f.rules.length (IV f.rules)) ∧ Below w.heap.size w w' := by
  obtain ⟨ns, h1, h2, h3⟩ := h.walk
  have e : rulesN ns = f.rules := by
    rw [← Fo.nodes_rules f 1, ← h2, List.filter_map, List.map_map]
    rfl
  rw [← e]
  exact rules_any w b ns h1 (by omega)
theorem yield_fo (w : World) (b : Nat) (f : Fo) (h : FoAt w [b] f) (hN : f.size ≤ 999999) (h64 : f.For fun s r => In64 s ∧ In64 r) : Calls Try.prog 35 #[PtrV b] w fun e w' => (∃ v, e = .returned v ∧ w'.ownsRow w.heap.size 3 1 v f.word.length (IV f.word)) ∧ Below w.heap.size w w' := by
  obtain ⟨ns, h1, h2, h3⟩ := h.walk
  have e : wordN ns = f.word := by
    rw [← Fo.nodes_word f 1, ← h2, List.filter_map, List.map_map]
    rfl
  rw [← e]
  refine yield_any w b ns h1 (by omega) (fun x hx => ?_)
  have := Fo.for_nodes f 1 h64 (trip x) (by rw [← h2]; exact List.mem_map_of_mem hx)
  exact this.1
end Go.Proofs.Ytomikgkoegkofaa.dt

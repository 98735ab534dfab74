import Derived.Test.YtjddjdpgnoebnaaGreatDoorRda
namespace Go.Proofs.YtjddjdpgnoebnaaGreatDoor.lx
open Go.ChangeShapes Go.WideShapes Go.ChangeAt Go.RowKit
set_option linter.unusedVariables false
/-! lists in memory, of what has lists of its own -/
abbrev Elem (α : Type) := World → (Nat → Prop) → α → List Value → Prop
def Keeps {α : Type} (E : Elem α) : Prop := ∀ (w w' : World) (A A' : Nat → Prop) (x : α) (cs : List Value), E w A x cs → (∀ g, g < w.heap.size → A g → A' g ∧ w'.heap[g]? = w.heap[g]?) → w.heap.size ≤ w'.heap.size → E w' A' x cs
def ListOf {α : Type} (c : Nat) (E : Elem α) (w : World) (A : Nat → Prop) (v : Value) (xs : List α) : Prop := xs.length ≤ maxLen ∧ ∃ ao cap, v = .slice ao xs.length cap ∧ (0 < xs.length → ∃ g, ao = some ⟨g, 0, none⟩ ∧ g < w.heap.size ∧ A g ∧ ∀ (k : Nat) (x : α), xs[k]? = some x → ∃ cs, cs.length = c ∧ (∀ j u, cs[j]? = some u → w.cell? ⟨g, k * c + j, none⟩ = some u) ∧ E w A x cs)
def OwnOf {α : Type} (c : Nat) (E : Elem α) (ty B : Nat) (w : World) (v : Value) (xs : List α) : Prop := ∃ us : List (List Value), us.length = xs.length ∧ (∀ u ∈ us, u.length = c) ∧ w.ownsRow B ty c v xs.length us.flatten ∧ ∀ (k : Nat) (x : α), xs[k]? = some x → ∃ cs, us[k]? = some cs ∧ E w (fun g => B ≤ g ∧ some g ≠ v.ownBlock) x cs
theorem lt_heap {w : World} {g : Nat} {o : Obj} (h : w.heap[g]? = some o) : g < w.heap.size := by
  rcases Nat.lt_or_ge g w.heap.size with hlt | hge
  · exact hlt
  · rw [Array.getElem?_eq_none hge] at h; cases h
theorem cell_same {w w' : World} {a : Addr} (h : w'.heap[a.block]? = w.heap[a.block]?) : w'.cell? a = w.cell? a := World.cell?_of_block h
theorem ListOf.keep {α : Type} {c : Nat} {E : Elem α} (hE : Keeps E) {w w' : World} {A A' : Nat → Prop} {v : Value} {xs : List α} (h : ListOf c E w A v xs) (hk : ∀ g, g < w.heap.size → A g → A' g ∧ w'.heap[g]? = w.heap[g]?) (hs : w.heap.size ≤ w'.heap.size) : ListOf c E w' A' v xs := by
  obtain ⟨hl, ao, cap, e, h⟩ := h
  refine ⟨hl, ao, cap, e, fun h0 => ?_⟩
  obtain ⟨g, e2, hg, hA, hc⟩ := h h0
  obtain ⟨hA', hb⟩ := hk g hg hA
  refine ⟨g, e2, Nat.lt_of_lt_of_le hg hs, hA', fun k x hx => ?_⟩
  obtain ⟨cs, h1, h2, h3⟩ := hc k x hx
  exact ⟨cs, h1, fun j u hj => (cell_same (a := ⟨g, k * c + j, none⟩) hb).trans (h2 j u hj), hE _ _ _ _ _ _ h3 hk hs⟩
theorem ListOf.nil {α : Type} {c : Nat} {E : Elem α} (w : World) (A : Nat → Prop) : ListOf c E w A (.slice none 0 0) ([] : List α) := ⟨Nat.zero_le _, none, 0, rfl, fun h => absurd h (Nat.lt_irrefl _)⟩
theorem flat_at {c : Nat} : ∀ (us : List (List Value)) (k j : Nat) (cs : List Value), (∀ u ∈ us, u.length = c) → us[k]? = some cs → j < c → us.flatten[k * c + j]? = cs[j]?
  | [], k, j, cs, _, h, _ => by simp at h
  | u :: us, 0, j, cs, hc, h, hj => by
    obtain rfl : u = cs := by simpa using h
    have hl := hc u (by simp)
    rw [List.flatten_cons, Nat.zero_mul, Nat.zero_add, List.getElem?_append_left (by omega)]
  | u :: us, k + 1, j, cs, hc, h, hj => by
    have hl := hc u (by simp)
    have e : (k + 1) * c + j = c + (k * c + j) := by rw [Nat.add_mul]; omega
    rw [List.flatten_cons, List.getElem?_append_right (by omega), hl, e, Nat.add_sub_cancel_left]
    exact flat_at us k j cs (fun u hu => hc u (by simp [hu])) (by simpa using h) hj
theorem ownsRow_keep {w w' : World} {base size n : Nat} {e : TypeId} {v : Value} {xs : List Value} (h : w.ownsRow base e size v n xs) (hb : ∀ g, g < w.heap.size → v.ownBlock = some g → w'.heap[g]? = w.heap[g]?) : w'.ownsRow base e size v n xs := by
  obtain ⟨hl, h | ⟨g, cap, cur, hv, hB, hh, r⟩⟩ := h
  · exact ⟨hl, .inl h⟩
  · exact ⟨hl, .inr ⟨g, cap, cur, hv, hB, (hb g (lt_heap hh) (by rw [hv]; rfl)).trans hh, r⟩⟩
theorem OwnOf.keep {α : Type} {c : Nat} {E : Elem α} (hE : Keeps E) {ty B : Nat} {w w' : World} {v : Value} {xs : List α} (h : OwnOf c E ty B w v xs) (hk : ∀ g, g < w.heap.size → B ≤ g → w'.heap[g]? = w.heap[g]?) (hs : w.heap.size ≤ w'.heap.size) : OwnOf c E ty B w' v xs := by
  obtain ⟨us, h1, h2, h3, h4⟩ := h
  refine ⟨us, h1, h2, ownsRow_keep h3 fun g hg hv => hk g hg (h3.lt g hv).1, fun k x hx => ?_⟩
  obtain ⟨cs, e, h5⟩ := h4 k x hx
  exact ⟨cs, e, hE _ _ _ _ _ _ h5 (fun g hg hA => ⟨hA, hk g hg hA.1⟩) hs⟩
theorem OwnOf.nil {α : Type} {c : Nat} {E : Elem α} (ty B : Nat) (w : World) : OwnOf c E ty B w (.slice none 0 0) ([] : List α) :=
  ⟨[], rfl, fun u hu => by simp at hu, World.ownsRow_nil _ _ _ _, fun k x hx => by simp at hx⟩
theorem OwnOf.step {α : Type} {c : Nat} {E : Elem α} (hE : Keeps E) {ty B : Nat} {w w' : World} {v v' : Value} {xs : List α} {x : α} {cs : List Value} {us : List (List Value)} (h1 : us.length = xs.length) (h2 : ∀ u ∈ us, u.length = c)
    (h4 : ∀ (k : Nat) (x : α), xs[k]? = some x → ∃ cs, us[k]? = some cs ∧ E w (fun g => B ≤ g ∧ some g ≠ v.ownBlock) x cs) (hx : E w (fun g => B ≤ g ∧ some g ≠ v.ownBlock) x cs) (hc : cs.length = c)
    (ho : w'.ownsRow B ty c v' (xs.length + 1) (us.flatten ++ cs)) (hg : w.grownBy w' v.ownBlock) (hat : v'.ownBlock = v.ownBlock ∨ v'.ownBlock = some w.heap.size) : OwnOf c E ty B w' v' (xs ++ [x]) := by
  have hk : ∀ g, g < w.heap.size → (B ≤ g ∧ some g ≠ v.ownBlock) → (B ≤ g ∧ some g ≠ v'.ownBlock) ∧ w'.heap[g]? = w.heap[g]? := fun g hgl hA => by
    refine ⟨⟨hA.1, ?_⟩, hg.block g hgl hA.2⟩
    rcases hat with h | h
    · rw [h]; exact hA.2
    · rw [h]
      intro e
      have := Option.some.inj e
      omega
  refine ⟨us ++ [cs], by simp [h1], fun u hu => ?_, by simpa using ho, fun k y hy => ?_⟩
  · rcases List.mem_append.1 hu with hu | hu
    · exact h2 u hu
    · have := List.mem_singleton.1 hu
      rw [this]; exact hc
  · by_cases hlt : k < xs.length
    · rw [List.getElem?_append_left hlt] at hy
      obtain ⟨ds, e, h5⟩ := h4 k y hy
      exact ⟨ds, by rw [List.getElem?_append_left (by omega)]; exact e, hE _ _ _ _ _ _ h5 hk hg.size⟩
    · have hk2 : k = xs.length := by
        have := List.getElem?_eq_some_iff.1 hy
        obtain ⟨h, _⟩ := this
        simp at h
        omega
      subst hk2
      obtain rfl : x = y := by simpa using hy
      exact ⟨cs, by rw [← h1]; simp, hE _ _ _ _ _ _ hx hk hg.size⟩
theorem OwnOf.lit0 {α : Type} {c : Nat} {E : Elem α} (ty B : Nat) (w : World) (hB : B ≤ w.heap.size) : OwnOf c E ty B (w.alloc (.cells #[] ty)) (.slice (some ⟨w.heap.size, 0, none⟩) 0 0) ([] : List α) :=
  ⟨[], rfl, fun u hu => by simp at hu, World.ownsRow_lit w #[] 0 hB (by decide) (by simp), fun k x hx => by simp at hx⟩
theorem OwnOf.lit1 {α : Type} {c : Nat} {E : Elem α} (hE : Keeps E) (ty B : Nat) (w : World) (hB : B ≤ w.heap.size) (x : α) (cs : List Value) (hc : cs.length = c) (hx : E w (fun g => B ≤ g) x cs) : OwnOf c E ty B (w.alloc (.cells cs.toArray ty)) (.slice (some ⟨w.heap.size, 0, none⟩) 1 1) [x] := by
  refine ⟨[cs], rfl, fun u hu => by rw [List.mem_singleton.1 hu]; exact hc, ?_, fun k y hy => ?_⟩
  · have := World.ownsRow_lit (e := ty) (size := c) w cs.toArray 1 hB (by decide) (by simp [hc])
    simpa using this
  · have hk0 : k = 0 := by
      obtain ⟨h, _⟩ := List.getElem?_eq_some_iff.1 hy
      simp at h
      omega
    subst hk0
    obtain rfl : x = y := by simpa using hy
    refine ⟨cs, rfl, hE _ _ _ _ _ _ hx (fun g hg hA => ⟨⟨hA, ?_⟩, Below.heap_alloc w _ g hg⟩) (by simp)⟩
    show some g ≠ some w.heap.size
    intro e
    have := Option.some.inj e
    omega
theorem OwnOf.done {α : Type} {c : Nat} {E : Elem α} (hE : Keeps E) {ty B : Nat} {w : World} {v : Value} {xs : List α} (h : OwnOf c E ty B w v xs) : ListOf c E w (fun g => B ≤ g) v xs := by
  obtain ⟨us, h1, h2, h3, h4⟩ := h
  refine ⟨?_, ?_⟩
  · obtain ⟨hl, ⟨h1, h2⟩ | ⟨g, cap, cur, hv, hB, hh, hn, hc, r⟩⟩ := h3 <;> omega
  · by_cases h0 : 0 < xs.length
    · obtain ⟨g, cap, e, hB, hg, hc⟩ := own_open h3 h0
      refine ⟨_, cap, e, fun _ => ⟨g, rfl, hg, hB, fun k x hx => ?_⟩⟩
      obtain ⟨cs, e2, h5⟩ := h4 k x hx
      have hcl := h2 cs (List.mem_of_getElem? e2)
      refine ⟨cs, hcl, fun j u hj => hc _ u ?_, hE _ _ _ _ _ _ h5 (fun g hg hA => ⟨hA.1, rfl⟩) (Nat.le_refl _)⟩
      have hjl : j < c := by
        obtain ⟨h, _⟩ := List.getElem?_eq_some_iff.1 hj
        omega
      rw [flat_at us k j cs h2 e2 hjl]
      exact hj
    · obtain ⟨ao, cap, e⟩ := own_form h3
      exact ⟨ao, cap, e, fun h => absurd h h0⟩
/-! items, alternatives, definitions -/
def ItmC (i : Itm) (av : Value) : List Value := [.int .i64 i.at_, .int .i64 i.kind, .string (S i.text), av, .int .u8 i.op]
def AltC (a : Altn) (iv : Value) : List Value := [.int .i64 a.1, .float .f64 a.2.1, iv]
def DefC (d : Dfn) (av : Value) : List Value := [.int .i64 d.1, .string (S d.2.1), av]
def EItm (P : World → (Nat → Prop) → Value → List Altn → Prop) : Elem Itm := fun w A i cs => ∃ av, cs = ItmC i av ∧ P w A av i.alts
def EAlt (P : World → (Nat → Prop) → Value → List Altn → Prop) : Elem Altn := fun w A a cs => ∃ iv, cs = AltC a iv ∧ ListOf 5 (EItm P) w A iv a.2.2
/-- alternatives in memory, so deep -/
def AltsAt : Nat → World → (Nat → Prop) → Value → List Altn → Prop
  | 0, w, A, v, bs => bs = [] ∧ ∃ ao cap, v = .slice ao 0 cap
  | d + 1, w, A, v, bs => ListOf 3 (EAlt (AltsAt d)) w A v bs
def EDef : Elem Dfn := fun w A d cs => ∃ av, cs = DefC d av ∧ AltsAt 17 w A av d.2.2
def KeepsP (P : World → (Nat → Prop) → Value → List Altn → Prop) : Prop := ∀ (w w' : World) (A A' : Nat → Prop) (v : Value) (bs : List Altn), P w A v bs → (∀ g, g < w.heap.size → A g → A' g ∧ w'.heap[g]? = w.heap[g]?) → w.heap.size ≤ w'.heap.size → P w' A' v bs
theorem keepsItm {P : World → (Nat → Prop) → Value → List Altn → Prop} (hP : KeepsP P) : Keeps (EItm P) := by
  rintro w w' A A' x cs ⟨av, e, h⟩ hk hs
  exact ⟨av, e, hP _ _ _ _ _ _ h hk hs⟩
theorem keepsAlt {P : World → (Nat → Prop) → Value → List Altn → Prop} (hP : KeepsP P) : Keeps (EAlt P) := by
  rintro w w' A A' x cs ⟨iv, e, h⟩ hk hs
  exact ⟨iv, e, h.keep (keepsItm hP) hk hs⟩
theorem keepsAlts : ∀ d, KeepsP (AltsAt d)
  | 0 => by
    rintro w w' A A' v bs h hk hs
    exact h
  | d + 1 => by
    intro w w' A A' v bs h hk hs
    exact ListOf.keep (keepsAlt (keepsAlts d)) h hk hs
theorem keepsDef : Keeps EDef := by
  rintro w w' A A' x cs ⟨av, e, h⟩ hk hs
  exact ⟨av, e, keepsAlts 17 _ _ _ _ _ _ h hk hs⟩
theorem AltsAt.nil (d : Nat) (w : World) (A : Nat → Prop) : AltsAt d w A (.slice none 0 0) [] := by
  cases d with
  | zero => exact ⟨rfl, none, 0, rfl⟩
  | succ d => exact ListOf.nil w A
/-! what may have turned: the blocks of S, and new ones -/
structure Kp (S : Nat → Prop) (w w' : World) : Prop where
  os : w'.os = w.os
  tape : w'.tape = w.tape
  output : w'.output = w.output
  size : w.heap.size ≤ w'.heap.size
  block : ∀ k, k < w.heap.size → ¬ S k → w'.heap[k]? = w.heap[k]?
section
variable {S T : Nat → Prop} {a b c w w' : World}
theorem Kp.refl (S : Nat → Prop) (w : World) : Kp S w w := ⟨rfl, rfl, rfl, Nat.le_refl _, fun _ _ _ => rfl⟩
theorem Kp.trans (h : Kp S a b) (k : Kp S b c) : Kp S a c :=
  ⟨k.os.trans h.os, k.tape.trans h.tape, k.output.trans h.output, Nat.le_trans h.size k.size, fun i hi hn => (k.block i (Nat.lt_of_lt_of_le hi h.size) hn).trans (h.block i hi hn)⟩
/-- behind a step whose own blocks are new, or in S -/
theorem Kp.then_ (h : Kp S a b) (k : Kp T b c) (hT : ∀ i, T i → S i ∨ a.heap.size ≤ i) : Kp S a c :=
  ⟨k.os.trans h.os, k.tape.trans h.tape, k.output.trans h.output, Nat.le_trans h.size k.size, fun i hi hn => (k.block i (Nat.lt_of_lt_of_le hi h.size) (fun ht => (hT i ht).elim hn (fun h => by omega))).trans (h.block i hi hn)⟩
theorem Kp.of_grown {row : Option Nat} (h : w.grownBy w' row) : Kp (fun i => row = some i) w w' := ⟨h.os, h.tape, h.output, h.size, fun i hi hn => h.block i hi (fun e => hn e.symm)⟩
theorem Kp.alloc (S : Nat → Prop) (w : World) (o : Obj) : Kp S w (w.alloc o) := by
  have h := World.grownBy_alloc w o none
  exact ⟨h.os, h.tape, h.output, h.size, fun i hi _ => h.block i hi (by simp)⟩
theorem Kp.of_below {n : Nat} (h : Below n w w') (hn : w.heap.size ≤ n) : Kp S w w' := ⟨h.os, h.tape, h.output, h.size, fun i hi _ => h.block i (by omega)⟩
theorem Kp.set_ (h : Kp S a b) {p : Addr} (hp : S p.block ∨ a.heap.size ≤ p.block) (u : Value) : Kp S a (b.setCell p u) := by
  refine ⟨h.os, h.tape, h.output, by simpa using h.size, fun k hk hn => (Below.heap_setCell b p u k ?_).trans (h.block k hk hn)⟩
  rintro rfl
  rcases hp with hp | hp
  · exact hn hp
  · omega
end
theorem Blk.kept {S : Nat → Prop} {w w' : World} {g : Nat} {t : TypeId} {cs : Array Value} (h : Blk w g t cs) (k : Kp S w w') (hn : ¬ S g) : Blk w' g t cs := (k.block g (lt_heap h) hn).trans h
theorem Kp.cell {S : Nat → Prop} {w w' : World} {p : Addr} {u : Value} (k : Kp S w w') (h : w.cell? p = some u) (hn : ¬ S p.block) : w'.cell? p = some u := by
  have hlt : p.block < w.heap.size := by
    rcases Nat.lt_or_ge p.block w.heap.size with hlt | hge
    · exact hlt
    · rw [World.cell?] at h; simp [Array.getElem?_eq_none hge] at h
  exact (World.cell?_of_block (k.block p.block hlt hn)).trans h
end Go.Proofs.YtjddjdpgnoebnaaGreatDoor.lx

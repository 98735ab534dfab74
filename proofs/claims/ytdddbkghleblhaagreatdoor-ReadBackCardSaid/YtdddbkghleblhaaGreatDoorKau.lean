import Derived.Test.YtdddbkghleblhaaGreatDoorKat
import Derived.Test.YtdddbkghleblhaaGreatDoorKal
import Derived.Test.YtdddbkghleblhaaGreatDoorKaj
namespace Go.Proofs.YtdddbkghleblhaaGreatDoor.lx
open Go.ChangeShapes Go.WideShapes Go.ChangeAt Go.RowKit Go.Proofs.YtdddbkghleblhaaGreatDoor.ky
set_option linter.unusedVariables false
attribute [local go_sem] run_store_float
/-! shape: alternatives in place -/
abbrev PredA := World → (Nat → Prop) → Value → List Altn → Prop
/-- a row of items, of which so many are turned -/
def ItR (P : PredA) (sh : List Altn → List Altn) (N B : Nat) (w : World) (v : Value) (is : List Itm) (i : Nat) : Prop := ∃ us : List (List Value), us.length = is.length ∧ w.ownsRow B 70 5 v is.length us.flatten ∧ ∀ (j : Nat) (y : Itm), is[j]? = some y → ∃ av, us[j]? = some (if j < i then ItmC (shI sh y) av else ItmC y av) ∧ (j < i → P w (fun g => N ≤ g) av (sh y.alts))
theorem ItR.len5 {P : PredA} {sh : List Altn → List Altn} {us : List (List Value)} {is : List Itm} {w : World} {N i : Nat} (h1 : us.length = is.length) (h2 : ∀ (j : Nat) (y : Itm), is[j]? = some y → ∃ av, us[j]? = some (if j < i then ItmC (shI sh y) av else ItmC y av) ∧ (j < i → P w (fun g => N ≤ g) av (sh y.alts))) : ∀ u ∈ us, u.length = 5 := by
  intro u hu
  obtain ⟨j, hj, rfl⟩ := List.getElem_of_mem hu
  obtain ⟨av, e, _⟩ := h2 j _ (List.getElem?_eq_getElem (by omega))
  rw [List.getElem?_eq_getElem hj] at e
  rw [Option.some.inj e]
  split <;> rfl
theorem ItR.keep {P : PredA} (hP : KeepsP P) {sh : List Altn → List Altn} {N B : Nat} {w w' : World} {v : Value} {is : List Itm} {i : Nat} (h : ItR P sh N B w v is i) (hk : ∀ g, v.ownBlock = some g → w'.heap[g]? = w.heap[g]?) (hN : ∀ g, g < w.heap.size → N ≤ g → w'.heap[g]? = w.heap[g]?) (hs : w.heap.size ≤ w'.heap.size) : ItR P sh N B w' v is i := by
  obtain ⟨us, h1, h2, h3⟩ := h
  refine ⟨us, h1, ownsRow_keep h2 (fun g _ hv => hk g hv), fun j y hj => ?_⟩
  obtain ⟨av, e, hp⟩ := h3 j y hj
  exact ⟨av, e, fun hji => hP _ _ _ _ _ _ (hp hji) (fun g hg hA => ⟨hA, hN g hg hA⟩) hs⟩
theorem ItR.of_rows {P : PredA} {sh : List Altn → List Altn} {N B : Nat} {w : World} {v : Value} {is : List Itm} (h : Rows5 B w v is) : ItR P sh N B w v is 0 := by
  obtain ⟨us, h1, h2, h3⟩ := h
  refine ⟨us, h1, h2, fun j y hj => ?_⟩
  obtain ⟨ao, n, c, e⟩ := h3 j y hj
  exact ⟨_, by rw [if_neg (by omega)]; exact e, fun h => by omega⟩
theorem ItR.form {P : PredA} {sh : List Altn → List Altn} {N B : Nat} {w : World} {v : Value} {is : List Itm} {i : Nat} (h : ItR P sh N B w v is i) : ∃ ao cap, v = .slice ao is.length cap := by
  obtain ⟨us, h1, h2, h3⟩ := h
  exact own_form h2
theorem ItR.lt {P : PredA} {sh : List Altn → List Altn} {N B : Nat} {w : World} {v : Value} {is : List Itm} {i : Nat} (h : ItR P sh N B w v is i) : ∀ g, v.ownBlock = some g → B ≤ g ∧ g < w.heap.size := by
  obtain ⟨us, h1, h2, h3⟩ := h
  exact h2.lt
theorem set_flat {c : Nat} : ∀ (us : List (List Value)) (k j : Nat) (cs : List Value) (u : Value), (∀ u ∈ us, u.length = c) → us[k]? = some cs → j < c → us.flatten.set (k * c + j) u = (us.set k (cs.set j u)).flatten
  | [], k, j, cs, u, _, h, _ => by simp at h
  | x :: us, 0, j, cs, u, hc, h, hj => by
    obtain rfl : x = cs := by simpa using h
    have hl := hc x (by simp)
    rw [List.flatten_cons, Nat.zero_mul, Nat.zero_add, List.set_append_left _ _ (by omega)]
    rfl
  | x :: us, k + 1, j, cs, u, hc, h, hj => by
    have hl := hc x (by simp)
    have e : (k + 1) * c + j = c + (k * c + j) := by rw [Nat.add_mul]; omega
    have := set_flat us k j cs u (fun u hu => hc u (by simp [hu])) (by simpa using h) hj
    rw [List.flatten_cons, e, List.set_append_right _ _ (by omega), hl, Nat.add_sub_cancel_left, this]
    rfl
/-- an item of a row that owns: its cells -/
theorem ItR.cell {P : PredA} {sh : List Altn → List Altn} {N B : Nat} {w : World} {is : List Itm} {g n cap i j : Nat} {y : Itm} (h : ItR P sh N B w (.slice (some ⟨g, 0, none⟩) n cap) is i) (hn : is.length = n) (hj : is[j]? = some y) (hij : i ≤ j) : (∀ q, q < 5 → ∃ u, w.cell? ⟨g, j * 5 + q, none⟩ = some u) ∧ (∀ q, w.frozen? ⟨g, q, none⟩ = false) := by
  subst hn
  obtain ⟨us, h1, h2, h3⟩ := h
  obtain ⟨av, e, _⟩ := h3 j y hj
  have hjl := (List.getElem?_eq_some_iff.1 hj).1
  refine ⟨fun q hq => ?_, fun q => h2.frozenAt q⟩
  rw [h2.cellAt (j * 5 + q) (by have : (j + 1) * 5 ≤ is.length * 5 := Nat.mul_le_mul_right 5 hjl; omega), flat_at us j q _ (ItR.len5 h1 h3) e hq, if_neg (by omega)]
  have : q < (ItmC y av).length := hq
  exact ⟨_, List.getElem?_eq_getElem this⟩
/-- one more item is turned: its place, then its alternatives -/
theorem ItR.turn {P : PredA} (hP : KeepsP P) {sh : List Altn → List Altn} {N B : Nat} {w w2 : World} {is : List Itm} {g n cap i : Nat} {y : Itm} {av' : Value} (h : ItR P sh N B w (.slice (some ⟨g, 0, none⟩) n cap) is i) (hn : is.length = n) (hy : is[i]? = some y) (hgN : g < N) (hNw : N ≤ w.heap.size)
    (hb : Below (w.setCell ⟨g, i * 5, none⟩ (.int .i64 0)).heap.size (w.setCell ⟨g, i * 5, none⟩ (.int .i64 0)) w2) (hp : P w2 (fun q => (w.setCell ⟨g, i * 5, none⟩ (.int .i64 0)).heap.size ≤ q) av' (sh y.alts)) : ItR P sh N B (w2.setCell ⟨g, i * 5 + 3, none⟩ av') (.slice (some ⟨g, 0, none⟩) n cap) is (i + 1) := by
  subst hn
  obtain ⟨us, h1, h2, h3⟩ := h
  obtain ⟨av, e, _⟩ := h3 i y hy
  rw [if_neg (by omega)] at e
  have h5 := ItR.len5 h1 h3
  have s1 := (h2.stored (i * 5) (.int .i64 0)).1
  have hgl := (h2.lt g rfl).2
  have s2 : w2.ownsRow B 70 5 (.slice (some ⟨g, 0, none⟩) is.length cap) is.length (us.flatten.set (i * 5) (.int .i64 0)) := ownsRow_keep s1 (fun q hq hv => hb.block q hq)
  have s3 := (s2.stored (i * 5 + 3) av').1
  have il := (List.getElem?_eq_some_iff.1 hy).1
  have e1 : us.flatten.set (i * 5) (.int .i64 0) = (us.set i ((ItmC y av).set 0 (.int .i64 0))).flatten := by
    have := set_flat us i 0 _ (.int .i64 0) h5 e (by decide)
    rwa [Nat.add_zero] at this
  have h5' : ∀ u ∈ us.set i ((ItmC y av).set 0 (.int .i64 0)), u.length = 5 := fun u hu => by
    rcases List.mem_or_eq_of_mem_set hu with hu | rfl
    · exact h5 u hu
    · rfl
  have e2 : (us.flatten.set (i * 5) (.int .i64 0)).set (i * 5 + 3) av' = (us.set i (ItmC (shI sh y) av')).flatten := by
    rw [e1, set_flat _ i 3 ((ItmC y av).set 0 (.int .i64 0)) av' h5' (by rw [List.getElem?_set_self (by omega)]) (by decide), List.set_set]
    rfl
  rw [e2] at s3
  refine ⟨us.set i (ItmC (shI sh y) av'), by simp [h1], s3, fun j z hj => ?_⟩
  have hkp : ∀ q, q ≠ g → q < w.heap.size → (w2.setCell ⟨g, i * 5 + 3, none⟩ av').heap[q]? = w.heap[q]? := fun q hq hlt => (Below.heap_setCell w2 ⟨g, i * 5 + 3, none⟩ _ q hq).trans ((hb.block q (by simpa using hlt)).trans (Below.heap_setCell w ⟨g, i * 5, none⟩ _ q hq))
  have hsz : w.heap.size ≤ (w2.setCell ⟨g, i * 5 + 3, none⟩ av').heap.size := by
    have := hb.size
    simp at this ⊢
    omega
  by_cases hji : j = i
  · subst hji
    obtain rfl : y = z := Option.some.inj (hy.symm.trans hj)
    refine ⟨av', by rw [List.getElem?_set_self (by omega), if_pos (by omega)], fun _ => hP _ _ _ _ _ _ hp (fun q hq hA => ⟨?_, ?_⟩) (by simp)⟩
    · have hA : (w.setCell ⟨g, j * 5, none⟩ (.int .i64 0)).heap.size ≤ q := hA
      simp at hA
      omega
    · refine Below.heap_setCell w2 ⟨g, j * 5 + 3, none⟩ _ q ?_
      have hA : (w.setCell ⟨g, j * 5, none⟩ (.int .i64 0)).heap.size ≤ q := hA
      simp at hA
      show q ≠ g
      omega
  · obtain ⟨av2, e3, h4⟩ := h3 j z hj
    refine ⟨av2, ?_, fun hlt => ?_⟩
    · rw [List.getElem?_set_ne (fun e => hji e.symm), e3]
      by_cases hlt : j < i
      · rw [if_pos hlt, if_pos (by omega)]
      · rw [if_neg hlt, if_neg (by omega)]
    · exact hP _ _ _ _ _ _ (h4 (by omega)) (fun q hq hA => ⟨hA, hkp q (by have hA : N ≤ q := hA; omega) hq⟩) hsz
theorem ItR.done {P : PredA} (hP : KeepsP P) {sh : List Altn → List Altn} {N B : Nat} {w : World} {v : Value} {is : List Itm} (hBN : B ≤ N) (h : ItR P sh N B w v is is.length) : ListOf 5 (EItm P) w (fun g => B ≤ g) v (is.map (shI sh)) := by
  obtain ⟨us, h1, h2, h3⟩ := h
  have h5 := ItR.len5 h1 h3
  have hl : is.length ≤ maxLen := by
    rcases h2.2 with ⟨h, h'⟩ | ⟨g, cap, cur, _, _, _, hn, hc, _⟩ <;> omega
  refine ⟨by simpa using hl, ?_⟩
  by_cases h0 : 0 < is.length
  · obtain ⟨g, cap, rfl, hB, hg, hc⟩ := own_open h2 h0
    refine ⟨_, cap, by simp, fun _ => ⟨g, rfl, hg, hB, fun k x hx => ?_⟩⟩
    rw [List.getElem?_map] at hx
    cases hy : is[k]? with
    | none => rw [hy] at hx; cases hx
    | some y =>
      rw [hy] at hx
      obtain rfl : shI sh y = x := Option.some.inj hx
      obtain ⟨av, e, hp⟩ := h3 k y hy
      have hkl := (List.getElem?_eq_some_iff.1 hy).1
      rw [if_pos hkl] at e
      refine ⟨_, rfl, fun j u hj => hc _ u ?_, av, rfl, hP _ _ _ _ _ _ (hp hkl) (fun q hq hA => ⟨by have hA : N ≤ q := hA; omega, rfl⟩) (Nat.le_refl _)⟩
      have hj5 : j < 5 := (List.getElem?_eq_some_iff.1 hj).1
      rw [flat_at us k j _ h5 e hj5]
      exact hj
  · obtain ⟨ao, cap, e⟩ := own_form h2
    refine ⟨ao, cap, by rw [List.length_map]; exact e, fun h => absurd (by simpa using h) h0⟩
/-! the whole row -/
theorem cells3_eq : ∀ (bs : List Altn) (vs : List Value), vs.length = bs.length → cells3 bs vs = (List.zipWith AltC bs vs).flatten
  | [], [], _ => rfl
  | b :: bs, [], h => by simp at h
  | [], u :: vs, h => by simp at h
  | b :: bs, u :: vs, h => by simp [cells3, cells3_eq bs vs (by simpa using h)]
theorem zip_len3 (bs : List Altn) (vs : List Value) : ∀ u ∈ List.zipWith AltC bs vs, u.length = 3 := by
  intro u hu
  obtain ⟨j, hj, rfl⟩ := List.getElem_of_mem hu
  rw [List.getElem_zipWith]
  rfl
theorem zip_at {bs : List Altn} {vs : List Value} {k : Nat} {a : Altn} {v : Value} (ha : bs[k]? = some a) (hv : vs[k]? = some v) : (List.zipWith AltC bs vs)[k]? = some (AltC a v) := by
  rw [List.getElem?_zipWith, ha, hv]
theorem cells3_at {bs : List Altn} {vs : List Value} (h : vs.length = bs.length) {k j : Nat} {a : Altn} {v : Value} (ha : bs[k]? = some a) (hv : vs[k]? = some v) (hj : j < 3) : (cells3 bs vs)[k * 3 + j]? = (AltC a v)[j]? := by
  rw [cells3_eq bs vs h]
  exact flat_at _ k j _ (zip_len3 bs vs) (zip_at ha hv) hj
theorem zip_set (bs : List Altn) (vs : List Value) (k : Nat) (a : Altn) (v : Value) (hv : vs[k]? = some v) : (List.zipWith AltC bs vs).set k (AltC a v) = List.zipWith AltC (bs.set k a) vs := by
  apply List.ext_getElem?
  intro j
  by_cases hjk : k = j
  · subst hjk
    by_cases hb : k < bs.length
    · rw [List.getElem?_zipWith, List.getElem?_set_self hb, hv, List.getElem?_set_self (by rw [List.length_zipWith]; have := (List.getElem?_eq_some_iff.1 hv).1; omega)]
    · rw [List.getElem?_eq_none (by simp; omega), List.getElem?_eq_none (by simp; omega)]
  · rw [List.getElem?_set_ne hjk, List.getElem?_zipWith, List.getElem?_zipWith, List.getElem?_set_ne hjk]
theorem cells3_set {bs : List Altn} {vs : List Value} (h : vs.length = bs.length) {k j : Nat} {a a' : Altn} {v u : Value} (ha : bs[k]? = some a) (hv : vs[k]? = some v) (hj : j < 3) (hu : (AltC a v).set j u = AltC a' v) : (cells3 bs vs).set (k * 3 + j) u = cells3 (bs.set k a') vs := by
  rw [cells3_eq bs vs h, cells3_eq _ vs (by simpa using h), set_flat _ k j _ u (zip_len3 bs vs) (zip_at ha hv) hj, hu, zip_set _ _ _ _ _ hv]
/-- alternatives bs, whose heads are those of cs by now, with rows vs, of each so many items turned -/
structure ShI (P : PredA) (sh : List Altn → List Altn) (N B : Nat) (v : Value) (bs : List Altn) (vs : List Value) (cs : List Altn) (f : Nat → Nat) (w : World) : Prop where
  cl : cs.length = bs.length
  vl : vs.length = bs.length
  own : w.ownsRow B 67 3 v bs.length (cells3 cs vs)
  lt : ∀ g, v.ownBlock = some g → g < N
  it : ∀ (j : Nat) (a : Altn), bs[j]? = some a → ∃ u, vs[j]? = some u ∧ ItR P sh N B w u a.2.2 (f j) ∧ ∀ g, u.ownBlock = some g → g < N
  pw : vs.Pairwise (fun a b => a.ownBlock = none ∨ a.ownBlock ≠ b.ownBlock)
  hN : N ≤ w.heap.size
theorem apart_ty {w : World} {B B' n n' s s' : Nat} {v v' : Value} {xs ys : List Value} (h1 : w.ownsRow B 70 s v n xs) (h2 : w.ownsRow B' 67 s' v' n' ys) {g : Nat} (hg : v'.ownBlock = some g) : v.ownBlock ≠ some g := by
  intro hv
  rcases h1.2 with ⟨h, _⟩ | ⟨q, cap, cur, e, hB, hh, _⟩
  · rw [h] at hv; cases hv
  · rcases h2.2 with ⟨h, _⟩ | ⟨q', cap', cur', e', hB', hh', _⟩
    · rw [h] at hg; cases hg
    · rw [e] at hv
      rw [e'] at hg
      have hv : some q = some g := hv
      have hg : some q' = some g := hg
      cases hv
      cases hg
      rw [hh] at hh'
      have := Option.some.inj hh'
      injection this with _ h2 _
      exact absurd h2 (by decide)
section
variable {P : PredA} (hP : KeepsP P) {sh : List Altn → List Altn} {N B : Nat} {v : Value} {bs cs : List Altn} {vs : List Value} {f : Nat → Nat} {w w' : World}
include hP
theorem ShI.below (h : ShI P sh N B v bs vs cs f w) (hb : Below w.heap.size w w') : ShI P sh N B v bs vs cs f w' := by
  refine ⟨h.cl, h.vl, ownsRow_keep h.own (fun g hg _ => hb.block g hg), h.lt, fun j a hj => ?_, h.pw, Nat.le_trans h.hN hb.size⟩
  obtain ⟨u, h1, h2, h3⟩ := h.it j a hj
  exact ⟨u, h1, h2.keep hP (fun g hg => hb.block g (h2.lt g hg).2) (fun g hg _ => hb.block g hg) hb.size, h3⟩
/-- a store in the row of alternatives -/
theorem ShI.head {g n cap k j : Nat} {a a' : Altn} {u x : Value} (h : ShI P sh N B (.slice (some ⟨g, 0, none⟩) n cap) bs vs cs f w) (hn : bs.length = n) (ha : cs[k]? = some a) (hu : vs[k]? = some u) (hj : j < 3) (hx : (AltC a u).set j x = AltC a' u) : ShI P sh N B (.slice (some ⟨g, 0, none⟩) n cap) bs vs (cs.set k a') f (w.setCell ⟨g, k * 3 + j, none⟩ x) := by
  subst hn
  have hkp : ∀ q, q ≠ g → (w.setCell ⟨g, k * 3 + j, none⟩ x).heap[q]? = w.heap[q]? := fun q hq => Below.heap_setCell w ⟨g, k * 3 + j, none⟩ _ q hq
  have hgN := h.lt g rfl
  refine ⟨by simpa using h.cl, h.vl, ?_, h.lt, fun i b hi => ?_, h.pw, by simpa using h.hN⟩
  · have := (h.own.stored (k * 3 + j) x).1
    rw [cells3_set (h.vl.trans h.cl.symm) ha hu hj hx] at this
    exact this
  · obtain ⟨u, h1, h2, h3⟩ := h.it i b hi
    refine ⟨u, h1, h2.keep hP (fun q hq => hkp q (fun e => ?_)) (fun q hq hA => hkp q (by omega)) (by simp), h3⟩
    obtain ⟨us, _, ho, _⟩ := h2
    exact apart_ty ho h.own rfl (by rw [hq, e])
/-- a row of items is turned, nothing else -/
theorem ShI.item {g n cap k i' : Nat} {a : Altn} (h : ShI P sh N B v bs vs cs f w) (ha : bs[k]? = some a) (hu : vs[k]? = some (.slice (some ⟨g, 0, none⟩) n cap)) (hi : ItR P sh N B w' (.slice (some ⟨g, 0, none⟩) n cap) a.2.2 i') (hk : ∀ q, q ≠ g → q < w.heap.size → w'.heap[q]? = w.heap[q]?) (hs : w.heap.size ≤ w'.heap.size) : ShI P sh N B v bs vs cs (fun j => if j = k then i' else f j) w' := by
  obtain ⟨u, h1, h2, h3⟩ := h.it k a ha
  obtain rfl : .slice (some ⟨g, 0, none⟩) n cap = u := Option.some.inj (hu.symm.trans h1)
  have hgN := h3 g rfl
  refine ⟨h.cl, h.vl, ownsRow_keep h.own (fun q hq hv => hk q (fun e => ?_) hq), h.lt, fun j b hj => ?_, h.pw, Nat.le_trans h.hN hs⟩
  · obtain ⟨us, _, ho, _⟩ := h2
    exact apart_ty ho h.own hv (by rw [e]; rfl)
  · by_cases hjk : j = k
    · subst hjk
      obtain rfl : a = b := Option.some.inj (ha.symm.trans hj)
      exact ⟨_, hu, by simp only [if_true]; exact hi, h3⟩
    · obtain ⟨u, e1, e2, e3⟩ := h.it j b hj
      refine ⟨u, e1, ?_, e3⟩
      simp only [if_neg hjk]
      refine e2.keep hP (fun q hq => hk q (fun e => ?_) (e2.lt q hq).2) (fun q hq hA => hk q (by omega) hq) hs
      subst e
      have hjl := (List.getElem?_eq_some_iff.1 e1).1
      have hkl := (List.getElem?_eq_some_iff.1 hu).1
      have gj := (List.getElem?_eq_some_iff.1 e1).2
      have gk := (List.getElem?_eq_some_iff.1 hu).2
      rcases Nat.lt_or_ge j k with hlt | hge
      · have := (List.pairwise_iff_getElem.1 h.pw) j k hjl hkl hlt
        rw [gj, gk, hq] at this
        rcases this with e | e
        · cases e
        · exact e rfl
      · have := (List.pairwise_iff_getElem.1 h.pw) k j hkl hjl (by omega)
        rw [gj, gk, hq] at this
        rcases this with e | e
        · cases e
        · exact e rfl
theorem ShI.done (h : ShI P sh N B v bs vs cs f w) (hBN : B ≤ N) (hc : cs = bs.map fun a => (0, shW a.2.1, a.2.2)) (hf : ∀ (j : Nat) (a : Altn), bs[j]? = some a → f j = a.2.2.length) : ListOf 3 (EAlt P) w (fun g => B ≤ g) v (bs.map (shB sh)) := by
  have hl : bs.length ≤ maxLen := by
    rcases h.own.2 with ⟨h, h'⟩ | ⟨g, cap, cur, _, _, _, hn, hc, _⟩ <;> omega
  refine ⟨by simpa using hl, ?_⟩
  by_cases h0 : 0 < bs.length
  · obtain ⟨g, cap, e, hB, hg, hcell⟩ := own_open h.own h0
    refine ⟨_, cap, by rw [List.length_map]; exact e, fun _ => ⟨g, rfl, hg, hB, fun k x hx => ?_⟩⟩
    rw [List.getElem?_map] at hx
    cases ha : bs[k]? with
    | none => rw [ha] at hx; cases hx
    | some a =>
      rw [ha] at hx
      obtain rfl : shB sh a = x := Option.some.inj hx
      obtain ⟨u, h1, h2, h3⟩ := h.it k a ha
      rw [hf k a ha] at h2
      have hck : cs[k]? = some (0, shW a.2.1, a.2.2) := by rw [hc, List.getElem?_map, ha]; rfl
      refine ⟨AltC (shB sh a) u, rfl, fun j z hj => hcell _ z ?_, u, rfl, h2.done hP hBN⟩
      have hj3 : j < 3 := (List.getElem?_eq_some_iff.1 hj).1
      rw [cells3_at (h.vl.trans h.cl.symm) hck h1 hj3]
      exact hj
  · obtain ⟨ao, cap, e⟩ := own_form h.own
    exact ⟨ao, cap, by rw [List.length_map]; exact e, fun h => absurd (by simpa using h) h0⟩
end
theorem ShI.of {P : PredA} {sh : List Altn → List Altn} {B : Nat} {w : World} {v : Value} {bs : List Altn} (h : ShM B w v bs) : ∃ vs, ShI P sh w.heap.size B v bs vs bs (fun _ => 0) w := by
  obtain ⟨vs, h1, h2, h3, h4⟩ := h
  refine ⟨vs, rfl, h1, h2, fun g hg => (h2.lt g hg).2, fun j a hj => ?_, h4, Nat.le_refl _⟩
  obtain ⟨u, e, hr⟩ := h3 j a hj
  exact ⟨u, e, ItR.of_rows hr, fun g hg => (hr.lt g hg).2⟩

/-! heads that are turned, one by one -/
def hz1 (a : Altn) : Altn := (0, shW a.2.1, a.2.2)
def hdK (k : Nat) (bs : List Altn) : List Altn := (bs.take k).map hz1 ++ bs.drop k
def fK (bs : List Altn) (k j : Nat) : Nat := if j < k then ((bs.getD j (0, 0, [])).2.2).length else 0
theorem hdK_at {bs : List Altn} {k : Nat} {a : Altn} (h : bs[k]? = some a) : (hdK k bs)[k]? = some a := by
  have hk := (List.getElem?_eq_some_iff.1 h).1
  unfold hdK
  rw [List.getElem?_append_right (by simp; omega)]
  simp [List.getElem?_drop, h, Nat.min_eq_left (Nat.le_of_lt hk)]
theorem hdK_set {bs : List Altn} {k : Nat} {a : Altn} (h : bs[k]? = some a) : (hdK k bs).set k (hz1 a) = hdK (k + 1) bs := by
  have hk := (List.getElem?_eq_some_iff.1 h).1
  have hl : ((bs.take k).map hz1).length = k := by simp; omega
  unfold hdK
  rw [List.set_append_right _ _ (by omega), hl, Nat.sub_self, List.drop_eq_getElem_cons hk, (List.getElem?_eq_some_iff.1 h).2, List.set_cons_zero]
  have e : bs.take (k + 1) = bs.take k ++ [a] := by rw [List.take_add_one, h]; rfl
  rw [e, List.map_append, List.append_assoc]
  rfl
theorem fK_self (bs : List Altn) (k : Nat) : (fun j => if j = k then 0 else fK bs k j) = fK bs k := by
  funext j
  by_cases h : j = k
  · subst h
    simp [fK]
  · rw [if_neg h]
theorem fK_next {bs : List Altn} {k : Nat} {a : Altn} (h : bs[k]? = some a) : (fun j => if j = k then a.2.2.length else fK bs k j) = fK bs (k + 1) := by
  funext j
  unfold fK
  by_cases hj : j = k
  · subst hj
    rw [if_pos rfl, if_pos (by omega), List.getD_eq_getElem?_getD, h]
    rfl
  · rw [if_neg hj]
    by_cases hlt : j < k
    · rw [if_pos hlt, if_pos (by omega)]
    · rw [if_neg hlt, if_neg (by omega)]
theorem fK_again (f : Nat → Nat) (k i i' : Nat) : (fun j => if j = k then i' else (fun j => if j = k then i else f j) j) = (fun j => if j = k then i' else f j) := by
  funext j
  by_cases h : j = k <;> simp [h]
theorem below_set {w0 w : World} {g j : Nat} {x : Value} (h : Below w0.heap.size w0 w) (hg : w0.heap.size ≤ g) : Below w0.heap.size w0 (w.setCell ⟨g, j, none⟩ x) :=
  h.trans ((kp_at w g j x).below h.size (fun i hi => by have hi : i = g := hi; omega))
def ShT (P : PredA) (sh : List Altn → List Altn) (ok : List Altn → Prop) : Prop := ∀ (w : World) (A : Nat → Prop) (v : Value) (bs : List Altn), P w A v bs → ok bs → Calls Tryz.prog 12 #[v] w fun e w' => (∃ v', e = .returned v' ∧ P w' (fun g => w.heap.size ≤ g) v' (sh bs)) ∧ Below w.heap.size w w'
def okSh (Sm ok : List Altn → Prop) (bs : List Altn) : Prop := bs.length ≤ 70000 ∧ ∀ (j : Nat) (x : Altn), bs[j]? = some x → x.2.1 < 18446744073709551616 ∧ x.2.2.length ≤ 70000 ∧ ∀ (i : Nat) (y : Itm), x.2.2[i]? = some y → Sm y.alts ∧ ok y.alts
set_option maxRecDepth 100000 in
set_option maxHeartbeats 8000000 in
theorem shape_list (P : PredA) (hP : KeepsP P) (hF : ∀ (w : World) (A : Nat → Prop) (v : Value) (bs : List Altn), P w A v bs → ∃ ao cap, v = .slice ao bs.length cap) (sh : List Altn → List Altn) (Sm ok : List Altn → Prop) (hpl : PlainT P Sm) (hrec : ShT P sh ok) : ShT (fun w A v bs => ListOf 3 (EAlt P) w A v bs) (fun bs => bs.map (shB sh)) (okSh Sm ok) := by
  intro w A v bs h1 hok
  obtain ⟨ao, cap, rfl⟩ := ListOf.form h1
  have hl := hok.1
  have HOK := Lib.hid hok
  have H1 := Lib.hid h1
  have HPL := Lib.hid (plain_rows P hP hF Sm hpl w A (.slice ao bs.length cap) bs h1 ⟨hok.1, fun j x hx => ⟨(hok.2 j x hx).2.1, fun i y hy => ((hok.2 j x hx).2.2 i y hy).1⟩⟩)
  have HP := Lib.hid hP
  have HC := Lib.hid hrec
  have HF := Lib.hid hF
  generalize hn : bs.length = n at *
  have HN := Lib.hid hn
  clear h1 hrec hP hF hn hok hpl
  go_enter Tryz.func12, Tryz.ntmps12
  go_wp2_with fail
  refine HPL.out.mono ?_
  rintro e w1 ⟨⟨v1, rfl, hsm⟩, hb1⟩
  obtain ⟨vs, hI⟩ := ShI.of (P := P) (sh := sh) hsm
  obtain ⟨ao1, cap1, rfl⟩ : ∃ ao cap, v1 = .slice ao n cap := by rw [← HN.out]; exact own_form hI.own
  have hI0 : ShI P sh w1.heap.size w.heap.size (.slice ao1 n cap1) bs vs (hdK 0 bs) (fK bs 0) w1 := by
    have e1 : hdK 0 bs = bs := rfl
    have e2 : fK bs 0 = fun _ => 0 := by funext j; rfl
    rw [e1, e2]
    exact hI
  have HI0 := Lib.hid hI0
  have HB1 := Lib.hid hb1
  have hz1' := hb1.size
  clear hsm hI hI0 hb1 HPL
  go_wp2_with fail
  go_loopw [12] (fun i wr => ∃ (k : Nat), i = .int .i64 k ∧ k ≤ n ∧ Below w.heap.size w wr ∧ ShI P sh w1.heap.size w.heap.size (.slice ao1 n cap1) bs vs (hdK k bs) (fK bs k) wr) (fun i _ => n - (intOf i).toNat)
  case atStart => exact ⟨0, rfl, Nat.zero_le _, HB1.out, HI0.out⟩
  case round =>
    clear HI0
    obtain ⟨k, rfl, hk, hbr, hI⟩ := hrel
    have HBR := Lib.hid hbr
    have HI := Lib.hid hI
    have hzr := hbr.size
    clear hbr
    by_cases hlt : k < n
    · obtain ⟨x, hx⟩ : ∃ x, bs[k]? = some x := ⟨_, List.getElem?_eq_getElem (by rw [HN.out]; exact hlt)⟩
      obtain ⟨hw64, hm2, hoki⟩ := HOK.out.2 k x hx
      obtain ⟨u, hu, hit, hult⟩ := hI.it k x hx
      obtain ⟨g, cap', e, hBg, hgl, _⟩ := own_open hI.own (by rw [HN.out]; omega)
      rw [HN.out] at e
      injection e with e1 e2 e3
      subst e1
      clear e2 e3
      obtain ⟨ai, ci, rfl⟩ := hit.form
      have HX := Lib.hid hx
      have HU := Lib.hid hu
      have HOKI := Lib.hid hoki
      have hck := hdK_at hx
      have hcell : ∀ (cs : List Altn) (c : Altn) (wz : World), ShI P sh w1.heap.size w.heap.size (.slice (some ⟨g, 0, none⟩) n cap1) bs vs cs (fK bs k) wz → cs[k]? = some c → wz.cell? ⟨g, k * 3, none⟩ = some (.int .i64 c.1) ∧ wz.cell? ⟨g, k * 3 + 1, none⟩ = some (.float .f64 c.2.1) ∧ wz.cell? ⟨g, k * 3 + 2, none⟩ = some (.slice ai x.2.2.length ci) ∧ (∀ q, wz.frozen? ⟨g, q, none⟩ = false) ∧ g < wz.heap.size := fun cs c wz h hc => by
        have ho := h.own
        rw [HN.out] at ho
        have hk3 : (k + 1) * 3 ≤ n * 3 := Nat.mul_le_mul_right 3 hlt
        have hj := fun j hj => (ho.cellAt (k * 3 + j) (by omega)).trans (cells3_at (h.vl.trans h.cl.symm) hc HU.out (j := j) hj)
        exact ⟨hj 0 (by decide), hj 1 (by decide), hj 2 (by decide), fun q => ho.frozenAt q, (ho.lt g rfl).2⟩
      have HCELL := Lib.hid hcell
      obtain ⟨c0, c1, c2, fr, gl⟩ := hcell _ _ _ hI hck
      have fr0 := fr (k * 3)
      obtain ⟨x1, x2, xs⟩ := x
      replace hm2 : xs.length ≤ 70000 := hm2
      replace hw64 : x2 < 18446744073709551616 := hw64
      simp only at c0 c1 c2 HCELL
      have HHK : Hid ((hdK k bs)[k]? = some (x1, x2, xs)) := Lib.hid hck
      have HCL := Lib.hid hI.cl
      generalize hms : xs.length = m at *
      have HMS := Lib.hid hms
      have HIT := Lib.hid hit
      clear hI hit hult hx hu hoki hck hcell hms fr
      go_upto_region 6 with fail
      have hI5 := HI.out.head HP.out HN.out HHK.out HU.out (j := 0) (x := .int .i64 0) (a' := (0, x2, xs)) (by decide) rfl
      have hb5 := below_set (j := k * 3) (x := .int .i64 0) HBR.out hBg
      replace hI5 : ShI P sh w1.heap.size w.heap.size (.slice (some ⟨g, 0, none⟩) n cap1) bs vs ((hdK k bs).set k (0, x2, xs)) (fK bs k) (wr.setCell ⟨g, k * 3, none⟩ (.int .i64 0)) := hI5
      clear c0 c1 c2 fr0 gl
      generalize wr.setCell ⟨g, k * 3, none⟩ (.int .i64 0) = w5 at *
      have hc5 : ((hdK k bs).set k (0, x2, xs))[k]? = some (0, x2, xs) := by rw [List.getElem?_set_self]; rw [HCL.out, HN.out]; exact hlt
      obtain ⟨_, c1, c2, fr, gl⟩ := HCELL.out _ _ _ hI5 hc5
      have HI5 := Lib.hid hI5
      have HB5 := Lib.hid hb5
      have HNM := Lib.hid (number_any x2 hw64)
      have HRD := Lib.hid (fun w => rread_any (S (numP x2)) (by have := (num_facts' x2).2.2.2.1; show (numP x2).length ≤ _; unfold maxLen; omega) w)
      rw [show (S (numP x2)).data.toList = numP x2 from rfl] at HRD
      have HSM := Lib.hid (fun w => rsame_any x2 0 w hw64 (by decide))
      generalize hR : readF (numP x2) = R at *
      have HR := Lib.hid hR
      clear hI5 hb5 c2 fr hR
      go_upto_region 7 with (first | (go_at_call 23; refine (HNM.out _).mono ?_; rintro e w6 ⟨rfl, hb6⟩) | (go_at_call 24; refine (HRD.out _).mono ?_; rintro e w7 ⟨rfl, hq7⟩))
      have hb57 : Below w5.heap.size w5 w7 := hb6.trans ((hq7.below (B := w6.heap.size)).mono hb6.size)
      have hI7 := HI5.out.below HP.out hb57
      obtain ⟨_, c1, c2, fr, gl⟩ := HCELL.out _ _ _ hI7 hc5
      have fr1 := fr (k * 3 + 1)
      have HI7 := Lib.hid hI7
      have HB7 := Lib.hid (HB5.out.trans (hb57.mono HB5.out.size))
      have HC5 := Lib.hid hc5
      clear hb6 hq7 hb57 hI7 fr hc5 HI5 HB5
      by_cases hw0 : keyN x2 = keyN 0
      · rw [decide_eq_true hw0] at HSM
        have HI8 : Hid (ShI P sh w1.heap.size w.heap.size (.slice (some ⟨g, 0, none⟩) n cap1) bs vs (hdK (k + 1) bs) (fK bs k) w7) := Lib.hid (by
          rw [← hdK_set HX.out]
          have e : hz1 (x1, x2, xs) = (0, x2, xs) := by unfold hz1 shW; rw [if_pos hw0]
          rw [e]
          exact HI7.out)
        clear fr1
        have HB8 := HB7
        go_wp2_with (go_at_call 19; refine (HSM.out _).mono ?_; rintro e w8 ⟨rfl, rfl⟩)
        clear c1 c2 gl HB7 HI7
        have HI9 := Lib.hid (show ShI P sh w1.heap.size w.heap.size (.slice (some ⟨g, 0, none⟩) n cap1) bs vs (hdK (k + 1) bs) (fun j => if j = k then 0 else fK bs k j) _ from by rw [fK_self]; exact HI8.out)
        go_loopw [47] (fun j wi => ∃ (i : Nat), j = .int .i64 i ∧ i ≤ m ∧ Below w.heap.size w wi ∧ ShI P sh w1.heap.size w.heap.size (.slice (some ⟨g, 0, none⟩) n cap1) bs vs (hdK (k + 1) bs) (fun j => if j = k then i else fK bs k j) wi) (fun j _ => m - (intOf j).toNat)
        case atStart => exact ⟨0, rfl, Nat.zero_le _, HB8.out, HI9.out⟩
        case round =>
          clear HI8 HI9 HB8
          obtain ⟨i, rfl, hi, hbi, hIi⟩ := hrel
          have HBI := Lib.hid hbi
          have HII := Lib.hid hIi
          have hzi := hbi.size
          by_cases hli : i < m
          · obtain ⟨y, hy⟩ : ∃ y, xs[i]? = some y := ⟨_, List.getElem?_eq_getElem (by rw [HMS.out]; exact hli)⟩
            obtain ⟨u, hu, hit, hult⟩ := hIi.it k _ HX.out
            simp only [if_true] at hit
            obtain rfl : .slice ai m ci = u := by
              have := HU.out
              rw [hu] at this
              exact (Option.some.inj this).symm
            obtain ⟨g3, rfl⟩ : ∃ g3, ai = some ⟨g3, 0, none⟩ := by
              obtain ⟨us, _, ho, _⟩ := hit
              obtain ⟨g3, cap', e, _⟩ := own_open ho (by show 0 < xs.length; rw [HMS.out]; omega)
              injection e with e1 e2 e3
              exact ⟨g3, e1⟩
            have hgN := hult g3 rfl
            have hlt3 := hit.lt g3 rfl
            obtain ⟨hcx, hfx⟩ := hit.cell (show xs.length = m from HMS.out) hy (Nat.le_refl _)
            obtain ⟨z0, d0⟩ := hcx 0 (by decide)
            replace d0 : wr.cell? ⟨g3, i * 5, none⟩ = some z0 := d0
            have f0 := hfx (i * 5)
            have hc8 : (hdK (k + 1) bs)[k]? = some (0, shW x2, xs) := by
              rw [← hdK_set HX.out, List.getElem?_set_self (by rw [HCL.out, HN.out]; exact hlt)]
              rfl
            have ho := hIi.own
            rw [HN.out] at ho
            have hk3 : (k + 1) * 3 ≤ n * 3 := Nat.mul_le_mul_right 3 hlt
            have hgg : g ≠ g3 := fun e => by
              obtain ⟨us, _, ho3, _⟩ := hit
              exact apart_ty ho3 ho (g := g) rfl (by rw [e]; rfl)
            have c2 : wr.cell? ⟨g, k * 3 + 2, none⟩ = some (.slice (some ⟨g3, 0, none⟩) m ci) := by
              rw [← HMS.out]
              exact (ho.cellAt (k * 3 + 2) (by omega)).trans (cells3_at (hIi.vl.trans hIi.cl.symm) hc8 (by rw [HMS.out]; exact HU.out) (j := 2) (by decide))
            have gl := (ho.lt g rfl).2
            obtain ⟨g0, rfl, hg0, cs0, _, hcs0, iv0, rfl, hiv0⟩ := ListOf.at2_ (by rw [HN.out]; exact H1.out) HX.out
            obtain ⟨ai0, ci0, rfl⟩ := hiv0.form
            replace hiv0 : ListOf 5 (EItm P) w A (.slice ai0 xs.length ci0) xs := hiv0
            obtain ⟨g1, rfl, hg1, cs1, _, hcs1, av1, rfl, hav1⟩ := ListOf.at2_ hiv0 hy
            obtain ⟨ay, cy, rfl⟩ := HF.out _ _ _ _ hav1
            obtain ⟨y1, y2, y3, y4, y5⟩ := y
            replace hav1 : P w A (.slice ay y4.length cy) y4 := hav1
            have s2 : wr.cell? ⟨g0, k * 3 + 2, none⟩ = some (.slice (some ⟨g1, 0, none⟩) m ci0) := by
              rw [← HMS.out]
              exact (hbi.cell (p := ⟨g0, k * 3 + 2, none⟩) hg0).trans (hcs0 2 _ rfl)
            have s3 : wr.cell? ⟨g1, i * 5 + 3, none⟩ = some (.slice ay y4.length cy) := (hbi.cell (p := ⟨g1, i * 5 + 3, none⟩) hg1).trans (hcs1 3 _ rfl)
            have HY := Lib.hid hy
            have HIT3 := Lib.hid hit
            have hoky := (HOKI.out i _ hy).2
            have HSP := Lib.hid (fun wx (hx : Below w.heap.size w wx) => HC.out wx A (.slice ay y4.length cy) y4 (HP.out _ _ _ _ _ _ hav1 (fun q hq hA => ⟨hA, hx.block q hq⟩) hx.size) hoky)
            have HHO := Lib.hid ho
            clear hu hit hult hy hcx hfx hc8 ho hIi hbi hcs0 hiv0 hcs1 hav1 hoky
            go_upto_region 13 with fail
            have hb9 := below_set (j := i * 5) (x := .int .i64 0) HBI.out hlt3.1
            have hfar : ∀ p : Addr, p.block ≠ g3 → (wr.setCell ⟨g3, i * 5, none⟩ (.int .i64 0)).cell? p = wr.cell? p := fun p hp => World.cell?_setCell_far wr _ _ _ (Ne.symm hp)
            have c2 := (hfar ⟨g, k * 3 + 2, none⟩ hgg).trans c2
            have s2 := (hfar ⟨g0, k * 3 + 2, none⟩ (by show g0 ≠ g3; omega)).trans s2
            have s3 := (hfar ⟨g1, i * 5 + 3, none⟩ (by show g1 ≠ g3; omega)).trans s3
            have hz9 : (wr.setCell ⟨g3, i * 5, none⟩ (.int .i64 0)).heap.size = wr.heap.size := by simp
            have hw9 : ∃ w9, w9 = wr.setCell ⟨g3, i * 5, none⟩ (.int .i64 0) := ⟨_, rfl⟩
            obtain ⟨w9, hw9⟩ := hw9
            rw [← hw9] at hb9 c2 s2 s3 hz9 ⊢
            have HW9 := Lib.hid hw9
            have HB9 := Lib.hid hb9
            have HZ9 := Lib.hid hz9
            have hl9 : g < w9.heap.size := by omega
            have hl0 : g0 < w9.heap.size := by omega
            have hl1 : g1 < w9.heap.size := by omega
            clear hfar hw9 hb9 d0 f0 hz9
            refine wp_region_E (fun W => Below w9.heap.size w9 W) [18] (by kernel_rfl) ?_
            change anyE _ _ _ _ _ _ _ _ _ (World.drew _)
            have HS : Below w9.heap.size w9 (World.drew w9) := (Below.refl _ _).drew
            refine anyE_take (i := 0) (v := ?_) rfl (by kernel_rfl) (by kernel_rfl) (by kernel_rfl) (by kernel_rfl) (by kernel_rfl) (fun _ _ _ h => h) (Or.inl ⟨by kernel_rfl, ?_⟩) HS ?_
            rotate_left
            · intro w _; go_simp; with_reducible rfl
            refine anyE_take (i := 1) (v := ?_) rfl (by kernel_rfl) (by kernel_rfl) (by kernel_rfl) (by kernel_rfl) (by kernel_rfl) (fun _ _ _ h => h) (Or.inl ⟨by kernel_rfl, ?_⟩) HS ?_
            rotate_left
            · intro w _; go_simp; with_reducible rfl
            refine anyE_take (i := 2) (v := ?_) rfl (by kernel_rfl) (by kernel_rfl) (by kernel_rfl) (by kernel_rfl) (by kernel_rfl) (fun _ _ _ h => h) (Or.inl ⟨by kernel_rfl, ?_⟩) HS ?_
            rotate_left
            · intro w _; go_simp; with_reducible rfl
            refine anyE_take (i := 3) (v := ?_) rfl (by kernel_rfl) (by kernel_rfl) (by kernel_rfl) (by kernel_rfl) (by kernel_rfl) (fun _ _ _ h => h) (Or.inl ⟨by kernel_rfl, ?_⟩) HS ?_
            rotate_left
            · intro w _; go_simp; with_reducible rfl
            refine anyE_take (i := 4) (v := ?_) rfl (by kernel_rfl) (by kernel_rfl) (by kernel_rfl) (by kernel_rfl) (by kernel_rfl) (fun _ _ _ h => h) (Or.inl ⟨by kernel_rfl, ?_⟩) HS ?_
            rotate_left
            · intro w hw; have hw := (hw.cell (p := ⟨g, k * 3 + 2, none⟩) hl9).trans c2; go_simp; with_reducible rfl
            refine anyE_take (i := 5) (v := ?_) rfl (by kernel_rfl) (by kernel_rfl) (by kernel_rfl) (by kernel_rfl) (by kernel_rfl) (fun _ _ _ h => h) (Or.inl ⟨by kernel_rfl, ?_⟩) HS ?_
            rotate_left
            · intro w _; go_simp; with_reducible rfl
            refine anyE_take (i := 6) (v := ?_) rfl (by kernel_rfl) (by kernel_rfl) (by kernel_rfl) (by kernel_rfl) (by kernel_rfl) (fun _ _ _ h => h) (Or.inl ⟨by kernel_rfl, ?_⟩) HS ?_
            rotate_left
            · intro w _; go_simp; with_reducible rfl
            refine anyE_take (i := 7) (v := ?_) rfl (by kernel_rfl) (by kernel_rfl) (by kernel_rfl) (by kernel_rfl) (by kernel_rfl) (fun _ _ _ h => h) (Or.inl ⟨by kernel_rfl, ?_⟩) HS ?_
            rotate_left
            · intro w _; go_simp; with_reducible rfl
            refine anyE_take (i := 8) (v := ?_) rfl (by kernel_rfl) (by kernel_rfl) (by kernel_rfl) (by kernel_rfl) (by kernel_rfl) (fun _ _ _ h => h) (Or.inl ⟨by kernel_rfl, ?_⟩) HS ?_
            rotate_left
            · intro w _; go_simp; with_reducible rfl
            refine anyE_take (i := 9) (v := ?_) rfl (by kernel_rfl) (by kernel_rfl) (by kernel_rfl) (by kernel_rfl) (by kernel_rfl) (fun _ _ _ h => h) (Or.inl ⟨by kernel_rfl, ?_⟩) HS ?_
            rotate_left
            · intro w _; go_simp; with_reducible rfl
            refine anyE_take (i := 10) (v := ?_) rfl (by kernel_rfl) (by kernel_rfl) (by kernel_rfl) (by kernel_rfl) (by kernel_rfl) (fun _ _ _ h => h) (Or.inl ⟨by kernel_rfl, ?_⟩) HS ?_
            rotate_left
            · intro w hw; have hw := (hw.cell (p := ⟨g0, k * 3 + 2, none⟩) hl0).trans s2; go_simp; with_reducible rfl
            refine anyE_take (i := 11) (v := ?_) rfl (by kernel_rfl) (by kernel_rfl) (by kernel_rfl) (by kernel_rfl) (by kernel_rfl) (fun _ _ _ h => h) (Or.inl ⟨by kernel_rfl, ?_⟩) HS ?_
            rotate_left
            · intro w _; go_simp; with_reducible rfl
            refine anyE_take (i := 12) (v := ?_) rfl (by kernel_rfl) (by kernel_rfl) (by kernel_rfl) (by kernel_rfl) (by kernel_rfl) (fun _ _ _ h => h) (Or.inl ⟨by kernel_rfl, ?_⟩) HS ?_
            rotate_left
            · intro w _; go_simp; with_reducible rfl
            refine anyE_take (i := 13) (v := ?_) rfl (by kernel_rfl) (by kernel_rfl) (by kernel_rfl) (by kernel_rfl) (by kernel_rfl) (fun _ _ _ h => h) (Or.inl ⟨by kernel_rfl, ?_⟩) HS ?_
            rotate_left
            · intro w _; go_simp; with_reducible rfl
            refine anyE_take (i := 14) (v := ?_) rfl (by kernel_rfl) (by kernel_rfl) (by kernel_rfl) (by kernel_rfl) (by kernel_rfl) (fun _ _ _ h => h) (Or.inl ⟨by kernel_rfl, ?_⟩) HS ?_
            rotate_left
            · intro w hw; have hw := (hw.cell (p := ⟨g1, i * 5 + 3, none⟩) hl1).trans s3; go_simp; with_reducible rfl
            refine anyE_ready (rs := [15]) (by kernel_rfl) (by simp) ?_
            refine ReadyE.cons rfl (by kernel_rfl) (fun K hK => ?_) ReadyE.nil
            go_simp
            go_at_call 12
            refine (HSP.out _ (HB9.out.trans (HS.mono HB9.out.size))).mono ?_
            rintro e w10 ⟨⟨v10, rfl, hp10⟩, hb10⟩
            obtain ⟨a10, c10, rfl⟩ := HF.out _ _ _ _ hp10
            have hb910 : Below w9.heap.size w9 w10 := HS.trans (hb10.mono HS.size)
            refine hK.out _ _ (fun _ => hb910) ?_
            clear hK K
            refine anyE_take (i := 16) (v := ?_) rfl (by kernel_rfl) (by kernel_rfl) (by kernel_rfl) (by kernel_rfl) (by kernel_rfl) (fun _ _ _ h => h) (Or.inl ⟨by kernel_rfl, ?_⟩) hb910 ?_
            rotate_left
            · intro w _; go_simp; with_reducible rfl
            refine anyE_take (i := 17) (v := ?_) rfl (by kernel_rfl) (by kernel_rfl) (by kernel_rfl) (by kernel_rfl) (by kernel_rfl) (fun _ _ _ h => h) (Or.inl ⟨by kernel_rfl, ?_⟩) hb910 ?_
            rotate_left
            · intro w _; go_simp; with_reducible rfl
            refine anyE_rest (by kernel_rfl) ?_
            have htn := HIT3.out.turn HP.out (show xs.length = m from HMS.out) HY.out hgN HII.out.hN (by rw [← HW9.out]; exact hb910) (av' := .slice a10 (sh y4).length c10) (by rw [← HW9.out]; exact hp10)
            have hin := HII.out.item HP.out (g := g3) (n := m) (cap := ci) (i' := i + 1) HX.out HU.out htn (fun q hq hlt => (Below.heap_setCell w10 ⟨g3, i * 5 + 3, none⟩ _ q hq).trans ((hb910.block q (by rw [HZ9.out]; exact hlt)).trans (by rw [HW9.out]; exact Below.heap_setCell wr ⟨g3, i * 5, none⟩ _ q hq))) (by have := hb910.size; rw [HZ9.out] at this; simpa using this)
            rw [fK_again] at hin
            have hbz := below_set (j := i * 5 + 3) (x := .slice a10 (sh y4).length c10) (HB9.out.trans (hb910.mono HB9.out.size)) hlt3.1
            have HIN := Lib.hid hin
            have HBZ := Lib.hid hbz
            obtain ⟨z3, d3, f3, l3⟩ : ∃ z3, w10.cell? ⟨g3, i * 5 + 3, none⟩ = some z3 ∧ w10.frozen? ⟨g3, i * 5 + 3, none⟩ = false ∧ g3 < w10.heap.size := by
              obtain ⟨us, h1, h2, h3⟩ := HIT3.out
              obtain ⟨av, e, _⟩ := h3 i _ HY.out
              replace h2 : wr.ownsRow w.heap.size 70 5 (.slice (some ⟨g3, 0, none⟩) m ci) m us.flatten := by
                have h := h2
                change wr.ownsRow w.heap.size 70 5 (.slice (some ⟨g3, 0, none⟩) m ci) xs.length us.flatten at h
                rw [HMS.out] at h
                exact h
              have s1 := (h2.stored (i * 5) (.int .i64 0)).1
              rw [← HW9.out] at s1
              have s2 := ownsRow_keep s1 (fun q hq hv => hb910.block q hq)
              have hi5 : (i + 1) * 5 ≤ m * 5 := Nat.mul_le_mul_right 5 hli
              have hc := s2.cellAt (i * 5 + 3) (by omega)
              have h5 := ItR.len5 h1 h3
              rw [if_neg (by omega)] at e
              rw [List.getElem?_set_ne (by omega), flat_at us i 3 _ h5 e (by decide)] at hc
              exact ⟨_, hc, s2.frozenAt _, (s2.lt g3 rfl).2⟩
            clear htn hin hbz hp10 hb10
            refine wpAny_ready (rs := [18]) (by kernel_rfl) (by simp) ?_
            refine AllReady.cons rfl (fun K hK => ?_) AllReady.nil
            go_simp
            refine hK _ _ ?_
            clear hK K d3 f3
            refine wpAny_done (by kernel_rfl) ?_ _
            go_wp2_with fail
            exact ⟨⟨i + 1, by go_num, hli, HBZ.out, HIN.out⟩, by simp only [intOf]; omega⟩
          · obtain rfl : i = m := by omega
            have HI10 := Lib.hid (show ShI P sh w1.heap.size w.heap.size (.slice (some ⟨g, 0, none⟩) n cap1) bs vs (hdK (k + 1) bs) (fK bs (k + 1)) wr from by
              have e := fK_next HX.out
              rw [← e]
              have := HII.out
              rw [← HMS.out] at this
              exact this)
            clear hIi hbi
            go_wp2_with fail
            exact ⟨⟨k + 1, by go_num, hlt, HBI.out, HI10.out⟩, by simp only [intOf]; omega⟩
      · rw [decide_eq_false hw0] at HSM
        have hI8 := HI7.out.head HP.out HN.out HC5.out HU.out (j := 1) (x := .float .f64 R) (a' := (0, R, xs)) (by decide) rfl
        replace hI8 : ShI P sh w1.heap.size w.heap.size (.slice (some ⟨g, 0, none⟩) n cap1) bs vs (hdK (k + 1) bs) (fK bs k) (w7.setCell ⟨g, k * 3 + 1, none⟩ (.float .f64 R)) := by
          rw [List.set_set] at hI8
          rw [← hdK_set HX.out]
          have e : hz1 (x1, x2, xs) = (0, R, xs) := by unfold hz1 shW; rw [if_neg hw0, HR.out]
          rw [e]
          exact hI8
        have HI8 := Lib.hid hI8
        have HB8 := Lib.hid (below_set (j := k * 3 + 1) (x := .float .f64 R) HB7.out hBg)
        have hc8 : (hdK (k + 1) bs)[k]? = some (0, shW x2, xs) := by
          rw [← hdK_set HX.out, List.getElem?_set_self (by rw [HCL.out, HN.out]; exact hlt)]
          rfl
        clear c2 hI8
        go_upto_region 9 with (go_at_call 19; refine (HSM.out _).mono ?_; rintro e w8 ⟨rfl, rfl⟩)
        clear c1 fr1 gl HB7 HI7
        generalize w7.setCell ⟨g, k * 3 + 1, none⟩ (.float .f64 R) = w8 at *
        obtain ⟨_, _, c2, _, gl⟩ := HCELL.out _ _ _ HI8.out hc8
        go_wp2_with fail
        clear c2 gl hc8
        have HI9 := Lib.hid (show ShI P sh w1.heap.size w.heap.size (.slice (some ⟨g, 0, none⟩) n cap1) bs vs (hdK (k + 1) bs) (fun j => if j = k then 0 else fK bs k j) _ from by rw [fK_self]; exact HI8.out)
        go_loopw [47] (fun j wi => ∃ (i : Nat), j = .int .i64 i ∧ i ≤ m ∧ Below w.heap.size w wi ∧ ShI P sh w1.heap.size w.heap.size (.slice (some ⟨g, 0, none⟩) n cap1) bs vs (hdK (k + 1) bs) (fun j => if j = k then i else fK bs k j) wi) (fun j _ => m - (intOf j).toNat)
        case atStart => exact ⟨0, rfl, Nat.zero_le _, HB8.out, HI9.out⟩
        case round =>
          clear HI8 HI9 HB8
          obtain ⟨i, rfl, hi, hbi, hIi⟩ := hrel
          have HBI := Lib.hid hbi
          have HII := Lib.hid hIi
          have hzi := hbi.size
          by_cases hli : i < m
          · obtain ⟨y, hy⟩ : ∃ y, xs[i]? = some y := ⟨_, List.getElem?_eq_getElem (by rw [HMS.out]; exact hli)⟩
            obtain ⟨u, hu, hit, hult⟩ := hIi.it k _ HX.out
            simp only [if_true] at hit
            obtain rfl : .slice ai m ci = u := by
              have := HU.out
              rw [hu] at this
              exact (Option.some.inj this).symm
            obtain ⟨g3, rfl⟩ : ∃ g3, ai = some ⟨g3, 0, none⟩ := by
              obtain ⟨us, _, ho, _⟩ := hit
              obtain ⟨g3, cap', e, _⟩ := own_open ho (by show 0 < xs.length; rw [HMS.out]; omega)
              injection e with e1 e2 e3
              exact ⟨g3, e1⟩
            have hgN := hult g3 rfl
            have hlt3 := hit.lt g3 rfl
            obtain ⟨hcx, hfx⟩ := hit.cell (show xs.length = m from HMS.out) hy (Nat.le_refl _)
            obtain ⟨z0, d0⟩ := hcx 0 (by decide)
            replace d0 : wr.cell? ⟨g3, i * 5, none⟩ = some z0 := d0
            have f0 := hfx (i * 5)
            have hc8 : (hdK (k + 1) bs)[k]? = some (0, shW x2, xs) := by
              rw [← hdK_set HX.out, List.getElem?_set_self (by rw [HCL.out, HN.out]; exact hlt)]
              rfl
            have ho := hIi.own
            rw [HN.out] at ho
            have hk3 : (k + 1) * 3 ≤ n * 3 := Nat.mul_le_mul_right 3 hlt
            have hgg : g ≠ g3 := fun e => by
              obtain ⟨us, _, ho3, _⟩ := hit
              exact apart_ty ho3 ho (g := g) rfl (by rw [e]; rfl)
            have c2 : wr.cell? ⟨g, k * 3 + 2, none⟩ = some (.slice (some ⟨g3, 0, none⟩) m ci) := by
              rw [← HMS.out]
              exact (ho.cellAt (k * 3 + 2) (by omega)).trans (cells3_at (hIi.vl.trans hIi.cl.symm) hc8 (by rw [HMS.out]; exact HU.out) (j := 2) (by decide))
            have gl := (ho.lt g rfl).2
            obtain ⟨g0, rfl, hg0, cs0, _, hcs0, iv0, rfl, hiv0⟩ := ListOf.at2_ (by rw [HN.out]; exact H1.out) HX.out
            obtain ⟨ai0, ci0, rfl⟩ := hiv0.form
            replace hiv0 : ListOf 5 (EItm P) w A (.slice ai0 xs.length ci0) xs := hiv0
            obtain ⟨g1, rfl, hg1, cs1, _, hcs1, av1, rfl, hav1⟩ := ListOf.at2_ hiv0 hy
            obtain ⟨ay, cy, rfl⟩ := HF.out _ _ _ _ hav1
            obtain ⟨y1, y2, y3, y4, y5⟩ := y
            replace hav1 : P w A (.slice ay y4.length cy) y4 := hav1
            have s2 : wr.cell? ⟨g0, k * 3 + 2, none⟩ = some (.slice (some ⟨g1, 0, none⟩) m ci0) := by
              rw [← HMS.out]
              exact (hbi.cell (p := ⟨g0, k * 3 + 2, none⟩) hg0).trans (hcs0 2 _ rfl)
            have s3 : wr.cell? ⟨g1, i * 5 + 3, none⟩ = some (.slice ay y4.length cy) := (hbi.cell (p := ⟨g1, i * 5 + 3, none⟩) hg1).trans (hcs1 3 _ rfl)
            have HY := Lib.hid hy
            have HIT3 := Lib.hid hit
            have hoky := (HOKI.out i _ hy).2
            have HSP := Lib.hid (fun wx (hx : Below w.heap.size w wx) => HC.out wx A (.slice ay y4.length cy) y4 (HP.out _ _ _ _ _ _ hav1 (fun q hq hA => ⟨hA, hx.block q hq⟩) hx.size) hoky)
            have HHO := Lib.hid ho
            clear hu hit hult hy hcx hfx hc8 ho hIi hbi hcs0 hiv0 hcs1 hav1 hoky
            go_upto_region 13 with fail
            have hb9 := below_set (j := i * 5) (x := .int .i64 0) HBI.out hlt3.1
            have hfar : ∀ p : Addr, p.block ≠ g3 → (wr.setCell ⟨g3, i * 5, none⟩ (.int .i64 0)).cell? p = wr.cell? p := fun p hp => World.cell?_setCell_far wr _ _ _ (Ne.symm hp)
            have c2 := (hfar ⟨g, k * 3 + 2, none⟩ hgg).trans c2
            have s2 := (hfar ⟨g0, k * 3 + 2, none⟩ (by show g0 ≠ g3; omega)).trans s2
            have s3 := (hfar ⟨g1, i * 5 + 3, none⟩ (by show g1 ≠ g3; omega)).trans s3
            have hz9 : (wr.setCell ⟨g3, i * 5, none⟩ (.int .i64 0)).heap.size = wr.heap.size := by simp
            have hw9 : ∃ w9, w9 = wr.setCell ⟨g3, i * 5, none⟩ (.int .i64 0) := ⟨_, rfl⟩
            obtain ⟨w9, hw9⟩ := hw9
            rw [← hw9] at hb9 c2 s2 s3 hz9 ⊢
            have HW9 := Lib.hid hw9
            have HB9 := Lib.hid hb9
            have HZ9 := Lib.hid hz9
            have hl9 : g < w9.heap.size := by omega
            have hl0 : g0 < w9.heap.size := by omega
            have hl1 : g1 < w9.heap.size := by omega
            clear hfar hw9 hb9 d0 f0 hz9
            refine wp_region_E (fun W => Below w9.heap.size w9 W) [18] (by kernel_rfl) ?_
            change anyE _ _ _ _ _ _ _ _ _ (World.drew _)
            have HS : Below w9.heap.size w9 (World.drew w9) := (Below.refl _ _).drew
            refine anyE_take (i := 0) (v := ?_) rfl (by kernel_rfl) (by kernel_rfl) (by kernel_rfl) (by kernel_rfl) (by kernel_rfl) (fun _ _ _ h => h) (Or.inl ⟨by kernel_rfl, ?_⟩) HS ?_
            rotate_left
            · intro w _; go_simp; with_reducible rfl
            refine anyE_take (i := 1) (v := ?_) rfl (by kernel_rfl) (by kernel_rfl) (by kernel_rfl) (by kernel_rfl) (by kernel_rfl) (fun _ _ _ h => h) (Or.inl ⟨by kernel_rfl, ?_⟩) HS ?_
            rotate_left
            · intro w _; go_simp; with_reducible rfl
            refine anyE_take (i := 2) (v := ?_) rfl (by kernel_rfl) (by kernel_rfl) (by kernel_rfl) (by kernel_rfl) (by kernel_rfl) (fun _ _ _ h => h) (Or.inl ⟨by kernel_rfl, ?_⟩) HS ?_
            rotate_left
            · intro w _; go_simp; with_reducible rfl
            refine anyE_take (i := 3) (v := ?_) rfl (by kernel_rfl) (by kernel_rfl) (by kernel_rfl) (by kernel_rfl) (by kernel_rfl) (fun _ _ _ h => h) (Or.inl ⟨by kernel_rfl, ?_⟩) HS ?_
            rotate_left
            · intro w _; go_simp; with_reducible rfl
            refine anyE_take (i := 4) (v := ?_) rfl (by kernel_rfl) (by kernel_rfl) (by kernel_rfl) (by kernel_rfl) (by kernel_rfl) (fun _ _ _ h => h) (Or.inl ⟨by kernel_rfl, ?_⟩) HS ?_
            rotate_left
            · intro w hw; have hw := (hw.cell (p := ⟨g, k * 3 + 2, none⟩) hl9).trans c2; go_simp; with_reducible rfl
            refine anyE_take (i := 5) (v := ?_) rfl (by kernel_rfl) (by kernel_rfl) (by kernel_rfl) (by kernel_rfl) (by kernel_rfl) (fun _ _ _ h => h) (Or.inl ⟨by kernel_rfl, ?_⟩) HS ?_
            rotate_left
            · intro w _; go_simp; with_reducible rfl
            refine anyE_take (i := 6) (v := ?_) rfl (by kernel_rfl) (by kernel_rfl) (by kernel_rfl) (by kernel_rfl) (by kernel_rfl) (fun _ _ _ h => h) (Or.inl ⟨by kernel_rfl, ?_⟩) HS ?_
            rotate_left
            · intro w _; go_simp; with_reducible rfl
            refine anyE_take (i := 7) (v := ?_) rfl (by kernel_rfl) (by kernel_rfl) (by kernel_rfl) (by kernel_rfl) (by kernel_rfl) (fun _ _ _ h => h) (Or.inl ⟨by kernel_rfl, ?_⟩) HS ?_
            rotate_left
            · intro w _; go_simp; with_reducible rfl
            refine anyE_take (i := 8) (v := ?_) rfl (by kernel_rfl) (by kernel_rfl) (by kernel_rfl) (by kernel_rfl) (by kernel_rfl) (fun _ _ _ h => h) (Or.inl ⟨by kernel_rfl, ?_⟩) HS ?_
            rotate_left
            · intro w _; go_simp; with_reducible rfl
            refine anyE_take (i := 9) (v := ?_) rfl (by kernel_rfl) (by kernel_rfl) (by kernel_rfl) (by kernel_rfl) (by kernel_rfl) (fun _ _ _ h => h) (Or.inl ⟨by kernel_rfl, ?_⟩) HS ?_
            rotate_left
            · intro w _; go_simp; with_reducible rfl
            refine anyE_take (i := 10) (v := ?_) rfl (by kernel_rfl) (by kernel_rfl) (by kernel_rfl) (by kernel_rfl) (by kernel_rfl) (fun _ _ _ h => h) (Or.inl ⟨by kernel_rfl, ?_⟩) HS ?_
            rotate_left
            · intro w hw; have hw := (hw.cell (p := ⟨g0, k * 3 + 2, none⟩) hl0).trans s2; go_simp; with_reducible rfl
            refine anyE_take (i := 11) (v := ?_) rfl (by kernel_rfl) (by kernel_rfl) (by kernel_rfl) (by kernel_rfl) (by kernel_rfl) (fun _ _ _ h => h) (Or.inl ⟨by kernel_rfl, ?_⟩) HS ?_
            rotate_left
            · intro w _; go_simp; with_reducible rfl
            refine anyE_take (i := 12) (v := ?_) rfl (by kernel_rfl) (by kernel_rfl) (by kernel_rfl) (by kernel_rfl) (by kernel_rfl) (fun _ _ _ h => h) (Or.inl ⟨by kernel_rfl, ?_⟩) HS ?_
            rotate_left
            · intro w _; go_simp; with_reducible rfl
            refine anyE_take (i := 13) (v := ?_) rfl (by kernel_rfl) (by kernel_rfl) (by kernel_rfl) (by kernel_rfl) (by kernel_rfl) (fun _ _ _ h => h) (Or.inl ⟨by kernel_rfl, ?_⟩) HS ?_
            rotate_left
            · intro w _; go_simp; with_reducible rfl
            refine anyE_take (i := 14) (v := ?_) rfl (by kernel_rfl) (by kernel_rfl) (by kernel_rfl) (by kernel_rfl) (by kernel_rfl) (fun _ _ _ h => h) (Or.inl ⟨by kernel_rfl, ?_⟩) HS ?_
            rotate_left
            · intro w hw; have hw := (hw.cell (p := ⟨g1, i * 5 + 3, none⟩) hl1).trans s3; go_simp; with_reducible rfl
            refine anyE_ready (rs := [15]) (by kernel_rfl) (by simp) ?_
            refine ReadyE.cons rfl (by kernel_rfl) (fun K hK => ?_) ReadyE.nil
            go_simp
            go_at_call 12
            refine (HSP.out _ (HB9.out.trans (HS.mono HB9.out.size))).mono ?_
            rintro e w10 ⟨⟨v10, rfl, hp10⟩, hb10⟩
            obtain ⟨a10, c10, rfl⟩ := HF.out _ _ _ _ hp10
            have hb910 : Below w9.heap.size w9 w10 := HS.trans (hb10.mono HS.size)
            refine hK.out _ _ (fun _ => hb910) ?_
            clear hK K
            refine anyE_take (i := 16) (v := ?_) rfl (by kernel_rfl) (by kernel_rfl) (by kernel_rfl) (by kernel_rfl) (by kernel_rfl) (fun _ _ _ h => h) (Or.inl ⟨by kernel_rfl, ?_⟩) hb910 ?_
            rotate_left
            · intro w _; go_simp; with_reducible rfl
            refine anyE_take (i := 17) (v := ?_) rfl (by kernel_rfl) (by kernel_rfl) (by kernel_rfl) (by kernel_rfl) (by kernel_rfl) (fun _ _ _ h => h) (Or.inl ⟨by kernel_rfl, ?_⟩) hb910 ?_
            rotate_left
            · intro w _; go_simp; with_reducible rfl
            refine anyE_rest (by kernel_rfl) ?_
            have htn := HIT3.out.turn HP.out (show xs.length = m from HMS.out) HY.out hgN HII.out.hN (by rw [← HW9.out]; exact hb910) (av' := .slice a10 (sh y4).length c10) (by rw [← HW9.out]; exact hp10)
            have hin := HII.out.item HP.out (g := g3) (n := m) (cap := ci) (i' := i + 1) HX.out HU.out htn (fun q hq hlt => (Below.heap_setCell w10 ⟨g3, i * 5 + 3, none⟩ _ q hq).trans ((hb910.block q (by rw [HZ9.out]; exact hlt)).trans (by rw [HW9.out]; exact Below.heap_setCell wr ⟨g3, i * 5, none⟩ _ q hq))) (by have := hb910.size; rw [HZ9.out] at this; simpa using this)
            rw [fK_again] at hin
            have hbz := below_set (j := i * 5 + 3) (x := .slice a10 (sh y4).length c10) (HB9.out.trans (hb910.mono HB9.out.size)) hlt3.1
            have HIN := Lib.hid hin
            have HBZ := Lib.hid hbz
            obtain ⟨z3, d3, f3, l3⟩ : ∃ z3, w10.cell? ⟨g3, i * 5 + 3, none⟩ = some z3 ∧ w10.frozen? ⟨g3, i * 5 + 3, none⟩ = false ∧ g3 < w10.heap.size := by
              obtain ⟨us, h1, h2, h3⟩ := HIT3.out
              obtain ⟨av, e, _⟩ := h3 i _ HY.out
              replace h2 : wr.ownsRow w.heap.size 70 5 (.slice (some ⟨g3, 0, none⟩) m ci) m us.flatten := by
                have h := h2
                change wr.ownsRow w.heap.size 70 5 (.slice (some ⟨g3, 0, none⟩) m ci) xs.length us.flatten at h
                rw [HMS.out] at h
                exact h
              have s1 := (h2.stored (i * 5) (.int .i64 0)).1
              rw [← HW9.out] at s1
              have s2 := ownsRow_keep s1 (fun q hq hv => hb910.block q hq)
              have hi5 : (i + 1) * 5 ≤ m * 5 := Nat.mul_le_mul_right 5 hli
              have hc := s2.cellAt (i * 5 + 3) (by omega)
              have h5 := ItR.len5 h1 h3
              rw [if_neg (by omega)] at e
              rw [List.getElem?_set_ne (by omega), flat_at us i 3 _ h5 e (by decide)] at hc
              exact ⟨_, hc, s2.frozenAt _, (s2.lt g3 rfl).2⟩
            clear htn hin hbz hp10 hb10
            refine wpAny_ready (rs := [18]) (by kernel_rfl) (by simp) ?_
            refine AllReady.cons rfl (fun K hK => ?_) AllReady.nil
            go_simp
            refine hK _ _ ?_
            clear hK K d3 f3
            refine wpAny_done (by kernel_rfl) ?_ _
            go_wp2_with fail
            exact ⟨⟨i + 1, by go_num, hli, HBZ.out, HIN.out⟩, by simp only [intOf]; omega⟩
          · obtain rfl : i = m := by omega
            have HI10 := Lib.hid (show ShI P sh w1.heap.size w.heap.size (.slice (some ⟨g, 0, none⟩) n cap1) bs vs (hdK (k + 1) bs) (fK bs (k + 1)) wr from by
              have e := fK_next HX.out
              rw [← e]
              have := HII.out
              rw [← HMS.out] at this
              exact this)
            clear hIi hbi
            go_wp2_with fail
            exact ⟨⟨k + 1, by go_num, hlt, HBI.out, HI10.out⟩, by simp only [intOf]; omega⟩
    · obtain rfl : k = n := by omega
      clear hI
      go_wp2_with fail
      go_ret
      refine ⟨⟨_, rfl, HI.out.done HP.out HB1.out.size (by unfold hdK; rw [← HN.out, List.take_length, List.drop_length, List.append_nil]; rfl) (fun j a hj => ?_)⟩, HBR.out⟩
      have hjl := (List.getElem?_eq_some_iff.1 hj).1
      have hjn : j < bs.length := hjl
      rw [HN.out] at hjn
      unfold fK
      rw [if_pos hjn, List.getD_eq_getElem?_getD, hj]
      rfl
end Go.Proofs.YtdddbkghleblhaaGreatDoor.lx

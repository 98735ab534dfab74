import Derived.Test.YthcnffieoocnkaaAlik
namespace Go.Proofs.Ythcnffieoocnkaa.st
open Go.ChangeShapes Go.WideShapes Go.ChangeAt Go.RowKit Go.Maps Go.WideMaps Go.WideElems
set_option linter.unusedVariables false
def Fine (x : List Int) : Prop := (∀ n ∈ x, In64 n) ∧ x.length ≤ 1000
/-- the keys are those of the words -/
def KeysOf (Ks : List (List UInt8)) (X : List (List Int)) : Prop := (∀ x ∈ X, Fine x) ∧ ∀ z, z ∈ Ks ↔ ∃ x ∈ X, keyB x = z
def Up (Y : List (List Int)) : Prop := Y.Pairwise (fun a b => ltW a b = true)
theorem ltW_trans : ∀ {a b c : List Int}, ltW a b = true → ltW b c = true → ltW a c = true
  | [], [], _, h, _ => by simp [ltW] at h
  | [], _ :: _, [], _, h => by simp [ltW] at h
  | [], _ :: _, _ :: _, _, _ => by simp [ltW]
  | _ :: _, [], _, h, _ => by simp [ltW] at h
  | _ :: _, _ :: _, [], _, h => by simp [ltW] at h
  | x :: a, y :: b, z :: c, h1, h2 => by
    simp [ltW] at h1 h2 ⊢
    rcases h1 with h1 | ⟨rfl, h1⟩
    · rcases h2 with h2 | ⟨rfl, _⟩
      · left; omega
      · left; exact h1
    · rcases h2 with h2 | ⟨rfl, h2⟩
      · left; exact h2
      · right; exact ⟨rfl, ltW_trans h1 h2⟩
theorem Up.unique : ∀ {A B : List (List Int)}, Up A → Up B → (∀ x, x ∈ A ↔ x ∈ B) → A = B
  | [], [], _, _, _ => rfl
  | [], b :: B, _, _, h => by have := (h b).2 (by simp); simp at this
  | a :: A, [], _, _, h => by have := (h a).1 (by simp); simp at this
  | a :: A, b :: B, h1, h2, h => by
    unfold Up at h1 h2
    rw [List.pairwise_cons] at h1 h2
    have e : a = b := by
      have ha := (h a).1 (by simp)
      have hb := (h b).2 (by simp)
      simp only [List.mem_cons] at ha hb
      rcases ha with e | ha
      · exact e
      rcases hb with e | hb
      · exact e.symm
      have h3 := ltW_trans (h1.1 b hb) (h2.1 a ha)
      rw [ltW_irr] at h3
      cases h3
    subst e
    have ht : ∀ x, x ∈ A ↔ x ∈ B := fun x => by
      constructor
      · intro hx
        have := (h x).1 (by simp [hx])
        simp only [List.mem_cons] at this
        rcases this with e | this
        · subst e
          have := h1.1 x hx
          rw [ltW_irr] at this
          cases this
        · exact this
      · intro hx
        have := (h x).2 (by simp [hx])
        simp only [List.mem_cons] at this
        rcases this with e | this
        · subst e
          have := h2.1 x hx
          rw [ltW_irr] at this
          cases this
        · exact this
    rw [Up.unique h1.2 h2.2 ht]
theorem up_of_keys {ws : List (List Int)} (hf : ∀ x ∈ ws, Fine x) (hs : (ws.map keyB).Pairwise (· ≤ ·)) (hn : (ws.map keyB).Nodup) : Up ws := by
  unfold Up
  rw [List.pairwise_map] at hs
  unfold List.Nodup at hn
  rw [List.pairwise_map] at hn
  have h := hs.and hn
  refine h.imp_of_mem ?_
  intro a b ha hb hab
  rw [← keyB_lt (hf a ha).1 (hf b hb).1]
  rcases List.le_iff_lt_or_eq.1 hab.1 with h | h
  · exact h
  · exact absurd h hab.2
theorem own_cells' {w : World} {base g n cap : Nat} {e : TypeId} {vals : List Value} (h : w.ownsRow base e 1 (.slice (some ⟨g, 0, none⟩) n cap) n vals) (j : Nat) (u : Value) (hj : vals[j]? = some u) : w.cell? ((⟨g, 0, none⟩ : Addr).add j) = some u := by
  have hl : j < vals.length := (List.getElem?_eq_some_iff.1 hj).1
  have e1 : (⟨g, 0, none⟩ : Addr).add j = ⟨g, j, none⟩ := by
    simp [Addr.add]
    exact fun h => h.symm
  rw [e1, h.cellAt j (by have := h.1; omega)]
  exact hj
theorem words_own_at {B : Nat} {w : World} {v : Value} {ws : List (List Int)} (h : WordsOwn B w v ws) (hf : ∀ x ∈ ws, Fine x) : WordsAt w v ws := by
  obtain ⟨g, us, rfl, hown, hi⟩ := h
  refine ⟨_, _, rfl, fun i hlt => ?_⟩
  obtain ⟨gi, hne, hu, hoi⟩ := hi i hlt
  have hw := hf (ws.getD i []) (by rw [List.getD_eq_getElem?_getD, List.getElem?_eq_getElem hlt]; simp)
  refine ⟨_, _, rfl, own_lt hown, own_cells' hown i _ hu, ⟨_, _, rfl, hw.1, fun j hj => ⟨_, rfl, own_lt hoi, own_cells' hoi j _ ?_⟩⟩, hw.2⟩
  generalize ws.getD i [] = x at *
  simp [IV, List.getElem?_eq_getElem hj]
theorem KeysOf.inj {Ks : List (List UInt8)} {X : List (List Int)} (h : KeysOf Ks X) {x : List Int} (hx : Fine x) : keyB x ∈ Ks ↔ x ∈ X := by
  rw [h.2]
  constructor
  · rintro ⟨y, hy, e⟩
    rw [keyB_inj (h.1 y hy).1 hx.1 e] at hy
    exact hy
  · exact fun hy => ⟨x, hy, rfl⟩
def AllIs (B : Nat) (w : World) (v : Value) (Y : List (List Int)) : Prop := (v = .slice none 0 0 ∧ Y = []) ∨ WordsOwn B w v Y
theorem all_any (w : World) (s : Nat) (mo : Option Nat) (Ks : List (List UInt8)) (X Y : List (List Int)) (h : SetIs w s mo Ks) (hk : KeysOf Ks X) (hl : Ks.length ≤ 1000) (hY : Up Y) (hm : ∀ x, x ∈ Y ↔ x ∈ X) : Calls Try.prog 20 #[.pointer (some ⟨s, 0, none⟩)] w fun e w' => ∃ v, e = .returned v ∧ AllIs w.heap.size w' v Y ∧ WordsAt w' v Y ∧ Below w.heap.size w w' := by
  cases Ks with
  | nil =>
    have hY0 : Y = [] := by
      cases Y with
      | nil => rfl
      | cons y Y =>
        have := (hk.2 (keyB y)).2 ⟨y, (hm y).1 (by simp), rfl⟩
        cases this
    subst hY0
    exact (all_none w s mo h).mono fun e w' ⟨he, hw⟩ => ⟨_, he, .inl ⟨rfl, rfl⟩, ⟨none, 0, rfl, fun i hi => absurd hi (Nat.not_lt_zero _)⟩, hw ▸ Below.refl _ _⟩
  | cons k0 Ks' =>
    have hex : ∀ k : List UInt8, ∃ x : List Int, k ∈ k0 :: Ks' → x ∈ X ∧ keyB x = k := fun k => by
      by_cases hin : k ∈ k0 :: Ks'
      · obtain ⟨x, hx, e⟩ := (hk.2 k).1 hin
        exact ⟨x, fun _ => ⟨hx, e⟩⟩
      · exact ⟨[], fun h => absurd h hin⟩
    have hwd : ∃ wd : List UInt8 → List Int, ∀ k, k ∈ k0 :: Ks' → wd k ∈ X ∧ keyB (wd k) = k := ⟨fun k => Classical.choose (hex k), fun k => Classical.choose_spec (hex k)⟩
    obtain ⟨wd, hwd⟩ := hwd
    refine (all_some w s mo _ wd (fun k hkk => ⟨(hwd k hkk).2, hk.1 _ (hwd k hkk).1⟩) h hl (by simp)).mono fun e w' ⟨v, ws, he, ho, hp, hs, hf, hb⟩ => ?_
    have hup := up_of_keys hf hs (hp.nodup_iff.2 h.nodup)
    have hws : ws = Y := hup.unique hY fun x => by
      rw [hm x]
      constructor
      · intro hx
        have h1 : keyB x ∈ k0 :: Ks' := hp.mem_iff.1 (List.mem_map_of_mem hx)
        exact (hk.inj (hf x hx)).1 h1
      · intro hx
        have h1 : keyB x ∈ ws.map keyB := hp.mem_iff.2 ((hk.inj (hk.1 x hx)).2 hx)
        obtain ⟨y, hy, e⟩ := List.mem_map.1 h1
        rw [← keyB_inj (hf y hy).1 (hk.1 x hx).1 e]
        exact hy
    subst hws
    exact ⟨v, he, .inr ho, words_own_at ho hf, hb⟩
end Go.Proofs.Ythcnffieoocnkaa.st

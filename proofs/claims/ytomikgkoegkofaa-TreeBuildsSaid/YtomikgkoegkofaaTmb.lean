import Derived.Test.YtomikgkoegkofaaTma
namespace Go.Proofs.Ytomikgkoegkofaa.dt
open Go.Proofs.Ytomikgkoegkofaa.dv
set_option linter.unusedVariables false
set_option linter.unusedSimpArgs false
/-! the mathematics of trees: rows of trees, their nodes, and what rules build them -/
/-- a row of trees: the first one's symbol, rule and kids, and the others -/
inductive Fo
  | nil
  | node (s r : Int) (kids rest : Fo)
namespace Fo
def len : Fo → Nat
  | nil => 0
  | node _ _ _ f => f.len + 1
def size : Fo → Nat
  | nil => 0
  | node _ _ k f => k.size + f.size + 1
def high : Fo → Nat
  | nil => 0
  | node _ _ k f => max (k.high + 1) f.high
def syms : Fo → List Int
  | nil => []
  | node s _ _ f => s :: f.syms
def nodes : Fo → Nat → List (Int × Int × Nat)
  | nil, _ => []
  | node s r k f, lv => (s, r, lv) :: (k.nodes (lv + 1) ++ f.nodes lv)
def rules : Fo → List Int
  | nil => []
  | node s r k f => (if 0 ≤ s then [r] else []) ++ (k.rules ++ f.rules)
def word : Fo → List Int
  | nil => []
  | node s _ k f => (if s < 0 then [-1 - s] else []) ++ (k.word ++ f.word)
def same : Fo → Fo → Bool
  | nil, nil => true
  | node s r k f, node s' r' k' f' => (decide (s = s') && decide (r = r')) && (k.same k' && f.same f')
  | _, _ => false
def text (nm : Int → List UInt8) : Fo → List UInt8
  | nil => []
  | node s _ k f => (32 :: (if s < 0 then nm s else 40 :: (nm s ++ (k.text nm ++ [41])))) ++ f.text nm
def one (nm : Int → List UInt8) (s : Int) (k : Fo) : List UInt8 := if s < 0 then nm s else 40 :: (nm s ++ (k.text nm ++ [41]))
def drop : Nat → Fo → Fo
  | 0, f => f
  | _ + 1, nil => nil
  | i + 1, node _ _ _ f => f.drop i
def all (p : Int → Int → List Int → Bool) : Fo → Bool
  | nil => true
  | node s r k f => p s r k.syms && (k.all p && f.all p)
theorem len_syms : ∀ f : Fo, f.syms.length = f.len
  | nil => rfl
  | node _ _ _ f => by simp [syms, len, f.len_syms]
theorem len_size : ∀ f : Fo, f.len ≤ f.size
  | nil => Nat.le_refl _
  | node _ _ k f => by have := f.len_size; simp only [len, size]; omega
theorem high_size : ∀ f : Fo, f.high ≤ f.size
  | nil => Nat.le_refl _
  | node _ _ k f => by have := f.high_size; have := k.high_size; simp only [high, size]; omega
theorem nodes_len : ∀ (f : Fo) (lv : Nat), (f.nodes lv).length = f.size
  | nil, _ => rfl
  | node _ _ k f, lv => by simp [nodes, size, k.nodes_len, f.nodes_len]
theorem same_iff : ∀ f g : Fo, f.same g = true ↔ f = g
  | nil, nil => by simp [same]
  | nil, node _ _ _ _ => by simp [same]
  | node _ _ _ _, nil => by simp [same]
  | node s r k f, node s' r' k' f' => by simp [same, same_iff k k', same_iff f f', and_assoc]
theorem drop_zero (f : Fo) : f.drop 0 = f := by cases f <;> rfl
theorem drop_len : ∀ (i : Nat) (f : Fo), (f.drop i).len = f.len - i
  | 0, f => by rw [drop_zero]; rfl
  | _ + 1, nil => by simp [drop, len]
  | i + 1, node _ _ _ f => by simp [drop, len, drop_len i f]
theorem drop_step : ∀ (i : Nat) (f : Fo), i < f.len → ∃ s r k, f.drop i = node s r k (f.drop (i + 1))
  | _, nil, h => absurd h (Nat.not_lt_zero _)
  | 0, node s r k f, _ => ⟨s, r, k, by simp [drop, drop_zero]⟩
  | i + 1, node s r k f, h => by
    obtain ⟨s', r', k', e⟩ := drop_step i f (by simp [len] at h; omega)
    exact ⟨s', r', k', by simpa [drop] using e⟩
theorem drop_all (f : Fo) : f.drop f.len = nil := by
  have h := drop_len f.len f
  cases hf : f.drop f.len with
  | nil => rfl
  | node _ _ _ g => rw [hf] at h; simp [len] at h
theorem drop_size : ∀ (i : Nat) (f : Fo), (f.drop i).size ≤ f.size
  | 0, f => by rw [drop_zero]; exact Nat.le_refl _
  | _ + 1, nil => by simp [drop]
  | i + 1, node _ _ k f => by have := drop_size i f; simp only [drop, size]; omega
theorem drop_high : ∀ (i : Nat) (f : Fo), (f.drop i).high ≤ f.high
  | 0, f => by rw [drop_zero]; exact Nat.le_refl _
  | _ + 1, nil => by simp [drop]
  | i + 1, node _ _ k f => by have := drop_high i f; simp only [drop, high]; omega
/-- what is behind it stands no deeper -/
def Low (lv : Nat) : List (Int × Int × Nat) → Prop
  | [] => True
  | x :: _ => x.2.2 < lv
theorem low_app {lv : Nat} : ∀ (f : Fo) (a : List (Int × Int × Nat)), Low lv a → Low (lv + 1) (f.nodes lv ++ a)
  | nil, [], _ => trivial
  | nil, x :: a, h => Nat.lt_succ_of_lt h
  | node _ _ _ _, _, _ => Nat.lt_succ_self _
/-- nodes and their depths tell the trees -/
theorem nodes_inj : ∀ (f g : Fo) (lv : Nat) (a b : List (Int × Int × Nat)), Low lv a → Low lv b → f.nodes lv ++ a = g.nodes lv ++ b → f = g ∧ a = b
  | nil, nil, _, _, _, _, _, h => ⟨rfl, h⟩
  | nil, node s r k g, lv, a, b, ha, _, h => by
    rw [show a = (s, r, lv) :: (k.nodes (lv + 1) ++ g.nodes lv ++ b) from h] at ha
    exact absurd ha (Nat.lt_irrefl _)
  | node s r k f, nil, lv, a, b, _, hb, h => by
    rw [show b = (s, r, lv) :: (k.nodes (lv + 1) ++ f.nodes lv ++ a) from h.symm] at hb
    exact absurd hb (Nat.lt_irrefl _)
  | node s r k f, node s' r' k' g, lv, a, b, ha, hb, h => by
    simp only [nodes, List.cons_append, List.append_assoc, List.cons.injEq, Prod.mk.injEq] at h
    obtain ⟨⟨rfl, rfl, _⟩, h⟩ := h
    obtain ⟨e1, h1⟩ := nodes_inj k k' (lv + 1) _ _ (low_app f a ha) (low_app g b hb) h
    obtain ⟨e2, h2⟩ := nodes_inj f g lv a b ha hb h1
    exact ⟨by rw [e1, e2], h2⟩
theorem nodes_eq {f g : Fo} {lv : Nat} (h : f.nodes lv = g.nodes lv) : f = g := (nodes_inj f g lv [] [] trivial trivial (by simpa using h)).1
theorem nodes_rules : ∀ (f : Fo) (lv : Nat), ((f.nodes lv).filter fun x => decide (0 ≤ x.1)).map (·.2.1) = f.rules
  | nil, _ => rfl
  | node s r k f, lv => by
    by_cases h : 0 ≤ s
    · simp [nodes, rules, h, nodes_rules k, nodes_rules f]
    · simp [nodes, rules, h, nodes_rules k, nodes_rules f]
theorem nodes_word : ∀ (f : Fo) (lv : Nat), ((f.nodes lv).filter fun x => decide (x.1 < 0)).map (fun x => -1 - x.1) = f.word
  | nil, _ => rfl
  | node s r k f, lv => by
    by_cases h : s < 0
    · simp [nodes, word, h, nodes_word k, nodes_word f]
    · simp [nodes, word, h, nodes_word k, nodes_word f]
theorem fold_max (l : List (Int × Int × Nat)) (a : Nat) : l.foldl (fun h x => max h x.2.2) a = max a (l.foldl (fun h x => max h x.2.2) 0) := by
  induction l generalizing a with
  | nil => simp
  | cons x l ih => simp only [List.foldl_cons]; rw [ih, ih (max 0 x.2.2)]; omega
theorem nodes_high : ∀ (f : Fo) (lv : Nat), 1 ≤ lv → (f.nodes lv).foldl (fun h x => max h x.2.2) 0 = if f.high = 0 then 0 else lv + f.high - 1
  | nil, _, _ => rfl
  | node s r k f, lv, h => by
    have e : (node s r k f).high = max (k.high + 1) f.high := rfl
    rw [if_neg (show ¬ (node s r k f).high = 0 by omega), e]
    simp only [nodes, List.foldl_cons, List.foldl_append]
    rw [fold_max (f.nodes lv), fold_max (k.nodes (lv + 1)), nodes_high k (lv + 1) (by omega), nodes_high f lv h]
    split <;> split <;> omega
theorem rules_le : ∀ f : Fo, f.rules.length ≤ f.size
  | nil => Nat.le_refl _
  | node s r k f => by
    have := rules_le k
    have := rules_le f
    simp only [rules, size, List.length_append]
    split <;> simp <;> omega
theorem word_le : ∀ f : Fo, f.word.length ≤ f.size
  | nil => Nat.le_refl _
  | node s r k f => by
    have := word_le k
    have := word_le f
    simp only [word, size, List.length_append]
    split <;> simp <;> omega
end Fo
/-- trees that are built by rules -/
inductive BF (R : List Rl) : List Int → List Int → Fo → Prop
  | nil : BF R [] [] .nil
  | term {s : Int} {F ks : List Int} {f : Fo} (h : s < 0) (hf : BF R F ks f) : BF R (s :: F) ks (.node s (-1) .nil f)
  | var {s k : Int} {F k1 k2 : List Int} {f1 f2 : Fo} (h : 0 ≤ s) (hr : refW R s k = 0) (h1 : BF R (ruleW R k) k1 f1) (h2 : BF R F k2 f2) : BF R (s :: F) (k :: (k1 ++ k2)) (.node s k f1 f2)
theorem built_fo_n {R : List Rl} : ∀ (n : Nat) (F : List Int) (lv : Nat) (st : List (Int × Nat)) (ks : List Int) (out : List (Int × Int × Nat)), out.length ≤ n → Built R (F.map (fun x => (x, lv)) ++ st) ks out → ∃ f k1 k2 o2, ks = k1 ++ k2 ∧ out = f.nodes lv ++ o2 ∧ BF R F k1 f ∧ Built R st k2 o2
  | _, [], lv, st, ks, out, _, h => ⟨.nil, [], ks, out, rfl, rfl, .nil, h⟩
  | 0, s :: F, lv, st, ks, out, hn, h => by
    have : out = [] := List.eq_nil_of_length_eq_zero (by omega)
    subst this
    cases h
  | n + 1, s :: F, lv, st, ks, out, hn, h => by
    cases h with
    | @term _ _ _ _ o h hb =>
      obtain ⟨f, k1, k2, o2, rfl, rfl, h1, h2⟩ := built_fo_n n F lv st ks o (by simp at hn; omega) hb
      exact ⟨_, k1, k2, o2, rfl, by simp [Fo.nodes], .term h h1, h2⟩
    | @var _ k _ _ ks' o h hr hb =>
      obtain ⟨f1, k1, k2, o2, rfl, rfl, h1, h2⟩ := built_fo_n n (ruleW R k) (lv + 1) _ ks' o (by simp at hn; omega) hb
      obtain ⟨f2, k3, k4, o4, rfl, rfl, h3, h4⟩ := built_fo_n n F lv st k2 o2 (by simp at hn; omega) h2
      exact ⟨_, k :: (k1 ++ k3), k4, o4, by simp, by simp [Fo.nodes], .var h hr h1 h3, h4⟩
theorem built_fo {R : List Rl} {F : List Int} {lv : Nat} {ks : List Int} {out : List (Int × Int × Nat)} (h : Built R (F.map (fun x => (x, lv))) ks out) : ∃ f, out = f.nodes lv ∧ BF R F ks f := by
  obtain ⟨f, k1, k2, o2, rfl, rfl, h1, h2⟩ := built_fo_n _ F lv [] ks out (Nat.le_refl _) (by simpa using h)
  cases h2
  exact ⟨f, by simp, by simpa using h1⟩
theorem bf_syms {R : List Rl} {F ks : List Int} {f : Fo} (h : BF R F ks f) : f.syms = F := by
  induction h with
  | nil => rfl
  | term h hf ih => simp [Fo.syms, ih]
  | var h hr h1 h2 ih1 ih2 => simp [Fo.syms, ih2]
theorem bf_rules {R : List Rl} {F ks : List Int} {f : Fo} (h : BF R F ks f) : f.rules = ks := by
  induction h with
  | nil => rfl
  | term h hf ih => simp only [Fo.rules]; rw [if_neg (by omega), ih]; rfl
  | var h hr h1 h2 ih1 ih2 => simp only [Fo.rules]; rw [if_pos h, ih1, ih2]; rfl
end Go.Proofs.Ytomikgkoegkofaa.dt

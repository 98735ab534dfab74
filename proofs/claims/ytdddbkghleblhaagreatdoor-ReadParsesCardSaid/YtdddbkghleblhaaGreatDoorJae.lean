import Derived.Test.YtdddbkghleblhaaGreatDoorJad
import Derived.LaidEqlPtr
import Derived.Lib.Builder
namespace Go.Proofs.YtdddbkghleblhaaGreatDoor.lx
open Go.ChangeShapes Go.WideShapes Go.ChangeAt Go.RowKit
set_option linter.unusedVariables false
/-! definitions: what the document says -/
inductive Itm where
  | mk (at_ kind : Nat) (text : List UInt8) (alts : List (Nat × Nat × List Itm)) (op : Nat)
def Itm.at_ : Itm → Nat | .mk a _ _ _ _ => a
def Itm.kind : Itm → Nat | .mk _ k _ _ _ => k
def Itm.text : Itm → List UInt8 | .mk _ _ t _ _ => t
def Itm.alts : Itm → List (Nat × Nat × List Itm) | .mk _ _ _ a _ => a
def Itm.op : Itm → Nat | .mk _ _ _ _ o => o
abbrev Altn := Nat × Nat × List Itm
abbrev Dfn := Nat × List UInt8 × List Altn
abbrev Res (α : Type) := Except (Nat × Nat) (α × List Tok)
def hd (ts : List Tok) : Tok := ts.headD ⟨0, 0, [], 0⟩
def sgOf (t : Tok) : Nat := if t.kind = 4 then (t.text.headD 0).toNat else 0
def sg (ts : List Tok) : Nat := sgOf (hd ts)
def atIt (t : Tok) : Bool := t.kind == 1 || t.kind == 2 || sgOf t == 40
def isOp (n : Nat) : Bool := n == 63 || n == 42 || n == 43
def opOf (ts : List Tok) : Nat := if isOp (sg ts) then sg ts else 0
def opTl (ts : List Tok) : List Tok := if isOp (sg ts) then ts.tail else ts
def pItem (sub : List Tok → Res (List Altn)) (ts : List Tok) : Res Itm :=
  if (hd ts).kind = 1 then .ok (.mk (hd ts).at_ 0 (hd ts).text [] (opOf ts.tail), opTl ts.tail)
  else if (hd ts).kind = 2 then .ok (.mk (hd ts).at_ 1 (hd ts).text [] (opOf ts.tail), opTl ts.tail)
  else match sub ts with
  | .error e => .error e
  | .ok (bs, r) => .ok (.mk (hd ts).at_ 2 [] bs (opOf r), opTl r)
def pItems (sub : List Tok → Res (List Altn)) : Nat → List Tok → Res (List Itm)
  | 0, _ => .error (99, 0)
  | f + 1, ts => if atIt (hd ts) then
      (match pItem sub ts with
      | .error e => .error e
      | .ok (i, r) => match pItems sub f r with
        | .error e => .error e
        | .ok (is, r2) => .ok (i :: is, r2))
    else .ok ([], ts)
def wtOf (t : Tok) : Nat := if t.kind = 3 then t.wt else 0
def wtTl (ts : List Tok) : List Tok := if (hd ts).kind = 3 then ts.tail else ts
def pAlt (sub : List Tok → Res (List Altn)) (ts : List Tok) : Res Altn :=
  match pItems sub (wtTl ts).length (wtTl ts) with
  | .error e => .error e
  | .ok (is, r) => .ok (((hd ts).at_, wtOf (hd ts), is), r)
def pMore (sub : List Tok → Res (List Altn)) : Nat → List Tok → Res (List Altn)
  | 0, _ => .error (99, 0)
  | f + 1, ts => if sg ts = 124 then
      (match pAlt sub ts.tail with
      | .error e => .error e
      | .ok (a, r) => match pMore sub f r with
        | .error e => .error e
        | .ok (bs, r2) => .ok (a :: bs, r2))
    else .ok ([], ts)
def pAlts (sub : List Tok → Res (List Altn)) (ts : List Tok) : Res (List Altn) :=
  match pAlt sub ts with
  | .error e => .error e
  | .ok (a, r) => match pMore sub r.length r with
    | .error e => .error e
    | .ok (bs, r2) => .ok (a :: bs, r2)
def pShut (c : Nat) (x : Res (List Altn)) : Res (List Altn) :=
  match x with
  | .error e => .error e
  | .ok (bs, r) => if sg r = c then .ok (bs, r.tail) else .error (5, (hd r).at_)
/-- alternatives, so many brackets more deep at most -/
def pA : Nat → List Tok → Res (List Altn)
  | 0, ts => pAlts (fun r => .error (6, (hd r).at_)) ts
  | d + 1, ts => pAlts (fun r => pShut 41 (pA d r.tail)) ts
def pSub : Nat → List Tok → Res (List Altn)
  | 0, r => .error (6, (hd r).at_)
  | d + 1, r => pShut 41 (pA d r.tail)
theorem pA_sub (d : Nat) (ts : List Tok) : pA d ts = pAlts (pSub d) ts := by cases d <;> rfl
def pDef (ts : List Tok) : Res Dfn :=
  if (hd ts).kind = 1 then
    (if sg ts.tail = 61 then
      (match pShut 59 (pA 16 ts.tail.tail) with
      | .error e => .error e
      | .ok (bs, r) => .ok (((hd ts).at_, (hd ts).text, bs), r))
    else .error (5, (hd ts.tail).at_))
  else .error (5, (hd ts).at_)
def pText : Nat → List Tok → Except (Nat × Nat) (List Dfn)
  | 0, _ => .error (99, 0)
  | f + 1, ts => match pDef ts with
    | .error e => .error e
    | .ok (d, r) => if (hd r).kind = 0 then .ok [d] else match pText f r with
      | .error e => .error e
      | .ok ds => .ok (d :: ds)
/-- a text's definitions, or what is wrong, and where -/
def readAll (s : List UInt8) : List Dfn × Nat × Nat :=
  if (lexAll s).2.1 = 0 then
    (match pText (lexAll s).1.length (lexAll s).1 with
    | .error e => ([], e)
    | .ok ds => (ds, 0, 0))
  else ([], (lexAll s).2)
/-! words in their order -/
def Good : List Tok → Prop
  | [] => False
  | [t] => t.kind = 0
  | t :: u :: r => (1 ≤ t.kind ∧ t.kind ≤ 4 ∧ (t.kind = 4 → ∃ c : UInt8, t.text = [c] ∧ 0 < c.toNat)) ∧ Good (u :: r)
theorem Good.ne {ts : List Tok} (h : Good ts) : ∃ t r, ts = t :: r := by
  cases ts with
  | nil => exact h.elim
  | cons t r => exact ⟨t, r, rfl⟩
theorem Good.tail {t : Tok} {r : List Tok} (h : Good (t :: r)) (hk : t.kind ≠ 0) : Good r := by
  cases r with
  | nil => exact absurd h hk
  | cons u r => exact h.2
theorem Good.kind {t : Tok} {r : List Tok} (h : Good (t :: r)) : t.kind ≤ 4 := by
  cases r with
  | nil => have : t.kind = 0 := h; omega
  | cons u r => exact h.1.2.1
theorem Good.sign {t : Tok} {r : List Tok} (h : Good (t :: r)) (hk : t.kind = 4) : ∃ c : UInt8, t.text = [c] ∧ 0 < c.toNat := by
  cases r with
  | nil => have : t.kind = 0 := h; omega
  | cons u r => exact h.1.2.2 hk
theorem Good.pos {ts : List Tok} (h : Good ts) : 0 < ts.length := by
  obtain ⟨t, r, rfl⟩ := h.ne
  simp
theorem word_sign {l : List UInt8} {w n : Nat} {t : List UInt8} (h : wordAt l = .ok (4, t, w, n)) : ∃ c : UInt8, t = [c] ∧ 0 < c.toNat := by
  cases l with
  | nil => cases h
  | cons c r =>
    rw [word_cons] at h
    have hs : sgnB c = true → 0 < c.toNat := fun hb => by
      rcases Nat.eq_zero_or_pos c.toNat with h0 | h0
      · obtain rfl : c = 0 := UInt8.toNat_inj.1 (by simpa using h0)
        exact absurd hb (by decide)
      · exact h0
    repeat' split at h
    all_goals first | (cases h; done) | (cases h; exact ⟨_, rfl, hs (by assumption)⟩)
theorem word_kind {l : List UInt8} {k w n : Nat} {t : List UInt8} (h : wordAt l = .ok (k, t, w, n)) : 1 ≤ k ∧ k ≤ 4 := by
  cases l with
  | nil => cases h
  | cons c r =>
    rw [word_cons] at h
    repeat' split at h
    all_goals first | (cases h; done) | (cases h; decide)
theorem lex_good (s : List UInt8) : ∀ (m k : Nat), s.length - k < m → k ≤ s.length → ∀ ts, lexA s k = (ts, none) → Good ts
  | 0, k, h, _, _, _ => by omega
  | m + 1, k, h, hk, ts, hts => by
    by_cases hlt : k < s.length
    · cases hx : wordAt (s.drop k) with
      | error e =>
        rw [lexA_error _ _ e hlt hx] at hts
        cases hts
      | ok x =>
        obtain ⟨kd, t, w, n⟩ := x
        have hn := word_n hx
        rw [List.length_drop] at hn
        have hg := nxt_ge s (k + n + 1)
        have hle := nxt_le s (k + n + 1) (by omega)
        have hkd := word_kind hx
        rw [lexA_ok _ _ kd w n t hlt hx] at hts
        rcases hy : lexA s (nxt s (k + n + 1)) with ⟨us, f⟩
        rw [hy] at hts
        obtain rfl : f = none := congrArg Prod.snd hts
        obtain rfl : ⟨kd, k, t, w⟩ :: us = ts := congrArg Prod.fst hts
        have ih := lex_good s m _ (by omega) hle _ hy
        obtain ⟨u, r, rfl⟩ := ih.ne
        refine ⟨⟨hkd.1, hkd.2, fun h4 => ?_⟩, ih⟩
        have h4 : kd = 4 := h4
        subst h4
        exact word_sign hx
    · rw [lexA, dif_neg hlt] at hts
      obtain rfl : _ = ts := congrArg Prod.fst hts
      rfl
theorem all_good (s : List UInt8) (h : (lexAll s).2.1 = 0) : Good (lexAll s).1 ∧ (lexAll s).2.2 = 0 := by
  unfold lexAll at h ⊢
  by_cases hb : 65536 < s.length
  · rw [if_pos hb] at h
    exact absurd h (by decide)
  · rw [if_neg hb] at h ⊢
    rcases hA : lexA s (nxt s 0) with ⟨x, f⟩
    rw [hA] at h
    cases f with
    | some f =>
      obtain ⟨e, k⟩ := f
      have := err_ge s hA
      have h : e = 0 := h
      omega
    | none => exact ⟨lex_good s _ _ (Nat.lt_succ_self _) (nxt_le s 0 (Nat.zero_le _)) _ hA, rfl⟩
end Go.Proofs.YtdddbkghleblhaaGreatDoor.lx
namespace Go.Proofs.YtdddbkghleblhaaGreatDoor.lx
open Go.ChangeShapes Go.WideShapes Go.ChangeAt Go.RowKit
set_option linter.unusedVariables false
/-! lists in memory, of what has lists of its own -/
abbrev Elem (α : Type) := World → (Nat → Prop) → α → List Value → Prop
def Keeps {α : Type} (E : Elem α) : Prop := ∀ (w w' : World) (A A' : Nat → Prop) (x : α) (cs : List Value), E w A x cs → (∀ g, g < w.heap.size → A g → A' g ∧ w'.heap[g]? = w.heap[g]?) → w.heap.size ≤ w'.heap.size → E w' A' x cs
def ListOf {α : Type} (c : Nat) (E : Elem α) (w : World) (A : Nat → Prop) (v : Value) (xs : List α) : Prop := xs.length ≤ maxLen ∧ ∃ ao cap, v = .slice ao xs.length cap ∧ (0 < xs.length → ∃ g, ao = some ⟨g, 0, none⟩ ∧ g < w.heap.size ∧ A g ∧ ∀ (k : Nat) (x : α), xs[k]? = some x → ∃ cs, cs.length = c ∧ (∀ j u, cs[j]? = some u → w.cell? ⟨g, k * c + j, none⟩ = some u) ∧ E w A x cs)
def OwnOf {α : Type} (c : Nat) (E : Elem α) (ty B : Nat) (w : World) (v : Value) (xs : List α) : Prop := ∃ us : List (List Value), us.length = xs.length ∧ (∀ u ∈ us, u.length = c) ∧ w.ownsRow B ty c v xs.length us.flatten ∧ ∀ (k : Nat) (x : α), xs[k]? = some x → ∃ cs, us[k]? = some cs ∧ E w (fun g => B ≤ g ∧ some g ≠ v.ownBlock) x cs
theorem lt_heap {w : World} {g : Nat} {o : Obj} (h : w.heap[g]? = some o) : g < w.heap.size := by
  rcases Nat.lt_or_ge g w.heap.size with hlt | hge
  · exact hlt
  · rw [Array.getElem?_eq_none hge] at h; cases h
theorem cell_same {w w' : World} {a : Addr} (h : w'.heap[a.block]? = w.heap[a.block]?) : w'.cell? a = w.cell? a := World.cell?_of_block h
theorem ListOf.keep {α : Type} {c : Nat} {E : Elem α} (hE : Keeps E) {w w' : World} {A A' : Nat → Prop} {v : Value} {xs : List α} (h : ListOf c E w A v xs) (hk : ∀ g, g < w.heap.size → A g → A' g ∧ w'.heap[g]? = w.heap[g]?) (hs : w.heap.size ≤ w'.heap.size) : ListOf c E w' A' v xs := by
  obtain ⟨hl, ao, cap, e, h⟩ := h
  refine ⟨hl, ao, cap, e, fun h0 => ?_⟩
  obtain ⟨g, e2, hg, hA, hc⟩ := h h0
  obtain ⟨hA', hb⟩ := hk g hg hA
  refine ⟨g, e2, Nat.lt_of_lt_of_le hg hs, hA', fun k x hx => ?_⟩
  obtain ⟨cs, h1, h2, h3⟩ := hc k x hx
  exact ⟨cs, h1, fun j u hj => (cell_same (a := ⟨g, k * c + j, none⟩) hb).trans (h2 j u hj), hE _ _ _ _ _ _ h3 hk hs⟩
theorem ListOf.nil {α : Type} {c : Nat} {E : Elem α} (w : World) (A : Nat → Prop) : ListOf c E w A (.slice none 0 0) ([] : List α) := ⟨Nat.zero_le _, none, 0, rfl, fun h => absurd h (Nat.lt_irrefl _)⟩
theorem flat_at {c : Nat} : ∀ (us : List (List Value)) (k j : Nat) (cs : List Value), (∀ u ∈ us, u.length = c) → us[k]? = some cs → j < c → us.flatten[k * c + j]? = cs[j]?
  | [], k, j, cs, _, h, _ => by simp at h
  | u :: us, 0, j, cs, hc, h, hj => by
    obtain rfl : u = cs := by simpa using h
    have hl := hc u (by simp)
    rw [List.flatten_cons, Nat.zero_mul, Nat.zero_add, List.getElem?_append_left (by omega)]
  | u :: us, k + 1, j, cs, hc, h, hj => by
    have hl := hc u (by simp)
    have e : (k + 1) * c + j = c + (k * c + j) := by rw [Nat.add_mul]; omega
    rw [List.flatten_cons, List.getElem?_append_right (by omega), hl, e, Nat.add_sub_cancel_left]
    exact flat_at us k j cs (fun u hu => hc u (by simp [hu])) (by simpa using h) hj
theorem ownsRow_keep {w w' : World} {base size n : Nat} {e : TypeId} {v : Value} {xs : List Value} (h : w.ownsRow base e size v n xs) (hb : ∀ g, g < w.heap.size → v.ownBlock = some g → w'.heap[g]? = w.heap[g]?) : w'.ownsRow base e size v n xs := by
  obtain ⟨hl, h | ⟨g, cap, cur, hv, hB, hh, r⟩⟩ := h
  · exact ⟨hl, .inl h⟩
  · exact ⟨hl, .inr ⟨g, cap, cur, hv, hB, (hb g (lt_heap hh) (by rw [hv]; rfl)).trans hh, r⟩⟩
theorem OwnOf.keep {α : Type} {c : Nat} {E : Elem α} (hE : Keeps E) {ty B : Nat} {w w' : World} {v : Value} {xs : List α} (h : OwnOf c E ty B w v xs) (hk : ∀ g, g < w.heap.size → B ≤ g → w'.heap[g]? = w.heap[g]?) (hs : w.heap.size ≤ w'.heap.size) : OwnOf c E ty B w' v xs := by
  obtain ⟨us, h1, h2, h3, h4⟩ := h
  refine ⟨us, h1, h2, ownsRow_keep h3 fun g hg hv => hk g hg (h3.lt g hv).1, fun k x hx => ?_⟩
  obtain ⟨cs, e, h5⟩ := h4 k x hx
  exact ⟨cs, e, hE _ _ _ _ _ _ h5 (fun g hg hA => ⟨hA, hk g hg hA.1⟩) hs⟩
theorem OwnOf.nil {α : Type} {c : Nat} {E : Elem α} (ty B : Nat) (w : World) : OwnOf c E ty B w (.slice none 0 0) ([] : List α) :=
  ⟨[], rfl, fun u hu => by simp at hu, World.ownsRow_nil _ _ _ _, fun k x hx => by simp at hx⟩
theorem OwnOf.step {α : Type} {c : Nat} {E : Elem α} (hE : Keeps E) {ty B : Nat} {w w' : World} {v v' : Value} {xs : List α} {x : α} {cs : List Value} {us : List (List Value)} (h1 : us.length = xs.length) (h2 : ∀ u ∈ us, u.length = c)
    (h4 : ∀ (k : Nat) (x : α), xs[k]? = some x → ∃ cs, us[k]? = some cs ∧ E w (fun g => B ≤ g ∧ some g ≠ v.ownBlock) x cs) (hx : E w (fun g => B ≤ g ∧ some g ≠ v.ownBlock) x cs) (hc : cs.length = c)
    (ho : w'.ownsRow B ty c v' (xs.length + 1) (us.flatten ++ cs)) (hg : w.grownBy w' v.ownBlock) (hat : v'.ownBlock = v.ownBlock ∨ v'.ownBlock = some w.heap.size) : OwnOf c E ty B w' v' (xs ++ [x]) := by
  have hk : ∀ g, g < w.heap.size → (B ≤ g ∧ some g ≠ v.ownBlock) → (B ≤ g ∧ some g ≠ v'.ownBlock) ∧ w'.heap[g]? = w.heap[g]? := fun g hgl hA => by
    refine ⟨⟨hA.1, ?_⟩, hg.block g hgl hA.2⟩
    rcases hat with h | h
    · rw [h]; exact hA.2
    · rw [h]
      intro e
      have := Option.some.inj e
      omega
  refine ⟨us ++ [cs], by simp [h1], fun u hu => ?_, by simpa using ho, fun k y hy => ?_⟩
  · rcases List.mem_append.1 hu with hu | hu
    · exact h2 u hu
    · have := List.mem_singleton.1 hu
      rw [this]; exact hc
  · by_cases hlt : k < xs.length
    · rw [List.getElem?_append_left hlt] at hy
      obtain ⟨ds, e, h5⟩ := h4 k y hy
      exact ⟨ds, by rw [List.getElem?_append_left (by omega)]; exact e, hE _ _ _ _ _ _ h5 hk hg.size⟩
    · have hk2 : k = xs.length := by
        have := List.getElem?_eq_some_iff.1 hy
        obtain ⟨h, _⟩ := this
        simp at h
        omega
      subst hk2
      obtain rfl : x = y := by simpa using hy
      exact ⟨cs, by rw [← h1]; simp, hE _ _ _ _ _ _ hx hk hg.size⟩
theorem OwnOf.lit0 {α : Type} {c : Nat} {E : Elem α} (ty B : Nat) (w : World) (hB : B ≤ w.heap.size) : OwnOf c E ty B (w.alloc (.cells #[] ty)) (.slice (some ⟨w.heap.size, 0, none⟩) 0 0) ([] : List α) :=
  ⟨[], rfl, fun u hu => by simp at hu, World.ownsRow_lit w #[] 0 hB (by decide) (by simp), fun k x hx => by simp at hx⟩
theorem OwnOf.lit1 {α : Type} {c : Nat} {E : Elem α} (hE : Keeps E) (ty B : Nat) (w : World) (hB : B ≤ w.heap.size) (x : α) (cs : List Value) (hc : cs.length = c) (hx : E w (fun g => B ≤ g) x cs) : OwnOf c E ty B (w.alloc (.cells cs.toArray ty)) (.slice (some ⟨w.heap.size, 0, none⟩) 1 1) [x] := by
  refine ⟨[cs], rfl, fun u hu => by rw [List.mem_singleton.1 hu]; exact hc, ?_, fun k y hy => ?_⟩
  · have := World.ownsRow_lit (e := ty) (size := c) w cs.toArray 1 hB (by decide) (by simp [hc])
    simpa using this
  · have hk0 : k = 0 := by
      obtain ⟨h, _⟩ := List.getElem?_eq_some_iff.1 hy
      simp at h
      omega
    subst hk0
    obtain rfl : x = y := by simpa using hy
    refine ⟨cs, rfl, hE _ _ _ _ _ _ hx (fun g hg hA => ⟨⟨hA, ?_⟩, Below.heap_alloc w _ g hg⟩) (by simp)⟩
    show some g ≠ some w.heap.size
    intro e
    have := Option.some.inj e
    omega
theorem OwnOf.done {α : Type} {c : Nat} {E : Elem α} (hE : Keeps E) {ty B : Nat} {w : World} {v : Value} {xs : List α} (h : OwnOf c E ty B w v xs) : ListOf c E w (fun g => B ≤ g) v xs := by
  obtain ⟨us, h1, h2, h3, h4⟩ := h
  refine ⟨?_, ?_⟩
  · obtain ⟨hl, ⟨h1, h2⟩ | ⟨g, cap, cur, hv, hB, hh, hn, hc, r⟩⟩ := h3 <;> omega
  · by_cases h0 : 0 < xs.length
    · obtain ⟨g, cap, e, hB, hg, hc⟩ := own_open h3 h0
      refine ⟨_, cap, e, fun _ => ⟨g, rfl, hg, hB, fun k x hx => ?_⟩⟩
      obtain ⟨cs, e2, h5⟩ := h4 k x hx
      have hcl := h2 cs (List.mem_of_getElem? e2)
      refine ⟨cs, hcl, fun j u hj => hc _ u ?_, hE _ _ _ _ _ _ h5 (fun g hg hA => ⟨hA.1, rfl⟩) (Nat.le_refl _)⟩
      have hjl : j < c := by
        obtain ⟨h, _⟩ := List.getElem?_eq_some_iff.1 hj
        omega
      rw [flat_at us k j cs h2 e2 hjl]
      exact hj
    · obtain ⟨ao, cap, e⟩ := own_form h3
      exact ⟨ao, cap, e, fun h => absurd h h0⟩
/-! items, alternatives, definitions -/
def ItmC (i : Itm) (av : Value) : List Value := [.int .i64 i.at_, .int .i64 i.kind, .string (S i.text), av, .int .u8 i.op]
def AltC (a : Altn) (iv : Value) : List Value := [.int .i64 a.1, .float .f64 a.2.1, iv]
def DefC (d : Dfn) (av : Value) : List Value := [.int .i64 d.1, .string (S d.2.1), av]
def EItm (P : World → (Nat → Prop) → Value → List Altn → Prop) : Elem Itm := fun w A i cs => ∃ av, cs = ItmC i av ∧ P w A av i.alts
def EAlt (P : World → (Nat → Prop) → Value → List Altn → Prop) : Elem Altn := fun w A a cs => ∃ iv, cs = AltC a iv ∧ ListOf 5 (EItm P) w A iv a.2.2
/-- alternatives in memory, so deep -/
def AltsAt : Nat → World → (Nat → Prop) → Value → List Altn → Prop
  | 0, w, A, v, bs => bs = [] ∧ ∃ ao cap, v = .slice ao 0 cap
  | d + 1, w, A, v, bs => ListOf 3 (EAlt (AltsAt d)) w A v bs
def EDef : Elem Dfn := fun w A d cs => ∃ av, cs = DefC d av ∧ AltsAt 17 w A av d.2.2
def KeepsP (P : World → (Nat → Prop) → Value → List Altn → Prop) : Prop := ∀ (w w' : World) (A A' : Nat → Prop) (v : Value) (bs : List Altn), P w A v bs → (∀ g, g < w.heap.size → A g → A' g ∧ w'.heap[g]? = w.heap[g]?) → w.heap.size ≤ w'.heap.size → P w' A' v bs
theorem keepsItm {P : World → (Nat → Prop) → Value → List Altn → Prop} (hP : KeepsP P) : Keeps (EItm P) := by
  rintro w w' A A' x cs ⟨av, e, h⟩ hk hs
  exact ⟨av, e, hP _ _ _ _ _ _ h hk hs⟩
theorem keepsAlt {P : World → (Nat → Prop) → Value → List Altn → Prop} (hP : KeepsP P) : Keeps (EAlt P) := by
  rintro w w' A A' x cs ⟨iv, e, h⟩ hk hs
  exact ⟨iv, e, h.keep (keepsItm hP) hk hs⟩
theorem keepsAlts : ∀ d, KeepsP (AltsAt d)
  | 0 => by
    rintro w w' A A' v bs h hk hs
    exact h
  | d + 1 => by
    intro w w' A A' v bs h hk hs
    exact ListOf.keep (keepsAlt (keepsAlts d)) h hk hs
theorem keepsDef : Keeps EDef := by
  rintro w w' A A' x cs ⟨av, e, h⟩ hk hs
  exact ⟨av, e, keepsAlts 17 _ _ _ _ _ _ h hk hs⟩
theorem AltsAt.nil (d : Nat) (w : World) (A : Nat → Prop) : AltsAt d w A (.slice none 0 0) [] := by
  cases d with
  | zero => exact ⟨rfl, none, 0, rfl⟩
  | succ d => exact ListOf.nil w A
/-! what may have turned: the blocks of S, and new ones -/
structure Kp (S : Nat → Prop) (w w' : World) : Prop where
  os : w'.os = w.os
  tape : w'.tape = w.tape
  output : w'.output = w.output
  size : w.heap.size ≤ w'.heap.size
  block : ∀ k, k < w.heap.size → ¬ S k → w'.heap[k]? = w.heap[k]?
section
variable {S T : Nat → Prop} {a b c w w' : World}
theorem Kp.refl (S : Nat → Prop) (w : World) : Kp S w w := ⟨rfl, rfl, rfl, Nat.le_refl _, fun _ _ _ => rfl⟩
theorem Kp.trans (h : Kp S a b) (k : Kp S b c) : Kp S a c :=
  ⟨k.os.trans h.os, k.tape.trans h.tape, k.output.trans h.output, Nat.le_trans h.size k.size, fun i hi hn => (k.block i (Nat.lt_of_lt_of_le hi h.size) hn).trans (h.block i hi hn)⟩
/-- behind a step whose own blocks are new, or in S -/
theorem Kp.then_ (h : Kp S a b) (k : Kp T b c) (hT : ∀ i, T i → S i ∨ a.heap.size ≤ i) : Kp S a c :=
  ⟨k.os.trans h.os, k.tape.trans h.tape, k.output.trans h.output, Nat.le_trans h.size k.size, fun i hi hn => (k.block i (Nat.lt_of_lt_of_le hi h.size) (fun ht => (hT i ht).elim hn (fun h => by omega))).trans (h.block i hi hn)⟩
theorem Kp.of_grown {row : Option Nat} (h : w.grownBy w' row) : Kp (fun i => row = some i) w w' := ⟨h.os, h.tape, h.output, h.size, fun i hi hn => h.block i hi (fun e => hn e.symm)⟩
theorem Kp.alloc (S : Nat → Prop) (w : World) (o : Obj) : Kp S w (w.alloc o) := by
  have h := World.grownBy_alloc w o none
  exact ⟨h.os, h.tape, h.output, h.size, fun i hi _ => h.block i hi (by simp)⟩
theorem Kp.of_below {n : Nat} (h : Below n w w') (hn : w.heap.size ≤ n) : Kp S w w' := ⟨h.os, h.tape, h.output, h.size, fun i hi _ => h.block i (by omega)⟩
theorem Kp.set_ (h : Kp S a b) {p : Addr} (hp : S p.block ∨ a.heap.size ≤ p.block) (u : Value) : Kp S a (b.setCell p u) := by
  refine ⟨h.os, h.tape, h.output, by simpa using h.size, fun k hk hn => (Below.heap_setCell b p u k ?_).trans (h.block k hk hn)⟩
  rintro rfl
  rcases hp with hp | hp
  · exact hn hp
  · omega
end
theorem Blk.kept {S : Nat → Prop} {w w' : World} {g : Nat} {t : TypeId} {cs : Array Value} (h : Blk w g t cs) (k : Kp S w w') (hn : ¬ S g) : Blk w' g t cs := (k.block g (lt_heap h) hn).trans h
theorem Kp.cell {S : Nat → Prop} {w w' : World} {p : Addr} {u : Value} (k : Kp S w w') (h : w.cell? p = some u) (hn : ¬ S p.block) : w'.cell? p = some u := by
  have hlt : p.block < w.heap.size := by
    rcases Nat.lt_or_ge p.block w.heap.size with hlt | hge
    · exact hlt
    · rw [World.cell?] at h; simp [Array.getElem?_eq_none hge] at h
  exact (World.cell?_of_block (k.block p.block hlt hn)).trans h
end Go.Proofs.YtdddbkghleblhaaGreatDoor.lx
namespace Go.Proofs.YtdddbkghleblhaaGreatDoor.lx
open Go.ChangeShapes Go.WideShapes Go.ChangeAt Go.RowKit
set_option linter.unusedVariables false
attribute [local go_sem] run_store_float
/-! the parser's small functions -/
/-- a parser, at the words that come -/
def PAt (w : World) (gp : Nat) (ts : List Tok) (d : Nat) : Prop := ∃ g o cap, Blk w gp 53 #[.slice (some ⟨g, o, none⟩) ts.length cap, .int .i64 d] ∧ ts.length ≤ cap ∧ cap ≤ maxLen ∧ g < gp ∧ g < w.heap.size ∧ ∀ j u, (tcells ts)[j]? = some u → w.cell? ⟨g, o + j, none⟩ = some u
def Pp (gp : Nat) : Value := .pointer (some ⟨gp, 0, none⟩)
/-- what goes up -/
def Wrong (e a : Nat) : Value := .iface 51 (.agg #[.int .i64 e, .int .i64 a])
theorem tcells_head (t : Tok) (r : List Tok) (g o : Nat) (w : World) (hc : ∀ j u, (tcells (t :: r))[j]? = some u → w.cell? ⟨g, o + j, none⟩ = some u) : w.cell? ⟨g, o, none⟩ = some (.int .i64 t.kind) ∧ w.cell? ⟨g, o + 1, none⟩ = some (.int .i64 t.at_) ∧ w.cell? ⟨g, o + 2, none⟩ = some (.string (S t.text)) ∧ w.cell? ⟨g, o + 3, none⟩ = some (.float .f64 t.wt) :=
  ⟨hc 0 _ rfl, hc 1 _ rfl, hc 2 _ rfl, hc 3 _ rfl⟩
theorem tcells_tail (t : Tok) (r : List Tok) (g o : Nat) (w : World) (hc : ∀ j u, (tcells (t :: r))[j]? = some u → w.cell? ⟨g, o + j, none⟩ = some u) : ∀ j u, (tcells r)[j]? = some u → w.cell? ⟨g, o + 4 + j, none⟩ = some u := fun j u hj => by
  have := hc (4 + j) u (by
    have e : tcells (t :: r) = tokC t ++ tcells r := rfl
    rw [e, List.getElem?_append_right (by simp [tokC])]
    simpa [tokC] using hj)
  rwa [← Nat.add_assoc] at this
theorem S_one (c : UInt8) : (S [c]).size = 1 := rfl
set_option maxRecDepth 100000 in
theorem psign_any (w : World) (gp : Nat) (ts : List Tok) (d : Nat) (h : PAt w gp ts d) (hg : Good ts) : Calls Tryz.prog 59 #[.pointer (some ⟨gp, 0, none⟩)] w fun e w' => e = .returned (.int .u8 (sg ts)) ∧ w = w' := by
  obtain ⟨t, r, rfl⟩ := hg.ne
  obtain ⟨g, o, cap, hb, hl, hm, hne, hgs, hc⟩ := h
  obtain ⟨c0, c1, c2, c3⟩ := tcells_head t r g o w hc
  have hp : w.cell? ⟨gp, 0, none⟩ = some (.slice (some ⟨g, o, none⟩) (t :: r).length cap) := hb.cell 0
  have hl0 : 0 < (t :: r).length := by simp
  have hsg := fun h4 => hg.sign (r := r) h4
  have e : sg (t :: r) = sgOf t := rfl
  rw [e]
  unfold sgOf
  generalize (t :: r).length = n at *
  obtain ⟨K, P, T, F⟩ := t
  unfold maxLen at hm
  clear hc hb hg e
  by_cases h4 : K = 4
  · subst h4
    obtain ⟨c, hT, _⟩ := hsg rfl
    have hT : T = [c] := hT
    subst hT
    have hs : (S [c]).size = 1 := rfl
    have c2 : w.cell? ⟨g, o + 2, none⟩ = some (.string (S [c])) := c2
    have c0 : w.cell? ⟨g, o, none⟩ = some (.int .i64 4) := c0
    clear hsg
    go_enter Tryz.func59, Tryz.ntmps59
    go_wp2
    go_ret
    exact ⟨rfl, rfl⟩
  · have h4' : ((K : Int) != 4) = true := by rw [bne_iff_ne]; omega
    rw [if_neg h4]
    clear hsg h4
    go_enter Tryz.func59, Tryz.ntmps59
    go_wp2
    go_ret
    exact ⟨rfl, rfl⟩
set_option maxRecDepth 100000 in
theorem fail_any (w : World) (gp : Nat) (ts : List Tok) (d : Nat) (h : PAt w gp ts d) (hg : Good ts) (n : Nat) : Calls Tryz.prog 43 #[.pointer (some ⟨gp, 0, none⟩), .int .i64 n] w fun e w' => e = .panicked [{ v := Wrong n (hd ts).at_, recovered := false }] ∧ w = w' := by
  obtain ⟨t, r, rfl⟩ := hg.ne
  obtain ⟨g, o, cap, hb, hl, hm, hne, hgs, hc⟩ := h
  obtain ⟨c0, c1, c2, c3⟩ := tcells_head t r g o w hc
  have hp : w.cell? ⟨gp, 0, none⟩ = some (.slice (some ⟨g, o, none⟩) (t :: r).length cap) := hb.cell 0
  have hl0 : 0 < (t :: r).length := by simp
  have e : (hd (t :: r)).at_ = t.at_ := rfl
  rw [e]
  generalize (t :: r).length = m at *
  obtain ⟨K, P, T, F⟩ := t
  unfold maxLen at hm
  clear hc hb hg e
  go_enter Tryz.func43, Tryz.ntmps43
  go_wp2
  exact ⟨rfl, rfl, rfl⟩
theorem kp_at (w : World) (gp i : Nat) (u : Value) : Kp (fun j => j = gp) w (w.setCell ⟨gp, i, none⟩ u) := Kp.set_ (S := fun j => j = gp) (Kp.refl _ w) (.inl rfl) u
set_option maxRecDepth 100000 in
theorem take_any (w : World) (gp : Nat) (t : Tok) (r : List Tok) (d : Nat) (h : PAt w gp (t :: r) d) (hr : 0 < r.length) : Calls Tryz.prog 44 #[.pointer (some ⟨gp, 0, none⟩)] w fun e w' => e = .returned (.agg #[.int .i64 t.kind, .int .i64 t.at_, .string (S t.text), .float .f64 t.wt]) ∧ PAt w' gp r d ∧ Kp (fun i => i = gp) w w' := by
  obtain ⟨g, o, cap, hb, hl, hm, hne, hgs, hc⟩ := h
  obtain ⟨c0, c1, c2, c3⟩ := tcells_head t r g o w hc
  have hct := tcells_tail t r g o w hc
  have hp : w.cell? ⟨gp, 0, none⟩ = some (.slice (some ⟨g, o, none⟩) (r.length + 1) cap) := hb.cell 0
  have hf := hb.frozen 0
  have hgp := hb.lt
  have HC := Lib.hid hct
  have HB := Lib.hid hb
  have hl : r.length + 1 ≤ cap := hl
  generalize hn : r.length = n at *
  have HN := Lib.hid hn
  obtain ⟨K, P, T, F⟩ := t
  unfold maxLen at hm
  clear hc hb hct hn
  go_enter Tryz.func44, Tryz.ntmps44
  go_wp2
  refine bodyPost_ret (v := .agg #[.int .i64 K, .int .i64 P, .string (S T), .float .f64 F]) (by simp [results, Tryz.results44, go_sem]) rfl ⟨rfl, ⟨g, o + 4, cap - 1, ?_, ?_, ?_, hne, ?_, ?_⟩, ?_⟩
  · have h := ((HB.out.set_ 0 (.slice (some ⟨g, o + 4, none⟩) n (cap - 1))).alloc (.cells #[.int .i64 K, .int .i64 P, .string (S T), .float .f64 F] 77)).alloc (.cells #[.int .i64 K, .int .i64 P, .string (S T), .float .f64 F] 77)
    rw [HN.out]
    exact h
  · rw [HN.out]; omega
  · unfold maxLen; omega
  · simp; omega
  · intro j u hj
    have h := HC.out j u hj
    have k1 : Kp (fun i => i = gp) w (((w.setCell ⟨gp, 0, none⟩ (.slice (some ⟨g, o + 4, none⟩) n (cap - 1))).alloc (.cells #[.int .i64 K, .int .i64 P, .string (S T), .float .f64 F] 77)).alloc (.cells #[.int .i64 K, .int .i64 P, .string (S T), .float .f64 F] 77)) := ((kp_at w gp 0 _).trans (Kp.alloc _ _ _)).trans (Kp.alloc _ _ _)
    exact k1.cell h (by show ¬ g = gp; omega)
  · exact ((kp_at w gp 0 _).trans (Kp.alloc _ _ _)).trans (Kp.alloc _ _ _)
/-- the parser stays where nothing of its own turned -/
theorem PAt.kept {S : Nat → Prop} {w w' : World} {gp d : Nat} {ts : List Tok} (h : PAt w gp ts d) (k : Kp S w w') (hS : ∀ i, S i → gp < i) : PAt w' gp ts d := by
  obtain ⟨g, o, cap, hb, hl, hm, hne, hgs, hc⟩ := h
  refine ⟨g, o, cap, hb.kept k (fun h => ?_), hl, hm, hne, Nat.lt_of_lt_of_le hgs k.size, fun j u hj => k.cell (hc j u hj) fun h => ?_⟩
  · have := hS _ h
    omega
  · have := hS _ h
    simp at this
    omega
theorem PAt.alloc {w : World} {gp d : Nat} {ts : List Tok} (h : PAt w gp ts d) (o : Obj) : PAt (w.alloc o) gp ts d := h.kept (Kp.alloc (fun _ => False) w o) fun _ h => h.elim
theorem PAt.lt {w : World} {gp d : Nat} {ts : List Tok} (h : PAt w gp ts d) : gp < w.heap.size := by
  obtain ⟨g, o, cap, hb, _⟩ := h
  exact hb.lt
set_option maxRecDepth 100000 in
theorem want_ok (w : World) (gp : Nat) (t : Tok) (r : List Tok) (d c : Nat) (h : PAt w gp (t :: r) d) (hg : Good (t :: r)) (hc : sgOf t = c) (h0 : 0 < c) (hc2 : c < 256) : Calls Tryz.prog 45 #[.pointer (some ⟨gp, 0, none⟩), .int .u8 c] w fun e w' => e = .returned (.tuple #[]) ∧ PAt w' gp r d ∧ Kp (fun i => i = gp) w w' ∧ Good r := by
  have hk : t.kind ≠ 0 := fun hk => by
    unfold sgOf at hc
    rw [if_neg (by omega)] at hc
    omega
  have hgr := hg.tail hk
  have h1 := psign_any w gp _ d h hg
  rw [show sg (t :: r) = c from hc] at h1
  have h2 := take_any w gp t r d h hgr.pos
  generalize t.kind = K at *
  generalize S t.text = T at *
  generalize t.wt = F at *
  generalize t.at_ = P at *
  have HG := Lib.hid hgr
  clear hgr hg h
  go_enter Tryz.func45, Tryz.ntmps45
  go_wp2_with (go_at_call 59; refine h1.mono ?_; rintro e w1 ⟨rfl, rfl⟩)
  refine h2.mono ?_
  rintro e w1 ⟨rfl, hp, hk⟩
  go_wp2
  refine bodyPost_end (results_none rfl _ _ _) rfl ?_
  exact ⟨rfl, hp, hk, HG.out⟩
set_option maxRecDepth 100000 in
theorem want_no (w : World) (gp : Nat) (ts : List Tok) (d c : Nat) (h : PAt w gp ts d) (hg : Good ts) (hc : sg ts ≠ c) (hs : sg ts < 256) (hc2 : c < 256) : Calls Tryz.prog 45 #[.pointer (some ⟨gp, 0, none⟩), .int .u8 c] w fun e w' => e = .panicked [{ v := Wrong 5 (hd ts).at_, recovered := false }] ∧ w = w' := by
  have h1 := psign_any w gp _ d h hg
  have h2 := fail_any w gp _ d h hg 5
  generalize (hd ts).at_ = P at *
  generalize sg ts = s at *
  have hne : ((s : Int) != c) = true := by rw [bne_iff_ne]; omega
  clear hg h hc
  go_enter Tryz.func45, Tryz.ntmps45
  go_wp2_with (go_at_call 59; refine h1.mono ?_; rintro e w1 ⟨rfl, rfl⟩)
  refine h2.mono ?_
  rintro e w1 ⟨rfl, rfl⟩
  go_wp2
  exact ⟨rfl, rfl, rfl⟩
set_option maxRecDepth 100000 in
theorem atitem_any (w : World) (gp : Nat) (ts : List Tok) (d : Nat) (h : PAt w gp ts d) (hg : Good ts) : Calls Tryz.prog 67 #[.pointer (some ⟨gp, 0, none⟩)] w fun e w' => e = .returned (.bool (atIt (hd ts))) ∧ w = w' := by
  have h1 := psign_any w gp _ d h hg
  obtain ⟨t, r, rfl⟩ := hg.ne
  obtain ⟨g, o, cap, hb, hl, hm, hne, hgs, hc⟩ := h
  obtain ⟨c0, c1, c2, c3⟩ := tcells_head t r g o w hc
  have hp : w.cell? ⟨gp, 0, none⟩ = some (.slice (some ⟨g, o, none⟩) (t :: r).length cap) := hb.cell 0
  have hl0 : 0 < (t :: r).length := by simp
  have HE : Hid (atIt (hd (t :: r)) = (t.kind == 1 || t.kind == 2 || sgOf t == 40)) := Lib.hid rfl
  have e : sg (t :: r) = sgOf t := rfl
  rw [e] at h1
  generalize atIt (hd (t :: r)) = z at *
  generalize (t :: r).length = n at *
  generalize sgOf t = s at *
  obtain ⟨K, P, T, F⟩ := t
  have HE : Hid (z = (K == 1 || K == 2 || s == 40)) := HE
  have c0 : w.cell? ⟨g, o, none⟩ = some (.int .i64 K) := c0
  unfold maxLen at hm
  clear hc hb hg e c1 c2 c3
  by_cases k1 : K = 1
  · subst k1
    have HZ : Hid (z = true) := Lib.hid (by rw [HE.out]; rfl)
    clear HE
    go_enter Tryz.func67, Tryz.ntmps67
    go_wp2_with fail
    go_ret
    exact ⟨ret_bool HZ.out.symm, rfl⟩
  · have k1' : ((K : Int) == 1) = false := by rw [beq_eq_false_iff_ne]; omega
    by_cases k2 : K = 2
    · subst k2
      have HZ : Hid (z = true) := Lib.hid (by rw [HE.out]; rfl)
      clear HE k1 k1'
      go_enter Tryz.func67, Tryz.ntmps67
      go_wp2_with fail
      go_ret
      exact ⟨ret_bool HZ.out.symm, rfl⟩
    · have k2' : ((K : Int) == 2) = false := by rw [beq_eq_false_iff_ne]; omega
      have HZ : Hid (z = ((s : Int) == 40)) := Lib.hid (by
        rw [HE.out, beq_false_of_ne k1, beq_false_of_ne k2, Bool.eq_iff_iff]
        simp
        omega)
      clear HE k1 k2
      go_enter Tryz.func67, Tryz.ntmps67
      go_wp2_with (go_at_call 59; refine h1.mono ?_; rintro e w1 ⟨rfl, rfl⟩)
      go_ret
      exact ⟨ret_bool HZ.out.symm, rfl⟩
end Go.Proofs.YtdddbkghleblhaaGreatDoor.lx
namespace Go.Proofs.YtdddbkghleblhaaGreatDoor.lx
open Go.ChangeShapes Go.WideShapes Go.ChangeAt Go.RowKit
set_option linter.unusedVariables false
attribute [local go_sem] run_store_float
/-! what stands in brackets -/
def Ans {α : Type} (V : World → Value → α → Prop) (gp d n : Nat) (w : World) (x : Res α) (e : Ending) (w' : World) : Prop :=
  Kp (fun i => i = gp) w w' ∧ match x with
  | .error p => e = .panicked [{ v := Wrong p.1 p.2, recovered := false }]
  | .ok (a, r) => ∃ v, e = .returned v ∧ V w' v a ∧ PAt w' gp r d ∧ Good r ∧ r.length ≤ n
def AltsOk (k : Nat) : Prop := ∀ (w : World) (gp : Nat) (ts : List Tok), k ≤ 16 → PAt w gp ts (16 - k) → Good ts → ts.length ≤ 70000 → Calls Tryz.prog 46 #[.pointer (some ⟨gp, 0, none⟩)] w (Ans (fun w' v bs => AltsAt (k + 1) w' (fun g => w.heap.size ≤ g) v bs) gp (16 - k) ts.length w (pA k ts))
def GroupOk (k : Nat) : Prop := ∀ (w : World) (gp : Nat) (ts : List Tok), k ≤ 16 → PAt w gp ts (16 - k) → Good ts → ts.length ≤ 70000 → sg ts = 40 → Calls Tryz.prog 75 #[.pointer (some ⟨gp, 0, none⟩)] w (Ans (fun w' v bs => AltsAt k w' (fun g => w.heap.size ≤ g) v bs) gp (16 - k) (ts.length - 1) w (pSub k ts))
theorem AltsAt.kp {k : Nat} {S : Nat → Prop} {w w' : World} {A : Nat → Prop} {v : Value} {bs : List Altn} (h : AltsAt k w A v bs) (hk : Kp S w w') (hA : ∀ g, A g → ¬ S g) : AltsAt k w' A v bs :=
  keepsAlts k _ _ _ _ _ _ h (fun g hg hg2 => ⟨hg2, hk.block g hg (hA g hg2)⟩) hk.size
theorem AltsAt.mono {k : Nat} {w : World} {A A' : Nat → Prop} {v : Value} {bs : List Altn} (h : AltsAt k w A v bs) (hA : ∀ g, A g → A' g) : AltsAt k w A' v bs :=
  keepsAlts k _ _ _ _ _ _ h (fun g _ hg2 => ⟨hA g hg2, rfl⟩) (Nat.le_refl _)
theorem PAt.deep {w : World} {gp d : Nat} {ts : List Tok} (h : PAt w gp ts d) (d' : Nat) (x : Int) (hx : x = d') : PAt (w.setCell ⟨gp, 1, none⟩ (.int .i64 x)) gp ts d' := by
  subst hx
  obtain ⟨g, o, cap, hb, hl, hm, hne, hgs, hc⟩ := h
  exact ⟨g, o, cap, hb.set_ 1 (.int .i64 d'), hl, hm, hne, by simpa using hgs, fun j u hj => (kp_at w gp 1 _).cell (hc j u hj) (by show ¬ g = gp; omega)⟩
theorem PAt.cell1 {w : World} {gp d : Nat} {ts : List Tok} (h : PAt w gp ts d) : w.cell? ⟨gp, 1, none⟩ = some (.int .i64 d) ∧ w.frozen? ⟨gp, 1, none⟩ = false := by
  obtain ⟨g, o, cap, hb, hl, hm, hne, hgs, hc⟩ := h
  exact ⟨hb.cell 1, hb.frozen 1⟩
theorem sg_byte {ts : List Tok} (h : Good ts) : sg ts < 256 := by
  unfold sg sgOf
  split
  · exact (UInt8.toNat_lt _)
  · decide
theorem Good.sg_tail {ts : List Tok} (h : Good ts) (h0 : 0 < sg ts) : ∃ t r, ts = t :: r ∧ sgOf t = sg ts ∧ Good r := by
  obtain ⟨t, r, rfl⟩ := h.ne
  refine ⟨t, r, rfl, rfl, h.tail fun hk => ?_⟩
  have h0 : 0 < sgOf t := h0
  unfold sgOf at h0
  rw [if_neg (by omega)] at h0
  omega
set_option maxRecDepth 100000 in
theorem group_zero : GroupOk 0 := by
  intro w gp ts _ h hg _ _
  have h2 := fail_any w gp _ _ h hg 6
  obtain ⟨hc, hf⟩ := h.cell1
  have hc : w.cell? ⟨gp, 1, none⟩ = some (.int .i64 16) := hc
  have hgp := h.lt
  show Calls _ _ _ _ (Ans _ _ _ _ _ (.error (6, (hd ts).at_)))
  generalize (hd ts).at_ = P at *
  clear h hg
  go_enter Tryz.func75, Tryz.ntmps75
  go_wp2_with fail
  refine h2.mono ?_
  rintro e w1 ⟨rfl, rfl⟩
  go_wp2
  exact ⟨rfl, Kp.refl _ _, rfl⟩
set_option maxRecDepth 100000 in
set_option maxHeartbeats 1000000 in
theorem group_succ (k : Nat) (hA : AltsOk k) : GroupOk (k + 1) := by
  intro w gp ts hk h hg hl hs
  obtain ⟨t, r, rfl, hst, hgr⟩ := hg.sg_tail (by omega)
  have h1 := want_ok w gp t r _ 40 h hg (hst.trans hs) (by decide) (by decide)
  obtain ⟨hc, hf⟩ := h.cell1
  have hgp := h.lt
  have hsub : pSub (k + 1) (t :: r) = pShut 41 (pA k r) := rfl
  rw [hsub]
  have hne : (((16 - (k + 1) : Nat) : Int) == 16) = false := by rw [beq_eq_false_iff_ne]; omega
  have e1 : 16 - (k + 1) + 1 = 16 - k := by omega
  have hd16 : 16 - (k + 1) ≤ 16 := by omega
  generalize 16 - (k + 1) = d at *
  clear h hg hst hs hsub
  go_enter Tryz.func75, Tryz.ntmps75
  go_wp2_with fail
  refine h1.mono ?_
  rintro e w1 ⟨rfl, hp1, hk1, _⟩
  obtain ⟨hc1, hf1⟩ := hp1.cell1
  have hz1 := hk1.size
  have HP1 := Lib.hid hp1
  have HK1 := Lib.hid hk1
  clear hp1 hk1 h1 hc hf
  go_wp2_with fail
  have hp2 := HP1.out.deep (16 - k) ((d : Int) + 1) (by omega)
  have ha := hA _ gp r (by omega) hp2 hgr (by have := hl; simp at this; omega)
  have HK2 := Lib.hid (HK1.out.trans (kp_at w1 gp 1 (.int .i64 ((d : Int) + 1))))
  have hsz : (w1.setCell ⟨gp, 1, none⟩ (.int .i64 ((d : Int) + 1))).heap.size = w1.heap.size := by simp
  rw [hsz] at ha
  refine ha.mono ?_
  rintro e w3 ⟨hk3, ha3⟩
  have hz3 := hk3.size
  rw [hsz] at hz3
  have HK3 := Lib.hid (HK2.out.trans hk3)
  clear hp2 ha hsz hk3
  have hlr : r.length ≤ (t :: r).length - 1 := by simp
  cases hx : pA k r with
  | error p =>
    rw [hx] at ha3
    obtain rfl : e = _ := ha3
    have HX := Lib.hid hx
    clear hx
    go_wp2_with fail
    refine ⟨rfl, HK3.out, ?_⟩
    rw [HX.out]
    rfl
  | ok x =>
    obtain ⟨bs, r2⟩ := x
    rw [hx] at ha3
    obtain ⟨v, rfl, hv, hp3, hg3, hl3⟩ := ha3
    obtain ⟨hc3, hf3⟩ := hp3.cell1
    have hgp3 : gp < w3.heap.size := hp3.lt
    have HP3 := Lib.hid (hp3.deep d (((16 - k : Nat) : Int) - 1) (by omega))
    have HV := Lib.hid hv
    have HX := Lib.hid hx
    clear hp3 hv hx
    have hd1 : ((16 - k : Nat) : Int) ≤ 17 := by omega
    have hd0 : 0 ≤ ((16 - k : Nat) : Int) := by omega
    go_wp2_with fail
    have HK4 := Lib.hid (HK3.out.trans (kp_at w3 gp 1 (.int .i64 (((16 - k : Nat) : Int) - 1))))
    have HV4 := Lib.hid (HV.out.kp (kp_at w3 gp 1 (.int .i64 (((16 - k : Nat) : Int) - 1))) (fun g hg => by omega))
    by_cases hs : sg r2 = 41
    · obtain ⟨t2, r3, rfl, hst2, hgr3⟩ := hg3.sg_tail (by omega)
      have h2 := want_ok _ gp t2 r3 _ 41 HP3.out hg3 (hst2.trans hs) (by decide) (by decide)
      refine h2.mono ?_
      rintro e w5 ⟨rfl, hp5, hk5, _⟩
      have HR : Hid (pShut 41 (pA k r) = .ok (bs, r3)) := Lib.hid (by rw [HX.out]; exact if_pos hs)
      have HV5 := Lib.hid (HV4.out.kp hk5 (fun g hg => by omega))
      have HK5 := Lib.hid (HK4.out.trans hk5)
      have HP5 := Lib.hid hp5
      clear h2 hp5 hk5
      go_wp2_with fail
      go_ret
      refine ⟨HK5.out, ?_⟩
      rw [HR.out]
      exact ⟨v, rfl, HV5.out.mono (fun g hg => by omega), HP5.out, hgr3, by simp at hl3 ⊢; omega⟩
    · have h2 := want_no _ gp r2 _ 41 HP3.out hg3 hs (sg_byte hg3) (by decide)
      refine h2.mono ?_
      rintro e w5 ⟨rfl, rfl⟩
      have HR : Hid (pShut 41 (pA k r) = .error (5, (hd r2).at_)) := Lib.hid (by rw [HX.out]; exact if_neg hs)
      clear h2
      go_wp2_with fail
      refine ⟨rfl, HK4.out, ?_⟩
      rw [HR.out]
end Go.Proofs.YtdddbkghleblhaaGreatDoor.lx

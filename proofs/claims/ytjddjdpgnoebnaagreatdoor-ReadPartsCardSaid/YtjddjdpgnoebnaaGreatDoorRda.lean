import Derived.Test.YtjddjdpgnoebnaaGreatDoorLxq
namespace Go.Proofs.YtjddjdpgnoebnaaGreatDoor.lx
open Go.ChangeShapes Go.WideShapes Go.ChangeAt Go.RowKit
set_option linter.unusedVariables false
/-! definitions: what the document says -/
inductive Itm where
  | mk (at_ kind : Nat) (text : List UInt8) (alts : List (Nat × Nat × List Itm)) (op : Nat)
def Itm.at_ : Itm → Nat | .mk a _ _ _ _ => a
def Itm.kind : Itm → Nat | .mk _ k _ _ _ => k
def Itm.text : Itm → List UInt8 | .mk _ _ t _ _ => t
def Itm.alts : Itm → List (Nat × Nat × List Itm) | .mk _ _ _ a _ => a
def Itm.op : Itm → Nat | .mk _ _ _ _ o => o
abbrev Altn := Nat × Nat × List Itm
abbrev Dfn := Nat × List UInt8 × List Altn
abbrev Res (α : Type) := Except (Nat × Nat) (α × List Tok)
def hd (ts : List Tok) : Tok := ts.headD ⟨0, 0, [], 0⟩
def sgOf (t : Tok) : Nat := if t.kind = 4 then (t.text.headD 0).toNat else 0
def sg (ts : List Tok) : Nat := sgOf (hd ts)
def atIt (t : Tok) : Bool := t.kind == 1 || t.kind == 2 || sgOf t == 40
def isOp (n : Nat) : Bool := n == 63 || n == 42 || n == 43
def opOf (ts : List Tok) : Nat := if isOp (sg ts) then sg ts else 0
def opTl (ts : List Tok) : List Tok := if isOp (sg ts) then ts.tail else ts
def pItem (sub : List Tok → Res (List Altn)) (ts : List Tok) : Res Itm :=
  if (hd ts).kind = 1 then .ok (.mk (hd ts).at_ 0 (hd ts).text [] (opOf ts.tail), opTl ts.tail)
  else if (hd ts).kind = 2 then .ok (.mk (hd ts).at_ 1 (hd ts).text [] (opOf ts.tail), opTl ts.tail)
  else match sub ts with
  | .error e => .error e
  | .ok (bs, r) => .ok (.mk (hd ts).at_ 2 [] bs (opOf r), opTl r)
def pItems (sub : List Tok → Res (List Altn)) : Nat → List Tok → Res (List Itm)
  | 0, _ => .error (99, 0)
  | f + 1, ts => if atIt (hd ts) then
      (match pItem sub ts with
      | .error e => .error e
      | .ok (i, r) => match pItems sub f r with
        | .error e => .error e
        | .ok (is, r2) => .ok (i :: is, r2))
    else .ok ([], ts)
def wtOf (t : Tok) : Nat := if t.kind = 3 then t.wt else 0
def wtTl (ts : List Tok) : List Tok := if (hd ts).kind = 3 then ts.tail else ts
def pAlt (sub : List Tok → Res (List Altn)) (ts : List Tok) : Res Altn :=
  match pItems sub (wtTl ts).length (wtTl ts) with
  | .error e => .error e
  | .ok (is, r) => .ok (((hd ts).at_, wtOf (hd ts), is), r)
def pMore (sub : List Tok → Res (List Altn)) : Nat → List Tok → Res (List Altn)
  | 0, _ => .error (99, 0)
  | f + 1, ts => if sg ts = 124 then
      (match pAlt sub ts.tail with
      | .error e => .error e
      | .ok (a, r) => match pMore sub f r with
        | .error e => .error e
        | .ok (bs, r2) => .ok (a :: bs, r2))
    else .ok ([], ts)
def pAlts (sub : List Tok → Res (List Altn)) (ts : List Tok) : Res (List Altn) :=
  match pAlt sub ts with
  | .error e => .error e
  | .ok (a, r) => match pMore sub r.length r with
    | .error e => .error e
    | .ok (bs, r2) => .ok (a :: bs, r2)
def pShut (c : Nat) (x : Res (List Altn)) : Res (List Altn) :=
  match x with
  | .error e => .error e
  | .ok (bs, r) => if sg r = c then .ok (bs, r.tail) else .error (5, (hd r).at_)
/-- alternatives, so many brackets more deep at most -/
def pA : Nat → List Tok → Res (List Altn)
  | 0, ts => pAlts (fun r => .error (6, (hd r).at_)) ts
  | d + 1, ts => pAlts (fun r => pShut 41 (pA d r.tail)) ts
def pSub : Nat → List Tok → Res (List Altn)
  | 0, r => .error (6, (hd r).at_)
  | d + 1, r => pShut 41 (pA d r.tail)
theorem pA_sub (d : Nat) (ts : List Tok) : pA d ts = pAlts (pSub d) ts := by cases d <;> rfl
def pDef (ts : List Tok) : Res Dfn :=
  if (hd ts).kind = 1 then
    (if sg ts.tail = 61 then
      (match pShut 59 (pA 16 ts.tail.tail) with
      | .error e => .error e
      | .ok (bs, r) => .ok (((hd ts).at_, (hd ts).text, bs), r))
    else .error (5, (hd ts.tail).at_))
  else .error (5, (hd ts).at_)
def pText : Nat → List Tok → Except (Nat × Nat) (List Dfn)
  | 0, _ => .error (99, 0)
  | f + 1, ts => match pDef ts with
    | .error e => .error e
    | .ok (d, r) => if (hd r).kind = 0 then .ok [d] else match pText f r with
      | .error e => .error e
      | .ok ds => .ok (d :: ds)
/-- a text's definitions, or what is wrong, and where -/
def readAll (s : List UInt8) : List Dfn × Nat × Nat :=
  if (lexAll s).2.1 = 0 then
    (match pText (lexAll s).1.length (lexAll s).1 with
    | .error e => ([], e)
    | .ok ds => (ds, 0, 0))
  else ([], (lexAll s).2)
/-! words in their order -/
def Good : List Tok → Prop
  | [] => False
  | [t] => t.kind = 0
  | t :: u :: r => (1 ≤ t.kind ∧ t.kind ≤ 4 ∧ (t.kind = 4 → ∃ c : UInt8, t.text = [c] ∧ 0 < c.toNat)) ∧ Good (u :: r)
theorem Good.ne {ts : List Tok} (h : Good ts) : ∃ t r, ts = t :: r := by
  cases ts with
  | nil => exact h.elim
  | cons t r => exact ⟨t, r, rfl⟩
theorem Good.tail {t : Tok} {r : List Tok} (h : Good (t :: r)) (hk : t.kind ≠ 0) : Good r := by
  cases r with
  | nil => exact absurd h hk
  | cons u r => exact h.2
theorem Good.kind {t : Tok} {r : List Tok} (h : Good (t :: r)) : t.kind ≤ 4 := by
  cases r with
  | nil => have : t.kind = 0 := h; omega
  | cons u r => exact h.1.2.1
theorem Good.sign {t : Tok} {r : List Tok} (h : Good (t :: r)) (hk : t.kind = 4) : ∃ c : UInt8, t.text = [c] ∧ 0 < c.toNat := by
  cases r with
  | nil => have : t.kind = 0 := h; omega
  | cons u r => exact h.1.2.2 hk
theorem Good.pos {ts : List Tok} (h : Good ts) : 0 < ts.length := by
  obtain ⟨t, r, rfl⟩ := h.ne
  simp
theorem word_sign {l : List UInt8} {w n : Nat} {t : List UInt8} (h : wordAt l = .ok (4, t, w, n)) : ∃ c : UInt8, t = [c] ∧ 0 < c.toNat := by
  cases l with
  | nil => cases h
  | cons c r =>
    rw [word_cons] at h
    have hs : sgnB c = true → 0 < c.toNat := fun hb => by
      rcases Nat.eq_zero_or_pos c.toNat with h0 | h0
      · obtain rfl : c = 0 := UInt8.toNat_inj.1 (by simpa using h0)
        exact absurd hb (by decide)
      · exact h0
    repeat' split at h
    all_goals first | (cases h; done) | (cases h; exact ⟨_, rfl, hs (by assumption)⟩)
theorem word_kind {l : List UInt8} {k w n : Nat} {t : List UInt8} (h : wordAt l = .ok (k, t, w, n)) : 1 ≤ k ∧ k ≤ 4 := by
  cases l with
  | nil => cases h
  | cons c r =>
    rw [word_cons] at h
    repeat' split at h
    all_goals first | (cases h; done) | (cases h; decide)
theorem lex_good (s : List UInt8) : ∀ (m k : Nat), s.length - k < m → k ≤ s.length → ∀ ts, lexA s k = (ts, none) → Good ts
  | 0, k, h, _, _, _ => by omega
  | m + 1, k, h, hk, ts, hts => by
    by_cases hlt : k < s.length
    · cases hx : wordAt (s.drop k) with
      | error e =>
        rw [lexA_error _ _ e hlt hx] at hts
        cases hts
      | ok x =>
        obtain ⟨kd, t, w, n⟩ := x
        have hn := word_n hx
        rw [List.length_drop] at hn
        have hg := nxt_ge s (k + n + 1)
        have hle := nxt_le s (k + n + 1) (by omega)
        have hkd := word_kind hx
        rw [lexA_ok _ _ kd w n t hlt hx] at hts
        rcases hy : lexA s (nxt s (k + n + 1)) with ⟨us, f⟩
        rw [hy] at hts
        obtain rfl : f = none := congrArg Prod.snd hts
        obtain rfl : ⟨kd, k, t, w⟩ :: us = ts := congrArg Prod.fst hts
        have ih := lex_good s m _ (by omega) hle _ hy
        obtain ⟨u, r, rfl⟩ := ih.ne
        refine ⟨⟨hkd.1, hkd.2, fun h4 => ?_⟩, ih⟩
        have h4 : kd = 4 := h4
        subst h4
        exact word_sign hx
    · rw [lexA, dif_neg hlt] at hts
      obtain rfl : _ = ts := congrArg Prod.fst hts
      rfl
theorem all_good (s : List UInt8) (h : (lexAll s).2.1 = 0) : Good (lexAll s).1 ∧ (lexAll s).2.2 = 0 := by
  unfold lexAll at h ⊢
  by_cases hb : 65536 < s.length
  · rw [if_pos hb] at h
    exact absurd h (by decide)
  · rw [if_neg hb] at h ⊢
    rcases hA : lexA s (nxt s 0) with ⟨x, f⟩
    rw [hA] at h
    cases f with
    | some f =>
      obtain ⟨e, k⟩ := f
      have := err_ge s hA
      have h : e = 0 := h
      omega
    | none => exact ⟨lex_good s _ _ (Nat.lt_succ_self _) (nxt_le s 0 (Nat.zero_le _)) _ hA, rfl⟩
end Go.Proofs.YtjddjdpgnoebnaaGreatDoor.lx

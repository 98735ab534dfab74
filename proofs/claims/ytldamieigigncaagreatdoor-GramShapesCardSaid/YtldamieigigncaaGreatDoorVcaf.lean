import Derived.Test.YtldamieigigncaaGreatDoorVcae
namespace Go.Proofs.YtldamieigigncaaGreatDoor.lx
open Go.ChangeShapes Go.WideShapes Go.ChangeAt Go.RowKit
set_option linter.unusedVariables false
inductive Itm where
  | mk (at_ kind : Nat) (text : List UInt8) (alts : List (Nat × Nat × List Itm)) (op : Nat)
def Itm.at_ : Itm → Nat | .mk a _ _ _ _ => a
def Itm.kind : Itm → Nat | .mk _ k _ _ _ => k
def Itm.text : Itm → List UInt8 | .mk _ _ t _ _ => t
def Itm.alts : Itm → List (Nat × Nat × List Itm) | .mk _ _ _ a _ => a
def Itm.op : Itm → Nat | .mk _ _ _ _ o => o
abbrev Altn := Nat × Nat × List Itm
abbrev Dfn := Nat × List UInt8 × List Altn
abbrev Res (α : Type) := Except (Nat × Nat) (α × List Tok)
def hd (ts : List Tok) : Tok := ts.headD ⟨0, 0, [], 0⟩
def sgOf (t : Tok) : Nat := if t.kind = 4 then (t.text.headD 0).toNat else 0
def sg (ts : List Tok) : Nat := sgOf (hd ts)
def atIt (t : Tok) : Bool := t.kind == 1 || t.kind == 2 || sgOf t == 40
def isOp (n : Nat) : Bool := n == 63 || n == 42 || n == 43
def opOf (ts : List Tok) : Nat := if isOp (sg ts) then sg ts else 0
def opTl (ts : List Tok) : List Tok := if isOp (sg ts) then ts.tail else ts
def pItem (sub : List Tok → Res (List Altn)) (ts : List Tok) : Res Itm :=
  if (hd ts).kind = 1 then .ok (.mk (hd ts).at_ 0 (hd ts).text [] (opOf ts.tail), opTl ts.tail)
  else if (hd ts).kind = 2 then .ok (.mk (hd ts).at_ 1 (hd ts).text [] (opOf ts.tail), opTl ts.tail)
  else match sub ts with
  | .error e => .error e
  | .ok (bs, r) => .ok (.mk (hd ts).at_ 2 [] bs (opOf r), opTl r)
def pItems (sub : List Tok → Res (List Altn)) : Nat → List Tok → Res (List Itm)
  | 0, _ => .error (99, 0)
  | f + 1, ts => if atIt (hd ts) then
      (match pItem sub ts with
      | .error e => .error e
      | .ok (i, r) => match pItems sub f r with
        | .error e => .error e
        | .ok (is, r2) => .ok (i :: is, r2))
    else .ok ([], ts)
def wtOf (t : Tok) : Nat := if t.kind = 3 then t.wt else 0
def wtTl (ts : List Tok) : List Tok := if (hd ts).kind = 3 then ts.tail else ts
def pAlt (sub : List Tok → Res (List Altn)) (ts : List Tok) : Res Altn :=
  match pItems sub (wtTl ts).length (wtTl ts) with
  | .error e => .error e
  | .ok (is, r) => .ok (((hd ts).at_, wtOf (hd ts), is), r)
def pMore (sub : List Tok → Res (List Altn)) : Nat → List Tok → Res (List Altn)
  | 0, _ => .error (99, 0)
  | f + 1, ts => if sg ts = 124 then
      (match pAlt sub ts.tail with
      | .error e => .error e
      | .ok (a, r) => match pMore sub f r with
        | .error e => .error e
        | .ok (bs, r2) => .ok (a :: bs, r2))
    else .ok ([], ts)
def pAlts (sub : List Tok → Res (List Altn)) (ts : List Tok) : Res (List Altn) :=
  match pAlt sub ts with
  | .error e => .error e
  | .ok (a, r) => match pMore sub r.length r with
    | .error e => .error e
    | .ok (bs, r2) => .ok (a :: bs, r2)
def pShut (c : Nat) (x : Res (List Altn)) : Res (List Altn) :=
  match x with
  | .error e => .error e
  | .ok (bs, r) => if sg r = c then .ok (bs, r.tail) else .error (5, (hd r).at_)
def pA : Nat → List Tok → Res (List Altn)
  | 0, ts => pAlts (fun r => .error (6, (hd r).at_)) ts
  | d + 1, ts => pAlts (fun r => pShut 41 (pA d r.tail)) ts
def pSub : Nat → List Tok → Res (List Altn)
  | 0, r => .error (6, (hd r).at_)
  | d + 1, r => pShut 41 (pA d r.tail)
theorem pA_sub (d : Nat) (ts : List Tok) : pA d ts = pAlts (pSub d) ts := by cases d <;> rfl
def pDef (ts : List Tok) : Res Dfn :=
  if (hd ts).kind = 1 then
    (if sg ts.tail = 61 then
      (match pShut 59 (pA 16 ts.tail.tail) with
      | .error e => .error e
      | .ok (bs, r) => .ok (((hd ts).at_, (hd ts).text, bs), r))
    else .error (5, (hd ts.tail).at_))
  else .error (5, (hd ts).at_)
def pText : Nat → List Tok → Except (Nat × Nat) (List Dfn)
  | 0, _ => .error (99, 0)
  | f + 1, ts => match pDef ts with
    | .error e => .error e
    | .ok (d, r) => if (hd r).kind = 0 then .ok [d] else match pText f r with
      | .error e => .error e
      | .ok ds => .ok (d :: ds)
def readAll (s : List UInt8) : List Dfn × Nat × Nat :=
  if (lexAll s).2.1 = 0 then
    (match pText (lexAll s).1.length (lexAll s).1 with
    | .error e => ([], e)
    | .ok ds => (ds, 0, 0))
  else ([], (lexAll s).2)
def Good : List Tok → Prop
  | [] => False
  | [t] => t.kind = 0
  | t :: u :: r => (1 ≤ t.kind ∧ t.kind ≤ 4 ∧ (t.kind = 4 → ∃ c : UInt8, t.text = [c] ∧ 0 < c.toNat)) ∧ Good (u :: r)
theorem Good.ne {ts : List Tok} (h : Good ts) : ∃ t r, ts = t :: r := by
  cases ts with
  | nil => exact h.elim
  | cons t r => exact ⟨t, r, rfl⟩
theorem Good.tail {t : Tok} {r : List Tok} (h : Good (t :: r)) (hk : t.kind ≠ 0) : Good r := by
  cases r with
  | nil => exact absurd h hk
  | cons u r => exact h.2
theorem Good.kind {t : Tok} {r : List Tok} (h : Good (t :: r)) : t.kind ≤ 4 := by
  cases r with
  | nil => have : t.kind = 0 := h; omega
  | cons u r => exact h.1.2.1
theorem Good.sign {t : Tok} {r : List Tok} (h : Good (t :: r)) (hk : t.kind = 4) : ∃ c : UInt8, t.text = [c] ∧ 0 < c.toNat := by
  cases r with
  | nil => have : t.kind = 0 := h; omega
  | cons u r => exact h.1.2.2 hk
theorem Good.pos {ts : List Tok} (h : Good ts) : 0 < ts.length := by
  obtain ⟨t, r, rfl⟩ := h.ne
  simp
theorem word_sign {l : List UInt8} {w n : Nat} {t : List UInt8} (h : wordAt l = .ok (4, t, w, n)) : ∃ c : UInt8, t = [c] ∧ 0 < c.toNat := by
  cases l with
  | nil => cases h
  | cons c r =>
    rw [word_cons] at h
    have hs : sgnB c = true → 0 < c.toNat := fun hb => by
      rcases Nat.eq_zero_or_pos c.toNat with h0 | h0
      · obtain rfl : c = 0 := UInt8.toNat_inj.1 (by simpa using h0)
        exact absurd hb (by decide)
      · exact h0
    repeat' split at h
    all_goals first | (cases h; done) | (cases h; exact ⟨_, rfl, hs (by assumption)⟩)
theorem word_kind {l : List UInt8} {k w n : Nat} {t : List UInt8} (h : wordAt l = .ok (k, t, w, n)) : 1 ≤ k ∧ k ≤ 4 := by
  cases l with
  | nil => cases h
  | cons c r =>
    rw [word_cons] at h
    repeat' split at h
    all_goals first | (cases h; done) | (cases h; decide)
theorem lex_good (s : List UInt8) : ∀ (m k : Nat), s.length - k < m → k ≤ s.length → ∀ ts, lexA s k = (ts, none) → Good ts
  | 0, k, h, _, _, _ => by omega
  | m + 1, k, h, hk, ts, hts => by
    by_cases hlt : k < s.length
    · cases hx : wordAt (s.drop k) with
      | error e =>
        rw [lexA_error _ _ e hlt hx] at hts
        cases hts
      | ok x =>
        obtain ⟨kd, t, w, n⟩ := x
        have hn := word_n hx
        rw [List.length_drop] at hn
        have hg := nxt_ge s (k + n + 1)
        have hle := nxt_le s (k + n + 1) (by omega)
        have hkd := word_kind hx
        rw [lexA_ok _ _ kd w n t hlt hx] at hts
        rcases hy : lexA s (nxt s (k + n + 1)) with ⟨us, f⟩
        rw [hy] at hts
        obtain rfl : f = none := congrArg Prod.snd hts
        obtain rfl : ⟨kd, k, t, w⟩ :: us = ts := congrArg Prod.fst hts
        have ih := lex_good s m _ (by omega) hle _ hy
        obtain ⟨u, r, rfl⟩ := ih.ne
        refine ⟨⟨hkd.1, hkd.2, fun h4 => ?_⟩, ih⟩
        have h4 : kd = 4 := h4
        subst h4
        exact word_sign hx
    · rw [lexA, dif_neg hlt] at hts
      obtain rfl : _ = ts := congrArg Prod.fst hts
      rfl
theorem all_good (s : List UInt8) (h : (lexAll s).2.1 = 0) : Good (lexAll s).1 ∧ (lexAll s).2.2 = 0 := by
  unfold lexAll at h ⊢
  by_cases hb : 65536 < s.length
  · rw [if_pos hb] at h
    exact absurd h (by decide)
  · rw [if_neg hb] at h ⊢
    rcases hA : lexA s (nxt s 0) with ⟨x, f⟩
    rw [hA] at h
    cases f with
    | some f =>
      obtain ⟨e, k⟩ := f
      have := err_ge s hA
      have h : e = 0 := h
      omega
    | none => exact ⟨lex_good s _ _ (Nat.lt_succ_self _) (nxt_le s 0 (Nat.zero_le _)) _ hA, rfl⟩
end Go.Proofs.YtldamieigigncaaGreatDoor.lx

namespace Go.Proofs.YtldamieigigncaaGreatDoor.lx
set_option linter.unusedVariables false
structure Ld where
  vars : List (List UInt8)
  terms : List (List UInt8)
  alts : List (List Altn)
  last : Nat
  rules : List (Nat × List Int × Nat)
abbrev LR (α : Type) := Except (Nat × Nat) α
def digsN : Nat → List UInt8
  | n => if n < 10 then [(48 + n).toUInt8] else digsN (n / 10) ++ [(48 + n % 10).toUInt8]
def gnm (n : Nat) : List UInt8 := 103 :: digsN n
def ldAdd (l : Ld) (name : List UInt8) (p : Nat) : LR Ld := if l.vars.length = 64 then .error (7, p) else .ok { l with vars := l.vars ++ [name] }
def ldDefs : Ld → List Dfn → LR Ld
  | l, [] => .ok l
  | l, d :: ds => if d.2.1 ∈ l.vars then .error (8, d.1) else match ldAdd l d.2.1 d.1 with
    | .error e => .error e
    | .ok l => ldDefs { l with alts := l.alts ++ [d.2.2] } ds
def wnI (vars : List (List UInt8)) (sub : List Altn → Option (Nat × Nat)) : List Itm → Option (Nat × Nat)
  | [] => none
  | i :: is => if i.kind = 0 ∧ i.text ∉ vars then some (9, i.at_) else match sub i.alts with
    | some e => some e
    | none => wnI vars sub is
def wnB (vars : List (List UInt8)) (sub : List Altn → Option (Nat × Nat)) : List Altn → Option (Nat × Nat)
  | [] => none
  | a :: zs => match wnI vars sub a.2.2 with
    | some e => some e
    | none => wnB vars sub zs
def wnA (vars : List (List UInt8)) : Nat → List Altn → Option (Nat × Nat)
  | 0, _ => none
  | k + 1, bs => wnB vars (wnA vars k) bs
def wnD (vars : List (List UInt8)) : List Dfn → Option (Nat × Nat)
  | [] => none
  | d :: ds => match wnA vars 17 d.2.2 with
    | some e => some e
    | none => wnD vars ds
def nextN (vars : List (List UInt8)) : Nat → Nat → Nat
  | 0, n => n + 1
  | f + 1, n => if gnm (n + 1) ∈ vars then nextN vars f (n + 1) else n + 1
def newN (l : Ld) : Nat := nextN l.vars l.vars.length l.last
def once (i : Itm) : Itm := .mk i.at_ i.kind i.text i.alts 0
def many (i : Itm) : Itm := .mk i.at_ i.kind i.text i.alts 42
def meanP (i : Itm) (name : List UInt8) : List Altn :=
  if i.op = 63 then [(i.at_, 0, [once i]), (i.at_, 0, [])]
  else if i.op = 42 then [(i.at_, 0, [once i, .mk i.at_ 0 name [] 0]), (i.at_, 0, [])]
  else if i.op = 43 then [(i.at_, 0, [once i, many i])]
  else i.alts
def symP (l : Ld) (i : Itm) : LR (Ld × Int) :=
  if i.op ≠ 0 ∨ i.kind = 2 then
    match ldAdd { l with last := newN l } (gnm (newN l)) i.at_ with
    | .error e => .error e
    | .ok l => .ok ({ l with alts := l.alts ++ [meanP i (gnm l.last)] }, (l.vars.length : Int) - 1)
  else if i.kind = 1 then
    if i.text ∈ l.terms then .ok (l, -(l.terms.idxOf i.text : Int) - 1)
    else if l.terms.length = 64 then .error (7, i.at_)
    else .ok ({ l with terms := l.terms ++ [i.text] }, -(l.terms.length : Int) - 1)
  else .ok (l, if i.text ∈ l.vars then (l.vars.idxOf i.text : Int) else -1)
def symsP : Ld → List Itm → LR (Ld × List Int)
  | l, [] => .ok (l, [])
  | l, i :: is => match symP l i with
    | .error e => .error e
    | .ok (l, x) => match symsP l is with
      | .error e => .error e
      | .ok (l, xs) => .ok (l, x :: xs)
def ruleP (l : Ld) (v : Nat) (a : Altn) : LR Ld :=
  if l.rules.length = 256 ∨ 24 < a.2.2.length then .error (7, a.1)
  else match symsP l a.2.2 with
  | .error e => .error e
  | .ok (l, xs) => if (l.rules.any fun r => r.1 == v && r.2.1 == xs) = true then .error (10, a.1) else .ok { l with rules := l.rules ++ [(v, xs, a.2.1)] }
def altsP : Ld → Nat → List Altn → LR Ld
  | l, _, [] => .ok l
  | l, v, a :: zs => match ruleP l v a with
    | .error e => .error e
    | .ok l => altsP l v zs
def goP : Nat → Nat → Ld → LR Ld
  | 0, _, _ => .error (99, 0)
  | f + 1, v, l => if v < l.alts.length then
      (match altsP l v (l.alts.getD v []) with
      | .error e => .error e
      | .ok l => goP f (v + 1) l)
    else .ok l
def ld0 : Ld := ⟨[], [], [], 0, []⟩
def srt (zs : List (List UInt8)) : List (List UInt8) := zs.mergeSort fun x y => decide (x ≤ y)
def turnS (came order : List (List UInt8)) (x : Int) : Int := if x < 0 then -(order.idxOf (came.getD (-x - 1).toNat []) : Int) - 1 else x
structure Gra where
  terms : List (List UInt8)
  vars : List (List UInt8)
  rules : List (Nat × List Int × Nat)
def gra0 : Gra := ⟨[], [], []⟩
def orderP (l : Ld) : Gra := ⟨srt l.terms, l.vars, l.rules.map fun r => (r.1, r.2.1.map (turnS l.terms (srt l.terms)), r.2.2)⟩
def loadD (ds : List Dfn) : LR Gra := match ldDefs ld0 ds with
  | .error e => .error e
  | .ok l => match wnD l.vars ds with
    | some e => .error e
    | none => match goP 65 0 l with
      | .error e => .error e
      | .ok l => .ok (orderP l)
structure LdOk (l : Ld) : Prop where
  vars : l.vars.length ≤ 64
  alts : l.alts.length = l.vars.length
  terms : l.terms.length ≤ 64
  rules : l.rules.length ≤ 256
  last : ∀ m, m < l.last → gnm (m + 1) ∈ l.vars
theorem ld0_ok : LdOk ld0 := ⟨by decide, rfl, by decide, by decide, fun m h => by cases h⟩
theorem nextN_le (vars : List (List UInt8)) : ∀ f n, n < nextN vars f n ∧ nextN vars f n ≤ n + f + 1
  | 0, n => ⟨Nat.lt_succ_self _, Nat.le_refl _⟩
  | f + 1, n => by
    unfold nextN
    have := nextN_le vars f (n + 1)
    split <;> omega
theorem nextN_mem (vars : List (List UInt8)) : ∀ f n m, n ≤ m → m + 1 < nextN vars f n → gnm (m + 1) ∈ vars
  | 0, n, m, h1, h2 => by
    have h2 : m + 1 < n + 1 := h2
    omega
  | f + 1, n, m, h1, h2 => by
    unfold nextN at h2
    split at h2
    · rename_i hm
      by_cases e : m = n
      · rw [e]; exact hm
      · exact nextN_mem vars f (n + 1) m (by omega) h2
    · omega
theorem newN_le (l : Ld) : l.last < newN l ∧ newN l ≤ l.last + l.vars.length + 1 := nextN_le _ _ _
theorem symP_ok {l l' : Ld} {i : Itm} {x : Int} (h : LdOk l) (e : symP l i = .ok (l', x)) : LdOk l' ∧ -64 ≤ x ∧ x < 64 ∧ l'.rules = l.rules ∧ l.alts.length ≤ l'.alts.length ∧ (∀ v, v < l.alts.length → l'.alts[v]? = l.alts[v]?) ∧ l.vars <+: l'.vars ∧ l.terms <+: l'.terms := by
  have h1 := h.vars
  have h2 := h.alts
  have h3 := h.terms
  have h5 := h.last
  unfold symP at e
  split at e
  · unfold ldAdd at e
    split at e
    · rename_i heq
      split at heq
      · cases e
      · cases heq
    · rename_i l1 heq
      split at heq
      · cases heq
      · rename_i hl
        cases heq
        cases e
        have := newN_le l
        replace hl : l.vars.length ≠ 64 := hl
        refine ⟨⟨by simp only [List.length_append, List.length_singleton]; omega, by simp only [List.length_append, List.length_singleton]; omega, h3, h.rules, ?_⟩, by simp only [List.length_append, List.length_singleton]; omega, by simp only [List.length_append, List.length_singleton]; omega, rfl, by simp, fun v hv => by simp [List.getElem?_append_left hv], List.prefix_append _ _, List.prefix_refl _⟩
        intro m hm
        have hm : m < newN l := hm
        show gnm (m + 1) ∈ l.vars ++ [gnm (newN l)]
        by_cases e1 : m + 1 = newN l
        · rw [e1]; simp
        · refine List.mem_append_left _ ?_
          by_cases e2 : m < l.last
          · exact h5 m e2
          · exact nextN_mem l.vars l.vars.length l.last m (by omega) (show m + 1 < newN l by omega)
  · split at e
    · split at e
      · rename_i ht
        cases e
        have := List.idxOf_lt_length_of_mem ht
        exact ⟨h, by omega, by omega, rfl, Nat.le_refl _, fun _ _ => rfl, List.prefix_refl _, List.prefix_refl _⟩
      · split at e
        · cases e
        · cases e
          exact ⟨⟨h1, h2, by simp; omega, h.rules, h5⟩, by omega, by omega, rfl, Nat.le_refl _, fun _ _ => rfl, List.prefix_refl _, List.prefix_append _ _⟩
    · cases e
      refine ⟨h, ?_, ?_, rfl, Nat.le_refl _, fun _ _ => rfl, List.prefix_refl _, List.prefix_refl _⟩
      · split <;> omega
      · split
        · rename_i hm
          have := List.idxOf_lt_length_of_mem hm
          omega
        · omega
theorem symsP_ok : ∀ {is : List Itm} {l l' : Ld} {xs : List Int}, LdOk l → symsP l is = .ok (l', xs) → LdOk l' ∧ xs.length = is.length ∧ (∀ x ∈ xs, -64 ≤ x ∧ x < 64) ∧ l'.rules = l.rules ∧ l.alts.length ≤ l'.alts.length ∧ (∀ v, v < l.alts.length → l'.alts[v]? = l.alts[v]?)
  | [], l, l', xs, h, e => by
    cases e
    exact ⟨h, rfl, fun x hx => by simp at hx, rfl, Nat.le_refl _, fun _ _ => rfl⟩
  | i :: is, l, l', xs, h, e => by
    unfold symsP at e
    cases h1 : symP l i with
    | error q => rw [h1] at e; cases e
    | ok y =>
      obtain ⟨l1, x⟩ := y
      rw [h1] at e
      simp only at e
      cases h2 : symsP l1 is with
      | error q => rw [h2] at e; cases e
      | ok z =>
        obtain ⟨l2, ys⟩ := z
        rw [h2] at e
        cases e
        obtain ⟨k1, k2, k3, k4, k5, k6, _, _⟩ := symP_ok h h1
        obtain ⟨m1, m2, m3, m4, m5, m6⟩ := symsP_ok k1 h2
        exact ⟨m1, by simp [m2], fun y hy => (List.mem_cons.1 hy).elim (fun e => by rw [e]; exact ⟨k2, k3⟩) (m3 y), m4.trans k4, by omega, fun v hv => (m6 v (by omega)).trans (k6 v hv)⟩
theorem ruleP_ok {l l' : Ld} {v : Nat} {a : Altn} (h : LdOk l) (e : ruleP l v a = .ok l') : LdOk l' ∧ l.alts.length ≤ l'.alts.length ∧ (∀ v, v < l.alts.length → l'.alts[v]? = l.alts[v]?) := by
  unfold ruleP at e
  split at e
  · cases e
  · rename_i hm
    cases h1 : symsP l a.2.2 with
    | error q => rw [h1] at e; cases e
    | ok y =>
      obtain ⟨l1, xs⟩ := y
      rw [h1] at e
      simp only at e
      obtain ⟨k1, k2, k3, k4, k5, k6⟩ := symsP_ok h h1
      split at e
      · cases e
      · cases e
        have := h.rules
        exact ⟨⟨k1.vars, k1.alts, k1.terms, by simp [k4]; omega, k1.last⟩, k5, k6⟩
theorem altsP_ok : ∀ {zs : List Altn} {l l' : Ld} {v : Nat}, LdOk l → altsP l v zs = .ok l' → LdOk l' ∧ l.alts.length ≤ l'.alts.length ∧ (∀ v, v < l.alts.length → l'.alts[v]? = l.alts[v]?)
  | [], l, l', v, h, e => by
    cases e
    exact ⟨h, Nat.le_refl _, fun _ _ => rfl⟩
  | a :: zs, l, l', v, h, e => by
    unfold altsP at e
    cases h1 : ruleP l v a with
    | error q => rw [h1] at e; cases e
    | ok l1 =>
      rw [h1] at e
      obtain ⟨k1, k2, k3⟩ := ruleP_ok h h1
      obtain ⟨m1, m2, m3⟩ := altsP_ok k1 e
      exact ⟨m1, by omega, fun u hu => (m3 u (by omega)).trans (k3 u hu)⟩
def undig (l : List UInt8) : Nat := l.foldl (fun a c => 10 * a + (c.toNat - 48)) 0
theorem undig_digs (n : Nat) : undig (digsN n) = n := by
  induction n using Nat.strongRecOn with
  | _ n ih =>
    rw [digsN]
    split
    · rename_i h
      show 10 * 0 + ((48 + n).toUInt8.toNat - 48) = n
      simp only [Nat.toUInt8, UInt8.ofNat, UInt8.toNat, BitVec.toNat_ofNat]
      omega
    · rename_i h
      unfold undig
      rw [List.foldl_append]
      have := ih (n / 10) (by omega)
      unfold undig at this
      rw [this]
      show 10 * (n / 10) + ((48 + n % 10).toUInt8.toNat - 48) = n
      simp only [Nat.toUInt8, UInt8.ofNat, UInt8.toNat, BitVec.toNat_ofNat]
      omega
theorem gnm_inj {a b : Nat} (h : gnm a = gnm b) : a = b := by
  have : digsN a = digsN b := (List.cons.inj h).2
  rw [← undig_digs a, ← undig_digs b, this]
theorem nodup_le {α : Type} [BEq α] [LawfulBEq α] : ∀ (l v : List α), l.Nodup → l ⊆ v → l.length ≤ v.length
  | [], _, _, _ => Nat.zero_le _
  | x :: xs, v, hn, hs => by
    have hx : x ∈ v := hs List.mem_cons_self
    obtain ⟨h1, h2⟩ := List.nodup_cons.1 hn
    have := nodup_le xs (v.erase x) h2 (fun y hy => (List.mem_erase_of_ne (fun e => h1 (by rw [← e]; exact hy))).2 (hs (List.mem_cons_of_mem _ hy)))
    rw [List.length_erase_of_mem hx] at this
    have := List.length_pos_of_mem hx
    simp
    omega
theorem pigeon (vars : List (List UInt8)) (n : Nat) : ∀ j, (∀ m, m < j → gnm (n + m + 1) ∈ vars) → j ≤ vars.length := by
  intro j h
  have hnd : ((List.range j).map fun m => gnm (n + m + 1)).Nodup := by
    rw [List.nodup_iff_pairwise_ne, List.pairwise_map]
    refine List.Pairwise.imp ?_ (List.pairwise_lt_range (n := j))
    intro a b hab e
    have := gnm_inj e
    omega
  have hsub : ((List.range j).map fun m => gnm (n + m + 1)) ⊆ vars := fun x hx => by
    obtain ⟨m, hm, rfl⟩ := List.mem_map.1 hx
    exact h m (List.mem_range.1 hm)
  have := nodup_le _ _ hnd hsub
  simpa using this
theorem nextN_stop (vars : List (List UInt8)) : ∀ (f n j : Nat), j ≤ f → (∀ m, m < j → gnm (n + m + 1) ∈ vars) → gnm (n + j + 1) ∉ vars → nextN vars f n = n + j + 1
  | 0, n, j, hj, _, _ => by
    obtain rfl : j = 0 := by omega
    rfl
  | f + 1, n, 0, _, _, h => by
    unfold nextN
    rw [if_neg h]
  | f + 1, n, j + 1, hj, h1, h2 => by
    unfold nextN
    rw [if_pos (h1 0 (by omega))]
    have := nextN_stop vars f (n + 1) j (by omega) (fun m hm => by have := h1 (m + 1) (by omega); rwa [show n + 1 + m + 1 = n + (m + 1) + 1 by omega]) (by rwa [show n + 1 + j + 1 = n + (j + 1) + 1 by omega])
    omega
def insS (x : List UInt8) (l : List (List UInt8)) : List (List UInt8) := l.takeWhile (fun y => decide (y < x)) ++ x :: l.dropWhile (fun y => decide (y < x))
theorem insS_perm (x : List UInt8) (l : List (List UInt8)) : (insS x l).Perm (x :: l) := by
  unfold insS
  have := List.perm_middle (a := x) (l₁ := l.takeWhile (fun y => decide (y < x))) (l₂ := l.dropWhile (fun y => decide (y < x)))
  rwa [List.takeWhile_append_dropWhile] at this
theorem insS_sorted (x : List UInt8) : ∀ l : List (List UInt8), l.Pairwise (· ≤ ·) → (insS x l).Pairwise (· ≤ ·)
  | [], _ => by simp [insS]
  | y :: l, h => by
    obtain ⟨h1, h2⟩ := List.pairwise_cons.1 h
    unfold insS
    by_cases hy : y < x
    · rw [List.takeWhile_cons_of_pos (by simpa using hy), List.dropWhile_cons_of_pos (by simpa using hy), List.cons_append]
      refine List.pairwise_cons.2 ⟨fun z hz => ?_, insS_sorted x l h2⟩
      have hz2 := (insS_perm x l).mem_iff.1 hz
      rcases List.mem_cons.1 hz2 with rfl | hz2
      · exact List.le_of_lt hy
      · exact h1 z hz2
    · rw [List.takeWhile_cons_of_neg (by simpa using hy), List.dropWhile_cons_of_neg (by simpa using hy), List.nil_append]
      refine List.pairwise_cons.2 ⟨fun z hz => ?_, h⟩
      rcases List.mem_cons.1 hz with rfl | hz2
      · exact List.not_lt.1 hy
      · exact List.le_trans (List.not_lt.1 hy) (h1 z hz2)
theorem sorted_eq : ∀ (a b : List (List UInt8)), a.Pairwise (· ≤ ·) → b.Pairwise (· ≤ ·) → a.Perm b → a = b := fun a b ha hb h => List.Perm.eq_of_pairwise (fun _ _ _ _ h1 h2 => List.le_antisymm h1 h2) ha hb h
theorem srt_perm (zs : List (List UInt8)) : (srt zs).Perm zs := List.mergeSort_perm ..
theorem srt_len (zs : List (List UInt8)) : (srt zs).length = zs.length := List.length_mergeSort ..
theorem srt_sorted (zs : List (List UInt8)) : (srt zs).Pairwise (· ≤ ·) := by
  have := List.pairwise_mergeSort (le := fun x y : List UInt8 => decide (x ≤ y)) (fun a b c h1 h2 => by simp at *; exact List.le_trans h1 h2) (fun a b => by simpa using List.le_total a b) zs
  simpa [srt] using this
theorem srt_snoc (zs : List (List UInt8)) (x : List UInt8) : srt (zs ++ [x]) = insS x (srt zs) :=
  sorted_eq _ _ (srt_sorted _) (insS_sorted _ _ (srt_sorted _)) ((srt_perm _).trans ((List.perm_append_singleton x zs).trans (((srt_perm zs).symm.cons x).trans (insS_perm x (srt zs)).symm)))
theorem srt_nil : srt [] = [] := by simp [srt]
end Go.Proofs.YtldamieigigncaaGreatDoor.lx

namespace Go.Proofs.YtldamieigigncaaGreatDoor.lx
open Go.ChangeShapes Go.WideShapes Go.ChangeAt Go.RowKit
set_option linter.unusedVariables false
abbrev Elem (α : Type) := World → (Nat → Prop) → α → List Value → Prop
def Keeps {α : Type} (E : Elem α) : Prop := ∀ (w w' : World) (A A' : Nat → Prop) (x : α) (cs : List Value), E w A x cs → (∀ g, g < w.heap.size → A g → A' g ∧ w'.heap[g]? = w.heap[g]?) → w.heap.size ≤ w'.heap.size → E w' A' x cs
def ListOf {α : Type} (c : Nat) (E : Elem α) (w : World) (A : Nat → Prop) (v : Value) (xs : List α) : Prop := xs.length ≤ maxLen ∧ ∃ ao cap, v = .slice ao xs.length cap ∧ (0 < xs.length → ∃ g, ao = some ⟨g, 0, none⟩ ∧ g < w.heap.size ∧ A g ∧ ∀ (k : Nat) (x : α), xs[k]? = some x → ∃ cs, cs.length = c ∧ (∀ j u, cs[j]? = some u → w.cell? ⟨g, k * c + j, none⟩ = some u) ∧ E w A x cs)
def OwnOf {α : Type} (c : Nat) (E : Elem α) (ty B : Nat) (w : World) (v : Value) (xs : List α) : Prop := ∃ us : List (List Value), us.length = xs.length ∧ (∀ u ∈ us, u.length = c) ∧ w.ownsRow B ty c v xs.length us.flatten ∧ ∀ (k : Nat) (x : α), xs[k]? = some x → ∃ cs, us[k]? = some cs ∧ E w (fun g => B ≤ g ∧ some g ≠ v.ownBlock) x cs
theorem lt_heap {w : World} {g : Nat} {o : Obj} (h : w.heap[g]? = some o) : g < w.heap.size := by
  rcases Nat.lt_or_ge g w.heap.size with hlt | hge
  · exact hlt
  · rw [Array.getElem?_eq_none hge] at h; cases h
theorem cell_same {w w' : World} {a : Addr} (h : w'.heap[a.block]? = w.heap[a.block]?) : w'.cell? a = w.cell? a := World.cell?_of_block h
theorem ListOf.keep {α : Type} {c : Nat} {E : Elem α} (hE : Keeps E) {w w' : World} {A A' : Nat → Prop} {v : Value} {xs : List α} (h : ListOf c E w A v xs) (hk : ∀ g, g < w.heap.size → A g → A' g ∧ w'.heap[g]? = w.heap[g]?) (hs : w.heap.size ≤ w'.heap.size) : ListOf c E w' A' v xs := by
  obtain ⟨hl, ao, cap, e, h⟩ := h
  refine ⟨hl, ao, cap, e, fun h0 => ?_⟩
  obtain ⟨g, e2, hg, hA, hc⟩ := h h0
  obtain ⟨hA', hb⟩ := hk g hg hA
  refine ⟨g, e2, Nat.lt_of_lt_of_le hg hs, hA', fun k x hx => ?_⟩
  obtain ⟨cs, h1, h2, h3⟩ := hc k x hx
  exact ⟨cs, h1, fun j u hj => (cell_same (a := ⟨g, k * c + j, none⟩) hb).trans (h2 j u hj), hE _ _ _ _ _ _ h3 hk hs⟩
theorem ListOf.nil {α : Type} {c : Nat} {E : Elem α} (w : World) (A : Nat → Prop) : ListOf c E w A (.slice none 0 0) ([] : List α) := ⟨Nat.zero_le _, none, 0, rfl, fun h => absurd h (Nat.lt_irrefl _)⟩
theorem flat_at {c : Nat} : ∀ (us : List (List Value)) (k j : Nat) (cs : List Value), (∀ u ∈ us, u.length = c) → us[k]? = some cs → j < c → us.flatten[k * c + j]? = cs[j]?
  | [], k, j, cs, _, h, _ => by simp at h
  | u :: us, 0, j, cs, hc, h, hj => by
    obtain rfl : u = cs := by simpa using h
    have hl := hc u (by simp)
    rw [List.flatten_cons, Nat.zero_mul, Nat.zero_add, List.getElem?_append_left (by omega)]
  | u :: us, k + 1, j, cs, hc, h, hj => by
    have hl := hc u (by simp)
    have e : (k + 1) * c + j = c + (k * c + j) := by rw [Nat.add_mul]; omega
    rw [List.flatten_cons, List.getElem?_append_right (by omega), hl, e, Nat.add_sub_cancel_left]
    exact flat_at us k j cs (fun u hu => hc u (by simp [hu])) (by simpa using h) hj
theorem ownsRow_keep {w w' : World} {base size n : Nat} {e : TypeId} {v : Value} {xs : List Value} (h : w.ownsRow base e size v n xs) (hb : ∀ g, g < w.heap.size → v.ownBlock = some g → w'.heap[g]? = w.heap[g]?) : w'.ownsRow base e size v n xs := by
  obtain ⟨hl, h | ⟨g, cap, cur, hv, hB, hh, r⟩⟩ := h
  · exact ⟨hl, .inl h⟩
  · exact ⟨hl, .inr ⟨g, cap, cur, hv, hB, (hb g (lt_heap hh) (by rw [hv]; rfl)).trans hh, r⟩⟩
theorem OwnOf.keep {α : Type} {c : Nat} {E : Elem α} (hE : Keeps E) {ty B : Nat} {w w' : World} {v : Value} {xs : List α} (h : OwnOf c E ty B w v xs) (hk : ∀ g, g < w.heap.size → B ≤ g → w'.heap[g]? = w.heap[g]?) (hs : w.heap.size ≤ w'.heap.size) : OwnOf c E ty B w' v xs := by
  obtain ⟨us, h1, h2, h3, h4⟩ := h
  refine ⟨us, h1, h2, ownsRow_keep h3 fun g hg hv => hk g hg (h3.lt g hv).1, fun k x hx => ?_⟩
  obtain ⟨cs, e, h5⟩ := h4 k x hx
  exact ⟨cs, e, hE _ _ _ _ _ _ h5 (fun g hg hA => ⟨hA, hk g hg hA.1⟩) hs⟩
theorem OwnOf.nil {α : Type} {c : Nat} {E : Elem α} (ty B : Nat) (w : World) : OwnOf c E ty B w (.slice none 0 0) ([] : List α) :=
  ⟨[], rfl, fun u hu => by simp at hu, World.ownsRow_nil _ _ _ _, fun k x hx => by simp at hx⟩
theorem OwnOf.step {α : Type} {c : Nat} {E : Elem α} (hE : Keeps E) {ty B : Nat} {w w' : World} {v v' : Value} {xs : List α} {x : α} {cs : List Value} {us : List (List Value)} (h1 : us.length = xs.length) (h2 : ∀ u ∈ us, u.length = c)
    (h4 : ∀ (k : Nat) (x : α), xs[k]? = some x → ∃ cs, us[k]? = some cs ∧ E w (fun g => B ≤ g ∧ some g ≠ v.ownBlock) x cs) (hx : E w (fun g => B ≤ g ∧ some g ≠ v.ownBlock) x cs) (hc : cs.length = c)
    (ho : w'.ownsRow B ty c v' (xs.length + 1) (us.flatten ++ cs)) (hg : w.grownBy w' v.ownBlock) (hat : v'.ownBlock = v.ownBlock ∨ v'.ownBlock = some w.heap.size) : OwnOf c E ty B w' v' (xs ++ [x]) := by
  have hk : ∀ g, g < w.heap.size → (B ≤ g ∧ some g ≠ v.ownBlock) → (B ≤ g ∧ some g ≠ v'.ownBlock) ∧ w'.heap[g]? = w.heap[g]? := fun g hgl hA => by
    refine ⟨⟨hA.1, ?_⟩, hg.block g hgl hA.2⟩
    rcases hat with h | h
    · rw [h]; exact hA.2
    · rw [h]
      intro e
      have := Option.some.inj e
      omega
  refine ⟨us ++ [cs], by simp [h1], fun u hu => ?_, by simpa using ho, fun k y hy => ?_⟩
  · rcases List.mem_append.1 hu with hu | hu
    · exact h2 u hu
    · have := List.mem_singleton.1 hu
      rw [this]; exact hc
  · by_cases hlt : k < xs.length
    · rw [List.getElem?_append_left hlt] at hy
      obtain ⟨ds, e, h5⟩ := h4 k y hy
      exact ⟨ds, by rw [List.getElem?_append_left (by omega)]; exact e, hE _ _ _ _ _ _ h5 hk hg.size⟩
    · have hk2 : k = xs.length := by
        have := List.getElem?_eq_some_iff.1 hy
        obtain ⟨h, _⟩ := this
        simp at h
        omega
      subst hk2
      obtain rfl : x = y := by simpa using hy
      exact ⟨cs, by rw [← h1]; simp, hE _ _ _ _ _ _ hx hk hg.size⟩
theorem OwnOf.lit1 {α : Type} {c : Nat} {E : Elem α} (hE : Keeps E) (ty B : Nat) (w : World) (hB : B ≤ w.heap.size) (x : α) (cs : List Value) (hc : cs.length = c) (hx : E w (fun g => B ≤ g) x cs) : OwnOf c E ty B (w.alloc (.cells cs.toArray ty)) (.slice (some ⟨w.heap.size, 0, none⟩) 1 1) [x] := by
  refine ⟨[cs], rfl, fun u hu => by rw [List.mem_singleton.1 hu]; exact hc, ?_, fun k y hy => ?_⟩
  · have := World.ownsRow_lit (e := ty) (size := c) w cs.toArray 1 hB (by decide) (by simp [hc])
    simpa using this
  · have hk0 : k = 0 := by
      obtain ⟨h, _⟩ := List.getElem?_eq_some_iff.1 hy
      simp at h
      omega
    subst hk0
    obtain rfl : x = y := by simpa using hy
    refine ⟨cs, rfl, hE _ _ _ _ _ _ hx (fun g hg hA => ⟨⟨hA, ?_⟩, Below.heap_alloc w _ g hg⟩) (by simp)⟩
    show some g ≠ some w.heap.size
    intro e
    have := Option.some.inj e
    omega
theorem OwnOf.done {α : Type} {c : Nat} {E : Elem α} (hE : Keeps E) {ty B : Nat} {w : World} {v : Value} {xs : List α} (h : OwnOf c E ty B w v xs) : ListOf c E w (fun g => B ≤ g) v xs := by
  obtain ⟨us, h1, h2, h3, h4⟩ := h
  refine ⟨?_, ?_⟩
  · obtain ⟨hl, ⟨h1, h2⟩ | ⟨g, cap, cur, hv, hB, hh, hn, hc, r⟩⟩ := h3 <;> omega
  · by_cases h0 : 0 < xs.length
    · obtain ⟨g, cap, e, hB, hg, hc⟩ := own_open h3 h0
      refine ⟨_, cap, e, fun _ => ⟨g, rfl, hg, hB, fun k x hx => ?_⟩⟩
      obtain ⟨cs, e2, h5⟩ := h4 k x hx
      have hcl := h2 cs (List.mem_of_getElem? e2)
      refine ⟨cs, hcl, fun j u hj => hc _ u ?_, hE _ _ _ _ _ _ h5 (fun g hg hA => ⟨hA.1, rfl⟩) (Nat.le_refl _)⟩
      have hjl : j < c := by
        obtain ⟨h, _⟩ := List.getElem?_eq_some_iff.1 hj
        omega
      rw [flat_at us k j cs h2 e2 hjl]
      exact hj
    · obtain ⟨ao, cap, e⟩ := own_form h3
      exact ⟨ao, cap, e, fun h => absurd h h0⟩
def ItmC (i : Itm) (av : Value) : List Value := [.int .i64 i.at_, .int .i64 i.kind, .string (S i.text), av, .int .u8 i.op]
def AltC (a : Altn) (iv : Value) : List Value := [.int .i64 a.1, .float .f64 a.2.1, iv]
def DefC (d : Dfn) (av : Value) : List Value := [.int .i64 d.1, .string (S d.2.1), av]
def EItm (P : World → (Nat → Prop) → Value → List Altn → Prop) : Elem Itm := fun w A i cs => ∃ av, cs = ItmC i av ∧ P w A av i.alts
def EAlt (P : World → (Nat → Prop) → Value → List Altn → Prop) : Elem Altn := fun w A a cs => ∃ iv, cs = AltC a iv ∧ ListOf 5 (EItm P) w A iv a.2.2
def AltsAt : Nat → World → (Nat → Prop) → Value → List Altn → Prop
  | 0, w, A, v, bs => bs = [] ∧ ∃ ao cap, v = .slice ao 0 cap
  | d + 1, w, A, v, bs => ListOf 3 (EAlt (AltsAt d)) w A v bs
def EDef : Elem Dfn := fun w A d cs => ∃ av, cs = DefC d av ∧ AltsAt 17 w A av d.2.2
def KeepsP (P : World → (Nat → Prop) → Value → List Altn → Prop) : Prop := ∀ (w w' : World) (A A' : Nat → Prop) (v : Value) (bs : List Altn), P w A v bs → (∀ g, g < w.heap.size → A g → A' g ∧ w'.heap[g]? = w.heap[g]?) → w.heap.size ≤ w'.heap.size → P w' A' v bs
theorem keepsItm {P : World → (Nat → Prop) → Value → List Altn → Prop} (hP : KeepsP P) : Keeps (EItm P) := by
  rintro w w' A A' x cs ⟨av, e, h⟩ hk hs
  exact ⟨av, e, hP _ _ _ _ _ _ h hk hs⟩
theorem keepsAlt {P : World → (Nat → Prop) → Value → List Altn → Prop} (hP : KeepsP P) : Keeps (EAlt P) := by
  rintro w w' A A' x cs ⟨iv, e, h⟩ hk hs
  exact ⟨iv, e, h.keep (keepsItm hP) hk hs⟩
theorem keepsAlts : ∀ d, KeepsP (AltsAt d)
  | 0 => by
    rintro w w' A A' v bs h hk hs
    exact h
  | d + 1 => by
    intro w w' A A' v bs h hk hs
    exact ListOf.keep (keepsAlt (keepsAlts d)) h hk hs
theorem keepsDef : Keeps EDef := by
  rintro w w' A A' x cs ⟨av, e, h⟩ hk hs
  exact ⟨av, e, keepsAlts 17 _ _ _ _ _ _ h hk hs⟩
theorem AltsAt.nil (d : Nat) (w : World) (A : Nat → Prop) : AltsAt d w A (.slice none 0 0) [] := by
  cases d with
  | zero => exact ⟨rfl, none, 0, rfl⟩
  | succ d => exact ListOf.nil w A
structure Kp (S : Nat → Prop) (w w' : World) : Prop where
  os : w'.os = w.os
  tape : w'.tape = w.tape
  output : w'.output = w.output
  size : w.heap.size ≤ w'.heap.size
  block : ∀ k, k < w.heap.size → ¬ S k → w'.heap[k]? = w.heap[k]?
section
variable {S T : Nat → Prop} {a b c w w' : World}
theorem Kp.refl (S : Nat → Prop) (w : World) : Kp S w w := ⟨rfl, rfl, rfl, Nat.le_refl _, fun _ _ _ => rfl⟩
theorem Kp.trans (h : Kp S a b) (k : Kp S b c) : Kp S a c :=
  ⟨k.os.trans h.os, k.tape.trans h.tape, k.output.trans h.output, Nat.le_trans h.size k.size, fun i hi hn => (k.block i (Nat.lt_of_lt_of_le hi h.size) hn).trans (h.block i hi hn)⟩
theorem Kp.then_ (h : Kp S a b) (k : Kp T b c) (hT : ∀ i, T i → S i ∨ a.heap.size ≤ i) : Kp S a c :=
  ⟨k.os.trans h.os, k.tape.trans h.tape, k.output.trans h.output, Nat.le_trans h.size k.size, fun i hi hn => (k.block i (Nat.lt_of_lt_of_le hi h.size) (fun ht => (hT i ht).elim hn (fun h => by omega))).trans (h.block i hi hn)⟩
theorem Kp.of_grown {row : Option Nat} (h : w.grownBy w' row) : Kp (fun i => row = some i) w w' := ⟨h.os, h.tape, h.output, h.size, fun i hi hn => h.block i hi (fun e => hn e.symm)⟩
theorem Kp.alloc (S : Nat → Prop) (w : World) (o : Obj) : Kp S w (w.alloc o) := by
  have h := World.grownBy_alloc w o none
  exact ⟨h.os, h.tape, h.output, h.size, fun i hi _ => h.block i hi (by simp)⟩
theorem Kp.of_below {n : Nat} (h : Below n w w') (hn : w.heap.size ≤ n) : Kp S w w' := ⟨h.os, h.tape, h.output, h.size, fun i hi _ => h.block i (by omega)⟩
theorem Kp.set_ (h : Kp S a b) {p : Addr} (hp : S p.block ∨ a.heap.size ≤ p.block) (u : Value) : Kp S a (b.setCell p u) := by
  refine ⟨h.os, h.tape, h.output, by simpa using h.size, fun k hk hn => (Below.heap_setCell b p u k ?_).trans (h.block k hk hn)⟩
  rintro rfl
  rcases hp with hp | hp
  · exact hn hp
  · omega
end
theorem Blk.kept {S : Nat → Prop} {w w' : World} {g : Nat} {t : TypeId} {cs : Array Value} (h : Blk w g t cs) (k : Kp S w w') (hn : ¬ S g) : Blk w' g t cs := (k.block g (lt_heap h) hn).trans h
theorem Kp.cell {S : Nat → Prop} {w w' : World} {p : Addr} {u : Value} (k : Kp S w w') (h : w.cell? p = some u) (hn : ¬ S p.block) : w'.cell? p = some u := by
  have hlt : p.block < w.heap.size := by
    rcases Nat.lt_or_ge p.block w.heap.size with hlt | hge
    · exact hlt
    · rw [World.cell?] at h; simp [Array.getElem?_eq_none hge] at h
  exact (World.cell?_of_block (k.block p.block hlt hn)).trans h
end Go.Proofs.YtldamieigigncaaGreatDoor.lx


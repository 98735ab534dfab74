import Derived.Test.YtkhflfkedpkelaaGreatDoorFlo
namespace Go.Proofs.YtkhflfkedpkelaaGreatDoor.lx
set_option linter.unusedVariables false
/-! texts, as lists of bytes: what the document says -/
def letB (c : UInt8) : Bool := (97 ≤ c && c ≤ 122) || (65 ≤ c && c ≤ 90)
def digB (c : UInt8) : Bool := 48 ≤ c && c ≤ 57
def namB (c : UInt8) : Bool := letB c || digB c || c == 95
def quoB (c : UInt8) : Bool := 32 ≤ c && c ≤ 126 && c != 39
def blkB (c : UInt8) : Bool := c == 32 || c == 9 || c == 13 || c == 10
def sgnB (c : UInt8) : Bool := c == 61 || c == 59 || c == 124 || c == 40 || c == 41 || c == 63 || c == 42 || c == 43
def wgtB (c : UInt8) : Bool := letB c || digB c || c == 46 || c == 45
/-- how far a run goes -/
def runN {σ : Type} (st : σ → UInt8 → Bool × σ) : σ → List UInt8 → Nat
  | _, [] => 0
  | s, c :: l => if (st s c).1 then runN st (st s c).2 l + 1 else 0
def skipS (r : Bool) (c : UInt8) : Bool × Bool := ((c == 35 || (r && c != 10)) || blkB c, c == 35 || (r && c != 10))
def plainS (p : UInt8 → Bool) (_ : Unit) (c : UInt8) : Bool × Unit := (p c, ())
def runP (p : UInt8 → Bool) (l : List UInt8) : Nat := (l.takeWhile p).length
theorem runN_plain (p : UInt8 → Bool) : ∀ (l : List UInt8), runN (plainS p) () l = runP p l
  | [] => rfl
  | c :: l => by
    have ih := runN_plain p l
    unfold runP at ih ⊢
    rw [List.takeWhile_cons]
    by_cases h : p c = true
    · have e : runN (plainS p) () (c :: l) = runN (plainS p) () l + 1 := by
        show (if (p c) = true then runN (plainS p) () l + 1 else 0) = _
        exact if_pos h
      rw [e, if_pos h, List.length_cons, ih]
    · have e : runN (plainS p) () (c :: l) = 0 := by
        show (if (p c) = true then runN (plainS p) () l + 1 else 0) = _
        exact if_neg h
      rw [e, if_neg h]
      rfl
theorem runN_le {σ : Type} (st : σ → UInt8 → Bool × σ) : ∀ (s : σ) (l : List UInt8), runN st s l ≤ l.length
  | _, [] => Nat.le_refl _
  | s, c :: l => by
    unfold runN
    split
    · have := runN_le st (st s c).2 l
      simp; omega
    · simp
theorem runP_le (p : UInt8 → Bool) (l : List UInt8) : runP p l ≤ l.length := by
  rw [← runN_plain]
  exact runN_le _ _ _
/-! weights' texts -/
def val (l : List UInt8) : Nat := l.foldl (fun a c => 10 * a + (c.toNat - 48)) 0
def strip (l : List UInt8) : List UInt8 := if l.head? = some 45 then l.tail else l
def headD (l : List UInt8) : List UInt8 := l.takeWhile (fun c => c != 46)
def tailD (l : List UInt8) : List UInt8 := (l.dropWhile (fun c => c != 46)).tail
def dotB (l : List UInt8) : Bool := l.contains 46
def digsB (l : List UInt8) (most : Nat) : Bool := decide (1 ≤ l.length) && decide (l.length ≤ most) && l.all digB
def decB (l : List UInt8) : Bool :=
  digsB (headD (strip l)) 9 && !(decide (1 < (headD (strip l)).length) && (headD (strip l)).head? == some 48) && (!dotB (strip l) || digsB (tailD (strip l)) 6)
def decF (l : List UInt8) : Nat := flo.wt (l.head? == some 45) (val (headD (strip l) ++ tailD (strip l))) (tailD (strip l)).length
def readOk (l : List UInt8) : Bool := l == [110, 97, 110] || l == [105, 110, 102] || l == [45, 105, 110, 102] || decB l
def readF (l : List UInt8) : Nat :=
  if l = [110, 97, 110] then 0x7FF8000000000001 else if l = [105, 110, 102] then 0x7FF0000000000000 else if l = [45, 105, 110, 102] then 0xFFF0000000000000 else if decB l then decF l else 0
/-! words -/
structure Tok where
  kind : Nat
  at_ : Nat
  text : List UInt8
  wt : Nat
/-- the word that begins here: its kind, its text, its weight, how many bytes it has, less one; or what is wrong -/
def wordAt (l : List UInt8) : Except Nat (Nat × List UInt8 × Nat × Nat) :=
  match l with
  | [] => .error 2
  | c :: r =>
    if letB c then (if runP namB r + 1 ≤ 24 then .ok (1, (c :: r).take (runP namB r + 1), 0, runP namB r) else .error 1)
    else if c == 39 then
      (if runP quoB r = 0 ∨ (r.drop (runP quoB r)).head? ≠ some 39 then .error 3
      else if runP quoB r ≤ 16 then .ok (2, r.take (runP quoB r), 0, runP quoB r + 1) else .error 1)
    else if c == 37 then (if readOk (r.take (runP wgtB r)) then .ok (3, r.take (runP wgtB r), readF (r.take (runP wgtB r)), runP wgtB r) else .error 4)
    else if sgnB c then .ok (4, [c], 0, 0)
    else .error 2
/-- where blanks and remarks end -/
def nxt (s : List UInt8) (a : Nat) : Nat := a + runN skipS false (s.drop a)
def lexA (s : List UInt8) (a : Nat) : List Tok × Option (Nat × Nat) :=
  if h : a < s.length then
    match wordAt (s.drop a) with
    | .error e => ([], some (e, a))
    | .ok (k, t, w, n) => (⟨k, a, t, w⟩ :: (lexA s (nxt s (a + n + 1))).1, (lexA s (nxt s (a + n + 1))).2)
  else ([⟨0, a, [], 0⟩], none)
termination_by s.length - a
decreasing_by all_goals (unfold nxt; omega)
/-- a text's words, or what is wrong, and where -/
def lexAll (s : List UInt8) : List Tok × Nat × Nat :=
  if 65536 < s.length then ([], 1, 0) else
  match lexA s (nxt s 0) with
  | (ts, none) => (ts, 0, 0)
  | (_, some (e, a)) => ([], e, a)
theorem nxt_le (s : List UInt8) (a : Nat) (h : a ≤ s.length) : nxt s a ≤ s.length := by
  unfold nxt
  have := runN_le skipS false (s.drop a)
  rw [List.length_drop] at this
  omega
theorem lexA_end (s : List UInt8) : lexA s s.length = ([⟨0, s.length, [], 0⟩], none) := by
  rw [lexA, dif_neg (by omega)]
theorem lexA_error (s : List UInt8) (a e : Nat) (h : a < s.length) (hw : wordAt (s.drop a) = .error e) : lexA s a = ([], some (e, a)) := by
  rw [lexA, dif_pos h, hw]
theorem lexA_ok (s : List UInt8) (a k w n : Nat) (t : List UInt8) (h : a < s.length) (hw : wordAt (s.drop a) = .ok (k, t, w, n)) : lexA s a = (⟨k, a, t, w⟩ :: (lexA s (nxt s (a + n + 1))).1, (lexA s (nxt s (a + n + 1))).2) := by
  rw [lexA, dif_pos h, hw]
end Go.Proofs.YtkhflfkedpkelaaGreatDoor.lx

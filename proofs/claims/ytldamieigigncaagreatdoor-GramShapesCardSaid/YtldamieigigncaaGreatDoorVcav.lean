import Derived.Test.YtldamieigigncaaGreatDoorVcac
import Derived.Laws.BitsAllLaws
import Derived.Laws.Bits64b
import Derived.Test.YtldamieigigncaaGreatDoorVcau
import Derived.Test.YtldamieigigncaaGreatDoorVcae
import Derived.Deep.RegionHeld3
namespace Go.Proofs.YtldamieigigncaaGreatDoor.ky
open Go.ChangeShapes Go.WideShapes Go.ChangeAt Go.RowKit Go.Proofs.YtldamieigigncaaGreatDoor.lx
set_option linter.unusedVariables false
attribute [local go_sem] x_frombits x_bits
theorem bv_and (x y : Int) : (BitVec.ofInt 64 x &&& BitVec.ofInt 64 y).toNat = (x % 18446744073709551616).toNat &&& (y % 18446744073709551616).toNat := by
  rw [BitVec.toNat_and, BitVec.toNat_ofInt, BitVec.toNat_ofInt]; rfl
def nanB (n : Nat) : Bool := decide (9218868437227405312 < n % 9223372036854775808)
def negB (n : Nat) : Bool := decide (9223372036854775808 ≤ n)
def keyN (n : Nat) : Nat := if nanB n = true then 18446744073709551615 else if negB n = true then 18446744073709551615 - n else n + 9223372036854775808
theorem keyN_nan {n : Nat} (h : nanB n = true) : keyN n = 18446744073709551615 := by simp [keyN, h]
theorem keyN_neg {n : Nat} (h : nanB n = false) (h' : negB n = true) : keyN n = 18446744073709551615 - n := by simp [keyN, h, h']
theorem keyN_pos {n : Nat} (h : nanB n = false) (h' : negB n = false) : keyN n = n + 9223372036854775808 := by simp [keyN, h, h']

theorem cmp_self (i : Int) : compare i i = .eq := by simp
theorem order_self (n : Nat) : FloatKind.f64.format.order n n = if nanB n = true then none else some .eq := by
  have e1 : FloatKind.f64.format.signWeight = 9223372036854775808 := by decide
  have e2 : FloatKind.f64.format.infRung = 9218868437227405312 := by decide
  have e3 : FloatKind.f64.format.binade = 4503599627370496 := by decide
  unfold Ieee.Format.order Ieee.Format.read nanB
  simp only [e1, e2, e3]
  by_cases h1 : n % 9223372036854775808 < 4503599627370496
  · simp [h1, Ieee.Datum.order]; omega
  · by_cases h2 : n % 9223372036854775808 < 9218868437227405312
    · simp [h1, h2, Ieee.Datum.order]; omega
    · by_cases h3 : n % 9223372036854775808 = 9218868437227405312
      · simp [h3, Ieee.Datum.order]
      · simp [h1, h2, h3, Ieee.Datum.order]; omega
theorem isNaN_bool (n : Nat) : (FloatKind.f64.format.order n n != some .eq) = nanB n := by
  rw [order_self]; cases h : nanB n <;> simp
theorem and_top (n : Nat) (hn : n < 18446744073709551616) : bits .and .u64 (n : Int) 9223372036854775808 = if negB n = true then 9223372036854775808 else 0 := by
  have h := bits_and_u64_nat n 9223372036854775808 hn (by omega)
  have e : n &&& 9223372036854775808 = if negB n = true then 9223372036854775808 else 0 := by
    rw [nat_bit63]
    unfold negB
    by_cases hh : 9223372036854775808 ≤ n
    · simp [hh]; omega
    · simp [hh]; omega
  rw [show (9223372036854775808 : Int) = ((9223372036854775808 : Nat) : Int) from rfl, h, e]
  cases negB n <;> simp
theorem or_top (n : Nat) (hn : n < 9223372036854775808) : bits .or .u64 (n : Int) 9223372036854775808 = ((n + 9223372036854775808 : Nat) : Int) := by
  have h := bits_or_u64_nat n 9223372036854775808 (by omega) (by omega)
  have e : n ||| 9223372036854775808 = n + 9223372036854775808 := by
    have := Nat.two_pow_add_eq_or_of_lt (i := 63) hn 1
    rw [show (2 : Nat) ^ 63 = 9223372036854775808 from rfl, Nat.mul_one] at this
    rw [Nat.or_comm, ← this, Nat.add_comm]
  rw [show (9223372036854775808 : Int) = ((9223372036854775808 : Nat) : Int) from rfl, h, e]
theorem xor_all (n : Nat) (hn : n < 18446744073709551616) : bits .xor .u64 IntKind.u64.max (n : Int) = 18446744073709551615 - n := by
  have e : (BitVec.ofInt 64 IntKind.u64.max ^^^ BitVec.ofInt 64 (n : Int)).toNat = 18446744073709551615 - n := by
    have e1 : BitVec.ofInt 64 IntKind.u64.max = BitVec.allOnes 64 := by decide
    rw [e1, BitVec.allOnes_xor, BitVec.toNat_not, BitVec.toNat_ofInt]
    omega
  show IntKind.u64.wrap ((BitVec.ofInt 64 IntKind.u64.max ^^^ BitVec.ofInt 64 (n : Int)).toNat : Int) = _
  rw [e, IntKind.wrap_u64]; omega
set_option maxRecDepth 100000 in
theorem key_nan (n : Nat) (w : World) (hn : n < 18446744073709551616) (h : nanB n = true) : Calls Tryz.prog 108 #[.float .f64 n] w fun e w' => e = .returned (.int .u64 (keyN n)) ∧ w = w' := by
  rw [keyN_nan h]
  have h1 := isNaN_bool n
  rw [h] at h1
  clear h hn
  go_enter Tryz.func108, Tryz.ntmps108
  go_wp2
  go_ret
  exact ⟨rfl, rfl⟩
set_option maxRecDepth 100000 in
theorem key_neg (n : Nat) (w : World) (hn : n < 18446744073709551616) (h : nanB n = false) (h' : negB n = true) : Calls Tryz.prog 108 #[.float .f64 n] w fun e w' => e = .returned (.int .u64 (keyN n)) ∧ w = w' := by
  have e1 : ((keyN n : Nat) : Int) = 18446744073709551615 - n := by rw [keyN_neg h h']; omega
  rw [e1]
  have h1 := isNaN_bool n
  have h2 := and_top n hn
  rw [h] at h1
  rw [if_pos h'] at h2
  clear h h' e1 
  go_enter Tryz.func108, Tryz.ntmps108
  have h4 := xor_all n hn
  go_wp2
  go_ret
  exact ⟨rfl, rfl⟩
set_option maxRecDepth 100000 in
theorem key_pos (n : Nat) (w : World) (hn : n < 18446744073709551616) (h : nanB n = false) (h' : negB n = false) : Calls Tryz.prog 108 #[.float .f64 n] w fun e w' => e = .returned (.int .u64 (keyN n)) ∧ w = w' := by
  rw [keyN_pos h h']
  have h1 := isNaN_bool n
  have h2 := and_top n hn
  have h3 := or_top n (by simp [negB] at h'; omega)
  rw [h] at h1
  rw [if_neg (by rw [h']; simp)] at h2
  clear h h'
  go_enter Tryz.func108, Tryz.ntmps108
  go_wp2
  go_ret
  exact ⟨rfl, rfl⟩

theorem key_any (n : Nat) (w : World) (hn : n < 18446744073709551616) : Calls Tryz.prog 108 #[.float .f64 n] w fun e w' => e = .returned (.int .u64 (keyN n)) ∧ w = w' := by
  cases h : nanB n
  · cases h' : negB n
    · exact key_pos n w hn h h'
    · exact key_neg n w hn h h'
  · exact key_nan n w hn h
set_option maxRecDepth 100000 in
theorem same_any (a b : Nat) (w : World) (ha : a < 18446744073709551616) (hb : b < 18446744073709551616) : Calls Tryz.prog 83 #[.float .f64 a, .float .f64 b] w fun e w' => e = .returned (.bool (decide (keyN a = keyN b))) ∧ w = w' := by
  go_enter Tryz.func83, Tryz.ntmps83
  go_wp2_with (go_at_call 108; refine (key_any _ _ (by assumption)).mono ?_; rintro e w' ⟨rfl, rfl⟩)
  go_ret
  refine ⟨?_, rfl⟩
  show Ending.returned (.bool _) = _
  congr 2
  rw [Bool.eq_iff_iff]; simp; omega
theorem ret_bool {a b : Bool} (h : a = b) : Ending.returned (.bool a) = .returned (.bool b) := by rw [h]
end Go.Proofs.YtldamieigigncaaGreatDoor.ky

namespace Go.Proofs.YtldamieigigncaaGreatDoor.lx
open Go.Proofs.YtldamieigigncaaGreatDoor.ky
set_option linter.unusedVariables false
def fullT (t : Tok) : List UInt8 := if t.kind = 2 then 39 :: (t.text ++ [39]) else if t.kind = 3 then 37 :: t.text else t.text
def okT (t : Tok) : Prop := (t.kind = 1 ∧ isNameB t.text = true ∧ t.wt = 0) ∨ (t.kind = 2 ∧ isQuoteB t.text = true ∧ t.wt = 0) ∨ (t.kind = 3 ∧ readOk t.text = true ∧ t.text.all wgtB = true ∧ t.wt = readF t.text) ∨ (t.kind = 4 ∧ t.wt = 0 ∧ ∃ c, t.text = [c] ∧ sgnB c = true)
def folO (r : List UInt8) : Prop := ∀ c, r.head? = some c → namB c = false ∧ wgtB c = false
theorem runP_app (p : UInt8 → Bool) : ∀ (x r : List UInt8), x.all p = true → (∀ c, r.head? = some c → p c = false) → runP p (x ++ r) = x.length
  | [], r, _, h => by
    unfold runP
    cases r with
    | nil => rfl
    | cons c r => rw [List.nil_append, List.takeWhile_cons_of_neg (by simp [h c rfl])]; try rfl
  | c :: x, r, ha, h => by
    rw [List.all_cons, Bool.and_eq_true] at ha
    unfold runP
    rw [List.cons_append, List.takeWhile_cons_of_pos ha.1]
    have := runP_app p x r ha.2 h
    unfold runP at this
    simp [this]
theorem byte_all (p : UInt8 → Bool) (h : ∀ n : Fin 256, p (UInt8.ofFin n) = true) (c : UInt8) : p c = true := by
  have := h c.toFin
  simpa using this
set_option maxRecDepth 100000 in
theorem let_not (c : UInt8) (h : letB c = true) : (c == 39) = false ∧ skipS false c = (false, false) := by
  have := byte_all (fun c => !letB c || ((c == 39) == false && (skipS false c == (false, false)))) (by decide) c
  rw [h] at this
  simpa using this
set_option maxRecDepth 100000 in
theorem sgn_not (c : UInt8) (h : sgnB c = true) : letB c = false ∧ (c == 39) = false ∧ (c == 37) = false ∧ skipS false c = (false, false) ∧ namB c = false ∧ wgtB c = false := by
  have := byte_all (fun c => !sgnB c || (letB c == false && (c == 39) == false && (c == 37) == false && (skipS false c == (false, false)) && namB c == false && wgtB c == false)) (by decide) c
  rw [h] at this
  simpa [and_assoc] using this
set_option maxRecDepth 100000 in
theorem blk_fol (c : UInt8) (h : blkB c = true) : namB c = false ∧ wgtB c = false ∧ skipS false c = (true, false) := by
  have := byte_all (fun c => !blkB c || (namB c == false && wgtB c == false && (skipS false c == (true, false)))) (by decide) c
  rw [h] at this
  simpa [and_assoc] using this
theorem let_nam (c : UInt8) (h : letB c = true) : namB c = true := by unfold namB; rw [h]; rfl
theorem word_of {t : Tok} (h : okT t) (r : List UInt8) (hf : folO r) : wordAt (fullT t ++ r) = .ok (t.kind, t.text, t.wt, (fullT t).length - 1) ∧ 1 ≤ (fullT t).length ∧ ∃ c y, fullT t = c :: y ∧ skipS false c = (false, false) := by
  obtain ⟨k, a, x, w⟩ := t
  rcases h with ⟨hk, hx, hw⟩ | ⟨hk, hx, hw⟩ | ⟨hk, h1, h2, hw⟩ | ⟨hk, hw, c, hc, hs⟩
  · have hk : k = 1 := hk
    have hw : w = 0 := hw
    subst hk hw
    have hfull : fullT ⟨1, a, x, 0⟩ = x := rfl
    rw [hfull]
    have hx : isNameB x = true := hx
    unfold isNameB at hx
    simp only [Bool.and_eq_true, decide_eq_true_eq] at hx
    obtain ⟨⟨⟨h1, h2⟩, h3⟩, h4⟩ := hx
    cases x with
    | nil => simp at h1
    | cons c y =>
      have h3 : letB c = true := h3
      rw [List.all_cons, Bool.and_eq_true] at h4
      have hr : runP namB (y ++ r) = y.length := runP_app _ _ _ h4.2 (fun c hc => (hf c hc).1)
      refine ⟨?_, by simp, c, y, rfl, (let_not c h3).2⟩
      rw [List.cons_append, word_cons, if_pos h3, hr, if_pos (by simpa using h2)]
      simp
  · have hk : k = 2 := hk
    have hw : w = 0 := hw
    subst hk hw
    have hfull : fullT ⟨2, a, x, 0⟩ = 39 :: (x ++ [39]) := rfl
    rw [hfull]
    have hx : isQuoteB x = true := hx
    unfold isQuoteB at hx
    simp only [Bool.and_eq_true, decide_eq_true_eq] at hx
    obtain ⟨⟨h1, h2⟩, h4⟩ := hx
    have hr : runP quoB (x ++ [39] ++ r) = x.length := by
      rw [List.append_assoc]
      refine runP_app _ _ _ h4 (fun c hc => ?_)
      have : c = 39 := by simpa using hc.symm
      subst this
      decide
    refine ⟨?_, by simp, 39, x ++ [39], rfl, by decide⟩
    rw [List.cons_append, word_cons, if_neg (by decide), if_pos (by rfl), hr, if_neg (by
      intro h
      rcases h with h | h
      · omega
      · exact h (by simp)), if_pos h2]
    simp
  · have hk : k = 3 := hk
    subst hk
    have hfull : fullT ⟨3, a, x, w⟩ = 37 :: x := rfl
    rw [hfull]
    have h1 : readOk x = true := h1
    have h2 : x.all wgtB = true := h2
    have hw : w = readF x := hw
    have hr : runP wgtB (x ++ r) = x.length := runP_app _ _ _ h2 (fun c hc => (hf c hc).2)
    refine ⟨?_, by simp, 37, x, rfl, by decide⟩
    rw [List.cons_append, word_cons, if_neg (by decide), if_neg (by decide), if_pos (by rfl), hr]
    have e : (x ++ r).take x.length = x := by simp
    rw [e, if_pos h1]
    simp [hw]
  · have hk : k = 4 := hk
    have hw : w = 0 := hw
    have hc : x = [c] := hc
    subst hk hw hc
    have hfull : fullT ⟨4, a, [c], 0⟩ = [c] := rfl
    rw [hfull]
    obtain ⟨g1, g2, g3, g4, _, _⟩ := sgn_not c hs
    refine ⟨?_, by simp, c, [], rfl, g4⟩
    rw [List.cons_append, word_cons, g1, g2, g3, hs]
    rfl
def er (t : Tok) : Tok := ⟨t.kind, 0, t.text, t.wt⟩
abbrev Pc := List UInt8 × Tok
def flatP (ps : List Pc) : List UInt8 := ps.flatMap fun p => p.1 ++ fullT p.2
theorem runN_blank : ∀ (b r : List UInt8), b.all blkB = true → runN skipS false (b ++ r) = b.length + runN skipS false r
  | [], r, _ => by simp
  | c :: b, r, h => by
    rw [List.all_cons, Bool.and_eq_true] at h
    obtain ⟨_, _, e⟩ := blk_fol c h.1
    rw [List.cons_append]
    show (if (skipS false c).1 then runN skipS (skipS false c).2 (b ++ r) + 1 else 0) = _
    rw [e]
    simp only [if_true]
    rw [runN_blank b r h.2]
    simp
    omega
theorem runN_stop (c : UInt8) (y : List UInt8) (h : skipS false c = (false, false)) : runN skipS false (c :: y) = 0 := by
  show (if (skipS false c).1 then runN skipS (skipS false c).2 y + 1 else 0) = _
  rw [h]
  rfl
def sepO (p : Pc) : Prop := p.1 ≠ [] ∨ p.2.kind = 4
theorem drop_nil {p : UInt8 → Bool} : ∀ {l : List UInt8}, (∀ c ∈ l, p c = true) → l.dropWhile p = []
  | [], _ => rfl
  | c :: l, h => by
    rw [List.dropWhile_cons_of_pos (h c List.mem_cons_self)]
    exact drop_nil (fun d hd => h d (List.mem_cons_of_mem _ hd))
theorem readF_lt (l : List UInt8) : readF l < 18446744073709551616 := by
  unfold readF
  split
  · decide
  · split
    · decide
    · split
      · decide
      · split
        · rename_i h
          unfold decF
          unfold decB digsB at h
          simp only [Bool.and_eq_true, decide_eq_true_eq, List.all_eq_true] at h
          obtain ⟨⟨⟨⟨_, h9⟩, hd⟩, _⟩, ht⟩ := h
          have h6 : (tailD (strip l)).length ≤ 6 ∧ ∀ c ∈ tailD (strip l), digB c = true := by
            simp only [Bool.or_eq_true, Bool.and_eq_true, decide_eq_true_eq, List.all_eq_true, Bool.not_eq_true'] at ht
            rcases ht with ht | ⟨⟨_, h1⟩, h2⟩
            · have e : tailD (strip l) = [] := by
                unfold tailD
                unfold dotB at ht
                rw [drop_nil (fun c hc => ?_)]
                · rfl
                · have : c ≠ 46 := fun e => by
                    subst e
                    rw [List.contains_iff_mem.2 hc] at ht
                    cases ht
                  simpa using this
              rw [e]
              exact ⟨by decide, fun c hc => by cases hc⟩
            · exact ⟨h1, h2⟩
          have hv := val_le (l := headD (strip l) ++ tailD (strip l)) (by rw [List.length_append]; omega) (fun c hc => (List.mem_append.1 hc).elim (hd c) (h6.2 c))
          cases (l.head? == some 45)
          · have := (flo.wt_neg _ _ (by omega) h6.1 : flo.wt true (val (headD (strip l) ++ tailD (strip l))) (tailD (strip l)).length = _ ∧ _).2
            omega
          · have := (flo.wt_neg _ _ (by omega) h6.1 : flo.wt true (val (headD (strip l) ++ tailD (strip l))) (tailD (strip l)).length = _ ∧ _)
            omega
        · decide
def numL : List (List UInt8) := [[110, 97, 110], [105, 110, 102], [45, 105, 110, 102], [45, 48], [49, 46, 53], [45, 50]]
def numP (w : Nat) : List UInt8 := (numL.find? (fun s => decide (keyN w = keyN (readF s)))).getD [49]
def sgT (c : UInt8) : Tok := ⟨4, 0, [c], 0⟩
def pcI (sub : List Altn → List Pc) (i : Itm) : List Pc :=
  (if i.kind = 0 then [([32], ⟨1, 0, i.text, 0⟩)] else if i.kind = 1 then [([32], ⟨2, 0, i.text, 0⟩)] else ([32], sgT 40) :: (sub i.alts ++ [([32], sgT 41)])) ++ (if i.op = 0 then [] else [([], sgT i.op.toUInt8)])
def pcW (w : Nat) : List Pc := if keyN w = keyN 0 then [] else [([32], ⟨3, 0, numP w, readF (numP w)⟩)]
def pcB (sub : List Altn → List Pc) (a : Altn) : List Pc := pcW a.2.1 ++ a.2.2.flatMap (pcI sub)
def pcL (sub : List Altn → List Pc) : List Altn → List Pc
  | [] => []
  | a :: zs => pcB sub a ++ zs.flatMap (fun a => ([32], sgT 124) :: pcB sub a)
def pcA : Nat → List Altn → List Pc
  | 0, _ => []
  | k + 1, bs => pcL (pcA k) bs
def pcD (b : List UInt8) (d : Dfn) : List Pc := (b, ⟨1, 0, d.2.1, 0⟩) :: ([32], sgT 61) :: (pcA 17 d.2.2 ++ [([32], sgT 59)])
def okI (sub : List Altn → Prop) (i : Itm) : Prop := ((i.kind = 0 ∧ isNameB i.text = true ∧ i.alts = []) ∨ (i.kind = 1 ∧ isQuoteB i.text = true ∧ i.alts = []) ∨ (i.kind = 2 ∧ i.text = [] ∧ sub i.alts)) ∧ (i.op = 0 ∨ isOp i.op = true)
def okA : Nat → List Altn → Prop
  | 0, _ => False
  | k + 1, bs => bs ≠ [] ∧ ∀ a ∈ bs, a.2.1 < 18446744073709551616 ∧ ∀ i ∈ a.2.2, okI (okA k) i
theorem hz (w : Nat) (hw : w < 18446744073709551616) (h : keyN w = keyN 0) : w = 0 := by
  have e : keyN 0 = 9223372036854775808 := by decide +kernel
  rw [e] at h
  unfold keyN at h
  split at h
  · omega
  · split at h
    · rename_i h2
      unfold negB at h2
      simp only [decide_eq_true_eq] at h2
      omega
    · omega
def okD (d : Dfn) : Prop := isNameB d.2.1 = true ∧ okA 17 d.2.2
theorem er_hd {U V : List Tok} {t : Tok} (h : U.map er = t :: V) : ∃ u U', U = u :: U' ∧ er u = t ∧ U'.map er = V := by
  cases U with
  | nil => cases h
  | cons u U' =>
    simp only [List.map_cons, List.cons.injEq] at h
    exact ⟨u, U', rfl, h.1, h.2⟩
section
variable {sub : List Tok → Res (List Altn)} {P : List Altn → Prop} {q : List Altn → List Pc} {sh : List Altn → List Altn}
end
section
variable {sub : List Tok → Res (List Altn)} {P : List Altn → Prop} {q : List Altn → List Pc} {sh : List Altn → List Altn}
end
def gT (t : Tok) : Prop := (t.kind = 1 → isNameB t.text = true) ∧ (t.kind = 2 → isQuoteB t.text = true) ∧ t.wt < 18446744073709551616
theorem gT0 (a : Nat) : gT ⟨0, a, [], 0⟩ := ⟨fun h => (by cases h), fun h => (by cases h), (by show 0 < _; decide)⟩
theorem opTl_suf (ts : List Tok) : opTl ts <:+ ts := by
  unfold opTl
  split
  · exact List.tail_suffix ts
  · exact List.suffix_refl ts
theorem wtTl_suf (ts : List Tok) : wtTl ts <:+ ts := by
  unfold wtTl
  split
  · exact List.tail_suffix ts
  · exact List.suffix_refl ts
theorem opOf_ok (ts : List Tok) : opOf ts = 0 ∨ isOp (opOf ts) = true := by
  unfold opOf
  split
  · rename_i h; exact .inr h
  · exact .inl rfl
theorem gT_hd {ts : List Tok} (h : ∀ t ∈ ts, gT t) : gT (hd ts) := by
  cases ts with
  | nil => exact gT0 0
  | cons t r => exact h t List.mem_cons_self
def pcX (sub : List Altn → List Pc) (i : Itm) : List Pc := if i.kind = 0 then [([32], ⟨1, 0, i.text, 0⟩)] else if i.kind = 1 then [([32], ⟨2, 0, i.text, 0⟩)] else ([32], sgT 40) :: (sub i.alts ++ [([32], sgT 41)])
theorem cnt_op (sub : List Altn → List Pc) (a k : Nat) (x : List UInt8) (bs : List Altn) (r : List Tok) : (pcI sub (.mk a k x bs (opOf r))).length + (opTl r).length ≤ (pcX sub (.mk a k x bs 0)).length + r.length := by
  have e : pcI sub (.mk a k x bs (opOf r)) = pcX sub (.mk a k x bs 0) ++ (if opOf r = 0 then [] else [([], sgT (opOf r).toUInt8)]) := rfl
  rw [e, List.length_append]
  unfold opOf opTl
  by_cases h : isOp (sg r) = true
  · rw [if_pos h, if_pos h, List.length_tail]
    have : 1 ≤ r.length := by
      cases r with
      | nil => exact absurd h (by decide)
      | cons t r => simp
    split
    · simp only [List.length_nil]; omega
    · simp only [List.length_cons, List.length_nil]; omega
  · rw [if_neg h, if_neg h]
    simp
section
variable {k : Nat} {sub : List Tok → Res (List Altn)} (hs : ∀ ts bs r, (∀ t ∈ ts, gT t) → sub ts = .ok (bs, r) → okA k bs ∧ r <:+ ts ∧ (pcA k bs).length + 2 + r.length ≤ ts.length)
include hs
theorem wf_item {ts r : List Tok} {i : Itm} (hg : ∀ t ∈ ts, gT t) (ha : atIt (hd ts) = true) (h : pItem sub ts = .ok (i, r)) : okI (okA k) i ∧ r <:+ ts ∧ (pcI (pcA k) i).length + r.length ≤ ts.length := by
  have hh := gT_hd hg
  have h0 : 1 ≤ ts.length := by
    cases ts with
    | nil => simp [hd, atIt, sgOf] at ha
    | cons t r => simp
  unfold pItem at h
  split at h
  · rename_i hk
    cases h
    exact ⟨⟨.inl ⟨rfl, hh.1 hk, rfl⟩, opOf_ok _⟩, (opTl_suf _).trans (List.tail_suffix ts), by have := cnt_op (pcA k) (hd ts).at_ 0 (hd ts).text [] ts.tail; have e : (pcX (pcA k) (.mk (hd ts).at_ 0 (hd ts).text [] 0)).length = 1 := rfl; rw [List.length_tail] at this; omega⟩
  · split at h
    · rename_i hk
      cases h
      exact ⟨⟨.inr (.inl ⟨rfl, hh.2.1 hk, rfl⟩), opOf_ok _⟩, (opTl_suf _).trans (List.tail_suffix ts), by have := cnt_op (pcA k) (hd ts).at_ 1 (hd ts).text [] ts.tail; have e : (pcX (pcA k) (.mk (hd ts).at_ 1 (hd ts).text [] 0)).length = 1 := rfl; rw [List.length_tail] at this; omega⟩
    · split at h
      · cases h
      · rename_i bs r' e
        cases h
        obtain ⟨h1, h2, h3⟩ := hs _ _ _ hg e
        exact ⟨⟨.inr (.inr ⟨rfl, rfl, h1⟩), opOf_ok _⟩, (opTl_suf _).trans h2, by have := cnt_op (pcA k) (hd ts).at_ 2 [] bs r'; have e : (pcX (pcA k) (.mk (hd ts).at_ 2 [] bs 0)).length = (pcA k bs).length + 2 := (by simp [pcX, Itm.kind, Itm.alts]); omega⟩
theorem wf_items : ∀ (f : Nat) (ts r : List Tok) (is : List Itm), (∀ t ∈ ts, gT t) → pItems sub f ts = .ok (is, r) → (∀ i ∈ is, okI (okA k) i) ∧ r <:+ ts ∧ (is.flatMap (pcI (pcA k))).length + r.length ≤ ts.length := by
  intro f
  induction f with
  | zero => intro ts r is _ h; cases h
  | succ f ih =>
    intro ts r is hg h
    unfold pItems at h
    split at h
    · rename_i ha
      split at h
      · cases h
      · rename_i i r1 e1
        split at h
        · cases h
        · rename_i is' r2 e2
          cases h
          obtain ⟨h1, h2, h5⟩ := wf_item hs hg ha e1
          obtain ⟨h3, h4, h6⟩ := ih _ _ _ (fun t ht => hg t (h2.subset ht)) e2
          exact ⟨fun j hj => (List.mem_cons.1 hj).elim (fun e => by rw [e]; exact h1) (h3 j), h4.trans h2, by rw [List.flatMap_cons, List.length_append]; omega⟩
    · cases h
      exact ⟨fun j hj => (by cases hj), List.suffix_refl _, by simp⟩
theorem wf_alt {ts r : List Tok} {a : Altn} (hg : ∀ t ∈ ts, gT t) (h : pAlt sub ts = .ok (a, r)) : (a.2.1 < 18446744073709551616 ∧ ∀ i ∈ a.2.2, okI (okA k) i) ∧ r <:+ ts ∧ (pcB (pcA k) a).length + r.length ≤ ts.length := by
  unfold pAlt at h
  split at h
  · cases h
  · rename_i is r' e
    cases h
    obtain ⟨h1, h2, h3⟩ := wf_items hs _ _ _ _ (fun t ht => hg t ((wtTl_suf ts).subset ht)) e
    refine ⟨⟨?_, h1⟩, h2.trans (wtTl_suf ts), ?_⟩
    · show wtOf (hd ts) < _
      unfold wtOf
      split
      · exact (gT_hd hg).2.2
      · decide
    · show (pcW (wtOf (hd ts)) ++ is.flatMap (pcI (pcA k))).length + r.length ≤ ts.length
      rw [List.length_append]
      unfold wtTl at h3
      unfold wtOf
      by_cases hk : (hd ts).kind = 3
      · rw [if_pos hk] at h3 ⊢
        rw [List.length_tail] at h3
        have : 1 ≤ ts.length := by
          cases ts with
          | nil => cases hk
          | cons t r => simp
        have : (pcW (hd ts).wt).length ≤ 1 := by unfold pcW; split <;> simp
        omega
      · rw [if_neg hk] at h3 ⊢
        have : (pcW 0).length = 0 := by unfold pcW; rw [if_pos rfl]; rfl
        omega
theorem wf_more : ∀ (f : Nat) (ts r : List Tok) (bs : List Altn), (∀ t ∈ ts, gT t) → pMore sub f ts = .ok (bs, r) → (∀ a ∈ bs, a.2.1 < 18446744073709551616 ∧ ∀ i ∈ a.2.2, okI (okA k) i) ∧ r <:+ ts ∧ (bs.flatMap (fun a => (([32], sgT 124) : Pc) :: pcB (pcA k) a)).length + r.length ≤ ts.length := by
  intro f
  induction f with
  | zero => intro ts r bs _ h; cases h
  | succ f ih =>
    intro ts r bs hg h
    unfold pMore at h
    split at h
    · rename_i hk
      have h0 : 1 ≤ ts.length := by
        cases ts with
        | nil => exact absurd hk (by decide)
        | cons t r => simp
      split at h
      · cases h
      · rename_i a r1 e1
        split at h
        · cases h
        · rename_i bs' r2 e2
          cases h
          obtain ⟨h1, h2, h5⟩ := wf_alt hs (fun t ht => hg t (List.mem_of_mem_tail ht)) e1
          have h2' := h2.trans (List.tail_suffix ts)
          obtain ⟨h3, h4, h6⟩ := ih _ _ _ (fun t ht => hg t (h2'.subset ht)) e2
          exact ⟨fun b hb => (List.mem_cons.1 hb).elim (fun e => by rw [e]; exact h1) (h3 b), h4.trans h2', by rw [List.length_tail] at h5; rw [List.flatMap_cons, List.length_append, List.length_cons]; omega⟩
    · cases h
      exact ⟨fun b hb => (by cases hb), List.suffix_refl _, by simp⟩
theorem wf_alts {ts r : List Tok} {bs : List Altn} (hg : ∀ t ∈ ts, gT t) (h : pAlts sub ts = .ok (bs, r)) : okA (k + 1) bs ∧ r <:+ ts ∧ (pcA (k + 1) bs).length + r.length ≤ ts.length := by
  unfold pAlts at h
  split at h
  · cases h
  · rename_i a r1 e1
    split at h
    · cases h
    · rename_i bs' r2 e2
      cases h
      obtain ⟨h1, h2, h5⟩ := wf_alt hs hg e1
      obtain ⟨h3, h4, h6⟩ := wf_more hs _ _ _ _ (fun t ht => hg t (h2.subset ht)) e2
      exact ⟨⟨by simp, fun b hb => (List.mem_cons.1 hb).elim (fun e => by rw [e]; exact h1) (h3 b)⟩, h4.trans h2, by show (pcB (pcA k) a ++ _).length + _ ≤ _; rw [List.length_append]; omega⟩
end
theorem wf_sub : ∀ (k : Nat) (ts : List Tok) (bs : List Altn) (r : List Tok), (∀ t ∈ ts, gT t) → pSub k ts = .ok (bs, r) → okA k bs ∧ r <:+ ts ∧ (pcA k bs).length + 2 + r.length ≤ ts.length
  | 0 => fun ts bs r _ h => by cases h
  | k + 1 => fun ts bs r hg h => by
    have h : pShut 41 (pA k ts.tail) = .ok (bs, r) := h
    rw [pA_sub] at h
    cases e : pAlts (pSub k) ts.tail with
    | error q =>
      rw [e] at h
      cases h
    | ok x =>
      obtain ⟨bs', r'⟩ := x
      rw [e] at h
      have h : (if sg r' = 41 then .ok (bs', r'.tail) else .error (5, (hd r').at_) : Res (List Altn)) = .ok (bs, r) := h
      split at h
      · rename_i hk
        cases h
        obtain ⟨h1, h2, h3⟩ := wf_alts (wf_sub k) (fun t ht => hg t (List.mem_of_mem_tail ht)) e
        have h4 : 1 ≤ r'.length := by
          cases r' with
          | nil => exact absurd hk (by show ¬ sg [] = 41; decide)
          | cons t r => simp
        have h5 : 1 ≤ ts.length := by
          cases ts with
          | nil => have := h2.length_le; simp at this; simp [this] at h4
          | cons t r => simp
        exact ⟨h1, (List.tail_suffix _).trans (h2.trans (List.tail_suffix ts)), by rw [List.length_tail] at h3 ⊢; omega⟩
      · cases h
theorem wf_def {ts r : List Tok} {d : Dfn} (hg : ∀ t ∈ ts, gT t) (h : pDef ts = .ok (d, r)) : okD d ∧ r <:+ ts ∧ ∀ b, (pcD b d).length + r.length ≤ ts.length := by
  unfold pDef at h
  split at h
  · rename_i hk
    split at h
    · rename_i hk2
      split at h
      · cases h
      · rename_i bs r' e
        cases h
        rw [pA_sub] at e
        have ht : ts.tail.tail <:+ ts := (List.tail_suffix _).trans (List.tail_suffix ts)
        cases e2 : pAlts (pSub 16) ts.tail.tail with
        | error q =>
          rw [e2] at e
          cases e
        | ok x =>
          obtain ⟨bs', r2⟩ := x
          rw [e2] at e
          have e : (if sg r2 = 59 then .ok (bs', r2.tail) else .error (5, (hd r2).at_) : Res (List Altn)) = .ok (bs, r) := e
          split at e
          · rename_i hk3
            cases e
            obtain ⟨h1, h2, h3⟩ := wf_alts (wf_sub 16) (fun t h => hg t (ht.subset h)) e2
            have h4 : 1 ≤ r2.length := by
              cases r2 with
              | nil => exact absurd hk3 (by decide)
              | cons t r => simp
            have h5 : 2 ≤ ts.length := by
              cases ts with
              | nil => cases hk
              | cons t r =>
                cases r with
                | nil => exact absurd hk2 (by show ¬ sg [] = 61; decide)
                | cons t r => simp
            exact ⟨⟨(gT_hd hg).1 hk, h1⟩, (List.tail_suffix _).trans (h2.trans ht), fun b => by show (_ :: _ :: (pcA 17 bs ++ _)).length + _ ≤ _; rw [List.length_cons, List.length_cons, List.length_append, List.length_tail]; rw [List.length_tail, List.length_tail] at h3; have h3 : (pcA 17 bs).length + r2.length ≤ ts.length - 1 - 1 := h3; simp only [List.length_cons, List.length_nil]; omega⟩
          · cases e
    · cases h
  · cases h
theorem wf_text : ∀ (f : Nat) (ts : List Tok) (ds : List Dfn), (∀ t ∈ ts, gT t) → pText f ts = .ok ds → ds ≠ [] ∧ (∀ d ∈ ds, okD d) ∧ (ds.flatMap (pcD [10])).length ≤ ts.length := by
  intro f
  induction f with
  | zero => intro ts ds _ h; cases h
  | succ f ih =>
    intro ts ds hg h
    unfold pText at h
    split at h
    · cases h
    · rename_i d r e
      obtain ⟨h1, h2, h4⟩ := wf_def hg e
      have h4 := h4 [10]
      split at h
      · cases h
        exact ⟨by simp, fun e he => (by rw [List.mem_singleton.1 he]; exact h1), by simp; omega⟩
      · split at h
        · cases h
        · rename_i ds' e2
          cases h
          obtain ⟨_, h3, h5⟩ := ih _ _ (fun t ht => hg t (h2.subset ht)) e2
          exact ⟨by simp, fun e he => (List.mem_cons.1 he).elim (fun e => by rw [e]; exact h1) (h3 e), by rw [List.flatMap_cons, List.length_append]; omega⟩
theorem take_all_ (p : UInt8 → Bool) (l : List UInt8) : (l.take (runP p l)).all p = true := by
  unfold runP
  induction l with
  | nil => rfl
  | cons c l ih =>
    by_cases h : p c = true
    · rw [List.takeWhile_cons_of_pos h]
      simp [h] at ih ⊢
      exact ih
    · rw [List.takeWhile_cons_of_neg h]
      rfl
theorem word_good {l : List UInt8} {k w n : Nat} {t : List UInt8} (h : wordAt l = .ok (k, t, w, n)) (a : Nat) : gT ⟨k, a, t, w⟩ := by
  cases l with
  | nil => cases h
  | cons c r =>
    rw [word_cons] at h
    split at h
    · rename_i hc
      split at h
      · rename_i hn
        cases h
        refine ⟨fun _ => ?_, fun h => (by cases h), by show 0 < _; decide⟩
        show isNameB ((c :: r).take (runP namB r + 1)) = true
        have hl := runP_le namB r
        unfold isNameB
        rw [List.take_succ_cons]
        simp only [List.length_cons, List.length_take, Bool.and_eq_true, decide_eq_true_eq, List.all_cons]
        exact ⟨⟨⟨by omega, by omega⟩, hc⟩, let_nam c hc, take_all_ namB r⟩
      · cases h
    · split at h
      · split at h
        · cases h
        · rename_i h0
          split at h
          · rename_i hn
            cases h
            refine ⟨fun h => (by cases h), fun _ => ?_, by show 0 < _; decide⟩
            show isQuoteB (r.take (runP quoB r)) = true
            have hl := runP_le quoB r
            unfold isQuoteB
            simp only [List.length_take, Bool.and_eq_true, decide_eq_true_eq]
            exact ⟨⟨by have : runP quoB r ≠ 0 := fun e => h0 (.inl e); omega, by omega⟩, take_all_ quoB r⟩
          · cases h
      · split at h
        · split at h
          · rename_i hr
            cases h
            exact ⟨fun h => (by cases h), fun h => (by cases h), readF_lt _⟩
          · cases h
        · split at h
          · cases h
            exact ⟨fun h => (by cases h), fun h => (by cases h), by show 0 < _; decide⟩
          · cases h
theorem lex_gT (s : List UInt8) : ∀ (m k : Nat), s.length - k < m → k ≤ s.length → ∀ ts, lexA s k = (ts, none) → ∀ t ∈ ts, gT t
  | 0, k, h, _, _, _ => by omega
  | m + 1, k, h, hk, ts, hts => by
    by_cases hlt : k < s.length
    · cases hx : wordAt (s.drop k) with
      | error e =>
        rw [lexA_error _ _ e hlt hx] at hts
        cases hts
      | ok x =>
        obtain ⟨kd, t, w, n⟩ := x
        have hn := word_n hx
        rw [List.length_drop] at hn
        have hg := nxt_ge s (k + n + 1)
        have hle := nxt_le s (k + n + 1) (by omega)
        rw [lexA_ok _ _ kd w n t hlt hx] at hts
        rcases hy : lexA s (nxt s (k + n + 1)) with ⟨us, f⟩
        rw [hy] at hts
        obtain rfl : f = none := congrArg Prod.snd hts
        obtain rfl : ⟨kd, k, t, w⟩ :: us = ts := congrArg Prod.fst hts
        have ih := lex_gT s m _ (by omega) hle _ hy
        intro u hu
        exact (List.mem_cons.1 hu).elim (fun e => by rw [e]; exact word_good hx k) (ih u)
    · rw [lexA, dif_neg hlt] at hts
      obtain rfl : _ = ts := congrArg Prod.fst hts
      intro u hu
      rw [List.mem_singleton.1 hu]
      exact gT0 _
end Go.Proofs.YtldamieigigncaaGreatDoor.lx

namespace Go.Proofs.YtldamieigigncaaGreatDoor.lx
open Go.ChangeShapes Go.WideShapes Go.ChangeAt Go.RowKit
set_option linter.unusedVariables false
set_option linter.unusedSimpArgs false
attribute [local go_sem] run_store_float
theorem okA_wf : ∀ (k : Nat) (bs : List Altn), okA k bs → wfA k bs
  | 0, _, h => h.elim
  | k + 1, bs, h => by
    intro a ha i hi
    obtain ⟨h1, h2⟩ := (h.2 a ha).2 i hi
    refine ⟨?_, ?_, ?_⟩
    · rcases h1 with h | h | h
      · exact .inl h.1
      · exact .inr (.inl h.1)
      · exact .inr (.inr h.1)
    · rcases h2 with h | h
      · rw [h]; decide
      · unfold isOp at h
        simp only [Bool.or_eq_true, beq_iff_eq] at h
        omega
    · rcases h1 with h | h | h
      · rw [h.2.2]; exact wfA_nil k
      · rw [h.2.2]; exact wfA_nil k
      · exact okA_wf k _ h.2.2
theorem read_okD (s : List UInt8) : ∀ d ∈ (readAll s).1, okD d := by
  intro d hd
  unfold readAll at hd
  by_cases he : (lexAll s).2.1 = 0
  · rw [if_pos he] at hd
    have hlex : ∃ ts, lexA s (nxt s 0) = (ts, none) ∧ (lexAll s).1 = ts := by
      unfold lexAll at he ⊢
      by_cases hb : 65536 < s.length
      · rw [if_pos hb] at he
        exact absurd he (by decide)
      · rw [if_neg hb] at he ⊢
        rcases hA : lexA s (nxt s 0) with ⟨x, f⟩
        rw [hA] at he
        cases f with
        | none => exact ⟨x, rfl, rfl⟩
        | some f =>
          obtain ⟨e, k⟩ := f
          have := err_ge s hA
          have he : e = 0 := he
          omega
    obtain ⟨ts, hl, e1⟩ := hlex
    have hg := lex_gT s _ _ (Nat.lt_succ_self _) (nxt_le s 0 (Nat.zero_le _)) ts hl
    rw [e1] at hd
    cases hp : pText ts.length ts with
    | error q =>
      rw [hp] at hd
      cases hd
    | ok ds2 =>
      rw [hp] at hd
      exact (wf_text _ _ _ hg hp).2.1 d hd
  · rw [if_neg he] at hd
    cases hd
end Go.Proofs.YtldamieigigncaaGreatDoor.lx

namespace Go.Proofs.YtldamieigigncaaGreatDoor.lx
open Go.ChangeShapes Go.WideShapes Go.ChangeAt Go.RowKit
set_option linter.unusedVariables false
set_option linter.unusedSimpArgs false
attribute [local go_sem] run_store_float
theorem wrg_eql (n a : Nat) (w : World) : (binOp BinOp.eql 20 (WrongG n a) .nilIface).run Tryz.prog w = .ok (.bool false) w := by unfold WrongG; kernel_rfl
theorem wrg_guard (n a : Nat) (w : World) : (eqGuard BinOp.eql 20 (Operand.tmp 6) (Operand.const Value.nilIface) (WrongG n a) Value.nilIface).run Tryz.prog w = .ok () w := by unfold WrongG; kernel_rfl
set_option maxRecDepth 100000 in
set_option maxHeartbeats 4000000 in
theorem wrg_assert (n a : Nat) (w : World) : (Instr.typeAssert (WrongG n a) 20 58 true).run Tryz.prog w = .ok (.tuple #[.agg #[.int .i64 n, .int .i64 a], .bool true]) w := by unfold WrongG; kernel_rfl
set_option maxRecDepth 100000 in
set_option maxHeartbeats 4000000 in
theorem catchL_idle (x y : Value) (w : World) :
    CallsD Tryz.prog 22 #[x, y] .returning w fun e u' w' => e = .returned (.tuple #[]) ∧ u' = .returning ∧ w = w' := by
  have hq : ∀ w : World, (binOp BinOp.eql 20 .nilIface .nilIface).run Tryz.prog w = .ok (.bool true) w := fun _ => by kernel_rfl
  refine callsD_of_wpS Tryz.func22 rfl fun c₀ cs hu => ?_
  apply wpS_seq
  apply wpS_region
  simp [wpOpsS, go_sem, recoverD, hu, Tryz.ntmps22, Exit.thenS]
  refine wpS_of_wp ?_
  go_wp2
  cases c₀
  simp_all [bodyPostS, results, Tryz.results22]
theorem tm19 (x y f : Value) : (#[x, y] ++ ((Array.replicate 17 undef).setIfInBounds 3 f).setIfInBounds 0 f) = #[x, y, f, undef, undef, f, undef, undef, undef, undef, undef, undef, undef, undef, undef, undef, undef, undef, undef] := by kernel_rfl
set_option maxRecDepth 100000 in
set_option maxHeartbeats 4000000 in
theorem catchL_wrong (n a b0 b1 : Nat) (hne : b0 ≠ b1) (older : List PanicEntry) (w : World) (v0 v1 v2 : Value) (f0 f1 : Value) (h0 : Blk w b0 26 #[v0, v1, v2]) (h1 : Blk w b1 29 #[f0, f1]) :
    CallsD Tryz.prog 22 #[.pointer (some ⟨b0, 0, none⟩), .pointer (some ⟨b1, 0, none⟩)] (.panicking ({ v := WrongG n a, recovered := false } :: older)) w fun e u' w' => e = .returned (.tuple #[]) ∧ u' = .panicking ({ v := WrongG n a, recovered := true } :: older) ∧ Blk w' b0 26 #[.slice none 0 0, .slice none 0 0, .slice none 0 0] ∧ Blk w' b1 29 #[.int .i64 n, .int .i64 a] ∧ Kp (fun i => i = b0 ∨ i = b1) w w' := by
  have e1 := wrg_eql n a
  have e2 := wrg_assert n a
  have e3 := wrg_guard n a
  have x0 := h0.cell 0
  have x1 := h0.cell 1
  have x2 := h0.cell 2
  have y0 := h1.cell 0
  have y1 := h1.cell 1
  simp only [List.getElem?_toArray, List.getElem?_cons_zero, List.getElem?_cons_succ] at x0 x1 x2 y0 y1
  have u0 := h0.frozen 0
  have u3 := h0.frozen 1
  have u4 := h0.frozen 2
  have u1 := h1.frozen 0
  have u2 := h1.frozen 1
  have l0 := h0.lt
  have l1 := h1.lt
  refine callsD_of_wpS Tryz.func22 rfl fun c₀ cs hu => ?_
  apply wpS_seq
  apply wpS_region
  generalize WrongG n a = fg at *
  simp [wpOpsS, go_sem, recoverD, hu, Tryz.ntmps22, Exit.thenS]
  refine wpS_of_wp ?_
  rw [tm19]
  go_wp2
  go_region
  all_goals
    go_wp2
    refine ⟨rfl, _, rfl, .tuple #[], results_none rfl _ _ _, rfl, rfl, ?_, ?_, ?_⟩
    · exact ((((((h0.set_ 0 (.slice none 0 0)).set_ 1 (.slice none 0 0)).set_ 2 (.slice none 0 0)).far (p := ⟨b1, 0, none⟩) hne _).far (p := ⟨b1, 1, none⟩) hne _).alloc _)
    · exact ((((((h1.far (p := ⟨b0, 0, none⟩) (Ne.symm hne) (.slice none 0 0)).far (p := ⟨b0, 1, none⟩) (Ne.symm hne) (.slice none 0 0)).far (p := ⟨b0, 2, none⟩) (Ne.symm hne) (.slice none 0 0)).set_ 0 (.int .i64 n)).set_ 1 (.int .i64 a)).alloc _)
    · have k1 : Kp (fun i => i = b0 ∨ i = b1) w (((((w.setCell ⟨b0, 0, none⟩ (.slice none 0 0)).setCell ⟨b0, 1, none⟩ (.slice none 0 0)).setCell ⟨b0, 2, none⟩ (.slice none 0 0)).setCell ⟨b1, 0, none⟩ (.int .i64 n)).setCell ⟨b1, 1, none⟩ (.int .i64 a)) := Kp.set_ (S := fun i => i = b0 ∨ i = b1) (Kp.set_ (S := fun i => i = b0 ∨ i = b1) (Kp.set_ (S := fun i => i = b0 ∨ i = b1) (Kp.set_ (S := fun i => i = b0 ∨ i = b1) (Kp.set_ (S := fun i => i = b0 ∨ i = b1) (Kp.refl _ w) (.inl (.inl rfl)) _) (.inl (.inl rfl)) _) (.inl (.inl rfl)) _) (.inl (.inr rfl)) _) (.inl (.inr rfl)) _
      have k2 := k1.trans (Kp.alloc _ _ (.cells #[.int .i64 n, .int .i64 a] 58))
      exact ⟨k2.os, k2.tape, k2.output, k2.size, k2.block⟩
end Go.Proofs.YtldamieigigncaaGreatDoor.lx


import Derived.Test.YtldamieigigncaaGreatDoorVaax
import Derived.Test.YtldamieigigncaaGreatDoorVaae
import Derived.Test.YtldamieigigncaaGreatDoorVaaz
namespace Go.Proofs.YtldamieigigncaaGreatDoor.lx
open Go.Proofs.YtldamieigigncaaGreatDoor.ky
set_option linter.unusedVariables false
/-! words that are written -/
def fullT (t : Tok) : List UInt8 := if t.kind = 2 then 39 :: (t.text ++ [39]) else if t.kind = 3 then 37 :: t.text else t.text
def okT (t : Tok) : Prop := (t.kind = 1 ∧ isNameB t.text = true ∧ t.wt = 0) ∨ (t.kind = 2 ∧ isQuoteB t.text = true ∧ t.wt = 0) ∨ (t.kind = 3 ∧ readOk t.text = true ∧ t.text.all wgtB = true ∧ t.wt = readF t.text) ∨ (t.kind = 4 ∧ t.wt = 0 ∧ ∃ c, t.text = [c] ∧ sgnB c = true)
/-- what comes behind belongs to no word -/
def folO (r : List UInt8) : Prop := ∀ c, r.head? = some c → namB c = false ∧ wgtB c = false
theorem runP_app (p : UInt8 → Bool) : ∀ (x r : List UInt8), x.all p = true → (∀ c, r.head? = some c → p c = false) → runP p (x ++ r) = x.length
  | [], r, _, h => by
    unfold runP
    cases r with
    | nil => rfl
    | cons c r => rw [List.nil_append, List.takeWhile_cons_of_neg (by simp [h c rfl])]; try rfl
  | c :: x, r, ha, h => by
    rw [List.all_cons, Bool.and_eq_true] at ha
    unfold runP
    rw [List.cons_append, List.takeWhile_cons_of_pos ha.1]
    have := runP_app p x r ha.2 h
    unfold runP at this
    simp [this]
theorem byte_all (p : UInt8 → Bool) (h : ∀ n : Fin 256, p (UInt8.ofFin n) = true) (c : UInt8) : p c = true := by
  have := h c.toFin
  simpa using this
set_option maxRecDepth 100000 in
theorem let_not (c : UInt8) (h : letB c = true) : (c == 39) = false ∧ skipS false c = (false, false) := by
  have := byte_all (fun c => !letB c || ((c == 39) == false && (skipS false c == (false, false)))) (by decide) c
  rw [h] at this
  simpa using this
set_option maxRecDepth 100000 in
theorem sgn_not (c : UInt8) (h : sgnB c = true) : letB c = false ∧ (c == 39) = false ∧ (c == 37) = false ∧ skipS false c = (false, false) ∧ namB c = false ∧ wgtB c = false := by
  have := byte_all (fun c => !sgnB c || (letB c == false && (c == 39) == false && (c == 37) == false && (skipS false c == (false, false)) && namB c == false && wgtB c == false)) (by decide) c
  rw [h] at this
  simpa [and_assoc] using this
set_option maxRecDepth 100000 in
theorem blk_fol (c : UInt8) (h : blkB c = true) : namB c = false ∧ wgtB c = false ∧ skipS false c = (true, false) := by
  have := byte_all (fun c => !blkB c || (namB c == false && wgtB c == false && (skipS false c == (true, false)))) (by decide) c
  rw [h] at this
  simpa [and_assoc] using this
theorem let_nam (c : UInt8) (h : letB c = true) : namB c = true := by unfold namB; rw [h]; rfl
theorem word_of {t : Tok} (h : okT t) (r : List UInt8) (hf : folO r) : wordAt (fullT t ++ r) = .ok (t.kind, t.text, t.wt, (fullT t).length - 1) ∧ 1 ≤ (fullT t).length ∧ ∃ c y, fullT t = c :: y ∧ skipS false c = (false, false) := by
  obtain ⟨k, a, x, w⟩ := t
  rcases h with ⟨hk, hx, hw⟩ | ⟨hk, hx, hw⟩ | ⟨hk, h1, h2, hw⟩ | ⟨hk, hw, c, hc, hs⟩
  · have hk : k = 1 := hk
    have hw : w = 0 := hw
    subst hk hw
    have hfull : fullT ⟨1, a, x, 0⟩ = x := rfl
    rw [hfull]
    have hx : isNameB x = true := hx
    unfold isNameB at hx
    simp only [Bool.and_eq_true, decide_eq_true_eq] at hx
    obtain ⟨⟨⟨h1, h2⟩, h3⟩, h4⟩ := hx
    cases x with
    | nil => simp at h1
    | cons c y =>
      have h3 : letB c = true := h3
      rw [List.all_cons, Bool.and_eq_true] at h4
      have hr : runP namB (y ++ r) = y.length := runP_app _ _ _ h4.2 (fun c hc => (hf c hc).1)
      refine ⟨?_, by simp, c, y, rfl, (let_not c h3).2⟩
      rw [List.cons_append, word_cons, if_pos h3, hr, if_pos (by simpa using h2)]
      simp
  · have hk : k = 2 := hk
    have hw : w = 0 := hw
    subst hk hw
    have hfull : fullT ⟨2, a, x, 0⟩ = 39 :: (x ++ [39]) := rfl
    rw [hfull]
    have hx : isQuoteB x = true := hx
    unfold isQuoteB at hx
    simp only [Bool.and_eq_true, decide_eq_true_eq] at hx
    obtain ⟨⟨h1, h2⟩, h4⟩ := hx
    have hr : runP quoB (x ++ [39] ++ r) = x.length := by
      rw [List.append_assoc]
      refine runP_app _ _ _ h4 (fun c hc => ?_)
      have : c = 39 := by simpa using hc.symm
      subst this
      decide
    refine ⟨?_, by simp, 39, x ++ [39], rfl, by decide⟩
    rw [List.cons_append, word_cons, if_neg (by decide), if_pos (by rfl), hr, if_neg (by
      intro h
      rcases h with h | h
      · omega
      · exact h (by simp)), if_pos h2]
    simp
  · have hk : k = 3 := hk
    subst hk
    have hfull : fullT ⟨3, a, x, w⟩ = 37 :: x := rfl
    rw [hfull]
    have h1 : readOk x = true := h1
    have h2 : x.all wgtB = true := h2
    have hw : w = readF x := hw
    have hr : runP wgtB (x ++ r) = x.length := runP_app _ _ _ h2 (fun c hc => (hf c hc).2)
    refine ⟨?_, by simp, 37, x, rfl, by decide⟩
    rw [List.cons_append, word_cons, if_neg (by decide), if_neg (by decide), if_pos (by rfl), hr]
    have e : (x ++ r).take x.length = x := by simp
    rw [e, if_pos h1]
    simp [hw]
  · have hk : k = 4 := hk
    have hw : w = 0 := hw
    have hc : x = [c] := hc
    subst hk hw hc
    have hfull : fullT ⟨4, a, [c], 0⟩ = [c] := rfl
    rw [hfull]
    obtain ⟨g1, g2, g3, g4, _, _⟩ := sgn_not c hs
    refine ⟨?_, by simp, c, [], rfl, g4⟩
    rw [List.cons_append, word_cons, g1, g2, g3, hs]
    rfl
def er (t : Tok) : Tok := ⟨t.kind, 0, t.text, t.wt⟩
abbrev Pc := List UInt8 × Tok
def flatP (ps : List Pc) : List UInt8 := ps.flatMap fun p => p.1 ++ fullT p.2
theorem runN_blank : ∀ (b r : List UInt8), b.all blkB = true → runN skipS false (b ++ r) = b.length + runN skipS false r
  | [], r, _ => by simp
  | c :: b, r, h => by
    rw [List.all_cons, Bool.and_eq_true] at h
    obtain ⟨_, _, e⟩ := blk_fol c h.1
    rw [List.cons_append]
    show (if (skipS false c).1 then runN skipS (skipS false c).2 (b ++ r) + 1 else 0) = _
    rw [e]
    simp only [if_true]
    rw [runN_blank b r h.2]
    simp
    omega
theorem runN_stop (c : UInt8) (y : List UInt8) (h : skipS false c = (false, false)) : runN skipS false (c :: y) = 0 := by
  show (if (skipS false c).1 then runN skipS (skipS false c).2 y + 1 else 0) = _
  rw [h]
  rfl
def sepO (p : Pc) : Prop := p.1 ≠ [] ∨ p.2.kind = 4
theorem fol_flat (ps : List Pc) (z : List UInt8) (hz : z.all blkB = true) (h : ∀ p ∈ ps, p.1.all blkB = true ∧ okT p.2) (h2 : ∀ p ∈ ps, sepO p) : folO (flatP ps ++ z) := by
  intro c hc
  cases ps with
  | nil =>
    cases z with
    | nil => cases hc
    | cons d z =>
      rw [List.all_cons, Bool.and_eq_true] at hz
      obtain rfl : d = c := by simpa [flatP] using hc
      exact ⟨(blk_fol d hz.1).1, (blk_fol d hz.1).2.1⟩
  | cons p ps =>
    obtain ⟨b, t⟩ := p
    obtain ⟨hb, ht⟩ := h (b, t) List.mem_cons_self
    cases b with
    | cons d b =>
      have hb : (d :: b).all blkB = true := hb
      rw [List.all_cons, Bool.and_eq_true] at hb
      obtain rfl : d = c := by simpa [flatP] using hc
      exact ⟨(blk_fol d hb.1).1, (blk_fol d hb.1).2.1⟩
    | nil =>
      rcases h2 ([], t) List.mem_cons_self with h3 | h3
      · exact absurd rfl h3
      · have h3 : t.kind = 4 := h3
        rcases ht with ⟨hk, _⟩ | ⟨hk, _⟩ | ⟨hk, _⟩ | ⟨hk, hw, d, hd, hs⟩
        · have hk : t.kind = 1 := hk
          omega
        · have hk : t.kind = 2 := hk
          omega
        · have hk : t.kind = 3 := hk
          omega
        · have hd : t.text = [d] := hd
          have e : fullT t = [d] := by unfold fullT; rw [if_neg (by omega), if_neg (by omega), hd]
          obtain rfl : d = c := by simpa [flatP, e] using hc
          obtain ⟨_, _, _, _, g1, g2⟩ := sgn_not d hs
          exact ⟨g1, g2⟩
theorem lex_flat (z : List UInt8) (hz : z.all blkB = true) : ∀ (ps : List Pc) (P : List UInt8), (∀ p ∈ ps, p.1.all blkB = true ∧ okT p.2) → (∀ p ∈ ps.tail, sepO p) → ∃ us, lexA (P ++ (flatP ps ++ z)) (nxt (P ++ (flatP ps ++ z)) P.length) = (us, none) ∧ us.map er = ps.map (fun p => er p.2) ++ [⟨0, 0, [], 0⟩]
  | [], P, _, _ => by
    have e : nxt (P ++ (flatP [] ++ z)) P.length = (P ++ (flatP [] ++ z)).length := by
      unfold nxt
      rw [List.drop_left]
      have := runN_blank z [] hz
      rw [List.append_nil] at this
      show P.length + runN skipS false ([] ++ z) = _
      rw [List.nil_append, this]
      simp [flatP, runN]
    rw [e]
    exact ⟨_, lexA_end _, rfl⟩
  | (b, t) :: ps, P, h, h2 => by
    obtain ⟨hb, ht⟩ := h (b, t) List.mem_cons_self
    have hb : b.all blkB = true := hb
    have ht : okT t := ht
    have hp : ∀ p ∈ ps, p.1.all blkB = true ∧ okT p.2 := fun p hp => h p (List.mem_cons_of_mem _ hp)
    have h2 : ∀ p ∈ ps, sepO p := h2
    obtain ⟨w1, w2, c, y, w3, w4⟩ := word_of ht (flatP ps ++ z) (fol_flat ps z hz hp h2)
    have es : P ++ (flatP ((b, t) :: ps) ++ z) = (P ++ b) ++ (fullT t ++ (flatP ps ++ z)) := by simp [flatP]
    have es2 : P ++ (flatP ((b, t) :: ps) ++ z) = (P ++ b ++ fullT t) ++ (flatP ps ++ z) := by simp [flatP]
    have en : nxt (P ++ (flatP ((b, t) :: ps) ++ z)) P.length = (P ++ b).length := by
      unfold nxt
      rw [List.drop_left]
      have e3 : flatP ((b, t) :: ps) ++ z = b ++ (c :: (y ++ (flatP ps ++ z))) := by
        show (b ++ fullT t ++ flatP ps) ++ z = _
        rw [w3]
        simp
      rw [e3, runN_blank b _ hb, runN_stop c _ w4]
      simp
    obtain ⟨us, hu, hm⟩ := lex_flat z hz ps (P ++ b ++ fullT t) hp (fun p hp => h2 p (List.mem_of_mem_tail hp))
    rw [en]
    have hlt : (P ++ b).length < (P ++ (flatP ((b, t) :: ps) ++ z)).length := by
      have := congrArg List.length es
      simp only [List.length_append] at this ⊢
      omega
    have hd : (P ++ (flatP ((b, t) :: ps) ++ z)).drop (P ++ b).length = fullT t ++ (flatP ps ++ z) := by rw [es, List.drop_left]
    rw [lexA_ok _ _ t.kind t.wt ((fullT t).length - 1) t.text hlt (by rw [hd]; exact w1)]
    have e4 : (P ++ b).length + ((fullT t).length - 1) + 1 = (P ++ b ++ fullT t).length := by
      simp only [List.length_append]
      omega
    rw [e4, es2, hu]
    exact ⟨_, rfl, by simp [hm, er]⟩
theorem lex_written (ps : List Pc) (z : List UInt8) (hz : z.all blkB = true) (h : ∀ p ∈ ps, p.1.all blkB = true ∧ okT p.2) (h2 : ∀ p ∈ ps.tail, sepO p) (hl : (flatP ps ++ z).length ≤ 65536) : ∃ us, lexAll (flatP ps ++ z) = (us, 0, 0) ∧ us.map er = ps.map (fun p => er p.2) ++ [⟨0, 0, [], 0⟩] := by
  obtain ⟨us, h3, h4⟩ := lex_flat z hz ps [] h h2
  refine ⟨us, ?_, h4⟩
  unfold lexAll
  rw [if_neg (by omega)]
  rw [List.nil_append] at h3
  have h3 : lexA (flatP ps ++ z) (nxt (flatP ps ++ z) 0) = (us, none) := h3
  rw [h3]
theorem drop_nil {p : UInt8 → Bool} : ∀ {l : List UInt8}, (∀ c ∈ l, p c = true) → l.dropWhile p = []
  | [], _ => rfl
  | c :: l, h => by
    rw [List.dropWhile_cons_of_pos (h c List.mem_cons_self)]
    exact drop_nil (fun d hd => h d (List.mem_cons_of_mem _ hd))
theorem readF_lt (l : List UInt8) : readF l < 18446744073709551616 := by
  unfold readF
  split
  · decide
  · split
    · decide
    · split
      · decide
      · split
        · rename_i h
          unfold decF
          unfold decB digsB at h
          simp only [Bool.and_eq_true, decide_eq_true_eq, List.all_eq_true] at h
          obtain ⟨⟨⟨⟨_, h9⟩, hd⟩, _⟩, ht⟩ := h
          have h6 : (tailD (strip l)).length ≤ 6 ∧ ∀ c ∈ tailD (strip l), digB c = true := by
            simp only [Bool.or_eq_true, Bool.and_eq_true, decide_eq_true_eq, List.all_eq_true, Bool.not_eq_true'] at ht
            rcases ht with ht | ⟨⟨_, h1⟩, h2⟩
            · have e : tailD (strip l) = [] := by
                unfold tailD
                unfold dotB at ht
                rw [drop_nil (fun c hc => ?_)]
                · rfl
                · have : c ≠ 46 := fun e => by
                    subst e
                    rw [List.contains_iff_mem.2 hc] at ht
                    cases ht
                  simpa using this
              rw [e]
              exact ⟨by decide, fun c hc => by cases hc⟩
            · exact ⟨h1, h2⟩
          have hv := val_le (l := headD (strip l) ++ tailD (strip l)) (by rw [List.length_append]; omega) (fun c hc => (List.mem_append.1 hc).elim (hd c) (h6.2 c))
          cases (l.head? == some 45)
          · have := (flo.wt_neg _ _ (by omega) h6.1 : flo.wt true (val (headD (strip l) ++ tailD (strip l))) (tailD (strip l)).length = _ ∧ _).2
            omega
          · have := (flo.wt_neg _ _ (by omega) h6.1 : flo.wt true (val (headD (strip l) ++ tailD (strip l))) (tailD (strip l)).length = _ ∧ _)
            omega
        · decide
theorem num_facts : ∀ s ∈ ([[110, 97, 110], [105, 110, 102], [45, 105, 110, 102], [45, 48], [49, 46, 53], [45, 50], [49]] : List (List UInt8)), readOk s = true ∧ s.all wgtB = true ∧ keyN (readF s) ≠ keyN 0 ∧ s.length ≤ 4 ∧ readF s < 18446744073709551616 := by
  intro s hs
  simp only [List.mem_cons, List.not_mem_nil, or_false] at hs
  rcases hs with rfl | rfl | rfl | rfl | rfl | rfl | rfl <;> exact ⟨by decide +kernel, by decide +kernel, by decide +kernel, by decide +kernel, readF_lt _⟩
/-! definitions that are written -/
/-- one of a few weights zs text -/
def numL : List (List UInt8) := [[110, 97, 110], [105, 110, 102], [45, 105, 110, 102], [45, 48], [49, 46, 53], [45, 50]]
def numP (w : Nat) : List UInt8 := (numL.find? (fun s => decide (keyN w = keyN (readF s)))).getD [49]
def shW (w : Nat) : Nat := if keyN w = keyN 0 then w else readF (numP w)
def wrI (sub : List Altn → List UInt8) (i : Itm) : List UInt8 :=
  (if i.kind = 0 then 32 :: i.text else if i.kind = 1 then 32 :: 39 :: (i.text ++ [39]) else 32 :: 40 :: (sub i.alts ++ [32, 41])) ++ (if i.op = 0 then [] else [i.op.toUInt8])
def wrW (w : Nat) : List UInt8 := if keyN w = keyN 0 then [] else 32 :: 37 :: numP w
def wrB (sub : List Altn → List UInt8) (a : Altn) : List UInt8 := wrW a.2.1 ++ a.2.2.flatMap (wrI sub)
def wrL (sub : List Altn → List UInt8) : List Altn → List UInt8
  | [] => []
  | a :: zs => wrB sub a ++ zs.flatMap (fun a => 32 :: 124 :: wrB sub a)
def wrA : Nat → List Altn → List UInt8
  | 0, _ => []
  | k + 1, bs => wrL (wrA k) bs
def wrD (d : Dfn) : List UInt8 := d.2.1 ++ [32, 61] ++ wrA 17 d.2.2 ++ [32, 59, 10]
def wrT (ds : List Dfn) : List UInt8 := ds.flatMap wrD
def shI (sub : List Altn → List Altn) (i : Itm) : Itm := .mk 0 i.kind i.text (sub i.alts) i.op
def shB (sub : List Altn → List Altn) (a : Altn) : Altn := (0, shW a.2.1, a.2.2.map (shI sub))
def shA : Nat → List Altn → List Altn
  | 0, _ => []
  | k + 1, bs => bs.map (shB (shA k))
/-! their words -/
def sgT (c : UInt8) : Tok := ⟨4, 0, [c], 0⟩
def pcI (sub : List Altn → List Pc) (i : Itm) : List Pc :=
  (if i.kind = 0 then [([32], ⟨1, 0, i.text, 0⟩)] else if i.kind = 1 then [([32], ⟨2, 0, i.text, 0⟩)] else ([32], sgT 40) :: (sub i.alts ++ [([32], sgT 41)])) ++ (if i.op = 0 then [] else [([], sgT i.op.toUInt8)])
def pcW (w : Nat) : List Pc := if keyN w = keyN 0 then [] else [([32], ⟨3, 0, numP w, readF (numP w)⟩)]
def pcB (sub : List Altn → List Pc) (a : Altn) : List Pc := pcW a.2.1 ++ a.2.2.flatMap (pcI sub)
def pcL (sub : List Altn → List Pc) : List Altn → List Pc
  | [] => []
  | a :: zs => pcB sub a ++ zs.flatMap (fun a => ([32], sgT 124) :: pcB sub a)
def pcA : Nat → List Altn → List Pc
  | 0, _ => []
  | k + 1, bs => pcL (pcA k) bs
def pcD (b : List UInt8) (d : Dfn) : List Pc := (b, ⟨1, 0, d.2.1, 0⟩) :: ([32], sgT 61) :: (pcA 17 d.2.2 ++ [([32], sgT 59)])
def pcT : List Dfn → List Pc
  | [] => []
  | d :: ds => pcD [] d ++ ds.flatMap (pcD [10])
theorem flatP_app (a b : List Pc) : flatP (a ++ b) = flatP a ++ flatP b := by simp [flatP]
theorem flatP_map {α : Type} (f : α → List Pc) (g : α → List UInt8) (h : ∀ x, flatP (f x) = g x) : ∀ l : List α, flatP (l.flatMap f) = l.flatMap g
  | [] => rfl
  | x :: l => by
    rw [List.flatMap_cons, List.flatMap_cons, flatP_app, h, flatP_map f g h l]
theorem full_sg (c : UInt8) : fullT (sgT c) = [c] := rfl
theorem flat_item (sub : List Altn → List Pc) (s : List Altn → List UInt8) (h : ∀ x, flatP (sub x) = s x) (i : Itm) : flatP (pcI sub i) = wrI s i := by
  unfold pcI wrI
  rw [flatP_app]
  congr 1
  · split
    · simp [flatP, fullT]
    · split
      · simp [flatP, fullT]
      · rw [show ([32], sgT 40) :: (sub i.alts ++ [([32], sgT 41)]) = [([32], sgT 40)] ++ sub i.alts ++ [([32], sgT 41)] by simp, flatP_app, flatP_app, h]
        simp [flatP, full_sg]
  · split <;> simp [flatP, full_sg]
theorem flat_alt (sub : List Altn → List Pc) (s : List Altn → List UInt8) (h : ∀ x, flatP (sub x) = s x) (a : Altn) : flatP (pcB sub a) = wrB s a := by
  unfold pcB wrB
  rw [flatP_app, flatP_map _ _ (flat_item sub s h)]
  congr 1
  unfold pcW wrW
  split <;> simp [flatP, fullT]
theorem flat_list (sub : List Altn → List Pc) (s : List Altn → List UInt8) (h : ∀ x, flatP (sub x) = s x) (bs : List Altn) : flatP (pcL sub bs) = wrL s bs := by
  cases bs with
  | nil => rfl
  | cons a zs =>
    unfold pcL wrL
    rw [flatP_app, flat_alt sub s h, flatP_map _ (fun a => 32 :: 124 :: wrB s a) (fun a => ?_)]
    show [32] ++ fullT (sgT 124) ++ flatP (pcB sub a) = _
    rw [flat_alt sub s h, full_sg]
    rfl
theorem flat_alts : ∀ (k : Nat) (bs : List Altn), flatP (pcA k bs) = wrA k bs
  | 0, _ => rfl
  | k + 1, bs => flat_list _ _ (flat_alts k) bs
theorem flat_def (b : List UInt8) (d : Dfn) : flatP (pcD b d) ++ [10] = b ++ wrD d := by
  unfold pcD wrD
  rw [show (b, (⟨1, 0, d.2.1, 0⟩ : Tok)) :: ([32], sgT 61) :: (pcA 17 d.2.2 ++ [([32], sgT 59)]) = [(b, ⟨1, 0, d.2.1, 0⟩), ([32], sgT 61)] ++ pcA 17 d.2.2 ++ [([32], sgT 59)] by simp, flatP_app, flatP_app, flat_alts]
  simp [flatP, fullT, sgT]
theorem flat_more : ∀ ds : List Dfn, flatP (ds.flatMap (pcD [10])) ++ [10] = 10 :: wrT ds
  | [] => rfl
  | d :: ds => by
    rw [List.flatMap_cons, flatP_app, List.append_assoc, flat_more ds]
    have := flat_def [10] d
    rw [show flatP (pcD [10] d) ++ 10 :: wrT ds = (flatP (pcD [10] d) ++ [10]) ++ wrT ds by simp, this]
    simp [wrT]
theorem flat_text (d : Dfn) (ds : List Dfn) : flatP (pcT (d :: ds)) ++ [10] = wrT (d :: ds) := by
  unfold pcT
  rw [flatP_app, List.append_assoc, flat_more]
  rw [show flatP (pcD [] d) ++ 10 :: wrT ds = (flatP (pcD [] d) ++ [10]) ++ wrT ds by simp, flat_def]
  simp [wrT]
/-! what was read is so -/
def okI (sub : List Altn → Prop) (i : Itm) : Prop := ((i.kind = 0 ∧ isNameB i.text = true ∧ i.alts = []) ∨ (i.kind = 1 ∧ isQuoteB i.text = true ∧ i.alts = []) ∨ (i.kind = 2 ∧ i.text = [] ∧ sub i.alts)) ∧ (i.op = 0 ∨ isOp i.op = true)
def okA : Nat → List Altn → Prop
  | 0, _ => False
  | k + 1, bs => bs ≠ [] ∧ ∀ a ∈ bs, a.2.1 < 18446744073709551616 ∧ ∀ i ∈ a.2.2, okI (okA k) i
theorem op_sgn {n : Nat} (h : isOp n = true) : sgnB n.toUInt8 = true ∧ n ≠ 0 ∧ n.toUInt8.toNat = n := by
  unfold isOp at h
  simp only [Bool.or_eq_true, beq_iff_eq] at h
  rcases h with (rfl | rfl) | rfl <;> decide
def okPc (p : Pc) : Prop := p.1.all blkB = true ∧ okT p.2 ∧ er p.2 = p.2 ∧ sepO p
theorem ok_sg (c : UInt8) (h : sgnB c = true) (b : List UInt8) (hb : b.all blkB = true) : okPc (b, sgT c) := ⟨hb, .inr (.inr (.inr ⟨rfl, rfl, c, rfl, h⟩)), rfl, .inr rfl⟩
theorem ok_item (sub : List Altn → List Pc) (P : List Altn → Prop) (h : ∀ bs, P bs → ∀ p ∈ sub bs, okPc p) (i : Itm) (hi : okI P i) : ∀ p ∈ pcI sub i, okPc p := by
  intro p hp
  obtain ⟨hi, ho⟩ := hi
  unfold pcI at hp
  rcases List.mem_append.1 hp with hp | hp
  · rcases hi with ⟨h1, h2, _⟩ | ⟨h1, h2, _⟩ | ⟨h1, _, h2⟩
    · rw [if_pos h1] at hp
      rw [List.mem_singleton.1 hp]
      exact ⟨rfl, .inl ⟨rfl, h2, rfl⟩, rfl, .inl (by simp)⟩
    · rw [if_neg (by omega), if_pos h1] at hp
      rw [List.mem_singleton.1 hp]
      exact ⟨rfl, .inr (.inl ⟨rfl, h2, rfl⟩), rfl, .inl (by simp)⟩
    · rw [if_neg (by omega), if_neg (by omega)] at hp
      rcases List.mem_cons.1 hp with rfl | hp
      · exact ok_sg _ (by decide) _ (by decide)
      · rcases List.mem_append.1 hp with hp | hp
        · exact h _ h2 p hp
        · rw [List.mem_singleton.1 hp]
          exact ok_sg _ (by decide) _ (by decide)
  · split at hp
    · cases hp
    · rename_i hne
      rw [List.mem_singleton.1 hp]
      rcases ho with ho | ho
      · exact absurd ho hne
      · exact ok_sg _ (op_sgn ho).1 _ (by decide)
theorem num_same : ∀ s ∈ ([[110, 97, 110], [105, 110, 102], [45, 105, 110, 102], [45, 48], [49, 46, 53], [45, 50], [49]] : List (List UInt8)), numP (readF s) = s := by
  intro s hs
  simp only [List.mem_cons, List.not_mem_nil, or_false] at hs
  rcases hs with rfl | rfl | rfl | rfl | rfl | rfl | rfl <;> decide +kernel
theorem hz (w : Nat) (hw : w < 18446744073709551616) (h : keyN w = keyN 0) : w = 0 := by
  have e : keyN 0 = 9223372036854775808 := by decide +kernel
  rw [e] at h
  unfold keyN at h
  split at h
  · omega
  · split at h
    · rename_i h2
      unfold negB at h2
      simp only [decide_eq_true_eq] at h2
      omega
    · omega
theorem num_in (w : Nat) : numP w ∈ numL ++ [[49]] := by
  unfold numP
  cases h : numL.find? (fun s => decide (keyN w = keyN (readF s))) with
  | none => simp
  | some s => exact List.mem_append_left _ (List.mem_of_find?_eq_some h)
theorem num_facts' (w : Nat) : readOk (numP w) = true ∧ (numP w).all wgtB = true ∧ keyN (readF (numP w)) ≠ keyN 0 ∧ (numP w).length ≤ 4 ∧ readF (numP w) < 18446744073709551616 := num_facts _ (by simpa [numL] using num_in w)
theorem num_again (w : Nat) : numP (readF (numP w)) = numP w := num_same _ (by simpa [numL] using num_in w)
theorem ok_alt (sub : List Altn → List Pc) (P : List Altn → Prop) (h : ∀ bs, P bs → ∀ p ∈ sub bs, okPc p) (a : Altn) (ha : ∀ i ∈ a.2.2, okI P i) : ∀ p ∈ pcB sub a, okPc p := by
  intro p hp
  unfold pcB at hp
  rcases List.mem_append.1 hp with hp | hp
  · unfold pcW at hp
    split at hp
    · cases hp
    · rw [List.mem_singleton.1 hp]
      obtain ⟨h1, h2, _⟩ := num_facts' a.2.1
      exact ⟨rfl, .inr (.inr (.inl ⟨rfl, h1, h2, rfl⟩)), rfl, .inl (by simp)⟩
  · obtain ⟨i, hi, hp⟩ := List.mem_flatMap.1 hp
    exact ok_item sub P h i (ha i hi) p hp
theorem ok_list (sub : List Altn → List Pc) (P : List Altn → Prop) (h : ∀ bs, P bs → ∀ p ∈ sub bs, okPc p) (bs : List Altn) (hb : ∀ a ∈ bs, ∀ i ∈ a.2.2, okI P i) : ∀ p ∈ pcL sub bs, okPc p := by
  intro p hp
  cases bs with
  | nil => cases hp
  | cons a zs =>
    rcases List.mem_append.1 hp with hp | hp
    · exact ok_alt sub P h a (hb a List.mem_cons_self) p hp
    · obtain ⟨c, hc, hp⟩ := List.mem_flatMap.1 hp
      rcases List.mem_cons.1 hp with rfl | hp
      · exact ok_sg _ (by decide) _ rfl
      · exact ok_alt sub P h c (hb c (List.mem_cons_of_mem _ hc)) p hp
theorem ok_alts : ∀ (k : Nat) (bs : List Altn), okA k bs → ∀ p ∈ pcA k bs, okPc p
  | 0, _, h => h.elim
  | k + 1, bs, h => ok_list _ _ (ok_alts k) bs (fun a ha => (h.2 a ha).2)
def okD (d : Dfn) : Prop := isNameB d.2.1 = true ∧ okA 17 d.2.2
theorem ok_def (b : List UInt8) (hb : b.all blkB = true) (d : Dfn) (h : okD d) : ∀ p ∈ (pcD b d).tail, okPc p := by
  intro p hp
  rcases List.mem_cons.1 hp with rfl | hp
  · exact ok_sg _ (by decide) _ rfl
  · rcases List.mem_append.1 hp with hp | hp
    · exact ok_alts 17 _ h.2 p hp
    · rw [List.mem_singleton.1 hp]
      exact ok_sg _ (by decide) _ rfl
theorem ok_text (d : Dfn) (ds : List Dfn) (h : ∀ e ∈ d :: ds, okD e) : (∀ p ∈ pcT (d :: ds), p.1.all blkB = true ∧ okT p.2 ∧ er p.2 = p.2) ∧ ∀ p ∈ (pcT (d :: ds)).tail, sepO p := by
  have hd := h d List.mem_cons_self
  have hm : ∀ p ∈ ds.flatMap (pcD [10]), okPc p := fun p hp => by
    obtain ⟨e, he, hp⟩ := List.mem_flatMap.1 hp
    have hde := h e (List.mem_cons_of_mem _ he)
    rcases List.mem_cons.1 hp with rfl | hp
    · exact ⟨rfl, .inl ⟨rfl, hde.1, rfl⟩, rfl, .inl (by simp)⟩
    · exact ok_def [10] rfl e hde p hp
  have ht : ∀ p ∈ (pcT (d :: ds)).tail, okPc p := fun p hp => by
    have hp : p ∈ (pcD [] d).tail ++ ds.flatMap (pcD [10]) := hp
    rcases List.mem_append.1 hp with hp | hp
    · exact ok_def [] rfl d hd p hp
    · exact hm p hp
  refine ⟨fun p hp => ?_, fun p hp => (ht p hp).2.2.2⟩
  have hp : p ∈ ([], ⟨1, 0, d.2.1, 0⟩) :: (pcT (d :: ds)).tail := hp
  rcases List.mem_cons.1 hp with rfl | hp
  · exact ⟨rfl, .inl ⟨rfl, hd.1, rfl⟩, rfl⟩
  · exact ⟨(ht p hp).1, (ht p hp).2.1, (ht p hp).2.2.1⟩
/-! what is written is read -/
def endO (n : Nat) : Prop := n = 124 ∨ n = 41 ∨ n = 59
theorem er_hd {U V : List Tok} {t : Tok} (h : U.map er = t :: V) : ∃ u U', U = u :: U' ∧ er u = t ∧ U'.map er = V := by
  cases U with
  | nil => cases h
  | cons u U' =>
    simp only [List.map_cons, List.cons.injEq] at h
    exact ⟨u, U', rfl, h.1, h.2⟩
theorem er_app {U A B : List Tok} (h : U.map er = A ++ B) : ∃ U1 U2, U = U1 ++ U2 ∧ U1.map er = A ∧ U2.map er = B := by
  obtain ⟨a, b, e, h1, h2⟩ := List.map_eq_append_iff.1 h
  exact ⟨a, b, e, h1, h2⟩
theorem sg_er {u t : Tok} (h : er u = t) : sgOf u = sgOf t ∧ u.kind = t.kind ∧ u.text = t.text ∧ u.wt = t.wt := by subst h; exact ⟨rfl, rfl, rfl, rfl⟩
/-- behind an item: no sign that belongs to it -/
def noOp (ts : List Tok) : Prop := isOp (sg ts) = false
theorem op_none {ts : List Tok} (h : noOp ts) : opOf ts = 0 ∧ opTl ts = ts := by
  unfold opOf opTl
  rw [h]
  exact ⟨rfl, rfl⟩
theorem op_some {u : Tok} {R : List Tok} {n : Nat} (hn : isOp n = true) (h : er u = sgT n.toUInt8) : opOf (u :: R) = n ∧ opTl (u :: R) = R := by
  have e : sg (u :: R) = n := by
    show sgOf u = n
    rw [(sg_er h).1]
    exact (op_sgn hn).2.2
  unfold opOf opTl
  rw [e, hn]
  exact ⟨rfl, rfl⟩
abbrev tks (ps : List Pc) : List Tok := ps.map Prod.snd
def Back (sub : List Tok → Res (List Altn)) (P : List Altn → Prop) (q : List Altn → List Pc) (sh : List Altn → List Altn) : Prop := ∀ (bs : List Altn) (U R : List Tok), P bs → U.map er = sgT 40 :: (tks (q bs) ++ [sgT 41]) → ∃ bs', sub (U ++ R) = .ok (bs', R) ∧ sh bs' = sh bs
section
variable {sub : List Tok → Res (List Altn)} {P : List Altn → Prop} {q : List Altn → List Pc} {sh : List Altn → List Altn}
/-- an item, and the sign that may belong to it -/
theorem back_item (hB : Back sub P q sh) (hn : sh [] = []) (i : Itm) (hi : okI P i) (U R : List Tok) (hU : U.map er = tks (pcI q i)) (hR : noOp R) : ∃ i', pItem sub (U ++ R) = .ok (i', R) ∧ shI sh i' = shI sh i ∧ atIt (hd (U ++ R)) = true ∧ (sg (U ++ R) = 0 ∨ sg (U ++ R) = 40) := by
  obtain ⟨h1, ho⟩ := hi
  obtain ⟨p, k, x, zs, o⟩ := i
  have tl : ∀ V : List Tok, V.map er = tks (if o = 0 then [] else [([], sgT o.toUInt8)]) → opOf (V ++ R) = o ∧ opTl (V ++ R) = R := fun V hV => by
    rcases ho with ho | ho
    · have ho : o = 0 := ho
      subst ho
      have : V = [] := by simpa using hV
      subst this
      exact op_none hR
    · have ho : isOp o = true := ho
      rw [if_neg (op_sgn ho).2.1] at hV
      obtain ⟨u, U', rfl, h1, h2⟩ := er_hd hV
      have : U' = [] := by simpa using h2
      subst this
      exact op_some ho h1
  unfold pcI at hU
  rcases h1 with ⟨hk, hx, ha⟩ | ⟨hk, hx, ha⟩ | ⟨hk, hx, ha⟩
  · have hk : k = 0 := hk
    have ha : zs = [] := ha
    subst hk ha
    obtain ⟨u, V, rfl, hu, hV⟩ := er_hd (show U.map er = ⟨1, 0, x, 0⟩ :: tks (if o = 0 then [] else [([], sgT o.toUInt8)]) from hU)
    obtain ⟨e1, e2, e3, _⟩ := sg_er hu
    obtain ⟨t1, t2⟩ := tl V hV
    have e2 : u.kind = 1 := e2
    have e3 : u.text = x := e3
    refine ⟨.mk u.at_ 0 x [] o, ?_, rfl, ?_, .inl e1⟩
    · show (if u.kind = 1 then .ok (.mk u.at_ 0 u.text [] (opOf (V ++ R)), opTl (V ++ R)) else _) = (_ : Res Itm)
      rw [if_pos e2, t1, t2, e3]
    · show (u.kind == 1 || u.kind == 2 || sgOf u == 40) = true
      rw [e2]
      rfl
  · have hk : k = 1 := hk
    have ha : zs = [] := ha
    subst hk ha
    obtain ⟨u, V, rfl, hu, hV⟩ := er_hd (show U.map er = ⟨2, 0, x, 0⟩ :: tks (if o = 0 then [] else [([], sgT o.toUInt8)]) from hU)
    obtain ⟨e1, e2, e3, _⟩ := sg_er hu
    obtain ⟨t1, t2⟩ := tl V hV
    have e2 : u.kind = 2 := e2
    have e3 : u.text = x := e3
    refine ⟨.mk u.at_ 1 x [] o, ?_, rfl, ?_, .inl e1⟩
    · show (if u.kind = 1 then _ else if u.kind = 2 then .ok (.mk u.at_ 1 u.text [] (opOf (V ++ R)), opTl (V ++ R)) else _) = (_ : Res Itm)
      rw [if_neg (by omega), if_pos e2, t1, t2, e3]
    · show (u.kind == 1 || u.kind == 2 || sgOf u == 40) = true
      rw [e2]
      rfl
  · have hk : k = 2 := hk
    have hx : x = [] := hx
    have ha : P zs := ha
    subst hk hx
    have hU : U.map er = (sgT 40 :: (tks (q zs) ++ [sgT 41])) ++ tks (if o = 0 then [] else [([], sgT o.toUInt8)]) := by
      rw [hU]
      simp [Itm.kind, Itm.alts, Itm.op]
    obtain ⟨U1, V, rfl, hu, hV⟩ := er_app hU
    obtain ⟨t1, t2⟩ := tl V hV
    obtain ⟨bs', hb1, hb2⟩ := hB zs U1 (V ++ R) ha hu
    obtain ⟨u, U', rfl, hu1, _⟩ := er_hd hu
    obtain ⟨e1, e2, e3, _⟩ := sg_er hu1
    have e2 : u.kind = 4 := e2
    have e1 : sgOf u = 40 := e1
    refine ⟨.mk u.at_ 2 [] bs' o, ?_, ?_, ?_, .inr e1⟩
    · rw [List.append_assoc]
      have hh : hd (u :: U' ++ (V ++ R)) = u := rfl
      unfold pItem
      rw [hh, if_neg (by omega), if_neg (by omega), hb1]
      simp only [t1, t2]
    · show Itm.mk 0 2 [] (sh bs') o = Itm.mk 0 2 [] (sh zs) o
      rw [hb2]
    · show (u.kind == 1 || u.kind == 2 || sgOf u == 40) = true
      rw [e1]
      simp
theorem atIt_shut {R : List Tok} (h : endO (sg R)) : atIt (hd R) = false := by
  unfold atIt
  have h : endO (sgOf (hd R)) := h
  unfold endO sgOf at h
  split at h
  · rename_i hk
    have : sgOf (hd R) ≠ 40 := by unfold sgOf; rw [if_pos hk]; omega
    simp [hk, this]
  · omega
theorem noOp_end {R : List Tok} (h : endO (sg R)) : noOp R := by
  unfold noOp isOp
  rcases h with h | h | h <;> rw [h] <;> rfl
theorem back_items (hB : Back sub P q sh) (hn : sh [] = []) : ∀ (is : List Itm) (f : Nat) (U R : List Tok), is.length < f → (∀ i ∈ is, okI P i) → U.map er = tks (is.flatMap (pcI q)) → endO (sg R) → ∃ is', pItems sub f (U ++ R) = .ok (is', R) ∧ is'.map (shI sh) = is.map (shI sh) ∧ noOp (U ++ R) ∧ (U = [] ∨ sg (U ++ R) = 0 ∨ sg (U ++ R) = 40)
  | [], 0, _, _, h, _, _, _ => by simp at h
  | [], f + 1, U, R, _, _, hU, hR => by
    have : U = [] := by simpa using hU
    subst this
    refine ⟨[], ?_, rfl, noOp_end hR, .inl rfl⟩
    rw [List.nil_append]
    unfold pItems
    rw [atIt_shut hR]
    rfl
  | _ :: _, 0, _, _, h, _, _, _ => by simp at h
  | i :: is, f + 1, U, R, hf, hi, hU, hR => by
    have hU : U.map er = tks (pcI q i) ++ tks (is.flatMap (pcI q)) := by
      rw [hU, List.flatMap_cons]
      simp
    obtain ⟨U1, U2, rfl, h1, h2⟩ := er_app hU
    obtain ⟨is', k1, k2, k3, _⟩ := back_items hB hn is f U2 R (by simpa using hf) (fun j hj => hi j (List.mem_cons_of_mem _ hj)) h2 hR
    obtain ⟨i', m1, m2, m3, m4⟩ := back_item hB hn i (hi i List.mem_cons_self) U1 (U2 ++ R) h1 k3
    rw [List.append_assoc]
    refine ⟨i' :: is', ?_, by simp [m2, k2], ?_, .inr m4⟩
    · unfold pItems
      rw [m3, m1]
      simp only [if_true]
      rw [k1]
    · unfold noOp isOp
      rcases m4 with h | h <;> rw [h] <;> rfl
end
section
variable {sub : List Tok → Res (List Altn)} {P : List Altn → Prop} {q : List Altn → List Pc} {sh : List Altn → List Altn}
theorem flat_len (is : List Itm) : is.length ≤ (is.flatMap (pcI q)).length := by
  induction is with
  | nil => simp
  | cons i is ih =>
    rw [List.flatMap_cons, List.length_append, List.length_cons]
    have : 1 ≤ (pcI q i).length := by
      unfold pcI
      split
      · simp
      · split <;> simp
    omega
theorem back_alt (hB : Back sub P q sh) (hn : sh [] = []) (a : Altn) (ha : a.2.1 < 18446744073709551616 ∧ ∀ i ∈ a.2.2, okI P i) (U R : List Tok) (hR : R ≠ []) (hU : U.map er = tks (pcB q a)) (hE : endO (sg R)) : ∃ a', pAlt sub (U ++ R) = .ok (a', R) ∧ shB sh a' = shB sh a := by
  obtain ⟨hw64, ha⟩ := ha
  obtain ⟨p, w, is⟩ := a
  have hr : 1 ≤ R.length := List.length_pos_iff.2 hR
  unfold pcB pcW at hU
  by_cases hw : keyN w = keyN 0
  · have hU : U.map er = tks (is.flatMap (pcI q)) := by
      rw [hU, if_pos hw]
      rfl
    have hlen : is.length ≤ U.length := by
      have := congrArg List.length hU
      simp only [List.length_map] at this
      rw [this]
      exact flat_len is
    obtain ⟨is', k1, k2, k3, k4⟩ := back_items hB hn is (U ++ R).length U R (by rw [List.length_append]; omega) ha hU hE
    have h3 : ¬ (hd (U ++ R)).kind = 3 := fun h3 => by
      rcases k4 with rfl | k4 | k4
      · have h3 : (hd R).kind = 3 := h3
        have hE : endO (sgOf (hd R)) := hE
        unfold endO sgOf at hE
        rw [if_neg (by omega)] at hE
        omega
      · cases U with
        | nil =>
          have h3 : (hd R).kind = 3 := h3
          have hE : endO (sgOf (hd R)) := hE
          unfold endO sgOf at hE
          rw [if_neg (by omega)] at hE
          omega
        | cons u U =>
          have h3 : u.kind = 3 := h3
          cases is with
          | nil => simp at hU
          | cons i is =>
            have hI := ha i List.mem_cons_self
            have hU : (u :: U).map er = tks (pcI q i) ++ tks (is.flatMap (pcI q)) := by
              rw [hU, List.flatMap_cons]
              simp
            obtain ⟨U1, U2, e, h1, h2⟩ := er_app hU
            have : U1 ≠ [] := fun e => by
              subst e
              have := congrArg List.length h1
              have h5 : 1 ≤ (pcI q i).length := by
                unfold pcI
                split
                · simp
                · split <;> simp
              simp at this
              omega
            obtain ⟨v, V, rfl⟩ := List.exists_cons_of_ne_nil this
            have e : u = v := (List.cons.inj e).1
            subst e
            have h1 : er u :: V.map er = tks (pcI q i) := h1
            unfold pcI at h1
            obtain ⟨hI, _⟩ := hI
            rcases hI with ⟨hk, _⟩ | ⟨hk, _⟩ | ⟨hk, _⟩
            · rw [if_pos hk] at h1
              have := (List.cons.inj h1).1
              have := congrArg Tok.kind this
              have : u.kind = 1 := this
              omega
            · rw [if_neg (by omega), if_pos hk] at h1
              have := (List.cons.inj h1).1
              have := congrArg Tok.kind this
              have : u.kind = 2 := this
              omega
            · rw [if_neg (by omega), if_neg (by omega)] at h1
              have := (List.cons.inj h1).1
              have := congrArg Tok.kind this
              have : u.kind = 4 := this
              omega
      · have k4 : sgOf (hd (U ++ R)) = 40 := k4
        unfold sgOf at k4
        rw [if_neg (by omega)] at k4
        omega
    refine ⟨((hd (U ++ R)).at_, 0, is'), ?_, ?_⟩
    · unfold pAlt
      rw [show wtTl (U ++ R) = U ++ R from if_neg h3, k1, show wtOf (hd (U ++ R)) = 0 from if_neg h3]
    · show ((0, shW 0, is'.map (shI sh)) : Altn) = (0, shW w, is.map (shI sh))
      rw [k2, show shW w = w from if_pos hw, show shW 0 = 0 from if_pos rfl, hz w hw64 hw]
  · have hU : U.map er = ⟨3, 0, numP w, readF (numP w)⟩ :: tks (is.flatMap (pcI q)) := by
      rw [hU, if_neg hw]
      rfl
    obtain ⟨u, V, rfl, hu, hV⟩ := er_hd hU
    obtain ⟨_, e2, _, e4⟩ := sg_er hu
    have hlen : is.length ≤ V.length := by
      have := congrArg List.length hV
      simp only [List.length_map] at this
      rw [this]
      exact flat_len is
    obtain ⟨is', k1, k2, k3, k4⟩ := back_items hB hn is (V ++ R).length V R (by rw [List.length_append]; omega) ha hV hE
    have h3 : (hd (u :: V ++ R)).kind = 3 := e2
    have h4 : (hd (u :: V ++ R)).wt = readF (numP w) := e4
    refine ⟨((hd (u :: V ++ R)).at_, readF (numP w), is'), ?_, ?_⟩
    · unfold pAlt
      rw [show wtTl (u :: V ++ R) = V ++ R from if_pos h3, k1, show wtOf (hd (u :: V ++ R)) = readF (numP w) from (if_pos h3).trans h4]
    · show ((0, shW (readF (numP w)), is'.map (shI sh)) : Altn) = (0, shW w, is.map (shI sh))
      rw [k2, show shW w = readF (numP w) from if_neg hw, show shW (readF (numP w)) = readF (numP (readF (numP w))) from if_neg (num_facts' w).2.2.1, num_again]
theorem back_more (hB : Back sub P q sh) (hn : sh [] = []) : ∀ (zs : List Altn) (f : Nat) (U R : List Tok), zs.length < f → R ≠ [] → (∀ a ∈ zs, a.2.1 < 18446744073709551616 ∧ ∀ i ∈ a.2.2, okI P i) → U.map er = tks (zs.flatMap (fun a => ([32], sgT 124) :: pcB q a)) → (sg R = 41 ∨ sg R = 59) → ∃ zs', pMore sub f (U ++ R) = .ok (zs', R) ∧ zs'.map (shB sh) = zs.map (shB sh) ∧ endO (sg (U ++ R))
  | [], 0, _, _, h, _, _, _, _ => by simp at h
  | [], f + 1, U, R, _, _, _, hU, hR => by
    have : U = [] := by simpa using hU
    subst this
    refine ⟨[], ?_, rfl, hR.elim (fun h => .inr (.inl h)) (fun h => .inr (.inr h))⟩
    rw [List.nil_append]
    unfold pMore
    rw [if_neg (by omega)]
  | _ :: _, 0, _, _, h, _, _, _, _ => by simp at h
  | a :: zs, f + 1, U, R, hf, hr, ha, hU, hR => by
    have hU : U.map er = sgT 124 :: (tks (pcB q a) ++ tks (zs.flatMap (fun a => ([32], sgT 124) :: pcB q a))) := by
      rw [hU, List.flatMap_cons]
      simp
    obtain ⟨u, V, rfl, hu, hV⟩ := er_hd hU
    obtain ⟨U1, U2, rfl, h1, h2⟩ := er_app hV
    obtain ⟨zs', k1, k2, k3⟩ := back_more hB hn zs f U2 R (by simpa using hf) hr (fun b hb => ha b (List.mem_cons_of_mem _ hb)) h2 hR
    obtain ⟨a', m1, m2⟩ := back_alt hB hn a (ha a List.mem_cons_self) U1 (U2 ++ R) (by simp [hr]) h1 k3
    have e1 : sg (u :: (U1 ++ U2) ++ R) = 124 := (sg_er hu).1
    refine ⟨a' :: zs', ?_, by simp [m2, k2], .inl e1⟩
    unfold pMore
    rw [if_pos e1, show (u :: (U1 ++ U2) ++ R).tail = U1 ++ (U2 ++ R) by simp, m1]
    simp only
    rw [k1]
theorem more_len (zs : List Altn) : zs.length ≤ (zs.flatMap (fun a => (([32], sgT 124) : Pc) :: pcB q a)).length := by
  induction zs with
  | nil => simp
  | cons a zs ih => rw [List.flatMap_cons, List.length_append, List.length_cons, List.length_cons]; omega
theorem back_alts (hB : Back sub P q sh) (hn : sh [] = []) (bs : List Altn) (h0 : bs ≠ []) (U R : List Tok) (hr : R ≠ []) (ha : ∀ a ∈ bs, a.2.1 < 18446744073709551616 ∧ ∀ i ∈ a.2.2, okI P i) (hU : U.map er = tks (pcL q bs)) (hR : sg R = 41 ∨ sg R = 59) : ∃ bs', pAlts sub (U ++ R) = .ok (bs', R) ∧ bs'.map (shB sh) = bs.map (shB sh) := by
  obtain ⟨a, zs, rfl⟩ := List.exists_cons_of_ne_nil h0
  have hU : U.map er = tks (pcB q a) ++ tks (zs.flatMap (fun a => ([32], sgT 124) :: pcB q a)) := by
    rw [hU]
    simp [pcL]
  obtain ⟨U1, U2, rfl, h1, h2⟩ := er_app hU
  have hlen : zs.length ≤ U2.length := by
    have := congrArg List.length h2
    simp only [List.length_map] at this
    rw [this]
    exact more_len zs
  have : 1 ≤ R.length := List.length_pos_iff.2 hr
  obtain ⟨zs', k1, k2, k3⟩ := back_more hB hn zs (U2 ++ R).length U2 R (by rw [List.length_append]; omega) hr (fun b hb => ha b (List.mem_cons_of_mem _ hb)) h2 hR
  obtain ⟨a', m1, m2⟩ := back_alt hB hn a (ha a List.mem_cons_self) U1 (U2 ++ R) (by simp [hr]) h1 k3
  refine ⟨a' :: zs', ?_, by simp [m2, k2]⟩
  unfold pAlts
  rw [List.append_assoc, m1]
  simp only
  rw [k1]
end
theorem shA_nil : ∀ k, shA k [] = []
  | 0 => rfl
  | _ + 1 => rfl
theorem back_sub : ∀ k, Back (pSub k) (okA k) (pcA k) (shA k)
  | 0 => fun _ _ _ h _ => h.elim
  | k + 1 => fun bs U R h hU => by
    obtain ⟨u, V, rfl, hu, hV⟩ := er_hd hU
    obtain ⟨U1, U2, rfl, h1, h2⟩ := er_app hV
    obtain ⟨c, U3, rfl, hc, h3⟩ := er_hd h2
    have : U3 = [] := by simpa using h3
    subst this
    have hs : sg (c :: R) = 41 := (sg_er hc).1
    obtain ⟨bs', k1, k2⟩ := back_alts (back_sub k) (shA_nil k) bs h.1 U1 (c :: R) (by simp) (fun a ha => h.2 a ha) h1 (.inl hs)
    refine ⟨bs', ?_, k2⟩
    show pShut 41 (pA k (u :: (U1 ++ [c]) ++ R).tail) = _
    rw [show (u :: (U1 ++ [c]) ++ R).tail = U1 ++ (c :: R) by simp, pA_sub, k1]
    show (if sg (c :: R) = 41 then .ok (bs', (c :: R).tail) else .error (5, (hd (c :: R)).at_)) = (_ : Res (List Altn))
    rw [if_pos hs]
    rfl
theorem back_def (d : Dfn) (h : okD d) (b : List UInt8) (U R : List Tok) (hU : U.map er = tks (pcD b d)) : ∃ d', pDef (U ++ R) = .ok (d', R) ∧ d'.2.1 = d.2.1 ∧ shA 17 d'.2.2 = shA 17 d.2.2 := by
  have hU : U.map er = ⟨1, 0, d.2.1, 0⟩ :: sgT 61 :: (tks (pcA 17 d.2.2) ++ [sgT 59]) := by
    rw [hU]
    simp [pcD]
  obtain ⟨u, V, rfl, hu, hV⟩ := er_hd hU
  obtain ⟨e, W, rfl, he, hW⟩ := er_hd hV
  obtain ⟨U1, U2, rfl, h1, h2⟩ := er_app hW
  obtain ⟨c, U3, rfl, hc, h3⟩ := er_hd h2
  have : U3 = [] := by simpa using h3
  subst this
  have hs : sg (c :: R) = 59 := (sg_er hc).1
  obtain ⟨bs', k1, k2⟩ := back_alts (back_sub 16) (shA_nil 16) d.2.2 h.2.1 U1 (c :: R) (by simp) (fun a ha => h.2.2 a ha) h1 (.inr hs)
  obtain ⟨_, e2, e3, _⟩ := sg_er hu
  refine ⟨(u.at_, u.text, bs'), ?_, e3, k2⟩
  unfold pDef
  have x1 : (hd (u :: e :: (U1 ++ [c]) ++ R)).kind = 1 := e2
  have x2 : sg (u :: e :: (U1 ++ [c]) ++ R).tail = 61 := (sg_er he).1
  rw [if_pos x1, if_pos x2, show (u :: e :: (U1 ++ [c]) ++ R).tail.tail = U1 ++ (c :: R) by simp, pA_sub, k1]
  show (match (if sg (c :: R) = 59 then .ok (bs', (c :: R).tail) else .error (5, (hd (c :: R)).at_) : Res (List Altn)) with
    | .error e => .error e
    | .ok (bs, r) => .ok ((u.at_, u.text, bs), r)) = (_ : Res Dfn)
  rw [if_pos hs]
  rfl
theorem back_text {E : Tok} (hE : E.kind = 0) : ∀ (ds : List Dfn) (d : Dfn) (b : List UInt8) (f : Nat) (U : List Tok), ds.length < f → (∀ e ∈ d :: ds, okD e) → U.map er = tks (pcD b d) ++ tks (ds.flatMap (pcD [10])) → ∃ ds', pText f (U ++ [E]) = .ok ds' ∧ ds'.length = ds.length + 1 ∧ ∀ (k : Nat) (x y : Dfn), (d :: ds)[k]? = some x → ds'[k]? = some y → y.2.1 = x.2.1 ∧ shA 17 y.2.2 = shA 17 x.2.2
  | [], d, b, 0, _, h, _, _ => by simp at h
  | [], d, b, f + 1, U, _, hd', hU => by
    obtain ⟨d', k1, k2, k3⟩ := back_def d (hd' d List.mem_cons_self) b U [E] (by simpa using hU)
    refine ⟨[d'], ?_, rfl, fun k x y h1 h2 => ?_⟩
    · have hE' : (hd [E]).kind = 0 := hE
      unfold pText
      rw [k1]
      simp only
      rw [if_pos hE']
    · cases k with
      | zero => cases h1; cases h2; exact ⟨k2, k3⟩
      | succ k => simp at h1
  | _ :: _, d, b, 0, _, h, _, _ => by simp at h
  | e :: ds, d, b, f + 1, U, hf, hd', hU => by
    obtain ⟨U1, U2, rfl, h1, h2⟩ := er_app hU
    have h2 : U2.map er = tks (pcD [10] e) ++ tks (ds.flatMap (pcD [10])) := by
      rw [h2, List.flatMap_cons]
      simp
    obtain ⟨ds', m1, m2, m3⟩ := back_text hE ds e [10] f U2 (by simpa using hf) (fun x hx => hd' x (List.mem_cons_of_mem _ hx)) h2
    obtain ⟨d', k1, k2, k3⟩ := back_def d (hd' d List.mem_cons_self) b U1 (U2 ++ [E]) h1
    have hk : (hd (U2 ++ [E])).kind ≠ 0 := by
      obtain ⟨u, V, rfl, hu, _⟩ := er_hd (show U2.map er = ⟨1, 0, e.2.1, 0⟩ :: (tks (pcD [10] e).tail ++ tks (ds.flatMap (pcD [10]))) from h2)
      have : (hd (u :: V ++ [E])).kind = 1 := (sg_er hu).2.1
      omega
    refine ⟨d' :: ds', ?_, by simp [m2], fun k x y h1 h2 => ?_⟩
    · unfold pText
      rw [List.append_assoc, k1]
      simp only
      rw [if_neg hk, m1]
    · cases k with
      | zero => cases h1; cases h2; exact ⟨k2, k3⟩
      | succ k => exact m3 k x y h1 h2
/-! what is read is so -/
def gT (t : Tok) : Prop := (t.kind = 1 → isNameB t.text = true) ∧ (t.kind = 2 → isQuoteB t.text = true) ∧ t.wt < 18446744073709551616
theorem gT0 (a : Nat) : gT ⟨0, a, [], 0⟩ := ⟨fun h => (by cases h), fun h => (by cases h), (by show 0 < _; decide)⟩
theorem opTl_suf (ts : List Tok) : opTl ts <:+ ts := by
  unfold opTl
  split
  · exact List.tail_suffix ts
  · exact List.suffix_refl ts
theorem wtTl_suf (ts : List Tok) : wtTl ts <:+ ts := by
  unfold wtTl
  split
  · exact List.tail_suffix ts
  · exact List.suffix_refl ts
theorem opOf_ok (ts : List Tok) : opOf ts = 0 ∨ isOp (opOf ts) = true := by
  unfold opOf
  split
  · rename_i h; exact .inr h
  · exact .inl rfl
theorem gT_hd {ts : List Tok} (h : ∀ t ∈ ts, gT t) : gT (hd ts) := by
  cases ts with
  | nil => exact gT0 0
  | cons t r => exact h t List.mem_cons_self
def pcX (sub : List Altn → List Pc) (i : Itm) : List Pc := if i.kind = 0 then [([32], ⟨1, 0, i.text, 0⟩)] else if i.kind = 1 then [([32], ⟨2, 0, i.text, 0⟩)] else ([32], sgT 40) :: (sub i.alts ++ [([32], sgT 41)])
theorem cnt_op (sub : List Altn → List Pc) (a k : Nat) (x : List UInt8) (bs : List Altn) (r : List Tok) : (pcI sub (.mk a k x bs (opOf r))).length + (opTl r).length ≤ (pcX sub (.mk a k x bs 0)).length + r.length := by
  have e : pcI sub (.mk a k x bs (opOf r)) = pcX sub (.mk a k x bs 0) ++ (if opOf r = 0 then [] else [([], sgT (opOf r).toUInt8)]) := rfl
  rw [e, List.length_append]
  unfold opOf opTl
  by_cases h : isOp (sg r) = true
  · rw [if_pos h, if_pos h, List.length_tail]
    have : 1 ≤ r.length := by
      cases r with
      | nil => exact absurd h (by decide)
      | cons t r => simp
    split
    · simp only [List.length_nil]; omega
    · simp only [List.length_cons, List.length_nil]; omega
  · rw [if_neg h, if_neg h]
    simp
section
variable {k : Nat} {sub : List Tok → Res (List Altn)} (hs : ∀ ts bs r, (∀ t ∈ ts, gT t) → sub ts = .ok (bs, r) → okA k bs ∧ r <:+ ts ∧ (pcA k bs).length + 2 + r.length ≤ ts.length)
include hs
theorem wf_item {ts r : List Tok} {i : Itm} (hg : ∀ t ∈ ts, gT t) (ha : atIt (hd ts) = true) (h : pItem sub ts = .ok (i, r)) : okI (okA k) i ∧ r <:+ ts ∧ (pcI (pcA k) i).length + r.length ≤ ts.length := by
  have hh := gT_hd hg
  have h0 : 1 ≤ ts.length := by
    cases ts with
    | nil => simp [hd, atIt, sgOf] at ha
    | cons t r => simp
  unfold pItem at h
  split at h
  · rename_i hk
    cases h
    exact ⟨⟨.inl ⟨rfl, hh.1 hk, rfl⟩, opOf_ok _⟩, (opTl_suf _).trans (List.tail_suffix ts), by have := cnt_op (pcA k) (hd ts).at_ 0 (hd ts).text [] ts.tail; have e : (pcX (pcA k) (.mk (hd ts).at_ 0 (hd ts).text [] 0)).length = 1 := rfl; rw [List.length_tail] at this; omega⟩
  · split at h
    · rename_i hk
      cases h
      exact ⟨⟨.inr (.inl ⟨rfl, hh.2.1 hk, rfl⟩), opOf_ok _⟩, (opTl_suf _).trans (List.tail_suffix ts), by have := cnt_op (pcA k) (hd ts).at_ 1 (hd ts).text [] ts.tail; have e : (pcX (pcA k) (.mk (hd ts).at_ 1 (hd ts).text [] 0)).length = 1 := rfl; rw [List.length_tail] at this; omega⟩
    · split at h
      · cases h
      · rename_i bs r' e
        cases h
        obtain ⟨h1, h2, h3⟩ := hs _ _ _ hg e
        exact ⟨⟨.inr (.inr ⟨rfl, rfl, h1⟩), opOf_ok _⟩, (opTl_suf _).trans h2, by have := cnt_op (pcA k) (hd ts).at_ 2 [] bs r'; have e : (pcX (pcA k) (.mk (hd ts).at_ 2 [] bs 0)).length = (pcA k bs).length + 2 := (by simp [pcX, Itm.kind, Itm.alts]); omega⟩
theorem wf_items : ∀ (f : Nat) (ts r : List Tok) (is : List Itm), (∀ t ∈ ts, gT t) → pItems sub f ts = .ok (is, r) → (∀ i ∈ is, okI (okA k) i) ∧ r <:+ ts ∧ (is.flatMap (pcI (pcA k))).length + r.length ≤ ts.length := by
  intro f
  induction f with
  | zero => intro ts r is _ h; cases h
  | succ f ih =>
    intro ts r is hg h
    unfold pItems at h
    split at h
    · rename_i ha
      split at h
      · cases h
      · rename_i i r1 e1
        split at h
        · cases h
        · rename_i is' r2 e2
          cases h
          obtain ⟨h1, h2, h5⟩ := wf_item hs hg ha e1
          obtain ⟨h3, h4, h6⟩ := ih _ _ _ (fun t ht => hg t (h2.subset ht)) e2
          exact ⟨fun j hj => (List.mem_cons.1 hj).elim (fun e => by rw [e]; exact h1) (h3 j), h4.trans h2, by rw [List.flatMap_cons, List.length_append]; omega⟩
    · cases h
      exact ⟨fun j hj => (by cases hj), List.suffix_refl _, by simp⟩
theorem wf_alt {ts r : List Tok} {a : Altn} (hg : ∀ t ∈ ts, gT t) (h : pAlt sub ts = .ok (a, r)) : (a.2.1 < 18446744073709551616 ∧ ∀ i ∈ a.2.2, okI (okA k) i) ∧ r <:+ ts ∧ (pcB (pcA k) a).length + r.length ≤ ts.length := by
  unfold pAlt at h
  split at h
  · cases h
  · rename_i is r' e
    cases h
    obtain ⟨h1, h2, h3⟩ := wf_items hs _ _ _ _ (fun t ht => hg t ((wtTl_suf ts).subset ht)) e
    refine ⟨⟨?_, h1⟩, h2.trans (wtTl_suf ts), ?_⟩
    · show wtOf (hd ts) < _
      unfold wtOf
      split
      · exact (gT_hd hg).2.2
      · decide
    · show (pcW (wtOf (hd ts)) ++ is.flatMap (pcI (pcA k))).length + r.length ≤ ts.length
      rw [List.length_append]
      unfold wtTl at h3
      unfold wtOf
      by_cases hk : (hd ts).kind = 3
      · rw [if_pos hk] at h3 ⊢
        rw [List.length_tail] at h3
        have : 1 ≤ ts.length := by
          cases ts with
          | nil => cases hk
          | cons t r => simp
        have : (pcW (hd ts).wt).length ≤ 1 := by unfold pcW; split <;> simp
        omega
      · rw [if_neg hk] at h3 ⊢
        have : (pcW 0).length = 0 := by unfold pcW; rw [if_pos rfl]; rfl
        omega
theorem wf_more : ∀ (f : Nat) (ts r : List Tok) (bs : List Altn), (∀ t ∈ ts, gT t) → pMore sub f ts = .ok (bs, r) → (∀ a ∈ bs, a.2.1 < 18446744073709551616 ∧ ∀ i ∈ a.2.2, okI (okA k) i) ∧ r <:+ ts ∧ (bs.flatMap (fun a => (([32], sgT 124) : Pc) :: pcB (pcA k) a)).length + r.length ≤ ts.length := by
  intro f
  induction f with
  | zero => intro ts r bs _ h; cases h
  | succ f ih =>
    intro ts r bs hg h
    unfold pMore at h
    split at h
    · rename_i hk
      have h0 : 1 ≤ ts.length := by
        cases ts with
        | nil => exact absurd hk (by decide)
        | cons t r => simp
      split at h
      · cases h
      · rename_i a r1 e1
        split at h
        · cases h
        · rename_i bs' r2 e2
          cases h
          obtain ⟨h1, h2, h5⟩ := wf_alt hs (fun t ht => hg t (List.mem_of_mem_tail ht)) e1
          have h2' := h2.trans (List.tail_suffix ts)
          obtain ⟨h3, h4, h6⟩ := ih _ _ _ (fun t ht => hg t (h2'.subset ht)) e2
          exact ⟨fun b hb => (List.mem_cons.1 hb).elim (fun e => by rw [e]; exact h1) (h3 b), h4.trans h2', by rw [List.length_tail] at h5; rw [List.flatMap_cons, List.length_append, List.length_cons]; omega⟩
    · cases h
      exact ⟨fun b hb => (by cases hb), List.suffix_refl _, by simp⟩
theorem wf_alts {ts r : List Tok} {bs : List Altn} (hg : ∀ t ∈ ts, gT t) (h : pAlts sub ts = .ok (bs, r)) : okA (k + 1) bs ∧ r <:+ ts ∧ (pcA (k + 1) bs).length + r.length ≤ ts.length := by
  unfold pAlts at h
  split at h
  · cases h
  · rename_i a r1 e1
    split at h
    · cases h
    · rename_i bs' r2 e2
      cases h
      obtain ⟨h1, h2, h5⟩ := wf_alt hs hg e1
      obtain ⟨h3, h4, h6⟩ := wf_more hs _ _ _ _ (fun t ht => hg t (h2.subset ht)) e2
      exact ⟨⟨by simp, fun b hb => (List.mem_cons.1 hb).elim (fun e => by rw [e]; exact h1) (h3 b)⟩, h4.trans h2, by show (pcB (pcA k) a ++ _).length + _ ≤ _; rw [List.length_append]; omega⟩
end
theorem wf_sub : ∀ (k : Nat) (ts : List Tok) (bs : List Altn) (r : List Tok), (∀ t ∈ ts, gT t) → pSub k ts = .ok (bs, r) → okA k bs ∧ r <:+ ts ∧ (pcA k bs).length + 2 + r.length ≤ ts.length
  | 0 => fun ts bs r _ h => by cases h
  | k + 1 => fun ts bs r hg h => by
    have h : pShut 41 (pA k ts.tail) = .ok (bs, r) := h
    rw [pA_sub] at h
    cases e : pAlts (pSub k) ts.tail with
    | error q =>
      rw [e] at h
      cases h
    | ok x =>
      obtain ⟨bs', r'⟩ := x
      rw [e] at h
      have h : (if sg r' = 41 then .ok (bs', r'.tail) else .error (5, (hd r').at_) : Res (List Altn)) = .ok (bs, r) := h
      split at h
      · rename_i hk
        cases h
        obtain ⟨h1, h2, h3⟩ := wf_alts (wf_sub k) (fun t ht => hg t (List.mem_of_mem_tail ht)) e
        have h4 : 1 ≤ r'.length := by
          cases r' with
          | nil => exact absurd hk (by show ¬ sg [] = 41; decide)
          | cons t r => simp
        have h5 : 1 ≤ ts.length := by
          cases ts with
          | nil => have := h2.length_le; simp at this; simp [this] at h4
          | cons t r => simp
        exact ⟨h1, (List.tail_suffix _).trans (h2.trans (List.tail_suffix ts)), by rw [List.length_tail] at h3 ⊢; omega⟩
      · cases h
theorem wf_def {ts r : List Tok} {d : Dfn} (hg : ∀ t ∈ ts, gT t) (h : pDef ts = .ok (d, r)) : okD d ∧ r <:+ ts ∧ ∀ b, (pcD b d).length + r.length ≤ ts.length := by
  unfold pDef at h
  split at h
  · rename_i hk
    split at h
    · rename_i hk2
      split at h
      · cases h
      · rename_i bs r' e
        cases h
        rw [pA_sub] at e
        have ht : ts.tail.tail <:+ ts := (List.tail_suffix _).trans (List.tail_suffix ts)
        cases e2 : pAlts (pSub 16) ts.tail.tail with
        | error q =>
          rw [e2] at e
          cases e
        | ok x =>
          obtain ⟨bs', r2⟩ := x
          rw [e2] at e
          have e : (if sg r2 = 59 then .ok (bs', r2.tail) else .error (5, (hd r2).at_) : Res (List Altn)) = .ok (bs, r) := e
          split at e
          · rename_i hk3
            cases e
            obtain ⟨h1, h2, h3⟩ := wf_alts (wf_sub 16) (fun t h => hg t (ht.subset h)) e2
            have h4 : 1 ≤ r2.length := by
              cases r2 with
              | nil => exact absurd hk3 (by decide)
              | cons t r => simp
            have h5 : 2 ≤ ts.length := by
              cases ts with
              | nil => cases hk
              | cons t r =>
                cases r with
                | nil => exact absurd hk2 (by show ¬ sg [] = 61; decide)
                | cons t r => simp
            exact ⟨⟨(gT_hd hg).1 hk, h1⟩, (List.tail_suffix _).trans (h2.trans ht), fun b => by show (_ :: _ :: (pcA 17 bs ++ _)).length + _ ≤ _; rw [List.length_cons, List.length_cons, List.length_append, List.length_tail]; rw [List.length_tail, List.length_tail] at h3; have h3 : (pcA 17 bs).length + r2.length ≤ ts.length - 1 - 1 := h3; simp only [List.length_cons, List.length_nil]; omega⟩
          · cases e
    · cases h
  · cases h
theorem wf_text : ∀ (f : Nat) (ts : List Tok) (ds : List Dfn), (∀ t ∈ ts, gT t) → pText f ts = .ok ds → ds ≠ [] ∧ (∀ d ∈ ds, okD d) ∧ (ds.flatMap (pcD [10])).length ≤ ts.length := by
  intro f
  induction f with
  | zero => intro ts ds _ h; cases h
  | succ f ih =>
    intro ts ds hg h
    unfold pText at h
    split at h
    · cases h
    · rename_i d r e
      obtain ⟨h1, h2, h4⟩ := wf_def hg e
      have h4 := h4 [10]
      split at h
      · cases h
        exact ⟨by simp, fun e he => (by rw [List.mem_singleton.1 he]; exact h1), by simp; omega⟩
      · split at h
        · cases h
        · rename_i ds' e2
          cases h
          obtain ⟨_, h3, h5⟩ := ih _ _ (fun t ht => hg t (h2.subset ht)) e2
          exact ⟨by simp, fun e he => (List.mem_cons.1 he).elim (fun e => by rw [e]; exact h1) (h3 e), by rw [List.flatMap_cons, List.length_append]; omega⟩
theorem take_all_ (p : UInt8 → Bool) (l : List UInt8) : (l.take (runP p l)).all p = true := by
  unfold runP
  induction l with
  | nil => rfl
  | cons c l ih =>
    by_cases h : p c = true
    · rw [List.takeWhile_cons_of_pos h]
      simp [h] at ih ⊢
      exact ih
    · rw [List.takeWhile_cons_of_neg h]
      rfl
theorem word_good {l : List UInt8} {k w n : Nat} {t : List UInt8} (h : wordAt l = .ok (k, t, w, n)) (a : Nat) : gT ⟨k, a, t, w⟩ := by
  cases l with
  | nil => cases h
  | cons c r =>
    rw [word_cons] at h
    split at h
    · rename_i hc
      split at h
      · rename_i hn
        cases h
        refine ⟨fun _ => ?_, fun h => (by cases h), by show 0 < _; decide⟩
        show isNameB ((c :: r).take (runP namB r + 1)) = true
        have hl := runP_le namB r
        unfold isNameB
        rw [List.take_succ_cons]
        simp only [List.length_cons, List.length_take, Bool.and_eq_true, decide_eq_true_eq, List.all_cons]
        exact ⟨⟨⟨by omega, by omega⟩, hc⟩, let_nam c hc, take_all_ namB r⟩
      · cases h
    · split at h
      · split at h
        · cases h
        · rename_i h0
          split at h
          · rename_i hn
            cases h
            refine ⟨fun h => (by cases h), fun _ => ?_, by show 0 < _; decide⟩
            show isQuoteB (r.take (runP quoB r)) = true
            have hl := runP_le quoB r
            unfold isQuoteB
            simp only [List.length_take, Bool.and_eq_true, decide_eq_true_eq]
            exact ⟨⟨by have : runP quoB r ≠ 0 := fun e => h0 (.inl e); omega, by omega⟩, take_all_ quoB r⟩
          · cases h
      · split at h
        · split at h
          · rename_i hr
            cases h
            exact ⟨fun h => (by cases h), fun h => (by cases h), readF_lt _⟩
          · cases h
        · split at h
          · cases h
            exact ⟨fun h => (by cases h), fun h => (by cases h), by show 0 < _; decide⟩
          · cases h
theorem lex_gT (s : List UInt8) : ∀ (m k : Nat), s.length - k < m → k ≤ s.length → ∀ ts, lexA s k = (ts, none) → ∀ t ∈ ts, gT t
  | 0, k, h, _, _, _ => by omega
  | m + 1, k, h, hk, ts, hts => by
    by_cases hlt : k < s.length
    · cases hx : wordAt (s.drop k) with
      | error e =>
        rw [lexA_error _ _ e hlt hx] at hts
        cases hts
      | ok x =>
        obtain ⟨kd, t, w, n⟩ := x
        have hn := word_n hx
        rw [List.length_drop] at hn
        have hg := nxt_ge s (k + n + 1)
        have hle := nxt_le s (k + n + 1) (by omega)
        rw [lexA_ok _ _ kd w n t hlt hx] at hts
        rcases hy : lexA s (nxt s (k + n + 1)) with ⟨us, f⟩
        rw [hy] at hts
        obtain rfl : f = none := congrArg Prod.snd hts
        obtain rfl : ⟨kd, k, t, w⟩ :: us = ts := congrArg Prod.fst hts
        have ih := lex_gT s m _ (by omega) hle _ hy
        intro u hu
        exact (List.mem_cons.1 hu).elim (fun e => by rw [e]; exact word_good hx k) (ih u)
    · rw [lexA, dif_neg hlt] at hts
      obtain rfl : _ = ts := congrArg Prod.fst hts
      intro u hu
      rw [List.mem_singleton.1 hu]
      exact gT0 _
/-! how long it is -/
theorem full_len {p : Pc} (h : okT p.2) (hb : p.1.length ≤ 1) (hw : p.2.kind = 3 → p.2.text.length ≤ 4) : (p.1 ++ fullT p.2).length ≤ 27 := by
  obtain ⟨b, k, a, x, w⟩ := p
  have hb : b.length ≤ 1 := hb
  rw [List.length_append]
  show b.length + _ ≤ 27
  rcases h with ⟨hk, hx, _⟩ | ⟨hk, hx, _⟩ | ⟨hk, _⟩ | ⟨hk, _, c, hc, _⟩
  · have hk : k = 1 := hk
    have hx : isNameB x = true := hx
    subst hk
    unfold isNameB at hx
    simp only [Bool.and_eq_true, decide_eq_true_eq] at hx
    show b.length + x.length ≤ 27
    omega
  · have hk : k = 2 := hk
    have hx : isQuoteB x = true := hx
    subst hk
    unfold isQuoteB at hx
    simp only [Bool.and_eq_true, decide_eq_true_eq] at hx
    show b.length + (39 :: (x ++ [39])).length ≤ 27
    simp
    omega
  · have hk : k = 3 := hk
    subst hk
    have := hw rfl
    have this : x.length ≤ 4 := this
    show b.length + (37 :: x).length ≤ 27
    simp
    omega
  · have hk : k = 4 := hk
    have hc : x = [c] := hc
    subst hk hc
    show b.length + 1 ≤ 27
    omega
def shortP (p : Pc) : Prop := p.1.length ≤ 1 ∧ (p.2.kind = 3 → p.2.text.length ≤ 4)
theorem short_item (sub : List Altn → List Pc) (h : ∀ bs, ∀ p ∈ sub bs, shortP p) (i : Itm) : ∀ p ∈ pcI sub i, shortP p := by
  intro p hp
  unfold pcI at hp
  rcases List.mem_append.1 hp with hp | hp
  · split at hp
    · rw [List.mem_singleton.1 hp]; exact ⟨by simp, fun h => (by cases h)⟩
    · split at hp
      · rw [List.mem_singleton.1 hp]; exact ⟨by simp, fun h => (by cases h)⟩
      · rcases List.mem_cons.1 hp with rfl | hp
        · exact ⟨by simp, fun h => (by cases h)⟩
        · rcases List.mem_append.1 hp with hp | hp
          · exact h _ p hp
          · rw [List.mem_singleton.1 hp]; exact ⟨by simp, fun h => (by cases h)⟩
  · split at hp
    · cases hp
    · rw [List.mem_singleton.1 hp]; exact ⟨by simp, fun h => (by cases h)⟩
theorem short_alt (sub : List Altn → List Pc) (h : ∀ bs, ∀ p ∈ sub bs, shortP p) (a : Altn) : ∀ p ∈ pcB sub a, shortP p := by
  intro p hp
  rcases List.mem_append.1 hp with hp | hp
  · unfold pcW at hp
    split at hp
    · cases hp
    · rw [List.mem_singleton.1 hp]
      exact ⟨by simp, fun _ => (num_facts' a.2.1).2.2.2.1⟩
  · obtain ⟨i, _, hp⟩ := List.mem_flatMap.1 hp
    exact short_item sub h i p hp
theorem short_alts : ∀ (k : Nat) (bs : List Altn), ∀ p ∈ pcA k bs, shortP p
  | 0, _, p, hp => by cases hp
  | k + 1, bs, p, hp => by
    cases bs with
    | nil => cases hp
    | cons a zs =>
      rcases List.mem_append.1 hp with hp | hp
      · exact short_alt _ (short_alts k) a p hp
      · obtain ⟨c, _, hp⟩ := List.mem_flatMap.1 hp
        rcases List.mem_cons.1 hp with rfl | hp
        · exact ⟨by simp, fun h => (by cases h)⟩
        · exact short_alt _ (short_alts k) c p hp
theorem flat_max : ∀ (ps : List Pc), (∀ p ∈ ps, okT p.2 ∧ shortP p) → (flatP ps).length ≤ 27 * ps.length
  | [], _ => by simp [flatP]
  | p :: ps, h => by
    have h1 := flat_max ps (fun q hq => h q (List.mem_cons_of_mem _ hq))
    obtain ⟨h2, h3, h4⟩ := h p List.mem_cons_self
    have h5 := full_len h2 h3 h4
    show (p.1 ++ fullT p.2 ++ flatP ps).length ≤ _
    rw [List.length_append, List.length_cons]
    omega
theorem wrA_max (k : Nat) (bs : List Altn) (h : okA k bs) : (wrA k bs).length ≤ 27 * (pcA k bs).length := by
  rw [← flat_alts]
  exact flat_max _ (fun p hp => ⟨(ok_alts k bs h p hp).2.1, short_alts k bs p hp⟩)
theorem wrI_max (k : Nat) (i : Itm) (h : okI (okA k) i) : (wrI (wrA k) i).length ≤ 27 * (pcI (pcA k) i).length := by
  rw [← flat_item _ _ (flat_alts k)]
  exact flat_max _ (fun p hp => ⟨(ok_item _ _ (ok_alts k) i h p hp).2.1, short_item _ (short_alts k) i p hp⟩)
theorem wrT_max (ds : List Dfn) (h : ∀ d ∈ ds, okD d) : (wrT ds).length ≤ 28 * (ds.flatMap (pcD [10])).length := by
  induction ds with
  | nil => simp [wrT]
  | cons d ds ih =>
    have ih := ih (fun e he => h e (List.mem_cons_of_mem _ he))
    have hd := h d List.mem_cons_self
    have h1 := flat_max (pcD [] d) (fun p hp => by
      rcases List.mem_cons.1 hp with rfl | hp
      · exact ⟨.inl ⟨rfl, hd.1, rfl⟩, by simp, fun h => (by cases h)⟩
      · refine ⟨(ok_def [] rfl d hd p hp).2.1, ?_⟩
        have hp : p ∈ ([32], sgT 61) :: (pcA 17 d.2.2 ++ [([32], sgT 59)]) := hp
        rcases List.mem_cons.1 hp with rfl | hp
        · exact ⟨by simp, fun h => (by cases h)⟩
        · rcases List.mem_append.1 hp with hp | hp
          · exact short_alts _ _ p hp
          · rw [List.mem_singleton.1 hp]; exact ⟨by simp, fun h => (by cases h)⟩)
    have h2 := congrArg List.length (flat_def [] d)
    rw [List.length_append] at h2
    have h3 : (pcD [10] d).length = (pcD [] d).length := rfl
    have h4 : 1 ≤ (pcD [] d).length := by simp [pcD]
    show (wrD d ++ wrT ds).length ≤ _
    rw [List.length_append, List.flatMap_cons, List.length_append]
    simp at h2
    omega
theorem defs_len (ds : List Dfn) : ds.length ≤ (ds.flatMap (pcD [10])).length := by
  induction ds with
  | nil => simp
  | cons a zs ih =>
    rw [List.flatMap_cons, List.length_append]
    have : 1 ≤ (pcD [10] a).length := by simp [pcD]
    simp only [List.length_cons]
    omega
/-- definitions, written zs text again, are read zs the same -/
theorem read_back (s : List UInt8) (hs : s.length ≤ 600) (ds : List Dfn) (h : readAll s = (ds, 0, 0)) : ds ≠ [] ∧ (∀ d ∈ ds, okD d) ∧ (ds.flatMap (pcD [10])).length ≤ 601 ∧ (wrT ds).length ≤ 17000 ∧ ∃ ds', readAll (wrT ds) = (ds', 0, 0) ∧ ds'.length = ds.length ∧ ∀ (k : Nat) (x y : Dfn), ds[k]? = some x → ds'[k]? = some y → y.2.1 = x.2.1 ∧ shA 17 y.2.2 = shA 17 x.2.2 := by
  unfold readAll at h
  by_cases he : (lexAll s).2.1 = 0
  · rw [if_pos he] at h
    have hlex : ∃ ts, lexA s (nxt s 0) = (ts, none) ∧ (lexAll s).1 = ts := by
      unfold lexAll at he ⊢
      by_cases hb : 65536 < s.length
      · omega
      · rw [if_neg hb] at he ⊢
        rcases hA : lexA s (nxt s 0) with ⟨x, f⟩
        rw [hA] at he
        cases f with
        | none => exact ⟨x, rfl, rfl⟩
        | some f =>
          obtain ⟨e, k⟩ := f
          have := err_ge s hA
          have he : e = 0 := he
          omega
    obtain ⟨ts, hl, e1⟩ := hlex
    have hg := lex_gT s _ _ (Nat.lt_succ_self _) (nxt_le s 0 (Nat.zero_le _)) ts hl
    have hn := (ok_ge s hl).1
    rw [e1] at h
    cases hp : pText ts.length ts with
    | error q =>
      rw [hp] at h
      have := pos_text _ _ _ hp
      have h : ([], q) = (ds, 0, 0) := h
      cases h
      omega
    | ok ds2 =>
      rw [hp] at h
      have h : (ds2, 0, 0) = (ds, 0, 0) := h
      cases h
      obtain ⟨h0, hok, hc⟩ := wf_text _ _ _ hg hp
      have hm := wrT_max ds hok
      refine ⟨h0, hok, by omega, by omega, ?_⟩
      obtain ⟨d, rest, rfl⟩ := List.exists_cons_of_ne_nil h0
      obtain ⟨o1, o2⟩ := ok_text d rest hok
      obtain ⟨us, hu, hm2⟩ := lex_written (pcT (d :: rest)) [10] rfl (fun p hp => ⟨(o1 p hp).1, (o1 p hp).2.1⟩) o2 (by rw [flat_text]; omega)
      rw [flat_text] at hu
      have e5 : (pcT (d :: rest)).map (fun p => er p.2) = tks (pcT (d :: rest)) := List.map_congr_left (fun p hp => (o1 p hp).2.2)
      rw [e5] at hm2
      obtain ⟨U, V, rfl, hU, hV⟩ := er_app hm2
      obtain ⟨E, V2, rfl, hE, hV2⟩ := er_hd hV
      have : V2 = [] := by simpa using hV2
      subst this
      have hU : U.map er = tks (pcD [] d) ++ tks (rest.flatMap (pcD [10])) := by
        rw [hU]
        simp [pcT]
      have hlen : rest.length < (U ++ [E]).length := by
        have h1 := congrArg List.length hU
        have h2 := defs_len rest
        simp only [List.length_map, List.length_append, List.length_cons, List.length_nil] at h1 ⊢
        omega
      obtain ⟨ds', r1, r2, r3⟩ := back_text (sg_er hE).2.1 rest d [] (U ++ [E]).length U hlen hok hU
      refine ⟨ds', ?_, r2, r3⟩
      unfold readAll
      rw [hu]
      simp only [if_true]
      rw [r1]
  · rw [if_neg he] at h
    have h : ([], (lexAll s).2) = (ds, 0, 0) := h
    have := congrArg (fun z => z.2.1) h
    exact absurd this he
end Go.Proofs.YtldamieigigncaaGreatDoor.lx

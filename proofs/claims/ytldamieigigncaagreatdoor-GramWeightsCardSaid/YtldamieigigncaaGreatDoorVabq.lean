import Derived.Test.YtldamieigigncaaGreatDoorVabp
import Derived.Test.YtldamieigigncaaGreatDoorVabf
import Derived.BigQuiet
namespace Go.Proofs.YtldamieigigncaaGreatDoor.lx
open Go.ChangeShapes Go.WideShapes Go.ChangeAt Go.RowKit Go.Proofs.YtldamieigigncaaGreatDoor.ky
set_option linter.unusedVariables false
set_option linter.unusedSimpArgs false
/-! words that follow one another, with no blank behind a sign -/
theorem word_of2 {t : Tok} (h : okT t) (r : List UInt8) (hf : t.kind = 4 ∨ folO r) : wordAt (fullT t ++ r) = .ok (t.kind, t.text, t.wt, (fullT t).length - 1) ∧ 1 ≤ (fullT t).length ∧ ∃ c y, fullT t = c :: y ∧ skipS false c = (false, false) := by
  rcases hf with hk | hf
  · obtain ⟨k, a, x, w⟩ := t
    have hk : k = 4 := hk
    subst hk
    rcases h with ⟨hk, _⟩ | ⟨hk, _⟩ | ⟨hk, _⟩ | ⟨_, hw, c, hc, hs⟩
    · have hk : 4 = 1 := hk
      omega
    · have hk : 4 = 2 := hk
      omega
    · have hk : 4 = 3 := hk
      omega
    · have hw : w = 0 := hw
      have hc : x = [c] := hc
      subst hw hc
      have hfull : fullT ⟨4, a, [c], 0⟩ = [c] := rfl
      rw [hfull]
      obtain ⟨g1, g2, g3, g4, _, _⟩ := sgn_not c hs
      refine ⟨?_, by simp, c, [], rfl, g4⟩
      rw [List.cons_append, word_cons, g1, g2, g3, hs]
      rfl
  · exact word_of h r hf
theorem fol_one (q : Pc) (y : List UInt8) (h : q.1.all blkB = true ∧ okT q.2) (h2 : sepO q) : folO (q.1 ++ fullT q.2 ++ y) := by
  intro c hc
  obtain ⟨b, t⟩ := q
  obtain ⟨hb, ht⟩ := h
  cases b with
  | cons d b =>
    have hb : (d :: b).all blkB = true := hb
    rw [List.all_cons, Bool.and_eq_true] at hb
    obtain rfl : d = c := by simpa using hc
    exact ⟨(blk_fol d hb.1).1, (blk_fol d hb.1).2.1⟩
  | nil =>
    rcases h2 with h3 | h3
    · exact absurd rfl h3
    · have h3 : t.kind = 4 := h3
      rcases ht with ⟨hk, _⟩ | ⟨hk, _⟩ | ⟨hk, _⟩ | ⟨hk, hw, d, hd, hs⟩
      · have hk : t.kind = 1 := hk
        omega
      · have hk : t.kind = 2 := hk
        omega
      · have hk : t.kind = 3 := hk
        omega
      · have hd : t.text = [d] := hd
        have e : fullT t = [d] := by unfold fullT; rw [if_neg (by omega), if_neg (by omega), hd]
        obtain rfl : d = c := by simpa [e] using hc
        obtain ⟨_, _, _, _, g1, g2⟩ := sgn_not d hs
        exact ⟨g1, g2⟩
def chP : List Pc → Prop
  | [] => True
  | [_] => True
  | p :: q :: r => (p.2.kind = 4 ∨ sepO q) ∧ chP (q :: r)
theorem lex_flat2 : ∀ (ps : List Pc) (P : List UInt8), (∀ p ∈ ps, p.1.all blkB = true ∧ okT p.2) → chP ps → ∃ us, lexA (P ++ flatP ps) (nxt (P ++ flatP ps) P.length) = (us, none) ∧ us.map er = ps.map (fun p => er p.2) ++ [⟨0, 0, [], 0⟩]
  | [], P, _, _ => by
    have e : nxt (P ++ flatP []) P.length = (P ++ flatP []).length := by
      unfold nxt
      rw [List.drop_left]
      simp [flatP, runN]
    rw [e]
    exact ⟨_, lexA_end _, rfl⟩
  | (b, t) :: ps, P, h, hch => by
    obtain ⟨hb, ht⟩ := h (b, t) List.mem_cons_self
    have hb : b.all blkB = true := hb
    have ht : okT t := ht
    have hp : ∀ p ∈ ps, p.1.all blkB = true ∧ okT p.2 := fun p hp => h p (List.mem_cons_of_mem _ hp)
    have hf : t.kind = 4 ∨ folO (flatP ps) := by
      cases ps with
      | nil => exact .inr (fun c hc => by simp [flatP] at hc)
      | cons q r =>
        rcases hch.1 with h1 | h1
        · exact .inl h1
        · refine .inr ?_
          have := fol_one q (flatP r) (hp q List.mem_cons_self) h1
          have e : flatP (q :: r) = q.1 ++ fullT q.2 ++ flatP r := rfl
          rw [e]
          exact this
    have hc2 : chP ps := by
      cases ps with
      | nil => trivial
      | cons q r => exact hch.2
    obtain ⟨w1, w2, c, y, w3, w4⟩ := word_of2 ht (flatP ps) hf
    have es : P ++ flatP ((b, t) :: ps) = (P ++ b) ++ (fullT t ++ flatP ps) := by simp [flatP]
    have es2 : P ++ flatP ((b, t) :: ps) = (P ++ b ++ fullT t) ++ flatP ps := by simp [flatP]
    have en : nxt (P ++ flatP ((b, t) :: ps)) P.length = (P ++ b).length := by
      unfold nxt
      rw [List.drop_left]
      have e3 : flatP ((b, t) :: ps) = b ++ (c :: (y ++ flatP ps)) := by
        show b ++ fullT t ++ flatP ps = _
        rw [w3]
        simp
      rw [e3, runN_blank b _ hb, runN_stop c _ w4]
      simp
    obtain ⟨us, hu, hm⟩ := lex_flat2 ps (P ++ b ++ fullT t) hp hc2
    rw [en]
    have hlt : (P ++ b).length < (P ++ flatP ((b, t) :: ps)).length := by
      have := congrArg List.length es
      simp only [List.length_append] at this ⊢
      omega
    have hd : (P ++ flatP ((b, t) :: ps)).drop (P ++ b).length = fullT t ++ flatP ps := by rw [es, List.drop_left]
    rw [lexA_ok _ _ t.kind t.wt ((fullT t).length - 1) t.text hlt (by rw [hd]; exact w1)]
    have e4 : (P ++ b).length + ((fullT t).length - 1) + 1 = (P ++ b ++ fullT t).length := by
      simp only [List.length_append]
      omega
    rw [e4, es2, hu]
    exact ⟨_, rfl, by simp [hm, er]⟩
theorem lex_written2 (ps : List Pc) (h : ∀ p ∈ ps, p.1.all blkB = true ∧ okT p.2) (h2 : chP ps) (hl : (flatP ps).length ≤ 65536) : ∃ us, lexAll (flatP ps) = (us, 0, 0) ∧ us.map er = ps.map (fun p => er p.2) ++ [⟨0, 0, [], 0⟩] := by
  obtain ⟨us, h3, h4⟩ := lex_flat2 ps [] h h2
  refine ⟨us, ?_, h4⟩
  unfold lexAll
  rw [if_neg (by omega)]
  have h3 : lexA (flatP ps) (nxt (flatP ps) 0) = (us, none) := h3
  rw [h3]
theorem er_at {u t : Tok} (h : er u = t) : u = ⟨t.kind, u.at_, t.text, t.wt⟩ := by subst h; rfl
/-! a weight ahead of an alternative -/
theorem ok_wgt {l : List UInt8} (h : readOk l = true) : l.all wgtB = true := by
  have hd : ∀ c : UInt8, digB c = true → wgtB c = true := fun c hc => by unfold wgtB; rw [hc]; simp
  rcases ok_cases h with rfl | rfl | rfl | hx
  · decide
  · decide
  · decide
  · obtain ⟨h1, h2, _⟩ := dec_digB hx
    have e := cut_join (strip l)
    have hs : ∀ c ∈ strip l, wgtB c = true := fun c hc => by
      rw [e] at hc
      rcases List.mem_append.1 hc with hc | hc
      · exact hd c (h1 c hc)
      · split at hc
        · rcases List.mem_cons.1 hc with rfl | hc
          · decide
          · exact hd c (h2 c hc)
        · cases hc
    rw [List.all_eq_true]
    intro c hc
    unfold strip at hs
    split at hs
    · rename_i h45
      cases l with
      | nil => cases hc
      | cons d r =>
        obtain rfl : d = 45 := by simpa using h45
        rcases List.mem_cons.1 hc with rfl | hc
        · decide
        · exact hs c hc
    · exact hs c hc
def wtT (x : List UInt8) : List UInt8 := [115, 32, 61, 32, 37] ++ x ++ [32, 39, 97, 39, 32, 124, 32, 39, 98, 39, 32, 40, 37] ++ x ++ [32, 124, 32, 39, 99, 39, 41, 42, 32, 59]
def wtPs (x : List UInt8) : List Pc := [([], ⟨1, 0, [115], 0⟩), ([32], sgT 61), ([32], ⟨3, 0, x, readF x⟩), ([32], ⟨2, 0, [97], 0⟩), ([32], sgT 124), ([32], ⟨2, 0, [98], 0⟩), ([32], sgT 40), ([], ⟨3, 0, x, readF x⟩), ([32], sgT 124), ([32], ⟨2, 0, [99], 0⟩), ([], sgT 41), ([], sgT 42), ([32], sgT 59)]
theorem wt_flat (x : List UInt8) : flatP (wtPs x) = wtT x := by
  have e : ∀ (a : List UInt8) (t : Tok) (r : List Pc), flatP ((a, t) :: r) = a ++ fullT t ++ flatP r := fun a t r => rfl
  unfold wtPs wtT
  simp only [e, show flatP [] = [] from rfl, show fullT ⟨1, 0, [115], 0⟩ = [115] from rfl, show fullT (sgT 61) = [61] from rfl, show fullT ⟨3, 0, x, readF x⟩ = 37 :: x from rfl, show fullT ⟨2, 0, [97], 0⟩ = [39, 97, 39] from rfl, show fullT (sgT 124) = [124] from rfl, show fullT ⟨2, 0, [98], 0⟩ = [39, 98, 39] from rfl, show fullT (sgT 40) = [40] from rfl, show fullT ⟨2, 0, [99], 0⟩ = [39, 99, 39] from rfl, show fullT (sgT 41) = [41] from rfl, show fullT (sgT 42) = [42] from rfl, show fullT (sgT 59) = [59] from rfl]
  simp
theorem wt_ok (x : List UInt8) (h : readOk x = true) : ∀ p ∈ wtPs x, p.1.all blkB = true ∧ okT p.2 := by
  have hw : okT ⟨3, 0, x, readF x⟩ := .inr (.inr (.inl ⟨rfl, h, ok_wgt h, rfl⟩))
  have hs : ∀ c : UInt8, sgnB c = true → okT (sgT c) := fun c hc => .inr (.inr (.inr ⟨rfl, rfl, c, rfl, hc⟩))
  have hn : okT ⟨1, 0, [115], 0⟩ := .inl ⟨rfl, by decide, rfl⟩
  have ha : okT ⟨2, 0, [97], 0⟩ := .inr (.inl ⟨rfl, by decide, rfl⟩)
  have hb : okT ⟨2, 0, [98], 0⟩ := .inr (.inl ⟨rfl, by decide, rfl⟩)
  have hc : okT ⟨2, 0, [99], 0⟩ := .inr (.inl ⟨rfl, by decide, rfl⟩)
  intro p hp
  unfold wtPs at hp
  simp only [List.mem_cons, List.not_mem_nil, or_false] at hp
  rcases hp with rfl | rfl | rfl | rfl | rfl | rfl | rfl | rfl | rfl | rfl | rfl | rfl | rfl
  · exact ⟨by decide, hn⟩
  · exact ⟨by decide, hs 61 (by decide)⟩
  · exact ⟨rfl, hw⟩
  · exact ⟨by decide, ha⟩
  · exact ⟨by decide, hs 124 (by decide)⟩
  · exact ⟨by decide, hb⟩
  · exact ⟨by decide, hs 40 (by decide)⟩
  · exact ⟨rfl, hw⟩
  · exact ⟨by decide, hs 124 (by decide)⟩
  · exact ⟨by decide, hc⟩
  · exact ⟨by decide, hs 41 (by decide)⟩
  · exact ⟨by decide, hs 42 (by decide)⟩
  · exact ⟨by decide, hs 59 (by decide)⟩
theorem wt_ch (x : List UInt8) : chP (wtPs x) := by
  unfold wtPs
  refine ⟨.inr (.inl (by simp)), .inr (.inl (by simp)), .inr (.inl (by simp)), .inr (.inl (by simp)), .inr (.inl (by simp)), .inr (.inl (by simp)), .inl rfl, .inr (.inl (by simp)), .inr (.inl (by simp)), .inr (.inr rfl), .inr (.inr rfl), .inr (.inl (by simp)), trivial⟩
def wtG (F : Nat) : Gra := ⟨[[97], [98], [99]], [[115], [103, 49], [103, 50]], [(0, [-1], F), (0, [-2, 1], 0), (1, [2, 1], 0), (1, [], 0), (2, [], F), (2, [-3], 0)]⟩
theorem wt_srt : srt [[97], [98], [99]] = [[97], [98], [99]] := by
  rw [show ([[97], [98], [99]] : List (List UInt8)) = (([] ++ [[97]]) ++ [[98]]) ++ [[99]] from rfl, srt_snoc, srt_snoc, srt_snoc, srt_nil]
  kernel_rfl
theorem wt_load (x : List UInt8) (h : readOk x = true) (hl : x.length ≤ 20) : loadAll (wtT x) = (wtG (readF x), 0, 0) := by
  obtain ⟨us, h1, h2⟩ := lex_written2 (wtPs x) (wt_ok x h) (wt_ch x) (by rw [wt_flat]; unfold wtT; simp; omega)
  rw [wt_flat] at h1
  obtain ⟨F, hF⟩ : ∃ F, readF x = F := ⟨_, rfl⟩
  have h2 : us.map er = er ⟨1, 0, [115], 0⟩ :: er (sgT 61) :: er ⟨3, 0, x, readF x⟩ :: er ⟨2, 0, [97], 0⟩ :: er (sgT 124) :: er ⟨2, 0, [98], 0⟩ :: er (sgT 40) :: er ⟨3, 0, x, readF x⟩ :: er (sgT 124) :: er ⟨2, 0, [99], 0⟩ :: er (sgT 41) :: er (sgT 42) :: er (sgT 59) :: [⟨0, 0, [], 0⟩] := h2
  rw [hF] at h2 ⊢
  obtain ⟨u0, U, rfl, e0, h2⟩ := er_hd h2
  obtain ⟨u1, U, rfl, e1, h2⟩ := er_hd h2
  obtain ⟨u2, U, rfl, e2, h2⟩ := er_hd h2
  obtain ⟨u3, U, rfl, e3, h2⟩ := er_hd h2
  obtain ⟨u4, U, rfl, e4, h2⟩ := er_hd h2
  obtain ⟨u5, U, rfl, e5, h2⟩ := er_hd h2
  obtain ⟨u6, U, rfl, e6, h2⟩ := er_hd h2
  obtain ⟨u7, U, rfl, e7, h2⟩ := er_hd h2
  obtain ⟨u8, U, rfl, e8, h2⟩ := er_hd h2
  obtain ⟨u9, U, rfl, e9, h2⟩ := er_hd h2
  obtain ⟨u10, U, rfl, e10, h2⟩ := er_hd h2
  obtain ⟨u11, U, rfl, e11, h2⟩ := er_hd h2
  obtain ⟨u12, U, rfl, e12, h2⟩ := er_hd h2
  obtain ⟨u13, U, rfl, e13, h2⟩ := er_hd h2
  obtain rfl : U = [] := List.map_eq_nil_iff.1 h2
  have hr : readAll (wtT x) = ([(u0.at_, [115], [(u2.at_, F, [.mk u3.at_ 1 [97] [] 0]), (u5.at_, 0, [.mk u5.at_ 1 [98] [] 0, .mk u6.at_ 2 [] [(u7.at_, F, []), (u9.at_, 0, [.mk u9.at_ 1 [99] [] 0])] 42])])], 0, 0) := by
    unfold readAll
    rw [h1, er_at e0, er_at e1, er_at e2, er_at e3, er_at e4, er_at e5, er_at e6, er_at e7, er_at e8, er_at e9, er_at e10, er_at e11, er_at e12, er_at e13]
    kernel_rfl
  rw [load_def hr]
  generalize u0.at_ = a0
  generalize u2.at_ = a2
  generalize u3.at_ = a3
  generalize u5.at_ = a5
  generalize u6.at_ = a6
  generalize u7.at_ = a7
  generalize u9.at_ = a9
  have k1 : ldDefs ld0 [(a0, [115], [(a2, F, [.mk a3 1 [97] [] 0]), (a5, 0, [.mk a5 1 [98] [] 0, .mk a6 2 [] [(a7, F, []), (a9, 0, [.mk a9 1 [99] [] 0])] 42])])] = .ok ⟨[[115]], [], [[(a2, F, [.mk a3 1 [97] [] 0]), (a5, 0, [.mk a5 1 [98] [] 0, .mk a6 2 [] [(a7, F, []), (a9, 0, [.mk a9 1 [99] [] 0])] 42])]], 0, []⟩ := by kernel_rfl
  have k2 : wnD [[115]] [(a0, [115], [(a2, F, [.mk a3 1 [97] [] 0]), (a5, 0, [.mk a5 1 [98] [] 0, .mk a6 2 [] [(a7, F, []), (a9, 0, [.mk a9 1 [99] [] 0])] 42])])] = none := by kernel_rfl
  obtain ⟨l2, hl2⟩ : ∃ l2 : Ld, l2 = ⟨[[115], [103, 49], [103, 50]], [[97], [98], [99]], [[(a2, F, [.mk a3 1 [97] [] 0]), (a5, 0, [.mk a5 1 [98] [] 0, .mk a6 2 [] [(a7, F, []), (a9, 0, [.mk a9 1 [99] [] 0])] 42])], [(a6, 0, [.mk a6 2 [] [(a7, F, []), (a9, 0, [.mk a9 1 [99] [] 0])] 0, .mk a6 0 [103, 49] [] 0]), (a6, 0, [])], [(a7, F, []), (a9, 0, [.mk a9 1 [99] [] 0])]], 2, [(0, [-1], F), (0, [-2, 1], 0), (1, [2, 1], 0), (1, [], 0), (2, [], F), (2, [-3], 0)]⟩ := ⟨_, rfl⟩
  have k3 : goP 65 0 ⟨[[115]], [], [[(a2, F, [.mk a3 1 [97] [] 0]), (a5, 0, [.mk a5 1 [98] [] 0, .mk a6 2 [] [(a7, F, []), (a9, 0, [.mk a9 1 [99] [] 0])] 42])]], 0, []⟩ = .ok l2 := by rw [hl2]; kernel_rfl
  have k4 : l2.terms = [[97], [98], [99]] := by rw [hl2]
  have k5 : l2.vars = [[115], [103, 49], [103, 50]] := by rw [hl2]
  have k6 : l2.rules = [(0, [-1], F), (0, [-2, 1], 0), (1, [2, 1], 0), (1, [], 0), (2, [], F), (2, [-3], 0)] := by rw [hl2]
  rw [loadD_ok k1 k2 k3]
  have e2 : orderP l2 = wtG F := by
    unfold orderP
    rw [k4, wt_srt, k5, k6]
    kernel_rfl
  show ((orderP l2, 0, 0) : Gra × Nat × Nat) = _
  rw [e2]
end Go.Proofs.YtldamieigigncaaGreatDoor.lx
namespace Go.Proofs.YtldamieigigncaaGreatDoor.lx
open Go.ChangeShapes Go.WideShapes Go.ChangeAt Go.RowKit
set_option linter.unusedVariables false
set_option linter.unusedSimpArgs false
/-! words of numbers, beside one another: the document's own -/
def ltW : List Int → List Int → Bool
  | [], [] => false
  | [], _ :: _ => true
  | _ :: _, [] => false
  | x :: xs, y :: ys => decide (x < y) || (decide (x = y) && ltW xs ys)
theorem ltW_drop : ∀ (k : Nat) (xs ys : List Int), k ≤ xs.length → k ≤ ys.length → xs.take k = ys.take k → ltW xs ys = ltW (xs.drop k) (ys.drop k)
  | 0, xs, ys, _, _, _ => by simp
  | k + 1, [], ys, h, _, _ => by simp at h
  | k + 1, x :: xs, [], _, h, _ => by simp at h
  | k + 1, x :: xs, y :: ys, h1, h2, h => by
    simp only [List.take_succ_cons, List.cons.injEq] at h
    obtain ⟨rfl, h⟩ := h
    have := ltW_drop k xs ys (by simpa using h1) (by simpa using h2) h
    simp [ltW, this]
theorem ltW_at {k : Nat} {xs ys : List Int} (h1 : k < xs.length) (h2 : k < ys.length) (h : xs.take k = ys.take k) : ltW xs ys = (decide (xs.getD k 0 < ys.getD k 0) || (decide (xs.getD k 0 = ys.getD k 0) && ltW (xs.drop (k + 1)) (ys.drop (k + 1)))) := by
  rw [ltW_drop k xs ys (by omega) (by omega) h, List.drop_eq_getElem_cons h1, List.drop_eq_getElem_cons h2]
  simp [ltW, List.getD_eq_getElem?_getD, List.getElem?_eq_getElem h1, List.getElem?_eq_getElem h2]
theorem ltW_end {k : Nat} {xs ys : List Int} (h1 : k ≤ xs.length) (h2 : k ≤ ys.length) (h : xs.take k = ys.take k) (he : k = xs.length ∨ k = ys.length) : ltW xs ys = decide (xs.length < ys.length) := by
  rw [ltW_drop k xs ys h1 h2 h]
  rcases he with rfl | rfl
  · rw [List.drop_length]
    cases hd : ys.drop xs.length with
    | nil => have := congrArg List.length hd; simp at this; simp [ltW]; omega
    | cons a l => have := congrArg List.length hd; simp at this; simp [ltW]; omega
  · rw [List.drop_length]
    cases hd : xs.drop ys.length with
    | nil => simp [ltW]; omega
    | cons a l => simp [ltW]; omega
theorem take_more {k : Nat} {xs ys : List Int} (h1 : k < xs.length) (h2 : k < ys.length) (h : xs.take k = ys.take k) (he : xs.getD k 0 = ys.getD k 0) : xs.take (k + 1) = ys.take (k + 1) := by
  rw [List.take_succ_eq_append_getElem h1, List.take_succ_eq_append_getElem h2, h]
  simp [List.getD_eq_getElem?_getD, List.getElem?_eq_getElem h1, List.getElem?_eq_getElem h2] at he
  rw [he]
theorem qt_cell {w w' : World} (h : Qt w w') (a : Addr) : w'.cell? a = w.cell? a := by obtain ⟨m, rfl⟩ := h; rfl
theorem qt_drew {w w' : World} (h : Qt w w') (n : Nat) : Qt w (w'.drewN n) := by
  obtain ⟨m, rfl⟩ := h
  exact ⟨m + n, World.drewN_drewN ..⟩
theorem retb_eq {a b : Bool} (h : a = b) : Ending.returned (.bool a) = .returned (.bool b) := by rw [h]
set_option maxRecDepth 100000 in
set_option maxHeartbeats 1000000 in
theorem lessT_any (w : World) (A A' : Nat → Prop) (v u : Value) (xs ys : List Int) (hv : IntsAt w A v xs) (hu : IntsAt w A' u ys) : Calls Tryz.prog 43 #[v, u] w fun e w' => e = .returned (.bool (ltW xs ys)) ∧ ∃ n, w' = w.drewN n := by
  obtain ⟨ao, ca, rfl⟩ := ListOf.form hv
  obtain ⟨bo, cb, rfl⟩ := ListOf.form hu
  have hl1 := hv.1
  have hl2 := hu.1
  unfold maxLen at hl1 hl2
  have HC := Lib.hid hv
  have HC2 := Lib.hid hu
  clear hv hu
  go_enter Tryz.func43, Tryz.ntmps43
  go_wp2
  go_loopw [5] (fun i wr => ∃ k : Nat, i = .int .i64 k ∧ k ≤ xs.length ∧ k ≤ ys.length ∧ xs.take k = ys.take k ∧ Qt w wr) (fun i _ => xs.length - (intOf i).toNat)
  case atStart => exact ⟨0, rfl, Nat.zero_le _, Nat.zero_le _, by simp, Qt.refl _⟩
  case round =>
    obtain ⟨k, rfl, hk1, hk2, htk, hbel⟩ := hrel
    by_cases h1 : k < xs.length
    · by_cases h2 : k < ys.length
      · have hx1 : xs[k]? = some (xs.getD k 0) := by rw [List.getD_eq_getElem?_getD, List.getElem?_eq_getElem h1]; rfl
        have hy1 : ys[k]? = some (ys.getD k 0) := by rw [List.getD_eq_getElem?_getD, List.getElem?_eq_getElem h2]; rfl
        obtain ⟨ga, ca', ea, _, hca⟩ := IntsAt.cell HC.out hx1
        obtain ⟨gb, cb', eb, _, hcb⟩ := IntsAt.cell HC2.out hy1
        injection ea with ea j1 j2
        subst ea
        injection eb with eb j3 j4
        subst eb
        clear j1 j2 j3 j4
        have ca : wr.cell? ⟨ga, k, none⟩ = some (.int .i64 (xs.getD k 0)) := (qt_cell hbel _).trans hca
        have cb : wr.cell? ⟨gb, k, none⟩ = some (.int .i64 (ys.getD k 0)) := (qt_cell hbel _).trans hcb
        clear hx1 hy1
        have hlt := ltW_at h1 h2 htk
        have hlt2 := ltW_at h2 h1 htk.symm
        have hmo := take_more h1 h2 htk
        clear hca hcb
        generalize xs.getD k 0 = x at *
        generalize ys.getD k 0 = y at *
        have HL := Lib.hid hlt
        have HL2 := Lib.hid hlt2
        have HM := Lib.hid hmo
        have HT := Lib.hid htk
        clear hlt hlt2 hmo htk
        by_cases he : x = y
        · subst he
          go_wp2
          go_quiet (fail)
          go_wp2
          exact ⟨⟨k + 1, congrArg (Value.int .i64) (by omega), h1, h2, HM.out (by trivial), qt_drew hbel _⟩, by simp only [intOf]; omega⟩
        · go_wp2
          go_quiet (fail)
          go_wp2
          go_quiet (fail)
          go_wp2
          go_ret
          exact ⟨retb_eq (by rw [HL.out]; simp [he]), qt_drew (qt_drew hbel _) _⟩
      · obtain rfl : k = ys.length := by omega
        have hlt := ltW_end hk1 hk2 htk (.inr rfl)
        have hlt2 := ltW_end hk2 hk1 htk.symm (.inl rfl)
        have HL := Lib.hid hlt
        have HL2 := Lib.hid hlt2
        clear hlt hlt2 htk
        go_wp2
        go_ret
        exact ⟨retb_eq (by rw [HL.out]; try simp), hbel⟩
    · obtain rfl : k = xs.length := by omega
      have hlt := ltW_end hk1 hk2 htk (.inl rfl)
      have hlt2 := ltW_end hk2 hk1 htk.symm (.inr rfl)
      have HL := Lib.hid hlt
      have HL2 := Lib.hid hlt2
      clear hlt hlt2 htk
      go_wp2
      go_ret
      exact ⟨retb_eq (by rw [HL.out]; try simp), hbel⟩
theorem ltW_irr : ∀ xs : List Int, ltW xs xs = false
  | [] => rfl
  | x :: xs => by unfold ltW; rw [ltW_irr xs]; simp
theorem ltW_both : ∀ xs ys : List Int, (!ltW xs ys && !ltW ys xs) = decide (xs = ys)
  | [], [] => by simp [ltW]
  | [], _ :: _ => by simp [ltW]
  | _ :: _, [] => by simp [ltW]
  | x :: xs, y :: ys => by
    have ih := ltW_both xs ys
    unfold ltW
    by_cases h1 : x = y
    · subst h1
      simp only [Int.lt_irrefl, decide_false, Bool.false_or, decide_true, Bool.true_and, List.cons.injEq, true_and]
      exact ih
    · have h2 : ¬ y = x := fun e => h1 e.symm
      have h3 : decide (x :: xs = y :: ys) = false := decide_eq_false (fun e => h1 (List.cons.inj e).1)
      rw [h3]
      rcases Int.lt_or_gt_of_ne h1 with h | h
      · simp [h]
      · have h4 : y < x := h
        simp [h4]
set_option maxRecDepth 100000 in
set_option maxHeartbeats 1000000 in
theorem sameT_any (w : World) (A A' : Nat → Prop) (v u : Value) (xs ys : List Int) (hv : IntsAt w A v xs) (hu : IntsAt w A' u ys) : Calls Tryz.prog 14 #[v, u] w fun e w' => e = .returned (.bool (decide (xs = ys))) ∧ ∃ n, w' = w.drewN n := by
  have h1 := lessT_any w A A' v u xs ys hv hu
  have h2 := fun (W : World) (n : Nat) (hW : W = w.drewN n) => lessT_any W A' A u v ys xs (by subst hW; exact hu) (by subst hW; exact hv)
  have hb := ltW_both xs ys
  obtain ⟨ao, ca, rfl⟩ := ListOf.form hv
  obtain ⟨bo, cb, rfl⟩ := ListOf.form hu
  have H2 := Lib.hid h2
  generalize decide (xs = ys) = D at *
  generalize xs.length = n at *
  generalize ys.length = m at *
  clear hv hu h2
  cases hx : ltW xs ys
  · rw [hx] at h1 hb
    have HB := Lib.hid hb
    clear hx hb
    go_enter Tryz.func14, Tryz.ntmps14
    go_wp2_with fail
    refine h1.mono ?_
    rintro e w1 ⟨rfl, q, rfl⟩
    have h3 := H2.out _ q rfl
    clear h1
    go_wp2_with fail
    refine h3.mono ?_
    rintro e w2 ⟨rfl, r, rfl⟩
    clear h3
    go_wp2_with fail
    go_ret
    refine ⟨retb_eq ?_, q + r, by first | rfl | exact World.drewN_drewN ..⟩
    rw [← HB.out]
    simp
  · rw [hx] at h1 hb
    have HB := Lib.hid hb
    clear hx hb
    go_enter Tryz.func14, Tryz.ntmps14
    go_wp2_with fail
    refine h1.mono ?_
    rintro e w1 ⟨rfl, q, rfl⟩
    clear h1
    go_wp2_with fail
    go_ret
    refine ⟨retb_eq ?_, q, rfl⟩
    rw [← HB.out]
    simp
end Go.Proofs.YtldamieigigncaaGreatDoor.lx

import Derived.Test.YtdddbkghleblhaaGreatDoorJan
import Derived.Test.YtdddbkghleblhaaGreatDoorJap
import Derived.Deep.Cut
namespace Go.Proofs.YtdddbkghleblhaaGreatDoor.lx
open Go.ChangeShapes Go.WideShapes Go.ChangeAt Go.RowKit
set_option linter.unusedVariables false
attribute [local go_sem] run_store_float
/-! the document's Parse -/
theorem info_rdef : (Tryz.prog.info? 37).map (fun i => (i.zero, i.size, i.bytes)) = some (some (.agg #[.int .i64 0, .string ⟨#[]⟩, .slice none 0 0]), 3, 48) := by kernel_rfl
def RParseV (B : Nat) (s : List UInt8) (e : Ending) (w : World) : Prop := ∃ v, e = .returned (.tuple #[v, .int .i64 (readAll s).2.1, .int .i64 (readAll s).2.2]) ∧ ListOf 3 EDef w (fun g => B ≤ g) v (readAll s).1
/-- what comes of alternatives, one form for both ways -/
theorem alts_un {g cap n m : Nat} {T : List Tok} {wx w3 : World} {e : Ending} {x : Res (List Altn)} (hn : T.length = n) (h : AnsR (fun w' v bs => AltsAt 17 w' (fun g => wx.heap.size ≤ g) v bs) SlF g cap 0 T m wx x e w3) : ∃ (p2 E : Nat) (ao2 : Option Addr) (m2 c2 : Nat),
    e = .returned (.tuple #[.agg #[.slice (some ⟨g, 0, none⟩) n cap, .int .i64 p2, .int .i64 (0 : Nat), .int .i64 E], .slice ao2 m2 c2]) ∧ Below wx.heap.size wx w3 ∧ p2 < n ∧
    ((E = 0 ∧ ∃ bs, x = .ok (bs, T.drop p2) ∧ AltsAt 17 w3 (fun g => wx.heap.size ≤ g) (.slice ao2 m2 c2) bs ∧ Good (T.drop p2) ∧ (T.drop p2).length ≤ m) ∨
     (∃ q, E = q.1 ∧ x = .error q ∧ 0 < q.1 ∧ (T.getD p2 ⟨0, 0, [], 0⟩).at_ = q.2)) := by
  subst hn
  obtain ⟨hb, h⟩ := h
  cases x with
  | error q =>
    obtain ⟨p2, v, rfl, ⟨ao2, m2, c2, rfl⟩, h1, h2, h3⟩ := h
    exact ⟨p2, q.1, ao2, m2, c2, rfl, hb, h2, .inr ⟨q, rfl, rfl, h1, h3⟩⟩
  | ok y =>
    obtain ⟨bs, r⟩ := y
    obtain ⟨p2, v, rfl, hv, rfl, h1, h2⟩ := h
    obtain ⟨ao2, c2, rfl⟩ := hv.form
    have hp := h1.pos
    rw [List.length_drop] at hp
    exact ⟨p2, 0, ao2, bs.length, c2, rfl, hb, by omega, .inl ⟨rfl, bs, rfl, hv, h1, h2⟩⟩
/-- pass, whatever went before -/
theorem pass_un (w : World) (g cap n p d E : Nat) (T : List Tok) (c : UInt8) (hc : 0 < c.toNat) (hn : T.length = n) (h : TAt w g cap T) (hg : E = 0 → Good (T.drop p)) : Calls Tryz.prog 17 #[.agg #[.slice (some ⟨g, 0, none⟩) n cap, .int .i64 p, .int .i64 d, .int .i64 E], .string ⟨#[c]⟩] w fun e w' => ∃ p3 E3 : Nat, e = .returned (.agg #[.slice (some ⟨g, 0, none⟩) n cap, .int .i64 p3, .int .i64 d, .int .i64 E3]) ∧ Below w.heap.size w w' ∧
    ((E ≠ 0 ∧ p3 = p ∧ E3 = E) ∨ (E = 0 ∧ sg (T.drop p) = c.toNat ∧ p3 = p + 1 ∧ E3 = 0) ∨ (E = 0 ∧ sg (T.drop p) ≠ c.toNat ∧ p3 = p ∧ E3 = 5)) := by
  subst hn
  rcases Nat.eq_zero_or_pos E with rfl | hE
  · have h1 := rpass_any w g cap p d T c hc h (hg rfl)
    unfold StV at h1
    refine h1.mono ?_
    rintro e w' ⟨rfl, hb⟩
    by_cases hs : sg (T.drop p) = c.toNat
    · rw [if_pos hs]
      exact ⟨p + 1, 0, rfl, hb, .inr (.inl ⟨rfl, hs, rfl, rfl⟩)⟩
    · rw [if_neg hs]
      exact ⟨p, 5, rfl, hb, .inr (.inr ⟨rfl, hs, rfl, rfl⟩)⟩
  · have h1 := rpass_err w g T.length cap p d E ⟨#[c]⟩ hE
    unfold StV at h1
    refine h1.mono ?_
    rintro e w' ⟨rfl, hb⟩
    exact ⟨p, E, rfl, hb, .inl ⟨by omega, rfl, rfl⟩⟩
/-- definitions that are done, and those that come: the first is not asked for its kind -/
def pre0 (done : List Dfn) (f : Nat) (ts : List Tok) : Except (Nat × Nat) (List Dfn) := preT done (if done = [] then pText f ts else pRest f ts)
theorem pre0_go (done : List Dfn) (f : Nat) (ts : List Tok) (h : done = [] ∨ ¬ (lx.hd ts).kind = 0) : pre0 done f ts = preT done (pText f ts) := by
  unfold pre0
  by_cases hd : done = []
  · rw [if_pos hd]
  · rw [if_neg hd]
    rcases h with h | h
    · exact absurd h hd
    · rw [show pRest f ts = pText f ts from if_neg h]
theorem pre0_end (done : List Dfn) (f : Nat) (ts : List Tok) (hne : done ≠ []) (h0 : (lx.hd ts).kind = 0) : pre0 done f ts = .ok done := by
  unfold pre0
  rw [if_neg hne, rest_end done f ts h0]
theorem pre0_ok (done : List Dfn) (f : Nat) (ts r : List Tok) (d : Dfn) (h : pDef ts = .ok (d, r)) : preT done (pText (f + 1) ts) = pre0 (done ++ [d]) f r := by
  rw [text_ok f ts r d h, preT_app]
  unfold pre0
  rw [if_neg (by simp)]
theorem pre0_err (done : List Dfn) (f : Nat) (ts : List Tok) (q : Nat × Nat) (h : pDef ts = .error q) : preT done (pText (f + 1) ts) = .error q := by
  rw [text_err f ts q h]
  rfl
/-- the text so far -/
def RTxtR (g cap n : Nat) (T : List Tok) (X : Except (Nat × Nat) (List Dfn)) (w1 : World) (lv : Value) (wr : World) : Prop := Below w1.heap.size w1 wr ∧ w1.heap.size + 1 ≤ wr.heap.size ∧
  ((∃ (done : List Dfn) (p f : Nat), Good (T.drop p) ∧ (T.drop p).length ≤ f ∧ done.length + f ≤ n ∧ Blk wr w1.heap.size 59 #[.slice (some ⟨g, 0, none⟩) n cap, .int .i64 p, .int .i64 (0 : Nat), .int .i64 (0 : Nat)] ∧
      OwnOf 3 EDef 37 (w1.heap.size + 1) wr lv done ∧ pre0 done f (T.drop p) = X) ∨
   (∃ (q : Nat × Nat) (p : Nat) (ao : Option Addr) (m c : Nat), X = .error q ∧ 0 < q.1 ∧ p < n ∧ (T.getD p ⟨0, 0, [], 0⟩).at_ = q.2 ∧ Blk wr w1.heap.size 59 #[.slice (some ⟨g, 0, none⟩) n cap, .int .i64 p, .int .i64 (0 : Nat), .int .i64 q.1] ∧ lv = .slice ao m c))
theorem rtxtR_step {g cap n p' f p4 E4 m2 c2 icap cap7 dn P2 : Nat} {T : List Tok} {X : Except (Nat × Nat) (List Dfn)} {w1 wq wr w6 w7 : World} {done : List Dfn} {ao ao2 ao7 : Option Addr} {X2 : List UInt8} {us : List (List Value)} (hn : T.length = n)
    (hdn : done.length = dn) (hzr : w1.heap.size + 1 ≤ wr.heap.size) (hp' : p' < n) (hrl : rleft n w1.heap.size wq = 1 + (n - p'))
    (hk6 : ∀ i, i < wr.heap.size → i ≠ w1.heap.size → w6.heap[i]? = wr.heap[i]?) (hz6 : wr.heap.size ≤ w6.heap.size) (hbel : Below w1.heap.size w1 w6)
    (b0 : Blk w6 w1.heap.size 59 #[.slice (some ⟨g, 0, none⟩) n cap, .int .i64 p4, .int .i64 (0 : Nat), .int .i64 E4])
    (hus1 : us.length = done.length) (hus2 : ∀ u ∈ us, u.length = 3) (how : wr.ownsRow (w1.heap.size + 1) 37 3 (.slice ao dn icap) dn us.flatten)
    (hus4 : ∀ (j : Nat) (x : Dfn), done[j]? = some x → ∃ cs, us[j]? = some cs ∧ EDef wr (fun g => w1.heap.size + 1 ≤ g ∧ some g ≠ (Value.slice ao dn icap).ownBlock) x cs)
    (hown7 : w7.ownsRow (w1.heap.size + 1) 37 3 (.slice ao7 (dn + 1) cap7) (dn + 1) (us.flatten ++ [.int .i64 P2, .string (S X2), .slice ao2 m2 c2]))
    (hg7 : (w6.alloc (.cells #[.int .i64 P2, .string (S X2), .slice ao2 m2 c2] 37)).grownBy w7 (Value.slice ao dn icap).ownBlock)
    (hat7 : (Value.slice ao7 (dn + 1) cap7).ownBlock = (Value.slice ao dn icap).ownBlock ∨ (Value.slice ao7 (dn + 1) cap7).ownBlock = some (w6.alloc (.cells #[.int .i64 P2, .string (S X2), .slice ao2 m2 c2] 37)).heap.size)
    (hf : (T.drop p').length ≤ f + 1) (hdf : dn + (f + 1) ≤ n) (hpre : preT done (pText (f + 1) (T.drop p')) = X)
    (hun : (E4 = 0 ∧ ∃ bs, pDef (T.drop p') = .ok ((P2, X2, bs), T.drop p4) ∧ AltsAt 17 w6 (fun g => wr.heap.size ≤ g) (.slice ao2 m2 c2) bs ∧ Good (T.drop p4) ∧ (T.drop p4).length + 1 ≤ (T.drop p').length) ∨
     (∃ q, E4 = q.1 ∧ pDef (T.drop p') = .error q ∧ 0 < q.1 ∧ p4 < n ∧ (T.getD p4 ⟨0, 0, [], 0⟩).at_ = q.2)) :
    RTxtR g cap n T X w1 (.slice ao7 (dn + 1) cap7) w7 ∧ rleft n w1.heap.size w7 < rleft n w1.heap.size wq := by
  subst hdn
  have hlt := how.lt
  have kg := Kp.of_grown hg7
  have ka : Kp (fun _ => False) w6 (w6.alloc (.cells #[.int .i64 P2, .string (S X2), .slice ao2 m2 c2] 37)) := Kp.alloc _ _ _
  have hz7 : w6.heap.size + 1 ≤ w7.heap.size := by have := kg.size; rw [World.size_alloc] at this; exact this
  have hne : some w1.heap.size ≠ (Value.slice ao done.length icap).ownBlock := fun e => by have := (hlt _ e.symm).1; omega
  have d0 := Blk.grown (b0.alloc _) hg7 hne
  have hbF : Below w1.heap.size w1 w7 :=
    (hbel.trans (ka.below (by have := hbel.size; omega) (fun i h => h.elim))).trans (kg.below (by rw [World.size_alloc]; omega) (fun i hi => by have := (hlt i hi).1; omega))
  rw [rleft_st d0, hrl]
  unfold RTxtR
  rcases hun with ⟨rfl, bs, hi, hv, hgd, hl⟩ | ⟨q, rfl, hi, hq, hp2, hqa⟩
  · have hO7 := own_more keepsDef (x := ((P2, X2, bs) : Dfn)) (cs := DefC (P2, X2, bs) (.slice ao2 m2 c2)) hus1 hus2 hus4 how (fun g hg hb => hk6 g hg (by omega)) hz6 ⟨_, rfl, hv⟩ rfl hzr hown7 hg7 hat7
    have hgl : 0 < (T.drop p4).length := hgd.pos
    rw [List.length_drop, hn] at hgl
    rw [List.length_drop, List.length_drop, hn] at hl
    rw [List.length_drop, hn] at hf
    refine ⟨⟨hbF, by omega, .inl ⟨done ++ [(P2, X2, bs)], p4, f, hgd, by rw [List.length_drop, hn]; omega, by rw [List.length_append]; simp; omega, d0, hO7, ?_⟩⟩, by rw [if_pos rfl]; omega⟩
    rw [← hpre, pre0_ok done f _ _ _ hi]
  · refine ⟨⟨hbF, by omega, .inr ⟨q, p4, _, _, _, ?_, hq, hp2, hqa, d0, rfl⟩⟩, by rw [if_neg (by omega)]; omega⟩
    rw [← hpre]
    exact pre0_err _ _ _ _ hi
theorem one3d (a : Int) (s : ByteArray) (ao2 : Option Addr) (m2 c2 : Nat) : ∀ z ∈ [Value.int .i64 a, .string s, .slice ao2 m2 c2], z.oneCell' = true := by
  intro z hz
  simp at hz
  rcases hz with rfl | rfl | rfl <;> rfl
theorem def_of (T : List Tok) (p' P2 F2 : Nat) (X2 : List UInt8) (r2 : List Tok) (h : T.drop p' = ⟨1, P2, X2, F2⟩ :: r2) (h1 : T.drop (p' + 1) = r2) : pDef (T.drop p') = if sg (T.drop (p' + 1)) = 61 then (match pShut 59 (pA 16 (T.drop (p' + 1)).tail) with
      | .error e => .error e
      | .ok (bs, r) => .ok ((P2, X2, bs), r)) else .error (5, (lx.hd (T.drop (p' + 1))).at_) := by
  rw [h, h1]
  rfl
theorem at_of {T : List Tok} {p : Nat} (h : Good (T.drop p)) : p < T.length ∧ (T.getD p ⟨0, 0, [], 0⟩).at_ = (lx.hd (T.drop p)).at_ := by
  obtain ⟨t, r, hd⟩ := h.ne
  obtain ⟨h1, h2, _⟩ := drop_lt hd
  rw [h2, hd]
  exact ⟨h1, rfl⟩
set_option maxRecDepth 100000 in
set_option maxHeartbeats 8000000 in
theorem rparse_any (hA : RAltsOk 16) (s : ByteArray) (hs : s.size ≤ maxLen) (w : World) : Calls Tryz.prog 7 #[.string s] w fun e w' => RParseV w.heap.size s.data.toList e w' ∧ Below w.heap.size w w' := by
  have HR := Lib.hid (rall_any s hs)
  obtain ⟨L, hL⟩ : ∃ L, L = lexAll s.data.toList := ⟨_, rfl⟩
  have HL := Lib.hid hL
  by_cases he : L.2.1 = 0
  · have HE : Hid ((lexAll s.data.toList).2.1 = 0) := Lib.hid (by rw [← HL.out]; exact he)
    have hgd := all_good _ HE.out
    have hlen := all_len _ HE.out
    rw [← HL.out] at hgd hlen
    have HRE := Lib.hid (read_err _ HE.out)
    have HRO := Lib.hid (read_ok _ HE.out)
    rw [← HL.out] at HRE HRO
    have hAV : RAllV w.heap.size s.data.toList = fun e w'' => ∃ v, e = .returned (.tuple #[v, .int .i64 0, .int .i64 0]) ∧ w''.ownsRow w.heap.size 61 4 v L.1.length (tcells L.1) := by
      unfold RAllV
      rw [← HL.out, he, hgd.2]
      rfl
    have HAV := Lib.hid hAV
    obtain ⟨T, hT⟩ : ∃ T, T = L.1 := ⟨_, rfl⟩
    rw [← hT] at HRE HRO HAV hlen
    have HG : Hid (Good T) := Lib.hid (by rw [hT]; exact hgd.1)
    have hpos := HG.out.pos
    clear he hgd hT hAV HL HE hL
    go_enter Tryz.func7, Tryz.ntmps7
    go_wp2_with fail
    refine (HR.out _).mono ?_
    rintro e w1 ⟨hall, hb1⟩
    rw [HAV.out] at hall
    obtain ⟨v, rfl, ho⟩ := hall
    obtain ⟨_, ⟨_, h0⟩ | ⟨g, cap, cur, rfl, hB, hh, hn, hc, _⟩⟩ := id ho
    · omega
    have hgl := lt_heap hh
    have hcs := ho.cells (show (Value.slice (some ⟨g, 0, none⟩) T.length cap).ownBlock = some g from rfl)
    have HT : Hid (TAt w1 g cap T) := Lib.hid ⟨hgl, fun j u hj => by have := hcs j u hj; rwa [add0] at this, hlen, hn, hc⟩
    have HB1 := Lib.hid hb1
    have hz1 := hb1.size
    clear ho hb1 hh hcs HAV
    generalize hn' : T.length = n at *
    have HN := Lib.hid hn'
    clear hn'
    go_wp2_with fail
    have he := entry2 w1 #[.slice (some ⟨g, 0, none⟩) n cap, .int .i64 0, .int .i64 0, .int .i64 0] #[] 59 37
    have hks := Kp.alloc (fun _ => False) (w1.alloc (.cells #[.slice (some ⟨g, 0, none⟩) n cap, .int .i64 0, .int .i64 0, .int .i64 0] 59)) (.cells #[] 37)
    have hof : OwnOf 3 EDef 37 (w1.heap.size + 1) ((w1.alloc (.cells #[.slice (some ⟨g, 0, none⟩) n cap, .int .i64 0, .int .i64 0, .int .i64 0] 59)).alloc (.cells #[] 37)) (.slice (some ⟨w1.heap.size + 1, 0, none⟩) 0 0) ([] : List Dfn) := by
      have h1 := World.ownsRow_lit (base := w1.heap.size + 1) (e := 37) (size := 3) (w1.alloc (.cells #[.slice (some ⟨g, 0, none⟩) n cap, .int .i64 0, .int .i64 0, .int .i64 0] 59)) #[] 0 (by simp) (by decide) (by simp)
      rw [World.size_alloc] at h1
      exact ⟨[], rfl, by simp, h1, by simp⟩
    have hst : RTxtR g cap n T (pText n T) w1 (.slice (some ⟨w1.heap.size + 1, 0, none⟩) 0 0) ((w1.alloc (.cells #[.slice (some ⟨g, 0, none⟩) n cap, .int .i64 0, .int .i64 0, .int .i64 0] 59)).alloc (.cells #[] 37)) := by
      refine ⟨he.1, by rw [he.2.1]; omega, .inl ⟨[], 0, n, HG.out, by rw [List.drop_zero, HN.out]; exact Nat.le_refl _, by simp, he.2.2.1, hof, ?_⟩⟩
      rw [pre0_go _ _ _ (.inl rfl), List.drop_zero]
      cases pText n T <;> rfl
    have HST := Lib.hid hst
    clear hst hof hks he
    go_loopw [9] (fun lv wr => RTxtR g cap n T (pText n T) w1 lv wr) (fun _ wr => rleft n w1.heap.size wr)
    case atStart => exact HST.out
    case round =>
      clear HST
      obtain ⟨hbr, hzr, hh⟩ := hrel
      have HBR := Lib.hid hbr
      have HTR := Lib.hid (HT.out.below hbr hgl)
      clear hbr
      rcases hh with ⟨done, p', f, hg1, hf, hdf, b0, ho, hpre⟩ | ⟨q, p', ao, m', c', hX, hq, hpl, hqa, b0, rfl⟩
      · obtain ⟨f, rfl⟩ : ∃ f', f = f' + 1 := ⟨f - 1, by have := hg1.pos; omega⟩
        obtain ⟨t2, r2, hd2⟩ := hg1.ne
        obtain ⟨hp2, _, hdr2⟩ := drop_lt hd2
        rw [HN.out] at hp2
        obtain ⟨c0, c1, c2, c3⟩ := HTR.out.tok hd2
        obtain ⟨ao, icap, rfl⟩ : ∃ ao cap, u9 = .slice ao done.length cap := by
          obtain ⟨us, _, _, h3, _⟩ := ho
          exact own_form h3
        have hrl : rleft n w1.heap.size wr = 1 + (n - p') := by rw [rleft_st b0, if_pos rfl]
        have HRL := Lib.hid hrl
        have BX0 := Lib.hid b0
        have HG1 := Lib.hid hg1
        have HO := Lib.hid ho
        have HPRE := Lib.hid hpre
        have HF := Lib.hid hf
        have HDF := Lib.hid hdf
        have HD2 := Lib.hid hd2
        have HDR2 := Lib.hid hdr2
        have x0 : wr.cell? ⟨w1.heap.size, 0, none⟩ = some (.slice (some ⟨g, 0, none⟩) n cap) := b0.cell 0
        have x1 : wr.cell? ⟨w1.heap.size, 1, none⟩ = some (.int .i64 p') := b0.cell 1
        have x2 : wr.cell? ⟨w1.heap.size, 2, none⟩ = some (.int .i64 0) := b0.cell 2
        have x3 : wr.cell? ⟨w1.heap.size, 3, none⟩ = some (.int .i64 0) := b0.cell 3
        have l0 := b0.lt
        have v1 := b0.frozen 1
        obtain ⟨K2, P2, X2, F2⟩ := t2
        replace c0 : wr.cell? ⟨g, p' * 4, none⟩ = some (.int .i64 K2) := c0
        replace c1 : wr.cell? ⟨g, p' * 4 + 1, none⟩ = some (.int .i64 P2) := c1
        replace c2 : wr.cell? ⟨g, p' * 4 + 2, none⟩ = some (.string (S X2)) := c2
        replace c3 : wr.cell? ⟨g, p' * 4 + 3, none⟩ = some (.float .f64 F2) := c3
        clear hrl b0 hg1 ho hpre hf hdf hd2 hdr2
        by_cases hend : done ≠ [] ∧ K2 = 0
        · have hl0 : ((done.length : Int) == 0) = false := by
            rw [beq_eq_false_iff_ne]
            have := List.length_pos_iff.2 hend.1
            omega
          have hk0 : ((K2 : Int) != 0) = false := by rw [bne_eq_false_iff_eq]; omega
          have HX := Lib.hid (HRO.out done (by rw [← HPRE.out]; exact pre0_end done _ _ hend.1 (by rw [HD2.out]; exact hend.2)))
          clear hend HRE HRO HD2 HDR2 HPRE
          go_wp2_with fail
          refine bodyPost_ret (v := .tuple #[.slice ao done.length icap, .int .i64 0, .int .i64 0]) (by simp [results, Tryz.results7, go_sem]) rfl ?_
          refine ⟨?_, HB1.out.trans (HBR.out.mono hz1)⟩
          unfold RParseV
          rw [HX.out]
          exact ⟨_, rfl, (HO.out.done keepsDef).keep keepsDef (fun g hg hA => ⟨Nat.le_trans (Nat.le_trans hz1 (Nat.le_add_right _ 1)) hA, rfl⟩) (Nat.le_refl _)⟩
        · have hgo : done = [] ∨ ¬ K2 = 0 := by
            by_cases h1 : done = []
            · exact .inl h1
            · exact .inr (fun h2 => hend ⟨h1, h2⟩)
          have HPG : Hid (preT done (pText (f + 1) (T.drop p')) = pText n T) := Lib.hid (by rw [← HPRE.out, pre0_go done _ _ (by rw [HD2.out]; exact hgo)])
          have hor : (((done.length : Int) == 0) = true) ∨ (((done.length : Int) == 0) = false ∧ ((K2 : Int) != 0) = true) := by
            by_cases h1 : done.length = 0
            · exact .inl (by rw [h1]; rfl)
            · refine .inr ⟨by rw [beq_eq_false_iff_ne]; omega, ?_⟩
              rcases hgo with h | h
              · rw [h] at h1
                exact absurd rfl h1
              · rw [bne_iff_ne]
                omega
          clear hend hgo
          rcases hor with hl0 | ⟨hl0, hk0⟩
          all_goals
            go_upto_region 7 with fail
            clear hl0
            by_cases k1 : K2 = 1
            · have HTG : Hid (Good (T.drop (p' + 1))) := Lib.hid (by
                have h1 := HG1.out
                rw [HD2.out] at h1
                rw [HDR2.out]
                exact h1.tail (by show K2 ≠ 0; omega))
              subst k1
              go_upto_region 11 with fail
              have hk1 := kp_at wr w1.heap.size 1 (.int .i64 ((p' : Int) + 1))
              have b0 : Blk (wr.setCell ⟨w1.heap.size, 1, none⟩ (.int .i64 ((p' : Int) + 1))) w1.heap.size 59 #[.slice (some ⟨g, 0, none⟩) n cap, .int .i64 (p' + 1 : Nat), .int .i64 (0 : Nat), .int .i64 (0 : Nat)] := BX0.out.set_ 1 (.int .i64 ((p' : Int) + 1))
              have hzu : (wr.setCell ⟨w1.heap.size, 1, none⟩ (.int .i64 ((p' : Int) + 1))).heap.size = wr.heap.size := by simp
              clear x0 x1 x2 x3 l0 v1 c0 c1 c2 c3
              generalize wr.setCell ⟨w1.heap.size, 1, none⟩ (.int .i64 ((p' : Int) + 1)) = ws at *
              have tk := Blk.new ws 61 #[.int .i64 1, .int .i64 P2, .string (S X2), .float .f64 F2]
              have hk2 := Kp.alloc (fun _ => False) ws (.cells #[.int .i64 1, .int .i64 P2, .string (S X2), .float .f64 F2] 61)
              have b0 := b0.alloc (.cells #[.int .i64 1, .int .i64 P2, .string (S X2), .float .f64 F2] 61)
              have hzw : (ws.alloc (.cells #[.int .i64 1, .int .i64 P2, .string (S X2), .float .f64 F2] 61)).heap.size = wr.heap.size + 1 := by rw [World.size_alloc, hzu]
              rw [hzu] at tk
              generalize ws.alloc (.cells #[.int .i64 1, .int .i64 P2, .string (S X2), .float .f64 F2] 61) = wu at *
              have hku : ∀ i, i < wr.heap.size → i ≠ w1.heap.size → wu.heap[i]? = wr.heap[i]? := fun i hi hne => (hk2.block i (by omega) (fun h => h)).trans (hk1.block i hi hne)
              have hbu : Below w1.heap.size w1 wu := HBR.out.trans ((hk1.below (n := w1.heap.size) (by omega) (fun i hi => by have : i = w1.heap.size := hi; omega)).trans (hk2.below (by omega) (fun i hi => hi.elim)))
              have hps := pass_un wu g cap n (p' + 1) 0 0 T 61 (by decide) HN.out (HT.out.below hbu hgl) (fun _ => HTG.out)
              have HKU := Lib.hid hku
              have HBU := Lib.hid hbu
              have BU0 := Lib.hid b0
              have TKU := Lib.hid tk
              have x0 : wu.cell? ⟨w1.heap.size, 0, none⟩ = some (.slice (some ⟨g, 0, none⟩) n cap) := b0.cell 0
              have x1 : wu.cell? ⟨w1.heap.size, 1, none⟩ = some (.int .i64 (p' + 1 : Nat)) := b0.cell 1
              have x2 : wu.cell? ⟨w1.heap.size, 2, none⟩ = some (.int .i64 (0 : Nat)) := b0.cell 2
              have x3 : wu.cell? ⟨w1.heap.size, 3, none⟩ = some (.int .i64 (0 : Nat)) := b0.cell 3
              have l0 := b0.lt
              clear b0 tk hk1 hk2 hku hbu hzu
              go_wp2_with fail
              refine hps.mono ?_
              rintro e wv ⟨p3, E3, rfl, hbv, hpe⟩
              clear x0 x1 x2 x3 l0 hps
              have HPE := Lib.hid hpe
              have hzv := hbv.size
              have HBV := Lib.hid hbv
              have BV0 := Lib.hid (BU0.out.below hbv BU0.out.lt)
              have TKV := Lib.hid (TKU.out.below hbv TKU.out.lt)
              have x0 : wv.cell? ⟨w1.heap.size, 0, none⟩ = some (.slice (some ⟨g, 0, none⟩) n cap) := BV0.out.cell 0
              have x1 : wv.cell? ⟨w1.heap.size, 1, none⟩ = some (.int .i64 (p' + 1 : Nat)) := BV0.out.cell 1
              have x2 : wv.cell? ⟨w1.heap.size, 2, none⟩ = some (.int .i64 (0 : Nat)) := BV0.out.cell 2
              have x3 : wv.cell? ⟨w1.heap.size, 3, none⟩ = some (.int .i64 (0 : Nat)) := BV0.out.cell 3
              have l0 := BV0.out.lt
              have v0 := BV0.out.frozen 0
              have v1 := BV0.out.frozen 1
              have v2 := BV0.out.frozen 2
              have v3 := BV0.out.frozen 3
              clear hbv hpe
              go_upto_region 12 with fail
              have hks := kp_st wv w1.heap.size (.slice (some ⟨g, 0, none⟩) n cap) (.int .i64 p3) (.int .i64 (0 : Nat)) (.int .i64 E3)
              have b0 : Blk ((((wv.setCell ⟨w1.heap.size, 0, none⟩ (.slice (some ⟨g, 0, none⟩) n cap)).setCell ⟨w1.heap.size, 1, none⟩ (.int .i64 p3)).setCell ⟨w1.heap.size, 2, none⟩ (.int .i64 (0 : Nat))).setCell ⟨w1.heap.size, 3, none⟩ (.int .i64 E3)) w1.heap.size 59 #[.slice (some ⟨g, 0, none⟩) n cap, .int .i64 p3, .int .i64 (0 : Nat), .int .i64 E3] :=
                (((BV0.out.set_ 0 (.slice (some ⟨g, 0, none⟩) n cap)).set_ 1 (.int .i64 p3)).set_ 2 (.int .i64 (0 : Nat))).set_ 3 (.int .i64 E3)
              clear x0 x1 x2 x3 v0 v1 v2 v3 l0
              generalize (((wv.setCell ⟨w1.heap.size, 0, none⟩ (.slice (some ⟨g, 0, none⟩) n cap)).setCell ⟨w1.heap.size, 1, none⟩ (.int .i64 p3)).setCell ⟨w1.heap.size, 2, none⟩ (.int .i64 (0 : Nat))).setCell ⟨w1.heap.size, 3, none⟩ (.int .i64 E3) = ww at *
              have hzw2 := hks.size
              have tk : Blk ww wr.heap.size _ _ := TKV.out.kept hks (by show ¬ wr.heap.size = w1.heap.size; omega)
              have HKW : Hid (∀ i, i < wr.heap.size → i ≠ w1.heap.size → ww.heap[i]? = wr.heap[i]?) := Lib.hid fun i hi hne => ((hks.block i (by omega) hne).trans (HBV.out.block i (by omega))).trans (HKU.out i hi hne)
              have hbw : Below w1.heap.size w1 ww := HBU.out.trans ((HBV.out.mono (by omega)).trans (hks.below (n := w1.heap.size) (by omega) (fun i hi => by omega)))
              have HBW := Lib.hid hbw
              have BW0 := Lib.hid b0
              have TKW := Lib.hid tk
              clear tk hks hbw BV0 TKV BU0 TKU HBV HKU HBU
              have HDEF := Lib.hid (def_of T p' P2 F2 X2 r2 HD2.out HDR2.out)
              rcases HPE.out with ⟨h, _⟩ | ⟨_, hs, rfl, rfl⟩ | ⟨_, hs, rfl, rfl⟩
              · exact absurd rfl h
              · obtain ⟨t3, r3, hd3, hst3, hgr3⟩ := HTG.out.sg_tail (by rw [hs]; decide)
                obtain ⟨_, _, hdr3⟩ := drop_lt hd3
                have HTL : Hid ((T.drop (p' + 1)).tail = T.drop (p' + 1 + 1)) := Lib.hid (by rw [hd3, hdr3]; rfl)
                have hg3 : Good (T.drop (p' + 1 + 1)) := by rw [hdr3]; exact hgr3
                have HDF2 : Hid (pDef (T.drop p') = match pShut 59 (pA 16 (T.drop (p' + 1 + 1))) with
                    | .error e => .error e
                    | .ok (bs, r) => .ok ((P2, X2, bs), r)) := Lib.hid (by rw [HDEF.out, if_pos (show sg (T.drop (p' + 1)) = 61 from hs), HTL.out])
                have hal : Calls Tryz.prog 18 #[.agg #[.slice (some ⟨g, 0, none⟩) n cap, .int .i64 (p' + 1 + 1 : Nat), .int .i64 (0 : Nat), .int .i64 (0 : Nat)]] ww (AnsR (fun w' v bs => AltsAt 17 w' (fun g => ww.heap.size ≤ g) v bs) SlF g cap 0 T (T.drop (p' + 1 + 1)).length ww (pA 16 (T.drop (p' + 1 + 1)))) := by
                  have h := hA ww g cap (p' + 1 + 1) T (Nat.le_refl _) (HT.out.below HBW.out hgl) hg3
                  rw [HN.out] at h
                  exact h
                have HLP : Hid ((T.drop (p' + 1 + 1)).length + 2 ≤ (T.drop p').length) := Lib.hid (by rw [HD2.out, ← HDR2.out, hd3, ← hdr3]; simp)
                clear hd3 hst3 hgr3 hdr3 hg3 hs HPE HTL HDEF
                have x0 : ww.cell? ⟨w1.heap.size, 0, none⟩ = some (.slice (some ⟨g, 0, none⟩) n cap) := b0.cell 0
                have x1 : ww.cell? ⟨w1.heap.size, 1, none⟩ = some (.int .i64 (p' + 1 + 1 : Nat)) := b0.cell 1
                have x2 : ww.cell? ⟨w1.heap.size, 2, none⟩ = some (.int .i64 (0 : Nat)) := b0.cell 2
                have x3 : ww.cell? ⟨w1.heap.size, 3, none⟩ = some (.int .i64 (0 : Nat)) := b0.cell 3
                have l0 := b0.lt
                clear b0
                go_wp2_with fail
                refine hal.mono ?_
                intro e w3 han
                obtain ⟨p2, E, ao2, m2, c2, rfl, hb3, hp2n, hun⟩ := alts_un HN.out han
                clear x0 x1 x2 x3 l0 hal han
                have hz3 := hb3.size
                have HUN := Lib.hid hun
                have B30 := Lib.hid (BW0.out.below hb3 BW0.out.lt)
                have TK3 := Lib.hid (TKW.out.below hb3 TKW.out.lt)
                have HB3 := Lib.hid hb3
                have l0 := B30.out.lt
                clear hun hb3
                go_upto_region 14 with fail
                have hka := Kp.alloc (fun _ => False) w3 (.cells #[.slice (some ⟨g, 0, none⟩) n cap, .int .i64 p2, .int .i64 (0 : Nat), .int .i64 E] 59)
                have st := Blk.new w3 59 #[.slice (some ⟨g, 0, none⟩) n cap, .int .i64 p2, .int .i64 (0 : Nat), .int .i64 E]
                have b0 := B30.out.alloc (.cells #[.slice (some ⟨g, 0, none⟩) n cap, .int .i64 p2, .int .i64 (0 : Nat), .int .i64 E] 59)
                have tk := TK3.out.alloc (.cells #[.slice (some ⟨g, 0, none⟩) n cap, .int .i64 p2, .int .i64 (0 : Nat), .int .i64 E] 59)
                have hz4 : (w3.alloc (.cells #[.slice (some ⟨g, 0, none⟩) n cap, .int .i64 p2, .int .i64 (0 : Nat), .int .i64 E] 59)).heap.size = w3.heap.size + 1 := World.size_alloc _ _
                generalize w3.alloc (.cells #[.slice (some ⟨g, 0, none⟩) n cap, .int .i64 p2, .int .i64 (0 : Nat), .int .i64 E] 59) = w4 at *
                have hb4 : Below w1.heap.size w1 w4 := HBW.out.trans ((HB3.out.mono (by omega)).trans (hka.below (by omega) (fun i hi => hi.elim)))
                have hps := pass_un w4 g cap n p2 0 E T 59 (by decide) HN.out (HT.out.below hb4 hgl) (fun hE => by
                  rcases HUN.out with ⟨_, bs, _, _, h, _⟩ | ⟨q, rfl, _, h, _⟩
                  · exact h
                  · omega)
                have B40 := Lib.hid b0
                have TK4 := Lib.hid tk
                have HB4 := Lib.hid hb4
                have HKA := Lib.hid hka
                have q0 : w4.cell? ⟨w3.heap.size, 0, none⟩ = some (.slice (some ⟨g, 0, none⟩) n cap) := st.cell 0
                have q1 : w4.cell? ⟨w3.heap.size, 1, none⟩ = some (.int .i64 p2) := st.cell 1
                have q2 : w4.cell? ⟨w3.heap.size, 2, none⟩ = some (.int .i64 (0 : Nat)) := st.cell 2
                have q3 : w4.cell? ⟨w3.heap.size, 3, none⟩ = some (.int .i64 E) := st.cell 3
                have lq := st.lt
                clear b0 tk hka hb4 st l0
                go_wp2_with fail
                refine hps.mono ?_
                rintro e w5 ⟨p4, E4, rfl, hb5, hpe⟩
                clear q0 q1 q2 q3 lq hps
                have HPE := Lib.hid hpe
                have hz5 := hb5.size
                have HB5 := Lib.hid hb5
                have B50 := Lib.hid (B40.out.below hb5 B40.out.lt)
                have TK5 := Lib.hid (TK4.out.below hb5 TK4.out.lt)
                have x0 : w5.cell? ⟨w1.heap.size, 0, none⟩ = some (.slice (some ⟨g, 0, none⟩) n cap) := B50.out.cell 0
                have x1 : w5.cell? ⟨w1.heap.size, 1, none⟩ = some (.int .i64 (p' + 1 + 1 : Nat)) := B50.out.cell 1
                have x2 : w5.cell? ⟨w1.heap.size, 2, none⟩ = some (.int .i64 (0 : Nat)) := B50.out.cell 2
                have x3 : w5.cell? ⟨w1.heap.size, 3, none⟩ = some (.int .i64 (0 : Nat)) := B50.out.cell 3
                have l0 := B50.out.lt
                have v0 := B50.out.frozen 0
                have v1 := B50.out.frozen 1
                have v2 := B50.out.frozen 2
                have v3 := B50.out.frozen 3
                clear hb5 hpe
                go_upto_region 15 with fail
                have hks := kp_st w5 w1.heap.size (.slice (some ⟨g, 0, none⟩) n cap) (.int .i64 p4) (.int .i64 (0 : Nat)) (.int .i64 E4)
                have b0 : Blk ((((w5.setCell ⟨w1.heap.size, 0, none⟩ (.slice (some ⟨g, 0, none⟩) n cap)).setCell ⟨w1.heap.size, 1, none⟩ (.int .i64 p4)).setCell ⟨w1.heap.size, 2, none⟩ (.int .i64 (0 : Nat))).setCell ⟨w1.heap.size, 3, none⟩ (.int .i64 E4)) w1.heap.size 59 #[.slice (some ⟨g, 0, none⟩) n cap, .int .i64 p4, .int .i64 (0 : Nat), .int .i64 E4] :=
                  (((B50.out.set_ 0 (.slice (some ⟨g, 0, none⟩) n cap)).set_ 1 (.int .i64 p4)).set_ 2 (.int .i64 (0 : Nat))).set_ 3 (.int .i64 E4)
                clear x0 x1 x2 x3 v0 v1 v2 v3 l0
                generalize (((w5.setCell ⟨w1.heap.size, 0, none⟩ (.slice (some ⟨g, 0, none⟩) n cap)).setCell ⟨w1.heap.size, 1, none⟩ (.int .i64 p4)).setCell ⟨w1.heap.size, 2, none⟩ (.int .i64 (0 : Nat))).setCell ⟨w1.heap.size, 3, none⟩ (.int .i64 E4) = w6 at *
                have hz6 := hks.size
                have tk : Blk w6 wr.heap.size _ _ := TK5.out.kept hks (by show ¬ wr.heap.size = w1.heap.size; omega)
                have hk36 : ∀ i, i < w3.heap.size → i ≠ w1.heap.size → w6.heap[i]? = w3.heap[i]? := fun i hi hne => ((hks.block i (by omega) hne).trans (HB5.out.block i (by omega))).trans (HKA.out.block i hi (fun h => h))
                have hk6 : ∀ i, i < wr.heap.size → i ≠ w1.heap.size → w6.heap[i]? = wr.heap[i]? := fun i hi hne => ((hk36 i (by omega) hne).trans (HB3.out.block i (by omega))).trans (HKW.out i hi hne)
                have hbel6 : Below w1.heap.size w1 w6 := HB4.out.trans ((HB5.out.mono (by omega)).trans (hks.below (n := w1.heap.size) (by omega) (fun i hi => by omega)))
                have hun2 : (E4 = 0 ∧ ∃ bs, pDef (T.drop p') = .ok ((P2, X2, bs), T.drop p4) ∧ AltsAt 17 w6 (fun g => wr.heap.size ≤ g) (.slice ao2 m2 c2) bs ∧ Good (T.drop p4) ∧ (T.drop p4).length + 1 ≤ (T.drop p').length) ∨
                   (∃ q, E4 = q.1 ∧ pDef (T.drop p') = .error q ∧ 0 < q.1 ∧ p4 < n ∧ (T.getD p4 ⟨0, 0, [], 0⟩).at_ = q.2) := by
                  rcases HUN.out with ⟨rfl, bs, hi, hv, hgd, hl⟩ | ⟨q, rfl, hi, hq, hqa⟩
                  · rcases HPE.out with ⟨h, _⟩ | ⟨_, hs, rfl, rfl⟩ | ⟨_, hs, rfl, rfl⟩
                    · exact absurd rfl h
                    · obtain ⟨t3, r3, hd3, _, hgr3⟩ := hgd.sg_tail (by rw [hs]; decide)
                      obtain ⟨_, _, hdr3⟩ := drop_lt hd3
                      have h1 : sg (T.drop p2) = 59 := hs
                      refine .inl ⟨rfl, bs, ?_, keepsAlts 17 _ _ _ _ _ _ hv (fun g hg hA => ⟨by have : ww.heap.size ≤ g := hA; omega, hk36 g hg (by have : ww.heap.size ≤ g := hA; omega)⟩) (by omega), by rw [hdr3]; exact hgr3, ?_⟩
                      · rw [HDF2.out, hi, show pShut 59 (.ok (bs, T.drop p2)) = .ok (bs, (T.drop p2).tail) from if_pos h1, hd3, ← hdr3]
                        rfl
                      · have := HLP.out
                        have h2 : (T.drop (p2 + 1)).length ≤ (T.drop p2).length := by rw [List.length_drop, List.length_drop]; omega
                        omega
                    · have h1 : ¬ sg (T.drop p4) = 59 := hs
                      obtain ⟨h2, h3⟩ := at_of hgd
                      exact .inr ⟨(5, (lx.hd (T.drop p4)).at_), rfl, by rw [HDF2.out, hi, show pShut 59 (.ok (bs, T.drop p4)) = .error (5, (lx.hd (T.drop p4)).at_) from if_neg h1], (by show 0 < 5; decide), hp2n, h3⟩
                  · rcases HPE.out with ⟨_, rfl, rfl⟩ | ⟨h, _⟩ | ⟨h, _⟩
                    · exact .inr ⟨q, rfl, by rw [HDF2.out, hi]; rfl, hq, hp2n, hqa⟩
                    · omega
                    · omega
                obtain ⟨us, hus1, hus2, how, hus4⟩ := HO.out
                have how6 := ownsRow_keep how (w' := w6) (fun g hg hv => hk6 g hg (by have := (how.lt g hv).1; omega))
                have F0 := Lib.hid b0
                have HK6 := Lib.hid hk6
                have HBL := Lib.hid hbel6
                have HUN2 := Lib.hid hun2
                have HU1 := Lib.hid hus1
                have HU2 := Lib.hid hus2
                have HOW := Lib.hid how
                have HU4 := Lib.hid hus4
                have HW6 := Lib.hid how6
                have lt6 := tk.lt
                have j1 : w6.cell? ⟨wr.heap.size, 1, none⟩ = some (.int .i64 P2) := tk.cell 1
                have j2 : w6.cell? ⟨wr.heap.size, 2, none⟩ = some (.string (S X2)) := tk.cell 2
                have hbd : done.length ≤ 70000 := by have := HDF.out; omega
                have hsz6 : w1.heap.size + 1 ≤ w6.heap.size := by omega
                have hzr6 : wr.heap.size ≤ w6.heap.size := by omega
                clear b0 tk hks hk36 hk6 hbel6 hun2 hus1 hus2 how hus4 how6 HUN HPE HDF2 HLP B40 TK4 B50 TK5 B30 TK3 hz3 hz4 hz5 hz6
                obtain ⟨i1, ki, kz0, kz1, kz2⟩ := info_parts info_rdef
                generalize hdn : done.length = dn at *
                have HDN := Lib.hid hdn
                clear hdn
                go_wp2_with (at_builtin; refine wpList_append_own_at _ rfl _ _ 29 rfl (w1.heap.size + 1) 37 i1 (.agg #[.int .i64 0, .string ⟨#[]⟩, .slice none 0 0]) 3 48 Tryz.underlying29 ki kz0 kz1 kz2 rfl (by decide) _ dn us.flatten rfl (HW6.out.alloc _) ⟨w6.heap.size, 0, none⟩ 1 1 [.int .i64 P2, .string (S X2), .slice ao2 m2 c2] rfl rfl (new_cells _ _ _) (one3d _ _ _ _ _) (by unfold maxLen; omega) (by omega) (by rw [World.size_alloc]; omega) ?_; intro v7 w7 hown7 hg7 _ hat7; obtain ⟨ao7, cap7, rfl⟩ := own_form hown7)
                exact rtxtR_step HN.out HDN.out hzr hp2 HRL.out HK6.out hzr6 HBL.out F0.out (HU1.out.trans HDN.out.symm) HU2.out HOW.out HU4.out hown7 hg7 hat7 HF.out HDF.out HPG.out HUN2.out
              · have HX : Hid (pDef (T.drop p') = .error (5, (lx.hd (T.drop (p' + 1))).at_)) := Lib.hid (by rw [HDEF.out, if_neg (show ¬ sg (T.drop (p' + 1)) = 61 from hs)])
                clear hs
                have x0 : ww.cell? ⟨w1.heap.size, 0, none⟩ = some (.slice (some ⟨g, 0, none⟩) n cap) := b0.cell 0
                have x1 : ww.cell? ⟨w1.heap.size, 1, none⟩ = some (.int .i64 (p' + 1 : Nat)) := b0.cell 1
                have x2 : ww.cell? ⟨w1.heap.size, 2, none⟩ = some (.int .i64 (0 : Nat)) := b0.cell 2
                have x3 : ww.cell? ⟨w1.heap.size, 3, none⟩ = some (.int .i64 5) := b0.cell 3
                have l0 := b0.lt
                clear b0
                go_wp2_with fail
                obtain ⟨h1, h2⟩ := at_of HTG.out
                refine ⟨⟨HBW.out, by omega, .inr ⟨(5, (lx.hd (T.drop (p' + 1))).at_), p' + 1, ao, done.length, icap, by rw [← HPG.out]; exact pre0_err done f _ _ HX.out, (by show 0 < 5; decide), by rw [← HN.out]; exact h1, h2, BW0.out, rfl⟩⟩, ?_⟩
                rw [rleft_st BW0.out, HRL.out, if_neg (by decide)]
                omega
            · have n1 : ((K2 : Int) != 1) = true := by rw [bne_iff_ne]; omega
              have HX := Lib.hid (HRE.out (5, P2) (by rw [← HPG.out]; exact pre0_err done f _ _ (by unfold pDef; rw [HD2.out]; exact if_neg k1)))
              clear k1 HRE HRO HD2 HDR2 HPRE HPG
              go_wp2_with fail
              go_region
              all_goals
                go_wp2
                refine bodyPost_ret (v := .tuple #[.slice none 0 0, .int .i64 5, .int .i64 P2]) (by simp [results, Tryz.results7, go_sem]) rfl ?_
                have hbz := (HB1.out.trans (HBR.out.mono hz1)).alloc (o := .cells #[.int .i64 K2, .int .i64 P2, .string (S X2), .float .f64 F2] 61) (by have := HBR.out.size; omega)
                refine ⟨?_, ⟨hbz.os, hbz.tape, hbz.output, hbz.size, hbz.block⟩⟩
                unfold RParseV
                rw [HX.out]
                exact ⟨_, rfl, ListOf.nil _ _⟩
      · have BX0 := Lib.hid b0
        have HX := Lib.hid (HRE.out q hX)
        have HPL := Lib.hid hpl
        have HQA := Lib.hid hqa
        have hq1 : ((q.1 : Int) == 0) = false := by rw [beq_eq_false_iff_ne]; omega
        have hq2 : ((q.1 : Int) != 0) = true := by rw [bne_iff_ne]; omega
        obtain ⟨t2, r2, hd2⟩ : ∃ t r, T.drop p' = t :: r := ⟨_, _, List.drop_eq_getElem_cons (by rw [HN.out]; exact hpl)⟩
        obtain ⟨_, hgt, _⟩ := drop_lt hd2
        obtain ⟨_, c1, _, _⟩ := HTR.out.tok hd2
        rw [hgt] at hqa
        rw [hqa] at c1
        have x0 : wr.cell? ⟨w1.heap.size, 0, none⟩ = some (.slice (some ⟨g, 0, none⟩) n cap) := b0.cell 0
        have x1 : wr.cell? ⟨w1.heap.size, 1, none⟩ = some (.int .i64 p') := b0.cell 1
        have x2 : wr.cell? ⟨w1.heap.size, 2, none⟩ = some (.int .i64 0) := b0.cell 2
        have x3 : wr.cell? ⟨w1.heap.size, 3, none⟩ = some (.int .i64 q.1) := b0.cell 3
        have l0 := b0.lt
        clear b0 hX hqa hd2 hgt HRE HRO
        go_wp2_with fail
        go_region
        all_goals
          go_wp2
          refine bodyPost_ret (v := .tuple #[.slice none 0 0, .int .i64 q.1, .int .i64 q.2]) (by simp [results, Tryz.results7, go_sem]) rfl ?_
          have hbz := HB1.out.trans (HBR.out.mono hz1)
          refine ⟨?_, ⟨hbz.os, hbz.tape, hbz.output, hbz.size, hbz.block⟩⟩
          unfold RParseV
          rw [HX.out]
          exact ⟨_, rfl, ListOf.nil _ _⟩
  · have hne : ((L.2.1 : Int) != 0) = true := by rw [bne_iff_ne]; omega
    have HV : Hid (readAll s.data.toList = ([], L.2)) := Lib.hid (by unfold readAll; rw [← HL.out, if_neg he])
    have hAV : RAllV w.heap.size s.data.toList = fun e w'' => ∃ v, e = .returned (.tuple #[v, .int .i64 L.2.1, .int .i64 L.2.2]) ∧ w''.ownsRow w.heap.size 61 4 v L.1.length (tcells L.1) := by
      unfold RAllV
      rw [← HL.out]
    have HAV := Lib.hid hAV
    clear he hAV hL HL
    generalize L.1 = T at *
    generalize L.2 = q at *
    go_enter Tryz.func7, Tryz.ntmps7
    go_wp2_with fail
    refine (HR.out _).mono ?_
    rintro e w1 ⟨hall, hb1⟩
    rw [HAV.out] at hall
    obtain ⟨v, rfl, ho⟩ := hall
    have HB1 := Lib.hid hb1
    clear ho hb1
    go_wp2_with fail
    refine bodyPost_ret (v := .tuple #[.slice none 0 0, .int .i64 q.1, .int .i64 q.2]) (by simp [results, Tryz.results7, go_sem]) rfl ?_
    refine ⟨?_, HB1.out⟩
    unfold RParseV
    rw [HV.out]
    exact ⟨_, rfl, ListOf.nil _ _⟩
end Go.Proofs.YtdddbkghleblhaaGreatDoor.lx

import Derived.Test.YtldamieigigncaaGreatDoorVcaq
namespace Go.Proofs.YtldamieigigncaaGreatDoor.lx
open Go.ChangeShapes Go.WideShapes Go.ChangeAt Go.RowKit
set_option linter.unusedVariables false
attribute [local go_sem] run_store_float
theorem symsP_wf : ∀ {is : List Itm} {l l' : Ld} {xs : List Int}, LdWf l → (∀ i ∈ is, ∃ k, wfI (wfA k) i) → symsP l is = .ok (l', xs) → LdWf l'
  | [], l, l', xs, hl, _, h => by cases h; exact hl
  | i :: is, l, l', xs, hl, hi, h => by
    unfold symsP at h
    split at h
    · cases h
    · rename_i l1 x e
      obtain ⟨k, hk⟩ := hi i (List.mem_cons_self ..)
      have h1 := symP_wf hl hk e
      split at h
      · cases h
      · rename_i l2 ys e2
        cases h
        exact symsP_wf h1 (fun j hj => hi j (List.mem_cons_of_mem _ hj)) e2
theorem ruleP_wf {l l' : Ld} {v : Nat} {a : Altn} (hl : LdWf l) (hi : ∀ i ∈ a.2.2, ∃ k, wfI (wfA k) i) (h : ruleP l v a = .ok l') : LdWf l' := by
  unfold ruleP at h
  split at h
  · cases h
  · split at h
    · cases h
    · rename_i l1 xs e
      split at h
      · cases h
      · cases h
        exact (symsP_wf hl hi e : LdWf l1)
theorem wfA_items {k : Nat} {bs : List Altn} (h : wfA k bs) {a : Altn} (ha : a ∈ bs) : ∀ i ∈ a.2.2, ∃ k, wfI (wfA k) i := by
  cases k with
  | zero => rw [show bs = [] from h] at ha; cases ha
  | succ k => exact fun i hi => ⟨k, h a ha i hi⟩
theorem AltsAt.up {k : Nat} {w : World} {A : Nat → Prop} {v : Value} {bs : List Altn} (h : AltsAt k w A v bs) : ∃ k, ListOf 3 (EAlt (AltsAt k)) w A v bs := by
  cases k with
  | zero =>
    obtain ⟨rfl, ao, cap, rfl⟩ := h
    exact ⟨0, by decide, ao, cap, rfl, fun h => absurd h (by decide)⟩
  | succ k => exact ⟨k, h⟩
theorem altsP_step {l l' : Ld} {v : Nat} {bs : List Altn} {a : Altn} (h : ruleP l v a = .ok l') : altsP l v (a :: bs) = altsP l' v bs := by
  show (match ruleP l v a with
    | .error e => (.error e : LR Ld)
    | .ok l => altsP l v bs) = _
  rw [h]
theorem altsP_err {l : Ld} {v : Nat} {bs : List Altn} {a : Altn} {q : Nat × Nat} (h : ruleP l v a = .error q) : altsP l v (a :: bs) = .error q := by
  show (match ruleP l v a with
    | .error e => (.error e : LR Ld)
    | .ok l => altsP l v bs) = _
  rw [h]
theorem goP_go {l : Ld} {v : Nat} (h : v < l.alts.length) (h64 : v ≤ 64) : goP (65 - v) v l = match altsP l v (l.alts.getD v []) with
    | .error e => .error e
    | .ok l => goP (65 - (v + 1)) (v + 1) l := by
  rw [show 65 - v = (65 - (v + 1)) + 1 by omega]
  show (if v < l.alts.length then _ else _) = _
  rw [if_pos h]
  rfl
theorem goP_end {l : Ld} {v : Nat} (h : ¬ v < l.alts.length) (h64 : v ≤ 64) : goP (65 - v) v l = .ok l := by
  rw [show 65 - v = (64 - v) + 1 by omega]
  show (if v < l.alts.length then _ else _) = _
  rw [if_neg h]
set_option maxRecDepth 100000 in
set_option maxHeartbeats 8000000 in
theorem goThrough_any {XA : Nat → Prop} {gl B N0 : Nat} {tv vv rv av : Value} {l : Ld} {w : World} (h : LdW XA gl B N0 tv vv rv av l w) (hok : LdOk l) (hwf : LdWf l) : Calls Tryz.prog 25 #[.pointer (some ⟨gl, 0, none⟩)] w fun e w' => LdVN XA gl B tv vv rv av w (goP 65 0 l) e w' := by
  have H := Lib.hid h
  have HOK := Lib.hid hok
  have HWF := Lib.hid hwf
  generalize hX : goP 65 0 l = X at *
  have HX := Lib.hid hX
  clear h hok hwf hX
  go_enter Tryz.func25, Tryz.ntmps25
  go_wp2_with fail
  go_loopw [2] (fun q wr => ∃ (v : Nat) (l' : Ld) (N' : Nat) (tv' vv' rv' av' : Value), q = .int .i64 v ∧ v ≤ l'.alts.length ∧ LdW XA gl B N' tv' vv' rv' av' l' wr ∧ LdK gl tv vv rv av tv' vv' rv' av' w wr ∧ LdOk l' ∧ LdWf l' ∧ goP (65 - v) v l' = X) (fun q _ => 65 - (intOf q).toNat)
  case atStart => exact ⟨0, l, N0, tv, vv, rv, av, rfl, Nat.zero_le _, H.out, LdK.refl _ _ _ _ _ _, HOK.out, HWF.out, HX.out⟩
  case round =>
    obtain ⟨v, l1, N1, tv1, vv1, rv1, av1, rfl, hv, hw, hkk, hokl, hwfl, hgo⟩ := hrel
    obtain ⟨us, hus, hoa, hua⟩ := hw.al
    obtain ⟨ao, ac, rfl⟩ := own_form hoa
    have HOA := Lib.hid hoa
    have HW := Lib.hid hw
    have HKK := Lib.hid hkk
    have HOKL := Lib.hid hokl
    have HWFL := Lib.hid hwfl
    have HGO := Lib.hid hgo
    have h64 : l1.alts.length ≤ 64 := by rw [hokl.alts]; exact hokl.vars
    have c3 : wr.cell? ⟨gl, 3, none⟩ = some (.slice ao l1.alts.length ac) := hw.box.cell 3
    have lg := hw.box.lt
    generalize hn : l1.alts.length = n at *
    have HN := Lib.hid hn
    by_cases hlt : v < n
    · have hbs0 : l1.alts[v]? = some (l1.alts.getD v []) := by
        rw [List.getElem?_eq_getElem (by omega), List.getD_eq_getElem?_getD, List.getElem?_eq_getElem (by omega)]
        rfl
      have hgo1 := goP_go (l := l1) (v := v) (by omega) (by omega)
      rw [hgo] at hgo1
      generalize hbs : l1.alts.getD v [] = bs at *
      obtain ⟨u, k0, hu, hal⟩ := hua v bs hbs0
      obtain ⟨k, hal⟩ := hal.up
      obtain ⟨bo, bc, rfl⟩ := ListOf.form hal
      obtain ⟨kw, hbw⟩ := hwfl bs (List.mem_of_getElem? hbs0)
      obtain ⟨gA, cap', eA, _, hgA, hcA⟩ := own_open hoa (by omega)
      injection eA with eA1 _ _
      subst eA1
      have d0 : wr.cell? ⟨gA, v, none⟩ = some (.slice bo bs.length bc) := hcA v _ hu
      have hm := hal.1
      unfold maxLen at hm
      generalize hml : bs.length = m at *
      have HM := Lib.hid hml
      have HAL := Lib.hid hal
      have HBW := Lib.hid hbw
      have HG1 := Lib.hid hgo1
      clear hw hkk hokl hwfl hgo hoa hua hus hu hal hbw hcA hbs0 hgo1 hml hbs hn
      go_wp2_with fail
      clear c3 lg d0
      go_loopw [22] (fun i w2 => ∃ (q : Nat) (l2 : Ld) (N2 : Nat) (tv2 vv2 rv2 av2 : Value), i = .int .i64 q ∧ q ≤ m ∧ LdW XA gl B N2 tv2 vv2 rv2 av2 l2 w2 ∧ LdK gl tv vv rv av tv2 vv2 rv2 av2 w w2 ∧ LdOk l2 ∧ LdWf l2 ∧ ListOf 3 (EAlt (AltsAt k)) w2 (FrX XA gl tv2 vv2 rv2 av2) (.slice bo m bc) bs ∧ n ≤ l2.alts.length ∧ altsP l2 v (bs.drop q) = altsP l1 v bs) (fun i _ => m - (intOf i).toNat)
      case atStart => exact ⟨0, l1, N1, tv1, vv1, rv1, _, rfl, Nat.zero_le _, HW.out, HKK.out, HOKL.out, HWFL.out, HAL.out, by rw [HN.out]; exact Nat.le_refl _, rfl⟩
      case round =>
        clear HW HKK HOKL HWFL HAL HOA
        obtain ⟨q, l2, N2, tv2, vv2, rv2, av2, rfl, hq, hw, hkk, hokl, hwfl, hlist, hna, hap⟩ := hrel
        have HW := Lib.hid hw
        have HKK := Lib.hid hkk
        have HOKL := Lib.hid hokl
        have HWFL := Lib.hid hwfl
        have HLI := Lib.hid hlist
        have HNA := Lib.hid hna
        have HAPP := Lib.hid hap
        by_cases hlq : q < m
        · obtain ⟨a, ha⟩ : ∃ a, bs[q]? = some a := ⟨_, List.getElem?_eq_getElem (by rw [HM.out]; exact hlq)⟩
          obtain ⟨g3, rfl, hg3, cs3, _, hcs3, iv3, rfl, hit⟩ := ListOf.at2g (by rw [HM.out]; exact hlist) ha
          obtain ⟨io, ic, rfl⟩ := hit.form
          have hwi := wfA_items HBW.out (List.mem_of_getElem? ha)
          have hdr : bs.drop q = a :: bs.drop (q + 1) := by
            rw [List.drop_eq_getElem_cons (by rw [HM.out]; exact hlq), (List.getElem?_eq_some_iff.1 ha).2]
          obtain ⟨P, F, is⟩ := a
          have e0 : wr.cell? ⟨g3, q * 3, none⟩ = some (.int .i64 P) := hcs3 0 _ rfl
          have e1 : wr.cell? ⟨g3, q * 3 + 1, none⟩ = some (.float .f64 F) := hcs3 1 _ rfl
          have e2 : wr.cell? ⟨g3, q * 3 + 2, none⟩ = some (.slice io is.length ic) := hcs3 2 _ rfl
          have HIT := Lib.hid hit
          have HWI := Lib.hid hwi
          have HDR := Lib.hid hdr
          generalize hil : is.length = il at *
          have HIL := Lib.hid hil
          clear hw hkk hokl hwfl hlist hna hap hit hwi hdr hcs3 ha hil
          go_upto_region 6 with fail
          have b8 := Blk.new wr 124 #[.int .i64 P, .float .f64 F, .slice io il ic]
          have hb8 : Below wr.heap.size wr (wr.alloc (.cells #[.int .i64 P, .float .f64 F, .slice io il ic] 124)) := (Below.refl _ _).alloc (Nat.le_refl _) _
          clear e0 e1 e2
          generalize wr.alloc (.cells #[.int .i64 P, .float .f64 F, .slice io il ic] 124) = w9 at *
          have m0 : w9.cell? ⟨wr.heap.size, 0, none⟩ = some (.int .i64 P) := b8.cell 0
          have m1 : w9.cell? ⟨wr.heap.size, 1, none⟩ = some (.float .f64 F) := b8.cell 1
          have m2 : w9.cell? ⟨wr.heap.size, 2, none⟩ = some (.slice io il ic) := b8.cell 2
          have l8 := b8.lt
          have hw9 := HW.out.below hb8
          have HRU := Lib.hid (rule_any hw9 HOKL.out v P F is k io ic (by rw [HIL.out]; exact HIT.out.keep (keepsItm (keepsAlts k)) (w' := w9) (A' := FrX XA gl tv2 vv2 rv2 av2) (fun g hg hA => ⟨hA, hb8.block g hg⟩) hb8.size) (fun i hi => by obtain ⟨k', h1, h2, _⟩ := HWI.out i hi; exact ⟨h1, h2⟩))
          rw [HIL.out] at HRU
          have HK9 := Lib.hid (HKK.out.trans (LdK.of_below hb8))
          have HL9 := Lib.hid (HLI.out.keep (keepsAlt (keepsAlts k)) (w' := w9) (A' := FrX XA gl tv2 vv2 rv2 av2) (fun g hg hA => ⟨hA, hb8.block g hg⟩) hb8.size)
          clear b8 hb8 hw9 HW HKK HLI
          cases hs : ruleP l2 v (P, F, is) with
          | error z =>
            rw [hs] at HRU
            have hz := altsP_err (bs := bs.drop (q + 1)) hs
            rw [← HDR.out, HAPP.out] at hz
            have hg1 := HG1.out
            rw [hz] at hg1
            have HG2 : Hid (X = .error z) := Lib.hid hg1
            clear hs hz hg1
            go_wp2_with (go_at_call 64; refine HRU.out.mono ?_; rintro e w10 ⟨rfl, hb10⟩)
            exact ⟨rfl, by rw [HG2.out]; exact ⟨rfl, (HK9.out.belowB H.out).trans hb10⟩⟩
          | ok l3 =>
            rw [hs] at HRU
            have hz := altsP_step (bs := bs.drop (q + 1)) hs
            rw [← HDR.out, HAPP.out] at hz
            have HZ := Lib.hid hz
            have ho3 := ruleP_ok HOKL.out hs
            have HO3 := Lib.hid ho3
            have HF3 := Lib.hid (ruleP_wf HWFL.out HWI.out hs)
            clear hs hz ho3
            go_wp2_with fail
            refine HRU.out.mono ?_
            rintro e w10 ⟨rfl, N3, tv3, vv3, rv3, av3, hw10, hk10⟩
            have HW10 := Lib.hid hw10
            have HK10 := Lib.hid (HK9.out.trans hk10)
            have HL10 := Lib.hid (HL9.out.keep (keepsAlt (keepsAlts k)) (w' := w10) (A' := FrX XA gl tv3 vv3 rv3 av3) (fun g hg hA => ⟨⟨hk10.free hg hA.1, hA.2⟩, hk10.kp.block g hg (fun hf => hf hA.1)⟩) hk10.kp.size)
            clear m0 m1 m2 l8 hw10 hk10 HRU
            go_wp2_with fail
            exact ⟨⟨q + 1, l3, N3, tv3, vv3, rv3, av3, congrArg (Value.int .i64) (by omega), hlq, HW10.out, HK10.out, HO3.out.1, HF3.out, HL10.out, Nat.le_trans HNA.out HO3.out.2.1, HZ.out.symm⟩, by simp only [intOf]; omega⟩
        · have hqm : q = m := by omega
          rw [hqm, ← HM.out, List.drop_length] at hap
          replace hap : Except.ok l2 = altsP l1 v bs := hap
          have hg1 := HG1.out
          rw [← hap] at hg1
          replace hg1 : X = goP (65 - (v + 1)) (v + 1) l2 := hg1
          have HG2 := Lib.hid hg1
          subst hqm
          clear hw hkk hokl hwfl hlist hna hap hg1
          go_wp2_with fail
          exact ⟨⟨v + 1, l2, N2, tv2, vv2, rv2, av2, congrArg (Value.int .i64) (by omega), by have := HNA.out; omega, HW.out, HKK.out, HOKL.out, HWFL.out, HG2.out.symm⟩, by simp only [intOf]; omega⟩
    · obtain rfl : v = n := by omega
      have hgo1 := goP_end (l := l1) (v := v) (by omega) (by omega)
      rw [hgo] at hgo1
      have HG1 := Lib.hid hgo1
      clear hw hkk hokl hwfl hgo hoa hua hus hgo1 hn
      go_wp2_with fail
      go_end0
      rw [HG1.out]
      exact ⟨rfl, _, _, _, _, _, HW.out, HKK.out⟩
end Go.Proofs.YtldamieigigncaaGreatDoor.lx

namespace Go.Proofs.YtldamieigigncaaGreatDoor.lx
open Go.ChangeShapes Go.WideShapes Go.ChangeAt Go.RowKit
set_option linter.unusedVariables false
set_option linter.unusedSimpArgs false
structure LdG (gl B N : Nat) (tv vv rv av : Value) (l : Ld) (w : World) : Prop where
  box : Blk w gl 62 #[tv, vv, rv, av, .int .i64 l.last]
  ge : B ≤ gl
  ts : w.ownsRow B 9 1 tv l.terms.length (l.terms.map sv)
  vs : w.ownsRow B 9 1 vv l.vars.length (l.vars.map sv)
  ap : tv.ownBlock = none ∨ tv.ownBlock ≠ vv.ownBlock
  rs : RlW B N w rv l.rules
section
variable {X : Nat → Prop} {gl B N : Nat} {tv vv rv av : Value} {l : Ld} {w w' : World}
theorem LdW.toG (h : LdW X gl B N tv vv rv av l w) : LdG gl B N tv vv rv av l w := ⟨h.box, h.ge, h.ts, h.vs, h.ap, h.rs⟩
theorem LdG.below (h : LdG gl B N tv vv rv av l w) (hb : Below w.heap.size w w') : LdG gl B N tv vv rv av l w' := by
  have hk : ∀ g, g < w.heap.size → w'.heap[g]? = w.heap[g]? := fun g hg => hb.block g hg
  obtain ⟨us, _, h2, _⟩ := h.rs
  exact ⟨h.box.below hb h.box.lt, h.ge, ownsRow_keep h.ts (fun g hg _ => hk g hg), ownsRow_keep h.vs (fun g hg _ => hk g hg), h.ap, h.rs.keep (fun g hg => hk g (h2.lt g hg).2) (fun u n xs g ho hg => hk g (ho.lt g hg).2)⟩
theorem LdG.terms_set {v : Value} {ts : List (List UInt8)} (h : LdG gl B N tv vv rv av l w) (hb : Below w.heap.size w w') (ho : w'.ownsRow w.heap.size 9 1 v ts.length (ts.map sv)) (hB : B ≤ w.heap.size) :
    LdG gl B N v vv rv av { l with terms := ts } (w'.setCell ⟨gl, 0, none⟩ v) ∧ Kp (fun g => g = gl) w (w'.setCell ⟨gl, 0, none⟩ v) := by
  have h2 := h.below hb
  have hk : ∀ g, g ≠ gl → (w'.setCell ⟨gl, 0, none⟩ v).heap[g]? = w'.heap[g]? := fun g hg => Below.heap_setCell w' ⟨gl, 0, none⟩ _ g hg
  obtain ⟨us, _, hr, _⟩ := h2.rs
  have row : ∀ (B' s' n' : Nat) (e' : TypeId) (v' : Value) (ys : List Value), w'.ownsRow B' e' s' v' n' ys → v'.ownBlock ≠ some gl → (w'.setCell ⟨gl, 0, none⟩ v).ownsRow B' e' s' v' n' ys := fun B' s' n' e' v' ys ho h1 => ownsRow_keep ho (fun g hg hv => hk g (fun e => h1 (e ▸ hv)))
  have hv : v.ownBlock ≠ some gl := apartB ho h2.box (by decide)
  refine ⟨⟨h2.box.set_ 0 v, h2.ge, own_low (row _ _ _ _ _ _ ho hv) hB, row _ _ _ _ _ _ h2.vs (apartB h2.vs h2.box (by decide)), ?_, h2.rs.keep (fun g hg => hk g (fun e => apartB hr h2.box (by decide) (e ▸ hg))) (fun u n xs g hu hg => hk g (fun e => apartB hu h2.box (by decide) (e ▸ hg)))⟩, ?_⟩
  · cases hvb : v.ownBlock with
    | none => exact .inl rfl
    | some g =>
      right
      intro e
      have h1 := (ho.lt g hvb).1
      have h3 := (h.vs.lt g e.symm).2
      omega
  · refine ⟨hb.os, hb.tape, hb.output, by have := hb.size; simpa using this, fun g hg hne => (hk g hne).trans (hb.block g hg)⟩
theorem LdG.right_set {i j g n c : Nat} {r : Rl} {y : Int} {us : List Value} (h : LdG gl B N tv vv rv av l w) (hus : us.length = l.rules.length) (hor : w.ownsRow B 41 3 rv l.rules.length (rcells l.rules us)) (hur : ∀ (j : Nat) (r : Rl), l.rules[j]? = some r → ∃ u, us[j]? = some u ∧ w.ownsRow B 3 1 u r.2.1.length (r.2.1.map iv) ∧ ∀ g, u.ownBlock = some g → g < N) (hap : Apt us)
    (hr : l.rules[i]? = some r) (hu : us[i]? = some (.slice (some ⟨g, 0, none⟩) n c)) :
    LdG gl B N tv vv rv av { l with rules := l.rules.set i (r.1, r.2.1.set j y, r.2.2) } (w.setCell ⟨g, j, none⟩ (iv y)) ∧ Kp (fun k => k = g) w (w.setCell ⟨g, j, none⟩ (iv y)) := by
  obtain ⟨u0, e0, ho, hN⟩ := hur i r hr
  rw [hu] at e0
  cases e0
  have hn : n = r.2.1.length := by
    obtain ⟨ao, cap, e⟩ := own_form ho
    injection e
  subst hn
  have hk : ∀ k, k ≠ g → (w.setCell ⟨g, j, none⟩ (iv y)).heap[k]? = w.heap[k]? := fun k hk => Below.heap_setCell w ⟨g, j, none⟩ _ k hk
  have hob : (Value.slice (some ⟨g, 0, none⟩) r.2.1.length c).ownBlock = some g := rfl
  have hne : gl ≠ g := fun e => apartB ho h.box (by decide) (by rw [e]; rfl)
  have hrc : rcells (l.rules.set i (r.1, r.2.1.set j y, r.2.2)) us = rcells l.rules us := by
    have aux : ∀ (rs : List Rl) (vs : List Value) (i : Nat), rs[i]? = some r → rcells (rs.set i (r.1, r.2.1.set j y, r.2.2)) vs = rcells rs vs := by
      intro rs
      induction rs with
      | nil => intro vs i h; simp at h
      | cons a rs ih =>
        intro vs i hi
        cases vs with
        | nil => cases i <;> simp [rcells]
        | cons v vs =>
          cases i with
          | zero =>
            have : a = r := by simpa using hi
            subst this
            simp [rcells]
          | succ i => simp only [List.set_cons_succ, rcells]; rw [ih vs i (by simpa using hi)]
    exact aux _ _ _ hr
  refine ⟨⟨(hk gl hne).trans h.box, h.ge, ownsRow_keep h.ts (fun k _ hv => hk k (fun e => apart2 h.ts ho (by decide) hv (by rw [e]; rfl))), ownsRow_keep h.vs (fun k _ hv => hk k (fun e => apart2 h.vs ho (by decide) hv (by rw [e]; rfl))), h.ap, ⟨us, by simpa using hus, ?_, fun k q hq => ?_, hap⟩⟩, ⟨rfl, rfl, rfl, by simp, fun k _ hne => hk k hne⟩⟩
  · show World.ownsRow _ B 41 3 rv (l.rules.set i (r.1, r.2.1.set j y, r.2.2)).length (rcells (l.rules.set i (r.1, r.2.1.set j y, r.2.2)) us)
    rw [List.length_set, hrc]
    exact ownsRow_keep hor (fun k _ hv => hk k (fun e => apart2 hor ho (by decide) hv (by rw [e]; rfl)))
  · have hq : (l.rules.set i (r.1, r.2.1.set j y, r.2.2))[k]? = some q := hq
    by_cases hki : i = k
    · subst hki
      rw [List.getElem?_set_self (List.getElem?_eq_some_iff.1 hr).1] at hq
      cases hq
      refine ⟨_, hu, ?_, hN⟩
      have hst := (ho.stored j (iv y)).1
      rw [← List.map_set] at hst
      show World.ownsRow _ B 3 1 _ (r.2.1.set j y).length ((r.2.1.set j y).map iv)
      rw [List.length_set]
      exact hst
    · rw [List.getElem?_set_ne hki] at hq
      obtain ⟨u, eu, hou, hNu⟩ := hur k q hq
      refine ⟨u, eu, ownsRow_keep hou (fun m _ hv => hk m (fun e => ?_)), hNu⟩
      have hlt1 := (List.getElem?_eq_some_iff.1 hu)
      have hlt2 := (List.getElem?_eq_some_iff.1 eu)
      obtain ⟨a1, b1⟩ := hlt1
      obtain ⟨a2, b2⟩ := hlt2
      have hpw := List.pairwise_iff_getElem.1 hap
      rcases Nat.lt_or_gt_of_ne hki with hlt | hlt
      · have h1 := hpw i k a1 a2 hlt
        rw [b1, b2] at h1
        rcases h1 with h1 | h1
        · cases h1
        · exact h1 (by rw [hv, e]; rfl)
      · have h1 := hpw k i a2 a1 hlt
        rw [b1, b2] at h1
        rcases h1 with h1 | h1
        · rw [h1] at hv; cases hv
        · exact h1 (by rw [hv, e]; rfl)
end
end Go.Proofs.YtldamieigigncaaGreatDoor.lx

namespace Go.Proofs.YtldamieigigncaaGreatDoor.lx
open Go.ChangeShapes Go.WideShapes Go.ChangeAt Go.RowKit
set_option linter.unusedVariables false
set_option linter.unusedSimpArgs false
attribute [local go_sem] run_store_float
def trn (l : Ld) (r : Rl) : Rl := (r.1, r.2.1.map (turnS l.terms (srt l.terms)), r.2.2)
def trnJ (l : Ld) (j : Nat) (r : Rl) : Rl := (r.1, (r.2.1.take j).map (turnS l.terms (srt l.terms)) ++ r.2.1.drop j, r.2.2)
def ordI (l : Ld) (i : Nat) : Ld := { l with terms := srt l.terms, rules := (l.rules.take i).map (trn l) ++ l.rules.drop i }
def ordJ (l : Ld) (i j : Nat) : Ld := { l with terms := srt l.terms, rules := (l.rules.take i).map (trn l) ++ match l.rules.drop i with
  | [] => []
  | r :: rs => trnJ l j r :: rs }
theorem ordJ_zero (l : Ld) (i : Nat) : ordJ l i 0 = ordI l i := by
  unfold ordJ ordI
  congr 1
  congr 1
  cases l.rules.drop i with
  | nil => rfl
  | cons r rs => simp [trnJ]
theorem ordJ_end {l : Ld} {i : Nat} {r : Rl} (h : l.rules[i]? = some r) : ordJ l i r.2.1.length = ordI l (i + 1) := by
  have hd : l.rules.drop i = r :: l.rules.drop (i + 1) := by
    rw [List.drop_eq_getElem_cons (List.getElem?_eq_some_iff.1 h).1, (List.getElem?_eq_some_iff.1 h).2]
  have ht : l.rules.take (i + 1) = l.rules.take i ++ [r] := by rw [List.take_add_one, h]; rfl
  unfold ordJ ordI
  rw [hd, ht]
  simp [trnJ, trn]
theorem ordJ_at {l : Ld} {i j : Nat} {r : Rl} (h : l.rules[i]? = some r) : (ordJ l i j).rules[i]? = some (trnJ l j r) := by
  have hi := (List.getElem?_eq_some_iff.1 h).1
  have hd : l.rules.drop i = r :: l.rules.drop (i + 1) := by
    rw [List.drop_eq_getElem_cons hi, (List.getElem?_eq_some_iff.1 h).2]
  show (List.map (trn l) (l.rules.take i) ++ _)[i]? = _
  rw [hd]
  rw [List.getElem?_append_right (by simp; omega)]
  have : i - (List.map (trn l) (l.rules.take i)).length = 0 := by simp; omega
  rw [this]
  rfl
theorem ordJ_set {l : Ld} {i j : Nat} {r : Rl} {x : Int} (h : l.rules[i]? = some r) (hx : r.2.1[j]? = some x) : { ordJ l i j with rules := (ordJ l i j).rules.set i ((trnJ l j r).1, (trnJ l j r).2.1.set j (turnS l.terms (srt l.terms) x), (trnJ l j r).2.2) } = ordJ l i (j + 1) := by
  have hi := (List.getElem?_eq_some_iff.1 h).1
  have hj := (List.getElem?_eq_some_iff.1 hx).1
  have hd : l.rules.drop i = r :: l.rules.drop (i + 1) := by
    rw [List.drop_eq_getElem_cons hi, (List.getElem?_eq_some_iff.1 h).2]
  have hdx : r.2.1.drop j = x :: r.2.1.drop (j + 1) := by
    rw [List.drop_eq_getElem_cons hj, (List.getElem?_eq_some_iff.1 hx).2]
  have htx : r.2.1.take (j + 1) = r.2.1.take j ++ [x] := by rw [List.take_add_one, hx]; rfl
  have e1 : (List.map (turnS l.terms (srt l.terms)) (r.2.1.take j) ++ r.2.1.drop j).set j (turnS l.terms (srt l.terms) x) = List.map (turnS l.terms (srt l.terms)) (r.2.1.take (j + 1)) ++ r.2.1.drop (j + 1) := by
    rw [hdx, htx, List.set_append_right _ _ (by simp; omega)]
    have : j - (List.map (turnS l.terms (srt l.terms)) (r.2.1.take j)).length = 0 := by simp; omega
    rw [this]
    simp
  unfold ordJ trnJ
  rw [hd]
  simp only [e1]
  congr 1
  rw [List.set_append_right _ _ (by simp; omega)]
  have : i - (List.map (trn l) (l.rules.take i)).length = 0 := by simp; omega
  rw [this]
  rfl
theorem ordJ_same {l : Ld} {i j : Nat} {r : Rl} {x : Int} (h : l.rules[i]? = some r) (hx : r.2.1[j]? = some x) (h0 : ¬ x < 0) : ordJ l i j = ordJ l i (j + 1) := by
  have hi := (List.getElem?_eq_some_iff.1 h).1
  have hj := (List.getElem?_eq_some_iff.1 hx).1
  have hd : l.rules.drop i = r :: l.rules.drop (i + 1) := by
    rw [List.drop_eq_getElem_cons hi, (List.getElem?_eq_some_iff.1 h).2]
  have hdx : r.2.1.drop j = x :: r.2.1.drop (j + 1) := by
    rw [List.drop_eq_getElem_cons hj, (List.getElem?_eq_some_iff.1 hx).2]
  have htx : r.2.1.take (j + 1) = r.2.1.take j ++ [x] := by rw [List.take_add_one, hx]; rfl
  have ht : turnS l.terms (srt l.terms) x = x := if_neg h0
  unfold ordJ trnJ
  rw [hd]
  simp only [hdx, htx, List.map_append, List.map_cons, List.map_nil, ht, List.append_assoc, List.cons_append, List.nil_append]
theorem ordI_end (l : Ld) : ordI l l.rules.length = { l with terms := srt l.terms, rules := l.rules.map (trn l) } := by
  unfold ordI
  rw [List.take_length, List.drop_length, List.append_nil]
end Go.Proofs.YtldamieigigncaaGreatDoor.lx

namespace Go.Proofs.YtldamieigigncaaGreatDoor.lx
open Go.ChangeShapes Go.WideShapes Go.ChangeAt Go.RowKit
set_option linter.unusedVariables false
set_option linter.unusedSimpArgs false
attribute [local go_sem] run_store_float
theorem LdG.rule_at {gl B N : Nat} {tv vv rv av : Value} {l : Ld} {w : World} {i : Nat} {r : Rl} (h : LdG gl B N tv vv rv av l w) (hr : l.rules[i]? = some r) :
    ∃ (us : List Value) (uo : Option Addr) (uc gr cap : Nat), rv = .slice (some ⟨gr, 0, none⟩) l.rules.length cap ∧ gr < w.heap.size ∧ us.length = l.rules.length ∧ w.ownsRow B 41 3 rv l.rules.length (rcells l.rules us) ∧
      (∀ (j : Nat) (r : Rl), l.rules[j]? = some r → ∃ u, us[j]? = some u ∧ w.ownsRow B 3 1 u r.2.1.length (r.2.1.map iv) ∧ ∀ g, u.ownBlock = some g → g < N) ∧ Apt us ∧ us[i]? = some (.slice uo r.2.1.length uc) ∧ w.ownsRow B 3 1 (.slice uo r.2.1.length uc) r.2.1.length (r.2.1.map iv) ∧
      w.cell? ⟨gr, i * 3, none⟩ = some (.int .i64 r.1) ∧ w.cell? ⟨gr, i * 3 + 1, none⟩ = some (.slice uo r.2.1.length uc) ∧ w.cell? ⟨gr, i * 3 + 2, none⟩ = some (.float .f64 r.2.2) := by
  obtain ⟨us, hus, hor, hur, hap⟩ := h.rs
  obtain ⟨u, eu, hu, hN⟩ := hur i r hr
  obtain ⟨uo, uc, rfl⟩ := own_form hu
  have hi := (List.getElem?_eq_some_iff.1 hr).1
  obtain ⟨gr, cap, e, _, hg, hc⟩ := own_open hor (by omega)
  refine ⟨us, uo, uc, gr, cap, e, hg, hus, hor, hur, hap, eu, hu, ?_, ?_, ?_⟩
  · exact hc (i * 3) _ (by have := rcells_at l.rules us i 0 r _ hr eu (by decide); simpa using this)
  · exact hc (i * 3 + 1) _ (by have := rcells_at l.rules us i 1 r _ hr eu (by decide); simpa using this)
  · exact hc (i * 3 + 2) _ (by have := rcells_at l.rules us i 2 r _ hr eu (by decide); simpa using this)
theorem xorN (n : Nat) (h : n < 64) : bits .xor .i64 (-1) (-(n : Int) - 1) = n := by
  have : ∀ k : Fin 64, bits .xor .i64 (-1) (-((k.val : Nat) : Int) - 1) = ((k.val : Nat) : Int) := by decide +kernel
  exact this ⟨n, h⟩
set_option maxRecDepth 100000 in
set_option maxHeartbeats 1000000 in
theorem isVar_any (x : Int) (w : World) : Calls Tryz.prog 20 #[.int .i64 x] w fun e w' => e = .returned (.bool (decide (0 ≤ x))) ∧ w' = w := by
  go_enter Tryz.func20, Tryz.ntmps20
  go_wp2_with fail
  go_ret
  exact ⟨rfl, rfl⟩
end Go.Proofs.YtldamieigigncaaGreatDoor.lx


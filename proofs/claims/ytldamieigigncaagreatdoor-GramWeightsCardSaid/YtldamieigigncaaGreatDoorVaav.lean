import Derived.Test.YtldamieigigncaaGreatDoorVaau
namespace Go.Proofs.YtldamieigigncaaGreatDoor.lx
open Go.ChangeShapes Go.WideShapes Go.ChangeAt Go.RowKit
set_option linter.unusedVariables false
/-! what rules name -/
def NmOk (tn : Nat) (x : Int) : Prop := x < 0 → ∃ n : Nat, x = -(n : Int) - 1 ∧ n < tn
theorem NmOk.up {a b : Nat} {x : Int} (h : NmOk a x) (hab : a ≤ b) : NmOk b x := fun hx => by
  obtain ⟨n, e, hn⟩ := h hx
  exact ⟨n, e, by omega⟩
def RlOk (l : Ld) : Prop := ∀ r ∈ l.rules, r.2.1.length ≤ 24 ∧ ∀ x ∈ r.2.1, NmOk l.terms.length x
def nmI (vars : List (List UInt8)) (sub : List Altn → Prop) (i : Itm) : Prop := (i.kind = 1 ∨ i.kind = 2 ∨ i.text ∈ vars) ∧ sub i.alts
def nmA (vars : List (List UInt8)) : Nat → List Altn → Prop
  | 0, bs => bs = []
  | k + 1, bs => ∀ a ∈ bs, ∀ i ∈ a.2.2, nmI vars (nmA vars k) i
def AllNm (l : Ld) : Prop := ∀ bs ∈ l.alts, ∃ k, nmA l.vars k bs
theorem nmA_nil (vars : List (List UInt8)) : ∀ k, nmA vars k []
  | 0 => rfl
  | _ + 1 => fun a h => by cases h
theorem nm_up {u v : List (List UInt8)} (h : ∀ x ∈ u, x ∈ v) : ∀ (k : Nat) (bs : List Altn), nmA u k bs → nmA v k bs
  | 0, bs, hb => hb
  | k + 1, bs, hb => fun a ha i hi => by
    obtain ⟨h1, h2⟩ := hb a ha i hi
    exact ⟨h1.imp id (fun h3 => h3.imp id (h _)), nm_up h k _ h2⟩
theorem wn_nm (vars : List (List UInt8)) : ∀ (k : Nat) (bs : List Altn), wfA k bs → wnA vars k bs = none → nmA vars k bs
  | 0, bs, hw, _ => hw
  | k + 1, bs, hw, h => by
    have hI : ∀ is : List Itm, (∀ i ∈ is, wfI (wfA k) i) → wnI vars (wnA vars k) is = none → ∀ i ∈ is, nmI vars (nmA vars k) i := by
      intro is
      induction is with
      | nil => intro _ _ i hi; cases hi
      | cons i is ih =>
        intro hwf hn
        unfold wnI at hn
        split at hn
        · cases hn
        · rename_i hc
          cases h2 : wnA vars k i.alts with
          | some e => rw [h2] at hn; cases hn
          | none =>
            rw [h2] at hn
            intro j hj
            rcases List.mem_cons.1 hj with rfl | hj
            · obtain ⟨hk, _, hs⟩ := hwf j List.mem_cons_self
              refine ⟨?_, wn_nm vars k _ hs h2⟩
              rcases hk with hk | hk | hk
              · refine .inr (.inr ?_)
                by_cases hm : j.text ∈ vars
                · exact hm
                · exact absurd ⟨hk, hm⟩ hc
              · exact .inl hk
              · exact .inr (.inl hk)
            · exact ih (fun j hj => hwf j (List.mem_cons_of_mem _ hj)) hn j hj
    have hB : ∀ bs : List Altn, (∀ a ∈ bs, ∀ i ∈ a.2.2, wfI (wfA k) i) → wnB vars (wnA vars k) bs = none → ∀ a ∈ bs, ∀ i ∈ a.2.2, nmI vars (nmA vars k) i := by
      intro bs
      induction bs with
      | nil => intro _ _ a ha; cases ha
      | cons a bs ih =>
        intro hwf hn
        unfold wnB at hn
        cases h2 : wnI vars (wnA vars k) a.2.2 with
        | some e => rw [h2] at hn; cases hn
        | none =>
          rw [h2] at hn
          intro b hb
          rcases List.mem_cons.1 hb with rfl | hb
          · exact hI _ (hwf b List.mem_cons_self) h2
          · exact ih (fun a ha => hwf a (List.mem_cons_of_mem _ ha)) hn b hb
    exact hB bs hw h
theorem wnD_all (vars : List (List UInt8)) : ∀ (ds : List Dfn), wnD vars ds = none → ∀ d ∈ ds, wnA vars 17 d.2.2 = none
  | [], _, d, hd => by cases hd
  | e :: ds, h, d, hd => by
    unfold wnD at h
    cases h2 : wnA vars 17 e.2.2 with
    | some q => rw [h2] at h; cases h
    | none =>
      rw [h2] at h
      rcases List.mem_cons.1 hd with rfl | hd
      · exact h2
      · exact wnD_all vars ds h d hd
theorem mean_nm {vars : List (List UInt8)} {i : Itm} {k : Nat} {x : List UInt8} (h : nmI vars (nmA vars k) i) (hx : x ∈ vars) : ∃ k', nmA vars k' (meanP i x) := by
  obtain ⟨h1, h3⟩ := h
  have ho : nmI vars (nmA vars k) (once i) := ⟨h1, h3⟩
  have hm : nmI vars (nmA vars k) (many i) := ⟨h1, h3⟩
  have hs : nmI vars (nmA vars k) (.mk i.at_ 0 x [] 0) := ⟨.inr (.inr hx), nmA_nil vars k⟩
  unfold meanP
  split
  · refine ⟨k + 1, fun a ha j hj => ?_⟩
    simp only [List.mem_cons, List.not_mem_nil, or_false] at ha
    rcases ha with rfl | rfl
    · obtain rfl : j = once i := by simpa using hj
      exact ho
    · cases hj
  · split
    · refine ⟨k + 1, fun a ha j hj => ?_⟩
      simp only [List.mem_cons, List.not_mem_nil, or_false] at ha
      rcases ha with rfl | rfl
      · simp only [List.mem_cons, List.not_mem_nil, or_false] at hj
        rcases hj with rfl | rfl
        · exact ho
        · exact hs
      · cases hj
    · split
      · refine ⟨k + 1, fun a ha j hj => ?_⟩
        simp only [List.mem_cons, List.not_mem_nil, or_false] at ha
        subst ha
        simp only [List.mem_cons, List.not_mem_nil, or_false] at hj
        rcases hj with rfl | rfl
        · exact ho
        · exact hm
      · exact ⟨k, h3⟩
theorem symP_nm {l l' : Ld} {i : Itm} {x : Int} {k : Nat} (hl : AllNm l) (hi : nmI l.vars (nmA l.vars k) i) (h : symP l i = .ok (l', x)) : AllNm l' ∧ NmOk l'.terms.length x ∧ l.terms.length ≤ l'.terms.length ∧ l'.rules = l.rules ∧ ∀ y ∈ l.vars, y ∈ l'.vars := by
  unfold symP at h
  split at h
  · unfold ldAdd at h
    split at h
    · rename_i e
      split at e
      · cases h
      · cases e
    · rename_i l1 e
      split at e
      · cases e
      · cases e
        cases h
        have hup : ∀ y ∈ l.vars, y ∈ l.vars ++ [gnm (newN l)] := fun y hy => List.mem_append_left _ hy
        refine ⟨?_, fun hx => ?_, Nat.le_refl _, rfl, hup⟩
        · intro bs hb
          rcases List.mem_append.1 hb with hb | hb
          · obtain ⟨k2, h2⟩ := hl bs hb
            exact ⟨k2, nm_up hup k2 _ h2⟩
          · rw [List.mem_singleton.1 hb]
            refine mean_nm (k := k) ⟨hi.1.imp id (fun h3 => h3.imp id (hup _)), nm_up hup k _ hi.2⟩ ?_
            show gnm (newN l) ∈ l.vars ++ [gnm (newN l)]
            simp
        · simp only [List.length_append, List.length_singleton] at hx
          omega
  · rename_i hop
    simp only [not_or, Decidable.not_not] at hop
    split at h
    · split at h
      · rename_i hm
        cases h
        exact ⟨hl, fun _ => ⟨_, rfl, List.idxOf_lt_length_of_mem hm⟩, Nat.le_refl _, rfl, fun _ h => h⟩
      · split at h
        · cases h
        · cases h
          exact ⟨hl, fun _ => ⟨l.terms.length, rfl, by simp⟩, by simp, rfl, fun _ h => h⟩
    · rename_i hk1
      cases h
      refine ⟨hl, fun hx => ?_, Nat.le_refl _, rfl, fun _ h => h⟩
      exfalso
      split at hx
      · omega
      · rename_i hm
        rcases hi.1 with h1 | h1 | h1
        · exact hk1 h1
        · exact hop.2 h1
        · exact hm h1
theorem symsP_nm : ∀ {is : List Itm} {l l' : Ld} {xs : List Int}, AllNm l → (∀ i ∈ is, ∃ k, nmI l.vars (nmA l.vars k) i) → symsP l is = .ok (l', xs) → AllNm l' ∧ (∀ x ∈ xs, NmOk l'.terms.length x) ∧ l.terms.length ≤ l'.terms.length ∧ l'.rules = l.rules ∧ (∀ y ∈ l.vars, y ∈ l'.vars) ∧ xs.length = is.length
  | [], l, l', xs, hl, _, h => by
    cases h
    exact ⟨hl, fun x hx => (by cases hx), Nat.le_refl _, rfl, fun _ h => h, rfl⟩
  | i :: is, l, l', xs, hl, hi, h => by
    unfold symsP at h
    cases h1 : symP l i with
    | error e => rw [h1] at h; cases h
    | ok y =>
      obtain ⟨l1, x⟩ := y
      rw [h1] at h
      simp only at h
      cases h2 : symsP l1 is with
      | error e => rw [h2] at h; cases h
      | ok z =>
        obtain ⟨l2, ys⟩ := z
        rw [h2] at h
        cases h
        obtain ⟨k, hk⟩ := hi i List.mem_cons_self
        obtain ⟨a1, a2, a3, a4, a5⟩ := symP_nm hl hk h1
        obtain ⟨b1, b2, b3, b4, b5, b6⟩ := symsP_nm a1 (fun j hj => by
          obtain ⟨k, hk⟩ := hi j (List.mem_cons_of_mem _ hj)
          exact ⟨k, hk.1.imp id (fun h3 => h3.imp id (a5 _)), nm_up a5 k _ hk.2⟩) h2
        refine ⟨b1, fun z hz => ?_, by omega, b4.trans a4, fun y hy => b5 y (a5 y hy), by simp [b6]⟩
        rcases List.mem_cons.1 hz with rfl | hz
        · exact a2.up b3
        · exact b2 z hz
structure LdNm (l : Ld) : Prop where
  nm : AllNm l
  rl : RlOk l
theorem ruleP_nm {l l' : Ld} {v : Nat} {a : Altn} (hl : LdNm l) (hi : ∀ i ∈ a.2.2, ∃ k, nmI l.vars (nmA l.vars k) i) (h : ruleP l v a = .ok l') : LdNm l' ∧ ∀ y ∈ l.vars, y ∈ l'.vars := by
  unfold ruleP at h
  split at h
  · cases h
  · rename_i hm
    cases h1 : symsP l a.2.2 with
    | error e => rw [h1] at h; cases h
    | ok y =>
      obtain ⟨l1, xs⟩ := y
      rw [h1] at h
      simp only at h
      obtain ⟨b1, b2, b3, b4, b5, b6⟩ := symsP_nm hl.nm hi h1
      split at h
      · cases h
      · cases h
        refine ⟨⟨b1, fun r hr => ?_⟩, b5⟩
        rcases List.mem_append.1 hr with hr | hr
        · rw [b4] at hr
          obtain ⟨c1, c2⟩ := hl.rl r hr
          exact ⟨c1, fun x hx => (c2 x hx).up b3⟩
        · rw [List.mem_singleton.1 hr]
          exact ⟨by show xs.length ≤ 24; omega, b2⟩
theorem altsP_nm : ∀ {zs : List Altn} {l l' : Ld} {v : Nat}, LdNm l → (∀ a ∈ zs, ∀ i ∈ a.2.2, ∃ k, nmI l.vars (nmA l.vars k) i) → altsP l v zs = .ok l' → LdNm l'
  | [], l, l', v, h, _, e => by cases e; exact h
  | a :: zs, l, l', v, h, hi, e => by
    unfold altsP at e
    cases h1 : ruleP l v a with
    | error q => rw [h1] at e; cases e
    | ok l1 =>
      rw [h1] at e
      obtain ⟨c1, c2⟩ := ruleP_nm h (hi a (by simp)) h1
      exact altsP_nm c1 (fun b hb i hib => by
        obtain ⟨k, hk⟩ := hi b (by simp [hb]) i hib
        exact ⟨k, hk.1.imp id (fun h3 => h3.imp id (c2 _)), nm_up c2 k _ hk.2⟩) e
theorem goP_nm : ∀ {f v : Nat} {l l' : Ld}, LdNm l → goP f v l = .ok l' → LdNm l'
  | 0, v, l, l', _, e => by cases e
  | f + 1, v, l, l', h, e => by
    unfold goP at e
    split at e
    · rename_i hv
      cases h1 : altsP l v (l.alts.getD v []) with
      | error q => rw [h1] at e; cases e
      | ok l1 =>
        rw [h1] at e
        have hm : l.alts.getD v [] ∈ l.alts := by
          rw [List.getD_eq_getElem?_getD, List.getElem?_eq_getElem hv]
          exact List.getElem_mem _
        obtain ⟨k, hk⟩ := h.nm _ hm
        refine goP_nm (altsP_nm h (fun a ha i hi => ?_) h1) e
        cases k with
        | zero => rw [show l.alts.getD v [] = [] from hk] at ha; cases ha
        | succ k => exact ⟨k, hk a ha i hi⟩
    · cases e; exact h
theorem goP_ok : ∀ {f v : Nat} {l l' : Ld}, LdOk l → goP f v l = .ok l' → LdOk l'
  | 0, v, l, l', _, e => by cases e
  | f + 1, v, l, l', h, e => by
    unfold goP at e
    split at e
    · cases h1 : altsP l v (l.alts.getD v []) with
      | error q => rw [h1] at e; cases e
      | ok l1 =>
        rw [h1] at e
        exact goP_ok (altsP_ok h h1).1 e
    · cases e; exact h
theorem defs_alts : ∀ {ds : List Dfn} {l l' : Ld}, ldDefs l ds = .ok l' → l'.rules = l.rules ∧ ∀ bs ∈ l'.alts, bs ∈ l.alts ∨ ∃ d ∈ ds, d.2.2 = bs
  | [], l, l', h => by cases h; exact ⟨rfl, fun bs hb => .inl hb⟩
  | d :: ds, l, l', h => by
    unfold ldDefs at h
    split at h
    · cases h
    · cases h2 : ldAdd l d.2.1 d.1 with
      | error e => rw [h2] at h; cases h
      | ok l1 =>
        rw [h2] at h
        have e1 : l1.rules = l.rules ∧ l1.alts = l.alts := by
          unfold ldAdd at h2
          split at h2
          · cases h2
          · cases h2; exact ⟨rfl, rfl⟩
        obtain ⟨k1, k2⟩ := defs_alts h
        refine ⟨k1.trans e1.1, fun bs hb => ?_⟩
        rcases k2 bs hb with h3 | ⟨d', hd', e⟩
        · have h3 : bs ∈ l1.alts ++ [d.2.2] := h3
          rcases List.mem_append.1 h3 with h3 | h3
          · exact .inl (e1.2 ▸ h3)
          · exact .inr ⟨d, List.mem_cons_self, (List.mem_singleton.1 h3).symm⟩
        · exact .inr ⟨d', List.mem_cons_of_mem _ hd', e⟩
/-- behind the names' test all is in order -/
theorem defs_nm {ds : List Dfn} {l : Ld} (h : ldDefs ld0 ds = .ok l) (hwf : ∀ d ∈ ds, wfA 17 d.2.2) (hw : wnD l.vars ds = none) : LdNm l := by
  obtain ⟨k1, k2⟩ := defs_alts h
  refine ⟨fun bs hb => ?_, fun r hr => ?_⟩
  · rcases k2 bs hb with h3 | ⟨d, hd, e⟩
    · cases h3
    · subst e
      exact ⟨17, wn_nm l.vars 17 _ (hwf d hd) (wnD_all l.vars ds hw d hd)⟩
  · rw [k1] at hr
    cases hr
end Go.Proofs.YtldamieigigncaaGreatDoor.lx
namespace Go.Proofs.YtldamieigigncaaGreatDoor.lx
open Go.ChangeShapes Go.WideShapes Go.ChangeAt Go.RowKit
set_option linter.unusedVariables false
set_option linter.unusedSimpArgs false
attribute [local go_sem] run_store_float
/-! each name is defined -/
def WnV (z : Option (Nat × Nat)) (e : Ending) : Prop := match z with
  | some q => e = .panicked [{ v := WrongG q.1 q.2, recovered := false }]
  | none => e = .returned (.tuple #[])
def WnT (XA : Nat → Prop) (gl B N : Nat) (tv vv rv av : Value) (l : Ld) (P : World → (Nat → Prop) → Value → List Altn → Prop) (f : List Altn → Option (Nat × Nat)) : Prop := ∀ (w : World) (A : Nat → Prop) (v : Value) (bs : List Altn), LdW XA gl B N tv vv rv av l w → P w A v bs → Calls Tryz.prog 24 #[.pointer (some ⟨gl, 0, none⟩), v] w fun e w' => WnV (f bs) e ∧ Below w.heap.size w w'
theorem wnB_err {vars : List (List UInt8)} {f : List Altn → Option (Nat × Nat)} {a : Altn} {zs : List Altn} {q : Nat × Nat} (h : wnI vars f a.2.2 = some q) : wnB vars f (a :: zs) = some q := by
  show (match wnI vars f a.2.2 with
    | some e => some e
    | none => wnB vars f zs) = _
  rw [h]
theorem wnB_go {vars : List (List UInt8)} {f : List Altn → Option (Nat × Nat)} {a : Altn} {zs : List Altn} (h : wnI vars f a.2.2 = none) : wnB vars f (a :: zs) = wnB vars f zs := by
  show (match wnI vars f a.2.2 with
    | some e => some e
    | none => wnB vars f zs) = _
  rw [h]
theorem wnI_none {vars : List (List UInt8)} {f : List Altn → Option (Nat × Nat)} {i : Itm} {is : List Itm} (h : i.kind = 0 ∧ i.text ∉ vars) : wnI vars f (i :: is) = some (9, i.at_) := by
  show (if i.kind = 0 ∧ i.text ∉ vars then _ else _) = _
  rw [if_pos h]
theorem wnI_err {vars : List (List UInt8)} {f : List Altn → Option (Nat × Nat)} {i : Itm} {is : List Itm} {q : Nat × Nat} (h : ¬ (i.kind = 0 ∧ i.text ∉ vars)) (hf : f i.alts = some q) : wnI vars f (i :: is) = some q := by
  show (if i.kind = 0 ∧ i.text ∉ vars then _ else match f i.alts with
    | some e => some e
    | none => wnI vars f is) = _
  rw [if_neg h, hf]
theorem wnI_go {vars : List (List UInt8)} {f : List Altn → Option (Nat × Nat)} {i : Itm} {is : List Itm} (h : ¬ (i.kind = 0 ∧ i.text ∉ vars)) (hf : f i.alts = none) : wnI vars f (i :: is) = wnI vars f is := by
  show (if i.kind = 0 ∧ i.text ∉ vars then _ else match f i.alts with
    | some e => some e
    | none => wnI vars f is) = _
  rw [if_neg h, hf]
set_option maxRecDepth 100000 in
set_option maxHeartbeats 8000000 in
theorem want_list {XA : Nat → Prop} {gl B N : Nat} {tv vv rv av : Value} {l : Ld} (P : World → (Nat → Prop) → Value → List Altn → Prop) (hP : KeepsP P) (hF : ∀ (w : World) (A : Nat → Prop) (v : Value) (bs : List Altn), P w A v bs → ∃ ao cap, v = .slice ao bs.length cap) (f : List Altn → Option (Nat × Nat)) (hrec : WnT XA gl B N tv vv rv av l P f) : WnT XA gl B N tv vv rv av l (fun w A v bs => ListOf 3 (EAlt P) w A v bs) (wnB l.vars f) := by
  intro w A v bs h h1
  obtain ⟨ao, cap, rfl⟩ := ListOf.form h1
  have hm31 := h1.1
  unfold maxLen at hm31
  obtain ⟨vo, vc, rfl⟩ := own_form h.vs
  have H := Lib.hid h
  have H1 := Lib.hid h1
  have HP := Lib.hid hP
  have HC := Lib.hid hrec
  have HF := Lib.hid hF
  generalize hZ : wnB l.vars f bs = Z at *
  have HZ := Lib.hid hZ
  generalize hn : bs.length = n at *
  have HN := Lib.hid hn
  clear h h1 hrec hP hF hZ hn
  go_enter Tryz.func24, Tryz.ntmps24
  go_wp2_with fail
  go_loopw [10] (fun i wr => ∃ q : Nat, i = .int .i64 q ∧ q ≤ n ∧ Below w.heap.size w wr ∧ wnB l.vars f (bs.drop q) = Z) (fun i _ => n - (intOf i).toNat)
  case atStart => exact ⟨0, rfl, Nat.zero_le _, Below.refl _ _, HZ.out⟩
  case round =>
    obtain ⟨q, rfl, hq, hbr, hz⟩ := hrel
    have HBR := Lib.hid hbr
    by_cases hlt : q < n
    · obtain ⟨a, ha⟩ : ∃ a, bs[q]? = some a := ⟨_, List.getElem?_eq_getElem (by rw [HN.out]; exact hlt)⟩
      obtain ⟨g, rfl, hg, cs, _, hcs, iv, rfl, hiv⟩ := ListOf.at2g (by rw [HN.out]; exact H1.out) ha
      obtain ⟨io, ic, rfl⟩ := hiv.form
      have hdr : bs.drop q = a :: bs.drop (q + 1) := by
        rw [List.drop_eq_getElem_cons (by rw [HN.out]; exact hlt), (List.getElem?_eq_some_iff.1 ha).2]
      rw [hdr] at hz
      have HZ2 := Lib.hid hz
      have HIV := Lib.hid hiv
      have hmI := hiv.1
      unfold maxLen at hmI
      obtain ⟨x1, x2, is⟩ := a
      simp only at hmI
      have c0 : wr.cell? ⟨g, q * 3, none⟩ = some (.int .i64 x1) := (hbr.cell (p := ⟨g, q * 3, none⟩) hg).trans (hcs 0 _ rfl)
      have c1 : wr.cell? ⟨g, q * 3 + 1, none⟩ = some (.float .f64 x2) := (hbr.cell (p := ⟨g, q * 3 + 1, none⟩) hg).trans (hcs 1 _ rfl)
      have c2 : wr.cell? ⟨g, q * 3 + 2, none⟩ = some (.slice io is.length ic) := (hbr.cell (p := ⟨g, q * 3 + 2, none⟩) hg).trans (hcs 2 _ rfl)
      generalize hm : is.length = m at *
      have HM := Lib.hid hm
      clear hiv hcs ha hbr hdr hz hm
      go_upto_region 3 with fail
      have b5 := Blk.new wr 124 #[.int .i64 x1, .float .f64 x2, .slice io m ic]
      have hb5 : Below wr.heap.size wr (wr.alloc (.cells #[.int .i64 x1, .float .f64 x2, .slice io m ic] 124)) := (Below.refl _ _).alloc (Nat.le_refl _) _
      clear c0 c1 c2
      generalize wr.alloc (.cells #[.int .i64 x1, .float .f64 x2, .slice io m ic] 124) = w5 at *
      have HB5 := Lib.hid (HBR.out.trans (hb5.mono HBR.out.size))
      have q2 : w5.cell? ⟨wr.heap.size, 2, none⟩ = some (.slice io m ic) := b5.cell 2
      have l5 := b5.lt
      clear b5 hb5
      go_wp2_with fail
      clear q2 l5
      obtain ⟨z5, hz5⟩ : ∃ z, wr.heap.size = z := ⟨_, rfl⟩
      rw [hz5]
      clear hz5
      go_loopw [17] (fun i w2 => ∃ r : Nat, i = .int .i64 r ∧ r ≤ m ∧ Below w.heap.size w w2 ∧ wnI l.vars f (is.drop r) = wnI l.vars f is) (fun i _ => m - (intOf i).toNat)
      case atStart => exact ⟨0, rfl, Nat.zero_le _, HB5.out, rfl⟩
      case round =>
        clear HB5
        obtain ⟨r, rfl, hr, hbr, hi⟩ := hrel
        have HBI := Lib.hid hbr
        have HWI := Lib.hid hi
        by_cases hlr : r < m
        · obtain ⟨y, hy⟩ : ∃ y, is[r]? = some y := ⟨_, List.getElem?_eq_getElem (by rw [HM.out]; exact hlr)⟩
          obtain ⟨g3, rfl, hg3, cs3, _, hcs3, ayv, rfl, hav⟩ := ListOf.at2g (by rw [HM.out]; exact HIV.out) hy
          obtain ⟨ay, cy, rfl⟩ := HF.out _ _ _ _ hav
          have hdi : is.drop r = y :: is.drop (r + 1) := by
            rw [List.drop_eq_getElem_cons (by rw [HM.out]; exact hlr), (List.getElem?_eq_some_iff.1 hy).2]
          rw [hdi] at hi
          replace HWI := Lib.hid hi
          obtain ⟨Y1, Y2, Y3, Y4, Y5⟩ := y
          simp only [Itm.at_, Itm.kind, Itm.text, Itm.alts, Itm.op] at hav
          have e0 : wr.cell? ⟨g3, r * 5, none⟩ = some (.int .i64 Y1) := (hbr.cell (p := ⟨g3, r * 5, none⟩) hg3).trans (hcs3 0 _ rfl)
          have e1 : wr.cell? ⟨g3, r * 5 + 1, none⟩ = some (.int .i64 Y2) := (hbr.cell (p := ⟨g3, r * 5 + 1, none⟩) hg3).trans (hcs3 1 _ rfl)
          have e2 : wr.cell? ⟨g3, r * 5 + 2, none⟩ = some (.string (S Y3)) := (hbr.cell (p := ⟨g3, r * 5 + 2, none⟩) hg3).trans (hcs3 2 _ rfl)
          have e3 : wr.cell? ⟨g3, r * 5 + 3, none⟩ = some (.slice ay Y4.length cy) := (hbr.cell (p := ⟨g3, r * 5 + 3, none⟩) hg3).trans (hcs3 3 _ rfl)
          have e4 : wr.cell? ⟨g3, r * 5 + 4, none⟩ = some (.int .u8 Y5) := (hbr.cell (p := ⟨g3, r * 5 + 4, none⟩) hg3).trans (hcs3 4 _ rfl)
          have HAV := Lib.hid hav
          clear hcs3 hav hy hbr hdi hi
          go_upto_region 6 with fail
          have b8 := Blk.new wr 126 #[.int .i64 Y1, .int .i64 Y2, .string (S Y3), .slice ay Y4.length cy, .int .u8 Y5]
          have hb8 : Below wr.heap.size wr (wr.alloc (.cells #[.int .i64 Y1, .int .i64 Y2, .string (S Y3), .slice ay Y4.length cy, .int .u8 Y5] 126)) := (Below.refl _ _).alloc (Nat.le_refl _) _
          clear e0 e1 e2 e3 e4
          generalize wr.alloc (.cells #[.int .i64 Y1, .int .i64 Y2, .string (S Y3), .slice ay Y4.length cy, .int .u8 Y5] 126) = w9 at *
          have HB9 := Lib.hid (HBI.out.trans (hb8.mono HBI.out.size))
          have HW9 := Lib.hid (H.out.below HB9.out)
          have c1 : w9.cell? ⟨gl, 1, none⟩ = some (.slice vo l.vars.length vc) := HW9.out.box.cell 1
          have m0 : w9.cell? ⟨wr.heap.size, 0, none⟩ = some (.int .i64 Y1) := b8.cell 0
          have m1 : w9.cell? ⟨wr.heap.size, 1, none⟩ = some (.int .i64 Y2) := b8.cell 1
          have m2 : w9.cell? ⟨wr.heap.size, 2, none⟩ = some (.string (S Y3)) := b8.cell 2
          have m3 : w9.cell? ⟨wr.heap.size, 3, none⟩ = some (.slice ay Y4.length cy) := b8.cell 3
          have lg := HW9.out.box.lt
          have lb := b8.lt
          have HB8 := Lib.hid b8
          have HCN := Lib.hid (fun wx (hx : Below w9.heap.size w9 wx) => contains_any wx _ (.slice vo l.vars.length vc) l.vars Y3 (strs_of (HW9.out.below hx).vs))
          generalize hvn : l.vars.length = vn at *
          clear hvn b8 hb8
          by_cases hk0 : Y2 = 0
          · subst hk0
            refine wp_region_E (fun W => Below w9.heap.size w9 W) [] (by kernel_rfl) ?_
            change anyE _ _ _ _ _ _ _ _ _ (World.drew _)
            have HS : Below w9.heap.size w9 (World.drew w9) := (Below.refl _ _).drew
            refine anyE_take (i := 0) (v := ?_) rfl (by kernel_rfl) (by kernel_rfl) (by kernel_rfl) (by kernel_rfl) (by kernel_rfl) (fun _ _ _ h => h) (Or.inl ⟨by kernel_rfl, ?_⟩) HS ?_
            rotate_left
            · intro wq _; go_simp; first | with_reducible rfl | (rw [if_neg (by omega)])
            refine anyE_take (i := 1) (v := ?_) rfl (by kernel_rfl) (by kernel_rfl) (by kernel_rfl) (by kernel_rfl) (by kernel_rfl) (fun _ _ _ h => h) (Or.inl ⟨by kernel_rfl, ?_⟩) HS ?_
            rotate_left
            · intro wq hw; have hw := (hw.cell (p := ⟨wr.heap.size, 1, none⟩) lb).trans m1; go_simp; with_reducible rfl
            refine anyE_take (i := 2) (v := ?_) rfl (by kernel_rfl) (by kernel_rfl) (by kernel_rfl) (by kernel_rfl) (by kernel_rfl) (fun _ _ _ h => h) (Or.inl ⟨by kernel_rfl, ?_⟩) HS ?_
            rotate_left
            · intro wq _; go_simp; first | with_reducible rfl | (rw [if_neg (by omega)])
            refine anyE_take (i := 3) (v := ?_) rfl (by kernel_rfl) (by kernel_rfl) (by kernel_rfl) (by kernel_rfl) (by kernel_rfl) (fun _ _ _ h => h) (Or.inl ⟨by kernel_rfl, ?_⟩) HS ?_
            rotate_left
            · intro wq _; go_simp; first | with_reducible rfl | (rw [if_neg (by omega)])
            refine anyE_take (i := 4) (v := ?_) rfl (by kernel_rfl) (by kernel_rfl) (by kernel_rfl) (by kernel_rfl) (by kernel_rfl) (fun _ _ _ h => h) (Or.inl ⟨by kernel_rfl, ?_⟩) HS ?_
            rotate_left
            · intro wq _; go_simp; first | with_reducible rfl | (rw [if_neg (by omega)])
            refine anyE_take (i := 5) (v := ?_) rfl (by kernel_rfl) (by kernel_rfl) (by kernel_rfl) (by kernel_rfl) (by kernel_rfl) (fun _ _ _ h => h) (Or.inl ⟨by kernel_rfl, ?_⟩) HS ?_
            rotate_left
            · intro wq _; go_simp; first | with_reducible rfl | (rw [if_neg (by omega)])
            refine anyE_take (i := 6) (v := ?_) rfl (by kernel_rfl) (by kernel_rfl) (by kernel_rfl) (by kernel_rfl) (by kernel_rfl) (fun _ _ _ h => h) (Or.inl ⟨by kernel_rfl, ?_⟩) HS ?_
            rotate_left
            · intro wq _; go_simp; first | with_reducible rfl | (rw [if_neg (by omega)])
            refine anyE_take (i := 7) (v := ?_) rfl (by kernel_rfl) (by kernel_rfl) (by kernel_rfl) (by kernel_rfl) (by kernel_rfl) (fun _ _ _ h => h) (Or.inl ⟨by kernel_rfl, ?_⟩) HS ?_
            rotate_left
            · intro wq _; go_simp; first | with_reducible rfl | (rw [if_neg (by omega)])
            refine anyE_take (i := 8) (v := ?_) rfl (by kernel_rfl) (by kernel_rfl) (by kernel_rfl) (by kernel_rfl) (by kernel_rfl) (fun _ _ _ h => h) (Or.inl ⟨by kernel_rfl, ?_⟩) HS ?_
            rotate_left
            · intro wq hw; have hw := (hw.cell (p := ⟨gl, 1, none⟩) lg).trans c1; go_simp; with_reducible rfl
            refine anyE_take (i := 9) (v := ?_) rfl (by kernel_rfl) (by kernel_rfl) (by kernel_rfl) (by kernel_rfl) (by kernel_rfl) (fun _ _ _ h => h) (Or.inl ⟨by kernel_rfl, ?_⟩) HS ?_
            rotate_left
            · intro wq _; go_simp; first | with_reducible rfl | (rw [if_neg (by omega)])
            refine anyE_take (i := 10) (v := ?_) rfl (by kernel_rfl) (by kernel_rfl) (by kernel_rfl) (by kernel_rfl) (by kernel_rfl) (fun _ _ _ h => h) (Or.inl ⟨by kernel_rfl, ?_⟩) HS ?_
            rotate_left
            · intro wq hw; have hw := (hw.cell (p := ⟨wr.heap.size, 2, none⟩) lb).trans m2; go_simp; with_reducible rfl
            refine anyE_ready (rs := [11]) (by kernel_rfl) (by simp) ?_
            refine ReadyE.cons rfl (by kernel_rfl) (fun K hK => ?_) ReadyE.nil
            go_simp
            go_at_call 61
            refine (HCN.out _ HS).mono ?_
            rintro e w2 ⟨rfl, rfl⟩
            refine hK.out _ _ (fun _ => HS) ?_
            clear hK K
            refine anyE_take (i := 12) (v := ?_) rfl (by kernel_rfl) (by kernel_rfl) (by kernel_rfl) (by kernel_rfl) (by kernel_rfl) (fun _ _ _ h => h) (Or.inl ⟨by kernel_rfl, ?_⟩) HS ?_
            rotate_left
            · intro wq _; go_simp; first | with_reducible rfl | (rw [if_neg (by omega)])
            by_cases hmem : Y3 ∈ l.vars
            · rw [decide_eq_true hmem]
              refine anyE_take (i := 13) (v := ?_) rfl (by kernel_rfl) (by kernel_rfl) (by kernel_rfl) (by kernel_rfl) (by kernel_rfl) (fun _ _ _ h => h) (Or.inl ⟨by kernel_rfl, ?_⟩) HS ?_
              rotate_left
              · intro wq _; go_simp; first | with_reducible rfl | (rw [if_neg (by omega)])
              refine anyE_done (by kernel_rfl) ?_ _
              have HC2 := Lib.hid (HC.out (World.drew w9) A (.slice ay Y4.length cy) Y4 (HW9.out.below HS) (HP.out _ _ _ A _ _ HAV.out (fun g hg hA => ⟨hA, (HB9.out.trans (HS.mono HB9.out.size)).block g hg⟩) (Nat.le_trans HB9.out.size HS.size)))
              have q0 : (World.drew w9).cell? ⟨wr.heap.size, 0, none⟩ = some (.int .i64 Y1) := (HS.cell (p := ⟨wr.heap.size, 0, none⟩) lb).trans m0
              have q3 : (World.drew w9).cell? ⟨wr.heap.size, 3, none⟩ = some (.slice ay Y4.length cy) := (HS.cell (p := ⟨wr.heap.size, 3, none⟩) lb).trans m3
              have HB2 := Lib.hid (HB9.out.trans (HS.mono HB9.out.size))
              have lb2 : wr.heap.size < (World.drew w9).heap.size := Nat.lt_of_lt_of_le lb HS.size
              clear c1 m0 m1 m2 m3 lg lb HB8 HCN HW9 HB9 HS
              generalize World.drew w9 = w2 at *
              cases hfa : f Y4 with
              | some z =>
                rw [hfa] at HC2
                have hwi := wnI_err (vars := l.vars) (is := is.drop (r + 1)) (i := .mk Y1 0 Y3 Y4 Y5) (fun h => h.2 hmem) hfa
                rw [HWI.out] at hwi
                have hzz := wnB_err (a := (x1, x2, is)) (zs := bs.drop (q + 1)) hwi
                rw [HZ2.out] at hzz
                have HZZ := Lib.hid hzz
                clear hwi hzz hfa
                go_wp2_with (go_at_call 24; refine HC2.out.mono ?_; rintro e w3 ⟨rfl, hb3⟩)
                exact ⟨rfl, by rw [HZZ.out]; exact ⟨rfl, HB2.out.trans (hb3.mono HB2.out.size)⟩⟩
              | none =>
                rw [hfa] at HC2
                have hwi := wnI_go (vars := l.vars) (is := is.drop (r + 1)) (i := .mk Y1 0 Y3 Y4 Y5) (fun h => h.2 hmem) hfa
                rw [HWI.out] at hwi
                have HWJ := Lib.hid hwi.symm
                clear hwi hfa
                go_wp2_with fail
                refine HC2.out.mono ?_
                rintro e w3 ⟨rfl, hb3⟩
                have HB3 := Lib.hid (HB2.out.trans (hb3.mono HB2.out.size))
                clear q0 q3 lb2 HC2 hb3
                go_wp2_with fail
                exact ⟨⟨r + 1, congrArg (Value.int .i64) (by omega), hlr, HB3.out, HWJ.out⟩, by simp only [intOf]; omega⟩
            · rw [decide_eq_false hmem]
              refine anyE_take (i := 13) (v := ?_) rfl (by kernel_rfl) (by kernel_rfl) (by kernel_rfl) (by kernel_rfl) (by kernel_rfl) (fun _ _ _ h => h) (Or.inl ⟨by kernel_rfl, ?_⟩) HS ?_
              rotate_left
              · intro wq _; go_simp; first | with_reducible rfl | (rw [if_neg (by omega)])
              refine anyE_done (by kernel_rfl) ?_ _
              have HC2 := Lib.hid (HC.out (World.drew w9) A (.slice ay Y4.length cy) Y4 (HW9.out.below HS) (HP.out _ _ _ A _ _ HAV.out (fun g hg hA => ⟨hA, (HB9.out.trans (HS.mono HB9.out.size)).block g hg⟩) (Nat.le_trans HB9.out.size HS.size)))
              have q0 : (World.drew w9).cell? ⟨wr.heap.size, 0, none⟩ = some (.int .i64 Y1) := (HS.cell (p := ⟨wr.heap.size, 0, none⟩) lb).trans m0
              have q3 : (World.drew w9).cell? ⟨wr.heap.size, 3, none⟩ = some (.slice ay Y4.length cy) := (HS.cell (p := ⟨wr.heap.size, 3, none⟩) lb).trans m3
              have HB2 := Lib.hid (HB9.out.trans (HS.mono HB9.out.size))
              have lb2 : wr.heap.size < (World.drew w9).heap.size := Nat.lt_of_lt_of_le lb HS.size
              clear c1 m0 m1 m2 m3 lg lb HB8 HCN HW9 HB9 HS
              generalize World.drew w9 = w2 at *
              have hwi := wnI_none (vars := l.vars) (f := f) (is := is.drop (r + 1)) (i := .mk Y1 0 Y3 Y4 Y5) ⟨rfl, hmem⟩
              rw [HWI.out] at hwi
              have hzz := wnB_err (a := (x1, x2, is)) (zs := bs.drop (q + 1)) hwi
              rw [HZ2.out] at hzz
              have HZZ := Lib.hid hzz
              have HFA := Lib.hid (gfail_any w2 9 Y1)
              clear hwi hzz
              go_wp2_with fail
              refine HFA.out.mono ?_
              rintro e w' ⟨rfl, rfl⟩
              exact ⟨rfl, by rw [HZZ.out]; exact ⟨rfl, HB2.out⟩⟩
          · have hk1 : ((Y2 : Int) == 0) = false := by rw [beq_eq_false_iff_ne]; omega
            refine wp_region_E (fun W => Below w9.heap.size w9 W) [] (by kernel_rfl) ?_
            change anyE _ _ _ _ _ _ _ _ _ (World.drew _)
            have HS : Below w9.heap.size w9 (World.drew w9) := (Below.refl _ _).drew
            refine anyE_take (i := 0) (v := ?_) rfl (by kernel_rfl) (by kernel_rfl) (by kernel_rfl) (by kernel_rfl) (by kernel_rfl) (fun _ _ _ h => h) (Or.inl ⟨by kernel_rfl, ?_⟩) HS ?_
            rotate_left
            · intro wq _; go_simp; first | with_reducible rfl | (rw [if_neg (by omega)])
            refine anyE_take (i := 1) (v := ?_) rfl (by kernel_rfl) (by kernel_rfl) (by kernel_rfl) (by kernel_rfl) (by kernel_rfl) (fun _ _ _ h => h) (Or.inl ⟨by kernel_rfl, ?_⟩) HS ?_
            rotate_left
            · intro wq hw; have hw := (hw.cell (p := ⟨wr.heap.size, 1, none⟩) lb).trans m1; go_simp; with_reducible rfl
            refine anyE_take (i := 2) (v := .bool false) rfl (by kernel_rfl) (by kernel_rfl) (by kernel_rfl) (by kernel_rfl) (by kernel_rfl) (fun _ _ _ h => h) (Or.inl ⟨by kernel_rfl, ?_⟩) HS ?_
            · intro wq _; go_simp; first | done | rw [hk1]
            refine anyE_take (i := 3) (v := ?_) rfl (by kernel_rfl) (by kernel_rfl) (by kernel_rfl) (by kernel_rfl) (by kernel_rfl) (fun _ _ _ h => h) (Or.inl ⟨by kernel_rfl, ?_⟩) HS ?_
            rotate_left
            · intro wq _; go_simp; first | with_reducible rfl | (rw [if_neg (by omega)])
            refine anyE_take (i := 4) (v := undef) rfl (by kernel_rfl) (by kernel_rfl) (by kernel_rfl) (by kernel_rfl) (by kernel_rfl) (fun _ _ _ h => h) (Or.inr ⟨by kernel_rfl, rfl⟩) HS ?_
            refine anyE_take (i := 5) (v := undef) rfl (by kernel_rfl) (by kernel_rfl) (by kernel_rfl) (by kernel_rfl) (by kernel_rfl) (fun _ _ _ h => h) (Or.inr ⟨by kernel_rfl, rfl⟩) HS ?_
            refine anyE_take (i := 6) (v := undef) rfl (by kernel_rfl) (by kernel_rfl) (by kernel_rfl) (by kernel_rfl) (by kernel_rfl) (fun _ _ _ h => h) (Or.inr ⟨by kernel_rfl, rfl⟩) HS ?_
            refine anyE_take (i := 7) (v := undef) rfl (by kernel_rfl) (by kernel_rfl) (by kernel_rfl) (by kernel_rfl) (by kernel_rfl) (fun _ _ _ h => h) (Or.inr ⟨by kernel_rfl, rfl⟩) HS ?_
            refine anyE_take (i := 8) (v := undef) rfl (by kernel_rfl) (by kernel_rfl) (by kernel_rfl) (by kernel_rfl) (by kernel_rfl) (fun _ _ _ h => h) (Or.inr ⟨by kernel_rfl, rfl⟩) HS ?_
            refine anyE_take (i := 9) (v := undef) rfl (by kernel_rfl) (by kernel_rfl) (by kernel_rfl) (by kernel_rfl) (by kernel_rfl) (fun _ _ _ h => h) (Or.inr ⟨by kernel_rfl, rfl⟩) HS ?_
            refine anyE_take (i := 10) (v := undef) rfl (by kernel_rfl) (by kernel_rfl) (by kernel_rfl) (by kernel_rfl) (by kernel_rfl) (fun _ _ _ h => h) (Or.inr ⟨by kernel_rfl, rfl⟩) HS ?_
            refine anyE_take (i := 11) (v := undef) rfl (by kernel_rfl) (by kernel_rfl) (by kernel_rfl) (by kernel_rfl) (by kernel_rfl) (fun _ _ _ h => h) (Or.inr ⟨by kernel_rfl, rfl⟩) HS ?_
            refine anyE_take (i := 12) (v := undef) rfl (by kernel_rfl) (by kernel_rfl) (by kernel_rfl) (by kernel_rfl) (by kernel_rfl) (fun _ _ _ h => h) (Or.inr ⟨by kernel_rfl, rfl⟩) HS ?_
            refine anyE_take (i := 13) (v := .bool false) rfl (by kernel_rfl) (by kernel_rfl) (by kernel_rfl) (by kernel_rfl) (by kernel_rfl) (fun _ _ _ h => h) (Or.inl ⟨by kernel_rfl, fun wq _ => by kernel_rfl⟩) HS ?_
            refine anyE_done (by kernel_rfl) ?_ _
            simp only [Act.put, List.setIfInBounds_toArray, List.set_cons_succ, List.set_cons_zero, List.getElem_toArray, List.getElem_cons_succ, List.getElem_cons_zero]
            have HC2 := Lib.hid (HC.out (World.drew w9) A (.slice ay Y4.length cy) Y4 (HW9.out.below HS) (HP.out _ _ _ A _ _ HAV.out (fun g hg hA => ⟨hA, (HB9.out.trans (HS.mono HB9.out.size)).block g hg⟩) (Nat.le_trans HB9.out.size HS.size)))
            have q0 : (World.drew w9).cell? ⟨wr.heap.size, 0, none⟩ = some (.int .i64 Y1) := (HS.cell (p := ⟨wr.heap.size, 0, none⟩) lb).trans m0
            have q3 : (World.drew w9).cell? ⟨wr.heap.size, 3, none⟩ = some (.slice ay Y4.length cy) := (HS.cell (p := ⟨wr.heap.size, 3, none⟩) lb).trans m3
            have HB2 := Lib.hid (HB9.out.trans (HS.mono HB9.out.size))
            have lb2 : wr.heap.size < (World.drew w9).heap.size := Nat.lt_of_lt_of_le lb HS.size
            clear c1 m0 m1 m2 m3 lg lb HB8 HCN HW9 HB9 HS
            generalize World.drew w9 = w2 at *
            cases hfa : f Y4 with
            | some z =>
              rw [hfa] at HC2
              have hwi := wnI_err (vars := l.vars) (is := is.drop (r + 1)) (i := .mk Y1 Y2 Y3 Y4 Y5) (fun h => hk0 h.1) hfa
              rw [HWI.out] at hwi
              have hzz := wnB_err (a := (x1, x2, is)) (zs := bs.drop (q + 1)) hwi
              rw [HZ2.out] at hzz
              have HZZ := Lib.hid hzz
              clear hwi hzz hfa
              go_wp2_with (go_at_call 24; refine HC2.out.mono ?_; rintro e w3 ⟨rfl, hb3⟩)
              exact ⟨rfl, by rw [HZZ.out]; exact ⟨rfl, HB2.out.trans (hb3.mono HB2.out.size)⟩⟩
            | none =>
              rw [hfa] at HC2
              have hwi := wnI_go (vars := l.vars) (is := is.drop (r + 1)) (i := .mk Y1 Y2 Y3 Y4 Y5) (fun h => hk0 h.1) hfa
              rw [HWI.out] at hwi
              have HWJ := Lib.hid hwi.symm
              clear hwi hfa
              go_wp2_with fail
              refine HC2.out.mono ?_
              rintro e w3 ⟨rfl, hb3⟩
              have HB3 := Lib.hid (HB2.out.trans (hb3.mono HB2.out.size))
              clear q0 q3 lb2 HC2 hb3
              go_wp2_with fail
              exact ⟨⟨r + 1, congrArg (Value.int .i64) (by omega), hlr, HB3.out, HWJ.out⟩, by simp only [intOf]; omega⟩
        · have hrm : r = m := by omega
          rw [hrm, ← HM.out, List.drop_length] at hi
          replace hi : none = wnI l.vars f is := hi
          have hzz := wnB_go (a := (x1, x2, is)) (zs := bs.drop (q + 1)) hi.symm
          rw [HZ2.out] at hzz
          have HZZ := Lib.hid hzz.symm
          subst hrm
          clear hi hzz hbr
          go_wp2_with fail
          exact ⟨⟨q + 1, congrArg (Value.int .i64) (by omega), hlt, HBI.out, HZZ.out⟩, by simp only [intOf]; omega⟩
    · have hqn : q = n := by omega
      rw [hqn, ← HN.out, List.drop_length] at hz
      replace hz : none = Z := hz
      have HZZ := Lib.hid hz
      subst hqn
      clear hz hbr
      go_wp2_with fail
      go_end0
      rw [← HZZ.out]
      exact ⟨rfl, HBR.out⟩
theorem want_any {XA : Nat → Prop} {gl B N : Nat} {tv vv rv av : Value} {l : Ld} : ∀ k, WnT XA gl B N tv vv rv av l (AltsAt k) (wnA l.vars k)
  | 0 => by
    intro w A v bs h hv
    obtain ⟨rfl, ao, cap, rfl⟩ := hv
    have := want_list (XA := XA) (gl := gl) (B := B) (N := N) (tv := tv) (vv := vv) (rv := rv) (av := av) (l := l) (fun _ _ _ _ => False) (fun _ _ _ _ _ _ h _ _ => h) (fun _ _ _ _ h => h.elim) (fun _ => none) (fun _ _ _ _ _ h => h.elim) w A (.slice ao 0 cap) [] h ⟨by decide, ao, cap, rfl, fun h => absurd h (by decide)⟩
    exact this
  | k + 1 => want_list (AltsAt k) (keepsAlts k) (fun _ _ _ _ h => h.form) (wnA l.vars k) (want_any k)
end Go.Proofs.YtldamieigigncaaGreatDoor.lx

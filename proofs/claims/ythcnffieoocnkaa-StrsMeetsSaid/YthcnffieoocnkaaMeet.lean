import Derived.Test.YthcnffieoocnkaaFew
namespace Go.Proofs.Ythcnffieoocnkaa.st
open Go.ChangeShapes Go.WideShapes Go.ChangeAt Go.RowKit Go.Maps Go.WideMaps Go.WideElems
set_option linter.unusedVariables false
/-! how many are in both, and in one of two -/
theorem both_len {A B M U : List (List UInt8)} (hA : A.Nodup) (hB : B.Nodup) (hM : M.Nodup) (hU : U.Nodup) (hm : ∀ x, x ∈ M ↔ x ∈ A ∧ x ∈ B) (hu : ∀ x, x ∈ U ↔ x ∈ A ∨ x ∈ B) : U.length + M.length = A.length + B.length := by
  have h1 : M.Perm (B.filter fun x => decide (x ∈ A)) := (List.perm_ext_iff_of_nodup hM (hB.filter _)).2 fun x => by rw [hm x]; simp [List.mem_filter, and_comm]
  have h2 : U.Perm (A ++ B.filter fun x => !decide (x ∈ A)) := (List.perm_ext_iff_of_nodup hU (by
    rw [List.nodup_append]
    refine ⟨hA, hB.filter _, fun a ha b hb e => ?_⟩
    subst e
    simp [List.mem_filter] at hb
    exact hb.2 ha)).2 fun x => by
      rw [hu x]
      simp [List.mem_filter]
      by_cases hx : x ∈ A <;> simp [hx]
  have e1 := h1.length_eq
  have e2 := h2.length_eq
  rw [List.length_append] at e2
  have e3 : (B.filter fun x => decide (x ∈ A)).length + (B.filter fun x => !decide (x ∈ A)).length = B.length := by
    clear h1 h2 e1 e2 hm hu hM hU hB
    induction B with
    | nil => rfl
    | cons b B ih => by_cases hb : b ∈ A <;> simp [hb] <;> omega
  omega
/-- a set, by its keys -/
structure SetK (B : Nat) (w : World) (t : Nat) (mo : Option Nat) (Ks : List (List UInt8)) : Prop where
  set : SetIs w t mo Ks
  lo : B ≤ t
  mlo : ∀ b, mo = some b → B ≤ b
  few : Ks.length ≤ 1000
theorem SetK.below {B : Nat} {w w' : World} {t : Nat} {mo : Option Nat} {Ks : List (List UInt8)} (h : SetK B w t mo Ks) (hb : Below w.heap.size w w') : SetK B w' t mo Ks := ⟨h.set.below hb, h.lo, h.mlo, h.few⟩
theorem SetX.k {B : Nat} {w : World} {t : Nat} {X : List (List Int)} {mo : Option Nat} {Ks : List (List UInt8)} (h : SetX B w t X mo Ks) : SetK B w t mo Ks := ⟨h.set, h.lo, h.mlo, h.few⟩
theorem meet_k {B B' : Nat} (w : World) (s t : Nat) (mo mt : Option Nat) (Ks Kt : List (List UInt8)) (h : SetK B w s mo Ks) (ht : SetK B' w t mt Kt) : Calls Try.prog 27 #[.pointer (some ⟨s, 0, none⟩), .pointer (some ⟨t, 0, none⟩)] w fun e w' => ∃ o m2 Km, e = .returned (.pointer (some ⟨o, 0, none⟩)) ∧ SetK w.heap.size w' o m2 Km ∧ (∀ x, x ∈ Km ↔ x ∈ Ks ∧ x ∈ Kt) ∧ Below w.heap.size w w' :=
  (meet_any w s t mo mt Ks Kt (by have := h.few; unfold maxLen; omega) h.set ht.set).mono fun e w' ⟨o, he, hlo, ⟨m2, Ko, h1, h2, h3, h4⟩, hb⟩ => ⟨o, m2, Ko, he, ⟨h1, hlo, h2, by have := h.few; omega⟩, fun x => by
    rw [h3 x]
    constructor
    · rintro ⟨k, hk, rfl, hk2⟩; exact ⟨hk, hk2⟩
    · rintro ⟨h1, h2⟩; exact ⟨x, h1, rfl, h2⟩, hb⟩
theorem same_k {B B' : Nat} (w : World) (s t : Nat) (mo mt : Option Nat) (Ks Kt : List (List UInt8)) (h : SetK B w s mo Ks) (ht : SetK B' w t mt Kt) (he : ∀ x, x ∈ Ks ↔ x ∈ Kt) : Calls Try.prog 24 #[.pointer (some ⟨s, 0, none⟩), .pointer (some ⟨t, 0, none⟩)] w fun e w' => e = .returned (.bool true) ∧ Below w.heap.size w w' :=
  (same_any w s t mo mt Ks Kt h.set ht.set (by have := h.few; unfold maxLen; omega) (by have := ht.few; unfold maxLen; omega)).mono fun e w' ⟨r, h1, h2, hb⟩ => ⟨by rw [h1, h2.2 he], hb⟩
theorem take_k {B B0 : Nat} {w w' : World} {s : Nat} {mo mo' : Option Nat} {Ks Ko : List (List UInt8)} (h : SetK B w s mo Ks) (hB : B0 ≤ B) (hz : B0 ≤ w.heap.size) (hs : SetIs w' s mo' Ko) (hm : mo' = mo ∨ ∃ b, mo' = some b ∧ w.heap.size ≤ b) (hl : Ko.length ≤ 1000) : SetK B0 w' s mo' Ko :=
  ⟨hs, by have := h.lo; omega, fun b e => by
    rcases hm with e2 | ⟨b', e2, hb⟩
    · have := h.mlo b (e2 ▸ e); omega
    · rw [e] at e2; have := Option.some.inj e2; omega, hl⟩
theorem take_t {B B' B0 : Nat} {w w' : World} {s t : Nat} {mo mt : Option Nat} {Ks Kt : List (List UInt8)} (h : SetK B w s mo Ks) (ht : SetK B' w t mt Kt) (hst : s ≠ t) (hmm : ∀ b, mo = some b → mt ≠ some b) (hk : Kp (fun i => i = s ∨ mo = some i) w w') (hB : B0 ≤ B') : SetK B0 w' t mt Kt :=
  ⟨ht.set.kept hk (fun e => e.elim (fun e => hst e.symm) (fun e => SetIs.ne ht.set (e ▸ h.set) rfl)) (fun b hb e => by
    subst hb
    exact e.elim (fun e => SetIs.ne h.set ht.set e.symm) (fun e => hmm b e rfl)), by have := ht.lo; omega, fun b e => by have := ht.mlo b e; omega, ht.few⟩
theorem take_d {B : Nat} {w0 w w' : World} {s : Nat} {mo : Option Nat} {Ks : List (List UInt8)} (hd : Below w0.heap.size w0 w) (h : SetK B w s mo Ks) (hB : w0.heap.size ≤ B) (hk : Kp (fun i => i = s ∨ mo = some i) w w') : Below w0.heap.size w0 w' :=
  ⟨hk.os.trans hd.os, hk.tape.trans hd.tape, hk.output.trans hd.output, Nat.le_trans hd.size hk.size, fun i hi => (hk.block i (by have := hd.size; omega) (fun e => e.elim (fun e => by have := h.lo; omega) (fun e => by have := h.mlo i e; omega))).trans (hd.block i hi)⟩
set_option maxRecDepth 100000 in
set_option maxHeartbeats 2000000 in
theorem meets_main (w : World) (va vb : Value) (ko : Option Addr) (kc : Nat) (A C : List (List Int)) (q : List Int) (ha : RowsAt w va A) (hb : RowsAt w vb C) (hq : RowAt w (.slice ko q.length kc) q) (fa : FewP A) (fb : FewP C) (fq : q.length ≤ 20) : Calls Try.prog 7 #[va, vb, .slice ko q.length kc] w fun e w' => e = .returned (.bool true) ∧ Below w.heap.size w w' := by
  have HA := Lib.hid ha
  have HC := Lib.hid hb
  have HQ := Lib.hid hq
  have HFA := Lib.hid fa
  have HFB := Lib.hid fb
  clear ha hb hq fa fb
  go_enter Try.func7, Try.ntmps7
  go_wp2_with fail
  refine (alive_any _).mono ?_
  rintro e w1 ⟨rfl, b1⟩
  have f1 := few_any w1 va A (HA.out.below b1)
  rw [decide_eq_true HFA.out] at f1
  go_wp2_with fail
  refine f1.mono ?_
  rintro e w2 ⟨rfl, rfl⟩
  clear f1
  have f2 := few_any w1 vb C (HC.out.below b1)
  rw [decide_eq_true HFB.out] at f2
  go_wp2_with fail
  refine f2.mono ?_
  rintro e w2 ⟨rfl, rfl⟩
  clear f2
  have o1 := of_x w1 va A ((HA.out.below b1).words HFA.out) (HA.out.fine HFA.out) (by have := HFA.out.1; omega)
  go_wp2_with fail
  refine o1.mono ?_
  rintro e w2 ⟨s, mo, Ks, rfl, hs, hsl, b2⟩
  clear o1
  have b12 := b1.trans (b2.mono b1.size)
  have o2 := of_x w2 vb C ((HC.out.below b12).words HFB.out) (HC.out.fine HFB.out) (by have := HFB.out.1; omega)
  have HB1 := Lib.hid b1
  have HB2 := Lib.hid b2
  clear b1 b2
  go_wp2_with fail
  refine o2.mono ?_
  rintro e w3 ⟨t, mt, Kt, rfl, ht, htl, b3⟩
  clear o2
  have hs3 := hs.k.below b3
  have m1 := meet_k w3 s t mo mt Ks Kt hs3 ht.k
  have hst : s ≠ t := by have := hs.set.lt; have := ht.lo; omega
  have hmm : ∀ b, mo = some b → mt ≠ some b := fun b e e2 => by
    subst e
    have := hs.set.lt_map
    have := ht.mlo b e2
    omega
  have HMM := Lib.hid hmm
  have HS := Lib.hid hs3
  have HT := Lib.hid ht.k
  have HD3 := Lib.hid (b12.trans (b3.mono b12.size))
  clear hs hs3 ht b3 b12 hmm
  go_wp2_with fail
  refine m1.mono ?_
  rintro e w4 ⟨m, mm, Km, rfl, hm, hmk, b4⟩
  clear m1
  have hs4 := HS.out.below b4
  have ht4 := HT.out.below b4
  have HD4 := Lib.hid (HD3.out.trans (b4.mono HD3.out.size))
  have HS4 := Lib.hid hs4
  have HT4 := Lib.hid ht4
  have HM4 := Lib.hid hm
  have HMK := Lib.hid hmk
  have l1 := len_any w4 s mo Ks hs4.set
  have l2 := len_any w4 t mt Kt ht4.set
  have l3 := len_any w4 m mm Km hm.set
  have n1 := hs4.few
  have n2 := ht4.few
  have n3 := hm.few
  clear hs4 ht4 hm hmk b4
  go_wp2_with fail
  refine l1.mono ?_
  rintro e w5 ⟨rfl, rfl⟩
  go_wp2_with fail
  refine l2.mono ?_
  rintro e w5 ⟨rfl, rfl⟩
  go_wp2_with fail
  refine l3.mono ?_
  rintro e w5 ⟨rfl, rfl⟩
  clear l1 l2 l3
  by_cases hp : keyB q ∈ Ks
  · by_cases hq2 : keyB q ∈ Kt
    · have hmd : decide (keyB q ∈ Km) = true := decide_eq_true ((HMK.out _).2 ⟨hp, hq2⟩)
      have hpd : decide (keyB q ∈ Ks) = true := decide_eq_true hp
      have hqd : decide (keyB q ∈ Kt) = true := decide_eq_true hq2
      have HPM := Lib.hid hmd
      have HPD := Lib.hid hpd
      have HQD := Lib.hid hqd
      clear hmd hpd hqd
      have c4 := has_any w4 m mm Km _ q HM4.out.set (HQ.out.below HD4.out).word (by omega)
      rw [HPM.out] at c4
      go_wp2_with fail
      refine c4.mono ?_
      rintro e w5 ⟨rfl, b5⟩
      clear c4
      have HS5 := Lib.hid (HS4.out.below b5)
      have HT5 := Lib.hid (HT4.out.below b5)
      have HM5 := Lib.hid (HM4.out.below b5)
      have HD5 := Lib.hid (HD4.out.trans (b5.mono HD4.out.size))
      clear b5
      have c5 := has_any w5 s mo Ks _ q HS5.out.set (HQ.out.below HD5.out).word (by omega)
      rw [HPD.out] at c5
      go_wp2_with fail
      refine c5.mono ?_
      rintro e w6 ⟨rfl, b6⟩
      clear c5
      have HS6 := Lib.hid (HS5.out.below b6)
      have HT6 := Lib.hid (HT5.out.below b6)
      have HM6 := Lib.hid (HM5.out.below b6)
      have HD6 := Lib.hid (HD5.out.trans (b6.mono HD5.out.size))
      clear b6
      have c6 := has_any w6 t mt Kt _ q HT6.out.set (HQ.out.below HD6.out).word (by omega)
      rw [HQD.out] at c6
      go_wp2_with fail
      refine c6.mono ?_
      rintro e w7 ⟨rfl, b7⟩
      clear c6
      have HS7 := Lib.hid (HS6.out.below b7)
      have HT7 := Lib.hid (HT6.out.below b7)
      have HM7 := Lib.hid (HM6.out.below b7)
      have HD7 := Lib.hid (HD6.out.trans (b7.mono HD6.out.size))
      clear b7
      have c := meet_k w7 t s mt mo Kt Ks HT7.out HS7.out
      go_wp2_with fail
      refine c.mono ?_
      rintro e w8 ⟨m2, mm2, Km2, rfl, hm2, hmk2, b8⟩
      clear c
      have c := same_k w8 m m2 mm mm2 Km Km2 (HM7.out.below b8) hm2 (fun x => by rw [HMK.out x, hmk2 x]; exact and_comm)
      clear hm2 hmk2
      have HS8 := Lib.hid (HS7.out.below b8)
      have HT8 := Lib.hid (HT7.out.below b8)
      have HD8 := Lib.hid (HD7.out.trans (b8.mono HD7.out.size))
      clear b8
      go_wp2_with fail
      refine c.mono ?_
      rintro e w9 ⟨rfl, b9⟩
      clear c
      have HS9 := Lib.hid (HS8.out.below b9)
      have HT9 := Lib.hid (HT8.out.below b9)
      have HD9 := Lib.hid (HD8.out.trans (b9.mono HD8.out.size))
      clear b9
      have c9 := has_any w9 s mo Ks _ q HS9.out.set (HQ.out.below HD9.out).word (by omega)
      rw [HPD.out] at c9
      go_wp2_with fail
      refine c9.mono ?_
      rintro e w10 ⟨rfl, b10⟩
      clear c9
      have HS10 := Lib.hid (HS9.out.below b10)
      have HT10 := Lib.hid (HT9.out.below b10)
      have HD10 := Lib.hid (HD9.out.trans (b10.mono HD9.out.size))
      clear b10
      have c := take_any w10 s t mo mt Ks Kt hst HMM.out (by unfold maxLen; omega) HS10.out.set HT10.out.set
      go_wp2_with fail
      refine c.mono ?_
      rintro e w11 ⟨d, rfl, ⟨mo2, Ko, hs9, hmo9, hmem9, hlen9, hd9⟩, hk9⟩
      clear c
      have hsk : SetK w.heap.size w11 s mo2 Ko := take_k HS10.out (Nat.le_trans HB1.out.size (Nat.le_refl _)) HD10.out.size hs9 hmo9 (by have := HFA.out.1; have := HFB.out.1; omega)
      have htk : SetK w.heap.size w11 t mt Kt := take_t HS10.out HT10.out hst HMM.out hk9 (Nat.le_trans HB1.out.size HB2.out.size)
      have hdk : Below w.heap.size w w11 := take_d HD10.out HS10.out HB1.out.size hk9
      have hlen : Ko.length + Km.length = Ks.length + Kt.length := both_len HS.out.set.nodup HT.out.set.nodup HM4.out.set.nodup hs9.nodup HMK.out hmem9
      have hcmp : ((Ko.length : Int) == (Ks.length : Int) + (Kt.length : Int) - (Km.length : Int)) = true := by simp; omega
      have hod : decide (keyB q ∈ Ko) = true := decide_eq_true ((hmem9 _).2 (.inl hp))
      have l9 := len_any w11 s mo2 Ko hsk.set
      have HOD := Lib.hid hod
      have HSK := Lib.hid hsk
      have HTK := Lib.hid htk
      have HDK := Lib.hid hdk
      have HME := Lib.hid hmem9
      clear hod hsk htk hdk hs9 hmo9 hmem9 hk9 hlen
      have n9 : Ko.length ≤ 2000 := by omega
      clear hlen9 hd9
      go_wp2_with fail
      refine l9.mono ?_
      rintro e w12 ⟨rfl, rfl⟩
      clear l9
      have c11 := has_any w11 s mo2 Ko _ q HSK.out.set (HQ.out.below HDK.out).word (by omega)
      rw [HOD.out] at c11
      go_wp2_with fail
      refine c11.mono ?_
      rintro e w12 ⟨rfl, b12⟩
      clear c11
      have HS12 := Lib.hid (HSK.out.below b12)
      have HT12 := Lib.hid (HTK.out.below b12)
      have HD12 := Lib.hid (HDK.out.trans (b12.mono HDK.out.size))
      clear b12
      have c := meet_k w12 s t mo2 mt Ko Kt HS12.out HT12.out
      go_wp2_with fail
      refine c.mono ?_
      rintro e w13 ⟨m3, mm3, Km3, rfl, hm3, hmk3, b13⟩
      clear c
      have c := same_k w13 m3 t mm3 mt Km3 Kt hm3 (HT12.out.below b13) (fun x => by rw [hmk3 x, HME.out x]; exact ⟨fun h => h.2, fun h => ⟨.inr h, h⟩⟩)
      clear hm3 hmk3
      have HD13 := Lib.hid (HD12.out.trans (b13.mono HD12.out.size))
      clear b13
      go_wp2_with fail
      refine c.mono ?_
      rintro e w14 ⟨rfl, b14⟩
      clear c
      have HD14 := Lib.hid (HD13.out.trans (b14.mono HD13.out.size))
      clear b14
      go_wp2_with fail
      go_ret
      exact ⟨rfl, HD14.out⟩
    · have hmd : decide (keyB q ∈ Km) = false := decide_eq_false (fun h => hq2 ((HMK.out _).1 h).2)
      have hpd : decide (keyB q ∈ Ks) = true := decide_eq_true hp
      have hqd : decide (keyB q ∈ Kt) = false := decide_eq_false hq2
      have HPM := Lib.hid hmd
      have HPD := Lib.hid hpd
      have HQD := Lib.hid hqd
      clear hmd hpd hqd
      have c4 := has_any w4 m mm Km _ q HM4.out.set (HQ.out.below HD4.out).word (by omega)
      rw [HPM.out] at c4
      go_wp2_with fail
      refine c4.mono ?_
      rintro e w5 ⟨rfl, b5⟩
      clear c4
      have HS5 := Lib.hid (HS4.out.below b5)
      have HT5 := Lib.hid (HT4.out.below b5)
      have HM5 := Lib.hid (HM4.out.below b5)
      have HD5 := Lib.hid (HD4.out.trans (b5.mono HD4.out.size))
      clear b5
      have c5 := has_any w5 s mo Ks _ q HS5.out.set (HQ.out.below HD5.out).word (by omega)
      rw [HPD.out] at c5
      go_wp2_with fail
      refine c5.mono ?_
      rintro e w6 ⟨rfl, b6⟩
      clear c5
      have HS6 := Lib.hid (HS5.out.below b6)
      have HT6 := Lib.hid (HT5.out.below b6)
      have HM6 := Lib.hid (HM5.out.below b6)
      have HD6 := Lib.hid (HD5.out.trans (b6.mono HD5.out.size))
      clear b6
      have c6 := has_any w6 t mt Kt _ q HT6.out.set (HQ.out.below HD6.out).word (by omega)
      rw [HQD.out] at c6
      go_wp2_with fail
      refine c6.mono ?_
      rintro e w7 ⟨rfl, b7⟩
      clear c6
      have HS7 := Lib.hid (HS6.out.below b7)
      have HT7 := Lib.hid (HT6.out.below b7)
      have HM7 := Lib.hid (HM6.out.below b7)
      have HD7 := Lib.hid (HD6.out.trans (b7.mono HD6.out.size))
      clear b7
      have c := meet_k w7 t s mt mo Kt Ks HT7.out HS7.out
      go_wp2_with fail
      refine c.mono ?_
      rintro e w8 ⟨m2, mm2, Km2, rfl, hm2, hmk2, b8⟩
      clear c
      have c := same_k w8 m m2 mm mm2 Km Km2 (HM7.out.below b8) hm2 (fun x => by rw [HMK.out x, hmk2 x]; exact and_comm)
      clear hm2 hmk2
      have HS8 := Lib.hid (HS7.out.below b8)
      have HT8 := Lib.hid (HT7.out.below b8)
      have HD8 := Lib.hid (HD7.out.trans (b8.mono HD7.out.size))
      clear b8
      go_wp2_with fail
      refine c.mono ?_
      rintro e w9 ⟨rfl, b9⟩
      clear c
      have HS9 := Lib.hid (HS8.out.below b9)
      have HT9 := Lib.hid (HT8.out.below b9)
      have HD9 := Lib.hid (HD8.out.trans (b9.mono HD8.out.size))
      clear b9
      have c9 := has_any w9 s mo Ks _ q HS9.out.set (HQ.out.below HD9.out).word (by omega)
      rw [HPD.out] at c9
      go_wp2_with fail
      refine c9.mono ?_
      rintro e w10 ⟨rfl, b10⟩
      clear c9
      have HS10 := Lib.hid (HS9.out.below b10)
      have HT10 := Lib.hid (HT9.out.below b10)
      have HD10 := Lib.hid (HD9.out.trans (b10.mono HD9.out.size))
      clear b10
      have c := take_any w10 s t mo mt Ks Kt hst HMM.out (by unfold maxLen; omega) HS10.out.set HT10.out.set
      go_wp2_with fail
      refine c.mono ?_
      rintro e w11 ⟨d, rfl, ⟨mo2, Ko, hs9, hmo9, hmem9, hlen9, hd9⟩, hk9⟩
      clear c
      have hsk : SetK w.heap.size w11 s mo2 Ko := take_k HS10.out (Nat.le_trans HB1.out.size (Nat.le_refl _)) HD10.out.size hs9 hmo9 (by have := HFA.out.1; have := HFB.out.1; omega)
      have htk : SetK w.heap.size w11 t mt Kt := take_t HS10.out HT10.out hst HMM.out hk9 (Nat.le_trans HB1.out.size HB2.out.size)
      have hdk : Below w.heap.size w w11 := take_d HD10.out HS10.out HB1.out.size hk9
      have hlen : Ko.length + Km.length = Ks.length + Kt.length := both_len HS.out.set.nodup HT.out.set.nodup HM4.out.set.nodup hs9.nodup HMK.out hmem9
      have hcmp : ((Ko.length : Int) == (Ks.length : Int) + (Kt.length : Int) - (Km.length : Int)) = true := by simp; omega
      have hod : decide (keyB q ∈ Ko) = true := decide_eq_true ((hmem9 _).2 (.inl hp))
      have l9 := len_any w11 s mo2 Ko hsk.set
      have HOD := Lib.hid hod
      have HSK := Lib.hid hsk
      have HTK := Lib.hid htk
      have HDK := Lib.hid hdk
      have HME := Lib.hid hmem9
      clear hod hsk htk hdk hs9 hmo9 hmem9 hk9 hlen
      have n9 : Ko.length ≤ 2000 := by omega
      clear hlen9 hd9
      go_wp2_with fail
      refine l9.mono ?_
      rintro e w12 ⟨rfl, rfl⟩
      clear l9
      have c11 := has_any w11 s mo2 Ko _ q HSK.out.set (HQ.out.below HDK.out).word (by omega)
      rw [HOD.out] at c11
      go_wp2_with fail
      refine c11.mono ?_
      rintro e w12 ⟨rfl, b12⟩
      clear c11
      have HS12 := Lib.hid (HSK.out.below b12)
      have HT12 := Lib.hid (HTK.out.below b12)
      have HD12 := Lib.hid (HDK.out.trans (b12.mono HDK.out.size))
      clear b12
      have c := meet_k w12 s t mo2 mt Ko Kt HS12.out HT12.out
      go_wp2_with fail
      refine c.mono ?_
      rintro e w13 ⟨m3, mm3, Km3, rfl, hm3, hmk3, b13⟩
      clear c
      have c := same_k w13 m3 t mm3 mt Km3 Kt hm3 (HT12.out.below b13) (fun x => by rw [hmk3 x, HME.out x]; exact ⟨fun h => h.2, fun h => ⟨.inr h, h⟩⟩)
      clear hm3 hmk3
      have HD13 := Lib.hid (HD12.out.trans (b13.mono HD12.out.size))
      clear b13
      go_wp2_with fail
      refine c.mono ?_
      rintro e w14 ⟨rfl, b14⟩
      clear c
      have HD14 := Lib.hid (HD13.out.trans (b14.mono HD13.out.size))
      clear b14
      go_wp2_with fail
      go_ret
      exact ⟨rfl, HD14.out⟩
  · by_cases hq2 : keyB q ∈ Kt
    · have hmd : decide (keyB q ∈ Km) = false := decide_eq_false (fun h => hp ((HMK.out _).1 h).1)
      have hpd : decide (keyB q ∈ Ks) = false := decide_eq_false hp
      have hqd : decide (keyB q ∈ Kt) = true := decide_eq_true hq2
      have HPM := Lib.hid hmd
      have HPD := Lib.hid hpd
      have HQD := Lib.hid hqd
      clear hmd hpd hqd
      have c4 := has_any w4 m mm Km _ q HM4.out.set (HQ.out.below HD4.out).word (by omega)
      rw [HPM.out] at c4
      go_wp2_with fail
      refine c4.mono ?_
      rintro e w5 ⟨rfl, b5⟩
      clear c4
      have HS5 := Lib.hid (HS4.out.below b5)
      have HT5 := Lib.hid (HT4.out.below b5)
      have HM5 := Lib.hid (HM4.out.below b5)
      have HD5 := Lib.hid (HD4.out.trans (b5.mono HD4.out.size))
      clear b5
      have c5 := has_any w5 s mo Ks _ q HS5.out.set (HQ.out.below HD5.out).word (by omega)
      rw [HPD.out] at c5
      go_wp2_with fail
      refine c5.mono ?_
      rintro e w6 ⟨rfl, b6⟩
      clear c5
      have HS6 := Lib.hid (HS5.out.below b6)
      have HT6 := Lib.hid (HT5.out.below b6)
      have HM6 := Lib.hid (HM5.out.below b6)
      have HD6 := Lib.hid (HD5.out.trans (b6.mono HD5.out.size))
      clear b6
      have c := meet_k w6 t s mt mo Kt Ks HT6.out HS6.out
      go_wp2_with fail
      refine c.mono ?_
      rintro e w7 ⟨m2, mm2, Km2, rfl, hm2, hmk2, b7⟩
      clear c
      have c := same_k w7 m m2 mm mm2 Km Km2 (HM6.out.below b7) hm2 (fun x => by rw [HMK.out x, hmk2 x]; exact and_comm)
      clear hm2 hmk2
      have HS7 := Lib.hid (HS6.out.below b7)
      have HT7 := Lib.hid (HT6.out.below b7)
      have HD7 := Lib.hid (HD6.out.trans (b7.mono HD6.out.size))
      clear b7
      go_wp2_with fail
      refine c.mono ?_
      rintro e w8 ⟨rfl, b8⟩
      clear c
      have HS8 := Lib.hid (HS7.out.below b8)
      have HT8 := Lib.hid (HT7.out.below b8)
      have HD8 := Lib.hid (HD7.out.trans (b8.mono HD7.out.size))
      clear b8
      have c8 := has_any w8 s mo Ks _ q HS8.out.set (HQ.out.below HD8.out).word (by omega)
      rw [HPD.out] at c8
      go_wp2_with fail
      refine c8.mono ?_
      rintro e w9 ⟨rfl, b9⟩
      clear c8
      have HS9 := Lib.hid (HS8.out.below b9)
      have HT9 := Lib.hid (HT8.out.below b9)
      have HD9 := Lib.hid (HD8.out.trans (b9.mono HD8.out.size))
      clear b9
      have c := take_any w9 s t mo mt Ks Kt hst HMM.out (by unfold maxLen; omega) HS9.out.set HT9.out.set
      go_wp2_with fail
      refine c.mono ?_
      rintro e w10 ⟨d, rfl, ⟨mo2, Ko, hs9, hmo9, hmem9, hlen9, hd9⟩, hk9⟩
      clear c
      have hsk : SetK w.heap.size w10 s mo2 Ko := take_k HS9.out (Nat.le_trans HB1.out.size (Nat.le_refl _)) HD9.out.size hs9 hmo9 (by have := HFA.out.1; have := HFB.out.1; omega)
      have htk : SetK w.heap.size w10 t mt Kt := take_t HS9.out HT9.out hst HMM.out hk9 (Nat.le_trans HB1.out.size HB2.out.size)
      have hdk : Below w.heap.size w w10 := take_d HD9.out HS9.out HB1.out.size hk9
      have hlen : Ko.length + Km.length = Ks.length + Kt.length := both_len HS.out.set.nodup HT.out.set.nodup HM4.out.set.nodup hs9.nodup HMK.out hmem9
      have hcmp : ((Ko.length : Int) == (Ks.length : Int) + (Kt.length : Int) - (Km.length : Int)) = true := by simp; omega
      have hod : decide (keyB q ∈ Ko) = true := decide_eq_true ((hmem9 _).2 (.inr hq2))
      have l9 := len_any w10 s mo2 Ko hsk.set
      have HOD := Lib.hid hod
      have HSK := Lib.hid hsk
      have HTK := Lib.hid htk
      have HDK := Lib.hid hdk
      have HME := Lib.hid hmem9
      clear hod hsk htk hdk hs9 hmo9 hmem9 hk9 hlen
      have n9 : Ko.length ≤ 2000 := by omega
      clear hlen9 hd9
      go_wp2_with fail
      refine l9.mono ?_
      rintro e w11 ⟨rfl, rfl⟩
      clear l9
      have c10 := has_any w10 s mo2 Ko _ q HSK.out.set (HQ.out.below HDK.out).word (by omega)
      rw [HOD.out] at c10
      go_wp2_with fail
      refine c10.mono ?_
      rintro e w11 ⟨rfl, b11⟩
      clear c10
      have HS11 := Lib.hid (HSK.out.below b11)
      have HT11 := Lib.hid (HTK.out.below b11)
      have HD11 := Lib.hid (HDK.out.trans (b11.mono HDK.out.size))
      clear b11
      have c11 := has_any w11 t mt Kt _ q HT11.out.set (HQ.out.below HD11.out).word (by omega)
      rw [HQD.out] at c11
      go_wp2_with fail
      refine c11.mono ?_
      rintro e w12 ⟨rfl, b12⟩
      clear c11
      have HS12 := Lib.hid (HS11.out.below b12)
      have HT12 := Lib.hid (HT11.out.below b12)
      have HD12 := Lib.hid (HD11.out.trans (b12.mono HD11.out.size))
      clear b12
      have c := meet_k w12 s t mo2 mt Ko Kt HS12.out HT12.out
      go_wp2_with fail
      refine c.mono ?_
      rintro e w13 ⟨m3, mm3, Km3, rfl, hm3, hmk3, b13⟩
      clear c
      have c := same_k w13 m3 t mm3 mt Km3 Kt hm3 (HT12.out.below b13) (fun x => by rw [hmk3 x, HME.out x]; exact ⟨fun h => h.2, fun h => ⟨.inr h, h⟩⟩)
      clear hm3 hmk3
      have HD13 := Lib.hid (HD12.out.trans (b13.mono HD12.out.size))
      clear b13
      go_wp2_with fail
      refine c.mono ?_
      rintro e w14 ⟨rfl, b14⟩
      clear c
      have HD14 := Lib.hid (HD13.out.trans (b14.mono HD13.out.size))
      clear b14
      go_wp2_with fail
      go_ret
      exact ⟨rfl, HD14.out⟩
    · have hmd : decide (keyB q ∈ Km) = false := decide_eq_false (fun h => hp ((HMK.out _).1 h).1)
      have hpd : decide (keyB q ∈ Ks) = false := decide_eq_false hp
      have hqd : decide (keyB q ∈ Kt) = false := decide_eq_false hq2
      have HPM := Lib.hid hmd
      have HPD := Lib.hid hpd
      have HQD := Lib.hid hqd
      clear hmd hpd hqd
      have c4 := has_any w4 m mm Km _ q HM4.out.set (HQ.out.below HD4.out).word (by omega)
      rw [HPM.out] at c4
      go_wp2_with fail
      refine c4.mono ?_
      rintro e w5 ⟨rfl, b5⟩
      clear c4
      have HS5 := Lib.hid (HS4.out.below b5)
      have HT5 := Lib.hid (HT4.out.below b5)
      have HM5 := Lib.hid (HM4.out.below b5)
      have HD5 := Lib.hid (HD4.out.trans (b5.mono HD4.out.size))
      clear b5
      have c5 := has_any w5 s mo Ks _ q HS5.out.set (HQ.out.below HD5.out).word (by omega)
      rw [HPD.out] at c5
      go_wp2_with fail
      refine c5.mono ?_
      rintro e w6 ⟨rfl, b6⟩
      clear c5
      have HS6 := Lib.hid (HS5.out.below b6)
      have HT6 := Lib.hid (HT5.out.below b6)
      have HM6 := Lib.hid (HM5.out.below b6)
      have HD6 := Lib.hid (HD5.out.trans (b6.mono HD5.out.size))
      clear b6
      have c := meet_k w6 t s mt mo Kt Ks HT6.out HS6.out
      go_wp2_with fail
      refine c.mono ?_
      rintro e w7 ⟨m2, mm2, Km2, rfl, hm2, hmk2, b7⟩
      clear c
      have c := same_k w7 m m2 mm mm2 Km Km2 (HM6.out.below b7) hm2 (fun x => by rw [HMK.out x, hmk2 x]; exact and_comm)
      clear hm2 hmk2
      have HS7 := Lib.hid (HS6.out.below b7)
      have HT7 := Lib.hid (HT6.out.below b7)
      have HD7 := Lib.hid (HD6.out.trans (b7.mono HD6.out.size))
      clear b7
      go_wp2_with fail
      refine c.mono ?_
      rintro e w8 ⟨rfl, b8⟩
      clear c
      have HS8 := Lib.hid (HS7.out.below b8)
      have HT8 := Lib.hid (HT7.out.below b8)
      have HD8 := Lib.hid (HD7.out.trans (b8.mono HD7.out.size))
      clear b8
      have c8 := has_any w8 s mo Ks _ q HS8.out.set (HQ.out.below HD8.out).word (by omega)
      rw [HPD.out] at c8
      go_wp2_with fail
      refine c8.mono ?_
      rintro e w9 ⟨rfl, b9⟩
      clear c8
      have HS9 := Lib.hid (HS8.out.below b9)
      have HT9 := Lib.hid (HT8.out.below b9)
      have HD9 := Lib.hid (HD8.out.trans (b9.mono HD8.out.size))
      clear b9
      have c := take_any w9 s t mo mt Ks Kt hst HMM.out (by unfold maxLen; omega) HS9.out.set HT9.out.set
      go_wp2_with fail
      refine c.mono ?_
      rintro e w10 ⟨d, rfl, ⟨mo2, Ko, hs9, hmo9, hmem9, hlen9, hd9⟩, hk9⟩
      clear c
      have hsk : SetK w.heap.size w10 s mo2 Ko := take_k HS9.out (Nat.le_trans HB1.out.size (Nat.le_refl _)) HD9.out.size hs9 hmo9 (by have := HFA.out.1; have := HFB.out.1; omega)
      have htk : SetK w.heap.size w10 t mt Kt := take_t HS9.out HT9.out hst HMM.out hk9 (Nat.le_trans HB1.out.size HB2.out.size)
      have hdk : Below w.heap.size w w10 := take_d HD9.out HS9.out HB1.out.size hk9
      have hlen : Ko.length + Km.length = Ks.length + Kt.length := both_len HS.out.set.nodup HT.out.set.nodup HM4.out.set.nodup hs9.nodup HMK.out hmem9
      have hcmp : ((Ko.length : Int) == (Ks.length : Int) + (Kt.length : Int) - (Km.length : Int)) = true := by simp; omega
      have hod : decide (keyB q ∈ Ko) = false := decide_eq_false (fun h => ((hmem9 _).1 h).elim hp hq2)
      have l9 := len_any w10 s mo2 Ko hsk.set
      have HOD := Lib.hid hod
      have HSK := Lib.hid hsk
      have HTK := Lib.hid htk
      have HDK := Lib.hid hdk
      have HME := Lib.hid hmem9
      clear hod hsk htk hdk hs9 hmo9 hmem9 hk9 hlen
      have n9 : Ko.length ≤ 2000 := by omega
      clear hlen9 hd9
      go_wp2_with fail
      refine l9.mono ?_
      rintro e w11 ⟨rfl, rfl⟩
      clear l9
      have c10 := has_any w10 s mo2 Ko _ q HSK.out.set (HQ.out.below HDK.out).word (by omega)
      rw [HOD.out] at c10
      go_wp2_with fail
      refine c10.mono ?_
      rintro e w11 ⟨rfl, b11⟩
      clear c10
      have HS11 := Lib.hid (HSK.out.below b11)
      have HT11 := Lib.hid (HTK.out.below b11)
      have HD11 := Lib.hid (HDK.out.trans (b11.mono HDK.out.size))
      clear b11
      have c11 := has_any w11 t mt Kt _ q HT11.out.set (HQ.out.below HD11.out).word (by omega)
      rw [HQD.out] at c11
      go_wp2_with fail
      refine c11.mono ?_
      rintro e w12 ⟨rfl, b12⟩
      clear c11
      have HS12 := Lib.hid (HS11.out.below b12)
      have HT12 := Lib.hid (HT11.out.below b12)
      have HD12 := Lib.hid (HD11.out.trans (b12.mono HD11.out.size))
      clear b12
      have c := meet_k w12 s t mo2 mt Ko Kt HS12.out HT12.out
      go_wp2_with fail
      refine c.mono ?_
      rintro e w13 ⟨m3, mm3, Km3, rfl, hm3, hmk3, b13⟩
      clear c
      have c := same_k w13 m3 t mm3 mt Km3 Kt hm3 (HT12.out.below b13) (fun x => by rw [hmk3 x, HME.out x]; exact ⟨fun h => h.2, fun h => ⟨.inr h, h⟩⟩)
      clear hm3 hmk3
      have HD13 := Lib.hid (HD12.out.trans (b13.mono HD12.out.size))
      clear b13
      go_wp2_with fail
      refine c.mono ?_
      rintro e w14 ⟨rfl, b14⟩
      clear c
      have HD14 := Lib.hid (HD13.out.trans (b14.mono HD13.out.size))
      clear b14
      go_wp2_with fail
      go_ret
      exact ⟨rfl, HD14.out⟩
end Go.Proofs.Ythcnffieoocnkaa.st

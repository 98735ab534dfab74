import Derived.Test.YthcnffieoocnkaaSete
import Derived.LaidEqlPtr
namespace Go.Proofs.Ythcnffieoocnkaa.st
open Go.ChangeShapes Go.WideShapes Go.ChangeAt Go.RowKit Go.Maps Go.WideMaps Go.WideElems
set_option linter.unusedVariables false
theorem take_step {Ko Ks vs : List (List UInt8)} {x : List UInt8} (h : ∀ z, z ∈ Ko ↔ z ∈ Ks ∨ z ∈ vs) : ∀ z, z ∈ (if x ∈ Ko then Ko else Ko ++ [x]) ↔ z ∈ Ks ∨ z ∈ vs ++ [x] := by
  intro z
  have e : (z ∈ Ks ∨ z ∈ vs ++ [x]) ↔ z ∈ Ko ∨ z = x := by
    rw [h z]
    simp [or_assoc]
  rw [e]
  split
  · rename_i hin
    exact ⟨.inl, fun h => h.elim id (fun e => e ▸ hin)⟩
  · simp
/-- after Take: where s lies, what is in -/
def Took (w w' : World) (s : Nat) (mo : Option Nat) (Ks Kt : List (List UInt8)) (d : Nat) : Prop :=
  ∃ mo' Ko, SetIs w' s mo' Ko ∧ (mo' = mo ∨ ∃ b, mo' = some b ∧ w.heap.size ≤ b) ∧ (∀ x, x ∈ Ko ↔ x ∈ Ks ∨ x ∈ Kt) ∧ Ko.length = Ks.length + d ∧ d ≤ Kt.length
set_option maxRecDepth 100000 in
set_option maxHeartbeats 1000000 in
theorem take_any (w : World) (s t : Nat) (mo mt : Option Nat) (Ks Kt : List (List UInt8)) (hne : s ≠ t) (hmm : ∀ b, mo = some b → mt ≠ some b) (hroom : Ks.length + Kt.length < maxLen) (h : SetIs w s mo Ks) (ht : SetIs w t mt Kt) : Calls Try.prog 31 #[.pointer (some ⟨s, 0, none⟩), .pointer (some ⟨t, 0, none⟩)] w fun e w' => ∃ d : Nat, e = .returned (.int .i64 d) ∧ Took w w' s mo Ks Kt d ∧ Kp (fun i => i = s ∨ mo = some i) w w' := by
  have hs := h.lt
  have htl := ht.lt
  have hsm : ∀ bm, mt = some bm → s ≠ bm := fun bm e => SetIs.ne h (e ▸ ht)
  have hmz : ∀ bm, mo = some bm → bm < w.heap.size := fun bm e => SetIs.lt_map (e ▸ h)
  obtain ⟨mvs, hbs, _⟩ := id h
  obtain ⟨mv, hb, hm⟩ := ht
  have heq : (binOp .eql 31 (.pointer (some ⟨s, 0, none⟩)) (.pointer (some ⟨t, 0, none⟩))).run Try.prog w = .ok (.bool false) w := run_eql_ptr_other w Try.underlying31 (by rfl) (by decide) (fun e => hne (by cases e; rfl)) hbs hb
  clear hbs
  have hc : w.cell? ⟨t, 0, none⟩ = some mv := hb.cell 0
  rcases hm with ⟨rfl, rfl, rfl⟩ | ⟨bm, D, rfl, rfl, hown, hD⟩
  · have hrn := fun w : World => run_range_nilMap (P := Try.prog) w 51 9 68 Try.underlying51
    have hnn := fun (W : World) ty => run_next_nilMap (P := Try.prog) W ty 0 0 #[]
    go_enter Try.func31, Try.ntmps31
    go_wp2_with (first | (go_at_call 34; refine (held_any _ t _ hc).mono ?_; rintro e w1 ⟨rfl, rfl⟩))
    refine wp_loop_rounds 1 ?_
    rw [rounds_succ]
    go_wp2
    go_ret
    have k0 := Kp.alloc (fun _ => False) w (Obj.mapIter none 0 #[] 0)
    exact ⟨0, rfl, ⟨mo, Ks, h.kept k0 (fun h => h) (fun _ _ h => h), .inl rfl, fun x => by simp, rfl, Nat.le_refl _⟩, k0.mono (fun _ h => h.elim)⟩
  · have hbl := hown.lt
    have hsb := hsm bm rfl
    have hmb : ∀ b, mo = some b → b ≠ bm := fun b e e' => hmm b e (by rw [e'])
    clear hsm hmm
    go_enter Try.func31, Try.ntmps31
    go_wp2_with (first | (go_at_call 34; refine (held_any _ t _ hc).mono ?_; rintro e w1 ⟨rfl, rfl⟩) | (at_range; refine wpList_range_own _ rfl _ 51 rfl 9 68 law9 Try.underlying51 unitElem bm Kt.length D rfl hown ?_; intro w0 hrg0 hg0 hs0))
    go_frame
    have hT0 : SetIs w0 s mo Ks := h.kept (Kp.of_grown hg0) (fun e => by cases e) (fun _ _ e => by cases e)
    have hK0 : Kp (fun i => i = s ∨ mo = some i) w w0 := (Kp.of_grown hg0).mono (fun i hi => by cases hi)
    clear hg0 hs0
    have HB := Lib.hid hmb
    have HZ := Lib.hid hmz
    clear hmb hmz
    go_loopw [5] (fun v wr => ∃ d : Nat, ∃ left cnt vs mo' Ko, v = .int .i64 d ∧ wr.ranges Try.prog 9 unitElem bm w.heap.size Kt.length D left cnt ∧ Vis Kt left vs ∧ vs.length + cnt ≤ Kt.length ∧ SetIs wr s mo' Ko ∧ (mo' = mo ∨ ∃ b, mo' = some b ∧ w.heap.size ≤ b) ∧ (∀ x, x ∈ Ko ↔ x ∈ Ks ∨ x ∈ vs) ∧ Ko.length = Ks.length + d ∧ d ≤ vs.length ∧ Kp (fun i => i = s ∨ mo = some i) w wr) (fun _ wr => wr.rangeLeft bm w.heap.size)
    case atStart => exact ⟨0, _, _, [], mo, Ks, rfl, hrg0, Vis.start hD, by rw [hD.2.2]; simp, hT0, .inl rfl, fun x => by simp, rfl, Nat.le_refl _, hK0⟩
    case round =>
      obtain ⟨d, left, cnt, vs, mo', Ko, rfl, hrg, hvis, hcnt, hset, hmo, hmem, hlen, hle, hkp⟩ := hrel
      clear hrg0 hT0 hK0
      have HL := Lib.hid hlen
      clear hlen
      go_wp2_with (at_next; refine next_set _ rfl _ rfl bm w.heap.size Kt.length D left cnt rfl hrg ?_ ?_)
      · intro hc0 hl0
        have hdone := hvis.done hl0
        have hmem' : ∀ x, x ∈ Ko ↔ x ∈ Ks ∨ x ∈ Kt := fun x => by rw [hmem x, hdone x]
        have HM := Lib.hid hmem'
        have HO := Lib.hid hmo
        clear hmem' hdone hmem hvis hrg hl0 hc0 hmo
        go_wp2
        go_ret
        exact ⟨d, rfl, ⟨mo', Ko, hset, HO.out, HM.out, HL.out, by omega⟩, hkp⟩
      · intro x w1 cnt1 hx1 hlx hhx hrg1 hlt1 hg1 hs1 hen
        have hset1 := hset.kept (Kp.of_grown hg1) (fun e => by have := Option.some.inj e; omega) (fun b hb e => by
          obtain ⟨_, _, _, hi⟩ := ranges_iter hrg
          rw [hb] at hset
          exact set_ne_iter hset hi (Option.some.inj e).symm)
        have hkp1 : Kp (fun i => i = s ∨ mo = some i) w w1 := hkp.then_ (Kp.of_grown hg1) (fun i hi => .inr (by have := Option.some.inj hi; omega))
        have hvis1 := hvis.step hD hlx hhx
        have hroom1 : Ko.length < maxLen := by have := HL.out; omega
        have HV := Lib.hid hvis1
        have HM := Lib.hid hmem
        have HO := Lib.hid hmo
        have hms : wr.rangeLeft bm w.heap.size = cnt := hrg.left_eq
        have HS := Lib.hid hms
        clear hvis hvis1 hmem hmo hlx hhx hset hkp hg1 hrg hms
        have hit1 := ranges_iter hrg1
        have HI := Lib.hid hit1
        clear hit1
        have hd64 : (d : Int) + 1 < 9223372036854775808 := by have := HL.out; unfold maxLen at hroom; omega
        have hfr : ∀ (w2 : World) (moo : Option Nat), Kp (fun i => i = s ∨ mo' = some i) w1 w2 → (moo = mo' ∨ ∃ b, moo = some b ∧ w1.heap.size ≤ b) → w2.ranges Try.prog 9 unitElem bm w.heap.size Kt.length D (fun z => left z && !z.sameKey (.string x)) cnt1 ∧ (moo = mo ∨ ∃ b, moo = some b ∧ w.heap.size ≤ b) ∧ Kp (fun i => i = s ∨ mo = some i) w w2 := by
          intro w2 moo hk hm
          refine ⟨ranges_kp hrg1 hk (fun h => h.elim (fun e => hsb e.symm) (fun e => ?_)) (fun h => h.elim (fun e => by omega) (fun e => ?_)), ?_, hkp1.then_ hk (fun i hi => ?_)⟩
          · rcases HO.out with e2 | ⟨b, e2, hb2⟩
            · exact HB.out bm (e2 ▸ e) rfl
            · rw [e2] at e; have := Option.some.inj e; omega
          · obtain ⟨_, _, _, hi⟩ := HI.out
            rw [e] at hset1
            exact set_ne_iter hset1 hi rfl
          · rcases hm with e | ⟨b, e, hb2⟩
            · exact e ▸ HO.out
            · exact .inr ⟨b, e, by have := hkp1.size; omega⟩
          · rcases hi with e | e
            · exact .inl (.inl e)
            · rcases HO.out with e2 | ⟨b, e2, hb2⟩
              · exact .inl (.inr (e2 ▸ e))
              · rw [e2] at e; have := Option.some.inj e; exact .inr (by omega)
        have HF := Lib.hid hfr
        clear hfr
        by_cases hin : x ∈ Ko
        · go_wp2_with (first | (go_at_call 40; refine (put_any w1 s mo' Ko x hx1 hroom1 hset1).mono ?_; rintro e w3 ⟨rfl, mo2, hmo2, hset2, hkp2⟩; rw [decide_eq_false (fun h => h hin)]; rw [if_pos hin] at hset2))
          have hm2 := take_step (x := x) HM.out
          rw [if_pos hin] at hm2
          obtain ⟨f1, f2, f3⟩ := HF.out _ _ hkp2 hmo2
          refine ⟨⟨d, _, cnt1, vs ++ [x], mo2, Ko, rfl, f1, HV.out, by simp; omega, hset2, f2, hm2, HL.out, by simp; omega, f3⟩, by rw [f1.left_eq, HS.out]; exact hlt1⟩
        · go_wp2_with (first | (go_at_call 40; refine (put_any w1 s mo' Ko x hx1 hroom1 hset1).mono ?_; rintro e w3 ⟨rfl, mo2, hmo2, hset2, hkp2⟩; rw [decide_eq_true hin]; rw [if_neg hin] at hset2))
          have hm2 := take_step (x := x) HM.out
          rw [if_neg hin] at hm2
          obtain ⟨f1, f2, f3⟩ := HF.out _ _ hkp2 hmo2
          refine ⟨⟨d + 1, _, cnt1, vs ++ [x], mo2, _, congrArg (Value.int .i64) (by omega), f1, HV.out, by simp; omega, hset2, f2, hm2, by have := HL.out; simp; omega, by simp; omega, f3⟩, by rw [f1.left_eq, HS.out]; exact hlt1⟩
end Go.Proofs.Ythcnffieoocnkaa.st

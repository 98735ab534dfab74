import Derived.Test.YthcnffieoocnkaaSetb
import Derived.Sort.KeysCollected
namespace Go.Proofs.Ythcnffieoocnkaa.st
open Go.ChangeShapes Go.WideShapes Go.ChangeAt Go.RowKit Go.Maps Go.WideMaps Go.WideElems
set_option linter.unusedVariables false
/-- put, whatever is in -/
theorem put_any (w : World) (s : Nat) (mo : Option Nat) (Ks : List (List UInt8)) (k : List UInt8) (hk : k.length ≤ maxLen) (hroom : Ks.length < maxLen) (h : SetIs w s mo Ks) : Calls Try.prog 40 #[.pointer (some ⟨s, 0, none⟩), Key k] w fun e w' => e = .returned (.bool (decide (k ∉ Ks))) ∧ PutTo w w' s mo (if k ∈ Ks then Ks else Ks ++ [k]) := by
  by_cases hin : k ∈ Ks
  · rw [if_pos hin, show decide (k ∉ Ks) = false from by simp [hin]]
    refine (put_old w s mo Ks k hk hin h).mono fun e w' ⟨he, hb⟩ => ⟨he, mo, .inl rfl, ?_, ?_⟩
    · have k1 : Kp (fun _ => False) w w' := ⟨hb.os, hb.tape, hb.output, hb.size, fun i hi _ => hb.block i hi⟩
      exact h.kept k1 (fun h => h) (fun _ _ h => h)
    · exact ⟨hb.os, hb.tape, hb.output, hb.size, fun i hi _ => hb.block i hi⟩
  · rw [if_neg hin, show decide (k ∉ Ks) = true from by simp [hin]]
    exact put_new w s mo Ks k hk hin hroom h
/-! a range over a set's map -/
theorem ranges_kp {S : Nat → Prop} {w w' : World} {b r n cnt : Nat} {D : DataW Unit} {left : Lit → Bool} (h : w.ranges Try.prog 9 unitElem b r n D left cnt) (k : Kp S w w') (hb' : ¬ S b) (hr' : ¬ S r) : w'.ranges Try.prog 9 unitElem b r n D left cnt := by
  have h1 := h.owns.lt
  have h2 := h.lt
  obtain ⟨es, clock, since, seen, c0, hb, F, hs, hD, hr, rest⟩ := h
  exact ⟨es, clock, since, seen, c0, (k.block b h1 hb').trans hb, F, hs, hD, (k.block r h2 hr').trans hr, rest⟩
theorem ranges_iter {w : World} {b r n cnt : Nat} {D : DataW Unit} {left : Lit → Bool} (h : w.ranges Try.prog 9 unitElem b r n D left cnt) : ∃ since seen c0, w.heap[r]? = some (.mapIter (some b) since seen c0) := by
  obtain ⟨es, clock, since, seen, c0, hb, F, hs, hD, hr, rest⟩ := h
  exact ⟨_, _, _, hr⟩
theorem key_inv {key : Value} {kl : Lit} (h : keyOf Try.prog 9 key = some kl) : ∃ x : List UInt8, key = Key x ∧ kl = .string x ∧ x.length ≤ maxLen := by
  obtain ⟨x, h1, h2, h3⟩ := Maps.keyOf_str Try.underlying9 h
  exact ⟨x, h1, h2, h3⟩
section
variable (w : World) {ops : Array Oper} {rest : List Oper} {o : Oper} {a : Act} {Q : Exit → Act → World → Prop}
theorem next_set (hg : o.guard = none) (it : Operand) (hop : o.op = Op.next it false) (b r n : Nat) (D : DataW Unit) (left : Lit → Bool) (cnt : Nat)
    (hit : a.eval it = .pointer (some ⟨r, 0, none⟩)) (h : w.ranges Try.prog 9 unitElem b r n D left cnt)
    (hDone : cnt = 0 → (∀ kl, left kl = false) → wpList Try.prog ops Q rest (a.put o.dst (.tuple #[.bool false])) w)
    (hMore : ∀ (x : List UInt8) (w' : World) (cnt' : Nat), x.length ≤ maxLen → left (.string x) = true → has D (.string x) = true → w'.ranges Try.prog 9 unitElem b r n D (fun z => left z && !z.sameKey (.string x)) cnt' → cnt' < cnt →
      w.grownBy w' (some r) → w'.heap.size = w.heap.size → (Instr.entry (.pointer (some ⟨r, 0, none⟩))).run Try.prog w' = .ok (.tuple #[Key x, .agg #[]]) w' → wpList Try.prog ops Q rest (a.put o.dst (.tuple #[.bool true, Key x, .agg #[]])) w') :
    wpList Try.prog ops Q (o :: rest) a w :=
  wpList_next_ranges w hg it hop 9 law9 unitElem Key (fun _ : Unit => .agg #[]) (fun key kl hkey => by obtain ⟨x, rfl, _⟩ := key_inv hkey; exact ⟨x, rfl⟩) (fun v y hv => ⟨(), (unitElem_inv hv).1⟩)
    b r n D left cnt hit h hDone (fun x c kl y w' cnt' hkey hlk hv hat hrg hlt hgr hsz hen => by
      obtain ⟨x', ex, rfl, hl⟩ := key_inv hkey
      have e : x = x' := by
        have : (⟨x.toArray⟩ : ByteArray) = ⟨x'.toArray⟩ := by simpa [Key] using ex
        have := congrArg (fun b => b.data.toList) this
        simpa using this
      subst e
      exact hMore x w' cnt' hl hlk (Maps.has_true_of_atKey hat) hrg hlt hgr hsz hen)
end
/-- the keys that have come -/
def Vis (Ks : List (List UInt8)) (left : Lit → Bool) (vs : List (List UInt8)) : Prop := vs.Nodup ∧ ∀ k, k ∈ vs ↔ k ∈ Ks ∧ left (.string k) = false
theorem Vis.start {D : DataW Unit} {Ks : List (List UInt8)} (h : KeysAre D Ks) : Vis Ks (has D) [] :=
  ⟨List.nodup_nil, fun k => by rw [h.has_ k]; simp⟩
theorem Vis.step {D : DataW Unit} {Ks vs : List (List UInt8)} {left : Lit → Bool} {x : List UInt8} (h : Vis Ks left vs) (hD : KeysAre D Ks) (hl : left (.string x) = true) (hh : has D (.string x) = true) : Vis Ks (fun z => left z && !z.sameKey (.string x)) (vs ++ [x]) := by
  have hx : x ∈ Ks := by rw [hD.has_ x] at hh; simpa using hh
  have hxv : x ∉ vs := fun hv => by have := ((h.2 x).1 hv).2; rw [hl] at this; cases this
  refine ⟨by rw [List.nodup_append]; exact ⟨h.1, by simp, fun a ha b hb => by simp at hb; subst hb; exact fun e => hxv (e ▸ ha)⟩, fun k => ?_⟩
  by_cases e : k = x
  · subst e
    have : (Lit.string k).sameKey (.string k) = true := WideAt.sameKey_self (by trivial)
    simp [hx, this]
  · have : (Lit.string k).sameKey (.string x) = false := Maps.sameKey_ne (fun h => e (by cases h; rfl))
    simp [this, h.2 k, e]
theorem Vis.done {Ks vs : List (List UInt8)} {left : Lit → Bool} (h : Vis Ks left vs) (hl : ∀ kl, left kl = false) : ∀ k, k ∈ vs ↔ k ∈ Ks := fun k => by rw [h.2 k]; simp [hl]
theorem set_ne_iter {w : World} {t b r : Nat} {Ks : List (List UInt8)} {m : Option Nat} {since c0 : Nat} {seen : Array Nat} (h : SetIs w t (some b) Ks) (hi : w.heap[r]? = some (.mapIter m since seen c0)) : b ≠ r := by
  rintro rfl
  obtain ⟨mv, _, hm⟩ := h
  rcases hm with ⟨h1, _⟩ | ⟨bm', D, h1, _, ⟨es, clock, h3, _⟩, _⟩
  · cases h1
  · cases h1
    rw [hi] at h3
    cases h3
/-- a set that the call makes out of what comes: where it lies, what is in -/
def MadeOf (B : Nat) (w : World) (t : Nat) (f : List UInt8 → List UInt8 → Prop) (vs : List (List UInt8)) : Prop :=
  ∃ mo Ko, SetIs w t mo Ko ∧ (∀ bm, mo = some bm → B ≤ bm) ∧ (∀ x, x ∈ Ko ↔ ∃ k ∈ vs, f k x) ∧ Ko.length ≤ vs.length
theorem mem_step {Ko vs : List (List UInt8)} {x : List UInt8} {n : Int} (h : ∀ z, z ∈ Ko ↔ ∃ k ∈ vs, headB k n = z) : ∀ z, z ∈ (if headB x n ∈ Ko then Ko else Ko ++ [headB x n]) ↔ ∃ k ∈ vs ++ [x], headB k n = z := by
  intro z
  have e : (∃ k ∈ vs ++ [x], headB k n = z) ↔ z ∈ Ko ∨ z = headB x n := by
    rw [h z]
    constructor
    · rintro ⟨k, hk, e⟩
      rcases List.mem_append.1 hk with h1 | h1
      · exact .inl ⟨k, h1, e⟩
      · simp at h1; subst h1; exact .inr e.symm
    · rintro (⟨k, hk, e⟩ | e)
      · exact ⟨k, by simp [hk], e⟩
      · exact ⟨x, by simp, e.symm⟩
  rw [e]
  split
  · rename_i hin
    exact ⟨.inl, fun h => h.elim id (fun e => e ▸ hin)⟩
  · simp
theorem len_step {Ko vs : List (List UInt8)} {x y : List UInt8} (h : Ko.length ≤ vs.length) : (if y ∈ Ko then Ko else Ko ++ [y]).length ≤ (vs ++ [x]).length := by
  split <;> simp <;> omega
set_option maxRecDepth 100000 in
set_option maxHeartbeats 1000000 in
theorem cut_any (w : World) (s : Nat) (mo : Option Nat) (Ks : List (List UInt8)) (n : Int) (hroom : Ks.length < maxLen) (h : SetIs w s mo Ks) : Calls Try.prog 42 #[.pointer (some ⟨s, 0, none⟩), .int .i64 n] w fun e w' => ∃ t, e = .returned (.pointer (some ⟨t, 0, none⟩)) ∧ w.heap.size ≤ t ∧ MadeOf w.heap.size w' t (fun k x => headB k n = x) Ks ∧ Below w.heap.size w w' := by
  have hs := h.lt
  obtain ⟨mv, hb, hm⟩ := h
  have hc : ∀ o, (w.alloc o).cell? ⟨s, 0, none⟩ = some mv := fun o => (World.cell?_alloc_lt w o ⟨s, 0, none⟩ hs).trans (hb.cell 0)
  rcases hm with ⟨rfl, rfl, rfl⟩ | ⟨bm, D, rfl, rfl, hown, hD⟩
  · have hrn := fun w : World => run_range_nilMap (P := Try.prog) w 51 9 68 Try.underlying51
    have hnn := fun (W : World) ty => run_next_nilMap (P := Try.prog) (W.alloc (.cells #[.map none] 53)) ty 0 0 #[]
    simp only [World.size_alloc] at hnn
    go_enter Try.func42, Try.ntmps42
    go_wp2_with (first | (go_at_call 34; refine (held_any _ s _ (hc _)).mono ?_; rintro e w1 ⟨rfl, rfl⟩))
    refine wp_loop_rounds 1 ?_
    rw [rounds_succ]
    go_wp2
    go_ret
    refine ⟨_, rfl, Nat.le_refl _, ⟨none, [], ⟨_, (Blk.new w _ _).alloc _, .inl ⟨rfl, rfl, rfl⟩⟩, (fun _ h => by cases h), fun x => by simp, Nat.le_refl _⟩, ((Below.refl _ _).alloc (Nat.le_refl _) _).alloc (by simp) _⟩
  · have hO := hown.alloc (.cells #[.map none] 53)
    have hbl := hown.lt
    go_enter Try.func42, Try.ntmps42
    go_wp2_with (first | (go_at_call 34; refine (held_any _ s _ (hc _)).mono ?_; rintro e w1 ⟨rfl, rfl⟩) | (at_range; refine wpList_range_own _ rfl _ 51 rfl 9 68 law9 Try.underlying51 unitElem bm Ks.length D rfl hO ?_; intro w0 hrg0 hg0 hs0))
    go_frame
    have hT0 : SetIs w0 w.heap.size none [] := ⟨_, (Blk.new w _ _).grown hg0 (by simp), .inl ⟨rfl, rfl, rfl⟩⟩
    have hK0 : Kp (fun i => w.heap.size ≤ i) w w0 := (Kp.alloc _ w _).then_ (Kp.of_grown hg0) (fun i hi => by cases hi)
    have hRz : w.heap.size < (w.alloc (.cells #[.map none] 53)).heap.size := by rw [World.size_alloc]; omega
    clear hg0 hs0 hO
    generalize (w.alloc (.cells #[.map none] 53)).heap.size = R at *
    have HC := Lib.hid hc
    clear hc
    go_loopw [] (fun wr => ∃ left cnt vs mo Ko, wr.ranges Try.prog 9 unitElem bm R Ks.length D left cnt ∧ Vis Ks left vs ∧ vs.length + cnt ≤ Ks.length ∧ SetIs wr w.heap.size mo Ko ∧ (∀ b, mo = some b → w.heap.size ≤ b) ∧ (∀ x, x ∈ Ko ↔ ∃ k ∈ vs, headB k n = x) ∧ Ko.length ≤ vs.length ∧ Kp (fun i => w.heap.size ≤ i) w wr) (fun wr => wr.rangeLeft bm R)
    case atStart => exact ⟨_, _, [], none, [], hrg0, Vis.start hD, by rw [hD.2.2]; simp, hT0, (fun _ h => by cases h), fun x => by simp, Nat.le_refl _, hK0⟩
    case round =>
      obtain ⟨left, cnt, vs, mo, Ko, hrg, hvis, hcnt, hset, hmo, hmem, hle, hkp⟩ := hrel
      clear hrg0 hT0 hK0
      go_wp2_with (at_next; refine next_set _ rfl _ rfl bm R Ks.length D left cnt rfl hrg ?_ ?_)
      · intro hc0 hl0
        have hdone := hvis.done hl0
        have hle' : Ko.length ≤ Ks.length := by omega
        have hmem' : ∀ x, x ∈ Ko ↔ ∃ k ∈ Ks, headB k n = x := fun x => by
          rw [hmem x]
          constructor
          · rintro ⟨k, hk, e⟩; exact ⟨k, (hdone k).1 hk, e⟩
          · rintro ⟨k, hk, e⟩; exact ⟨k, (hdone k).2 hk, e⟩
        have HM := Lib.hid hmem'
        have HO := Lib.hid hmo
        clear hmem' hdone hmem hvis hrg hl0 hc0 hmo
        go_wp2
        go_ret
        exact ⟨_, rfl, Nat.le_refl _, ⟨mo, Ko, hset, HO.out, HM.out, hle'⟩, hkp.below (fun i hi => hi) (Nat.le_refl _)⟩
      · intro x w1 cnt1 hx1 hlx hhx hrg1 hlt1 hg1 hs1 hen
        have hTR : w.heap.size ≠ R := Nat.ne_of_lt hRz
        have hset1 := hset.kept (Kp.of_grown hg1) (fun e => hTR (Option.some.inj e).symm) (fun b hb e => by
          obtain ⟨_, _, _, hi⟩ := ranges_iter hrg
          rw [hb] at hset
          exact set_ne_iter hset hi (Option.some.inj e).symm)
        have hkp1 : Kp (fun i => w.heap.size ≤ i) w w1 := hkp.then_ (Kp.of_grown hg1) (fun i hi => .inl (by have := Option.some.inj hi; omega))
        have hvis1 := hvis.step hD hlx hhx
        have hroom1 : Ko.length < maxLen := by omega
        have hle8 : (headB x n).length ≤ maxLen := by unfold headB; rw [List.length_take]; omega
        have HV := Lib.hid hvis1
        have HM := Lib.hid hmem
        have HO := Lib.hid hmo
        have hms : wr.rangeLeft bm R = cnt := hrg.left_eq
        have HS := Lib.hid hms
        clear hvis hvis1 hmem hmo hlx hhx hset hkp hg1 hrg hms
        go_wp2_with (first | (go_at_call 41; refine (keyHead_any _ x n hx1).mono ?_; rintro e w2 ⟨rfl, rfl⟩) | (go_at_call 40; refine (put_any w1 w.heap.size mo Ko (headB x n) hle8 hroom1 hset1).mono ?_; rintro e w2 ⟨rfl, mo', hmo', hset', hkp'⟩))
        have hrg2 := ranges_kp hrg1 hkp' (fun h => h.elim (fun e => absurd e (Nat.ne_of_lt hbl)) (fun e => absurd (HO.out bm e) (by omega))) (fun h => h.elim (fun e => hTR e.symm) (fun e => by
          obtain ⟨_, _, _, hi⟩ := ranges_iter hrg1
          rw [e] at hset1
          exact set_ne_iter hset1 hi rfl))
        refine ⟨⟨_, cnt1, vs ++ [x], mo', _, hrg2, HV.out, by simp; omega, hset', fun b hb => ?_, mem_step HM.out, len_step hle, hkp1.then_ hkp' (fun i hi => .inl (hi.elim (fun e => by omega) (fun e => HO.out i e)))⟩, by rw [hrg2.left_eq, HS.out]; exact hlt1⟩
        rcases hmo' with e | ⟨b', e, hb'⟩
        · exact HO.out b (e ▸ hb)
        · rw [hb] at e
          cases e
          have := hkp1.size
          omega
end Go.Proofs.Ythcnffieoocnkaa.st

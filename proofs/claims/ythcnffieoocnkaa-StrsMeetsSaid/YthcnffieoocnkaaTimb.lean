import Derived.Test.YthcnffieoocnkaaTima
namespace Go.Proofs.Ythcnffieoocnkaa.st
open Go.ChangeShapes Go.WideShapes Go.ChangeAt Go.RowKit Go.Maps Go.WideMaps Go.WideElems
set_option linter.unusedVariables false
def TimesIs (B : Nat) (w : World) (o : Nat) (Ks Kt : List (List UInt8)) (k : Int) : Prop := ∃ mo Ko, SetIs w o mo Ko ∧ (∀ b, mo = some b → B ≤ b) ∧ (∀ x, x ∈ Ko ↔ TimesOf Ks Kt k x) ∧ Ko.length ≤ Ks.length * Kt.length
def Keys8 (Ks : List (List UInt8)) : Prop := Ks.length ≤ 1000 ∧ ∀ a ∈ Ks, a.length % 8 = 0 ∧ a.length ≤ 8000
theorem Outs.next {w wr w1 : World} {B o R bm bT n nT cnt cnt1 : Nat} {DS DT : DataW Unit} {left left1 : Lit → Bool} {moO : Option Nat} {Kt Ko : List (List UInt8)} (h : Outs w wr B o R bm bT n nT cnt DS DT left moO Kt Ko) (hrg1 : w1.ranges Try.prog 9 unitElem bm R n DS left1 cnt1) (hg1 : wr.grownBy w1 (some R)) : Outs w w1 B o R bm bT n nT cnt1 DS DT left1 moO Kt Ko := by
  obtain ⟨_, _, _, hi⟩ := ranges_iter h.rg
  have hlo := h.lo
  have k : Kp (fun i => i = R) wr w1 := (Kp.of_grown hg1).mono (fun i hi => (Option.some.inj hi).symm)
  have hset : ∀ t mt Kx, SetIs wr t mt Kx → t ≠ R ∧ ∀ b, mt = some b → b ≠ R := fun t mt Kx ht => by
    obtain ⟨_, hb, _⟩ := id ht
    exact ⟨blk_ne_iter hb hi, fun b e => set_ne_iter (e ▸ ht) hi⟩
  exact ⟨hrg1, k.map h.tm (map_ne_iter h.tm hi), h.tl.kept k (fun t mt Kx ht _ _ => hset t mt Kx ht) (.inl rfl), h.os.kept k (hset _ _ _ h.os).1 (hset _ _ _ h.os).2, h.kp.then_ k (fun i hi => .inl (by omega)), h.lo, h.mo⟩
theorem SetIs.some_of {w : World} {s : Nat} {mo : Option Nat} {Ks : List (List UInt8)} (h : SetIs w s mo Ks) (hn : ∃ x, x ∈ Ks) : ∃ b, mo = some b := by
  obtain ⟨mv, _, hm⟩ := h
  rcases hm with ⟨_, _, rfl⟩ | ⟨b, D, rfl, _⟩
  · obtain ⟨x, hx⟩ := hn; cases hx
  · exact ⟨b, rfl⟩
theorem run_eql_ptr_nil (t : Nat) (w : World) : (binOp .eql 31 (.pointer (some ⟨t, 0, none⟩)) (.pointer none)).run Try.prog w = .ok (.bool false) w := by kernel_rfl
theorem run_eql_nil_nil (w : World) : (binOp .eql 31 (.pointer none) (.pointer none)).run Try.prog w = .ok (.bool true) w := by kernel_rfl
theorem add_str (w : World) (x y : List UInt8) (hx : x.length ≤ 8000) (hy : y.length ≤ 8000) : (binOp .add 9 (Key x) (Key y)).run Try.prog w = .ok (Key (x ++ y)) w := by
  have h := run_string_add_lists (P := Try.prog) (w := w) x y (by omega) (by omega)
  unfold Key
  simpa [binOp] using h
theorem Outs.below {w wr w2 : World} {B o R bm bT n nT cnt : Nat} {DS DT : DataW Unit} {left : Lit → Bool} {moO : Option Nat} {Kt Ko : List (List UInt8)} (h : Outs w wr B o R bm bT n nT cnt DS DT left moO Kt Ko) (hb : Below wr.heap.size wr w2) : Outs w w2 B o R bm bT n nT cnt DS DT left moO Kt Ko := by
  have k := Kp.of_below hb
  have hset : ∀ t mt Kx, SetIs wr t mt Kx → ¬ wr.heap.size ≤ t ∧ ∀ b, mt = some b → ¬ wr.heap.size ≤ b := fun t mt Kx ht => by
    have := ht.lt
    exact ⟨by omega, fun b e => by subst e; have := ht.lt_map; omega⟩
  have h1 := h.rg.lt
  have h2 := h.tm.lt
  have h3 := h.rg.owns.lt
  have h4 := h.kp.size
  exact ⟨ranges_kp h.rg k (by omega) (by omega), k.map h.tm (by omega), h.tl.kept k (fun t mt Kx ht _ _ => hset t mt Kx ht) (.inl rfl), h.os.kept k (hset _ _ _ h.os).1 (hset _ _ _ h.os).2, h.kp.then_ k (fun i hi => .inl (by have := h.lo; omega)), h.lo, h.mo⟩
theorem set_parts {w : World} {s b : Nat} {Ks : List (List UInt8)} (h : SetIs w s (some b) Ks) : w.cell? ⟨s, 0, none⟩ = some (.map (some b)) ∧ ∃ D, w.ownsMap Try.prog 9 unitElem b Ks.length D ∧ KeysAre D Ks := by
  obtain ⟨mv, hb, hm⟩ := h
  rcases hm with ⟨h1, _⟩ | ⟨b', D, h1, rfl, h3, h4⟩
  · cases h1
  · obtain rfl := Option.some.inj h1
    exact ⟨hb.cell 0, D, h3, h4⟩
/-- a tail that was cut is laid among the tails -/
theorem tail_of {w w1 w2 w3 : World} {B o R bm bT n nT cnt tt bx : Nat} {DS DT : DataW Unit} {left : Lit → Bool} {moO : Option Nat} {Kt Ko Kx : List (List UInt8)} {rm : Int} (h1 : Outs w w1 B o R bm bT n nT cnt DS DT left moO Kt Ko) (h : Outs w w2 B o R bm bT n nT cnt DS DT left moO Kt Ko) (hb2 : Below w1.heap.size w1 w2) (hs : SetIs w2 tt (some bx) Kx) (htt : w1.heap.size ≤ tt) (hbx : w1.heap.size ≤ bx) (hK : ∀ x, x ∈ Kx ↔ ∃ b ∈ Kt, headB b rm = x) (hl : Kx.length ≤ Kt.length) (hr : In64 rm) (ho : w3.ownsMap Try.prog 3 ptrElem bT (nT + 1) (DT.put (.int .i64 rm) (.lit (.int .u64 tt)))) (hg : w2.grownBy w3 (some bT)) : Outs w w3 B o R bm bT n (nT + 1) cnt DS (DT.put (.int .i64 rm) (.lit (.int .u64 tt))) left moO Kt Ko ∧ SetIs w3 tt (some bx) Kx := by
  have k : Kp (fun i => i = bT) w2 w3 := (Kp.of_grown hg).mono (fun i hi => (Option.some.inj hi).symm)
  obtain ⟨_, _, _, hi⟩ := ranges_iter h.rg
  have e1 : bT ≠ R := map_ne_iter h.tm hi
  have hlo := h.lo
  have z1 := h1.kp.size
  have z2 := h1.tm.lt
  have z3 := h1.os.lt
  have hts : SetIs w3 tt (some bx) Kx := hs.kept k (fun e => by omega) (fun b e => by cases e; omega)
  obtain ⟨_, hbo, _⟩ := id h.os
  have e2 := blk_ne_map hbo h.tm
  have ho' := h.os.kept k e2 (fun b e => (h.mo b e).2)
  have htl := h.tl.kept k (fun t mt Kx ht _ hm => by
    obtain ⟨_, hbb, _⟩ := id ht
    exact ⟨blk_ne_map hbb h.tm, fun b e => (hm b e).2⟩) (.inl rfl)
  refine ⟨⟨ranges_kp h.rg k (by omega) (fun e => e1 e.symm), ho, fun r hr' => ?_, ho', h.kp.then_ k (fun i hi => .inl (by omega)), h.lo, h.mo⟩, hts⟩
  by_cases e : r = rm
  · subst e
    exact ⟨tt, some bx, Kx, fun z => atKey_put_same h.tm.isMap (by trivial) _ z, hts, hK, hl, by omega, fun b hb => by
      cases hb
      refine ⟨by omega, fun e => ?_, by omega⟩
      subst e
      have := h1.os.lt_map
      omega, by omega⟩
  · have hne : Lit.int .i64 r ≠ .int .i64 rm := fun h => e (by cases h; rfl)
    rw [has_put_other hne] at hr'
    obtain ⟨t, mt, Kx', a1, a2⟩ := htl r hr'
    exact ⟨t, mt, Kx', fun z => by rw [atKey_put_other hne]; exact a1 z, a2⟩
set_option maxRecDepth 100000 in
set_option maxHeartbeats 2000000 in
theorem times_some (w : World) (s t bm : Nat) (mt : Option Nat) (Ks Kt : List (List UInt8)) (k : Int) (h : SetIs w s (some bm) Ks) (ht : SetIs w t mt Kt) (hpos : 0 < Kt.length) (hKs : Keys8 Ks) (hKt : Keys8 Kt) (hk : In64 k) : Calls Try.prog 25 #[.pointer (some ⟨s, 0, none⟩), .pointer (some ⟨t, 0, none⟩), .int .i64 k] w fun e w' => ∃ o, e = .returned (.pointer (some ⟨o, 0, none⟩)) ∧ w.heap.size ≤ o ∧ TimesIs w.heap.size w' o Ks Kt k ∧ Below w.heap.size w w' := by
  have hs := h.lt
  have hbl := h.lt_map
  have htl := ht.lt
  have hmm := @run_makeMap Try.prog
  have hne : ((Kt.length : Int) == 0) = false := by simp; intro e; rw [e] at hpos; exact absurd hpos (by decide)
  obtain ⟨mv, hb, hm⟩ := id h
  rcases hm with ⟨h1, _⟩ | ⟨bm', D, h1, rfl, hown, hD⟩
  · cases h1
  obtain rfl : bm = bm' := Option.some.inj h1
  have hlen := fun o => len_any (w.alloc o) t mt Kt (ht.kept (Kp.alloc (fun _ => False) w o) id (fun _ _ h => h))
  have hheld := fun o1 o2 => held_any ((w.alloc o1).alloc o2) s (.map (some bm)) (((hb.alloc o1).alloc o2).cell 0)
  have hO := fun o1 o2 => (hown.alloc o1).alloc o2
  clear h1
  go_enter Try.func25, Try.ntmps25
  go_wp2_with (first | (go_at_call 21; refine (hlen _).mono ?_; rintro e w1 ⟨rfl, rfl⟩) | (go_at_call 34; refine (hheld _ _).mono ?_; rintro e w1 ⟨rfl, rfl⟩) | (at_range; refine wpList_range_own _ rfl _ 51 rfl 9 68 law9 Try.underlying51 unitElem bm Ks.length D rfl (hO _ _) ?_; intro w0 hrg0 hg0 hs0))
  go_frame
  have hz1 : (w.alloc (.cells #[.map none] 53)).heap.size = w.heap.size + 1 := by simp
  have hz2 : ((w.alloc (.cells #[.map none] 53)).alloc (.map #[] 0)).heap.size = w.heap.size + 1 + 1 := by simp
  have hT0 : SetIs w0 w.heap.size none [] := ⟨_, ((Blk.new w 53 #[.map none]).alloc (.map #[] 0)).grown hg0 (by simp), .inl ⟨rfl, rfl, rfl⟩⟩
  have hK0 : Kp (fun i => w.heap.size ≤ i) w w0 := ((Kp.alloc _ w _).trans (Kp.alloc _ _ _)).then_ (Kp.of_grown hg0) (fun i hi => by cases hi)
  have hM0 : w0.ownsMap Try.prog 3 ptrElem (w.heap.size + 1) 0 (.map []) := by
    have := World.ownsMap_made (H := Unit) (w.alloc (.cells #[.map none] 53)) Try.prog 3 ptrElem
    rw [hz1] at this
    exact this.kept hg0 (by simp)
  have hRz : w.heap.size ≤ ((w.alloc (.cells #[.map none] 53)).alloc (.map #[] 0)).heap.size := by rw [hz2]; omega
  have hU0 : Outs w w0 w.heap.size w.heap.size ((w.alloc (.cells #[.map none] 53)).alloc (.map #[] 0)).heap.size bm (w.heap.size + 1) Ks.length 0 _ D (.map []) _ none Kt [] := ⟨hrg0, hM0, fun r hr => by simp [has] at hr, hT0, hK0, by omega, fun b e => by cases e⟩
  clear hg0 hs0 hrg0 hT0 hK0 hM0 hlen hheld hO hz1 hz2
  generalize ((w.alloc (.cells #[.map none] 53)).alloc (.map #[] 0)).heap.size = R at *
  go_loopw [] (fun wr => ∃ left cnt vs moO Ko DT nT, Outs w wr w.heap.size w.heap.size R bm (w.heap.size + 1) Ks.length nT cnt D DT left moO Kt Ko ∧ Vis Ks left vs ∧ vs.length + cnt ≤ Ks.length ∧ (∀ x, x ∈ Ko ↔ TimesOf vs Kt k x) ∧ Ko.length ≤ vs.length * Kt.length ∧ nT ≤ vs.length) (fun wr => wr.rangeLeft bm R)
  case atStart => exact ⟨_, _, [], none, [], _, 0, hU0, Vis.start hD, by rw [hD.2.2]; simp, fun x => by simp [TimesOf], by simp, Nat.le_refl _⟩
  case round =>
    obtain ⟨left, cnt, vs, moO, Ko, DT, nT, hu, hvis, hcnt, hmem, hle, hnT⟩ := hrel
    clear hU0
    have hrg := hu.rg
    go_wp2_with (at_next; refine next_set _ rfl _ rfl bm R Ks.length D left cnt rfl hrg ?_ ?_)
    · intro hc0 hl0
      have hdone := hvis.done hl0
      have hvl : vs.length ≤ Ks.length := by omega
      have HD := Lib.hid hdone
      have HM := Lib.hid hmem
      have HU := Lib.hid hu
      clear hdone hvis hrg hl0 hc0 hmem hu
      go_wp2
      go_ret
      refine ⟨_, rfl, Nat.le_refl _, ⟨moO, Ko, HU.out.os, fun b e => (HU.out.mo b e).1, fun x => ?_, Nat.le_trans hle (Nat.mul_le_mul_right _ hvl)⟩, HU.out.kp.below (fun i hi => hi) (Nat.le_refl _)⟩
      rw [HM.out x]
      constructor
      · rintro ⟨a, ha, r⟩; exact ⟨a, (HD.out a).1 ha, r⟩
      · rintro ⟨a, ha, r⟩; exact ⟨a, (HD.out a).2 ha, r⟩
    · intro x w1 cnt1 hx1 hlx hhx hrg1 hlt1 hg1 hs1 hen
      have hu1 := hu.next hrg1 hg1
      have hvis1 := hvis.step hD hlx hhx
      have hxK : x ∈ Ks := by rw [hD.has_ x] at hhx; simpa using hhx
      have hx8 := hKs.2 x hxK
      have hms : wr.rangeLeft bm R = cnt := hrg.left_eq
      have HV := Lib.hid hvis1
      have HM := Lib.hid hmem
      have HS := Lib.hid hms
      have hKo : Ko.length ≤ 1000000 := by
        have a1 := hKt.1
        have a2 := hKs.1
        have : vs.length * Kt.length ≤ 1000 * 1000 := Nat.mul_le_mul (by omega) a1
        omega
      have hsz := hu1.kp.size
      clear hvis hvis1 hmem hlx hhx hg1 hrg hrg1 hu hms hs1
      have hkl := keyLen_any w1 x hx1
      by_cases hw : k.toNat ≤ x.length / 8
      · have hhead := fun wx => keyHead_any wx x k hx1
        have hput := put_any w1 w.heap.size moO Ko (headB x k) (by unfold headB; rw [List.length_take]; omega) (by unfold maxLen; omega) hu1.os
        have hfin : ∀ z, z ∈ (if headB x k ∈ Ko then Ko else Ko ++ [headB x k]) ↔ TimesOf (vs ++ [x]) Kt k z := fun z => by
          rw [put_mem, TimesOf.snoc, ← HM.out z]
          refine or_congr Iff.rfl ⟨fun e => ?_, fun ⟨b, hb, e⟩ => ?_⟩
          · obtain ⟨b, hb⟩ := List.exists_mem_of_length_pos hpos
            exact ⟨b, hb, by rw [head_whole hx8.1 hw, e]⟩
          · rw [← e, head_whole hx8.1 hw]
        have hlen2 : (if headB x k ∈ Ko then Ko else Ko ++ [headB x k]).length ≤ (vs ++ [x]).length * Kt.length := by
          have := put_len (Ko := Ko) (y := headB x k)
          simp only [List.length_append, List.length_singleton, Nat.add_mul, Nat.one_mul]
          omega
        generalize (if headB x k ∈ Ko then Ko else Ko ++ [headB x k]) = K' at *
        generalize decide (headB x k ∉ Ko) = rb at *
        have hpl : x.length / 8 ≤ 1000 := by have := hx8.2; omega
        generalize hp : x.length / 8 = p at *
        have HF := Lib.hid hfin
        have HU := Lib.hid hu1
        have HP := Lib.hid hp
        clear hfin hu1 hp
        obtain ⟨rm, hwr, hrm⟩ : ∃ rm : Int, wrap64 (max k 0 - (p : Int)) = rm ∧ rm ≤ 0 := ⟨max k 0 - p, IntWalk.wrap64_in _ (by have := hk.1; have := hk.2; omega), by omega⟩
        · go_wp2_with (first | (go_at_call 39; refine hkl.mono ?_; rintro e w2 ⟨rfl, rfl⟩) | (go_at_call 41; refine (hhead _).mono ?_; rintro e w2 ⟨rfl, rfl⟩) | (go_at_call 40; refine hput.mono ?_; rintro e w3 ⟨rfl, mo2, hmo2, hset2, hkp2⟩))
          have hu2 := HU.out.put hmo2 hset2 hkp2
          exact ⟨⟨_, cnt1, vs ++ [x], mo2, K', DT, nT, hu2, HV.out, by simp; omega, HF.out, hlen2, by simp; omega⟩, by rw [hu2.rg.left_eq, HS.out]; exact hlt1⟩
      · have hpl : x.length / 8 ≤ 1000 := by have := hx8.2; omega
        have hhp : ∀ b ∈ Kt, headB (x ++ b) k = x ++ headB b (k - (x.length / 8 : Nat)) := fun b hb => head_part hx8.1 (hKt.2 b hb).1 (by omega)
        have hpk : ((x.length / 8 : Nat) : Int) < k := by omega
        generalize hp : x.length / 8 = p at *
        obtain ⟨rm, hwr, hrm, hrme⟩ : ∃ rm : Int, wrap64 (max k 0 - (p : Int)) = rm ∧ 0 < rm ∧ k - p = rm := ⟨k - p, by rw [show max k 0 = k by omega]; exact IntWalk.wrap64_in _ (by have := hk.1; have := hk.2; omega), by omega, rfl⟩
        rw [hrme] at hhp
        have hr64 : In64 rm := by have := hk.1; have := hk.2; constructor <;> omega
        have HP := Lib.hid hp
        have HR := Lib.hid hrme
        have HH := Lib.hid hhp
        clear hp hrme hhp hw
        have hne0 : ∃ b, b ∈ Kt := List.exists_mem_of_length_pos hpos
        have ht1 : SetIs w1 t mt Kt := ht.kept hu1.kp (by omega) (fun b e => by subst e; have := ht.lt_map; omega)
        have HN := Lib.hid hne0
        clear hne0
        obtain ⟨wo, rfl⟩ : ∃ wo : World, wo = wr := ⟨_, rfl⟩
        by_cases hh : has DT (.int .i64 rm) = true
        · obtain ⟨tt, mtt, Kx, ha, hset, hKx, hKxl, htB, hmtB, hto⟩ := hu1.tl rm hh
          have hl1 := look_some hu1.tm hr64 ha
          have hnn := fun wx => run_eql_ptr_nil tt wx
          obtain ⟨bx, rfl⟩ := hset.some_of (by obtain ⟨b, hb⟩ := HN.out; exact ⟨_, (hKx _).2 ⟨b, hb, rfl⟩⟩)
          obtain ⟨mvx, hbx, hmx⟩ := id hset
          rcases hmx with ⟨h1, _⟩ | ⟨bx', Dx, h1, rfl, hownx, hDx⟩
          · cases h1
          obtain rfl : bx = bx' := Option.some.inj h1
          have hcx := hbx.cell 0
          have hmob : ∀ b, moO = some b → b ≠ bx := fun b e e2 => (hmtB bx rfl).2.1 (e2 ▸ e)
          have HK := Lib.hid hKx
          have HA := Lib.hid ha
          have HU := Lib.hid hu1
          have HB := Lib.hid hmob
          have HT := Lib.hid hset
          clear hKx ha hu1 hmtB hmob h1 hh hset
          go_wp2_with (first | (go_at_call 39; refine hkl.mono ?_; rintro e w2 ⟨rfl, rfl⟩) | (go_at_call 34; refine (held_any _ tt _ hcx).mono ?_; rintro e w1 ⟨rfl, rfl⟩) | (at_range; refine wpList_range_own _ rfl _ 51 rfl 9 68 law9 Try.underlying51 unitElem bx Kx.length Dx rfl hownx ?_; intro wi0 hrgx hgx hsx))
          try go_frame
          have hR2 : w1.heap.size ≠ R := Nat.ne_of_gt HU.out.rg.lt
          have hB2 := HU.out.kp.size
          have kx : Kp (fun i => i = w1.heap.size) w1 wi0 := (Kp.of_grown hgx).mono (fun i hi => by cases hi)
          obtain ⟨nTx, DTx, hui, hnT2⟩ : ∃ nTx DTx, Outs w wi0 w.heap.size w.heap.size R bm (w.heap.size + 1) Ks.length nTx cnt1 D DTx (fun z => left z && !z.sameKey (.string x)) moO Kt Ko ∧ nTx ≤ vs.length + 1 := ⟨nT, DT, HU.out.step hR2 (.inr (Nat.le_refl _)) hB2 kx, by omega⟩
          have hsi := HT.out.kept kx (by have := HT.out.lt; omega) (fun b e => by cases e; have := hownx.lt; omega)
          clear hgx hsx kx hownx hcx hbx hl1
          generalize w1.heap.size = R2 at *
          go_loopw [] (fun wi => ∃ left2 cnt2 us moI KI, Outs w wi w.heap.size w.heap.size R bm (w.heap.size + 1) Ks.length nTx cnt1 D DTx (fun z => left z && !z.sameKey (.string x)) moI Kt KI ∧ wi.ranges Try.prog 9 unitElem bx R2 Kx.length Dx left2 cnt2 ∧ Vis Kx left2 us ∧ us.length + cnt2 ≤ Kx.length ∧ SetIs wi tt (some bx) Kx ∧ (∀ b, moI = some b → b ≠ bx) ∧ (∀ z, z ∈ KI ↔ TimesOf vs Kt k z ∨ ∃ b ∈ us, x ++ b = z) ∧ KI.length ≤ vs.length * Kt.length + us.length) (fun wi => wi.rangeLeft bx R2)
          case atStart => exact ⟨_, _, [], moO, Ko, hui, hrgx, Vis.start hDx, by rw [hDx.2.2]; simp, hsi, HB.out, fun z => by simp [HM.out z], by simpa using hle⟩
          case round =>
            obtain ⟨left2, cnt2, us, moI, KI, hu, hrg2, hvis2, hcnt2, hst, hmb, hme2, hle2⟩ := hrel
            clear hui hrgx hsi
            go_wp2_with (at_next; refine next_set _ rfl _ rfl bx R2 Kx.length Dx left2 cnt2 rfl hrg2 ?_ ?_)
            · intro hc0 hl0
              have hdone := hvis2.done hl0
              have hfin : ∀ z, z ∈ KI ↔ TimesOf (vs ++ [x]) Kt k z := fun z => by
                rw [hme2 z, TimesOf.snoc]
                refine or_congr Iff.rfl ⟨fun ⟨b, hb, e⟩ => ?_, fun ⟨b, hb, e⟩ => ?_⟩
                · obtain ⟨c, hc, e2⟩ := (HK.out b).1 ((hdone b).1 hb)
                  exact ⟨c, hc, by rw [HH.out c hc, e2, e]⟩
                · exact ⟨headB b rm, (hdone _).2 ((HK.out _).2 ⟨b, hb, rfl⟩), by rw [← HH.out b hb, e]⟩
              have hlen2 : KI.length ≤ (vs ++ [x]).length * Kt.length := by
                simp only [List.length_append, List.length_singleton, Nat.add_mul, Nat.one_mul]
                omega
              have HF := Lib.hid hfin
              have HU2 := Lib.hid hu
              clear hfin hdone hme2 hvis2 hl0 hc0 hrg2 hmb hst hu
              go_wp2
              exact ⟨⟨_, cnt1, vs ++ [x], moI, KI, _, _, HU2.out, HV.out, by simp; omega, HF.out, hlen2, by rw [List.length_append]; exact hnT2⟩, by rw [HU2.out.rg.left_eq, HS.out]; exact hlt1⟩
            · intro y wi1 cnt3 hy1 hly hhy hrg3 hlt3 hg3 hs3 hen3
              have k3 : Kp (fun i => i = R2) wr wi1 := (Kp.of_grown hg3).mono (fun i hi => (Option.some.inj hi).symm)
              have hit := ranges_iter hrg2
              obtain ⟨since, seen, c0, hi3⟩ := hit
              have hu3 := hu.step hR2 (.inl ⟨_, _, _, _, hi3⟩) hB2 k3
              have hst3 : SetIs wi1 tt (some bx) Kx := by
                obtain ⟨_, hbb, _⟩ := id hst
                exact hst.kept k3 (blk_ne_iter hbb hi3) (fun b e => set_ne_iter (e ▸ hst) hi3)
              have hvis3 := hvis2.step hDx hly hhy
              have hyK : y ∈ Kx := by rw [hDx.has_ y] at hhy; simpa using hhy
              have hyl : y.length ≤ 8000 := by
                obtain ⟨b, hb, e⟩ := (HK.out y).1 hyK
                have := (hKt.2 b hb).2
                rw [← e]; unfold headB; rw [List.length_take]; omega
              have hadd := fun wx => add_str wx x y hx8.2 hyl
              have hms2 : wr.rangeLeft bx R2 = cnt2 := hrg2.left_eq
              have hKI : KI.length ≤ 2000000 := by
                have a1 := hKt.1
                have a2 := hKs.1
                have : vs.length * Kt.length ≤ 1000 * 1000 := Nat.mul_le_mul (by omega) a1
                omega
              have hput := put_any wi1 w.heap.size moI KI (x ++ y) (by rw [List.length_append]; unfold maxLen; have := hx8.2; omega) (by unfold maxLen; omega) hu3.os
              have hfin : ∀ z, z ∈ (if x ++ y ∈ KI then KI else KI ++ [x ++ y]) ↔ TimesOf vs Kt k z ∨ ∃ b ∈ us ++ [y], x ++ b = z := fun z => by
                rw [put_mem, hme2 z, or_assoc]
                refine or_congr Iff.rfl ⟨fun h => ?_, fun ⟨b, hb, e⟩ => ?_⟩
                · rcases h with ⟨b, hb, e⟩ | e
                  · exact ⟨b, by simp [hb], e⟩
                  · exact ⟨y, by simp, e.symm⟩
                · rcases List.mem_append.1 hb with h | h
                  · exact .inl ⟨b, h, e⟩
                  · simp at h; subst h; exact .inr e.symm
              have hlen2 : (if x ++ y ∈ KI then KI else KI ++ [x ++ y]).length ≤ vs.length * Kt.length + (us ++ [y]).length := by
                have := put_len (Ko := KI) (y := x ++ y)
                simp only [List.length_append, List.length_singleton]
                omega
              generalize (if x ++ y ∈ KI then KI else KI ++ [x ++ y]) = K' at *
              generalize decide (x ++ y ∉ KI) = rb at *
              have HF := Lib.hid hfin
              have HU3 := Lib.hid hu3
              have HV3 := Lib.hid hvis3
              have HM3 := Lib.hid hms2
              have HT3 := Lib.hid hst3
              have HB3 := Lib.hid hmb
              have HI3 := Lib.hid (ranges_iter hrg3)
              clear hs3 hfin hu3 hvis3 hms2 hst3 hmb hme2 hvis2 hly hhy hyK hrg2 hst hi3 hg3 k3 hu
              go_wp2_with (first | (go_at_call 40; refine hput.mono ?_; rintro e w5 ⟨rfl, mo2, hmo2, hset2, hkp2⟩))
              have hu5 := HU3.out.put hmo2 hset2 hkp2
              obtain ⟨_, hbb, _⟩ := id HU3.out.os
              obtain ⟨_, _, _, hi5⟩ := HI3.out
              have hrg5 := ranges_kp hrg3 hkp2 (fun h => h.elim (fun e => SetIs.ne HU3.out.os HT3.out e.symm) (fun e => HB3.out bx e rfl)) (fun h => h.elim (fun e => blk_ne_iter hbb hi5 e.symm) (fun e => set_ne_iter (e ▸ HU3.out.os) hi5 rfl))
              have hst5 := HT3.out.kept hkp2 (fun h => h.elim hto (fun e => SetIs.ne HT3.out (e ▸ HU3.out.os) rfl)) (fun b e h => by
                cases e
                exact h.elim (fun e => SetIs.ne HU3.out.os HT3.out e.symm) (fun e => HB3.out bx e rfl))
              have hmb5 : ∀ b, mo2 = some b → b ≠ bx := fun b e => by
                rcases hmo2 with e2 | ⟨b', e2, hb'⟩
                · exact HB3.out b (e2 ▸ e)
                · rw [e] at e2
                  have := Option.some.inj e2
                  have := HT3.out.lt_map
                  omega
              exact ⟨⟨_, cnt3, us ++ [y], mo2, K', hu5, hrg5, HV3.out, by simp; omega, hst5, hmb5, HF.out, hlen2⟩, by rw [hrg5.left_eq, HM3.out]; exact hlt3⟩
        · have hh' : has DT (.int .i64 rm) = false := by simpa using hh
          have hl1 := look_none hu1.tm hr64 hh'
          have hcut := cut_any w1 t mt Kt rm (by have := hKt.1; unfold maxLen; omega) ht1
          have hkey := key_int rm hr64
          have hmk : ∀ tt : Nat, ptrElem (.pointer (some ⟨tt, 0, none⟩)) = some (.lit (.int .u64 tt), []) := fun _ => rfl
          have hnil := run_eql_nil_nil
          have hnTm : nT < maxLen := by have := hKs.1; unfold maxLen; omega
          have HU := Lib.hid hu1
          have HE := Lib.hid hh'
          clear hu1 hh hh'
          go_wp2_with (first | (go_at_call 39; refine hkl.mono ?_; rintro e w2 ⟨rfl, rfl⟩) | (go_at_call 42; refine hcut.mono ?_; rintro e w2 ⟨tt, rfl, htt, ⟨mtt, Kx, hset2, hm2, hKx, hKxl⟩, hb2⟩; have HU2 := Lib.hid (HU.out.below hb2); have ho2 := HU2.out.tm; obtain ⟨bx, rfl⟩ := hset2.some_of (by obtain ⟨b, hb⟩ := HN.out; exact ⟨_, (hKx _).2 ⟨b, hb, rfl⟩⟩); have HK := Lib.hid hKx; have HMM := Lib.hid hm2; have HT2 := Lib.hid hset2; have HB2 := Lib.hid hb2; clear hKx hm2 hset2 hl1 hb2) | (at_mapUpdate; go_must (refine wpList_mapUpdate_own _ rfl _ _ _ 60 rfl 3 31 lawInt Try.underlying60 ptrElem (w.heap.size + 1) nT DT rfl ho2 hnTm _ _ _ rfl rfl hkey _ [] (hmk _) ?_); intro w3 hown3 hg3; obtain ⟨HU3, HT3⟩ := tail_of HU.out HU2.out HB2.out HT2.out htt (HMM.out bx rfl) HK.out hKxl hr64 hown3 hg3; have hl3 := look_some hown3 hr64 (fun z => atKey_put_same ho2.isMap (by trivial) _ z); obtain ⟨hcx, Dx, hownx, hDx⟩ := set_parts HT3; have HU4 := Lib.hid HU3; have HT4 := Lib.hid HT3; have HO3 := Lib.hid hown3; clear ho2 hg3 hown3 HU3 HT3) | (go_at_call 34; refine (held_any _ tt _ hcx).mono ?_; rintro e w1 ⟨rfl, rfl⟩) | (at_range; refine wpList_range_own _ rfl _ 51 rfl 9 68 law9 Try.underlying51 unitElem bx Kx.length Dx rfl hownx ?_; intro wi0 hrgx hgx hsx))
          try go_frame
          have hR2 : w3.heap.size ≠ R := Nat.ne_of_gt HU4.out.rg.lt
          have hB2 := HU4.out.kp.size
          have kx : Kp (fun i => i = w3.heap.size) w3 wi0 := (Kp.of_grown hgx).mono (fun i hi => by cases hi)
          obtain ⟨nTx, DTx, hui, hnT2⟩ : ∃ nTx DTx, Outs w wi0 w.heap.size w.heap.size R bm (w.heap.size + 1) Ks.length nTx cnt1 D DTx (fun z => left z && !z.sameKey (.string x)) moO Kt Ko ∧ nTx ≤ vs.length + 1 := ⟨nT + 1, _, HU4.out.step hR2 (.inr (Nat.le_refl _)) hB2 kx, by omega⟩
          have hsi := HT4.out.kept kx (by have := HT4.out.lt; omega) (fun b e => by cases e; have := hownx.lt; omega)
          have hto : tt ≠ w.heap.size := by have := HU.out.os.lt; omega
          have hmob : ∀ b, moO = some b → b ≠ bx := fun b e e2 => by
            have h1 := HMM.out bx rfl
            subst e
            have := HU.out.os.lt_map
            omega
          have HB := Lib.hid hmob
          clear hgx hsx kx hownx hcx hl3 hmob
          generalize w3.heap.size = R2 at *
          go_loopw [] (fun wi => ∃ left2 cnt2 us moI KI, Outs w wi w.heap.size w.heap.size R bm (w.heap.size + 1) Ks.length nTx cnt1 D DTx (fun z => left z && !z.sameKey (.string x)) moI Kt KI ∧ wi.ranges Try.prog 9 unitElem bx R2 Kx.length Dx left2 cnt2 ∧ Vis Kx left2 us ∧ us.length + cnt2 ≤ Kx.length ∧ SetIs wi tt (some bx) Kx ∧ (∀ b, moI = some b → b ≠ bx) ∧ (∀ z, z ∈ KI ↔ TimesOf vs Kt k z ∨ ∃ b ∈ us, x ++ b = z) ∧ KI.length ≤ vs.length * Kt.length + us.length) (fun wi => wi.rangeLeft bx R2)
          case atStart => exact ⟨_, _, [], moO, Ko, hui, hrgx, Vis.start hDx, by rw [hDx.2.2]; simp, hsi, HB.out, fun z => by simp [HM.out z], by simpa using hle⟩
          case round =>
            obtain ⟨left2, cnt2, us, moI, KI, hu, hrg2, hvis2, hcnt2, hst, hmb, hme2, hle2⟩ := hrel
            clear hui hrgx hsi
            go_wp2_with (at_next; refine next_set _ rfl _ rfl bx R2 Kx.length Dx left2 cnt2 rfl hrg2 ?_ ?_)
            · intro hc0 hl0
              have hdone := hvis2.done hl0
              have hfin : ∀ z, z ∈ KI ↔ TimesOf (vs ++ [x]) Kt k z := fun z => by
                rw [hme2 z, TimesOf.snoc]
                refine or_congr Iff.rfl ⟨fun ⟨b, hb, e⟩ => ?_, fun ⟨b, hb, e⟩ => ?_⟩
                · obtain ⟨c, hc, e2⟩ := (HK.out b).1 ((hdone b).1 hb)
                  exact ⟨c, hc, by rw [HH.out c hc, e2, e]⟩
                · exact ⟨headB b rm, (hdone _).2 ((HK.out _).2 ⟨b, hb, rfl⟩), by rw [← HH.out b hb, e]⟩
              have hlen2 : KI.length ≤ (vs ++ [x]).length * Kt.length := by
                simp only [List.length_append, List.length_singleton, Nat.add_mul, Nat.one_mul]
                omega
              have HF := Lib.hid hfin
              have HU2 := Lib.hid hu
              clear hfin hdone hme2 hvis2 hl0 hc0 hrg2 hmb hst hu
              go_wp2
              exact ⟨⟨_, cnt1, vs ++ [x], moI, KI, _, _, HU2.out, HV.out, by simp; omega, HF.out, hlen2, by rw [List.length_append]; exact hnT2⟩, by rw [HU2.out.rg.left_eq, HS.out]; exact hlt1⟩
            · intro y wi1 cnt3 hy1 hly hhy hrg3 hlt3 hg3 hs3 hen3
              have k3 : Kp (fun i => i = R2) wr wi1 := (Kp.of_grown hg3).mono (fun i hi => (Option.some.inj hi).symm)
              have hit := ranges_iter hrg2
              obtain ⟨since, seen, c0, hi3⟩ := hit
              have hu3 := hu.step hR2 (.inl ⟨_, _, _, _, hi3⟩) hB2 k3
              have hst3 : SetIs wi1 tt (some bx) Kx := by
                obtain ⟨_, hbb, _⟩ := id hst
                exact hst.kept k3 (blk_ne_iter hbb hi3) (fun b e => set_ne_iter (e ▸ hst) hi3)
              have hvis3 := hvis2.step hDx hly hhy
              have hyK : y ∈ Kx := by rw [hDx.has_ y] at hhy; simpa using hhy
              have hyl : y.length ≤ 8000 := by
                obtain ⟨b, hb, e⟩ := (HK.out y).1 hyK
                have := (hKt.2 b hb).2
                rw [← e]; unfold headB; rw [List.length_take]; omega
              have hadd := fun wx => add_str wx x y hx8.2 hyl
              have hms2 : wr.rangeLeft bx R2 = cnt2 := hrg2.left_eq
              have hKI : KI.length ≤ 2000000 := by
                have a1 := hKt.1
                have a2 := hKs.1
                have : vs.length * Kt.length ≤ 1000 * 1000 := Nat.mul_le_mul (by omega) a1
                omega
              have hput := put_any wi1 w.heap.size moI KI (x ++ y) (by rw [List.length_append]; unfold maxLen; have := hx8.2; omega) (by unfold maxLen; omega) hu3.os
              have hfin : ∀ z, z ∈ (if x ++ y ∈ KI then KI else KI ++ [x ++ y]) ↔ TimesOf vs Kt k z ∨ ∃ b ∈ us ++ [y], x ++ b = z := fun z => by
                rw [put_mem, hme2 z, or_assoc]
                refine or_congr Iff.rfl ⟨fun h => ?_, fun ⟨b, hb, e⟩ => ?_⟩
                · rcases h with ⟨b, hb, e⟩ | e
                  · exact ⟨b, by simp [hb], e⟩
                  · exact ⟨y, by simp, e.symm⟩
                · rcases List.mem_append.1 hb with h | h
                  · exact .inl ⟨b, h, e⟩
                  · simp at h; subst h; exact .inr e.symm
              have hlen2 : (if x ++ y ∈ KI then KI else KI ++ [x ++ y]).length ≤ vs.length * Kt.length + (us ++ [y]).length := by
                have := put_len (Ko := KI) (y := x ++ y)
                simp only [List.length_append, List.length_singleton]
                omega
              generalize (if x ++ y ∈ KI then KI else KI ++ [x ++ y]) = K' at *
              generalize decide (x ++ y ∉ KI) = rb at *
              have HF := Lib.hid hfin
              have HU3 := Lib.hid hu3
              have HV3 := Lib.hid hvis3
              have HM3 := Lib.hid hms2
              have HT3 := Lib.hid hst3
              have HB3 := Lib.hid hmb
              have HI3 := Lib.hid (ranges_iter hrg3)
              clear hs3 hfin hu3 hvis3 hms2 hst3 hmb hme2 hvis2 hly hhy hyK hrg2 hst hi3 hg3 k3 hu
              go_wp2_with (first | (go_at_call 40; refine hput.mono ?_; rintro e w5 ⟨rfl, mo2, hmo2, hset2, hkp2⟩))
              have hu5 := HU3.out.put hmo2 hset2 hkp2
              obtain ⟨_, hbb, _⟩ := id HU3.out.os
              obtain ⟨_, _, _, hi5⟩ := HI3.out
              have hrg5 := ranges_kp hrg3 hkp2 (fun h => h.elim (fun e => SetIs.ne HU3.out.os HT3.out e.symm) (fun e => HB3.out bx e rfl)) (fun h => h.elim (fun e => blk_ne_iter hbb hi5 e.symm) (fun e => set_ne_iter (e ▸ HU3.out.os) hi5 rfl))
              have hst5 := HT3.out.kept hkp2 (fun h => h.elim hto (fun e => SetIs.ne HT3.out (e ▸ HU3.out.os) rfl)) (fun b e h => by
                cases e
                exact h.elim (fun e => SetIs.ne HU3.out.os HT3.out e.symm) (fun e => HB3.out bx e rfl))
              have hmb5 : ∀ b, mo2 = some b → b ≠ bx := fun b e => by
                rcases hmo2 with e2 | ⟨b', e2, hb'⟩
                · exact HB3.out b (e2 ▸ e)
                · rw [e] at e2
                  have := Option.some.inj e2
                  have := HT3.out.lt_map
                  omega
              exact ⟨⟨_, cnt3, us ++ [y], mo2, K', hu5, hrg5, HV3.out, by simp; omega, hst5, hmb5, HF.out, hlen2⟩, by rw [hrg5.left_eq, HM3.out]; exact hlt3⟩
end Go.Proofs.Ythcnffieoocnkaa.st

import Derived.Test.YtldamieigigncaaGreatDoorVcal
namespace Go.Proofs.YtldamieigigncaaGreatDoor.lx
open Go.ChangeShapes Go.WideShapes Go.ChangeAt Go.RowKit
set_option linter.unusedVariables false
attribute [local go_sem] run_store_float
theorem ListOf.lit {α : Type} {c : Nat} {E : Elem α} {w : World} {A : Nat → Prop} {g cap : Nat} {t : TypeId} {xs : List α} {cells : List Value} (hb : Blk w g t cells.toArray) (hA : A g) (hl : xs.length ≤ maxLen) (h : ∀ (k : Nat) (x : α), xs[k]? = some x → ∃ cs, cs.length = c ∧ (∀ j u, cs[j]? = some u → cells[k * c + j]? = some u) ∧ E w A x cs) : ListOf c E w A (.slice (some ⟨g, 0, none⟩) xs.length cap) xs := by
  refine ⟨hl, _, cap, rfl, fun _ => ⟨g, rfl, hb.lt, hA, fun k x hx => ?_⟩⟩
  obtain ⟨cs, h1, h2, h3⟩ := h k x hx
  refine ⟨cs, h1, fun j u hj => ?_, h3⟩
  have := hb.cell (k * c + j)
  rw [this]
  simpa using h2 j u hj
set_option maxRecDepth 100000 in
theorem meaning1_any (w : World) (gb : Nat) (p : Nat) (u1 u2 u3 u4 : Value) (hb : Blk w gb 126 #[.int .i64 p, u1, u2, u3, u4]) (ao : Option Addr) (n c : Nat) : Calls Tryz.prog 167 #[.slice ao n c, .pointer (some ⟨gb, 0, none⟩)] w fun e w' => e = .returned (.agg #[.int .i64 p, .float .f64 0, .slice ao n c]) ∧ Below w.heap.size w w' := by
  have c0 : w.cell? ⟨gb, 0, none⟩ = some (.int .i64 p) := hb.cell 0
  have hl := hb.lt
  clear hb
  go_enter Tryz.func167, Tryz.ntmps167
  go_wp2_with fail
  refine bodyPost_ret (v := .agg #[.int .i64 p, .float .f64 0, .slice ao n c]) (by simp [results, Tryz.results167, go_sem]) rfl ⟨rfl, (Below.refl _ _).alloc (Nat.le_refl _) _⟩
theorem meanP_at (p K : Nat) (T : List UInt8) (L : List Altn) (o : Nat) (x : List UInt8) : meanP (.mk p K T L o) x = if o = 63 then [(p, 0, [.mk p K T L 0]), (p, 0, [])] else if o = 42 then [(p, 0, [.mk p K T L 0, .mk p 0 x [] 0]), (p, 0, [])] else if o = 43 then [(p, 0, [.mk p K T L 0, .mk p K T L 42])] else L := rfl
theorem it1 {W : World} {A : Nat → Prop} {k g : Nat} {a : Itm} {av : Value} (hb : Blk W g 126 (ItmC a av).toArray) (hA : A g) (ha : AltsAt k W A av a.alts) : ListOf 5 (EItm (AltsAt k)) W A (.slice (some ⟨g, 0, none⟩) 1 1) [a] :=
  ListOf.lit (xs := [a]) (cells := ItmC a av) hb hA (by simp [maxLen]) (fun j x hj => by
    have hj0 : j = 0 := by
      have := (List.getElem?_eq_some_iff.1 hj).1
      simp at this
      omega
    subst hj0
    obtain rfl : a = x := by simpa using hj
    exact ⟨ItmC a av, rfl, fun q u hq => by rw [Nat.zero_mul, Nat.zero_add]; exact hq, av, rfl, ha⟩)
theorem it2 {W : World} {A : Nat → Prop} {k g : Nat} {a b : Itm} {av bv : Value} (hb : Blk W g 126 (ItmC a av ++ ItmC b bv).toArray) (hA : A g) (ha : AltsAt k W A av a.alts) (hb2 : AltsAt k W A bv b.alts) : ListOf 5 (EItm (AltsAt k)) W A (.slice (some ⟨g, 0, none⟩) 2 2) [a, b] :=
  ListOf.lit (xs := [a, b]) (cells := ItmC a av ++ ItmC b bv) hb hA (by simp [maxLen]) (fun j x hj => by
    have hj2 : j = 0 ∨ j = 1 := by
      have := (List.getElem?_eq_some_iff.1 hj).1
      simp at this
      omega
    rcases hj2 with rfl | rfl
    · obtain rfl : a = x := by simpa using hj
      exact ⟨ItmC a av, rfl, fun q u hq => by
        rw [Nat.zero_mul, Nat.zero_add, List.getElem?_append_left (List.getElem?_eq_some_iff.1 hq).1]
        exact hq, av, rfl, ha⟩
    · obtain rfl : b = x := by simpa using hj
      exact ⟨ItmC b bv, rfl, fun q u hq => by
        have e : (ItmC a av).length = 5 := rfl
        rw [List.getElem?_append_right (by omega), e, show 1 * 5 + q - 5 = q by omega]
        exact hq, bv, rfl, hb2⟩)
theorem mal1 {W : World} {A : Nat → Prop} {k g p : Nat} {v1 : Value} {is1 : List Itm} (hb : Blk W g 124 #[.int .i64 p, .float .f64 0, v1]) (hA : A g) (h1 : ListOf 5 (EItm (AltsAt k)) W A v1 is1) : AltsAt (k + 1) W A (.slice (some ⟨g, 0, none⟩) 1 1) [(p, 0, is1)] :=
  ListOf.lit (xs := [(p, 0, is1)]) (cells := AltC (p, 0, is1) v1) hb hA (by simp [maxLen]) (fun j x hj => by
    have hj0 : j = 0 := by
      have := (List.getElem?_eq_some_iff.1 hj).1
      simp at this
      omega
    subst hj0
    obtain rfl : (p, 0, is1) = x := by simpa using hj
    exact ⟨AltC (p, 0, is1) v1, rfl, fun q u hq => by rw [Nat.zero_mul, Nat.zero_add]; exact hq, v1, rfl, h1⟩)
theorem mal2 {W : World} {A : Nat → Prop} {k g p : Nat} {v1 v2 : Value} {is1 is2 : List Itm} (hb : Blk W g 124 #[.int .i64 p, .float .f64 0, v1, .int .i64 p, .float .f64 0, v2]) (hA : A g) (h1 : ListOf 5 (EItm (AltsAt k)) W A v1 is1) (h2 : ListOf 5 (EItm (AltsAt k)) W A v2 is2) : AltsAt (k + 1) W A (.slice (some ⟨g, 0, none⟩) 2 2) [(p, 0, is1), (p, 0, is2)] :=
  ListOf.lit (xs := [(p, 0, is1), (p, 0, is2)]) (cells := AltC (p, 0, is1) v1 ++ AltC (p, 0, is2) v2) hb hA (by simp [maxLen]) (fun j x hj => by
    have hj2 : j = 0 ∨ j = 1 := by
      have := (List.getElem?_eq_some_iff.1 hj).1
      simp at this
      omega
    rcases hj2 with rfl | rfl
    · obtain rfl : (p, 0, is1) = x := by simpa using hj
      exact ⟨AltC (p, 0, is1) v1, rfl, fun q u hq => by
        rw [Nat.zero_mul, Nat.zero_add, List.getElem?_append_left (List.getElem?_eq_some_iff.1 hq).1]
        exact hq, v1, rfl, h1⟩
    · obtain rfl : (p, 0, is2) = x := by simpa using hj
      exact ⟨AltC (p, 0, is2) v2, rfl, fun q u hq => by
        have e : (AltC (p, 0, is1) v1).length = 3 := rfl
        rw [List.getElem?_append_right (by omega), e, show 1 * 3 + q - 3 = q by omega]
        exact hq, v2, rfl, h2⟩)
set_option maxRecDepth 100000 in
set_option maxHeartbeats 4000000 in
theorem meaning_any (w : World) (k : Nat) (A : Nat → Prop) (hA : ∀ g, w.heap.size ≤ g → A g) (i : Itm) (x : List UInt8) (ao : Option Addr) (c : Nat) (hv : AltsAt k w A (.slice ao i.alts.length c) i.alts) (hk : i.kind = 0 ∨ i.kind = 1 ∨ i.kind = 2) (ho : i.op < 256) : Calls Tryz.prog 144 #[.agg #[.int .i64 i.at_, .int .i64 i.kind, .string (S i.text), .slice ao i.alts.length c, .int .u8 i.op], .string (S x)] w fun e w' => (∃ (v : Value) (k' : Nat), e = .returned v ∧ AltsAt k' w' A v (meanP i x)) ∧ Below w.heap.size w w' := by
  obtain ⟨p, K, T, L, o⟩ := i
  simp only [Itm.at_, Itm.kind, Itm.text, Itm.alts, Itm.op] at *
  have HV := Lib.hid hv
  have HA := Lib.hid hA
  clear hv hA
  generalize hn : L.length = n at *
  have HN := Lib.hid hn
  clear hn
  go_enter Tryz.func144, Tryz.ntmps144
  go_upto_region 2 with fail
  have b0 := Blk.new w 126 #[.int .i64 p, .int .i64 K, .string (S T), .slice ao n c, .int .u8 o]
  have hb0 : Below w.heap.size w (w.alloc (.cells #[.int .i64 p, .int .i64 K, .string (S T), .slice ao n c, .int .u8 o] 126)) := (Below.refl _ _).alloc (Nat.le_refl _) _
  generalize w.alloc (.cells #[.int .i64 p, .int .i64 K, .string (S T), .slice ao n c, .int .u8 o] 126) = w1 at *
  have c0 : w1.cell? ⟨w.heap.size, 0, none⟩ = some (.int .i64 p) := b0.cell 0
  have c1 : w1.cell? ⟨w.heap.size, 1, none⟩ = some (.int .i64 K) := b0.cell 1
  have c2 : w1.cell? ⟨w.heap.size, 2, none⟩ = some (.string (S T)) := b0.cell 2
  have c3 : w1.cell? ⟨w.heap.size, 3, none⟩ = some (.slice ao n c) := b0.cell 3
  have c4 : w1.cell? ⟨w.heap.size, 4, none⟩ = some (.int .u8 o) := b0.cell 4
  have hl0 := b0.lt
  have b1 := (Blk.new w1 126 #[.int .i64 p, .int .i64 K, .string (S T), .slice ao n c, .int .u8 o]).alloc (.cells #[.int .i64 p, .int .i64 K, .string (S T), .slice ao n c, .int .u8 o] 126)
  have b2 := Blk.new (w1.alloc (.cells #[.int .i64 p, .int .i64 K, .string (S T), .slice ao n c, .int .u8 o] 126)) 126 #[.int .i64 p, .int .i64 K, .string (S T), .slice ao n c, .int .u8 o]
  rw [World.size_alloc] at b2
  have hb2 : Below w1.heap.size w1 (((w1.alloc (.cells #[.int .i64 p, .int .i64 K, .string (S T), .slice ao n c, .int .u8 o] 126)).alloc (.cells #[.int .i64 p, .int .i64 K, .string (S T), .slice ao n c, .int .u8 o] 126)).drew) := (((Below.refl _ w1).alloc (Nat.le_refl _) _).alloc (by simp) _).drew
  have B1 := Lib.hid b1
  have B2 := Lib.hid b2
  have HB2 := Lib.hid hb2
  have B0 := Lib.hid b0
  have HB0 := Lib.hid hb0
  clear b1 b2 hb2 b0 hb0
  go_region
  · clear c0 c1 c2 c3 c4 hl0
    have d1 : Blk (((w1.alloc (.cells #[.int .i64 p, .int .i64 K, .string (S T), .slice ao n c, .int .u8 o] 126)).alloc (.cells #[.int .i64 p, .int .i64 K, .string (S T), .slice ao n c, .int .u8 o] 126)).drew) (w1.heap.size) 126 #[.int .i64 p, .int .i64 K, .string (S T), .slice ao n c, .int .u8 o] := B1.out
    have d2 : Blk (((w1.alloc (.cells #[.int .i64 p, .int .i64 K, .string (S T), .slice ao n c, .int .u8 o] 126)).alloc (.cells #[.int .i64 p, .int .i64 K, .string (S T), .slice ao n c, .int .u8 o] 126)).drew) (w1.heap.size + 1) 126 #[.int .i64 p, .int .i64 K, .string (S T), .slice ao n c, .int .u8 o] := B2.out
    have HB2 := HB2
    have hz1 : w.heap.size + 1 ≤ w1.heap.size := B0.out.lt
    generalize ((w1.alloc (.cells #[.int .i64 p, .int .i64 K, .string (S T), .slice ao n c, .int .u8 o] 126)).alloc (.cells #[.int .i64 p, .int .i64 K, .string (S T), .slice ao n c, .int .u8 o] 126)).drew = w2 at *
    have p4 := (d1).cell 4
    have m4 := (d2).cell 4
    have fp := (d1).frozen 4
    have fm := (d2).frozen 4
    have lp := (d1).lt
    have lm := (d2).lt
    have b0 : Blk w2 w.heap.size 126 #[.int .i64 p, .int .i64 K, .string (S T), .slice ao n c, .int .u8 o] := B0.out.below HB2.out B0.out.lt
    have c4 : w2.cell? ⟨w.heap.size, 4, none⟩ = some (.int .u8 o) := b0.cell 4
    have h0lt := b0.lt
    go_upto_region 4 with fail
    have x0 := (b0.far (p := ⟨w1.heap.size, 4, none⟩) (by show w.heap.size ≠ w1.heap.size; omega) (.int .u8 0)).far (p := ⟨(w1.heap.size + 1), 4, none⟩) (by show w.heap.size ≠ (w1.heap.size + 1); omega) (.int .u8 42)
    have xp := ((d1).set_ 4 (.int .u8 0)).far (p := ⟨(w1.heap.size + 1), 4, none⟩) (by show w1.heap.size ≠ (w1.heap.size + 1); omega) (.int .u8 42)
    have xm := ((d2).far (p := ⟨w1.heap.size, 4, none⟩) (by show (w1.heap.size + 1) ≠ w1.heap.size; omega) (.int .u8 0)).set_ 4 (.int .u8 42)
    have hb3 : Below w.heap.size w ((w2.setCell ⟨w1.heap.size, 4, none⟩ (.int .u8 0)).setCell ⟨(w1.heap.size + 1), 4, none⟩ (.int .u8 42)) := ((HB0.out.trans (HB2.out.mono (by omega))).setCell (by show w.heap.size ≤ w1.heap.size; omega) _).setCell (by show w.heap.size ≤ (w1.heap.size + 1); omega) _
    clear d1 d2 b0 c4 p4 m4 fp fm lp lm h0lt
    generalize (w2.setCell ⟨w1.heap.size, 4, none⟩ (.int .u8 0)).setCell ⟨(w1.heap.size + 1), 4, none⟩ (.int .u8 42) = w3 at *
    have X0 := Lib.hid x0
    have XP : Hid (Blk w3 (w1.heap.size) 126 #[.int .i64 p, .int .i64 K, .string (S T), .slice ao n c, .int .u8 0]) := Lib.hid xp
    have XM : Hid (Blk w3 ((w1.heap.size + 1)) 126 #[.int .i64 p, .int .i64 K, .string (S T), .slice ao n c, .int .u8 42]) := Lib.hid xm
    have HB3 := Lib.hid hb3
    clear x0 xp xm hb3 hz1 B1 B2 HB2 B0 HB0
    generalize hbme : (w1.heap.size + 1) = bm at *
    generalize hbpe : w1.heap.size = bp at *
    clear hbpe hbme
    have hz3 := HB3.out.size
    have HM := Lib.hid (fun (wx : World) (hx : Below w3.heap.size w3 wx) (ao : Option Addr) (n c : Nat) => meaning1_any wx w.heap.size p _ _ _ _ (X0.out.below hx X0.out.lt) ao n c)
    have HAV := Lib.hid (fun (wx : World) (hx : Below w.heap.size w wx) => keepsAlts k w wx A A _ _ HV.out (fun g hg hA => ⟨hA, hx.block g hg⟩) hx.size)
    have c0 : w3.cell? ⟨w.heap.size, 0, none⟩ = some (.int .i64 p) := X0.out.cell 0
    have c3 : w3.cell? ⟨w.heap.size, 3, none⟩ = some (.slice ao n c) := X0.out.cell 3
    have c4 : w3.cell? ⟨w.heap.size, 4, none⟩ = some (.int .u8 o) := X0.out.cell 4
    have lb := X0.out.lt
    have lp := XP.out.lt
    have lm := XM.out.lt
    have p0 : w3.cell? ⟨bp, 0, none⟩ = some (.int .i64 p) := XP.out.cell 0
    have m0 : w3.cell? ⟨bm, 0, none⟩ = some (.int .i64 p) := XM.out.cell 0
    have p1 : w3.cell? ⟨bp, 1, none⟩ = some (.int .i64 K) := XP.out.cell 1
    have m1 : w3.cell? ⟨bm, 1, none⟩ = some (.int .i64 K) := XM.out.cell 1
    have p2 : w3.cell? ⟨bp, 2, none⟩ = some (.string (S T)) := XP.out.cell 2
    have m2 : w3.cell? ⟨bm, 2, none⟩ = some (.string (S T)) := XM.out.cell 2
    have p3 : w3.cell? ⟨bp, 3, none⟩ = some (.slice ao n c) := XP.out.cell 3
    have m3 : w3.cell? ⟨bm, 3, none⟩ = some (.slice ao n c) := XM.out.cell 3
    have p4 : w3.cell? ⟨bp, 4, none⟩ = some (.int .u8 0) := XP.out.cell 4
    have m4 : w3.cell? ⟨bm, 4, none⟩ = some (.int .u8 42) := XM.out.cell 4
    by_cases h63 : o = 63
    · subst h63
      go_wp2_with fail
      have hb3a : Below w3.heap.size w3 (w3.alloc (.cells #[.int .i64 p, .int .i64 K, .string (S T), .slice ao n c, .int .u8 0] 126)) := (Below.refl _ _).alloc (Nat.le_refl _) _
      refine (HM.out _ hb3a _ _ _).mono ?_
      rintro e w4 ⟨rfl, hb4⟩
      have hb34 := hb3a.trans (hb4.mono hb3a.size)
      have i4 := (Blk.new w3 126 #[.int .i64 p, .int .i64 K, .string (S T), .slice ao n c, .int .u8 0]).below hb4 (by simp)
      clear c0 c3 c4 p0 p1 p2 p3 p4 m0 m1 m2 m3 m4
      go_wp2_with fail
      refine (HM.out _ hb34 _ _ _).mono ?_
      rintro e w5 ⟨rfl, hb5⟩
      have hb35 := hb34.trans (hb5.mono hb34.size)
      have i5 := i4.below hb5 i4.lt
      go_wp2_with fail
      go_ret
      have hz5 := hb35.size
      have hbz := (HB3.out.trans (hb35.mono hz3)).alloc (o := .cells #[.int .i64 p, .float .f64 0, .slice (some ⟨w3.heap.size, 0, none⟩) 1 1, .int .i64 p, .float .f64 0, .slice none 0 0] 124) (by omega)
      refine ⟨⟨_, k + 1, rfl, ?_⟩, hbz⟩
      rw [meanP_at, if_pos rfl]
      have hav := HAV.out _ hbz
      refine mal2 (k := k) (Blk.new w5 _ _) (HA.out _ (by omega)) (it1 (a := .mk p K T L 0) (av := .slice ao n c) (i5.alloc _) (HA.out _ hz3) (by rw [← HN.out] at hav ⊢; exact hav)) (ListOf.nil _ _)
    by_cases h42 : o = 42
    · subst h42
      go_wp2_with fail
      have hbs : Below w3.heap.size w3 ((w3.alloc (.cells #[.int .i64 p, .int .i64 0, .string (S x), .slice none 0 0, .int .u8 0] 126)).alloc (.cells #[.int .i64 p, .int .i64 K, .string (S T), .slice ao n c, .int .u8 0, .int .i64 p, .int .i64 0, .string (S x), .slice none 0 0, .int .u8 0] 126)) := ((Below.refl _ _).alloc (Nat.le_refl _) _).alloc (by simp) _
      refine (HM.out _ hbs _ _ _).mono ?_
      rintro e w4 ⟨rfl, hb4⟩
      have hb34 := hbs.trans (hb4.mono hbs.size)
      have i3 := Blk.new (w3.alloc (.cells #[.int .i64 p, .int .i64 0, .string (S x), .slice none 0 0, .int .u8 0] 126)) 126 #[.int .i64 p, .int .i64 K, .string (S T), .slice ao n c, .int .u8 0, .int .i64 p, .int .i64 0, .string (S x), .slice none 0 0, .int .u8 0]
      rw [World.size_alloc] at i3
      have i4 := i3.below hb4 (by simp)
      clear c0 c3 c4 p0 p1 p2 p3 p4 m0 m1 m2 m3 m4 i3
      go_wp2_with fail
      refine (HM.out _ hb34 _ _ _).mono ?_
      rintro e w5 ⟨rfl, hb5⟩
      have hb35 := hb34.trans (hb5.mono hb34.size)
      have i5 := i4.below hb5 i4.lt
      go_wp2_with fail
      go_ret
      have hz5 := hb35.size
      have hbz := (HB3.out.trans (hb35.mono hz3)).alloc (o := .cells #[.int .i64 p, .float .f64 0, .slice (some ⟨w3.heap.size + 1, 0, none⟩) 2 2, .int .i64 p, .float .f64 0, .slice none 0 0] 124) (by omega)
      refine ⟨⟨_, k + 1, rfl, ?_⟩, hbz⟩
      rw [meanP_at, if_neg (by decide), if_pos rfl]
      have hav := HAV.out _ hbz
      refine mal2 (k := k) (Blk.new w5 _ _) (HA.out _ (by omega)) (it2 (a := .mk p K T L 0) (b := .mk p 0 x [] 0) (av := .slice ao n c) (bv := .slice none 0 0) (i5.alloc _) (HA.out _ (by omega)) (by rw [← HN.out] at hav ⊢; exact hav) (AltsAt.nil k _ _)) (ListOf.nil _ _)
    by_cases h43 : o = 43
    · subst h43
      go_wp2_with fail
      have hbs : Below w3.heap.size w3 (w3.alloc (.cells #[.int .i64 p, .int .i64 K, .string (S T), .slice ao n c, .int .u8 0, .int .i64 p, .int .i64 K, .string (S T), .slice ao n c, .int .u8 42] 126)) := (Below.refl _ _).alloc (Nat.le_refl _) _
      refine (HM.out _ hbs _ _ _).mono ?_
      rintro e w4 ⟨rfl, hb4⟩
      have hb34 := hbs.trans (hb4.mono hbs.size)
      have i4 := (Blk.new w3 126 #[.int .i64 p, .int .i64 K, .string (S T), .slice ao n c, .int .u8 0, .int .i64 p, .int .i64 K, .string (S T), .slice ao n c, .int .u8 42]).below hb4 (by simp)
      clear c0 c3 c4 p0 p1 p2 p3 p4 m0 m1 m2 m3 m4
      go_wp2_with fail
      go_ret
      have hz5 := hb34.size
      have hbz := (HB3.out.trans (hb34.mono hz3)).alloc (o := .cells #[.int .i64 p, .float .f64 0, .slice (some ⟨w3.heap.size, 0, none⟩) 2 2] 124) (by omega)
      refine ⟨⟨_, k + 1, rfl, ?_⟩, hbz⟩
      rw [meanP_at, if_neg (by decide), if_neg (by decide), if_pos rfl]
      have hav := HAV.out _ hbz
      refine mal1 (k := k) (Blk.new w4 _ _) (HA.out _ (by omega)) (it2 (a := .mk p K T L 0) (b := .mk p K T L 42) (av := .slice ao n c) (bv := .slice ao n c) (i4.alloc _) (HA.out _ (by omega)) (by rw [← HN.out] at hav ⊢; exact hav) (by rw [← HN.out] at hav ⊢; exact hav))
    have e63 : ((o : Int) == 63) = false := by rw [beq_eq_false_iff_ne]; omega
    have e42 : ((o : Int) == 42) = false := by rw [beq_eq_false_iff_ne]; omega
    have e43 : ((o : Int) == 43) = false := by rw [beq_eq_false_iff_ne]; omega
    go_wp2_with fail
    go_ret
    refine ⟨⟨_, k, rfl, ?_⟩, HB3.out⟩
    rw [meanP_at, if_neg h63, if_neg h42, if_neg h43]
    exact HAV.out w3 HB3.out
  · clear c0 c1 c2 c3 c4 hl0
    have d1 : Blk (((w1.alloc (.cells #[.int .i64 p, .int .i64 K, .string (S T), .slice ao n c, .int .u8 o] 126)).alloc (.cells #[.int .i64 p, .int .i64 K, .string (S T), .slice ao n c, .int .u8 o] 126)).drew) (w1.heap.size) 126 #[.int .i64 p, .int .i64 K, .string (S T), .slice ao n c, .int .u8 o] := B1.out
    have d2 : Blk (((w1.alloc (.cells #[.int .i64 p, .int .i64 K, .string (S T), .slice ao n c, .int .u8 o] 126)).alloc (.cells #[.int .i64 p, .int .i64 K, .string (S T), .slice ao n c, .int .u8 o] 126)).drew) (w1.heap.size + 1) 126 #[.int .i64 p, .int .i64 K, .string (S T), .slice ao n c, .int .u8 o] := B2.out
    have HB2 := HB2
    have hz1 : w.heap.size + 1 ≤ w1.heap.size := B0.out.lt
    generalize ((w1.alloc (.cells #[.int .i64 p, .int .i64 K, .string (S T), .slice ao n c, .int .u8 o] 126)).alloc (.cells #[.int .i64 p, .int .i64 K, .string (S T), .slice ao n c, .int .u8 o] 126)).drew = w2 at *
    have p4 := (d2).cell 4
    have m4 := (d1).cell 4
    have fp := (d2).frozen 4
    have fm := (d1).frozen 4
    have lp := (d2).lt
    have lm := (d1).lt
    have b0 : Blk w2 w.heap.size 126 #[.int .i64 p, .int .i64 K, .string (S T), .slice ao n c, .int .u8 o] := B0.out.below HB2.out B0.out.lt
    have c4 : w2.cell? ⟨w.heap.size, 4, none⟩ = some (.int .u8 o) := b0.cell 4
    have h0lt := b0.lt
    go_upto_region 4 with fail
    have x0 := (b0.far (p := ⟨(w1.heap.size + 1), 4, none⟩) (by show w.heap.size ≠ (w1.heap.size + 1); omega) (.int .u8 0)).far (p := ⟨w1.heap.size, 4, none⟩) (by show w.heap.size ≠ w1.heap.size; omega) (.int .u8 42)
    have xp := ((d2).set_ 4 (.int .u8 0)).far (p := ⟨w1.heap.size, 4, none⟩) (by show (w1.heap.size + 1) ≠ w1.heap.size; omega) (.int .u8 42)
    have xm := ((d1).far (p := ⟨(w1.heap.size + 1), 4, none⟩) (by show w1.heap.size ≠ (w1.heap.size + 1); omega) (.int .u8 0)).set_ 4 (.int .u8 42)
    have hb3 : Below w.heap.size w ((w2.setCell ⟨(w1.heap.size + 1), 4, none⟩ (.int .u8 0)).setCell ⟨w1.heap.size, 4, none⟩ (.int .u8 42)) := ((HB0.out.trans (HB2.out.mono (by omega))).setCell (by show w.heap.size ≤ (w1.heap.size + 1); omega) _).setCell (by show w.heap.size ≤ w1.heap.size; omega) _
    clear d1 d2 b0 c4 p4 m4 fp fm lp lm h0lt
    generalize (w2.setCell ⟨(w1.heap.size + 1), 4, none⟩ (.int .u8 0)).setCell ⟨w1.heap.size, 4, none⟩ (.int .u8 42) = w3 at *
    have X0 := Lib.hid x0
    have XP : Hid (Blk w3 ((w1.heap.size + 1)) 126 #[.int .i64 p, .int .i64 K, .string (S T), .slice ao n c, .int .u8 0]) := Lib.hid xp
    have XM : Hid (Blk w3 (w1.heap.size) 126 #[.int .i64 p, .int .i64 K, .string (S T), .slice ao n c, .int .u8 42]) := Lib.hid xm
    have HB3 := Lib.hid hb3
    clear x0 xp xm hb3 hz1 B1 B2 HB2 B0 HB0
    generalize hbpe : (w1.heap.size + 1) = bp at *
    generalize hbme : w1.heap.size = bm at *
    clear hbpe hbme
    have hz3 := HB3.out.size
    have HM := Lib.hid (fun (wx : World) (hx : Below w3.heap.size w3 wx) (ao : Option Addr) (n c : Nat) => meaning1_any wx w.heap.size p _ _ _ _ (X0.out.below hx X0.out.lt) ao n c)
    have HAV := Lib.hid (fun (wx : World) (hx : Below w.heap.size w wx) => keepsAlts k w wx A A _ _ HV.out (fun g hg hA => ⟨hA, hx.block g hg⟩) hx.size)
    have c0 : w3.cell? ⟨w.heap.size, 0, none⟩ = some (.int .i64 p) := X0.out.cell 0
    have c3 : w3.cell? ⟨w.heap.size, 3, none⟩ = some (.slice ao n c) := X0.out.cell 3
    have c4 : w3.cell? ⟨w.heap.size, 4, none⟩ = some (.int .u8 o) := X0.out.cell 4
    have lb := X0.out.lt
    have lp := XP.out.lt
    have lm := XM.out.lt
    have p0 : w3.cell? ⟨bp, 0, none⟩ = some (.int .i64 p) := XP.out.cell 0
    have m0 : w3.cell? ⟨bm, 0, none⟩ = some (.int .i64 p) := XM.out.cell 0
    have p1 : w3.cell? ⟨bp, 1, none⟩ = some (.int .i64 K) := XP.out.cell 1
    have m1 : w3.cell? ⟨bm, 1, none⟩ = some (.int .i64 K) := XM.out.cell 1
    have p2 : w3.cell? ⟨bp, 2, none⟩ = some (.string (S T)) := XP.out.cell 2
    have m2 : w3.cell? ⟨bm, 2, none⟩ = some (.string (S T)) := XM.out.cell 2
    have p3 : w3.cell? ⟨bp, 3, none⟩ = some (.slice ao n c) := XP.out.cell 3
    have m3 : w3.cell? ⟨bm, 3, none⟩ = some (.slice ao n c) := XM.out.cell 3
    have p4 : w3.cell? ⟨bp, 4, none⟩ = some (.int .u8 0) := XP.out.cell 4
    have m4 : w3.cell? ⟨bm, 4, none⟩ = some (.int .u8 42) := XM.out.cell 4
    by_cases h63 : o = 63
    · subst h63
      go_wp2_with fail
      have hb3a : Below w3.heap.size w3 (w3.alloc (.cells #[.int .i64 p, .int .i64 K, .string (S T), .slice ao n c, .int .u8 0] 126)) := (Below.refl _ _).alloc (Nat.le_refl _) _
      refine (HM.out _ hb3a _ _ _).mono ?_
      rintro e w4 ⟨rfl, hb4⟩
      have hb34 := hb3a.trans (hb4.mono hb3a.size)
      have i4 := (Blk.new w3 126 #[.int .i64 p, .int .i64 K, .string (S T), .slice ao n c, .int .u8 0]).below hb4 (by simp)
      clear c0 c3 c4 p0 p1 p2 p3 p4 m0 m1 m2 m3 m4
      go_wp2_with fail
      refine (HM.out _ hb34 _ _ _).mono ?_
      rintro e w5 ⟨rfl, hb5⟩
      have hb35 := hb34.trans (hb5.mono hb34.size)
      have i5 := i4.below hb5 i4.lt
      go_wp2_with fail
      go_ret
      have hz5 := hb35.size
      have hbz := (HB3.out.trans (hb35.mono hz3)).alloc (o := .cells #[.int .i64 p, .float .f64 0, .slice (some ⟨w3.heap.size, 0, none⟩) 1 1, .int .i64 p, .float .f64 0, .slice none 0 0] 124) (by omega)
      refine ⟨⟨_, k + 1, rfl, ?_⟩, hbz⟩
      rw [meanP_at, if_pos rfl]
      have hav := HAV.out _ hbz
      refine mal2 (k := k) (Blk.new w5 _ _) (HA.out _ (by omega)) (it1 (a := .mk p K T L 0) (av := .slice ao n c) (i5.alloc _) (HA.out _ hz3) (by rw [← HN.out] at hav ⊢; exact hav)) (ListOf.nil _ _)
    by_cases h42 : o = 42
    · subst h42
      go_wp2_with fail
      have hbs : Below w3.heap.size w3 ((w3.alloc (.cells #[.int .i64 p, .int .i64 0, .string (S x), .slice none 0 0, .int .u8 0] 126)).alloc (.cells #[.int .i64 p, .int .i64 K, .string (S T), .slice ao n c, .int .u8 0, .int .i64 p, .int .i64 0, .string (S x), .slice none 0 0, .int .u8 0] 126)) := ((Below.refl _ _).alloc (Nat.le_refl _) _).alloc (by simp) _
      refine (HM.out _ hbs _ _ _).mono ?_
      rintro e w4 ⟨rfl, hb4⟩
      have hb34 := hbs.trans (hb4.mono hbs.size)
      have i3 := Blk.new (w3.alloc (.cells #[.int .i64 p, .int .i64 0, .string (S x), .slice none 0 0, .int .u8 0] 126)) 126 #[.int .i64 p, .int .i64 K, .string (S T), .slice ao n c, .int .u8 0, .int .i64 p, .int .i64 0, .string (S x), .slice none 0 0, .int .u8 0]
      rw [World.size_alloc] at i3
      have i4 := i3.below hb4 (by simp)
      clear c0 c3 c4 p0 p1 p2 p3 p4 m0 m1 m2 m3 m4 i3
      go_wp2_with fail
      refine (HM.out _ hb34 _ _ _).mono ?_
      rintro e w5 ⟨rfl, hb5⟩
      have hb35 := hb34.trans (hb5.mono hb34.size)
      have i5 := i4.below hb5 i4.lt
      go_wp2_with fail
      go_ret
      have hz5 := hb35.size
      have hbz := (HB3.out.trans (hb35.mono hz3)).alloc (o := .cells #[.int .i64 p, .float .f64 0, .slice (some ⟨w3.heap.size + 1, 0, none⟩) 2 2, .int .i64 p, .float .f64 0, .slice none 0 0] 124) (by omega)
      refine ⟨⟨_, k + 1, rfl, ?_⟩, hbz⟩
      rw [meanP_at, if_neg (by decide), if_pos rfl]
      have hav := HAV.out _ hbz
      refine mal2 (k := k) (Blk.new w5 _ _) (HA.out _ (by omega)) (it2 (a := .mk p K T L 0) (b := .mk p 0 x [] 0) (av := .slice ao n c) (bv := .slice none 0 0) (i5.alloc _) (HA.out _ (by omega)) (by rw [← HN.out] at hav ⊢; exact hav) (AltsAt.nil k _ _)) (ListOf.nil _ _)
    by_cases h43 : o = 43
    · subst h43
      go_wp2_with fail
      have hbs : Below w3.heap.size w3 (w3.alloc (.cells #[.int .i64 p, .int .i64 K, .string (S T), .slice ao n c, .int .u8 0, .int .i64 p, .int .i64 K, .string (S T), .slice ao n c, .int .u8 42] 126)) := (Below.refl _ _).alloc (Nat.le_refl _) _
      refine (HM.out _ hbs _ _ _).mono ?_
      rintro e w4 ⟨rfl, hb4⟩
      have hb34 := hbs.trans (hb4.mono hbs.size)
      have i4 := (Blk.new w3 126 #[.int .i64 p, .int .i64 K, .string (S T), .slice ao n c, .int .u8 0, .int .i64 p, .int .i64 K, .string (S T), .slice ao n c, .int .u8 42]).below hb4 (by simp)
      clear c0 c3 c4 p0 p1 p2 p3 p4 m0 m1 m2 m3 m4
      go_wp2_with fail
      go_ret
      have hz5 := hb34.size
      have hbz := (HB3.out.trans (hb34.mono hz3)).alloc (o := .cells #[.int .i64 p, .float .f64 0, .slice (some ⟨w3.heap.size, 0, none⟩) 2 2] 124) (by omega)
      refine ⟨⟨_, k + 1, rfl, ?_⟩, hbz⟩
      rw [meanP_at, if_neg (by decide), if_neg (by decide), if_pos rfl]
      have hav := HAV.out _ hbz
      refine mal1 (k := k) (Blk.new w4 _ _) (HA.out _ (by omega)) (it2 (a := .mk p K T L 0) (b := .mk p K T L 42) (av := .slice ao n c) (bv := .slice ao n c) (i4.alloc _) (HA.out _ (by omega)) (by rw [← HN.out] at hav ⊢; exact hav) (by rw [← HN.out] at hav ⊢; exact hav))
    have e63 : ((o : Int) == 63) = false := by rw [beq_eq_false_iff_ne]; omega
    have e42 : ((o : Int) == 42) = false := by rw [beq_eq_false_iff_ne]; omega
    have e43 : ((o : Int) == 43) = false := by rw [beq_eq_false_iff_ne]; omega
    go_wp2_with fail
    go_ret
    refine ⟨⟨_, k, rfl, ?_⟩, HB3.out⟩
    rw [meanP_at, if_neg h63, if_neg h42, if_neg h43]
    exact HAV.out w3 HB3.out
end Go.Proofs.YtldamieigigncaaGreatDoor.lx


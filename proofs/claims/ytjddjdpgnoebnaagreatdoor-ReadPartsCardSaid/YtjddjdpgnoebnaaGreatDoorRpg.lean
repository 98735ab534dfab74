import Derived.Test.YtjddjdpgnoebnaaGreatDoorRpf
namespace Go.Proofs.YtjddjdpgnoebnaaGreatDoor.lx
open Go.ChangeShapes Go.WideShapes Go.ChangeAt Go.RowKit
set_option linter.unusedVariables false
attribute [local go_sem] run_store_float
theorem pdef_at {ts r : List Tok} {d : Dfn} (h : pDef ts = .ok (d, r)) : (hd ts).kind = 1 ∧ d.1 = (hd ts).at_ := by
  unfold pDef at h
  by_cases h1 : (hd ts).kind = 1
  · rw [if_pos h1] at h
    by_cases h2 : sg ts.tail = 61
    · rw [if_pos h2] at h
      cases hp : pShut 59 (pA 16 ts.tail.tail) with
      | error e => rw [hp] at h; cases h
      | ok q =>
        obtain ⟨bs, r2⟩ := q
        rw [hp] at h
        cases h
        exact ⟨h1, rfl⟩
    · rw [if_neg h2] at h
      cases h
  · rw [if_neg h1] at h
    cases h
theorem ptext_at {E : Tok} (hE : E.kind = 0) : ∀ (f : Nat) (u : List Tok) (ds : List Dfn), pText f (u ++ [E]) = .ok ds → ∀ d ∈ ds, ∃ t ∈ u, d.1 = t.at_
  | 0, u, ds, h => by cases h
  | f + 1, u, ds, h => by
    have hl := loc_def hE (R := [E]) (by simp) u
    unfold pText at h
    cases hp : pDef (u ++ [E]) with
    | error e => rw [hp] at h; cases h
    | ok q =>
      obtain ⟨d, r⟩ := q
      rw [hp] at h hl
      obtain ⟨t, v, rfl, hv, _⟩ := hl
      obtain ⟨k1, e1⟩ := pdef_at hp
      have hu : (hd (u ++ [E])) ∈ u := by
        cases u with
        | nil => exact absurd k1 (by show ¬ E.kind = 1; omega)
        | cons a u => exact List.mem_cons_self
      simp only at h
      intro d' hd'
      by_cases hk : (hd (v ++ [E])).kind = 0
      · rw [if_pos hk] at h
        cases h
        rw [List.mem_singleton.1 hd']
        exact ⟨_, hu, e1⟩
      · rw [if_neg hk] at h
        cases hq : pText f (v ++ [E]) with
        | error e => rw [hq] at h; cases h
        | ok ds2 =>
          rw [hq] at h
          cases h
          rcases List.mem_cons.1 hd' with rfl | hd'
          · exact ⟨_, hu, e1⟩
          · obtain ⟨t', h1, h2⟩ := ptext_at hE f v ds2 hq d' hd'
            exact ⟨t', hv.subset (List.mem_cons_of_mem _ h1), h2⟩
/-- where definitions stand -/
theorem read_at (s : List UInt8) {ds : List Dfn} (h : readAll s = (ds, 0, 0)) : ∀ d ∈ ds, d.1 ≤ s.length := by
  intro d hd'
  rcases hx : lexAll s with ⟨x, e, k⟩
  unfold readAll at h
  rw [hx] at h
  by_cases he : e = 0
  · subst he
    have hx2 : lexAll s = (x, 0, 0) := by
      unfold lexAll at hx ⊢
      by_cases hb : 65536 < s.length
      · rw [if_pos hb] at hx
        cases hx
      · rw [if_neg hb] at hx ⊢
        rcases hA : lexA s (nxt s 0) with ⟨y, f⟩
        rw [hA] at hx
        cases f with
        | some f =>
          obtain ⟨e', k'⟩ := f
          have := (err_ge s hA).1
          have h' : ([], e', k') = (x, 0, k) := hx
          have : e' = 0 := congrArg (fun z => z.2.1) h'
          omega
        | none =>
          have h' : (y, 0, 0) = (x, 0, k) := hx
          cases h'
          rfl
    obtain ⟨u, rfl, hu⟩ := all_split s hx2
    have hle : ∀ t ∈ u, t.at_ ≤ s.length := by
      unfold lexAll at hx2
      by_cases hb : 65536 < s.length
      · rw [if_pos hb] at hx2
        exact absurd (show (1 : Nat) = 0 from congrArg (fun z => z.2.1) hx2) (by decide)
      · rw [if_neg hb] at hx2
        rcases hA : lexA s (nxt s 0) with ⟨y, f⟩
        rw [hA] at hx2
        cases f with
        | some f =>
          obtain ⟨e', k'⟩ := f
          have := (err_ge s hA).1
          have : e' = 0 := congrArg (fun z => z.2.1) (show ([], e', k') = (_, 0, 0) from hx2)
          omega
        | none =>
          have e2 : y = u ++ [⟨0, s.length, [], 0⟩] := congrArg Prod.fst hx2
          intro t ht
          exact (ok_ge s hA).2 t (by rw [e2]; simp [ht])
    simp only [if_true] at h
    cases hp : pText (u ++ [(⟨0, s.length, [], 0⟩ : Tok)]).length (u ++ [(⟨0, s.length, [], 0⟩ : Tok)]) with
    | error q =>
      rw [hp] at h
      have : ds = [] := (congrArg Prod.fst h).symm
      subst this
      cases hd'
    | ok ds2 =>
      rw [hp] at h
      have : ds2 = ds := congrArg Prod.fst h
      subst this
      obtain ⟨t, ht, e⟩ := ptext_at rfl _ u _ hp d hd'
      rw [e]
      exact hle t ht
  · rw [if_neg he] at h
    have : ds = [] := (congrArg Prod.fst h).symm
    subst this
    cases hd'
/-- definitions in memory, as far as their lengths -/
def DefsAt (w : World) (g : Nat) (xs : List Dfn) : Prop := g < w.heap.size ∧ ∀ (k : Nat) (d : Dfn), xs[k]? = some d → ∃ ao cap, w.cell? ⟨g, k * 3, none⟩ = some (.int .i64 d.1) ∧ w.cell? ⟨g, k * 3 + 1, none⟩ = some (.string (S d.2.1)) ∧ w.cell? ⟨g, k * 3 + 2, none⟩ = some (.slice ao d.2.2.length cap)
theorem defs_at {w : World} {A : Nat → Prop} {ao : Option Addr} {cap : Nat} {xs : List Dfn} (h : ListOf 3 EDef w A (.slice ao xs.length cap) xs) (h0 : 0 < xs.length) : ∃ g, ao = some ⟨g, 0, none⟩ ∧ DefsAt w g xs := by
  obtain ⟨g, e, hg, hc⟩ := h.at rfl h0
  refine ⟨g, e, hg, fun k d hd => ?_⟩
  obtain ⟨cs, _, h1, ⟨av, rfl, hav⟩⟩ := hc k d hd
  obtain ⟨ao2, cap2, rfl⟩ := (show ListOf 3 (EAlt (AltsAt 16)) w A av d.2.2 from hav).form
  exact ⟨ao2, cap2, h1 0 _ rfl, h1 1 _ rfl, h1 2 _ rfl⟩
theorem DefsAt.below {w w' : World} {g : Nat} {xs : List Dfn} (h : DefsAt w g xs) (hb : Below w.heap.size w w') : DefsAt w' g xs := by
  refine ⟨Nat.lt_of_lt_of_le h.1 hb.size, fun k d hd => ?_⟩
  obtain ⟨ao, cap, h1, h2, h3⟩ := h.2 k d hd
  exact ⟨ao, cap, (hb.cell (p := ⟨g, _, none⟩) h.1).trans h1, (hb.cell (p := ⟨g, _, none⟩) h.1).trans h2, (hb.cell (p := ⟨g, _, none⟩) h.1).trans h3⟩
theorem VDs.at {k : Nat} : ∀ {y y' : List Dfn} (j : Nat) (d' : Dfn), VDs k y y' → y'[j]? = some d' → ∃ d, y[j]? = some d ∧ VD k d d'
  | [], [], j, d', h, hj => by simp at hj
  | [], e :: es, j, d', h, hj => h.elim
  | d :: ds, [], j, d', h, hj => h.elim
  | d :: ds, e :: es, 0, d', h, hj => by
    obtain rfl : e = d' := by simpa using hj
    exact ⟨d, rfl, h.1⟩
  | d :: ds, e :: es, j + 1, d', h, hj => by
    obtain ⟨c, h1, h2⟩ := VDs.at j d' h.2 (by simpa using hj)
    exact ⟨c, by simpa using h1, h2⟩
set_option maxRecDepth 100000 in
set_option maxHeartbeats 4000000 in
theorem parts_all (s t : ByteArray) (hs : s.size ≤ maxLen) (ht : t.size ≤ maxLen) (w : World) (b off : Nat) (hv : Vs w b off) : Calls Tryz.prog 9 #[.string s, .string t] w fun e w' => e = .returned (.bool true) ∧ Below w.heap.size w w' := by
  have hal := ralive_any w b off hv
  have HV := Lib.hid hv
  have HMS := Lib.hid hs
  have HMT := Lib.hid ht
  unfold maxLen at hs ht
  clear hv
  by_cases hbig : 600 < s.size
  · go_enter Tryz.func9, Tryz.ntmps9
    go_wp2_with fail
    refine hal.mono ?_
    rintro e w1 ⟨rfl, hb1⟩
    have HB1 := Lib.hid hb1
    clear hal hb1
    go_wp2_with fail
    go_ret
    exact ⟨rfl, HB1.out⟩
  by_cases hbig2 : 600 < t.size
  · go_enter Tryz.func9, Tryz.ntmps9
    go_wp2_with fail
    refine hal.mono ?_
    rintro e w1 ⟨rfl, hb1⟩
    have HB1 := Lib.hid hb1
    clear hal hb1
    go_wp2_with fail
    go_ret
    exact ⟨rfl, HB1.out⟩
  have hs6 : s.size ≤ 600 := by omega
  have ht6 : t.size ≤ 600 := by omega
  have hsl : s.data.toList.length = s.size := by simp
  have htl : t.data.toList.length = t.size := by simp
  have hjn := read_join s.data.toList t.data.toList (by omega) (by omega)
  rw [hsl] at hjn
  clear hsl htl hbig hbig2
  have HA1 := Lib.hid (fun w h => parse_any s HMS.out w b off h)
  have HA2 := Lib.hid (fun w h => parse_any t HMT.out w b off h)
  have HA3 := Lib.hid (fun w h => parse_any ((s ++ ByteArray.mk #[10]) ++ t) (by have e1 : (ByteArray.mk #[10]).size = 1 := rfl; rw [ByteArray.size_append, ByteArray.size_append, e1]; unfold maxLen; omega) w b off h)
  have HJ := Lib.hid (joined s t)
  -- three parses, with whatever they answer
  obtain ⟨⟨x, e1, k1⟩, hra⟩ : ∃ r, readAll s.data.toList = r := ⟨_, rfl⟩
  obtain ⟨⟨y, e2, k2⟩, hrb⟩ : ∃ r, readAll t.data.toList = r := ⟨_, rfl⟩
  obtain ⟨⟨z, e3, k3⟩, hrj⟩ : ∃ r, readAll (joinT s.data.toList t.data.toList) = r := ⟨_, rfl⟩
  rw [hra, hrb, hrj] at hjn
  have HRA := Lib.hid hra
  have HRB := Lib.hid hrb
  have HRJ := Lib.hid hrj
  clear hra hrb hrj
  by_cases he1 : e1 = 0
  · subst he1
    by_cases he2 : e2 = 0
    · subst he2
      have hw : ∃ y', e3 = 0 ∧ k1 = 0 ∧ k2 = 0 ∧ k3 = 0 ∧ x ≠ [] ∧ z = x ++ y' ∧ VDs (s.size + 1) y y' := by
        rcases hjn with ⟨e, k, he, h1, h2⟩ | ⟨x', e, k, he, hx, h1, h2, h3⟩ | ⟨x', y1, y', hx, h1, h2, h3, h4⟩
        · cases h1
          exact absurd he (by decide)
        · cases h2
          exact absurd he (by decide)
        · cases h1
          cases h2
          cases h3
          exact ⟨y', rfl, rfl, rfl, rfl, hx, rfl, h4⟩
      obtain ⟨y', rfl, rfl, rfl, rfl, hxn, rfl, hvd⟩ := hw
      have HXN := Lib.hid hxn
      have HVD := Lib.hid hvd
      have hyl := hvd.len
      have hzl : (x ++ y').length = x.length + y.length := by rw [List.length_append, hyl]
      clear hjn hxn hvd hyl
      go_enter Tryz.func9, Tryz.ntmps9
      go_wp2_with fail
      refine hal.mono ?_
      rintro e w1 ⟨rfl, hb1⟩
      have HB1 := Lib.hid hb1
      clear hal hb1
      go_wp2_with fail
      refine (HA1.out _ (HV.out.below HB1.out)).mono ?_
      rintro e w2 ⟨⟨v1, rfl, hl1⟩, hb2⟩
      rw [HRA.out] at hl1 ⊢
      obtain ⟨ao1, cap1, rfl⟩ := hl1.form
      have HB2 := Lib.hid (HB1.out.trans (hb2.mono HB1.out.size))
      have hz2 := HB2.out.size
      have HL1 := Lib.hid hl1
      have HX2 := Lib.hid hb2
      clear hb2 hl1
      go_wp2_with fail
      refine (HA2.out _ ((HV.out.below HB2.out).alloc _)).mono ?_
      rintro e w3 ⟨⟨v2, rfl, hl2⟩, hb3⟩
      rw [HRB.out] at hl2 ⊢
      obtain ⟨ao2, cap2, rfl⟩ := hl2.form
      have HF2 := Lib.hid (Blk.below (Blk.new w2 26 #[.int .i64 0, .int .i64 0]) hb3 (by simp))
      have HB3 := Lib.hid ((HB2.out.alloc hz2 _).trans (hb3.mono (by simp; omega)))
      have hz3 : w2.heap.size < w3.heap.size := by have := hb3.size; simp at this; omega
      have hz3' : w.heap.size ≤ w3.heap.size := by omega
      have HL2 := Lib.hid hl2
      have HX3 := Lib.hid hb3
      clear hb3 hl2
      go_wp2_with fail
      refine (HA3.out _ ((HV.out.below HB3.out).alloc _)).mono ?_
      rintro e w4 ⟨⟨v3, rfl, hl3⟩, hb4⟩
      rw [HJ.out, HRJ.out] at hl3
      rw [HJ.out, HRJ.out]
      obtain ⟨ao3, cap3, rfl⟩ := hl3.form
      have hF2 : Blk w4 w2.heap.size 26 #[.int .i64 0, .int .i64 0] := Blk.below (HF2.out.alloc _) hb4 (by simp; omega)
      have f0 : w4.cell? ⟨w2.heap.size, 0, none⟩ = some (.int .i64 0) := hF2.cell 0
      have f1 : w4.cell? ⟨w2.heap.size, 1, none⟩ = some (.int .i64 0) := hF2.cell 1
      have hF3 : Blk w4 w3.heap.size 26 #[.int .i64 0, .int .i64 0] := Blk.below (Blk.new w3 26 #[.int .i64 0, .int .i64 0]) hb4 (by simp)
      have f2 : w4.cell? ⟨w3.heap.size, 0, none⟩ = some (.int .i64 0) := hF3.cell 0
      have f3 : w4.cell? ⟨w3.heap.size, 1, none⟩ = some (.int .i64 0) := hF3.cell 1
      have HB4 := Lib.hid ((HB3.out.alloc hz3' _).trans (hb4.mono (by simp; omega)))
      have hz4 : w3.heap.size < w4.heap.size := by have := hb4.size; simp at this; omega
      have hz5 : w2.heap.size < w4.heap.size := by omega
      have hz5' : w.heap.size ≤ w4.heap.size := by omega
      have HL3 := Lib.hid hl3
      have HX4 := Lib.hid hb4
      clear hb4 hl3 hF2 hF3
      have hx0 : 0 < x.length := List.length_pos_iff.2 HXN.out
      have hz0 : 0 < (x ++ y').length := by rw [List.length_append]; omega
      have hxm := HL1.out.1
      have hzm : (x ++ y').length ≤ maxLen := HL3.out.1
      unfold maxLen at hxm hzm
      obtain ⟨g1, rfl, hd1⟩ := defs_at HL1.out hx0
      obtain ⟨g3, rfl, hd3⟩ := defs_at HL3.out hz0
      have hb34 : Below w3.heap.size w3 w4 := ((Below.refl _ w3).alloc (Nat.le_refl _) _).trans (HX4.out.mono (by simp))
      have hb24 : Below w2.heap.size w2 w4 := (((Below.refl _ w2).alloc (Nat.le_refl _) _).trans (HX3.out.mono (by simp))).trans (hb34.mono (by omega))
      have HD1 := Lib.hid (hd1.below hb24)
      have HD3 := Lib.hid hd3
      have HY : Hid (∀ (j : Nat) (d : Dfn), y[j]? = some d → ∃ g2, ao2 = some ⟨g2, 0, none⟩ ∧ DefsAt w4 g2 y) := Lib.hid (fun j d hj => by
        have hj0 : 0 < y.length := by have := (List.getElem?_eq_some_iff.1 hj).1; omega
        obtain ⟨g2, e, hd2⟩ := defs_at HL2.out hj0
        exact ⟨g2, e, hd2.below hb34⟩)
      have HYA := Lib.hid (read_at _ HRB.out)
      have HXA : Hid (∀ d ∈ x, d.1 ≤ s.size) := Lib.hid (fun d hd => by have := read_at _ HRA.out d hd; simpa using this)
      have HYA2 : Hid (∀ d ∈ y, d.1 ≤ t.size) := Lib.hid (fun d hd => by have := HYA.out d hd; simpa using this)
      have m5 : ((((x ++ y').length : Nat) : Int) != (x.length : Int) + (y.length : Int)) = false := by rw [bne_eq_false_iff_eq, hzl]; omega
      have hws : IntKind.i64.wrap ((x.length : Int) + (y.length : Int)) = (x.length : Int) + (y.length : Int) := by rw [IntKind.wrap_i64]; omega
      clear hd1 hd3 hb24 hb34
      go_wp2_with fail
      have hb45 : Below w4.heap.size w4 (w4.alloc (.cells #[.int .i64 0, .int .i64 0] 26)) := (Below.refl _ w4).alloc (Nat.le_refl _) _
      have hbW := HB4.out.alloc hz5' (.cells #[.int .i64 0, .int .i64 0] 26)
      go_loopw [96] (fun i wr => ∃ k : Nat, k ≤ x.length + y.length ∧ i = .int .i64 k ∧ Below w4.heap.size w4 wr ∧ Below w.heap.size w wr) (fun i _ => x.length + y.length - (intOf i).toNat)
      case atStart => exact ⟨0, Nat.zero_le _, rfl, hb45, hbW⟩
      case round =>
        obtain ⟨k, hk, rfl, hbr, hbw⟩ := hrel
        clear hb45 hbW f0 f1 f2 f3
        have hsub : IntKind.i64.wrap ((x.length : Int) - 1) = (x.length : Int) - 1 := by rw [IntKind.wrap_i64]; omega
        by_cases hlt : k < x.length + y.length
        · obtain ⟨d', hd'⟩ : ∃ d', (x ++ y')[k]? = some d' := ⟨_, List.getElem?_eq_getElem (by rw [hzl]; exact hlt)⟩
          have hD3 := HD3.out.below hbr
          obtain ⟨za, zc, z0, z1, z2⟩ := hD3.2 k d' hd'
          have hg3 := hD3.1
          have hD1 := HD1.out.below hbr
          have hg1 := hD1.1
          by_cases hkx : k < x.length
          · have hxk : x[k]? = some d' := by rw [List.getElem?_append_left hkx] at hd'; exact hd'
            obtain ⟨xa, xc, x0, x1, x2⟩ := hD1.2 k d' hxk
            have hmin : min (k : Int) ((x.length : Int) - 1) = (k : Int) := by omega
            have y0 := fun o => (World.cell?_alloc_lt wr o ⟨g1, k * 3, none⟩ hg1).trans x0
            have y1 := fun o => (World.cell?_alloc_lt wr o ⟨g1, k * 3 + 1, none⟩ hg1).trans x1
            have y2 := fun o => (World.cell?_alloc_lt wr o ⟨g1, k * 3 + 2, none⟩ hg1).trans x2
            have hxa := HXA.out d' (List.mem_of_getElem? hxk)
            clear hD3 hD1 hd' hxk
            generalize d'.2.2.length = nl at *
            generalize d'.2.1 = nm at *
            generalize d'.1 = na at *
            have hna : IntKind.i64.wrap (na : Int) = (na : Int) := by rw [IntKind.wrap_i64]; omega
            have hge : ¬ (x.length : Int) ≤ (k : Int) := by omega
            have c1 := (Blk.new wr 50 #[.int .i64 na, .string (S nm), .slice za nl zc]).alloc (.cells #[.int .i64 na, .string (S nm), .slice xa nl xc] 50)
            have c2 := Blk.new (wr.alloc (.cells #[.int .i64 na, .string (S nm), .slice za nl zc] 50)) 50 #[.int .i64 na, .string (S nm), .slice xa nl xc]
            rw [World.size_alloc] at c2
            have c10 := c1.cell 0
            have c11 := c1.cell 1
            have c12 := c1.cell 2
            have c20 := c2.cell 0
            have c21 := c2.cell 1
            have c22 := c2.cell 2
            simp only [List.getElem?_toArray, List.getElem?_cons_zero, List.getElem?_cons_succ] at c10 c11 c12 c20 c21 c22
            have hbr2 := ((hbr.alloc hbr.size (.cells #[.int .i64 na, .string (S nm), .slice za nl zc] 50)).alloc (by rw [World.size_alloc]; have := hbr.size; omega) (.cells #[.int .i64 na, .string (S nm), .slice xa nl xc] 50)).drew
            have hbw2 := ((hbw.alloc hbw.size (.cells #[.int .i64 na, .string (S nm), .slice za nl zc] 50)).alloc (by rw [World.size_alloc]; have := hbw.size; omega) (.cells #[.int .i64 na, .string (S nm), .slice xa nl xc] 50)).drew
            go_wp2
            go_region
            go_wp2
            exact ⟨⟨k + 1, hlt, congrArg (Value.int .i64) (by omega), hbr2, hbw2⟩, by simp only [intOf]; omega⟩
          · have hd2 : y'[k - x.length]? = some d' := by rw [List.getElem?_append_right (by omega)] at hd'; exact hd'
            obtain ⟨d, hyj, hv1, hv2, hv3⟩ := VDs.at _ _ HVD.out hd2
            obtain ⟨g2, rfl, hD2⟩ := HY.out _ _ hyj
            have hD2 := hD2.below hbr
            have hg2 := hD2.1
            obtain ⟨ya, yc, y0, y1, y2⟩ := hD2.2 _ d hyj
            obtain ⟨dl, hdl⟩ : ∃ dl, x[x.length - 1]? = some dl := ⟨_, List.getElem?_eq_getElem (by omega)⟩
            obtain ⟨xa, xc, x0, x1, x2⟩ := hD1.2 _ dl hdl
            have hmin : min (k : Int) ((x.length : Int) - 1) = ((x.length - 1 : Nat) : Int) := by omega
            have hlast : x.length - 1 < x.length := by omega
            have hsub2 : IntKind.i64.wrap ((k : Int) - (x.length : Int)) = ((k - x.length : Nat) : Int) := by rw [IntKind.wrap_i64]; omega
            have hjl : k - x.length < y.length := by omega
            have hadd1 : IntKind.i64.wrap ((s.size : Int) + 1) = (s.size : Int) + 1 := by rw [IntKind.wrap_i64]; omega
            have hxa := HYA2.out d (List.mem_of_getElem? hyj)
            rw [hv1] at z0
            rw [hv2] at z1
            rw [hv3] at z2
            have u0 := fun o => (World.cell?_alloc_lt wr o ⟨g1, (x.length - 1) * 3, none⟩ hg1).trans x0
            have u1 := fun o => (World.cell?_alloc_lt wr o ⟨g1, (x.length - 1) * 3 + 1, none⟩ hg1).trans x1
            have u2 := fun o => (World.cell?_alloc_lt wr o ⟨g1, (x.length - 1) * 3 + 2, none⟩ hg1).trans x2
            have v0 := fun o o2 => (World.cell?_alloc_lt (wr.alloc o) o2 ⟨g2, (k - x.length) * 3, none⟩ (by show g2 < _; rw [World.size_alloc]; exact Nat.lt_succ_of_lt hg2)).trans ((World.cell?_alloc_lt wr o ⟨g2, (k - x.length) * 3, none⟩ hg2).trans y0)
            have v1 := fun o o2 => (World.cell?_alloc_lt (wr.alloc o) o2 ⟨g2, (k - x.length) * 3 + 1, none⟩ (by show g2 < _; rw [World.size_alloc]; exact Nat.lt_succ_of_lt hg2)).trans ((World.cell?_alloc_lt wr o ⟨g2, (k - x.length) * 3 + 1, none⟩ hg2).trans y1)
            have v2 := fun o o2 => (World.cell?_alloc_lt (wr.alloc o) o2 ⟨g2, (k - x.length) * 3 + 2, none⟩ (by show g2 < _; rw [World.size_alloc]; exact Nat.lt_succ_of_lt hg2)).trans ((World.cell?_alloc_lt wr o ⟨g2, (k - x.length) * 3 + 2, none⟩ hg2).trans y2)
            clear hD3 hD1 hD2 hd' hd2 hyj hdl hv1 hv2 hv3
            generalize dl.2.2.length = ll at *
            generalize dl.2.1 = lm at *
            generalize dl.1 = la at *
            generalize d.2.2.length = nl at *
            generalize d.2.1 = nm at *
            generalize d.1 = na at *
            have hge : (x.length : Int) ≤ (k : Int) := by omega
            go_wp2
            go_region
            go_wp2
            go_region
            have hna : IntKind.i64.wrap ((na : Int) + ((s.size : Int) + 1)) = (na : Int) + ((s.size : Int) + 1) := by rw [IntKind.wrap_i64]; omega
            have c1 := (Blk.new wr 50 #[.int .i64 ((na : Int) + ((s.size : Int) + 1)), .string (S nm), .slice za nl zc]).alloc (.cells #[.int .i64 na, .string (S nm), .slice ya nl yc] 50)
            have c2 := Blk.new (wr.alloc (.cells #[.int .i64 ((na : Int) + ((s.size : Int) + 1)), .string (S nm), .slice za nl zc] 50)) 50 #[.int .i64 na, .string (S nm), .slice ya nl yc]
            rw [World.size_alloc] at c2
            have c10 := c1.cell 0
            have c11 := c1.cell 1
            have c12 := c1.cell 2
            have c20 := c2.cell 0
            have c21 := c2.cell 1
            have c22 := c2.cell 2
            simp only [List.getElem?_toArray, List.getElem?_cons_zero, List.getElem?_cons_succ] at c10 c11 c12 c20 c21 c22
            have hbr2 := (((hbr.alloc hbr.size (.cells #[.int .i64 ((na : Int) + ((s.size : Int) + 1)), .string (S nm), .slice za nl zc] 50)).alloc (by rw [World.size_alloc]; have := hbr.size; omega) (.cells #[.int .i64 na, .string (S nm), .slice ya nl yc] 50)).drew).drew
            have hbw2 := (((hbw.alloc hbw.size (.cells #[.int .i64 ((na : Int) + ((s.size : Int) + 1)), .string (S nm), .slice za nl zc] 50)).alloc (by rw [World.size_alloc]; have := hbw.size; omega) (.cells #[.int .i64 na, .string (S nm), .slice ya nl yc] 50)).drew).drew
            clear v0 v1 v2 u0 u1 u2 x0 x1 x2 y0 y1 y2 z0 z1 z2
            go_wp2
            exact ⟨⟨k + 1, hlt, congrArg (Value.int .i64) (by omega), hbr2, hbw2⟩, by simp only [intOf]; omega⟩
        · obtain rfl : x.length + y.length = k := by omega
          go_wp2
          go_ret
          exact ⟨rfl, hbw⟩

    · have hw : (∃ z', e3 = 0 ∧ k3 = 0 ∧ z = z' ∧ z.length = x.length) ∨ (0 < e3 ∧ s.size < k3 ∧ z = []) := by
        rcases hjn with ⟨e, k, he, h1, h2⟩ | ⟨x', e, k, he, hx, h1, h2, h3⟩ | ⟨x', y1, y', hx, h1, h2, h3, h4⟩
        · cases h1
          exact absurd he (by decide)
        · cases h1
          rcases h3 with ⟨z', h3, h4⟩ | ⟨e', k', h5, h6, h3⟩
          · cases h3
            exact .inl ⟨_, rfl, rfl, rfl, h4⟩
          · cases h3
            exact .inr ⟨h5, h6, rfl⟩
        · cases h2
          exact absurd rfl he2
      have m2 : ((e2 : Int) != 0) = true := by rw [bne_iff_ne]; omega
      clear hjn
      rcases hw with ⟨_, rfl, rfl, rfl, hzx⟩ | ⟨he3, hk3, rfl⟩
      · have HZX := Lib.hid hzx
        clear hzx
        go_enter Tryz.func9, Tryz.ntmps9
        go_wp2_with fail
        refine hal.mono ?_
        rintro e w1 ⟨rfl, hb1⟩
        have HB1 := Lib.hid hb1
        clear hal hb1
        go_wp2_with fail
        refine (HA1.out _ (HV.out.below HB1.out)).mono ?_
        rintro e w2 ⟨⟨v1, rfl, hl1⟩, hb2⟩
        rw [HRA.out] at hl1 ⊢
        obtain ⟨ao1, cap1, rfl⟩ := hl1.form
        have HB2 := Lib.hid (HB1.out.trans (hb2.mono HB1.out.size))
        have hz2 := HB2.out.size
        clear hb2 hl1
        go_wp2_with fail
        refine (HA2.out _ ((HV.out.below HB2.out).alloc _)).mono ?_
        rintro e w3 ⟨⟨v2, rfl, hl2⟩, hb3⟩
        rw [HRB.out] at hl2 ⊢
        obtain ⟨ao2, cap2, rfl⟩ := hl2.form
        have HF2 := Lib.hid (Blk.below (Blk.new w2 26 #[.int .i64 0, .int .i64 k1]) hb3 (by simp))
        have HB3 := Lib.hid ((HB2.out.alloc hz2 _).trans (hb3.mono (by simp; omega)))
        have hz3 : w2.heap.size < w3.heap.size := by have := hb3.size; simp at this; omega
        have hz3' : w.heap.size ≤ w3.heap.size := by omega
        clear hb3 hl2
        go_wp2_with fail
        refine (HA3.out _ ((HV.out.below HB3.out).alloc _)).mono ?_
        rintro e w4 ⟨⟨v3, rfl, hl3⟩, hb4⟩
        rw [HJ.out, HRJ.out] at hl3
        rw [HJ.out, HRJ.out]
        obtain ⟨ao3, cap3, rfl⟩ := hl3.form
        have hF2 : Blk w4 w2.heap.size 26 #[.int .i64 0, .int .i64 k1] := Blk.below (HF2.out.alloc _) hb4 (by simp; omega)
        have f0 : w4.cell? ⟨w2.heap.size, 0, none⟩ = some (.int .i64 0) := hF2.cell 0
        have f1 : w4.cell? ⟨w2.heap.size, 1, none⟩ = some (.int .i64 k1) := hF2.cell 1
        have hF3 : Blk w4 w3.heap.size 26 #[.int .i64 e2, .int .i64 k2] := Blk.below (Blk.new w3 26 #[.int .i64 e2, .int .i64 k2]) hb4 (by simp)
        have f2 : w4.cell? ⟨w3.heap.size, 0, none⟩ = some (.int .i64 e2) := hF3.cell 0
        have f3 : w4.cell? ⟨w3.heap.size, 1, none⟩ = some (.int .i64 k2) := hF3.cell 1
        have HB4 := Lib.hid ((HB3.out.alloc hz3' _).trans (hb4.mono (by simp; omega)))
        have hz4 : w3.heap.size < w4.heap.size := by have := hb4.size; simp at this; omega
        have hz5 : w2.heap.size < w4.heap.size := by omega
        have hz5' : w.heap.size ≤ w4.heap.size := by omega
        clear hb4 hl3 hF2 hF3
        rw [HZX.out]
        go_wp2_with fail
        go_ret
        exact ⟨rfl, HB4.out.alloc hz5' _⟩
      · have m3 : ((e3 : Int) != 0) = true := by rw [bne_iff_ne]; omega
        have m4 : ((e3 : Int) == 0) = false := by rw [beq_eq_false_iff_ne]; omega
        have HK3 := Lib.hid hk3
        clear hk3
        go_enter Tryz.func9, Tryz.ntmps9
        go_wp2_with fail
        refine hal.mono ?_
        rintro e w1 ⟨rfl, hb1⟩
        have HB1 := Lib.hid hb1
        clear hal hb1
        go_wp2_with fail
        refine (HA1.out _ (HV.out.below HB1.out)).mono ?_
        rintro e w2 ⟨⟨v1, rfl, hl1⟩, hb2⟩
        rw [HRA.out] at hl1 ⊢
        obtain ⟨ao1, cap1, rfl⟩ := hl1.form
        have HB2 := Lib.hid (HB1.out.trans (hb2.mono HB1.out.size))
        have hz2 := HB2.out.size
        clear hb2 hl1
        go_wp2_with fail
        refine (HA2.out _ ((HV.out.below HB2.out).alloc _)).mono ?_
        rintro e w3 ⟨⟨v2, rfl, hl2⟩, hb3⟩
        rw [HRB.out] at hl2 ⊢
        obtain ⟨ao2, cap2, rfl⟩ := hl2.form
        have HF2 := Lib.hid (Blk.below (Blk.new w2 26 #[.int .i64 0, .int .i64 k1]) hb3 (by simp))
        have HB3 := Lib.hid ((HB2.out.alloc hz2 _).trans (hb3.mono (by simp; omega)))
        have hz3 : w2.heap.size < w3.heap.size := by have := hb3.size; simp at this; omega
        have hz3' : w.heap.size ≤ w3.heap.size := by omega
        clear hb3 hl2
        go_wp2_with fail
        refine (HA3.out _ ((HV.out.below HB3.out).alloc _)).mono ?_
        rintro e w4 ⟨⟨v3, rfl, hl3⟩, hb4⟩
        rw [HJ.out, HRJ.out] at hl3
        rw [HJ.out, HRJ.out]
        obtain ⟨ao3, cap3, rfl⟩ := hl3.form
        have hF2 : Blk w4 w2.heap.size 26 #[.int .i64 0, .int .i64 k1] := Blk.below (HF2.out.alloc _) hb4 (by simp; omega)
        have f0 : w4.cell? ⟨w2.heap.size, 0, none⟩ = some (.int .i64 0) := hF2.cell 0
        have f1 : w4.cell? ⟨w2.heap.size, 1, none⟩ = some (.int .i64 k1) := hF2.cell 1
        have hF3 : Blk w4 w3.heap.size 26 #[.int .i64 e2, .int .i64 k2] := Blk.below (Blk.new w3 26 #[.int .i64 e2, .int .i64 k2]) hb4 (by simp)
        have f2 : w4.cell? ⟨w3.heap.size, 0, none⟩ = some (.int .i64 e2) := hF3.cell 0
        have f3 : w4.cell? ⟨w3.heap.size, 1, none⟩ = some (.int .i64 k2) := hF3.cell 1
        have HB4 := Lib.hid ((HB3.out.alloc hz3' _).trans (hb4.mono (by simp; omega)))
        have hz4 : w3.heap.size < w4.heap.size := by have := hb4.size; simp at this; omega
        have hz5 : w2.heap.size < w4.heap.size := by omega
        have hz5' : w.heap.size ≤ w4.heap.size := by omega
        clear hb4 hl3 hF2 hF3
        go_wp2_with fail
        go_ret
        exact ⟨by show Ending.returned (.bool (decide (s.size < k3))) = _; rw [decide_eq_true HK3.out], HB4.out.alloc hz5' _⟩
  · have hw1 : k1 = s.size ∨ 0 < e3 := by
      rcases hjn with ⟨e, k, he, h1, h2⟩ | ⟨x', e, k, he, hx, h1, h2⟩ | ⟨x', y', z', hx, h1, h2⟩
      · cases h1
        rcases h2 with h2 | ⟨e', k', he', h2⟩
        · exact .inl h2
        · cases h2
          exact .inr he'
      · cases h1
        exact absurd rfl he1
      · cases h1
        exact absurd rfl he1
    have m1 : ((e1 : Int) != 0) = true := by rw [bne_iff_ne]; omega
    clear hjn he1
    by_cases hk : k1 = s.size
    all_goals
      have HK := Lib.hid hk
      have HW1 := Lib.hid hw1
      clear hk hw1
      go_enter Tryz.func9, Tryz.ntmps9
      go_wp2_with fail
      refine hal.mono ?_
      rintro e w1 ⟨rfl, hb1⟩
      have HB1 := Lib.hid hb1
      clear hal hb1
      go_wp2_with fail
      refine (HA1.out _ (HV.out.below HB1.out)).mono ?_
      rintro e w2 ⟨⟨v1, rfl, hl1⟩, hb2⟩
      rw [HRA.out] at hl1 ⊢
      obtain ⟨ao1, cap1, rfl⟩ := hl1.form
      have HB2 := Lib.hid (HB1.out.trans (hb2.mono HB1.out.size))
      have hz2 := HB2.out.size
      clear hb2 hl1
      go_wp2_with fail
      refine (HA2.out _ ((HV.out.below HB2.out).alloc _)).mono ?_
      rintro e w3 ⟨⟨v2, rfl, hl2⟩, hb3⟩
      rw [HRB.out] at hl2 ⊢
      obtain ⟨ao2, cap2, rfl⟩ := hl2.form
      have HF2 := Lib.hid (Blk.below (Blk.new w2 26 #[.int .i64 e1, .int .i64 k1]) hb3 (by simp))
      have HB3 := Lib.hid ((HB2.out.alloc hz2 _).trans (hb3.mono (by simp; omega)))
      have hz3 : w2.heap.size < w3.heap.size := by have := hb3.size; simp at this; omega
      have hz3' : w.heap.size ≤ w3.heap.size := by omega
      clear hb3 hl2
      go_wp2_with fail
      refine (HA3.out _ ((HV.out.below HB3.out).alloc _)).mono ?_
      rintro e w4 ⟨⟨v3, rfl, hl3⟩, hb4⟩
      rw [HJ.out, HRJ.out] at hl3
      rw [HJ.out, HRJ.out]
      obtain ⟨ao3, cap3, rfl⟩ := hl3.form
      have hF2 : Blk w4 w2.heap.size 26 #[.int .i64 e1, .int .i64 k1] := Blk.below (HF2.out.alloc _) hb4 (by simp; omega)
      have f0 : w4.cell? ⟨w2.heap.size, 0, none⟩ = some (.int .i64 e1) := hF2.cell 0
      have f1 : w4.cell? ⟨w2.heap.size, 1, none⟩ = some (.int .i64 k1) := hF2.cell 1
      have HB4 := Lib.hid ((HB3.out.alloc hz3' _).trans (hb4.mono (by simp; omega)))
      have hz4 : w3.heap.size < w4.heap.size := by have := hb4.size; simp at this; omega
      have hz5 : w2.heap.size < w4.heap.size := by omega
      have hz5' : w.heap.size ≤ w4.heap.size := by omega
      clear hb4 hl3 hF2
    · have hk' : ((k1 : Int) == s.size) = true := by rw [beq_iff_eq]; have := HK.out; omega
      go_wp2_with fail
      go_ret
      exact ⟨rfl, HB4.out.alloc hz5' _⟩
    · have hk' : ((k1 : Int) == s.size) = false := by rw [beq_eq_false_iff_ne]; have := HK.out; omega
      have m3 : ((e3 : Int) != 0) = true := by rw [bne_iff_ne]; have := HK.out; have := HW1.out; omega
      go_wp2_with fail
      go_ret
      exact ⟨rfl, HB4.out.alloc hz5' _⟩
end Go.Proofs.YtjddjdpgnoebnaaGreatDoor.lx

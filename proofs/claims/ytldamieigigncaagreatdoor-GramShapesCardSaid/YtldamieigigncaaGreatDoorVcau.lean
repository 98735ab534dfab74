import Derived.Test.YtldamieigigncaaGreatDoorVcat
import Derived.Test.YtldamieigigncaaGreatDoorVcaj
import Derived.Test.YtldamieigigncaaGreatDoorVcad
namespace Go.Proofs.YtldamieigigncaaGreatDoor.lx
open Go.ChangeShapes Go.WideShapes Go.ChangeAt Go.RowKit
set_option linter.unusedVariables false
set_option linter.unusedSimpArgs false
attribute [local go_sem] run_store_float
def WnV (z : Option (Nat × Nat)) (e : Ending) : Prop := match z with
  | some q => e = .panicked [{ v := WrongG q.1 q.2, recovered := false }]
  | none => e = .returned (.tuple #[])
def WnT (XA : Nat → Prop) (gl B N : Nat) (tv vv rv av : Value) (l : Ld) (P : World → (Nat → Prop) → Value → List Altn → Prop) (f : List Altn → Option (Nat × Nat)) : Prop := ∀ (w : World) (A : Nat → Prop) (v : Value) (bs : List Altn), LdW XA gl B N tv vv rv av l w → P w A v bs → Calls Tryz.prog 24 #[.pointer (some ⟨gl, 0, none⟩), v] w fun e w' => WnV (f bs) e ∧ Below w.heap.size w w'
theorem wnB_err {vars : List (List UInt8)} {f : List Altn → Option (Nat × Nat)} {a : Altn} {zs : List Altn} {q : Nat × Nat} (h : wnI vars f a.2.2 = some q) : wnB vars f (a :: zs) = some q := by
  show (match wnI vars f a.2.2 with
    | some e => some e
    | none => wnB vars f zs) = _
  rw [h]
theorem wnB_go {vars : List (List UInt8)} {f : List Altn → Option (Nat × Nat)} {a : Altn} {zs : List Altn} (h : wnI vars f a.2.2 = none) : wnB vars f (a :: zs) = wnB vars f zs := by
  show (match wnI vars f a.2.2 with
    | some e => some e
    | none => wnB vars f zs) = _
  rw [h]
theorem wnI_none {vars : List (List UInt8)} {f : List Altn → Option (Nat × Nat)} {i : Itm} {is : List Itm} (h : i.kind = 0 ∧ i.text ∉ vars) : wnI vars f (i :: is) = some (9, i.at_) := by
  show (if i.kind = 0 ∧ i.text ∉ vars then _ else _) = _
  rw [if_pos h]
theorem wnI_err {vars : List (List UInt8)} {f : List Altn → Option (Nat × Nat)} {i : Itm} {is : List Itm} {q : Nat × Nat} (h : ¬ (i.kind = 0 ∧ i.text ∉ vars)) (hf : f i.alts = some q) : wnI vars f (i :: is) = some q := by
  show (if i.kind = 0 ∧ i.text ∉ vars then _ else match f i.alts with
    | some e => some e
    | none => wnI vars f is) = _
  rw [if_neg h, hf]
theorem wnI_go {vars : List (List UInt8)} {f : List Altn → Option (Nat × Nat)} {i : Itm} {is : List Itm} (h : ¬ (i.kind = 0 ∧ i.text ∉ vars)) (hf : f i.alts = none) : wnI vars f (i :: is) = wnI vars f is := by
  show (if i.kind = 0 ∧ i.text ∉ vars then _ else match f i.alts with
    | some e => some e
    | none => wnI vars f is) = _
  rw [if_neg h, hf]
set_option maxRecDepth 100000 in
set_option maxHeartbeats 8000000 in
theorem want_list {XA : Nat → Prop} {gl B N : Nat} {tv vv rv av : Value} {l : Ld} (P : World → (Nat → Prop) → Value → List Altn → Prop) (hP : KeepsP P) (hF : ∀ (w : World) (A : Nat → Prop) (v : Value) (bs : List Altn), P w A v bs → ∃ ao cap, v = .slice ao bs.length cap) (f : List Altn → Option (Nat × Nat)) (hrec : WnT XA gl B N tv vv rv av l P f) : WnT XA gl B N tv vv rv av l (fun w A v bs => ListOf 3 (EAlt P) w A v bs) (wnB l.vars f) := by
  intro w A v bs h h1
  obtain ⟨ao, cap, rfl⟩ := ListOf.form h1
  have hm31 := h1.1
  unfold maxLen at hm31
  obtain ⟨vo, vc, rfl⟩ := own_form h.vs
  have H := Lib.hid h
  have H1 := Lib.hid h1
  have HP := Lib.hid hP
  have HC := Lib.hid hrec
  have HF := Lib.hid hF
  generalize hZ : wnB l.vars f bs = Z at *
  have HZ := Lib.hid hZ
  generalize hn : bs.length = n at *
  have HN := Lib.hid hn
  clear h h1 hrec hP hF hZ hn
  go_enter Tryz.func24, Tryz.ntmps24
  go_wp2_with fail
  go_loopw [10] (fun i wr => ∃ q : Nat, i = .int .i64 q ∧ q ≤ n ∧ Below w.heap.size w wr ∧ wnB l.vars f (bs.drop q) = Z) (fun i _ => n - (intOf i).toNat)
  case atStart => exact ⟨0, rfl, Nat.zero_le _, Below.refl _ _, HZ.out⟩
  case round =>
    obtain ⟨q, rfl, hq, hbr, hz⟩ := hrel
    have HBR := Lib.hid hbr
    by_cases hlt : q < n
    · obtain ⟨a, ha⟩ : ∃ a, bs[q]? = some a := ⟨_, List.getElem?_eq_getElem (by rw [HN.out]; exact hlt)⟩
      obtain ⟨g, rfl, hg, cs, _, hcs, iv, rfl, hiv⟩ := ListOf.at2g (by rw [HN.out]; exact H1.out) ha
      obtain ⟨io, ic, rfl⟩ := hiv.form
      have hdr : bs.drop q = a :: bs.drop (q + 1) := by
        rw [List.drop_eq_getElem_cons (by rw [HN.out]; exact hlt), (List.getElem?_eq_some_iff.1 ha).2]
      rw [hdr] at hz
      have HZ2 := Lib.hid hz
      have HIV := Lib.hid hiv
      have hmI := hiv.1
      unfold maxLen at hmI
      obtain ⟨x1, x2, is⟩ := a
      simp only at hmI
      have c0 : wr.cell? ⟨g, q * 3, none⟩ = some (.int .i64 x1) := (hbr.cell (p := ⟨g, q * 3, none⟩) hg).trans (hcs 0 _ rfl)
      have c1 : wr.cell? ⟨g, q * 3 + 1, none⟩ = some (.float .f64 x2) := (hbr.cell (p := ⟨g, q * 3 + 1, none⟩) hg).trans (hcs 1 _ rfl)
      have c2 : wr.cell? ⟨g, q * 3 + 2, none⟩ = some (.slice io is.length ic) := (hbr.cell (p := ⟨g, q * 3 + 2, none⟩) hg).trans (hcs 2 _ rfl)
      generalize hm : is.length = m at *
      have HM := Lib.hid hm
      clear hiv hcs ha hbr hdr hz hm
      go_upto_region 3 with fail
      have b5 := Blk.new wr 124 #[.int .i64 x1, .float .f64 x2, .slice io m ic]
      have hb5 : Below wr.heap.size wr (wr.alloc (.cells #[.int .i64 x1, .float .f64 x2, .slice io m ic] 124)) := (Below.refl _ _).alloc (Nat.le_refl _) _
      clear c0 c1 c2
      generalize wr.alloc (.cells #[.int .i64 x1, .float .f64 x2, .slice io m ic] 124) = w5 at *
      have HB5 := Lib.hid (HBR.out.trans (hb5.mono HBR.out.size))
      have q2 : w5.cell? ⟨wr.heap.size, 2, none⟩ = some (.slice io m ic) := b5.cell 2
      have l5 := b5.lt
      clear b5 hb5
      go_wp2_with fail
      clear q2 l5
      obtain ⟨z5, hz5⟩ : ∃ z, wr.heap.size = z := ⟨_, rfl⟩
      rw [hz5]
      clear hz5
      go_loopw [17] (fun i w2 => ∃ r : Nat, i = .int .i64 r ∧ r ≤ m ∧ Below w.heap.size w w2 ∧ wnI l.vars f (is.drop r) = wnI l.vars f is) (fun i _ => m - (intOf i).toNat)
      case atStart => exact ⟨0, rfl, Nat.zero_le _, HB5.out, rfl⟩
      case round =>
        clear HB5
        obtain ⟨r, rfl, hr, hbr, hi⟩ := hrel
        have HBI := Lib.hid hbr
        have HWI := Lib.hid hi
        by_cases hlr : r < m
        · obtain ⟨y, hy⟩ : ∃ y, is[r]? = some y := ⟨_, List.getElem?_eq_getElem (by rw [HM.out]; exact hlr)⟩
          obtain ⟨g3, rfl, hg3, cs3, _, hcs3, ayv, rfl, hav⟩ := ListOf.at2g (by rw [HM.out]; exact HIV.out) hy
          obtain ⟨ay, cy, rfl⟩ := HF.out _ _ _ _ hav
          have hdi : is.drop r = y :: is.drop (r + 1) := by
            rw [List.drop_eq_getElem_cons (by rw [HM.out]; exact hlr), (List.getElem?_eq_some_iff.1 hy).2]
          rw [hdi] at hi
          replace HWI := Lib.hid hi
          obtain ⟨Y1, Y2, Y3, Y4, Y5⟩ := y
          simp only [Itm.at_, Itm.kind, Itm.text, Itm.alts, Itm.op] at hav
          have e0 : wr.cell? ⟨g3, r * 5, none⟩ = some (.int .i64 Y1) := (hbr.cell (p := ⟨g3, r * 5, none⟩) hg3).trans (hcs3 0 _ rfl)
          have e1 : wr.cell? ⟨g3, r * 5 + 1, none⟩ = some (.int .i64 Y2) := (hbr.cell (p := ⟨g3, r * 5 + 1, none⟩) hg3).trans (hcs3 1 _ rfl)
          have e2 : wr.cell? ⟨g3, r * 5 + 2, none⟩ = some (.string (S Y3)) := (hbr.cell (p := ⟨g3, r * 5 + 2, none⟩) hg3).trans (hcs3 2 _ rfl)
          have e3 : wr.cell? ⟨g3, r * 5 + 3, none⟩ = some (.slice ay Y4.length cy) := (hbr.cell (p := ⟨g3, r * 5 + 3, none⟩) hg3).trans (hcs3 3 _ rfl)
          have e4 : wr.cell? ⟨g3, r * 5 + 4, none⟩ = some (.int .u8 Y5) := (hbr.cell (p := ⟨g3, r * 5 + 4, none⟩) hg3).trans (hcs3 4 _ rfl)
          have HAV := Lib.hid hav
          clear hcs3 hav hy hbr hdi hi
          go_upto_region 6 with fail
          have b8 := Blk.new wr 126 #[.int .i64 Y1, .int .i64 Y2, .string (S Y3), .slice ay Y4.length cy, .int .u8 Y5]
          have hb8 : Below wr.heap.size wr (wr.alloc (.cells #[.int .i64 Y1, .int .i64 Y2, .string (S Y3), .slice ay Y4.length cy, .int .u8 Y5] 126)) := (Below.refl _ _).alloc (Nat.le_refl _) _
          clear e0 e1 e2 e3 e4
          generalize wr.alloc (.cells #[.int .i64 Y1, .int .i64 Y2, .string (S Y3), .slice ay Y4.length cy, .int .u8 Y5] 126) = w9 at *
          have HB9 := Lib.hid (HBI.out.trans (hb8.mono HBI.out.size))
          have HW9 := Lib.hid (H.out.below HB9.out)
          have c1 : w9.cell? ⟨gl, 1, none⟩ = some (.slice vo l.vars.length vc) := HW9.out.box.cell 1
          have m0 : w9.cell? ⟨wr.heap.size, 0, none⟩ = some (.int .i64 Y1) := b8.cell 0
          have m1 : w9.cell? ⟨wr.heap.size, 1, none⟩ = some (.int .i64 Y2) := b8.cell 1
          have m2 : w9.cell? ⟨wr.heap.size, 2, none⟩ = some (.string (S Y3)) := b8.cell 2
          have m3 : w9.cell? ⟨wr.heap.size, 3, none⟩ = some (.slice ay Y4.length cy) := b8.cell 3
          have lg := HW9.out.box.lt
          have lb := b8.lt
          have HB8 := Lib.hid b8
          have HCN := Lib.hid (fun wx (hx : Below w9.heap.size w9 wx) => contains_any wx _ (.slice vo l.vars.length vc) l.vars Y3 (strs_of (HW9.out.below hx).vs))
          generalize hvn : l.vars.length = vn at *
          clear hvn b8 hb8
          by_cases hk0 : Y2 = 0
          · subst hk0
            refine wp_region_E (fun W => Below w9.heap.size w9 W) [] (by kernel_rfl) ?_
            change anyE _ _ _ _ _ _ _ _ _ (World.drew _)
            have HS : Below w9.heap.size w9 (World.drew w9) := (Below.refl _ _).drew
            refine anyE_take (i := 0) (v := ?_) rfl (by kernel_rfl) (by kernel_rfl) (by kernel_rfl) (by kernel_rfl) (by kernel_rfl) (fun _ _ _ h => h) (Or.inl ⟨by kernel_rfl, ?_⟩) HS ?_
            rotate_left
            · intro wq _; go_simp; first | with_reducible rfl | (rw [if_neg (by omega)])
            refine anyE_take (i := 1) (v := ?_) rfl (by kernel_rfl) (by kernel_rfl) (by kernel_rfl) (by kernel_rfl) (by kernel_rfl) (fun _ _ _ h => h) (Or.inl ⟨by kernel_rfl, ?_⟩) HS ?_
            rotate_left
            · intro wq hw; have hw := (hw.cell (p := ⟨wr.heap.size, 1, none⟩) lb).trans m1; go_simp; with_reducible rfl
            refine anyE_take (i := 2) (v := ?_) rfl (by kernel_rfl) (by kernel_rfl) (by kernel_rfl) (by kernel_rfl) (by kernel_rfl) (fun _ _ _ h => h) (Or.inl ⟨by kernel_rfl, ?_⟩) HS ?_
            rotate_left
            · intro wq _; go_simp; first | with_reducible rfl | (rw [if_neg (by omega)])
            refine anyE_take (i := 3) (v := ?_) rfl (by kernel_rfl) (by kernel_rfl) (by kernel_rfl) (by kernel_rfl) (by kernel_rfl) (fun _ _ _ h => h) (Or.inl ⟨by kernel_rfl, ?_⟩) HS ?_
            rotate_left
            · intro wq _; go_simp; first | with_reducible rfl | (rw [if_neg (by omega)])
            refine anyE_take (i := 4) (v := ?_) rfl (by kernel_rfl) (by kernel_rfl) (by kernel_rfl) (by kernel_rfl) (by kernel_rfl) (fun _ _ _ h => h) (Or.inl ⟨by kernel_rfl, ?_⟩) HS ?_
            rotate_left
            · intro wq _; go_simp; first | with_reducible rfl | (rw [if_neg (by omega)])
            refine anyE_take (i := 5) (v := ?_) rfl (by kernel_rfl) (by kernel_rfl) (by kernel_rfl) (by kernel_rfl) (by kernel_rfl) (fun _ _ _ h => h) (Or.inl ⟨by kernel_rfl, ?_⟩) HS ?_
            rotate_left
            · intro wq _; go_simp; first | with_reducible rfl | (rw [if_neg (by omega)])
            refine anyE_take (i := 6) (v := ?_) rfl (by kernel_rfl) (by kernel_rfl) (by kernel_rfl) (by kernel_rfl) (by kernel_rfl) (fun _ _ _ h => h) (Or.inl ⟨by kernel_rfl, ?_⟩) HS ?_
            rotate_left
            · intro wq _; go_simp; first | with_reducible rfl | (rw [if_neg (by omega)])
            refine anyE_take (i := 7) (v := ?_) rfl (by kernel_rfl) (by kernel_rfl) (by kernel_rfl) (by kernel_rfl) (by kernel_rfl) (fun _ _ _ h => h) (Or.inl ⟨by kernel_rfl, ?_⟩) HS ?_
            rotate_left
            · intro wq _; go_simp; first | with_reducible rfl | (rw [if_neg (by omega)])
            refine anyE_take (i := 8) (v := ?_) rfl (by kernel_rfl) (by kernel_rfl) (by kernel_rfl) (by kernel_rfl) (by kernel_rfl) (fun _ _ _ h => h) (Or.inl ⟨by kernel_rfl, ?_⟩) HS ?_
            rotate_left
            · intro wq hw; have hw := (hw.cell (p := ⟨gl, 1, none⟩) lg).trans c1; go_simp; with_reducible rfl
            refine anyE_take (i := 9) (v := ?_) rfl (by kernel_rfl) (by kernel_rfl) (by kernel_rfl) (by kernel_rfl) (by kernel_rfl) (fun _ _ _ h => h) (Or.inl ⟨by kernel_rfl, ?_⟩) HS ?_
            rotate_left
            · intro wq _; go_simp; first | with_reducible rfl | (rw [if_neg (by omega)])
            refine anyE_take (i := 10) (v := ?_) rfl (by kernel_rfl) (by kernel_rfl) (by kernel_rfl) (by kernel_rfl) (by kernel_rfl) (fun _ _ _ h => h) (Or.inl ⟨by kernel_rfl, ?_⟩) HS ?_
            rotate_left
            · intro wq hw; have hw := (hw.cell (p := ⟨wr.heap.size, 2, none⟩) lb).trans m2; go_simp; with_reducible rfl
            refine anyE_ready (rs := [11]) (by kernel_rfl) (by simp) ?_
            refine ReadyE.cons rfl (by kernel_rfl) (fun K hK => ?_) ReadyE.nil
            go_simp
            go_at_call 61
            refine (HCN.out _ HS).mono ?_
            rintro e w2 ⟨rfl, rfl⟩
            refine hK.out _ _ (fun _ => HS) ?_
            clear hK K
            refine anyE_take (i := 12) (v := ?_) rfl (by kernel_rfl) (by kernel_rfl) (by kernel_rfl) (by kernel_rfl) (by kernel_rfl) (fun _ _ _ h => h) (Or.inl ⟨by kernel_rfl, ?_⟩) HS ?_
            rotate_left
            · intro wq _; go_simp; first | with_reducible rfl | (rw [if_neg (by omega)])
            by_cases hmem : Y3 ∈ l.vars
            · rw [decide_eq_true hmem]
              refine anyE_take (i := 13) (v := ?_) rfl (by kernel_rfl) (by kernel_rfl) (by kernel_rfl) (by kernel_rfl) (by kernel_rfl) (fun _ _ _ h => h) (Or.inl ⟨by kernel_rfl, ?_⟩) HS ?_
              rotate_left
              · intro wq _; go_simp; first | with_reducible rfl | (rw [if_neg (by omega)])
              refine anyE_done (by kernel_rfl) ?_ _
              have HC2 := Lib.hid (HC.out (World.drew w9) A (.slice ay Y4.length cy) Y4 (HW9.out.below HS) (HP.out _ _ _ A _ _ HAV.out (fun g hg hA => ⟨hA, (HB9.out.trans (HS.mono HB9.out.size)).block g hg⟩) (Nat.le_trans HB9.out.size HS.size)))
              have q0 : (World.drew w9).cell? ⟨wr.heap.size, 0, none⟩ = some (.int .i64 Y1) := (HS.cell (p := ⟨wr.heap.size, 0, none⟩) lb).trans m0
              have q3 : (World.drew w9).cell? ⟨wr.heap.size, 3, none⟩ = some (.slice ay Y4.length cy) := (HS.cell (p := ⟨wr.heap.size, 3, none⟩) lb).trans m3
              have HB2 := Lib.hid (HB9.out.trans (HS.mono HB9.out.size))
              have lb2 : wr.heap.size < (World.drew w9).heap.size := Nat.lt_of_lt_of_le lb HS.size
              clear c1 m0 m1 m2 m3 lg lb HB8 HCN HW9 HB9 HS
              generalize World.drew w9 = w2 at *
              cases hfa : f Y4 with
              | some z =>
                rw [hfa] at HC2
                have hwi := wnI_err (vars := l.vars) (is := is.drop (r + 1)) (i := .mk Y1 0 Y3 Y4 Y5) (fun h => h.2 hmem) hfa
                rw [HWI.out] at hwi
                have hzz := wnB_err (a := (x1, x2, is)) (zs := bs.drop (q + 1)) hwi
                rw [HZ2.out] at hzz
                have HZZ := Lib.hid hzz
                clear hwi hzz hfa
                go_wp2_with (go_at_call 24; refine HC2.out.mono ?_; rintro e w3 ⟨rfl, hb3⟩)
                exact ⟨rfl, by rw [HZZ.out]; exact ⟨rfl, HB2.out.trans (hb3.mono HB2.out.size)⟩⟩
              | none =>
                rw [hfa] at HC2
                have hwi := wnI_go (vars := l.vars) (is := is.drop (r + 1)) (i := .mk Y1 0 Y3 Y4 Y5) (fun h => h.2 hmem) hfa
                rw [HWI.out] at hwi
                have HWJ := Lib.hid hwi.symm
                clear hwi hfa
                go_wp2_with fail
                refine HC2.out.mono ?_
                rintro e w3 ⟨rfl, hb3⟩
                have HB3 := Lib.hid (HB2.out.trans (hb3.mono HB2.out.size))
                clear q0 q3 lb2 HC2 hb3
                go_wp2_with fail
                exact ⟨⟨r + 1, congrArg (Value.int .i64) (by omega), hlr, HB3.out, HWJ.out⟩, by simp only [intOf]; omega⟩
            · rw [decide_eq_false hmem]
              refine anyE_take (i := 13) (v := ?_) rfl (by kernel_rfl) (by kernel_rfl) (by kernel_rfl) (by kernel_rfl) (by kernel_rfl) (fun _ _ _ h => h) (Or.inl ⟨by kernel_rfl, ?_⟩) HS ?_
              rotate_left
              · intro wq _; go_simp; first | with_reducible rfl | (rw [if_neg (by omega)])
              refine anyE_done (by kernel_rfl) ?_ _
              have HC2 := Lib.hid (HC.out (World.drew w9) A (.slice ay Y4.length cy) Y4 (HW9.out.below HS) (HP.out _ _ _ A _ _ HAV.out (fun g hg hA => ⟨hA, (HB9.out.trans (HS.mono HB9.out.size)).block g hg⟩) (Nat.le_trans HB9.out.size HS.size)))
              have q0 : (World.drew w9).cell? ⟨wr.heap.size, 0, none⟩ = some (.int .i64 Y1) := (HS.cell (p := ⟨wr.heap.size, 0, none⟩) lb).trans m0
              have q3 : (World.drew w9).cell? ⟨wr.heap.size, 3, none⟩ = some (.slice ay Y4.length cy) := (HS.cell (p := ⟨wr.heap.size, 3, none⟩) lb).trans m3
              have HB2 := Lib.hid (HB9.out.trans (HS.mono HB9.out.size))
              have lb2 : wr.heap.size < (World.drew w9).heap.size := Nat.lt_of_lt_of_le lb HS.size
              clear c1 m0 m1 m2 m3 lg lb HB8 HCN HW9 HB9 HS
              generalize World.drew w9 = w2 at *
              have hwi := wnI_none (vars := l.vars) (f := f) (is := is.drop (r + 1)) (i := .mk Y1 0 Y3 Y4 Y5) ⟨rfl, hmem⟩
              rw [HWI.out] at hwi
              have hzz := wnB_err (a := (x1, x2, is)) (zs := bs.drop (q + 1)) hwi
              rw [HZ2.out] at hzz
              have HZZ := Lib.hid hzz
              have HFA := Lib.hid (gfail_any w2 9 Y1)
              clear hwi hzz
              go_wp2_with fail
              refine HFA.out.mono ?_
              rintro e w' ⟨rfl, rfl⟩
              exact ⟨rfl, by rw [HZZ.out]; exact ⟨rfl, HB2.out⟩⟩
          · have hk1 : ((Y2 : Int) == 0) = false := by rw [beq_eq_false_iff_ne]; omega
            refine wp_region_E (fun W => Below w9.heap.size w9 W) [] (by kernel_rfl) ?_
            change anyE _ _ _ _ _ _ _ _ _ (World.drew _)
            have HS : Below w9.heap.size w9 (World.drew w9) := (Below.refl _ _).drew
            refine anyE_take (i := 0) (v := ?_) rfl (by kernel_rfl) (by kernel_rfl) (by kernel_rfl) (by kernel_rfl) (by kernel_rfl) (fun _ _ _ h => h) (Or.inl ⟨by kernel_rfl, ?_⟩) HS ?_
            rotate_left
            · intro wq _; go_simp; first | with_reducible rfl | (rw [if_neg (by omega)])
            refine anyE_take (i := 1) (v := ?_) rfl (by kernel_rfl) (by kernel_rfl) (by kernel_rfl) (by kernel_rfl) (by kernel_rfl) (fun _ _ _ h => h) (Or.inl ⟨by kernel_rfl, ?_⟩) HS ?_
            rotate_left
            · intro wq hw; have hw := (hw.cell (p := ⟨wr.heap.size, 1, none⟩) lb).trans m1; go_simp; with_reducible rfl
            refine anyE_take (i := 2) (v := .bool false) rfl (by kernel_rfl) (by kernel_rfl) (by kernel_rfl) (by kernel_rfl) (by kernel_rfl) (fun _ _ _ h => h) (Or.inl ⟨by kernel_rfl, ?_⟩) HS ?_
            · intro wq _; go_simp; first | done | rw [hk1]
            refine anyE_take (i := 3) (v := ?_) rfl (by kernel_rfl) (by kernel_rfl) (by kernel_rfl) (by kernel_rfl) (by kernel_rfl) (fun _ _ _ h => h) (Or.inl ⟨by kernel_rfl, ?_⟩) HS ?_
            rotate_left
            · intro wq _; go_simp; first | with_reducible rfl | (rw [if_neg (by omega)])
            refine anyE_take (i := 4) (v := undef) rfl (by kernel_rfl) (by kernel_rfl) (by kernel_rfl) (by kernel_rfl) (by kernel_rfl) (fun _ _ _ h => h) (Or.inr ⟨by kernel_rfl, rfl⟩) HS ?_
            refine anyE_take (i := 5) (v := undef) rfl (by kernel_rfl) (by kernel_rfl) (by kernel_rfl) (by kernel_rfl) (by kernel_rfl) (fun _ _ _ h => h) (Or.inr ⟨by kernel_rfl, rfl⟩) HS ?_
            refine anyE_take (i := 6) (v := undef) rfl (by kernel_rfl) (by kernel_rfl) (by kernel_rfl) (by kernel_rfl) (by kernel_rfl) (fun _ _ _ h => h) (Or.inr ⟨by kernel_rfl, rfl⟩) HS ?_
            refine anyE_take (i := 7) (v := undef) rfl (by kernel_rfl) (by kernel_rfl) (by kernel_rfl) (by kernel_rfl) (by kernel_rfl) (fun _ _ _ h => h) (Or.inr ⟨by kernel_rfl, rfl⟩) HS ?_
            refine anyE_take (i := 8) (v := undef) rfl (by kernel_rfl) (by kernel_rfl) (by kernel_rfl) (by kernel_rfl) (by kernel_rfl) (fun _ _ _ h => h) (Or.inr ⟨by kernel_rfl, rfl⟩) HS ?_
            refine anyE_take (i := 9) (v := undef) rfl (by kernel_rfl) (by kernel_rfl) (by kernel_rfl) (by kernel_rfl) (by kernel_rfl) (fun _ _ _ h => h) (Or.inr ⟨by kernel_rfl, rfl⟩) HS ?_
            refine anyE_take (i := 10) (v := undef) rfl (by kernel_rfl) (by kernel_rfl) (by kernel_rfl) (by kernel_rfl) (by kernel_rfl) (fun _ _ _ h => h) (Or.inr ⟨by kernel_rfl, rfl⟩) HS ?_
            refine anyE_take (i := 11) (v := undef) rfl (by kernel_rfl) (by kernel_rfl) (by kernel_rfl) (by kernel_rfl) (by kernel_rfl) (fun _ _ _ h => h) (Or.inr ⟨by kernel_rfl, rfl⟩) HS ?_
            refine anyE_take (i := 12) (v := undef) rfl (by kernel_rfl) (by kernel_rfl) (by kernel_rfl) (by kernel_rfl) (by kernel_rfl) (fun _ _ _ h => h) (Or.inr ⟨by kernel_rfl, rfl⟩) HS ?_
            refine anyE_take (i := 13) (v := .bool false) rfl (by kernel_rfl) (by kernel_rfl) (by kernel_rfl) (by kernel_rfl) (by kernel_rfl) (fun _ _ _ h => h) (Or.inl ⟨by kernel_rfl, fun wq _ => by kernel_rfl⟩) HS ?_
            refine anyE_done (by kernel_rfl) ?_ _
            simp only [Act.put, List.setIfInBounds_toArray, List.set_cons_succ, List.set_cons_zero, List.getElem_toArray, List.getElem_cons_succ, List.getElem_cons_zero]
            have HC2 := Lib.hid (HC.out (World.drew w9) A (.slice ay Y4.length cy) Y4 (HW9.out.below HS) (HP.out _ _ _ A _ _ HAV.out (fun g hg hA => ⟨hA, (HB9.out.trans (HS.mono HB9.out.size)).block g hg⟩) (Nat.le_trans HB9.out.size HS.size)))
            have q0 : (World.drew w9).cell? ⟨wr.heap.size, 0, none⟩ = some (.int .i64 Y1) := (HS.cell (p := ⟨wr.heap.size, 0, none⟩) lb).trans m0
            have q3 : (World.drew w9).cell? ⟨wr.heap.size, 3, none⟩ = some (.slice ay Y4.length cy) := (HS.cell (p := ⟨wr.heap.size, 3, none⟩) lb).trans m3
            have HB2 := Lib.hid (HB9.out.trans (HS.mono HB9.out.size))
            have lb2 : wr.heap.size < (World.drew w9).heap.size := Nat.lt_of_lt_of_le lb HS.size
            clear c1 m0 m1 m2 m3 lg lb HB8 HCN HW9 HB9 HS
            generalize World.drew w9 = w2 at *
            cases hfa : f Y4 with
            | some z =>
              rw [hfa] at HC2
              have hwi := wnI_err (vars := l.vars) (is := is.drop (r + 1)) (i := .mk Y1 Y2 Y3 Y4 Y5) (fun h => hk0 h.1) hfa
              rw [HWI.out] at hwi
              have hzz := wnB_err (a := (x1, x2, is)) (zs := bs.drop (q + 1)) hwi
              rw [HZ2.out] at hzz
              have HZZ := Lib.hid hzz
              clear hwi hzz hfa
              go_wp2_with (go_at_call 24; refine HC2.out.mono ?_; rintro e w3 ⟨rfl, hb3⟩)
              exact ⟨rfl, by rw [HZZ.out]; exact ⟨rfl, HB2.out.trans (hb3.mono HB2.out.size)⟩⟩
            | none =>
              rw [hfa] at HC2
              have hwi := wnI_go (vars := l.vars) (is := is.drop (r + 1)) (i := .mk Y1 Y2 Y3 Y4 Y5) (fun h => hk0 h.1) hfa
              rw [HWI.out] at hwi
              have HWJ := Lib.hid hwi.symm
              clear hwi hfa
              go_wp2_with fail
              refine HC2.out.mono ?_
              rintro e w3 ⟨rfl, hb3⟩
              have HB3 := Lib.hid (HB2.out.trans (hb3.mono HB2.out.size))
              clear q0 q3 lb2 HC2 hb3
              go_wp2_with fail
              exact ⟨⟨r + 1, congrArg (Value.int .i64) (by omega), hlr, HB3.out, HWJ.out⟩, by simp only [intOf]; omega⟩
        · have hrm : r = m := by omega
          rw [hrm, ← HM.out, List.drop_length] at hi
          replace hi : none = wnI l.vars f is := hi
          have hzz := wnB_go (a := (x1, x2, is)) (zs := bs.drop (q + 1)) hi.symm
          rw [HZ2.out] at hzz
          have HZZ := Lib.hid hzz.symm
          subst hrm
          clear hi hzz hbr
          go_wp2_with fail
          exact ⟨⟨q + 1, congrArg (Value.int .i64) (by omega), hlt, HBI.out, HZZ.out⟩, by simp only [intOf]; omega⟩
    · have hqn : q = n := by omega
      rw [hqn, ← HN.out, List.drop_length] at hz
      replace hz : none = Z := hz
      have HZZ := Lib.hid hz
      subst hqn
      clear hz hbr
      go_wp2_with fail
      go_end0
      rw [← HZZ.out]
      exact ⟨rfl, HBR.out⟩
theorem want_any {XA : Nat → Prop} {gl B N : Nat} {tv vv rv av : Value} {l : Ld} : ∀ k, WnT XA gl B N tv vv rv av l (AltsAt k) (wnA l.vars k)
  | 0 => by
    intro w A v bs h hv
    obtain ⟨rfl, ao, cap, rfl⟩ := hv
    have := want_list (XA := XA) (gl := gl) (B := B) (N := N) (tv := tv) (vv := vv) (rv := rv) (av := av) (l := l) (fun _ _ _ _ => False) (fun _ _ _ _ _ _ h _ _ => h) (fun _ _ _ _ h => h.elim) (fun _ => none) (fun _ _ _ _ _ h => h.elim) w A (.slice ao 0 cap) [] h ⟨by decide, ao, cap, rfl, fun h => absurd h (by decide)⟩
    exact this
  | k + 1 => want_list (AltsAt k) (keepsAlts k) (fun _ _ _ _ h => h.form) (wnA l.vars k) (want_any k)
end Go.Proofs.YtldamieigigncaaGreatDoor.lx

namespace Go.Proofs.YtldamieigigncaaGreatDoor.lx
open Go.ChangeShapes Go.WideShapes Go.ChangeAt Go.RowKit
set_option linter.unusedVariables false
theorem items_eq (sub : List Tok → Res (List Altn)) (f : Nat) (ts : List Tok) : pItems sub (f + 1) ts = if atIt (hd ts) then
      (match pItem sub ts with
      | .error e => .error e
      | .ok (i, r) => match pItems sub f r with
        | .error e => .error e
        | .ok (is, r2) => .ok (i :: is, r2))
    else .ok ([], ts) := rfl
theorem mores_eq (sub : List Tok → Res (List Altn)) (f : Nat) (ts : List Tok) : pMore sub (f + 1) ts = if sg ts = 124 then (match pAlt sub ts.tail with
      | .error e => .error e
      | .ok (a, r) => match pMore sub f r with
        | .error e => .error e
        | .ok (as_, r2) => .ok (a :: as_, r2)) else .ok ([], ts) := rfl
end Go.Proofs.YtldamieigigncaaGreatDoor.lx

namespace Go.Proofs.YtldamieigigncaaGreatDoor.lx
open Go.ChangeShapes Go.WideShapes Go.ChangeAt Go.RowKit
set_option linter.unusedVariables false
end Go.Proofs.YtldamieigigncaaGreatDoor.lx

namespace Go.Proofs.YtldamieigigncaaGreatDoor.lx
open Go.ChangeShapes Go.WideShapes Go.ChangeAt Go.RowKit
set_option linter.unusedVariables false
def PosR {α : Type} (a : Res α) : Prop := match a with
  | .error q => 0 < q.1
  | .ok _ => True
theorem pos_item {sub : List Tok → Res (List Altn)} (hs : ∀ ts, PosR (sub ts)) (ts : List Tok) : PosR (pItem sub ts) := by
  unfold pItem
  split
  · trivial
  · split
    · trivial
    · have h := hs ts
      cases ha : sub ts with
      | error q => rw [ha] at h; exact h
      | ok x => trivial
theorem pos_items {sub : List Tok → Res (List Altn)} (hs : ∀ ts, PosR (sub ts)) : ∀ (f : Nat) (ts : List Tok), PosR (pItems sub f ts)
  | 0, ts => by show 0 < 99; decide
  | f + 1, ts => by
    rw [items_eq]
    split
    · have h := pos_item hs ts
      cases ha : pItem sub ts with
      | error q => rw [ha] at h; exact h
      | ok x =>
        obtain ⟨i, r⟩ := x
        have h3 := pos_items hs f r
        show PosR (match pItems sub f r with
          | .error e => .error e
          | .ok (is, r2) => .ok (i :: is, r2))
        cases hb : pItems sub f r with
        | error q => rw [hb] at h3; exact h3
        | ok y => trivial
    · trivial
theorem pos_alt {sub : List Tok → Res (List Altn)} (hs : ∀ ts, PosR (sub ts)) (ts : List Tok) : PosR (pAlt sub ts) := by
  unfold pAlt
  have h3 := pos_items hs (wtTl ts).length (wtTl ts)
  cases hb : pItems sub (wtTl ts).length (wtTl ts) with
  | error q => rw [hb] at h3; exact h3
  | ok y => trivial
theorem pos_more {sub : List Tok → Res (List Altn)} (hs : ∀ ts, PosR (sub ts)) : ∀ (f : Nat) (ts : List Tok), PosR (pMore sub f ts)
  | 0, ts => by show 0 < 99; decide
  | f + 1, ts => by
    rw [mores_eq]
    split
    · have h := pos_alt hs ts.tail
      cases ha : pAlt sub ts.tail with
      | error q => rw [ha] at h; exact h
      | ok x =>
        obtain ⟨i, r⟩ := x
        have h3 := pos_more hs f r
        show PosR (match pMore sub f r with
          | .error e => .error e
          | .ok (as_, r2) => .ok (i :: as_, r2))
        cases hb : pMore sub f r with
        | error q => rw [hb] at h3; exact h3
        | ok y => trivial
    · trivial
theorem pos_alts {sub : List Tok → Res (List Altn)} (hs : ∀ ts, PosR (sub ts)) (ts : List Tok) : PosR (pAlts sub ts) := by
  unfold pAlts
  have h := pos_alt hs ts
  cases ha : pAlt sub ts with
  | error q => rw [ha] at h; exact h
  | ok x =>
    obtain ⟨i, r⟩ := x
    have h3 := pos_more hs r.length r
    show PosR (match pMore sub r.length r with
      | .error e => .error e
      | .ok (as_, r2) => .ok (i :: as_, r2))
    cases hb : pMore sub r.length r with
    | error q => rw [hb] at h3; exact h3
    | ok y => trivial
theorem pos_shut (c : Nat) {a : Res (List Altn)} (h : PosR a) : PosR (pShut c a) := by
  cases a with
  | error q => exact h
  | ok x =>
    obtain ⟨bs, r⟩ := x
    show PosR (if sg r = c then .ok (bs, r.tail) else .error (5, (hd r).at_))
    split
    · trivial
    · show 0 < 5; decide
theorem pos_pA : ∀ (d : Nat) (ts : List Tok), PosR (pA d ts)
  | 0, ts => by
    rw [pA_sub]
    exact pos_alts (fun ts => by show 0 < 6; decide) ts
  | d + 1, ts => by
    rw [pA_sub]
    exact pos_alts (fun ts => pos_shut 41 (pos_pA d ts.tail)) ts
theorem pos_def (ts : List Tok) : PosR (pDef ts) := by
  unfold pDef
  split
  · split
    · have h := pos_shut 59 (pos_pA 16 ts.tail.tail)
      cases ha : pShut 59 (pA 16 ts.tail.tail) with
      | error q => rw [ha] at h; exact h
      | ok x => trivial
    · show 0 < 5; decide
  · show 0 < 5; decide
theorem pos_text : ∀ (f : Nat) (ts : List Tok) (q : Nat × Nat), pText f ts = .error q → 0 < q.1
  | 0, ts, q, h => by
    cases h
    decide
  | f + 1, ts, q, h => by
    rw [text_eq] at h
    have h2 := pos_def ts
    cases ha : pDef ts with
    | error q' =>
      rw [ha] at h h2
      cases h
      exact h2
    | ok x =>
      obtain ⟨d, r⟩ := x
      rw [ha] at h
      have h : (if (hd r).kind = 0 then (.ok [d] : Except (Nat × Nat) (List Dfn)) else match pText f r with
        | .error e => .error e
        | .ok ds => .ok (d :: ds)) = .error q := h
      split at h
      · cases h
      · cases hb : pText f r with
        | error q' =>
          rw [hb] at h
          cases h
          exact pos_text f r q hb
        | ok ds =>
          rw [hb] at h
          cases h
end Go.Proofs.YtldamieigigncaaGreatDoor.lx

namespace Go.Proofs.YtldamieigigncaaGreatDoor.lx
open Go.ChangeShapes Go.WideShapes Go.ChangeAt Go.RowKit
set_option linter.unusedVariables false
theorem dig_dot {c : UInt8} (h : digB c = true) : (c != 46) = true := by
  have := dig_bt h
  rw [bne_iff_ne]
  rintro rfl
  revert this
  decide
theorem head_digs : ∀ (x r : List UInt8), (∀ c ∈ x, digB c = true) → headD (x ++ r) = x ++ headD r ∧ tailD (x ++ r) = tailD r ∧ dotB (x ++ r) = dotB r
  | [], r, _ => ⟨rfl, rfl, rfl⟩
  | c :: x, r, h => by
    have hc := dig_dot (h c (by simp))
    obtain ⟨h1, h2, h3⟩ := head_digs x r (fun c' hc' => h c' (by simp [hc']))
    have hc3 : (46 == c) = false := by
      rw [beq_eq_false_iff_ne]
      intro e
      rw [bne_iff_ne] at hc
      exact hc e.symm
    refine ⟨?_, ?_, ?_⟩
    · unfold headD at h1 ⊢
      rw [List.cons_append, List.takeWhile_cons_of_pos (p := fun c => c != 46) hc, h1]
      rfl
    · unfold tailD at h2 ⊢
      rw [List.cons_append, List.dropWhile_cons_of_pos (p := fun c => c != 46) hc, h2]
    · unfold dotB at h3 ⊢
      rw [List.cons_append]
      simp only [List.contains_cons, hc3, Bool.false_or, h3]
structure HeadK (T : List UInt8) (k : Nat) : Prop where
  le : k ≤ T.length
  dig : (T.take k).all digB = true
theorem HeadK.parts {T : List UInt8} {k : Nat} (h : HeadK T k) : headD T = T.take k ++ headD (T.drop k) ∧ tailD T = tailD (T.drop k) ∧ dotB T = dotB (T.drop k) := by
  have := head_digs (T.take k) (T.drop k) (fun c hc => List.all_eq_true.1 h.dig c hc)
  rwa [List.take_append_drop] at this
theorem HeadK.whole {T : List UInt8} (h : HeadK T T.length) : headD T = T ∧ tailD T = [] ∧ dotB T = false := by
  have := h.parts
  rw [List.take_length, List.drop_length] at this
  exact ⟨by rw [this.1]; simp [headD], this.2.1, this.2.2⟩
theorem HeadK.point {T : List UInt8} {k : Nat} (h : HeadK T k) (r : List UInt8) (hr : T.drop k = 46 :: r) : headD T = T.take k ∧ tailD T = r ∧ dotB T = true := by
  have := h.parts
  rw [hr] at this
  refine ⟨by rw [this.1]; simp [headD], by rw [this.2.1]; simp [tailD], by rw [this.2.2]; simp [dotB]⟩
theorem HeadK.none {T : List UInt8} {k : Nat} (h : HeadK T k) (c : UInt8) (r : List UInt8) (hr : T.drop k = c :: r) (hc : c ≠ 46) (hd : digB c = false) : digsB (headD T) 9 = false := by
  have := h.parts
  have e : headD (c :: r) = c :: headD r := by
    unfold headD
    rw [List.takeWhile_cons_of_pos (p := fun c => c != 46) (by simpa using hc)]
  rw [this.1, hr, e]
  unfold digsB
  rw [List.all_append, List.all_cons, hd]
  simp
end Go.Proofs.YtldamieigigncaaGreatDoor.lx

namespace Go.Proofs.YtldamieigigncaaGreatDoor.lx
open Go.ChangeShapes Go.WideShapes Go.ChangeAt Go.RowKit
set_option linter.unusedVariables false
end Go.Proofs.YtldamieigigncaaGreatDoor.lx

namespace Go.Proofs.YtldamieigigncaaGreatDoor.lx
open Go.ChangeShapes Go.WideShapes Go.ChangeAt Go.RowKit
set_option linter.unusedVariables false
attribute [local go_sem] x_sfrombits x_frombits x_bits
theorem val_le {l : List UInt8} (hl : l.length ≤ 15) (h : ∀ c ∈ l, digB c = true) : val l < 1000000000000000 := by
  have h1 := val_lt _ l rfl h
  have h2 : 10 ^ l.length ≤ 10 ^ 15 := Nat.pow_le_pow_right (by omega) hl
  have e15 : (10 : Nat) ^ 15 = 1000000000000000 := by decide +kernel
  omega
theorem or_top (x : Nat) (h : x < 9223372036854775808) : x ||| 9223372036854775808 = 9223372036854775808 + x := by
  have p63 : (2 : Nat) ^ 63 = 9223372036854775808 := by decide +kernel
  rw [← p63] at h ⊢
  have e := Nat.two_pow_add_eq_or_of_lt (i := 63) h 1
  rw [Nat.mul_one] at e
  rw [e, Nat.or_comm]
end Go.Proofs.YtldamieigigncaaGreatDoor.lx


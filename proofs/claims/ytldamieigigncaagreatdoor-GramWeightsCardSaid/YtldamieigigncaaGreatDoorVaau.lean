import Derived.Test.YtldamieigigncaaGreatDoorVaas
namespace Go.Proofs.YtldamieigigncaaGreatDoor.lx
open Go.ChangeShapes Go.WideShapes Go.ChangeAt Go.RowKit
set_option linter.unusedVariables false
attribute [local go_sem] run_store_float
/-! the definitions -/
theorem ldAdd_ok {l l' : Ld} {x : List UInt8} {p : Nat} (h : ldAdd l x p = .ok l') : l.vars.length ≠ 64 ∧ l' = { l with vars := l.vars ++ [x] } := by
  unfold ldAdd at h
  split at h
  · cases h
  · rename_i hne
    cases h
    exact ⟨hne, rfl⟩
theorem add_ok {l : Ld} {x : List UInt8} {bs : List Altn} (h : LdOk l) (hn : l.vars.length ≠ 64) : LdOk { l with vars := l.vars ++ [x], alts := l.alts ++ [bs] } := by
  refine ⟨?_, ?_, h.terms, h.rules, fun m hm => List.mem_append_left _ (h.last m hm)⟩
  · show (l.vars ++ [x]).length ≤ 64
    have := h.vars
    simp
    omega
  · show (l.alts ++ [bs]).length = (l.vars ++ [x]).length
    have := h.alts
    simp
    omega
theorem add_wf {l : Ld} {x : List UInt8} {bs : List Altn} (h : LdWf l) (hb : ∃ k, wfA k bs) : LdWf { l with vars := l.vars ++ [x], alts := l.alts ++ [bs] } := by
  intro cs hc
  have hc : cs ∈ l.alts ++ [bs] := hc
  rcases List.mem_append.1 hc with hc | hc
  · exact h cs hc
  · rw [List.mem_singleton.1 hc]
    exact hb
theorem ldDefs_twice {l : Ld} {d : Dfn} {ds : List Dfn} (h : d.2.1 ∈ l.vars) : ldDefs l (d :: ds) = .error (8, d.1) := by
  show (if d.2.1 ∈ l.vars then _ else _) = _
  rw [if_pos h]
theorem ldDefs_full {l : Ld} {d : Dfn} {ds : List Dfn} {q : Nat × Nat} (h : d.2.1 ∉ l.vars) (ha : ldAdd l d.2.1 d.1 = .error q) : ldDefs l (d :: ds) = .error q := by
  show (if d.2.1 ∈ l.vars then _ else match ldAdd l d.2.1 d.1 with
    | .error e => (.error e : LR Ld)
    | .ok l => ldDefs { l with alts := l.alts ++ [d.2.2] } ds) = _
  rw [if_neg h, ha]
theorem ldDefs_step {l l' : Ld} {d : Dfn} {ds : List Dfn} (h : d.2.1 ∉ l.vars) (ha : ldAdd l d.2.1 d.1 = .ok l') : ldDefs l (d :: ds) = ldDefs { l' with alts := l'.alts ++ [d.2.2] } ds := by
  show (if d.2.1 ∈ l.vars then _ else match ldAdd l d.2.1 d.1 with
    | .error e => (.error e : LR Ld)
    | .ok l => ldDefs { l with alts := l.alts ++ [d.2.2] } ds) = _
  rw [if_neg h, ha]
theorem ldDefs_ok : ∀ {ds : List Dfn} {l l' : Ld}, LdOk l → LdWf l → (∀ d ∈ ds, ∃ k, wfA k d.2.2) → ldDefs l ds = .ok l' → LdOk l' ∧ LdWf l'
  | [], l, l', h1, h2, _, h => by cases h; exact ⟨h1, h2⟩
  | d :: ds, l, l', h1, h2, h3, h => by
    by_cases hm : d.2.1 ∈ l.vars
    · rw [ldDefs_twice hm] at h; cases h
    · cases ha : ldAdd l d.2.1 d.1 with
      | error q => rw [ldDefs_full hm ha] at h; cases h
      | ok l2 =>
        rw [ldDefs_step hm ha] at h
        obtain ⟨hn, rfl⟩ := ldAdd_ok ha
        exact ldDefs_ok (add_ok h1 hn) (add_wf h2 (h3 d (List.mem_cons_self ..))) (fun x hx => h3 x (List.mem_cons_of_mem _ hx)) h
set_option maxRecDepth 100000 in
set_option maxHeartbeats 8000000 in
theorem define_any {XA : Nat → Prop} {gl B N : Nat} {tv vv rv av : Value} {l : Ld} {w : World} (h : LdW XA gl B N tv vv rv av l w) (hok : LdOk l) (ds : List Dfn) (dof : Option Addr) (dc : Nat) (hv : ListOf 3 EDef w (FrX XA gl tv vv rv av) (.slice dof ds.length dc) ds) : Calls Tryz.prog 23 #[.pointer (some ⟨gl, 0, none⟩), .slice dof ds.length dc] w fun e w' => LdV XA gl B N tv vv rv av w (ldDefs l ds) e w' := by
  have H := Lib.hid h
  have HOK := Lib.hid hok
  have HV := Lib.hid hv
  have hm31 := hv.1
  unfold maxLen at hm31
  generalize hX : ldDefs l ds = X at *
  have HX := Lib.hid hX
  generalize hn : ds.length = n at *
  have HN := Lib.hid hn
  clear h hok hX hv hn
  go_enter Tryz.func23, Tryz.ntmps23
  go_wp2_with fail
  go_loopw [8] (fun i wr => ∃ (q : Nat) (l' : Ld) (tv' vv' rv' av' : Value), i = .int .i64 q ∧ q ≤ n ∧ LdW XA gl B N tv' vv' rv' av' l' wr ∧ LdK gl tv vv rv av tv' vv' rv' av' w wr ∧ LdOk l' ∧ ListOf 3 EDef wr (FrX XA gl tv' vv' rv' av') (.slice dof n dc) ds ∧ ldDefs l' (ds.drop q) = X) (fun i _ => n - (intOf i).toNat)
  case atStart => exact ⟨0, l, tv, vv, rv, av, rfl, Nat.zero_le _, H.out, LdK.refl _ _ _ _ _ _, HOK.out, HV.out, HX.out⟩
  case round =>
    obtain ⟨q, l1, tv1, vv1, rv1, av1, rfl, hq, hw, hkk, hokl, hlist, hld⟩ := hrel
    have HW := Lib.hid hw
    have HKK := Lib.hid hkk
    have HOKL := Lib.hid hokl
    have HLI := Lib.hid hlist
    have HLD := Lib.hid hld
    by_cases hlt : q < n
    · obtain ⟨d, hd⟩ : ∃ d, ds[q]? = some d := ⟨_, List.getElem?_eq_getElem (by rw [HN.out]; exact hlt)⟩
      obtain ⟨g3, rfl, hg3, cs3, _, hcs3, iv3, rfl, hit⟩ := ListOf.at2g (by rw [HN.out]; exact hlist) hd
      obtain ⟨bo, bc, rfl⟩ := hit.form
      have hdr : ds.drop q = d :: ds.drop (q + 1) := by
        rw [List.drop_eq_getElem_cons (by rw [HN.out]; exact hlt), (List.getElem?_eq_some_iff.1 hd).2]
      rw [hdr] at hld
      obtain ⟨p, T, L⟩ := d
      simp only at hit
      have e0 : wr.cell? ⟨g3, q * 3, none⟩ = some (.int .i64 p) := hcs3 0 _ rfl
      have e1 : wr.cell? ⟨g3, q * 3 + 1, none⟩ = some (.string (S T)) := hcs3 1 _ rfl
      have e2 : wr.cell? ⟨g3, q * 3 + 2, none⟩ = some (.slice bo L.length bc) := hcs3 2 _ rfl
      have HIT := Lib.hid hit
      replace HLD := Lib.hid hld
      have hL31 : L.length ≤ 2 ^ 63 - 1 := by
        obtain ⟨k1, h1⟩ := hit.up
        have := h1.1
        unfold maxLen at this
        exact this
      generalize hL : L.length = m at *
      have HL := Lib.hid hL
      have hvl := hokl.vars
      clear hw hkk hokl hlist hdr hit hcs3 hd hld hL
      go_upto_region 3 with fail
      have b8 := Blk.new wr 66 #[.int .i64 p, .string (S T), .slice bo m bc]
      have hb8 : Below wr.heap.size wr (wr.alloc (.cells #[.int .i64 p, .string (S T), .slice bo m bc] 66)) := (Below.refl _ _).alloc (Nat.le_refl _) _
      have HF8 := Lib.hid (HW.out.free_new (Nat.le_refl wr.heap.size))
      clear e0 e1 e2
      generalize wr.alloc (.cells #[.int .i64 p, .string (S T), .slice bo m bc] 66) = w9 at *
      have hw9 := HW.out.below hb8
      have HK9 := Lib.hid (HKK.out.trans (LdK.of_below hb8))
      have HL9 := Lib.hid (HLI.out.keep keepsDef (w' := w9) (A' := FrX XA gl tv1 vv1 rv1 av1) (fun g hg hA => ⟨hA, hb8.block g hg⟩) hb8.size)
      have HT9 := Lib.hid (keepsAlts 17 _ w9 _ (FrX XA gl tv1 vv1 rv1 av1) _ _ HIT.out (fun g hg hA => ⟨hA, hb8.block g hg⟩) hb8.size)
      obtain ⟨vo, vc, rfl⟩ := own_form hw9.vs
      have HCN := Lib.hid (fun wx (hx : Below w9.heap.size w9 wx) => contains_any wx _ (.slice vo l1.vars.length vc) l1.vars T (strs_of (hw9.below hx).vs))
      have c1 : w9.cell? ⟨gl, 1, none⟩ = some (.slice vo l1.vars.length vc) := hw9.box.cell 1
      have t1 : w9.cell? ⟨wr.heap.size, 1, none⟩ = some (.string (S T)) := b8.cell 1
      have lg := hw9.box.lt
      have lb := b8.lt
      have HW9 := Lib.hid hw9
      have HB9 := Lib.hid b8
      generalize hvn : l1.vars.length = vn at *
      have HVN := Lib.hid hvn
      clear hw9 b8 hb8 HW HKK HLI HIT hvn
      refine wp_region_E (fun W => Below w9.heap.size w9 W) [] (by kernel_rfl) ?_
      change anyE _ _ _ _ _ _ _ _ _ (World.drew _)
      have HS : Below w9.heap.size w9 (World.drew w9) := (Below.refl _ _).drew
      refine anyE_take (i := 0) (v := ?_) rfl (by kernel_rfl) (by kernel_rfl) (by kernel_rfl) (by kernel_rfl) (by kernel_rfl) (fun _ _ _ h => h) (Or.inl ⟨by kernel_rfl, ?_⟩) HS ?_
      rotate_left
      · intro wq _; go_simp; first | with_reducible rfl | (rw [if_neg (by omega)])
      refine anyE_take (i := 1) (v := ?_) rfl (by kernel_rfl) (by kernel_rfl) (by kernel_rfl) (by kernel_rfl) (by kernel_rfl) (fun _ _ _ h => h) (Or.inl ⟨by kernel_rfl, ?_⟩) HS ?_
      rotate_left
      · intro wq _; go_simp; first | with_reducible rfl | (rw [if_neg (by omega)])
      refine anyE_take (i := 2) (v := ?_) rfl (by kernel_rfl) (by kernel_rfl) (by kernel_rfl) (by kernel_rfl) (by kernel_rfl) (fun _ _ _ h => h) (Or.inl ⟨by kernel_rfl, ?_⟩) HS ?_
      rotate_left
      · intro wq _; go_simp; first | with_reducible rfl | (rw [if_neg (by omega)])
      refine anyE_take (i := 3) (v := ?_) rfl (by kernel_rfl) (by kernel_rfl) (by kernel_rfl) (by kernel_rfl) (by kernel_rfl) (fun _ _ _ h => h) (Or.inl ⟨by kernel_rfl, ?_⟩) HS ?_
      rotate_left
      · intro wq _; go_simp; first | with_reducible rfl | (rw [if_neg (by omega)])
      refine anyE_take (i := 4) (v := ?_) rfl (by kernel_rfl) (by kernel_rfl) (by kernel_rfl) (by kernel_rfl) (by kernel_rfl) (fun _ _ _ h => h) (Or.inl ⟨by kernel_rfl, ?_⟩) HS ?_
      rotate_left
      · intro wq hw; have hw := (hw.cell (p := ⟨gl, 1, none⟩) lg).trans c1; go_simp; with_reducible rfl
      refine anyE_take (i := 5) (v := ?_) rfl (by kernel_rfl) (by kernel_rfl) (by kernel_rfl) (by kernel_rfl) (by kernel_rfl) (fun _ _ _ h => h) (Or.inl ⟨by kernel_rfl, ?_⟩) HS ?_
      rotate_left
      · intro wq _; go_simp; first | with_reducible rfl | (rw [if_neg (by omega)])
      refine anyE_take (i := 6) (v := ?_) rfl (by kernel_rfl) (by kernel_rfl) (by kernel_rfl) (by kernel_rfl) (by kernel_rfl) (fun _ _ _ h => h) (Or.inl ⟨by kernel_rfl, ?_⟩) HS ?_
      rotate_left
      · intro wq hw; have hw := (hw.cell (p := ⟨wr.heap.size, 1, none⟩) lb).trans t1; go_simp; with_reducible rfl
      refine anyE_ready (rs := [7]) (by kernel_rfl) (by simp) ?_
      refine ReadyE.cons rfl (by kernel_rfl) (fun K hK => ?_) ReadyE.nil
      go_simp
      go_at_call 61
      refine (HCN.out _ HS).mono ?_
      rintro e w2 ⟨rfl, rfl⟩
      refine hK.out _ _ (fun _ => HS) ?_
      clear hK K
      refine anyE_done (by kernel_rfl) ?_ _
      have hw2 := HW9.out.below HS
      have hb2 := HB9.out.below HS HB9.out.lt
      have HK2 := Lib.hid (HK9.out.trans (LdK.of_below HS))
      have HL2 := Lib.hid (HL9.out.keep keepsDef (w' := World.drew w9) (A' := FrX XA gl tv1 (.slice vo vn vc) rv1 av1) (fun g hg hA => ⟨hA, HS.block g hg⟩) HS.size)
      have HT2 := Lib.hid (keepsAlts 17 _ (World.drew w9) _ (FrX XA gl tv1 (.slice vo vn vc) rv1 av1) _ _ HT9.out (fun g hg hA => ⟨hA, HS.block g hg⟩) HS.size)
      generalize World.drew w9 = w2 at *
      have t0 : w2.cell? ⟨wr.heap.size, 0, none⟩ = some (.int .i64 p) := hb2.cell 0
      clear c1 t1 lg lb HW9 HB9 HK9 HL9 HT9 HS HCN
      have lb := hb2.lt
      have t1 : w2.cell? ⟨wr.heap.size, 1, none⟩ = some (.string (S T)) := hb2.cell 1
      have HW2 := Lib.hid hw2
      have HB2 := Lib.hid hb2
      by_cases hmem : T ∈ l1.vars
      · have hX := HLD.out
        rw [ldDefs_twice hmem] at hX
        have HX2 := Lib.hid hX.symm
        rw [decide_eq_true hmem]
        have HF := Lib.hid (gfail_any w2 8 p)
        clear hw2 hb2 hX
        go_wp2_with fail
        refine HF.out.mono ?_
        rintro e w' ⟨rfl, rfl⟩
        exact ⟨rfl, by rw [HX2.out]; exact ⟨rfl, HK2.out.belowB H.out⟩⟩
      · rw [decide_eq_false hmem]
        have hadd := add_any hw2 (by rw [HVN.out]; exact hvl) T p
        cases hA : ldAdd l1 T p with
        | error z =>
          have hX := HLD.out
          rw [ldDefs_full hmem hA] at hX
          have HX2 := Lib.hid hX.symm
          rw [hA] at hadd
          have HADD := Lib.hid hadd
          clear hw2 hb2 hX hadd hA
          go_wp2_with (go_at_call 63; refine HADD.out.mono ?_; rintro e w3 ⟨rfl, hb3⟩)
          exact ⟨rfl, by rw [HX2.out]; exact ⟨rfl, (HK2.out.belowB H.out).trans hb3⟩⟩
        | ok l2 =>
          have hX := HLD.out
          rw [ldDefs_step hmem hA] at hX
          have HX2 := Lib.hid hX
          have hl2 := ldAdd_ok hA
          have HL2O := Lib.hid hl2
          rw [hA] at hadd
          have HADD := Lib.hid hadd
          clear hw2 hb2 hX hadd hA hl2
          go_upto_region 6 with (go_at_call 63; refine HADD.out.mono ?_; rintro e w3 ⟨rfl, tv3, vv3, rv3, av3, hw3, hk3⟩)
          have HK3 := Lib.hid (HK2.out.trans hk3)
          have hf2 := HF8.out
          have hf3 : Fr gl tv3 vv3 rv3 av3 wr.heap.size := hk3.free HB2.out.lt hf2
          have hb3 := hk3.blk HB2.out hf2
          have HL3 := Lib.hid (HL2.out.keep keepsDef (w' := w3) (A' := FrX XA gl tv3 vv3 rv3 av3) (fun g hg hA => ⟨⟨hk3.free hg hA.1, hA.2⟩, hk3.kp.block g hg (fun hf => hf hA.1)⟩) hk3.kp.size)
          have HT3 := Lib.hid (keepsAlts 17 _ w3 _ (FrX XA gl tv3 vv3 rv3 av3) _ _ HT2.out (fun g hg hA => ⟨⟨hk3.free hg hA.1, hA.2⟩, hk3.kp.block g hg (fun hf => hf hA.1)⟩) hk3.kp.size)
          obtain ⟨us, hus, hoa, hua⟩ := hw3.al
          obtain ⟨ao5, c5, rfl⟩ := own_form hoa
          have hna64 : l2.alts.length ≤ 64 := by
            rw [HL2O.out.2]
            show l1.alts.length ≤ 64
            rw [HOKL.out.alts]
            exact HOKL.out.vars
          generalize hna : l2.alts.length = na at *
          have HNA := Lib.hid hna
          have c3 : w3.cell? ⟨gl, 3, none⟩ = some (.slice ao5 na c5) := hw3.box.cell 3
          have t2 : w3.cell? ⟨wr.heap.size, 2, none⟩ = some (.slice bo m bc) := hb3.cell 2
          have lg := hw3.box.lt
          clear lb t0 t1
          have lb := hb3.lt
          have HW3 := Lib.hid hw3
          clear hw3 hk3 hb3 hus hoa hua hf2 hf3 HADD HW2 HB2 HL2 HT2 HK2 hna
          refine wp_region_any (by kernel_rfl) ?_
          change wpAny _ _ _ _ _ _ _ (World.drew _)
          refine wpAny_take (i := 0) (v := ?_) rfl (by kernel_rfl) (by kernel_rfl) (by kernel_rfl) (fun _ _ _ h => h) (Or.inl ⟨by kernel_rfl, ?_⟩) ?_
          rotate_left
          · intro wq; go_simp; with_reducible rfl
          refine any_of_anyE (S := fun W => Below w3.heap.size w3 W) (E := [8, 9, 10, 11]) _ _ _ _ ?_
          have HS : Below w3.heap.size w3 (World.drew w3) := (Below.refl _ _).drew
          refine anyE_take (i := 1) (v := ?_) rfl (by kernel_rfl) (by kernel_rfl) (by kernel_rfl) (by kernel_rfl) (by kernel_rfl) (fun _ _ _ h => h) (Or.inl ⟨by kernel_rfl, ?_⟩) HS ?_
          rotate_left
          · intro wq _; go_simp; first | with_reducible rfl | (rw [if_neg (by omega)])
          refine anyE_take (i := 2) (v := ?_) rfl (by kernel_rfl) (by kernel_rfl) (by kernel_rfl) (by kernel_rfl) (by kernel_rfl) (fun _ _ _ h => h) (Or.inl ⟨by kernel_rfl, ?_⟩) HS ?_
          rotate_left
          · intro wq _; go_simp; first | with_reducible rfl | (rw [if_neg (by omega)])
          refine anyE_take (i := 3) (v := ?_) rfl (by kernel_rfl) (by kernel_rfl) (by kernel_rfl) (by kernel_rfl) (by kernel_rfl) (fun _ _ _ h => h) (Or.inl ⟨by kernel_rfl, ?_⟩) HS ?_
          rotate_left
          · intro wq _; go_simp; first | with_reducible rfl | (rw [if_neg (by omega)])
          refine anyE_take (i := 4) (v := ?_) rfl (by kernel_rfl) (by kernel_rfl) (by kernel_rfl) (by kernel_rfl) (by kernel_rfl) (fun _ _ _ h => h) (Or.inl ⟨by kernel_rfl, ?_⟩) HS ?_
          rotate_left
          · intro wq hw; have hw := (hw.cell (p := ⟨gl, 3, none⟩) lg).trans c3; go_simp; with_reducible rfl
          refine anyE_take (i := 5) (v := ?_) rfl (by kernel_rfl) (by kernel_rfl) (by kernel_rfl) (by kernel_rfl) (by kernel_rfl) (fun _ _ _ h => h) (Or.inl ⟨by kernel_rfl, ?_⟩) HS ?_
          rotate_left
          · intro wq _; go_simp; first | with_reducible rfl | (rw [if_neg (by omega)])
          refine anyE_take (i := 6) (v := ?_) rfl (by kernel_rfl) (by kernel_rfl) (by kernel_rfl) (by kernel_rfl) (by kernel_rfl) (fun _ _ _ h => h) (Or.inl ⟨by kernel_rfl, ?_⟩) HS ?_
          rotate_left
          · intro wq hw; have hw := (hw.cell (p := ⟨wr.heap.size, 2, none⟩) lb).trans t2; go_simp; with_reducible rfl
          refine anyE_ready (rs := [7]) (by kernel_rfl) (by simp) ?_
          refine ReadyE.cons rfl (by kernel_rfl) (fun K hK => ?_) ReadyE.nil
          go_simp
          refine hK.out _ _ (fun _ => HS.alloc HS.size _) ?_
          clear hK K
          refine anyE_rest (by kernel_rfl) ?_
          have hw4 := HW3.out.below HS
          have HW4 := Lib.hid hw4
          have HK4 := Lib.hid (HK3.out.trans (LdK.of_below HS))
          have HL4 := Lib.hid (HL3.out.keep keepsDef (w' := World.drew w3) (A' := FrX XA gl tv3 vv3 rv3 (.slice ao5 na c5)) (fun g hg hA => ⟨hA, HS.block g hg⟩) HS.size)
          have HT4 := Lib.hid (keepsAlts 17 _ (World.drew w3) _ (FrX XA gl tv3 vv3 rv3 (.slice ao5 na c5)) _ _ HT3.out (fun g hg hA => ⟨hA, HS.block g hg⟩) HS.size)
          obtain ⟨us, hus, hoa, hua⟩ := hw4.al
          rw [HNA.out] at hoa
          have HOA := Lib.hid hoa
          have HUS := Lib.hid hus
          have HUA := Lib.hid hua
          have hz4 := hw4.size
          obtain ⟨i1, ki, kz0, kz1, kz2⟩ := info_parts info_alts
          clear hw4 hus hoa hua c3 t2 lg lb HS HW3 HK3 HL3 HT3
          change wpAny _ _ _ _ _ _ _ ((World.drew w3).alloc (.cells #[.slice bo m bc] 64))
          refine wpAny_ready (rs := [8]) (by kernel_rfl) (by simp) ?_
          refine AllReady.cons rfl (fun K hK => ?_) AllReady.nil
          refine step_append_lies _ (by rfl) (.tmp 33) (.tmp 36) 60 (by rfl) B 64 i1 (.slice none 0 0) 1 24 Tryz.underlying60 ki kz0 kz1 kz2 (by rfl) (by decide) (.slice ao5 na c5) na us (by rfl) (HOA.out.alloc _) ⟨(World.drew w3).heap.size, 0, none⟩ 1 1 [.slice bo m bc] (by rfl) (by rfl) (new_one _ _ _) (one_sl _ _ _) (by decide) (by unfold maxLen; omega) (by omega) (by rw [World.size_alloc]; omega) ((World.drew w3).heap.size + 1) (World.size_alloc _ _) ?_
          intro g5 cap5 w5 hown5 hgrow5 hat5 hlt5
          have hb5 := Blk.grown (HW4.out.box.alloc (.cells #[.slice bo m bc] 64)) hgrow5 (fun e => HW4.out.apart_box.2.2.2 e.symm)
          have hc5 := hb5.cell 3
          have hf5 := hb5.frozen 3
          have hl5 := hb5.lt
          refine hK _ _ ?_
          clear hK K
          refine wpAny_ready (rs := [9]) (by kernel_rfl) (by simp) ?_
          refine AllReady.cons rfl (fun K hK => ?_) AllReady.nil
          go_simp
          refine hK _ _ ?_
          clear hK K
          refine wpAny_ready (rs := [10]) (by kernel_rfl) (by simp) ?_
          refine AllReady.cons rfl (fun K hK => ?_) AllReady.nil
          go_simp
          refine hK _ _ ?_
          clear hK K
          refine wpAny_ready (rs := [11]) (by kernel_rfl) (by simp) ?_
          refine AllReady.cons rfl (fun K hK => ?_) AllReady.nil
          go_simp
          refine hK _ _ ?_
          clear hK K
          refine wpAny_done (by kernel_rfl) ?_ _
          have hat5' : (Value.slice (some ⟨g5, 0, none⟩) (na + 1) cap5).ownBlock = (Value.slice ao5 na c5).ownBlock ∨ (Value.slice (some ⟨g5, 0, none⟩) (na + 1) cap5).ownBlock = some ((World.drew w3).alloc (.cells #[.slice bo m bc] 64)).heap.size := by
            rcases hat5 with h | h
            · exact .inl h.symm
            · right; rw [World.size_alloc, ← h]; rfl
          have hst := HW4.out.alts_more (v1 := .slice (some ⟨g5, 0, none⟩) (na + 1) cap5) (bs := L) (u := .slice bo m bc) (k := 17) HUS.out (by rw [HNA.out]; exact HOA.out) HUA.out HT4.out (by rw [HNA.out]; exact hown5) hgrow5 hat5'
          have hk5 := hst.2
          have HL5 := Lib.hid (HL4.out.keep keepsDef (w' := w5.setCell ⟨gl, 3, none⟩ (.slice (some ⟨g5, 0, none⟩) (na + 1) cap5)) (A' := FrX XA gl tv3 vv3 rv3 (.slice (some ⟨g5, 0, none⟩) (na + 1) cap5)) (fun g hg hA => ⟨⟨hk5.free hg hA.1, hA.2⟩, hk5.kp.block g hg (fun hf => hf hA.1)⟩) hk5.kp.size)
          have HST1 := Lib.hid hst.1
          have HST2 := Lib.hid hst.2
          clear hc5 hf5 hl5 hb5 hown5 hgrow5 hat5 hat5' hst hk5
          generalize w5.setCell ⟨gl, 3, none⟩ (.slice (some ⟨g5, 0, none⟩) (na + 1) cap5) = w6 at *
          have hok6 : LdOk { l2 with alts := l2.alts ++ [L] } := by
            rw [HL2O.out.2]
            exact add_ok HOKL.out HL2O.out.1
          go_wp2_with fail
          exact ⟨⟨q + 1, _, _, _, _, _, congrArg (Value.int .i64) (by omega), hlt, HST1.out, HK4.out.trans HST2.out, hok6, HL5.out, HX2.out⟩, by simp only [intOf]; omega⟩
    · have hqn : q = n := by omega
      rw [hqn, ← HN.out, List.drop_length] at hld
      replace hld : Except.ok l1 = X := hld
      have HX2 := Lib.hid hld
      subst hqn
      clear hw hkk hokl hlist hld
      go_wp2_with fail
      go_end0
      rw [← HX2.out]
      exact ⟨rfl, _, _, _, _, HW.out, HKK.out⟩
end Go.Proofs.YtldamieigigncaaGreatDoor.lx
namespace Go.Proofs.YtldamieigigncaaGreatDoor.lx
open Go.ChangeShapes Go.WideShapes Go.ChangeAt Go.RowKit
set_option linter.unusedVariables false
/-! the document's own Load, and that it is the program's -/
structure DSt where
  names : List (List UInt8)
  alts : List (List Altn)
  terms : List (List UInt8)
  fresh : Nat
  rules : List (Nat × List Int × Nat)
  E : Nat
  A : Nat
def badD (s : DSt) (e a : Nat) : DSt := if s.E = 0 then { s with E := e, A := a } else s
def addD (s : DSt) (name : List UInt8) (al : List Altn) (a : Nat) : DSt := if s.names.length = 64 then badD s 7 a else { s with names := s.names ++ [name], alts := s.alts ++ [al] }
def freshD (s : DSt) : DSt := { s with fresh := nextN s.names s.names.length s.fresh }
def madeD (s : DSt) (i : Itm) : DSt := addD (freshD s) (gnm (freshD s).fresh) (meanP i (gnm (freshD s).fresh)) i.at_
def idxD (l : List (List UInt8)) (x : List UInt8) : Int := if x ∈ l then (l.idxOf x : Int) else -1
def symD (s : DSt) (i : Itm) : DSt × Int :=
  if i.op ≠ 0 ∨ i.kind = 2 then (madeD s i, ((madeD s i).names.length : Int) - 1)
  else if i.kind = 0 then (s, idxD s.names i.text)
  else if i.text ∈ s.terms then (s, -(s.terms.idxOf i.text : Int) - 1)
  else if s.terms.length = 64 then (badD s 7 i.at_, 0)
  else ({ s with terms := s.terms ++ [i.text] }, -(s.terms.length : Int) - 1)
def symsD : DSt → List Int → List Itm → DSt × List Int
  | s, xs, [] => (s, xs)
  | s, xs, i :: is => if s.E ≠ 0 then (s, xs) else symsD (symD s i).1 (xs ++ [(symD s i).2]) is
def dupD (rs : List (Nat × List Int × Nat)) (v : Nat) (xs : List Int) : Bool := rs.any fun r => r.1 == v && r.2.1 == xs
def altD (s : DSt) (v : Nat) (a : Altn) : DSt :=
  if s.rules.length = 256 ∨ 24 < a.2.2.length then badD s 7 a.1
  else if dupD (symsD s [] a.2.2).1.rules v (symsD s [] a.2.2).2 = true then badD (symsD s [] a.2.2).1 10 a.1
  else { (symsD s [] a.2.2).1 with rules := (symsD s [] a.2.2).1.rules ++ [(v, (symsD s [] a.2.2).2, a.2.1)] }
def altsD : DSt → Nat → List Altn → DSt
  | s, _, [] => s
  | s, v, a :: zs => if s.E ≠ 0 then s else altsD (altD s v a) v zs
def goD : Nat → Nat → DSt → DSt
  | 0, _, s => s
  | f + 1, v, s => if v < s.names.length ∧ s.E = 0 then goD f (v + 1) (altsD s v (s.alts.getD v [])) else s
def defI (sub : DSt → List Altn → DSt) : DSt → List Itm → DSt
  | s, [] => s
  | s, i :: is => defI sub (sub (if i.kind = 0 ∧ i.text ∉ s.names then badD s 9 i.at_ else s) i.alts) is
def defB (sub : DSt → List Altn → DSt) : DSt → List Altn → DSt
  | s, [] => s
  | s, a :: zs => defB sub (defI sub s a.2.2) zs
def defA : Nat → DSt → List Altn → DSt
  | 0, s, _ => s
  | k + 1, s, bs => defB (defA k) s bs
def defsD : DSt → List Dfn → DSt
  | s, [] => s
  | s, d :: ds => if s.E ≠ 0 then s else defsD (addD (if d.2.1 ∈ s.names then badD s 8 d.1 else s) d.2.1 d.2.2 d.1) ds
def wantD (k : Nat) : DSt → List Dfn → DSt
  | s, [] => s
  | s, d :: ds => wantD k (defA k s d.2.2) ds
def ds0 : DSt := ⟨[], [], [], 0, [], 0, 0⟩
def runD (k : Nat) (ds : List Dfn) : DSt := goD 65 0 (wantD k (defsD ds0 ds) ds)
def toD (l : Ld) : DSt := ⟨l.vars, l.alts, l.terms, l.last, l.rules, 0, 0⟩
def Eq2 (x : LR Ld) (s : DSt) : Prop := match x with
  | .ok l => s = toD l
  | .error e => s.E = e.1 ∧ s.A = e.2 ∧ e.1 ≠ 0
theorem bad_to (l : Ld) (e a : Nat) (h : e ≠ 0) : Eq2 (.error (e, a)) (badD (toD l) e a) := ⟨rfl, rfl, h⟩
theorem bad_keep {s : DSt} (h : s.E ≠ 0) (e a : Nat) : badD s e a = s := by unfold badD; rw [if_neg h]
theorem add_keep {s : DSt} (h : s.E ≠ 0) (x : List UInt8) (al : List Altn) (a : Nat) : (addD s x al a).E = s.E ∧ (addD s x al a).A = s.A := by
  unfold addD
  split
  · rw [bad_keep h]; exact ⟨rfl, rfl⟩
  · exact ⟨rfl, rfl⟩
theorem add_eq (l : Ld) (x : List UInt8) (al : List Altn) (a : Nat) : Eq2 (match ldAdd l x a with | .error e => .error e | .ok l => .ok { l with alts := l.alts ++ [al] }) (addD (toD l) x al a) := by
  unfold ldAdd addD
  by_cases h : l.vars.length = 64
  · rw [if_pos h, if_pos (show (toD l).names.length = 64 from h)]
    exact bad_to l 7 a (by decide)
  · rw [if_neg h, if_neg (show ¬ (toD l).names.length = 64 from h)]
    rfl
def Eq3 (x : LR (Ld × Int)) (s : DSt × Int) : Prop := match x with
  | .ok y => s = (toD y.1, y.2)
  | .error e => s.1.E = e.1 ∧ s.1.A = e.2 ∧ e.1 ≠ 0
theorem sym_eq (l : Ld) (i : Itm) (hk : i.kind = 0 ∨ i.kind = 1 ∨ i.kind = 2) : Eq3 (symP l i) (symD (toD l) i) := by
  unfold symP symD
  by_cases h : i.op ≠ 0 ∨ i.kind = 2
  · rw [if_pos h, if_pos h]
    have e1 : freshD (toD l) = toD { l with last := newN l } := rfl
    have h1 := add_eq { l with last := newN l } (gnm (newN l)) (meanP i (gnm (newN l))) i.at_
    have e2 : madeD (toD l) i = addD (toD { l with last := newN l }) (gnm (newN l)) (meanP i (gnm (newN l))) i.at_ := rfl
    rw [e2]
    have e3 : ∀ l2, ldAdd { l with last := newN l } (gnm (newN l)) i.at_ = .ok l2 → l2.last = newN l := by
      intro l2 h2
      unfold ldAdd at h2
      split at h2
      · cases h2
      · cases h2; rfl
    cases h2 : ldAdd { l with last := newN l } (gnm (newN l)) i.at_ with
    | error e => rw [h2] at h1; exact h1
    | ok l2 =>
      have := e3 l2 h2
      rw [h2] at h1
      simp only at h1 ⊢
      have h1 : addD (toD { l with last := newN l }) (gnm (newN l)) (meanP i (gnm (newN l))) i.at_ = toD { l2 with alts := l2.alts ++ [meanP i (gnm (newN l))] } := h1
      rw [h1, this]
      rfl
  · rw [if_neg h, if_neg h]
    simp only [not_or, Decidable.not_not] at h
    by_cases h0 : i.kind = 0
    · rw [if_pos h0, if_neg (by omega)]
      rfl
    · rw [if_neg h0, if_pos (by omega)]
      by_cases hm : i.text ∈ l.terms
      · rw [if_pos hm, if_pos (show i.text ∈ (toD l).terms from hm)]
        rfl
      · rw [if_neg hm, if_neg (show ¬ i.text ∈ (toD l).terms from hm)]
        by_cases h64 : l.terms.length = 64
        · rw [if_pos h64, if_pos (show (toD l).terms.length = 64 from h64)]
          exact ⟨rfl, rfl, show (7 : Nat) ≠ 0 by decide⟩
        · rw [if_neg h64, if_neg (show ¬ (toD l).terms.length = 64 from h64)]
          rfl
def Eq4 (xs : List Int) (x : LR (Ld × List Int)) (s : DSt × List Int) : Prop := match x with
  | .ok y => s = (toD y.1, xs ++ y.2)
  | .error e => s.1.E = e.1 ∧ s.1.A = e.2 ∧ e.1 ≠ 0
theorem syms_stop {s : DSt} (h : s.E ≠ 0) (xs : List Int) : ∀ is, symsD s xs is = (s, xs)
  | [] => rfl
  | i :: is => by unfold symsD; rw [if_pos h]
theorem syms_eq : ∀ (is : List Itm) (l : Ld) (xs : List Int), (∀ i ∈ is, i.kind = 0 ∨ i.kind = 1 ∨ i.kind = 2) → Eq4 xs (symsP l is) (symsD (toD l) xs is)
  | [], l, xs, _ => by
    show (toD l, xs) = (toD l, xs ++ [])
    rw [List.append_nil]
  | i :: is, l, xs, hk => by
    unfold symsP symsD
    rw [if_neg (show ¬ (toD l).E ≠ 0 from fun h => h rfl)]
    have h1 := sym_eq l i (hk i (by simp))
    cases h2 : symP l i with
    | error e =>
      rw [h2] at h1
      have h1 : (symD (toD l) i).1.E = e.1 ∧ (symD (toD l) i).1.A = e.2 ∧ e.1 ≠ 0 := h1
      rw [syms_stop (by rw [h1.1]; exact h1.2.2)]
      exact h1
    | ok y =>
      obtain ⟨l1, x⟩ := y
      rw [h2] at h1
      have h1 : symD (toD l) i = (toD l1, x) := h1
      rw [h1]
      have ih := syms_eq is l1 (xs ++ [x]) (fun j hj => hk j (by simp [hj]))
      simp only
      cases h3 : symsP l1 is with
      | error e => rw [h3] at ih; exact ih
      | ok z =>
        rw [h3] at ih
        show _ = (toD z.1, xs ++ x :: z.2)
        have ih : symsD (toD l1) (xs ++ [x]) is = (toD z.1, (xs ++ [x]) ++ z.2) := ih
        rw [ih]
        simp
theorem alt_eq (l : Ld) (v : Nat) (a : Altn) (hk : ∀ i ∈ a.2.2, i.kind = 0 ∨ i.kind = 1 ∨ i.kind = 2) : Eq2 (ruleP l v a) (altD (toD l) v a) := by
  unfold ruleP altD
  by_cases hm : l.rules.length = 256 ∨ 24 < a.2.2.length
  · rw [if_pos hm, if_pos (show (toD l).rules.length = 256 ∨ 24 < a.2.2.length from hm)]
    exact bad_to l 7 _ (by decide)
  · rw [if_neg hm, if_neg (show ¬ ((toD l).rules.length = 256 ∨ 24 < a.2.2.length) from hm)]
    have h1 := syms_eq a.2.2 l [] hk
    cases h2 : symsP l a.2.2 with
    | error e =>
      rw [h2] at h1
      have h1 : (symsD (toD l) [] a.2.2).1.E = e.1 ∧ (symsD (toD l) [] a.2.2).1.A = e.2 ∧ e.1 ≠ 0 := h1
      by_cases hd : dupD (symsD (toD l) [] a.2.2).1.rules v (symsD (toD l) [] a.2.2).2 = true
      · rw [if_pos hd, bad_keep (by rw [h1.1]; exact h1.2.2)]; exact h1
      · rw [if_neg hd]; exact h1
    | ok y =>
      obtain ⟨l1, xs⟩ := y
      rw [h2] at h1
      have h1 : symsD (toD l) [] a.2.2 = (toD l1, [] ++ xs) := h1
      rw [h1, List.nil_append]
      simp only
      have e : dupD (toD l1).rules v xs = (l1.rules.any fun r => r.1 == v && r.2.1 == xs) := rfl
      rw [e]
      split
      · exact bad_to l1 10 _ (by decide)
      · rfl
theorem alts_stop {s : DSt} (h : s.E ≠ 0) (v : Nat) : ∀ zs, altsD s v zs = s
  | [] => rfl
  | a :: zs => by unfold altsD; rw [if_pos h]
theorem altsD_eq : ∀ (zs : List Altn) (l : Ld) (v : Nat), (∀ a ∈ zs, ∀ i ∈ a.2.2, i.kind = 0 ∨ i.kind = 1 ∨ i.kind = 2) → Eq2 (altsP l v zs) (altsD (toD l) v zs)
  | [], l, v, _ => rfl
  | a :: zs, l, v, hk => by
    unfold altsP altsD
    rw [if_neg (show ¬ (toD l).E ≠ 0 from fun h => h rfl)]
    have h1 := alt_eq l v a (hk a (by simp))
    cases h2 : ruleP l v a with
    | error e =>
      rw [h2] at h1
      have h1 : (altD (toD l) v a).E = e.1 ∧ (altD (toD l) v a).A = e.2 ∧ e.1 ≠ 0 := h1
      rw [alts_stop (by rw [h1.1]; exact h1.2.2)]
      exact h1
    | ok l1 =>
      rw [h2] at h1
      have h1 : altD (toD l) v a = toD l1 := h1
      rw [h1]
      exact altsD_eq zs l1 v (fun b hb => hk b (by simp [hb]))
theorem altsP_wf2 : ∀ {zs : List Altn} {l l' : Ld} {v : Nat}, LdWf l → (∀ a ∈ zs, ∀ i ∈ a.2.2, ∃ k, wfI (wfA k) i) → altsP l v zs = .ok l' → LdWf l'
  | [], l, l', v, h, _, e => by cases e; exact h
  | a :: zs, l, l', v, h, hi, e => by
    unfold altsP at e
    cases h1 : ruleP l v a with
    | error q => rw [h1] at e; cases e
    | ok l1 =>
      rw [h1] at e
      exact altsP_wf2 (ruleP_wf h (hi a (by simp)) h1) (fun b hb => hi b (by simp [hb])) e
theorem wfA_kinds {k : Nat} {bs : List Altn} (h : wfA k bs) : ∀ a ∈ bs, ∀ i ∈ a.2.2, ∃ k, wfI (wfA k) i := fun a ha i hi => by
  cases k with
  | zero => rw [show bs = [] from h] at ha; cases ha
  | succ k => exact ⟨k, h a ha i hi⟩
theorem go_eq : ∀ (f v : Nat) (l : Ld), LdOk l → LdWf l → 64 < f + v → v ≤ l.alts.length → Eq2 (goP f v l) (goD f v (toD l))
  | 0, v, l, hok, _, hf, hv => by
    have := hok.vars
    have := hok.alts
    omega
  | f + 1, v, l, hok, hwf, hf, hv => by
    have ha := hok.alts
    have hz := hok.vars
    unfold goP goD
    by_cases h : v < l.alts.length
    · rw [if_pos h, if_pos (show v < (toD l).names.length ∧ (toD l).E = 0 from ⟨by show v < l.vars.length; omega, rfl⟩)]
      have e : (toD l).alts.getD v [] = l.alts.getD v [] := rfl
      rw [e]
      have hm : l.alts.getD v [] ∈ l.alts := by
        rw [List.getD_eq_getElem?_getD, List.getElem?_eq_getElem h]
        exact List.getElem_mem _
      obtain ⟨k, hk⟩ := hwf _ hm
      have hks := wfA_kinds hk
      have h1 := altsD_eq (l.alts.getD v []) l v (fun a ha i hi => (hks a ha i hi).elim fun _ h => h.1)
      cases h2 : altsP l v (l.alts.getD v []) with
      | error q =>
        rw [h2] at h1
        have h1 : (altsD (toD l) v (l.alts.getD v [])).E = q.1 ∧ (altsD (toD l) v (l.alts.getD v [])).A = q.2 ∧ q.1 ≠ 0 := h1
        have hst : ∀ f u (s : DSt), s.E ≠ 0 → goD f u s = s := by
          intro f u s hs
          cases f with
          | zero => rfl
          | succ f => unfold goD; rw [if_neg (fun h => hs h.2)]
        rw [hst _ _ _ (by rw [h1.1]; exact h1.2.2)]
        exact h1
      | ok l1 =>
        rw [h2] at h1
        have h1 : altsD (toD l) v (l.alts.getD v []) = toD l1 := h1
        rw [h1]
        obtain ⟨q1, q2, _⟩ := altsP_ok hok h2
        exact go_eq f (v + 1) l1 q1 (altsP_wf2 hwf hks h2) (by omega) (by omega)
    · rw [if_neg h, if_neg (show ¬ (v < (toD l).names.length ∧ (toD l).E = 0) from fun hh => by have : v < l.vars.length := hh.1; omega)]
      rfl
/-! are all names defined -/
theorem want_stop (k : Nat) : ∀ (s : DSt), s.E ≠ 0 → (∀ bs, defA k s bs = s) := by
  induction k with
  | zero => intro s _ bs; rfl
  | succ k ih =>
    intro s h bs
    have hi : ∀ is, defI (defA k) s is = s := by
      intro is
      induction is with
      | nil => rfl
      | cons i is ih2 =>
        unfold defI
        rw [bad_keep h]
        simp only [ite_self]
        rw [ih s h, ih2]
    show defB (defA k) s bs = s
    induction bs with
    | nil => rfl
    | cons a zs ih3 => unfold defB; rw [hi, ih3]
def EqW (s : DSt) (x : Option (Nat × Nat)) (t : DSt) : Prop := match x with
  | none => t = s
  | some e => t = badD s e.1 e.2 ∧ e.1 ≠ 0
theorem want_eq (k : Nat) : ∀ (s : DSt), s.E = 0 → ∀ bs, EqW s (wnA s.names k bs) (defA k s bs) := by
  induction k with
  | zero => intro s _ bs; rfl
  | succ k ih =>
    intro s h bs
    have hne : ∀ e a, e ≠ 0 → (badD s e a).E ≠ 0 := fun e a he => by unfold badD; rw [if_pos h]; exact he
    have hstopI : ∀ (t : DSt), t.E ≠ 0 → ∀ is, defI (defA k) t is = t := by
      intro t ht is
      induction is with
      | nil => rfl
      | cons i is ih2 =>
        unfold defI
        rw [bad_keep ht]
        simp only [ite_self]
        rw [want_stop k t ht, ih2]
    have hstopB : ∀ (t : DSt), t.E ≠ 0 → ∀ bs, defB (defA k) t bs = t := by
      intro t ht bs
      induction bs with
      | nil => rfl
      | cons a zs ih3 => unfold defB; rw [hstopI t ht, ih3]
    have hi : ∀ is, EqW s (wnI s.names (wnA s.names k) is) (defI (defA k) s is) := by
      intro is
      induction is with
      | nil => rfl
      | cons i is ih2 =>
        unfold wnI defI
        by_cases hc : i.kind = 0 ∧ i.text ∉ s.names
        · rw [if_pos hc, if_pos hc, want_stop k _ (hne 9 _ (by decide)), hstopI _ (hne 9 _ (by decide))]
          exact ⟨rfl, show (9 : Nat) ≠ 0 by decide⟩
        · rw [if_neg hc, if_neg hc]
          have h1 := ih s h i.alts
          cases h2 : wnA s.names k i.alts with
          | some e =>
            rw [h2] at h1
            have h1 : defA k s i.alts = badD s e.1 e.2 ∧ e.1 ≠ 0 := h1
            rw [h1.1, hstopI _ (hne _ _ h1.2)]
            exact ⟨rfl, h1.2⟩
          | none =>
            rw [h2] at h1
            have h1 : defA k s i.alts = s := h1
            rw [h1]
            exact ih2
    show EqW s (wnB s.names (wnA s.names k) bs) (defB (defA k) s bs)
    induction bs with
    | nil => rfl
    | cons a zs ih3 =>
      unfold wnB defB
      have h1 := hi a.2.2
      cases h2 : wnI s.names (wnA s.names k) a.2.2 with
      | some e =>
        rw [h2] at h1
        have h1 : defI (defA k) s a.2.2 = badD s e.1 e.2 ∧ e.1 ≠ 0 := h1
        rw [h1.1, hstopB _ (hne _ _ h1.2)]
        exact ⟨rfl, h1.2⟩
      | none =>
        rw [h2] at h1
        have h1 : defI (defA k) s a.2.2 = s := h1
        rw [h1]
        exact ih3
theorem wants_stop (k : Nat) (s : DSt) (h : s.E ≠ 0) : ∀ ds, wantD k s ds = s
  | [] => rfl
  | d :: ds => by unfold wantD; rw [want_stop k s h]; exact wants_stop k s h ds
theorem wants_eq (s : DSt) (h : s.E = 0) : ∀ ds, EqW s (wnD s.names ds) (wantD 17 s ds)
  | [] => rfl
  | d :: ds => by
    unfold wnD wantD
    have h1 := want_eq 17 s h d.2.2
    cases h2 : wnA s.names 17 d.2.2 with
    | some e =>
      rw [h2] at h1
      have h1 : defA 17 s d.2.2 = badD s e.1 e.2 ∧ e.1 ≠ 0 := h1
      rw [h1.1, wants_stop 17 _ (by unfold badD; rw [if_pos h]; exact h1.2)]
      exact ⟨rfl, h1.2⟩
    | none =>
      rw [h2] at h1
      have h1 : defA 17 s d.2.2 = s := h1
      rw [h1]
      exact wants_eq s h ds
theorem defs_stop {s : DSt} (h : s.E ≠ 0) : ∀ ds, defsD s ds = s
  | [] => rfl
  | d :: ds => by unfold defsD; rw [if_pos h]
theorem defs_eq : ∀ (ds : List Dfn) (l : Ld), Eq2 (ldDefs l ds) (defsD (toD l) ds)
  | [], l => rfl
  | d :: ds, l => by
    unfold ldDefs defsD
    rw [if_neg (show ¬ (toD l).E ≠ 0 from fun h => h rfl)]
    by_cases hm : d.2.1 ∈ l.vars
    · rw [if_pos hm, if_pos (show d.2.1 ∈ (toD l).names from hm)]
      have hb : (badD (toD l) 8 d.1).E = 8 ∧ (badD (toD l) 8 d.1).A = d.1 := ⟨rfl, rfl⟩
      obtain ⟨k1, k2⟩ := add_keep (s := badD (toD l) 8 d.1) (by rw [hb.1]; decide) d.2.1 d.2.2 d.1
      rw [defs_stop (by rw [k1, hb.1]; decide)]
      exact ⟨k1.trans hb.1, k2.trans hb.2, show (8 : Nat) ≠ 0 by decide⟩
    · rw [if_neg hm, if_neg (show ¬ d.2.1 ∈ (toD l).names from hm)]
      have h1 := add_eq l d.2.1 d.2.2 d.1
      cases h2 : ldAdd l d.2.1 d.1 with
      | error e =>
        rw [h2] at h1
        have h1 : (addD (toD l) d.2.1 d.2.2 d.1).E = e.1 ∧ (addD (toD l) d.2.1 d.2.2 d.1).A = e.2 ∧ e.1 ≠ 0 := h1
        rw [defs_stop (by rw [h1.1]; exact h1.2.2)]
        exact h1
      | ok l1 =>
        rw [h2] at h1
        have h1 : addD (toD l) d.2.1 d.2.2 d.1 = toD { l1 with alts := l1.alts ++ [d.2.2] } := h1
        rw [h1]
        exact defs_eq ds _
def graD (s : DSt) : Gra := ⟨srt s.terms, s.names, s.rules.map fun r => (r.1, r.2.1.map (turnS s.terms (srt s.terms)), r.2.2)⟩
/-- the document's Load is the program's -/
theorem load_eq (ds : List Dfn) (hwf : ∀ d ∈ ds, ∃ k, wfA k d.2.2) (hok : ∀ l, ldDefs ld0 ds = .ok l → LdOk l ∧ LdWf l) : match loadD ds with
    | .ok g => (runD 17 ds).E = 0 ∧ graD (runD 17 ds) = g
    | .error e => (runD 17 ds).E = e.1 ∧ (runD 17 ds).A = e.2 ∧ e.1 ≠ 0 := by
  unfold loadD runD
  have hst : ∀ f u (s : DSt), s.E ≠ 0 → goD f u s = s := by
    intro f u s hs
    cases f with
    | zero => rfl
    | succ f => unfold goD; rw [if_neg (fun h => hs h.2)]
  have h1 := defs_eq ds ld0
  have e0 : toD ld0 = ds0 := rfl
  rw [e0] at h1
  cases h2 : ldDefs ld0 ds with
  | error e =>
    rw [h2] at h1
    have h1 : (defsD ds0 ds).E = e.1 ∧ (defsD ds0 ds).A = e.2 ∧ e.1 ≠ 0 := h1
    have hne : (defsD ds0 ds).E ≠ 0 := by rw [h1.1]; exact h1.2.2
    rw [wants_stop 17 _ hne, hst _ _ _ hne]
    exact h1
  | ok l =>
    rw [h2] at h1
    have h1 : defsD ds0 ds = toD l := h1
    rw [h1]
    have h3 := wants_eq (toD l) rfl ds
    have e1 : (toD l).names = l.vars := rfl
    rw [e1] at h3
    simp only
    cases h4 : wnD l.vars ds with
    | some e =>
      rw [h4] at h3
      have h3 : wantD 17 (toD l) ds = badD (toD l) e.1 e.2 ∧ e.1 ≠ 0 := h3
      rw [h3.1, hst _ _ _ (show (badD (toD l) e.1 e.2).E ≠ 0 from h3.2)]
      exact ⟨rfl, rfl, h3.2⟩
    | none =>
      rw [h4] at h3
      have h3 : wantD 17 (toD l) ds = toD l := h3
      rw [h3]
      obtain ⟨o1, o2⟩ := hok l h2
      have h5 := go_eq 65 0 l o1 o2 (by decide) (Nat.zero_le _)
      simp only
      cases h6 : goP 65 0 l with
      | error e => rw [h6] at h5; exact h5
      | ok l2 =>
        rw [h6] at h5
        have h5 : goD 65 0 (toD l) = toD l2 := h5
        rw [h5]
        exact ⟨rfl, rfl⟩
end Go.Proofs.YtldamieigigncaaGreatDoor.lx

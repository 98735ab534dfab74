import Derived.Test.YtldamieigigncaaGreatDoorVcar
namespace Go.Proofs.YtldamieigigncaaGreatDoor.lx
open Go.ChangeShapes Go.WideShapes Go.ChangeAt Go.RowKit
set_option linter.unusedVariables false
attribute [local go_sem] run_store_float
theorem ldAdd_ok {l l' : Ld} {x : List UInt8} {p : Nat} (h : ldAdd l x p = .ok l') : l.vars.length ≠ 64 ∧ l' = { l with vars := l.vars ++ [x] } := by
  unfold ldAdd at h
  split at h
  · cases h
  · rename_i hne
    cases h
    exact ⟨hne, rfl⟩
theorem add_ok {l : Ld} {x : List UInt8} {bs : List Altn} (h : LdOk l) (hn : l.vars.length ≠ 64) : LdOk { l with vars := l.vars ++ [x], alts := l.alts ++ [bs] } := by
  refine ⟨?_, ?_, h.terms, h.rules, fun m hm => List.mem_append_left _ (h.last m hm)⟩
  · show (l.vars ++ [x]).length ≤ 64
    have := h.vars
    simp
    omega
  · show (l.alts ++ [bs]).length = (l.vars ++ [x]).length
    have := h.alts
    simp
    omega
theorem add_wf {l : Ld} {x : List UInt8} {bs : List Altn} (h : LdWf l) (hb : ∃ k, wfA k bs) : LdWf { l with vars := l.vars ++ [x], alts := l.alts ++ [bs] } := by
  intro cs hc
  have hc : cs ∈ l.alts ++ [bs] := hc
  rcases List.mem_append.1 hc with hc | hc
  · exact h cs hc
  · rw [List.mem_singleton.1 hc]
    exact hb
theorem ldDefs_twice {l : Ld} {d : Dfn} {ds : List Dfn} (h : d.2.1 ∈ l.vars) : ldDefs l (d :: ds) = .error (8, d.1) := by
  show (if d.2.1 ∈ l.vars then _ else _) = _
  rw [if_pos h]
theorem ldDefs_full {l : Ld} {d : Dfn} {ds : List Dfn} {q : Nat × Nat} (h : d.2.1 ∉ l.vars) (ha : ldAdd l d.2.1 d.1 = .error q) : ldDefs l (d :: ds) = .error q := by
  show (if d.2.1 ∈ l.vars then _ else match ldAdd l d.2.1 d.1 with
    | .error e => (.error e : LR Ld)
    | .ok l => ldDefs { l with alts := l.alts ++ [d.2.2] } ds) = _
  rw [if_neg h, ha]
theorem ldDefs_step {l l' : Ld} {d : Dfn} {ds : List Dfn} (h : d.2.1 ∉ l.vars) (ha : ldAdd l d.2.1 d.1 = .ok l') : ldDefs l (d :: ds) = ldDefs { l' with alts := l'.alts ++ [d.2.2] } ds := by
  show (if d.2.1 ∈ l.vars then _ else match ldAdd l d.2.1 d.1 with
    | .error e => (.error e : LR Ld)
    | .ok l => ldDefs { l with alts := l.alts ++ [d.2.2] } ds) = _
  rw [if_neg h, ha]
theorem ldDefs_ok : ∀ {ds : List Dfn} {l l' : Ld}, LdOk l → LdWf l → (∀ d ∈ ds, ∃ k, wfA k d.2.2) → ldDefs l ds = .ok l' → LdOk l' ∧ LdWf l'
  | [], l, l', h1, h2, _, h => by cases h; exact ⟨h1, h2⟩
  | d :: ds, l, l', h1, h2, h3, h => by
    by_cases hm : d.2.1 ∈ l.vars
    · rw [ldDefs_twice hm] at h; cases h
    · cases ha : ldAdd l d.2.1 d.1 with
      | error q => rw [ldDefs_full hm ha] at h; cases h
      | ok l2 =>
        rw [ldDefs_step hm ha] at h
        obtain ⟨hn, rfl⟩ := ldAdd_ok ha
        exact ldDefs_ok (add_ok h1 hn) (add_wf h2 (h3 d (List.mem_cons_self ..))) (fun x hx => h3 x (List.mem_cons_of_mem _ hx)) h
set_option maxRecDepth 100000 in
set_option maxHeartbeats 8000000 in
theorem define_any {XA : Nat → Prop} {gl B N : Nat} {tv vv rv av : Value} {l : Ld} {w : World} (h : LdW XA gl B N tv vv rv av l w) (hok : LdOk l) (ds : List Dfn) (dof : Option Addr) (dc : Nat) (hv : ListOf 3 EDef w (FrX XA gl tv vv rv av) (.slice dof ds.length dc) ds) : Calls Tryz.prog 23 #[.pointer (some ⟨gl, 0, none⟩), .slice dof ds.length dc] w fun e w' => LdV XA gl B N tv vv rv av w (ldDefs l ds) e w' := by
  have H := Lib.hid h
  have HOK := Lib.hid hok
  have HV := Lib.hid hv
  have hm31 := hv.1
  unfold maxLen at hm31
  generalize hX : ldDefs l ds = X at *
  have HX := Lib.hid hX
  generalize hn : ds.length = n at *
  have HN := Lib.hid hn
  clear h hok hX hv hn
  go_enter Tryz.func23, Tryz.ntmps23
  go_wp2_with fail
  go_loopw [8] (fun i wr => ∃ (q : Nat) (l' : Ld) (tv' vv' rv' av' : Value), i = .int .i64 q ∧ q ≤ n ∧ LdW XA gl B N tv' vv' rv' av' l' wr ∧ LdK gl tv vv rv av tv' vv' rv' av' w wr ∧ LdOk l' ∧ ListOf 3 EDef wr (FrX XA gl tv' vv' rv' av') (.slice dof n dc) ds ∧ ldDefs l' (ds.drop q) = X) (fun i _ => n - (intOf i).toNat)
  case atStart => exact ⟨0, l, tv, vv, rv, av, rfl, Nat.zero_le _, H.out, LdK.refl _ _ _ _ _ _, HOK.out, HV.out, HX.out⟩
  case round =>
    obtain ⟨q, l1, tv1, vv1, rv1, av1, rfl, hq, hw, hkk, hokl, hlist, hld⟩ := hrel
    have HW := Lib.hid hw
    have HKK := Lib.hid hkk
    have HOKL := Lib.hid hokl
    have HLI := Lib.hid hlist
    have HLD := Lib.hid hld
    by_cases hlt : q < n
    · obtain ⟨d, hd⟩ : ∃ d, ds[q]? = some d := ⟨_, List.getElem?_eq_getElem (by rw [HN.out]; exact hlt)⟩
      obtain ⟨g3, rfl, hg3, cs3, _, hcs3, iv3, rfl, hit⟩ := ListOf.at2g (by rw [HN.out]; exact hlist) hd
      obtain ⟨bo, bc, rfl⟩ := hit.form
      have hdr : ds.drop q = d :: ds.drop (q + 1) := by
        rw [List.drop_eq_getElem_cons (by rw [HN.out]; exact hlt), (List.getElem?_eq_some_iff.1 hd).2]
      rw [hdr] at hld
      obtain ⟨p, T, L⟩ := d
      simp only at hit
      have e0 : wr.cell? ⟨g3, q * 3, none⟩ = some (.int .i64 p) := hcs3 0 _ rfl
      have e1 : wr.cell? ⟨g3, q * 3 + 1, none⟩ = some (.string (S T)) := hcs3 1 _ rfl
      have e2 : wr.cell? ⟨g3, q * 3 + 2, none⟩ = some (.slice bo L.length bc) := hcs3 2 _ rfl
      have HIT := Lib.hid hit
      replace HLD := Lib.hid hld
      have hL31 : L.length ≤ 2 ^ 63 - 1 := by
        obtain ⟨k1, h1⟩ := hit.up
        have := h1.1
        unfold maxLen at this
        exact this
      generalize hL : L.length = m at *
      have HL := Lib.hid hL
      have hvl := hokl.vars
      clear hw hkk hokl hlist hdr hit hcs3 hd hld hL
      go_upto_region 3 with fail
      have b8 := Blk.new wr 66 #[.int .i64 p, .string (S T), .slice bo m bc]
      have hb8 : Below wr.heap.size wr (wr.alloc (.cells #[.int .i64 p, .string (S T), .slice bo m bc] 66)) := (Below.refl _ _).alloc (Nat.le_refl _) _
      have HF8 := Lib.hid (HW.out.free_new (Nat.le_refl wr.heap.size))
      clear e0 e1 e2
      generalize wr.alloc (.cells #[.int .i64 p, .string (S T), .slice bo m bc] 66) = w9 at *
      have hw9 := HW.out.below hb8
      have HK9 := Lib.hid (HKK.out.trans (LdK.of_below hb8))
      have HL9 := Lib.hid (HLI.out.keep keepsDef (w' := w9) (A' := FrX XA gl tv1 vv1 rv1 av1) (fun g hg hA => ⟨hA, hb8.block g hg⟩) hb8.size)
      have HT9 := Lib.hid (keepsAlts 17 _ w9 _ (FrX XA gl tv1 vv1 rv1 av1) _ _ HIT.out (fun g hg hA => ⟨hA, hb8.block g hg⟩) hb8.size)
      obtain ⟨vo, vc, rfl⟩ := own_form hw9.vs
      have HCN := Lib.hid (fun wx (hx : Below w9.heap.size w9 wx) => contains_any wx _ (.slice vo l1.vars.length vc) l1.vars T (strs_of (hw9.below hx).vs))
      have c1 : w9.cell? ⟨gl, 1, none⟩ = some (.slice vo l1.vars.length vc) := hw9.box.cell 1
      have t1 : w9.cell? ⟨wr.heap.size, 1, none⟩ = some (.string (S T)) := b8.cell 1
      have lg := hw9.box.lt
      have lb := b8.lt
      have HW9 := Lib.hid hw9
      have HB9 := Lib.hid b8
      generalize hvn : l1.vars.length = vn at *
      have HVN := Lib.hid hvn
      clear hw9 b8 hb8 HW HKK HLI HIT hvn
      refine wp_region_E (fun W => Below w9.heap.size w9 W) [] (by kernel_rfl) ?_
      change anyE _ _ _ _ _ _ _ _ _ (World.drew _)
      have HS : Below w9.heap.size w9 (World.drew w9) := (Below.refl _ _).drew
      refine anyE_take (i := 0) (v := ?_) rfl (by kernel_rfl) (by kernel_rfl) (by kernel_rfl) (by kernel_rfl) (by kernel_rfl) (fun _ _ _ h => h) (Or.inl ⟨by kernel_rfl, ?_⟩) HS ?_
      rotate_left
      · intro wq _; go_simp; first | with_reducible rfl | (rw [if_neg (by omega)])
      refine anyE_take (i := 1) (v := ?_) rfl (by kernel_rfl) (by kernel_rfl) (by kernel_rfl) (by kernel_rfl) (by kernel_rfl) (fun _ _ _ h => h) (Or.inl ⟨by kernel_rfl, ?_⟩) HS ?_
      rotate_left
      · intro wq _; go_simp; first | with_reducible rfl | (rw [if_neg (by omega)])
      refine anyE_take (i := 2) (v := ?_) rfl (by kernel_rfl) (by kernel_rfl) (by kernel_rfl) (by kernel_rfl) (by kernel_rfl) (fun _ _ _ h => h) (Or.inl ⟨by kernel_rfl, ?_⟩) HS ?_
      rotate_left
      · intro wq _; go_simp; first | with_reducible rfl | (rw [if_neg (by omega)])
      refine anyE_take (i := 3) (v := ?_) rfl (by kernel_rfl) (by kernel_rfl) (by kernel_rfl) (by kernel_rfl) (by kernel_rfl) (fun _ _ _ h => h) (Or.inl ⟨by kernel_rfl, ?_⟩) HS ?_
      rotate_left
      · intro wq _; go_simp; first | with_reducible rfl | (rw [if_neg (by omega)])
      refine anyE_take (i := 4) (v := ?_) rfl (by kernel_rfl) (by kernel_rfl) (by kernel_rfl) (by kernel_rfl) (by kernel_rfl) (fun _ _ _ h => h) (Or.inl ⟨by kernel_rfl, ?_⟩) HS ?_
      rotate_left
      · intro wq hw; have hw := (hw.cell (p := ⟨gl, 1, none⟩) lg).trans c1; go_simp; with_reducible rfl
      refine anyE_take (i := 5) (v := ?_) rfl (by kernel_rfl) (by kernel_rfl) (by kernel_rfl) (by kernel_rfl) (by kernel_rfl) (fun _ _ _ h => h) (Or.inl ⟨by kernel_rfl, ?_⟩) HS ?_
      rotate_left
      · intro wq _; go_simp; first | with_reducible rfl | (rw [if_neg (by omega)])
      refine anyE_take (i := 6) (v := ?_) rfl (by kernel_rfl) (by kernel_rfl) (by kernel_rfl) (by kernel_rfl) (by kernel_rfl) (fun _ _ _ h => h) (Or.inl ⟨by kernel_rfl, ?_⟩) HS ?_
      rotate_left
      · intro wq hw; have hw := (hw.cell (p := ⟨wr.heap.size, 1, none⟩) lb).trans t1; go_simp; with_reducible rfl
      refine anyE_ready (rs := [7]) (by kernel_rfl) (by simp) ?_
      refine ReadyE.cons rfl (by kernel_rfl) (fun K hK => ?_) ReadyE.nil
      go_simp
      go_at_call 61
      refine (HCN.out _ HS).mono ?_
      rintro e w2 ⟨rfl, rfl⟩
      refine hK.out _ _ (fun _ => HS) ?_
      clear hK K
      refine anyE_done (by kernel_rfl) ?_ _
      have hw2 := HW9.out.below HS
      have hb2 := HB9.out.below HS HB9.out.lt
      have HK2 := Lib.hid (HK9.out.trans (LdK.of_below HS))
      have HL2 := Lib.hid (HL9.out.keep keepsDef (w' := World.drew w9) (A' := FrX XA gl tv1 (.slice vo vn vc) rv1 av1) (fun g hg hA => ⟨hA, HS.block g hg⟩) HS.size)
      have HT2 := Lib.hid (keepsAlts 17 _ (World.drew w9) _ (FrX XA gl tv1 (.slice vo vn vc) rv1 av1) _ _ HT9.out (fun g hg hA => ⟨hA, HS.block g hg⟩) HS.size)
      generalize World.drew w9 = w2 at *
      have t0 : w2.cell? ⟨wr.heap.size, 0, none⟩ = some (.int .i64 p) := hb2.cell 0
      clear c1 t1 lg lb HW9 HB9 HK9 HL9 HT9 HS HCN
      have lb := hb2.lt
      have t1 : w2.cell? ⟨wr.heap.size, 1, none⟩ = some (.string (S T)) := hb2.cell 1
      have HW2 := Lib.hid hw2
      have HB2 := Lib.hid hb2
      by_cases hmem : T ∈ l1.vars
      · have hX := HLD.out
        rw [ldDefs_twice hmem] at hX
        have HX2 := Lib.hid hX.symm
        rw [decide_eq_true hmem]
        have HF := Lib.hid (gfail_any w2 8 p)
        clear hw2 hb2 hX
        go_wp2_with fail
        refine HF.out.mono ?_
        rintro e w' ⟨rfl, rfl⟩
        exact ⟨rfl, by rw [HX2.out]; exact ⟨rfl, HK2.out.belowB H.out⟩⟩
      · rw [decide_eq_false hmem]
        have hadd := add_any hw2 (by rw [HVN.out]; exact hvl) T p
        cases hA : ldAdd l1 T p with
        | error z =>
          have hX := HLD.out
          rw [ldDefs_full hmem hA] at hX
          have HX2 := Lib.hid hX.symm
          rw [hA] at hadd
          have HADD := Lib.hid hadd
          clear hw2 hb2 hX hadd hA
          go_wp2_with (go_at_call 63; refine HADD.out.mono ?_; rintro e w3 ⟨rfl, hb3⟩)
          exact ⟨rfl, by rw [HX2.out]; exact ⟨rfl, (HK2.out.belowB H.out).trans hb3⟩⟩
        | ok l2 =>
          have hX := HLD.out
          rw [ldDefs_step hmem hA] at hX
          have HX2 := Lib.hid hX
          have hl2 := ldAdd_ok hA
          have HL2O := Lib.hid hl2
          rw [hA] at hadd
          have HADD := Lib.hid hadd
          clear hw2 hb2 hX hadd hA hl2
          go_upto_region 6 with (go_at_call 63; refine HADD.out.mono ?_; rintro e w3 ⟨rfl, tv3, vv3, rv3, av3, hw3, hk3⟩)
          have HK3 := Lib.hid (HK2.out.trans hk3)
          have hf2 := HF8.out
          have hf3 : Fr gl tv3 vv3 rv3 av3 wr.heap.size := hk3.free HB2.out.lt hf2
          have hb3 := hk3.blk HB2.out hf2
          have HL3 := Lib.hid (HL2.out.keep keepsDef (w' := w3) (A' := FrX XA gl tv3 vv3 rv3 av3) (fun g hg hA => ⟨⟨hk3.free hg hA.1, hA.2⟩, hk3.kp.block g hg (fun hf => hf hA.1)⟩) hk3.kp.size)
          have HT3 := Lib.hid (keepsAlts 17 _ w3 _ (FrX XA gl tv3 vv3 rv3 av3) _ _ HT2.out (fun g hg hA => ⟨⟨hk3.free hg hA.1, hA.2⟩, hk3.kp.block g hg (fun hf => hf hA.1)⟩) hk3.kp.size)
          obtain ⟨us, hus, hoa, hua⟩ := hw3.al
          obtain ⟨ao5, c5, rfl⟩ := own_form hoa
          have hna64 : l2.alts.length ≤ 64 := by
            rw [HL2O.out.2]
            show l1.alts.length ≤ 64
            rw [HOKL.out.alts]
            exact HOKL.out.vars
          generalize hna : l2.alts.length = na at *
          have HNA := Lib.hid hna
          have c3 : w3.cell? ⟨gl, 3, none⟩ = some (.slice ao5 na c5) := hw3.box.cell 3
          have t2 : w3.cell? ⟨wr.heap.size, 2, none⟩ = some (.slice bo m bc) := hb3.cell 2
          have lg := hw3.box.lt
          clear lb t0 t1
          have lb := hb3.lt
          have HW3 := Lib.hid hw3
          clear hw3 hk3 hb3 hus hoa hua hf2 hf3 HADD HW2 HB2 HL2 HT2 HK2 hna
          refine wp_region_any (by kernel_rfl) ?_
          change wpAny _ _ _ _ _ _ _ (World.drew _)
          refine wpAny_take (i := 0) (v := ?_) rfl (by kernel_rfl) (by kernel_rfl) (by kernel_rfl) (fun _ _ _ h => h) (Or.inl ⟨by kernel_rfl, ?_⟩) ?_
          rotate_left
          · intro wq; go_simp; with_reducible rfl
          refine any_of_anyE (S := fun W => Below w3.heap.size w3 W) (E := [8, 9, 10, 11]) _ _ _ _ ?_
          have HS : Below w3.heap.size w3 (World.drew w3) := (Below.refl _ _).drew
          refine anyE_take (i := 1) (v := ?_) rfl (by kernel_rfl) (by kernel_rfl) (by kernel_rfl) (by kernel_rfl) (by kernel_rfl) (fun _ _ _ h => h) (Or.inl ⟨by kernel_rfl, ?_⟩) HS ?_
          rotate_left
          · intro wq _; go_simp; first | with_reducible rfl | (rw [if_neg (by omega)])
          refine anyE_take (i := 2) (v := ?_) rfl (by kernel_rfl) (by kernel_rfl) (by kernel_rfl) (by kernel_rfl) (by kernel_rfl) (fun _ _ _ h => h) (Or.inl ⟨by kernel_rfl, ?_⟩) HS ?_
          rotate_left
          · intro wq _; go_simp; first | with_reducible rfl | (rw [if_neg (by omega)])
          refine anyE_take (i := 3) (v := ?_) rfl (by kernel_rfl) (by kernel_rfl) (by kernel_rfl) (by kernel_rfl) (by kernel_rfl) (fun _ _ _ h => h) (Or.inl ⟨by kernel_rfl, ?_⟩) HS ?_
          rotate_left
          · intro wq _; go_simp; first | with_reducible rfl | (rw [if_neg (by omega)])
          refine anyE_take (i := 4) (v := ?_) rfl (by kernel_rfl) (by kernel_rfl) (by kernel_rfl) (by kernel_rfl) (by kernel_rfl) (fun _ _ _ h => h) (Or.inl ⟨by kernel_rfl, ?_⟩) HS ?_
          rotate_left
          · intro wq hw; have hw := (hw.cell (p := ⟨gl, 3, none⟩) lg).trans c3; go_simp; with_reducible rfl
          refine anyE_take (i := 5) (v := ?_) rfl (by kernel_rfl) (by kernel_rfl) (by kernel_rfl) (by kernel_rfl) (by kernel_rfl) (fun _ _ _ h => h) (Or.inl ⟨by kernel_rfl, ?_⟩) HS ?_
          rotate_left
          · intro wq _; go_simp; first | with_reducible rfl | (rw [if_neg (by omega)])
          refine anyE_take (i := 6) (v := ?_) rfl (by kernel_rfl) (by kernel_rfl) (by kernel_rfl) (by kernel_rfl) (by kernel_rfl) (fun _ _ _ h => h) (Or.inl ⟨by kernel_rfl, ?_⟩) HS ?_
          rotate_left
          · intro wq hw; have hw := (hw.cell (p := ⟨wr.heap.size, 2, none⟩) lb).trans t2; go_simp; with_reducible rfl
          refine anyE_ready (rs := [7]) (by kernel_rfl) (by simp) ?_
          refine ReadyE.cons rfl (by kernel_rfl) (fun K hK => ?_) ReadyE.nil
          go_simp
          refine hK.out _ _ (fun _ => HS.alloc HS.size _) ?_
          clear hK K
          refine anyE_rest (by kernel_rfl) ?_
          have hw4 := HW3.out.below HS
          have HW4 := Lib.hid hw4
          have HK4 := Lib.hid (HK3.out.trans (LdK.of_below HS))
          have HL4 := Lib.hid (HL3.out.keep keepsDef (w' := World.drew w3) (A' := FrX XA gl tv3 vv3 rv3 (.slice ao5 na c5)) (fun g hg hA => ⟨hA, HS.block g hg⟩) HS.size)
          have HT4 := Lib.hid (keepsAlts 17 _ (World.drew w3) _ (FrX XA gl tv3 vv3 rv3 (.slice ao5 na c5)) _ _ HT3.out (fun g hg hA => ⟨hA, HS.block g hg⟩) HS.size)
          obtain ⟨us, hus, hoa, hua⟩ := hw4.al
          rw [HNA.out] at hoa
          have HOA := Lib.hid hoa
          have HUS := Lib.hid hus
          have HUA := Lib.hid hua
          have hz4 := hw4.size
          obtain ⟨i1, ki, kz0, kz1, kz2⟩ := info_parts info_alts
          clear hw4 hus hoa hua c3 t2 lg lb HS HW3 HK3 HL3 HT3
          change wpAny _ _ _ _ _ _ _ ((World.drew w3).alloc (.cells #[.slice bo m bc] 64))
          refine wpAny_ready (rs := [8]) (by kernel_rfl) (by simp) ?_
          refine AllReady.cons rfl (fun K hK => ?_) AllReady.nil
          refine step_append_lies _ (by rfl) (.tmp 33) (.tmp 36) 60 (by rfl) B 64 i1 (.slice none 0 0) 1 24 Tryz.underlying60 ki kz0 kz1 kz2 (by rfl) (by decide) (.slice ao5 na c5) na us (by rfl) (HOA.out.alloc _) ⟨(World.drew w3).heap.size, 0, none⟩ 1 1 [.slice bo m bc] (by rfl) (by rfl) (new_one _ _ _) (one_sl _ _ _) (by decide) (by unfold maxLen; omega) (by omega) (by rw [World.size_alloc]; omega) ((World.drew w3).heap.size + 1) (World.size_alloc _ _) ?_
          intro g5 cap5 w5 hown5 hgrow5 hat5 hlt5
          have hb5 := Blk.grown (HW4.out.box.alloc (.cells #[.slice bo m bc] 64)) hgrow5 (fun e => HW4.out.apart_box.2.2.2 e.symm)
          have hc5 := hb5.cell 3
          have hf5 := hb5.frozen 3
          have hl5 := hb5.lt
          refine hK _ _ ?_
          clear hK K
          refine wpAny_ready (rs := [9]) (by kernel_rfl) (by simp) ?_
          refine AllReady.cons rfl (fun K hK => ?_) AllReady.nil
          go_simp
          refine hK _ _ ?_
          clear hK K
          refine wpAny_ready (rs := [10]) (by kernel_rfl) (by simp) ?_
          refine AllReady.cons rfl (fun K hK => ?_) AllReady.nil
          go_simp
          refine hK _ _ ?_
          clear hK K
          refine wpAny_ready (rs := [11]) (by kernel_rfl) (by simp) ?_
          refine AllReady.cons rfl (fun K hK => ?_) AllReady.nil
          go_simp
          refine hK _ _ ?_
          clear hK K
          refine wpAny_done (by kernel_rfl) ?_ _
          have hat5' : (Value.slice (some ⟨g5, 0, none⟩) (na + 1) cap5).ownBlock = (Value.slice ao5 na c5).ownBlock ∨ (Value.slice (some ⟨g5, 0, none⟩) (na + 1) cap5).ownBlock = some ((World.drew w3).alloc (.cells #[.slice bo m bc] 64)).heap.size := by
            rcases hat5 with h | h
            · exact .inl h.symm
            · right; rw [World.size_alloc, ← h]; rfl
          have hst := HW4.out.alts_more (v1 := .slice (some ⟨g5, 0, none⟩) (na + 1) cap5) (bs := L) (u := .slice bo m bc) (k := 17) HUS.out (by rw [HNA.out]; exact HOA.out) HUA.out HT4.out (by rw [HNA.out]; exact hown5) hgrow5 hat5'
          have hk5 := hst.2
          have HL5 := Lib.hid (HL4.out.keep keepsDef (w' := w5.setCell ⟨gl, 3, none⟩ (.slice (some ⟨g5, 0, none⟩) (na + 1) cap5)) (A' := FrX XA gl tv3 vv3 rv3 (.slice (some ⟨g5, 0, none⟩) (na + 1) cap5)) (fun g hg hA => ⟨⟨hk5.free hg hA.1, hA.2⟩, hk5.kp.block g hg (fun hf => hf hA.1)⟩) hk5.kp.size)
          have HST1 := Lib.hid hst.1
          have HST2 := Lib.hid hst.2
          clear hc5 hf5 hl5 hb5 hown5 hgrow5 hat5 hat5' hst hk5
          generalize w5.setCell ⟨gl, 3, none⟩ (.slice (some ⟨g5, 0, none⟩) (na + 1) cap5) = w6 at *
          have hok6 : LdOk { l2 with alts := l2.alts ++ [L] } := by
            rw [HL2O.out.2]
            exact add_ok HOKL.out HL2O.out.1
          go_wp2_with fail
          exact ⟨⟨q + 1, _, _, _, _, _, congrArg (Value.int .i64) (by omega), hlt, HST1.out, HK4.out.trans HST2.out, hok6, HL5.out, HX2.out⟩, by simp only [intOf]; omega⟩
    · have hqn : q = n := by omega
      rw [hqn, ← HN.out, List.drop_length] at hld
      replace hld : Except.ok l1 = X := hld
      have HX2 := Lib.hid hld
      subst hqn
      clear hw hkk hokl hlist hld
      go_wp2_with fail
      go_end0
      rw [← HX2.out]
      exact ⟨rfl, _, _, _, _, HW.out, HKK.out⟩
end Go.Proofs.YtldamieigigncaaGreatDoor.lx

namespace Go.Proofs.YtldamieigigncaaGreatDoor.lx
open Go.ChangeShapes Go.WideShapes Go.ChangeAt Go.RowKit
set_option linter.unusedVariables false
structure DSt where
  names : List (List UInt8)
  alts : List (List Altn)
  terms : List (List UInt8)
  fresh : Nat
  rules : List (Nat × List Int × Nat)
  E : Nat
  A : Nat
def ds0 : DSt := ⟨[], [], [], 0, [], 0, 0⟩
end Go.Proofs.YtldamieigigncaaGreatDoor.lx

namespace Go.Proofs.YtldamieigigncaaGreatDoor.lx
open Go.ChangeShapes Go.WideShapes Go.ChangeAt Go.RowKit
set_option linter.unusedVariables false
def NmOk (tn : Nat) (x : Int) : Prop := x < 0 → ∃ n : Nat, x = -(n : Int) - 1 ∧ n < tn
theorem NmOk.up {a b : Nat} {x : Int} (h : NmOk a x) (hab : a ≤ b) : NmOk b x := fun hx => by
  obtain ⟨n, e, hn⟩ := h hx
  exact ⟨n, e, by omega⟩
def RlOk (l : Ld) : Prop := ∀ r ∈ l.rules, r.2.1.length ≤ 24 ∧ ∀ x ∈ r.2.1, NmOk l.terms.length x
def nmI (vars : List (List UInt8)) (sub : List Altn → Prop) (i : Itm) : Prop := (i.kind = 1 ∨ i.kind = 2 ∨ i.text ∈ vars) ∧ sub i.alts
def nmA (vars : List (List UInt8)) : Nat → List Altn → Prop
  | 0, bs => bs = []
  | k + 1, bs => ∀ a ∈ bs, ∀ i ∈ a.2.2, nmI vars (nmA vars k) i
def AllNm (l : Ld) : Prop := ∀ bs ∈ l.alts, ∃ k, nmA l.vars k bs
theorem nmA_nil (vars : List (List UInt8)) : ∀ k, nmA vars k []
  | 0 => rfl
  | _ + 1 => fun a h => by cases h
theorem nm_up {u v : List (List UInt8)} (h : ∀ x ∈ u, x ∈ v) : ∀ (k : Nat) (bs : List Altn), nmA u k bs → nmA v k bs
  | 0, bs, hb => hb
  | k + 1, bs, hb => fun a ha i hi => by
    obtain ⟨h1, h2⟩ := hb a ha i hi
    exact ⟨h1.imp id (fun h3 => h3.imp id (h _)), nm_up h k _ h2⟩
theorem wn_nm (vars : List (List UInt8)) : ∀ (k : Nat) (bs : List Altn), wfA k bs → wnA vars k bs = none → nmA vars k bs
  | 0, bs, hw, _ => hw
  | k + 1, bs, hw, h => by
    have hI : ∀ is : List Itm, (∀ i ∈ is, wfI (wfA k) i) → wnI vars (wnA vars k) is = none → ∀ i ∈ is, nmI vars (nmA vars k) i := by
      intro is
      induction is with
      | nil => intro _ _ i hi; cases hi
      | cons i is ih =>
        intro hwf hn
        unfold wnI at hn
        split at hn
        · cases hn
        · rename_i hc
          cases h2 : wnA vars k i.alts with
          | some e => rw [h2] at hn; cases hn
          | none =>
            rw [h2] at hn
            intro j hj
            rcases List.mem_cons.1 hj with rfl | hj
            · obtain ⟨hk, _, hs⟩ := hwf j List.mem_cons_self
              refine ⟨?_, wn_nm vars k _ hs h2⟩
              rcases hk with hk | hk | hk
              · refine .inr (.inr ?_)
                by_cases hm : j.text ∈ vars
                · exact hm
                · exact absurd ⟨hk, hm⟩ hc
              · exact .inl hk
              · exact .inr (.inl hk)
            · exact ih (fun j hj => hwf j (List.mem_cons_of_mem _ hj)) hn j hj
    have hB : ∀ bs : List Altn, (∀ a ∈ bs, ∀ i ∈ a.2.2, wfI (wfA k) i) → wnB vars (wnA vars k) bs = none → ∀ a ∈ bs, ∀ i ∈ a.2.2, nmI vars (nmA vars k) i := by
      intro bs
      induction bs with
      | nil => intro _ _ a ha; cases ha
      | cons a bs ih =>
        intro hwf hn
        unfold wnB at hn
        cases h2 : wnI vars (wnA vars k) a.2.2 with
        | some e => rw [h2] at hn; cases hn
        | none =>
          rw [h2] at hn
          intro b hb
          rcases List.mem_cons.1 hb with rfl | hb
          · exact hI _ (hwf b List.mem_cons_self) h2
          · exact ih (fun a ha => hwf a (List.mem_cons_of_mem _ ha)) hn b hb
    exact hB bs hw h
theorem wnD_all (vars : List (List UInt8)) : ∀ (ds : List Dfn), wnD vars ds = none → ∀ d ∈ ds, wnA vars 17 d.2.2 = none
  | [], _, d, hd => by cases hd
  | e :: ds, h, d, hd => by
    unfold wnD at h
    cases h2 : wnA vars 17 e.2.2 with
    | some q => rw [h2] at h; cases h
    | none =>
      rw [h2] at h
      rcases List.mem_cons.1 hd with rfl | hd
      · exact h2
      · exact wnD_all vars ds h d hd
theorem mean_nm {vars : List (List UInt8)} {i : Itm} {k : Nat} {x : List UInt8} (h : nmI vars (nmA vars k) i) (hx : x ∈ vars) : ∃ k', nmA vars k' (meanP i x) := by
  obtain ⟨h1, h3⟩ := h
  have ho : nmI vars (nmA vars k) (once i) := ⟨h1, h3⟩
  have hm : nmI vars (nmA vars k) (many i) := ⟨h1, h3⟩
  have hs : nmI vars (nmA vars k) (.mk i.at_ 0 x [] 0) := ⟨.inr (.inr hx), nmA_nil vars k⟩
  unfold meanP
  split
  · refine ⟨k + 1, fun a ha j hj => ?_⟩
    simp only [List.mem_cons, List.not_mem_nil, or_false] at ha
    rcases ha with rfl | rfl
    · obtain rfl : j = once i := by simpa using hj
      exact ho
    · cases hj
  · split
    · refine ⟨k + 1, fun a ha j hj => ?_⟩
      simp only [List.mem_cons, List.not_mem_nil, or_false] at ha
      rcases ha with rfl | rfl
      · simp only [List.mem_cons, List.not_mem_nil, or_false] at hj
        rcases hj with rfl | rfl
        · exact ho
        · exact hs
      · cases hj
    · split
      · refine ⟨k + 1, fun a ha j hj => ?_⟩
        simp only [List.mem_cons, List.not_mem_nil, or_false] at ha
        subst ha
        simp only [List.mem_cons, List.not_mem_nil, or_false] at hj
        rcases hj with rfl | rfl
        · exact ho
        · exact hm
      · exact ⟨k, h3⟩
theorem symP_nm {l l' : Ld} {i : Itm} {x : Int} {k : Nat} (hl : AllNm l) (hi : nmI l.vars (nmA l.vars k) i) (h : symP l i = .ok (l', x)) : AllNm l' ∧ NmOk l'.terms.length x ∧ l.terms.length ≤ l'.terms.length ∧ l'.rules = l.rules ∧ ∀ y ∈ l.vars, y ∈ l'.vars := by
  unfold symP at h
  split at h
  · unfold ldAdd at h
    split at h
    · rename_i e
      split at e
      · cases h
      · cases e
    · rename_i l1 e
      split at e
      · cases e
      · cases e
        cases h
        have hup : ∀ y ∈ l.vars, y ∈ l.vars ++ [gnm (newN l)] := fun y hy => List.mem_append_left _ hy
        refine ⟨?_, fun hx => ?_, Nat.le_refl _, rfl, hup⟩
        · intro bs hb
          rcases List.mem_append.1 hb with hb | hb
          · obtain ⟨k2, h2⟩ := hl bs hb
            exact ⟨k2, nm_up hup k2 _ h2⟩
          · rw [List.mem_singleton.1 hb]
            refine mean_nm (k := k) ⟨hi.1.imp id (fun h3 => h3.imp id (hup _)), nm_up hup k _ hi.2⟩ ?_
            show gnm (newN l) ∈ l.vars ++ [gnm (newN l)]
            simp
        · simp only [List.length_append, List.length_singleton] at hx
          omega
  · rename_i hop
    simp only [not_or, Decidable.not_not] at hop
    split at h
    · split at h
      · rename_i hm
        cases h
        exact ⟨hl, fun _ => ⟨_, rfl, List.idxOf_lt_length_of_mem hm⟩, Nat.le_refl _, rfl, fun _ h => h⟩
      · split at h
        · cases h
        · cases h
          exact ⟨hl, fun _ => ⟨l.terms.length, rfl, by simp⟩, by simp, rfl, fun _ h => h⟩
    · rename_i hk1
      cases h
      refine ⟨hl, fun hx => ?_, Nat.le_refl _, rfl, fun _ h => h⟩
      exfalso
      split at hx
      · omega
      · rename_i hm
        rcases hi.1 with h1 | h1 | h1
        · exact hk1 h1
        · exact hop.2 h1
        · exact hm h1
theorem symsP_nm : ∀ {is : List Itm} {l l' : Ld} {xs : List Int}, AllNm l → (∀ i ∈ is, ∃ k, nmI l.vars (nmA l.vars k) i) → symsP l is = .ok (l', xs) → AllNm l' ∧ (∀ x ∈ xs, NmOk l'.terms.length x) ∧ l.terms.length ≤ l'.terms.length ∧ l'.rules = l.rules ∧ (∀ y ∈ l.vars, y ∈ l'.vars) ∧ xs.length = is.length
  | [], l, l', xs, hl, _, h => by
    cases h
    exact ⟨hl, fun x hx => (by cases hx), Nat.le_refl _, rfl, fun _ h => h, rfl⟩
  | i :: is, l, l', xs, hl, hi, h => by
    unfold symsP at h
    cases h1 : symP l i with
    | error e => rw [h1] at h; cases h
    | ok y =>
      obtain ⟨l1, x⟩ := y
      rw [h1] at h
      simp only at h
      cases h2 : symsP l1 is with
      | error e => rw [h2] at h; cases h
      | ok z =>
        obtain ⟨l2, ys⟩ := z
        rw [h2] at h
        cases h
        obtain ⟨k, hk⟩ := hi i List.mem_cons_self
        obtain ⟨a1, a2, a3, a4, a5⟩ := symP_nm hl hk h1
        obtain ⟨b1, b2, b3, b4, b5, b6⟩ := symsP_nm a1 (fun j hj => by
          obtain ⟨k, hk⟩ := hi j (List.mem_cons_of_mem _ hj)
          exact ⟨k, hk.1.imp id (fun h3 => h3.imp id (a5 _)), nm_up a5 k _ hk.2⟩) h2
        refine ⟨b1, fun z hz => ?_, by omega, b4.trans a4, fun y hy => b5 y (a5 y hy), by simp [b6]⟩
        rcases List.mem_cons.1 hz with rfl | hz
        · exact a2.up b3
        · exact b2 z hz
structure LdNm (l : Ld) : Prop where
  nm : AllNm l
  rl : RlOk l
theorem ruleP_nm {l l' : Ld} {v : Nat} {a : Altn} (hl : LdNm l) (hi : ∀ i ∈ a.2.2, ∃ k, nmI l.vars (nmA l.vars k) i) (h : ruleP l v a = .ok l') : LdNm l' ∧ ∀ y ∈ l.vars, y ∈ l'.vars := by
  unfold ruleP at h
  split at h
  · cases h
  · rename_i hm
    cases h1 : symsP l a.2.2 with
    | error e => rw [h1] at h; cases h
    | ok y =>
      obtain ⟨l1, xs⟩ := y
      rw [h1] at h
      simp only at h
      obtain ⟨b1, b2, b3, b4, b5, b6⟩ := symsP_nm hl.nm hi h1
      split at h
      · cases h
      · cases h
        refine ⟨⟨b1, fun r hr => ?_⟩, b5⟩
        rcases List.mem_append.1 hr with hr | hr
        · rw [b4] at hr
          obtain ⟨c1, c2⟩ := hl.rl r hr
          exact ⟨c1, fun x hx => (c2 x hx).up b3⟩
        · rw [List.mem_singleton.1 hr]
          exact ⟨by show xs.length ≤ 24; omega, b2⟩
theorem altsP_nm : ∀ {zs : List Altn} {l l' : Ld} {v : Nat}, LdNm l → (∀ a ∈ zs, ∀ i ∈ a.2.2, ∃ k, nmI l.vars (nmA l.vars k) i) → altsP l v zs = .ok l' → LdNm l'
  | [], l, l', v, h, _, e => by cases e; exact h
  | a :: zs, l, l', v, h, hi, e => by
    unfold altsP at e
    cases h1 : ruleP l v a with
    | error q => rw [h1] at e; cases e
    | ok l1 =>
      rw [h1] at e
      obtain ⟨c1, c2⟩ := ruleP_nm h (hi a (by simp)) h1
      exact altsP_nm c1 (fun b hb i hib => by
        obtain ⟨k, hk⟩ := hi b (by simp [hb]) i hib
        exact ⟨k, hk.1.imp id (fun h3 => h3.imp id (c2 _)), nm_up c2 k _ hk.2⟩) e
theorem goP_nm : ∀ {f v : Nat} {l l' : Ld}, LdNm l → goP f v l = .ok l' → LdNm l'
  | 0, v, l, l', _, e => by cases e
  | f + 1, v, l, l', h, e => by
    unfold goP at e
    split at e
    · rename_i hv
      cases h1 : altsP l v (l.alts.getD v []) with
      | error q => rw [h1] at e; cases e
      | ok l1 =>
        rw [h1] at e
        have hm : l.alts.getD v [] ∈ l.alts := by
          rw [List.getD_eq_getElem?_getD, List.getElem?_eq_getElem hv]
          exact List.getElem_mem _
        obtain ⟨k, hk⟩ := h.nm _ hm
        refine goP_nm (altsP_nm h (fun a ha i hi => ?_) h1) e
        cases k with
        | zero => rw [show l.alts.getD v [] = [] from hk] at ha; cases ha
        | succ k => exact ⟨k, hk a ha i hi⟩
    · cases e; exact h
theorem goP_ok : ∀ {f v : Nat} {l l' : Ld}, LdOk l → goP f v l = .ok l' → LdOk l'
  | 0, v, l, l', _, e => by cases e
  | f + 1, v, l, l', h, e => by
    unfold goP at e
    split at e
    · cases h1 : altsP l v (l.alts.getD v []) with
      | error q => rw [h1] at e; cases e
      | ok l1 =>
        rw [h1] at e
        exact goP_ok (altsP_ok h h1).1 e
    · cases e; exact h
theorem defs_alts : ∀ {ds : List Dfn} {l l' : Ld}, ldDefs l ds = .ok l' → l'.rules = l.rules ∧ ∀ bs ∈ l'.alts, bs ∈ l.alts ∨ ∃ d ∈ ds, d.2.2 = bs
  | [], l, l', h => by cases h; exact ⟨rfl, fun bs hb => .inl hb⟩
  | d :: ds, l, l', h => by
    unfold ldDefs at h
    split at h
    · cases h
    · cases h2 : ldAdd l d.2.1 d.1 with
      | error e => rw [h2] at h; cases h
      | ok l1 =>
        rw [h2] at h
        have e1 : l1.rules = l.rules ∧ l1.alts = l.alts := by
          unfold ldAdd at h2
          split at h2
          · cases h2
          · cases h2; exact ⟨rfl, rfl⟩
        obtain ⟨k1, k2⟩ := defs_alts h
        refine ⟨k1.trans e1.1, fun bs hb => ?_⟩
        rcases k2 bs hb with h3 | ⟨d', hd', e⟩
        · have h3 : bs ∈ l1.alts ++ [d.2.2] := h3
          rcases List.mem_append.1 h3 with h3 | h3
          · exact .inl (e1.2 ▸ h3)
          · exact .inr ⟨d, List.mem_cons_self, (List.mem_singleton.1 h3).symm⟩
        · exact .inr ⟨d', List.mem_cons_of_mem _ hd', e⟩
theorem defs_nm {ds : List Dfn} {l : Ld} (h : ldDefs ld0 ds = .ok l) (hwf : ∀ d ∈ ds, wfA 17 d.2.2) (hw : wnD l.vars ds = none) : LdNm l := by
  obtain ⟨k1, k2⟩ := defs_alts h
  refine ⟨fun bs hb => ?_, fun r hr => ?_⟩
  · rcases k2 bs hb with h3 | ⟨d, hd, e⟩
    · cases h3
    · subst e
      exact ⟨17, wn_nm l.vars 17 _ (hwf d hd) (wnD_all l.vars ds hw d hd)⟩
  · rw [k1] at hr
    cases hr
end Go.Proofs.YtldamieigigncaaGreatDoor.lx


import Derived.Test.YtdddbkghleblhaaGreatDoorKaq
import Derived.Test.YtdddbkghleblhaaGreatDoorKae
namespace Go.Proofs.YtdddbkghleblhaaGreatDoor.lx
open Go.ChangeShapes Go.WideShapes Go.ChangeAt Go.RowKit
set_option linter.unusedVariables false
attribute [local go_sem] run_store_float
set_option maxRecDepth 100000 in
set_option maxHeartbeats 4000000 in
theorem ralt_no (k : Nat) (hI : RItemOk k) (w : World) (g cap p : Nat) (T : List Tok) (hk : k ≤ 16) (h : TAt w g cap T) (hg : Good (T.drop p)) (t : Tok) (r : List Tok) (hd : T.drop p = t :: r) (k3 : ¬ t.kind = 3) : Calls Tryz.prog 31 #[StV g T.length cap p (16 - k) 0] w (AnsR (AltV k w.heap.size) AltF g cap (16 - k) T (t :: r).length w (pAlt (pSub k) (t :: r))) := by
  obtain ⟨hlt, hgt, hdr⟩ := drop_lt hd
  obtain ⟨c0, c1, c2, c3⟩ := h.tok hd
  have hgl := h.lt
  have hlen := h.len
  have hcl := h.capl
  have hcm := h.capm
  have HT := Lib.hid h
  have HI := Lib.hid hI
  have HG := Lib.hid hg
  unfold maxLen at hcm
  have HR : Hid (pAlt (pSub k) (t :: r) = match pItems (pSub k) (t :: r).length (t :: r) with
      | .error e => .error e
      | .ok (is, r) => .ok ((t.at_, 0, is), r)) := Lib.hid (by
        unfold pAlt
        rw [show wtTl (t :: r) = t :: r from if_neg k3, show wtOf (lx.hd (t :: r)) = 0 from if_neg k3]
        rfl)
  generalize pAlt (pSub k) (t :: r) = Y at *
  have hxx : ∃ Z, Z = pItems (pSub k) (t :: r).length (t :: r) := ⟨_, rfl⟩
  obtain ⟨Z, hZ⟩ := hxx
  rw [← hZ] at HR
  rw [← hd] at hZ
  have HZ := Lib.hid hZ
  clear hZ
  generalize hn : T.length = n at *
  have HN := Lib.hid hn
  have HDR := Lib.hid hdr
  have hml : (t :: r).length ≤ 65537 := by have : (T.drop p).length = (t :: r).length := by rw [hd]
                                           rw [List.length_drop, hn] at this; omega
  have HML : Hid ((t :: r).length ≤ (t :: r).length) := Lib.hid (Nat.le_refl _)
  have HLT : Hid ((T.drop p).length = (t :: r).length) := Lib.hid (by rw [hd])
  have hk3 : ((t.kind : Int) == 3) = false := by rw [beq_eq_false_iff_ne]; omega
  generalize (t :: r).length = m at *
  obtain ⟨K, P, X', F⟩ := t
  have HD := Lib.hid hd
  clear hg hdr hd hgt h hI hn
  unfold StV
  generalize hd1 : 16 - k = d at *
  have HD1 := Lib.hid hd1
  clear hd1
  have e1 := cell3 c1 hgl
  clear c0 c1 c2 c3
  go_enter Tryz.func31, Tryz.ntmps31
  go_upto_region 2 with fail
  have he4 := entry4 w #[.slice (some ⟨g, 0, none⟩) n cap, .int .i64 p, .int .i64 d, .int .i64 0] #[.slice none 0 0, .int .i64 0, .int .i64 0, .int .i64 0] #[.int .i64 0, .float .f64 0, .slice none 0 0] #[.int .i64 P, .float .f64 0, .slice none 0 0] 59 59 67 67
  generalize ((((w.alloc (.cells #[.slice (some ⟨g, 0, none⟩) n cap, .int .i64 p, .int .i64 d, .int .i64 0] 59)).alloc (.cells #[.slice none 0 0, .int .i64 0, .int .i64 0, .int .i64 0] 59)).alloc (.cells #[.int .i64 0, .float .f64 0, .slice none 0 0] 67)).alloc (.cells #[.int .i64 P, .float .f64 0, .slice none 0 0] 67)) = w1 at *
  obtain ⟨hb1, hz1, b0, b1, b2, b3⟩ := he4
  have ht1 := HT.out.below hb1 hgl
  obtain ⟨c0, c1, c2, c3⟩ := ht1.tok HD.out
  replace c0 : w1.cell? ⟨g, p * 4, none⟩ = some (.int .i64 K) := c0
  have x0 := b0.cell 0
  have x1 := b0.cell 1
  have x2 := b0.cell 2
  have x3 := b0.cell 3
  simp only [List.getElem?_toArray, List.getElem?_cons_zero, List.getElem?_cons_succ] at x0 x1 x2 x3
  have l0 := b0.lt
  have l3 := b3.lt
  have vx1 := b0.frozen 1
  have v31 := b3.frozen 1
  have e31 : w1.cell? ⟨w.heap.size + 1 + 1 + 1, 1, none⟩ = some (.float .f64 0) := b3.cell 1
  have HB0 := Lib.hid b0
  have HB1 := Lib.hid b1
  have HB2 := Lib.hid b2
  have HB3 := Lib.hid b3
  have HBW := Lib.hid hb1
  have HZ1 := Lib.hid hz1
  clear b0 b1 b2 b3 hb1 hz1 ht1 k3
  go_wp2_with fail
  have hst : RAltR k g cap n m P 0 T Z w w1 := by
    unfold RAltR
    rw [HD1.out]
    refine ⟨HBW.out, by have := HZ1.out; omega, HB1.out, HB2.out, .inl ⟨[], p, m, .slice none 0 0, HG.out, Nat.le_of_eq HLT.out, by simp, HB0.out, HB3.out, OwnOf.nil _ _ _, ?_⟩⟩
    rw [HZ.out, ← HLT.out]
    exact pre_nil _
  have HST := Lib.hid hst
  clear hst x0 x1 x2 x3 l0 l3 vx1 v31 e31 c0 c1 c2 c3 HB0 HB1 HB2 HB3 HBW HZ1 e1 hlt hk3
  go_loopw [] (fun wr => RAltR k g cap n m P 0 T Z w wr) (fun wr => rleft n w.heap.size wr)
  case atStart => exact HST.out
  case round =>
    clear HST
    obtain ⟨hbr, hzr, b1, b2, hh⟩ := hrel
    rw [HD1.out] at hh
    have htr := HT.out.below hbr hgl
    have BX1 := Lib.hid b1
    have BX2 := Lib.hid b2
    have HBR := Lib.hid hbr
    have HTR := Lib.hid htr
    clear b1 b2 hbr
    rcases hh with ⟨done, p', f, iv, hg1, hf, hdf, b0, b3, ho, hpre⟩ | ⟨q, p', ao, m', c', hX, hq, hpl, hqa, b0, b3⟩
    · obtain ⟨t2, r2, hd2⟩ := hg1.ne
      obtain ⟨hp2, _, hdr2⟩ := drop_lt hd2
      obtain ⟨f, rfl⟩ : ∃ f', f = f' + 1 := ⟨f - 1, by have := hg1.pos; omega⟩
      obtain ⟨c0, c1, c2, c3⟩ := htr.tok hd2
      obtain ⟨ao, icap, rfl⟩ : ∃ ao cap, iv = .slice ao done.length cap := by
        obtain ⟨us, _, _, h3, _⟩ := ho
        exact own_form h3
      rw [HN.out] at hp2
      have hsg : sg (T.drop p') = sgOf t2 := by rw [hd2]; rfl
      have hat1 : atIt (lx.hd (T.drop p')) = (t2.kind == 1 || t2.kind == 2 || sgOf t2 == 40) := by rw [hd2]; rfl
      have BX0 := Lib.hid b0
      have BX3 := Lib.hid b3
      have HG1 := Lib.hid hg1
      have HO := Lib.hid ho
      have HPRE := Lib.hid hpre
      have HF := Lib.hid hf
      have hrl : rleft n w.heap.size wr = 1 + (n - p') := by rw [rleft_st b0, if_pos rfl]
      have HRL := Lib.hid hrl
      clear hrl
      have HDF := Lib.hid hdf
      have x0 : wr.cell? ⟨w.heap.size, 0, none⟩ = some (.slice (some ⟨g, 0, none⟩) n cap) := b0.cell 0
      have x1 : wr.cell? ⟨w.heap.size, 1, none⟩ = some (.int .i64 p') := b0.cell 1
      have x2 : wr.cell? ⟨w.heap.size, 2, none⟩ = some (.int .i64 d) := b0.cell 2
      have x3 : wr.cell? ⟨w.heap.size, 3, none⟩ = some (.int .i64 0) := b0.cell 3
      obtain ⟨K2, P2, X2, F2⟩ := t2
      clear b0 b3 hg1 ho hpre htr hd2 hdr2 hf hdf
      by_cases k1 : K2 = 1
      · have hat : atIt (lx.hd (T.drop p')) = true := by rw [hat1, show (({ kind := K2, at_ := P2, text := X2, wt := F2 } : Tok).kind == 1) = true from by rw [k1]; rfl]; rfl
        replace c0 : wr.cell? ⟨g, p' * 4, none⟩ = some (.int .i64 1) := by rw [c0, show ({ kind := K2, at_ := P2, text := X2, wt := F2 } : Tok).kind = 1 from k1]; rfl
        have hit := HI.out wr g cap p' T hk HTR.out HG1.out hat
        rw [HN.out, HD1.out] at hit
        unfold StV at hit
        have HAT := Lib.hid hat
        clear hat hat1 hsg k1
        go_wp2_with fail
        refine hit.mono ?_
        intro e w3 han
        obtain ⟨p2, E, a, bb, tx, ao2, m2, c2, o, rfl, hb3, hun⟩ := item_un HN.out han
        clear hit han x0 x1 x2 x3
        have HUN := Lib.hid hun
        have b0' := BX0.out.below hb3 BX0.out.lt
        have b1' := BX1.out.below hb3 BX1.out.lt
        have b2' := BX2.out.below hb3 BX2.out.lt
        have b3' := BX3.out.below hb3 BX3.out.lt
        have hz3 := hb3.size
        have l0 := b0'.lt
        have l3 := b3'.lt
        have y32 : w3.cell? ⟨w.heap.size + 1 + 1 + 1, 2, none⟩ = some (.slice ao done.length icap) := b3'.cell 2
        have v0 := b0'.frozen 0
        have v1 := b0'.frozen 1
        have v2 := b0'.frozen 2
        have v3 := b0'.frozen 3
        have v32 := b3'.frozen 2
        have C0 := Lib.hid b0'
        have C1 := Lib.hid b1'
        have C2 := Lib.hid b2'
        have C3 := Lib.hid b3'
        have HB3 := Lib.hid hb3
        clear hun b0' b1' b2' b3' hb3
        go_upto_region 7 with fail
        have he := entry2 w3 #[.slice (some ⟨g, 0, none⟩) n cap, .int .i64 p2, .int .i64 d, .int .i64 E] #[.int .i64 a, .int .i64 bb, .string tx, .slice ao2 m2 c2, .int .u8 o] 59 70
        generalize hW4 : (w3.alloc (.cells #[.slice (some ⟨g, 0, none⟩) n cap, .int .i64 p2, .int .i64 d, .int .i64 E] 59)).alloc (.cells #[.int .i64 a, .int .i64 bb, .string tx, .slice ao2 m2 c2, .int .u8 o] 70) = w4 at *
        obtain ⟨hb4, hz4, s5, s6⟩ := he
        have HB4 := Lib.hid hb4
        have HZ4 := Lib.hid hz4
        have b0 := C0.out.below hb4 C0.out.lt
        have b1 := C1.out.below hb4 C1.out.lt
        have b2 := C2.out.below hb4 C2.out.lt
        have b3 := C3.out.below hb4 C3.out.lt
        clear l0 l3 y32 v0 v1 v2 v3 v32 hb4 hz4 hW4
        have l0 := b0.lt
        have l3 := b3.lt
        have y32 : w4.cell? ⟨w.heap.size + 1 + 1 + 1, 2, none⟩ = some (.slice ao done.length icap) := b3.cell 2
        have v0 := b0.frozen 0
        have v1 := b0.frozen 1
        have v2 := b0.frozen 2
        have v3 := b0.frozen 3
        have x0 : w4.cell? ⟨w.heap.size, 0, none⟩ = some (.slice (some ⟨g, 0, none⟩) n cap) := b0.cell 0
        have x1 : w4.cell? ⟨w.heap.size, 1, none⟩ = some (.int .i64 p') := b0.cell 1
        have x2 : w4.cell? ⟨w.heap.size, 2, none⟩ = some (.int .i64 d) := b0.cell 2
        have x3 : w4.cell? ⟨w.heap.size, 3, none⟩ = some (.int .i64 0) := b0.cell 3
        have q0 : w4.cell? ⟨w3.heap.size, 0, none⟩ = some (.slice (some ⟨g, 0, none⟩) n cap) := s5.cell 0
        have q1 : w4.cell? ⟨w3.heap.size, 1, none⟩ = some (.int .i64 p2) := s5.cell 1
        have q2 : w4.cell? ⟨w3.heap.size, 2, none⟩ = some (.int .i64 d) := s5.cell 2
        have q3 : w4.cell? ⟨w3.heap.size, 3, none⟩ = some (.int .i64 E) := s5.cell 3
        have D0 := Lib.hid b0
        have D1 := Lib.hid b1
        have D2 := Lib.hid b2
        have D3 := Lib.hid b3
        have D6 := Lib.hid s6
        clear b0 b1 b2 b3 s5 s6 C0 C1 C2 C3
        go_upto_region 8 with fail
        have hks := kp_st w4 w.heap.size (.slice (some ⟨g, 0, none⟩) n cap) (.int .i64 p2) (.int .i64 d) (.int .i64 E)
        have b0 : Blk ((((w4.setCell ⟨w.heap.size, 0, none⟩ (.slice (some ⟨g, 0, none⟩) n cap)).setCell ⟨w.heap.size, 1, none⟩ (.int .i64 p2)).setCell ⟨w.heap.size, 2, none⟩ (.int .i64 d)).setCell ⟨w.heap.size, 3, none⟩ (.int .i64 E)) w.heap.size 59 #[.slice (some ⟨g, 0, none⟩) n cap, .int .i64 p2, .int .i64 d, .int .i64 E] :=
          (((D0.out.set_ 0 (.slice (some ⟨g, 0, none⟩) n cap)).set_ 1 (.int .i64 p2)).set_ 2 (.int .i64 d)).set_ 3 (.int .i64 E)
        clear x0 x1 x2 x3 q0 q1 q2 q3 v0 v1 v2 v3 l0 l3 y32
        generalize (((w4.setCell ⟨w.heap.size, 0, none⟩ (.slice (some ⟨g, 0, none⟩) n cap)).setCell ⟨w.heap.size, 1, none⟩ (.int .i64 p2)).setCell ⟨w.heap.size, 2, none⟩ (.int .i64 d)).setCell ⟨w.heap.size, 3, none⟩ (.int .i64 E) = w5 at *
        have hz45 := hks.size
        have hz4 := HZ4.out
        have b1 : Blk w5 (w.heap.size + 1) _ _ := D1.out.kept hks (by show ¬ w.heap.size + 1 = w.heap.size; omega)
        have b2 : Blk w5 (w.heap.size + 1 + 1) _ _ := D2.out.kept hks (by show ¬ w.heap.size + 1 + 1 = w.heap.size; omega)
        have b3 : Blk w5 (w.heap.size + 1 + 1 + 1) _ _ := D3.out.kept hks (by show ¬ w.heap.size + 1 + 1 + 1 = w.heap.size; omega)
        have s6 : Blk w5 (w3.heap.size + 1) _ _ := D6.out.kept hks (by show ¬ w3.heap.size + 1 = w.heap.size; omega)
        have hk35 : ∀ i, i < w3.heap.size → i ≠ w.heap.size → w5.heap[i]? = w3.heap[i]? := fun i hi hne => (hks.block i (by omega) hne).trans (HB4.out.block i hi)
        have hk5 : ∀ i, i < wr.heap.size → i ≠ w.heap.size → w5.heap[i]? = wr.heap[i]? := fun i hi hne => (hk35 i (by omega) hne).trans (HB3.out.block i hi)
        have hbel5 : Below w.heap.size w w5 := (HBR.out.trans (HB3.out.mono (by omega))).trans ((HB4.out.mono (by omega)).trans (hks.below (n := w.heap.size) (by omega) (fun i hi => by omega)))
        obtain ⟨us, hus1, hus2, how, hus4⟩ := HO.out
        have how5 := ownsRow_keep how (w' := w5) (fun g hg hv => hk5 g hg (by have := (how.lt g hv).1; omega))
        have F0 := Lib.hid b0
        have F1 := Lib.hid b1
        have F2 := Lib.hid b2
        have F3 := Lib.hid b3
        have HK35 := Lib.hid hk35
        have HK5 := Lib.hid hk5
        have HBL := Lib.hid hbel5
        have HU1 := Lib.hid hus1
        have HU2 := Lib.hid hus2
        have HOW := Lib.hid how
        have HU4 := Lib.hid hus4
        have HW5 := Lib.hid how5
        have l3 := b3.lt
        have y32 : w5.cell? ⟨w.heap.size + 1 + 1 + 1, 2, none⟩ = some (.slice ao done.length icap) := b3.cell 2
        have ls6 := s6.lt
        have i0 : w5.cell? ⟨w3.heap.size + 1, 0, none⟩ = some (.int .i64 a) := s6.cell 0
        have i1' : w5.cell? ⟨w3.heap.size + 1, 1, none⟩ = some (.int .i64 bb) := s6.cell 1
        have i2 : w5.cell? ⟨w3.heap.size + 1, 2, none⟩ = some (.string tx) := s6.cell 2
        have i3 : w5.cell? ⟨w3.heap.size + 1, 3, none⟩ = some (.slice ao2 m2 c2) := s6.cell 3
        have i4 : w5.cell? ⟨w3.heap.size + 1, 4, none⟩ = some (.int .u8 o) := s6.cell 4
        have hne3 : some (w.heap.size + 1 + 1 + 1) ≠ (Value.slice ao done.length icap).ownBlock := fun e => by have := (how.lt _ e.symm).1; omega
        have hbd : done.length ≤ 70000 := by have := HDF.out; omega
        have hsz5 : w.heap.size + 4 ≤ w5.heap.size := by omega
        clear b0 b1 b2 b3 s6 D0 D1 D2 D3 D6 hks hk35 hk5 hbel5 hus1 hus2 how hus4 how5 hz45 hz4
        obtain ⟨i1, ki, kz0, kz1, kz2⟩ := info_parts info_ritem
        generalize hdn : done.length = dn at *
        have Hdone.length := Lib.hid hdn
        clear hdn
        go_wp2_with (at_builtin; refine wpList_append_own_at _ rfl _ _ 65 rfl (w.heap.size + 4) 70 i1 (.agg #[.int .i64 0, .int .i64 0, .string ⟨#[]⟩, .slice none 0 0, .int .u8 0]) 5 64 Tryz.underlying65 ki kz0 kz1 kz2 rfl (by decide) _ dn us.flatten rfl (HW5.out.alloc _) ⟨w5.heap.size, 0, none⟩ 1 1 [.int .i64 a, .int .i64 bb, .string tx, .slice ao2 m2 c2, .int .u8 o] rfl rfl (new_cells _ _ _) (one5 _ _ _ _ _ _ _) (by unfold maxLen; omega) (by omega) (by rw [World.size_alloc]; omega) ?_; intro v6 w6 hown6 hg6 _ hat6; obtain ⟨ao6, cap6, rfl⟩ := own_form hown6; have b3' := Blk.grown (F3.out.alloc _) hg6 hne3; have l36 := b3'.lt; have y36 : w6.cell? ⟨w.heap.size + 1 + 1 + 1, 2, none⟩ = some (.slice ao dn icap) := b3'.cell 2; have v36 := b3'.frozen 2)
        exact raltR_step HN.out HD1.out Hdone.length.out hzr hz3 hp2 HRL.out HK35.out HK5.out (by omega) HBL.out F0.out F1.out F2.out F3.out (HU1.out.trans Hdone.length.out.symm) HU2.out HOW.out HU4.out hown6 hg6 hat6 HF.out HDF.out HAT.out HPRE.out HUN.out
      by_cases k2 : K2 = 2
      · have hat : atIt (lx.hd (T.drop p')) = true := by rw [hat1, show (({ kind := K2, at_ := P2, text := X2, wt := F2 } : Tok).kind == 2) = true from by rw [k2]; rfl]; simp
        replace c0 : wr.cell? ⟨g, p' * 4, none⟩ = some (.int .i64 2) := by rw [c0, show ({ kind := K2, at_ := P2, text := X2, wt := F2 } : Tok).kind = 2 from k2]; rfl
        have hit := HI.out wr g cap p' T hk HTR.out HG1.out hat
        rw [HN.out, HD1.out] at hit
        unfold StV at hit
        have HAT := Lib.hid hat
        clear hat hat1 hsg k1 k2
        go_wp2_with fail
        refine hit.mono ?_
        intro e w3 han
        obtain ⟨p2, E, a, bb, tx, ao2, m2, c2, o, rfl, hb3, hun⟩ := item_un HN.out han
        clear hit han x0 x1 x2 x3
        have HUN := Lib.hid hun
        have b0' := BX0.out.below hb3 BX0.out.lt
        have b1' := BX1.out.below hb3 BX1.out.lt
        have b2' := BX2.out.below hb3 BX2.out.lt
        have b3' := BX3.out.below hb3 BX3.out.lt
        have hz3 := hb3.size
        have l0 := b0'.lt
        have l3 := b3'.lt
        have y32 : w3.cell? ⟨w.heap.size + 1 + 1 + 1, 2, none⟩ = some (.slice ao done.length icap) := b3'.cell 2
        have v0 := b0'.frozen 0
        have v1 := b0'.frozen 1
        have v2 := b0'.frozen 2
        have v3 := b0'.frozen 3
        have v32 := b3'.frozen 2
        have C0 := Lib.hid b0'
        have C1 := Lib.hid b1'
        have C2 := Lib.hid b2'
        have C3 := Lib.hid b3'
        have HB3 := Lib.hid hb3
        clear hun b0' b1' b2' b3' hb3
        go_upto_region 7 with fail
        have he := entry2 w3 #[.slice (some ⟨g, 0, none⟩) n cap, .int .i64 p2, .int .i64 d, .int .i64 E] #[.int .i64 a, .int .i64 bb, .string tx, .slice ao2 m2 c2, .int .u8 o] 59 70
        generalize hW4 : (w3.alloc (.cells #[.slice (some ⟨g, 0, none⟩) n cap, .int .i64 p2, .int .i64 d, .int .i64 E] 59)).alloc (.cells #[.int .i64 a, .int .i64 bb, .string tx, .slice ao2 m2 c2, .int .u8 o] 70) = w4 at *
        obtain ⟨hb4, hz4, s5, s6⟩ := he
        have HB4 := Lib.hid hb4
        have HZ4 := Lib.hid hz4
        have b0 := C0.out.below hb4 C0.out.lt
        have b1 := C1.out.below hb4 C1.out.lt
        have b2 := C2.out.below hb4 C2.out.lt
        have b3 := C3.out.below hb4 C3.out.lt
        clear l0 l3 y32 v0 v1 v2 v3 v32 hb4 hz4 hW4
        have l0 := b0.lt
        have l3 := b3.lt
        have y32 : w4.cell? ⟨w.heap.size + 1 + 1 + 1, 2, none⟩ = some (.slice ao done.length icap) := b3.cell 2
        have v0 := b0.frozen 0
        have v1 := b0.frozen 1
        have v2 := b0.frozen 2
        have v3 := b0.frozen 3
        have x0 : w4.cell? ⟨w.heap.size, 0, none⟩ = some (.slice (some ⟨g, 0, none⟩) n cap) := b0.cell 0
        have x1 : w4.cell? ⟨w.heap.size, 1, none⟩ = some (.int .i64 p') := b0.cell 1
        have x2 : w4.cell? ⟨w.heap.size, 2, none⟩ = some (.int .i64 d) := b0.cell 2
        have x3 : w4.cell? ⟨w.heap.size, 3, none⟩ = some (.int .i64 0) := b0.cell 3
        have q0 : w4.cell? ⟨w3.heap.size, 0, none⟩ = some (.slice (some ⟨g, 0, none⟩) n cap) := s5.cell 0
        have q1 : w4.cell? ⟨w3.heap.size, 1, none⟩ = some (.int .i64 p2) := s5.cell 1
        have q2 : w4.cell? ⟨w3.heap.size, 2, none⟩ = some (.int .i64 d) := s5.cell 2
        have q3 : w4.cell? ⟨w3.heap.size, 3, none⟩ = some (.int .i64 E) := s5.cell 3
        have D0 := Lib.hid b0
        have D1 := Lib.hid b1
        have D2 := Lib.hid b2
        have D3 := Lib.hid b3
        have D6 := Lib.hid s6
        clear b0 b1 b2 b3 s5 s6 C0 C1 C2 C3
        go_upto_region 8 with fail
        have hks := kp_st w4 w.heap.size (.slice (some ⟨g, 0, none⟩) n cap) (.int .i64 p2) (.int .i64 d) (.int .i64 E)
        have b0 : Blk ((((w4.setCell ⟨w.heap.size, 0, none⟩ (.slice (some ⟨g, 0, none⟩) n cap)).setCell ⟨w.heap.size, 1, none⟩ (.int .i64 p2)).setCell ⟨w.heap.size, 2, none⟩ (.int .i64 d)).setCell ⟨w.heap.size, 3, none⟩ (.int .i64 E)) w.heap.size 59 #[.slice (some ⟨g, 0, none⟩) n cap, .int .i64 p2, .int .i64 d, .int .i64 E] :=
          (((D0.out.set_ 0 (.slice (some ⟨g, 0, none⟩) n cap)).set_ 1 (.int .i64 p2)).set_ 2 (.int .i64 d)).set_ 3 (.int .i64 E)
        clear x0 x1 x2 x3 q0 q1 q2 q3 v0 v1 v2 v3 l0 l3 y32
        generalize (((w4.setCell ⟨w.heap.size, 0, none⟩ (.slice (some ⟨g, 0, none⟩) n cap)).setCell ⟨w.heap.size, 1, none⟩ (.int .i64 p2)).setCell ⟨w.heap.size, 2, none⟩ (.int .i64 d)).setCell ⟨w.heap.size, 3, none⟩ (.int .i64 E) = w5 at *
        have hz45 := hks.size
        have hz4 := HZ4.out
        have b1 : Blk w5 (w.heap.size + 1) _ _ := D1.out.kept hks (by show ¬ w.heap.size + 1 = w.heap.size; omega)
        have b2 : Blk w5 (w.heap.size + 1 + 1) _ _ := D2.out.kept hks (by show ¬ w.heap.size + 1 + 1 = w.heap.size; omega)
        have b3 : Blk w5 (w.heap.size + 1 + 1 + 1) _ _ := D3.out.kept hks (by show ¬ w.heap.size + 1 + 1 + 1 = w.heap.size; omega)
        have s6 : Blk w5 (w3.heap.size + 1) _ _ := D6.out.kept hks (by show ¬ w3.heap.size + 1 = w.heap.size; omega)
        have hk35 : ∀ i, i < w3.heap.size → i ≠ w.heap.size → w5.heap[i]? = w3.heap[i]? := fun i hi hne => (hks.block i (by omega) hne).trans (HB4.out.block i hi)
        have hk5 : ∀ i, i < wr.heap.size → i ≠ w.heap.size → w5.heap[i]? = wr.heap[i]? := fun i hi hne => (hk35 i (by omega) hne).trans (HB3.out.block i hi)
        have hbel5 : Below w.heap.size w w5 := (HBR.out.trans (HB3.out.mono (by omega))).trans ((HB4.out.mono (by omega)).trans (hks.below (n := w.heap.size) (by omega) (fun i hi => by omega)))
        obtain ⟨us, hus1, hus2, how, hus4⟩ := HO.out
        have how5 := ownsRow_keep how (w' := w5) (fun g hg hv => hk5 g hg (by have := (how.lt g hv).1; omega))
        have F0 := Lib.hid b0
        have F1 := Lib.hid b1
        have F2 := Lib.hid b2
        have F3 := Lib.hid b3
        have HK35 := Lib.hid hk35
        have HK5 := Lib.hid hk5
        have HBL := Lib.hid hbel5
        have HU1 := Lib.hid hus1
        have HU2 := Lib.hid hus2
        have HOW := Lib.hid how
        have HU4 := Lib.hid hus4
        have HW5 := Lib.hid how5
        have l3 := b3.lt
        have y32 : w5.cell? ⟨w.heap.size + 1 + 1 + 1, 2, none⟩ = some (.slice ao done.length icap) := b3.cell 2
        have ls6 := s6.lt
        have i0 : w5.cell? ⟨w3.heap.size + 1, 0, none⟩ = some (.int .i64 a) := s6.cell 0
        have i1' : w5.cell? ⟨w3.heap.size + 1, 1, none⟩ = some (.int .i64 bb) := s6.cell 1
        have i2 : w5.cell? ⟨w3.heap.size + 1, 2, none⟩ = some (.string tx) := s6.cell 2
        have i3 : w5.cell? ⟨w3.heap.size + 1, 3, none⟩ = some (.slice ao2 m2 c2) := s6.cell 3
        have i4 : w5.cell? ⟨w3.heap.size + 1, 4, none⟩ = some (.int .u8 o) := s6.cell 4
        have hne3 : some (w.heap.size + 1 + 1 + 1) ≠ (Value.slice ao done.length icap).ownBlock := fun e => by have := (how.lt _ e.symm).1; omega
        have hbd : done.length ≤ 70000 := by have := HDF.out; omega
        have hsz5 : w.heap.size + 4 ≤ w5.heap.size := by omega
        clear b0 b1 b2 b3 s6 D0 D1 D2 D3 D6 hks hk35 hk5 hbel5 hus1 hus2 how hus4 how5 hz45 hz4
        obtain ⟨i1, ki, kz0, kz1, kz2⟩ := info_parts info_ritem
        generalize hdn : done.length = dn at *
        have Hdone.length := Lib.hid hdn
        clear hdn
        go_wp2_with (at_builtin; refine wpList_append_own_at _ rfl _ _ 65 rfl (w.heap.size + 4) 70 i1 (.agg #[.int .i64 0, .int .i64 0, .string ⟨#[]⟩, .slice none 0 0, .int .u8 0]) 5 64 Tryz.underlying65 ki kz0 kz1 kz2 rfl (by decide) _ dn us.flatten rfl (HW5.out.alloc _) ⟨w5.heap.size, 0, none⟩ 1 1 [.int .i64 a, .int .i64 bb, .string tx, .slice ao2 m2 c2, .int .u8 o] rfl rfl (new_cells _ _ _) (one5 _ _ _ _ _ _ _) (by unfold maxLen; omega) (by omega) (by rw [World.size_alloc]; omega) ?_; intro v6 w6 hown6 hg6 _ hat6; obtain ⟨ao6, cap6, rfl⟩ := own_form hown6; have b3' := Blk.grown (F3.out.alloc _) hg6 hne3; have l36 := b3'.lt; have y36 : w6.cell? ⟨w.heap.size + 1 + 1 + 1, 2, none⟩ = some (.slice ao dn icap) := b3'.cell 2; have v36 := b3'.frozen 2)
        exact raltR_step HN.out HD1.out Hdone.length.out hzr hz3 hp2 HRL.out HK35.out HK5.out (by omega) HBL.out F0.out F1.out F2.out F3.out (HU1.out.trans Hdone.length.out.symm) HU2.out HOW.out HU4.out hown6 hg6 hat6 HF.out HDF.out HAT.out HPRE.out HUN.out
      have hs := rsign_any wr g cap p' d 0 T 40 (by decide) HTR.out HG1.out
      rw [HN.out] at hs
      unfold StV at hs
      replace c0 : wr.cell? ⟨g, p' * 4, none⟩ = some (.int .i64 K2) := c0
      have n1 : ((K2 : Int) == 1) = false := by rw [beq_eq_false_iff_ne]; omega
      have n2 : ((K2 : Int) == 2) = false := by rw [beq_eq_false_iff_ne]; omega
      by_cases h40 : sg (T.drop p') = 40
      · have hat : atIt (lx.hd (T.drop p')) = true := by rw [hat1, ← hsg, h40]; simp
        rw [decide_eq_true (show sg (T.drop p') = UInt8.toNat 40 from h40)] at hs
        have HAT := Lib.hid hat
        clear hat hat1 hsg k1 k2 h40
        go_wp2_with fail
        refine hs.mono ?_
        rintro e wx ⟨rfl, hbx⟩
        clear hs x0 x1 x2 x3 c0 c1 c2 c3
        have hzx : w.heap.size + 4 ≤ wx.heap.size := by have := hbx.size; omega
        have BX0 := Lib.hid (BX0.out.below hbx BX0.out.lt)
        have BX1 := Lib.hid (BX1.out.below hbx BX1.out.lt)
        have BX2 := Lib.hid (BX2.out.below hbx BX2.out.lt)
        have BX3 := Lib.hid (BX3.out.below hbx BX3.out.lt)
        have HBR := Lib.hid (HBR.out.trans (hbx.mono (by omega)))
        have HTR := Lib.hid (HTR.out.below hbx HTR.out.lt)
        have HO := Lib.hid (HO.out.keep (keepsItm (keepsAlts k)) (fun g hg _ => hbx.block g hg) hbx.size)
        clear hbx
        have x0 : wx.cell? ⟨w.heap.size, 0, none⟩ = some (.slice (some ⟨g, 0, none⟩) n cap) := BX0.out.cell 0
        have x1 : wx.cell? ⟨w.heap.size, 1, none⟩ = some (.int .i64 p') := BX0.out.cell 1
        have x2 : wx.cell? ⟨w.heap.size, 2, none⟩ = some (.int .i64 d) := BX0.out.cell 2
        have x3 : wx.cell? ⟨w.heap.size, 3, none⟩ = some (.int .i64 0) := BX0.out.cell 3
        have hit := HI.out wx g cap p' T hk HTR.out HG1.out HAT.out
        rw [HN.out, HD1.out] at hit
        unfold StV at hit
        go_wp2_with fail
        refine hit.mono ?_
        intro e w3 han
        obtain ⟨p2, E, a, bb, tx, ao2, m2, c2, o, rfl, hb3, hun⟩ := item_un HN.out han
        clear hit han x0 x1 x2 x3
        have HUN := Lib.hid hun
        have b0' := BX0.out.below hb3 BX0.out.lt
        have b1' := BX1.out.below hb3 BX1.out.lt
        have b2' := BX2.out.below hb3 BX2.out.lt
        have b3' := BX3.out.below hb3 BX3.out.lt
        have hz3 := hb3.size
        have l0 := b0'.lt
        have l3 := b3'.lt
        have y32 : w3.cell? ⟨w.heap.size + 1 + 1 + 1, 2, none⟩ = some (.slice ao done.length icap) := b3'.cell 2
        have v0 := b0'.frozen 0
        have v1 := b0'.frozen 1
        have v2 := b0'.frozen 2
        have v3 := b0'.frozen 3
        have v32 := b3'.frozen 2
        have C0 := Lib.hid b0'
        have C1 := Lib.hid b1'
        have C2 := Lib.hid b2'
        have C3 := Lib.hid b3'
        have HB3 := Lib.hid hb3
        clear hun b0' b1' b2' b3' hb3
        go_upto_region 7 with fail
        have he := entry2 w3 #[.slice (some ⟨g, 0, none⟩) n cap, .int .i64 p2, .int .i64 d, .int .i64 E] #[.int .i64 a, .int .i64 bb, .string tx, .slice ao2 m2 c2, .int .u8 o] 59 70
        generalize hW4 : (w3.alloc (.cells #[.slice (some ⟨g, 0, none⟩) n cap, .int .i64 p2, .int .i64 d, .int .i64 E] 59)).alloc (.cells #[.int .i64 a, .int .i64 bb, .string tx, .slice ao2 m2 c2, .int .u8 o] 70) = w4 at *
        obtain ⟨hb4, hz4, s5, s6⟩ := he
        have HB4 := Lib.hid hb4
        have HZ4 := Lib.hid hz4
        have b0 := C0.out.below hb4 C0.out.lt
        have b1 := C1.out.below hb4 C1.out.lt
        have b2 := C2.out.below hb4 C2.out.lt
        have b3 := C3.out.below hb4 C3.out.lt
        clear l0 l3 y32 v0 v1 v2 v3 v32 hb4 hz4 hW4
        have l0 := b0.lt
        have l3 := b3.lt
        have y32 : w4.cell? ⟨w.heap.size + 1 + 1 + 1, 2, none⟩ = some (.slice ao done.length icap) := b3.cell 2
        have v0 := b0.frozen 0
        have v1 := b0.frozen 1
        have v2 := b0.frozen 2
        have v3 := b0.frozen 3
        have x0 : w4.cell? ⟨w.heap.size, 0, none⟩ = some (.slice (some ⟨g, 0, none⟩) n cap) := b0.cell 0
        have x1 : w4.cell? ⟨w.heap.size, 1, none⟩ = some (.int .i64 p') := b0.cell 1
        have x2 : w4.cell? ⟨w.heap.size, 2, none⟩ = some (.int .i64 d) := b0.cell 2
        have x3 : w4.cell? ⟨w.heap.size, 3, none⟩ = some (.int .i64 0) := b0.cell 3
        have q0 : w4.cell? ⟨w3.heap.size, 0, none⟩ = some (.slice (some ⟨g, 0, none⟩) n cap) := s5.cell 0
        have q1 : w4.cell? ⟨w3.heap.size, 1, none⟩ = some (.int .i64 p2) := s5.cell 1
        have q2 : w4.cell? ⟨w3.heap.size, 2, none⟩ = some (.int .i64 d) := s5.cell 2
        have q3 : w4.cell? ⟨w3.heap.size, 3, none⟩ = some (.int .i64 E) := s5.cell 3
        have D0 := Lib.hid b0
        have D1 := Lib.hid b1
        have D2 := Lib.hid b2
        have D3 := Lib.hid b3
        have D6 := Lib.hid s6
        clear b0 b1 b2 b3 s5 s6 C0 C1 C2 C3
        go_upto_region 8 with fail
        have hks := kp_st w4 w.heap.size (.slice (some ⟨g, 0, none⟩) n cap) (.int .i64 p2) (.int .i64 d) (.int .i64 E)
        have b0 : Blk ((((w4.setCell ⟨w.heap.size, 0, none⟩ (.slice (some ⟨g, 0, none⟩) n cap)).setCell ⟨w.heap.size, 1, none⟩ (.int .i64 p2)).setCell ⟨w.heap.size, 2, none⟩ (.int .i64 d)).setCell ⟨w.heap.size, 3, none⟩ (.int .i64 E)) w.heap.size 59 #[.slice (some ⟨g, 0, none⟩) n cap, .int .i64 p2, .int .i64 d, .int .i64 E] :=
          (((D0.out.set_ 0 (.slice (some ⟨g, 0, none⟩) n cap)).set_ 1 (.int .i64 p2)).set_ 2 (.int .i64 d)).set_ 3 (.int .i64 E)
        clear x0 x1 x2 x3 q0 q1 q2 q3 v0 v1 v2 v3 l0 l3 y32
        generalize (((w4.setCell ⟨w.heap.size, 0, none⟩ (.slice (some ⟨g, 0, none⟩) n cap)).setCell ⟨w.heap.size, 1, none⟩ (.int .i64 p2)).setCell ⟨w.heap.size, 2, none⟩ (.int .i64 d)).setCell ⟨w.heap.size, 3, none⟩ (.int .i64 E) = w5 at *
        have hz45 := hks.size
        have hz4 := HZ4.out
        have b1 : Blk w5 (w.heap.size + 1) _ _ := D1.out.kept hks (by show ¬ w.heap.size + 1 = w.heap.size; omega)
        have b2 : Blk w5 (w.heap.size + 1 + 1) _ _ := D2.out.kept hks (by show ¬ w.heap.size + 1 + 1 = w.heap.size; omega)
        have b3 : Blk w5 (w.heap.size + 1 + 1 + 1) _ _ := D3.out.kept hks (by show ¬ w.heap.size + 1 + 1 + 1 = w.heap.size; omega)
        have s6 : Blk w5 (w3.heap.size + 1) _ _ := D6.out.kept hks (by show ¬ w3.heap.size + 1 = w.heap.size; omega)
        have hk35 : ∀ i, i < w3.heap.size → i ≠ w.heap.size → w5.heap[i]? = w3.heap[i]? := fun i hi hne => (hks.block i (by omega) hne).trans (HB4.out.block i hi)
        have hk5 : ∀ i, i < wx.heap.size → i ≠ w.heap.size → w5.heap[i]? = wx.heap[i]? := fun i hi hne => (hk35 i (by omega) hne).trans (HB3.out.block i hi)
        have hbel5 : Below w.heap.size w w5 := (HBR.out.trans (HB3.out.mono (by omega))).trans ((HB4.out.mono (by omega)).trans (hks.below (n := w.heap.size) (by omega) (fun i hi => by omega)))
        obtain ⟨us, hus1, hus2, how, hus4⟩ := HO.out
        have how5 := ownsRow_keep how (w' := w5) (fun g hg hv => hk5 g hg (by have := (how.lt g hv).1; omega))
        have F0 := Lib.hid b0
        have F1 := Lib.hid b1
        have F2 := Lib.hid b2
        have F3 := Lib.hid b3
        have HK35 := Lib.hid hk35
        have HK5 := Lib.hid hk5
        have HBL := Lib.hid hbel5
        have HU1 := Lib.hid hus1
        have HU2 := Lib.hid hus2
        have HOW := Lib.hid how
        have HU4 := Lib.hid hus4
        have HW5 := Lib.hid how5
        have l3 := b3.lt
        have y32 : w5.cell? ⟨w.heap.size + 1 + 1 + 1, 2, none⟩ = some (.slice ao done.length icap) := b3.cell 2
        have ls6 := s6.lt
        have i0 : w5.cell? ⟨w3.heap.size + 1, 0, none⟩ = some (.int .i64 a) := s6.cell 0
        have i1' : w5.cell? ⟨w3.heap.size + 1, 1, none⟩ = some (.int .i64 bb) := s6.cell 1
        have i2 : w5.cell? ⟨w3.heap.size + 1, 2, none⟩ = some (.string tx) := s6.cell 2
        have i3 : w5.cell? ⟨w3.heap.size + 1, 3, none⟩ = some (.slice ao2 m2 c2) := s6.cell 3
        have i4 : w5.cell? ⟨w3.heap.size + 1, 4, none⟩ = some (.int .u8 o) := s6.cell 4
        have hne3 : some (w.heap.size + 1 + 1 + 1) ≠ (Value.slice ao done.length icap).ownBlock := fun e => by have := (how.lt _ e.symm).1; omega
        have hbd : done.length ≤ 70000 := by have := HDF.out; omega
        have hsz5 : w.heap.size + 4 ≤ w5.heap.size := by omega
        clear b0 b1 b2 b3 s6 D0 D1 D2 D3 D6 hks hk35 hk5 hbel5 hus1 hus2 how hus4 how5 hz45 hz4
        obtain ⟨i1, ki, kz0, kz1, kz2⟩ := info_parts info_ritem
        generalize hdn : done.length = dn at *
        have Hdone.length := Lib.hid hdn
        clear hdn
        go_wp2_with (at_builtin; refine wpList_append_own_at _ rfl _ _ 65 rfl (w.heap.size + 4) 70 i1 (.agg #[.int .i64 0, .int .i64 0, .string ⟨#[]⟩, .slice none 0 0, .int .u8 0]) 5 64 Tryz.underlying65 ki kz0 kz1 kz2 rfl (by decide) _ dn us.flatten rfl (HW5.out.alloc _) ⟨w5.heap.size, 0, none⟩ 1 1 [.int .i64 a, .int .i64 bb, .string tx, .slice ao2 m2 c2, .int .u8 o] rfl rfl (new_cells _ _ _) (one5 _ _ _ _ _ _ _) (by unfold maxLen; omega) (by omega) (by rw [World.size_alloc]; omega) ?_; intro v6 w6 hown6 hg6 _ hat6; obtain ⟨ao6, cap6, rfl⟩ := own_form hown6; have b3' := Blk.grown (F3.out.alloc _) hg6 hne3; have l36 := b3'.lt; have y36 : w6.cell? ⟨w.heap.size + 1 + 1 + 1, 2, none⟩ = some (.slice ao dn icap) := b3'.cell 2; have v36 := b3'.frozen 2)
        exact raltR_step HN.out HD1.out Hdone.length.out hzx hz3 hp2 HRL.out HK35.out HK5.out (by omega) HBL.out F0.out F1.out F2.out F3.out (HU1.out.trans Hdone.length.out.symm) HU2.out HOW.out HU4.out hown6 hg6 hat6 HF.out HDF.out HAT.out HPRE.out HUN.out
      · have hat : ¬ atIt (lx.hd (T.drop p')) = true := by
          rw [hat1, ← hsg]
          simp only [Bool.or_eq_true, beq_iff_eq, not_or]
          exact ⟨⟨k1, k2⟩, h40⟩
        rw [decide_eq_false (show ¬ sg (T.drop p') = UInt8.toNat 40 from h40)] at hs
        have HXX : Hid ( Z = .ok (done, T.drop p')) := Lib.hid (by rw [← HPRE.out]; exact pre_end _ _ _ _ hat)
        clear hat hat1 hsg k1 k2 h40
        go_wp2_with fail
        refine hs.mono ?_
        rintro e wx ⟨rfl, hbx⟩
        clear hs x0 x1 x2 x3 c0 c1 c2 c3
        have hzx : w.heap.size + 4 ≤ wx.heap.size := by have := hbx.size; omega
        have BX0 := Lib.hid (BX0.out.below hbx BX0.out.lt)
        have BX1 := Lib.hid (BX1.out.below hbx BX1.out.lt)
        have BX2 := Lib.hid (BX2.out.below hbx BX2.out.lt)
        have BX3 := Lib.hid (BX3.out.below hbx BX3.out.lt)
        have HBR := Lib.hid (HBR.out.trans (hbx.mono (by omega)))
        have HTR := Lib.hid (HTR.out.below hbx HTR.out.lt)
        have HO := Lib.hid (HO.out.keep (keepsItm (keepsAlts k)) (fun g hg _ => hbx.block g hg) hbx.size)
        clear hbx
        have x0 : wx.cell? ⟨w.heap.size, 0, none⟩ = some (.slice (some ⟨g, 0, none⟩) n cap) := BX0.out.cell 0
        have x1 : wx.cell? ⟨w.heap.size, 1, none⟩ = some (.int .i64 p') := BX0.out.cell 1
        have x2 : wx.cell? ⟨w.heap.size, 2, none⟩ = some (.int .i64 d) := BX0.out.cell 2
        have x3 : wx.cell? ⟨w.heap.size, 3, none⟩ = some (.int .i64 0) := BX0.out.cell 3
        have l0 := BX0.out.lt
        have l1 := BX1.out.lt
        have l2 := BX2.out.lt
        have l3 := BX3.out.lt
        have y0 : wx.cell? ⟨w.heap.size + 1, 0, none⟩ = some (.slice none 0 0) := BX1.out.cell 0
        have y1 : wx.cell? ⟨w.heap.size + 1, 1, none⟩ = some (.int .i64 0) := BX1.out.cell 1
        have y2 : wx.cell? ⟨w.heap.size + 1, 2, none⟩ = some (.int .i64 0) := BX1.out.cell 2
        have y3 : wx.cell? ⟨w.heap.size + 1, 3, none⟩ = some (.int .i64 0) := BX1.out.cell 3
        have z0 : wx.cell? ⟨w.heap.size + 1 + 1, 0, none⟩ = some (.int .i64 0) := BX2.out.cell 0
        have z1 : wx.cell? ⟨w.heap.size + 1 + 1, 1, none⟩ = some (.float .f64 0) := BX2.out.cell 1
        have z2 : wx.cell? ⟨w.heap.size + 1 + 1, 2, none⟩ = some (.slice none 0 0) := BX2.out.cell 2
        have i0 : wx.cell? ⟨w.heap.size + 1 + 1 + 1, 0, none⟩ = some (.int .i64 P) := BX3.out.cell 0
        have i1 : wx.cell? ⟨w.heap.size + 1 + 1 + 1, 1, none⟩ = some (.float .f64 0) := BX3.out.cell 1
        have i2 : wx.cell? ⟨w.heap.size + 1 + 1 + 1, 2, none⟩ = some (.slice ao done.length icap) := BX3.out.cell 2
        have vy0 := BX1.out.frozen 0
        have vy1 := BX1.out.frozen 1
        have vy2 := BX1.out.frozen 2
        have vy3 := BX1.out.frozen 3
        have vz0 := BX2.out.frozen 0
        have vz1 := BX2.out.frozen 1
        have vz2 := BX2.out.frozen 2
        go_wp2_with fail
        go_region
        all_goals
          go_wp2
          have hke := kp_alt_drew wx (w.heap.size + 1) (w.heap.size + 1 + 1) (.slice (some ⟨g, 0, none⟩) n cap) (.int .i64 p') (.int .i64 d) (.int .i64 0) (.int .i64 P) (.float .f64 0) (.slice ao done.length icap)
          refine bodyPost_ret (v := .tuple #[.agg #[.slice (some ⟨g, 0, none⟩) n cap, .int .i64 p', .int .i64 d, .int .i64 0], .agg #[.int .i64 P, .float .f64 0, .slice ao done.length icap]]) (by simp [results, Tryz.results31, go_sem, y0, y1, y2, y3, z0, z1, z2]) rfl ?_
          generalize (((((((wx.setCell ⟨w.heap.size + 1, 0, none⟩ (.slice (some ⟨g, 0, none⟩) n cap)).setCell ⟨w.heap.size + 1, 1, none⟩ (.int .i64 p')).setCell ⟨w.heap.size + 1, 2, none⟩ (.int .i64 d)).setCell ⟨w.heap.size + 1, 3, none⟩ (.int .i64 0)).setCell ⟨w.heap.size + 1 + 1, 0, none⟩ (.int .i64 P)).setCell ⟨w.heap.size + 1 + 1, 1, none⟩ (.float .f64 0)).setCell ⟨w.heap.size + 1 + 1, 2, none⟩ (.slice ao done.length icap)).drew = wz at *
          have hbz := HBR.out.trans (hke.below (n := w.heap.size) (by have := HBR.out.size; omega) (fun i hi => by rcases hi with h | h <;> (rw [h]; omega)))
          refine ⟨hbz, ?_⟩
          clear hbz
          rw [HR.out, HXX.out, ← HN.out]
          have hL : ListOf 5 (EItm (AltsAt k)) wz (fun g => w.heap.size ≤ g) (.slice ao done.length icap) done := (HO.out.done (keepsItm (keepsAlts k))).keep (keepsItm (keepsAlts k)) (fun g hg hA => ⟨Nat.le_trans (Nat.le_add_right _ 4) hA, hke.block g hg (fun h => by have h4 : w.heap.size + 4 ≤ g := hA; rcases h with h | h <;> omega)⟩) hke.size
          have hm : (T.drop p').length ≤ m := by have := HF.out; have := HDF.out; have := HML.out; omega
          exact ⟨p', .agg #[.int .i64 P, .float .f64 0, .slice ao done.length icap], rfl, ⟨.slice ao done.length icap, rfl, hL⟩, rfl, HG1.out, hm⟩
    · have BX0 := Lib.hid b0
      have BX3 := Lib.hid b3
      have HX := Lib.hid hX
      have HPL := Lib.hid hpl
      have HQA := Lib.hid hqa
      have hq1 : ((q.1 : Int) == 0) = false := by rw [beq_eq_false_iff_ne]; omega
      clear b0 b3 htr hX hpl hqa
      have x0 : wr.cell? ⟨w.heap.size, 0, none⟩ = some (.slice (some ⟨g, 0, none⟩) n cap) := BX0.out.cell 0
      have x1 : wr.cell? ⟨w.heap.size, 1, none⟩ = some (.int .i64 p') := BX0.out.cell 1
      have x2 : wr.cell? ⟨w.heap.size, 2, none⟩ = some (.int .i64 d) := BX0.out.cell 2
      have x3 : wr.cell? ⟨w.heap.size, 3, none⟩ = some (.int .i64 q.1) := BX0.out.cell 3
      have l0 := BX0.out.lt
      have l1 := BX1.out.lt
      have l2 := BX2.out.lt
      have l3 := BX3.out.lt
      have y0 : wr.cell? ⟨w.heap.size + 1, 0, none⟩ = some (.slice none 0 0) := BX1.out.cell 0
      have y1 : wr.cell? ⟨w.heap.size + 1, 1, none⟩ = some (.int .i64 0) := BX1.out.cell 1
      have y2 : wr.cell? ⟨w.heap.size + 1, 2, none⟩ = some (.int .i64 0) := BX1.out.cell 2
      have y3 : wr.cell? ⟨w.heap.size + 1, 3, none⟩ = some (.int .i64 0) := BX1.out.cell 3
      have z0 : wr.cell? ⟨w.heap.size + 1 + 1, 0, none⟩ = some (.int .i64 0) := BX2.out.cell 0
      have z1 : wr.cell? ⟨w.heap.size + 1 + 1, 1, none⟩ = some (.float .f64 0) := BX2.out.cell 1
      have z2 : wr.cell? ⟨w.heap.size + 1 + 1, 2, none⟩ = some (.slice none 0 0) := BX2.out.cell 2
      have i0 : wr.cell? ⟨w.heap.size + 1 + 1 + 1, 0, none⟩ = some (.int .i64 P) := BX3.out.cell 0
      have i1 : wr.cell? ⟨w.heap.size + 1 + 1 + 1, 1, none⟩ = some (.float .f64 0) := BX3.out.cell 1
      have i2 : wr.cell? ⟨w.heap.size + 1 + 1 + 1, 2, none⟩ = some (.slice ao m' c') := BX3.out.cell 2
      have vy0 := BX1.out.frozen 0
      have vy1 := BX1.out.frozen 1
      have vy2 := BX1.out.frozen 2
      have vy3 := BX1.out.frozen 3
      have vz0 := BX2.out.frozen 0
      have vz1 := BX2.out.frozen 1
      have vz2 := BX2.out.frozen 2
      go_wp2_with fail
      go_region
      all_goals
        go_wp2
        have hke := kp_alt_drew wr (w.heap.size + 1) (w.heap.size + 1 + 1) (.slice (some ⟨g, 0, none⟩) n cap) (.int .i64 p') (.int .i64 d) (.int .i64 q.1) (.int .i64 P) (.float .f64 0) (.slice ao m' c')
        refine bodyPost_ret (v := .tuple #[.agg #[.slice (some ⟨g, 0, none⟩) n cap, .int .i64 p', .int .i64 d, .int .i64 q.1], .agg #[.int .i64 P, .float .f64 0, .slice ao m' c']]) (by simp [results, Tryz.results31, go_sem, y0, y1, y2, y3, z0, z1, z2]) rfl ?_
        generalize (((((((wr.setCell ⟨w.heap.size + 1, 0, none⟩ (.slice (some ⟨g, 0, none⟩) n cap)).setCell ⟨w.heap.size + 1, 1, none⟩ (.int .i64 p')).setCell ⟨w.heap.size + 1, 2, none⟩ (.int .i64 d)).setCell ⟨w.heap.size + 1, 3, none⟩ (.int .i64 q.1)).setCell ⟨w.heap.size + 1 + 1, 0, none⟩ (.int .i64 P)).setCell ⟨w.heap.size + 1 + 1, 1, none⟩ (.float .f64 0)).setCell ⟨w.heap.size + 1 + 1, 2, none⟩ (.slice ao m' c')).drew = wz at *
        have hbz := HBR.out.trans (hke.below (n := w.heap.size) (by have := HBR.out.size; omega) (fun i hi => by rcases hi with h | h <;> (rw [h]; omega)))
        refine ⟨hbz, ?_⟩
        clear hbz
        rw [HR.out, HX.out, ← HN.out]
        exact ⟨p', .agg #[.int .i64 P, .float .f64 0, .slice ao m' c'], rfl, ⟨P, 0, ao, m', c', rfl⟩, hq, HPL.out, HQA.out⟩
theorem ralt_any (k : Nat) (hI : RItemOk k) : RAltOk k := by
  intro w g cap p T hk h hg
  obtain ⟨t, r, hd⟩ := hg.ne
  by_cases k3 : t.kind = 3
  · have := ralt_wt k hI w g cap p T hk h hg t r hd k3
    rw [hd]
    exact this
  · have := ralt_no k hI w g cap p T hk h hg t r hd k3
    rw [hd]
    exact this
end Go.Proofs.YtdddbkghleblhaaGreatDoor.lx
namespace Go.Proofs.YtdddbkghleblhaaGreatDoor.lx
set_option linter.unusedVariables false
/-! what is read off n words has no row longer than n + 1, so deep as it goes -/
def smS (N : Nat) : Nat → List Altn → Prop
  | 0, bs => bs = []
  | k + 1, bs => bs.length ≤ N + 1 ∧ ∀ (j : Nat) (x : Altn), bs[j]? = some x → x.2.2.length ≤ N + 1 ∧ ∀ (i : Nat) (y : Itm), x.2.2[i]? = some y → smS N k y.alts
theorem smS_nil (N : Nat) : ∀ k, smS N k []
  | 0 => rfl
  | k + 1 => ⟨by simp, fun j x h => by simp at h⟩
theorem tail_le (ts : List Tok) : ts.tail.length ≤ ts.length := by rw [List.length_tail]; omega
theorem opTl_le (ts : List Tok) : (opTl ts).length ≤ ts.length := by
  unfold opTl
  split
  · exact tail_le ts
  · exact Nat.le_refl _
theorem wtTl_le (ts : List Tok) : (wtTl ts).length ≤ ts.length := by
  unfold wtTl
  split
  · exact tail_le ts
  · exact Nat.le_refl _
section
variable {N k : Nat} {sub : List Tok → Res (List Altn)} (hs : ∀ ts bs r, ts.length ≤ N → sub ts = .ok (bs, r) → smS N k bs ∧ r.length ≤ ts.length)
include hs
theorem sm_item {ts r : List Tok} {i : Itm} (hn : ts.length ≤ N) (h : pItem sub ts = .ok (i, r)) : smS N k i.alts ∧ r.length ≤ ts.length := by
  unfold pItem at h
  split at h
  · cases h
    exact ⟨smS_nil N k, Nat.le_trans (opTl_le _) (tail_le ts)⟩
  · split at h
    · cases h
      exact ⟨smS_nil N k, Nat.le_trans (opTl_le _) (tail_le ts)⟩
    · split at h
      · cases h
      · rename_i bs r' e
        cases h
        obtain ⟨h1, h2⟩ := hs _ _ _ hn e
        exact ⟨h1, Nat.le_trans (opTl_le _) h2⟩
theorem sm_items : ∀ (f : Nat) (ts r : List Tok) (is : List Itm), ts.length ≤ N → pItems sub f ts = .ok (is, r) → is.length ≤ f ∧ r.length ≤ ts.length ∧ ∀ (i : Nat) (y : Itm), is[i]? = some y → smS N k y.alts := by
  intro f
  induction f with
  | zero => intro ts r is _ h; cases h
  | succ f ih =>
    intro ts r is hn h
    unfold pItems at h
    split at h
    · split at h
      · cases h
      · rename_i i r1 e1
        split at h
        · cases h
        · rename_i is' r2 e2
          cases h
          obtain ⟨h1, h2⟩ := sm_item hs hn e1
          obtain ⟨h3, h4, h5⟩ := ih _ _ _ (Nat.le_trans h2 hn) e2
          refine ⟨by simp; omega, Nat.le_trans h4 h2, fun j y hy => ?_⟩
          cases j with
          | zero => cases hy; exact h1
          | succ j => exact h5 j y (by simpa using hy)
    · cases h
      exact ⟨by simp, Nat.le_refl _, fun j y hy => by simp at hy⟩
theorem sm_alt {ts r : List Tok} {a : Altn} (hn : ts.length ≤ N) (h : pAlt sub ts = .ok (a, r)) : (a.2.2.length ≤ N + 1 ∧ ∀ (i : Nat) (y : Itm), a.2.2[i]? = some y → smS N k y.alts) ∧ r.length ≤ ts.length := by
  unfold pAlt at h
  split at h
  · cases h
  · rename_i is r' e
    cases h
    obtain ⟨h1, h2, h3⟩ := sm_items hs _ _ _ _ (Nat.le_trans (wtTl_le ts) hn) e
    have := wtTl_le ts
    exact ⟨⟨by show is.length ≤ N + 1; omega, h3⟩, Nat.le_trans h2 this⟩
theorem sm_more : ∀ (f : Nat) (ts r : List Tok) (bs : List Altn), ts.length ≤ N → pMore sub f ts = .ok (bs, r) → bs.length ≤ f ∧ r.length ≤ ts.length ∧ ∀ (j : Nat) (x : Altn), bs[j]? = some x → x.2.2.length ≤ N + 1 ∧ ∀ (i : Nat) (y : Itm), x.2.2[i]? = some y → smS N k y.alts := by
  intro f
  induction f with
  | zero => intro ts r bs _ h; cases h
  | succ f ih =>
    intro ts r bs hn h
    unfold pMore at h
    split at h
    · split at h
      · cases h
      · rename_i a r1 e1
        split at h
        · cases h
        · rename_i bs' r2 e2
          cases h
          obtain ⟨h1, h2⟩ := sm_alt hs (Nat.le_trans (tail_le ts) hn) e1
          have h2' := Nat.le_trans h2 (tail_le ts)
          obtain ⟨h3, h4, h5⟩ := ih _ _ _ (Nat.le_trans h2' hn) e2
          refine ⟨by simp; omega, Nat.le_trans h4 h2', fun j y hy => ?_⟩
          cases j with
          | zero => cases hy; exact h1
          | succ j => exact h5 j y (by simpa using hy)
    · cases h
      exact ⟨by simp, Nat.le_refl _, fun j y hy => by simp at hy⟩
theorem sm_alts {ts r : List Tok} {bs : List Altn} (hn : ts.length ≤ N) (h : pAlts sub ts = .ok (bs, r)) : smS N (k + 1) bs ∧ r.length ≤ ts.length := by
  unfold pAlts at h
  split at h
  · cases h
  · rename_i a r1 e1
    split at h
    · cases h
    · rename_i bs' r2 e2
      cases h
      obtain ⟨h1, h2⟩ := sm_alt hs hn e1
      obtain ⟨h3, h4, h5⟩ := sm_more hs _ _ _ _ (Nat.le_trans h2 hn) e2
      refine ⟨⟨by simp; omega, fun j y hy => ?_⟩, Nat.le_trans h4 h2⟩
      cases j with
      | zero => cases hy; exact h1
      | succ j => exact h5 j y (by simpa using hy)
end
theorem sm_sub (N : Nat) : ∀ (k : Nat) (ts : List Tok) (bs : List Altn) (r : List Tok), ts.length ≤ N → pSub k ts = .ok (bs, r) → smS N k bs ∧ r.length ≤ ts.length
  | 0 => fun ts bs r _ h => by cases h
  | k + 1 => fun ts bs r hn h => by
    have h : pShut 41 (pA k ts.tail) = .ok (bs, r) := h
    rw [pA_sub] at h
    cases e : pAlts (pSub k) ts.tail with
    | error q =>
      rw [e] at h
      cases h
    | ok x =>
      obtain ⟨bs', r'⟩ := x
      rw [e] at h
      have h : (if sg r' = 41 then .ok (bs', r'.tail) else .error (5, (hd r').at_) : Res (List Altn)) = .ok (bs, r) := h
      split at h
      · cases h
        obtain ⟨h1, h2⟩ := sm_alts (sm_sub N k) (Nat.le_trans (tail_le ts) hn) e
        exact ⟨h1, Nat.le_trans (tail_le _) (Nat.le_trans h2 (tail_le ts))⟩
      · cases h
theorem sm_pA (N k : Nat) {ts r : List Tok} {bs : List Altn} (hn : ts.length ≤ N) (h : pA k ts = .ok (bs, r)) : smS N (k + 1) bs ∧ r.length ≤ ts.length := by
  rw [pA_sub] at h
  exact sm_alts (sm_sub N k) hn h
theorem sm_def {N : Nat} {ts r : List Tok} {d : Dfn} (hn : ts.length ≤ N) (h : pDef ts = .ok (d, r)) : smS N 17 d.2.2 ∧ r.length ≤ ts.length := by
  unfold pDef at h
  split at h
  · split at h
    · split at h
      · cases h
      · rename_i bs r' e
        cases h
        cases e2 : pA 16 ts.tail.tail with
        | error q =>
          rw [e2] at e
          cases e
        | ok x =>
          obtain ⟨bs', r2⟩ := x
          rw [e2] at e
          have e : (if sg r2 = 59 then .ok (bs', r2.tail) else .error (5, (hd r2).at_) : Res (List Altn)) = .ok (bs, r) := e
          have ht := Nat.le_trans (tail_le ts.tail) (tail_le ts)
          split at e
          · cases e
            obtain ⟨h1, h2⟩ := sm_pA N 16 (Nat.le_trans ht hn) e2
            exact ⟨h1, Nat.le_trans (tail_le _) (Nat.le_trans h2 ht)⟩
          · cases e
    · cases h
  · cases h
theorem sm_text (N : Nat) : ∀ (f : Nat) (ts : List Tok) (ds : List Dfn), ts.length ≤ N → pText f ts = .ok ds → ∀ (j : Nat) (d : Dfn), ds[j]? = some d → smS N 17 d.2.2 := by
  intro f
  induction f with
  | zero => intro ts ds _ h; cases h
  | succ f ih =>
    intro ts ds hn h
    unfold pText at h
    split at h
    · cases h
    · rename_i d r e
      obtain ⟨h1, h2⟩ := sm_def hn e
      split at h
      · cases h
        intro j d' hj
        cases j with
        | zero => cases hj; exact h1
        | succ j => simp at hj
      · split at h
        · cases h
        · rename_i ds' e2
          cases h
          intro j d' hj
          cases j with
          | zero => cases hj; exact h1
          | succ j => exact ih _ _ (Nat.le_trans h2 hn) e2 j d' (by simpa using hj)
end Go.Proofs.YtdddbkghleblhaaGreatDoor.lx

import Derived.Test.YtdddbkghleblhaaGreatDoorKal
import Derived.Test.YtdddbkghleblhaaGreatDoorKam
namespace Go.Proofs.YtdddbkghleblhaaGreatDoor.lx
open Go.ChangeShapes Go.WideShapes Go.ChangeAt Go.RowKit Go.Proofs.YtdddbkghleblhaaGreatDoor.ky
set_option linter.unusedVariables false
attribute [local go_sem] run_store_float
/-! alternatives as text again -/
def WrT (P : World → (Nat → Prop) → Value → List Altn → Prop) (sub : List Altn → List UInt8) (ok : List Altn → Prop) : Prop := ∀ (w : World) (A : Nat → Prop) (v : Value) (bs : List Altn), P w A v bs → ok bs → Calls Tryz.prog 11 #[v] w fun e w' => e = .returned (.string (S (sub bs))) ∧ Below w.heap.size w w'
def okIw (ok : List Altn → Prop) (i : Itm) : Prop := i.text.length ≤ 100 ∧ (i.op = 0 ∨ isOp i.op = true) ∧ (i.kind = 0 ∨ i.kind = 1 ∨ (i.kind = 2 ∧ ok i.alts))
def okLw (sub : List Altn → List UInt8) (ok : List Altn → Prop) (bs : List Altn) : Prop := (wrL sub bs).length ≤ 20000 ∧ bs.length ≤ 20000 ∧ ∀ (j : Nat) (a : Altn), bs[j]? = some a → a.2.1 < 18446744073709551616 ∧ a.2.2.length ≤ 20000 ∧ ∀ (i : Nat) (y : Itm), a.2.2[i]? = some y → okIw ok y
theorem wrL_snoc (sub : List Altn → List UInt8) (bs : List Altn) (a : Altn) : wrL sub (bs ++ [a]) = wrL sub bs ++ ((if bs = [] then [] else [32, 124]) ++ wrB sub a) := by
  cases bs with
  | nil => simp [wrL]
  | cons b bs => simp [wrL]
theorem wrL_take {sub : List Altn → List UInt8} {bs : List Altn} {k : Nat} {a : Altn} (h : bs[k]? = some a) : wrL sub (bs.take (k + 1)) = wrL sub (bs.take k) ++ ((if k = 0 then [] else [32, 124]) ++ wrB sub a) := by
  have e : bs.take (k + 1) = bs.take k ++ [a] := by rw [List.take_add_one, h]; rfl
  have hk := (List.getElem?_eq_some_iff.1 h).1
  have e2 : (bs.take k = []) = (k = 0) := by
    apply propext
    constructor
    · intro h0
      have := congrArg List.length h0
      rw [List.length_take] at this
      simp only [List.length_nil] at this
      omega
    · rintro rfl
      rfl
  rw [e, wrL_snoc]
  simp only [e2]
theorem wrL_mono (sub : List Altn → List UInt8) (bs : List Altn) (k : Nat) : (wrL sub (bs.take k)).length ≤ (wrL sub bs).length := by
  have : bs = bs.take k ++ bs.drop k := (List.take_append_drop k bs).symm
  generalize bs.take k = x at *
  generalize bs.drop k = y at *
  subst this
  induction y generalizing x with
  | nil => simp
  | cons b y ih =>
    have h := ih (x ++ [b])
    rw [List.append_assoc] at h
    have h2 := congrArg List.length (wrL_snoc sub x b)
    rw [List.length_append] at h2
    have : x ++ b :: y = x ++ ([b] ++ y) := rfl
    rw [this]
    omega
theorem wrI_take {sub : List Altn → List UInt8} {is : List Itm} {i : Nat} {y : Itm} (h : is[i]? = some y) : (is.take (i + 1)).flatMap (wrI sub) = (is.take i).flatMap (wrI sub) ++ wrI sub y := by
  have e : is.take (i + 1) = is.take i ++ [y] := by rw [List.take_add_one, h]; rfl
  rw [e, List.flatMap_append]
  simp
theorem wrI_mono (sub : List Altn → List UInt8) (is : List Itm) (i : Nat) : ((is.take i).flatMap (wrI sub)).length ≤ (is.flatMap (wrI sub)).length := by
  conv => rhs; rw [← List.take_append_drop i is]
  rw [List.flatMap_append, List.length_append]
  omega
theorem op_conv {n : Nat} (h : isOp n = true) : (∀ w : World, (convert 5 21 (.int .u8 n)).run Tryz.prog w = .ok (.int .i32 n) w) ∧ (∀ w : World, (convert 21 9 (.int .i32 n)).run Tryz.prog w = .ok (.string (S [n.toUInt8])) w) ∧ ((n : Int) != 0) = true := by
  unfold isOp at h
  simp only [Bool.or_eq_true, beq_iff_eq] at h
  rcases h with (rfl | rfl) | rfl
  · exact ⟨fun w => by kernel_rfl, fun w => by kernel_rfl, rfl⟩
  · exact ⟨fun w => by kernel_rfl, fun w => by kernel_rfl, rfl⟩
  · exact ⟨fun w => by kernel_rfl, fun w => by kernel_rfl, rfl⟩
set_option maxRecDepth 100000 in
set_option maxHeartbeats 8000000 in
theorem write_list (P : World → (Nat → Prop) → Value → List Altn → Prop) (hP : KeepsP P) (hF : ∀ (w : World) (A : Nat → Prop) (v : Value) (bs : List Altn), P w A v bs → ∃ ao cap, v = .slice ao bs.length cap) (sub : List Altn → List UInt8) (ok : List Altn → Prop) (hrec : WrT P sub ok) : WrT (fun w A v bs => ListOf 3 (EAlt P) w A v bs) (wrL sub) (okLw sub ok) := by
  intro w A v bs h1 hok
  obtain ⟨ao, cap, rfl⟩ := ListOf.form h1
  have hl := hok.2.1
  have HOK := Lib.hid hok
  have H1 := Lib.hid h1
  have HP := Lib.hid hP
  have HC := Lib.hid hrec
  have HF := Lib.hid hF
  generalize hn : bs.length = n at *
  have HN := Lib.hid hn
  clear h1 hrec hP hF hn hok
  go_enter Tryz.func11, Tryz.ntmps11
  go_wp2_with fail
  go_loopw [3, 10] (fun sv i wr => ∃ (k : Nat) (T : List UInt8), i = .int .i64 k ∧ k ≤ n ∧ sv = .string (S T) ∧ T = wrL sub (bs.take k) ∧ Below w.heap.size w wr) (fun _ i _ => n - (intOf i).toNat)
  case atStart => exact ⟨0, [], rfl, Nat.zero_le _, rfl, by simp [wrL], Below.refl _ _⟩
  case round =>
    obtain ⟨k, T, rfl, hk, rfl, hT, hbr⟩ := hrel
    have HBR := Lib.hid hbr
    have HT := Lib.hid hT
    have hts : (S T).size ≤ 20000 := by
      show T.length ≤ _
      rw [hT]
      exact Nat.le_trans (wrL_mono sub bs k) HOK.out.1
    clear hT
    by_cases hlt : k < n
    · obtain ⟨x, hx⟩ : ∃ x, bs[k]? = some x := ⟨_, List.getElem?_eq_getElem (by rw [HN.out]; exact hlt)⟩
      obtain ⟨g, rfl, hg, cs, _, hcs, iv, rfl, hiv⟩ := ListOf.at_ (by rw [HN.out]; exact H1.out) hx
      obtain ⟨ai, ci, rfl⟩ := hiv.form
      obtain ⟨hw64, hm2, hoki⟩ := HOK.out.2.2 k x hx
      have htk := wrL_take (sub := sub) hx
      have htm := wrL_mono sub bs (k + 1)
      have htm2 := HOK.out.1
      have HX := Lib.hid hx
      have HIV := Lib.hid hiv
      have HOKI := Lib.hid hoki
      obtain ⟨x1, x2, xs⟩ := x
      replace hm2 : xs.length ≤ 20000 := hm2
      replace hw64 : x2 < 18446744073709551616 := hw64
      have c0 : wr.cell? ⟨g, k * 3, none⟩ = some (.int .i64 x1) := (hbr.cell (p := ⟨g, k * 3, none⟩) hg).trans (hcs 0 _ rfl)
      have c1 : wr.cell? ⟨g, k * 3 + 1, none⟩ = some (.float .f64 x2) := (hbr.cell (p := ⟨g, k * 3 + 1, none⟩) hg).trans (hcs 1 _ rfl)
      have c2 : wr.cell? ⟨g, k * 3 + 2, none⟩ = some (.slice ai xs.length ci) := (hbr.cell (p := ⟨g, k * 3 + 2, none⟩) hg).trans (hcs 2 _ rfl)
      rw [← HT.out] at htk
      replace htk : wrL sub (bs.take (k + 1)) = T ++ ((if k = 0 then [] else [32, 124]) ++ (wrW x2 ++ xs.flatMap (wrI sub))) := htk
      generalize hms : xs.length = m at *
      have HMS := Lib.hid hms
      have HTL : Hid ((T ++ ((if k = 0 then [] else [32, 124]) ++ (wrW x2 ++ xs.flatMap (wrI sub)))).length ≤ 20000) := Lib.hid (by
        have := congrArg List.length htk
        omega)
      have HTK : Hid (T ++ ((if k = 0 then [] else [32, 124]) ++ (wrW x2 ++ xs.flatMap (wrI sub))) = wrL sub (bs.take (k + 1))) := Lib.hid htk.symm
      clear hiv hcs hx hbr hms htk htm htm2 hoki
      go_upto_region 5 with fail
      have b5 := Blk.new wr 45 #[.int .i64 x1, .float .f64 x2, .slice ai m ci]
      have hb5 : Below wr.heap.size wr (wr.alloc (.cells #[.int .i64 x1, .float .f64 x2, .slice ai m ci] 45)) := (Below.refl _ _).alloc (Nat.le_refl _) _
      clear c0 c1 c2
      obtain ⟨wo, rfl⟩ : ∃ wo, wo = wr := ⟨_, rfl⟩
      generalize wo.alloc (.cells #[.int .i64 x1, .float .f64 x2, .slice ai m ci] 45) = w5 at *
      have HB5 := Lib.hid hb5
      have B5 := Lib.hid b5
      have q1 : w5.cell? ⟨wo.heap.size, 1, none⟩ = some (.float .f64 x2) := b5.cell 1
      have q2 : w5.cell? ⟨wo.heap.size, 2, none⟩ = some (.slice ai m ci) := b5.cell 2
      have l5 := b5.lt
      clear hb5 b5
      obtain ⟨T1, hT1⟩ : ∃ T1, T1 = T ++ (if k = 0 then [] else [32, 124]) := ⟨_, rfl⟩
      have HT1 := Lib.hid hT1
      have HTK1 : Hid (T1 ++ (wrW x2 ++ xs.flatMap (wrI sub)) = wrL sub (bs.take (k + 1))) := Lib.hid (by rw [hT1, List.append_assoc]; exact HTK.out)
      have ht1 : (S T1).size ≤ 20000 := by
        show T1.length ≤ _
        rw [hT1]
        have := HTL.out
        simp only [List.length_append] at this ⊢
        omega
      by_cases hk0 : k = 0
      · have hpos : ¬ (0 : Int) < (k : Int) := by omega
        have e1 : T1 = T := by rw [hT1, if_pos hk0]; simp
        subst e1
        have HK0 := Lib.hid hk0
        clear hk0
        clear hT1
        go_upto_region 7 with fail
        have hsm := fun w => rsame_any x2 0 w hw64 (by decide)
        obtain ⟨T2, hT2⟩ : ∃ T2, T2 = T1 ++ wrW x2 := ⟨_, rfl⟩
        have HT2 := Lib.hid hT2
        have ht2 : (S T2).size ≤ 20000 := by
          show T2.length ≤ _
          have := HTL.out
          rw [hT2, HT1.out]
          simp only [List.length_append] at this ⊢
          omega
        have HIN : Hid (∀ w6, Below w5.heap.size w5 w6 → Blk w6 wo.heap.size 45 #[.int .i64 x1, .float .f64 x2, .slice ai m ci]) := Lib.hid (fun w6 h => B5.out.below h B5.out.lt)
        by_cases hw0 : keyN x2 = keyN 0
        · rw [decide_eq_true hw0] at hsm
          have e2 : T2 = T1 := by rw [hT2, wrW, if_pos hw0]; simp
          subst e2
          have HS := Lib.hid hsm
          clear hT2 hsm
          go_wp2_with (go_at_call 19; refine (HS.out _).mono ?_; rintro e w6 ⟨rfl, rfl⟩)
          have HB6 := Lib.hid (Below.refl w5.heap.size w5)
          obtain ⟨w6, hw6⟩ : ∃ w6, w6 = w5 := ⟨_, rfl⟩
          clear q1 q2 l5
          have HBS := Lib.hid (HBR.out.trans (HB5.out.mono HBR.out.size))
          go_loopw [3, 32] (fun sv j wi => ∃ (i : Nat) (U : List UInt8), j = .int .i64 i ∧ i ≤ m ∧ sv = .string (S U) ∧ U = T2 ++ (xs.take i).flatMap (wrI sub) ∧ Below w.heap.size w wi) (fun _ j _ => m - (intOf j).toNat)
          case atStart => exact ⟨0, T2, rfl, Nat.zero_le _, rfl, by simp, HBS.out⟩
          case round =>
            obtain ⟨i, U, rfl, hi, rfl, hU, hbi⟩ := hrel
            have HU := Lib.hid hU
            have HBI := Lib.hid hbi
            have hzi := hbi.size
            by_cases hli : i < m
            · obtain ⟨y, hy⟩ : ∃ y, xs[i]? = some y := ⟨_, List.getElem?_eq_getElem (by rw [HMS.out]; exact hli)⟩
              obtain ⟨g3, rfl, hg3, cs3, _, hcs3, av, rfl, hav⟩ := ListOf.at_ (by rw [HMS.out]; exact HIV.out) hy
              obtain ⟨ay, cy, rfl⟩ := HF.out _ _ _ _ hav
              have e0 : wr.cell? ⟨g3, i * 5, none⟩ = some (.int .i64 y.at_) := (hbi.cell (p := ⟨g3, i * 5, none⟩) hg3).trans (hcs3 0 _ rfl)
              have e1 : wr.cell? ⟨g3, i * 5 + 1, none⟩ = some (.int .i64 y.kind) := (hbi.cell (p := ⟨g3, i * 5 + 1, none⟩) hg3).trans (hcs3 1 _ rfl)
              have e2 : wr.cell? ⟨g3, i * 5 + 2, none⟩ = some (.string (S y.text)) := (hbi.cell (p := ⟨g3, i * 5 + 2, none⟩) hg3).trans (hcs3 2 _ rfl)
              have e3 : wr.cell? ⟨g3, i * 5 + 3, none⟩ = some (.slice ay y.alts.length cy) := (hbi.cell (p := ⟨g3, i * 5 + 3, none⟩) hg3).trans (hcs3 3 _ rfl)
              have e4 : wr.cell? ⟨g3, i * 5 + 4, none⟩ = some (.int .u8 y.op) := (hbi.cell (p := ⟨g3, i * 5 + 4, none⟩) hg3).trans (hcs3 4 _ rfl)
              obtain ⟨htx, hop, hkd⟩ := HOKI.out i y hy
              have hit := wrI_take (sub := sub) hy
              have him := wrI_mono sub xs (i + 1)
              have HUN : Hid (U ++ wrI sub y = T2 ++ (xs.take (i + 1)).flatMap (wrI sub)) := Lib.hid (by rw [hit, hU]; simp)
              have HUL : Hid ((U ++ wrI sub y).length ≤ 20000) := Lib.hid (by
                rw [HUN.out, HT2.out, HT1.out]
                have := HTL.out
                simp only [List.length_append] at this ⊢
                omega)
              have hus : (S U).size ≤ 20000 := by
                show U.length ≤ _
                have := HUL.out
                rw [List.length_append] at this
                omega
              have HAV := Lib.hid (HP.out _ _ _ _ _ _ hav (fun g hg hA => ⟨hA, hbi.block g hg⟩) hbi.size)
              clear hav hcs3 hy hbi hU hit him
              obtain ⟨Y1, Y2, Y3, Y4, Y5⟩ := y
              simp only [Itm.at_, Itm.kind, Itm.text, Itm.alts, Itm.op] at e0 e1 e2 e3 e4 HAV htx hop hkd
              replace htx : (S Y3).size ≤ 100 := htx
              go_upto_region 12 with fail
              have b8 := Blk.new wr 47 #[.int .i64 Y1, .int .i64 Y2, .string (S Y3), .slice ay Y4.length cy, .int .u8 Y5]
              have hb8 : Below wr.heap.size wr (wr.alloc (.cells #[.int .i64 Y1, .int .i64 Y2, .string (S Y3), .slice ay Y4.length cy, .int .u8 Y5] 47)) := (Below.refl _ _).alloc (Nat.le_refl _) _
              clear e0 e1 e2 e3 e4
              generalize wr.alloc (.cells #[.int .i64 Y1, .int .i64 Y2, .string (S Y3), .slice ay Y4.length cy, .int .u8 Y5] 47) = w9 at *
              have HB9 := Lib.hid (HBI.out.trans (hb8.mono HBI.out.size))
              have HB8 := Lib.hid hb8
              have B8 := Lib.hid b8
              have m1 : w9.cell? ⟨wr.heap.size, 1, none⟩ = some (.int .i64 Y2) := b8.cell 1
              have m2 : w9.cell? ⟨wr.heap.size, 2, none⟩ = some (.string (S Y3)) := b8.cell 2
              have m3 : w9.cell? ⟨wr.heap.size, 3, none⟩ = some (.slice ay Y4.length cy) := b8.cell 3
              have m4 : w9.cell? ⟨wr.heap.size, 4, none⟩ = some (.int .u8 Y5) := b8.cell 4
              have l8 := b8.lt
              clear b8 hb8
              obtain ⟨V, hV⟩ : ∃ V, V = if Y2 = 0 then 32 :: Y3 else if Y2 = 1 then 32 :: 39 :: (Y3 ++ [39]) else 32 :: 40 :: (sub Y4 ++ [32, 41]) := ⟨_, rfl⟩
              have HV : Hid (wrI sub (.mk Y1 Y2 Y3 Y4 Y5) = V ++ (if Y5 = 0 then [] else [Y5.toUInt8])) := Lib.hid (by rw [hV]; rfl)
              have hvs : (S (U ++ V)).size ≤ 20000 := by
                show (U ++ V).length ≤ _
                have := HUL.out
                rw [HV.out] at this
                simp only [List.length_append] at this ⊢
                omega
              obtain ⟨WI, hWI⟩ : ∃ WI, WI = wrI sub (.mk Y1 Y2 Y3 Y4 Y5) := ⟨_, rfl⟩
              rw [← hWI] at HV HUN HUL
              clear hWI
              rcases hkd with rfl | rfl | ⟨rfl, hok⟩
              · have e5 : S U ++ (({ data := #[32] } : ByteArray) ++ S Y3) = S (U ++ V) := by rw [hV, if_pos rfl, show ({ data := #[32] } : ByteArray) = S [32] from rfl, S_cat, S_cat]; rfl
                clear hV
                go_upto_region 18 with fail
                try rw [e5]
                clear e5 m1 m2 m3
                obtain ⟨w10, hw10⟩ : ∃ w10, w10 = w9 := ⟨_, rfl⟩
                have HB10 := Lib.hid HB9.out
                rcases hop with rfl | hop
                · go_wp2_with fail
                  refine ⟨⟨i + 1, U ++ V, by go_num, hli, rfl, ?_, HB10.out⟩, by simp only [intOf]; omega⟩
                  rw [← HUN.out, HV.out]
                  simp
                · obtain ⟨v1, v2, v3⟩ := op_conv hop
                  generalize hc8 : Y5.toUInt8 = c8 at *
                  have e6 : S (U ++ V) ++ S [c8] = S (U ++ WI) := by rw [S_cat, HV.out, if_neg (op_sgn hop).2.1, List.append_assoc]
                  clear hc8
                  have hs1 : (S [c8]).size ≤ 1 := Nat.le_refl _
                  go_wp2_with fail
                  exact ⟨⟨i + 1, _, by go_num, hli, (by first | rfl | exact congrArg Value.string e6), HUN.out, HB10.out⟩, by simp only [intOf]; omega⟩
              · have e5 : S U ++ ((({ data := #[32, 39] } : ByteArray) ++ S Y3) ++ ({ data := #[39] } : ByteArray)) = S (U ++ V) := by rw [hV, if_neg (by decide), if_pos rfl, show ({ data := #[32, 39] } : ByteArray) = S [32, 39] from rfl, show ({ data := #[39] } : ByteArray) = S [39] from rfl, S_cat, S_cat, S_cat]; rfl
                clear hV
                go_upto_region 18 with fail
                try rw [e5]
                clear e5 m1 m2 m3
                obtain ⟨w10, hw10⟩ : ∃ w10, w10 = w9 := ⟨_, rfl⟩
                have HB10 := Lib.hid HB9.out
                rcases hop with rfl | hop
                · go_wp2_with fail
                  refine ⟨⟨i + 1, U ++ V, by go_num, hli, rfl, ?_, HB10.out⟩, by simp only [intOf]; omega⟩
                  rw [← HUN.out, HV.out]
                  simp
                · obtain ⟨v1, v2, v3⟩ := op_conv hop
                  generalize hc8 : Y5.toUInt8 = c8 at *
                  have e6 : S (U ++ V) ++ S [c8] = S (U ++ WI) := by rw [S_cat, HV.out, if_neg (op_sgn hop).2.1, List.append_assoc]
                  clear hc8
                  have hs1 : (S [c8]).size ≤ 1 := Nat.le_refl _
                  go_wp2_with fail
                  exact ⟨⟨i + 1, _, by go_num, hli, (by first | rfl | exact congrArg Value.string e6), HUN.out, HB10.out⟩, by simp only [intOf]; omega⟩
              · have e5 : S U ++ ((({ data := #[32, 40] } : ByteArray) ++ S (sub Y4)) ++ ({ data := #[32, 41] } : ByteArray)) = S (U ++ V) := by rw [hV, if_neg (by decide), if_neg (by decide), show ({ data := #[32, 40] } : ByteArray) = S [32, 40] from rfl, show ({ data := #[32, 41] } : ByteArray) = S [32, 41] from rfl, S_cat, S_cat, S_cat]; rfl
                have hsl : (S (sub Y4)).size ≤ 20000 := by
                  show (sub Y4).length ≤ _
                  rw [hV, if_neg (by decide), if_neg (by decide)] at hvs
                  have hvs : (U ++ 32 :: 40 :: (sub Y4 ++ [32, 41])).length ≤ 20000 := hvs
                  simp only [List.length_append, List.length_cons] at hvs
                  omega
                have HW := Lib.hid (HC.out w9 _ _ Y4 (HP.out _ _ _ _ _ _ HAV.out (fun g hg hA => ⟨hA, HB8.out.block g hg⟩) HB8.out.size) hok)
                clear hV
                go_upto_region 18 with (go_at_call 11; refine HW.out.mono ?_; rintro e w10 ⟨rfl, hb10⟩)
                try rw [e5]
                have m4 : w10.cell? ⟨wr.heap.size, 4, none⟩ = some (.int .u8 Y5) := (B8.out.below hb10 B8.out.lt).cell 4
                have HB10 := Lib.hid (HB9.out.trans (hb10.mono HB9.out.size))
                have l8 : wr.heap.size < w10.heap.size := (B8.out.below hb10 B8.out.lt).lt
                clear e5 m1 m2 m3 hsl hb10
                rcases hop with rfl | hop
                · go_wp2_with fail
                  refine ⟨⟨i + 1, U ++ V, by go_num, hli, rfl, ?_, HB10.out⟩, by simp only [intOf]; omega⟩
                  rw [← HUN.out, HV.out]
                  simp
                · obtain ⟨v1, v2, v3⟩ := op_conv hop
                  generalize hc8 : Y5.toUInt8 = c8 at *
                  have e6 : S (U ++ V) ++ S [c8] = S (U ++ WI) := by rw [S_cat, HV.out, if_neg (op_sgn hop).2.1, List.append_assoc]
                  clear hc8
                  have hs1 : (S [c8]).size ≤ 1 := Nat.le_refl _
                  go_wp2_with fail
                  exact ⟨⟨i + 1, _, by go_num, hli, (by first | rfl | exact congrArg Value.string e6), HUN.out, HB10.out⟩, by simp only [intOf]; omega⟩
            · obtain rfl : i = m := by omega
              clear hbi hU
              go_wp2_with fail
              refine ⟨⟨k + 1, U, by go_num, hlt, rfl, ?_, HBI.out⟩, by simp only [intOf]; omega⟩
              rw [← HTK1.out, HU.out, List.take_of_length_le (by rw [HMS.out]; exact Nat.le_refl _)]
              exact (congrArg (fun z => z ++ xs.flatMap (wrI sub)) HT2.out).trans (by simp only [List.append_assoc])
        
        · rw [decide_eq_false hw0] at hsm
          have e2 : S T1 ++ (({ data := #[32, 37] } : ByteArray) ++ S (numP x2)) = S T2 := by rw [hT2, wrW, if_neg hw0, show ({ data := #[32, 37] } : ByteArray) = S [32, 37] from rfl, S_cat, S_cat]; rfl
          have hnl : (S (numP x2)).size ≤ 4 := (num_facts' x2).2.2.2.1
          have HS := Lib.hid hsm
          have HNM := Lib.hid (number_any x2 hw64)
          clear hT2 hsm
          go_upto_region 9 with (first | (go_at_call 19; refine (HS.out _).mono ?_; rintro e w6 ⟨rfl, rfl⟩) | (go_at_call 23; refine (HNM.out _).mono ?_; rintro e w6 ⟨rfl, hb6⟩))
          try rw [e2]
          have HBS := Lib.hid (HBR.out.trans ((HB5.out.trans (hb6.mono HB5.out.size)).mono HBR.out.size))
          have b6 := HIN.out w6 hb6
          have q2 : w6.cell? ⟨wo.heap.size, 2, none⟩ = some (.slice ai m ci) := b6.cell 2
          have l5 := b6.lt
          clear e2 q1 hnl b6 hb6
          go_wp2_with fail
          clear q2 l5
          go_loopw [3, 32] (fun sv j wi => ∃ (i : Nat) (U : List UInt8), j = .int .i64 i ∧ i ≤ m ∧ sv = .string (S U) ∧ U = T2 ++ (xs.take i).flatMap (wrI sub) ∧ Below w.heap.size w wi) (fun _ j _ => m - (intOf j).toNat)
          case atStart => exact ⟨0, T2, rfl, Nat.zero_le _, rfl, by simp, HBS.out⟩
          case round =>
            obtain ⟨i, U, rfl, hi, rfl, hU, hbi⟩ := hrel
            have HU := Lib.hid hU
            have HBI := Lib.hid hbi
            have hzi := hbi.size
            by_cases hli : i < m
            · obtain ⟨y, hy⟩ : ∃ y, xs[i]? = some y := ⟨_, List.getElem?_eq_getElem (by rw [HMS.out]; exact hli)⟩
              obtain ⟨g3, rfl, hg3, cs3, _, hcs3, av, rfl, hav⟩ := ListOf.at_ (by rw [HMS.out]; exact HIV.out) hy
              obtain ⟨ay, cy, rfl⟩ := HF.out _ _ _ _ hav
              have e0 : wr.cell? ⟨g3, i * 5, none⟩ = some (.int .i64 y.at_) := (hbi.cell (p := ⟨g3, i * 5, none⟩) hg3).trans (hcs3 0 _ rfl)
              have e1 : wr.cell? ⟨g3, i * 5 + 1, none⟩ = some (.int .i64 y.kind) := (hbi.cell (p := ⟨g3, i * 5 + 1, none⟩) hg3).trans (hcs3 1 _ rfl)
              have e2 : wr.cell? ⟨g3, i * 5 + 2, none⟩ = some (.string (S y.text)) := (hbi.cell (p := ⟨g3, i * 5 + 2, none⟩) hg3).trans (hcs3 2 _ rfl)
              have e3 : wr.cell? ⟨g3, i * 5 + 3, none⟩ = some (.slice ay y.alts.length cy) := (hbi.cell (p := ⟨g3, i * 5 + 3, none⟩) hg3).trans (hcs3 3 _ rfl)
              have e4 : wr.cell? ⟨g3, i * 5 + 4, none⟩ = some (.int .u8 y.op) := (hbi.cell (p := ⟨g3, i * 5 + 4, none⟩) hg3).trans (hcs3 4 _ rfl)
              obtain ⟨htx, hop, hkd⟩ := HOKI.out i y hy
              have hit := wrI_take (sub := sub) hy
              have him := wrI_mono sub xs (i + 1)
              have HUN : Hid (U ++ wrI sub y = T2 ++ (xs.take (i + 1)).flatMap (wrI sub)) := Lib.hid (by rw [hit, hU]; simp)
              have HUL : Hid ((U ++ wrI sub y).length ≤ 20000) := Lib.hid (by
                rw [HUN.out, HT2.out, HT1.out]
                have := HTL.out
                simp only [List.length_append] at this ⊢
                omega)
              have hus : (S U).size ≤ 20000 := by
                show U.length ≤ _
                have := HUL.out
                rw [List.length_append] at this
                omega
              have HAV := Lib.hid (HP.out _ _ _ _ _ _ hav (fun g hg hA => ⟨hA, hbi.block g hg⟩) hbi.size)
              clear hav hcs3 hy hbi hU hit him
              obtain ⟨Y1, Y2, Y3, Y4, Y5⟩ := y
              simp only [Itm.at_, Itm.kind, Itm.text, Itm.alts, Itm.op] at e0 e1 e2 e3 e4 HAV htx hop hkd
              replace htx : (S Y3).size ≤ 100 := htx
              go_upto_region 12 with fail
              have b8 := Blk.new wr 47 #[.int .i64 Y1, .int .i64 Y2, .string (S Y3), .slice ay Y4.length cy, .int .u8 Y5]
              have hb8 : Below wr.heap.size wr (wr.alloc (.cells #[.int .i64 Y1, .int .i64 Y2, .string (S Y3), .slice ay Y4.length cy, .int .u8 Y5] 47)) := (Below.refl _ _).alloc (Nat.le_refl _) _
              clear e0 e1 e2 e3 e4
              generalize wr.alloc (.cells #[.int .i64 Y1, .int .i64 Y2, .string (S Y3), .slice ay Y4.length cy, .int .u8 Y5] 47) = w9 at *
              have HB9 := Lib.hid (HBI.out.trans (hb8.mono HBI.out.size))
              have HB8 := Lib.hid hb8
              have B8 := Lib.hid b8
              have m1 : w9.cell? ⟨wr.heap.size, 1, none⟩ = some (.int .i64 Y2) := b8.cell 1
              have m2 : w9.cell? ⟨wr.heap.size, 2, none⟩ = some (.string (S Y3)) := b8.cell 2
              have m3 : w9.cell? ⟨wr.heap.size, 3, none⟩ = some (.slice ay Y4.length cy) := b8.cell 3
              have m4 : w9.cell? ⟨wr.heap.size, 4, none⟩ = some (.int .u8 Y5) := b8.cell 4
              have l8 := b8.lt
              clear b8 hb8
              obtain ⟨V, hV⟩ : ∃ V, V = if Y2 = 0 then 32 :: Y3 else if Y2 = 1 then 32 :: 39 :: (Y3 ++ [39]) else 32 :: 40 :: (sub Y4 ++ [32, 41]) := ⟨_, rfl⟩
              have HV : Hid (wrI sub (.mk Y1 Y2 Y3 Y4 Y5) = V ++ (if Y5 = 0 then [] else [Y5.toUInt8])) := Lib.hid (by rw [hV]; rfl)
              have hvs : (S (U ++ V)).size ≤ 20000 := by
                show (U ++ V).length ≤ _
                have := HUL.out
                rw [HV.out] at this
                simp only [List.length_append] at this ⊢
                omega
              obtain ⟨WI, hWI⟩ : ∃ WI, WI = wrI sub (.mk Y1 Y2 Y3 Y4 Y5) := ⟨_, rfl⟩
              rw [← hWI] at HV HUN HUL
              clear hWI
              rcases hkd with rfl | rfl | ⟨rfl, hok⟩
              · have e5 : S U ++ (({ data := #[32] } : ByteArray) ++ S Y3) = S (U ++ V) := by rw [hV, if_pos rfl, show ({ data := #[32] } : ByteArray) = S [32] from rfl, S_cat, S_cat]; rfl
                clear hV
                go_upto_region 18 with fail
                try rw [e5]
                clear e5 m1 m2 m3
                obtain ⟨w10, hw10⟩ : ∃ w10, w10 = w9 := ⟨_, rfl⟩
                have HB10 := Lib.hid HB9.out
                rcases hop with rfl | hop
                · go_wp2_with fail
                  refine ⟨⟨i + 1, U ++ V, by go_num, hli, rfl, ?_, HB10.out⟩, by simp only [intOf]; omega⟩
                  rw [← HUN.out, HV.out]
                  simp
                · obtain ⟨v1, v2, v3⟩ := op_conv hop
                  generalize hc8 : Y5.toUInt8 = c8 at *
                  have e6 : S (U ++ V) ++ S [c8] = S (U ++ WI) := by rw [S_cat, HV.out, if_neg (op_sgn hop).2.1, List.append_assoc]
                  clear hc8
                  have hs1 : (S [c8]).size ≤ 1 := Nat.le_refl _
                  go_wp2_with fail
                  exact ⟨⟨i + 1, _, by go_num, hli, (by first | rfl | exact congrArg Value.string e6), HUN.out, HB10.out⟩, by simp only [intOf]; omega⟩
              · have e5 : S U ++ ((({ data := #[32, 39] } : ByteArray) ++ S Y3) ++ ({ data := #[39] } : ByteArray)) = S (U ++ V) := by rw [hV, if_neg (by decide), if_pos rfl, show ({ data := #[32, 39] } : ByteArray) = S [32, 39] from rfl, show ({ data := #[39] } : ByteArray) = S [39] from rfl, S_cat, S_cat, S_cat]; rfl
                clear hV
                go_upto_region 18 with fail
                try rw [e5]
                clear e5 m1 m2 m3
                obtain ⟨w10, hw10⟩ : ∃ w10, w10 = w9 := ⟨_, rfl⟩
                have HB10 := Lib.hid HB9.out
                rcases hop with rfl | hop
                · go_wp2_with fail
                  refine ⟨⟨i + 1, U ++ V, by go_num, hli, rfl, ?_, HB10.out⟩, by simp only [intOf]; omega⟩
                  rw [← HUN.out, HV.out]
                  simp
                · obtain ⟨v1, v2, v3⟩ := op_conv hop
                  generalize hc8 : Y5.toUInt8 = c8 at *
                  have e6 : S (U ++ V) ++ S [c8] = S (U ++ WI) := by rw [S_cat, HV.out, if_neg (op_sgn hop).2.1, List.append_assoc]
                  clear hc8
                  have hs1 : (S [c8]).size ≤ 1 := Nat.le_refl _
                  go_wp2_with fail
                  exact ⟨⟨i + 1, _, by go_num, hli, (by first | rfl | exact congrArg Value.string e6), HUN.out, HB10.out⟩, by simp only [intOf]; omega⟩
              · have e5 : S U ++ ((({ data := #[32, 40] } : ByteArray) ++ S (sub Y4)) ++ ({ data := #[32, 41] } : ByteArray)) = S (U ++ V) := by rw [hV, if_neg (by decide), if_neg (by decide), show ({ data := #[32, 40] } : ByteArray) = S [32, 40] from rfl, show ({ data := #[32, 41] } : ByteArray) = S [32, 41] from rfl, S_cat, S_cat, S_cat]; rfl
                have hsl : (S (sub Y4)).size ≤ 20000 := by
                  show (sub Y4).length ≤ _
                  rw [hV, if_neg (by decide), if_neg (by decide)] at hvs
                  have hvs : (U ++ 32 :: 40 :: (sub Y4 ++ [32, 41])).length ≤ 20000 := hvs
                  simp only [List.length_append, List.length_cons] at hvs
                  omega
                have HW := Lib.hid (HC.out w9 _ _ Y4 (HP.out _ _ _ _ _ _ HAV.out (fun g hg hA => ⟨hA, HB8.out.block g hg⟩) HB8.out.size) hok)
                clear hV
                go_upto_region 18 with (go_at_call 11; refine HW.out.mono ?_; rintro e w10 ⟨rfl, hb10⟩)
                try rw [e5]
                have m4 : w10.cell? ⟨wr.heap.size, 4, none⟩ = some (.int .u8 Y5) := (B8.out.below hb10 B8.out.lt).cell 4
                have HB10 := Lib.hid (HB9.out.trans (hb10.mono HB9.out.size))
                have l8 : wr.heap.size < w10.heap.size := (B8.out.below hb10 B8.out.lt).lt
                clear e5 m1 m2 m3 hsl hb10
                rcases hop with rfl | hop
                · go_wp2_with fail
                  refine ⟨⟨i + 1, U ++ V, by go_num, hli, rfl, ?_, HB10.out⟩, by simp only [intOf]; omega⟩
                  rw [← HUN.out, HV.out]
                  simp
                · obtain ⟨v1, v2, v3⟩ := op_conv hop
                  generalize hc8 : Y5.toUInt8 = c8 at *
                  have e6 : S (U ++ V) ++ S [c8] = S (U ++ WI) := by rw [S_cat, HV.out, if_neg (op_sgn hop).2.1, List.append_assoc]
                  clear hc8
                  have hs1 : (S [c8]).size ≤ 1 := Nat.le_refl _
                  go_wp2_with fail
                  exact ⟨⟨i + 1, _, by go_num, hli, (by first | rfl | exact congrArg Value.string e6), HUN.out, HB10.out⟩, by simp only [intOf]; omega⟩
            · obtain rfl : i = m := by omega
              clear hbi hU
              go_wp2_with fail
              refine ⟨⟨k + 1, U, by go_num, hlt, rfl, ?_, HBI.out⟩, by simp only [intOf]; omega⟩
              rw [← HTK1.out, HU.out, List.take_of_length_le (by rw [HMS.out]; exact Nat.le_refl _)]
              exact (congrArg (fun z => z ++ xs.flatMap (wrI sub)) HT2.out).trans (by simp only [List.append_assoc])
      · have hpos : (0 : Int) < (k : Int) := by omega
        have e1 : S T ++ ({ data := #[32, 124] } : ByteArray) = S T1 := by rw [hT1, if_neg hk0]; exact S_cat T [32, 124]
        clear hT1
        go_upto_region 7 with fail
        try rw [e1]
        clear e1 hts
        have hsm := fun w => rsame_any x2 0 w hw64 (by decide)
        obtain ⟨T2, hT2⟩ : ∃ T2, T2 = T1 ++ wrW x2 := ⟨_, rfl⟩
        have HT2 := Lib.hid hT2
        have ht2 : (S T2).size ≤ 20000 := by
          show T2.length ≤ _
          have := HTL.out
          rw [hT2, HT1.out]
          simp only [List.length_append] at this ⊢
          omega
        have HIN : Hid (∀ w6, Below w5.heap.size w5 w6 → Blk w6 wo.heap.size 45 #[.int .i64 x1, .float .f64 x2, .slice ai m ci]) := Lib.hid (fun w6 h => B5.out.below h B5.out.lt)
        by_cases hw0 : keyN x2 = keyN 0
        · rw [decide_eq_true hw0] at hsm
          have e2 : T2 = T1 := by rw [hT2, wrW, if_pos hw0]; simp
          subst e2
          have HS := Lib.hid hsm
          clear hT2 hsm
          go_wp2_with (go_at_call 19; refine (HS.out _).mono ?_; rintro e w6 ⟨rfl, rfl⟩)
          have HB6 := Lib.hid (Below.refl w5.heap.size w5)
          obtain ⟨w6, hw6⟩ : ∃ w6, w6 = w5 := ⟨_, rfl⟩
          clear q1 q2 l5
          have HBS := Lib.hid (HBR.out.trans (HB5.out.mono HBR.out.size))
          go_loopw [3, 32] (fun sv j wi => ∃ (i : Nat) (U : List UInt8), j = .int .i64 i ∧ i ≤ m ∧ sv = .string (S U) ∧ U = T2 ++ (xs.take i).flatMap (wrI sub) ∧ Below w.heap.size w wi) (fun _ j _ => m - (intOf j).toNat)
          case atStart => exact ⟨0, T2, rfl, Nat.zero_le _, rfl, by simp, HBS.out⟩
          case round =>
            obtain ⟨i, U, rfl, hi, rfl, hU, hbi⟩ := hrel
            have HU := Lib.hid hU
            have HBI := Lib.hid hbi
            have hzi := hbi.size
            by_cases hli : i < m
            · obtain ⟨y, hy⟩ : ∃ y, xs[i]? = some y := ⟨_, List.getElem?_eq_getElem (by rw [HMS.out]; exact hli)⟩
              obtain ⟨g3, rfl, hg3, cs3, _, hcs3, av, rfl, hav⟩ := ListOf.at_ (by rw [HMS.out]; exact HIV.out) hy
              obtain ⟨ay, cy, rfl⟩ := HF.out _ _ _ _ hav
              have e0 : wr.cell? ⟨g3, i * 5, none⟩ = some (.int .i64 y.at_) := (hbi.cell (p := ⟨g3, i * 5, none⟩) hg3).trans (hcs3 0 _ rfl)
              have e1 : wr.cell? ⟨g3, i * 5 + 1, none⟩ = some (.int .i64 y.kind) := (hbi.cell (p := ⟨g3, i * 5 + 1, none⟩) hg3).trans (hcs3 1 _ rfl)
              have e2 : wr.cell? ⟨g3, i * 5 + 2, none⟩ = some (.string (S y.text)) := (hbi.cell (p := ⟨g3, i * 5 + 2, none⟩) hg3).trans (hcs3 2 _ rfl)
              have e3 : wr.cell? ⟨g3, i * 5 + 3, none⟩ = some (.slice ay y.alts.length cy) := (hbi.cell (p := ⟨g3, i * 5 + 3, none⟩) hg3).trans (hcs3 3 _ rfl)
              have e4 : wr.cell? ⟨g3, i * 5 + 4, none⟩ = some (.int .u8 y.op) := (hbi.cell (p := ⟨g3, i * 5 + 4, none⟩) hg3).trans (hcs3 4 _ rfl)
              obtain ⟨htx, hop, hkd⟩ := HOKI.out i y hy
              have hit := wrI_take (sub := sub) hy
              have him := wrI_mono sub xs (i + 1)
              have HUN : Hid (U ++ wrI sub y = T2 ++ (xs.take (i + 1)).flatMap (wrI sub)) := Lib.hid (by rw [hit, hU]; simp)
              have HUL : Hid ((U ++ wrI sub y).length ≤ 20000) := Lib.hid (by
                rw [HUN.out, HT2.out, HT1.out]
                have := HTL.out
                simp only [List.length_append] at this ⊢
                omega)
              have hus : (S U).size ≤ 20000 := by
                show U.length ≤ _
                have := HUL.out
                rw [List.length_append] at this
                omega
              have HAV := Lib.hid (HP.out _ _ _ _ _ _ hav (fun g hg hA => ⟨hA, hbi.block g hg⟩) hbi.size)
              clear hav hcs3 hy hbi hU hit him
              obtain ⟨Y1, Y2, Y3, Y4, Y5⟩ := y
              simp only [Itm.at_, Itm.kind, Itm.text, Itm.alts, Itm.op] at e0 e1 e2 e3 e4 HAV htx hop hkd
              replace htx : (S Y3).size ≤ 100 := htx
              go_upto_region 12 with fail
              have b8 := Blk.new wr 47 #[.int .i64 Y1, .int .i64 Y2, .string (S Y3), .slice ay Y4.length cy, .int .u8 Y5]
              have hb8 : Below wr.heap.size wr (wr.alloc (.cells #[.int .i64 Y1, .int .i64 Y2, .string (S Y3), .slice ay Y4.length cy, .int .u8 Y5] 47)) := (Below.refl _ _).alloc (Nat.le_refl _) _
              clear e0 e1 e2 e3 e4
              generalize wr.alloc (.cells #[.int .i64 Y1, .int .i64 Y2, .string (S Y3), .slice ay Y4.length cy, .int .u8 Y5] 47) = w9 at *
              have HB9 := Lib.hid (HBI.out.trans (hb8.mono HBI.out.size))
              have HB8 := Lib.hid hb8
              have B8 := Lib.hid b8
              have m1 : w9.cell? ⟨wr.heap.size, 1, none⟩ = some (.int .i64 Y2) := b8.cell 1
              have m2 : w9.cell? ⟨wr.heap.size, 2, none⟩ = some (.string (S Y3)) := b8.cell 2
              have m3 : w9.cell? ⟨wr.heap.size, 3, none⟩ = some (.slice ay Y4.length cy) := b8.cell 3
              have m4 : w9.cell? ⟨wr.heap.size, 4, none⟩ = some (.int .u8 Y5) := b8.cell 4
              have l8 := b8.lt
              clear b8 hb8
              obtain ⟨V, hV⟩ : ∃ V, V = if Y2 = 0 then 32 :: Y3 else if Y2 = 1 then 32 :: 39 :: (Y3 ++ [39]) else 32 :: 40 :: (sub Y4 ++ [32, 41]) := ⟨_, rfl⟩
              have HV : Hid (wrI sub (.mk Y1 Y2 Y3 Y4 Y5) = V ++ (if Y5 = 0 then [] else [Y5.toUInt8])) := Lib.hid (by rw [hV]; rfl)
              have hvs : (S (U ++ V)).size ≤ 20000 := by
                show (U ++ V).length ≤ _
                have := HUL.out
                rw [HV.out] at this
                simp only [List.length_append] at this ⊢
                omega
              obtain ⟨WI, hWI⟩ : ∃ WI, WI = wrI sub (.mk Y1 Y2 Y3 Y4 Y5) := ⟨_, rfl⟩
              rw [← hWI] at HV HUN HUL
              clear hWI
              rcases hkd with rfl | rfl | ⟨rfl, hok⟩
              · have e5 : S U ++ (({ data := #[32] } : ByteArray) ++ S Y3) = S (U ++ V) := by rw [hV, if_pos rfl, show ({ data := #[32] } : ByteArray) = S [32] from rfl, S_cat, S_cat]; rfl
                clear hV
                go_upto_region 18 with fail
                try rw [e5]
                clear e5 m1 m2 m3
                obtain ⟨w10, hw10⟩ : ∃ w10, w10 = w9 := ⟨_, rfl⟩
                have HB10 := Lib.hid HB9.out
                rcases hop with rfl | hop
                · go_wp2_with fail
                  refine ⟨⟨i + 1, U ++ V, by go_num, hli, rfl, ?_, HB10.out⟩, by simp only [intOf]; omega⟩
                  rw [← HUN.out, HV.out]
                  simp
                · obtain ⟨v1, v2, v3⟩ := op_conv hop
                  generalize hc8 : Y5.toUInt8 = c8 at *
                  have e6 : S (U ++ V) ++ S [c8] = S (U ++ WI) := by rw [S_cat, HV.out, if_neg (op_sgn hop).2.1, List.append_assoc]
                  clear hc8
                  have hs1 : (S [c8]).size ≤ 1 := Nat.le_refl _
                  go_wp2_with fail
                  exact ⟨⟨i + 1, _, by go_num, hli, (by first | rfl | exact congrArg Value.string e6), HUN.out, HB10.out⟩, by simp only [intOf]; omega⟩
              · have e5 : S U ++ ((({ data := #[32, 39] } : ByteArray) ++ S Y3) ++ ({ data := #[39] } : ByteArray)) = S (U ++ V) := by rw [hV, if_neg (by decide), if_pos rfl, show ({ data := #[32, 39] } : ByteArray) = S [32, 39] from rfl, show ({ data := #[39] } : ByteArray) = S [39] from rfl, S_cat, S_cat, S_cat]; rfl
                clear hV
                go_upto_region 18 with fail
                try rw [e5]
                clear e5 m1 m2 m3
                obtain ⟨w10, hw10⟩ : ∃ w10, w10 = w9 := ⟨_, rfl⟩
                have HB10 := Lib.hid HB9.out
                rcases hop with rfl | hop
                · go_wp2_with fail
                  refine ⟨⟨i + 1, U ++ V, by go_num, hli, rfl, ?_, HB10.out⟩, by simp only [intOf]; omega⟩
                  rw [← HUN.out, HV.out]
                  simp
                · obtain ⟨v1, v2, v3⟩ := op_conv hop
                  generalize hc8 : Y5.toUInt8 = c8 at *
                  have e6 : S (U ++ V) ++ S [c8] = S (U ++ WI) := by rw [S_cat, HV.out, if_neg (op_sgn hop).2.1, List.append_assoc]
                  clear hc8
                  have hs1 : (S [c8]).size ≤ 1 := Nat.le_refl _
                  go_wp2_with fail
                  exact ⟨⟨i + 1, _, by go_num, hli, (by first | rfl | exact congrArg Value.string e6), HUN.out, HB10.out⟩, by simp only [intOf]; omega⟩
              · have e5 : S U ++ ((({ data := #[32, 40] } : ByteArray) ++ S (sub Y4)) ++ ({ data := #[32, 41] } : ByteArray)) = S (U ++ V) := by rw [hV, if_neg (by decide), if_neg (by decide), show ({ data := #[32, 40] } : ByteArray) = S [32, 40] from rfl, show ({ data := #[32, 41] } : ByteArray) = S [32, 41] from rfl, S_cat, S_cat, S_cat]; rfl
                have hsl : (S (sub Y4)).size ≤ 20000 := by
                  show (sub Y4).length ≤ _
                  rw [hV, if_neg (by decide), if_neg (by decide)] at hvs
                  have hvs : (U ++ 32 :: 40 :: (sub Y4 ++ [32, 41])).length ≤ 20000 := hvs
                  simp only [List.length_append, List.length_cons] at hvs
                  omega
                have HW := Lib.hid (HC.out w9 _ _ Y4 (HP.out _ _ _ _ _ _ HAV.out (fun g hg hA => ⟨hA, HB8.out.block g hg⟩) HB8.out.size) hok)
                clear hV
                go_upto_region 18 with (go_at_call 11; refine HW.out.mono ?_; rintro e w10 ⟨rfl, hb10⟩)
                try rw [e5]
                have m4 : w10.cell? ⟨wr.heap.size, 4, none⟩ = some (.int .u8 Y5) := (B8.out.below hb10 B8.out.lt).cell 4
                have HB10 := Lib.hid (HB9.out.trans (hb10.mono HB9.out.size))
                have l8 : wr.heap.size < w10.heap.size := (B8.out.below hb10 B8.out.lt).lt
                clear e5 m1 m2 m3 hsl hb10
                rcases hop with rfl | hop
                · go_wp2_with fail
                  refine ⟨⟨i + 1, U ++ V, by go_num, hli, rfl, ?_, HB10.out⟩, by simp only [intOf]; omega⟩
                  rw [← HUN.out, HV.out]
                  simp
                · obtain ⟨v1, v2, v3⟩ := op_conv hop
                  generalize hc8 : Y5.toUInt8 = c8 at *
                  have e6 : S (U ++ V) ++ S [c8] = S (U ++ WI) := by rw [S_cat, HV.out, if_neg (op_sgn hop).2.1, List.append_assoc]
                  clear hc8
                  have hs1 : (S [c8]).size ≤ 1 := Nat.le_refl _
                  go_wp2_with fail
                  exact ⟨⟨i + 1, _, by go_num, hli, (by first | rfl | exact congrArg Value.string e6), HUN.out, HB10.out⟩, by simp only [intOf]; omega⟩
            · obtain rfl : i = m := by omega
              clear hbi hU
              go_wp2_with fail
              refine ⟨⟨k + 1, U, by go_num, hlt, rfl, ?_, HBI.out⟩, by simp only [intOf]; omega⟩
              rw [← HTK1.out, HU.out, List.take_of_length_le (by rw [HMS.out]; exact Nat.le_refl _)]
              exact (congrArg (fun z => z ++ xs.flatMap (wrI sub)) HT2.out).trans (by simp only [List.append_assoc])
        
        · rw [decide_eq_false hw0] at hsm
          have e2 : S T1 ++ (({ data := #[32, 37] } : ByteArray) ++ S (numP x2)) = S T2 := by rw [hT2, wrW, if_neg hw0, show ({ data := #[32, 37] } : ByteArray) = S [32, 37] from rfl, S_cat, S_cat]; rfl
          have hnl : (S (numP x2)).size ≤ 4 := (num_facts' x2).2.2.2.1
          have HS := Lib.hid hsm
          have HNM := Lib.hid (number_any x2 hw64)
          clear hT2 hsm
          go_upto_region 9 with (first | (go_at_call 19; refine (HS.out _).mono ?_; rintro e w6 ⟨rfl, rfl⟩) | (go_at_call 23; refine (HNM.out _).mono ?_; rintro e w6 ⟨rfl, hb6⟩))
          try rw [e2]
          have HBS := Lib.hid (HBR.out.trans ((HB5.out.trans (hb6.mono HB5.out.size)).mono HBR.out.size))
          have b6 := HIN.out w6 hb6
          have q2 : w6.cell? ⟨wo.heap.size, 2, none⟩ = some (.slice ai m ci) := b6.cell 2
          have l5 := b6.lt
          clear e2 q1 hnl b6 hb6
          go_wp2_with fail
          clear q2 l5
          go_loopw [3, 32] (fun sv j wi => ∃ (i : Nat) (U : List UInt8), j = .int .i64 i ∧ i ≤ m ∧ sv = .string (S U) ∧ U = T2 ++ (xs.take i).flatMap (wrI sub) ∧ Below w.heap.size w wi) (fun _ j _ => m - (intOf j).toNat)
          case atStart => exact ⟨0, T2, rfl, Nat.zero_le _, rfl, by simp, HBS.out⟩
          case round =>
            obtain ⟨i, U, rfl, hi, rfl, hU, hbi⟩ := hrel
            have HU := Lib.hid hU
            have HBI := Lib.hid hbi
            have hzi := hbi.size
            by_cases hli : i < m
            · obtain ⟨y, hy⟩ : ∃ y, xs[i]? = some y := ⟨_, List.getElem?_eq_getElem (by rw [HMS.out]; exact hli)⟩
              obtain ⟨g3, rfl, hg3, cs3, _, hcs3, av, rfl, hav⟩ := ListOf.at_ (by rw [HMS.out]; exact HIV.out) hy
              obtain ⟨ay, cy, rfl⟩ := HF.out _ _ _ _ hav
              have e0 : wr.cell? ⟨g3, i * 5, none⟩ = some (.int .i64 y.at_) := (hbi.cell (p := ⟨g3, i * 5, none⟩) hg3).trans (hcs3 0 _ rfl)
              have e1 : wr.cell? ⟨g3, i * 5 + 1, none⟩ = some (.int .i64 y.kind) := (hbi.cell (p := ⟨g3, i * 5 + 1, none⟩) hg3).trans (hcs3 1 _ rfl)
              have e2 : wr.cell? ⟨g3, i * 5 + 2, none⟩ = some (.string (S y.text)) := (hbi.cell (p := ⟨g3, i * 5 + 2, none⟩) hg3).trans (hcs3 2 _ rfl)
              have e3 : wr.cell? ⟨g3, i * 5 + 3, none⟩ = some (.slice ay y.alts.length cy) := (hbi.cell (p := ⟨g3, i * 5 + 3, none⟩) hg3).trans (hcs3 3 _ rfl)
              have e4 : wr.cell? ⟨g3, i * 5 + 4, none⟩ = some (.int .u8 y.op) := (hbi.cell (p := ⟨g3, i * 5 + 4, none⟩) hg3).trans (hcs3 4 _ rfl)
              obtain ⟨htx, hop, hkd⟩ := HOKI.out i y hy
              have hit := wrI_take (sub := sub) hy
              have him := wrI_mono sub xs (i + 1)
              have HUN : Hid (U ++ wrI sub y = T2 ++ (xs.take (i + 1)).flatMap (wrI sub)) := Lib.hid (by rw [hit, hU]; simp)
              have HUL : Hid ((U ++ wrI sub y).length ≤ 20000) := Lib.hid (by
                rw [HUN.out, HT2.out, HT1.out]
                have := HTL.out
                simp only [List.length_append] at this ⊢
                omega)
              have hus : (S U).size ≤ 20000 := by
                show U.length ≤ _
                have := HUL.out
                rw [List.length_append] at this
                omega
              have HAV := Lib.hid (HP.out _ _ _ _ _ _ hav (fun g hg hA => ⟨hA, hbi.block g hg⟩) hbi.size)
              clear hav hcs3 hy hbi hU hit him
              obtain ⟨Y1, Y2, Y3, Y4, Y5⟩ := y
              simp only [Itm.at_, Itm.kind, Itm.text, Itm.alts, Itm.op] at e0 e1 e2 e3 e4 HAV htx hop hkd
              replace htx : (S Y3).size ≤ 100 := htx
              go_upto_region 12 with fail
              have b8 := Blk.new wr 47 #[.int .i64 Y1, .int .i64 Y2, .string (S Y3), .slice ay Y4.length cy, .int .u8 Y5]
              have hb8 : Below wr.heap.size wr (wr.alloc (.cells #[.int .i64 Y1, .int .i64 Y2, .string (S Y3), .slice ay Y4.length cy, .int .u8 Y5] 47)) := (Below.refl _ _).alloc (Nat.le_refl _) _
              clear e0 e1 e2 e3 e4
              generalize wr.alloc (.cells #[.int .i64 Y1, .int .i64 Y2, .string (S Y3), .slice ay Y4.length cy, .int .u8 Y5] 47) = w9 at *
              have HB9 := Lib.hid (HBI.out.trans (hb8.mono HBI.out.size))
              have HB8 := Lib.hid hb8
              have B8 := Lib.hid b8
              have m1 : w9.cell? ⟨wr.heap.size, 1, none⟩ = some (.int .i64 Y2) := b8.cell 1
              have m2 : w9.cell? ⟨wr.heap.size, 2, none⟩ = some (.string (S Y3)) := b8.cell 2
              have m3 : w9.cell? ⟨wr.heap.size, 3, none⟩ = some (.slice ay Y4.length cy) := b8.cell 3
              have m4 : w9.cell? ⟨wr.heap.size, 4, none⟩ = some (.int .u8 Y5) := b8.cell 4
              have l8 := b8.lt
              clear b8 hb8
              obtain ⟨V, hV⟩ : ∃ V, V = if Y2 = 0 then 32 :: Y3 else if Y2 = 1 then 32 :: 39 :: (Y3 ++ [39]) else 32 :: 40 :: (sub Y4 ++ [32, 41]) := ⟨_, rfl⟩
              have HV : Hid (wrI sub (.mk Y1 Y2 Y3 Y4 Y5) = V ++ (if Y5 = 0 then [] else [Y5.toUInt8])) := Lib.hid (by rw [hV]; rfl)
              have hvs : (S (U ++ V)).size ≤ 20000 := by
                show (U ++ V).length ≤ _
                have := HUL.out
                rw [HV.out] at this
                simp only [List.length_append] at this ⊢
                omega
              obtain ⟨WI, hWI⟩ : ∃ WI, WI = wrI sub (.mk Y1 Y2 Y3 Y4 Y5) := ⟨_, rfl⟩
              rw [← hWI] at HV HUN HUL
              clear hWI
              rcases hkd with rfl | rfl | ⟨rfl, hok⟩
              · have e5 : S U ++ (({ data := #[32] } : ByteArray) ++ S Y3) = S (U ++ V) := by rw [hV, if_pos rfl, show ({ data := #[32] } : ByteArray) = S [32] from rfl, S_cat, S_cat]; rfl
                clear hV
                go_upto_region 18 with fail
                try rw [e5]
                clear e5 m1 m2 m3
                obtain ⟨w10, hw10⟩ : ∃ w10, w10 = w9 := ⟨_, rfl⟩
                have HB10 := Lib.hid HB9.out
                rcases hop with rfl | hop
                · go_wp2_with fail
                  refine ⟨⟨i + 1, U ++ V, by go_num, hli, rfl, ?_, HB10.out⟩, by simp only [intOf]; omega⟩
                  rw [← HUN.out, HV.out]
                  simp
                · obtain ⟨v1, v2, v3⟩ := op_conv hop
                  generalize hc8 : Y5.toUInt8 = c8 at *
                  have e6 : S (U ++ V) ++ S [c8] = S (U ++ WI) := by rw [S_cat, HV.out, if_neg (op_sgn hop).2.1, List.append_assoc]
                  clear hc8
                  have hs1 : (S [c8]).size ≤ 1 := Nat.le_refl _
                  go_wp2_with fail
                  exact ⟨⟨i + 1, _, by go_num, hli, (by first | rfl | exact congrArg Value.string e6), HUN.out, HB10.out⟩, by simp only [intOf]; omega⟩
              · have e5 : S U ++ ((({ data := #[32, 39] } : ByteArray) ++ S Y3) ++ ({ data := #[39] } : ByteArray)) = S (U ++ V) := by rw [hV, if_neg (by decide), if_pos rfl, show ({ data := #[32, 39] } : ByteArray) = S [32, 39] from rfl, show ({ data := #[39] } : ByteArray) = S [39] from rfl, S_cat, S_cat, S_cat]; rfl
                clear hV
                go_upto_region 18 with fail
                try rw [e5]
                clear e5 m1 m2 m3
                obtain ⟨w10, hw10⟩ : ∃ w10, w10 = w9 := ⟨_, rfl⟩
                have HB10 := Lib.hid HB9.out
                rcases hop with rfl | hop
                · go_wp2_with fail
                  refine ⟨⟨i + 1, U ++ V, by go_num, hli, rfl, ?_, HB10.out⟩, by simp only [intOf]; omega⟩
                  rw [← HUN.out, HV.out]
                  simp
                · obtain ⟨v1, v2, v3⟩ := op_conv hop
                  generalize hc8 : Y5.toUInt8 = c8 at *
                  have e6 : S (U ++ V) ++ S [c8] = S (U ++ WI) := by rw [S_cat, HV.out, if_neg (op_sgn hop).2.1, List.append_assoc]
                  clear hc8
                  have hs1 : (S [c8]).size ≤ 1 := Nat.le_refl _
                  go_wp2_with fail
                  exact ⟨⟨i + 1, _, by go_num, hli, (by first | rfl | exact congrArg Value.string e6), HUN.out, HB10.out⟩, by simp only [intOf]; omega⟩
              · have e5 : S U ++ ((({ data := #[32, 40] } : ByteArray) ++ S (sub Y4)) ++ ({ data := #[32, 41] } : ByteArray)) = S (U ++ V) := by rw [hV, if_neg (by decide), if_neg (by decide), show ({ data := #[32, 40] } : ByteArray) = S [32, 40] from rfl, show ({ data := #[32, 41] } : ByteArray) = S [32, 41] from rfl, S_cat, S_cat, S_cat]; rfl
                have hsl : (S (sub Y4)).size ≤ 20000 := by
                  show (sub Y4).length ≤ _
                  rw [hV, if_neg (by decide), if_neg (by decide)] at hvs
                  have hvs : (U ++ 32 :: 40 :: (sub Y4 ++ [32, 41])).length ≤ 20000 := hvs
                  simp only [List.length_append, List.length_cons] at hvs
                  omega
                have HW := Lib.hid (HC.out w9 _ _ Y4 (HP.out _ _ _ _ _ _ HAV.out (fun g hg hA => ⟨hA, HB8.out.block g hg⟩) HB8.out.size) hok)
                clear hV
                go_upto_region 18 with (go_at_call 11; refine HW.out.mono ?_; rintro e w10 ⟨rfl, hb10⟩)
                try rw [e5]
                have m4 : w10.cell? ⟨wr.heap.size, 4, none⟩ = some (.int .u8 Y5) := (B8.out.below hb10 B8.out.lt).cell 4
                have HB10 := Lib.hid (HB9.out.trans (hb10.mono HB9.out.size))
                have l8 : wr.heap.size < w10.heap.size := (B8.out.below hb10 B8.out.lt).lt
                clear e5 m1 m2 m3 hsl hb10
                rcases hop with rfl | hop
                · go_wp2_with fail
                  refine ⟨⟨i + 1, U ++ V, by go_num, hli, rfl, ?_, HB10.out⟩, by simp only [intOf]; omega⟩
                  rw [← HUN.out, HV.out]
                  simp
                · obtain ⟨v1, v2, v3⟩ := op_conv hop
                  generalize hc8 : Y5.toUInt8 = c8 at *
                  have e6 : S (U ++ V) ++ S [c8] = S (U ++ WI) := by rw [S_cat, HV.out, if_neg (op_sgn hop).2.1, List.append_assoc]
                  clear hc8
                  have hs1 : (S [c8]).size ≤ 1 := Nat.le_refl _
                  go_wp2_with fail
                  exact ⟨⟨i + 1, _, by go_num, hli, (by first | rfl | exact congrArg Value.string e6), HUN.out, HB10.out⟩, by simp only [intOf]; omega⟩
            · obtain rfl : i = m := by omega
              clear hbi hU
              go_wp2_with fail
              refine ⟨⟨k + 1, U, by go_num, hlt, rfl, ?_, HBI.out⟩, by simp only [intOf]; omega⟩
              rw [← HTK1.out, HU.out, List.take_of_length_le (by rw [HMS.out]; exact Nat.le_refl _)]
              exact (congrArg (fun z => z ++ xs.flatMap (wrI sub)) HT2.out).trans (by simp only [List.append_assoc])
    · obtain rfl : k = n := by omega
      go_wp2_with fail
      go_ret
      refine ⟨?_, HBR.out⟩
      rw [HT.out, ← HN.out, List.take_length]
      rfl
end Go.Proofs.YtdddbkghleblhaaGreatDoor.lx

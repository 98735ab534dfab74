import Derived.Test.YtldamieigigncaaGreatDoorVcba
import Derived.Shelf.Strings.FieldsFuncAny
import Derived.Test.YtldamieigigncaaGreatDoorVcav
namespace Go.Proofs
section
open Go.Shelf
def Tryz.lays229_ren : Go.Shelf.Ren := ⟨fun | 229 => 49 | n => n, fun | 9 => 9 | 40 => 97 | 31 => 23 | 152 => 156 | 3 => 3 | 0 => 0 | 4 => 4 | 21 => 21 | 154 => 158 | n => n, fun | n => n⟩
theorem Tryz.lays229 : Go.Proofs.Lays.n229 Tryz.prog Tryz.lays229_ren := {
  mixed := by kernel_rfl
  f229 := Tryz.func49.trans (congrArg some (by kernel_rfl))
  t0 := Tryz.underlying0
  a0 := Tryz.isAgg0
  z0 := Tryz.sizeOf0
  v0 := Tryz.zeroValue0
  t3 := Tryz.underlying3
  a3 := Tryz.isAgg3
  z3 := Tryz.sizeOf3
  v3 := Tryz.zeroValue3
  t4 := Tryz.underlying4
  a4 := Tryz.isAgg4
  z4 := Tryz.sizeOf4
  v4 := Tryz.zeroValue4
  t9 := Tryz.underlying9
  a9 := Tryz.isAgg9
  z9 := Tryz.sizeOf9
  v9 := Tryz.zeroValue9
  t21 := Tryz.underlying21
  a21 := Tryz.isAgg21
  z21 := Tryz.sizeOf21
  v21 := Tryz.zeroValue21
  t31 := Tryz.underlying23
  a31 := Tryz.isAgg23
  z31 := Tryz.sizeOf23
  v31 := Tryz.zeroValue23
  t40 := Tryz.underlying97
  a40 := Tryz.isAgg97
  z40 := Tryz.sizeOf97
  v40 := Tryz.zeroValue97
  t152 := Tryz.underlying156
  a152 := Tryz.isAgg156
  z152 := Tryz.sizeOf156
  v152 := Tryz.zeroValue156
  t154 := Tryz.underlying158
  a154 := Tryz.isAgg158
  z154 := Tryz.sizeOf158
  v154 := Tryz.zeroValue158 }
end
namespace YtldamieigigncaaGreatDoor.lx
open Go.ChangeShapes Go.WideShapes Go.ChangeAt Go.RowKit Go.Shelf Go.Lib
set_option linter.unusedVariables false
set_option linter.unusedSimpArgs false
attribute [local go_sem] run_store_float
def blkR (x : Nat) : Bool := x == 32 || (x == 9 || (x == 13 || x == 10))
theorem goes_blank : GoesG 50 := fun args w => enters_of Tryz.func50 (by kernel_rfl) rfl args w
set_option maxRecDepth 100000 in
theorem isBlank_any (x : Nat) (w : World) : Calls Tryz.prog 50 #[.int .i32 x] w fun e w' => e = .returned (.bool (blkR x)) ∧ w' = w := by
  unfold blkR
  by_cases h1 : x = 32
  · subst h1
    go_enter Tryz.func50, Tryz.ntmps50
    go_wp2_with fail
    go_ret
    exact ⟨rfl, rfl⟩
  · have e1 : ((x : Int) == 32) = false := by rw [beq_eq_false_iff_ne]; omega
    have f1 : (x == 32) = false := by rw [beq_eq_false_iff_ne]; exact h1
    rw [f1, Bool.false_or]
    by_cases h2 : x = 9
    · subst h2
      go_enter Tryz.func50, Tryz.ntmps50
      go_wp2_with fail
      go_ret
      exact ⟨rfl, rfl⟩
    · have e2 : ((x : Int) == 9) = false := by rw [beq_eq_false_iff_ne]; omega
      have f2 : (x == 9) = false := by rw [beq_eq_false_iff_ne]; exact h2
      rw [f2, Bool.false_or]
      by_cases h3 : x = 13
      · subst h3
        go_enter Tryz.func50, Tryz.ntmps50
        go_wp2_with fail
        go_ret
        exact ⟨rfl, rfl⟩
      · have e3 : ((x : Int) == 13) = false := by rw [beq_eq_false_iff_ne]; omega
        have f3 : (x == 13) = false := by rw [beq_eq_false_iff_ne]; exact h3
        rw [f3, Bool.false_or]
        have e4 : ((x : Int) == 10) = (x == 10) := by
          by_cases h4 : x = 10
          · subst h4; rfl
          · have g4 : (x == 10) = false := by rw [beq_eq_false_iff_ne]; exact h4
            rw [g4, beq_eq_false_iff_ne]; omega
        generalize (x == 10) = D at *
        clear f1 f2 f3 h1 h2 h3
        go_enter Tryz.func50, Tryz.ntmps50
        go_wp2_with fail
        go_ret
        exact ⟨rfl, rfl⟩
def pieces (s : ByteArray) : List (List UInt8) := (Lib.goFieldsP blkR s).map fun x => x.data.toList
theorem spans_len (p : Nat → Bool) (s : ByteArray) : ∀ (f pos : Nat) (st : Option Nat) (acc : List (Nat × Nat)), (Lib.spansFromP p s f pos st acc).1.length ≤ acc.length + f
  | 0, _, _, _ => Nat.le_refl _
  | f + 1, pos, st, acc => by
    unfold Lib.spansFromP
    split
    · split
      · cases st with
        | none => have := spans_len p s f (pos + (Utf8.decode s pos).2) none acc; simp only; omega
        | some a => have := spans_len p s f (pos + (Utf8.decode s pos).2) none (acc ++ [(a, pos)]); simp only [List.length_append, List.length_singleton] at this ⊢; omega
      · cases st with
        | none => have := spans_len p s f (pos + (Utf8.decode s pos).2) (some pos) acc; simp only; omega
        | some a => have := spans_len p s f (pos + (Utf8.decode s pos).2) (some a) acc; simp only; omega
    · simp only; omega
theorem pieces_len (s : ByteArray) : (pieces s).length ≤ s.size + 1 := by
  unfold pieces Lib.goFieldsP Lib.spansOfP
  rw [List.length_map, List.length_map]
  have := spans_len blkR s s.size 0 none []
  unfold Lib.closeSpans
  split
  · simp only [List.length_append, List.length_singleton, List.length_nil] at this ⊢
    omega
  · simp only [List.length_nil] at this
    omega
def wordL (T : List (List UInt8)) : Nat → List Int → List (List UInt8) → List Int × Int
  | _, acc, [] => (acc, -1)
  | k, acc, p :: ps => if p ∈ T then wordL T (k + 1) (acc ++ [(T.idxOf p : Int)]) ps else ([], (k : Int))
theorem str_eq (x : ByteArray) : x = S x.data.toList := by cases x; rfl
theorem strs_map (l : List ByteArray) : l.map Value.string = (l.map fun x => x.data.toList).map sv := by
  rw [List.map_map]
  refine List.map_congr_left fun x _ => ?_
  show Value.string x = Value.string (S x.data.toList)
  rw [← str_eq]
set_option maxRecDepth 100000 in
set_option maxHeartbeats 4000000 in
theorem word_any (w : World) (A : Nat → Prop) (tbo vo ro : Option Addr) (tn tc vn vc rn rc : Nat) (T : List (List UInt8)) (s : ByteArray) (hs : s.size ≤ 4294967296) (h : StrsAt w A (.slice tbo tn tc) T) : Calls Tryz.prog 17 #[.agg #[.slice tbo tn tc, .slice vo vn vc, .slice ro rn rc], .string s] w fun e w' => ∃ v, e = .returned (.tuple #[v, .int .i64 (wordL T 0 [] (pieces s)).2]) ∧ w'.ownsRow w.heap.size 3 1 v (wordL T 0 [] (pieces s)).1.length ((wordL T 0 [] (pieces s)).1.map iv) ∧ Below w.heap.size w w' := by
  have hb1 : Below w.heap.size w (w.alloc (.cells #[.slice tbo tn tc, .slice vo vn vc, .slice ro rn rc] 26)) := (Below.refl _ _).alloc (Nat.le_refl _) _
  have b1 := Blk.new w 26 #[.slice tbo tn tc, .slice vo vn vc, .slice ro rn rc]
  have hff := Any.strings_FieldsFunc_runes Tryz.lays229 50 #[] goes_blank blkR s (w.alloc (.cells #[.slice tbo tn tc, .slice vo vn vc, .slice ro rn rc] 26)) hs (fun W x hx hb => (isBlank_any x W).mono (by rintro e W' ⟨rfl, rfl⟩; exact ⟨rfl, 0, rfl⟩)) (by kernel_rfl) (by kernel_rfl)
  have hT := h.keep (w' := w.alloc (.cells #[.slice tbo tn tc, .slice vo vn vc, .slice ro rn rc] 26)) (A' := A) keepsStr (fun g hg hA => ⟨hA, hb1.block g hg⟩) hb1.size
  have HFF : Hid (Calls Tryz.prog 49 #[.string s, .func (.func 50) #[] #[]] (w.alloc (.cells #[.slice tbo tn tc, .slice vo vn vc, .slice ro rn rc] 26)) fun e w' => ∃ A, e = .returned (.slice (some ⟨A, 0, none⟩) (pieces s).length (pieces s).length) ∧ w'.ownsRow (w.alloc (.cells #[.slice tbo tn tc, .slice vo vn vc, .slice ro rn rc] 26)).heap.size 9 1 (.slice (some ⟨A, 0, none⟩) (pieces s).length (pieces s).length) (pieces s).length ((pieces s).map sv) ∧ Below (w.alloc (.cells #[.slice tbo tn tc, .slice vo vn vc, .slice ro rn rc] 26)).heap.size (w.alloc (.cells #[.slice tbo tn tc, .slice vo vn vc, .slice ro rn rc] 26)) w') := Lib.hid (by
    refine hff.mono ?_
    rintro e w' ⟨A, rfl, _, ho, hb⟩
    have hl : (pieces s).length = (Lib.goFieldsP blkR s).length := by unfold pieces; rw [List.length_map]
    rw [strs_map] at ho
    rw [hl]
    exact ⟨A, rfl, ho, hb⟩)
  have HT := Lib.hid hT
  have HB1 := Lib.hid hb1
  have hpl := pieces_len s
  clear hff h hT hb1
  generalize hps : pieces s = ps at *
  obtain ⟨X, hX⟩ : ∃ X, wordL T 0 [] ps = X := ⟨_, rfl⟩
  have HX := Lib.hid hX
  rw [hX]
  clear hX hps
  go_enter Tryz.func17, Tryz.ntmps17
  go_upto_region 2 with fail
  generalize w.alloc (.cells #[.slice tbo tn tc, .slice vo vn vc, .slice ro rn rc] 26) = w1 at *
  go_wp2_with fail
  refine HFF.out.mono ?_
  rintro e w2 ⟨pb, rfl, hpo, hb2⟩
  have hpm := hpo.1
  unfold maxLen at hpm
  have k2 := b1.below hb2 b1.lt
  have HPS := Lib.hid (strs_of hpo)
  have HT2 := Lib.hid (HT.out.keep (w' := w2) (A' := A) keepsStr (fun g hg hA => ⟨hA, hb2.block g hg⟩) hb2.size)
  have HK2 := Lib.hid k2
  have HB2 := Lib.hid (HB1.out.trans (hb2.mono HB1.out.size))
  generalize hpn : ps.length = pn at *
  have HPN := Lib.hid hpn
  clear b1 k2 hb2 hpo HFF HT HB1 hpn
  go_wp2_with fail
  go_loopw [6, 13] (fun v q wr => ∃ (k : Nat) (acc : List Int), q = .int .i64 k ∧ k ≤ pn ∧ acc.length = k ∧ wr.ownsRow w2.heap.size 3 1 v k (acc.map iv) ∧ Below w2.heap.size w2 wr ∧ wordL T k acc (ps.drop k) = X) (fun _ q _ => pn - (intOf q).toNat)
  case atStart => exact ⟨0, [], rfl, Nat.zero_le _, rfl, World.ownsRow_nil _ _ _ _, Below.refl _ _, HX.out⟩
  case round =>
    obtain ⟨k, acc, rfl, hk, hak, hown, hbr, hw⟩ := hrel
    have HO := Lib.hid hown
    have HBR := Lib.hid hbr
    have HW := Lib.hid hw
    have HAK := Lib.hid hak
    obtain ⟨ao, cap, rfl⟩ := own_form hown
    clear hw hown hak
    by_cases hlt : k < pn
    · obtain ⟨y, hy⟩ : ∃ y, ps[k]? = some y := ⟨_, List.getElem?_eq_getElem (by rw [HPN.out]; exact hlt)⟩
      obtain ⟨g, cap', e, hg, hc⟩ := StrsAt.cell HPS.out hy
      injection e with e3 j1 j2
      injection e3 with e3
      injection e3 with e3
      subst e3
      clear j1 j2
      have hc2 : wr.cell? ⟨pb, k, none⟩ = some (.string (S y)) := (hbr.cell (p := ⟨pb, k, none⟩) hg).trans hc
      have lp : pb < wr.heap.size := Nat.lt_of_lt_of_le hg hbr.size
      have hix := index_any wr A (.slice tbo tn tc) T y (HT2.out.keep keepsStr (fun g hg hA => ⟨hA, hbr.block g hg⟩) hbr.size)
      have k3 := HK2.out.below hbr HK2.out.lt
      have g0 : wr.cell? ⟨w.heap.size, 0, none⟩ = some (.slice tbo tn tc) := k3.cell 0
      have l3 := k3.lt
      have hdr : ps.drop k = y :: ps.drop (k + 1) := by
        rw [List.drop_eq_getElem_cons (by rw [HPN.out]; exact hlt), (List.getElem?_eq_some_iff.1 hy).2]
      have hwd := HW.out
      rw [hdr] at hwd
      have HWD := Lib.hid hwd
      clear hy hc hg k3 hdr hwd hbr
      by_cases hm : y ∈ T
      · have hid : idxI T y = (T.idxOf y : Int) := by unfold idxI; rw [if_pos hm]
        rw [hid] at hix
        have hd : decide (((T.idxOf y : Nat) : Int) < 0) = false := decide_eq_false (by omega)
        have HST : Hid (wordL T (k + 1) (acc ++ [(T.idxOf y : Int)]) (ps.drop (k + 1)) = X) := Lib.hid (by
          rw [← HWD.out]
          show _ = (if y ∈ T then _ else _)
          rw [if_pos hm])
        clear hm hid
        generalize T.idxOf y = d at *
        go_wp2_with fail
        refine hix.mono ?_
        rintro e w4 ⟨rfl, rfl⟩
        clear hix hc2 lp g0 l3
        obtain ⟨i1, ki, kz0, kz1, kz2⟩ := info_parts info_int
        have hzz := HBR.out.size
        go_wp2_with (at_builtin; refine wpList_append_own_at _ rfl _ _ 39 rfl w2.heap.size 3 i1 (.int .i64 0) 1 8 Tryz.underlying39 ki kz0 kz1 kz2 rfl (by decide) _ k (acc.map iv) rfl (HO.out.alloc _) ⟨wr.heap.size, 0, none⟩ 1 1 [iv (d : Int)] rfl rfl (new_one _ _ _) (one_iv _) (by unfold maxLen; omega) (by omega) (by rw [World.size_alloc]; omega) ?_; intro v6 w6 hown6 hg6 _ hat6)
        refine ⟨⟨k + 1, acc ++ [(d : Int)], congrArg (Value.int .i64) (by omega), hlt, by rw [List.length_append, HAK.out]; rfl, by rw [List.map_append]; exact hown6, HBR.out.trans (((Below.refl _ _).alloc HBR.out.size _).grown hg6 (by rw [World.size_alloc]; omega) (fun q hq => (HO.out.lt q hq).1)), HST.out⟩, by simp only [intOf]; omega⟩
      · have hid : idxI T y = -1 := by unfold idxI; rw [if_neg hm]
        rw [hid] at hix
        have HST : Hid (X = ([], (k : Int))) := Lib.hid (by
          rw [← HWD.out]
          show (if y ∈ T then _ else _) = _
          rw [if_neg hm])
        clear hm hid
        go_wp2_with fail
        refine hix.mono ?_
        rintro e w4 ⟨rfl, rfl⟩
        clear hix hc2 lp g0 l3
        go_wp2_with fail
        first | go_ret2 | go_ret
        rw [HST.out]
        exact ⟨_, rfl, World.ownsRow_nil _ _ _ _, HB2.out.trans (HBR.out.mono HB2.out.size)⟩
    · obtain rfl : k = pn := by omega
      have HST : Hid (X = (acc, -1)) := Lib.hid (by
        have := HW.out
        rw [← HPN.out, List.drop_length] at this
        rw [← this]
        rfl)
      clear hbr
      go_wp2_with fail
      first | go_ret2 | go_ret
      rw [HST.out]
      exact ⟨_, rfl, by rw [show ((acc, (-1 : Int)) : List Int × Int).1.length = k from HAK.out]; exact own_low HO.out HB2.out.size, HB2.out.trans (HBR.out.mono HB2.out.size)⟩
end YtldamieigigncaaGreatDoor.lx
end Go.Proofs

namespace Go.Proofs.YtldamieigigncaaGreatDoor.lx
open Go.ChangeShapes Go.WideShapes Go.ChangeAt Go.RowKit Go.Proofs.YtldamieigigncaaGreatDoor.ky
set_option linter.unusedVariables false
set_option linter.unusedSimpArgs false
attribute [local go_sem] run_store_float
set_option maxRecDepth 100000 in
set_option maxHeartbeats 800000 in
theorem equalS_any (w : World) (A A' : Nat → Prop) (v1 v2 : Value) (xs ys : List (List UInt8)) (h1 : StrsAt w A v1 xs) (h2 : StrsAt w A' v2 ys) : Calls Tryz.prog 55 #[v1, v2] w fun e w' => e = .returned (.bool (decide (xs = ys))) ∧ Below w.heap.size w w' := by
  obtain ⟨ao, cap, rfl⟩ := ListOf.form h1
  obtain ⟨ao2, cap2, rfl⟩ := ListOf.form h2
  have hl := h1.1
  unfold maxLen at hl
  by_cases hlen : xs.length = ys.length
  · have H1 := Lib.hid h1
    have H2 := Lib.hid h2
    generalize hn : xs.length = n at *
    have HN := Lib.hid hn
    have HN2 : Hid (ys.length = n) := Lib.hid hlen.symm
    rw [← hlen]
    rw [← hlen] at H2
    clear h1 h2 hn hlen
    go_enter Tryz.func55, Tryz.ntmps55
    go_wp2_with fail
    go_loopw [13] (fun i wr => ∃ k : Nat, i = .int .i64 k ∧ k ≤ n ∧ Below w.heap.size w wr ∧ ∀ j, j < k → xs[j]? = ys[j]?) (fun i _ => n - (intOf i).toNat)
    case atStart => exact ⟨0, rfl, Nat.zero_le _, Below.refl _ _, fun j h => by omega⟩
    case round =>
      obtain ⟨k, rfl, hk, hbr, hno⟩ := hrel
      have HNO := Lib.hid hno
      have HBR := Lib.hid hbr
      clear hno
      by_cases hlt : k < n
      · obtain ⟨x, hx⟩ : ∃ x, xs[k]? = some x := ⟨_, List.getElem?_eq_getElem (by rw [HN.out]; exact hlt)⟩
        obtain ⟨y, hy⟩ : ∃ y, ys[k]? = some y := ⟨_, List.getElem?_eq_getElem (by rw [HN2.out]; exact hlt)⟩
        obtain ⟨g, cap', e, hg, hc⟩ := StrsAt.cell H1.out hx
        obtain ⟨g2, cap2', e2, hg2, hc2⟩ := StrsAt.cell H2.out hy
        injection e with e3 h5 h6
        injection e2 with e4 h7 h8
        subst e3 e4
        clear h5 h6 h7 h8
        have c1 : wr.cell? ⟨g, k, none⟩ = some (.string (S x)) := (hbr.cell (p := ⟨g, k, none⟩) hg).trans hc
        have c2 : wr.cell? ⟨g2, k, none⟩ = some (.string (S y)) := (hbr.cell (p := ⟨g2, k, none⟩) hg2).trans hc2
        have l1 : g < wr.heap.size := Nat.lt_of_lt_of_le hg hbr.size
        have l2 : g2 < wr.heap.size := Nat.lt_of_lt_of_le hg2 hbr.size
        have HX := Lib.hid hx
        have HY := Lib.hid hy
        clear hx hy hc hc2 hbr
        go_upto_region 6 with fail
        refine wp_region_E (fun W => Below wr.heap.size wr W) [] (by kernel_rfl) ?_
        change anyE _ _ _ _ _ _ _ _ _ (World.drew _)
        have HS : Below wr.heap.size wr (World.drew wr) := (Below.refl _ _).drew
        refine anyE_take (i := 0) (v := ?_) rfl (by kernel_rfl) (by kernel_rfl) (by kernel_rfl) (by kernel_rfl) (by kernel_rfl) (fun _ _ _ h => h) (Or.inl ⟨by kernel_rfl, ?_⟩) HS ?_
        rotate_left
        · intro wq _; go_simp; first | with_reducible rfl | (rw [if_neg (by omega)])
        refine anyE_take (i := 1) (v := ?_) rfl (by kernel_rfl) (by kernel_rfl) (by kernel_rfl) (by kernel_rfl) (by kernel_rfl) (fun _ _ _ h => h) (Or.inl ⟨by kernel_rfl, ?_⟩) HS ?_
        rotate_left
        · intro wq _; go_simp; first | with_reducible rfl | (rw [if_neg (by omega)])
        refine anyE_take (i := 2) (v := ?_) rfl (by kernel_rfl) (by kernel_rfl) (by kernel_rfl) (by kernel_rfl) (by kernel_rfl) (fun _ _ _ h => h) (Or.inl ⟨by kernel_rfl, ?_⟩) HS ?_
        rotate_left
        · intro wq _; go_simp; first | with_reducible rfl | (rw [if_neg (by omega)])
        refine anyE_take (i := 3) (v := ?_) rfl (by kernel_rfl) (by kernel_rfl) (by kernel_rfl) (by kernel_rfl) (by kernel_rfl) (fun _ _ _ h => h) (Or.inl ⟨by kernel_rfl, ?_⟩) HS ?_
        rotate_left
        · intro wq hw; have hw := (hw.cell (p := ⟨g, k, none⟩) l1).trans c1; go_simp; with_reducible rfl
        refine anyE_take (i := 4) (v := ?_) rfl (by kernel_rfl) (by kernel_rfl) (by kernel_rfl) (by kernel_rfl) (by kernel_rfl) (fun _ _ _ h => h) (Or.inl ⟨by kernel_rfl, ?_⟩) HS ?_
        rotate_left
        · intro wq _; go_simp; first | with_reducible rfl | (rw [if_neg (by omega)])
        refine anyE_take (i := 5) (v := ?_) rfl (by kernel_rfl) (by kernel_rfl) (by kernel_rfl) (by kernel_rfl) (by kernel_rfl) (fun _ _ _ h => h) (Or.inl ⟨by kernel_rfl, ?_⟩) HS ?_
        rotate_left
        · intro wq _; go_simp; first | with_reducible rfl | (rw [if_neg (by omega)])
        refine anyE_take (i := 6) (v := ?_) rfl (by kernel_rfl) (by kernel_rfl) (by kernel_rfl) (by kernel_rfl) (by kernel_rfl) (fun _ _ _ h => h) (Or.inl ⟨by kernel_rfl, ?_⟩) HS ?_
        rotate_left
        · intro wq _; go_simp; first | with_reducible rfl | (rw [if_neg (by omega)])
        refine anyE_take (i := 7) (v := ?_) rfl (by kernel_rfl) (by kernel_rfl) (by kernel_rfl) (by kernel_rfl) (by kernel_rfl) (fun _ _ _ h => h) (Or.inl ⟨by kernel_rfl, ?_⟩) HS ?_
        rotate_left
        · intro wq hw; have hw := (hw.cell (p := ⟨g2, k, none⟩) l2).trans c2; go_simp; with_reducible rfl
        refine anyE_take (i := 8) (v := ?_) rfl (by kernel_rfl) (by kernel_rfl) (by kernel_rfl) (by kernel_rfl) (by kernel_rfl) (fun _ _ _ h => h) (Or.inl ⟨by kernel_rfl, ?_⟩) HS ?_
        rotate_left
        · intro wq _; go_simp; first | with_reducible rfl | (rw [if_neg (by omega)])
        refine anyE_done (by kernel_rfl) ?_ _
        simp only [Act.put, List.setIfInBounds_toArray, List.set_cons_succ, List.set_cons_zero, List.getElem_toArray, List.getElem_cons_succ, List.getElem_cons_zero]
        have hbz := HBR.out.trans (HS.mono HBR.out.size)
        clear c1 c2 l1 l2
        by_cases hxy : x = y
        · have e1 := S_eq x y
          rw [decide_eq_true hxy] at e1
          first | (rw [e1]; simp only [Bool.not_true]) | simp only [e1, Bool.not_true, bne]
          have HXY := Lib.hid hxy
          clear e1 hxy
          go_wp2_with fail
          refine ⟨⟨k + 1, congrArg (Value.int .i64) (by omega), hlt, hbz, fun j hj => ?_⟩, by simp only [intOf]; omega⟩
          by_cases hjk : j < k
          · exact HNO.out j hjk
          · obtain rfl : j = k := by omega
            rw [HX.out, HY.out, HXY.out]
        · have e1 := S_eq x y
          rw [decide_eq_false hxy] at e1
          first | (rw [e1]; simp only [Bool.not_false]) | simp only [e1, Bool.not_false, bne]
          have HXY := Lib.hid hxy
          clear e1 hxy
          go_wp2_with fail
          go_ret
          refine ⟨?_, hbz⟩
          have hne : xs ≠ ys := fun e => by
            have := HX.out
            rw [e, HY.out] at this
            exact HXY.out (Option.some.inj this).symm
          rw [decide_eq_false hne]
          rfl
      · obtain rfl : k = n := by omega
        have he : xs = ys := List.ext_getElem? (fun j => by
          by_cases hj : j < k
          · exact HNO.out j hj
          · rw [List.getElem?_eq_none (by rw [HN.out]; omega), List.getElem?_eq_none (by rw [HN2.out]; omega)])
        have HE := Lib.hid he
        clear he hbr
        go_wp2_with fail
        go_ret
        refine ⟨?_, HBR.out⟩
        rw [decide_eq_true HE.out]
        rfl
  · have hne : xs ≠ ys := fun e => hlen (by rw [e])
    have e1 : ((xs.length : Int) != (ys.length : Int)) = true := by rw [bne_iff_ne]; omega
    rw [decide_eq_false hne]
    clear hne hlen h1 h2
    go_enter Tryz.func55, Tryz.ntmps55
    go_wp2_with fail
    go_ret
    exact ⟨rfl, Below.refl _ _⟩
def sameR (a b : Rl) : Prop := a.1 = b.1 ∧ a.2.1 = b.2.1 ∧ keyN a.2.2 = keyN b.2.2
def Wt64 (rs : List Rl) : Prop := ∀ r ∈ rs, r.2.2 < 18446744073709551616
set_option maxRecDepth 100000 in
set_option maxHeartbeats 2000000 in
theorem sameRule_any (w : World) (A A' : Nat → Prop) (L1 F1 L2 F2 : Nat) (xs ys : List Int) (a1 a2 : Option Addr) (c1 c2 : Nat) (h1 : IntsAt w A (.slice a1 xs.length c1) xs) (h2 : IntsAt w A' (.slice a2 ys.length c2) ys) (hF1 : F1 < 18446744073709551616) (hF2 : F2 < 18446744073709551616) : Calls Tryz.prog 57 #[.agg #[.int .i64 L1, .slice a1 xs.length c1, .float .f64 F1], .agg #[.int .i64 L2, .slice a2 ys.length c2, .float .f64 F2]] w fun e w' => TellB (sameR (L1, xs, F1) (L2, ys, F2)) e ∧ Below w.heap.size w w' := by
  have hb1 : Below w.heap.size w ((w.alloc (.cells #[.int .i64 L1, .slice a1 xs.length c1, .float .f64 F1] 41)).alloc (.cells #[.int .i64 L2, .slice a2 ys.length c2, .float .f64 F2] 41)) := ((Below.refl _ _).alloc (Nat.le_refl _) _).alloc (by simp) _
  have b1 := (Blk.new w 41 #[.int .i64 L1, .slice a1 xs.length c1, .float .f64 F1]).alloc (.cells #[.int .i64 L2, .slice a2 ys.length c2, .float .f64 F2] 41)
  have b2 := Blk.new (w.alloc (.cells #[.int .i64 L1, .slice a1 xs.length c1, .float .f64 F1] 41)) 41 #[.int .i64 L2, .slice a2 ys.length c2, .float .f64 F2]
  rw [World.size_alloc] at b2
  have heq := equalI_any ((w.alloc (.cells #[.int .i64 L1, .slice a1 xs.length c1, .float .f64 F1] 41)).alloc (.cells #[.int .i64 L2, .slice a2 ys.length c2, .float .f64 F2] 41)) A A' (.slice a1 xs.length c1) (.slice a2 ys.length c2) xs ys (h1.keep keepsInt (fun g hg hA => ⟨hA, hb1.block g hg⟩) hb1.size) (h2.keep keepsInt (fun g hg hA => ⟨hA, hb1.block g hg⟩) hb1.size)
  have hsm := fun w => ky.same_any F1 F2 w hF1 hF2
  have HB1 := Lib.hid hb1
  generalize xs.length = n at *
  generalize ys.length = m at *
  clear h1 h2 hb1
  go_enter Tryz.func57, Tryz.ntmps57
  go_upto_region 1 with fail
  generalize (w.alloc (.cells #[.int .i64 L1, .slice a1 n c1, .float .f64 F1] 41)).alloc (.cells #[.int .i64 L2, .slice a2 m c2, .float .f64 F2] 41) = w1 at *
  have x0 : w1.cell? ⟨w.heap.size, 0, none⟩ = some (.int .i64 L1) := b1.cell 0
  have x1 : w1.cell? ⟨w.heap.size, 1, none⟩ = some (.slice a1 n c1) := b1.cell 1
  have x2 : w1.cell? ⟨w.heap.size, 2, none⟩ = some (.float .f64 F1) := b1.cell 2
  have y0 : w1.cell? ⟨w.heap.size + 1, 0, none⟩ = some (.int .i64 L2) := b2.cell 0
  have y1 : w1.cell? ⟨w.heap.size + 1, 1, none⟩ = some (.slice a2 m c2) := b2.cell 1
  have y2 : w1.cell? ⟨w.heap.size + 1, 2, none⟩ = some (.float .f64 F2) := b2.cell 2
  have l1 := b1.lt
  have l2 := b2.lt
  have HK1 := Lib.hid b1
  have HK2 := Lib.hid b2
  clear b1 b2
  by_cases hL : L1 = L2
  case neg =>
    have d1 : ((L1 : Int) == (L2 : Int)) = false := by rw [beq_eq_false_iff_ne]; omega
    have HL := Lib.hid hL
    clear hL heq hsm
    go_wp2_with fail
    go_ret
    exact ⟨TellB.no (fun hh => HL.out hh.1), HB1.out⟩
  have d1 : ((L1 : Int) == (L2 : Int)) = true := by rw [beq_iff_eq]; omega
  have HL := Lib.hid hL
  clear hL
  by_cases hxy : xs = ys
  case neg =>
    rw [decide_eq_false hxy] at heq
    have HX := Lib.hid hxy
    clear hxy hsm
    go_wp2_with fail
    refine heq.mono ?_
    rintro e w2 ⟨rfl, hb2⟩
    clear heq x0 x1 x2 y0 y1 y2 l1 l2
    go_wp2_with fail
    go_ret
    exact ⟨TellB.no (fun hh => HX.out hh.2.1), HB1.out.trans (hb2.mono HB1.out.size)⟩
  rw [decide_eq_true hxy] at heq
  have HX := Lib.hid hxy
  clear hxy
  go_wp2_with fail
  refine heq.mono ?_
  rintro e w2 ⟨rfl, hb2⟩
  have k1 := HK1.out.below hb2 l1
  have k2 := HK2.out.below hb2 l2
  have HB2 := Lib.hid (HB1.out.trans (hb2.mono HB1.out.size))
  clear heq x0 x1 x2 y0 y1 y2 l1 l2 hb2
  have x2 : w2.cell? ⟨w.heap.size, 2, none⟩ = some (.float .f64 F1) := k1.cell 2
  have y2 : w2.cell? ⟨w.heap.size + 1, 2, none⟩ = some (.float .f64 F2) := k2.cell 2
  have l1 := k1.lt
  have l2 := k2.lt
  clear k1 k2
  have hs2 := hsm w2
  have HK : Hid ((decide (keyN F1 = keyN F2) = true) ↔ keyN F1 = keyN F2) := Lib.hid decide_eq_true_iff
  generalize decide (keyN F1 = keyN F2) = D at *
  clear hsm
  go_wp2_with fail
  refine hs2.mono ?_
  rintro e w3 ⟨rfl, rfl⟩
  clear hs2 x2 y2 l1 l2
  go_wp2_with fail
  go_ret
  refine ⟨⟨D, ?_, ?_⟩, HB2.out⟩
  · first | rfl | (cases D <;> rfl)
  · rw [HK.out]
    exact ⟨fun h => ⟨HL.out, HX.out, h⟩, fun h => h.2.2⟩
theorem goes_same : GoesG 57 := fun args w => enters_of Tryz.func57 (by kernel_rfl) rfl args w
def SameRs (xs ys : List Rl) : Prop := xs.length = ys.length ∧ ∀ (k : Nat) (a b : Rl), xs[k]? = some a → ys[k]? = some b → sameR a b
set_option maxRecDepth 100000 in
set_option maxHeartbeats 4000000 in
theorem equalR_any (w : World) (A A' : Nat → Prop) (v1 v2 : Value) (xs ys : List Rl) (h1 : ListOf 3 ERul w A v1 xs) (h2 : ListOf 3 ERul w A' v2 ys) (hw1 : Wt64 xs) (hw2 : Wt64 ys) : Calls Tryz.prog 56 #[v1, v2, .func (.func 57) #[] #[]] w fun e w' => TellB (SameRs xs ys) e ∧ Below w.heap.size w w' := by
  obtain ⟨ao, cp, rfl⟩ := ListOf.form h1
  obtain ⟨ao2, cp2, rfl⟩ := ListOf.form h2
  have hm := h1.1
  unfold maxLen at hm
  have hg : ∀ (x y : Value) (w : World), (callFunc 57 (#[x, y] ++ #[])).run Tryz.prog w = .ok (.enter 57 (#[x, y] ++ #[])) w := fun x y w => goes_same _ w
  have H1 := Lib.hid h1
  have H2 := Lib.hid h2
  have HW1 := Lib.hid hw1
  have HW2 := Lib.hid hw2
  by_cases hlen : xs.length = ys.length
  case neg =>
    have e1 : ((xs.length : Int) != (ys.length : Int)) = true := by rw [bne_iff_ne]; omega
    have HL := Lib.hid (fun hh : SameRs xs ys => hlen hh.1)
    generalize xs.length = n at *
    generalize ys.length = m at *
    clear hlen h1 h2 hw1 hw2
    go_enter Tryz.func56, Tryz.ntmps56
    go_wp2_with fail
    go_ret
    exact ⟨TellB.no (fun hh => HL.out hh), Below.refl _ _⟩
  have HLEN := Lib.hid hlen
  rw [← hlen] at H2 ⊢
  generalize hn : xs.length = n at *
  have HN := Lib.hid hn
  have HN2 := Lib.hid hlen.symm
  have e1 : ((n : Int) != (n : Int)) = false := by simp
  clear h1 h2 hw1 hw2 hn hlen
  go_enter Tryz.func56, Tryz.ntmps56
  go_wp2_with fail
  go_loopw [17] (fun q wr => ∃ k : Nat, q = .int .i64 k ∧ k ≤ n ∧ Below w.heap.size w wr ∧ ∀ (j : Nat) (a b : Rl), j < k → xs[j]? = some a → ys[j]? = some b → sameR a b) (fun q _ => n - (intOf q).toNat)
  case atStart => exact ⟨0, rfl, Nat.zero_le _, Below.refl _ _, fun j a b h => by omega⟩
  case round =>
    obtain ⟨k, rfl, hk, hbr, hno⟩ := hrel
    have HNO := Lib.hid hno
    have HBR := Lib.hid hbr
    clear hno
    by_cases hlt : k < n
    · obtain ⟨a, ha⟩ : ∃ a, xs[k]? = some a := ⟨_, List.getElem?_eq_getElem (by rw [HN.out]; exact hlt)⟩
      obtain ⟨b, hb⟩ : ∃ b, ys[k]? = some b := ⟨_, List.getElem?_eq_getElem (by rw [HN2.out]; exact hlt)⟩
      obtain ⟨g, cap', u, e, hg1, hc0, hc1, hc2, hu⟩ := ERul.at (H1.out.keep (w' := wr) (A' := A) keepsRul (fun g hg hA => ⟨hA, hbr.block g hg⟩) hbr.size) ha
      obtain ⟨g2, cap2, u2, e2, hg2, he0, he1, he2, hu2⟩ := ERul.at (H2.out.keep (w' := wr) (A' := A') keepsRul (fun g hg hA => ⟨hA, hbr.block g hg⟩) hbr.size) hb
      injection e with e3 j1 j2
      subst e3
      injection e2 with e4 j3 j4
      subst e4
      clear j1 j2 j3 j4
      obtain ⟨uo, uc, rfl⟩ := ListOf.form hu
      obtain ⟨uo2, uc2, rfl⟩ := ListOf.form hu2
      have q1 := HW1.out a (List.mem_of_getElem? ha)
      have q2 := HW2.out b (List.mem_of_getElem? hb)
      have HA := Lib.hid ha
      have HB := Lib.hid hb
      have HU := Lib.hid hu
      have HU2 := Lib.hid hu2
      clear ha hb hu hu2 hbr
      obtain ⟨a1, a2, a3⟩ := a
      obtain ⟨b1, b2, b3⟩ := b
      simp only at hc0 hc1 hc2 he0 he1 he2 q1 q2 HU HU2
      have hcall := fun W (hW : Below wr.heap.size wr W) => sameRule_any W A A' a1 a3 b1 b3 a2 b2 uo uo2 uc uc2 (HU.out.keep keepsInt (fun g hg hA => ⟨hA, hW.block g hg⟩) hW.size) (HU2.out.keep keepsInt (fun g hg hA => ⟨hA, hW.block g hg⟩) hW.size) q1 q2
      have HC := Lib.hid hcall
      generalize a2.length = al at *
      generalize b2.length = bl at *
      clear hcall
      have hb4 : Below wr.heap.size wr (wr.alloc (.cells #[.int .i64 a1, .slice uo al uc, .float .f64 a3] 41)) := (Below.refl _ _).alloc (Nat.le_refl _) _
      have x4 := Blk.new wr 41 #[.int .i64 a1, .slice uo al uc, .float .f64 a3]
      go_upto_region 6 with fail
      generalize wr.alloc (.cells #[.int .i64 a1, .slice uo al uc, .float .f64 a3] 41) = w4 at *
      have f0 : w4.cell? ⟨g2, k * 3, none⟩ = some (.int .i64 b1) := (hb4.cell (p := ⟨g2, k * 3, none⟩) hg2).trans he0
      have f1 : w4.cell? ⟨g2, k * 3 + 1, none⟩ = some (.slice uo2 bl uc2) := (hb4.cell (p := ⟨g2, k * 3 + 1, none⟩) hg2).trans he1
      have f2 : w4.cell? ⟨g2, k * 3 + 2, none⟩ = some (.float .f64 b3) := (hb4.cell (p := ⟨g2, k * 3 + 2, none⟩) hg2).trans he2
      have lg2 := Nat.lt_of_lt_of_le hg2 hb4.size
      have hb5 : Below wr.heap.size wr (w4.alloc (.cells #[.int .i64 b1, .slice uo2 bl uc2, .float .f64 b3] 41)) := hb4.alloc hb4.size _
      have x5 := x4.alloc (.cells #[.int .i64 b1, .slice uo2 bl uc2, .float .f64 b3] 41)
      have y5 := Blk.new w4 41 #[.int .i64 b1, .slice uo2 bl uc2, .float .f64 b3]
      clear hc0 hc1 hc2 he0 he1 he2 x4 hg1
      go_upto_region 7 with fail
      generalize w4.alloc (.cells #[.int .i64 b1, .slice uo2 bl uc2, .float .f64 b3] 41) = w5 at *
      clear f0 f1 f2 lg2 hb4
      have x0 : w5.cell? ⟨wr.heap.size, 0, none⟩ = some (.int .i64 a1) := x5.cell 0
      have x1 : w5.cell? ⟨wr.heap.size, 1, none⟩ = some (.slice uo al uc) := x5.cell 1
      have x2 : w5.cell? ⟨wr.heap.size, 2, none⟩ = some (.float .f64 a3) := x5.cell 2
      have y0 : w5.cell? ⟨w4.heap.size, 0, none⟩ = some (.int .i64 b1) := y5.cell 0
      have y1 : w5.cell? ⟨w4.heap.size, 1, none⟩ = some (.slice uo2 bl uc2) := y5.cell 1
      have y2 : w5.cell? ⟨w4.heap.size, 2, none⟩ = some (.float .f64 b3) := y5.cell 2
      have l1 := x5.lt
      have l2 := y5.lt
      have hcall := HC.out w5 hb5
      have HB5 := Lib.hid hb5
      clear x5 y5 hb5
      go_wp2_with fail
      refine hcall.mono ?_
      rintro e w6 ⟨⟨D, rfl, hD⟩, hb6⟩
      have HD := Lib.hid hD
      have HB6 := Lib.hid (HBR.out.trans ((HB5.out.trans (hb6.mono HB5.out.size)).mono HBR.out.size))
      clear hcall x0 x1 x2 y0 y1 y2 l1 l2 hD hb6
      cases D with
      | false =>
        go_wp2_with fail
        go_ret
        exact ⟨TellB.no (fun hh => by have := HD.out.2 (hh.2 k _ _ HA.out HB.out); cases this), HB6.out⟩
      | true =>
        go_wp2_with fail
        refine ⟨⟨k + 1, by go_num, hlt, HB6.out, fun j a b hj ha hb => ?_⟩, by simp only [intOf]; omega⟩
        by_cases hjk : j < k
        · exact HNO.out j a b hjk ha hb
        · obtain rfl : j = k := by omega
          have q1 := Option.some.inj (ha.symm.trans HA.out)
          have q2 := Option.some.inj (hb.symm.trans HB.out)
          rw [q1, q2]
          exact HD.out.1 (by first | rfl | trivial)
    · obtain rfl : k = n := by omega
      clear hbr
      go_wp2_with fail
      go_ret
      exact ⟨TellB.yes ⟨HN.out.trans HN2.out.symm, fun j a b ha hb => HNO.out j a b (by have := (List.getElem?_eq_some_iff.1 ha).1; have := HN.out; omega) ha hb⟩, HBR.out⟩
structure SameG (a b : Gra) : Prop where
  ts : a.terms = b.terms
  vs : a.vars = b.vars
  rs : SameRs a.rules b.rules
set_option maxRecDepth 100000 in
set_option maxHeartbeats 4000000 in
theorem gsame_any (w : World) (A A' : Nat → Prop) (t1 v1 r1 t2 v2 r2 : Option Addr) (tc1 vc1 rc1 tc2 vc2 rc2 : Nat) (a b : Gra) (h1 : GrAt w A (.slice t1 a.terms.length tc1) (.slice v1 a.vars.length vc1) (.slice r1 a.rules.length rc1) a) (h2 : GrAt w A' (.slice t2 b.terms.length tc2) (.slice v2 b.vars.length vc2) (.slice r2 b.rules.length rc2) b) (hw1 : Wt64 a.rules) (hw2 : Wt64 b.rules) : Calls Tryz.prog 19 #[.agg #[.slice t1 a.terms.length tc1, .slice v1 a.vars.length vc1, .slice r1 a.rules.length rc1], .agg #[.slice t2 b.terms.length tc2, .slice v2 b.vars.length vc2, .slice r2 b.rules.length rc2]] w fun e w' => TellB (SameG a b) e ∧ Below w.heap.size w w' := by
  have hb1 : Below w.heap.size w ((w.alloc (.cells #[.slice t1 a.terms.length tc1, .slice v1 a.vars.length vc1, .slice r1 a.rules.length rc1] 26)).alloc (.cells #[.slice t2 b.terms.length tc2, .slice v2 b.vars.length vc2, .slice r2 b.rules.length rc2] 26)) := ((Below.refl _ _).alloc (Nat.le_refl _) _).alloc (by simp) _
  have b1 := (Blk.new w 26 #[.slice t1 a.terms.length tc1, .slice v1 a.vars.length vc1, .slice r1 a.rules.length rc1]).alloc (.cells #[.slice t2 b.terms.length tc2, .slice v2 b.vars.length vc2, .slice r2 b.rules.length rc2] 26)
  have b2 := Blk.new (w.alloc (.cells #[.slice t1 a.terms.length tc1, .slice v1 a.vars.length vc1, .slice r1 a.rules.length rc1] 26)) 26 #[.slice t2 b.terms.length tc2, .slice v2 b.vars.length vc2, .slice r2 b.rules.length rc2]
  rw [World.size_alloc] at b2
  have H1 := Lib.hid (h1.below hb1)
  have H2 := Lib.hid (h2.below hb1)
  have HW1 := Lib.hid hw1
  have HW2 := Lib.hid hw2
  have HB1 := Lib.hid hb1
  have hT := fun W (hW : Below _ _ W) => equalS_any W A A' (.slice t1 a.terms.length tc1) (.slice t2 b.terms.length tc2) a.terms b.terms (H1.out.below hW).ts (H2.out.below hW).ts
  have hV := fun W (hW : Below _ _ W) => equalS_any W A A' (.slice v1 a.vars.length vc1) (.slice v2 b.vars.length vc2) a.vars b.vars (H1.out.below hW).vs (H2.out.below hW).vs
  have hR := fun W (hW : Below _ _ W) => equalR_any W A A' (.slice r1 a.rules.length rc1) (.slice r2 b.rules.length rc2) a.rules b.rules (H1.out.below hW).rs (H2.out.below hW).rs HW1.out HW2.out
  have HT := Lib.hid hT
  have HV := Lib.hid hV
  have HR := Lib.hid hR
  generalize a.terms.length = tn1 at *
  generalize b.terms.length = tn2 at *
  generalize a.vars.length = vn1 at *
  generalize b.vars.length = vn2 at *
  generalize a.rules.length = rn1 at *
  generalize b.rules.length = rn2 at *
  clear h1 h2 hw1 hw2 hb1 hT hV hR H1 H2
  go_enter Tryz.func19, Tryz.ntmps19
  go_upto_region 1 with fail
  generalize (w.alloc (.cells #[.slice t1 tn1 tc1, .slice v1 vn1 vc1, .slice r1 rn1 rc1] 26)).alloc (.cells #[.slice t2 tn2 tc2, .slice v2 vn2 vc2, .slice r2 rn2 rc2] 26) = w1 at *
  have x0 : w1.cell? ⟨w.heap.size, 0, none⟩ = some (.slice t1 tn1 tc1) := b1.cell 0
  have y0 : w1.cell? ⟨w.heap.size + 1, 0, none⟩ = some (.slice t2 tn2 tc2) := b2.cell 0
  have l1 := b1.lt
  have l2 := b2.lt
  have HK1 := Lib.hid b1
  have HK2 := Lib.hid b2
  clear b1 b2
  have hT := HT.out w1 (Below.refl _ _)
  by_cases hts : a.terms = b.terms
  case neg =>
    rw [decide_eq_false hts] at hT
    have HN := Lib.hid hts
    clear hts
    go_wp2_with fail
    refine hT.mono ?_
    rintro e w2 ⟨rfl, hb2⟩
    clear hT x0 y0 l1 l2
    go_wp2_with fail
    go_ret
    exact ⟨TellB.no (fun hh => HN.out hh.ts), HB1.out.trans (hb2.mono HB1.out.size)⟩
  rw [decide_eq_true hts] at hT
  have HTS := Lib.hid hts
  clear hts
  go_wp2_with fail
  refine hT.mono ?_
  rintro e w2 ⟨rfl, hb2⟩
  have k1 := HK1.out.below hb2 l1
  have k2 := HK2.out.below hb2 l2
  have HB2 := Lib.hid hb2
  clear hT x0 y0 l1 l2 hb2
  have x1 : w2.cell? ⟨w.heap.size, 1, none⟩ = some (.slice v1 vn1 vc1) := k1.cell 1
  have y1 : w2.cell? ⟨w.heap.size + 1, 1, none⟩ = some (.slice v2 vn2 vc2) := k2.cell 1
  have l1 := k1.lt
  have l2 := k2.lt
  clear k1 k2
  have hV := HV.out w2 HB2.out
  by_cases hvs : a.vars = b.vars
  case neg =>
    rw [decide_eq_false hvs] at hV
    have HN := Lib.hid hvs
    clear hvs
    go_wp2_with fail
    refine hV.mono ?_
    rintro e w3 ⟨rfl, hb3⟩
    clear hV x1 y1 l1 l2
    go_wp2_with fail
    go_ret
    exact ⟨TellB.no (fun hh => HN.out hh.vs), HB1.out.trans ((HB2.out.trans (hb3.mono HB2.out.size)).mono HB1.out.size)⟩
  rw [decide_eq_true hvs] at hV
  have HVS := Lib.hid hvs
  clear hvs
  go_wp2_with fail
  refine hV.mono ?_
  rintro e w3 ⟨rfl, hb3⟩
  have HB3 := Lib.hid (HB2.out.trans (hb3.mono HB2.out.size))
  have k1 := HK1.out.below HB3.out HK1.out.lt
  have k2 := HK2.out.below HB3.out HK2.out.lt
  clear hV x1 y1 l1 l2 hb3
  have x2 : w3.cell? ⟨w.heap.size, 2, none⟩ = some (.slice r1 rn1 rc1) := k1.cell 2
  have y2 : w3.cell? ⟨w.heap.size + 1, 2, none⟩ = some (.slice r2 rn2 rc2) := k2.cell 2
  have l1 := k1.lt
  have l2 := k2.lt
  clear k1 k2
  have hR := HR.out w3 HB3.out
  go_wp2_with fail
  refine hR.mono ?_
  rintro e w4 ⟨⟨D, rfl, hD⟩, hb4⟩
  have HD := Lib.hid hD
  clear hR x2 y2 l1 l2 hD
  go_wp2_with fail
  go_ret
  refine ⟨⟨D, ?_, ?_⟩, HB1.out.trans ((HB3.out.trans (hb4.mono HB3.out.size)).mono HB1.out.size)⟩
  · first | rfl | (cases D <;> rfl)
  · rw [HD.out]
    exact ⟨fun h => ⟨HTS.out, HVS.out, h⟩, fun h => h.rs⟩
end Go.Proofs.YtldamieigigncaaGreatDoor.lx


import Derived.Test.YtffbkhebkhbanaaGreatDoorLyc
import Derived.Test.YtffbkhebkhbanaaGreatDoorLxq
import Derived.Test.YtffbkhebkhbanaaGreatDoorLxz
import Derived.BigQuiet
namespace Go.Proofs.YtffbkhebkhbanaaGreatDoor.lx
open Go.ChangeShapes Go.WideShapes Go.ChangeAt Go.RowKit
set_option linter.unusedVariables false
attribute [local go_sem] run_store_float
/-- bytes that are handed in -/
def BytesAt (w : World) (ao : Option Addr) (n : Nat) (h : Nat → Nat) : Prop := n ≤ maxLen ∧ ∀ j, j < n → ∃ a : Addr, ao = some a ∧ a.block < w.heap.size ∧ w.cell? (a.add j) = some (.int .u8 (h j)) ∧ h j < 256
theorem add_block (a : Addr) (j : Nat) : (a.add j).block = a.block := by
  unfold Addr.add
  split <;> rfl
theorem BytesAt.below {w w' : World} {ao : Option Addr} {n : Nat} {h : Nat → Nat} (hb : BytesAt w ao n h) (hw : Below w.heap.size w w') : BytesAt w' ao n h := by
  refine ⟨hb.1, fun j hj => ?_⟩
  obtain ⟨a, e, h1, h2, h3⟩ := hb.2 j hj
  exact ⟨a, e, Nat.lt_of_lt_of_le h1 hw.size, (hw.cell (p := a.add j) (by rw [add_block]; exact h1)).trans h2, h3⟩
theorem and3 : ∀ h : Nat, h < 256 → bits .and .u8 (h : Int) 3 = ((h % 4 : Nat) : Int) := by decide +kernel
theorem S_app (x y : List UInt8) : S x ++ S y = S (x ++ y) := by
  apply str_S
  simp [S]
theorem toks_snoc {x : List Tok} {k : Nat} (h : k < x.length) : x.take (k + 1) = x.take k ++ [x.getD k ⟨0, 0, [], 0⟩] := by
  rw [List.take_succ_eq_append_getElem h, List.getD_eq_getElem?_getD, List.getElem?_eq_getElem h]
  rfl
theorem dress_take (q : Nat → Nat) {x : List Tok} {k : Nat} (h : k < x.length) : dress q 0 (x.take (k + 1)) = dress q 0 (x.take k) ++ (sepL (q k) ++ full (x.getD k ⟨0, 0, [], 0⟩)) := by
  rw [toks_snoc h, dress_snoc, List.length_take, Nat.min_eq_left (Nat.le_of_lt h), Nat.zero_add]
theorem dress_app (q : Nat → Nat) (y : List Tok) : ∀ (x : List Tok) (k : Nat), dress q k (x ++ y) = dress q k x ++ dress q (k + x.length) y
  | [], k => by simp [dress]
  | u :: x, k => by
    have ih := dress_app q y x (k + 1)
    show sepL (q k) ++ (full u ++ dress q (k + 1) (x ++ y)) = sepL (q k) ++ (full u ++ dress q (k + 1) x) ++ _
    rw [ih, show k + 1 + x.length = k + (u :: x).length from by simp; omega]
    simp
theorem dress_le (q : Nat → Nat) (x : List Tok) (k : Nat) : (dress q 0 (x.take k)).length ≤ (dress q 0 x).length := by
  have h := dress_app q (x.drop k) (x.take k) 0
  rw [List.take_append_drop] at h
  rw [h, List.length_append]
  omega
theorem text_le (t : Tok) : t.text.length ≤ (full t).length := by
  unfold full
  split
  · simp
    omega
  · split
    · simp
    · exact Nat.le_refl _
theorem key_at {x y : List Tok} (h : y.map key = x.map key) {k : Nat} (hk : k < x.length) : y.length = x.length ∧ key (y.getD k ⟨0, 0, [], 0⟩) = key (x.getD k ⟨0, 0, [], 0⟩) := by
  have hl : y.length = x.length := by simpa using congrArg List.length h
  refine ⟨hl, ?_⟩
  have := congrArg (fun l => l[k]?) h
  simp only [List.getElem?_map] at this
  rw [List.getD_eq_getElem?_getD, List.getD_eq_getElem?_getD]
  rw [List.getElem?_eq_getElem hk, List.getElem?_eq_getElem (by omega)] at this ⊢
  simpa using this
theorem sep_cell (w : World) (t : TypeId) (j : Nat) (h : j < 4) : (w.alloc (.cells #[.string ⟨#[32]⟩, .string ⟨#[10]⟩, .string ⟨#[9, 35, 32, 120, 32, 39, 10]⟩, .string ⟨#[13]⟩] t)).cell? ⟨w.heap.size, j, none⟩ = some (.string (S (sepL j))) := by
  rw [(Blk.new w t #[.string ⟨#[32]⟩, .string ⟨#[10]⟩, .string ⟨#[9, 35, 32, 120, 32, 39, 10]⟩, .string ⟨#[13]⟩]).cell j]
  match j, h with
  | 0, _ => rfl
  | 1, _ => rfl
  | 2, _ => rfl
  | 3, _ => rfl
set_option maxRecDepth 100000 in
set_option maxHeartbeats 20000000 in
/-- the law LexBlanks -/
theorem blanks_all (s : ByteArray) (hs : s.size ≤ maxLen) (ao : Option Addr) (m cap : Nat) (hw : Nat → Nat) (w : World) (b off : Nat) (hv : Vs w b off) (hh : BytesAt w ao m hw) : Calls Tryz.prog 5 #[.string s, .slice ao m cap] w fun e w' => e = .returned (.bool true) ∧ Below w.heap.size w w' := by
  have hal := alive_any w b off hv
  have HV := Lib.hid hv
  have HM := Lib.hid hs
  have HH := Lib.hid hh
  have hm := hh.1
  unfold maxLen at hs hm
  clear hv hh
  by_cases hbig : 600 < s.size
  · go_enter Tryz.func5, Tryz.ntmps5
    go_wp2_with fail
    refine hal.mono ?_
    rintro e w1 ⟨rfl, hb1⟩
    have HB1 := Lib.hid hb1
    clear hal hb1
    go_wp2_with fail
    go_ret
    exact ⟨rfl, HB1.out⟩
  by_cases hm0 : m = 0
  · subst hm0
    go_enter Tryz.func5, Tryz.ntmps5
    go_wp2_with fail
    refine hal.mono ?_
    rintro e w1 ⟨rfl, hb1⟩
    have HB1 := Lib.hid hb1
    clear hal hb1
    go_wp2_with fail
    go_ret
    exact ⟨rfl, HB1.out⟩
  have hm1 : 0 < m := by omega
  have hm2 : ((m : Int) == 0) = false := by rw [beq_eq_false_iff_ne]; omega
  have hs6 : s.size ≤ 600 := by omega
  clear hm0 hbig
  have hjn := lex_blanks s.data.toList (by simpa using hs6)
  have hsl : s.data.toList.length = s.size := by simp
  rw [hsl] at hjn
  clear hsl
  have a1 := fun w h => all_any s HM.out w b off h
  have HA1 := Lib.hid a1
  clear a1
  rcases hjn with ⟨e, k, ⟨he, hk⟩, ea⟩ | ⟨x, ⟨hx, hxl, hxa⟩, ea, hok, hdr⟩
  · have HEA := Lib.hid ea
    have m1 : ((e : Int) != 0) = true := by rw [bne_iff_ne]; omega
    clear ea he
    go_enter Tryz.func5, Tryz.ntmps5
    go_wp2_with fail
    refine hal.mono ?_
    rintro e1 w1 ⟨rfl, hb1⟩
    have HB1 := Lib.hid hb1
    clear hal hb1
    go_wp2_with fail
    refine (HA1.out _ (HV.out.below HB1.out)).mono ?_
    rintro e1 w2 ⟨hall, hb2⟩
    unfold AllV at hall
    rw [HEA.out] at hall
    obtain ⟨v1, rfl, ho1⟩ := hall
    have HB2 := Lib.hid (HB1.out.trans (hb2.mono HB1.out.size))
    have hz2 := HB2.out.size
    obtain ⟨ao1, cap1, rfl⟩ := own_form ho1
    clear hb2 ho1
    go_wp2_with fail
    go_ret
    exact ⟨rfl, HB2.out.alloc hz2 _⟩
  · have HEA := Lib.hid ea
    have HOK := Lib.hid hok
    have HDR := Lib.hid hdr
    have hx0 : 0 < x.length := List.length_pos_iff.2 hx
    obtain ⟨n, hn⟩ : ∃ n, n = x.length := ⟨_, rfl⟩
    have HN := Lib.hid hn
    rw [← hn] at hx0 hxl
    have hq4 : ∀ k, hw (k % m) % 4 < 4 := fun k => Nat.mod_lt _ (by decide)
    obtain ⟨q, hq⟩ : ∃ q : Nat → Nat, q = fun k => hw (k % m) % 4 := ⟨_, rfl⟩
    have HQ : Hid (∀ k, q k = hw (k % m) % 4) := Lib.hid fun k => by rw [hq]
    clear ea hok hdr hx hn hq4 hq
    go_enter Tryz.func5, Tryz.ntmps5
    go_wp2_with fail
    refine hal.mono ?_
    rintro e1 w1 ⟨rfl, hb1⟩
    have HB1 := Lib.hid hb1
    clear hal hb1
    go_wp2_with fail
    refine (HA1.out _ (HV.out.below HB1.out)).mono ?_
    rintro e1 w2 ⟨hall, hb2⟩
    unfold AllV at hall
    rw [HEA.out] at hall
    obtain ⟨v1, rfl, ho1⟩ := hall
    have HB2 := Lib.hid (HB1.out.trans (hb2.mono HB1.out.size))
    have hz2 := HB2.out.size
    have HT1 := Lib.hid (ListT.of_own ho1)
    obtain ⟨o1, cap1, rfl, hl1⟩ := HT1.out
    obtain ⟨g1, rfl, hg1, hc1⟩ := hl1 (by rw [← HN.out]; exact hx0)
    have HC1 := Lib.hid hc1
    rw [show x.length = n from HN.out.symm]
    clear hb2 ho1 hl1 hc1
    go_wp2_with fail
    have hf2 : Blk (w2.alloc (.cells #[.int .i64 0, .int .i64 0] 26)) w2.heap.size 26 #[.int .i64 0, .int .i64 0] := Blk.new _ _ _
    have HW2 : Hid (Below w2.heap.size w2 (w2.alloc (.cells #[.int .i64 0, .int .i64 0] 26))) := Lib.hid ((Below.refl _ _).alloc (Nat.le_refl _) _)
    go_loopw [7, 51] (fun dv i wr => ∃ k : Nat, i = .int .i64 k ∧ k ≤ n ∧ dv = .string (S (dress q 0 (x.take k))) ∧ Below w2.heap.size w2 wr) (fun _ i _ => n - (intOf i).toNat)
    case atStart => exact ⟨0, rfl, Nat.zero_le _, rfl, HW2.out⟩
    case round =>
      obtain ⟨k, rfl, hk, rfl, hbr⟩ := hrel
      have hzr := hbr.size
      by_cases hlt : k < n
      · have hat := okay_at s.data.toList x k HOK.out (by rw [← HN.out]; exact hlt)
        have hdt := dress_take q (x := x) (k := k) (by rw [← HN.out]; exact hlt)
        have hx1 : ∀ j, j < 4 → wr.cell? ⟨g1, k * 4 + j, none⟩ = (tokC (x.getD k ⟨0, 0, [], 0⟩))[j]? := fun j hj => by
          have h1 := tcells_at x k j (by rw [← HN.out]; exact hlt) hj
          obtain ⟨u, hu⟩ : ∃ u, (tokC (x.getD k ⟨0, 0, [], 0⟩))[j]? = some u := ⟨_, List.getElem?_eq_getElem (by simpa [tokC] using hj)⟩
          rw [hu] at h1 ⊢
          exact (hbr.cell (p := ⟨g1, k * 4 + j, none⟩) hg1).trans (HC1.out _ u h1)
        have hy1 : k + 1 < n → wr.cell? ⟨g1, (k + 1) * 4 + 1, none⟩ = some (.int .i64 (x.getD (k + 1) ⟨0, 0, [], 0⟩).at_) := fun h2 => by
          have h1 := tcells_at x (k + 1) 1 (by rw [← HN.out]; exact h2) (by decide)
          exact (hbr.cell (p := ⟨g1, (k + 1) * 4 + 1, none⟩) hg1).trans (HC1.out _ _ h1)
        have hsl : s.data.toList.length = s.size := by simp
        have hex := ext_S s (x.getD k ⟨0, 0, [], 0⟩).at_ ((x.getD k ⟨0, 0, [], 0⟩).at_ + (full (x.getD k ⟨0, 0, [], 0⟩)).length)
        rw [Nat.add_sub_cancel_left, hat.2.2.2.1] at hex
        rw [hsl, ← HN.out] at hat
        obtain ⟨at1, at2, at3, _, at5⟩ := hat
        generalize x.getD k ⟨0, 0, [], 0⟩ = X at *
        generalize (x.getD (k + 1) ⟨0, 0, [], 0⟩).at_ = P2 at *
        obtain ⟨K, P, T, F⟩ := X
        replace at1 : P ≤ (if k + 1 < n then P2 else s.size) := at1
        replace at2 : K = 0 → P = s.size ∧ k + 1 = n := at2
        replace at5 : K ≤ 4 := at5
        have c0 : wr.cell? ⟨g1, k * 4, none⟩ = some (.int .i64 K) := hx1 0 (by decide)
        have c1 : wr.cell? ⟨g1, k * 4 + 1, none⟩ = some (.int .i64 P) := hx1 1 (by decide)
        have c2 : wr.cell? ⟨g1, k * 4 + 2, none⟩ = some (.string (S T)) := hx1 2 (by decide)
        have c3 : wr.cell? ⟨g1, k * 4 + 3, none⟩ = some (.float .f64 F) := hx1 3 (by decide)
        have hgr1 : g1 < wr.heap.size := by omega
        obtain ⟨a, rfl, hab, hac, hhv⟩ := (HH.out.below (HB2.out.trans (hbr.mono hz2))).2 (k % m) (Nat.mod_lt _ hm1)
        have HBR := Lib.hid hbr
        have hand := and3 (hw (k % m)) hhv
        rw [← HQ.out k] at hand
        have hq4 : q k < 4 := by rw [HQ.out]; exact Nat.mod_lt _ (by decide)
        have HDT := Lib.hid hdt
        generalize hw (k % m) = h at *
        have hrem : ((k : Int).tmod m) = ((k % m : Nat) : Int) := rfl
        have hkm : k % m < m := Nat.mod_lt _ hm1
        obtain ⟨r, hr⟩ : ∃ r, r = k % m := ⟨_, rfl⟩
        rw [← hr] at hac hrem hkm
        have hcl : ∀ o o2, ((wr.alloc o).alloc o2).cell? (a.add r) = some (.int .u8 h) := fun o o2 => (World.cell?_alloc_lt _ o2 (a.add r) (by rw [add_block, World.size_alloc]; omega)).trans ((World.cell?_alloc_lt wr o (a.add r) (by rw [add_block]; exact hab)).trans hac)
        have HR := Lib.hid hr
        generalize hDD : dress q 0 (x.take k) = DD at *
        have hdl : (S DD).size ≤ 8 * s.size + 7 := by
          have h1 := dress_le q x k
          have h2 := (HDR.out q).1
          rw [hDD] at h1
          show DD.length ≤ _
          omega
        have htl : (S T).size ≤ (full ⟨K, P, T, F⟩).length := text_le ⟨K, P, T, F⟩
        clear hx1 hbr hsl hdt hhv hr hDD
        have hsep : ∀ o, ((wr.alloc o).alloc (.cells #[.string ⟨#[32]⟩, .string ⟨#[10]⟩, .string ⟨#[9, 35, 32, 120, 32, 39, 10]⟩, .string ⟨#[13]⟩] 9)).cell? ⟨wr.heap.size + 1, q k, none⟩ = some (.string (S (sepL (q k)))) := fun o => by
          have h := sep_cell (wr.alloc o) 9 _ hq4
          rwa [World.size_alloc] at h
        replace hex : s.extract P (P + (full ⟨K, P, T, F⟩).length) = S (full ⟨K, P, T, F⟩) := hex
        replace at3 : P + (full ⟨K, P, T, F⟩).length ≤ s.size := at3
        have hcase : (K = 0 ∧ P = s.size ∧ k + 1 = n) ∨ K = 2 ∨ K = 3 ∨ K = 1 ∨ K = 4 := by omega
        clear at2 at5
        have hzl : (S (sepL (q k))).size ≤ 7 := (sep_len (q k)).2
        generalize sepL (q k) = Z at *
        obtain ⟨DE, hDE⟩ : ∃ DE, dress q 0 (x.take (k + 1)) = DE := ⟨_, rfl⟩
        rw [hDE] at HDT
        have HDE := Lib.hid hDE
        clear hDE
        rcases hcase with ⟨rfl, hPs, hkn⟩ | rfl | rfl | rfl | rfl
        · have hfl : S (full ⟨0, P, T, F⟩) = S T := rfl
          have hls : (S T).size = (full ⟨0, P, T, F⟩).length := by rw [← hfl]; rfl
          have HE : Hid (S DD ++ (S Z ++ (S T)) = S DE) := Lib.hid (by rw [HDT.out, ← S_app, ← S_app, hfl])
          rw [hfl] at hex
          generalize (full ⟨0, P, T, F⟩).length = L at *
          obtain ⟨Y, hY⟩ : ∃ Y, S T = Y := ⟨_, rfl⟩
          rw [hY] at hex hls HE
          clear hfl HDT
          subst hY
          have hk1 : ¬ k + 1 < n := by omega
          have hps : ((P : Int) != s.size) = false := by rw [bne_eq_false_iff_eq]; omega
          have hkn2 : ((k : Int) != (n : Int) - 1) = false := by rw [bne_eq_false_iff_eq]; omega
          clear hPs
          rw [if_neg hk1] at at1
          clear hy1
          go_wp2_with fail
          exact ⟨⟨k + 1, by go_num, hlt, congrArg Value.string (by rw [HDE.out]; exact HE.out), (HBR.out.alloc hzr _).alloc (by simp; omega) _⟩, by simp only [intOf]; omega⟩
        · have hfl : S (full ⟨2, P, T, F⟩) = (ByteArray.mk #[39] ++ S T) ++ ByteArray.mk #[39] := (str_S (by simp [S, full])).symm
          have hls : ((ByteArray.mk #[39] ++ S T) ++ ByteArray.mk #[39]).size = (full ⟨2, P, T, F⟩).length := by rw [← hfl]; rfl
          have HE : Hid (S DD ++ (S Z ++ ((ByteArray.mk #[39] ++ S T) ++ ByteArray.mk #[39])) = S DE) := Lib.hid (by rw [HDT.out, ← S_app, ← S_app, hfl])
          rw [hfl] at hex
          generalize (full ⟨2, P, T, F⟩).length = L at *
          obtain ⟨Y, hY⟩ : ∃ Y, (ByteArray.mk #[39] ++ S T) ++ ByteArray.mk #[39] = Y := ⟨_, rfl⟩
          rw [hY] at hex hls HE
          clear hfl HDT
          by_cases hk1 : k + 1 < n
          · rw [if_pos hk1] at at1
            have hy2 := hy1 hk1
            clear hy1
            go_wp2_with fail
            exact ⟨⟨k + 1, by go_num, hlt, congrArg Value.string (by rw [HDE.out]; exact HE.out), (HBR.out.alloc hzr _).alloc (by simp; omega) _⟩, by simp only [intOf]; omega⟩
          · rw [if_neg hk1] at at1
            clear hy1
            go_wp2_with fail
            exact ⟨⟨k + 1, by go_num, hlt, congrArg Value.string (by rw [HDE.out]; exact HE.out), (HBR.out.alloc hzr _).alloc (by simp; omega) _⟩, by simp only [intOf]; omega⟩
        · have hfl : S (full ⟨3, P, T, F⟩) = ByteArray.mk #[37] ++ S T := (str_S (by simp [S, full])).symm
          have hls : (ByteArray.mk #[37] ++ S T).size = (full ⟨3, P, T, F⟩).length := by rw [← hfl]; rfl
          have HE : Hid (S DD ++ (S Z ++ (ByteArray.mk #[37] ++ S T)) = S DE) := Lib.hid (by rw [HDT.out, ← S_app, ← S_app, hfl])
          rw [hfl] at hex
          generalize (full ⟨3, P, T, F⟩).length = L at *
          obtain ⟨Y, hY⟩ : ∃ Y, ByteArray.mk #[37] ++ S T = Y := ⟨_, rfl⟩
          rw [hY] at hex hls HE
          clear hfl HDT
          by_cases hk1 : k + 1 < n
          · rw [if_pos hk1] at at1
            have hy2 := hy1 hk1
            clear hy1
            go_wp2_with fail
            exact ⟨⟨k + 1, by go_num, hlt, congrArg Value.string (by rw [HDE.out]; exact HE.out), (HBR.out.alloc hzr _).alloc (by simp; omega) _⟩, by simp only [intOf]; omega⟩
          · rw [if_neg hk1] at at1
            clear hy1
            go_wp2_with fail
            exact ⟨⟨k + 1, by go_num, hlt, congrArg Value.string (by rw [HDE.out]; exact HE.out), (HBR.out.alloc hzr _).alloc (by simp; omega) _⟩, by simp only [intOf]; omega⟩
        · have hfl : S (full ⟨1, P, T, F⟩) = S T := rfl
          have hls : (S T).size = (full ⟨1, P, T, F⟩).length := by rw [← hfl]; rfl
          have HE : Hid (S DD ++ (S Z ++ (S T)) = S DE) := Lib.hid (by rw [HDT.out, ← S_app, ← S_app, hfl])
          rw [hfl] at hex
          generalize (full ⟨1, P, T, F⟩).length = L at *
          obtain ⟨Y, hY⟩ : ∃ Y, S T = Y := ⟨_, rfl⟩
          rw [hY] at hex hls HE
          clear hfl HDT
          subst hY
          by_cases hk1 : k + 1 < n
          · rw [if_pos hk1] at at1
            have hy2 := hy1 hk1
            clear hy1
            go_wp2_with fail
            exact ⟨⟨k + 1, by go_num, hlt, congrArg Value.string (by rw [HDE.out]; exact HE.out), (HBR.out.alloc hzr _).alloc (by simp; omega) _⟩, by simp only [intOf]; omega⟩
          · rw [if_neg hk1] at at1
            clear hy1
            go_wp2_with fail
            exact ⟨⟨k + 1, by go_num, hlt, congrArg Value.string (by rw [HDE.out]; exact HE.out), (HBR.out.alloc hzr _).alloc (by simp; omega) _⟩, by simp only [intOf]; omega⟩
        · have hfl : S (full ⟨4, P, T, F⟩) = S T := rfl
          have hls : (S T).size = (full ⟨4, P, T, F⟩).length := by rw [← hfl]; rfl
          have HE : Hid (S DD ++ (S Z ++ (S T)) = S DE) := Lib.hid (by rw [HDT.out, ← S_app, ← S_app, hfl])
          rw [hfl] at hex
          generalize (full ⟨4, P, T, F⟩).length = L at *
          obtain ⟨Y, hY⟩ : ∃ Y, S T = Y := ⟨_, rfl⟩
          rw [hY] at hex hls HE
          clear hfl HDT
          subst hY
          by_cases hk1 : k + 1 < n
          · rw [if_pos hk1] at at1
            have hy2 := hy1 hk1
            clear hy1
            go_wp2_with fail
            exact ⟨⟨k + 1, by go_num, hlt, congrArg Value.string (by rw [HDE.out]; exact HE.out), (HBR.out.alloc hzr _).alloc (by simp; omega) _⟩, by simp only [intOf]; omega⟩
          · rw [if_neg hk1] at at1
            clear hy1
            go_wp2_with fail
            exact ⟨⟨k + 1, by go_num, hlt, congrArg Value.string (by rw [HDE.out]; exact HE.out), (HBR.out.alloc hzr _).alloc (by simp; omega) _⟩, by simp only [intOf]; omega⟩
      · obtain rfl : k = n := by omega
        rw [show x.take k = x from by rw [HN.out, List.take_length]]
        obtain ⟨hdl, y, hay, hkey⟩ := HDR.out q
        generalize dress q 0 x = DE at *
        have hyl : y.length = k := by rw [HN.out]; exact (key_at hkey (by rw [← HN.out]; exact hx0)).1
        have HKEY := Lib.hid hkey
        have HAY := Lib.hid hay
        have HYL := Lib.hid hyl
        have hall := fun w h => all_any (S DE) (by show DE.length ≤ maxLen; unfold maxLen; omega) w b off h
        have HAL := Lib.hid hall
        have HB3 := Lib.hid (HB2.out.trans (hbr.mono hz2))
        have hg1r : g1 < wr.heap.size := by omega
        have hz3 : w.heap.size ≤ wr.heap.size := by omega
        have HCR : Hid (∀ j u, (tcells x)[j]? = some u → wr.cell? ⟨g1, j, none⟩ = some u) := Lib.hid fun j u hj => (hbr.cell (p := ⟨g1, j, none⟩) hg1).trans (HC1.out j u hj)
        clear hkey hay hyl hall hbr hdl HC1 hf2
        go_wp2_with fail
        refine (HAL.out _ (HV.out.below HB3.out)).mono ?_
        rintro e1 w4 ⟨hall, hb4⟩
        unfold AllV at hall
        rw [S_list, HAY.out] at hall
        obtain ⟨v4, rfl, ho4⟩ := hall
        have HT4 := Lib.hid (ListT.of_own ho4)
        obtain ⟨o4, cap4, rfl, hl4⟩ := HT4.out
        obtain ⟨g4, rfl, hg4, hc4⟩ := hl4 (by rw [HYL.out]; exact hx0)
        have HC4 := Lib.hid hc4
        have HB4 := Lib.hid (HB3.out.trans (hb4.mono hz3))
        have hz4 : w.heap.size ≤ w4.heap.size := by have := hb4.size; omega
        have hg14 : g1 < w4.heap.size := by have := hb4.size; omega
        have HCX : Hid (∀ j u, (tcells x)[j]? = some u → w4.cell? ⟨g1, j, none⟩ = some u) := Lib.hid fun j u hj => (hb4.cell (p := ⟨g1, j, none⟩) hg1r).trans (HCR.out j u hj)
        rw [show y.length = k from HYL.out]
        clear ho4 hl4 hc4 hb4
        go_wp2_with fail
        have HW4 : Hid (Below w4.heap.size w4 (w4.alloc (.cells #[.int .i64 0, .int .i64 0] 26))) := Lib.hid ((Below.refl _ _).alloc (Nat.le_refl _) _)
        have HB5 := Lib.hid (HB4.out.alloc hz4 (.cells #[.int .i64 0, .int .i64 0] 26))
        go_loopw [164] (fun i wr => ∃ j : Nat, i = .int .i64 j ∧ j ≤ k ∧ Below w4.heap.size w4 wr) (fun i _ => k - (intOf i).toNat)
        case atStart => exact ⟨0, rfl, Nat.zero_le _, HW4.out⟩
        case round =>
          obtain ⟨j, rfl, hj, hbr⟩ := hrel
          have hzr5 := hbr.size
          by_cases hlt5 : j < k
          · have hxc : ∀ i, i < 4 → wr.cell? ⟨g1, j * 4 + i, none⟩ = (tokC (x.getD j ⟨0, 0, [], 0⟩))[i]? := fun i hi => by
              have h1 := tcells_at x j i (by rw [← HN.out]; exact hlt5) hi
              obtain ⟨u, hu⟩ : ∃ u, (tokC (x.getD j ⟨0, 0, [], 0⟩))[i]? = some u := ⟨_, List.getElem?_eq_getElem (by simpa [tokC] using hi)⟩
              rw [hu] at h1 ⊢
              exact (hbr.cell (p := ⟨g1, j * 4 + i, none⟩) hg14).trans (HCX.out _ u h1)
            have hyc : ∀ i, i < 4 → wr.cell? ⟨g4, j * 4 + i, none⟩ = (tokC (y.getD j ⟨0, 0, [], 0⟩))[i]? := fun i hi => by
              have h1 := tcells_at y j i (by rw [HYL.out]; exact hlt5) hi
              obtain ⟨u, hu⟩ : ∃ u, (tokC (y.getD j ⟨0, 0, [], 0⟩))[i]? = some u := ⟨_, List.getElem?_eq_getElem (by simpa [tokC] using hi)⟩
              rw [hu] at h1 ⊢
              exact (hbr.cell (p := ⟨g4, j * 4 + i, none⟩) hg4).trans (HC4.out _ u h1)
            have hke := (key_at HKEY.out (k := j) (by rw [← HN.out]; exact hlt5)).2
            generalize x.getD j ⟨0, 0, [], 0⟩ = X at *
            generalize y.getD j ⟨0, 0, [], 0⟩ = Y at *
            obtain ⟨K, P, T, F⟩ := X
            obtain ⟨K2, P2, T2, F2⟩ := Y
            have hke : (K2, T2, F2) = (K, T, F) := hke
            obtain ⟨rfl, rfl, rfl⟩ : K2 = K ∧ T2 = T ∧ F2 = F := by simpa using hke
            have c0 : wr.cell? ⟨g1, j * 4, none⟩ = some (.int .i64 K2) := hxc 0 (by decide)
            have c1 : wr.cell? ⟨g1, j * 4 + 1, none⟩ = some (.int .i64 P) := hxc 1 (by decide)
            have c2 : wr.cell? ⟨g1, j * 4 + 2, none⟩ = some (.string (S T2)) := hxc 2 (by decide)
            have c3 : wr.cell? ⟨g1, j * 4 + 3, none⟩ = some (.float .f64 F2) := hxc 3 (by decide)
            have d0 : wr.cell? ⟨g4, j * 4, none⟩ = some (.int .i64 K2) := hyc 0 (by decide)
            have d1 : wr.cell? ⟨g4, j * 4 + 1, none⟩ = some (.int .i64 P2) := hyc 1 (by decide)
            have d2 : wr.cell? ⟨g4, j * 4 + 2, none⟩ = some (.string (S T2)) := hyc 2 (by decide)
            have d3 : wr.cell? ⟨g4, j * 4 + 3, none⟩ = some (.float .f64 F2) := hyc 3 (by decide)
            have hgr1 : g1 < wr.heap.size := by omega
            have hgr4 : g4 < wr.heap.size := by omega
            have HBR := Lib.hid hbr
            clear hxc hyc hbr hke
            go_wp2_with fail
            go_quiet ((go_at_call 18; exact Calls.quiet_of_same ((rsame_self _ _).mono fun _ _ h => ⟨h.1, h.2.symm⟩)))
            go_wp2_with fail
            exact ⟨⟨j + 1, by go_num, hlt5, HBR.out.trans ((below_alloc_draw _ _ _).mono hzr5)⟩, by simp only [intOf]; omega⟩
          · obtain rfl : j = k := by omega
            go_wp2_with fail
            go_ret
            exact ⟨rfl, HB4.out.trans (hbr.mono hz4)⟩
end Go.Proofs.YtffbkhebkhbanaaGreatDoor.lx

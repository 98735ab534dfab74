import Derived.Test.YthcnffieoocnkaaTmsa
import Derived.Test.YthcnffieoocnkaaFew
import Derived.Laws.AppendOwn
import Derived.Laws.AppendOwnNone
namespace Go.Proofs.Ythcnffieoocnkaa.st
open Go.ChangeShapes Go.WideShapes Go.ChangeAt Go.RowKit Go.Maps Go.WideMaps Go.WideElems
set_option linter.unusedVariables false
/-! the document's own Cut and Join, and rows that grow by a slice that may be nil -/
theorem wpList_append_src {P : Program} {w : World} {ops : Array Oper} {rest : List Oper} {o : Oper} {a : Act} {Q : Exit → Act → World → Prop} (hgd : o.guard = none) (s x : Operand) (t : TypeId)
    (ho : o.op = .call { callee := .builtin .append, args := #[s, x], argTypes := #[t, t] })
    (base : Nat) (e : TypeId) (i : TypeInfo) (z : Value) (size bytes : Nat) (ht : P.underlying t = some (.slice e)) (hi : P.info? e = some i) (hz : i.zero = some z)
    (hsize : i.size = size) (hby : i.bytes = bytes) (hzs : z.cells.size = size) (hsz : 0 < size)
    (v : Value) (n : Nat) (xs : List Value) (hs : a.eval s = v) (hown : w.ownsRow base e size v n xs)
    (ao : Option Addr) (m c : Nat) (news : List Value) (hx : a.eval x = .slice ao m c) (hl : news.length = m * size) (hnone : ao = none → m = 0 ∧ c = 0) (hnews : ∀ ad, ao = some ad → ∀ j u, news[j]? = some u → w.cell? (ad.add j) = some u) (h1 : ∀ u ∈ news, u.oneCell' = true)
    (h63 : n + m ≤ maxLen) (hbytes : (n + m) * bytes ≤ 140737488355328) (hbase : base ≤ w.heap.size)
    (h : ∀ v' w', w'.ownsRow base e size v' (n + m) (xs ++ news) → w.grownBy w' v.ownBlock → wpList P ops Q rest (a.put o.dst v') w') : wpList P ops Q (o :: rest) a w := by
  cases ao with
  | some ad => exact wpList_append_own w hgd s x t ho base e i z size bytes ht hi hz hsize hby hzs hsz v n xs hs hown ad m c news hx hl (hnews ad rfl) h1 h63 hbytes hbase fun v' w' h2 h3 _ => h v' w' h2 h3
  | none =>
    obtain ⟨rfl, rfl⟩ := hnone rfl
    have hn : news = [] := List.eq_nil_of_length_eq_zero (by simpa using hl)
    subst hn
    exact wpList_append_own_none hgd s x t ho base e i size ht hi v n xs hs hown hx (h v w (by simpa using hown) (World.grownBy.refl _ _))
theorem word_own {B : Nat} {w : World} {v : Value} {xs : List Int} {n : Nat} (h : w.ownsRow B 3 1 v n (IV xs)) (hn : xs.length = n) (hin : ∀ x ∈ xs, In64 x) : WordAt w v xs := by
  have h' := h
  rcases h.2 with ⟨hv, h0⟩ | ⟨g, cap, cur, hv, _, _, hc, hm, _⟩
  · subst hv
    subst hn
    have h0 : xs.length = 0 := by omega
    exact ⟨none, 0, by rw [h0], hin, fun i hi => by omega⟩
  · subst hv
    subst hn
    refine ⟨_, cap, rfl, hin, fun i hi => ⟨_, rfl, own_lt h', own_cells' h' i _ ?_⟩⟩
    simp [IV, List.getD_eq_getElem?_getD, List.getElem?_eq_getElem hi]
theorem iv_snoc (xs : List Int) (j : Nat) (h : j < xs.length) : IV (xs.take j) ++ IV [xs.getD j 0] = IV (xs.take (j + 1)) := by
  rw [List.take_succ_eq_append_getElem h, List.getD_eq_getElem?_getD, List.getElem?_eq_getElem h]
  unfold IV
  rw [List.map_append]
  rfl
set_option maxRecDepth 100000 in
set_option maxHeartbeats 2000000 in
theorem rcut_any (w : World) (v : Value) (xs : List Int) (k : Int) (hv : WordAt w v xs) (hx : xs.length ≤ 1000) : Calls Try.prog 13 #[v, .int .i64 k] w fun e w' => ∃ u, e = .returned u ∧ WordAt w' u (xs.take k.toNat) ∧ Below w.heap.size w w' := by
  obtain ⟨i0, hi, hz0, hz1, hz2⟩ := info_parts info_int
  obtain ⟨ao, ca, rfl, hin, hc⟩ := hv
  have HC := Lib.hid hc
  have HIN := Lib.hid hin
  clear hc hin
  go_enter Try.func13, Try.ntmps13
  go_wp2
  go_loopw [5, 6] (fun v i wr => ∃ j : Nat, j ≤ xs.length ∧ j ≤ k.toNat ∧ i = .int .i64 j ∧ wr.ownsRow w.heap.size 3 1 v j (IV (xs.take j)) ∧ Below w.heap.size w wr) (fun _ i _ => xs.length - (intOf i).toNat)
  case atStart =>
    refine ⟨0, Nat.zero_le _, Nat.zero_le _, rfl, ?_, (Below.refl _ _).alloc (Nat.le_refl _) _⟩
    have := World.ownsRow_made (e := 3) (size := 1) (base := w.heap.size) w #[] 0 (Nat.le_refl _) (by unfold maxLen; omega) rfl
    simpa [IV] using this
  case round =>
    obtain ⟨j, hj, hjk, rfl, hown, hbw⟩ := hrel
    have hzw := hbw.size
    by_cases hlt : j < xs.length
    · by_cases hk : (j : Int) < k
      · obtain ⟨a, rfl, hab, hca⟩ := HC.out j hlt
        have hck : wr.cell? (a.add j) = some (.int .i64 (xs.getD j 0)) := (hbw.cell (p := a.add j) (by rw [add_block]; exact hab)).trans hca
        have hiv := iv_snoc xs j hlt
        clear hca
        generalize xs.getD j 0 = y at *
        have HF := Lib.hid hiv
        clear hiv
        go_wp2_with (at_builtin; go_must (refine wpList_append_own _ rfl _ _ 22 rfl w.heap.size 3 i0 (.int .i64 0) 1 8 Try.underlying22 hi hz0 hz1 hz2 rfl (by decide) _ _ _ rfl (hown.alloc _) ⟨wr.heap.size, 0, none⟩ 1 1 (IV [y]) rfl rfl (cell_one_new _ _ _) (ints_oneCell .i64 _) (by unfold maxLen; omega) (by omega) (by simp; omega) ?_); intro v' w2 hown' hgrow _)
        have hb2 : Below w.heap.size w w2 := (hbw.alloc hzw _).grown hgrow (by simp; omega) (fun j hj => (hown.lt j hj).1)
        refine ⟨⟨j + 1, hlt, by omega, by go_num, ?_, hb2⟩, by simp [intOf]; omega⟩
        rw [← HF.out]
        exact hown'
      · have e : xs.take j = xs.take k.toNat := by rw [show k.toNat = j by omega]
        have hw := word_own hown (by simp; omega) (fun n hn => HIN.out n (List.mem_of_mem_take hn))
        rw [e] at hw
        have HW := Lib.hid hw
        clear hw e hown
        go_wp2
        go_ret
        exact ⟨_, rfl, HW.out, hbw⟩
    · have e : xs.take j = xs.take k.toNat := by rw [List.take_of_length_le (by omega), List.take_of_length_le (by omega)]
      have hw := word_own hown (by simp; omega) (fun n hn => HIN.out n (List.mem_of_mem_take hn))
      rw [e] at hw
      have HW := Lib.hid hw
      clear hw e hown
      go_wp2
      go_ret
      exact ⟨_, rfl, HW.out, hbw⟩
theorem row_src {w w' : World} {ao : Option Addr} {xs : List Int} (h : ∀ i, i < xs.length → ∃ a : Addr, ao = some a ∧ a.block < w.heap.size ∧ w.cell? (a.add i) = some (.int .i64 (xs.getD i 0))) (hb : Below w.heap.size w w') : ∀ ad, ao = some ad → ∀ j u, (IV xs)[j]? = some u → w'.cell? (ad.add j) = some u := by
  have := src_cells h hb (Nat.le_refl _)
  rwa [List.take_length] at this
set_option maxRecDepth 100000 in
set_option maxHeartbeats 2000000 in
theorem rjoin_any (w : World) (v u : Value) (xs ys : List Int) (k : Int) (hv : RowAt w v xs) (hu : RowAt w u ys) (hx : xs.length ≤ 400) (hy : ys.length ≤ 400) : Calls Try.prog 15 #[v, u, .int .i64 k] w fun e w' => ∃ r, e = .returned r ∧ WordAt w' r ((xs ++ ys).take k.toNat) ∧ Below w.heap.size w w' := by
  obtain ⟨i0, hi, hz0, hz1, hz2⟩ := info_parts info_int
  obtain ⟨ao, ca, rfl, h1, h2, h3, hin, hc⟩ := hv
  obtain ⟨bo, cb, rfl, g1, g2, g3, hin2, hc2⟩ := hu
  have hn1 : ao = none → xs.length = 0 ∧ ca = 0 := fun e => by have := h3 e; omega
  have hn2 : bo = none → ys.length = 0 ∧ cb = 0 := fun e => by have := g3 e; omega
  have hl1 : (IV xs).length = xs.length * 1 := by simp [IV]
  have hl2 : (IV ys).length = ys.length * 1 := by simp [IV]
  have hs1 := row_src (w' := w.alloc (.cells #[] 3)) hc ((Below.refl _ _).alloc (Nat.le_refl _) _)
  have hs2 := fun w' => row_src (w' := w') hc2
  have hfin : ∀ n ∈ xs ++ ys, In64 n := fun n hn => by
    rcases List.mem_append.1 hn with h | h
    · exact hin n h
    · exact hin2 n h
  have hown0 : (w.alloc (.cells #[] 3)).ownsRow w.heap.size 3 1 (.slice (some ⟨w.heap.size, 0, none⟩) 0 0) 0 [] := by
    have := World.ownsRow_made (e := 3) (size := 1) (base := w.heap.size) w #[] 0 (Nat.le_refl _) (by unfold maxLen; omega) rfl
    simpa using this
  have HF := Lib.hid hfin
  have HS2 := Lib.hid hs2
  clear hc hc2 hin hin2 hfin h1 h2 h3 g1 g2 g3 hs2
  have hb0 : Below w.heap.size w (w.alloc (.cells #[] 3)) := (Below.refl _ _).alloc (Nat.le_refl _) _
  go_enter Try.func15, Try.ntmps15
  go_wp2_with (first | (at_builtin; refine wpList_append_src rfl (.tmp 7) (.tmp 8) 22 rfl w.heap.size 3 i0 (.int .i64 0) 1 8 Try.underlying22 hi hz0 hz1 hz2 rfl (by decide) _ 0 [] rfl hown0 ao xs.length ca (IV xs) rfl hl1 hn1 hs1 (ints_oneCell .i64 _) (by unfold maxLen; omega) (by omega) (by simp) ?_; intro v1 w1 hown1 hg1; have hb1 : Below w.heap.size w w1 := hb0.grown hg1 hb0.size (fun j hj => (hown0.lt j hj).1); have hs2 := HS2.out w1 hb1; clear hown0 hs1 hg1) | (at_builtin; refine wpList_append_src rfl (.tmp 9) (.tmp 10) 22 rfl w.heap.size 3 i0 (.int .i64 0) 1 8 Try.underlying22 hi hz0 hz1 hz2 rfl (by decide) v1 (0 + xs.length) ([] ++ IV xs) rfl hown1 bo ys.length cb (IV ys) rfl hl2 hn2 hs2 (ints_oneCell .i64 _) (by unfold maxLen; omega) (by omega) hb1.size ?_; intro v2 w2 hown2 hg2; have hb2 : Below w.heap.size w w2 := hb1.grown hg2 hb1.size (fun j hj => (hown1.lt j hj).1); clear hown1 hs2 hg2) | fail)
  have hiv : [] ++ IV xs ++ IV ys = IV (xs ++ ys) := by simp [IV]
  rw [hiv] at hown2
  have c := rcut_any w2 v2 (xs ++ ys) k (word_own hown2 (by simp) HF.out) (by simp; omega)
  refine c.mono ?_
  rintro e w3 ⟨r, rfl, hr, hb3⟩
  clear c hown2 hiv
  have HR := Lib.hid hr
  have HB := Lib.hid (hb2.trans (hb3.mono hb2.size))
  clear hr hb3 hb2
  go_wp2
  go_ret
  exact ⟨r, rfl, HR.out, HB.out⟩
end Go.Proofs.Ythcnffieoocnkaa.st

import Derived.Test.YtomikgkoegkofaaGreatDoorRows
import Derived.WalkKit
import Derived.WalkLawsBesides
import Derived.WalkSpells
import Derived.ProofKit
import Derived.OpenShut
import Derived.Handy
import Derived.Outline
import Derived.Lib.Hide
import Derived.Below
import Derived.WalkSmall
import Derived.OneCell
import Derived.Laws.OwnMore
import Derived.Laws.EntriesVeiled
import Derived.Deep.Draws
import Derived.Deep.AppendLies
import Derived.Laws.Rows
import Derived.Laws.AppendOwn
import Derived.Laws.AppendOwnNone
import Derived.Maps.AppendAt
import Derived.Deep.QuietTactic
import Derived.BigQuiet
namespace Go.Proofs.YtomikgkoegkofaaGreatDoor.dv
open Go.ChangeShapes Go.WideShapes Go.ChangeAt Go.RowKit Go.Maps Go.WideMaps Go.WideElems
set_option linter.unusedVariables false
/-! words in memory; the document's Less and Same of words -/
def In64 (n : Int) : Prop := -9223372036854775808 ≤ n ∧ n < 9223372036854775808
/-- the bytes' order is the words' -/
def ltW : List Int → List Int → Bool
  | [], [] => false
  | [], _ :: _ => true
  | _ :: _, [] => false
  | x :: a, y :: b => decide (x < y) || (decide (x = y) && ltW a b)
theorem add_block (a : Addr) (k : Nat) : (a.add k).block = a.block := by unfold Addr.add; split <;> rfl
theorem info_int : (Tryz.prog.info? 3).map (fun i => (i.zero, i.size, i.bytes)) = some (some (.int .i64 0), 1, 8) := by kernel_rfl
def IV (l : List Int) : List Value := l.map (Value.int .i64)
theorem ltW_drop : ∀ (k : Nat) (xs ys : List Int), k ≤ xs.length → k ≤ ys.length → xs.take k = ys.take k → ltW xs ys = ltW (xs.drop k) (ys.drop k)
  | 0, xs, ys, _, _, _ => by simp
  | k + 1, [], ys, h, _, _ => by simp at h
  | k + 1, x :: xs, [], _, h, _ => by simp at h
  | k + 1, x :: xs, y :: ys, h1, h2, h => by
    simp only [List.take_succ_cons, List.cons.injEq] at h
    obtain ⟨rfl, h⟩ := h
    have := ltW_drop k xs ys (by simpa using h1) (by simpa using h2) h
    simp [ltW, this]
theorem ltW_at {k : Nat} {xs ys : List Int} (h1 : k < xs.length) (h2 : k < ys.length) (h : xs.take k = ys.take k) : ltW xs ys = (decide (xs.getD k 0 < ys.getD k 0) || (decide (xs.getD k 0 = ys.getD k 0) && ltW (xs.drop (k + 1)) (ys.drop (k + 1)))) := by
  rw [ltW_drop k xs ys (by omega) (by omega) h, List.drop_eq_getElem_cons h1, List.drop_eq_getElem_cons h2]
  simp [ltW, List.getD_eq_getElem?_getD, List.getElem?_eq_getElem h1, List.getElem?_eq_getElem h2]
theorem ltW_end {k : Nat} {xs ys : List Int} (h1 : k ≤ xs.length) (h2 : k ≤ ys.length) (h : xs.take k = ys.take k) (he : k = xs.length ∨ k = ys.length) : ltW xs ys = decide (xs.length < ys.length) := by
  rw [ltW_drop k xs ys h1 h2 h]
  rcases he with rfl | rfl
  · rw [List.drop_length]
    cases hd : ys.drop xs.length with
    | nil => have := congrArg List.length hd; simp at this; simp [ltW]; omega
    | cons a l => have := congrArg List.length hd; simp at this; simp [ltW]; omega
  · rw [List.drop_length]
    cases hd : xs.drop ys.length with
    | nil => simp [ltW]; omega
    | cons a l => simp [ltW]; omega
theorem take_more {k : Nat} {xs ys : List Int} (h1 : k < xs.length) (h2 : k < ys.length) (h : xs.take k = ys.take k) (he : xs.getD k 0 = ys.getD k 0) : xs.take (k + 1) = ys.take (k + 1) := by
  rw [List.take_succ_eq_append_getElem h1, List.take_succ_eq_append_getElem h2, h]
  simp [List.getD_eq_getElem?_getD, List.getElem?_eq_getElem h1, List.getElem?_eq_getElem h2] at he
  rw [he]
theorem ret_bool {a b : Bool} (h : a = b) : Ending.returned (.bool a) = .returned (.bool b) := by rw [h]
theorem ret_int {a b : Int} (h : a = b) : Ending.returned (.int .i64 a) = .returned (.int .i64 b) := by rw [h]
/-- a world of which only the tape was drawn -/
def Qt (w w' : World) : Prop := ∃ n, w' = w.drewN n
theorem Qt.drewN {w w' : World} (h : Qt w w') (n : Nat) : Qt w (w'.drewN n) := by
  obtain ⟨m, rfl⟩ := h
  exact ⟨m + n, World.drewN_drewN ..⟩
theorem Qt.cell {w w' : World} (h : Qt w w') (a : Addr) : w'.cell? a = w.cell? a := by obtain ⟨m, rfl⟩ := h; rfl
theorem Qt.below {w w' : World} (h : Qt w w') : Below w.heap.size w w' := by obtain ⟨m, rfl⟩ := h; exact below_drewN (Below.refl _ _) _
theorem Qt.trans {a b c : World} (h : Qt a b) (k : Qt b c) : Qt a c := by obtain ⟨m, rfl⟩ := k; exact h.drewN m
/-- a word, as a slice value -/
def WordAt (w : World) (v : Value) (xs : List Int) : Prop := ∃ ao cap, v = .slice ao xs.length cap ∧ (∀ x ∈ xs, In64 x) ∧ (∀ i, i < xs.length → ∃ a : Addr, ao = some a ∧ a.block < w.heap.size ∧ w.cell? (a.add i) = some (.int .i64 (xs.getD i 0)))
theorem WordAt.below {w w' : World} {v : Value} {xs : List Int} (h : WordAt w v xs) (hb : Below w.heap.size w w') : WordAt w' v xs := by
  obtain ⟨ao, cap, e, hin, hc⟩ := h
  refine ⟨ao, cap, e, hin, fun i hi => ?_⟩
  obtain ⟨a, e2, hab, hcell⟩ := hc i hi
  exact ⟨a, e2, by have := hb.size; omega, (hb.cell (p := a.add i) (by rw [add_block]; exact hab)).trans hcell⟩
set_option maxRecDepth 100000 in
set_option maxHeartbeats 1000000 in
theorem less_any (w : World) (v u : Value) (xs ys : List Int) (hv : WordAt w v xs) (hu : WordAt w u ys) (hx : xs.length ≤ 1000) (hy : ys.length ≤ 1000) : Calls Tryz.prog 32 #[v, u] w fun e w' => e = .returned (.bool (ltW xs ys)) ∧ ∃ n, w' = w.drewN n := by
  obtain ⟨ao, ca, rfl, hin, hc⟩ := hv
  obtain ⟨bo, cb, rfl, hin2, hc2⟩ := hu
  have HC := Lib.hid hc
  have HC2 := Lib.hid hc2
  clear hc hc2 hin hin2
  go_enter Tryz.func32, Tryz.ntmps32
  go_wp2
  go_loopw [5] (fun i wr => ∃ k : Nat, i = .int .i64 k ∧ k ≤ xs.length ∧ k ≤ ys.length ∧ xs.take k = ys.take k ∧ Qt w wr) (fun i _ => xs.length - (intOf i).toNat)
  case atStart => exact ⟨0, rfl, Nat.zero_le _, Nat.zero_le _, by simp, ⟨0, rfl⟩⟩
  case round =>
    obtain ⟨k, rfl, hk1, hk2, htk, hbel⟩ := hrel
    by_cases h1 : k < xs.length
    · by_cases h2 : k < ys.length
      · obtain ⟨a, rfl, hab, hca⟩ := HC.out k h1
        obtain ⟨b, rfl, hbb, hcb⟩ := HC2.out k h2
        have ca : wr.cell? (a.add k) = some (.int .i64 (xs.getD k 0)) := (hbel.cell _).trans hca
        have cb : wr.cell? (b.add k) = some (.int .i64 (ys.getD k 0)) := (hbel.cell _).trans hcb
        have hlt := ltW_at h1 h2 htk
        have hlt2 := ltW_at h2 h1 htk.symm
        have hmo := take_more h1 h2 htk
        clear hca hcb
        generalize xs.getD k 0 = x at *
        generalize ys.getD k 0 = y at *
        have HL := Lib.hid hlt
        have HL2 := Lib.hid hlt2
        have HM := Lib.hid hmo
        have HT := Lib.hid htk
        clear hlt hlt2 hmo htk
        by_cases he : x = y
        · subst he
          go_wp2
          go_quiet (fail)
          go_wp2
          exact ⟨⟨k + 1, congrArg (Value.int .i64) (by omega), h1, h2, HM.out (by trivial), hbel.drewN _⟩, by simp only [intOf]; omega⟩
        · go_wp2
          go_quiet (fail)
          go_wp2
          go_quiet (fail)
          go_wp2
          go_ret
          exact ⟨ret_bool (by rw [HL.out]; simp [he]), (hbel.drewN _).drewN _⟩
      · obtain rfl : k = ys.length := by omega
        have hlt := ltW_end hk1 hk2 htk (.inr rfl)
        have hlt2 := ltW_end hk2 hk1 htk.symm (.inl rfl)
        have HL := Lib.hid hlt
        have HL2 := Lib.hid hlt2
        clear hlt hlt2 htk
        go_wp2
        go_ret
        exact ⟨ret_bool (by rw [HL.out]; try simp), hbel⟩
    · obtain rfl : k = xs.length := by omega
      have hlt := ltW_end hk1 hk2 htk (.inl rfl)
      have hlt2 := ltW_end hk2 hk1 htk.symm (.inr rfl)
      have HL := Lib.hid hlt
      have HL2 := Lib.hid hlt2
      clear hlt hlt2 htk
      go_wp2
      go_ret
      exact ⟨ret_bool (by rw [HL.out]; try simp), hbel⟩
theorem ltW_same : ∀ {xs ys : List Int}, ltW xs ys = false → ltW ys xs = false → xs = ys
  | [], [], _, _ => rfl
  | [], _ :: _, h, _ => by simp [ltW] at h
  | _ :: _, [], _, h => by simp [ltW] at h
  | x :: xs, y :: ys, h1, h2 => by
    simp [ltW] at h1 h2
    obtain rfl : x = y := by omega
    rw [ltW_same (h1.2 rfl) (h2.2 rfl)]
theorem ltW_irr : ∀ (xs : List Int), ltW xs xs = false
  | [] => rfl
  | x :: xs => by simp [ltW, ltW_irr xs]
theorem sameW (xs ys : List Int) : (!ltW xs ys && !ltW ys xs) = decide (xs = ys) := by
  by_cases h : xs = ys
  · subst h; simp [ltW_irr]
  · simp only [h, decide_false]
    cases h1 : ltW xs ys <;> cases h2 : ltW ys xs <;> simp
    exact h (ltW_same h1 h2)
theorem WordAt.qt {w w' : World} {v : Value} {xs : List Int} (h : WordAt w v xs) (hb : Qt w w') : WordAt w' v xs := h.below hb.below
set_option maxRecDepth 100000 in
set_option maxHeartbeats 1000000 in
theorem rsame_any (w : World) (v u : Value) (xs ys : List Int) (hv : WordAt w v xs) (hu : WordAt w u ys) (hx : xs.length ≤ 1000) (hy : ys.length ≤ 1000) : Calls Tryz.prog 10 #[v, u] w fun e w' => e = .returned (.bool (decide (xs = ys))) ∧ ∃ n, w' = w.drewN n := by
  have h1 := less_any w v u xs ys hv hu hx hy
  have h2 := fun w1 (hb : Qt w w1) => less_any w1 u v ys xs (hu.qt hb) (hv.qt hb) hy hx
  have hs := sameW xs ys
  have HS := Lib.hid hs
  clear hs hv hu
  cases hl : ltW xs ys
  · rw [hl] at h1
    have HL := Lib.hid hl
    clear hl
    go_enter Tryz.func10, Tryz.ntmps10
    go_wp2_with fail
    refine h1.mono ?_
    rintro e w1 ⟨rfl, hb⟩
    have hb : Qt w w1 := hb
    go_wp2_with fail
    refine (h2 w1 hb).mono ?_
    rintro e w2 ⟨rfl, hb2⟩
    go_wp2_with fail
    go_ret
    exact ⟨ret_bool (by rw [← HS.out, HL.out]; simp), hb.trans hb2⟩
  · rw [hl] at h1
    have HL := Lib.hid hl
    clear hl
    go_enter Tryz.func10, Tryz.ntmps10
    go_wp2_with fail
    refine h1.mono ?_
    rintro e w1 ⟨rfl, hb⟩
    have hb : Qt w w1 := hb
    go_wp2_with fail
    go_ret
    exact ⟨ret_bool (by rw [← HS.out, HL.out]; simp), hb⟩
theorem own_below_ {w w' : World} {base g n cap : Nat} {e : TypeId} {xs : List Value} (h : w.ownsRow base e 1 (.slice (some ⟨g, 0, none⟩) n cap) n xs) (hb : Below w.heap.size w w') : w'.ownsRow base e 1 (.slice (some ⟨g, 0, none⟩) n cap) n xs := by
  obtain ⟨hl, h | ⟨g', cap', cur, hv, hbase, hh, r⟩⟩ := h
  · cases h.1
  · cases hv
    exact ⟨hl, .inr ⟨g, cap, cur, rfl, hbase, (hb.block g (Array.getElem?_eq_some_iff.1 hh).1).trans hh, r⟩⟩
theorem own_lt {w : World} {base g n cap : Nat} {e : TypeId} {xs : List Value} (h : w.ownsRow base e 1 (.slice (some ⟨g, 0, none⟩) n cap) n xs) : g < w.heap.size := by
  obtain ⟨hl, h | ⟨g', cap', cur, hv, hbase, hh, r⟩⟩ := h
  · cases h.1
  · cases hv
    exact (Array.getElem?_eq_some_iff.1 hh).1
theorem own_ge {w : World} {base g n cap : Nat} {e : TypeId} {xs : List Value} (h : w.ownsRow base e 1 (.slice (some ⟨g, 0, none⟩) n cap) n xs) : base ≤ g := by
  obtain ⟨hl, h | ⟨g', cap', cur, hv, hbase, hh, r⟩⟩ := h
  · cases h.1
  · cases hv
    exact hbase
theorem own_kept {w w' : World} {base g n cap : Nat} {e : TypeId} {xs : List Value} {row : Option Nat} (h : w.ownsRow base e 1 (.slice (some ⟨g, 0, none⟩) n cap) n xs) (hb : w.grownBy w' row) (hne : some g ≠ row) : w'.ownsRow base e 1 (.slice (some ⟨g, 0, none⟩) n cap) n xs := by
  obtain ⟨hl, h | ⟨g', cap', cur, hv, hbase, hh, r⟩⟩ := h
  · cases h.1
  · cases hv
    exact ⟨hl, .inr ⟨g, cap, cur, rfl, hbase, (hb.block g (Array.getElem?_eq_some_iff.1 hh).1 hne).trans hh, r⟩⟩
theorem own_base {w : World} {base base' g n cap : Nat} {e : TypeId} {xs : List Value} (h : w.ownsRow base e 1 (.slice (some ⟨g, 0, none⟩) n cap) n xs) (hb : base' ≤ base) : w.ownsRow base' e 1 (.slice (some ⟨g, 0, none⟩) n cap) n xs := by
  obtain ⟨hl, h | ⟨g', cap', cur, hv, hbase, hh, r⟩⟩ := h
  · cases h.1
  · cases hv
    exact ⟨hl, .inr ⟨g, cap, cur, rfl, Nat.le_trans hb hbase, hh, r⟩⟩
theorem own_cells' {w : World} {base g n cap : Nat} {e : TypeId} {vals : List Value} (h : w.ownsRow base e 1 (.slice (some ⟨g, 0, none⟩) n cap) n vals) (j : Nat) (u : Value) (hj : vals[j]? = some u) : w.cell? ((⟨g, 0, none⟩ : Addr).add j) = some u := by
  have hl : j < vals.length := (List.getElem?_eq_some_iff.1 hj).1
  have e1 : (⟨g, 0, none⟩ : Addr).add j = ⟨g, j, none⟩ := by
    simp [Addr.add]
    exact fun h => h.symm
  rw [e1, h.cellAt j (by have := h.1; omega)]
  exact hj
def RowAt (w : World) (v : Value) (x : List Int) : Prop := ∃ ao cap, v = .slice ao x.length cap ∧ x.length ≤ cap ∧ cap ≤ maxLen ∧ (ao = none → cap = 0) ∧ (∀ n ∈ x, In64 n) ∧ ∀ i, i < x.length → ∃ a : Addr, ao = some a ∧ a.block < w.heap.size ∧ w.cell? (a.add i) = some (.int .i64 (x.getD i 0))
theorem RowAt.word {w : World} {v : Value} {x : List Int} (h : RowAt w v x) : WordAt w v x := by
  obtain ⟨ao, cap, e, _, _, _, h1, h2⟩ := h
  exact ⟨ao, cap, e, h1, h2⟩
theorem RowAt.below {w w' : World} {v : Value} {xs : List Int} (h : RowAt w v xs) (hb : Below w.heap.size w w') : RowAt w' v xs := by
  obtain ⟨ao, cap, e, h1, h2, h3, hin, hc⟩ := h
  refine ⟨ao, cap, e, h1, h2, h3, hin, fun i hi => ?_⟩
  obtain ⟨a, e2, hab, hcell⟩ := hc i hi
  exact ⟨a, e2, by have := hb.size; omega, (hb.cell (p := a.add i) (by rw [add_block]; exact hab)).trans hcell⟩
theorem wpList_append_src {P : Program} {w : World} {ops : Array Oper} {rest : List Oper} {o : Oper} {a : Act} {Q : Exit → Act → World → Prop} (hgd : o.guard = none) (s x : Operand) (t : TypeId)
    (ho : o.op = .call { callee := .builtin .append, args := #[s, x], argTypes := #[t, t] })
    (base : Nat) (e : TypeId) (i : TypeInfo) (z : Value) (size bytes : Nat) (ht : P.underlying t = some (.slice e)) (hi : P.info? e = some i) (hz : i.zero = some z)
    (hsize : i.size = size) (hby : i.bytes = bytes) (hzs : z.cells.size = size) (hsz : 0 < size)
    (v : Value) (n : Nat) (xs : List Value) (hs : a.eval s = v) (hown : w.ownsRow base e size v n xs)
    (ao : Option Addr) (m c : Nat) (news : List Value) (hx : a.eval x = .slice ao m c) (hl : news.length = m * size) (hnone : ao = none → m = 0 ∧ c = 0) (hnews : ∀ ad, ao = some ad → ∀ j u, news[j]? = some u → w.cell? (ad.add j) = some u) (h1 : ∀ u ∈ news, u.oneCell' = true)
    (h63 : n + m ≤ maxLen) (hbytes : (n + m) * bytes ≤ 140737488355328) (hbase : base ≤ w.heap.size)
    (h : ∀ v' w', w'.ownsRow base e size v' (n + m) (xs ++ news) → w.grownBy w' v.ownBlock → wpList P ops Q rest (a.put o.dst v') w') : wpList P ops Q (o :: rest) a w := by
  cases ao with
  | some ad => exact wpList_append_own w hgd s x t ho base e i z size bytes ht hi hz hsize hby hzs hsz v n xs hs hown ad m c news hx hl (hnews ad rfl) h1 h63 hbytes hbase fun v' w' h2 h3 _ => h v' w' h2 h3
  | none =>
    obtain ⟨rfl, rfl⟩ := hnone rfl
    have hn : news = [] := List.eq_nil_of_length_eq_zero (by simpa using hl)
    subst hn
    exact wpList_append_own_none hgd s x t ho base e i size ht hi v n xs hs hown hx (h v w (by simpa using hown) (World.grownBy.refl _ _))
theorem word_own {B : Nat} {w : World} {v : Value} {xs : List Int} {n : Nat} (h : w.ownsRow B 3 1 v n (IV xs)) (hn : xs.length = n) (hin : ∀ x ∈ xs, In64 x) : WordAt w v xs := by
  have h' := h
  rcases h.2 with ⟨hv, h0⟩ | ⟨g, cap, cur, hv, _, _, hc, hm, _⟩
  · subst hv
    subst hn
    have h0 : xs.length = 0 := by omega
    exact ⟨none, 0, by rw [h0], hin, fun i hi => by omega⟩
  · subst hv
    subst hn
    refine ⟨_, cap, rfl, hin, fun i hi => ⟨_, rfl, own_lt h', own_cells' h' i _ ?_⟩⟩
    simp [IV, List.getD_eq_getElem?_getD, List.getElem?_eq_getElem hi]
theorem iv_snoc (xs : List Int) (j : Nat) (h : j < xs.length) : IV (xs.take j) ++ IV [xs.getD j 0] = IV (xs.take (j + 1)) := by
  rw [List.take_succ_eq_append_getElem h, List.getD_eq_getElem?_getD, List.getElem?_eq_getElem h]
  unfold IV
  rw [List.map_append]
  rfl
def Blk (w : World) (g : Nat) (t : TypeId) (cs : Array Value) : Prop := w.heap[g]? = some (.cells cs t (0, 0))
section
variable {w w' : World} {g : Nat} {t : TypeId} {cs : Array Value}
theorem Blk.lt (h : Blk w g t cs) : g < w.heap.size := by
  rcases Nat.lt_or_ge g w.heap.size with hlt | hge
  · exact hlt
  · unfold Blk at h; rw [Array.getElem?_eq_none hge] at h; cases h
theorem Blk.cell (h : Blk w g t cs) (i : Nat) : w.cell? ⟨g, i, none⟩ = cs[i]? := cell_of_row w g i cs t (0, 0) h
theorem Blk.frozen (h : Blk w g t cs) (i : Nat) : w.frozen? ⟨g, i, none⟩ = false := by
  unfold Blk at h
  simp [World.frozen?, h]
theorem Blk.new (w : World) (t : TypeId) (cs : Array Value) : Blk (w.alloc (.cells cs t)) w.heap.size t cs := heap_alloc_new w _
theorem Blk.alloc (h : Blk w g t cs) (o : Obj) : Blk (w.alloc o) g t cs := (Below.heap_alloc w o g h.lt).trans h
theorem Blk.set_ (h : Blk w g t cs) (i : Nat) (u : Value) : Blk (w.setCell ⟨g, i, none⟩ u) g t (cs.setIfInBounds i u) := by
  unfold Blk at h ⊢
  simp [World.setCell, Array.getElem?_modify, h]
theorem Blk.far (h : Blk w g t cs) {p : Addr} (hp : g ≠ p.block) (u : Value) : Blk (w.setCell p u) g t cs := (Below.heap_setCell w p u g hp).trans h
theorem Blk.below {B : Nat} (h : Blk w g t cs) (hb : Below B w w') (hg : g < B) : Blk w' g t cs := (hb.block g hg).trans h
end
theorem lt_heap {w : World} {g : Nat} {o : Obj} (h : w.heap[g]? = some o) : g < w.heap.size := by
  rcases Nat.lt_or_ge g w.heap.size with hlt | hge
  · exact hlt
  · rw [Array.getElem?_eq_none hge] at h; cases h
theorem ownsRow_keep {w w' : World} {base size n : Nat} {e : TypeId} {v : Value} {xs : List Value} (h : w.ownsRow base e size v n xs) (hb : ∀ g, g < w.heap.size → v.ownBlock = some g → w'.heap[g]? = w.heap[g]?) : w'.ownsRow base e size v n xs := by
  obtain ⟨hl, h | ⟨g, cap, cur, hv, hB, hh, r⟩⟩ := h
  · exact ⟨hl, .inl h⟩
  · exact ⟨hl, .inr ⟨g, cap, cur, hv, hB, (hb g (lt_heap hh) (by rw [hv]; rfl)).trans hh, r⟩⟩
end Go.Proofs.YtomikgkoegkofaaGreatDoor.dv

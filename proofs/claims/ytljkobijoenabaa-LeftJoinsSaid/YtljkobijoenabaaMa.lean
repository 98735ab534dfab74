import Derived.Test.YtljkobijoenabaaRows
import Derived.WalkKit
import Derived.WalkLawsBesides
import Derived.WalkSpells
import Derived.ProofKit
import Derived.OpenShut
import Derived.Handy
import Derived.Outline
import Derived.Lib.Hide
import Derived.Below
import Derived.WalkSmall
import Derived.OneCell
import Derived.Laws.OwnMore
import Derived.Laws.EntriesVeiled
import Derived.Deep.Draws
import Derived.Deep.AppendLies
import Derived.Laws.Rows
import Derived.Laws.AppendOwn
import Derived.Laws.AppendOwnNone
import Derived.Maps.AppendAt
import Derived.Deep.QuietTactic
import Derived.BigQuiet
import Derived.RangeFuncNested
import Derived.RangeFuncBound
import Derived.RangeFuncCalls
import Derived.RangeFuncLeaves
import Derived.RangeFuncBox
import Derived.Shelf.Abstract
import Derived.Shelf.RegionOpen
import Derived.OwnWalkIn
import Derived.TacticsInMore
import Derived.LoopNIn
import Derived.LoopIn
import Derived.Shelf.Slices.Reverse
import Derived.Shelf.Spec.SlicesGrow
import Derived.Ground.Names8Prog
import Derived.Ground.NamesProg
import Derived.Sort.OwnSorted
namespace Go.Proofs.Ytljkobijoenabaa.dv
open Go.ChangeShapes Go.WideShapes Go.ChangeAt Go.RowKit Go.Maps Go.WideMaps Go.WideElems
set_option linter.unusedVariables false
/-! words in memory; the document's Less and Same of words -/
def In64 (n : Int) : Prop := -9223372036854775808 ≤ n ∧ n < 9223372036854775808
/-- the bytes' order is the words' -/
def ltW : List Int → List Int → Bool
  | [], [] => false
  | [], _ :: _ => true
  | _ :: _, [] => false
  | x :: a, y :: b => decide (x < y) || (decide (x = y) && ltW a b)
theorem add_block (a : Addr) (k : Nat) : (a.add k).block = a.block := by unfold Addr.add; split <;> rfl
theorem info_int : (Try.prog.info? 3).map (fun i => (i.zero, i.size, i.bytes)) = some (some (.int .i64 0), 1, 8) := by kernel_rfl
def IV (l : List Int) : List Value := l.map (Value.int .i64)
theorem ltW_drop : ∀ (k : Nat) (xs ys : List Int), k ≤ xs.length → k ≤ ys.length → xs.take k = ys.take k → ltW xs ys = ltW (xs.drop k) (ys.drop k)
  | 0, xs, ys, _, _, _ => by simp
  | k + 1, [], ys, h, _, _ => by simp at h
  | k + 1, x :: xs, [], _, h, _ => by simp at h
  | k + 1, x :: xs, y :: ys, h1, h2, h => by
    simp only [List.take_succ_cons, List.cons.injEq] at h
    obtain ⟨rfl, h⟩ := h
    have := ltW_drop k xs ys (by simpa using h1) (by simpa using h2) h
    simp [ltW, this]
theorem ltW_at {k : Nat} {xs ys : List Int} (h1 : k < xs.length) (h2 : k < ys.length) (h : xs.take k = ys.take k) : ltW xs ys = (decide (xs.getD k 0 < ys.getD k 0) || (decide (xs.getD k 0 = ys.getD k 0) && ltW (xs.drop (k + 1)) (ys.drop (k + 1)))) := by
  rw [ltW_drop k xs ys (by omega) (by omega) h, List.drop_eq_getElem_cons h1, List.drop_eq_getElem_cons h2]
  simp [ltW, List.getD_eq_getElem?_getD, List.getElem?_eq_getElem h1, List.getElem?_eq_getElem h2]
theorem ltW_end {k : Nat} {xs ys : List Int} (h1 : k ≤ xs.length) (h2 : k ≤ ys.length) (h : xs.take k = ys.take k) (he : k = xs.length ∨ k = ys.length) : ltW xs ys = decide (xs.length < ys.length) := by
  rw [ltW_drop k xs ys h1 h2 h]
  rcases he with rfl | rfl
  · rw [List.drop_length]
    cases hd : ys.drop xs.length with
    | nil => have := congrArg List.length hd; simp at this; simp [ltW]; omega
    | cons a l => have := congrArg List.length hd; simp at this; simp [ltW]; omega
  · rw [List.drop_length]
    cases hd : xs.drop ys.length with
    | nil => simp [ltW]; omega
    | cons a l => simp [ltW]; omega
theorem take_more {k : Nat} {xs ys : List Int} (h1 : k < xs.length) (h2 : k < ys.length) (h : xs.take k = ys.take k) (he : xs.getD k 0 = ys.getD k 0) : xs.take (k + 1) = ys.take (k + 1) := by
  rw [List.take_succ_eq_append_getElem h1, List.take_succ_eq_append_getElem h2, h]
  simp [List.getD_eq_getElem?_getD, List.getElem?_eq_getElem h1, List.getElem?_eq_getElem h2] at he
  rw [he]
theorem ret_bool {a b : Bool} (h : a = b) : Ending.returned (.bool a) = .returned (.bool b) := by rw [h]
theorem ret_int {a b : Int} (h : a = b) : Ending.returned (.int .i64 a) = .returned (.int .i64 b) := by rw [h]
/-- a world of which only the tape was drawn -/
def Qt (w w' : World) : Prop := ∃ n, w' = w.drewN n
theorem Qt.drewN {w w' : World} (h : Qt w w') (n : Nat) : Qt w (w'.drewN n) := by
  obtain ⟨m, rfl⟩ := h
  exact ⟨m + n, World.drewN_drewN ..⟩
theorem Qt.cell {w w' : World} (h : Qt w w') (a : Addr) : w'.cell? a = w.cell? a := by obtain ⟨m, rfl⟩ := h; rfl
theorem Qt.below {w w' : World} (h : Qt w w') : Below w.heap.size w w' := by obtain ⟨m, rfl⟩ := h; exact below_drewN (Below.refl _ _) _
theorem Qt.trans {a b c : World} (h : Qt a b) (k : Qt b c) : Qt a c := by obtain ⟨m, rfl⟩ := k; exact h.drewN m
/-- a word, as a slice value -/
def WordAt (w : World) (v : Value) (xs : List Int) : Prop := ∃ ao cap, v = .slice ao xs.length cap ∧ (∀ x ∈ xs, In64 x) ∧ (∀ i, i < xs.length → ∃ a : Addr, ao = some a ∧ a.block < w.heap.size ∧ w.cell? (a.add i) = some (.int .i64 (xs.getD i 0)))
theorem WordAt.below {w w' : World} {v : Value} {xs : List Int} (h : WordAt w v xs) (hb : Below w.heap.size w w') : WordAt w' v xs := by
  obtain ⟨ao, cap, e, hin, hc⟩ := h
  refine ⟨ao, cap, e, hin, fun i hi => ?_⟩
  obtain ⟨a, e2, hab, hcell⟩ := hc i hi
  exact ⟨a, e2, by have := hb.size; omega, (hb.cell (p := a.add i) (by rw [add_block]; exact hab)).trans hcell⟩
set_option maxRecDepth 100000 in
set_option maxHeartbeats 1000000 in
theorem less_any (w : World) (v u : Value) (xs ys : List Int) (hv : WordAt w v xs) (hu : WordAt w u ys) (hx : xs.length ≤ 1000) (hy : ys.length ≤ 1000) : Calls Try.prog 49 #[v, u] w fun e w' => e = .returned (.bool (ltW xs ys)) ∧ ∃ n, w' = w.drewN n := by
  obtain ⟨ao, ca, rfl, hin, hc⟩ := hv
  obtain ⟨bo, cb, rfl, hin2, hc2⟩ := hu
  have HC := Lib.hid hc
  have HC2 := Lib.hid hc2
  clear hc hc2 hin hin2
  go_enter Try.func49, Try.ntmps49
  go_wp2
  go_loopw [5] (fun i wr => ∃ k : Nat, i = .int .i64 k ∧ k ≤ xs.length ∧ k ≤ ys.length ∧ xs.take k = ys.take k ∧ Qt w wr) (fun i _ => xs.length - (intOf i).toNat)
  case atStart => exact ⟨0, rfl, Nat.zero_le _, Nat.zero_le _, by simp, ⟨0, rfl⟩⟩
  case round =>
    obtain ⟨k, rfl, hk1, hk2, htk, hbel⟩ := hrel
    by_cases h1 : k < xs.length
    · by_cases h2 : k < ys.length
      · obtain ⟨a, rfl, hab, hca⟩ := HC.out k h1
        obtain ⟨b, rfl, hbb, hcb⟩ := HC2.out k h2
        have ca : wr.cell? (a.add k) = some (.int .i64 (xs.getD k 0)) := (hbel.cell _).trans hca
        have cb : wr.cell? (b.add k) = some (.int .i64 (ys.getD k 0)) := (hbel.cell _).trans hcb
        have hlt := ltW_at h1 h2 htk
        have hlt2 := ltW_at h2 h1 htk.symm
        have hmo := take_more h1 h2 htk
        clear hca hcb
        generalize xs.getD k 0 = x at *
        generalize ys.getD k 0 = y at *
        have HL := Lib.hid hlt
        have HL2 := Lib.hid hlt2
        have HM := Lib.hid hmo
        have HT := Lib.hid htk
        clear hlt hlt2 hmo htk
        by_cases he : x = y
        · subst he
          go_wp2
          go_quiet (fail)
          go_wp2
          exact ⟨⟨k + 1, congrArg (Value.int .i64) (by omega), h1, h2, HM.out (by trivial), hbel.drewN _⟩, by simp only [intOf]; omega⟩
        · go_wp2
          go_quiet (fail)
          go_wp2
          go_quiet (fail)
          go_wp2
          go_ret
          exact ⟨ret_bool (by rw [HL.out]; simp [he]), (hbel.drewN _).drewN _⟩
      · obtain rfl : k = ys.length := by omega
        have hlt := ltW_end hk1 hk2 htk (.inr rfl)
        have hlt2 := ltW_end hk2 hk1 htk.symm (.inl rfl)
        have HL := Lib.hid hlt
        have HL2 := Lib.hid hlt2
        clear hlt hlt2 htk
        go_wp2
        go_ret
        exact ⟨ret_bool (by rw [HL.out]; try simp), hbel⟩
    · obtain rfl : k = xs.length := by omega
      have hlt := ltW_end hk1 hk2 htk (.inl rfl)
      have hlt2 := ltW_end hk2 hk1 htk.symm (.inr rfl)
      have HL := Lib.hid hlt
      have HL2 := Lib.hid hlt2
      clear hlt hlt2 htk
      go_wp2
      go_ret
      exact ⟨ret_bool (by rw [HL.out]; try simp), hbel⟩
theorem ltW_same : ∀ {xs ys : List Int}, ltW xs ys = false → ltW ys xs = false → xs = ys
  | [], [], _, _ => rfl
  | [], _ :: _, h, _ => by simp [ltW] at h
  | _ :: _, [], _, h => by simp [ltW] at h
  | x :: xs, y :: ys, h1, h2 => by
    simp [ltW] at h1 h2
    obtain rfl : x = y := by omega
    rw [ltW_same (h1.2 rfl) (h2.2 rfl)]
theorem ltW_irr : ∀ (xs : List Int), ltW xs xs = false
  | [] => rfl
  | x :: xs => by simp [ltW, ltW_irr xs]
theorem sameW (xs ys : List Int) : (!ltW xs ys && !ltW ys xs) = decide (xs = ys) := by
  by_cases h : xs = ys
  · subst h; simp [ltW_irr]
  · simp only [h, decide_false]
    cases h1 : ltW xs ys <;> cases h2 : ltW ys xs <;> simp
    exact h (ltW_same h1 h2)
theorem WordAt.qt {w w' : World} {v : Value} {xs : List Int} (h : WordAt w v xs) (hb : Qt w w') : WordAt w' v xs := h.below hb.below
set_option maxRecDepth 100000 in
set_option maxHeartbeats 1000000 in
theorem rsame_any (w : World) (v u : Value) (xs ys : List Int) (hv : WordAt w v xs) (hu : WordAt w u ys) (hx : xs.length ≤ 1000) (hy : ys.length ≤ 1000) : Calls Try.prog 18 #[v, u] w fun e w' => e = .returned (.bool (decide (xs = ys))) ∧ ∃ n, w' = w.drewN n := by
  have h1 := less_any w v u xs ys hv hu hx hy
  have h2 := fun w1 (hb : Qt w w1) => less_any w1 u v ys xs (hu.qt hb) (hv.qt hb) hy hx
  have hs := sameW xs ys
  have HS := Lib.hid hs
  clear hs hv hu
  cases hl : ltW xs ys
  · rw [hl] at h1
    have HL := Lib.hid hl
    clear hl
    go_enter Try.func18, Try.ntmps18
    go_wp2_with fail
    refine h1.mono ?_
    rintro e w1 ⟨rfl, hb⟩
    have hb : Qt w w1 := hb
    go_wp2_with fail
    refine (h2 w1 hb).mono ?_
    rintro e w2 ⟨rfl, hb2⟩
    go_wp2_with fail
    go_ret
    exact ⟨ret_bool (by rw [← HS.out, HL.out]; simp), hb.trans hb2⟩
  · rw [hl] at h1
    have HL := Lib.hid hl
    clear hl
    go_enter Try.func18, Try.ntmps18
    go_wp2_with fail
    refine h1.mono ?_
    rintro e w1 ⟨rfl, hb⟩
    have hb : Qt w w1 := hb
    go_wp2_with fail
    go_ret
    exact ⟨ret_bool (by rw [← HS.out, HL.out]; simp), hb⟩
theorem own_below_ {w w' : World} {base g n cap : Nat} {e : TypeId} {xs : List Value} (h : w.ownsRow base e 1 (.slice (some ⟨g, 0, none⟩) n cap) n xs) (hb : Below w.heap.size w w') : w'.ownsRow base e 1 (.slice (some ⟨g, 0, none⟩) n cap) n xs := by
  obtain ⟨hl, h | ⟨g', cap', cur, hv, hbase, hh, r⟩⟩ := h
  · cases h.1
  · cases hv
    exact ⟨hl, .inr ⟨g, cap, cur, rfl, hbase, (hb.block g (Array.getElem?_eq_some_iff.1 hh).1).trans hh, r⟩⟩
theorem own_lt {w : World} {base g n cap : Nat} {e : TypeId} {xs : List Value} (h : w.ownsRow base e 1 (.slice (some ⟨g, 0, none⟩) n cap) n xs) : g < w.heap.size := by
  obtain ⟨hl, h | ⟨g', cap', cur, hv, hbase, hh, r⟩⟩ := h
  · cases h.1
  · cases hv
    exact (Array.getElem?_eq_some_iff.1 hh).1
theorem own_ge {w : World} {base g n cap : Nat} {e : TypeId} {xs : List Value} (h : w.ownsRow base e 1 (.slice (some ⟨g, 0, none⟩) n cap) n xs) : base ≤ g := by
  obtain ⟨hl, h | ⟨g', cap', cur, hv, hbase, hh, r⟩⟩ := h
  · cases h.1
  · cases hv
    exact hbase
theorem own_kept {w w' : World} {base g n cap : Nat} {e : TypeId} {xs : List Value} {row : Option Nat} (h : w.ownsRow base e 1 (.slice (some ⟨g, 0, none⟩) n cap) n xs) (hb : w.grownBy w' row) (hne : some g ≠ row) : w'.ownsRow base e 1 (.slice (some ⟨g, 0, none⟩) n cap) n xs := by
  obtain ⟨hl, h | ⟨g', cap', cur, hv, hbase, hh, r⟩⟩ := h
  · cases h.1
  · cases hv
    exact ⟨hl, .inr ⟨g, cap, cur, rfl, hbase, (hb.block g (Array.getElem?_eq_some_iff.1 hh).1 hne).trans hh, r⟩⟩
theorem own_base {w : World} {base base' g n cap : Nat} {e : TypeId} {xs : List Value} (h : w.ownsRow base e 1 (.slice (some ⟨g, 0, none⟩) n cap) n xs) (hb : base' ≤ base) : w.ownsRow base' e 1 (.slice (some ⟨g, 0, none⟩) n cap) n xs := by
  obtain ⟨hl, h | ⟨g', cap', cur, hv, hbase, hh, r⟩⟩ := h
  · cases h.1
  · cases hv
    exact ⟨hl, .inr ⟨g, cap, cur, rfl, Nat.le_trans hb hbase, hh, r⟩⟩
theorem own_cells' {w : World} {base g n cap : Nat} {e : TypeId} {vals : List Value} (h : w.ownsRow base e 1 (.slice (some ⟨g, 0, none⟩) n cap) n vals) (j : Nat) (u : Value) (hj : vals[j]? = some u) : w.cell? ((⟨g, 0, none⟩ : Addr).add j) = some u := by
  have hl : j < vals.length := (List.getElem?_eq_some_iff.1 hj).1
  have e1 : (⟨g, 0, none⟩ : Addr).add j = ⟨g, j, none⟩ := by
    simp [Addr.add]
    exact fun h => h.symm
  rw [e1, h.cellAt j (by have := h.1; omega)]
  exact hj
def RowAt (w : World) (v : Value) (x : List Int) : Prop := ∃ ao cap, v = .slice ao x.length cap ∧ x.length ≤ cap ∧ cap ≤ maxLen ∧ (ao = none → cap = 0) ∧ (∀ n ∈ x, In64 n) ∧ ∀ i, i < x.length → ∃ a : Addr, ao = some a ∧ a.block < w.heap.size ∧ w.cell? (a.add i) = some (.int .i64 (x.getD i 0))
theorem RowAt.word {w : World} {v : Value} {x : List Int} (h : RowAt w v x) : WordAt w v x := by
  obtain ⟨ao, cap, e, _, _, _, h1, h2⟩ := h
  exact ⟨ao, cap, e, h1, h2⟩
theorem RowAt.below {w w' : World} {v : Value} {xs : List Int} (h : RowAt w v xs) (hb : Below w.heap.size w w') : RowAt w' v xs := by
  obtain ⟨ao, cap, e, h1, h2, h3, hin, hc⟩ := h
  refine ⟨ao, cap, e, h1, h2, h3, hin, fun i hi => ?_⟩
  obtain ⟨a, e2, hab, hcell⟩ := hc i hi
  exact ⟨a, e2, by have := hb.size; omega, (hb.cell (p := a.add i) (by rw [add_block]; exact hab)).trans hcell⟩
theorem wpList_append_src {P : Program} {w : World} {ops : Array Oper} {rest : List Oper} {o : Oper} {a : Act} {Q : Exit → Act → World → Prop} (hgd : o.guard = none) (s x : Operand) (t : TypeId)
    (ho : o.op = .call { callee := .builtin .append, args := #[s, x], argTypes := #[t, t] })
    (base : Nat) (e : TypeId) (i : TypeInfo) (z : Value) (size bytes : Nat) (ht : P.underlying t = some (.slice e)) (hi : P.info? e = some i) (hz : i.zero = some z)
    (hsize : i.size = size) (hby : i.bytes = bytes) (hzs : z.cells.size = size) (hsz : 0 < size)
    (v : Value) (n : Nat) (xs : List Value) (hs : a.eval s = v) (hown : w.ownsRow base e size v n xs)
    (ao : Option Addr) (m c : Nat) (news : List Value) (hx : a.eval x = .slice ao m c) (hl : news.length = m * size) (hnone : ao = none → m = 0 ∧ c = 0) (hnews : ∀ ad, ao = some ad → ∀ j u, news[j]? = some u → w.cell? (ad.add j) = some u) (h1 : ∀ u ∈ news, u.oneCell' = true)
    (h63 : n + m ≤ maxLen) (hbytes : (n + m) * bytes ≤ 140737488355328) (hbase : base ≤ w.heap.size)
    (h : ∀ v' w', w'.ownsRow base e size v' (n + m) (xs ++ news) → w.grownBy w' v.ownBlock → wpList P ops Q rest (a.put o.dst v') w') : wpList P ops Q (o :: rest) a w := by
  cases ao with
  | some ad => exact wpList_append_own w hgd s x t ho base e i z size bytes ht hi hz hsize hby hzs hsz v n xs hs hown ad m c news hx hl (hnews ad rfl) h1 h63 hbytes hbase fun v' w' h2 h3 _ => h v' w' h2 h3
  | none =>
    obtain ⟨rfl, rfl⟩ := hnone rfl
    have hn : news = [] := List.eq_nil_of_length_eq_zero (by simpa using hl)
    subst hn
    exact wpList_append_own_none hgd s x t ho base e i size ht hi v n xs hs hown hx (h v w (by simpa using hown) (World.grownBy.refl _ _))
theorem word_own {B : Nat} {w : World} {v : Value} {xs : List Int} {n : Nat} (h : w.ownsRow B 3 1 v n (IV xs)) (hn : xs.length = n) (hin : ∀ x ∈ xs, In64 x) : WordAt w v xs := by
  have h' := h
  rcases h.2 with ⟨hv, h0⟩ | ⟨g, cap, cur, hv, _, _, hc, hm, _⟩
  · subst hv
    subst hn
    have h0 : xs.length = 0 := by omega
    exact ⟨none, 0, by rw [h0], hin, fun i hi => by omega⟩
  · subst hv
    subst hn
    refine ⟨_, cap, rfl, hin, fun i hi => ⟨_, rfl, own_lt h', own_cells' h' i _ ?_⟩⟩
    simp [IV, List.getD_eq_getElem?_getD, List.getElem?_eq_getElem hi]
theorem iv_snoc (xs : List Int) (j : Nat) (h : j < xs.length) : IV (xs.take j) ++ IV [xs.getD j 0] = IV (xs.take (j + 1)) := by
  rw [List.take_succ_eq_append_getElem h, List.getD_eq_getElem?_getD, List.getElem?_eq_getElem h]
  unfold IV
  rw [List.map_append]
  rfl
def Blk (w : World) (g : Nat) (t : TypeId) (cs : Array Value) : Prop := w.heap[g]? = some (.cells cs t (0, 0))
section
variable {w w' : World} {g : Nat} {t : TypeId} {cs : Array Value}
theorem Blk.lt (h : Blk w g t cs) : g < w.heap.size := by
  rcases Nat.lt_or_ge g w.heap.size with hlt | hge
  · exact hlt
  · unfold Blk at h; rw [Array.getElem?_eq_none hge] at h; cases h
theorem Blk.cell (h : Blk w g t cs) (i : Nat) : w.cell? ⟨g, i, none⟩ = cs[i]? := cell_of_row w g i cs t (0, 0) h
theorem Blk.frozen (h : Blk w g t cs) (i : Nat) : w.frozen? ⟨g, i, none⟩ = false := by
  unfold Blk at h
  simp [World.frozen?, h]
theorem Blk.new (w : World) (t : TypeId) (cs : Array Value) : Blk (w.alloc (.cells cs t)) w.heap.size t cs := heap_alloc_new w _
theorem Blk.alloc (h : Blk w g t cs) (o : Obj) : Blk (w.alloc o) g t cs := (Below.heap_alloc w o g h.lt).trans h
theorem Blk.set_ (h : Blk w g t cs) (i : Nat) (u : Value) : Blk (w.setCell ⟨g, i, none⟩ u) g t (cs.setIfInBounds i u) := by
  unfold Blk at h ⊢
  simp [World.setCell, Array.getElem?_modify, h]
theorem Blk.far (h : Blk w g t cs) {p : Addr} (hp : g ≠ p.block) (u : Value) : Blk (w.setCell p u) g t cs := (Below.heap_setCell w p u g hp).trans h
theorem Blk.below {B : Nat} (h : Blk w g t cs) (hb : Below B w w') (hg : g < B) : Blk w' g t cs := (hb.block g hg).trans h
end
theorem lt_heap {w : World} {g : Nat} {o : Obj} (h : w.heap[g]? = some o) : g < w.heap.size := by
  rcases Nat.lt_or_ge g w.heap.size with hlt | hge
  · exact hlt
  · rw [Array.getElem?_eq_none hge] at h; cases h
theorem ownsRow_keep {w w' : World} {base size n : Nat} {e : TypeId} {v : Value} {xs : List Value} (h : w.ownsRow base e size v n xs) (hb : ∀ g, g < w.heap.size → v.ownBlock = some g → w'.heap[g]? = w.heap[g]?) : w'.ownsRow base e size v n xs := by
  obtain ⟨hl, h | ⟨g, cap, cur, hv, hB, hh, r⟩⟩ := h
  · exact ⟨hl, .inl h⟩
  · exact ⟨hl, .inr ⟨g, cap, cur, hv, hB, (hb g (lt_heap hh) (by rw [hv]; rfl)).trans hh, r⟩⟩
end Go.Proofs.Ytljkobijoenabaa.dv
namespace Go.Proofs.Ytljkobijoenabaa.dv
open Go.ChangeShapes Go.WideShapes Go.ChangeAt Go.RowKit Go.Maps Go.WideMaps Go.WideElems Go.Shelf
set_option linter.unusedVariables false
attribute [local go_sem] Oper.semAt_some
/-! symbols, gone through from their end -/
/-- what comes first: the first k of the symbols from the end -/
def upto {α : Type} (f : Nat → α) (k : Nat) : List α := (List.range k).map f
theorem upto_succ {α : Type} (f : Nat → α) (k : Nat) : upto f (k + 1) = upto f k ++ [f k] := by simp [upto, List.range_succ]
theorem upto_length {α : Type} (f : Nat → α) (k : Nat) : (upto f k).length = k := by simp [upto]
def bk (zs : List Int) (k : Nat) : Nat × Int := (zs.length - 1 - k, zs.getD (zs.length - 1 - k) 0)
theorem upto_bk (zs : List Int) : (upto (bk zs) zs.length).map (·.2) = zs.reverse := by
  apply List.ext_getElem
  · simp [upto]
  · intro i h1 h2
    have : i < zs.length := by simp [upto] at h1; omega
    simp [upto, bk, List.getD_eq_getElem?_getD, List.getElem?_eq_getElem (show zs.length - 1 - i < zs.length by omega)]
/-- the row, below n₀ -/
def RowUnder (n₀ : Nat) (W : World) (ao : Option Addr) (zs : List Int) : Prop := ∀ j, j < zs.length → ∃ a : Addr, ao = some a ∧ a.block < n₀ ∧ W.cell? (a.add j) = some (.int .i64 (zs.getD j 0))
/-- what a round keeps: what lies below n₀, and the box -/
def Kb (n₀ Bs : Nat) (W W' : World) : Prop := Below n₀ W W' ∧ ∀ v, W.cell? ⟨Bs, 0, none⟩ = some v → W'.cell? ⟨Bs, 0, none⟩ = some v
theorem Kb.refl (n₀ Bs : Nat) (W : World) : Kb n₀ Bs W W := ⟨Below.refl _ _, fun _ h => h⟩
theorem Kb.trans {n₀ Bs : Nat} {A B C : World} (h : Kb n₀ Bs A B) (k : Kb n₀ Bs B C) : Kb n₀ Bs A C := ⟨h.1.trans k.1, fun v hv => k.2 v (h.2 v hv)⟩
set_option maxRecDepth 100000 in
set_option maxHeartbeats 2000000 in
theorem back1_in (F : Fence) (n : Nat) (h7 : F.fn 101) (hro : F.round = none) (hn : 1 ≤ n) (l Bs n₀ cap : Nat) (ao : Option Addr) (zs : List Int) (hreach : zs.length ≤ 100000) (J Jx : List (Nat × Int) → World → Prop)
    (hY : ∀ pre x W, J pre W → pre.length < zs.length → YieldAt F (n - 1) Try.prog l #[.int .i64 (x.1 : Int), .int .i64 x.2] W fun e W' =>
      (e = .returned (.bool true) ∧ J (pre ++ [x]) W' ∧ Kb n₀ Bs W W') ∨ (e = .returned (.bool false) ∧ Jx (pre ++ [x]) W'))
    (W : World) (hBs : W.cell? ⟨Bs, 0, none⟩ = some (.slice ao zs.length cap)) (hc : RowUnder n₀ W ao zs) (h0 : J [] W) :
    CallsIn F n Try.prog 101 #[.func (.yield l) #[] #[], .pointer (some ⟨Bs, 0, none⟩)] W fun e W' => (∃ v, e = .returned v) ∧
      ((∃ ys, ys = upto (bk zs) zs.length ∧ J ys W') ∨ (∃ pre, (∃ k, k ≤ zs.length ∧ pre = upto (bk zs) k) ∧ Jx pre W')) := by
  have HC := Lib.hid hc
  clear hc
  refine callsIn_of_wp Try.func101 rfl h7 ?_ hro
  simp only [Try.ntmps101, List.size_toArray, List.length_cons, List.length_nil, Nat.reduceAdd, Nat.reduceSub, Array.replicate_succ, Array.replicate_zero, List.push_toArray, List.append_toArray, List.nil_append, List.cons_append]
  gi_wp2
  gi_loopw [3] (fun i wr => ∃ m : Nat, m ≤ zs.length ∧ i = .int .i64 ((m : Int) - 1) ∧ J (upto (bk zs) (zs.length - m)) wr ∧ Kb n₀ Bs W wr)
    (fun i _ => (intOf i + 1).toNat)
  case atStart => exact ⟨zs.length, Nat.le_refl _, rfl, by rw [Nat.sub_self]; exact h0, Kb.refl _ _ _⟩
  case round =>
    obtain ⟨m, hk, rfl, hJs, hnx⟩ := hrel
    have hcb : wr.cell? ⟨Bs, 0, none⟩ = some (.slice ao zs.length cap) := hnx.2 _ hBs
    cases m with
    | zero =>
      rw [Nat.sub_zero] at hJs
      gi_wp2
      go_end0
      exact ⟨⟨_, rfl⟩, .inl ⟨_, rfl, hJs⟩⟩
    | succ m =>
      have e1 : ((m + 1 : Nat) : Int) - 1 = (m : Int) := by omega
      obtain ⟨a, rfl, hab, hca⟩ := HC.out m (by omega)
      have hcx : wr.cell? (a.add m) = some (.int .i64 (zs.getD m 0)) := (hnx.1.cell (p := a.add m) (by rw [add_block]; exact hab)).trans hca
      have e2 : zs.length - 1 - (zs.length - (m + 1)) = m := by omega
      have e3 : bk zs (zs.length - (m + 1)) = (m, zs.getD m 0) := by unfold bk; rw [e2]
      have e4 : zs.length - m = zs.length - (m + 1) + 1 := by omega
      obtain ⟨fn, tmps, assign, body, hy, hR⟩ := hY _ (m, zs.getD m 0) wr hJs (by rw [upto_length]; omega)
      dsimp only at hy
      have hup : upto (bk zs) (zs.length - m) = upto (bk zs) (zs.length - (m + 1)) ++ [(m, zs.getD m 0)] := by rw [e4, upto_succ, e3]
      have HU := Lib.hid hup
      clear hup e2 e3 e4 hca
      generalize zs.getD m 0 = z at *
      simp only [e1]
      gi_wp2
      refine hR.mono ?_
      rintro e W3 (⟨rfl, hJ3, hk3⟩ | ⟨rfl, hJx3⟩)
      · gi_wp2
        go_roundw
        case rel => exact ⟨m, by omega, rfl, by rw [HU.out]; exact hJ3, hnx.trans hk3⟩
        case measure => simp only [intOf]; omega
      · gi_wp2
        refine bodyPost_ret (results_none rfl _ _ _) rfl ?_
        exact ⟨⟨_, rfl⟩, .inr ⟨_, ⟨zs.length - m, by omega, HU.out.symm⟩, hJx3⟩⟩
set_option maxHeartbeats 1000000 in
theorem back_in (F : Fence) (n : Nat) (h5 : F.fn 88) (hro : F.round = none) (a : Option Addr) (len cap : Nat) (w : World) :
    CallsIn F n Try.prog 88 #[.slice a len cap] w fun e w' => e = .returned (.func (.func 101) #[] #[.pointer (some ⟨w.heap.size, 0, none⟩)]) ∧ w' = w.alloc (.cells #[.slice a len cap] 26) := by
  refine callsIn_of_wp Try.func88 rfl h5 ?_ hro
  simp only [Try.ntmps88, List.size_toArray, List.length_cons, List.length_nil, Nat.reduceAdd, Nat.reduceSub, Array.replicate_succ, Array.replicate_zero, List.push_toArray, List.append_toArray, List.nil_append, List.cons_append]
  gi_wp2
  go_ret
  exact ⟨rfl, rfl⟩
theorem back_stops (F : Fence) (n : Nat) (h7 : F.fn 101) (hro : F.round = none) (hn : 1 ≤ n) (Bs n₀ cap : Nat) (ao : Option Addr) (zs : List Int) (hreach : zs.length ≤ 100000) (w : World) (hB0 : Bs < w.heap.size) (hn₀ : n₀ ≤ w.heap.size)
    (hc : w.cell? ⟨Bs, 0, none⟩ = some (.slice ao zs.length cap)) (hI : RowUnder n₀ w ao zs) :
    SeqStopsK F n Try.prog 101 #[.pointer (some ⟨Bs, 0, none⟩)] (fun x : Nat × Int => #[Value.int .i64 (x.1 : Int), Value.int .i64 x.2]) (Kb n₀ Bs) (fun ys => ys = upto (bk zs) zs.length)
      (fun pre => ∃ k, k ≤ zs.length ∧ pre = upto (bk zs) k) zs.length w := fun l J Jx W hW _ _ hY h0 =>
  back1_in F n h7 hro hn l Bs n₀ cap ao zs hreach J Jx hY W ((hW.cell (p := ⟨Bs, 0, none⟩) hB0).trans hc) (fun j hj => by
    obtain ⟨a, e, hab, hca⟩ := hI j hj
    exact ⟨a, e, hab, (hW.cell (p := a.add j) (by rw [add_block]; exact Nat.lt_of_lt_of_le hab hn₀)).trans hca⟩) h0
theorem kb_b {m n₀ Bs : Nat} {w : World} (hn : n₀ ≤ w.heap.size) : ∀ (W : World) (l : Nat) (o o' : Obj), m ≤ l → w.heap.size ≤ m → W.heap[l]? = some o → o.isCells = false → o.isWalk = false → Kb n₀ Bs W (W.putObj l o') := fun W l o o' hl hm h hc hw => by
  refine ⟨belowK_b (w := w) hn W l o o' (by omega) h hc hw, fun v hv => ?_⟩
  exact cell_kept hv (grownBy_putObj' W l o') (fun r e => by cases e; exact ⟨o, h, hc⟩)
end Go.Proofs.Ytljkobijoenabaa.dv
namespace Go.Proofs.Ytljkobijoenabaa.dv
open Go.ChangeShapes Go.WideShapes Go.ChangeAt Go.RowKit Go.Maps Go.WideMaps Go.WideElems Go.Shelf
set_option linter.unusedVariables false
attribute [local go_sem] Oper.semAt_some
/-! a form on its way: its parts -/
/-- parts in block b: what is done, and what is to come, from its end; all of it above B -/
def Parts (B : Nat) (w : World) (b : Nat) (D T : List Int) : Prop := B ≤ b ∧ ∃ vd vt, Blk w b 73 #[vd, vt] ∧ w.ownsRow B 3 1 vd D.length (IV D) ∧ w.ownsRow B 3 1 vt T.length (IV T) ∧ (vd.ownBlock = none ∨ vd.ownBlock ≠ vt.ownBlock)
theorem Blk.not_row {W : World} {b : Nat} {t e : TypeId} {cs : Array Value} (h : Blk W b t cs) (hte : t ≠ e) {base size k : Nat} {v : Value} {xs : List Value} (hr : W.ownsRow base e size v k xs) : some b ≠ v.ownBlock := by
  rcases hr.2 with ⟨rfl, _⟩ | ⟨g, cap, cur, rfl, _, hgb, _⟩
  · simp [Value.ownBlock]
  · intro e'
    obtain rfl : b = g := by simpa [Value.ownBlock] using e'
    have := (show W.heap[b]? = _ from h).symm.trans hgb
    simp at this
    exact hte this.2
theorem Blk.grown {w w' : World} {g : Nat} {t : TypeId} {cs : Array Value} {row : Option Nat} (h : Blk w g t cs) (hb : w.grownBy w' row) (hg : some g ≠ row) : Blk w' g t cs := (hb.block g h.lt hg).trans h
theorem own_grown {w w' : World} {base size n : Nat} {e : TypeId} {v : Value} {xs : List Value} {row : Option Nat} (h : w.ownsRow base e size v n xs) (hb : w.grownBy w' row) (hne : v.ownBlock = none ∨ v.ownBlock ≠ row) : w'.ownsRow base e size v n xs := by
  refine ownsRow_keep h fun g hg hv => hb.block g hg ?_
  rcases hne with h | h
  · rw [hv] at h; cases h
  · rwa [hv] at h
theorem Parts.grown {B : Nat} {w w' : World} {b : Nat} {D T : List Int} {row : Option Nat} (h : Parts B w b D T) (hg : w.grownBy w' row) (hr : ∀ r, row = some r → ∃ o : Obj, w.heap[r]? = some o ∧ o.isCells = false) : Parts B w' b D T := by
  obtain ⟨hB, vd, vt, hb, hd, ht, hne⟩ := h
  have hx : ∀ r (o : Obj), w.heap[r]? = some o → o.isCells = true → some r ≠ row := fun r o ho hc e => by
    obtain ⟨o', ho', hc'⟩ := hr r e.symm
    rw [ho] at ho'
    cases ho'
    rw [hc] at hc'
    cases hc'
  have hxr : ∀ (v : Value) n xs, w.ownsRow B 3 1 v n xs → v.ownBlock = none ∨ v.ownBlock ≠ row := fun v n xs hv => by
    rcases hv.2 with ⟨rfl, _⟩ | ⟨g, cap, cur, rfl, _, hgb, _⟩
    · exact .inl rfl
    · exact .inr (hx g _ hgb rfl)
  exact ⟨hB, vd, vt, hb.grown hg (hx b _ hb rfl), own_grown hd hg (hxr _ _ _ hd), own_grown ht hg (hxr _ _ _ ht), hne⟩
/-- within a round a region goes as everywhere: from the plain walk to that of the round -/
theorem oper_in_of {P : Program} {o : Oper} {a : Act} {w : World} {K : Act → World → Prop} {Q : Exit → Act → World → Prop} {l n : Nat} (hnd : ∀ c, o.op ≠ .defer c)
    (h : Oper.wp P o a w K (fun e a w => e ≠ .outgrown ∧ Q e a w)) : Oper.wpIn (Fence.wide.inRound l) n P o a w K Q := by
  unfold Oper.wpIn
  refine ⟨fun _ _ => trivial, ?_⟩
  rw [Oper.semAt_eq _ _ _ hnd]
  unfold Oper.wp at h
  generalize (execOp a.eval o).run P w = r at h ⊢
  cases r with
  | ok x w' =>
    cases x with
    | value v => exact h
    | skip => exact h
    | defer d => exact h
    | enter f args =>
      refine ⟨fun h => (by cases h), CallsIn.inRound l (callsIn_wide.2 (Calls.mono h fun e w'' he => ?_))⟩
      cases e with
      | returned v => exact he
      | panicked c => exact he.2
      | outgrown =>
        obtain ⟨a', w3, h3, _⟩ := he
        exact absurd rfl h3
    | row row args => exact ⟨fun h => (by cases h), fun c cs _ => let ⟨v, w', r, s⟩ := h c cs; ⟨v, w', r, stepsIn_wide.2 s⟩⟩
    | _ => exact h.elim
  | halt x w' =>
    cases x <;> first | exact h.2 | exact h.elim
theorem anyIn_of_any {P : Program} {md : Region.Mode} {ops : Array Oper} {Q : Exit → Act → World → Prop} {l n : Nat} (hnd : ∀ (i : Nat) (o : Oper), ops[i]? = some o → ∀ c, o.op ≠ .defer c) :
    ∀ (fuel : Nat) (listed : Array Bool) (a : Act) (w : World), wpAny P md ops (fun e a w => e ≠ .outgrown ∧ Q e a w) fuel listed a w → wpAnyIn (Fence.wide.inRound l) n P md ops Q fuel listed a w := by
  intro fuel
  induction fuel with
  | zero => exact fun listed a w h => ⟨h.1, h.2.2⟩
  | succ fuel ih =>
    intro listed a w h
    refine ⟨fun hr => (h.1 hr).2, fun i hi => ?_⟩
    have h2 := h.2 i hi
    unfold wpOp at h2
    unfold wpOpIn
    cases ho : ops[i]? with
    | none => rw [ho] at h2; exact ih _ _ _ h2
    | some o =>
      rw [ho] at h2
      dsimp only at h2 ⊢
      by_cases hw : Region.wanted o (yielded ops a.tmps) = true
      · rw [if_pos hw] at h2 ⊢
        rcases h2 with h2 | ⟨_, a', w', h3, _⟩
        · exact Oper.wpIn_mono (fun a w h => ih _ a w h) (oper_in_of (hnd i o ho) h2)
        · exact absurd rfl h3
      · rw [if_neg hw] at h2 ⊢
        exact ⟨fun _ _ => trivial, ih _ _ _ h2⟩
theorem one_new (w : World) (t : TypeId) (u : Value) : ∀ (j : Nat) (v : Value), [u][j]? = some v → (w.alloc (.cells #[u] t)).cell? ((⟨w.heap.size, 0, none⟩ : Addr).add j) = some v := by
  intro j v hj
  cases j with
  | zero =>
    simp at hj
    subst hj
    have := Blk.cell (Blk.new w t #[u]) 0
    simp [Addr.add]
  | succ j => simp at hj
theorem Blk.grownC {w w' : World} {g : Nat} {t : TypeId} {cs : Array Value} {row : Option Nat} (h : Blk w g t cs) (hg : w.grownBy w' row) (hr : ∀ r, row = some r → ∃ o : Obj, w.heap[r]? = some o ∧ o.isCells = false) : Blk w' g t cs := h.grown hg fun e => by
  obtain ⟨o', ho', hc'⟩ := hr g e.symm
  have := (show w.heap[g]? = _ from h).symm.trans ho'
  cases this
  cases hc'
theorem grown_set (W : World) (p : Addr) (v : Value) : W.grownBy (W.setCell p v) (some p.block) :=
  ⟨rfl, rfl, rfl, (KeepsWalks.setCell W _ v).size, fun k _ hk => Below.heap_setCell _ _ _ k (fun e => hk (by rw [e]))⟩
theorem blk_apart {w : World} {b c : Nat} {t u : TypeId} {cs ds : Array Value} (h : Blk w b t cs) (k : Blk w c u ds) (hne : t ≠ u) : b ≠ c := by
  rintro rfl
  have := (show w.heap[b]? = _ from h).symm.trans k
  simp at this
  exact hne this.2
/-- one symbol more -/
theorem put_step {B b P S : Nat} {W w4 : World} {vd vt : Value} {D T : List Int} {m g4 cap4 : Nat} {p0 s0 : Value} {ys : List Value} {tmp : Obj} (hn : B ≤ W.heap.size) (hB1 : B ≤ b) (hBP : B ≤ P) (hBS : B ≤ S)
    (hb : Blk W b 73 #[vd, vt]) (hd : W.ownsRow B 3 1 vd D.length (IV D)) (ht : W.ownsRow B 3 1 vt T.length (IV T)) (hne : vd.ownBlock = none ∨ vd.ownBlock ≠ vt.ownBlock)
    (hbp : Blk W P 93 #[p0]) (hbs : Blk W S 26 #[s0])
    (h1 : w4.ownsRow B 3 1 (.slice (some ⟨g4, 0, none⟩) m cap4) m ys) (h2 : ((World.drew W).alloc tmp).grownBy w4 vt.ownBlock) (h3 : vt.ownBlock = some g4 ∨ g4 = W.heap.size + 1) :
    Blk w4 b 73 #[vd, vt] ∧ Blk w4 P 93 #[p0] ∧ Blk (w4.setCell ⟨b, 1, none⟩ (.slice (some ⟨g4, 0, none⟩) m cap4)) b 73 #[vd, .slice (some ⟨g4, 0, none⟩) m cap4] ∧
    (w4.setCell ⟨b, 1, none⟩ (.slice (some ⟨g4, 0, none⟩) m cap4)).ownsRow B 3 1 vd D.length (IV D) ∧ (w4.setCell ⟨b, 1, none⟩ (.slice (some ⟨g4, 0, none⟩) m cap4)).ownsRow B 3 1 (.slice (some ⟨g4, 0, none⟩) m cap4) m ys ∧
    (vd.ownBlock = none ∨ vd.ownBlock ≠ some g4) ∧ Blk (w4.setCell ⟨b, 1, none⟩ (.slice (some ⟨g4, 0, none⟩) m cap4)) P 93 #[p0] ∧ Blk (w4.setCell ⟨b, 1, none⟩ (.slice (some ⟨g4, 0, none⟩) m cap4)) S 26 #[s0] ∧
    KeepsOthers W (w4.setCell ⟨b, 1, none⟩ (.slice (some ⟨g4, 0, none⟩) m cap4)) ∧ Below B W (w4.setCell ⟨b, 1, none⟩ (.slice (some ⟨g4, 0, none⟩) m cap4)) := by
  have hb4 : Blk w4 b 73 #[vd, vt] := (Blk.alloc (w := World.drew W) hb tmp).grown h2 (hb.not_row (by decide) ht)
  have hp4 : Blk w4 P 93 #[p0] := (Blk.alloc (w := World.drew W) hbp tmp).grown h2 (hbp.not_row (by decide) ht)
  have hs4 : Blk w4 S 26 #[s0] := (Blk.alloc (w := World.drew W) hbs tmp).grown h2 (hbs.not_row (by decide) ht)
  have hd' : (World.drew W).ownsRow B 3 1 vd D.length (IV D) := hd
  have ht' : (World.drew W).ownsRow B 3 1 vt T.length (IV T) := ht
  have hd4 : w4.ownsRow B 3 1 vd D.length (IV D) := own_grown (hd'.alloc tmp) h2 hne
  have hgs := grown_set w4 ⟨b, 1, none⟩ (.slice (some ⟨g4, 0, none⟩) m cap4)
  refine ⟨hb4, hp4, hb4.set_ 1 _, own_grown hd4 hgs (.inr (hb4.not_row (by decide) hd4).symm), own_grown h1 hgs (.inr (hb4.not_row (by decide) h1).symm), ?_, hp4.far (blk_apart hp4 hb4 (by decide)) _, hs4.far (blk_apart hs4 hb4 (by decide)) _, ?_, ?_⟩
  · rcases hne with h | h
    · exact .inl h
    · rcases h3 with h3 | h3
      · exact .inr (h3 ▸ h)
      · right
        intro e
        have := (hd.lt g4 e).2
        omega
  · refine (((KeepsOthers.drew W).trans (KeepsOthers.alloc _ tmp)).trans (KeepsOthers.of_grownBy h2 fun j o ej hj => ?_)).trans (KeepsOthers.setCell _ _ _)
    rcases (ht'.alloc tmp).2 with ⟨rfl, _⟩ | ⟨g, cap, cur, rfl, _, hgb, _⟩
    · simp [Value.ownBlock] at ej
    · obtain rfl : g = j := by simpa [Value.ownBlock] using ej
      rw [hgb] at hj; cases hj; rfl
  · exact ((((Below.refl B W).drew).alloc hn tmp).grown h2 (by rw [World.size_alloc]; exact Nat.le_succ_of_le hn) fun j ej => (ht.lt j ej).1).setCell (p := ⟨b, 1, none⟩) hB1 _
set_option maxRecDepth 100000 in
set_option maxHeartbeats 2000000 in
theorem put_any (w : World) (B b cap : Nat) (ao : Option Addr) (D T s : List Int) (hp : Parts B w b D T) (hs : RowUnder B w ao s) (hl1 : s.length ≤ 100000) (hl2 : T.length + s.length ≤ 1000000) (hBw : B ≤ w.heap.size) :
    Calls Try.prog 72 #[.pointer (some ⟨b, 0, none⟩), .slice ao s.length cap] w fun e w' => (∃ v, e = .returned v) ∧ Parts B w' b D (T ++ s.reverse) ∧ Below B w w' := by
  obtain ⟨i0, hi, hz0, hz1, hz2⟩ := info_parts info_int
  refine (callsIn_wide (n := 3)).1 ?_
  refine callsIn_of_wp_marks Try.func72 rfl trivial ?_ rfl
  simp only [Try.ntmps72, List.size_toArray, List.length_cons, List.length_nil, Nat.reduceAdd, Nat.reduceSub, Array.replicate_succ, Array.replicate_zero, List.push_toArray, List.append_toArray, List.nil_append, List.cons_append]
  gi_wp2_with (refine ⟨trivial, ?_⟩; gi_at_call 88; refine (back_in _ _ trivial rfl _ _ _ _).mono ?_; rintro e w' ⟨rfl, rfl⟩)
  have bP := Blk.new w 93 #[.pointer (some ⟨b, 0, none⟩)]
  have bN := Blk.new (w.alloc (.cells #[.pointer (some ⟨b, 0, none⟩)] 93)) 26 #[.slice ao s.length cap]
  rw [World.size_alloc] at bN
  have hb0 : Below w.heap.size w ((w.alloc (.cells #[.pointer (some ⟨b, 0, none⟩)] 93)).alloc (.cells #[.slice ao s.length cap] 26)) := ((Below.refl _ w).alloc (Nat.le_refl _) _).alloc (by simp) _
  have hB0 : Below B w ((w.alloc (.cells #[.pointer (some ⟨b, 0, none⟩)] 93)).alloc (.cells #[.slice ao s.length cap] 26)) := hb0.mono hBw
  have hnone : ∀ r, (none : Option Nat) = some r → ∃ o : Obj, w.heap[r]? = some o ∧ o.isCells = false := fun r e => by cases e
  have hp0 : Parts B ((w.alloc (.cells #[.pointer (some ⟨b, 0, none⟩)] 93)).alloc (.cells #[.slice ao s.length cap] 26)) b D T := (hp.grown (World.grownBy_alloc w _ none) (fun r e => by cases e)).grown (World.grownBy_alloc _ _ none) (fun r e => by cases e)
  have hq1 : (1 : Nat) ≤ 3 := by decide
  have hq2 : (1 : Nat) ≤ 3 - 1 := by decide
  refine wpIn_rangeFunc_ownG (F := Fence.wide) rfl hq1 (gf := 101) (lb := #[.pointer (some ⟨w.heap.size + 1, 0, none⟩)]) rfl trivial (enters_of Try.func101 (by kernel_rfl) rfl)
    (back_stops Fence.wide _ trivial rfl hq2 (w.heap.size + 1) B cap ao s hl1 _ (by simp) (by simp; omega) (bN.cell 0) (fun j hj => by
      obtain ⟨a, e, hab, hca⟩ := hs j hj
      exact ⟨a, e, hab, (hB0.cell (p := a.add j) (by rw [add_block]; exact hab)).trans hca⟩)) (fun h k => h.trans k) (fun W l o o' hl h hc hw => kb_b (w := w) (m := w.heap.size) hBw W l o o' (by simp at hl; omega) (Nat.le_refl _) h hc hw) (Below.refl _ _) (fun _ => rfl)
    (fun pre W => (Parts B W b D (T ++ pre.map (·.2)) ∧ Blk W w.heap.size 93 #[.pointer (some ⟨b, 0, none⟩)] ∧ Blk W (w.heap.size + 1) 26 #[.slice ao s.length cap]) ∧ Below B w W)
    (fun _ _ _ => False)
    (OwnFrom.and (Own.from (fun s A B row hs hg hr => ⟨hs.1.grown hg hr, hs.2.1.grownC hg hr, hs.2.2.grownC hg hr⟩) _) (ownFrom_below hBw (by simp; omega)))
    (fun _ _ _ _ _ hs _ _ => hs)
    ⟨⟨by simpa using hp0, bP.alloc _, bN⟩, hB0⟩
    (fun x => { tmps := #[.pointer (some ⟨b, 0, none⟩), .slice ao s.length cap, .pointer (some ⟨w.heap.size, 0, none⟩), undef, undef, .int .i64 x.2, .slice ao s.length cap, .func (.func 101) #[] #[.pointer (some ⟨w.heap.size + 1, 0, none⟩)], .int .i64 (x.1 : Int), .int .i64 x.2, undef, undef, undef, undef, undef, undef, undef, undef, undef, undef], defers := [] }) ?assign ?body ?done ?stop
  case assign =>
    intro l x W K hK
    gi_wp2
    exact hK
  case body =>
    rintro l pre x W ⟨⟨hP, hbp, hbs⟩, hB⟩ hlt
    obtain ⟨hB1, vd, vt, hb, hd, ht, hne⟩ := hP
    have c0 := hbp.cell 0
    have c1 := hb.cell 0
    have c2 := hb.cell 1
    simp only [List.getElem?_toArray, List.getElem?_cons_zero, List.getElem?_cons_succ] at c0 c1 c2
    generalize hLL : T ++ pre.map (·.2) = L at ht
    have hlen : L.length = T.length + pre.length := by rw [← hLL]; simp
    have hlp : pre.length < s.length := hlt
    have hrow : (World.drew W).ownsRow B 3 1 vt L.length (IV L) := ht
    have hsz : B ≤ (((World.drew W).alloc (.cells #[.int .i64 x.2] 3))).heap.size := by
      rw [World.size_alloc]
      have := hB.size
      show B ≤ W.heap.size + 1
      omega
    have hnW : B ≤ W.heap.size := by have := hB.size; omega
    have HE : ∀ g4 cap4 w4, w4.ownsRow B 3 1 (.slice (some ⟨g4, 0, none⟩) (L.length + 1) cap4) (L.length + 1) (IV L ++ [.int .i64 x.2]) → ((World.drew W).alloc (.cells #[.int .i64 x.2] 3)).grownBy w4 vt.ownBlock → (vt.ownBlock = some g4 ∨ g4 = W.heap.size + 1) → g4 < w4.heap.size → Blk w4 b 73 #[vd, vt] ∧ Blk w4 w.heap.size 93 #[.pointer (some ⟨b, 0, none⟩)] ∧
        (KeepsFrom (((w.alloc (.cells #[.pointer (some ⟨b, 0, none⟩)] 93)).alloc (.cells #[.slice ao s.length cap] 26))).heap.size W (w4.setCell ⟨b, 1, none⟩ (.slice (some ⟨g4, 0, none⟩) (L.length + 1) cap4)) ∧ Kb B (w.heap.size + 1) W (w4.setCell ⟨b, 1, none⟩ (.slice (some ⟨g4, 0, none⟩) (L.length + 1) cap4)) ∧
        (Parts B (w4.setCell ⟨b, 1, none⟩ (.slice (some ⟨g4, 0, none⟩) (L.length + 1) cap4)) b D (T ++ (pre ++ [x]).map (·.2)) ∧ Blk (w4.setCell ⟨b, 1, none⟩ (.slice (some ⟨g4, 0, none⟩) (L.length + 1) cap4)) w.heap.size 93 #[.pointer (some ⟨b, 0, none⟩)] ∧ Blk (w4.setCell ⟨b, 1, none⟩ (.slice (some ⟨g4, 0, none⟩) (L.length + 1) cap4)) (w.heap.size + 1) 26 #[.slice ao s.length cap]) ∧ Below B w (w4.setCell ⟨b, 1, none⟩ (.slice (some ⟨g4, 0, none⟩) (L.length + 1) cap4))) := by
      intro g4 cap4 w4 h1 h2 h3 h4
      obtain ⟨k1, k1p, k2, k3, k4, k5, k6, k7, k8, k9⟩ := put_step hnW hB1 hBw (Nat.le_succ_of_le hBw) hb hd ht hne hbp hbs h1 h2 h3
      refine ⟨k1, k1p, k8.from _, ⟨k9, fun v hv => ?_⟩, ⟨⟨hB1, vd, _, k2, k3, ?_, k5⟩, k6, k7⟩, hB.trans k9⟩
      · rw [hbs.cell 0] at hv
        rw [k7.cell 0]
        exact hv
      · have e1 : (T ++ (pre ++ [x]).map (·.2)).length = L.length + 1 := by rw [hlen]; simp; omega
        have e2 : IV (T ++ (pre ++ [x]).map (·.2)) = IV L ++ [.int .i64 x.2] := by rw [← hLL]; simp [IV]
        rw [e1, e2]
        exact k4
    have ca := (hbp.alloc (.cells #[.int .i64 x.2] 3)).cell 0
    have cb := (hb.alloc (.cells #[.int .i64 x.2] 3)).cell 1
    simp only [List.getElem?_toArray, List.getElem?_cons_zero, List.getElem?_cons_succ] at ca cb
    have HE := Lib.hid HE
    have HL := Lib.hid hlen
    clear hlen hLL
    gi_wp2
    refine wpIn_region_any (by kernel_rfl) (anyIn_of_any (fun i o ho c hc => ?_) _ _ _ _ ?_)
    · have hm := Array.mem_of_getElem? ho
      simp only [List.mem_toArray, List.mem_cons, List.not_mem_nil, or_false] at hm
      repeat (rcases hm with rfl | hm; · cases hc)
      try (subst hm; cases hc)
    change wpAny _ _ _ _ _ _ _ (World.drew _)
    refine wpAny_take (i := 5) (v := ?_) rfl (by kernel_rfl) (by kernel_rfl) (by kernel_rfl) (fun _ _ _ h => h) (Or.inl ⟨by rfl, ?_⟩) ?_
    rotate_left
    · intro w; go_simp; with_reducible rfl
    refine wpAny_ready (rs := [0, 1, 6]) (by kernel_rfl) (by simp) ?_
    refine AllReady.cons rfl (fun K hK => ?_) (AllReady.cons rfl (fun K hK => ?_) (AllReady.cons rfl (fun K hK => ?_) AllReady.nil))
    · go_simp
      refine hK _ _ ?_
      clear hK K
      refine wpAny_ready (rs := [1, 6]) (by kernel_rfl) (by simp) ?_
      refine AllReady.cons rfl (fun K hK => ?_) (AllReady.cons rfl (fun K hK => ?_) AllReady.nil)
      · go_simp
        refine hK _ _ ?_
        clear hK K
        refine wpAny_take (i := 2) (v := ?_) rfl (by kernel_rfl) (by kernel_rfl) (by kernel_rfl) (fun _ _ _ h => h) (Or.inl ⟨by rfl, ?_⟩) ?_
        rotate_left
        · intro w; go_simp; with_reducible rfl
        refine wpAny_take (i := 3) (v := ?_) rfl (by kernel_rfl) (by kernel_rfl) (by kernel_rfl) (fun _ _ _ h => h) (Or.inl ⟨by rfl, ?_⟩) ?_
        rotate_left
        · intro w; go_simp; with_reducible rfl
        refine wpAny_ready (rs := [4, 6]) (by kernel_rfl) (by simp) ?_
        refine AllReady.cons rfl (fun K hK => ?_) (AllReady.cons rfl (fun K hK => ?_) AllReady.nil)
        · go_simp
          refine hK _ _ ?_
          clear hK K
          refine wpAny_ready (rs := [6]) (by kernel_rfl) (by simp) ?_
          refine AllReady.cons rfl (fun K hK => ?_) AllReady.nil
          · go_simp
            refine hK _ _ ?_
            clear hK K
            refine wpAny_ready (rs := [7]) (by kernel_rfl) (by simp) ?_
            refine AllReady.cons rfl (fun K hK => ?_) AllReady.nil
            · refine step_append_lies _ (by rfl) (.tmp 14) (.tmp 16) 26 (by rfl) B 3 i0 (.int .i64 0) 1 8 Try.underlying26 hi hz0 hz1 hz2 (by rfl) (by decide) vt L.length (IV L) (by rfl) (hrow.alloc _) ⟨W.heap.size, 0, none⟩ 1 1 [.int .i64 x.2] (by rfl) (by rfl) (one_new _ _ _) (by simp [Value.oneCell']) (by decide) (by have := HL.out; unfold maxLen; omega) (by have := HL.out; omega) hsz (W.heap.size + 1) (World.size_alloc _ _) ?_
              intro g4 cap4 w4 hown4 hgrow4 hat4 hlt4
              obtain ⟨hb4, hp4, hend⟩ := HE.out g4 cap4 w4 hown4 hgrow4 hat4 hlt4
              have y1 := hb4.cell 1
              have z1 := hb4.frozen 1
              have y0 := hp4.cell 0
              simp only [List.getElem?_toArray, List.getElem?_cons_zero, List.getElem?_cons_succ] at y0 y1
              refine hK _ _ ?_
              clear hK K
              refine wpAny_take (i := 8) (v := ?_) rfl (by kernel_rfl) (by kernel_rfl) (by kernel_rfl) (fun _ _ _ h => h) (Or.inl ⟨by rfl, ?_⟩) ?_
              rotate_left
              · intro w; go_simp; with_reducible rfl
              refine wpAny_take (i := 9) (v := ?_) rfl (by kernel_rfl) (by kernel_rfl) (by kernel_rfl) (fun _ _ _ h => h) (Or.inl ⟨by rfl, ?_⟩) ?_
              rotate_left
              · intro w; go_simp; with_reducible rfl
              refine wpAny_ready (rs := [10]) (by kernel_rfl) (by simp) ?_
              refine AllReady.cons rfl (fun K hK => ?_) AllReady.nil
              · go_simp
                refine hK _ _ ?_
                clear hK K
                refine wpAny_done (by kernel_rfl) ?_ _
                exact ⟨(by intro e; cases e), hend⟩
        · go_simp
          refine hK _ _ ?_
          clear hK K
          refine wpAny_ready (rs := [4]) (by kernel_rfl) (by simp) ?_
          refine AllReady.cons rfl (fun K hK => ?_) AllReady.nil
          · go_simp
            refine hK _ _ ?_
            clear hK K
            refine wpAny_ready (rs := [7]) (by kernel_rfl) (by simp) ?_
            refine AllReady.cons rfl (fun K hK => ?_) AllReady.nil
            · refine step_append_lies _ (by rfl) (.tmp 14) (.tmp 16) 26 (by rfl) B 3 i0 (.int .i64 0) 1 8 Try.underlying26 hi hz0 hz1 hz2 (by rfl) (by decide) vt L.length (IV L) (by rfl) (hrow.alloc _) ⟨W.heap.size, 0, none⟩ 1 1 [.int .i64 x.2] (by rfl) (by rfl) (one_new _ _ _) (by simp [Value.oneCell']) (by decide) (by have := HL.out; unfold maxLen; omega) (by have := HL.out; omega) hsz (W.heap.size + 1) (World.size_alloc _ _) ?_
              intro g4 cap4 w4 hown4 hgrow4 hat4 hlt4
              obtain ⟨hb4, hp4, hend⟩ := HE.out g4 cap4 w4 hown4 hgrow4 hat4 hlt4
              have y1 := hb4.cell 1
              have z1 := hb4.frozen 1
              have y0 := hp4.cell 0
              simp only [List.getElem?_toArray, List.getElem?_cons_zero, List.getElem?_cons_succ] at y0 y1
              refine hK _ _ ?_
              clear hK K
              refine wpAny_take (i := 8) (v := ?_) rfl (by kernel_rfl) (by kernel_rfl) (by kernel_rfl) (fun _ _ _ h => h) (Or.inl ⟨by rfl, ?_⟩) ?_
              rotate_left
              · intro w; go_simp; with_reducible rfl
              refine wpAny_take (i := 9) (v := ?_) rfl (by kernel_rfl) (by kernel_rfl) (by kernel_rfl) (fun _ _ _ h => h) (Or.inl ⟨by rfl, ?_⟩) ?_
              rotate_left
              · intro w; go_simp; with_reducible rfl
              refine wpAny_ready (rs := [10]) (by kernel_rfl) (by simp) ?_
              refine AllReady.cons rfl (fun K hK => ?_) AllReady.nil
              · go_simp
                refine hK _ _ ?_
                clear hK K
                refine wpAny_done (by kernel_rfl) ?_ _
                exact ⟨(by intro e; cases e), hend⟩
      · go_simp
        refine hK _ _ ?_
        clear hK K
        refine wpAny_ready (rs := [1]) (by kernel_rfl) (by simp) ?_
        refine AllReady.cons rfl (fun K hK => ?_) AllReady.nil
        · go_simp
          refine hK _ _ ?_
          clear hK K
          refine wpAny_take (i := 2) (v := ?_) rfl (by kernel_rfl) (by kernel_rfl) (by kernel_rfl) (fun _ _ _ h => h) (Or.inl ⟨by rfl, ?_⟩) ?_
          rotate_left
          · intro w; go_simp; with_reducible rfl
          refine wpAny_take (i := 3) (v := ?_) rfl (by kernel_rfl) (by kernel_rfl) (by kernel_rfl) (fun _ _ _ h => h) (Or.inl ⟨by rfl, ?_⟩) ?_
          rotate_left
          · intro w; go_simp; with_reducible rfl
          refine wpAny_ready (rs := [4]) (by kernel_rfl) (by simp) ?_
          refine AllReady.cons rfl (fun K hK => ?_) AllReady.nil
          · go_simp
            refine hK _ _ ?_
            clear hK K
            refine wpAny_ready (rs := [7]) (by kernel_rfl) (by simp) ?_
            refine AllReady.cons rfl (fun K hK => ?_) AllReady.nil
            · refine step_append_lies _ (by rfl) (.tmp 14) (.tmp 16) 26 (by rfl) B 3 i0 (.int .i64 0) 1 8 Try.underlying26 hi hz0 hz1 hz2 (by rfl) (by decide) vt L.length (IV L) (by rfl) (hrow.alloc _) ⟨W.heap.size, 0, none⟩ 1 1 [.int .i64 x.2] (by rfl) (by rfl) (one_new _ _ _) (by simp [Value.oneCell']) (by decide) (by have := HL.out; unfold maxLen; omega) (by have := HL.out; omega) hsz (W.heap.size + 1) (World.size_alloc _ _) ?_
              intro g4 cap4 w4 hown4 hgrow4 hat4 hlt4
              obtain ⟨hb4, hp4, hend⟩ := HE.out g4 cap4 w4 hown4 hgrow4 hat4 hlt4
              have y1 := hb4.cell 1
              have z1 := hb4.frozen 1
              have y0 := hp4.cell 0
              simp only [List.getElem?_toArray, List.getElem?_cons_zero, List.getElem?_cons_succ] at y0 y1
              refine hK _ _ ?_
              clear hK K
              refine wpAny_take (i := 8) (v := ?_) rfl (by kernel_rfl) (by kernel_rfl) (by kernel_rfl) (fun _ _ _ h => h) (Or.inl ⟨by rfl, ?_⟩) ?_
              rotate_left
              · intro w; go_simp; with_reducible rfl
              refine wpAny_take (i := 9) (v := ?_) rfl (by kernel_rfl) (by kernel_rfl) (by kernel_rfl) (fun _ _ _ h => h) (Or.inl ⟨by rfl, ?_⟩) ?_
              rotate_left
              · intro w; go_simp; with_reducible rfl
              refine wpAny_ready (rs := [10]) (by kernel_rfl) (by simp) ?_
              refine AllReady.cons rfl (fun K hK => ?_) AllReady.nil
              · go_simp
                refine hK _ _ ?_
                clear hK K
                refine wpAny_done (by kernel_rfl) ?_ _
                exact ⟨(by intro e; cases e), hend⟩
    · go_simp
      refine hK _ _ ?_
      clear hK K
      refine wpAny_take (i := 2) (v := ?_) rfl (by kernel_rfl) (by kernel_rfl) (by kernel_rfl) (fun _ _ _ h => h) (Or.inl ⟨by rfl, ?_⟩) ?_
      rotate_left
      · intro w; go_simp; with_reducible rfl
      refine wpAny_take (i := 3) (v := ?_) rfl (by kernel_rfl) (by kernel_rfl) (by kernel_rfl) (fun _ _ _ h => h) (Or.inl ⟨by rfl, ?_⟩) ?_
      rotate_left
      · intro w; go_simp; with_reducible rfl
      refine wpAny_ready (rs := [0, 4, 6]) (by kernel_rfl) (by simp) ?_
      refine AllReady.cons rfl (fun K hK => ?_) (AllReady.cons rfl (fun K hK => ?_) (AllReady.cons rfl (fun K hK => ?_) AllReady.nil))
      · go_simp
        refine hK _ _ ?_
        clear hK K
        refine wpAny_ready (rs := [4, 6]) (by kernel_rfl) (by simp) ?_
        refine AllReady.cons rfl (fun K hK => ?_) (AllReady.cons rfl (fun K hK => ?_) AllReady.nil)
        · go_simp
          refine hK _ _ ?_
          clear hK K
          refine wpAny_ready (rs := [6]) (by kernel_rfl) (by simp) ?_
          refine AllReady.cons rfl (fun K hK => ?_) AllReady.nil
          · go_simp
            refine hK _ _ ?_
            clear hK K
            refine wpAny_ready (rs := [7]) (by kernel_rfl) (by simp) ?_
            refine AllReady.cons rfl (fun K hK => ?_) AllReady.nil
            · refine step_append_lies _ (by rfl) (.tmp 14) (.tmp 16) 26 (by rfl) B 3 i0 (.int .i64 0) 1 8 Try.underlying26 hi hz0 hz1 hz2 (by rfl) (by decide) vt L.length (IV L) (by rfl) (hrow.alloc _) ⟨W.heap.size, 0, none⟩ 1 1 [.int .i64 x.2] (by rfl) (by rfl) (one_new _ _ _) (by simp [Value.oneCell']) (by decide) (by have := HL.out; unfold maxLen; omega) (by have := HL.out; omega) hsz (W.heap.size + 1) (World.size_alloc _ _) ?_
              intro g4 cap4 w4 hown4 hgrow4 hat4 hlt4
              obtain ⟨hb4, hp4, hend⟩ := HE.out g4 cap4 w4 hown4 hgrow4 hat4 hlt4
              have y1 := hb4.cell 1
              have z1 := hb4.frozen 1
              have y0 := hp4.cell 0
              simp only [List.getElem?_toArray, List.getElem?_cons_zero, List.getElem?_cons_succ] at y0 y1
              refine hK _ _ ?_
              clear hK K
              refine wpAny_take (i := 8) (v := ?_) rfl (by kernel_rfl) (by kernel_rfl) (by kernel_rfl) (fun _ _ _ h => h) (Or.inl ⟨by rfl, ?_⟩) ?_
              rotate_left
              · intro w; go_simp; with_reducible rfl
              refine wpAny_take (i := 9) (v := ?_) rfl (by kernel_rfl) (by kernel_rfl) (by kernel_rfl) (fun _ _ _ h => h) (Or.inl ⟨by rfl, ?_⟩) ?_
              rotate_left
              · intro w; go_simp; with_reducible rfl
              refine wpAny_ready (rs := [10]) (by kernel_rfl) (by simp) ?_
              refine AllReady.cons rfl (fun K hK => ?_) AllReady.nil
              · go_simp
                refine hK _ _ ?_
                clear hK K
                refine wpAny_done (by kernel_rfl) ?_ _
                exact ⟨(by intro e; cases e), hend⟩
        · go_simp
          refine hK _ _ ?_
          clear hK K
          refine wpAny_ready (rs := [4]) (by kernel_rfl) (by simp) ?_
          refine AllReady.cons rfl (fun K hK => ?_) AllReady.nil
          · go_simp
            refine hK _ _ ?_
            clear hK K
            refine wpAny_ready (rs := [7]) (by kernel_rfl) (by simp) ?_
            refine AllReady.cons rfl (fun K hK => ?_) AllReady.nil
            · refine step_append_lies _ (by rfl) (.tmp 14) (.tmp 16) 26 (by rfl) B 3 i0 (.int .i64 0) 1 8 Try.underlying26 hi hz0 hz1 hz2 (by rfl) (by decide) vt L.length (IV L) (by rfl) (hrow.alloc _) ⟨W.heap.size, 0, none⟩ 1 1 [.int .i64 x.2] (by rfl) (by rfl) (one_new _ _ _) (by simp [Value.oneCell']) (by decide) (by have := HL.out; unfold maxLen; omega) (by have := HL.out; omega) hsz (W.heap.size + 1) (World.size_alloc _ _) ?_
              intro g4 cap4 w4 hown4 hgrow4 hat4 hlt4
              obtain ⟨hb4, hp4, hend⟩ := HE.out g4 cap4 w4 hown4 hgrow4 hat4 hlt4
              have y1 := hb4.cell 1
              have z1 := hb4.frozen 1
              have y0 := hp4.cell 0
              simp only [List.getElem?_toArray, List.getElem?_cons_zero, List.getElem?_cons_succ] at y0 y1
              refine hK _ _ ?_
              clear hK K
              refine wpAny_take (i := 8) (v := ?_) rfl (by kernel_rfl) (by kernel_rfl) (by kernel_rfl) (fun _ _ _ h => h) (Or.inl ⟨by rfl, ?_⟩) ?_
              rotate_left
              · intro w; go_simp; with_reducible rfl
              refine wpAny_take (i := 9) (v := ?_) rfl (by kernel_rfl) (by kernel_rfl) (by kernel_rfl) (fun _ _ _ h => h) (Or.inl ⟨by rfl, ?_⟩) ?_
              rotate_left
              · intro w; go_simp; with_reducible rfl
              refine wpAny_ready (rs := [10]) (by kernel_rfl) (by simp) ?_
              refine AllReady.cons rfl (fun K hK => ?_) AllReady.nil
              · go_simp
                refine hK _ _ ?_
                clear hK K
                refine wpAny_done (by kernel_rfl) ?_ _
                exact ⟨(by intro e; cases e), hend⟩
      · go_simp
        refine hK _ _ ?_
        clear hK K
        refine wpAny_ready (rs := [0, 6]) (by kernel_rfl) (by simp) ?_
        refine AllReady.cons rfl (fun K hK => ?_) (AllReady.cons rfl (fun K hK => ?_) AllReady.nil)
        · go_simp
          refine hK _ _ ?_
          clear hK K
          refine wpAny_ready (rs := [6]) (by kernel_rfl) (by simp) ?_
          refine AllReady.cons rfl (fun K hK => ?_) AllReady.nil
          · go_simp
            refine hK _ _ ?_
            clear hK K
            refine wpAny_ready (rs := [7]) (by kernel_rfl) (by simp) ?_
            refine AllReady.cons rfl (fun K hK => ?_) AllReady.nil
            · refine step_append_lies _ (by rfl) (.tmp 14) (.tmp 16) 26 (by rfl) B 3 i0 (.int .i64 0) 1 8 Try.underlying26 hi hz0 hz1 hz2 (by rfl) (by decide) vt L.length (IV L) (by rfl) (hrow.alloc _) ⟨W.heap.size, 0, none⟩ 1 1 [.int .i64 x.2] (by rfl) (by rfl) (one_new _ _ _) (by simp [Value.oneCell']) (by decide) (by have := HL.out; unfold maxLen; omega) (by have := HL.out; omega) hsz (W.heap.size + 1) (World.size_alloc _ _) ?_
              intro g4 cap4 w4 hown4 hgrow4 hat4 hlt4
              obtain ⟨hb4, hp4, hend⟩ := HE.out g4 cap4 w4 hown4 hgrow4 hat4 hlt4
              have y1 := hb4.cell 1
              have z1 := hb4.frozen 1
              have y0 := hp4.cell 0
              simp only [List.getElem?_toArray, List.getElem?_cons_zero, List.getElem?_cons_succ] at y0 y1
              refine hK _ _ ?_
              clear hK K
              refine wpAny_take (i := 8) (v := ?_) rfl (by kernel_rfl) (by kernel_rfl) (by kernel_rfl) (fun _ _ _ h => h) (Or.inl ⟨by rfl, ?_⟩) ?_
              rotate_left
              · intro w; go_simp; with_reducible rfl
              refine wpAny_take (i := 9) (v := ?_) rfl (by kernel_rfl) (by kernel_rfl) (by kernel_rfl) (fun _ _ _ h => h) (Or.inl ⟨by rfl, ?_⟩) ?_
              rotate_left
              · intro w; go_simp; with_reducible rfl
              refine wpAny_ready (rs := [10]) (by kernel_rfl) (by simp) ?_
              refine AllReady.cons rfl (fun K hK => ?_) AllReady.nil
              · go_simp
                refine hK _ _ ?_
                clear hK K
                refine wpAny_done (by kernel_rfl) ?_ _
                exact ⟨(by intro e; cases e), hend⟩
        · go_simp
          refine hK _ _ ?_
          clear hK K
          refine wpAny_ready (rs := [0, 7]) (by kernel_rfl) (by simp) ?_
          refine AllReady.cons rfl (fun K hK => ?_) (AllReady.cons rfl (fun K hK => ?_) AllReady.nil)
          · go_simp
            refine hK _ _ ?_
            clear hK K
            refine wpAny_ready (rs := [7]) (by kernel_rfl) (by simp) ?_
            refine AllReady.cons rfl (fun K hK => ?_) AllReady.nil
            · refine step_append_lies _ (by rfl) (.tmp 14) (.tmp 16) 26 (by rfl) B 3 i0 (.int .i64 0) 1 8 Try.underlying26 hi hz0 hz1 hz2 (by rfl) (by decide) vt L.length (IV L) (by rfl) (hrow.alloc _) ⟨W.heap.size, 0, none⟩ 1 1 [.int .i64 x.2] (by rfl) (by rfl) (one_new _ _ _) (by simp [Value.oneCell']) (by decide) (by have := HL.out; unfold maxLen; omega) (by have := HL.out; omega) hsz (W.heap.size + 1) (World.size_alloc _ _) ?_
              intro g4 cap4 w4 hown4 hgrow4 hat4 hlt4
              obtain ⟨hb4, hp4, hend⟩ := HE.out g4 cap4 w4 hown4 hgrow4 hat4 hlt4
              have y1 := hb4.cell 1
              have z1 := hb4.frozen 1
              have y0 := hp4.cell 0
              simp only [List.getElem?_toArray, List.getElem?_cons_zero, List.getElem?_cons_succ] at y0 y1
              refine hK _ _ ?_
              clear hK K
              refine wpAny_take (i := 8) (v := ?_) rfl (by kernel_rfl) (by kernel_rfl) (by kernel_rfl) (fun _ _ _ h => h) (Or.inl ⟨by rfl, ?_⟩) ?_
              rotate_left
              · intro w; go_simp; with_reducible rfl
              refine wpAny_take (i := 9) (v := ?_) rfl (by kernel_rfl) (by kernel_rfl) (by kernel_rfl) (fun _ _ _ h => h) (Or.inl ⟨by rfl, ?_⟩) ?_
              rotate_left
              · intro w; go_simp; with_reducible rfl
              refine wpAny_ready (rs := [10]) (by kernel_rfl) (by simp) ?_
              refine AllReady.cons rfl (fun K hK => ?_) AllReady.nil
              · go_simp
                refine hK _ _ ?_
                clear hK K
                refine wpAny_done (by kernel_rfl) ?_ _
                exact ⟨(by intro e; cases e), hend⟩
          · refine step_append_lies _ (by rfl) (.tmp 14) (.tmp 16) 26 (by rfl) B 3 i0 (.int .i64 0) 1 8 Try.underlying26 hi hz0 hz1 hz2 (by rfl) (by decide) vt L.length (IV L) (by rfl) (hrow.alloc _) ⟨W.heap.size, 0, none⟩ 1 1 [.int .i64 x.2] (by rfl) (by rfl) (one_new _ _ _) (by simp [Value.oneCell']) (by decide) (by have := HL.out; unfold maxLen; omega) (by have := HL.out; omega) hsz (W.heap.size + 1) (World.size_alloc _ _) ?_
            intro g4 cap4 w4 hown4 hgrow4 hat4 hlt4
            obtain ⟨hb4, hp4, hend⟩ := HE.out g4 cap4 w4 hown4 hgrow4 hat4 hlt4
            have y1 := hb4.cell 1
            have z1 := hb4.frozen 1
            have y0 := hp4.cell 0
            simp only [List.getElem?_toArray, List.getElem?_cons_zero, List.getElem?_cons_succ] at y0 y1
            refine hK _ _ ?_
            clear hK K
            refine wpAny_ready (rs := [0]) (by kernel_rfl) (by simp) ?_
            refine AllReady.cons rfl (fun K hK => ?_) AllReady.nil
            · go_simp
              refine hK _ _ ?_
              clear hK K
              refine wpAny_take (i := 8) (v := ?_) rfl (by kernel_rfl) (by kernel_rfl) (by kernel_rfl) (fun _ _ _ h => h) (Or.inl ⟨by rfl, ?_⟩) ?_
              rotate_left
              · intro w; go_simp; with_reducible rfl
              refine wpAny_take (i := 9) (v := ?_) rfl (by kernel_rfl) (by kernel_rfl) (by kernel_rfl) (fun _ _ _ h => h) (Or.inl ⟨by rfl, ?_⟩) ?_
              rotate_left
              · intro w; go_simp; with_reducible rfl
              refine wpAny_ready (rs := [10]) (by kernel_rfl) (by simp) ?_
              refine AllReady.cons rfl (fun K hK => ?_) AllReady.nil
              · go_simp
                refine hK _ _ ?_
                clear hK K
                refine wpAny_done (by kernel_rfl) ?_ _
                exact ⟨(by intro e; cases e), hend⟩
      · go_simp
        refine hK _ _ ?_
        clear hK K
        refine wpAny_ready (rs := [0, 4]) (by kernel_rfl) (by simp) ?_
        refine AllReady.cons rfl (fun K hK => ?_) (AllReady.cons rfl (fun K hK => ?_) AllReady.nil)
        · go_simp
          refine hK _ _ ?_
          clear hK K
          refine wpAny_ready (rs := [4]) (by kernel_rfl) (by simp) ?_
          refine AllReady.cons rfl (fun K hK => ?_) AllReady.nil
          · go_simp
            refine hK _ _ ?_
            clear hK K
            refine wpAny_ready (rs := [7]) (by kernel_rfl) (by simp) ?_
            refine AllReady.cons rfl (fun K hK => ?_) AllReady.nil
            · refine step_append_lies _ (by rfl) (.tmp 14) (.tmp 16) 26 (by rfl) B 3 i0 (.int .i64 0) 1 8 Try.underlying26 hi hz0 hz1 hz2 (by rfl) (by decide) vt L.length (IV L) (by rfl) (hrow.alloc _) ⟨W.heap.size, 0, none⟩ 1 1 [.int .i64 x.2] (by rfl) (by rfl) (one_new _ _ _) (by simp [Value.oneCell']) (by decide) (by have := HL.out; unfold maxLen; omega) (by have := HL.out; omega) hsz (W.heap.size + 1) (World.size_alloc _ _) ?_
              intro g4 cap4 w4 hown4 hgrow4 hat4 hlt4
              obtain ⟨hb4, hp4, hend⟩ := HE.out g4 cap4 w4 hown4 hgrow4 hat4 hlt4
              have y1 := hb4.cell 1
              have z1 := hb4.frozen 1
              have y0 := hp4.cell 0
              simp only [List.getElem?_toArray, List.getElem?_cons_zero, List.getElem?_cons_succ] at y0 y1
              refine hK _ _ ?_
              clear hK K
              refine wpAny_take (i := 8) (v := ?_) rfl (by kernel_rfl) (by kernel_rfl) (by kernel_rfl) (fun _ _ _ h => h) (Or.inl ⟨by rfl, ?_⟩) ?_
              rotate_left
              · intro w; go_simp; with_reducible rfl
              refine wpAny_take (i := 9) (v := ?_) rfl (by kernel_rfl) (by kernel_rfl) (by kernel_rfl) (fun _ _ _ h => h) (Or.inl ⟨by rfl, ?_⟩) ?_
              rotate_left
              · intro w; go_simp; with_reducible rfl
              refine wpAny_ready (rs := [10]) (by kernel_rfl) (by simp) ?_
              refine AllReady.cons rfl (fun K hK => ?_) AllReady.nil
              · go_simp
                refine hK _ _ ?_
                clear hK K
                refine wpAny_done (by kernel_rfl) ?_ _
                exact ⟨(by intro e; cases e), hend⟩
        · go_simp
          refine hK _ _ ?_
          clear hK K
          refine wpAny_ready (rs := [0, 7]) (by kernel_rfl) (by simp) ?_
          refine AllReady.cons rfl (fun K hK => ?_) (AllReady.cons rfl (fun K hK => ?_) AllReady.nil)
          · go_simp
            refine hK _ _ ?_
            clear hK K
            refine wpAny_ready (rs := [7]) (by kernel_rfl) (by simp) ?_
            refine AllReady.cons rfl (fun K hK => ?_) AllReady.nil
            · refine step_append_lies _ (by rfl) (.tmp 14) (.tmp 16) 26 (by rfl) B 3 i0 (.int .i64 0) 1 8 Try.underlying26 hi hz0 hz1 hz2 (by rfl) (by decide) vt L.length (IV L) (by rfl) (hrow.alloc _) ⟨W.heap.size, 0, none⟩ 1 1 [.int .i64 x.2] (by rfl) (by rfl) (one_new _ _ _) (by simp [Value.oneCell']) (by decide) (by have := HL.out; unfold maxLen; omega) (by have := HL.out; omega) hsz (W.heap.size + 1) (World.size_alloc _ _) ?_
              intro g4 cap4 w4 hown4 hgrow4 hat4 hlt4
              obtain ⟨hb4, hp4, hend⟩ := HE.out g4 cap4 w4 hown4 hgrow4 hat4 hlt4
              have y1 := hb4.cell 1
              have z1 := hb4.frozen 1
              have y0 := hp4.cell 0
              simp only [List.getElem?_toArray, List.getElem?_cons_zero, List.getElem?_cons_succ] at y0 y1
              refine hK _ _ ?_
              clear hK K
              refine wpAny_take (i := 8) (v := ?_) rfl (by kernel_rfl) (by kernel_rfl) (by kernel_rfl) (fun _ _ _ h => h) (Or.inl ⟨by rfl, ?_⟩) ?_
              rotate_left
              · intro w; go_simp; with_reducible rfl
              refine wpAny_take (i := 9) (v := ?_) rfl (by kernel_rfl) (by kernel_rfl) (by kernel_rfl) (fun _ _ _ h => h) (Or.inl ⟨by rfl, ?_⟩) ?_
              rotate_left
              · intro w; go_simp; with_reducible rfl
              refine wpAny_ready (rs := [10]) (by kernel_rfl) (by simp) ?_
              refine AllReady.cons rfl (fun K hK => ?_) AllReady.nil
              · go_simp
                refine hK _ _ ?_
                clear hK K
                refine wpAny_done (by kernel_rfl) ?_ _
                exact ⟨(by intro e; cases e), hend⟩
          · refine step_append_lies _ (by rfl) (.tmp 14) (.tmp 16) 26 (by rfl) B 3 i0 (.int .i64 0) 1 8 Try.underlying26 hi hz0 hz1 hz2 (by rfl) (by decide) vt L.length (IV L) (by rfl) (hrow.alloc _) ⟨W.heap.size, 0, none⟩ 1 1 [.int .i64 x.2] (by rfl) (by rfl) (one_new _ _ _) (by simp [Value.oneCell']) (by decide) (by have := HL.out; unfold maxLen; omega) (by have := HL.out; omega) hsz (W.heap.size + 1) (World.size_alloc _ _) ?_
            intro g4 cap4 w4 hown4 hgrow4 hat4 hlt4
            obtain ⟨hb4, hp4, hend⟩ := HE.out g4 cap4 w4 hown4 hgrow4 hat4 hlt4
            have y1 := hb4.cell 1
            have z1 := hb4.frozen 1
            have y0 := hp4.cell 0
            simp only [List.getElem?_toArray, List.getElem?_cons_zero, List.getElem?_cons_succ] at y0 y1
            refine hK _ _ ?_
            clear hK K
            refine wpAny_ready (rs := [0]) (by kernel_rfl) (by simp) ?_
            refine AllReady.cons rfl (fun K hK => ?_) AllReady.nil
            · go_simp
              refine hK _ _ ?_
              clear hK K
              refine wpAny_take (i := 8) (v := ?_) rfl (by kernel_rfl) (by kernel_rfl) (by kernel_rfl) (fun _ _ _ h => h) (Or.inl ⟨by rfl, ?_⟩) ?_
              rotate_left
              · intro w; go_simp; with_reducible rfl
              refine wpAny_take (i := 9) (v := ?_) rfl (by kernel_rfl) (by kernel_rfl) (by kernel_rfl) (fun _ _ _ h => h) (Or.inl ⟨by rfl, ?_⟩) ?_
              rotate_left
              · intro w; go_simp; with_reducible rfl
              refine wpAny_ready (rs := [10]) (by kernel_rfl) (by simp) ?_
              refine AllReady.cons rfl (fun K hK => ?_) AllReady.nil
              · go_simp
                refine hK _ _ ?_
                clear hK K
                refine wpAny_done (by kernel_rfl) ?_ _
                exact ⟨(by intro e; cases e), hend⟩
    · go_simp
      refine hK _ _ ?_
      clear hK K
      refine wpAny_ready (rs := [0, 1]) (by kernel_rfl) (by simp) ?_
      refine AllReady.cons rfl (fun K hK => ?_) (AllReady.cons rfl (fun K hK => ?_) AllReady.nil)
      · go_simp
        refine hK _ _ ?_
        clear hK K
        refine wpAny_ready (rs := [1]) (by kernel_rfl) (by simp) ?_
        refine AllReady.cons rfl (fun K hK => ?_) AllReady.nil
        · go_simp
          refine hK _ _ ?_
          clear hK K
          refine wpAny_take (i := 2) (v := ?_) rfl (by kernel_rfl) (by kernel_rfl) (by kernel_rfl) (fun _ _ _ h => h) (Or.inl ⟨by rfl, ?_⟩) ?_
          rotate_left
          · intro w; go_simp; with_reducible rfl
          refine wpAny_take (i := 3) (v := ?_) rfl (by kernel_rfl) (by kernel_rfl) (by kernel_rfl) (fun _ _ _ h => h) (Or.inl ⟨by rfl, ?_⟩) ?_
          rotate_left
          · intro w; go_simp; with_reducible rfl
          refine wpAny_ready (rs := [4]) (by kernel_rfl) (by simp) ?_
          refine AllReady.cons rfl (fun K hK => ?_) AllReady.nil
          · go_simp
            refine hK _ _ ?_
            clear hK K
            refine wpAny_ready (rs := [7]) (by kernel_rfl) (by simp) ?_
            refine AllReady.cons rfl (fun K hK => ?_) AllReady.nil
            · refine step_append_lies _ (by rfl) (.tmp 14) (.tmp 16) 26 (by rfl) B 3 i0 (.int .i64 0) 1 8 Try.underlying26 hi hz0 hz1 hz2 (by rfl) (by decide) vt L.length (IV L) (by rfl) (hrow.alloc _) ⟨W.heap.size, 0, none⟩ 1 1 [.int .i64 x.2] (by rfl) (by rfl) (one_new _ _ _) (by simp [Value.oneCell']) (by decide) (by have := HL.out; unfold maxLen; omega) (by have := HL.out; omega) hsz (W.heap.size + 1) (World.size_alloc _ _) ?_
              intro g4 cap4 w4 hown4 hgrow4 hat4 hlt4
              obtain ⟨hb4, hp4, hend⟩ := HE.out g4 cap4 w4 hown4 hgrow4 hat4 hlt4
              have y1 := hb4.cell 1
              have z1 := hb4.frozen 1
              have y0 := hp4.cell 0
              simp only [List.getElem?_toArray, List.getElem?_cons_zero, List.getElem?_cons_succ] at y0 y1
              refine hK _ _ ?_
              clear hK K
              refine wpAny_take (i := 8) (v := ?_) rfl (by kernel_rfl) (by kernel_rfl) (by kernel_rfl) (fun _ _ _ h => h) (Or.inl ⟨by rfl, ?_⟩) ?_
              rotate_left
              · intro w; go_simp; with_reducible rfl
              refine wpAny_take (i := 9) (v := ?_) rfl (by kernel_rfl) (by kernel_rfl) (by kernel_rfl) (fun _ _ _ h => h) (Or.inl ⟨by rfl, ?_⟩) ?_
              rotate_left
              · intro w; go_simp; with_reducible rfl
              refine wpAny_ready (rs := [10]) (by kernel_rfl) (by simp) ?_
              refine AllReady.cons rfl (fun K hK => ?_) AllReady.nil
              · go_simp
                refine hK _ _ ?_
                clear hK K
                refine wpAny_done (by kernel_rfl) ?_ _
                exact ⟨(by intro e; cases e), hend⟩
      · go_simp
        refine hK _ _ ?_
        clear hK K
        refine wpAny_take (i := 2) (v := ?_) rfl (by kernel_rfl) (by kernel_rfl) (by kernel_rfl) (fun _ _ _ h => h) (Or.inl ⟨by rfl, ?_⟩) ?_
        rotate_left
        · intro w; go_simp; with_reducible rfl
        refine wpAny_take (i := 3) (v := ?_) rfl (by kernel_rfl) (by kernel_rfl) (by kernel_rfl) (fun _ _ _ h => h) (Or.inl ⟨by rfl, ?_⟩) ?_
        rotate_left
        · intro w; go_simp; with_reducible rfl
        refine wpAny_ready (rs := [0, 4]) (by kernel_rfl) (by simp) ?_
        refine AllReady.cons rfl (fun K hK => ?_) (AllReady.cons rfl (fun K hK => ?_) AllReady.nil)
        · go_simp
          refine hK _ _ ?_
          clear hK K
          refine wpAny_ready (rs := [4]) (by kernel_rfl) (by simp) ?_
          refine AllReady.cons rfl (fun K hK => ?_) AllReady.nil
          · go_simp
            refine hK _ _ ?_
            clear hK K
            refine wpAny_ready (rs := [7]) (by kernel_rfl) (by simp) ?_
            refine AllReady.cons rfl (fun K hK => ?_) AllReady.nil
            · refine step_append_lies _ (by rfl) (.tmp 14) (.tmp 16) 26 (by rfl) B 3 i0 (.int .i64 0) 1 8 Try.underlying26 hi hz0 hz1 hz2 (by rfl) (by decide) vt L.length (IV L) (by rfl) (hrow.alloc _) ⟨W.heap.size, 0, none⟩ 1 1 [.int .i64 x.2] (by rfl) (by rfl) (one_new _ _ _) (by simp [Value.oneCell']) (by decide) (by have := HL.out; unfold maxLen; omega) (by have := HL.out; omega) hsz (W.heap.size + 1) (World.size_alloc _ _) ?_
              intro g4 cap4 w4 hown4 hgrow4 hat4 hlt4
              obtain ⟨hb4, hp4, hend⟩ := HE.out g4 cap4 w4 hown4 hgrow4 hat4 hlt4
              have y1 := hb4.cell 1
              have z1 := hb4.frozen 1
              have y0 := hp4.cell 0
              simp only [List.getElem?_toArray, List.getElem?_cons_zero, List.getElem?_cons_succ] at y0 y1
              refine hK _ _ ?_
              clear hK K
              refine wpAny_take (i := 8) (v := ?_) rfl (by kernel_rfl) (by kernel_rfl) (by kernel_rfl) (fun _ _ _ h => h) (Or.inl ⟨by rfl, ?_⟩) ?_
              rotate_left
              · intro w; go_simp; with_reducible rfl
              refine wpAny_take (i := 9) (v := ?_) rfl (by kernel_rfl) (by kernel_rfl) (by kernel_rfl) (fun _ _ _ h => h) (Or.inl ⟨by rfl, ?_⟩) ?_
              rotate_left
              · intro w; go_simp; with_reducible rfl
              refine wpAny_ready (rs := [10]) (by kernel_rfl) (by simp) ?_
              refine AllReady.cons rfl (fun K hK => ?_) AllReady.nil
              · go_simp
                refine hK _ _ ?_
                clear hK K
                refine wpAny_done (by kernel_rfl) ?_ _
                exact ⟨(by intro e; cases e), hend⟩
        · go_simp
          refine hK _ _ ?_
          clear hK K
          refine wpAny_ready (rs := [0, 7]) (by kernel_rfl) (by simp) ?_
          refine AllReady.cons rfl (fun K hK => ?_) (AllReady.cons rfl (fun K hK => ?_) AllReady.nil)
          · go_simp
            refine hK _ _ ?_
            clear hK K
            refine wpAny_ready (rs := [7]) (by kernel_rfl) (by simp) ?_
            refine AllReady.cons rfl (fun K hK => ?_) AllReady.nil
            · refine step_append_lies _ (by rfl) (.tmp 14) (.tmp 16) 26 (by rfl) B 3 i0 (.int .i64 0) 1 8 Try.underlying26 hi hz0 hz1 hz2 (by rfl) (by decide) vt L.length (IV L) (by rfl) (hrow.alloc _) ⟨W.heap.size, 0, none⟩ 1 1 [.int .i64 x.2] (by rfl) (by rfl) (one_new _ _ _) (by simp [Value.oneCell']) (by decide) (by have := HL.out; unfold maxLen; omega) (by have := HL.out; omega) hsz (W.heap.size + 1) (World.size_alloc _ _) ?_
              intro g4 cap4 w4 hown4 hgrow4 hat4 hlt4
              obtain ⟨hb4, hp4, hend⟩ := HE.out g4 cap4 w4 hown4 hgrow4 hat4 hlt4
              have y1 := hb4.cell 1
              have z1 := hb4.frozen 1
              have y0 := hp4.cell 0
              simp only [List.getElem?_toArray, List.getElem?_cons_zero, List.getElem?_cons_succ] at y0 y1
              refine hK _ _ ?_
              clear hK K
              refine wpAny_take (i := 8) (v := ?_) rfl (by kernel_rfl) (by kernel_rfl) (by kernel_rfl) (fun _ _ _ h => h) (Or.inl ⟨by rfl, ?_⟩) ?_
              rotate_left
              · intro w; go_simp; with_reducible rfl
              refine wpAny_take (i := 9) (v := ?_) rfl (by kernel_rfl) (by kernel_rfl) (by kernel_rfl) (fun _ _ _ h => h) (Or.inl ⟨by rfl, ?_⟩) ?_
              rotate_left
              · intro w; go_simp; with_reducible rfl
              refine wpAny_ready (rs := [10]) (by kernel_rfl) (by simp) ?_
              refine AllReady.cons rfl (fun K hK => ?_) AllReady.nil
              · go_simp
                refine hK _ _ ?_
                clear hK K
                refine wpAny_done (by kernel_rfl) ?_ _
                exact ⟨(by intro e; cases e), hend⟩
          · refine step_append_lies _ (by rfl) (.tmp 14) (.tmp 16) 26 (by rfl) B 3 i0 (.int .i64 0) 1 8 Try.underlying26 hi hz0 hz1 hz2 (by rfl) (by decide) vt L.length (IV L) (by rfl) (hrow.alloc _) ⟨W.heap.size, 0, none⟩ 1 1 [.int .i64 x.2] (by rfl) (by rfl) (one_new _ _ _) (by simp [Value.oneCell']) (by decide) (by have := HL.out; unfold maxLen; omega) (by have := HL.out; omega) hsz (W.heap.size + 1) (World.size_alloc _ _) ?_
            intro g4 cap4 w4 hown4 hgrow4 hat4 hlt4
            obtain ⟨hb4, hp4, hend⟩ := HE.out g4 cap4 w4 hown4 hgrow4 hat4 hlt4
            have y1 := hb4.cell 1
            have z1 := hb4.frozen 1
            have y0 := hp4.cell 0
            simp only [List.getElem?_toArray, List.getElem?_cons_zero, List.getElem?_cons_succ] at y0 y1
            refine hK _ _ ?_
            clear hK K
            refine wpAny_ready (rs := [0]) (by kernel_rfl) (by simp) ?_
            refine AllReady.cons rfl (fun K hK => ?_) AllReady.nil
            · go_simp
              refine hK _ _ ?_
              clear hK K
              refine wpAny_take (i := 8) (v := ?_) rfl (by kernel_rfl) (by kernel_rfl) (by kernel_rfl) (fun _ _ _ h => h) (Or.inl ⟨by rfl, ?_⟩) ?_
              rotate_left
              · intro w; go_simp; with_reducible rfl
              refine wpAny_take (i := 9) (v := ?_) rfl (by kernel_rfl) (by kernel_rfl) (by kernel_rfl) (fun _ _ _ h => h) (Or.inl ⟨by rfl, ?_⟩) ?_
              rotate_left
              · intro w; go_simp; with_reducible rfl
              refine wpAny_ready (rs := [10]) (by kernel_rfl) (by simp) ?_
              refine AllReady.cons rfl (fun K hK => ?_) AllReady.nil
              · go_simp
                refine hK _ _ ?_
                clear hK K
                refine wpAny_done (by kernel_rfl) ?_ _
                exact ⟨(by intro e; cases e), hend⟩
  case done =>
    rintro D' ys W hD rfl ⟨⟨hP, hbp, hbs⟩, hB⟩ hK
    rw [upto_bk] at hP
    gi_wp2
    refine ⟨by simp, .inl ⟨_, _, rfl, run_takeDeferred hK, ?_⟩⟩
    exact ⟨_, results_none rfl _ _ _, ⟨_, rfl⟩, hP.grown (grownBy_putObj' _ D' _) (fun r e => by cases e; exact ⟨_, hK, rfl⟩), hB.trans (belowK_b (w := w) hBw W D' _ _ (by simp at hD; omega) hK rfl rfl)⟩
  case stop =>
    rintro D c pre W _ _ h _
    exact h.elim
end Go.Proofs.Ytljkobijoenabaa.dv
namespace Go.Proofs.Ytljkobijoenabaa.dv
open Go.ChangeShapes Go.WideShapes Go.ChangeAt Go.RowKit Go.Maps Go.WideMaps Go.WideElems
set_option linter.unusedVariables false
set_option linter.unusedSimpArgs false
/-! the first variable of a form on its way -/
theorem isVar_any (w : World) (x : Int) : Calls Try.prog 45 #[.int .i64 x] w fun e w' => e = .returned (.bool (decide (0 ≤ x))) ∧ w' = w := by
  go_enter Try.func45, Try.ntmps45
  go_wp2
  go_ret
  refine ⟨?_, rfl⟩
  try rfl
theorem IV_snoc (T : List Int) (x : Int) : IV (T ++ [x]) = IV T ++ [.int .i64 x] := by simp [IV]
theorem own_pop {w : World} {base : Nat} {e : TypeId} {g cap n : Nat} {x : Value} {xs : List Value} (h : w.ownsRow base e 1 (.slice (some ⟨g, 0, none⟩) (n + 1) cap) (n + 1) (xs ++ [x])) (hl : xs.length = n) : w.ownsRow base e 1 (.slice (some ⟨g, 0, none⟩) n cap) n xs := by
  obtain ⟨h1, h | ⟨g', cap', cur, hv, hB, hh, hc, hm, hr⟩⟩ := h
  · cases h.1
  · cases hv
    refine ⟨by omega, .inr ⟨g, cap, cur, rfl, hB, hh, by omega, hm, hr.1, ?_⟩⟩
    have h3 : (cur.toList.take ((n + 1) * 1)).take (n * 1) = (xs ++ [x]).take (n * 1) := by rw [hr.2]
    rw [List.take_take, Nat.min_eq_left (by omega)] at h3
    rw [h3, Nat.mul_one, ← hl]
    simp
def lenAt (w : World) (b : Nat) : Nat := match w.cell? ⟨b, 1, none⟩ with
  | some (.slice _ n _) => n
  | _ => 0
theorem own_len {w : World} {base n : Nat} {e : TypeId} {v : Value} {xs : List Value} (h : w.ownsRow base e 1 v n xs) : ∃ ao cap, v = .slice ao n cap := by
  rcases h.2 with ⟨rfl, rfl⟩ | ⟨g, cap, cur, rfl, _⟩
  · exact ⟨_, _, rfl⟩
  · exact ⟨_, _, rfl⟩
theorem own_cap {w : World} {base n g cap : Nat} {e : TypeId} {xs : List Value} (h : w.ownsRow base e 1 (.slice (some ⟨g, 0, none⟩) n cap) n xs) : n ≤ cap ∧ cap ≤ maxLen := by
  rcases h.2 with ⟨h0, _⟩ | ⟨g', cap', cur, h0, _, _, h1, h2, _⟩
  · cases h0
  · cases h0; exact ⟨h1, h2⟩
theorem lenAt_of {B : Nat} {w : World} {b : Nat} {D T : List Int} (h : Parts B w b D T) : lenAt w b = T.length := by
  obtain ⟨_, vd, vt, hb, hd, ht, _⟩ := h
  obtain ⟨ao, cap, rfl⟩ := own_len ht
  unfold lenAt
  rw [hb.cell 1]
  rfl
/-- a symbol that is done -/
theorem done_step {B b : Nat} {W w4 : World} {vd : Value} {D T : List Int} {m n g g4 cap cap4 nq nr : Nat} {x : Value} {ys : List Value} {tmp : Obj} (hn : B ≤ W.heap.size) (hB1 : B ≤ b)
    (hb : Blk W b 73 #[vd, .slice (some ⟨g, 0, none⟩) (n + 1) cap]) (hd : W.ownsRow B 3 1 vd D.length (IV D)) (ht : W.ownsRow B 3 1 (.slice (some ⟨g, 0, none⟩) (n + 1) cap) (n + 1) (IV T ++ [x])) (hl : T.length = n) (hne : vd.ownBlock = none ∨ vd.ownBlock ≠ (Value.slice (some ⟨g, 0, none⟩) (n + 1) cap).ownBlock)
    (h1 : w4.ownsRow B 3 1 (.slice (some ⟨g4, 0, none⟩) m cap4) m ys) (h2 : ((W.drewN nq).alloc tmp).grownBy w4 vd.ownBlock) (h3 : vd.ownBlock = some g4 ∨ g4 = W.heap.size + 1) :
    Blk w4 b 73 #[vd, .slice (some ⟨g, 0, none⟩) (n + 1) cap] ∧ Blk (w4.setCell ⟨b, 0, none⟩ (.slice (some ⟨g4, 0, none⟩) m cap4)) b 73 #[.slice (some ⟨g4, 0, none⟩) m cap4, .slice (some ⟨g, 0, none⟩) (n + 1) cap] ∧
    ∀ w6, w6 = ((w4.setCell ⟨b, 0, none⟩ (.slice (some ⟨g4, 0, none⟩) m cap4)).drewN nr).setCell ⟨b, 1, none⟩ (.slice (some ⟨g, 0, none⟩) n cap) →
      Blk w6 b 73 #[.slice (some ⟨g4, 0, none⟩) m cap4, .slice (some ⟨g, 0, none⟩) n cap] ∧ w6.ownsRow B 3 1 (.slice (some ⟨g4, 0, none⟩) m cap4) m ys ∧ w6.ownsRow B 3 1 (.slice (some ⟨g, 0, none⟩) n cap) n (IV T) ∧ some g4 ≠ some g ∧ Below B W w6 := by
  have hb4 : Blk w4 b 73 #[vd, .slice (some ⟨g, 0, none⟩) (n + 1) cap] := (Blk.alloc (w := W.drewN nq) hb tmp).grown h2 (hb.not_row (by decide) hd)
  have ht' : (W.drewN nq).ownsRow B 3 1 (.slice (some ⟨g, 0, none⟩) (n + 1) cap) (n + 1) (IV T ++ [x]) := ht
  have ht4 : w4.ownsRow B 3 1 (.slice (some ⟨g, 0, none⟩) (n + 1) cap) (n + 1) (IV T ++ [x]) := own_grown (ht'.alloc tmp) h2 (by
    rcases hne with h | h
    · exact .inr (by rw [h]; intro e; cases e)
    · exact .inr h.symm)
  have hgs := grown_set w4 ⟨b, 0, none⟩ (.slice (some ⟨g4, 0, none⟩) m cap4)
  have hb5 := hb4.set_ 0 (.slice (some ⟨g4, 0, none⟩) m cap4)
  have hr5 := own_grown h1 hgs (.inr (hb4.not_row (by decide) h1).symm)
  have ht5 := own_grown ht4 hgs (.inr (hb4.not_row (by decide) ht4).symm)
  refine ⟨hb4, hb5, ?_⟩
  rintro w6 rfl
  have hb5' : Blk ((w4.setCell ⟨b, 0, none⟩ (.slice (some ⟨g4, 0, none⟩) m cap4)).drewN nr) b 73 #[.slice (some ⟨g4, 0, none⟩) m cap4, .slice (some ⟨g, 0, none⟩) (n + 1) cap] := hb5
  have hg6 := grown_set ((w4.setCell ⟨b, 0, none⟩ (.slice (some ⟨g4, 0, none⟩) m cap4)).drewN nr) ⟨b, 1, none⟩ (.slice (some ⟨g, 0, none⟩) n cap)
  have hr5' : ((w4.setCell ⟨b, 0, none⟩ (.slice (some ⟨g4, 0, none⟩) m cap4)).drewN nr).ownsRow B 3 1 (.slice (some ⟨g4, 0, none⟩) m cap4) m ys := hr5
  have ht5' : ((w4.setCell ⟨b, 0, none⟩ (.slice (some ⟨g4, 0, none⟩) m cap4)).drewN nr).ownsRow B 3 1 (.slice (some ⟨g, 0, none⟩) n cap) n (IV T) := own_pop ht5 (by simp [IV, hl])
  refine ⟨hb5'.set_ 1 _, own_grown hr5' hg6 (.inr (hb5'.not_row (by decide) hr5').symm), own_grown ht5' hg6 (.inr (hb5'.not_row (by decide) ht5').symm), ?_, ?_⟩
  · rcases h3 with h3 | h3
    · rcases hne with h | h
      · rw [h] at h3; cases h3
      · rw [← h3]; exact h
    · intro e
      have := (ht.lt g rfl).2
      have := Option.some.inj e
      omega
  · exact (below_drewN ((((below_drewN (Below.refl B W) nq).alloc hn tmp).grown h2 (by rw [World.size_alloc]; exact Nat.le_succ_of_le hn) fun j ej => (hd.lt j ej).1).setCell (p := ⟨b, 0, none⟩) hB1 _) nr).setCell (p := ⟨b, 1, none⟩) hB1 _
def FirstR (B : Nat) (w0 w' : World) (b : Nat) (D T : List Int) (D' T' : List Int) : Prop := D' ++ T'.reverse = D ++ T.reverse ∧ (∀ x ∈ D', x < 0) ∧ Parts B w' b D' T' ∧ Below B w0 w'
set_option maxRecDepth 100000 in
set_option maxHeartbeats 2000000 in
theorem first_any (w : World) (B b : Nat) (D T : List Int) (hp : Parts B w b D T) (hneg : ∀ x ∈ D, x < 0) (hl : D.length + T.length ≤ 1000000) (hBw : B ≤ w.heap.size) :
    Calls Try.prog 51 #[.pointer (some ⟨b, 0, none⟩)] w fun e w' => ∃ D' T', FirstR B w w' b D T D' T' ∧ ((T' = [] ∧ e = .returned (.int .i64 (-1))) ∨ ∃ T0 v, T' = T0 ++ [v] ∧ 0 ≤ v ∧ e = .returned (.int .i64 v)) := by
  obtain ⟨i0, hi, hz0, hz1, hz2⟩ := info_parts info_int
  have HL := Lib.hid hl
  have HN := Lib.hid hneg
  clear hl hneg
  go_enter Try.func51, Try.ntmps51
  go_wp2
  go_loopw [] (fun wr => ∃ D' T', FirstR B w wr b D T D' T') (fun wr => lenAt wr b)
  case atStart => exact ⟨D, T, rfl, HN.out, hp, Below.refl _ _⟩
  case round =>
    obtain ⟨D1, T1, heq, hn1, hp1, hb1⟩ := hrel
    have HM := Lib.hid (lenAt_of hp1)
    have hle : D1.length + T1.length = D.length + T.length := by have := congrArg List.length heq; simpa using this
    have HLE := Lib.hid hle
    have HE := Lib.hid heq
    have HN1 := Lib.hid hn1
    clear hle heq hn1
    obtain ⟨hB, vd, vt, hb, hd, ht, hne⟩ := hp1
    have c0 := hb.cell 0
    have c1 := hb.cell 1
    have f0 := hb.frozen 0
    have f1 := hb.frozen 1
    have l1 := hb.lt
    simp only [List.getElem?_toArray, List.getElem?_cons_zero, List.getElem?_cons_succ] at c0 c1
    have hT : T1 = [] ∨ ∃ T0 v, T1 = T0 ++ [v] := by
      rcases List.eq_nil_or_concat T1 with e | ⟨T0, v, e⟩
      · exact .inl e
      · exact .inr ⟨T0, v, by rw [e, List.concat_eq_append]⟩
    rcases hT with rfl | ⟨T0, v, rfl⟩
    · obtain ⟨ao, cap, rfl⟩ := own_len ht
      go_wp2
      go_ret
      exact ⟨D1, [], ⟨HE.out, HN1.out, ⟨hB, vd, _, hb, hd, ht, hne⟩, hb1⟩, .inl ⟨rfl, rfl⟩⟩
    · have el : (T0 ++ [v]).length = T0.length + 1 := by simp
      rw [el, IV_snoc] at ht
      obtain ⟨g, cap, rfl⟩ := ownsRow_succ ht
      have hcv : wr.cell? ⟨g, T0.length, none⟩ = some (.int .i64 v) := by
        rw [ht.cellAt T0.length (by have := ht.1; omega), List.getElem?_append_right (by simp [IV])]
        simp [IV]
      have hpop := own_pop ht (by simp [IV])
      obtain ⟨hcp1, hcp2⟩ := own_cap ht
      have hcp3 : cap ≤ 9223372036854775807 := by unfold maxLen at hcp2; omega
      have hbd : T0.length + 1 ≤ 1000000 := by
        have h1 := HLE.out
        have h2 := HL.out
        rw [el] at h1
        omega
      clear el
      go_wp2
      go_quiet (fail)
      have hbd2 : D1.length + 1 ≤ 1000000 := by
        have h1 := HLE.out
        have h2 := HL.out
        simp at h1
        omega
      by_cases hv : 0 ≤ v
      · go_wp2_with (go_at_call 45; refine (isVar_any _ _).mono ?_; rintro e w1 ⟨rfl, rfl⟩)
        go_ret
        have ht' : wr.ownsRow B 3 1 (.slice (some ⟨g, 0, none⟩) (T0 ++ [v]).length cap) (T0 ++ [v]).length (IV (T0 ++ [v])) := by
          rw [IV_snoc, show (T0 ++ [v]).length = T0.length + 1 by simp]
          exact ht
        have hp1 : Parts B (wr.drewN nq) b D1 (T0 ++ [v]) := by
          rw [show (T0 ++ [v]).length = T0.length + 1 by simp] at ht'
          exact ⟨hB, vd, _, hb, hd, by rw [show (T0 ++ [v]).length = T0.length + 1 by simp]; exact ht', hne⟩
        exact ⟨D1, T0 ++ [v], ⟨HE.out, HN1.out, hp1, below_drewN hb1 _⟩, .inr ⟨T0, v, rfl, hv, rfl⟩⟩
      · have hBr : B ≤ wr.heap.size := by have := hb1.size; omega
        go_wp2_with (first
          | (go_at_call 45; refine (isVar_any _ _).mono ?_; rintro e w1 ⟨rfl, rfl⟩)
          | (at_builtin; go_must (refine wpList_append_lies _ rfl _ _ 26 rfl B 3 i0 (.int .i64 0) 1 8 Try.underlying26 hi hz0 hz1 hz2 rfl (by decide) vd D1.length (IV D1) rfl (World.ownsRow.alloc (w := wr.drewN nq) hd _) ⟨wr.heap.size, 0, none⟩ 1 1 (IV [v]) rfl rfl (cell_one_new _ _ _) (by simp [IV, Value.oneCell']) (by decide) (by unfold maxLen; omega) (by omega) (by rw [World.size_alloc]; exact Nat.le_succ_of_le hBr) (wr.heap.size + 1) (World.size_alloc _ _) ?_); intro g4 cap4 w2 hown' hgrow hat4 hlt4; obtain ⟨k1, k2, k3⟩ := done_step (nr := 1) hBr hB hb hd ht rfl hne hown' hgrow hat4; have y0 := k1.cell 0; have z0 := k1.frozen 0; have y1 := k2.cell 1; have z1 := k2.frozen 1; simp only [List.getElem?_toArray, List.getElem?_cons_zero, List.getElem?_cons_succ] at y0; simp only [List.getElem?_toArray, List.getElem?_cons_zero, List.getElem?_cons_succ] at y1))
        go_region
        go_wp2
        obtain ⟨m1, m2, m3, m4, m5⟩ := k3 (((w2.setCell ⟨b, 0, none⟩ (.slice (some ⟨g4, 0, none⟩) (D1.length + 1) cap4)).setCell ⟨b, 1, none⟩ (.slice (some ⟨g, 0, none⟩) T0.length cap)).drew) rfl
        have hP : Parts B (((w2.setCell ⟨b, 0, none⟩ (.slice (some ⟨g4, 0, none⟩) (D1.length + 1) cap4)).setCell ⟨b, 1, none⟩ (.slice (some ⟨g, 0, none⟩) T0.length cap)).drew) b (D1 ++ [v]) T0 := by
          refine ⟨hB, _, _, m1, ?_, m3, .inr m4⟩
          rw [IV_snoc, show (D1 ++ [v]).length = D1.length + 1 by simp]
          exact m2
        refine ⟨⟨D1 ++ [v], T0, ?_, ?_, hP, hb1.trans m5⟩, ?_⟩
        · rw [← HE.out]; simp
        · intro x hx
          rcases List.mem_append.1 hx with h | h
          · exact HN1.out x h
          · simp at h; subst h; omega
        · rw [HM.out, lenAt_of hP]; simp
end Go.Proofs.Ytljkobijoenabaa.dv
namespace Go.Proofs.Ytljkobijoenabaa.dv
open Go.ChangeShapes Go.WideShapes Go.ChangeAt Go.RowKit Go.Maps Go.WideMaps Go.WideElems
set_option linter.unusedVariables false
set_option linter.unusedSimpArgs false
/-! a step's symbols in the place of the variable; a form's beginning -/
theorem pop_step {B b : Nat} {W : World} {D T0 : List Int} {v : Int} (hp : Parts B W b D (T0 ++ [v])) : ∃ vd g cap, B ≤ b ∧ Blk W b 73 #[vd, .slice (some ⟨g, 0, none⟩) (T0.length + 1) cap] ∧ T0.length + 1 ≤ cap ∧ cap ≤ maxLen ∧
    ∀ nr, Parts B ((W.setCell ⟨b, 1, none⟩ (.slice (some ⟨g, 0, none⟩) T0.length cap)).drewN nr) b D T0 ∧ Below B W ((W.setCell ⟨b, 1, none⟩ (.slice (some ⟨g, 0, none⟩) T0.length cap)).drewN nr) := by
  obtain ⟨hB, vd, vt, hb, hd, ht, hne⟩ := hp
  rw [show (T0 ++ [v]).length = T0.length + 1 by simp, IV_snoc] at ht
  obtain ⟨g, cap, rfl⟩ := ownsRow_succ ht
  obtain ⟨h1, h2⟩ := own_cap ht
  have hpop := own_pop ht (by simp [IV])
  have hgs := grown_set W ⟨b, 1, none⟩ (.slice (some ⟨g, 0, none⟩) T0.length cap)
  have q1 := own_grown hd hgs (.inr (hb.not_row (by decide) hd).symm)
  have q2 := own_grown hpop hgs (.inr (hb.not_row (by decide) hpop).symm)
  refine ⟨vd, g, cap, hB, hb, h1, h2, fun nr => ⟨⟨hB, vd, _, hb.set_ 1 _, q1, q2, hne⟩, ?_⟩⟩
  exact below_drewN ((Below.refl B W).setCell (p := ⟨b, 1, none⟩) hB _) nr
set_option maxRecDepth 100000 in
set_option maxHeartbeats 2000000 in
theorem replace_any (w : World) (B b cap : Nat) (ao : Option Addr) (D T0 s : List Int) (v : Int) (hp : Parts B w b D (T0 ++ [v])) (hs : RowUnder B w ao s) (hl1 : s.length ≤ 100000) (hl2 : T0.length + s.length ≤ 1000000) (hBw : B ≤ w.heap.size) :
    Calls Try.prog 52 #[.pointer (some ⟨b, 0, none⟩), .slice ao s.length cap] w fun e w' => (∃ v, e = .returned v) ∧ Parts B w' b D (T0 ++ s.reverse) ∧ Below B w w' := by
  obtain ⟨vd, g, cp, hB, hb, h1, h2, h3⟩ := pop_step hp
  have H3 := Lib.hid (h3 1)
  have h4 : cp ≤ 9223372036854775807 := by unfold maxLen at h2; omega
  have c1 := hb.cell 1
  have f1 := hb.frozen 1
  simp only [List.getElem?_toArray, List.getElem?_cons_zero, List.getElem?_cons_succ] at c1
  clear h3 hp
  go_enter Try.func52, Try.ntmps52
  go_wp2
  go_region
  have hpx := H3.out.1
  have hbx := H3.out.2
  have hput := put_any _ B b cap ao D T0 s hpx (fun j hj => by
    obtain ⟨a, e, hab, hca⟩ := hs j hj
    exact ⟨a, e, hab, (hbx.cell (p := a.add j) (by rw [add_block]; exact hab)).trans hca⟩) hl1 hl2 (by have := hbx.size; omega)
  go_wp2_with (go_at_call 72; refine hput.mono ?_; rintro e w3 ⟨⟨v3, rfl⟩, hp3, hb3⟩)
  go_end0
  exact ⟨⟨_, rfl⟩, hp3, hbx.trans hb3⟩
theorem own_weak {w : World} {base base' size n : Nat} {e : TypeId} {v : Value} {xs : List Value} (h : w.ownsRow base e size v n xs) (hb : base' ≤ base) : w.ownsRow base' e size v n xs := by
  obtain ⟨h1, h2 | ⟨g, cap, cur, hv, hB, r⟩⟩ := h
  · exact ⟨h1, .inl h2⟩
  · exact ⟨h1, .inr ⟨g, cap, cur, hv, Nat.le_trans hb hB, r⟩⟩
set_option maxRecDepth 100000 in
set_option maxHeartbeats 2000000 in
theorem begin_any (w : World) (B cap : Nat) (ao : Option Addr) (s : List Int) (hs : RowUnder B w ao s) (hl1 : s.length ≤ 100000) (hBw : B ≤ w.heap.size) :
    Calls Try.prog 50 #[.slice ao s.length cap] w fun e w' => ∃ vd vt, e = .returned (.agg #[vd, vt]) ∧ w'.ownsRow B 3 1 vd 0 (IV []) ∧ w'.ownsRow B 3 1 vt s.length (IV s.reverse) ∧ (vd.ownBlock = none ∨ vd.ownBlock ≠ vt.ownBlock) ∧ Below B w w' := by
  have b0 := Blk.new w 73 #[.slice none 0 0, .slice none 0 0]
  have b1 := Blk.new (w.alloc (.cells #[.slice none 0 0, .slice none 0 0] 73)) 73 #[.slice none 0 0, .slice none 0 0]
  rw [World.size_alloc] at b1
  have hb0 : Below w.heap.size w ((w.alloc (.cells #[.slice none 0 0, .slice none 0 0] 73)).alloc (.cells #[.slice none 0 0, .slice none 0 0] 73)) := ((Below.refl _ w).alloc (Nat.le_refl _) _).alloc (by simp) _
  have b0' := b0.alloc (.cells #[.slice none 0 0, .slice none 0 0] 73)
  have hp0 : Parts (w.heap.size + 1) ((w.alloc (.cells #[.slice none 0 0, .slice none 0 0] 73)).alloc (.cells #[.slice none 0 0, .slice none 0 0] 73)) (w.heap.size + 1) [] [] := ⟨by omega, _, _, b1, World.ownsRow_nil _ _ _ _, World.ownsRow_nil _ _ _ _, .inl rfl⟩
  have hput := put_any _ (w.heap.size + 1) (w.heap.size + 1) cap ao [] [] s hp0 (fun j hj => by
    obtain ⟨a, e, hab, hca⟩ := hs j hj
    exact ⟨a, e, by omega, (hb0.cell (p := a.add j) (by rw [add_block]; omega)).trans hca⟩) hl1 (by simp; omega) (by simp)
  go_enter Try.func50, Try.ntmps50
  go_wp2_with (go_at_call 72; refine hput.mono ?_; rintro e w3 ⟨⟨v3, rfl⟩, ⟨hB3, vd, vt, hb3, hd3, ht3, hne3⟩, hbl3⟩; obtain ⟨ad, cd, rfl⟩ := own_len hd3; obtain ⟨at_, ct, rfl⟩ := own_len ht3; have c0 := hb3.cell 0; have c1 := hb3.cell 1; simp only [List.getElem?_toArray, List.getElem?_cons_zero, List.getElem?_cons_succ] at c0; simp only [List.getElem?_toArray, List.getElem?_cons_zero, List.getElem?_cons_succ] at c1; have b3 := b0'.below hbl3 (Nat.lt_succ_self _); have d0 := b3.cell 0; have d1 := b3.cell 1; have z0 := b3.frozen 0; have z1 := b3.frozen 1; simp only [List.getElem?_toArray, List.getElem?_cons_zero, List.getElem?_cons_succ] at d0; simp only [List.getElem?_toArray, List.getElem?_cons_zero, List.getElem?_cons_succ] at d1)
  have b4 := (b3.set_ 0 (.slice ad 0 cd)).set_ 1 (.slice at_ s.length ct)
  have e0 := b4.cell 0
  have e1 := b4.cell 1
  simp only [List.setIfInBounds_toArray, List.set_cons_zero, List.set_cons_succ, List.getElem?_toArray, List.getElem?_cons_zero, List.getElem?_cons_succ] at e0
  simp only [List.setIfInBounds_toArray, List.set_cons_zero, List.set_cons_succ, List.getElem?_toArray, List.getElem?_cons_zero, List.getElem?_cons_succ] at e1
  have hlt : ∀ (v : Value) n xs, w3.ownsRow (w.heap.size + 1) 3 1 v n xs → ((w3.setCell ⟨w.heap.size, 0, none⟩ (.slice ad 0 cd)).setCell ⟨w.heap.size, 1, none⟩ (.slice at_ s.length ct)).ownsRow B 3 1 v n xs := fun v n xs h => by
    have hap : v.ownBlock = none ∨ v.ownBlock ≠ some w.heap.size := by
      by_cases hv : v.ownBlock = some w.heap.size
      · have := (h.lt _ hv).1; omega
      · exact .inr hv
    exact own_weak (own_grown (own_grown h (grown_set w3 ⟨w.heap.size, 0, none⟩ _) hap) (grown_set _ ⟨w.heap.size, 1, none⟩ _) hap) (by omega)
  refine bodyPost_ret (v := .agg #[.slice ad 0 cd, .slice at_ s.length ct]) (by simp [results, Try.results50, go_sem, e0, e1]) rfl ?_
  refine ⟨_, _, rfl, hlt _ _ _ hd3, ?_, by simpa using hne3, ?_⟩
  · have := hlt _ _ _ ht3
    simpa using this
  · exact (((hb0.mono hBw).trans (hbl3.mono (by omega))).setCell (p := ⟨w.heap.size, 0, none⟩) hBw _).setCell (p := ⟨w.heap.size, 1, none⟩) hBw _
end Go.Proofs.Ytljkobijoenabaa.dv
namespace Go.Proofs
section
open Go.Shelf
def Try.lays112_ren : Go.Shelf.Ren := ⟨fun | 112 => 73 | n => n, fun | 28 => 26 | 3 => 3 | 4 => 4 | 0 => 0 | n => n, fun | n => n⟩
theorem Try.lays112 : Go.Proofs.Lays.n112 Try.prog Try.lays112_ren := {
  mixed := by kernel_rfl
  f112 := Try.func73.trans (congrArg some (by kernel_rfl))
  t0 := Try.underlying0
  a0 := Try.isAgg0
  z0 := Try.sizeOf0
  v0 := Try.zeroValue0
  t3 := Try.underlying3
  a3 := Try.isAgg3
  z3 := Try.sizeOf3
  v3 := Try.zeroValue3
  t4 := Try.underlying4
  a4 := Try.isAgg4
  z4 := Try.sizeOf4
  v4 := Try.zeroValue4
  t28 := Try.underlying26
  a28 := Try.isAgg26
  z28 := Try.sizeOf26
  v28 := Try.zeroValue26 }
end
section
open Go.Shelf
def Try.grow_ren : Go.Shelf.Ren := ⟨fun | 4 => 71 | n => n, fun | 22 => 26 | 25 => 3 | 3 => 3 | 4 => 4 | 9 => 9 | 20 => 20 | 0 => 0 | n => n, fun | n => n⟩
theorem Try.grow : Go.Proofs.Lays8.n4 Try.prog Try.grow_ren := {
  mixed := by kernel_rfl
  f4 := ⟨Try.f71.name, by decide, Try.func71.trans (congrArg some (by kernel_rfl))⟩
  t0 := Try.underlying0
  a0 := Try.isAgg0
  z0 := Try.sizeOf0
  v0 := Try.zeroValue0
  t3 := Try.underlying3
  a3 := Try.isAgg3
  z3 := Try.sizeOf3
  v3 := Try.zeroValue3
  t4 := Try.underlying4
  a4 := Try.isAgg4
  z4 := Try.sizeOf4
  v4 := Try.zeroValue4
  t9 := Try.underlying9
  a9 := Try.isAgg9
  z9 := Try.sizeOf9
  v9 := Try.zeroValue9
  t20 := Try.underlying20
  a20 := Try.isAgg20
  z20 := Try.sizeOf20
  v20 := Try.zeroValue20
  t22 := Try.underlying26
  a22 := Try.isAgg26
  z22 := Try.sizeOf26
  v22 := Try.zeroValue26 }
end
namespace Ytljkobijoenabaa.dv
open Go.ChangeShapes Go.WideShapes Go.ChangeAt Go.RowKit Go.Maps Go.WideMaps Go.WideElems Go.Shelf Go.Sort
set_option linter.unusedVariables false
set_option linter.unusedSimpArgs false
/-! rows, turned about, and put behind one another -/
theorem holds_int {w : World} {g : Nat} {cur : Array Value} {e : TypeId} {zs : List Int} (hb : w.heap[g]? = some (.cells cur e (0, 0))) (ht : cur.toList.take zs.length = IV zs) : Holds (Value.int .i64) w g 0 zs.toArray := by
  intro j hj
  have hj' : j < zs.length := by simpa using hj
  refine ⟨?_, by simp [World.frozen?, hb]⟩
  have h1 : (cur.toList.take zs.length)[j]? = (IV zs)[j]? := by rw [ht]
  rw [List.getElem?_take_of_lt hj'] at h1
  have h2 := Blk.cell (show Blk w g e cur from hb) j
  rw [Nat.zero_add, h2, ← Array.getElem?_toList, h1]
  simp [IV, hj']
theorem take_put (cur : Array Value) (ts : List Int) (h : ts.length ≤ cur.size) : (putCells (Value.int .i64) 0 ts.toArray cur).toList.take ts.length = IV ts := by
  apply List.ext_getElem?
  intro j
  by_cases hj : j < ts.length
  · rw [List.getElem?_take_of_lt hj, Array.getElem?_toList]
    have h2 : j < cur.size := by omega
    simp [putCells, IV, hj, h2]
  · rw [List.getElem?_eq_none (by simp; omega), List.getElem?_eq_none (by simp [IV]; omega)]
theorem grownBy_put {w : World} {g n : Nat} (d : Array Int) : w.grownBy (putRow (Value.int .i64) (Sort.ahead w n) g 0 d) (some g) := by
  refine ⟨rfl, rfl, rfl, by simp, fun k hk hne => ?_⟩
  have : g ≠ k := fun e => hne (by rw [e])
  simp [putRow, mapBlock, Sort.ahead, Array.getElem?_modify, this]
theorem reverse_own (w : World) (base n : Nat) (v : Value) (e : TypeId) (zs : List Int) (hn : zs.length = n) (hsz : n ≤ 1000000) (h : w.ownsRow base e 1 v n (IV zs)) :
    Calls Try.prog 73 #[v] w fun r w' => r = .returned (.tuple #[]) ∧ w'.ownsRow base e 1 v n (IV zs.reverse) ∧ w.grownBy w' v.ownBlock := by
  subst hn
  rcases h.2 with ⟨rfl, h0⟩ | ⟨g, cap, cur, rfl, hbase, hb, h1, h2, h3, h4⟩
  · have hz : zs = [] := List.length_eq_zero_iff.1 h0
    subst hz
    refine (Any.slices_Reverse_int_empty Try.lays112 none 0 w).mono ?_
    rintro r w' ⟨rfl, rfl⟩
    exact ⟨rfl, h, World.grownBy.refl _ _⟩
  · refine (Any.slices_Reverse_int Try.lays112 g 0 cap zs w (holds_int hb (by simpa using h4)) (by omega)).mono ?_
    rintro r w' ⟨rfl, m, rfl⟩
    have hk : (putRow (Value.int .i64) (Sort.ahead w m) g 0 zs.reverse.toArray).heap[g]? = some (.cells (putCells (Value.int .i64) 0 zs.reverse.toArray cur) e (0, 0)) := by
      simp [putRow, mapBlock, Sort.ahead, Array.getElem?_modify, hb, onCells]
    refine ⟨rfl, ⟨by simp [IV], .inr ⟨g, cap, _, rfl, hbase, hk, h1, h2, by simp [putCells, h3], ?_⟩⟩, grownBy_put _⟩
    have := take_put cur zs.reverse (by simp; omega)
    simpa using this
theorem grow_any (w : World) (n : Nat) (hn : n ≤ 1000000) : Calls Try.prog 71 #[.slice none 0 0, .int .i64 n] w fun e w' => ∃ v, e = .returned v ∧ w'.ownsRow w.heap.size 3 1 v 0 [] ∧ Below w.heap.size w w' := by
  obtain ⟨i0, hi, hz0, hz1, hz2⟩ := info_parts info_int
  by_cases h : n = 0
  · subst h
    refine (Any8.slices_Grow_room Try.grow none 0 0 0 w (Nat.le_refl _) (by omega) (by omega) (by omega)).mono ?_
    rintro e w' ⟨rfl, rfl⟩
    exact ⟨_, rfl, World.ownsRow_nil _ _ _ _, Below.refl _ _⟩
  · refine (Any8.slices_Grow_grow Try.grow i0 (.int .i64 0) hi hz0 (by omega) none 0 0 n [] w (Nat.le_refl _) (by omega) (by rw [hz2]; omega) (by omega) (by simp) (fun _ => rfl) (fun a h => by cases h)).mono ?_
    rintro e w' ⟨rfl, rfl⟩
    refine ⟨_, rfl, ⟨by simp, .inr ⟨w.heap.size, _, _, rfl, Nat.le_refl _, Blk.new (w.drew) _ _, Nat.zero_le _, grownCap_le_maxLen _ _ _ _ (by unfold maxLen; omega), ?_, by simp⟩⟩, ((Below.refl _ w).drew).alloc (Nat.le_refl _) _⟩
    have := grownCap_ge w (0 + n) 0 (Try.grow_ren.t 25)
    simp [size_zeroCells]
    have e1 : (Value.int IntKind.i64 0).cells.size = 1 := rfl
    simp only [Nat.zero_add] at this
    simp [Value.cells]
    omega
/-- a row that is put behind others -/
def SrcAt (w : World) (v : Value) (x : List Int) : Prop := ∃ ao cap, v = .slice ao x.length cap ∧ (ao = none → x.length = 0 ∧ cap = 0) ∧ ∀ ad, ao = some ad → ∀ j u, (IV x)[j]? = some u → ad.block < w.heap.size ∧ w.cell? (ad.add j) = some u
def RowsIn (w : World) (a : Addr) (vs : List Value) (L : List (List Int)) : Prop := vs.length = L.length ∧ a.block < w.heap.size ∧ ∀ i v, vs[i]? = some v → w.cell? (a.add i) = some v ∧ SrcAt w v (L.getD i [])
theorem SrcAt.below {w w' : World} {v : Value} {x : List Int} (h : SrcAt w v x) (hb : Below w.heap.size w w') : SrcAt w' v x := by
  obtain ⟨ao, cap, e, hn, hc⟩ := h
  refine ⟨ao, cap, e, hn, fun ad had j u hj => ?_⟩
  obtain ⟨h1, h2⟩ := hc ad had j u hj
  exact ⟨Nat.lt_of_lt_of_le h1 hb.size, (hb.cell (p := ad.add j) (by rw [add_block]; exact h1)).trans h2⟩
theorem RowsIn.below {w w' : World} {a : Addr} {vs : List Value} {L : List (List Int)} (h : RowsIn w a vs L) (hb : Below w.heap.size w w') : RowsIn w' a vs L :=
  ⟨h.1, Nat.lt_of_lt_of_le h.2.1 hb.size, fun i v hi => ⟨(hb.cell (p := a.add i) (by rw [add_block]; exact h.2.1)).trans (h.2.2 i v hi).1, (h.2.2 i v hi).2.below hb⟩⟩
theorem flat_take (L : List (List Int)) (k : Nat) (h : k < L.length) : (L.take (k + 1)).flatten = (L.take k).flatten ++ L.getD k [] := by
  rw [List.take_succ_eq_append_getElem h, List.flatten_append, List.getD_eq_getElem?_getD, List.getElem?_eq_getElem h]
  simp
theorem flat_le (L : List (List Int)) (k : Nat) : (L.take k).flatten.length ≤ L.flatten.length := by
  conv => rhs; rw [← List.take_append_drop k L, List.flatten_append, List.length_append]
  omega
set_option maxRecDepth 100000 in
set_option maxHeartbeats 400000 in
theorem concat_any (w : World) (a : Addr) (cap : Nat) (vs : List Value) (L : List (List Int)) (h : RowsIn w a vs L) (hl : L.flatten.length ≤ 1000000) (hk : L.length ≤ 1000) :
    Calls Try.prog 47 #[.slice (some a) L.length cap] w fun e w' => ∃ v, e = .returned v ∧ w'.ownsRow w.heap.size 3 1 v L.flatten.length (IV L.flatten) ∧ Below w.heap.size w w' := by
  obtain ⟨i0, hi, hz0, hz1, hz2⟩ := info_parts info_int
  have H := Lib.hid h
  have HL := Lib.hid hl
  clear h hl
  go_enter Try.func47, Try.ntmps47
  go_wp2
  go_loopw [3, 11] (fun z i wr => ∃ k : Nat, k ≤ L.length ∧ i = .int .i64 k ∧ z = .int .i64 ((L.take k).flatten.length : Nat) ∧ wr = w) (fun _ i _ => L.length - (intOf i).toNat)
  case atStart => exact ⟨0, Nat.zero_le _, rfl, by simp, rfl⟩
  case round =>
    obtain ⟨k, hkl, rfl, rfl, rfl⟩ := hrel
    by_cases hlt : k < L.length
    · obtain ⟨v, hv⟩ : ∃ v, vs[k]? = some v := ⟨_, List.getElem?_eq_getElem (by rw [H.out.1]; exact hlt)⟩
      obtain ⟨hc, ao, c, rfl, _⟩ := H.out.2.2 k v hv
      have e1 := flat_take L k hlt
      have e2 : (L.take (k + 1)).flatten.length = (L.take k).flatten.length + (L.getD k []).length := by rw [e1, List.length_append]
      have e3 := Nat.le_trans (flat_le L (k + 1)) HL.out
      have E2 := Lib.hid e2
      rw [e2] at e3
      clear e1 e2
      generalize (L.getD k []).length = m at *
      generalize hT : (L.take k).flatten.length = t at *
      go_wp2
      exact ⟨⟨k + 1, hlt, congrArg (Value.int .i64) (by omega), congrArg (Value.int .i64) (by rw [E2.out]; omega), trivial⟩, by simp only [intOf]; omega⟩
    · obtain rfl : k = L.length := by omega
      rw [List.take_length]
      have hl := HL.out
      generalize hN : L.flatten.length = N at *
      have HN := Lib.hid hN
      clear hN
      have hg := grow_any wr N hl
      go_wp2_with fail
      refine hg.mono ?_
      rintro e w1 ⟨v, rfl, ho1, hb1⟩
      obtain ⟨w0, rfl⟩ : ∃ w0 : World, w0 = wr := ⟨_, rfl⟩
      clear hg
      go_wp2
      go_loopw [6, 27] (fun z i wr => ∃ k : Nat, k ≤ L.length ∧ i = .int .i64 k ∧ wr.ownsRow w0.heap.size 3 1 z (L.take k).flatten.length (IV (L.take k).flatten) ∧ Below w0.heap.size w0 wr) (fun _ i _ => L.length - (intOf i).toNat)
      case atStart => exact ⟨0, Nat.zero_le _, rfl, by simpa [IV] using ho1, hb1⟩
      case round =>
        obtain ⟨k, hkl, rfl, hown, hbw⟩ := hrel
        by_cases hlt : k < L.length
        · obtain ⟨u, hu⟩ : ∃ u, vs[k]? = some u := ⟨_, List.getElem?_eq_getElem (by rw [H.out.1]; exact hlt)⟩
          obtain ⟨hc, ao, c, rfl, hnone, hsrc⟩ := (H.out.below hbw).2.2 k u hu
          have e1 := flat_take L k hlt
          have e2 : (L.take (k + 1)).flatten.length = (L.take k).flatten.length + (L.getD k []).length := by rw [e1, List.length_append]
          have e3 := Nat.le_trans (flat_le L (k + 1)) (Nat.le_of_eq HN.out)
          have E2 := Lib.hid e2
          have E1 := Lib.hid e1
          rw [e2] at e3
          clear e1 e2
          have hzw := hbw.size
          have HS := Lib.hid hsrc
          clear hsrc
          generalize L.getD k [] = x at *
          generalize (L.take k).flatten = y at *
          go_wp2_with (at_builtin; go_must (refine wpList_append_src rfl _ _ 26 rfl w0.heap.size 3 i0 (.int .i64 0) 1 8 Try.underlying26 hi hz0 hz1 hz2 rfl (by decide) _ _ _ rfl hown ao x.length c (IV x) rfl (by simp [IV]) hnone (fun ad had j u hj => (HS.out ad had j u hj).2) (by intro u hu; simp [IV] at hu; obtain ⟨q, _, rfl⟩ := hu; rfl) (by unfold maxLen; omega) (by omega) hzw ?_); intro v' w2 hown' hgrow)
          have hb2 : Below w0.heap.size w0 w2 := hbw.grown hgrow hzw (fun j hj => (hown.lt j hj).1)
          refine ⟨⟨k + 1, hlt, congrArg (Value.int .i64) (by omega), ?_, hb2⟩, by simp only [intOf]; omega⟩
          rw [E2.out, E1.out]
          simpa [IV] using hown'
        · obtain rfl : k = L.length := by omega
          rw [List.take_length] at hown
          go_wp2
          go_ret
          exact ⟨_, rfl, by rw [← HN.out]; exact hown, hbw⟩
end Ytljkobijoenabaa.dv
end Go.Proofs
namespace Go.Proofs.Ytljkobijoenabaa.dv
open Go.ChangeShapes Go.WideShapes Go.ChangeAt Go.RowKit Go.Maps Go.WideMaps Go.WideElems
set_option linter.unusedVariables false
set_option linter.unusedSimpArgs false
/-! the form of its parts -/
theorem own_zero {w : World} {base n cap : Nat} {e : TypeId} {xs : List Value} (h : w.ownsRow base e 1 (.slice none n cap) n xs) : n = 0 ∧ cap = 0 := by
  rcases h.2 with ⟨h0, rfl⟩ | ⟨g, cap, cur, h0, _⟩
  · cases h0; exact ⟨rfl, rfl⟩
  · cases h0
theorem src_own {w : World} {B n : Nat} {v : Value} {x : List Int} (h : w.ownsRow B 3 1 v n (IV x)) (hn : x.length = n) : SrcAt w v x := by
  subst hn
  rcases h.2 with ⟨rfl, h0⟩ | ⟨g, cap, cur, rfl, _⟩
  · exact ⟨none, 0, by rw [h0], fun _ => ⟨h0, rfl⟩, fun ad h => by cases h⟩
  · refine ⟨_, cap, rfl, fun h => (by cases h), fun ad had => ?_⟩
    cases had
    exact fun j u hj => ⟨own_lt h, own_cells' h j u hj⟩
theorem rows_two {w : World} {B : Nat} {v u : Value} {x y : List Int} {a : Nat} (hb : Blk w a 26 #[v, u]) (hv : SrcAt w v x) (hu : SrcAt w u y) : RowsIn w ⟨a, 0, none⟩ [v, u] [x, y] := by
  refine ⟨rfl, hb.lt, fun i z hi => ?_⟩
  match i, hi with
  | 0, hi =>
    simp at hi
    subst hi
    exact ⟨by simpa [Addr.add] using hb.cell 0, hv⟩
  | 1, hi =>
    simp at hi
    subst hi
    exact ⟨by simpa [Addr.add] using hb.cell 1, hu⟩
  | i + 2, hi => simp at hi
set_option maxRecDepth 100000 in
set_option maxHeartbeats 1000000 in
theorem form_any (w : World) (B b : Nat) (D T : List Int) (hp : Parts B w b D T) (hl : D.length + T.length ≤ 1000000) (hBw : B ≤ w.heap.size) :
    Calls Try.prog 53 #[.pointer (some ⟨b, 0, none⟩)] w fun e w' => ∃ v, e = .returned v ∧ w'.ownsRow B 3 1 v (D ++ T.reverse).length (IV (D ++ T.reverse)) ∧ Below B w w' := by
  obtain ⟨hB, vd, vt, hb, hd, ht, hne⟩ := hp
  have hrev := reverse_own w B T.length vt 3 T rfl (by omega) ht
  obtain ⟨ad, cd, rfl⟩ := own_len hd
  obtain ⟨at_, ct, rfl⟩ := own_len ht
  have c0 := hb.cell 0
  have c1 := hb.cell 1
  simp only [List.getElem?_toArray, List.getElem?_cons_zero, List.getElem?_cons_succ] at c0
  simp only [List.getElem?_toArray, List.getElem?_cons_zero, List.getElem?_cons_succ] at c1
  have HL := Lib.hid hl
  clear hl
  go_enter Try.func53, Try.ntmps53
  go_wp2_with fail
  refine hrev.mono ?_
  rintro e w1 ⟨rfl, ht1, hg1⟩
  have hb1 := hb.grown hg1 (hb.not_row (by decide) ht)
  have hd1 := own_grown hd hg1 hne
  have hbl1 : Below B w w1 := (Below.refl B w).grown hg1 hBw (fun k hk => (ht.lt k hk).1)
  have hz1 := hbl1.size
  have d0 := hb1.cell 0
  have d1 := hb1.cell 1
  simp only [List.getElem?_toArray, List.getElem?_cons_zero, List.getElem?_cons_succ] at d0
  simp only [List.getElem?_toArray, List.getElem?_cons_zero, List.getElem?_cons_succ] at d1
  have hbl2 : Below w1.heap.size w1 ((w1.drew).alloc (.cells #[.slice ad D.length cd, .slice at_ T.length ct] 26)) := ((Below.refl _ w1).drew).alloc (Nat.le_refl _) _
  have hcat := concat_any ((w1.drew).alloc (.cells #[.slice ad D.length cd, .slice at_ T.length ct] 26)) ⟨w1.heap.size, 0, none⟩ 2 [.slice ad D.length cd, .slice at_ T.length ct] [D, T.reverse] (rows_two (B := B) (Blk.new w1.drew _ _) ((src_own hd1 rfl).below hbl2) ((src_own ht1 (by simp)).below hbl2)) (by have := HL.out; simp; omega) (by simp)
  clear hrev hne hg1
  go_wp2
  go_region_law (first | (go_simp; go_at_call 47; refine hcat.mono ?_; rintro e w3 ⟨v, rfl, ho3, hb3⟩))
  all_goals
    go_wp2
    go_ret
    have ho4 : w3.ownsRow B 3 1 v (D ++ T.reverse).length (IV (D ++ T.reverse)) := by
      have := own_weak (base' := B) ho3 (by have := hbl2.size; omega)
      simpa using this
    exact ⟨v, rfl, ho4, (hbl1.trans (hbl2.mono (by omega))).trans (hb3.mono (by have := hbl2.size; omega))⟩
end Go.Proofs.Ytljkobijoenabaa.dv
namespace Go.Proofs.Ytljkobijoenabaa.dv
open Go.ChangeShapes Go.WideShapes Go.ChangeAt Go.RowKit Go.Maps Go.WideMaps Go.WideElems
set_option linter.unusedVariables false
set_option linter.unusedSimpArgs false
/-! grammars -/
structure Rl where
  left : Int
  right : List Int
  wt : Nat
/-- a rule in memory, at an address -/
def RlAt (B : Nat) (w : World) (a : Addr) (k : Nat) (r : Rl) : Prop := ∃ ao cap, w.cell? (a.add (k * 3)) = some (.int .i64 r.left) ∧ w.cell? (a.add (k * 3 + 1)) = some (.slice ao r.right.length cap) ∧ w.cell? (a.add (k * 3 + 2)) = some (.float .f64 r.wt) ∧
  r.right.length ≤ cap ∧ cap ≤ maxLen ∧ (ao = none → cap = 0) ∧ RowUnder B w ao r.right ∧ (∀ n ∈ r.right, In64 n) ∧ In64 r.left
def RulesAt (B : Nat) (w : World) (v : Value) (R : List Rl) : Prop := ∃ ao cap, v = .slice ao R.length cap ∧ R.length ≤ maxLen ∧ ∀ k (r : Rl), R[k]? = some r → ∃ a : Addr, ao = some a ∧ a.block < B ∧ RlAt B w a k r
/-- a grammar, but for its names -/
def GAt (B : Nat) (w : World) (g : Value) (tl vl : Nat) (R : List Rl) : Prop := ∃ ta tc va vc rv, g = .agg #[.slice ta tl tc, .slice va vl vc, rv] ∧ RulesAt B w rv R
def isRl (R : List Rl) (k : Int) : Bool := decide (0 ≤ k) && decide (k < R.length)
set_option maxHeartbeats 1000000 in
theorem isRule_any (w : World) (ta va ra : Option Addr) (tl tc vl vc n rc : Nat) (k : Int) (hn : n ≤ maxLen) : Calls Try.prog 55 #[.agg #[.slice ta tl tc, .slice va vl vc, .slice ra n rc], .int .i64 k] w fun e w' => e = .returned (.bool (decide (0 ≤ k) && decide (k < n))) ∧ Below w.heap.size w w' := by
  unfold maxLen at hn
  have b0 := Blk.new w 25 #[.slice ta tl tc, .slice va vl vc, .slice ra n rc]
  have c2 := b0.cell 2
  simp only [List.getElem?_toArray, List.getElem?_cons_zero, List.getElem?_cons_succ] at c2
  go_enter Try.func55, Try.ntmps55
  go_wp2
  · have h1 : 0 ≤ k := by assumption
    go_ret
    exact ⟨by simp [h1], (Below.refl _ w).alloc (Nat.le_refl _) _⟩
  · have h1 : k < 0 := by first | assumption | omega
    go_ret
    exact ⟨by simp [show ¬ 0 ≤ k by omega], (Below.refl _ w).alloc (Nat.le_refl _) _⟩
theorem isVar_yes (w : World) (x : Int) (h : 0 ≤ x) : Calls Try.prog 45 #[.int .i64 x] w fun e w' => e = .returned (.bool true) ∧ w' = w := by
  have := isVar_any w x
  rwa [decide_eq_true h] at this
theorem isVar_no (w : World) (x : Int) (h : ¬ 0 ≤ x) : Calls Try.prog 45 #[.int .i64 x] w fun e w' => e = .returned (.bool false) ∧ w' = w := by
  have := isVar_any w x
  rwa [decide_eq_false h] at this
theorem isRl_no {R : List Rl} {k : Int} (h : ¬ (0 ≤ k ∧ k < R.length)) : (decide (0 ≤ k) && decide (k < (R.length : Int))) = false := by
  simp only [Bool.and_eq_false_iff, decide_eq_false_iff_not]
  omega
def refW (R : List Rl) (v k : Int) : Int := if isRl R k then (if 0 ≤ v then (if (R.getD k.toNat ⟨0, [], 0⟩).left = v then 0 else 14) else 13) else 12
set_option maxHeartbeats 1000000 in
theorem refusal_any (w : World) (B : Nat) (ta va : Option Addr) (tl tc vl vc : Nat) (rv : Value) (R : List Rl) (v k : Int) (h : RulesAt B w rv R) (hB : B ≤ w.heap.size) : Calls Try.prog 46 #[.agg #[.slice ta tl tc, .slice va vl vc, rv], .int .i64 v, .int .i64 k] w fun e w' => e = .returned (.int .i64 (refW R v k)) ∧ Below w.heap.size w w' := by
  obtain ⟨ra, rc, rfl, hn, hr⟩ := h
  have hlen := hn
  unfold maxLen at hlen
  have HR := Lib.hid hr
  clear hr
  have b0 := Blk.new w 25 #[.slice ta tl tc, .slice va vl vc, .slice ra R.length rc]
  have c0 := b0.cell 0
  have c1 := b0.cell 1
  have c2 := b0.cell 2
  simp only [List.getElem?_toArray, List.getElem?_cons_zero, List.getElem?_cons_succ] at c0 c1 c2
  have hbl : Below w.heap.size w (w.alloc (.cells #[.slice ta tl tc, .slice va vl vc, .slice ra R.length rc] 25)) := (Below.refl _ w).alloc (Nat.le_refl _) _
  have his := isRule_any (w.alloc (.cells #[.slice ta tl tc, .slice va vl vc, .slice ra R.length rc] 25)) ta va ra tl tc vl vc R.length rc k hn
  by_cases h1 : 0 ≤ k ∧ k < R.length
  · obtain ⟨h1, h2⟩ := h1
    obtain ⟨kn, rfl⟩ : ∃ kn : Nat, k = kn := ⟨k.toNat, by omega⟩
    have hir : isRl R (kn : Int) = true := by simp [isRl]; omega
    rw [decide_eq_true h1, decide_eq_true h2] at his
    obtain ⟨r, hr⟩ : ∃ r, R[kn]? = some r := ⟨_, List.getElem?_eq_getElem (by omega)⟩
    have hgr : R.getD (kn : Int).toNat ⟨0, [], 0⟩ = r := by simp [List.getD_eq_getElem?_getD, hr]
    obtain ⟨a, rfl, hab, ao, cap, hl, _⟩ := HR.out kn r hr
    go_enter Try.func46, Try.ntmps46
    go_wp2_with fail
    refine his.mono ?_
    rintro e w1 ⟨rfl, hb1⟩
    have b1 := b0.below hb1 (by simp)
    have d2 := b1.cell 2
    simp only [List.getElem?_toArray, List.getElem?_cons_zero, List.getElem?_cons_succ] at d2
    have hbe : Below w.heap.size w w1 := hbl.trans (hb1.mono (by simp))
    have hl1 : w1.cell? (a.add (kn * 3)) = some (.int .i64 r.left) := ((hbe.mono hB).cell (p := a.add (kn * 3)) (by rw [add_block]; exact hab)).trans hl
    by_cases h3 : 0 ≤ v
    · by_cases h4 : r.left = v
      · subst h4
        go_wp2_with (go_at_call 45; refine (isVar_yes _ _ h3).mono ?_; rintro e w2 ⟨rfl, rfl⟩)
        all_goals
          go_ret
          exact ⟨by simp [refW, hir, h3, hr, List.getD_eq_getElem?_getD], hbe⟩
      · go_wp2_with (go_at_call 45; refine (isVar_yes _ _ h3).mono ?_; rintro e w2 ⟨rfl, rfl⟩)
        all_goals
          go_ret
          exact ⟨by simp [refW, hir, h3, hr, h4, List.getD_eq_getElem?_getD], hbe⟩
    · have hvn := isVar_no w1 v h3
      go_wp2_with fail
      refine hvn.mono ?_
      rintro e w2 ⟨rfl, rfl⟩
      go_wp2
      all_goals
        go_ret
        exact ⟨by simp [refW, hir, show ¬ (0 ≤ v) from by omega], hbe⟩
  · have hir : isRl R k = false := isRl_no h1
    rw [isRl_no h1] at his
    go_enter Try.func46, Try.ntmps46
    go_wp2_with fail
    refine his.mono ?_
    rintro e w1 ⟨rfl, hb1⟩
    have hbe : Below w.heap.size w w1 := hbl.trans (hb1.mono (by simp))
    go_wp2
    go_ret
    exact ⟨by simp [refW, hir], hbe⟩
end Go.Proofs.Ytljkobijoenabaa.dv

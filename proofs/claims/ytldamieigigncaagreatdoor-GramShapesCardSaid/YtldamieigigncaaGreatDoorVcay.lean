import Derived.Test.YtldamieigigncaaGreatDoorVcax
import Derived.BigQuiet
import Derived.Shelf.SlSorted.Search
namespace Go.Proofs
section
open Go.Shelf
def Tryz.search16_ren : Go.Shelf.Ren := ⟨fun | 16 => 40 | n => n, fun | 3 => 3 | 35 => 53 | 4 => 4 | 38 => 147 | n => n, fun | n => n⟩
theorem Tryz.search16 : Go.Proofs.SlLaysO.n16 Tryz.prog Tryz.search16_ren := {
  mixed := by kernel_rfl
  f16 := Tryz.func40.trans (congrArg some (by kernel_rfl))
  t3 := Tryz.underlying3
  a3 := Tryz.isAgg3
  z3 := Tryz.sizeOf3
  v3 := Tryz.zeroValue3
  t4 := Tryz.underlying4
  a4 := Tryz.isAgg4
  z4 := Tryz.sizeOf4
  v4 := Tryz.zeroValue4
  t35 := Tryz.underlying53
  a35 := Tryz.isAgg53
  z35 := Tryz.sizeOf53
  v35 := Tryz.zeroValue53
  t38 := Tryz.underlying147
  a38 := Tryz.isAgg147
  z38 := Tryz.sizeOf147
  v38 := Tryz.zeroValue147 }
end
namespace YtldamieigigncaaGreatDoor.lx
open Go.ChangeShapes Go.WideShapes Go.ChangeAt Go.RowKit Go.Shelf Go.Sort
set_option linter.unusedVariables false
set_option linter.unusedSimpArgs false
attribute [local go_sem] run_store_float
def lfR (rs : List Rl) (i : Nat) : Int := ((rs.getD i (0, [], 0)).1 : Int)
def fromR (rs : List Rl) (v : Int) : Nat := (List.range rs.length).countP fun i => !decide (v ≤ lfR rs i)
def toR (rs : List Rl) (v : Int) : Nat := (List.range rs.length).countP fun i => !decide (v < lfR rs i)
theorem lfR_at {rs : List Rl} {k : Nat} {r : Rl} (h : rs[k]? = some r) : lfR rs k = r.1 := by
  unfold lfR
  rw [List.getD_eq_getElem?_getD, h]
  rfl
theorem sorted_mono {rs : List Rl} (h : SortedL rs) : ∀ (d i : Nat), i + d < rs.length → lfR rs i ≤ lfR rs (i + d)
  | 0, i, _ => Int.le_refl _
  | d + 1, i, hl => by
    have h1 := sorted_mono h d i (by omega)
    obtain ⟨a, ha⟩ : ∃ a, rs[i + d]? = some a := ⟨_, List.getElem?_eq_getElem (by omega)⟩
    obtain ⟨b, hb⟩ : ∃ b, rs[i + d + 1]? = some b := ⟨_, List.getElem?_eq_getElem (by omega)⟩
    have h2 := h (i + d) a b ha hb
    have e1 := lfR_at ha
    have e2 := lfR_at hb
    show lfR rs i ≤ lfR rs (i + d + 1)
    omega
theorem sorted_le {rs : List Rl} (h : SortedL rs) {i j : Nat} (hij : i ≤ j) (hj : j < rs.length) : lfR rs i ≤ lfR rs j := by
  have := sorted_mono h (j - i) i (by omega)
  rwa [show i + (j - i) = j by omega] at this
theorem countP_same {p q : Nat → Bool} : ∀ {l : List Nat}, (∀ i ∈ l, p i = true → q i = true) → (l.countP p = l.countP q ↔ ∀ i ∈ l, q i = true → p i = true)
  | [], _ => ⟨fun _ i hi => (by cases hi), fun _ => rfl⟩
  | x :: l, h => by
    have ih := countP_same (p := p) (q := q) (l := l) (fun i hi => h i (List.mem_cons_of_mem _ hi))
    have hle : l.countP p ≤ l.countP q := List.countP_mono_left (fun i hi => h i (List.mem_cons_of_mem _ hi))
    have hx := h x List.mem_cons_self
    rw [List.countP_cons, List.countP_cons]
    cases hp : p x <;> cases hq : q x
    · simp only [Bool.false_eq_true, if_false, Nat.add_zero]
      rw [ih]
      exact ⟨fun h2 i hi => (List.mem_cons.1 hi).elim (fun e he => (by rw [e, hq] at he; cases he)) (h2 i), fun h2 i hi => h2 i (List.mem_cons_of_mem _ hi)⟩
    · simp only [Bool.false_eq_true, if_false, if_true, Nat.add_zero]
      refine ⟨fun h2 => by omega, fun h2 => ?_⟩
      have := h2 x List.mem_cons_self hq
      rw [hp] at this
      cases this
    · rw [hp, hq] at hx
      cases hx rfl
    · simp only [if_true]
      rw [show (l.countP p + 1 = l.countP q + 1 ↔ l.countP p = l.countP q) by omega, ih]
      exact ⟨fun h2 i hi => (List.mem_cons.1 hi).elim (fun e he => (by rw [e]; exact hp)) (h2 i), fun h2 i hi => h2 i (List.mem_cons_of_mem _ hi)⟩
theorem rules_same (rs : List Rl) (v : Int) : fromR rs v = toR rs v ↔ ∀ r ∈ rs, (r.1 : Int) ≠ v := by
  unfold fromR toR
  rw [countP_same (fun i _ h => by simp at h ⊢; omega)]
  constructor
  · intro h r hr e
    obtain ⟨k, hk, he⟩ := List.getElem_of_mem hr
    have h1 := lfR_at (List.getElem?_eq_getElem hk)
    rw [he] at h1
    have := h k (List.mem_range.2 hk) (by simp; omega)
    simp at this
    omega
  · intro h i hi hq
    have hk := List.mem_range.1 hi
    have h1 := lfR_at (List.getElem?_eq_getElem hk)
    have h2 := h _ (List.getElem_mem hk)
    simp at hq ⊢
    omega
theorem goes_rules1 : GoesG 41 := fun args w => enters_of Tryz.func41 (by kernel_rfl) rfl args w
theorem goes_rules2 : GoesG 42 := fun args w => enters_of Tryz.func42 (by kernel_rfl) rfl args w
set_option maxRecDepth 100000 in
theorem rules1_any (X : World) (p q g n rc i : Nat) (v lf : Int) (hp : X.cell? ⟨p, 2, none⟩ = some (.slice (some ⟨g, 0, none⟩) n rc)) (hq : X.cell? ⟨q, 0, none⟩ = some (.int .i64 v)) (hi : i < n) (hc : X.cell? ⟨g, i * 3, none⟩ = some (.int .i64 lf)) : Calls Tryz.prog 41 #[.int .i64 i, .pointer (some ⟨p, 0, none⟩), .pointer (some ⟨q, 0, none⟩)] X fun e X' => e = .returned (.bool (decide (v ≤ lf))) ∧ ∃ m, X' = X.drewN m := by
  have hlt : (i : Int) < (n : Int) := by omega
  go_enter Tryz.func41, Tryz.ntmps41
  go_wp2
  go_quiet (fail)
  go_wp2
  go_ret
  exact ⟨rfl, _, rfl⟩
set_option maxRecDepth 100000 in
theorem rules2_any (X : World) (p q g n rc i : Nat) (v lf : Int) (hp : X.cell? ⟨p, 2, none⟩ = some (.slice (some ⟨g, 0, none⟩) n rc)) (hq : X.cell? ⟨q, 0, none⟩ = some (.int .i64 v)) (hi : i < n) (hc : X.cell? ⟨g, i * 3, none⟩ = some (.int .i64 lf)) : Calls Tryz.prog 42 #[.int .i64 i, .pointer (some ⟨p, 0, none⟩), .pointer (some ⟨q, 0, none⟩)] X fun e X' => e = .returned (.bool (decide (v < lf))) ∧ ∃ m, X' = X.drewN m := by
  have hlt : (i : Int) < (n : Int) := by omega
  go_enter Tryz.func42, Tryz.ntmps42
  go_wp2
  go_quiet (fail)
  go_wp2
  go_ret
  exact ⟨rfl, _, rfl⟩
theorem search_any (w : World) (A : Nat → Prop) (p q : Nat) (tv vv : Value) (ro : Option Addr) (rc : Nat) (rs : List Rl) (v : Int) (fn : Nat) (f : Int → Bool) (hgo : GoesG fn) (hR : ListOf 3 ERul w A (.slice ro rs.length rc) rs) (hbp : Blk w p 26 #[tv, vv, .slice ro rs.length rc]) (hbq : Blk w q 3 #[.int .i64 v]) (hn : rs.length < 4611686018427387904)
    (hfn : ∀ (X : World) (g i : Nat) (lf : Int), X.cell? ⟨p, 2, none⟩ = some (.slice (some ⟨g, 0, none⟩) rs.length rc) → X.cell? ⟨q, 0, none⟩ = some (.int .i64 v) → i < rs.length → X.cell? ⟨g, i * 3, none⟩ = some (.int .i64 lf) → Calls Tryz.prog fn #[.int .i64 i, .pointer (some ⟨p, 0, none⟩), .pointer (some ⟨q, 0, none⟩)] X fun e X' => e = .returned (.bool (f lf)) ∧ ∃ m, X' = X.drewN m)
    (hm : ∀ a b, a ≤ b → b < rs.length → f (lfR rs a) = true → f (lfR rs b) = true) :
    Calls Tryz.prog 40 #[.int .i64 rs.length, .func (.func fn) #[] #[.pointer (some ⟨p, 0, none⟩), .pointer (some ⟨q, 0, none⟩)]] w fun e w' => e = .returned (.int .i64 ((List.range rs.length).countP (fun i => !f (lfR rs i)) : Nat)) ∧ Below w.heap.size w w' := by
  have h := Any.sort_Search Tryz.search16 fn #[.pointer (some ⟨p, 0, none⟩), .pointer (some ⟨q, 0, none⟩)] rs.length (fun i => f (lfR rs i)) w hgo hn (fun m os i hi => by
    have hX : Below w.heap.size w (grow (w.drewN m) os) := below_grown_sl _ _ _ _ (Nat.le_refl _)
    obtain ⟨r, hr⟩ : ∃ r, rs[i]? = some r := ⟨_, List.getElem?_eq_getElem hi⟩
    obtain ⟨g, cap', u, e, hg1, hc0, _⟩ := ERul.at hR hr
    injection e with e3 _ _
    subst e3
    rw [lfR_at hr]
    have c1 : (grow (w.drewN m) os).cell? ⟨p, 2, none⟩ = some (.slice (some ⟨g, 0, none⟩) rs.length rc) := (hX.cell (p := ⟨p, 2, none⟩) hbp.lt).trans ((hbp.cell 2).trans rfl)
    have c2 : (grow (w.drewN m) os).cell? ⟨q, 0, none⟩ = some (.int .i64 v) := (hX.cell (p := ⟨q, 0, none⟩) hbq.lt).trans ((hbq.cell 0).trans rfl)
    have c3 : (grow (w.drewN m) os).cell? ⟨g, i * 3, none⟩ = some (.int .i64 r.1) := (hX.cell (p := ⟨g, i * 3, none⟩) hg1).trans hc0
    refine (hfn _ g i r.1 c1 c2 hi c3).mono ?_
    rintro e X' ⟨rfl, m', rfl⟩
    exact ⟨rfl, m', #[], (grow_empty _).symm⟩) hm
  refine h.mono ?_
  rintro e w' ⟨rfl, q', os, rfl⟩
  exact ⟨rfl, below_grown_sl _ _ _ _ (Nat.le_refl _)⟩
set_option maxRecDepth 100000 in
set_option maxHeartbeats 1000000 in
theorem rules_any (w : World) (A : Nat → Prop) (tbo vo ro : Option Addr) (tn tc vn vc rc : Nat) (rs : List Rl) (v : Int) (hR : ListOf 3 ERul w A (.slice ro rs.length rc) rs) (hs : SortedL rs) (hn : rs.length < 4611686018427387904) :
    Calls Tryz.prog 13 #[.agg #[.slice tbo tn tc, .slice vo vn vc, .slice ro rs.length rc], .int .i64 v] w fun e w' => e = .returned (.tuple #[.int .i64 (fromR rs v), .int .i64 (toR rs v)]) ∧ Below w.heap.size w w' := by
  have b0 := (Blk.new w 26 #[.slice tbo tn tc, .slice vo vn vc, .slice ro rs.length rc]).alloc (.cells #[.int .i64 v] 3)
  have b1 := Blk.new (w.alloc (.cells #[.slice tbo tn tc, .slice vo vn vc, .slice ro rs.length rc] 26)) 3 #[.int .i64 v]
  rw [World.size_alloc] at b1
  have hbl : Below w.heap.size w ((w.alloc (.cells #[.slice tbo tn tc, .slice vo vn vc, .slice ro rs.length rc] 26)).alloc (.cells #[.int .i64 v] 3)) := ((Below.refl _ w).alloc (Nat.le_refl _) _).alloc (by rw [World.size_alloc]; omega) _
  have hR2 : ListOf 3 ERul ((w.alloc (.cells #[.slice tbo tn tc, .slice vo vn vc, .slice ro rs.length rc] 26)).alloc (.cells #[.int .i64 v] 3)) A (.slice ro rs.length rc) rs := hR.keep keepsRul (fun g hg hA => ⟨hA, hbl.block g hg⟩) hbl.size
  generalize hW2 : (w.alloc (.cells #[.slice tbo tn tc, .slice vo vn vc, .slice ro rs.length rc] 26)).alloc (.cells #[.int .i64 v] 3) = w2 at *
  have h1 := search_any w2 A w.heap.size (w.heap.size + 1) (.slice tbo tn tc) (.slice vo vn vc) ro rc rs v 41 (fun lf => decide (v ≤ lf)) goes_rules1 hR2 b0 b1 hn (fun X g i lf => rules1_any X _ _ g _ _ i v lf) (fun a b h1 h2 h3 => by have := sorted_le hs h1 h2; simp at h3 ⊢; omega)
  have h2 : ∀ w3, Below w2.heap.size w2 w3 → _ := fun w3 hb => search_any w3 A w.heap.size (w.heap.size + 1) (.slice tbo tn tc) (.slice vo vn vc) ro rc rs v 42 (fun lf => decide (v < lf)) goes_rules2 (hR2.keep keepsRul (fun g hg hA => ⟨hA, hb.block g hg⟩) hb.size) (b0.below hb b0.lt) (b1.below hb b1.lt) hn (fun X g i lf => rules2_any X _ _ g _ _ i v lf) (fun a b h1 h2 h3 => by have := sorted_le hs h1 h2; simp at h3 ⊢; omega)
  have H2 := Lib.hid h2
  have HBL := Lib.hid hbl
  have e2 := b0.cell 2
  have l0 := b0.lt
  simp only [List.getElem?_toArray, List.getElem?_cons_zero, List.getElem?_cons_succ] at e2
  have hf1 : ((List.range rs.length).countP fun i => !(fun lf => decide (v ≤ lf)) (lfR rs i)) = fromR rs v := rfl
  rw [hf1] at h1
  clear hR hR2 hs h2 hbl hf1
  have HB0 := Lib.hid b0
  clear b0 b1
  go_enter Tryz.func13, Tryz.ntmps13
  go_wp2_with fail
  refine h1.mono ?_
  rintro e w3 ⟨rfl, hb3⟩
  have h2 := H2.out w3 hb3
  have hf2 : ((List.range rs.length).countP fun i => !(fun lf => decide (v < lf)) (lfR rs i)) = toR rs v := rfl
  rw [hf2] at h2
  have d := HB0.out.below hb3 HB0.out.lt
  have d2 := d.cell 2
  have l2 := d.lt
  simp only [List.getElem?_toArray, List.getElem?_cons_zero, List.getElem?_cons_succ] at d2
  have HB3 := Lib.hid hb3
  clear hb3 hf2 e2 d h1 l0
  go_wp2_with fail
  refine h2.mono ?_
  rintro e w4 ⟨rfl, hb4⟩
  have HB4 := Lib.hid hb4
  clear hb4 h2
  go_wp2_with fail
  first | go_ret2 | go_ret
  exact ⟨rfl, HBL.out.trans ((HB3.out.trans (HB4.out.mono HB3.out.size)).mono HBL.out.size)⟩
end YtldamieigigncaaGreatDoor.lx
end Go.Proofs


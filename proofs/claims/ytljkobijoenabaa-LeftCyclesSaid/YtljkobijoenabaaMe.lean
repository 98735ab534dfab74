import Derived.Test.YtljkobijoenabaaMd
namespace Go.Proofs.Ytljkobijoenabaa.dv
open Go.ChangeShapes Go.WideShapes Go.ChangeAt Go.RowKit Go.Maps Go.WideMaps Go.WideElems
set_option linter.unusedVariables false
set_option linter.unusedSimpArgs false
/-! who may begin with whom: closing a relation (the loops' own order), and groups -/
def wsh (f : Nat → Nat → Bool) : Nat → Nat → Nat → Bool
  | 0 => f
  | k + 1 => fun v u => wsh f k v u || (wsh f k v k && wsh f k k u)
theorem wsh_le (f : Nat → Nat → Bool) {v u : Nat} (h : f v u = true) : ∀ k, wsh f k v u = true
  | 0 => h
  | k + 1 => by unfold wsh; rw [wsh_le f h k]; rfl
theorem wsh_trans (f : Nat → Nat → Bool) : ∀ k i v u, i < k → wsh f k v i = true → wsh f k i u = true → wsh f k v u = true
  | 0, i, v, u, h, _, _ => absurd h (Nat.not_lt_zero _)
  | k + 1, i, v, u, h, h1, h2 => by
    have ih := wsh_trans f k
    unfold wsh at h1 h2 ⊢
    simp only [Bool.or_eq_true, Bool.and_eq_true] at h1 h2 ⊢
    rcases Nat.lt_or_ge i k with hk | hk
    · rcases h1 with a | ⟨a, b⟩ <;> rcases h2 with c | ⟨c, d⟩
      · exact .inl (ih i v u hk a c)
      · exact .inr ⟨ih i v k hk a c, d⟩
      · exact .inr ⟨a, ih i k u hk b c⟩
      · exact .inr ⟨a, d⟩
    · obtain rfl : i = k := by omega
      right
      refine ⟨?_, ?_⟩
      · rcases h1 with a | ⟨a, _⟩ <;> exact a
      · rcases h2 with c | ⟨_, d⟩
        · exact c
        · exact d
theorem wsh_out (f : Nat → Nat → Bool) (n : Nat) (hf : ∀ v u, f v u = true → v < n ∧ u < n) : ∀ k v u, wsh f k v u = true → v < n ∧ u < n
  | 0, v, u, h => hf v u h
  | k + 1, v, u, h => by
    unfold wsh at h
    simp only [Bool.or_eq_true, Bool.and_eq_true] at h
    rcases h with a | ⟨a, b⟩
    · exact wsh_out f n hf k v u a
    · exact ⟨(wsh_out f n hf k _ _ a).1, (wsh_out f n hf k _ _ b).2⟩
/-! groups -/
def mtl (f : Nat → Nat → Bool) (v u : Nat) : Bool := f v u && f u v
theorem mtl_comm (f : Nat → Nat → Bool) (v u : Nat) : mtl f v u = mtl f u v := by unfold mtl; rw [Bool.and_comm]
def addG (f : Nat → Nat → Bool) (G : List (List Nat)) (v : Nat) : List (List Nat) :=
  if f v v then (match G.findIdx? (fun g => mtl f v (g.headD 0)) with
    | none => G ++ [[v]]
    | some i => G.set i (G.getD i [] ++ [v])) else G
def groupsP (f : Nat → Nat → Bool) : Nat → List (List Nat)
  | 0 => []
  | n + 1 => addG f (groupsP f n) n
/-- v is the least of its group -/
def ldB (f : Nat → Nat → Bool) (v : Nat) : Bool := f v v && (List.range v).all fun u => !mtl f v u
def grpD (f : Nat → Nat → Bool) (k : Nat) : List (List Nat) := ((List.range k).filter (ldB f)).map fun v => (List.range k).filter (mtl f v)
structure Trs (f : Nat → Nat → Bool) (n : Nat) : Prop where
  out : ∀ v u, f v u = true → v < n ∧ u < n
  trans : ∀ i v u, f v i = true → f i u = true → f v u = true
theorem trs_wsh (f : Nat → Nat → Bool) (n : Nat) (hf : ∀ v u, f v u = true → v < n ∧ u < n) : Trs (wsh f n) n :=
  ⟨wsh_out f n hf n, fun i v u h1 h2 => wsh_trans f n i v u (wsh_out f n hf n _ _ h1).2 h1 h2⟩
theorem mtl_self {f : Nat → Nat → Bool} {n v u : Nat} (ht : Trs f n) (h : mtl f v u = true) : f v v = true := by
  unfold mtl at h
  simp only [Bool.and_eq_true] at h
  exact ht.trans u v v h.1 h.2
theorem mtl_trans {f : Nat → Nat → Bool} {n v u x : Nat} (ht : Trs f n) (h : mtl f v u = true) (k : mtl f u x = true) : mtl f v x = true := by
  unfold mtl at *
  simp only [Bool.and_eq_true] at *
  exact ⟨ht.trans u v x h.1 k.1, ht.trans u x v k.2 h.2⟩
theorem ld_spec {f : Nat → Nat → Bool} {v : Nat} : ldB f v = true ↔ f v v = true ∧ ∀ u, u < v → mtl f v u = false := by
  unfold ldB
  simp only [Bool.and_eq_true, List.all_eq_true, List.mem_range, Bool.not_eq_true']
theorem filter_none {p : Nat → Bool} {v : Nat} (hl : ∀ u, u < v → p u = false) : (List.range v).filter p = [] := by
  rw [List.filter_eq_nil_iff]
  intro u hu
  rw [hl u (by simpa using hu)]
  exact Bool.false_ne_true
theorem filter_head {p : Nat → Bool} {v : Nat} (hp : p v = true) (hl : ∀ u, u < v → p u = false) : ∀ k, v < k → ((List.range k).filter p).headD 0 = v
  | 0, h => absurd h (Nat.not_lt_zero _)
  | k + 1, h => by
    rw [List.range_succ, List.filter_append]
    rcases Nat.lt_or_ge v k with h1 | h1
    · have ih := filter_head hp hl k h1
      cases hc : (List.range k).filter p with
      | nil =>
        have : v ∈ (List.range k).filter p := by simp [hp, h1]
        rw [hc] at this
        cases this
      | cons x t => rw [hc] at ih; exact ih
    · obtain rfl : v = k := by omega
      rw [filter_none hl]
      simp [hp]
theorem least_of {p : Nat → Bool} : ∀ k u, u ≤ k → p u = true → ∃ v, v ≤ u ∧ p v = true ∧ ∀ x, x < v → p x = false
  | 0, u, h, hp => ⟨u, Nat.le_refl _, hp, fun x hx => by omega⟩
  | k + 1, u, h, hp => by
    by_cases hx : ∃ x, x < u ∧ p x = true
    · obtain ⟨x, hx1, hx2⟩ := hx
      obtain ⟨v, h1, h2, h3⟩ := least_of k x (by omega) hx2
      exact ⟨v, by omega, h2, h3⟩
    · refine ⟨u, Nat.le_refl _, hp, fun x hx1 => ?_⟩
      cases hc : p x
      · rfl
      · exact absurd ⟨x, hx1, hc⟩ hx
theorem map_set {ls : List Nat} (hn : ls.Nodup) (L L' : Nat → List Nat) (q : List Nat → Bool) (v0 k j : Nat) (hq : ∀ v ∈ ls, q (L v) = true → v = v0) (h0 : ∀ v ∈ ls, v = v0 → L' v = L v ++ [k]) (h1 : ∀ v ∈ ls, v ≠ v0 → L' v = L v) (hj : (ls.map L).findIdx? q = some j) : ls.map L' = (ls.map L).set j ((ls.map L).getD j [] ++ [k]) := by
  rw [List.findIdx?_eq_some_iff_getElem] at hj
  obtain ⟨hlt, hqj, _⟩ := hj
  have hjl : j < ls.length := by simpa using hlt
  have ej : ls[j] = v0 := hq _ (List.getElem_mem _) (by simpa using hqj)
  apply List.ext_getElem (by simp)
  intro i g1 g2
  have hil : i < ls.length := by simpa using g1
  rw [List.getElem_set]
  by_cases e : j = i
  · subst e
    rw [if_pos rfl, List.getElem_map, h0 _ (List.getElem_mem _) ej, List.getD_eq_getElem?_getD, List.getElem?_eq_getElem hlt]
    simp
  · rw [if_neg e, List.getElem_map, List.getElem_map]
    refine h1 _ (List.getElem_mem _) (fun h => e ?_)
    have hp := List.pairwise_iff_getElem.1 hn
    have hE := ej.trans h.symm
    rcases Nat.lt_trichotomy j i with c | c | c
    · exact absurd hE (hp j i hjl hil c)
    · exact c
    · exact absurd hE.symm (hp i j hil hjl c)
theorem grp_succ (f : Nat → Nat → Bool) (n k : Nat) (ht : Trs f n) : grpD f (k + 1) = addG f (grpD f k) k := by
  have hsplit : ∀ v, (List.range (k + 1)).filter (mtl f v) = (List.range k).filter (mtl f v) ++ (if mtl f v k then [k] else []) := fun v => by
    rw [List.range_succ, List.filter_append]
    congr 1
    cases h : mtl f v k <;> simp [h]
  have hls : (List.range (k + 1)).filter (ldB f) = (List.range k).filter (ldB f) ++ (if ldB f k then [k] else []) := by
    rw [List.range_succ, List.filter_append]
    congr 1
    cases h : ldB f k <;> simp [h]
  have hhd : ∀ v ∈ (List.range k).filter (ldB f), ((List.range k).filter (mtl f v)).headD 0 = v := fun v hv => by
    simp only [List.mem_filter, List.mem_range] at hv
    obtain ⟨a, b⟩ := ld_spec.1 hv.2
    exact filter_head (by unfold mtl; rw [a]; rfl) b k hv.1
  have hnd : ((List.range k).filter (ldB f)).Nodup := List.Pairwise.filter _ List.nodup_range
  unfold grpD
  rw [hls, List.map_append]
  cases hkk : f k k
  · have hno : ∀ v, mtl f v k = false := fun v => by
      cases hm : mtl f v k
      · rfl
      · rw [mtl_comm] at hm
        rw [mtl_self ht hm] at hkk
        cases hkk
    have hl : ldB f k = false := by unfold ldB; rw [hkk]; rfl
    unfold addG
    rw [hl, hkk]
    simp only [Bool.false_eq_true, if_false, List.map_nil, List.append_nil]
    apply List.map_congr_left
    intro v _
    rw [hsplit, hno]
    simp
  · unfold addG
    rw [hkk]
    simp only [if_true]
    by_cases hx : ∃ u, u < k ∧ mtl f k u = true
    · obtain ⟨u, hu1, hu2⟩ := hx
      obtain ⟨v0, h1, h2, h3⟩ := least_of (p := mtl f k) k u (by omega) hu2
      have hl : ldB f k = false := by
        cases hc : ldB f k
        · rfl
        · rw [(ld_spec.1 hc).2 v0 (by omega)] at h2
          cases h2
      have h20 : mtl f v0 k = true := by rw [mtl_comm]; exact h2
      have hl0 : ldB f v0 = true := ld_spec.2 ⟨mtl_self ht h20, fun x hx => by
        cases hc : mtl f v0 x
        · rfl
        · have := mtl_trans ht h2 hc
          rw [h3 x hx] at this
          cases this⟩
      have hmem : v0 ∈ (List.range k).filter (ldB f) := by simp [hl0]; omega
      have huniq : ∀ v ∈ (List.range k).filter (ldB f), mtl f k v = true → v = v0 := fun v hv hm => by
        simp only [List.mem_filter, List.mem_range] at hv
        rcases Nat.lt_trichotomy v v0 with c | c | c
        · rw [h3 v c] at hm; cases hm
        · exact c
        · have := (ld_spec.1 hv.2).2 v0 c
          rw [mtl_trans ht (by rw [mtl_comm]; exact hm) h2] at this
          cases this
      rw [hl]
      simp only [Bool.false_eq_true, if_false, List.map_nil, List.append_nil]
      cases hj : (((List.range k).filter (ldB f)).map fun v => (List.range k).filter (mtl f v)).findIdx? (fun g => mtl f k (g.headD 0)) with
      | none =>
        rw [List.findIdx?_eq_none_iff] at hj
        have := hj _ (List.mem_map.2 ⟨v0, hmem, rfl⟩)
        rw [hhd v0 hmem, h2] at this
        cases this
      | some j =>
        refine map_set hnd _ _ (fun g => mtl f k (g.headD 0)) v0 k j (fun v hv hq => huniq v hv (by rwa [hhd v hv] at hq)) (fun v _ e => ?_) (fun v hv e => ?_) hj
        · rw [hsplit, e, h20]; rfl
        · rw [hsplit]
          cases hc : mtl f v k
          · simp
          · exact absurd (huniq v hv (by rw [mtl_comm]; exact hc)) e
    · have hno : ∀ u, u < k → mtl f k u = false := fun u hu => by
        cases hc : mtl f k u
        · rfl
        · exact absurd ⟨u, hu, hc⟩ hx
      have hl : ldB f k = true := ld_spec.2 ⟨hkk, hno⟩
      rw [hl]
      have hj : (((List.range k).filter (ldB f)).map fun v => (List.range k).filter (mtl f v)).findIdx? (fun g => mtl f k (g.headD 0)) = none := by
        rw [List.findIdx?_eq_none_iff]
        intro g hg
        obtain ⟨v, hv, rfl⟩ := List.mem_map.1 hg
        rw [hhd v hv]
        simp only [List.mem_filter, List.mem_range] at hv
        exact hno v hv.1
      rw [hj]
      simp only [if_true, List.map_cons, List.map_nil]
      congr 1
      · apply List.map_congr_left
        intro v hv
        simp only [List.mem_filter, List.mem_range] at hv
        rw [hsplit, mtl_comm, hno v hv.1]
        simp
      · rw [hsplit, filter_none hno]
        have : mtl f k k = true := by unfold mtl; rw [hkk]; rfl
        rw [this]
        rfl
theorem grp_eq (f : Nat → Nat → Bool) (n : Nat) (ht : Trs f n) : ∀ k, groupsP f k = grpD f k
  | 0 => rfl
  | k + 1 => by
    show addG f (groupsP f k) k = _
    rw [grp_eq f n ht k, ← grp_succ f n k ht]
end Go.Proofs.Ytljkobijoenabaa.dv
namespace Go.Proofs.Ytljkobijoenabaa.dv
open Go.ChangeShapes Go.WideShapes Go.ChangeAt Go.RowKit Go.Maps Go.WideMaps Go.WideElems
set_option linter.unusedVariables false
set_option linter.unusedSimpArgs false
/-! left: Groups -/
theorem grp_lt (f : Nat → Nat → Bool) : ∀ k, ∀ g ∈ groupsP f k, g ≠ [] ∧ ∀ x ∈ g, x < k
  | 0, g, h => by cases h
  | k + 1, g, h => by
    have ih := grp_lt f k
    have hold : ∀ g ∈ groupsP f k, g ≠ [] ∧ ∀ x ∈ g, x < k + 1 := fun g hg => ⟨(ih g hg).1, fun x hx => Nat.lt_succ_of_lt ((ih g hg).2 x hx)⟩
    rw [groupsP] at h
    unfold addG at h
    split at h
    · split at h
      · rcases List.mem_append.1 h with h | h
        · exact hold g h
        · rw [List.mem_singleton.1 h]
          exact ⟨by simp, fun x hx => by rw [List.mem_singleton.1 hx]; omega⟩
      · rename_i i hi
        rcases List.mem_or_eq_of_mem_set h with h | h
        · exact hold g h
        · rw [h]
          refine ⟨by simp, fun x hx => ?_⟩
          rcases List.mem_append.1 hx with hx | hx
          · rw [List.getD_eq_getElem?_getD] at hx
            cases hc : (groupsP f k)[i]? with
            | none => rw [hc] at hx; cases hx
            | some g' => rw [hc] at hx; exact (hold g' (List.mem_of_getElem? hc)).2 x hx
          · rw [List.mem_singleton.1 hx]; omega
    · exact hold g h
theorem grp_len (f : Nat → Nat → Bool) : ∀ k, (groupsP f k).length ≤ k
  | 0 => Nat.le_refl _
  | k + 1 => by
    have ih := grp_len f k
    rw [groupsP]
    unfold addG
    split
    · split
      · simp; omega
      · simp; omega
    · omega
theorem grp_short (f : Nat → Nat → Bool) : ∀ k, ∀ g ∈ groupsP f k, g.length ≤ k
  | 0, g, h => by cases h
  | k + 1, g, h => by
    have ih := grp_short f k
    rw [groupsP] at h
    unfold addG at h
    split at h
    · split at h
      · rcases List.mem_append.1 h with h | h
        · have := ih g h; omega
        · rw [List.mem_singleton.1 h]; simp
      · rename_i i hi
        rcases List.mem_or_eq_of_mem_set h with h | h
        · have := ih g h; omega
        · rw [h, List.length_append, List.length_singleton, List.getD_eq_getElem?_getD]
          cases hc : (groupsP f k)[i]? with
          | none => simp
          | some g' => have := ih g' (List.mem_of_getElem? hc); simp; omega
    · have := ih g h; omega
/-- what the loop of Groups keeps -/
structure GpSt (w : World) (gc : Array Value) (Bm m n : Nat) (bs : List Nat) (bx : Nat) (M : List (List Bool)) (W : World) : Prop where
  mat : MatAt W Bm m n bs M
  box : Blk W bx 53 #[slB n m]
  below : Below w.heap.size w W
  gram : Blk W w.heap.size 25 gc
theorem GpSt.far {w : World} {gc : Array Value} {Bm m n : Nat} {bs : List Nat} {bx : Nat} {M : List (List Bool)} {W W' : World} (h : GpSt w gc Bm m n bs bx M W) (hb : Below W.heap.size W W') : GpSt w gc Bm m n bs bx M W' :=
  ⟨h.mat.below hb, h.box.below hb h.box.lt, h.below.trans (hb.mono (Nat.le_of_lt h.gram.lt)), h.gram.below hb h.gram.lt⟩
theorem drewN_two (U : World) (q r : Nat) : (U.drewN q).drewN r = U.drewN (q + r) := by simp [World.drewN, Nat.add_assoc]
theorem MatAt.rowR {W W' : World} {Bm m n : Nat} {bs : List Nat} {M : List (List Bool)} {B2 s k : Nat} {e : TypeId} {v : Value} {xs : List Value} (h : MatAt W Bm m n bs M) (hr : W.ownsRow B2 e s v k xs) (h1 : 55 ≠ e) (h2 : 4 ≠ e) (hg : W.grownBy W' v.ownBlock) : MatAt W' Bm m n bs M := by
  refine h.grown hg (fun e2 => ?_) (fun b hb e2 => ?_)
  · rcases row_apart h.out hr h1 with e3 | e3
    · simp [slB, Value.ownBlock] at e3
    · exact e3 (by rw [e2]; rfl)
  · obtain ⟨i, hi, rfl⟩ := List.mem_iff_getElem.1 hb
    rcases row_apart (h.inn i (by rw [← h.bl]; exact hi)) hr h2 with e3 | e3
    · simp [slB, Value.ownBlock] at e3
    · exact e3 (by rw [e2, bs_get hi]; rfl)
theorem GpSt.rowR {w : World} {gc : Array Value} {Bm m n : Nat} {bs : List Nat} {bx : Nat} {M : List (List Bool)} {W W' : World} {s k : Nat} {e : TypeId} {v : Value} {xs : List Value} (h : GpSt w gc Bm m n bs bx M W) (hr : W.ownsRow w.heap.size e s v k xs) (h1 : 55 ≠ e) (h2 : 4 ≠ e) (h3 : 53 ≠ e) (h4 : 25 ≠ e) (hg : W.grownBy W' v.ownBlock) : GpSt w gc Bm m n bs bx M W' :=
  ⟨h.mat.rowR hr h1 h2 hg, h.box.grown hg (h.box.not_row h3 hr), h.below.grown hg (Nat.le_of_lt h.gram.lt) (fun r e => (row_cells hr r e).1), h.gram.grown hg (h.gram.not_row h4 hr)⟩
set_option maxRecDepth 100000 in
set_option maxHeartbeats 4000000 in
theorem groups_any (w : World) (B : Nat) (ta va : Option Addr) (tl tc vl vc : Nat) (rv : Value) (R : List Rl) (hR : RulesAt B w rv R) (hB : B ≤ w.heap.size) (hl : ∀ r ∈ R, 0 ≤ r.left ∧ r.left < vl) (hv : vl ≤ 1000) :
    Calls Try.prog 32 #[.agg #[.slice ta tl tc, .slice va vl vc, rv]] w fun e w' => ∃ v vs, e = .returned v ∧ GrAt w' w.heap.size v vs (groupsP (matF (begM vl R)) vl) ∧ Below w.heap.size w w' := by
  obtain ⟨j0, hj, hy0, hy1, hy2⟩ := info_parts info_ints
  obtain ⟨i0, hi, hz0, hz1, hz2⟩ := info_parts info_int
  obtain ⟨ra, rc, rfl, hn, _⟩ := id hR
  have b0 := Blk.new w 25 #[.slice ta tl tc, .slice va vl vc, .slice ra R.length rc]
  have hbl : Below w.heap.size w (w.alloc (.cells #[.slice ta tl tc, .slice va vl vc, .slice ra R.length rc] 25)) := (Below.refl _ w).alloc (Nat.le_refl _) _
  have HR := Lib.hid hR
  have HL := Lib.hid hl
  generalize hW0 : w.alloc (.cells #[.slice ta tl tc, .slice va vl vc, .slice ra R.length rc] 25) = w0 at *
  have hz : w0.heap.size = w.heap.size + 1 := by rw [← hW0]; simp
  have HB0 := Lib.hid b0
  have HBL := Lib.hid hbl
  have c0 := b0.cell 0
  have c1 := b0.cell 1
  have c2 := b0.cell 2
  simp only [List.getElem?_toArray, List.getElem?_cons_zero, List.getElem?_cons_succ] at c0 c1 c2
  have hbg := begins_any w0 B ta va tl tc vl vc (.slice ra R.length rc) R (hR.far (hbl.mono hB)) (by omega) hl hv
  have HBG := Lib.hid hbg
  clear hR hl b0 hbl hbg
  go_enter Try.func32, Try.ntmps32
  go_wp2_with (go_at_call 60; refine HBG.out.mono ?_; rintro e w2 ⟨m, bs, rfl, hmat, hb2⟩; have bg2 := HB0.out.below hb2 HB0.out.lt; have y0 : ∀ o, (w2.alloc o).cell? ⟨w.heap.size, 1, none⟩ = some (.slice va vl vc) := fun o => (bg2.alloc o).cell 1; have HMAT := Lib.hid hmat; have HB2 := Lib.hid hb2; unfold slB; clear hmat hb2 bg2)
  have hgp0 : GpSt w #[.slice ta tl tc, .slice va vl vc, .slice ra R.length rc] w0.heap.size m vl bs w2.heap.size (begM vl R) (w2.alloc (.cells #[.slice (some ⟨m, 0, none⟩) vl vl] 53)) := ⟨HMAT.out.alloc _, Blk.new w2 53 #[slB vl m], (HBL.out.trans (HB2.out.mono (by omega))).alloc (by have := HB2.out.size; omega) _, (HB0.out.below HB2.out HB0.out.lt).alloc _⟩
  have HGP0 := Lib.hid hgp0
  clear hgp0 y0 c0 c1 c2
  go_loopw [4, 12] (fun gv q W => ∃ (k : Nat) (vs : List Value), k ≤ vl ∧ q = .int .i64 k ∧ GpSt w #[.slice ta tl tc, .slice va vl vc, .slice ra R.length rc] w0.heap.size m vl bs w2.heap.size (begM vl R) W ∧ GrAt W w.heap.size gv vs (groupsP (matF (begM vl R)) k)) (fun _ q _ => vl - (intOf q).toNat)
  case atStart => exact ⟨0, [], Nat.zero_le _, rfl, HGP0.out, ⟨rfl, World.ownsRow_nil _ _ _ _, fun i hi => absurd hi (Nat.not_lt_zero _), fun i j hi => absurd hi (Nat.not_lt_zero _)⟩⟩
  case round =>
    obtain ⟨W, rfl⟩ : ∃ W : World, W = wr := ⟨_, rfl⟩
    obtain ⟨k, vs, hk, hq, hgp, hgr⟩ := hrel
    obtain rfl := hq
    have HGP := Lib.hid hgp
    have HGR := Lib.hid hgr
    by_cases hlt : k < vl
    · have hk0 : (0 : Int) ≤ (k : Int) := by omega
      have hk1 : (k : Int) < (vl : Int) := by omega
      have hU : Below W.heap.size W (W.alloc (.cells #[.int .i64 k] 3)) := (Below.refl _ W).alloc (Nat.le_refl _) _
      have hgpU := hgp.far hU
      have bV := Blk.new W 3 #[.int .i64 k]
      have p0 := hgpU.box.cell 0
      have p1 := bV.cell 0
      simp only [List.getElem?_toArray, List.getElem?_cons_zero] at p0 p1
      have q0 := hgpU.mat.cell k hlt
      have q1 := hgpU.mat.mark k k hlt hlt
      unfold slB at q0 p0
      obtain ⟨bk, hbk⟩ : ∃ b, b = bs.getD k 0 := ⟨_, rfl⟩
      rw [← hbk] at q0 q1
      have hG : groupsP (matF (begM vl R)) (k + 1) = addG (matF (begM vl R)) (groupsP (matF (begM vl R)) k) k := rfl
      have hglt := grp_lt (matF (begM vl R)) k
      have hgle := grp_len (matF (begM vl R)) k
      have hgsh := grp_short (matF (begM vl R)) k
      obtain ⟨G, hGe⟩ : ∃ G, G = groupsP (matF (begM vl R)) k := ⟨_, rfl⟩
      rw [← hGe] at hG hglt hgle hgr hgsh
      have HGSH := Lib.hid hgsh
      clear hgsh
      have HG := Lib.hid hG
      have HGLT := Lib.hid hglt
      have HGR2 := Lib.hid hgr
      have HBV := Lib.hid bV
      have HU := Lib.hid hU
      clear hgp hgr hgpU bV hbk hG hglt HGP0 HGR hGe hU
      obtain ⟨b, hb⟩ : ∃ b, b = matF (begM vl R) k k := ⟨_, rfl⟩
      have hq1 : ((begM vl R).getD k []).getD k false = b := hb.symm
      rw [hq1] at q1
      have HB := Lib.hid hb
      clear hb hq1
      cases b
      · go_wp2
        go_quiet (fail)
        go_wp2
        have hadd : addG (matF (begM vl R)) G k = G := by unfold addG; rw [← HB.out]; rfl
        have hbW : Below W.heap.size W ((W.alloc (.cells #[.int .i64 k] 3)).drewN nq) := below_drewN HU.out nq
        exact ⟨⟨k + 1, vs, hlt, congrArg (Value.int .i64) (by omega), HGP.out.far hbW, by rw [HG.out, hadd]; exact HGR2.out.below hbW⟩, by simp only [intOf]; omega⟩
      · go_wp2
        go_quiet (fail)
        have hbW : Below W.heap.size W ((W.alloc (.cells #[.int .i64 k] 3)).drewN nq) := below_drewN HU.out nq
        have bV1 : Blk ((W.alloc (.cells #[.int .i64 k] 3)).drewN nq) W.heap.size 3 #[.int .i64 k] := HBV.out
        generalize (W.alloc (.cells #[.int .i64 k] 3)).drewN nq = U at *
        have hgpU := HGP.out.far hbW
        have hgrU := HGR2.out.below hbW
        have hix := indexG_any U w.heap.size u4 vs G 62 #[.pointer (some ⟨w2.heap.size, 0, none⟩), .pointer (some ⟨W.heap.size, 0, none⟩)] (fun i => mtl (matF (begM vl R)) k ((G.getD i []).headD 0)) goes_groups1 (fun i q hi => by
          have hi2 : i < G.length := by rw [← hgrU.vl]; exact hi
          obtain ⟨h1, h2⟩ := hgrU.inn i hi2
          obtain ⟨g2, c2, e, _⟩ := World.ownsRow.form h2 h1
          have hmem : G.getD i [] ∈ G := by rw [List.getD_eq_getElem?_getD, List.getElem?_eq_getElem hi2]; exact List.getElem_mem _
          obtain ⟨x, l, hxl⟩ : ∃ x l, G.getD i [] = x :: l := by
            cases hc : G.getD i [] with
            | nil => rw [hc] at h1; exact absurd h1 (Nat.lt_irrefl _)
            | cons x l => exact ⟨x, l, rfl⟩
          have hx : x < vl := by have := (HGLT.out _ hmem).2 x (by rw [hxl]; simp); omega
          have hc0 : U.cell? ⟨g2, 0, none⟩ = some (.int .i64 x) := by
            rw [e] at h2
            rw [h2.cellAt 0 (by omega), hxl]
            rfl
          have hbq : Below U.heap.size U (U.drewN q) := below_drewN (Below.refl _ _) q
          have := groups1_any (U.drewN q) w0.heap.size m vl bs (begM vl R) w2.heap.size W.heap.size k x ⟨g2, 0, none⟩ (G.getD i []).length c2 (hgpU.mat.below hbq) hgpU.box bV1 hlt hx h1 hc0
          rw [e, hxl]
          rw [hxl] at this
          refine Calls.mono this ?_
          rintro e2 w' ⟨rfl, q1, rfl⟩
          exact ⟨by show _ = Ending.returned (.bool (mtl (matF (begM vl R)) k ((G.getD i []).headD 0))); rw [hxl]; rfl, q + q1, drewN_two U q q1⟩) hgrU (by omega)
        have HIX := Lib.hid hix
        clear hix
        have HGPU := Lib.hid hgpU
        have HGRU := Lib.hid hgrU
        clear hgpU hgrU p0 p1 q0 q1
        go_wp2_with fail
        refine HIX.out.mono ?_
        rintro e w5 ⟨⟨n5, rfl, hn5⟩, q5, rfl⟩
        have hbV : Below U.heap.size U (U.drewN q5) := below_drewN (Below.refl _ _) q5
        have bV2 : Blk (U.drewN q5) W.heap.size 3 #[.int .i64 k] := bV1
        have hgpV := HGPU.out.far hbV
        have hgrV := HGRU.out.below hbV
        have hWV := hbW.trans (hbV.mono hbW.size)
        have hWlt : W.heap.size < (U.drewN q5).heap.size := bV2.lt
        generalize U.drewN q5 = V at *
        have p1 := bV2.cell 0
        simp only [List.getElem?_toArray, List.getElem?_cons_zero] at p1
        have HGPV := Lib.hid hgpV
        have HGRV := Lib.hid hgrV
        have HWV := Lib.hid hWV
        rcases hn5 with ⟨i5, rfl, hi5, hp5, hmin5⟩ | ⟨rfl, hno5⟩
        · have hadd : addG (matF (begM vl R)) G k = G.set i5 (G.getD i5 [] ++ [k]) := by
            unfold addG
            rw [← HB.out, if_pos rfl]
            have : G.findIdx? (fun g => mtl (matF (begM vl R)) k (g.headD 0)) = some i5 := by
              rw [List.findIdx?_eq_some_iff_getElem]
              refine ⟨hi5, ?_, fun j hji => ?_⟩
              · rw [List.getD_eq_getElem?_getD, List.getElem?_eq_getElem hi5] at hp5
                exact hp5
              · have := hmin5 j hji
                rw [List.getD_eq_getElem?_getD, List.getElem?_eq_getElem (by omega)] at this
                exact (by rw [show mtl (matF (begM vl R)) k (G[j].headD 0) = false from this]; exact Bool.false_ne_true)
            rw [this]
          have HADD := Lib.hid hadd
          obtain ⟨g, cap, rfl, _⟩ := World.ownsRow.form hgrV.out (by omega)
          obtain ⟨hpi, hri⟩ := hgrV.inn i5 hi5
          obtain ⟨g2, c2, hsv, _⟩ := World.ownsRow.form hri hpi
          have hGil : (G.getD i5 []).length ≤ 1000 := by
            have := HGSH.out (G.getD i5 []) (by rw [List.getD_eq_getElem?_getD, List.getElem?_eq_getElem hi5]; exact List.getElem_mem _)
            omega
          have hcs : V.cell? ⟨g, i5, none⟩ = some (.slice (some ⟨g2, 0, none⟩) (G.getD i5 []).length c2) := by
            rw [hgrV.out.cellAt i5 (by omega), ← hsv, List.getD_eq_getElem?_getD, List.getElem?_eq_getElem (show i5 < vs.length by rw [hgrV.vl]; exact hi5)]
            rfl
          have hgrA := hgrV.alloc (.cells #[.int .i64 k] 3)
          have hgpA := hgpV.far ((Below.refl _ V).alloc (Nat.le_refl _) (.cells #[.int .i64 k] 3))
          have hbVA := bV2.alloc (.cells #[.int .i64 k] 3)
          have hmore : ∀ g4 cap4 (w4 : World), w4.ownsRow w.heap.size 3 1 (.slice (some ⟨g4, 0, none⟩) ((G.getD i5 []).length + 1) cap4) ((G.getD i5 []).length + 1) (IN (G.getD i5 []) ++ [.int .i64 k]) → (V.alloc (.cells #[.int .i64 k] 3)).grownBy w4 (Value.slice (some ⟨g2, 0, none⟩) (G.getD i5 []).length c2).ownBlock → ((Value.slice (some ⟨g2, 0, none⟩) (G.getD i5 []).length c2).ownBlock = some g4 ∨ g4 = V.heap.size + 1) →
              GpSt w #[.slice ta tl tc, .slice va vl vc, .slice ra R.length rc] w0.heap.size m vl bs w2.heap.size (begM vl R) (w4.setCell ⟨g, i5, none⟩ (.slice (some ⟨g4, 0, none⟩) ((G.getD i5 []).length + 1) cap4)) ∧ GrAt (w4.setCell ⟨g, i5, none⟩ (.slice (some ⟨g4, 0, none⟩) ((G.getD i5 []).length + 1) cap4)) w.heap.size (.slice (some ⟨g, 0, none⟩) G.length cap) (vs.set i5 (.slice (some ⟨g4, 0, none⟩) ((G.getD i5 []).length + 1) cap4)) (G.set i5 (G.getD i5 [] ++ [k])) ∧ w4.cell? ⟨g, i5, none⟩ = some (.slice (some ⟨g2, 0, none⟩) (G.getD i5 []).length c2) ∧ w4.frozen? ⟨g, i5, none⟩ = false := fun g4 cap4 w4 h1 h2 h3 => by
            obtain ⟨m1, m2⟩ := hgrA.more (x := .slice (some ⟨g4, 0, none⟩) ((G.getD i5 []).length + 1) cap4) (y := k) hi5 h1 (by rw [hsv]; exact h2) (by
              rw [hsv]
              rcases h3 with h3 | h3
              · exact .inl h3.symm
              · right
                rw [World.size_alloc, h3]
                rfl)
            have n1 := hgpA.rowR (show (V.alloc _).ownsRow w.heap.size 3 1 (.slice (some ⟨g2, 0, none⟩) (G.getD i5 []).length c2) _ _ from by rw [← hsv]; exact (hgrA.inn i5 hi5).2) (by decide) (by decide) (by decide) (by decide) h2
            obtain ⟨s1, s2⟩ := m2.stored i5 (.slice (some ⟨g4, 0, none⟩) ((G.getD i5 []).length + 1) cap4)
            refine ⟨n1.rowR m2 (by decide) (by decide) (by decide) (by decide) s2, m1, ?_, m2.frozenAt i5⟩
            rw [m2.cellAt i5 (by omega), ← hsv, List.getD_eq_getElem?_getD, List.getElem?_eq_getElem (show i5 < vs.length by rw [hgrA.vl]; exact hi5)]
            rfl
          have hrowA : (World.drew V).alloc (.cells #[.int .i64 k] 3) = (V.alloc (.cells #[.int .i64 k] 3)).drew := rfl
          have HMORE0 := Lib.hid hmore
          have hgW : W.heap.size ≠ g2 := fun e => by
            have := ((HGR2.out.inn i5 hi5).2.lt g2 (by rw [hsv]; rfl)).2
            omega
          have hi50 : (0 : Int) ≤ (i5 : Int) := by omega
          have hi51 : (i5 : Int) < (G.length : Int) := by omega
          have hneg : decide ((i5 : Int) < 0) = false := decide_eq_false (by omega)
          have HRI := Lib.hid (show V.ownsRow w.heap.size 3 1 (.slice (some ⟨g2, 0, none⟩) (G.getD i5 []).length c2) (G.getD i5 []).length (IN (G.getD i5 [])) from by rw [← hsv]; exact hri)
          clear hgrA hgpA hbVA hmore hgpV hgrV hbV hWV hri hsv hpi hmin5 hp5 hadd hrowA
          obtain ⟨Gi, hGi⟩ : ∃ l, l = G.getD i5 [] := ⟨_, rfl⟩
          rw [← hGi] at hcs HRI HMORE0 hGil
          obtain ⟨gl, hgl⟩ : ∃ l, l = Gi.length := ⟨_, rfl⟩
          rw [← hgl] at hcs HRI HMORE0 hGil
          have HGI := Lib.hid hGi
          clear hGi hgl
          have hgV : g < V.heap.size := World.block_lt_of_cell? V ⟨g, i5, none⟩ hcs
          have hrA : ((World.drew V).alloc (.cells #[.int .i64 k] 3)).ownsRow w.heap.size 3 1 (.slice (some ⟨g2, 0, none⟩) gl c2) gl (IN Gi) := (show (World.drew V).ownsRow w.heap.size 3 1 (.slice (some ⟨g2, 0, none⟩) gl c2) gl (IN Gi) from HRI.out).alloc _
          have HROWA := Lib.hid hrA
          have HNWA := Lib.hid (one_new (World.drew V) 3 (.int .i64 k))
          have hszA : w.heap.size ≤ ((World.drew V).alloc (.cells #[.int .i64 k] 3)).heap.size := by
            rw [World.size_alloc]
            have := HGPV.out.gram.lt
            show w.heap.size ≤ V.heap.size + 1
            omega
          have HSZE : Hid (((World.drew V).alloc (.cells #[.int .i64 k] 3)).heap.size = V.heap.size + 1) := Lib.hid (World.size_alloc _ _)
          have HMORE : Hid (∀ g4 cap4 (w4 : World), w4.ownsRow w.heap.size 3 1 (.slice (some ⟨g4, 0, none⟩) (gl + 1) cap4) (gl + 1) (IN Gi ++ [.int .i64 k]) → ((World.drew V).alloc (.cells #[.int .i64 k] 3)).grownBy w4 (Value.slice (some ⟨g2, 0, none⟩) gl c2).ownBlock → ((Value.slice (some ⟨g2, 0, none⟩) gl c2).ownBlock = some g4 ∨ g4 = V.heap.size + 1) → _) := Lib.hid (fun g4 cap4 w4 h1 h2 h3 => HMORE0.out g4 cap4 w4 h1 ⟨h2.os, h2.tape, h2.output, h2.size, h2.block⟩ h3)
          clear hrA
          have HS7 : ((World.drew V).alloc (.cells #[.int .i64 k] 3)).cell? ⟨g, i5, none⟩ = some (.slice (some ⟨g2, 0, none⟩) gl c2) ∧ ((World.drew V).alloc (.cells #[.int .i64 k] 3)).cell? ⟨W.heap.size, 0, none⟩ = some (.int .i64 k) := ⟨(World.cell?_alloc_lt (World.drew V) _ ⟨g, i5, none⟩ hgV).trans hcs, (World.cell?_alloc_lt (World.drew V) _ ⟨W.heap.size, 0, none⟩ hWlt).trans p1⟩
          go_wp2
          refine wp_region_E (fun U => U.cell? ⟨g, i5, none⟩ = some (.slice (some ⟨g2, 0, none⟩) gl c2) ∧ U.cell? ⟨W.heap.size, 0, none⟩ = some (.int .i64 k)) [10] (by kernel_rfl) ?_
          have HS : _ := And.intro (DRC V _ _ hcs) (DRC V _ _ p1)
          change anyE _ _ _ _ _ _ _ _ _ (World.drew _)
          refine anyE_take (i := 0) (v := ?_) rfl (by kernel_rfl) (by kernel_rfl) (by kernel_rfl) (by kernel_rfl) (by kernel_rfl) (fun _ _ _ h => h) (Or.inl ⟨by kernel_rfl, ?_⟩) HS ?_
          rotate_left
          · intro w _; go_simp; with_reducible rfl
          refine anyE_take (i := 1) (v := ?_) rfl (by kernel_rfl) (by kernel_rfl) (by kernel_rfl) (by kernel_rfl) (by kernel_rfl) (fun _ _ _ h => h) (Or.inl ⟨by kernel_rfl, ?_⟩) HS ?_
          rotate_left
          · intro w _; go_simp; with_reducible rfl
          refine anyE_take (i := 2) (v := ?_) rfl (by kernel_rfl) (by kernel_rfl) (by kernel_rfl) (by kernel_rfl) (by kernel_rfl) (fun _ _ _ h => h) (Or.inl ⟨by kernel_rfl, ?_⟩) HS ?_
          rotate_left
          · intro w _; go_simp; with_reducible rfl
          refine anyE_take (i := 3) (v := ?_) rfl (by kernel_rfl) (by kernel_rfl) (by kernel_rfl) (by kernel_rfl) (by kernel_rfl) (fun _ _ _ h => h) (Or.inl ⟨by kernel_rfl, ?_⟩) HS ?_
          rotate_left
          · intro w _; go_simp; with_reducible rfl
          refine anyE_take (i := 4) (v := ?_) rfl (by kernel_rfl) (by kernel_rfl) (by kernel_rfl) (by kernel_rfl) (by kernel_rfl) (fun _ _ _ h => h) (Or.inl ⟨by kernel_rfl, ?_⟩) HS ?_
          rotate_left
          · intro w _; go_simp; with_reducible rfl
          refine anyE_take (i := 5) (v := ?_) rfl (by kernel_rfl) (by kernel_rfl) (by kernel_rfl) (by kernel_rfl) (by kernel_rfl) (fun _ _ _ h => h) (Or.inl ⟨by kernel_rfl, ?_⟩) HS ?_
          rotate_left
          · intro w hw; have hw := hw.1; go_simp; with_reducible rfl
          refine anyE_take (i := 6) (v := ?_) rfl (by kernel_rfl) (by kernel_rfl) (by kernel_rfl) (by kernel_rfl) (by kernel_rfl) (fun _ _ _ h => h) (Or.inl ⟨by kernel_rfl, ?_⟩) HS ?_
          rotate_left
          · intro w hw; have hw := hw.2; go_simp; with_reducible rfl
          refine anyE_ready (rs := [7]) (by kernel_rfl) (by simp) ?_
          refine ReadyE.cons rfl (by kernel_rfl) (fun K hK => ?_) ReadyE.nil
          go_simp
          refine hK.out _ _ (fun _ => HS7) ?_
          clear hK K
          refine anyE_ready (rs := [8]) (by kernel_rfl) (by simp) ?_
          refine ReadyE.consI rfl (fun K hK => ?_) ReadyE.nil
          refine step_append_lies _ (by rfl) (.tmp 38) (.tmp 40) 26 (by rfl) w.heap.size 3 i0 (.int .i64 0) 1 8 Try.underlying26 hi hz0 hz1 hz2 (by rfl) (by decide) (.slice (some ⟨g2, 0, none⟩) gl c2) gl (IN Gi) (by rfl) HROWA.out ⟨V.heap.size, 0, none⟩ 1 1 [.int .i64 k] (by rfl) (by rfl) HNWA.out (by simp [Value.oneCell']) (by decide) (by unfold maxLen; omega) (by omega) hszA (V.heap.size + 1) HSZE.out ?_
          intro g4 cap4 w4 hown4 hgrow4 hat4 hlt4
          obtain ⟨hm1, hm2, hm3, hm4⟩ := HMORE.out g4 cap4 w4 hown4 hgrow4 hat4
          have HM1 := Lib.hid hm1
          have HM2 := Lib.hid hm2
          have hbv4 : Blk w4 W.heap.size 3 #[.int .i64 k] := ((show Blk (World.drew V) W.heap.size 3 #[.int .i64 k] from bV2).alloc (.cells #[.int .i64 k] 3)).grown hgrow4 (fun e => hgW (Option.some.inj e))
          have hc4 := hbv4.cell 0
          simp only [List.getElem?_toArray, List.getElem?_cons_zero] at hc4
          have HS8 : w4.cell? ⟨g, i5, none⟩ = some (.slice (some ⟨g2, 0, none⟩) gl c2) ∧ w4.cell? ⟨W.heap.size, 0, none⟩ = some (.int .i64 k) := ⟨hm3, hc4⟩
          refine hK.out _ _ (fun _ => HS8) ?_
          clear hK K HS HS7
          refine anyE_take (i := 9) (v := ?_) rfl (by kernel_rfl) (by kernel_rfl) (by kernel_rfl) (by kernel_rfl) (by kernel_rfl) (fun _ _ _ h => h) (Or.inl ⟨by kernel_rfl, ?_⟩) HS8 ?_
          rotate_left
          · intro w _; go_simp; with_reducible rfl
          refine anyE_rest (by kernel_rfl) ?_
          clear HS8
          refine wpAny_ready (rs := [10]) (by kernel_rfl) (by simp) ?_
          refine AllReady.cons rfl (fun K hK => ?_) AllReady.nil
          go_simp
          refine hK _ _ ?_
          clear hK K
          refine wpAny_done (by kernel_rfl) ?_ _
          go_wp2
          exact ⟨⟨k + 1, _, hlt, congrArg (Value.int .i64) (by omega), HM1.out, by rw [HG.out, HADD.out, ← HGI.out]; exact HM2.out⟩, by simp only [intOf]; omega⟩
        · have hadd : addG (matF (begM vl R)) G k = G ++ [[k]] := by
            unfold addG
            rw [← HB.out, if_pos rfl]
            have : G.findIdx? (fun g => mtl (matF (begM vl R)) k (g.headD 0)) = none := by
              rw [List.findIdx?_eq_none_iff]
              intro g hg
              obtain ⟨i, hi, rfl⟩ := List.mem_iff_getElem.1 hg
              have := hno5 i hi
              rw [List.getD_eq_getElem?_getD, List.getElem?_eq_getElem hi] at this
              exact this
            rw [this]
          have HADD := Lib.hid hadd
          obtain ⟨X1, hX1⟩ : ∃ X, X = V.alloc (.cells #[.int .i64 k] 3) := ⟨_, rfl⟩
          have hb1 : Below V.heap.size V X1 := by rw [hX1]; exact (Below.refl _ V).alloc (Nat.le_refl _) _
          have hz1' : X1.heap.size = V.heap.size + 1 := by rw [hX1]; simp
          have hrow1 : X1.ownsRow w.heap.size 3 1 (.slice (some ⟨V.heap.size, 0, none⟩) 1 1) 1 (IN [k]) := by
            rw [hX1]
            exact World.ownsRow_lit (base := w.heap.size) (e := 3) (size := 1) V #[.int .i64 k] 1 (Nat.le_of_lt HGPV.out.gram.lt) (by decide) rfl
          have hgr2 := (hgrV.below hb1).alloc (.cells #[.slice (some ⟨V.heap.size, 0, none⟩) 1 1] 26)
          have hgp2 := (hgpV.far hb1).far ((Below.refl _ X1).alloc (Nat.le_refl _) (.cells #[.slice (some ⟨V.heap.size, 0, none⟩) 1 1] 26))
          have hnews := one_new X1 26 (.slice (some ⟨V.heap.size, 0, none⟩) 1 1)
          have hd : ∀ i, i < G.length → (vs.getD i undef).ownBlock ≠ (Value.slice (some ⟨V.heap.size, 0, none⟩) 1 1).ownBlock := fun i hi e => by
            have := ((hgrV.inn i hi).2.lt V.heap.size (by rw [e]; rfl)).2
            omega
          rw [hz1'] at hnews
          have HGR5 := Lib.hid hgr2
          have HGP5 := Lib.hid hgp2
          have HNW := Lib.hid hnews
          have HROW1 := Lib.hid (hrow1.alloc (.cells #[.slice (some ⟨V.heap.size, 0, none⟩) 1 1] 26))
          have HD := Lib.hid hd
          have hsz2 : w.heap.size ≤ (X1.alloc (.cells #[.slice (some ⟨V.heap.size, 0, none⟩) 1 1] 26)).heap.size := Nat.le_of_lt hgp2.gram.lt
          have HX1 := Lib.hid hX1
          clear hgr2 hgp2 hnews hd hrow1 hb1 hadd hgpV hgrV hbV hWV hno5 hz1'
          rw [hX1] at HGR5 HGP5 HNW HROW1 hsz2
          clear hX1 HX1
          clear X1
          have hneg : decide ((-1 : Int) < 0) = true := rfl
          go_wp2_with (at_builtin; refine wpList_append_own_at _ rfl _ _ 58 rfl w.heap.size 26 j0 (.slice none 0 0) 1 24 Try.underlying58 hj hy0 hy1 hy2 rfl (by decide) u4 G.length vs rfl HGR5.out.out _ 1 1 [.slice (some ⟨V.heap.size, 0, none⟩) 1 1] rfl rfl HNW.out (by simp [Value.oneCell']) (by unfold maxLen; omega) (by omega) hsz2 ?_; intro u42 W8 hown8 hgrow8 hnil8 hat8)
          have hgr8 := HGR5.out.push (l := [k]) (by simp) HROW1.out HD.out hown8 hgrow8
          have hgp8 := HGP5.out.rowR HGR5.out.out (by decide) (by decide) (by decide) (by decide) hgrow8
          exact ⟨⟨k + 1, vs ++ [.slice (some ⟨V.heap.size, 0, none⟩) 1 1], hlt, congrArg (Value.int .i64) (by omega), hgp8, by rw [HG.out, HADD.out]; exact hgr8⟩, by simp only [intOf]; omega⟩
    · obtain rfl : vl = k := by omega
      clear hgp hgr
      go_wp2
      go_ret
      exact ⟨_, vs, rfl, HGR.out, HGP.out.below⟩
end Go.Proofs.Ytljkobijoenabaa.dv
namespace Go.Proofs.Ytljkobijoenabaa.dv
set_option linter.unusedVariables false
set_option linter.unusedSimpArgs false
/-! what begins reckons: who begins with whom by one step, closed -/
def Sq (n : Nat) (M : List (List Bool)) : Prop := M.length = n ∧ ∀ i, i < n → (M.getD i []).length = n
theorem getD_setM (M : List (List Bool)) (X : List Bool) (k i : Nat) (hk : k < M.length) : (M.set k X).getD i [] = if i = k then X else M.getD i [] := by
  rw [List.getD_eq_getElem?_getD, List.getElem?_set]
  by_cases h : k = i
  · subst h; simp [hk]
  · rw [if_neg h, if_neg (fun e => h e.symm), List.getD_eq_getElem?_getD]
theorem getD_setB (S : List Bool) (b : Bool) (k i : Nat) (hk : k < S.length) : (S.set k b).getD i false = if i = k then b else S.getD i false := by
  rw [List.getD_eq_getElem?_getD, List.getElem?_set]
  by_cases h : k = i
  · subst h; simp [hk]
  · rw [if_neg h, if_neg (fun e => h e.symm), List.getD_eq_getElem?_getD]
theorem sq_set {n : Nat} {M : List (List Bool)} (h : Sq n M) (k : Nat) (X : List Bool) (hX : X.length = n) : Sq n (M.set k X) := by
  refine ⟨by simpa using h.1, fun i hi => ?_⟩
  by_cases hk : k < M.length
  · rw [getD_setM _ _ _ _ hk]
    split
    · exact hX
    · exact h.2 i hi
  · rw [List.set_eq_of_length_le (by omega)]
    exact h.2 i hi
theorem sq_mset {n : Nat} {M : List (List Bool)} (h : Sq n M) (v u : Nat) (hv : v < n) : Sq n (mset M v u) := sq_set h v _ (by simpa using h.2 v hv)
theorem mset_at {n : Nat} {M : List (List Bool)} (h : Sq n M) (v u x y : Nat) (hv : v < n) (hu : u < n) : matF (mset M v u) x y = (matF M x y || (decide (x = v) && decide (y = u))) := by
  unfold matF mset
  rw [getD_setM _ _ _ _ (by rw [h.1]; exact hv)]
  by_cases hx : x = v
  · subst hx
    rw [if_pos rfl, getD_setB _ _ _ _ (by rw [h.2 x hv]; exact hu)]
    by_cases hy : y = u
    · subst hy; simp
    · simp [hy]
  · rw [if_neg hx]; simp [hx]
theorem addL_at {n : Nat} (v : Nat) (hv : v < n) : ∀ (L : List Int) (M : List (List Bool)), Sq n M → (∀ s ∈ L, 0 ≤ s ∧ s < n) → Sq n (addL M v L) ∧ ∀ x y, matF (addL M v L) x y = (matF M x y || (decide (x = v) && decide ((y : Int) ∈ L)))
  | [], M, h, _ => ⟨h, fun x y => by simp [addL]⟩
  | s :: L, M, h, hL => by
    obtain ⟨h0, h1⟩ := hL s (by simp)
    have hs : s.toNat < n := by omega
    obtain ⟨g1, g2⟩ := addL_at v hv L (mset M v s.toNat) (sq_mset h v s.toNat hv) (fun t ht => hL t (List.mem_cons_of_mem _ ht))
    refine ⟨g1, fun x y => ?_⟩
    have e := g2 x y
    rw [mset_at h v s.toNat x y hv hs] at e
    show matF (addL (mset M v s.toNat) v L) x y = _
    rw [e]
    by_cases hx : x = v
    · by_cases hy : y = s.toNat
      · have hm : (y : Int) ∈ s :: L := by rw [show (y : Int) = s by omega]; simp
        rw [decide_eq_true hx, decide_eq_true hy, decide_eq_true hm]
        simp
      · have : (y : Int) ≠ s := by omega
        simp [hx, hy, this]
    · simp [hx]
def fst1 (vl : Nat) (p : Int → Bool) (R : List Rl) (x y : Nat) : Bool := R.any fun r => decide (r.left = (x : Int)) && decide ((y : Int) ∈ leadF vl p r.right)
theorem begR_at {vl : Nat} (p : Int → Bool) : ∀ (R : List Rl) (M : List (List Bool)), Sq vl M → (∀ r ∈ R, 0 ≤ r.left ∧ r.left < vl) → Sq vl (begR vl p R M) ∧ ∀ x y, matF (begR vl p R M) x y = (matF M x y || fst1 vl p R x y)
  | [], M, h, _ => ⟨h, fun x y => by simp [begR, fst1]⟩
  | r :: R, M, h, hR => by
    obtain ⟨h0, h1⟩ := hR r (by simp)
    have hv : r.left.toNat < vl := by omega
    obtain ⟨a1, a2⟩ := addL_at r.left.toNat hv (leadF vl p r.right) M h (leadF_var vl p r.right)
    obtain ⟨g1, g2⟩ := begR_at p R (addL M r.left.toNat (leadF vl p r.right)) a1 (fun q hq => hR q (List.mem_cons_of_mem _ hq))
    refine ⟨g1, fun x y => ?_⟩
    have e := g2 x y
    rw [a2] at e
    show matF (begR vl p R (addL M r.left.toNat (leadF vl p r.right))) x y = _
    rw [e]
    unfold fst1
    rw [List.any_cons, Bool.or_assoc]
    have : decide (x = r.left.toNat) = decide (r.left = (x : Int)) := by
      by_cases hx : r.left = (x : Int)
      · rw [decide_eq_true hx, decide_eq_true (by omega)]
      · rw [decide_eq_false hx, decide_eq_false (by omega)]
    rw [this]
theorem falses_at (n x y : Nat) : matF (List.replicate n (falses n)) x y = false := by
  unfold matF falses
  have e : (List.replicate n (List.replicate n false)).getD x [] = if x < n then List.replicate n false else [] := by
    rw [List.getD_eq_getElem?_getD, List.getElem?_replicate]
    split <;> rfl
  rw [e]
  split
  · rw [List.getD_eq_getElem?_getD, List.getElem?_replicate]
    split <;> rfl
  · rfl
theorem sq_falses (n : Nat) : Sq n (List.replicate n (falses n)) := ⟨by simp, fun i hi => by
  rw [List.getD_eq_getElem?_getD, List.getElem?_replicate, if_pos hi]; simp [falses]⟩
/-- one round of closing, row by row -/
theorem wrow_at {n : Nat} {M : List (List Bool)} (h : Sq n M) (k i : Nat) (hi : i < n) : Sq n (wrow n M k i) ∧ ∀ x y, y < n → matF (wrow n M k i) x y = (matF M x y || (decide (x = i) && (matF M i k && matF M k y))) := by
  unfold wrow
  by_cases hb : (M.getD i []).getD k false = true
  · rw [if_pos hb]
    have hl : (orK (M.getD i []) (M.getD k []) n).length = n := by rw [orK_len]; exact h.2 i hi
    refine ⟨sq_set h i _ hl, fun x y hy => ?_⟩
    unfold matF
    rw [getD_setM _ _ _ _ (by rw [h.1]; exact hi)]
    by_cases hx : x = i
    · subst hx
      rw [if_pos rfl, orK_get _ _ _ _ (by rw [h.2 x hi]; exact hy), if_pos hy, hb]
      simp
    · rw [if_neg hx]; simp [hx]
  · rw [if_neg hb]
    have hb' : (M.getD i []).getD k false = false := by simpa using hb
    refine ⟨h, fun x y hy => ?_⟩
    unfold matF
    rw [hb']
    simp
theorem wby_part {n : Nat} {M : List (List Bool)} (h : Sq n M) (k : Nat) (hk : k < n) : ∀ j, j ≤ n → Sq n ((List.range j).foldl (fun M i => wrow n M k i) M) ∧ ∀ x y, y < n → matF ((List.range j).foldl (fun M i => wrow n M k i) M) x y = (matF M x y || (decide (x < j) && (matF M x k && matF M k y)))
  | 0, _ => ⟨h, fun x y _ => by simp⟩
  | j + 1, hj => by
    obtain ⟨g1, g2⟩ := wby_part h k hk j (by omega)
    have e : (List.range (j + 1)).foldl (fun M i => wrow n M k i) M = wrow n ((List.range j).foldl (fun M i => wrow n M k i) M) k j := by rw [List.range_succ, List.foldl_append]; rfl
    rw [e]
    obtain ⟨a1, a2⟩ := wrow_at g1 k j (by omega)
    refine ⟨a1, fun x y hy => ?_⟩
    rw [a2 x y hy, g2 x y hy, g2 j k hk, g2 k y hy]
    by_cases hx : x = j
    · subst hx
      have c1 : decide (x < x) = false := decide_eq_false (Nat.lt_irrefl _)
      have c2 : decide (x < x + 1) = true := decide_eq_true (Nat.lt_succ_self _)
      rw [c1, c2]
      cases matF M x y <;> cases matF M x k <;> cases matF M k y <;> cases matF M k k <;> cases decide (k < x) <;> simp
    · have : decide (x < j + 1) = decide (x < j) := by
        by_cases hxj : x < j
        · rw [decide_eq_true hxj, decide_eq_true (by omega)]
        · rw [decide_eq_false hxj, decide_eq_false (by omega)]
      rw [this]
      simp [hx]
theorem wall_part {n : Nat} {M : List (List Bool)} (h : Sq n M) (f : Nat → Nat → Bool) (hf : ∀ x y, y < n → matF M x y = f x y) : ∀ k, k ≤ n → Sq n ((List.range k).foldl (wby n) M) ∧ ∀ x y, y < n → matF ((List.range k).foldl (wby n) M) x y = wsh f k x y
  | 0, _ => ⟨h, hf⟩
  | k + 1, hk => by
    obtain ⟨g1, g2⟩ := wall_part h f hf k (by omega)
    have e : (List.range (k + 1)).foldl (wby n) M = wby n ((List.range k).foldl (wby n) M) k := by rw [List.range_succ, List.foldl_append]; rfl
    rw [e]
    obtain ⟨a1, a2⟩ := wby_part g1 k (by omega) n (Nat.le_refl _)
    refine ⟨a1, fun x y hy => ?_⟩
    have := a2 x y hy
    show matF ((List.range n).foldl (fun M i => wrow n M k i) ((List.range k).foldl (wby n) M)) x y = _
    rw [this, g2 x y hy, g2 x k (by omega), g2 k y hy]
    rw [wsh]
    by_cases hx : x < n
    · rw [decide_eq_true hx]; simp
    · rw [decide_eq_false hx]
      have : wsh f k x k = false := by
        rw [← g2 x k (by omega)]
        unfold matF
        rw [List.getD_eq_getElem?_getD (l := _) (i := x), List.getElem?_eq_none (by rw [g1.1]; omega)]
        rfl
      simp [this]
theorem mat_out {n : Nat} {M : List (List Bool)} (h : Sq n M) (x y : Nat) (hm : matF M x y = true) : x < n ∧ y < n := by
  unfold matF at hm
  by_cases hx : x < n
  · refine ⟨hx, ?_⟩
    apply Classical.byContradiction
    intro hy
    rw [List.getD_eq_getElem?_getD, List.getElem?_eq_none (by rw [h.2 x hx]; omega)] at hm
    cases hm
  · rw [List.getD_eq_getElem?_getD (l := M), List.getElem?_eq_none (by rw [h.1]; omega)] at hm
    cases hm
/-- the least closed relation, as both sides reckon it -/
theorem begM_at {vl : Nat} (R : List Rl) (hR : ∀ r ∈ R, 0 ≤ r.left ∧ r.left < vl) : Sq vl (begM vl R) ∧ ∀ x y, matF (begM vl R) x y = wsh (fst1 vl (fun x => at_ (roundsB R true vl (List.replicate vl false)) x) R) vl x y := by
  obtain ⟨g1, g2⟩ := begR_at (fun x => at_ (roundsB R true vl (List.replicate vl false)) x) R (List.replicate vl (falses vl)) (sq_falses vl) hR
  obtain ⟨a1, a2⟩ := wall_part g1 (fst1 vl (fun x => at_ (roundsB R true vl (List.replicate vl false)) x) R) (fun x y _ => by rw [g2, falses_at]; simp) vl (Nat.le_refl _)
  refine ⟨a1, fun x y => ?_⟩
  by_cases hy : y < vl
  · exact a2 x y hy
  · have h1 : matF (begM vl R) x y = false := by
      cases hc : matF (begM vl R) x y
      · rfl
      · exact absurd (mat_out a1 x y hc).2 hy
    rw [h1]
    cases hc : wsh (fst1 vl (fun x => at_ (roundsB R true vl (List.replicate vl false)) x) R) vl x y
    · rfl
    · refine absurd (wsh_out _ vl (fun v u h => ?_) vl x y hc).2 hy
      unfold fst1 at h
      obtain ⟨r, hr, hh⟩ := List.any_eq_true.1 h
      simp only [Bool.and_eq_true, decide_eq_true_eq] at hh
      have := hR r hr
      have h2 := leadF_var vl _ r.right _ hh.2
      omega
theorem beg_trs {vl : Nat} (R : List Rl) (hR : ∀ r ∈ R, 0 ≤ r.left ∧ r.left < vl) : Trs (matF (begM vl R)) vl := by
  obtain ⟨g1, g2⟩ := begM_at R hR
  have e : matF (begM vl R) = wsh (fst1 vl (fun x => at_ (roundsB R true vl (List.replicate vl false)) x) R) vl := by
    funext x y
    exact g2 x y
  rw [e]
  refine trs_wsh _ vl (fun v u h => ?_)
  unfold fst1 at h
  obtain ⟨r, hr, hh⟩ := List.any_eq_true.1 h
  simp only [Bool.and_eq_true, decide_eq_true_eq] at hh
  have := hR r hr
  have h2 := leadF_var vl _ r.right _ hh.2
  omega
end Go.Proofs.Ytljkobijoenabaa.dv
namespace Go.Proofs.Ytljkobijoenabaa.dv
set_option linter.unusedVariables false
set_option linter.unusedSimpArgs false
/-! a derivation to a form that begins with a variable shows that one may begin with it -/
theorem leadF_mem (vl : Nat) (p : Int → Bool) (a : Int) (X : List Int) (h0 : 0 ≤ a) (h1 : a < vl) : ∀ pre : List Int, (∀ s ∈ pre, 0 ≤ s ∧ s < vl ∧ p s = true) → a ∈ leadF vl p (pre ++ a :: X)
  | [], _ => by
    show a ∈ leadF vl p (a :: X)
    rw [leadF, if_pos ⟨h0, h1⟩]
    split <;> simp
  | s :: pre, h => by
    obtain ⟨g0, g1, g2⟩ := h s (by simp)
    show a ∈ leadF vl p (s :: (pre ++ a :: X))
    rw [leadF, if_pos ⟨g0, g1⟩, if_pos g2]
    exact List.mem_cons_of_mem _ (leadF_mem vl p a X h0 h1 pre (fun t ht => h t (List.mem_cons_of_mem _ ht)))
theorem app_split {α : Type} : ∀ (A B pre : List α) (a : α) (post : List α), A ++ B = pre ++ a :: post → (∃ A', A = pre ++ a :: A') ∨ (∃ p2, pre = A ++ p2 ∧ B = p2 ++ a :: post)
  | [], B, pre, a, post, h => .inr ⟨pre, rfl, by simpa using h⟩
  | x :: A, B, [], a, post, h => by
    simp only [List.cons_append, List.nil_append, List.cons.injEq] at h
    exact .inl ⟨A, by rw [h.1]; rfl⟩
  | x :: A, B, y :: pre, a, post, h => by
    simp only [List.cons_append, List.cons.injEq] at h
    rcases app_split A B pre a post h.2 with ⟨A', e⟩ | ⟨p2, e1, e2⟩
    · exact .inl ⟨A', by rw [h.1, e]; rfl⟩
    · exact .inr ⟨p2, by rw [h.1, e1]; rfl, e2⟩
theorem tw_all (p : Int → Bool) : ∀ (l : List Int) (x : Int), x ∈ l.takeWhile p → p x = true
  | [], x, h => by cases h
  | y :: l, x, h => by
    rw [List.takeWhile_cons] at h
    by_cases hy : p y = true
    · rw [if_pos hy] at h
      rcases List.mem_cons.1 h with rfl | h
      · exact hy
      · exact tw_all p l x h
    · rw [if_neg hy] at h
      cases h
section
variable {R : List Rl} {vl : Nat} (hl : ∀ r ∈ R, 0 ≤ r.left ∧ r.left < vl) (hvr : ∀ r ∈ R, ∀ s ∈ r.right, 0 ≤ s → s < vl)
include hl
theorem nul_closed : Closed R true (roundsB R true vl (List.replicate vl false)) :=
  rounds_closed vl _ (fun r hr => by have := hl r hr; simp; omega) (by simp)
include hvr
/-- one step: what comes first of a form's first variable -/
theorem one_step {A : Int} {X pre post : List Int} {k a : Int} (hr : refW R (fvW (A :: X)) k = 0) (hA : 0 ≤ A) (h : stepL R (A :: X) k = pre ++ a :: post) (hp : ∀ s ∈ pre, 0 ≤ s ∧ at_ (roundsB R true vl (List.replicate vl false)) s = true) (ha : 0 ≤ a) :
    (matF (begM vl R) A.toNat a.toNat = true) ∨ (at_ (roundsB R true vl (List.replicate vl false)) A = true ∧ ∃ p2, X = p2 ++ a :: post ∧ ∀ s ∈ p2, 0 ≤ s ∧ at_ (roundsB R true vl (List.replicate vl false)) s = true) := by
  obtain ⟨e1, e2, e3⟩ := lead_var [] X A (by simp) hA
  simp only [List.nil_append] at e1 e2 e3
  obtain ⟨r, hrm, hrl, hrr, _, _⟩ := rl_at hr
  rw [e3] at hrl
  unfold stepL at h
  rw [e1, e2, List.nil_append, List.tail_cons, ← hrr] at h
  rcases app_split _ _ _ _ _ h with ⟨A', e⟩ | ⟨p2, e4, e5⟩
  · left
    have hin : ∀ s ∈ r.right, 0 ≤ s → s < vl := hvr r hrm
    have h1 : a ∈ leadF vl (fun x => at_ (roundsB R true vl (List.replicate vl false)) x) r.right := by
      rw [e]
      exact leadF_mem vl _ a A' ha (hin a (by rw [e]; simp) ha) pre (fun s hs => ⟨(hp s hs).1, hin s (by rw [e]; simp [hs]) (hp s hs).1, (hp s hs).2⟩)
    rw [(begM_at R hl).2]
    refine wsh_le _ ?_ vl
    unfold fst1
    rw [List.any_eq_true]
    refine ⟨r, hrm, ?_⟩
    rw [decide_eq_true (show r.left = (A.toNat : Int) by omega), decide_eq_true (show ((a.toNat : Nat) : Int) ∈ _ by rw [show ((a.toNat : Nat) : Int) = a by omega]; exact h1)]
    rfl
  · right
    refine ⟨?_, p2, e5, fun s hs => hp s (by rw [e4]; exact List.mem_append_right _ hs)⟩
    rw [← hrl]
    refine nul_closed hl r hrm ?_
    unfold allB
    rw [List.all_eq_true]
    intro s hs
    obtain ⟨g0, g1⟩ := hp s (by rw [e4]; exact List.mem_append_left _ hs)
    rw [if_neg (by omega)]
    exact g1
theorem heads_all : ∀ (ks F : List Int) (i : Nat) (G : List Int) (u : Int), replW R F ks i = (G, 0, 0) → 0 ≤ u → G.head? = some u →
    ∃ pre a post, F = pre ++ a :: post ∧ (∀ s ∈ pre, 0 ≤ s ∧ at_ (roundsB R true vl (List.replicate vl false)) s = true) ∧ 0 ≤ a ∧ (a = u ∨ matF (begM vl R) a.toNat u.toNat = true)
  | [], F, i, G, u, h, hu, hG => by
    unfold replW at h
    simp only [Prod.mk.injEq, and_true] at h
    subst h
    cases F with
    | nil => cases hG
    | cons x X =>
      simp only [List.head?_cons, Option.some.injEq] at hG
      subst hG
      exact ⟨[], x, X, rfl, fun s hs => (by cases hs), hu, .inl rfl⟩
  | k :: ks, F, i, G, u, h, hu, hG => by
    rw [repl_cons] at h
    by_cases hE : refW R (fvW F) k = 0
    · rw [if_pos hE] at h
      obtain ⟨pre, a, post, e, hp, ha, hau⟩ := heads_all ks (stepL R F k) (i + 1) G u h hu hG
      have hfv : 0 ≤ fvW F := by
        obtain ⟨r, hrm, hrl, _, h0, _⟩ := rl_at hE
        exact h0
      have hsp := split_form hfv
      have hlead : leadW F = [] := by
        cases hc : leadW F with
        | nil => rfl
        | cons t D =>
          have ht : t < 0 := by
            have hm : t ∈ leadW F := by rw [hc]; simp
            unfold leadW at hm
            simpa using tw_all _ _ _ hm
          unfold stepL at e
          rw [hc] at e
          cases pre with
          | nil => simp only [List.cons_append, List.nil_append, List.cons.injEq] at e; omega
          | cons y pre =>
            simp only [List.cons_append, List.cons.injEq] at e
            have := (hp y (by simp)).1
            omega
      rw [hlead, List.nil_append] at hsp
      obtain ⟨A, hA⟩ : ∃ A, A = fvW F := ⟨_, rfl⟩
      obtain ⟨X, hX⟩ : ∃ X, X = (restW F).tail := ⟨_, rfl⟩
      rw [← hA, ← hX] at hsp
      rw [← hA] at hfv
      subst hsp
      rcases one_step hl hvr hE hfv e hp ha with h1 | ⟨h1, p2, e2, h2⟩
      · refine ⟨[], A, X, rfl, fun s hs => (by cases hs), hfv, .inr ?_⟩
        rcases hau with rfl | hau
        · exact h1
        · exact (beg_trs R hl).trans _ _ _ h1 hau
      · exact ⟨A :: p2, a, post, by rw [e2]; rfl, fun s hs => by
          rcases List.mem_cons.1 hs with rfl | hs
          · exact ⟨hfv, h1⟩
          · exact h2 s hs, ha, hau⟩
    · rw [if_neg hE] at h
      simp only [Prod.mk.injEq] at h
      exact absurd h.2.2 hE
/-- whatever variable has a derivation to a form that begins with it may begin with itself -/
theorem reach_self {v : Int} {ks G : List Int} (hv : 0 ≤ v) (hk : ks ≠ []) (h : replW R [v] ks 0 = (G, 0, 0)) (hG : G.head? = some v) : matF (begM vl R) v.toNat v.toNat = true := by
  cases ks with
  | nil => exact absurd rfl hk
  | cons k ks =>
    rw [repl_cons] at h
    by_cases hE : refW R (fvW [v]) k = 0
    · rw [if_pos hE] at h
      obtain ⟨pre, a, post, e, hp, ha, hau⟩ := heads_all hl hvr ks _ _ G v h hv hG
      rcases one_step hl hvr hE hv e hp ha with h1 | ⟨_, p2, e2, _⟩
      · rcases hau with rfl | hau
        · exact h1
        · exact (beg_trs R hl).trans _ _ _ h1 hau
      · cases p2 <;> cases e2
    · rw [if_neg hE] at h
      simp only [Prod.mk.injEq] at h
      exact absurd h.2.2 hE
end
end Go.Proofs.Ytljkobijoenabaa.dv
namespace Go.Proofs.Ytljkobijoenabaa.dv
open Go.ChangeShapes Go.WideShapes Go.ChangeAt Go.RowKit Go.Maps Go.WideMaps Go.WideElems
set_option linter.unusedVariables false
set_option linter.unusedSimpArgs false
/-! left: how variables vanish -/
/-- what is told of a variable: none, or a derivation of the empty word -/
def GoneOk (R : List Rl) (vl i : Nat) (d : List Int) : Prop := ((roundsB R true vl (List.replicate vl false)).getD i false = false → d = []) ∧ ((roundsB R true vl (List.replicate vl false)).getD i false = true → ∃ S, Inv R vl S ∧ Done R S ∧ ((d = [] ∧ 4096 < (S.getD i noW).2.1) ∨ ((S.getD i noW).2.1 ≤ 4096 ∧ Exps R S [(i : Int)] d)))
/-- rows of rules in memory -/
structure VanAt (w : World) (B m n : Nat) (gs : List Value) (D : List (List Int)) : Prop where
  gl : gs.length = n
  dl : D.length = n
  out : w.ownsRow B 26 1 (slB n m) n gs
  inn : ∀ i, i < n → w.ownsRow B 3 1 (gs.getD i undef) (D.getD i []).length (IV (D.getD i []))
theorem VanAt.below {w w' : World} {B m n : Nat} {gs : List Value} {D : List (List Int)} (h : VanAt w B m n gs D) (hb : Below w.heap.size w w') : VanAt w' B m n gs D :=
  ⟨h.gl, h.dl, ownsRow_keep h.out (fun g hg _ => hb.block g hg), fun i hi => ownsRow_keep (h.inn i hi) (fun g hg _ => hb.block g hg)⟩
theorem VanAt.put {w : World} {B m n : Nat} {gs : List Value} {D : List (List Int)} (h : VanAt w B m n gs D) (i : Nat) (hi : i < n) (x : Value) (d : List Int) (hx : w.ownsRow B 3 1 x d.length (IV d)) : VanAt (w.setCell ⟨m, i, none⟩ x) B m n (gs.set i x) (D.set i d) := by
  obtain ⟨s1, s2⟩ := World.ownsRow.stored (show w.ownsRow B 26 1 (.slice (some ⟨m, 0, none⟩) n n) n gs from h.out) i x
  have hk : ∀ {u : Value} {k : Nat} {xs : List Value}, w.ownsRow B 3 1 u k xs → (w.setCell ⟨m, i, none⟩ x).ownsRow B 3 1 u k xs := fun {u k xs} hu => own_grown hu s2 (by
    rcases row_apart hu h.out (by decide) with e | e
    · exact .inl e
    · exact .inr e)
  refine ⟨by simpa using h.gl, by simpa using h.dl, s1, fun j hj => ?_⟩
  rw [getD_setl _ _ _ _ _ (by rw [h.gl]; exact hi), getD_setl _ _ _ _ _ (by rw [h.dl]; exact hi)]
  split
  · exact hk hx
  · exact hk (h.inn j hj)
set_option maxRecDepth 100000 in
set_option maxHeartbeats 4000000 in
theorem vanishings_any (w : World) (B : Nat) (ta va : Option Addr) (tl tc vl vc : Nat) (rv : Value) (R : List Rl) (hR : RulesAt B w rv R) (hB : B ≤ w.heap.size) (hl : ∀ r ∈ R, 0 ≤ r.left ∧ r.left < vl) (hv : vl ≤ 1000) (h8 : ∀ r ∈ R, r.right.length ≤ 8) :
    Calls Try.prog 64 #[.agg #[.slice ta tl tc, .slice va vl vc, rv]] w fun e w' => ∃ m gs D, e = .returned (slB vl m) ∧ VanAt w' w.heap.size m vl gs D ∧ (∀ i, i < vl → GoneOk R vl i (D.getD i [])) ∧ Below w.heap.size w w' := by
  obtain ⟨j0, hj, hy0, hy1, hy2⟩ := info_parts info_ints
  obtain ⟨ra, rc, rfl, hn, _⟩ := id hR
  have b0 := Blk.new w 25 #[.slice ta tl tc, .slice va vl vc, .slice ra R.length rc]
  have hbl : Below w.heap.size w (w.alloc (.cells #[.slice ta tl tc, .slice va vl vc, .slice ra R.length rc] 25)) := (Below.refl _ w).alloc (Nat.le_refl _) _
  have HR := Lib.hid hR
  have HL := Lib.hid hl
  have H8 := Lib.hid h8
  generalize hW0 : w.alloc (.cells #[.slice ta tl tc, .slice va vl vc, .slice ra R.length rc] 25) = w0 at *
  have hz : w0.heap.size = w.heap.size + 1 := by rw [← hW0]; simp
  have HB0 := Lib.hid b0
  have HBL := Lib.hid hbl
  have HZ := Lib.hid hz
  have c0 := b0.cell 0
  have c1 := b0.cell 1
  have c2 := b0.cell 2
  simp only [List.getElem?_toArray, List.getElem?_cons_zero, List.getElem?_cons_succ] at c0 c1 c2
  clear hR hl b0 hbl h8
  go_enter Try.func64, Try.ntmps64
  go_wp2_with (at_make; refine wpList_make_full _ rfl _ _ 58 rfl w.heap.size 26 j0 (.slice none 0 0) 1 Try.underlying58 hj hy0 hy1 .i64 .i64 _ _ vl rfl rfl rfl rfl (by rw [hy2]; omega) (by unfold maxLen; omega) (by omega) ?_; intro w1 hown1 hgrow1; have hB1 : Below w0.heap.size w0 w1 := (Below.refl _ _).grown hgrow1 (Nat.le_refl _) (fun k e => by cases e); have bg := HB0.out.below hB1 HB0.out.lt; have g0 := bg.cell 0; have g1 := bg.cell 1; have g2 := bg.cell 2; simp only [List.getElem?_toArray, List.getElem?_cons_zero, List.getElem?_cons_succ] at g0 g1 g2; have HB1 := Lib.hid hB1; have HBG := Lib.hid bg; clear hB1 bg c0 c1 c2)
  rw [show (Value.slice none 0 0).cells = #[.slice none 0 0] from rfl, toList_madeCells_one, Nat.mul_one, hz] at hown1
  have hbw : Below w.heap.size w w1 := HBL.out.trans (HB1.out.mono (by omega))
  have hnul := nullable_any w1 B ta va tl tc vl vc (.slice ra R.length rc) R (HR.out.far (hbw.mono hB)) (by have := hbw.size; omega) HL.out hv
  have hva0 : VanAt w1 w.heap.size (w.heap.size + 1) vl (List.replicate vl (.slice none 0 0)) (List.replicate vl []) := ⟨by simp, by simp, hown1, fun i hi => by
    rw [List.getD_eq_getElem?_getD, List.getElem?_replicate, if_pos hi, List.getD_eq_getElem?_getD, List.getElem?_replicate, if_pos hi]
    exact World.ownsRow_nil _ _ _ _⟩
  have HVA0 := Lib.hid hva0
  have HBW := Lib.hid hbw
  obtain ⟨E, hEe⟩ : ∃ E, E = roundsB R true vl (List.replicate vl false) := ⟨_, rfl⟩
  rw [← hEe] at hnul
  have hEl : E.length = vl := by rw [hEe, rounds_len]; simp
  have HEL := Lib.hid hEl
  have HEE := Lib.hid hEe
  clear hown1 hgrow1 hbw hva0 hEe hEl
  go_wp2_with fail
  refine hnul.mono ?_
  rintro e w3 ⟨ev, rfl, hE, hb3⟩
  have HE := Lib.hid hE
  have HVA3 := Lib.hid (HVA0.out.below hb3)
  have HB3 := Lib.hid (HBW.out.trans (hb3.mono HBW.out.size))
  have HG3 := Lib.hid (HBG.out.below hb3 HBG.out.lt)
  obtain ⟨⟨ec, rfl⟩, _⟩ := hE
  rw [HEL.out] at HE ⊢
  have hme : w.heap.size ≤ w1.heap.size + 1 := by have := HBW.out.size; omega
  clear hnul hb3 g0 g1 g2
  go_wp2
  go_loopw [13] (fun q wr => ∃ (k : Nat) (gs : List Value) (D : List (List Int)), k ≤ vl ∧ q = .int .i64 k ∧ VanAt wr w.heap.size (w.heap.size + 1) vl gs D ∧ (∀ i, i < k → GoneOk R vl i (D.getD i [])) ∧ (∀ i, k ≤ i → D.getD i [] = []) ∧ Below w.heap.size w wr ∧ Blk wr w.heap.size 25 #[.slice ta tl tc, .slice va vl vc, .slice ra R.length rc] ∧ MarksAt wr w1.heap.size (w1.heap.size + 1) (.slice (some ⟨w1.heap.size + 1, 0, none⟩) vl ec) E) (fun q _ => vl - (intOf q).toNat)
  case atStart => exact ⟨0, _, _, Nat.zero_le _, rfl, HVA3.out, fun i hi => absurd hi (Nat.not_lt_zero _), fun i _ => by
    rw [List.getD_eq_getElem?_getD, List.getElem?_replicate]
    split <;> rfl, HB3.out, HG3.out, HE.out⟩
  case round =>
    obtain ⟨k, gs, D, hk, rfl, hvn, hdn, htd, hbr, hgm, hem⟩ := hrel
    have HVN := Lib.hid hvn
    have HDN := Lib.hid hdn
    have HTD := Lib.hid htd
    have HBR := Lib.hid hbr
    have HGM := Lib.hid hgm
    have HEM := Lib.hid hem
    by_cases hlt : k < vl
    · have hk0 : (0 : Int) ≤ (k : Int) := by omega
      have hk1 : (k : Int) < (vl : Int) := by omega
      have hEk : wr.cell? ⟨w1.heap.size + 1, k, none⟩ = some (.bool (E.getD k false)) := by
        have h2 := hem.2
        rw [HEL.out] at h2
        rw [h2.cellAt k (by omega)]
        simp [BV, List.getD_eq_getElem?_getD, List.getElem?_eq_getElem (show k < E.length by rw [HEL.out]; exact hlt)]
      have z0 := hgm.cell 0
      have z1 := hgm.cell 1
      have z2 := hgm.cell 2
      simp only [List.getElem?_toArray, List.getElem?_cons_zero, List.getElem?_cons_succ] at z0 z1 z2
      have hsh := shortest_any wr B ta va tl tc vl vc (.slice ra R.length rc) R (k : Int) (HR.out.far (hbr.mono hB)) (by have := hbr.size; omega) HL.out hv H8.out
      have HSH := Lib.hid hsh
      obtain ⟨b, hb⟩ : ∃ b, b = E.getD k false := ⟨_, rfl⟩
      rw [← hb] at hEk
      have HB := Lib.hid hb
      clear hvn hdn htd hbr hgm hem hsh hb
      cases b
      · have hgo : GoneOk R vl k (D.getD k []) := ⟨fun _ => HTD.out k (Nat.le_refl _), fun h => by rw [← HEE.out, ← HB.out] at h; cases h⟩
        have HGO := Lib.hid hgo
        clear hgo
        go_wp2
        exact ⟨⟨k + 1, gs, D, hlt, congrArg (Value.int .i64) (by omega), HVN.out, fun i hi => by
          rcases Nat.lt_or_ge i k with h | h
          · exact HDN.out i h
          · obtain rfl : i = k := by omega
            exact HGO.out, fun i hi => HTD.out i (by omega), HBR.out, HGM.out, HEM.out⟩, by simp only [intOf]; omega⟩
      · have hstep : ∀ (w5 : World) (S : List Way) (u : Value) (b : Bool), Inv R vl S → Done R S → Below wr.heap.size wr w5 → (b = true → 0 ≤ (k : Int) ∧ (k : Int) < vl ∧ (S.getD (k : Int).toNat noW).2.1 ≤ 4096 ∧ ∃ ks, Exps R S [(k : Int)] ks ∧ w5.ownsRow wr.heap.size 3 1 u ks.length (IV ks)) → (b = false → u = .slice none 0 0 ∧ (0 ≤ (k : Int) → (k : Int) < vl → 4096 < (S.getD (k : Int).toNat noW).2.1)) →
            (u = .slice none 0 0 ∨ ∃ g n c, u = .slice (some ⟨g, 0, none⟩) n c) ∧ (∃ x, w5.cell? ⟨w.heap.size + 1, k, none⟩ = some x) ∧ w5.frozen? ⟨w.heap.size + 1, k, none⟩ = false ∧ ∃ gs' D', VanAt (w5.setCell ⟨w.heap.size + 1, k, none⟩ u) w.heap.size (w.heap.size + 1) vl gs' D' ∧ (∀ i, i < k + 1 → GoneOk R vl i (D'.getD i [])) ∧ (∀ i, k + 1 ≤ i → D'.getD i [] = []) ∧ Below w.heap.size w (w5.setCell ⟨w.heap.size + 1, k, none⟩ u) ∧ Blk (w5.setCell ⟨w.heap.size + 1, k, none⟩ u) w.heap.size 25 #[.slice ta tl tc, .slice va vl vc, .slice ra R.length rc] ∧ MarksAt (w5.setCell ⟨w.heap.size + 1, k, none⟩ u) w1.heap.size (w1.heap.size + 1) (.slice (some ⟨w1.heap.size + 1, 0, none⟩) vl ec) E := fun w5 S u b hI hD hb5 ht hf => by
          have hv5 := HVN.out.below hb5
          have hd : ∃ d, w5.ownsRow w.heap.size 3 1 u d.length (IV d) ∧ GoneOk R vl k d := by
            cases b
            · obtain ⟨rfl, h2⟩ := hf rfl
              exact ⟨[], World.ownsRow_nil _ _ _ _, fun _ => rfl, fun _ => ⟨S, hI, hD, .inl ⟨rfl, by have := h2 (by omega) (by omega); rwa [Int.toNat_natCast] at this⟩⟩⟩
            · obtain ⟨_, _, h3, ks, h4, h5⟩ := ht rfl
              rw [Int.toNat_natCast] at h3
              exact ⟨ks, own_weak h5 HBR.out.size, fun h => (by rw [← HEE.out, ← HB.out] at h; cases h), fun _ => ⟨S, hI, hD, .inr ⟨h3, h4⟩⟩⟩
          obtain ⟨d, hd1, hd2⟩ := hd
          have ho : w5.ownsRow w.heap.size 26 1 (.slice (some ⟨w.heap.size + 1, 0, none⟩) vl vl) vl gs := hv5.out
          have hdl : k < D.length := by rw [hv5.dl]; exact hlt
          have hgs := World.ownsRow.stored ho k u
          refine ⟨?_, ?_, ho.frozenAt k, gs.set k u, D.set k d, hv5.put k hlt u d hd1, fun i hi => ?_, fun i hi => ?_, (HBR.out.trans (hb5.mono HBR.out.size)).setCell (p := ⟨w.heap.size + 1, k, none⟩) (Nat.le_succ _) u, (HGM.out.below hb5 HGM.out.lt).far (p := ⟨w.heap.size + 1, k, none⟩) (by show w.heap.size ≠ w.heap.size + 1; omega) u, ?_⟩
          · rcases hd1.2 with ⟨e, _⟩ | ⟨g, c, cur, e, _⟩
            · exact .inl e
            · exact .inr ⟨g, _, c, e⟩
          · rw [ho.cellAt k (by omega)]
            exact ⟨_, List.getElem?_eq_getElem (by rw [hv5.gl]; exact hlt)⟩
          · rw [getD_setl _ _ _ _ _ hdl]
            split
            · rename_i e; rw [e]; exact hd2
            · exact HDN.out i (by omega)
          · rw [getD_setl _ _ _ _ _ hdl, if_neg (by omega)]
            exact HTD.out i (by omega)
          · obtain ⟨c5, h5⟩ := marks_below HEM.out hb5
            exact ⟨c5, own_grown h5 hgs.2 (row_apart h5 ho (by decide))⟩
        have HSTEP := Lib.hid hstep
        clear hstep
        go_wp2_with (go_at_call 82; refine HSH.out.mono ?_; rintro e w5 ⟨S, u, b5, rfl, hI5, hD5, hb5, ht5, hf5⟩; obtain ⟨hu5, ⟨x5, hx5⟩, hfr5, gs5, D5, hrest5⟩ := HSTEP.out w5 S u b5 hI5 hD5 hb5 ht5 hf5; have HREST := Lib.hid hrest5; clear hrest5 hI5 hD5 hb5 ht5 hf5; rcases hu5 with rfl | ⟨g5, n5, c5, rfl⟩)
        all_goals
          obtain ⟨r1, r2, r3, r4, r5, r6⟩ := HREST.out
          exact ⟨⟨k + 1, gs5, D5, hlt, congrArg (Value.int .i64) (by omega), r1, r2, r3, r4, r5, r6⟩, by simp only [intOf]; omega⟩
    · obtain rfl : vl = k := by omega
      clear hvn hdn htd hbr hgm hem
      go_wp2
      go_ret
      exact ⟨w.heap.size + 1, gs, D, rfl, HVN.out, HDN.out, HBR.out⟩
end Go.Proofs.Ytljkobijoenabaa.dv
namespace Go.Proofs.Ytljkobijoenabaa.dv
set_option linter.unusedVariables false
set_option linter.unusedSimpArgs false
/-! moves: how derivations come to forms that begin with a variable, of as few steps as may be -/
abbrev Mv := Nat × Nat × Nat
def noM : Mv := (0, 0, 4097)
def stM (M : List Mv) (x : Nat) : Nat := (M.getD x noM).2.2
def baseM (v : Nat) (M : List Mv) (l : Nat) : Nat := 1 + (if l = v then 0 else stM M l)
def preC (c : Int → Nat) (L : List Int) (j : Nat) : Nat := ((L.take j).map c).sum
structure MInv (c : Int → Nat) (p : Int → Bool) (vl v : Nat) (R : List Rl) (M : List Mv) : Prop where
  len : M.length = vl
  small : ∀ x, stM M x ≤ 4097
  form : ∀ x, x < vl → stM M x ≤ 4096 → ∃ r, R[(M.getD x noM).1]? = some r ∧ (M.getD x noM).2.1 < (leadF vl p r.right).length ∧ (leadF vl p r.right).getD (M.getD x noM).2.1 0 = (x : Int) ∧ baseM v M r.left.toNat + preC c (leadF vl p r.right) (M.getD x noM).2.1 ≤ stM M x
theorem mv_set (M : List Mv) (k x : Nat) (y : Mv) (hk : k < M.length) : (M.set k y).getD x noM = if x = k then y else M.getD x noM := by
  rw [List.getD_eq_getElem?_getD, List.getElem?_set]
  by_cases h : k = x
  · subst h; simp [hk]
  · rw [if_neg h, if_neg (fun e => h e.symm), List.getD_eq_getElem?_getD]
theorem mv_none (vl x : Nat) : (List.replicate vl noM).getD x noM = noM := by
  rw [List.getD_eq_getElem?_getD, List.getElem?_replicate]
  split <;> rfl
theorem minv_none (c : Int → Nat) (p : Int → Bool) (vl v : Nat) (R : List Rl) : MInv c p vl v R (List.replicate vl noM) :=
  ⟨by simp, fun x => by unfold stM; rw [mv_none]; exact Nat.le_refl _, fun x _ h => by unfold stM at h; rw [mv_none] at h; exact absurd h (by decide)⟩
def muM (M : List Mv) : Nat := (M.map fun m => m.2.2).sum
theorem muM_set : ∀ (M : List Mv) (x : Nat) (y : Mv), x < M.length → y.2.2 < stM M x → muM (M.set x y) < muM M
  | m :: M, 0, y, _, h => by
    unfold muM
    unfold stM at h
    simp only [List.set_cons_zero, List.map_cons, List.sum_cons]
    simp only [List.getD_cons_zero] at h
    omega
  | m :: M, x + 1, y, hl, h => by
    have ih := muM_set M x y (by simpa using hl) (by unfold stM at *; simpa using h)
    unfold muM at *
    simp only [List.set_cons_succ, List.map_cons, List.sum_cons]
    omega
theorem minv_set {c : Int → Nat} {p : Int → Bool} {vl v : Nat} {R : List Rl} {M : List Mv} (h : MInv c p vl v R M) {k j st x : Nat} {r : Rl} (hk : R[k]? = some r) (hj : j < (leadF vl p r.right).length) (hx : (leadF vl p r.right).getD j 0 = (x : Int)) (hxl : x < vl) (hst : baseM v M r.left.toNat + preC c (leadF vl p r.right) j ≤ st) (hlt : st < stM M x) : MInv c p vl v R (M.set x (k, j, st)) ∧ muM (M.set x (k, j, st)) < muM M ∧ ∀ y, stM (M.set x (k, j, st)) y ≤ stM M y := by
  have hl : x < M.length := by rw [h.len]; exact hxl
  have hmono : ∀ y, stM (M.set x (k, j, st)) y ≤ stM M y := fun y => by
    unfold stM
    rw [mv_set _ _ _ _ hl]
    split
    · rename_i e; subst e; unfold stM at hlt; exact Nat.le_of_lt hlt
    · exact Nat.le_refl _
  have hbase : ∀ l, baseM v (M.set x (k, j, st)) l ≤ baseM v M l := fun l => by
    unfold baseM
    split
    · exact Nat.le_refl _
    · have := hmono l; omega
  refine ⟨⟨by simpa using h.len, fun y => Nat.le_trans (hmono y) (h.small y), fun y hy hs => ?_⟩, muM_set _ _ _ hl hlt, hmono⟩
  by_cases e : y = x
  · subst e
    have eq : (M.set y (k, j, st)).getD y noM = (k, j, st) := by rw [mv_set _ _ _ _ hl, if_pos rfl]
    unfold stM
    rw [eq]
    refine ⟨r, hk, hj, hx, ?_⟩
    have := hbase r.left.toNat
    show baseM v (M.set y (k, j, st)) r.left.toNat + preC c (leadF vl p r.right) j ≤ st
    omega
  · have eq : (M.set x (k, j, st)).getD y noM = M.getD y noM := by rw [mv_set _ _ _ _ hl, if_neg e]
    have hs' : stM M y ≤ 4096 := by unfold stM at *; rwa [eq] at hs
    obtain ⟨q, g1, g2, g3, g4⟩ := h.form y hy hs'
    unfold stM at *
    rw [eq]
    refine ⟨q, g1, g2, g3, ?_⟩
    have := hbase q.left.toNat
    omega
/-- nothing comes by fewer steps any more -/
def SatM (c : Int → Nat) (p : Int → Bool) (vl v : Nat) (R : List Rl) (M : List Mv) (i : Nat) : Prop := ∀ r, R[i]? = some r → ∀ j, j < (leadF vl p r.right).length → stM M ((leadF vl p r.right).getD j 0).toNat ≤ baseM v M r.left.toNat + preC c (leadF vl p r.right) j
theorem preC_succ (c : Int → Nat) (L : List Int) (j : Nat) (h : j < L.length) : preC c L (j + 1) = preC c L j + c (L.getD j 0) := by
  unfold preC
  rw [List.take_succ_eq_append_getElem h, List.map_append, List.sum_append, List.getD_eq_getElem?_getD, List.getElem?_eq_getElem h]
  simp
theorem lead_at (vl : Nat) (p : Int → Bool) : ∀ (F : List Int) (j : Nat), j < (leadF vl p F).length → F = F.take j ++ (leadF vl p F).getD j 0 :: F.drop (j + 1) ∧ F.take j = (leadF vl p F).take j ∧ ∀ s ∈ F.take j, p s = true ∧ 0 ≤ s ∧ s < vl
  | [], j, h => by simp [leadF] at h
  | s :: F, j, h => by
    rw [leadF] at h
    by_cases hs : 0 ≤ s ∧ s < vl
    · rw [if_pos hs] at h
      by_cases hp : p s = true
      · rw [if_pos hp] at h
        cases j with
        | zero => rw [leadF, if_pos hs, if_pos hp]; exact ⟨rfl, rfl, fun t ht => by cases ht⟩
        | succ j =>
          obtain ⟨h1, h2, h3⟩ := lead_at vl p F j (by simpa using h)
          rw [leadF, if_pos hs, if_pos hp]
          refine ⟨?_, ?_, fun t ht => ?_⟩
          · simp only [List.take_succ_cons, List.drop_succ_cons, List.getD_cons_succ, List.cons_append]
            rw [← h1]
          · simp only [List.take_succ_cons]; rw [h2]
          · rw [List.take_succ_cons] at ht
            rcases List.mem_cons.1 ht with rfl | ht
            · exact ⟨hp, hs⟩
            · exact h3 t ht
      · rw [if_neg hp] at h
        obtain rfl : j = 0 := by simp at h; exact h
        rw [leadF, if_pos hs, if_neg hp]
        exact ⟨rfl, rfl, fun t ht => by cases ht⟩
    · rw [if_neg hs] at h
      simp at h
/-- the moves ahead of one another -/
inductive ChainM (v : Nat) (R : List Rl) (M : List Mv) (x : Nat) : List Mv → Nat → Prop
  | nil : ChainM v R M x [] x
  | snoc {q : List Mv} {u : Nat} {r : Rl} (h : ChainM v R M x q u) (h0 : q = [] ∨ u ≠ v) (h1 : R[(M.getD u noM).1]? = some r) : ChainM v R M x (q ++ [M.getD u noM]) r.left.toNat
def oneM (R : List Rl) (gone : Int → List Int) (m : Mv) : List Int := (m.1 : Int) :: ((ruleW R m.1).take m.2.1).flatMap gone
def rulesM (R : List Rl) (gone : Int → List Int) (ps : List Mv) : List Int := ps.flatMap (oneM R gone)
theorem rulesM_len (gone : Int → List Int) (L : List Int) : (L.flatMap gone).length = (L.map fun s => (gone s).length).sum := List.length_flatMap
section
variable {c : Int → Nat} {p : Int → Bool} {vl v : Nat} {R : List Rl} {M : List Mv} {gone : Int → List Int}
theorem ruleW_at {k : Nat} {r : Rl} (h : R[k]? = some r) : ruleW R (k : Int) = r.right := by
  unfold ruleW
  rw [Int.toNat_natCast, List.getD_eq_getElem?_getD, h]
  rfl
theorem chain_sum (hI : MInv c p vl v R M) (hc : ∀ s, c s = (gone s).length) (hl : ∀ r ∈ R, 0 ≤ r.left ∧ r.left < vl) {x : Nat} (hx : x < vl) (hs : stM M x ≤ 4096) {q : List Mv} {u : Nat} (h : ChainM v R M x q u) : u < vl ∧ (rulesM R gone q.reverse).length + (if q ≠ [] ∧ u = v then 0 else stM M u) ≤ stM M x ∧ q.length ≤ (rulesM R gone q.reverse).length := by
  induction h with
  | nil => exact ⟨hx, by simp [rulesM], by simp⟩
  | @snoc q u r h h0 h1 ih =>
    obtain ⟨i1, i2, i3⟩ := ih
    have hu : ¬ (q ≠ [] ∧ u = v) := fun e => h0.elim (fun a => e.1 a) (fun a => a e.2)
    rw [if_neg hu] at i2
    obtain ⟨r', g1, g2, g3, g4⟩ := hI.form u i1 (by omega)
    rw [h1] at g1
    cases g1
    have hr := hl r (List.mem_of_getElem? h1)
    obtain ⟨a1, a2, a3⟩ := lead_at vl p r.right _ g2
    have e1 : (rulesM R gone (q ++ [M.getD u noM]).reverse).length = 1 + preC c (leadF vl p r.right) (M.getD u noM).2.1 + (rulesM R gone q.reverse).length := by
      rw [List.reverse_append]
      show (oneM R gone (M.getD u noM) ++ rulesM R gone q.reverse).length = _
      rw [List.length_append]
      unfold oneM
      rw [List.length_cons, rulesM_len, ruleW_at h1, a2]
      unfold preC
      rw [show (fun s => (gone s).length) = c from funext fun s => (hc s).symm]
      omega
    unfold baseM at g4
    refine ⟨by omega, ?_, ?_⟩
    · rw [e1]
      by_cases hv : r.left.toNat = v
      · rw [if_pos ⟨by simp, hv⟩]
        omega
      · rw [if_neg (fun e => hv e.2)]
        rw [if_neg hv] at g4
        omega
    · rw [e1, List.length_append]
      simp
      omega
/-- what vanishes is taken off -/
theorem gone_all (hG : ∀ s : Int, 0 ≤ s → s < vl → p s = true → ∀ (X ms : List Int) (i : Nat), replW R (s :: X) (gone s ++ ms) i = replW R X ms (i + (gone s).length)) : ∀ (L X ms : List Int) (i : Nat), (∀ s ∈ L, p s = true ∧ 0 ≤ s ∧ s < vl) → replW R (L ++ X) (L.flatMap gone ++ ms) i = replW R X ms (i + (L.flatMap gone).length)
  | [], X, ms, i, _ => by simp
  | s :: L, X, ms, i, h => by
    obtain ⟨h1, h2, h3⟩ := h s (by simp)
    have ih := gone_all hG L X ms (i + (gone s).length) (fun t ht => h t (List.mem_cons_of_mem _ ht))
    rw [List.flatMap_cons, List.append_assoc, List.cons_append, hG s h2 h3 h1, ih, List.length_append]
    congr 1
    omega
theorem chain_replay (hI : MInv c p vl v R M) (hc : ∀ s, c s = (gone s).length) (hl : ∀ r ∈ R, 0 ≤ r.left ∧ r.left < vl) (hG : ∀ s : Int, 0 ≤ s → s < vl → p s = true → ∀ (X ms : List Int) (i : Nat), replW R (s :: X) (gone s ++ ms) i = replW R X ms (i + (gone s).length)) {x : Nat} (hx : x < vl) (hs : stM M x ≤ 4096) {q : List Mv} {u : Nat} (h : ChainM v R M x q u) : ∀ (X ms : List Int) (i : Nat), ∃ X', replW R ((u : Int) :: X) (rulesM R gone q.reverse ++ ms) i = replW R ((x : Int) :: X') ms (i + (rulesM R gone q.reverse).length) := by
  induction h with
  | nil => exact fun X ms i => ⟨X, by simp [rulesM]⟩
  | @snoc q u r h h0 h1 ih =>
    intro X ms i
    obtain ⟨i1, i2, i3⟩ := chain_sum hI hc hl hx hs h
    have hu : ¬ (q ≠ [] ∧ u = v) := fun e => h0.elim (fun a => e.1 a) (fun a => a e.2)
    rw [if_neg hu] at i2
    obtain ⟨r', g1, g2, g3, g4⟩ := hI.form u i1 (by omega)
    rw [h1] at g1
    cases g1
    have hr := hl r (List.mem_of_getElem? h1)
    obtain ⟨a1, a2, a3⟩ := lead_at vl p r.right _ g2
    rw [g3] at a1
    have e0 : rulesM R gone (q ++ [M.getD u noM]).reverse = oneM R gone (M.getD u noM) ++ rulesM R gone q.reverse := by
      rw [List.reverse_append]
      rfl
    have hk : (M.getD u noM).1 < R.length := (List.getElem?_eq_some_iff.1 h1).1
    obtain ⟨f1, f2, f3⟩ := lead_var [] X ((r.left.toNat : Nat) : Int) (by simp) (by omega)
    simp only [List.nil_append] at f1 f2 f3
    have hE : refW R (fvW (((r.left.toNat : Nat) : Int) :: X)) ((M.getD u noM).1 : Int) = 0 := by
      rw [f3]
      unfold refW
      rw [if_pos (by unfold isRl; rw [Bool.and_eq_true, decide_eq_true_eq, decide_eq_true_eq]; omega), if_pos (by omega), List.getD_eq_getElem?_getD, Int.toNat_natCast, h1, if_pos]
      show r.left = _
      omega
    have hst : stepL R (((r.left.toNat : Nat) : Int) :: X) ((M.getD u noM).1 : Int) = r.right.take (M.getD u noM).2.1 ++ ((u : Int) :: (r.right.drop ((M.getD u noM).2.1 + 1) ++ X)) := by
      unfold stepL
      rw [f1, f2, ruleW_at h1, List.nil_append, List.tail_cons]
      conv => lhs; rw [a1]
      simp
    obtain ⟨X', hX⟩ := ih (r.right.drop ((M.getD u noM).2.1 + 1) ++ X) ms (i + 1 + ((r.right.take (M.getD u noM).2.1).flatMap gone).length)
    refine ⟨X', ?_⟩
    rw [e0]
    unfold oneM
    rw [ruleW_at h1, List.cons_append, List.cons_append, repl_cons, if_pos hE, hst, List.append_assoc, gone_all hG _ _ _ _ a3, hX]
    congr 1
    simp
    omega
end
/-! of as few steps as may be -/
section
variable {c : Int → Nat} {p : Int → Bool} {vl v : Nat} {R : List Rl} {M : List Mv}
theorem preC_le (hc : ∀ s, p s = true → c s ≤ 50) (F : List Int) (hF : F.length ≤ 8) (j : Nat) (hj : j < (leadF vl p F).length) : preC c (leadF vl p F) j ≤ 350 := by
  obtain ⟨h1, h2, h3⟩ := lead_at vl p F j hj
  unfold preC
  rw [← h2]
  have e : (F.take j).length ≤ 7 := by
    have := leadF_le vl p F
    rw [List.length_take]
    omega
  have key : ∀ L : List Int, (∀ s ∈ L, p s = true) → (L.map c).sum ≤ L.length * 50 := fun L => by
    induction L with
    | nil => intro _; simp
    | cons s L ih =>
      intro h
      have a := ih (fun t ht => h t (List.mem_cons_of_mem _ ht))
      have b := hc s (h s (by simp))
      simp only [List.map_cons, List.sum_cons, List.length_cons, Nat.succ_mul]
      omega
  have := key (F.take j) (fun s hs => (h3 s hs).1)
  have h4 : (F.take j).length * 50 ≤ 7 * 50 := Nat.mul_le_mul_right _ e
  omega
theorem edge_le (hsat : ∀ i, i < R.length → SatM c p vl v R M i) (hc : ∀ s, p s = true → c s ≤ 50) (h8 : ∀ r ∈ R, r.right.length ≤ 8) (hl : ∀ r ∈ R, 0 ≤ r.left ∧ r.left < vl) {x y : Nat} (h : fst1 vl p R x y = true) : stM M y ≤ baseM v M x + 350 := by
  unfold fst1 at h
  obtain ⟨r, hr, hh⟩ := List.any_eq_true.1 h
  simp only [Bool.and_eq_true, decide_eq_true_eq] at hh
  obtain ⟨hx, hy⟩ := hh
  obtain ⟨j, hj, ej⟩ := List.mem_iff_getElem.1 hy
  obtain ⟨i, hi, rfl⟩ := List.mem_iff_getElem.1 hr
  have h1 := hsat i hi _ (List.getElem?_eq_getElem hi) j hj
  have h2 := preC_le (vl := vl) hc R[i].right (h8 _ hr) j hj
  rw [List.getD_eq_getElem?_getD, List.getElem?_eq_getElem hj, Option.getD_some, ej] at h1
  rw [show R[i].left.toNat = x by omega] at h1
  rw [show ((y : Int)).toNat = y by omega] at h1
  omega
/-- those that are come to by few steps -/
def fewM (M : List Mv) (vl t : Nat) : List Nat := (List.range vl).filter fun x => decide (stM M x ≤ 351 * t)
theorem few_grow (M : List Mv) (vl t : Nat) : (fewM M vl t).length ≤ (fewM M vl (t + 1)).length ∧ ((∃ x, x < vl ∧ stM M x ≤ 351 * (t + 1) ∧ ¬ stM M x ≤ 351 * t) → (fewM M vl t).length < (fewM M vl (t + 1)).length) := by
  have key : ∀ L : List Nat, (L.filter fun x => decide (stM M x ≤ 351 * t)).length ≤ (L.filter fun x => decide (stM M x ≤ 351 * (t + 1))).length ∧ ((∃ x ∈ L, stM M x ≤ 351 * (t + 1) ∧ ¬ stM M x ≤ 351 * t) → (L.filter fun x => decide (stM M x ≤ 351 * t)).length < (L.filter fun x => decide (stM M x ≤ 351 * (t + 1))).length) := fun L => by
    induction L with
    | nil => exact ⟨Nat.le_refl _, fun ⟨x, hx, _⟩ => by cases hx⟩
    | cons y L ih =>
      obtain ⟨i1, i2⟩ := ih
      by_cases h1 : stM M y ≤ 351 * t
      · have h2 : stM M y ≤ 351 * (t + 1) := by omega
        rw [List.filter_cons_of_pos (by simpa using h1), List.filter_cons_of_pos (by simpa using h2)]
        refine ⟨by simpa using i1, fun ⟨x, hx, a, b⟩ => ?_⟩
        rcases List.mem_cons.1 hx with rfl | hx
        · exact absurd h1 b
        · simpa using i2 ⟨x, hx, a, b⟩
      · rw [List.filter_cons_of_neg (by simpa using h1)]
        by_cases h2 : stM M y ≤ 351 * (t + 1)
        · rw [List.filter_cons_of_pos (by simpa using h2)]
          simp only [List.length_cons]
          exact ⟨by omega, fun _ => by omega⟩
        · rw [List.filter_cons_of_neg (by simpa using h2)]
          refine ⟨i1, fun ⟨x, hx, a, b⟩ => ?_⟩
          rcases List.mem_cons.1 hx with rfl | hx
          · exact absurd a h2
          · exact i2 ⟨x, hx, a, b⟩
  exact ⟨(key _).1, fun ⟨x, hx, h⟩ => (key _).2 ⟨x, by simpa using hx, h⟩⟩
/-- whatever one comes to is come to by few steps -/
theorem reach_few (hsat : ∀ i, i < R.length → SatM c p vl v R M i) (hc : ∀ s, p s = true → c s ≤ 50) (h8 : ∀ r ∈ R, r.right.length ≤ 8) (hl : ∀ r ∈ R, 0 ≤ r.left ∧ r.left < vl) (hv : vl ≤ 8) {x : Nat} (h : wsh (fst1 vl p R) vl v x = true) : stM M x ≤ 4096 := by
  have hout : ∀ a b, fst1 vl p R a b = true → a < vl ∧ b < vl := fun a b hab => by
    unfold fst1 at hab
    obtain ⟨r, hr, hh⟩ := List.any_eq_true.1 hab
    simp only [Bool.and_eq_true, decide_eq_true_eq] at hh
    have := hl r hr
    have h2 := leadF_var vl p r.right _ hh.2
    omega
  have hvl := (wsh_out _ vl hout vl v x h)
  -- a round that brings nothing new
  have hst : ∃ t, 1 ≤ t ∧ t ≤ 9 ∧ ∀ y, y < vl → stM M y ≤ 351 * (t + 1) → stM M y ≤ 351 * t := by
    apply Classical.byContradiction
    intro hno
    have hgr : ∀ t, t ≤ 9 → t ≤ (fewM M vl (t + 1)).length := fun t => by
      induction t with
      | zero => intro _; exact Nat.zero_le _
      | succ t ih =>
        intro ht
        have h1 := ih (by omega)
        have h2 : (fewM M vl (t + 1)).length < (fewM M vl (t + 1 + 1)).length := (few_grow M vl (t + 1)).2 (by
          apply Classical.byContradiction
          intro hn
          refine hno ⟨t + 1, by omega, ht, fun y hy h3 => ?_⟩
          apply Classical.byContradiction
          intro h4
          exact hn ⟨y, hy, h3, h4⟩)
        omega
    have h3 := hgr 9 (Nat.le_refl _)
    have h4 : (fewM M vl (9 + 1)).length ≤ vl := by
      unfold fewM
      refine Nat.le_trans (List.length_filter_le _ _) ?_
      simp
    omega
  obtain ⟨t, ht1, ht9, hcl⟩ := hst
  have hclose : ∀ a b, (a = v ∨ stM M a ≤ 351 * t) → fst1 vl p R a b = true → stM M b ≤ 351 * t := fun a b hab hf => by
    have h1 := edge_le hsat hc h8 hl hf
    have h2 := (hout a b hf).2
    refine hcl b h2 ?_
    unfold baseM at h1
    by_cases e : a = v
    · rw [if_pos e] at h1; omega
    · rw [if_neg e] at h1
      have := hab.resolve_left e
      omega
  have hall : ∀ k a b, (a = v ∨ stM M a ≤ 351 * t) → wsh (fst1 vl p R) k a b = true → stM M b ≤ 351 * t := fun k => by
    induction k with
    | zero => exact fun a b h1 h2 => hclose a b h1 h2
    | succ k ih =>
      intro a b h1 h2
      unfold wsh at h2
      simp only [Bool.or_eq_true, Bool.and_eq_true] at h2
      rcases h2 with h2 | ⟨h2, h3⟩
      · exact ih a b h1 h2
      · exact ih k b (.inr (ih a k h1 h2)) h3
  have := hall vl v x (.inl rfl) h
  omega
end
/-! what vanishes, and by how many steps -/
theorem exps_behind {R : List Rl} {n : Nat} {W : List Way} (hI : Inv R n W) (hd : Done R W) {F ks : List Int} (h : Exps R W F ks) : ∀ (D X ms : List Int) (i : Nat), (∀ x ∈ D, x < 0) →
    ∃ G, replW R (D ++ (F ++ X)) (ks ++ ms) i = replW R (G ++ X) ms (i + ks.length) ∧ (∀ x ∈ G, x < 0) ∧ G.length = D.length + sumC (fun v => (W.getD v noW).1) F := by
  induction h with
  | nil =>
    intro D X ms i hD
    exact ⟨D, by simp, hD, by simp [sumC]⟩
  | @term s F ks h0 _ ih =>
    intro D X ms i hD
    obtain ⟨G, h1, h2, h3⟩ := ih (D ++ [s]) X ms i (fun x hx => by
      rcases List.mem_append.1 hx with h | h
      · exact hD x h
      · rw [List.mem_singleton.1 h]; exact h0)
    refine ⟨G, by simpa using h1, h2, ?_⟩
    rw [h3]
    unfold sumC
    simp [h0]
    omega
  | @var s k r F ks h0 h1 h2 _ ih =>
    intro D X ms i hD
    obtain ⟨e1, e2, e3, _⟩ := way_eq hI hd h1 h2
    obtain ⟨f1, f2, f3⟩ := fv_app (X := F ++ X) hD h0
    have hk : k < R.length := (List.getElem?_eq_some_iff.1 h2).1
    have hE : refW R (fvW (D ++ s :: (F ++ X))) k = 0 := by
      rw [f1]
      unfold refW
      rw [if_pos (by unfold isRl; rw [Bool.and_eq_true, decide_eq_true_eq, decide_eq_true_eq]; omega), if_pos h0, List.getD_eq_getElem?_getD, Int.toNat_natCast, h2, if_pos]
      show r.left = s
      omega
    have hst : stepL R (D ++ s :: (F ++ X)) k = D ++ ((r.right ++ F) ++ X) := by
      unfold stepL
      rw [f2, f3, ruleW_at h2, List.tail_cons, List.append_assoc]
    obtain ⟨G, g1, g2, g3⟩ := ih D X ms (i + 1) hD
    refine ⟨G, ?_, g2, ?_⟩
    · rw [List.cons_append, List.cons_append, repl_cons, if_pos hE, hst, g1, List.length_cons]
      congr 1
      omega
    · rw [g3, sumC_app]
      have e : cS W r.right = sumC (fun v => (W.getD v noW).1) r.right := by
        unfold cS sumC
        congr 1
        apply List.map_congr_left
        intro s _
        unfold wat
        split <;> rfl
      rw [← e, ← e3]
      unfold sumC
      simp only [List.map_cons, List.sum_cons]
      rw [if_neg (by omega)]
theorem exps_len {R : List Rl} {n : Nat} {W : List Way} (hI : Inv R n W) (hd : Done R W) (h8 : ∀ r ∈ R, r.right.length ≤ 8) (hn : n ≤ 8) {F ks : List Int} (h : Exps R W F ks) : (∀ s ∈ F, 0 ≤ s → s < n) → ks.length = sS W F := by
  obtain ⟨rk, r1, r2⟩ := steps_small hI hd h8 hn
  induction h with
  | nil => intro _; rfl
  | @term s F ks h0 _ ih =>
    intro hF
    rw [ih (fun t ht => hF t (List.mem_cons_of_mem _ ht))]
    unfold sS wat
    simp only [List.map_cons, List.sum_cons, if_pos h0]
    omega
  | @var s k r F ks h0 h1 h2 _ ih =>
    intro hF
    have hs := hF s (by simp) h0
    have hsn : s.toNat < n := by omega
    have hrk := r1 _ hsn
    obtain ⟨_, g2, g3⟩ := r2 (rk s.toNat) s.toNat k r hsn (Nat.le_refl _) h1 h2
    have g2' := g2 (by omega)
    rw [List.length_cons, ih (fun t ht h0 => by
      rcases List.mem_append.1 ht with h | h
      · have := (g3 t h h0).1; omega
      · exact hF t (List.mem_cons_of_mem _ h) h0)]
    unfold sS at g2' ⊢
    simp only [List.map_cons, List.sum_cons, List.map_append, List.sum_append, wat_var h0]
    omega
/-- as the statement counts: rounds, in place -/
def slowN (S : List Nat) : List Int → Nat → Nat
  | [], n => n
  | s :: F, n => slowN S F (if s < 0 ∨ S.getD s.toNat 0 = 0 then 1048576 else min (n + S.getD s.toNat 0) 1048576)
def slowR (S : List Nat) (r : Rl) : List Nat := if slowN S r.right 1 < 1048576 then S.set r.left.toNat (max (S.getD r.left.toNat 0) (slowN S r.right 1)) else S
def slowP (R : List Rl) (S : List Nat) : List Nat := R.foldl slowR S
def slowA (R : List Rl) : Nat → List Nat → List Nat
  | 0, S => S
  | k + 1, S => slowA R k (slowP R S)
def leN (S T : List Nat) : Prop := S.length = T.length ∧ ∀ x, S.getD x 0 ≤ T.getD x 0
theorem leN.refl (S : List Nat) : leN S S := ⟨rfl, fun _ => Nat.le_refl _⟩
theorem leN.trans {A B C : List Nat} (h : leN A B) (k : leN B C) : leN A C := ⟨h.1.trans k.1, fun x => Nat.le_trans (h.2 x) (k.2 x)⟩
theorem nat_set (S : List Nat) (k x y : Nat) (hk : k < S.length) : (S.set k y).getD x 0 = if x = k then y else S.getD x 0 := by
  rw [List.getD_eq_getElem?_getD, List.getElem?_set]
  by_cases h : k = x
  · subst h; simp [hk]
  · rw [if_neg h, if_neg (fun e => h e.symm), List.getD_eq_getElem?_getD]
theorem slowR_ge (S : List Nat) (r : Rl) : leN S (slowR S r) := by
  unfold slowR
  split
  · by_cases h : r.left.toNat < S.length
    · refine ⟨by simp, fun x => ?_⟩
      rw [nat_set _ _ _ _ h]
      split
      · rename_i e; subst e; exact Nat.le_max_left _ _
      · exact Nat.le_refl _
    · rw [List.set_eq_of_length_le (by omega)]
      exact leN.refl _
  · exact leN.refl _
theorem slowP_ge : ∀ (R : List Rl) (S : List Nat), leN S (slowP R S)
  | [], S => leN.refl _
  | r :: R, S => (slowR_ge S r).trans (slowP_ge R (slowR S r))
theorem slowA_ge (R : List Rl) : ∀ (k : Nat) (S : List Nat), leN S (slowA R k S)
  | 0, S => leN.refl _
  | k + 1, S => (slowP_ge R S).trans (slowA_ge R k (slowP R S))
theorem slowN_sum (S : List Nat) : ∀ (F : List Int) (n : Nat), (∀ s ∈ F, 0 ≤ s ∧ 0 < S.getD s.toNat 0 ∧ S.getD s.toNat 0 ≤ 50) → n + F.length * 50 < 1048576 → slowN S F n = n + (F.map fun s => S.getD s.toNat 0).sum
  | [], n, _, _ => by simp [slowN]
  | s :: F, n, h, hn => by
    obtain ⟨h0, h1, h2⟩ := h s (by simp)
    rw [List.length_cons, Nat.succ_mul] at hn
    rw [slowN, if_neg (by omega), slowN_sum S F _ (fun t ht => h t (List.mem_cons_of_mem _ ht)) (by omega)]
    simp only [List.map_cons, List.sum_cons]
    omega
/-- a rule whose symbols all vanish brings its steps -/
theorem slowR_has {S0 S : List Nat} {r : Rl} (h0 : leN S0 S) (h8 : r.right.length ≤ 8) (hl : r.left.toNat < S.length) (hs : ∀ s ∈ r.right, 0 ≤ s ∧ 0 < S0.getD s.toNat 0) (hb : ∀ x, (slowR S r).getD x 0 ≤ 50) : 1 + (r.right.map fun s => S0.getD s.toNat 0).sum ≤ (slowR S r).getD r.left.toNat 0 := by
  have hb0 : ∀ x, S.getD x 0 ≤ 50 := fun x => Nat.le_trans ((slowR_ge S r).2 x) (hb x)
  have e := slowN_sum S r.right 1 (fun s h => ⟨(hs s h).1, Nat.lt_of_lt_of_le (hs s h).2 (h0.2 _), hb0 _⟩) (by omega)
  have h1 : (r.right.map fun s => S0.getD s.toNat 0).sum ≤ (r.right.map fun s => S.getD s.toNat 0).sum := sum_mono r.right (fun s _ => h0.2 _)
  have h2 : (r.right.map fun s => S.getD s.toNat 0).sum ≤ r.right.length * 50 := sum_le (fun s => S.getD s.toNat 0) 50 r.right (fun s _ => hb0 _)
  unfold slowR
  rw [if_pos (by omega), nat_set _ _ _ _ hl, if_pos rfl]
  have := Nat.le_max_right (S.getD r.left.toNat 0) (slowN S r.right 1)
  omega
/-- what a round of marks finds, a round of steps counts -/
def CovN (W : List Way) (N : List Bool) (S : List Nat) : Prop := ∀ x, N.getD x false = true → (W.getD x noW).1 = 0 ∧ (W.getD x noW).2.1 ≤ S.getD x 0 ∧ 0 < S.getD x 0
theorem sS_le_map {W : List Way} {S : List Nat} : ∀ (F : List Int), (∀ s ∈ F, 0 ≤ s ∧ (W.getD s.toNat noW).1 = 0 ∧ (W.getD s.toNat noW).2.1 ≤ S.getD s.toNat 0) → cS W F = 0 ∧ sS W F ≤ (F.map fun s => S.getD s.toNat 0).sum
  | [], _ => ⟨rfl, Nat.le_refl _⟩
  | s :: F, h => by
    obtain ⟨i1, i2⟩ := sS_le_map F (fun t ht => h t (List.mem_cons_of_mem _ ht))
    obtain ⟨h0, h1, h2⟩ := h s (by simp)
    unfold cS sS at *
    simp only [List.map_cons, List.sum_cons, wat_var h0]
    omega
theorem cov_round {R R0 : List Rl} {n : Nat} {W : List Way} (hd : Done R0 W) (hsm : ∀ x, (W.getD x noW).1 ≤ Far) (h8 : ∀ r ∈ R0, r.right.length ≤ 8) (N : List Bool) (S0 : List Nat) (hcov : CovN W N S0) (hl : ∀ r ∈ R0, 0 ≤ r.left ∧ r.left < n) (hn : S0.length = n) (hR : ∀ r ∈ R, r ∈ R0) : ∀ (K : List Bool) (S : List Nat), leN S0 S → (∀ x, (slowP R S).getD x 0 ≤ 50) → CovN W K S → CovN W (roundB true N R K) (slowP R S) := by
  induction R with
  | nil => exact fun K S _ _ h => h
  | cons r R ih =>
    intro K S h0 hb hK
    have hr := hR r (by simp)
    have hrl := hl r hr
    have hge : leN S (slowR S r) := slowR_ge S r
    have hb1 : ∀ x, (slowR S r).getD x 0 ≤ 50 := fun x => Nat.le_trans ((slowP_ge R (slowR S r)).2 x) (hb x)
    rw [roundB]
    refine ih (fun q hq => hR q (List.mem_cons_of_mem _ hq)) _ _ (h0.trans hge) hb ?_
    have hKeep : CovN W K (slowR S r) := fun x hx => by
      obtain ⟨a, b, c⟩ := hK x hx
      have := hge.2 x
      exact ⟨a, by omega, by omega⟩
    split
    · rename_i ha
      intro x hx
      rw [set_at] at hx
      rcases hx with hx | ⟨rfl, hx⟩
      · exact hKeep x hx
      · have hsy : ∀ s ∈ r.right, 0 ≤ s ∧ N.getD s.toNat false = true := fun s hs => by
          unfold allB at ha
          rw [List.all_eq_true] at ha
          have := ha s hs
          by_cases h : s < 0
          · rw [if_pos h] at this; cases this
          · rw [if_neg h] at this; exact ⟨by omega, this⟩
        have hlen : r.left.toNat < S.length := by have := h0.1; omega
        have h3 := slowR_has h0 (h8 r hr) hlen (fun s hs => ⟨(hsy s hs).1, (hcov _ (hsy s hs).2).2.2⟩) hb1
        obtain ⟨c1, c2⟩ := sS_le_map (W := W) (S := S0) r.right (fun s hs => ⟨(hsy s hs).1, (hcov _ (hsy s hs).2).1, (hcov _ (hsy s hs).2).2.1⟩)
        obtain ⟨i, hi, ei⟩ := List.mem_iff_getElem.1 hr
        have h5 := leq_of_not (hd i r (by rw [List.getElem?_eq_getElem hi, ei]))
        unfold wayB at h5
        rw [c1, if_neg (by decide)] at h5
        unfold leq at h5
        simp only at h5
        exact ⟨by omega, by omega, by omega⟩
    · exact hKeep
theorem cov_rounds {R : List Rl} {n : Nat} {W : List Way} (hd : Done R W) (hsm : ∀ x, (W.getD x noW).1 ≤ Far) (h8 : ∀ r ∈ R, r.right.length ≤ 8) (hl : ∀ r ∈ R, 0 ≤ r.left ∧ r.left < n) : ∀ (k : Nat) (N : List Bool) (S : List Nat), S.length = n → (∀ x, (slowA R k S).getD x 0 ≤ 50) → CovN W N S → CovN W (roundsB R true k N) (slowA R k S)
  | 0, N, S, _, _, h => h
  | k + 1, N, S, hn, hb, h => by
    rw [roundsB, slowA]
    have hb1 : ∀ x, (slowP R S).getD x 0 ≤ 50 := fun x => Nat.le_trans ((slowA_ge R k (slowP R S)).2 x) (hb x)
    exact cov_rounds hd hsm h8 hl k _ _ (by rw [← (slowP_ge R S).1]; exact hn) hb (cov_round hd hsm h8 N S h hl hn (fun _ h => h) N S (leN.refl _) hb1 h)
/-- where nothing is slow, whatever vanishes does so by few steps -/
theorem not_slow {R : List Rl} {n : Nat} {W : List Way} (hI : Inv R n W) (hd : Done R W) (h8 : ∀ r ∈ R, r.right.length ≤ 8) (hl : ∀ r ∈ R, 0 ≤ r.left ∧ r.left < n) (hb : ∀ x, (slowA R n (List.replicate n 0)).getD x 0 ≤ 50) {x : Nat} (hx : (roundsB R true n (List.replicate n false)).getD x false = true) : (W.getD x noW).2.1 ≤ 50 := by
  have := cov_rounds hd (fun x => (hI.small x).1) h8 hl n (List.replicate n false) (List.replicate n 0) (by simp) hb (fun y hy => by
    rw [List.getD_eq_getElem?_getD, List.getElem?_replicate] at hy
    split at hy <;> cases hy)
  have h2 := this x hx
  have := hb x
  omega
end Go.Proofs.Ytljkobijoenabaa.dv
namespace Go.Proofs.Ytljkobijoenabaa.dv
open Go.ChangeShapes Go.WideShapes Go.ChangeAt Go.RowKit Go.Maps Go.WideMaps Go.WideElems Go.Shelf
set_option linter.unusedVariables false
set_option linter.unusedSimpArgs false
/-! left: moves in a row of one's own; slices.Repeat of one; what vanishes -/
theorem info_move : (Try.prog.info? 86).map (fun i => (i.zero, i.size, i.bytes)) = some (some (.agg #[.int .i64 0, .int .i64 0, .int .i64 0]), 3, 24) := by kernel_rfl
def MovesAt (w : World) (B m : Nat) (v : Value) (S : List Way) : Prop := (∃ cap, v = .slice (some ⟨m, 0, none⟩) S.length cap) ∧ w.ownsRow B 86 3 v S.length (WV S)
def RepM (B m n : Nat) (y : Way) (w : World) (q : Value) (wr : World) : Prop := ∃ k : Nat, 0 < k ∧ k ≤ n ∧ q = .int .i64 k ∧ wr.heap[m]? = some (.cells (WV (List.replicate k y ++ List.replicate (n - k) zW)).toArray 86 (0, 0)) ∧ Below B w wr
set_option maxRecDepth 100000 in
/-- what copy does to a row of ways -/
theorem copy_moves (W : World) (B g n k m o dLen dCap sLen sCap : Nat) (a : Addr) (y : Way) (ty : TypeId) (hg : W.heap[g]? = some (.cells (WV (List.replicate k y ++ List.replicate (n - k) zW)).toArray 86 (0, 0))) (hk : k ≤ n) (ho : o = k * 3) (hm : m = Nat.min sLen dLen) (hkm : k + m ≤ n)
    (hsrc : ∀ j v, (WV (List.replicate m y))[j]? = some v → W.cell? (a.add j) = some v) (hB : B ≤ g) :
    ∃ w', (Builtin.copy_ #[83, 83] ty #[.slice (some ⟨g, o, none⟩) dLen dCap, .slice (some a) sLen sCap]).run Try.prog W = .ok (.int .i64 (m : Int)) w' ∧ w'.heap[g]? = some (.cells (WV (List.replicate (k + m) y ++ List.replicate (n - (k + m)) zW)).toArray 86 (0, 0)) ∧ Below B W w' := by
  have hlm : (WV (List.replicate m y)).length = m * 3 := by rw [wv_len]; simp
  have hlen : (WV (List.replicate k y ++ List.replicate (n - k) zW)).length = n * 3 := by rw [wv_len]; simp; omega
  have h := run_copy_n (P := Try.prog) 3 W 83 83 ty 86 g o dLen dCap a sLen sCap _ 86 (WV (List.replicate m y)) Try.underlying83 (by kernel_rfl) hg (by rw [hlm, hm]) hsrc (by rw [hlm, ho]; simp only [List.size_toArray, hlen]; omega) (wv_one _)
  refine ⟨_, by rw [h, ← hm]; rfl, ?_, below_setRow (Below.refl _ _) hB _⟩
  rw [setRow_heap W g _ _ 86 _ hg]
  refine congrArg (fun l : List Value => some (Obj.cells l.toArray 86 (0, 0))) ?_
  have e1 : List.replicate (n - k) zW = List.replicate m zW ++ List.replicate (n - (k + m)) zW := by rw [List.replicate_append_replicate]; congr 1; omega
  rw [wv_take _ _ o (by simpa using ho), e1, ← List.append_assoc (List.replicate k y), wv_drop _ _ (o + (WV (List.replicate m y)).length) (by rw [hlm, ho]; simp; omega), ← wv_app, ← wv_app]
  congr 2
  rw [List.replicate_append_replicate]
set_option maxRecDepth 100000 in
set_option maxHeartbeats 2000000 in
theorem repeatM_any (w : World) (so : Addr) (y : Way) (n : Nat) (hn : n ≤ 1000) (hs : so.block < w.heap.size) (hc : ∀ j v, (cW y)[j]? = some v → w.cell? (so.add j) = some v) :
    Calls Try.prog 83 #[.slice (some so) 1 1, .int .i64 n] w fun e w' => ∃ v, e = .returned v ∧ MovesAt w' w.heap.size w.heap.size v (List.replicate n y) ∧ Below w.heap.size w w' := by
  obtain ⟨i0, hi, hz0, hz1, hz2⟩ := info_parts info_move
  have hmul := mul_any w n (by omega)
  have hw1 : IntKind.u64.wrap (n : Int) = (n : Int) := by rw [IntKind.wrap_u64]; omega
  have hn0 : decide ((n : Int) < 0) = false := decide_eq_false (by omega)
  have hov : decide ((9223372036854775807 : Int) < (n : Int)) = false := decide_eq_false (by omega)
  have hsz : (Try.prog.info? 86).map (·.size) = some 3 := by kernel_rfl
  have HC := Lib.hid hc
  clear hc
  go_enter Try.func83, Try.ntmps83
  go_wp2_with fail
  refine hmul.mono ?_
  rintro e w' ⟨rfl, hw'⟩
  obtain rfl : w = w' := hw'.symm
  clear hw'
  by_cases h0 : n = 0
  · subst h0
    have hcp : ∀ (W : World) (ty : TypeId) (g : Nat), (Builtin.copy_ #[83, 83] ty #[.slice (some ⟨g, 0, none⟩) 0 0, .slice (some so) 1 1]).run Try.prog W = .ok (goInt 0) W := fun W ty g => by
      have hq := hi
      simp [Builtin.copy_, run_underlying Try.underlying83, Builtin.lenOf, Builtin.firstCells, sizeOf, typeInfo, hq, storeCells, loadCells, loadCellsFrom]
    go_wp2_with (first | (at_make; refine wpList_make_full _ rfl _ _ 83 rfl w.heap.size 86 i0 (.agg #[.int .i64 0, .int .i64 0, .int .i64 0]) 3 Try.underlying83 hi hz0 hz1 .i64 .i64 _ _ 0 rfl rfl rfl rfl (by rw [hz2]; omega) (by unfold maxLen; omega) (Nat.le_refl _) ?_; intro w1 hown1 hgrow1) | (refine wpl_copy_n _ rfl _ _ 83 83 rfl _ _ rfl rfl (hcp _ _ _) ?_))
    go_rounds 1
    go_ret
    exact ⟨_, rfl, ⟨⟨0, rfl⟩, by simpa [madeCells, WV] using hown1⟩, (Below.refl _ w).grown hgrow1 (Nat.le_refl _) (fun k e => by cases e)⟩
  · have hpos : 0 < n := by omega
    have hcp : ∀ w1 : World, w1.ownsRow w.heap.size 86 3 (.slice (some ⟨w.heap.size, 0, none⟩) n n) n (madeCells (Value.agg #[.int .i64 0, .int .i64 0, .int .i64 0]).cells (n * 3)).toList → w.grownBy w1 none → ∃ w', (Builtin.copy_ #[83, 83] 3 #[.slice (some ⟨w.heap.size, 0, none⟩) n n, .slice (some so) 1 1]).run Try.prog w1 = .ok (.int .i64 1) w' ∧ w'.heap[w.heap.size]? = some (.cells (WV (List.replicate 1 y ++ List.replicate (n - 1) zW)).toArray 86 (0, 0)) ∧ Below w.heap.size w w' := fun w1 hown hg => by
      rw [show (Value.agg #[Value.int .i64 0, .int .i64 0, .int .i64 0]).cells = #[.int .i64 0, .int .i64 0, .int .i64 0] from rfl, toList_made3 (.int .i64 0) (.int .i64 0) (.int .i64 0) zW rfl n] at hown
      have hb1 : Below w.heap.size w w1 := (Below.refl _ w).grown hg (Nat.le_refl _) (fun k e => by cases e)
      rcases hown.2 with ⟨h', _⟩ | ⟨g', cap', cur, h', _, hh, _, _, hcs, htk⟩
      · cases h'
      · cases h'
        have hcur : cur = (WV (List.replicate 0 y ++ List.replicate (n - 0) zW)).toArray := by
          apply Array.toList_inj.1
          rw [List.take_of_length_le (by rw [Array.length_toList, hcs]; exact Nat.le_refl _)] at htk
          simpa using htk
        rw [hcur] at hh
        obtain ⟨w', h1, h2, h3⟩ := copy_moves w1 w.heap.size w.heap.size n 0 1 0 n n 1 1 so y 3 hh (Nat.zero_le _) rfl (by show 1 = min 1 n; omega) (by omega) (fun j v hj => (hb1.cell (p := so.add j) (by rw [add_block]; exact hs)).trans (HC.out j v (by simpa [WV] using hj))) (Nat.le_refl _)
        exact ⟨w', h1, by simpa using h2, hb1.trans h3⟩
    have HCP := Lib.hid hcp
    clear hcp
    go_wp2_with (first | (at_make; refine wpList_make_full _ rfl _ _ 83 rfl w.heap.size 86 i0 (.agg #[.int .i64 0, .int .i64 0, .int .i64 0]) 3 Try.underlying83 hi hz0 hz1 .i64 .i64 _ _ n rfl rfl rfl rfl (by rw [hz2]; omega) (by unfold maxLen; omega) (Nat.le_refl _) ?_; intro w1 hown1 hgrow1; obtain ⟨w2, hr2, hh2, hb2⟩ := HCP.out w1 hown1 hgrow1; have HH2 := Lib.hid hh2; clear hh2 hown1 hgrow1))
    go_loopw [8] (fun q wr => RepM w.heap.size w.heap.size n y w q wr) (fun q _ => n - (intOf q).toNat)
    case atStart => exact ⟨1, by omega, by omega, rfl, HH2.out, hb2⟩
    case round =>
      obtain ⟨k, hk0, hkn, rfl, hh, hb⟩ := hrel
      have HH := Lib.hid hh
      clear hh
      by_cases hlt : k < n
      · have hne : (n = k) = False := by simp; omega
        have hne2 : (k = n) = False := by simp; omega
        have hi0 : (0 : Int) ≤ (k : Int) := by omega
        have hi1 : (k : Int) ≤ (n : Int) := by omega
        have hpre : ∀ j v, (WV (List.replicate (Nat.min k (n - k)) y))[j]? = some v → wr.drew.cell? ((⟨w.heap.size, 0, none⟩ : Addr).add j) = some v := fun j v hj => by
          have hl := (List.getElem?_eq_some_iff.1 hj).1
          have hle : Nat.min k (n - k) ≤ k := Nat.min_le_left _ _
          have e1 : List.replicate k y = List.replicate (Nat.min k (n - k)) y ++ List.replicate (k - Nat.min k (n - k)) y := by rw [List.replicate_append_replicate]; congr 1; omega
          have e2 : (⟨w.heap.size, 0, none⟩ : Addr).add j = ⟨w.heap.size, j, none⟩ := by unfold Addr.add; by_cases h : j = 0 <;> simp [h]
          rw [e2]
          refine (cell_of_row wr w.heap.size j _ 86 (0, 0) HH.out).trans ?_
          rw [e1, List.append_assoc, wv_app, List.getElem?_toArray, List.getElem?_append_left hl]
          exact hj
        obtain ⟨m, hm⟩ : ∃ m, m = Nat.min k (n - k) := ⟨_, rfl⟩
        have hm1 : 0 < m ∧ k + m ≤ n := by
          have : m = min k (n - k) := hm
          omega
        rw [← hm] at hpre
        obtain ⟨w3, hr3, hh3, hb3⟩ := copy_moves wr.drew w.heap.size w.heap.size n k m (k * 3) (n - k) (n - k) k n ⟨w.heap.size, 0, none⟩ y 3 HH.out (by omega) rfl hm hm1.2 hpre (Nat.le_refl _)
        have HH3 := Lib.hid hh3
        have hsum : IntKind.i64.wrap ((k : Int) + (m : Int)) = (k : Int) + (m : Int) := by rw [IntKind.wrap_i64]; omega
        have HB3 := Lib.hid (hb.drew.trans hb3)
        clear hpre hm hh3 hb3
        go_wp2
        go_region
        all_goals go_wp2
        exact ⟨⟨k + m, by omega, hm1.2, congrArg (Value.int .i64) (by omega), HH3.out, HB3.out⟩, by simp only [intOf]; omega⟩
      · obtain rfl : k = n := by omega
        have hcs : (WV (List.replicate k y)).length = k * 3 := by rw [wv_len]; simp
        have hh := HH.out
        rw [Nat.sub_self, List.replicate_zero, List.append_nil] at hh
        have HW : Hid (MovesAt wr w.heap.size w.heap.size (.slice (some ⟨w.heap.size, 0, none⟩) k k) (List.replicate k y)) := Lib.hid ⟨⟨k, by simp⟩, by
          rw [List.length_replicate]
          exact ⟨hcs, .inr ⟨w.heap.size, k, _, rfl, Nat.le_refl _, hh, Nat.le_refl _, by unfold maxLen; omega, by simpa using hcs, by rw [← hcs]; simp⟩⟩⟩
        clear hh hcs
        go_wp2
        go_ret
        exact ⟨_, rfl, HW.out, hb⟩
theorem moves_alloc {w : World} {B m : Nat} {v : Value} {S : List Way} (h : MovesAt w B m v S) (o : Obj) : MovesAt (w.alloc o) B m v S := ⟨h.1, h.2.alloc o⟩
theorem moves_lt {w : World} {B m : Nat} {v : Value} {S : List Way} (h : MovesAt w B m v S) : m < w.heap.size := by
  obtain ⟨⟨cap, rfl⟩, ho⟩ := h
  exact (row_lt ho).1
theorem moves_below {w w' : World} {B m : Nat} {v : Value} {S : List Way} (h : MovesAt w B m v S) (hb : Below w.heap.size w w') : MovesAt w' B m v S := ⟨h.1, ownsRow_keep h.2 (fun g hg _ => hb.block g hg)⟩
theorem moves_weak {w : World} {B B' m : Nat} {v : Value} {S : List Way} (h : MovesAt w B m v S) (hb : B' ≤ B) : MovesAt w B' m v S := ⟨h.1, own_weak h.2 hb⟩
theorem moves_cell {w : World} {B m cap : Nat} {S : List Way} (h : w.ownsRow B 86 3 (.slice (some ⟨m, 0, none⟩) S.length cap) S.length (WV S)) (i : Nat) (hi : i < S.length) : w.cell? ⟨m, i * 3, none⟩ = some (.int .i64 ((S.getD i noW).1 : Int)) ∧ w.cell? ⟨m, i * 3 + 1, none⟩ = some (.int .i64 ((S.getD i noW).2.1 : Int)) ∧ w.cell? ⟨m, i * 3 + 2, none⟩ = some (.int .i64 (S.getD i noW).2.2) := by
  obtain ⟨h1, h2, h3⟩ := wv_at S i hi
  exact ⟨(h.cellAt _ (by omega)).trans h1, (h.cellAt _ (by omega)).trans h2, (h.cellAt _ (by omega)).trans h3⟩

def encM (m : Mv) : Way := (m.1, m.2.1, (m.2.2 : Int))
theorem encM_get (M : List Mv) (i : Nat) (hi : i < M.length) : (M.map encM).getD i noW = encM (M.getD i noM) := by
  rw [List.getD_eq_getElem?_getD, List.getElem?_map, List.getD_eq_getElem?_getD, List.getElem?_eq_getElem hi]
  rfl
/-- moves in memory -/
def MvAt (w : World) (B m n cp : Nat) (M : List Mv) : Prop := M.length = n ∧ w.ownsRow B 86 3 (.slice (some ⟨m, 0, none⟩) n cp) n (WV (M.map encM))
theorem mvAt_cell {w : World} {B m n cp : Nat} {M : List Mv} (h : MvAt w B m n cp M) (i : Nat) (hi : i < n) : w.cell? ⟨m, i * 3, none⟩ = some (.int .i64 ((M.getD i noM).1 : Int)) ∧ w.cell? ⟨m, i * 3 + 1, none⟩ = some (.int .i64 ((M.getD i noM).2.1 : Int)) ∧ w.cell? ⟨m, i * 3 + 2, none⟩ = some (.int .i64 (stM M i : Int)) := by
  obtain ⟨hl, ho⟩ := h
  have hm : (M.map encM).length = n := by simpa using hl
  obtain ⟨h1, h2, h3⟩ := wv_at (M.map encM) i (by omega)
  rw [encM_get M i (by omega)] at h1 h2 h3
  have hw : (WV (M.map encM)).length = n * 3 := by rw [wv_len]; omega
  exact ⟨(ho.cellAt _ (by omega)).trans h1, (ho.cellAt _ (by omega)).trans h2, (ho.cellAt _ (by omega)).trans h3⟩
theorem mvAt_below {w w' : World} {B m n cp : Nat} {M : List Mv} (h : MvAt w B m n cp M) (hb : Below w.heap.size w w') : MvAt w' B m n cp M := ⟨h.1, ownsRow_keep h.2 (fun g hg _ => hb.block g hg)⟩
theorem mvAt_lt {w : World} {B m n cp : Nat} {M : List Mv} (h : MvAt w B m n cp M) : m < w.heap.size := (row_lt h.2).1
theorem mvAt_ge {w : World} {B m n cp : Nat} {M : List Mv} (h : MvAt w B m n cp M) : B ≤ m := (row_cells h.2 _ (by rfl)).1
theorem mvAt_far {w : World} {B m n cp : Nat} {M : List Mv} (h : MvAt w B m n cp M) (p : Addr) (u : Value) (hp : p.block ≠ m) : MvAt (w.setCell p u) B m n cp M := ⟨h.1, ownsRow_keep h.2 (fun g hg e => by
  have e2 : g = m := by
    have : (Value.slice (some ⟨m, 0, none⟩) n cp).ownBlock = some m := rfl
    rw [this] at e
    exact (Option.some.inj e).symm
  subst e2
  exact Below.heap_setCell w p u g (fun e => hp e.symm))⟩
theorem mvAt_inj {w : World} {B m n cp : Nat} {M N : List Mv} (h : MvAt w B m n cp M) (k : MvAt w B m n cp N) : M = N := by
  have hw : (WV (M.map encM)).length = n * 3 := by rw [wv_len, List.length_map, h.1]
  have kw : (WV (N.map encM)).length = n * 3 := by rw [wv_len, List.length_map, k.1]
  have e : WV (M.map encM) = WV (N.map encM) := by
    apply List.ext_getElem?
    intro i
    by_cases hi : i < n * 3
    · have a := h.2.cellAt i (by omega)
      have b := k.2.cellAt i (by omega)
      rw [← a, b]
    · rw [List.getElem?_eq_none (by omega), List.getElem?_eq_none (by omega)]
  have e2 := wv_inj _ _ e
  apply List.ext_getElem?
  intro i
  have e3 := congrArg (fun l : List Way => l[i]?) e2
  simp only [List.getElem?_map] at e3
  cases hx : M[i]? with
  | none => rw [hx] at e3; cases hy : N[i]? with
    | none => rfl
    | some y => rw [hy] at e3; cases e3
  | some x =>
    rw [hx] at e3
    cases hy : N[i]? with
    | none => rw [hy] at e3; cases e3
    | some y =>
      rw [hy] at e3
      simp only [Option.map_some, Option.some.injEq] at e3
      unfold encM at e3
      obtain ⟨a, b, c⟩ := x
      obtain ⟨a', b', c'⟩ := y
      simp only [Prod.mk.injEq, Int.natCast_inj] at e3
      rw [e3.1, e3.2.1, e3.2.2]
theorem mvAt_set {w : World} {B m n cp : Nat} {M : List Mv} (h : MvAt w B m n cp M) (i : Nat) (hi : i < n) (y : Mv) : MvAt (((w.setCell ⟨m, i * 3, none⟩ (.int .i64 (y.1 : Int))).setCell ⟨m, i * 3 + 1, none⟩ (.int .i64 (y.2.1 : Int))).setCell ⟨m, i * 3 + 2, none⟩ (.int .i64 (y.2.2 : Int))) B m n cp (M.set i y) := by
  obtain ⟨hl, ho⟩ := h
  have s1 := World.ownsRow.stored ho (i * 3) (.int .i64 (y.1 : Int))
  have s2 := World.ownsRow.stored s1.1 (i * 3 + 1) (.int .i64 (y.2.1 : Int))
  have s3 := World.ownsRow.stored s2.1 (i * 3 + 2) (.int .i64 (y.2.2 : Int))
  refine ⟨by simpa using hl, ?_⟩
  have e := wv_set (M.map encM) i (encM y) (by simpa using (by omega : i < M.length))
  rw [List.map_set, ← e]
  exact s3.1
def vanC (D : List (List Int)) (s : Int) : Nat := (D.getD s.toNat []).length
def vanP (D : List (List Int)) (s : Int) : Bool := decide (0 < vanC D s)
theorem VanAt.cell {w : World} {B m n : Nat} {gs : List Value} {D : List (List Int)} (h : VanAt w B m n gs D) (i : Nat) (hi : i < n) : ∃ ao cap, gs.getD i undef = .slice ao (D.getD i []).length cap ∧ w.cell? ⟨m, i, none⟩ = some (.slice ao (D.getD i []).length cap) := by
  obtain ⟨ao, cap, e⟩ := own_len (h.inn i hi)
  refine ⟨ao, cap, e, ?_⟩
  rw [World.ownsRow.cellAt (show w.ownsRow B 26 1 (.slice (some ⟨m, 0, none⟩) n n) n gs from h.out) i (by omega)]
  rw [← e, List.getD_eq_getElem?_getD, List.getElem?_eq_getElem (by rw [h.gl]; exact hi)]
  rfl
theorem VanAt.lt {w : World} {B m n : Nat} {gs : List Value} {D : List (List Int)} (h : VanAt w B m n gs D) : m < w.heap.size := (row_lt (show w.ownsRow B _ 1 (.slice (some ⟨m, 0, none⟩) n n) n _ from h.out)).1
theorem goes_few1 : Goes 84 := fun args w => enters_of Try.func84 (by kernel_rfl) rfl args w
set_option maxRecDepth 100000 in
theorem few1_any (w : World) (bx B m n : Nat) (gs : List Value) (D : List (List Int)) (hbx : Blk w bx 58 #[slB n m]) (hD : VanAt w B m n gs D) : TellsV n 84 #[.pointer (some ⟨bx, 0, none⟩)] (vanP D) w := by
  intro x W h0 h1 hb
  obtain ⟨k, rfl⟩ : ∃ k : Nat, x = k := ⟨x.toNat, by omega⟩
  have hbW := hbx.below hb hbx.lt
  have c0 := hbW.cell 0
  simp only [List.getElem?_toArray, List.getElem?_cons_zero] at c0
  unfold slB at c0
  obtain ⟨ao, cap, _, hca⟩ := (hD.below hb).cell k (by omega)
  have hk0 : (0 : Int) ≤ (k : Int) := by omega
  have hp : vanP D (k : Int) = decide (0 < (D.getD k []).length) := rfl
  rw [hp]
  clear hD hbx hbW hp
  generalize (D.getD k []).length = q at *
  by_cases hq : 0 < q
  · have e1 : decide (0 < q) = true := decide_eq_true hq
    have e2 : decide ((0 : Int) < (q : Int)) = true := decide_eq_true (by omega)
    rw [e1]
    go_enter Try.func84, Try.ntmps84
    go_wp2
    go_ret
    exact ⟨rfl, Below.refl _ _⟩
  · have e1 : decide (0 < q) = false := decide_eq_false hq
    have e2 : decide ((0 : Int) < (q : Int)) = false := decide_eq_false (by omega)
    rw [e1]
    go_enter Try.func84, Try.ntmps84
    go_wp2
    go_ret
    exact ⟨rfl, Below.refl _ _⟩
end Go.Proofs.Ytljkobijoenabaa.dv

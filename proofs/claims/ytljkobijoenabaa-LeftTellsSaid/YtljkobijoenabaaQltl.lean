/- For any grammar the law LeftTells returns true, and what it was handed reads afterwards as it did; no condition. -/
import Derived.Test.YtljkobijoenabaaMi
namespace Go.Proofs.Ytljkobijoenabaa.dv
open Go.ChangeShapes Go.WideShapes Go.ChangeAt Go.RowKit Go.Maps Go.WideMaps Go.WideElems
set_option linter.unusedVariables false
set_option linter.unusedSimpArgs false
/-! the document's Groups -/
attribute [local go_sem] run_store_fl
def grpO (f : Nat → Nat → Bool) (n k : Nat) : List (List Nat) := ((List.range k).filter (ldB f)).map fun v => (List.range n).filter (mtl f v)
theorem grpO_succ (f : Nat → Nat → Bool) (n k : Nat) : grpO f n (k + 1) = if ldB f k = true then grpO f n k ++ [(List.range n).filter (mtl f k)] else grpO f n k := by
  unfold grpO
  rw [List.range_succ, List.filter_append]
  by_cases h : ldB f k = true
  · rw [if_pos h, List.filter_cons_of_pos h, List.filter_nil, List.map_append]; rfl
  · rw [if_neg h, List.filter_cons_of_neg h, List.filter_nil, List.append_nil]
theorem fil_succ (p : Nat → Bool) (j : Nat) : (List.range (j + 1)).filter p = if p j = true then (List.range j).filter p ++ [j] else (List.range j).filter p := by
  rw [List.range_succ, List.filter_append]
  by_cases h : p j = true
  · rw [if_pos h, List.filter_cons_of_pos h, List.filter_nil]
  · rw [if_neg h, List.filter_cons_of_neg h, List.filter_nil, List.append_nil]
theorem fil_len (p : Nat → Bool) (j : Nat) : ((List.range j).filter p).length ≤ j := by
  have := List.length_filter_le p (List.range j)
  rwa [List.length_range] at this
theorem grpO_len (f : Nat → Nat → Bool) (n k : Nat) : (grpO f n k).length ≤ k := by
  unfold grpO
  rw [List.length_map]
  exact fil_len _ k
/-- the least so far is v itself just if none below v was met -/
def LeastG (f : Nat → Nat → Bool) (v j L : Nat) : Prop := L ≤ v ∧ (L = v ↔ ∀ x, x < j → mtl f v x = true → v ≤ x)
theorem least_start (f : Nat → Nat → Bool) (v : Nat) : LeastG f v 0 v := ⟨Nat.le_refl _, fun _ x hx => absurd hx (Nat.not_lt_zero _), fun _ => rfl⟩
theorem least_skip {f : Nat → Nat → Bool} {v j L : Nat} (h : LeastG f v j L) (hn : mtl f v j = false) : LeastG f v (j + 1) L := by
  refine ⟨h.1, h.2.trans ⟨fun a x hx hm => ?_, fun a x hx hm => a x (by omega) hm⟩⟩
  by_cases e : x = j
  · subst e; rw [hn] at hm; cases hm
  · exact a x (by omega) hm
theorem least_take {f : Nat → Nat → Bool} {v j L : Nat} (h : LeastG f v j L) (hn : mtl f v j = true) : LeastG f v (j + 1) (min L j) := by
  have h1 := h.1
  refine ⟨by omega, ⟨fun e x hx hm => ?_, fun a => ?_⟩⟩
  · by_cases e2 : x = j
    · omega
    · exact h.2.1 (by omega) x (by omega) hm
  · have h2 : L = v := h.2.2 (fun x hx hm => a x (by omega) hm)
    have h3 := a j (by omega) hn
    omega
theorem least_end {f : Nat → Nat → Bool} {v n L : Nat} (h : LeastG f v n L) (hv : v < n) (hf : f v v = true) : ldB f v = decide (L = v) := by
  unfold ldB
  rw [hf, Bool.true_and]
  by_cases e : L = v
  · rw [decide_eq_true e, List.all_eq_true]
    intro x hx
    have hxv := List.mem_range.1 hx
    cases hm : mtl f v x
    · rfl
    · have := h.2.1 e x (by omega) hm; omega
  · rw [decide_eq_false e]
    rw [List.all_eq_false]
    have : ¬ ∀ x, x < n → mtl f v x = true → v ≤ x := fun a => e (h.2.2 a)
    obtain ⟨x, hx⟩ := Classical.not_forall.1 this
    obtain ⟨h1, hx⟩ := Classical.not_imp.1 hx
    obtain ⟨h2, h3⟩ := Classical.not_imp.1 hx
    exact ⟨x, List.mem_range.2 (by omega), by rw [h2]; simp⟩
theorem BmAt.rowR {W W' : World} {B B' n k s : Nat} {e : TypeId} {v r : Value} {vs xs : List Value} {G : List (List Bool)} (h : BmAt W B v vs n G) (hr : W.ownsRow B' e s r k xs) (h1 : e ≠ 55) (h2 : e ≠ 4) (hg : W.grownBy W' r.ownBlock) : BmAt W' B v vs n G :=
  h.grown hg (fun q e e2 => by
    rcases row_apart hr h.out h1 with c | c
    · rw [c] at e2; cases e2
    · exact c (e2.trans e.symm)) (fun i q hi e e2 => by
    rcases row_apart hr (h.inn i hi).2 h2 with c | c
    · rw [c] at e2; cases e2
    · exact c (e2.trans e.symm))
theorem GrAt.rowL {W W' : World} {B k : Nat} {v r : Value} {vs xs : List Value} {G : List (List Nat)} (h : GrAt W B v vs G) (hr : W.ownsRow B 3 1 r k xs) (hd : ∀ i, i < G.length → (vs.getD i undef).ownBlock ≠ r.ownBlock) (hg : W.grownBy W' r.ownBlock) : GrAt W' B v vs G :=
  h.grown hg (fun q e e2 => by
    rcases row_apart hr h.out (by decide) with c | c
    · rw [c] at e2; cases e2
    · exact c (e2.trans e.symm)) (fun i q hi e e2 => hd i hi (e.trans e2.symm))
set_option maxRecDepth 100000 in
set_option maxHeartbeats 4000000 in
theorem rgroups_any (w : World) (B : Nat) (ta va : Option Addr) (tl tc vl vc : Nat) (rv : Value) (R : List Rl) (hR : RulesAt B w rv R) (hB : B ≤ w.heap.size) (hl : ∀ r ∈ R, 0 ≤ r.left ∧ r.left < vl) (hvr : ∀ r ∈ R, ∀ s ∈ r.right, 0 ≤ s → s < vl) (hv : vl ≤ 1000) (hv0 : 0 < vl) :
    Calls Try.prog 33 #[.agg #[.slice ta tl tc, .slice va vl vc, rv]] w fun e w' => ∃ v vs, e = .returned v ∧ GrAt w' w.heap.size v vs (grpD (matF (begM vl R)) vl) ∧ Below w.heap.size w w' := by
  obtain ⟨j0, hj0, hy0, hy1, hy2⟩ := info_parts info_ints
  obtain ⟨i0, hi0, hz0, hz1, hz2⟩ := info_parts info_int
  obtain ⟨ra, rc, rfl, hn, _⟩ := id hR
  have b0 := Blk.new w 25 #[.slice ta tl tc, .slice va vl vc, .slice ra R.length rc]
  have hbl : Below w.heap.size w (w.alloc (.cells #[.slice ta tl tc, .slice va vl vc, .slice ra R.length rc] 25)) := (Below.refl _ w).alloc (Nat.le_refl _) _
  have hz : (w.alloc (.cells #[.slice ta tl tc, .slice va vl vc, .slice ra R.length rc] 25)).heap.size = w.heap.size + 1 := by simp
  generalize hW0 : w.alloc (.cells #[.slice ta tl tc, .slice va vl vc, .slice ra R.length rc] 25) = w0 at *
  have hrc := reach_any w0 B ta va tl tc vl vc (.slice ra R.length rc) R (hR.far (hbl.mono hB)) (by omega) hl hvr hv hv0
  have hml := (begM_at R hl).1.1
  obtain ⟨M, hM⟩ : ∃ M, M = begM vl R := ⟨_, rfl⟩
  rw [← hM] at hrc hml ⊢
  have c0 := b0.cell 0
  have c1 := b0.cell 1
  have c2 := b0.cell 2
  simp only [List.getElem?_toArray, List.getElem?_cons_zero, List.getElem?_cons_succ] at c0 c1 c2
  have HBL := Lib.hid hbl
  have HZ := Lib.hid hz
  have HML := Lib.hid hml
  clear hR hl hvr b0 hbl hM hml
  go_enter Try.func33, Try.ntmps33
  go_wp2_with fail
  refine hrc.mono ?_
  rintro e w2 ⟨rv, vs, rfl, hbm, hb2⟩
  obtain ⟨m, mc, _, _, rfl, _, _⟩ := hbm.form hv0 (i := 0) (by rw [HML.out]; exact hv0)
  have hB2 : Below w.heap.size w w2 := HBL.out.trans (hb2.mono (by have := HZ.out; omega))
  have HBM := Lib.hid hbm
  have HB2 := Lib.hid hB2
  rw [HML.out] at HBM ⊢
  have hgr0 : GrAt (w2.alloc (.cells #[] 26)) w.heap.size (.slice (some ⟨w2.heap.size, 0, none⟩) 0 0) [] (grpO (matF M) vl 0) :=
    ⟨rfl, World.ownsRow_lit (base := w.heap.size) (e := 26) (size := 1) w2 #[] 0 hB2.size (by decide) rfl, fun i hi => absurd hi (Nat.not_lt_zero _), fun i j hi => absurd hi (Nat.not_lt_zero _)⟩
  clear hbm hb2 hB2 c0 c1 c2 hrc
  go_wp2
  have HGR0 := Lib.hid hgr0
  clear hgr0
  obtain ⟨f, hf⟩ : ∃ f, f = matF M := ⟨_, rfl⟩
  have HF := Lib.hid hf
  rw [← hf] at HGR0
  clear hf
  go_loopw [4, 5] (fun gv q W => ∃ (k : Nat) (gvs : List Value), k ≤ vl ∧ q = .int .i64 k ∧ BmAt W w0.heap.size (.slice (some ⟨m, 0, none⟩) vl mc) vs vl M ∧ Below w.heap.size w W ∧ GrAt W w.heap.size gv gvs (grpO f vl k)) (fun _ q _ => vl - (intOf q).toNat)
  case atStart => exact ⟨0, [], Nat.zero_le _, rfl, HBM.out.alloc _, HB2.out.alloc HB2.out.size _, HGR0.out⟩
  case round =>
    obtain ⟨W, rfl⟩ : ∃ W : World, W = wr := ⟨_, rfl⟩
    obtain ⟨k, gvs, hk, hq, hbm, hbw, hgr⟩ := hrel
    obtain rfl := hq
    have WBM := Lib.hid hbm
    have WBW := Lib.hid hbw
    have WGR := Lib.hid hgr
    clear hbm hbw hgr
    by_cases hlt : k < vl
    · have hlt2 : (k : Int) < (vl : Int) := by omega
      go_wp2
      go_loopw [6, 7, 8] (fun lv qL q U => ∃ j L : Nat, j ≤ vl ∧ q = .int .i64 j ∧ qL = .int .i64 L ∧ BmAt U w0.heap.size (.slice (some ⟨m, 0, none⟩) vl mc) vs vl M ∧ Below w.heap.size w U ∧ GrAt U w.heap.size u4 gvs (grpO f vl k) ∧ U.ownsRow w.heap.size 3 1 lv ((List.range j).filter (mtl f k)).length (IN ((List.range j).filter (mtl f k))) ∧ (∀ i, i < (grpO f vl k).length → (gvs.getD i undef).ownBlock ≠ lv.ownBlock) ∧ LeastG f k j L) (fun _ _ q _ => vl - (intOf q).toNat)
      case atStart =>
        refine ⟨0, k, Nat.zero_le _, rfl, rfl, WBM.out.alloc _, WBW.out.alloc WBW.out.size _, WGR.out.alloc _, ?_, fun i hi e => ?_, least_start f k⟩
        · exact World.ownsRow_lit (base := w.heap.size) (e := 3) (size := 1) W #[] 0 WBW.out.size (by decide) rfl
        · have := ((WGR.out.inn i hi).2.lt W.heap.size (by rw [e]; rfl)).2
          omega
      case round =>
        obtain ⟨U, rfl⟩ : ∃ U : World, U = wr := ⟨_, rfl⟩
        obtain ⟨j, L, hj, hq, hqL, ubm, ubw, ugr, urw, uap, uls⟩ := hrel
        obtain rfl := hq
        obtain rfl := hqL
        have UBM := Lib.hid ubm
        have UBW := Lib.hid ubw
        have UGR := Lib.hid ugr
        have URW := Lib.hid urw
        have UAP := Lib.hid uap
        have ULS := Lib.hid uls
        have hml := HML.out
        obtain ⟨_, _, bk, bkc, hm4, hk2, hk3⟩ := ubm.form hv0 (i := k) (by omega)
        rw [hml] at hm4
        cases hm4
        clear ubm ubw ugr urw uap uls WBM WBW WGR hml
        by_cases hjt : j < vl
        · obtain ⟨_, _, bj, bjc, hm5, hj2, hj3⟩ := UBM.out.form hv0 (i := j) (by rw [HML.out]; exact hjt)
          rw [HML.out] at hm5
          cases hm5
          have hcx := UBM.out.cell (i := k) (by rw [HML.out]; exact hlt) hk2 hjt
          have hcy := UBM.out.cell (i := j) (by rw [HML.out]; exact hjt) hj2 hlt
          rw [← HF.out] at hcx hcy
          have hk0 : (0 : Int) ≤ (k : Int) := by omega
          have hj0 : (0 : Int) ≤ (j : Int) := by omega
          have hjt2 : (j : Int) < (vl : Int) := by omega
          clear hk2 hj2
          cases hx : f k j
          · rw [hx] at hcx
            have hmt : mtl f k j = false := by unfold mtl; rw [hx]; rfl
            clear hx hj3 hcy
            go_wp2
            exact ⟨⟨j + 1, L, hjt, congrArg (Value.int .i64) (by omega), rfl, UBM.out, UBW.out, UGR.out, by rw [fil_succ, if_neg (by rw [hmt]; exact Bool.false_ne_true)]; exact URW.out, UAP.out, least_skip ULS.out hmt⟩, by simp only [intOf]; omega⟩
          · rw [hx] at hcx
            cases hy : f j k
            · rw [hy] at hcy
              have hmt : mtl f k j = false := by unfold mtl; rw [hx, hy]; rfl
              clear hx hy
              go_wp2
              exact ⟨⟨j + 1, L, hjt, congrArg (Value.int .i64) (by omega), rfl, UBM.out, UBW.out, UGR.out, by rw [fil_succ, if_neg (by rw [hmt]; exact Bool.false_ne_true)]; exact URW.out, UAP.out, least_skip ULS.out hmt⟩, by simp only [intOf]; omega⟩
            · rw [hy] at hcy
              have hmt : mtl f k j = true := by unfold mtl; rw [hx, hy]; rfl
              clear hx hy
              have hnw := one_new U 3 (.int .i64 j)
              have hrow := URW.out.alloc (.cells #[.int .i64 j] 3)
              have hsz : w.heap.size ≤ (U.alloc (.cells #[.int .i64 j] 3)).heap.size := by rw [World.size_alloc]; have := UBW.out.size; omega
              have hfl := fil_len (mtl f k) j
              have HROW := Lib.hid hrow
              have HMT := Lib.hid hmt
              obtain ⟨ln, hln⟩ : ∃ l, l = ((List.range j).filter (mtl f k)).length := ⟨_, rfl⟩
              rw [← hln] at HROW hfl
              have HLN := Lib.hid hln
              clear hrow hmt hln
              go_wp2_with (at_builtin; refine wpList_append_own_at _ rfl _ _ 26 rfl w.heap.size 3 i0 (.int .i64 0) 1 8 Try.underlying26 hi0 hz0 hz1 hz2 rfl (by decide) u6 ln (IN ((List.range j).filter (mtl f k))) rfl HROW.out _ 1 1 [.int .i64 j] rfl rfl hnw (by simp [Value.oneCell']) (by unfold maxLen; omega) (by omega) hsz ?_; intro u62 W8 hown8 hgrow8 hnil8 hat8)
              have hap : ∀ i, i < (grpO f vl k).length → (gvs.getD i undef).ownBlock ≠ u62.ownBlock := fun i hi e => by
                rcases hat8 with c | c
                · exact UAP.out i hi (e.trans c)
                · have := ((UGR.out.inn i hi).2.lt _ (e.trans c)).2
                  rw [World.size_alloc] at this
                  omega
              refine ⟨⟨j + 1, min L j, hjt, congrArg (Value.int .i64) (by omega), congrArg (Value.int .i64) (by omega), (UBM.out.alloc _).rowR HROW.out (by decide) (by decide) hgrow8, (UBW.out.alloc UBW.out.size _).grown hgrow8 hsz (fun r e => (row_cells HROW.out r e).1), (UGR.out.alloc _).rowL HROW.out UAP.out hgrow8, ?_, hap, least_take ULS.out HMT.out⟩, by simp only [intOf]; omega⟩
              rw [fil_succ, if_pos HMT.out, List.length_append, List.length_singleton, ← HLN.out]
              have e : IN ((List.range j).filter (mtl f k) ++ [j]) = IN ((List.range j).filter (mtl f k)) ++ [.int .i64 j] := by unfold IN IV; rw [List.map_append, List.map_append]; rfl
              rw [e]
              exact hown8
        · obtain rfl : j = vl := by omega
          have hck := UBM.out.cell (i := k) (by rw [HML.out]; exact hlt) hk2 hlt
          rw [← HF.out] at hck
          have hk0 : (0 : Int) ≤ (k : Int) := by omega
          cases hx : f k k
          · rw [hx] at hck
            have hld : ldB f k = false := by unfold ldB; rw [hx]; rfl
            have HLD := Lib.hid hld
            clear hx hld hk2
            go_wp2
            exact ⟨⟨k + 1, gvs, hlt, congrArg (Value.int .i64) (by omega), UBM.out, UBW.out, by rw [grpO_succ, if_neg (by rw [HLD.out]; exact Bool.false_ne_true)]; exact UGR.out⟩, by simp only [intOf]; omega⟩
          · rw [hx] at hck
            have hld := least_end ULS.out hlt hx
            have hin : k ∈ (List.range j).filter (mtl f k) := List.mem_filter.2 ⟨List.mem_range.2 hlt, by unfold mtl; rw [hx]; rfl⟩
            have hpos := List.length_pos_of_mem hin
            by_cases hLk : L = k
            · rw [decide_eq_true hLk] at hld
              have hle : ((L : Int) == (k : Int)) = true := by simp [hLk]
              obtain ⟨ao, cap6, rfl⟩ := own_len URW.out
              have hnw := one_new U 26 (.slice ao ((List.range j).filter (mtl f k)).length cap6)
              have hsz : w.heap.size ≤ (U.alloc (.cells #[.slice ao ((List.range j).filter (mtl f k)).length cap6] 26)).heap.size := by rw [World.size_alloc]; have := UBW.out.size; omega
              have XGR := Lib.hid (UGR.out.alloc (.cells #[.slice ao ((List.range j).filter (mtl f k)).length cap6] 26))
              have HROW := Lib.hid (URW.out.alloc (.cells #[.slice ao ((List.range j).filter (mtl f k)).length cap6] 26))
              have hgl := grpO_len f j k
              have HLD := Lib.hid hld
              have HPOS := Lib.hid hpos
              obtain ⟨ln, hln⟩ : ∃ l, l = ((List.range j).filter (mtl f k)).length := ⟨_, rfl⟩
              rw [← hln] at hnw hsz HROW HPOS XGR UAP ⊢
              have HLN := Lib.hid hln
              obtain ⟨gn, hgn⟩ : ∃ l, l = (grpO f j k).length := ⟨_, rfl⟩
              have ho := XGR.out.out
              rw [← hgn] at ho hgl
              have HGN := Lib.hid hgn
              have HO := Lib.hid ho
              clear hx hld hk2 hin hpos hLk hln hgn ho
              go_wp2_with (at_builtin; refine wpList_append_own_at _ rfl _ _ 58 rfl w.heap.size 26 j0 (.slice none 0 0) 1 24 Try.underlying58 hj0 hy0 hy1 hy2 rfl (by decide) u4 gn gvs rfl HO.out _ 1 1 [.slice ao ln cap6] rfl rfl hnw (by simp [Value.oneCell']) (by unfold maxLen; omega) (by omega) hsz ?_; intro u42 W8 hown8 hgrow8 hnil8 hat8)
              have hpush := XGR.out.push (l := (List.range j).filter (mtl f k)) (by rw [← HLN.out]; exact HPOS.out) (by rw [← HLN.out]; exact HROW.out) UAP.out (by rw [← HGN.out]; exact hown8) hgrow8
              exact ⟨⟨k + 1, gvs ++ [.slice ao ln cap6], hlt, congrArg (Value.int .i64) (by omega), (UBM.out.alloc _).rowR HO.out (by decide) (by decide) hgrow8, (UBW.out.alloc UBW.out.size _).grown hgrow8 hsz (fun r e => (row_cells HO.out r e).1), by rw [grpO_succ, if_pos HLD.out]; exact hpush⟩, by simp only [intOf]; omega⟩
            · rw [decide_eq_false hLk] at hld
              have hle : ((L : Int) == (k : Int)) = false := by simp; omega
              have HLD := Lib.hid hld
              clear hx hld hk2 hin hpos hLk
              go_wp2
              exact ⟨⟨k + 1, gvs, hlt, congrArg (Value.int .i64) (by omega), UBM.out, UBW.out, by rw [grpO_succ, if_neg (by rw [HLD.out]; exact Bool.false_ne_true)]; exact UGR.out⟩, by simp only [intOf]; omega⟩
    · obtain rfl : k = vl := by omega
      go_wp2
      go_ret
      exact ⟨_, gvs, rfl, by rw [← HF.out]; exact WGR.out, WBW.out⟩
end Go.Proofs.Ytljkobijoenabaa.dv
namespace Go.Proofs.Ytljkobijoenabaa.dv
open Go.ChangeShapes Go.WideShapes Go.ChangeAt Go.RowKit Go.Maps Go.WideMaps Go.WideElems
set_option linter.unusedVariables false
set_option linter.unusedSimpArgs false
/-! LeftTells -/
set_option maxRecDepth 100000 in
set_option maxHeartbeats 4000000 in
theorem tells_any (w : World) (ta va ra : Option Addr) (tl tc vl vc rc : Nat) (R : List Rl) (hR : RulesAt w.heap.size w (.slice ra R.length rc) R) (hT : StrsAt w.heap.size w ta tl) (hV : StrsAt w.heap.size w va vl) (hn : R.length ≤ maxLen) (ht : tl ≤ maxLen) (hv : vl ≤ maxLen) :
    Calls Try.prog 8 #[.agg #[.slice ta tl tc, .slice va vl vc, .slice ra R.length rc]] w fun e w' => e = .returned (.bool true) ∧ Below w.heap.size w w' := by
  have b0 := Blk.new w 25 #[.slice ta tl tc, .slice va vl vc, .slice ra R.length rc]
  have hbl : Below w.heap.size w (w.alloc (.cells #[.slice ta tl tc, .slice va vl vc, .slice ra R.length rc] 25)) := below_lit _ _ _
  have hR1 := hR.below hbl
  have hT1 := hT.below hbl
  have hV1 := hV.below hbl
  generalize hW0 : w.alloc (.cells #[.slice ta tl tc, .slice va vl vc, .slice ra R.length rc] 25) = w0 at *
  have hz0 : w0.heap.size = w.heap.size + 1 := by rw [← hW0]; simp
  have HR := Lib.hid hR1
  have HT := Lib.hid hT1
  have HV := Lib.hid hV1
  clear hR hT hV hR1 hT1 hV1
  go_enter Try.func8, Try.ntmps8
  go_wp2_with fail
  refine (lalive_any w0).mono ?_
  rintro e w1 ⟨rfl, hb1⟩
  have hB1 : Below (w.heap.size + 1) w0 w1 := hb1.mono (by omega)
  have hz1 := hB1.size
  have bx1 := b0.below hB1 (by omega)
  have p0 := bx1.cell 0
  have p1 := bx1.cell 1
  have p2 := bx1.cell 2
  simp only [List.getElem?_toArray, List.getElem?_cons_zero, List.getElem?_cons_succ] at p0 p1 p2
  go_wp2_with fail
  refine (few_any w1 w.heap.size ta va ra tl tc vl vc rc R (HR.out.below (hB1.mono (by omega))) (by omega) hn ht hv).mono ?_
  rintro e w2 ⟨b, rfl, hfew, hb2⟩
  have hB2 : Below (w.heap.size + 1) w0 w2 := hB1.trans (hb2.mono (by omega))
  cases b
  · clear hfew
    go_wp2
    go_ret
    exact ⟨rfl, hbl.trans (hB2.mono (by omega))⟩
  · obtain ⟨f1, f2, f3, h8⟩ := hfew rfl
    have H8 := Lib.hid h8
    clear hfew h8
    have hz2 := hB2.size
    have bx2 := b0.below hB2 (by omega)
    have q0 := bx2.cell 0
    have q1 := bx2.cell 1
    have q2 := bx2.cell 2
    simp only [List.getElem?_toArray, List.getElem?_cons_zero, List.getElem?_cons_succ] at q0 q1 q2
    clear bx1 p0 p1 p2 hb1 hb2 hz1
    go_wp2_with fail
    refine (right_yes w2 w.heap.size ta va ra tl tc vl vc rc R (HR.out.below (hB2.mono (by omega))) (HT.out.below (hB2.mono (by omega))) (HV.out.below (hB2.mono (by omega))) (by omega) f3 f2 f1 H8.out).mono ?_
    rintro e w3 ⟨b, rfl, hok, hb3⟩
    have hB3 : Below (w.heap.size + 1) w0 w3 := hB2.trans (hb3.mono (by omega))
    cases b
    · clear hok
      go_wp2
      go_ret
      exact ⟨rfl, hbl.trans (hB3.mono (by omega))⟩
    · obtain ⟨hv1, hrl⟩ := hok rfl
      have hl : ∀ r ∈ R, 0 ≤ r.left ∧ r.left < vl := fun r hr => ⟨(hrl r hr).1, (hrl r hr).2.1⟩
      have hvr : ∀ r ∈ R, ∀ s ∈ r.right, 0 ≤ s → s < vl := fun r hr s hs _ => ((hrl r hr).2.2 s hs).1
      have HL := Lib.hid hl
      have HVR := Lib.hid hvr
      have hz3 := hB3.size
      have bx3 := b0.below hB3 (by omega)
      have r0 := bx3.cell 0
      have r1 := bx3.cell 1
      have r2 := bx3.cell 2
      simp only [List.getElem?_toArray, List.getElem?_cons_zero, List.getElem?_cons_succ] at r0 r1 r2
      clear bx2 q0 q1 q2 hb3 hok hrl hl hvr
      have HB3 := Lib.hid hB3
      have hrc := reach_any w3 w.heap.size ta va tl tc vl vc (.slice ra R.length rc) R (HR.out.below (hB3.mono (by omega))) (by omega) HL.out HVR.out (by omega) (by omega)
      clear hB3
      go_wp2_with fail
      refine hrc.mono ?_
      rintro e w4 ⟨rv, vs, rfl, hbm, hb4⟩
      have hB4 : Below (w.heap.size + 1) w0 w4 := HB3.out.trans (hb4.mono (by omega))
      have hz4 := hB4.size
      have bx4 := b0.below hB4 (by omega)
      have s0 := bx4.cell 0
      have s1 := bx4.cell 1
      have s2 := bx4.cell 2
      simp only [List.getElem?_toArray, List.getElem?_cons_zero, List.getElem?_cons_succ] at s0 s1 s2
      have hml := (begM_at R HL.out).1.1
      obtain ⟨m, mc, _, _, rfl, _, _⟩ := hbm.form (by omega) (i := 0) (by omega)
      have hrec := recursive_any w4 w.heap.size ta va tl tc vl vc (.slice ra R.length rc) R (HR.out.below (hB4.mono (by omega))) (by omega) HL.out (by omega)
      have HBM := Lib.hid hbm
      have HB4 := Lib.hid hB4
      have HML := Lib.hid hml
      rw [hml]
      clear hbm hb4 hB4 bx4 hrc r0 r1 r2 bx3 hml
      go_wp2_with fail
      refine hrec.mono ?_
      rintro e w5 ⟨rv5, rm, rfl, hmk, hb5⟩
      have hB5 : Below (w.heap.size + 1) w0 w5 := HB4.out.trans (hb5.mono (by omega))
      have hz5 := hB5.size
      have hmkl : (recM vl (begM vl R)).length = vl := by simp [recM]
      obtain ⟨⟨rcap, rfl⟩, _⟩ := id hmk
      rw [hmkl] at hmk ⊢
      have hloop : ∀ W, Below w5.heap.size w5 W → ∀ k, k < vl → W.cell? ⟨rm, k, none⟩ = some (.bool (matF (begM vl R) k k)) ∧ ∃ bv bvc, W.cell? ⟨m, k, none⟩ = some (.slice (some ⟨bv, 0, none⟩) vl bvc) ∧ W.cell? ⟨bv, k, none⟩ = some (.bool (matF (begM vl R) k k)) := fun W hW k hk => by
        have hbm5 := (HBM.out.below hb5).below hW
        obtain ⟨_, _, bv, bvc, em, e1, e2⟩ := hbm5.form (by omega) (i := k) (by rw [HML.out]; exact hk)
        cases em
        refine ⟨?_, bv, bvc, e2, hbm5.cell (by rw [HML.out]; exact hk) e1 hk⟩
        have ho := own_bel hmk.2 hW
        rw [hmkl] at ho
        rw [ho.cellAt k (by simp [BV]; omega)]
        have hkr : k < (recM vl (begM vl R)).length := by omega
        unfold BV
        rw [List.getElem?_map, List.getElem?_eq_getElem hkr]
        have e9 : (recM vl (begM vl R))[k] = matF (begM vl R) k k := by
          simp [recM, matF]
        rw [e9]
        rfl
      have htr : Trs (matF (begM vl R)) vl := beg_trs R HL.out
      have hfin : ∀ W, Below w5.heap.size w5 W → Below w.heap.size w W := fun W hW => hbl.trans ((hB5.trans (hW.mono (by omega))).mono (by omega))
      have hss : ∀ U, Below w5.heap.size w5 U → (fun U => U.cell? ⟨w.heap.size, 0, none⟩ = some (.slice ta tl tc) ∧ U.cell? ⟨w.heap.size, 1, none⟩ = some (.slice va vl vc) ∧ U.cell? ⟨w.heap.size, 2, none⟩ = some (.slice ra R.length rc)) U := fun U hU => by
        have bx := b0.below (hB5.trans (hU.mono (by omega))) (by omega)
        exact ⟨bx.cell 0, bx.cell 1, bx.cell 2⟩
      obtain ⟨Lg, hLg⟩ : ∃ l, l = (groupsP (matF (begM vl R)) vl).map fun g => g.map fun x : Nat => (x : Int) := ⟨_, rfl⟩
      have hgb : (groupsP (matF (begM vl R)) vl).length ≤ 1000 ∧ ∀ g ∈ groupsP (matF (begM vl R)) vl, g.length ≤ 1000 ∧ ∀ x ∈ g, x < 1000 := by
        have h1 := grp_len (matF (begM vl R)) vl
        refine ⟨by omega, fun g hg => ⟨by have := grp_short (matF (begM vl R)) vl g hg; omega, fun x hx => by have := (grp_lt (matF (begM vl R)) vl g hg).2 x hx; omega⟩⟩
      have hg1 : ∀ W, Below w5.heap.size w5 W → Calls Try.prog 32 #[.agg #[.slice ta tl tc, .slice va vl vc, .slice ra R.length rc]] W fun e w' => ∃ v, e = .returned v ∧ RowsRd w' v Lg ∧ Below W.heap.size W w' := fun W hW => by
        have hBW := hB5.trans (hW.mono (by omega))
        have hzW := hBW.size
        refine (groups_any W w.heap.size ta va tl tc vl vc (.slice ra R.length rc) R (HR.out.below (hBW.mono (by omega))) (by omega) HL.out (by omega)).mono ?_
        rintro e w' ⟨v, vs, rfl, hga, hb⟩
        exact ⟨v, rfl, by rw [hLg]; exact gr_rows hga hgb.1 hgb.2, hb⟩
      have hg2 : ∀ W, Below w5.heap.size w5 W → Calls Try.prog 33 #[.agg #[.slice ta tl tc, .slice va vl vc, .slice ra R.length rc]] W fun e w' => ∃ v, e = .returned v ∧ RowsRd w' v Lg ∧ Below W.heap.size W w' := fun W hW => by
        have hBW := hB5.trans (hW.mono (by omega))
        have hzW := hBW.size
        refine (rgroups_any W w.heap.size ta va tl tc vl vc (.slice ra R.length rc) R (HR.out.below (hBW.mono (by omega))) (by omega) HL.out HVR.out (by omega) (by omega)).mono ?_
        rintro e w' ⟨v, vs, rfl, hga, hb⟩
        rw [← grp_eq _ vl htr vl] at hga
        exact ⟨v, rfl, by rw [hLg]; exact gr_rows hga hgb.1 hgb.2, hb⟩
      have HLOOP := Lib.hid hloop
      have HFIN := Lib.hid hfin
      have HSS := Lib.hid hss
      have HG1 := Lib.hid hg1
      have HG2 := Lib.hid hg2
      have HB5 := Lib.hid hB5
      have t := HSS.out w5 (Below.refl _ _)
      have ha0 : Below w5.heap.size w5 w5.drew := (Below.refl _ _).drew
      have HA0 := Lib.hid ha0
      clear hloop hfin hss hg1 hg2 hgb hLg htr hmk hmkl hb5 hB5 s0 s1 s2 hrec ha0
      go_wp2
      refine wp_region_EQ (fun U => U.cell? ⟨w.heap.size, 0, none⟩ = some (.slice ta tl tc) ∧ U.cell? ⟨w.heap.size, 1, none⟩ = some (.slice va vl vc) ∧ U.cell? ⟨w.heap.size, 2, none⟩ = some (.slice ra R.length rc)) [] (by kernel_rfl) ?_
      have HS : _ := HSS.out _ HA0.out
      change anyE _ _ _ _ _ _ _ _ _ (World.drew _)
      generalize World.drew w5 = y0 at *
      refine anyE_take (i := 0) (v := ?_) rfl (by kernel_rfl) (by kernel_rfl) (by kernel_rfl) (by kernel_rfl) (by kernel_rfl) (fun c _ _ h => absurd rfl (h.1 c)) (Or.inl ⟨by kernel_rfl, ?_⟩) HS ?_
      rotate_left
      · intro w _; go_simp; with_reducible rfl
      refine anyE_take (i := 1) (v := ?_) rfl (by kernel_rfl) (by kernel_rfl) (by kernel_rfl) (by kernel_rfl) (by kernel_rfl) (fun c _ _ h => absurd rfl (h.1 c)) (Or.inl ⟨by kernel_rfl, ?_⟩) HS ?_
      rotate_left
      · intro w _; go_simp; with_reducible rfl
      refine anyE_take (i := 2) (v := ?_) rfl (by kernel_rfl) (by kernel_rfl) (by kernel_rfl) (by kernel_rfl) (by kernel_rfl) (fun c _ _ h => absurd rfl (h.1 c)) (Or.inl ⟨by kernel_rfl, ?_⟩) HS ?_
      rotate_left
      · intro w _; go_simp; with_reducible rfl
      refine anyE_take (i := 3) (v := ?_) rfl (by kernel_rfl) (by kernel_rfl) (by kernel_rfl) (by kernel_rfl) (by kernel_rfl) (fun c _ _ h => absurd rfl (h.1 c)) (Or.inl ⟨by kernel_rfl, ?_⟩) HS ?_
      rotate_left
      · intro w _; go_simp; with_reducible rfl
      refine anyE_take (i := 4) (v := ?_) rfl (by kernel_rfl) (by kernel_rfl) (by kernel_rfl) (by kernel_rfl) (by kernel_rfl) (fun c _ _ h => absurd rfl (h.1 c)) (Or.inl ⟨by kernel_rfl, ?_⟩) HS ?_
      rotate_left
      · intro w _; go_simp; with_reducible rfl
      refine anyE_take (i := 5) (v := ?_) rfl (by kernel_rfl) (by kernel_rfl) (by kernel_rfl) (by kernel_rfl) (by kernel_rfl) (fun c _ _ h => absurd rfl (h.1 c)) (Or.inl ⟨by kernel_rfl, ?_⟩) HS ?_
      rotate_left
      · intro w _; go_simp; with_reducible rfl
      refine anyE_take (i := 6) (v := ?_) rfl (by kernel_rfl) (by kernel_rfl) (by kernel_rfl) (by kernel_rfl) (by kernel_rfl) (fun c _ _ h => absurd rfl (h.1 c)) (Or.inl ⟨by kernel_rfl, ?_⟩) HS ?_
      rotate_left
      · intro w hw; obtain ⟨hw1, hw2, hw3⟩ := hw; go_simp; with_reducible rfl
      refine anyE_take (i := 8) (v := ?_) rfl (by kernel_rfl) (by kernel_rfl) (by kernel_rfl) (by kernel_rfl) (by kernel_rfl) (fun c _ _ h => absurd rfl (h.1 c)) (Or.inl ⟨by kernel_rfl, ?_⟩) HS ?_
      rotate_left
      · intro w hw; obtain ⟨hw1, hw2, hw3⟩ := hw; go_simp; with_reducible rfl
      refine anyE_ready (rs := [7]) (by kernel_rfl) (by simp) ?_
      refine ReadyE.cons rfl (by kernel_rfl) (fun K hK => ?_) ReadyE.nil
      go_simp
      go_at_call 32
      refine (HG1.out y0 HA0.out).mono ?_
      rintro e x1 ⟨va1, rfl, hr1, hx1⟩
      have ha1 := HA0.out.trans (hx1.mono (by have := HA0.out.size; have := HB5.out.size; omega))
      have HS1 := HSS.out x1 ha1
      have HA1 := Lib.hid ha1
      have HR1 := Lib.hid hr1
      clear hr1 hx1 ha1
      refine hK.out _ _ (fun _ => HS1) ?_
      clear hK K
      refine anyE_ready (rs := [9]) (by kernel_rfl) (by simp) ?_
      refine ReadyE.cons rfl (by kernel_rfl) (fun K hK => ?_) ReadyE.nil
      go_simp
      go_at_call 33
      refine (HG2.out x1 HA1.out).mono ?_
      rintro e x2 ⟨va2, rfl, hr2, hx2⟩
      have ha2 := HA1.out.trans (hx2.mono (by have := HA1.out.size; have := HB5.out.size; omega))
      have HS2 := HSS.out x2 ha2
      have HA2 := Lib.hid ha2
      have HRA := Lib.hid (HR1.out.below hx2)
      have HRB := Lib.hid hr2
      clear hr2 hx2 ha2 HR1 HS1
      refine hK.out _ _ (fun _ => HS2) ?_
      clear hK K HA1
      refine anyE_ready (rs := [10]) (by kernel_rfl) (by simp) ?_
      refine ReadyE.cons rfl (by kernel_rfl) (fun K hK => ?_) ReadyE.nil
      go_simp
      go_at_call 31
      refine (alike_any x2 va1 va2 Lg Lg HRA.out HRB.out).mono ?_
      rintro e x3 ⟨rfl, n3, rfl⟩
      rw [decide_eq_true (rfl : Lg = Lg)]
      refine hK.out _ _ (fun _ => HS2) ?_
      clear hK K
      refine anyE_take (i := 11) (v := ?_) rfl (by kernel_rfl) (by kernel_rfl) (by kernel_rfl) (by kernel_rfl) (by kernel_rfl) (fun c _ _ h => absurd rfl (h.1 c)) (Or.inl ⟨by kernel_rfl, ?_⟩) HS2 ?_
      rotate_left
      · intro w _; go_simp; with_reducible rfl
      refine anyE_take (i := 12) (v := ?_) rfl (by kernel_rfl) (by kernel_rfl) (by kernel_rfl) (by kernel_rfl) (by kernel_rfl) (fun c _ _ h => absurd rfl (h.1 c)) (Or.inl ⟨by kernel_rfl, ?_⟩) HS2 ?_
      rotate_left
      · intro w _; go_simp; with_reducible rfl
      refine anyE_done (by kernel_rfl) ?_ _
      refine ⟨(fun c h => by cases h), ?_⟩
      have HX := Lib.hid (below_drewN (HA2.out) n3)
      generalize World.drewN x2 n3 = X at *
      clear HRA HRB HA2 HS2
      clear x2
      go_wp2
      go_loopw [35] (fun q W => ∃ k : Nat, k ≤ vl ∧ q = .int .i64 k ∧ Below w5.heap.size w5 W) (fun q _ => vl - (intOf q).toNat)
      case atStart => exact ⟨0, Nat.zero_le _, rfl, HX.out⟩
      case round =>
        obtain ⟨W, rfl⟩ : ∃ W : World, W = wr := ⟨_, rfl⟩
        obtain ⟨k, hk, hq, hbw⟩ := hrel
        obtain rfl := hq
        have HBW := Lib.hid hbw
        clear hbw HX
        by_cases hlt : k < vl
        · have hlt2 : (k : Int) < (vl : Int) := by omega
          have hk0 : (0 : Int) ≤ (k : Int) := by omega
          obtain ⟨e1, bv, bvc, e2, e3⟩ := HLOOP.out W HBW.out k hlt
          obtain ⟨x, hx⟩ : ∃ x, x = matF (begM vl R) k k := ⟨_, rfl⟩
          rw [← hx] at e1 e3
          clear hx
          cases x
          · go_wp2
            refine wp_region_EQ (fun U => U.cell? ⟨rm, k, none⟩ = some (.bool false) ∧ U.cell? ⟨m, k, none⟩ = some (.slice (some ⟨bv, 0, none⟩) vl bvc) ∧ U.cell? ⟨bv, k, none⟩ = some (.bool false)) [] (by kernel_rfl) ?_
            have HS : _ := And.intro (DRC W _ _ e1) (And.intro (DRC W _ _ e2) (DRC W _ _ e3))
            change anyE _ _ _ _ _ _ _ _ _ (World.drew _)
            refine anyE_take (i := 0) (v := ?_) rfl (by kernel_rfl) (by kernel_rfl) (by kernel_rfl) (by kernel_rfl) (by kernel_rfl) (fun c _ _ h => absurd rfl (h.1 c)) (Or.inl ⟨by kernel_rfl, ?_⟩) HS ?_
            rotate_left
            · intro w _; go_simp; with_reducible rfl
            refine anyE_take (i := 1) (v := ?_) rfl (by kernel_rfl) (by kernel_rfl) (by kernel_rfl) (by kernel_rfl) (by kernel_rfl) (fun c _ _ h => absurd rfl (h.1 c)) (Or.inl ⟨by kernel_rfl, ?_⟩) HS ?_
            rotate_left
            · intro w _; go_simp; with_reducible rfl
            refine anyE_take (i := 2) (v := ?_) rfl (by kernel_rfl) (by kernel_rfl) (by kernel_rfl) (by kernel_rfl) (by kernel_rfl) (fun c _ _ h => absurd rfl (h.1 c)) (Or.inl ⟨by kernel_rfl, ?_⟩) HS ?_
            rotate_left
            · intro w _; go_simp; with_reducible rfl
            refine anyE_take (i := 3) (v := ?_) rfl (by kernel_rfl) (by kernel_rfl) (by kernel_rfl) (by kernel_rfl) (by kernel_rfl) (fun c _ _ h => absurd rfl (h.1 c)) (Or.inl ⟨by kernel_rfl, ?_⟩) HS ?_
            rotate_left
            · intro w hw; have hw := hw.1; go_simp; with_reducible rfl
            refine anyE_take (i := 4) (v := ?_) rfl (by kernel_rfl) (by kernel_rfl) (by kernel_rfl) (by kernel_rfl) (by kernel_rfl) (fun c _ _ h => absurd rfl (h.1 c)) (Or.inl ⟨by kernel_rfl, ?_⟩) HS ?_
            rotate_left
            · intro w _; go_simp; with_reducible rfl
            refine anyE_take (i := 5) (v := ?_) rfl (by kernel_rfl) (by kernel_rfl) (by kernel_rfl) (by kernel_rfl) (by kernel_rfl) (fun c _ _ h => absurd rfl (h.1 c)) (Or.inl ⟨by kernel_rfl, ?_⟩) HS ?_
            rotate_left
            · intro w _; go_simp; with_reducible rfl
            refine anyE_take (i := 6) (v := ?_) rfl (by kernel_rfl) (by kernel_rfl) (by kernel_rfl) (by kernel_rfl) (by kernel_rfl) (fun c _ _ h => absurd rfl (h.1 c)) (Or.inl ⟨by kernel_rfl, ?_⟩) HS ?_
            rotate_left
            · intro w _; go_simp; with_reducible rfl
            refine anyE_take (i := 7) (v := ?_) rfl (by kernel_rfl) (by kernel_rfl) (by kernel_rfl) (by kernel_rfl) (by kernel_rfl) (fun c _ _ h => absurd rfl (h.1 c)) (Or.inl ⟨by kernel_rfl, ?_⟩) HS ?_
            rotate_left
            · intro w hw; have hw := hw.2.1; go_simp; with_reducible rfl
            refine anyE_take (i := 8) (v := ?_) rfl (by kernel_rfl) (by kernel_rfl) (by kernel_rfl) (by kernel_rfl) (by kernel_rfl) (fun c _ _ h => absurd rfl (h.1 c)) (Or.inl ⟨by kernel_rfl, ?_⟩) HS ?_
            rotate_left
            · intro w _; go_simp; with_reducible rfl
            refine anyE_take (i := 9) (v := ?_) rfl (by kernel_rfl) (by kernel_rfl) (by kernel_rfl) (by kernel_rfl) (by kernel_rfl) (fun c _ _ h => absurd rfl (h.1 c)) (Or.inl ⟨by kernel_rfl, ?_⟩) HS ?_
            rotate_left
            · intro w _; go_simp; with_reducible rfl
            refine anyE_take (i := 10) (v := ?_) rfl (by kernel_rfl) (by kernel_rfl) (by kernel_rfl) (by kernel_rfl) (by kernel_rfl) (fun c _ _ h => absurd rfl (h.1 c)) (Or.inl ⟨by kernel_rfl, ?_⟩) HS ?_
            rotate_left
            · intro w hw; have hw := hw.2.2; go_simp; with_reducible rfl
            refine anyE_take (i := 11) (v := ?_) rfl (by kernel_rfl) (by kernel_rfl) (by kernel_rfl) (by kernel_rfl) (by kernel_rfl) (fun c _ _ h => absurd rfl (h.1 c)) (Or.inl ⟨by kernel_rfl, ?_⟩) HS ?_
            rotate_left
            · intro w _; go_simp; with_reducible rfl
            refine anyE_done (by kernel_rfl) ?_ _
            refine ⟨(fun c h => by cases h), ?_⟩
            have hdr := HBW.out.drew
            generalize World.drew W = W2 at *
            simp only [Act.put, List.setIfInBounds_toArray, List.set_cons_succ, List.set_cons_zero, List.getElem_toArray, List.getElem_cons_zero, List.getElem_cons_succ]
            go_wp2
            exact ⟨⟨k + 1, hlt, congrArg (Value.int .i64) (by omega), hdr⟩, by simp only [intOf]; omega⟩
          · go_wp2
            refine wp_region_EQ (fun U => U.cell? ⟨rm, k, none⟩ = some (.bool true) ∧ U.cell? ⟨m, k, none⟩ = some (.slice (some ⟨bv, 0, none⟩) vl bvc) ∧ U.cell? ⟨bv, k, none⟩ = some (.bool true)) [] (by kernel_rfl) ?_
            have HS : _ := And.intro (DRC W _ _ e1) (And.intro (DRC W _ _ e2) (DRC W _ _ e3))
            change anyE _ _ _ _ _ _ _ _ _ (World.drew _)
            refine anyE_take (i := 0) (v := ?_) rfl (by kernel_rfl) (by kernel_rfl) (by kernel_rfl) (by kernel_rfl) (by kernel_rfl) (fun c _ _ h => absurd rfl (h.1 c)) (Or.inl ⟨by kernel_rfl, ?_⟩) HS ?_
            rotate_left
            · intro w _; go_simp; with_reducible rfl
            refine anyE_take (i := 1) (v := ?_) rfl (by kernel_rfl) (by kernel_rfl) (by kernel_rfl) (by kernel_rfl) (by kernel_rfl) (fun c _ _ h => absurd rfl (h.1 c)) (Or.inl ⟨by kernel_rfl, ?_⟩) HS ?_
            rotate_left
            · intro w _; go_simp; with_reducible rfl
            refine anyE_take (i := 2) (v := ?_) rfl (by kernel_rfl) (by kernel_rfl) (by kernel_rfl) (by kernel_rfl) (by kernel_rfl) (fun c _ _ h => absurd rfl (h.1 c)) (Or.inl ⟨by kernel_rfl, ?_⟩) HS ?_
            rotate_left
            · intro w _; go_simp; with_reducible rfl
            refine anyE_take (i := 3) (v := ?_) rfl (by kernel_rfl) (by kernel_rfl) (by kernel_rfl) (by kernel_rfl) (by kernel_rfl) (fun c _ _ h => absurd rfl (h.1 c)) (Or.inl ⟨by kernel_rfl, ?_⟩) HS ?_
            rotate_left
            · intro w hw; have hw := hw.1; go_simp; with_reducible rfl
            refine anyE_take (i := 4) (v := ?_) rfl (by kernel_rfl) (by kernel_rfl) (by kernel_rfl) (by kernel_rfl) (by kernel_rfl) (fun c _ _ h => absurd rfl (h.1 c)) (Or.inl ⟨by kernel_rfl, ?_⟩) HS ?_
            rotate_left
            · intro w _; go_simp; with_reducible rfl
            refine anyE_take (i := 5) (v := ?_) rfl (by kernel_rfl) (by kernel_rfl) (by kernel_rfl) (by kernel_rfl) (by kernel_rfl) (fun c _ _ h => absurd rfl (h.1 c)) (Or.inl ⟨by kernel_rfl, ?_⟩) HS ?_
            rotate_left
            · intro w _; go_simp; with_reducible rfl
            refine anyE_take (i := 6) (v := ?_) rfl (by kernel_rfl) (by kernel_rfl) (by kernel_rfl) (by kernel_rfl) (by kernel_rfl) (fun c _ _ h => absurd rfl (h.1 c)) (Or.inl ⟨by kernel_rfl, ?_⟩) HS ?_
            rotate_left
            · intro w _; go_simp; with_reducible rfl
            refine anyE_take (i := 7) (v := ?_) rfl (by kernel_rfl) (by kernel_rfl) (by kernel_rfl) (by kernel_rfl) (by kernel_rfl) (fun c _ _ h => absurd rfl (h.1 c)) (Or.inl ⟨by kernel_rfl, ?_⟩) HS ?_
            rotate_left
            · intro w hw; have hw := hw.2.1; go_simp; with_reducible rfl
            refine anyE_take (i := 8) (v := ?_) rfl (by kernel_rfl) (by kernel_rfl) (by kernel_rfl) (by kernel_rfl) (by kernel_rfl) (fun c _ _ h => absurd rfl (h.1 c)) (Or.inl ⟨by kernel_rfl, ?_⟩) HS ?_
            rotate_left
            · intro w _; go_simp; with_reducible rfl
            refine anyE_take (i := 9) (v := ?_) rfl (by kernel_rfl) (by kernel_rfl) (by kernel_rfl) (by kernel_rfl) (by kernel_rfl) (fun c _ _ h => absurd rfl (h.1 c)) (Or.inl ⟨by kernel_rfl, ?_⟩) HS ?_
            rotate_left
            · intro w _; go_simp; with_reducible rfl
            refine anyE_take (i := 10) (v := ?_) rfl (by kernel_rfl) (by kernel_rfl) (by kernel_rfl) (by kernel_rfl) (by kernel_rfl) (fun c _ _ h => absurd rfl (h.1 c)) (Or.inl ⟨by kernel_rfl, ?_⟩) HS ?_
            rotate_left
            · intro w hw; have hw := hw.2.2; go_simp; with_reducible rfl
            refine anyE_take (i := 11) (v := ?_) rfl (by kernel_rfl) (by kernel_rfl) (by kernel_rfl) (by kernel_rfl) (by kernel_rfl) (fun c _ _ h => absurd rfl (h.1 c)) (Or.inl ⟨by kernel_rfl, ?_⟩) HS ?_
            rotate_left
            · intro w _; go_simp; with_reducible rfl
            refine anyE_done (by kernel_rfl) ?_ _
            refine ⟨(fun c h => by cases h), ?_⟩
            have hdr := HBW.out.drew
            generalize World.drew W = W2 at *
            simp only [Act.put, List.setIfInBounds_toArray, List.set_cons_succ, List.set_cons_zero, List.getElem_toArray, List.getElem_cons_zero, List.getElem_cons_succ]
            go_wp2
            exact ⟨⟨k + 1, hlt, congrArg (Value.int .i64) (by omega), hdr⟩, by simp only [intOf]; omega⟩
        · obtain rfl : k = vl := by omega
          go_wp2
          go_ret
          exact ⟨rfl, HFIN.out W HBW.out⟩
end Go.Proofs.Ytljkobijoenabaa.dv
namespace Go.Proofs.Ytljkobijoenabaa.dv
open Go.ChangeShapes Go.WideShapes Go.ChangeAt Go.RowKit Go.Maps Go.WideMaps Go.WideElems Go.Deep Go.Joins
set_option linter.unusedVariables false
set_option linter.unusedSimpArgs false
set_option maxRecDepth 100000 in
theorem sleftTells_lifted (os : Os) (started : os.Started) (H : Type) (enc : TypeId × Value → H) :
    ReturnsInHanded {} Try.checked os 8 .any (Rows.leftTellsSpec.pre6 enc Try.prog Try.f8 Rows.leftTellsRow.domain false) (Rows.leftTellsSpec.post enc Try.prog Try.f8 false true false false) := by
  refine returnsInHanded_of_change (C := Try.checked) own started (by kernel_rfl) Try.func8
    (ChangeSpec.witness6 (enc := enc) (C := Try.checked) false ⟨#[], #[.agg #[.slice none 0 0, .slice none 0 0, .slice none 0 0]], []⟩ 8 (by kernel_rfl) (by kernel_rfl) (by kernel_rfl) (by kernel_rfl)) ?_
  intro W base args ds gs before hval0 hW hcnd _
  have hval : ∀ (j : Nat) t v, Try.f8.params[j]? = some t → args[j]? = some v → Value.okWide Try.prog W .any base t v := hval0
  have hW' := hW
  obtain ⟨p, q, hA0, hV, rfl, hfz, hnd⟩ := hW
  have hA : DataW.TrodAll enc Try.prog W 0 (fun _ => true) true Try.f8.params.toList args.toList ds p := hA0
  rw [Try.params8] at hA hval
  obtain ⟨v0, vs0, d0, ds0, p0, q0, hargs, rfl, rfl, h0, r0⟩ := trodAll_cons hA
  obtain ⟨rfl, rfl, rfl⟩ := trodAll_nil r0
  obtain rfl : args = #[v0] := by cases args; simp_all
  obtain ⟨rfl, rfl⟩ := trodVars_none hV
  have h0k := h0
  obtain ⟨g0, g1, g2, y0, y1, y2, n, rfl, _, _, e0, e1, e2⟩ := open_agg3 Try.underlying25 (by kernel_rfl) (by kernel_rfl) (hval 0 25 v0 rfl rfl) h0
  replace e0 : DataW.trod enc Try.prog W 0 (fun _ => true) true n 22 [g0] = some y0 := e0
  replace e1 : DataW.trod enc Try.prog W 0 (fun _ => true) true n 22 [g1] = some y1 := e1
  replace e2 : DataW.trod enc Try.prog W 0 (fun _ => true) true n 23 [g2] = some y2 := e2
  obtain ⟨ta, tl, tc, rfl, _, _, _⟩ := slice_of Try.underlying22 e0
  obtain ⟨va, vl, vc, rfl, _, _, _⟩ := slice_of Try.underlying22 e1
  obtain ⟨ra, rl, rc, rfl, hr1, hr2, _⟩ := slice_of Try.underlying23 e2
  obtain ⟨hT1, hT2⟩ := strs_of e0
  obtain ⟨hV1, hV2⟩ := strs_of e1
  obtain ⟨R, rfl, hR, hwf⟩ := rules_of e2
  clear hA0 hval0
  simp only [List.append_nil] at hW'
  have hlt : ∀ x ∈ p0, x.block < W.heap.size := fun x hx => by simpa using hW'.lt x (by simpa using hx)
  have hback0 : ∀ (W' : World), Below W.heap.size W W' → DataW.Trod enc Try.prog W' 0 (fun b => decide (b < W.heap.size)) true 25 (.agg #[.slice ta tl tc, .slice va vl vc, .slice ra R.length rc]) d0 p0 :=
    fun W' hn => Below.trod laidOut (by kernel_rfl) (of_decide_eq_true (by kernel_rfl)) h0k hn (fun x hx => hlt x (by simp [hx]))
  have hT : ∀ (W' : World), Below W.heap.size W W' → DataW.TrodAll enc Try.prog W' 0 (fun b => decide (b < W.heap.size)) true [25] [.agg #[.slice ta tl tc, .slice va vl vc, .slice ra R.length rc]] [d0] (p0) := fun W' hn => by
    have h4 := (trodAll_mk1 (hback0 _ hn))
    simpa using h4
  refine (tells_any W ta va ra tl tc vl vc rc R hR hT1 hV1 (by omega) hT2 hV2).mono fun e W' ⟨he, hb⟩ => ?_
  subst he
  exact ⟨_, rfl, _, _, _, [], p0, [], hW', trodAll_mk1 (shut_bool Try.underlying4 _), hT W' hb, rfl, hb.frame _, fun h => by cases h⟩
theorem sleftTells_said : Rows.LeftTellsSaid :=
  OpenClaim.holds_of_wide 8 Try.f8 rfl rfl rfl rfl rfl rfl rfl ⟨rfl, rfl, rfl, rfl, rfl⟩ rfl rfl rfl rfl rfl (by kernel_rfl) Try.func8 (by kernel_rfl)
    (of_decide_eq_true (by kernel_rfl)) (by unfold Func.isWrapper; first | (rw [if_pos (by decide +kernel)]; kernel_rfl) | (rw [if_neg (by decide +kernel)]; exact ⟨rfl, rfl⟩))
    (fun os started H enc _ => sleftTells_lifted os started H enc)
end Go.Proofs.Ytljkobijoenabaa.dv
namespace Go.Proofs.Ytljkobijoenabaa
theorem leftTells_holds : Rows.LeftTellsSaid := dv.sleftTells_said
end Go.Proofs.Ytljkobijoenabaa

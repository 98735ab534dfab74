import Derived.Test.YtomikgkoegkofaaGreatDoorDvb
namespace Go.Proofs.YtomikgkoegkofaaGreatDoor.dv
open Go.ChangeShapes Go.WideShapes Go.ChangeAt Go.RowKit Go.Maps Go.WideMaps Go.WideElems Go.Shelf
set_option linter.unusedVariables false
attribute [local go_sem] Oper.semAt_some
/-! a form on its way: its parts -/
/-- parts in block b: what is done, and what is to come, from its end; all of it above B -/
def Parts (B : Nat) (w : World) (b : Nat) (D T : List Int) : Prop := B ≤ b ∧ ∃ vd vt, Blk w b 101 #[vd, vt] ∧ w.ownsRow B 3 1 vd D.length (IV D) ∧ w.ownsRow B 3 1 vt T.length (IV T) ∧ (vd.ownBlock = none ∨ vd.ownBlock ≠ vt.ownBlock)
theorem Blk.not_row {W : World} {b : Nat} {t e : TypeId} {cs : Array Value} (h : Blk W b t cs) (hte : t ≠ e) {base size k : Nat} {v : Value} {xs : List Value} (hr : W.ownsRow base e size v k xs) : some b ≠ v.ownBlock := by
  rcases hr.2 with ⟨rfl, _⟩ | ⟨g, cap, cur, rfl, _, hgb, _⟩
  · simp [Value.ownBlock]
  · intro e'
    obtain rfl : b = g := by simpa [Value.ownBlock] using e'
    have := (show W.heap[b]? = _ from h).symm.trans hgb
    simp at this
    exact hte this.2
theorem Blk.grown {w w' : World} {g : Nat} {t : TypeId} {cs : Array Value} {row : Option Nat} (h : Blk w g t cs) (hb : w.grownBy w' row) (hg : some g ≠ row) : Blk w' g t cs := (hb.block g h.lt hg).trans h
theorem own_grown {w w' : World} {base size n : Nat} {e : TypeId} {v : Value} {xs : List Value} {row : Option Nat} (h : w.ownsRow base e size v n xs) (hb : w.grownBy w' row) (hne : v.ownBlock = none ∨ v.ownBlock ≠ row) : w'.ownsRow base e size v n xs := by
  refine ownsRow_keep h fun g hg hv => hb.block g hg ?_
  rcases hne with h | h
  · rw [hv] at h; cases h
  · rwa [hv] at h
theorem Parts.grown {B : Nat} {w w' : World} {b : Nat} {D T : List Int} {row : Option Nat} (h : Parts B w b D T) (hg : w.grownBy w' row) (hr : ∀ r, row = some r → ∃ o : Obj, w.heap[r]? = some o ∧ o.isCells = false) : Parts B w' b D T := by
  obtain ⟨hB, vd, vt, hb, hd, ht, hne⟩ := h
  have hx : ∀ r (o : Obj), w.heap[r]? = some o → o.isCells = true → some r ≠ row := fun r o ho hc e => by
    obtain ⟨o', ho', hc'⟩ := hr r e.symm
    rw [ho] at ho'
    cases ho'
    rw [hc] at hc'
    cases hc'
  have hxr : ∀ (v : Value) n xs, w.ownsRow B 3 1 v n xs → v.ownBlock = none ∨ v.ownBlock ≠ row := fun v n xs hv => by
    rcases hv.2 with ⟨rfl, _⟩ | ⟨g, cap, cur, rfl, _, hgb, _⟩
    · exact .inl rfl
    · exact .inr (hx g _ hgb rfl)
  exact ⟨hB, vd, vt, hb.grown hg (hx b _ hb rfl), own_grown hd hg (hxr _ _ _ hd), own_grown ht hg (hxr _ _ _ ht), hne⟩
/-- within a round a region goes as everywhere: from the plain walk to that of the round -/
theorem oper_in_of {P : Program} {o : Oper} {a : Act} {w : World} {K : Act → World → Prop} {Q : Exit → Act → World → Prop} {l n : Nat} (hnd : ∀ c, o.op ≠ .defer c)
    (h : Oper.wp P o a w K (fun e a w => e ≠ .outgrown ∧ Q e a w)) : Oper.wpIn (Fence.wide.inRound l) n P o a w K Q := by
  unfold Oper.wpIn
  refine ⟨fun _ _ => trivial, ?_⟩
  rw [Oper.semAt_eq _ _ _ hnd]
  unfold Oper.wp at h
  generalize (execOp a.eval o).run P w = r at h ⊢
  cases r with
  | ok x w' =>
    cases x with
    | value v => exact h
    | skip => exact h
    | defer d => exact h
    | enter f args =>
      refine ⟨fun h => (by cases h), CallsIn.inRound l (callsIn_wide.2 (Calls.mono h fun e w'' he => ?_))⟩
      cases e with
      | returned v => exact he
      | panicked c => exact he.2
      | outgrown =>
        obtain ⟨a', w3, h3, _⟩ := he
        exact absurd rfl h3
    | row row args => exact ⟨fun h => (by cases h), fun c cs _ => let ⟨v, w', r, s⟩ := h c cs; ⟨v, w', r, stepsIn_wide.2 s⟩⟩
    | _ => exact h.elim
  | halt x w' =>
    cases x <;> first | exact h.2 | exact h.elim
theorem anyIn_of_any {P : Program} {md : Region.Mode} {ops : Array Oper} {Q : Exit → Act → World → Prop} {l n : Nat} (hnd : ∀ (i : Nat) (o : Oper), ops[i]? = some o → ∀ c, o.op ≠ .defer c) :
    ∀ (fuel : Nat) (listed : Array Bool) (a : Act) (w : World), wpAny P md ops (fun e a w => e ≠ .outgrown ∧ Q e a w) fuel listed a w → wpAnyIn (Fence.wide.inRound l) n P md ops Q fuel listed a w := by
  intro fuel
  induction fuel with
  | zero => exact fun listed a w h => ⟨h.1, h.2.2⟩
  | succ fuel ih =>
    intro listed a w h
    refine ⟨fun hr => (h.1 hr).2, fun i hi => ?_⟩
    have h2 := h.2 i hi
    unfold wpOp at h2
    unfold wpOpIn
    cases ho : ops[i]? with
    | none => rw [ho] at h2; exact ih _ _ _ h2
    | some o =>
      rw [ho] at h2
      dsimp only at h2 ⊢
      by_cases hw : Region.wanted o (yielded ops a.tmps) = true
      · rw [if_pos hw] at h2 ⊢
        rcases h2 with h2 | ⟨_, a', w', h3, _⟩
        · exact Oper.wpIn_mono (fun a w h => ih _ a w h) (oper_in_of (hnd i o ho) h2)
        · exact absurd rfl h3
      · rw [if_neg hw] at h2 ⊢
        exact ⟨fun _ _ => trivial, ih _ _ _ h2⟩
theorem one_new (w : World) (t : TypeId) (u : Value) : ∀ (j : Nat) (v : Value), [u][j]? = some v → (w.alloc (.cells #[u] t)).cell? ((⟨w.heap.size, 0, none⟩ : Addr).add j) = some v := by
  intro j v hj
  cases j with
  | zero =>
    simp at hj
    subst hj
    have := Blk.cell (Blk.new w t #[u]) 0
    simp [Addr.add]
  | succ j => simp at hj
theorem Blk.grownC {w w' : World} {g : Nat} {t : TypeId} {cs : Array Value} {row : Option Nat} (h : Blk w g t cs) (hg : w.grownBy w' row) (hr : ∀ r, row = some r → ∃ o : Obj, w.heap[r]? = some o ∧ o.isCells = false) : Blk w' g t cs := h.grown hg fun e => by
  obtain ⟨o', ho', hc'⟩ := hr g e.symm
  have := (show w.heap[g]? = _ from h).symm.trans ho'
  cases this
  cases hc'
theorem grown_set (W : World) (p : Addr) (v : Value) : W.grownBy (W.setCell p v) (some p.block) :=
  ⟨rfl, rfl, rfl, (KeepsWalks.setCell W _ v).size, fun k _ hk => Below.heap_setCell _ _ _ k (fun e => hk (by rw [e]))⟩
theorem blk_apart {w : World} {b c : Nat} {t u : TypeId} {cs ds : Array Value} (h : Blk w b t cs) (k : Blk w c u ds) (hne : t ≠ u) : b ≠ c := by
  rintro rfl
  have := (show w.heap[b]? = _ from h).symm.trans k
  simp at this
  exact hne this.2
/-- one symbol more -/
theorem put_step {B b P S : Nat} {W w4 : World} {vd vt : Value} {D T : List Int} {m g4 cap4 : Nat} {p0 s0 : Value} {ys : List Value} {tmp : Obj} (hn : B ≤ W.heap.size) (hB1 : B ≤ b) (hBP : B ≤ P) (hBS : B ≤ S)
    (hb : Blk W b 101 #[vd, vt]) (hd : W.ownsRow B 3 1 vd D.length (IV D)) (ht : W.ownsRow B 3 1 vt T.length (IV T)) (hne : vd.ownBlock = none ∨ vd.ownBlock ≠ vt.ownBlock)
    (hbp : Blk W P 122 #[p0]) (hbs : Blk W S 28 #[s0])
    (h1 : w4.ownsRow B 3 1 (.slice (some ⟨g4, 0, none⟩) m cap4) m ys) (h2 : ((World.drew W).alloc tmp).grownBy w4 vt.ownBlock) (h3 : vt.ownBlock = some g4 ∨ g4 = W.heap.size + 1) :
    Blk w4 b 101 #[vd, vt] ∧ Blk w4 P 122 #[p0] ∧ Blk (w4.setCell ⟨b, 1, none⟩ (.slice (some ⟨g4, 0, none⟩) m cap4)) b 101 #[vd, .slice (some ⟨g4, 0, none⟩) m cap4] ∧
    (w4.setCell ⟨b, 1, none⟩ (.slice (some ⟨g4, 0, none⟩) m cap4)).ownsRow B 3 1 vd D.length (IV D) ∧ (w4.setCell ⟨b, 1, none⟩ (.slice (some ⟨g4, 0, none⟩) m cap4)).ownsRow B 3 1 (.slice (some ⟨g4, 0, none⟩) m cap4) m ys ∧
    (vd.ownBlock = none ∨ vd.ownBlock ≠ some g4) ∧ Blk (w4.setCell ⟨b, 1, none⟩ (.slice (some ⟨g4, 0, none⟩) m cap4)) P 122 #[p0] ∧ Blk (w4.setCell ⟨b, 1, none⟩ (.slice (some ⟨g4, 0, none⟩) m cap4)) S 28 #[s0] ∧
    KeepsOthers W (w4.setCell ⟨b, 1, none⟩ (.slice (some ⟨g4, 0, none⟩) m cap4)) ∧ Below B W (w4.setCell ⟨b, 1, none⟩ (.slice (some ⟨g4, 0, none⟩) m cap4)) := by
  have hb4 : Blk w4 b 101 #[vd, vt] := (Blk.alloc (w := World.drew W) hb tmp).grown h2 (hb.not_row (by decide) ht)
  have hp4 : Blk w4 P 122 #[p0] := (Blk.alloc (w := World.drew W) hbp tmp).grown h2 (hbp.not_row (by decide) ht)
  have hs4 : Blk w4 S 28 #[s0] := (Blk.alloc (w := World.drew W) hbs tmp).grown h2 (hbs.not_row (by decide) ht)
  have hd' : (World.drew W).ownsRow B 3 1 vd D.length (IV D) := hd
  have ht' : (World.drew W).ownsRow B 3 1 vt T.length (IV T) := ht
  have hd4 : w4.ownsRow B 3 1 vd D.length (IV D) := own_grown (hd'.alloc tmp) h2 hne
  have hgs := grown_set w4 ⟨b, 1, none⟩ (.slice (some ⟨g4, 0, none⟩) m cap4)
  refine ⟨hb4, hp4, hb4.set_ 1 _, own_grown hd4 hgs (.inr (hb4.not_row (by decide) hd4).symm), own_grown h1 hgs (.inr (hb4.not_row (by decide) h1).symm), ?_, hp4.far (blk_apart hp4 hb4 (by decide)) _, hs4.far (blk_apart hs4 hb4 (by decide)) _, ?_, ?_⟩
  · rcases hne with h | h
    · exact .inl h
    · rcases h3 with h3 | h3
      · exact .inr (h3 ▸ h)
      · right
        intro e
        have := (hd.lt g4 e).2
        omega
  · refine (((KeepsOthers.drew W).trans (KeepsOthers.alloc _ tmp)).trans (KeepsOthers.of_grownBy h2 fun j o ej hj => ?_)).trans (KeepsOthers.setCell _ _ _)
    rcases (ht'.alloc tmp).2 with ⟨rfl, _⟩ | ⟨g, cap, cur, rfl, _, hgb, _⟩
    · simp [Value.ownBlock] at ej
    · obtain rfl : g = j := by simpa [Value.ownBlock] using ej
      rw [hgb] at hj; cases hj; rfl
  · exact ((((Below.refl B W).drew).alloc hn tmp).grown h2 (by rw [World.size_alloc]; exact Nat.le_succ_of_le hn) fun j ej => (ht.lt j ej).1).setCell (p := ⟨b, 1, none⟩) hB1 _
set_option maxRecDepth 100000 in
set_option maxHeartbeats 2000000 in
theorem put_any (w : World) (B b cap : Nat) (ao : Option Addr) (D T s : List Int) (hp : Parts B w b D T) (hs : RowUnder B w ao s) (hl1 : s.length ≤ 100000) (hl2 : T.length + s.length ≤ 1000000) (hBw : B ≤ w.heap.size) :
    Calls Tryz.prog 94 #[.pointer (some ⟨b, 0, none⟩), .slice ao s.length cap] w fun e w' => (∃ v, e = .returned v) ∧ Parts B w' b D (T ++ s.reverse) ∧ Below B w w' := by
  obtain ⟨i0, hi, hz0, hz1, hz2⟩ := info_parts info_int
  refine (callsIn_wide (n := 3)).1 ?_
  refine callsIn_of_wp_marks Tryz.func94 rfl trivial ?_ rfl
  simp only [Tryz.ntmps94, List.size_toArray, List.length_cons, List.length_nil, Nat.reduceAdd, Nat.reduceSub, Array.replicate_succ, Array.replicate_zero, List.push_toArray, List.append_toArray, List.nil_append, List.cons_append]
  gi_wp2_with (refine ⟨trivial, ?_⟩; gi_at_call 46; refine (back_in _ _ trivial rfl _ _ _ _).mono ?_; rintro e w' ⟨rfl, rfl⟩)
  have bP := Blk.new w 122 #[.pointer (some ⟨b, 0, none⟩)]
  have bN := Blk.new (w.alloc (.cells #[.pointer (some ⟨b, 0, none⟩)] 122)) 28 #[.slice ao s.length cap]
  rw [World.size_alloc] at bN
  have hb0 : Below w.heap.size w ((w.alloc (.cells #[.pointer (some ⟨b, 0, none⟩)] 122)).alloc (.cells #[.slice ao s.length cap] 28)) := ((Below.refl _ w).alloc (Nat.le_refl _) _).alloc (by simp) _
  have hB0 : Below B w ((w.alloc (.cells #[.pointer (some ⟨b, 0, none⟩)] 122)).alloc (.cells #[.slice ao s.length cap] 28)) := hb0.mono hBw
  have hnone : ∀ r, (none : Option Nat) = some r → ∃ o : Obj, w.heap[r]? = some o ∧ o.isCells = false := fun r e => by cases e
  have hp0 : Parts B ((w.alloc (.cells #[.pointer (some ⟨b, 0, none⟩)] 122)).alloc (.cells #[.slice ao s.length cap] 28)) b D T := (hp.grown (World.grownBy_alloc w _ none) (fun r e => by cases e)).grown (World.grownBy_alloc _ _ none) (fun r e => by cases e)
  have hq1 : (1 : Nat) ≤ 3 := by decide
  have hq2 : (1 : Nat) ≤ 3 - 1 := by decide
  refine wpIn_rangeFunc_ownG (F := Fence.wide) rfl hq1 (gf := 71) (lb := #[.pointer (some ⟨w.heap.size + 1, 0, none⟩)]) rfl trivial (enters_of Tryz.func71 (by kernel_rfl) rfl)
    (back_stops Fence.wide _ trivial rfl hq2 (w.heap.size + 1) B cap ao s hl1 _ (by simp) (by simp; omega) (bN.cell 0) (fun j hj => by
      obtain ⟨a, e, hab, hca⟩ := hs j hj
      exact ⟨a, e, hab, (hB0.cell (p := a.add j) (by rw [add_block]; exact hab)).trans hca⟩)) (fun h k => h.trans k) (fun W l o o' hl h hc hw => kb_b (w := w) (m := w.heap.size) hBw W l o o' (by simp at hl; omega) (Nat.le_refl _) h hc hw) (Below.refl _ _) (fun _ => rfl)
    (fun pre W => (Parts B W b D (T ++ pre.map (·.2)) ∧ Blk W w.heap.size 122 #[.pointer (some ⟨b, 0, none⟩)] ∧ Blk W (w.heap.size + 1) 28 #[.slice ao s.length cap]) ∧ Below B w W)
    (fun _ _ _ => False)
    (OwnFrom.and (Own.from (fun s A B row hs hg hr => ⟨hs.1.grown hg hr, hs.2.1.grownC hg hr, hs.2.2.grownC hg hr⟩) _) (ownFrom_below hBw (by simp; omega)))
    (fun _ _ _ _ _ hs _ _ => hs)
    ⟨⟨by simpa using hp0, bP.alloc _, bN⟩, hB0⟩
    (fun x => { tmps := #[.pointer (some ⟨b, 0, none⟩), .slice ao s.length cap, .pointer (some ⟨w.heap.size, 0, none⟩), undef, undef, .int .i64 x.2, .slice ao s.length cap, .func (.func 71) #[] #[.pointer (some ⟨w.heap.size + 1, 0, none⟩)], .int .i64 (x.1 : Int), .int .i64 x.2, undef, undef, undef, undef, undef, undef, undef, undef, undef, undef], defers := [] }) ?assign ?body ?done ?stop
  case assign =>
    intro l x W K hK
    gi_wp2
    exact hK
  case body =>
    rintro l pre x W ⟨⟨hP, hbp, hbs⟩, hB⟩ hlt
    obtain ⟨hB1, vd, vt, hb, hd, ht, hne⟩ := hP
    have c0 := hbp.cell 0
    have c1 := hb.cell 0
    have c2 := hb.cell 1
    simp only [List.getElem?_toArray, List.getElem?_cons_zero, List.getElem?_cons_succ] at c0 c1 c2
    generalize hLL : T ++ pre.map (·.2) = L at ht
    have hlen : L.length = T.length + pre.length := by rw [← hLL]; simp
    have hlp : pre.length < s.length := hlt
    have hrow : (World.drew W).ownsRow B 3 1 vt L.length (IV L) := ht
    have hsz : B ≤ (((World.drew W).alloc (.cells #[.int .i64 x.2] 3))).heap.size := by
      rw [World.size_alloc]
      have := hB.size
      show B ≤ W.heap.size + 1
      omega
    have hnW : B ≤ W.heap.size := by have := hB.size; omega
    have HE : ∀ g4 cap4 w4, w4.ownsRow B 3 1 (.slice (some ⟨g4, 0, none⟩) (L.length + 1) cap4) (L.length + 1) (IV L ++ [.int .i64 x.2]) → ((World.drew W).alloc (.cells #[.int .i64 x.2] 3)).grownBy w4 vt.ownBlock → (vt.ownBlock = some g4 ∨ g4 = W.heap.size + 1) → g4 < w4.heap.size → Blk w4 b 101 #[vd, vt] ∧ Blk w4 w.heap.size 122 #[.pointer (some ⟨b, 0, none⟩)] ∧
        (KeepsFrom (((w.alloc (.cells #[.pointer (some ⟨b, 0, none⟩)] 122)).alloc (.cells #[.slice ao s.length cap] 28))).heap.size W (w4.setCell ⟨b, 1, none⟩ (.slice (some ⟨g4, 0, none⟩) (L.length + 1) cap4)) ∧ Kb B (w.heap.size + 1) W (w4.setCell ⟨b, 1, none⟩ (.slice (some ⟨g4, 0, none⟩) (L.length + 1) cap4)) ∧
        (Parts B (w4.setCell ⟨b, 1, none⟩ (.slice (some ⟨g4, 0, none⟩) (L.length + 1) cap4)) b D (T ++ (pre ++ [x]).map (·.2)) ∧ Blk (w4.setCell ⟨b, 1, none⟩ (.slice (some ⟨g4, 0, none⟩) (L.length + 1) cap4)) w.heap.size 122 #[.pointer (some ⟨b, 0, none⟩)] ∧ Blk (w4.setCell ⟨b, 1, none⟩ (.slice (some ⟨g4, 0, none⟩) (L.length + 1) cap4)) (w.heap.size + 1) 28 #[.slice ao s.length cap]) ∧ Below B w (w4.setCell ⟨b, 1, none⟩ (.slice (some ⟨g4, 0, none⟩) (L.length + 1) cap4))) := by
      intro g4 cap4 w4 h1 h2 h3 h4
      obtain ⟨k1, k1p, k2, k3, k4, k5, k6, k7, k8, k9⟩ := put_step hnW hB1 hBw (Nat.le_succ_of_le hBw) hb hd ht hne hbp hbs h1 h2 h3
      refine ⟨k1, k1p, k8.from _, ⟨k9, fun v hv => ?_⟩, ⟨⟨hB1, vd, _, k2, k3, ?_, k5⟩, k6, k7⟩, hB.trans k9⟩
      · rw [hbs.cell 0] at hv
        rw [k7.cell 0]
        exact hv
      · have e1 : (T ++ (pre ++ [x]).map (·.2)).length = L.length + 1 := by rw [hlen]; simp; omega
        have e2 : IV (T ++ (pre ++ [x]).map (·.2)) = IV L ++ [.int .i64 x.2] := by rw [← hLL]; simp [IV]
        rw [e1, e2]
        exact k4
    have ca := (hbp.alloc (.cells #[.int .i64 x.2] 3)).cell 0
    have cb := (hb.alloc (.cells #[.int .i64 x.2] 3)).cell 1
    simp only [List.getElem?_toArray, List.getElem?_cons_zero, List.getElem?_cons_succ] at ca cb
    have HE := Lib.hid HE
    have HL := Lib.hid hlen
    clear hlen hLL
    gi_wp2
    refine wpIn_region_any (by kernel_rfl) (anyIn_of_any (fun i o ho c hc => ?_) _ _ _ _ ?_)
    · have hm := Array.mem_of_getElem? ho
      simp only [List.mem_toArray, List.mem_cons, List.not_mem_nil, or_false] at hm
      repeat (rcases hm with rfl | hm; · cases hc)
      try (subst hm; cases hc)
    change wpAny _ _ _ _ _ _ _ (World.drew _)
    refine wpAny_take (i := 5) (v := ?_) rfl (by kernel_rfl) (by kernel_rfl) (by kernel_rfl) (fun _ _ _ h => h) (Or.inl ⟨by rfl, ?_⟩) ?_
    rotate_left
    · intro w; go_simp; with_reducible rfl
    refine wpAny_ready (rs := [0, 1, 6]) (by kernel_rfl) (by simp) ?_
    refine AllReady.cons rfl (fun K hK => ?_) (AllReady.cons rfl (fun K hK => ?_) (AllReady.cons rfl (fun K hK => ?_) AllReady.nil))
    · go_simp
      refine hK _ _ ?_
      clear hK K
      refine wpAny_ready (rs := [1, 6]) (by kernel_rfl) (by simp) ?_
      refine AllReady.cons rfl (fun K hK => ?_) (AllReady.cons rfl (fun K hK => ?_) AllReady.nil)
      · go_simp
        refine hK _ _ ?_
        clear hK K
        refine wpAny_take (i := 2) (v := ?_) rfl (by kernel_rfl) (by kernel_rfl) (by kernel_rfl) (fun _ _ _ h => h) (Or.inl ⟨by rfl, ?_⟩) ?_
        rotate_left
        · intro w; go_simp; with_reducible rfl
        refine wpAny_take (i := 3) (v := ?_) rfl (by kernel_rfl) (by kernel_rfl) (by kernel_rfl) (fun _ _ _ h => h) (Or.inl ⟨by rfl, ?_⟩) ?_
        rotate_left
        · intro w; go_simp; with_reducible rfl
        refine wpAny_ready (rs := [4, 6]) (by kernel_rfl) (by simp) ?_
        refine AllReady.cons rfl (fun K hK => ?_) (AllReady.cons rfl (fun K hK => ?_) AllReady.nil)
        · go_simp
          refine hK _ _ ?_
          clear hK K
          refine wpAny_ready (rs := [6]) (by kernel_rfl) (by simp) ?_
          refine AllReady.cons rfl (fun K hK => ?_) AllReady.nil
          · go_simp
            refine hK _ _ ?_
            clear hK K
            refine wpAny_ready (rs := [7]) (by kernel_rfl) (by simp) ?_
            refine AllReady.cons rfl (fun K hK => ?_) AllReady.nil
            · refine step_append_lies _ (by rfl) (.tmp 14) (.tmp 16) 28 (by rfl) B 3 i0 (.int .i64 0) 1 8 Tryz.underlying28 hi hz0 hz1 hz2 (by rfl) (by decide) vt L.length (IV L) (by rfl) (hrow.alloc _) ⟨W.heap.size, 0, none⟩ 1 1 [.int .i64 x.2] (by rfl) (by rfl) (one_new _ _ _) (by simp [Value.oneCell']) (by decide) (by have := HL.out; unfold maxLen; omega) (by have := HL.out; omega) hsz (W.heap.size + 1) (World.size_alloc _ _) ?_
              intro g4 cap4 w4 hown4 hgrow4 hat4 hlt4
              obtain ⟨hb4, hp4, hend⟩ := HE.out g4 cap4 w4 hown4 hgrow4 hat4 hlt4
              have y1 := hb4.cell 1
              have z1 := hb4.frozen 1
              have y0 := hp4.cell 0
              simp only [List.getElem?_toArray, List.getElem?_cons_zero, List.getElem?_cons_succ] at y0 y1
              refine hK _ _ ?_
              clear hK K
              refine wpAny_take (i := 8) (v := ?_) rfl (by kernel_rfl) (by kernel_rfl) (by kernel_rfl) (fun _ _ _ h => h) (Or.inl ⟨by rfl, ?_⟩) ?_
              rotate_left
              · intro w; go_simp; with_reducible rfl
              refine wpAny_take (i := 9) (v := ?_) rfl (by kernel_rfl) (by kernel_rfl) (by kernel_rfl) (fun _ _ _ h => h) (Or.inl ⟨by rfl, ?_⟩) ?_
              rotate_left
              · intro w; go_simp; with_reducible rfl
              refine wpAny_ready (rs := [10]) (by kernel_rfl) (by simp) ?_
              refine AllReady.cons rfl (fun K hK => ?_) AllReady.nil
              · go_simp
                refine hK _ _ ?_
                clear hK K
                refine wpAny_done (by kernel_rfl) ?_ _
                exact ⟨(by intro e; cases e), hend⟩
        · go_simp
          refine hK _ _ ?_
          clear hK K
          refine wpAny_ready (rs := [4]) (by kernel_rfl) (by simp) ?_
          refine AllReady.cons rfl (fun K hK => ?_) AllReady.nil
          · go_simp
            refine hK _ _ ?_
            clear hK K
            refine wpAny_ready (rs := [7]) (by kernel_rfl) (by simp) ?_
            refine AllReady.cons rfl (fun K hK => ?_) AllReady.nil
            · refine step_append_lies _ (by rfl) (.tmp 14) (.tmp 16) 28 (by rfl) B 3 i0 (.int .i64 0) 1 8 Tryz.underlying28 hi hz0 hz1 hz2 (by rfl) (by decide) vt L.length (IV L) (by rfl) (hrow.alloc _) ⟨W.heap.size, 0, none⟩ 1 1 [.int .i64 x.2] (by rfl) (by rfl) (one_new _ _ _) (by simp [Value.oneCell']) (by decide) (by have := HL.out; unfold maxLen; omega) (by have := HL.out; omega) hsz (W.heap.size + 1) (World.size_alloc _ _) ?_
              intro g4 cap4 w4 hown4 hgrow4 hat4 hlt4
              obtain ⟨hb4, hp4, hend⟩ := HE.out g4 cap4 w4 hown4 hgrow4 hat4 hlt4
              have y1 := hb4.cell 1
              have z1 := hb4.frozen 1
              have y0 := hp4.cell 0
              simp only [List.getElem?_toArray, List.getElem?_cons_zero, List.getElem?_cons_succ] at y0 y1
              refine hK _ _ ?_
              clear hK K
              refine wpAny_take (i := 8) (v := ?_) rfl (by kernel_rfl) (by kernel_rfl) (by kernel_rfl) (fun _ _ _ h => h) (Or.inl ⟨by rfl, ?_⟩) ?_
              rotate_left
              · intro w; go_simp; with_reducible rfl
              refine wpAny_take (i := 9) (v := ?_) rfl (by kernel_rfl) (by kernel_rfl) (by kernel_rfl) (fun _ _ _ h => h) (Or.inl ⟨by rfl, ?_⟩) ?_
              rotate_left
              · intro w; go_simp; with_reducible rfl
              refine wpAny_ready (rs := [10]) (by kernel_rfl) (by simp) ?_
              refine AllReady.cons rfl (fun K hK => ?_) AllReady.nil
              · go_simp
                refine hK _ _ ?_
                clear hK K
                refine wpAny_done (by kernel_rfl) ?_ _
                exact ⟨(by intro e; cases e), hend⟩
      · go_simp
        refine hK _ _ ?_
        clear hK K
        refine wpAny_ready (rs := [1]) (by kernel_rfl) (by simp) ?_
        refine AllReady.cons rfl (fun K hK => ?_) AllReady.nil
        · go_simp
          refine hK _ _ ?_
          clear hK K
          refine wpAny_take (i := 2) (v := ?_) rfl (by kernel_rfl) (by kernel_rfl) (by kernel_rfl) (fun _ _ _ h => h) (Or.inl ⟨by rfl, ?_⟩) ?_
          rotate_left
          · intro w; go_simp; with_reducible rfl
          refine wpAny_take (i := 3) (v := ?_) rfl (by kernel_rfl) (by kernel_rfl) (by kernel_rfl) (fun _ _ _ h => h) (Or.inl ⟨by rfl, ?_⟩) ?_
          rotate_left
          · intro w; go_simp; with_reducible rfl
          refine wpAny_ready (rs := [4]) (by kernel_rfl) (by simp) ?_
          refine AllReady.cons rfl (fun K hK => ?_) AllReady.nil
          · go_simp
            refine hK _ _ ?_
            clear hK K
            refine wpAny_ready (rs := [7]) (by kernel_rfl) (by simp) ?_
            refine AllReady.cons rfl (fun K hK => ?_) AllReady.nil
            · refine step_append_lies _ (by rfl) (.tmp 14) (.tmp 16) 28 (by rfl) B 3 i0 (.int .i64 0) 1 8 Tryz.underlying28 hi hz0 hz1 hz2 (by rfl) (by decide) vt L.length (IV L) (by rfl) (hrow.alloc _) ⟨W.heap.size, 0, none⟩ 1 1 [.int .i64 x.2] (by rfl) (by rfl) (one_new _ _ _) (by simp [Value.oneCell']) (by decide) (by have := HL.out; unfold maxLen; omega) (by have := HL.out; omega) hsz (W.heap.size + 1) (World.size_alloc _ _) ?_
              intro g4 cap4 w4 hown4 hgrow4 hat4 hlt4
              obtain ⟨hb4, hp4, hend⟩ := HE.out g4 cap4 w4 hown4 hgrow4 hat4 hlt4
              have y1 := hb4.cell 1
              have z1 := hb4.frozen 1
              have y0 := hp4.cell 0
              simp only [List.getElem?_toArray, List.getElem?_cons_zero, List.getElem?_cons_succ] at y0 y1
              refine hK _ _ ?_
              clear hK K
              refine wpAny_take (i := 8) (v := ?_) rfl (by kernel_rfl) (by kernel_rfl) (by kernel_rfl) (fun _ _ _ h => h) (Or.inl ⟨by rfl, ?_⟩) ?_
              rotate_left
              · intro w; go_simp; with_reducible rfl
              refine wpAny_take (i := 9) (v := ?_) rfl (by kernel_rfl) (by kernel_rfl) (by kernel_rfl) (fun _ _ _ h => h) (Or.inl ⟨by rfl, ?_⟩) ?_
              rotate_left
              · intro w; go_simp; with_reducible rfl
              refine wpAny_ready (rs := [10]) (by kernel_rfl) (by simp) ?_
              refine AllReady.cons rfl (fun K hK => ?_) AllReady.nil
              · go_simp
                refine hK _ _ ?_
                clear hK K
                refine wpAny_done (by kernel_rfl) ?_ _
                exact ⟨(by intro e; cases e), hend⟩
    · go_simp
      refine hK _ _ ?_
      clear hK K
      refine wpAny_take (i := 2) (v := ?_) rfl (by kernel_rfl) (by kernel_rfl) (by kernel_rfl) (fun _ _ _ h => h) (Or.inl ⟨by rfl, ?_⟩) ?_
      rotate_left
      · intro w; go_simp; with_reducible rfl
      refine wpAny_take (i := 3) (v := ?_) rfl (by kernel_rfl) (by kernel_rfl) (by kernel_rfl) (fun _ _ _ h => h) (Or.inl ⟨by rfl, ?_⟩) ?_
      rotate_left
      · intro w; go_simp; with_reducible rfl
      refine wpAny_ready (rs := [0, 4, 6]) (by kernel_rfl) (by simp) ?_
      refine AllReady.cons rfl (fun K hK => ?_) (AllReady.cons rfl (fun K hK => ?_) (AllReady.cons rfl (fun K hK => ?_) AllReady.nil))
      · go_simp
        refine hK _ _ ?_
        clear hK K
        refine wpAny_ready (rs := [4, 6]) (by kernel_rfl) (by simp) ?_
        refine AllReady.cons rfl (fun K hK => ?_) (AllReady.cons rfl (fun K hK => ?_) AllReady.nil)
        · go_simp
          refine hK _ _ ?_
          clear hK K
          refine wpAny_ready (rs := [6]) (by kernel_rfl) (by simp) ?_
          refine AllReady.cons rfl (fun K hK => ?_) AllReady.nil
          · go_simp
            refine hK _ _ ?_
            clear hK K
            refine wpAny_ready (rs := [7]) (by kernel_rfl) (by simp) ?_
            refine AllReady.cons rfl (fun K hK => ?_) AllReady.nil
            · refine step_append_lies _ (by rfl) (.tmp 14) (.tmp 16) 28 (by rfl) B 3 i0 (.int .i64 0) 1 8 Tryz.underlying28 hi hz0 hz1 hz2 (by rfl) (by decide) vt L.length (IV L) (by rfl) (hrow.alloc _) ⟨W.heap.size, 0, none⟩ 1 1 [.int .i64 x.2] (by rfl) (by rfl) (one_new _ _ _) (by simp [Value.oneCell']) (by decide) (by have := HL.out; unfold maxLen; omega) (by have := HL.out; omega) hsz (W.heap.size + 1) (World.size_alloc _ _) ?_
              intro g4 cap4 w4 hown4 hgrow4 hat4 hlt4
              obtain ⟨hb4, hp4, hend⟩ := HE.out g4 cap4 w4 hown4 hgrow4 hat4 hlt4
              have y1 := hb4.cell 1
              have z1 := hb4.frozen 1
              have y0 := hp4.cell 0
              simp only [List.getElem?_toArray, List.getElem?_cons_zero, List.getElem?_cons_succ] at y0 y1
              refine hK _ _ ?_
              clear hK K
              refine wpAny_take (i := 8) (v := ?_) rfl (by kernel_rfl) (by kernel_rfl) (by kernel_rfl) (fun _ _ _ h => h) (Or.inl ⟨by rfl, ?_⟩) ?_
              rotate_left
              · intro w; go_simp; with_reducible rfl
              refine wpAny_take (i := 9) (v := ?_) rfl (by kernel_rfl) (by kernel_rfl) (by kernel_rfl) (fun _ _ _ h => h) (Or.inl ⟨by rfl, ?_⟩) ?_
              rotate_left
              · intro w; go_simp; with_reducible rfl
              refine wpAny_ready (rs := [10]) (by kernel_rfl) (by simp) ?_
              refine AllReady.cons rfl (fun K hK => ?_) AllReady.nil
              · go_simp
                refine hK _ _ ?_
                clear hK K
                refine wpAny_done (by kernel_rfl) ?_ _
                exact ⟨(by intro e; cases e), hend⟩
        · go_simp
          refine hK _ _ ?_
          clear hK K
          refine wpAny_ready (rs := [4]) (by kernel_rfl) (by simp) ?_
          refine AllReady.cons rfl (fun K hK => ?_) AllReady.nil
          · go_simp
            refine hK _ _ ?_
            clear hK K
            refine wpAny_ready (rs := [7]) (by kernel_rfl) (by simp) ?_
            refine AllReady.cons rfl (fun K hK => ?_) AllReady.nil
            · refine step_append_lies _ (by rfl) (.tmp 14) (.tmp 16) 28 (by rfl) B 3 i0 (.int .i64 0) 1 8 Tryz.underlying28 hi hz0 hz1 hz2 (by rfl) (by decide) vt L.length (IV L) (by rfl) (hrow.alloc _) ⟨W.heap.size, 0, none⟩ 1 1 [.int .i64 x.2] (by rfl) (by rfl) (one_new _ _ _) (by simp [Value.oneCell']) (by decide) (by have := HL.out; unfold maxLen; omega) (by have := HL.out; omega) hsz (W.heap.size + 1) (World.size_alloc _ _) ?_
              intro g4 cap4 w4 hown4 hgrow4 hat4 hlt4
              obtain ⟨hb4, hp4, hend⟩ := HE.out g4 cap4 w4 hown4 hgrow4 hat4 hlt4
              have y1 := hb4.cell 1
              have z1 := hb4.frozen 1
              have y0 := hp4.cell 0
              simp only [List.getElem?_toArray, List.getElem?_cons_zero, List.getElem?_cons_succ] at y0 y1
              refine hK _ _ ?_
              clear hK K
              refine wpAny_take (i := 8) (v := ?_) rfl (by kernel_rfl) (by kernel_rfl) (by kernel_rfl) (fun _ _ _ h => h) (Or.inl ⟨by rfl, ?_⟩) ?_
              rotate_left
              · intro w; go_simp; with_reducible rfl
              refine wpAny_take (i := 9) (v := ?_) rfl (by kernel_rfl) (by kernel_rfl) (by kernel_rfl) (fun _ _ _ h => h) (Or.inl ⟨by rfl, ?_⟩) ?_
              rotate_left
              · intro w; go_simp; with_reducible rfl
              refine wpAny_ready (rs := [10]) (by kernel_rfl) (by simp) ?_
              refine AllReady.cons rfl (fun K hK => ?_) AllReady.nil
              · go_simp
                refine hK _ _ ?_
                clear hK K
                refine wpAny_done (by kernel_rfl) ?_ _
                exact ⟨(by intro e; cases e), hend⟩
      · go_simp
        refine hK _ _ ?_
        clear hK K
        refine wpAny_ready (rs := [0, 6]) (by kernel_rfl) (by simp) ?_
        refine AllReady.cons rfl (fun K hK => ?_) (AllReady.cons rfl (fun K hK => ?_) AllReady.nil)
        · go_simp
          refine hK _ _ ?_
          clear hK K
          refine wpAny_ready (rs := [6]) (by kernel_rfl) (by simp) ?_
          refine AllReady.cons rfl (fun K hK => ?_) AllReady.nil
          · go_simp
            refine hK _ _ ?_
            clear hK K
            refine wpAny_ready (rs := [7]) (by kernel_rfl) (by simp) ?_
            refine AllReady.cons rfl (fun K hK => ?_) AllReady.nil
            · refine step_append_lies _ (by rfl) (.tmp 14) (.tmp 16) 28 (by rfl) B 3 i0 (.int .i64 0) 1 8 Tryz.underlying28 hi hz0 hz1 hz2 (by rfl) (by decide) vt L.length (IV L) (by rfl) (hrow.alloc _) ⟨W.heap.size, 0, none⟩ 1 1 [.int .i64 x.2] (by rfl) (by rfl) (one_new _ _ _) (by simp [Value.oneCell']) (by decide) (by have := HL.out; unfold maxLen; omega) (by have := HL.out; omega) hsz (W.heap.size + 1) (World.size_alloc _ _) ?_
              intro g4 cap4 w4 hown4 hgrow4 hat4 hlt4
              obtain ⟨hb4, hp4, hend⟩ := HE.out g4 cap4 w4 hown4 hgrow4 hat4 hlt4
              have y1 := hb4.cell 1
              have z1 := hb4.frozen 1
              have y0 := hp4.cell 0
              simp only [List.getElem?_toArray, List.getElem?_cons_zero, List.getElem?_cons_succ] at y0 y1
              refine hK _ _ ?_
              clear hK K
              refine wpAny_take (i := 8) (v := ?_) rfl (by kernel_rfl) (by kernel_rfl) (by kernel_rfl) (fun _ _ _ h => h) (Or.inl ⟨by rfl, ?_⟩) ?_
              rotate_left
              · intro w; go_simp; with_reducible rfl
              refine wpAny_take (i := 9) (v := ?_) rfl (by kernel_rfl) (by kernel_rfl) (by kernel_rfl) (fun _ _ _ h => h) (Or.inl ⟨by rfl, ?_⟩) ?_
              rotate_left
              · intro w; go_simp; with_reducible rfl
              refine wpAny_ready (rs := [10]) (by kernel_rfl) (by simp) ?_
              refine AllReady.cons rfl (fun K hK => ?_) AllReady.nil
              · go_simp
                refine hK _ _ ?_
                clear hK K
                refine wpAny_done (by kernel_rfl) ?_ _
                exact ⟨(by intro e; cases e), hend⟩
        · go_simp
          refine hK _ _ ?_
          clear hK K
          refine wpAny_ready (rs := [0, 7]) (by kernel_rfl) (by simp) ?_
          refine AllReady.cons rfl (fun K hK => ?_) (AllReady.cons rfl (fun K hK => ?_) AllReady.nil)
          · go_simp
            refine hK _ _ ?_
            clear hK K
            refine wpAny_ready (rs := [7]) (by kernel_rfl) (by simp) ?_
            refine AllReady.cons rfl (fun K hK => ?_) AllReady.nil
            · refine step_append_lies _ (by rfl) (.tmp 14) (.tmp 16) 28 (by rfl) B 3 i0 (.int .i64 0) 1 8 Tryz.underlying28 hi hz0 hz1 hz2 (by rfl) (by decide) vt L.length (IV L) (by rfl) (hrow.alloc _) ⟨W.heap.size, 0, none⟩ 1 1 [.int .i64 x.2] (by rfl) (by rfl) (one_new _ _ _) (by simp [Value.oneCell']) (by decide) (by have := HL.out; unfold maxLen; omega) (by have := HL.out; omega) hsz (W.heap.size + 1) (World.size_alloc _ _) ?_
              intro g4 cap4 w4 hown4 hgrow4 hat4 hlt4
              obtain ⟨hb4, hp4, hend⟩ := HE.out g4 cap4 w4 hown4 hgrow4 hat4 hlt4
              have y1 := hb4.cell 1
              have z1 := hb4.frozen 1
              have y0 := hp4.cell 0
              simp only [List.getElem?_toArray, List.getElem?_cons_zero, List.getElem?_cons_succ] at y0 y1
              refine hK _ _ ?_
              clear hK K
              refine wpAny_take (i := 8) (v := ?_) rfl (by kernel_rfl) (by kernel_rfl) (by kernel_rfl) (fun _ _ _ h => h) (Or.inl ⟨by rfl, ?_⟩) ?_
              rotate_left
              · intro w; go_simp; with_reducible rfl
              refine wpAny_take (i := 9) (v := ?_) rfl (by kernel_rfl) (by kernel_rfl) (by kernel_rfl) (fun _ _ _ h => h) (Or.inl ⟨by rfl, ?_⟩) ?_
              rotate_left
              · intro w; go_simp; with_reducible rfl
              refine wpAny_ready (rs := [10]) (by kernel_rfl) (by simp) ?_
              refine AllReady.cons rfl (fun K hK => ?_) AllReady.nil
              · go_simp
                refine hK _ _ ?_
                clear hK K
                refine wpAny_done (by kernel_rfl) ?_ _
                exact ⟨(by intro e; cases e), hend⟩
          · refine step_append_lies _ (by rfl) (.tmp 14) (.tmp 16) 28 (by rfl) B 3 i0 (.int .i64 0) 1 8 Tryz.underlying28 hi hz0 hz1 hz2 (by rfl) (by decide) vt L.length (IV L) (by rfl) (hrow.alloc _) ⟨W.heap.size, 0, none⟩ 1 1 [.int .i64 x.2] (by rfl) (by rfl) (one_new _ _ _) (by simp [Value.oneCell']) (by decide) (by have := HL.out; unfold maxLen; omega) (by have := HL.out; omega) hsz (W.heap.size + 1) (World.size_alloc _ _) ?_
            intro g4 cap4 w4 hown4 hgrow4 hat4 hlt4
            obtain ⟨hb4, hp4, hend⟩ := HE.out g4 cap4 w4 hown4 hgrow4 hat4 hlt4
            have y1 := hb4.cell 1
            have z1 := hb4.frozen 1
            have y0 := hp4.cell 0
            simp only [List.getElem?_toArray, List.getElem?_cons_zero, List.getElem?_cons_succ] at y0 y1
            refine hK _ _ ?_
            clear hK K
            refine wpAny_ready (rs := [0]) (by kernel_rfl) (by simp) ?_
            refine AllReady.cons rfl (fun K hK => ?_) AllReady.nil
            · go_simp
              refine hK _ _ ?_
              clear hK K
              refine wpAny_take (i := 8) (v := ?_) rfl (by kernel_rfl) (by kernel_rfl) (by kernel_rfl) (fun _ _ _ h => h) (Or.inl ⟨by rfl, ?_⟩) ?_
              rotate_left
              · intro w; go_simp; with_reducible rfl
              refine wpAny_take (i := 9) (v := ?_) rfl (by kernel_rfl) (by kernel_rfl) (by kernel_rfl) (fun _ _ _ h => h) (Or.inl ⟨by rfl, ?_⟩) ?_
              rotate_left
              · intro w; go_simp; with_reducible rfl
              refine wpAny_ready (rs := [10]) (by kernel_rfl) (by simp) ?_
              refine AllReady.cons rfl (fun K hK => ?_) AllReady.nil
              · go_simp
                refine hK _ _ ?_
                clear hK K
                refine wpAny_done (by kernel_rfl) ?_ _
                exact ⟨(by intro e; cases e), hend⟩
      · go_simp
        refine hK _ _ ?_
        clear hK K
        refine wpAny_ready (rs := [0, 4]) (by kernel_rfl) (by simp) ?_
        refine AllReady.cons rfl (fun K hK => ?_) (AllReady.cons rfl (fun K hK => ?_) AllReady.nil)
        · go_simp
          refine hK _ _ ?_
          clear hK K
          refine wpAny_ready (rs := [4]) (by kernel_rfl) (by simp) ?_
          refine AllReady.cons rfl (fun K hK => ?_) AllReady.nil
          · go_simp
            refine hK _ _ ?_
            clear hK K
            refine wpAny_ready (rs := [7]) (by kernel_rfl) (by simp) ?_
            refine AllReady.cons rfl (fun K hK => ?_) AllReady.nil
            · refine step_append_lies _ (by rfl) (.tmp 14) (.tmp 16) 28 (by rfl) B 3 i0 (.int .i64 0) 1 8 Tryz.underlying28 hi hz0 hz1 hz2 (by rfl) (by decide) vt L.length (IV L) (by rfl) (hrow.alloc _) ⟨W.heap.size, 0, none⟩ 1 1 [.int .i64 x.2] (by rfl) (by rfl) (one_new _ _ _) (by simp [Value.oneCell']) (by decide) (by have := HL.out; unfold maxLen; omega) (by have := HL.out; omega) hsz (W.heap.size + 1) (World.size_alloc _ _) ?_
              intro g4 cap4 w4 hown4 hgrow4 hat4 hlt4
              obtain ⟨hb4, hp4, hend⟩ := HE.out g4 cap4 w4 hown4 hgrow4 hat4 hlt4
              have y1 := hb4.cell 1
              have z1 := hb4.frozen 1
              have y0 := hp4.cell 0
              simp only [List.getElem?_toArray, List.getElem?_cons_zero, List.getElem?_cons_succ] at y0 y1
              refine hK _ _ ?_
              clear hK K
              refine wpAny_take (i := 8) (v := ?_) rfl (by kernel_rfl) (by kernel_rfl) (by kernel_rfl) (fun _ _ _ h => h) (Or.inl ⟨by rfl, ?_⟩) ?_
              rotate_left
              · intro w; go_simp; with_reducible rfl
              refine wpAny_take (i := 9) (v := ?_) rfl (by kernel_rfl) (by kernel_rfl) (by kernel_rfl) (fun _ _ _ h => h) (Or.inl ⟨by rfl, ?_⟩) ?_
              rotate_left
              · intro w; go_simp; with_reducible rfl
              refine wpAny_ready (rs := [10]) (by kernel_rfl) (by simp) ?_
              refine AllReady.cons rfl (fun K hK => ?_) AllReady.nil
              · go_simp
                refine hK _ _ ?_
                clear hK K
                refine wpAny_done (by kernel_rfl) ?_ _
                exact ⟨(by intro e; cases e), hend⟩
        · go_simp
          refine hK _ _ ?_
          clear hK K
          refine wpAny_ready (rs := [0, 7]) (by kernel_rfl) (by simp) ?_
          refine AllReady.cons rfl (fun K hK => ?_) (AllReady.cons rfl (fun K hK => ?_) AllReady.nil)
          · go_simp
            refine hK _ _ ?_
            clear hK K
            refine wpAny_ready (rs := [7]) (by kernel_rfl) (by simp) ?_
            refine AllReady.cons rfl (fun K hK => ?_) AllReady.nil
            · refine step_append_lies _ (by rfl) (.tmp 14) (.tmp 16) 28 (by rfl) B 3 i0 (.int .i64 0) 1 8 Tryz.underlying28 hi hz0 hz1 hz2 (by rfl) (by decide) vt L.length (IV L) (by rfl) (hrow.alloc _) ⟨W.heap.size, 0, none⟩ 1 1 [.int .i64 x.2] (by rfl) (by rfl) (one_new _ _ _) (by simp [Value.oneCell']) (by decide) (by have := HL.out; unfold maxLen; omega) (by have := HL.out; omega) hsz (W.heap.size + 1) (World.size_alloc _ _) ?_
              intro g4 cap4 w4 hown4 hgrow4 hat4 hlt4
              obtain ⟨hb4, hp4, hend⟩ := HE.out g4 cap4 w4 hown4 hgrow4 hat4 hlt4
              have y1 := hb4.cell 1
              have z1 := hb4.frozen 1
              have y0 := hp4.cell 0
              simp only [List.getElem?_toArray, List.getElem?_cons_zero, List.getElem?_cons_succ] at y0 y1
              refine hK _ _ ?_
              clear hK K
              refine wpAny_take (i := 8) (v := ?_) rfl (by kernel_rfl) (by kernel_rfl) (by kernel_rfl) (fun _ _ _ h => h) (Or.inl ⟨by rfl, ?_⟩) ?_
              rotate_left
              · intro w; go_simp; with_reducible rfl
              refine wpAny_take (i := 9) (v := ?_) rfl (by kernel_rfl) (by kernel_rfl) (by kernel_rfl) (fun _ _ _ h => h) (Or.inl ⟨by rfl, ?_⟩) ?_
              rotate_left
              · intro w; go_simp; with_reducible rfl
              refine wpAny_ready (rs := [10]) (by kernel_rfl) (by simp) ?_
              refine AllReady.cons rfl (fun K hK => ?_) AllReady.nil
              · go_simp
                refine hK _ _ ?_
                clear hK K
                refine wpAny_done (by kernel_rfl) ?_ _
                exact ⟨(by intro e; cases e), hend⟩
          · refine step_append_lies _ (by rfl) (.tmp 14) (.tmp 16) 28 (by rfl) B 3 i0 (.int .i64 0) 1 8 Tryz.underlying28 hi hz0 hz1 hz2 (by rfl) (by decide) vt L.length (IV L) (by rfl) (hrow.alloc _) ⟨W.heap.size, 0, none⟩ 1 1 [.int .i64 x.2] (by rfl) (by rfl) (one_new _ _ _) (by simp [Value.oneCell']) (by decide) (by have := HL.out; unfold maxLen; omega) (by have := HL.out; omega) hsz (W.heap.size + 1) (World.size_alloc _ _) ?_
            intro g4 cap4 w4 hown4 hgrow4 hat4 hlt4
            obtain ⟨hb4, hp4, hend⟩ := HE.out g4 cap4 w4 hown4 hgrow4 hat4 hlt4
            have y1 := hb4.cell 1
            have z1 := hb4.frozen 1
            have y0 := hp4.cell 0
            simp only [List.getElem?_toArray, List.getElem?_cons_zero, List.getElem?_cons_succ] at y0 y1
            refine hK _ _ ?_
            clear hK K
            refine wpAny_ready (rs := [0]) (by kernel_rfl) (by simp) ?_
            refine AllReady.cons rfl (fun K hK => ?_) AllReady.nil
            · go_simp
              refine hK _ _ ?_
              clear hK K
              refine wpAny_take (i := 8) (v := ?_) rfl (by kernel_rfl) (by kernel_rfl) (by kernel_rfl) (fun _ _ _ h => h) (Or.inl ⟨by rfl, ?_⟩) ?_
              rotate_left
              · intro w; go_simp; with_reducible rfl
              refine wpAny_take (i := 9) (v := ?_) rfl (by kernel_rfl) (by kernel_rfl) (by kernel_rfl) (fun _ _ _ h => h) (Or.inl ⟨by rfl, ?_⟩) ?_
              rotate_left
              · intro w; go_simp; with_reducible rfl
              refine wpAny_ready (rs := [10]) (by kernel_rfl) (by simp) ?_
              refine AllReady.cons rfl (fun K hK => ?_) AllReady.nil
              · go_simp
                refine hK _ _ ?_
                clear hK K
                refine wpAny_done (by kernel_rfl) ?_ _
                exact ⟨(by intro e; cases e), hend⟩
    · go_simp
      refine hK _ _ ?_
      clear hK K
      refine wpAny_ready (rs := [0, 1]) (by kernel_rfl) (by simp) ?_
      refine AllReady.cons rfl (fun K hK => ?_) (AllReady.cons rfl (fun K hK => ?_) AllReady.nil)
      · go_simp
        refine hK _ _ ?_
        clear hK K
        refine wpAny_ready (rs := [1]) (by kernel_rfl) (by simp) ?_
        refine AllReady.cons rfl (fun K hK => ?_) AllReady.nil
        · go_simp
          refine hK _ _ ?_
          clear hK K
          refine wpAny_take (i := 2) (v := ?_) rfl (by kernel_rfl) (by kernel_rfl) (by kernel_rfl) (fun _ _ _ h => h) (Or.inl ⟨by rfl, ?_⟩) ?_
          rotate_left
          · intro w; go_simp; with_reducible rfl
          refine wpAny_take (i := 3) (v := ?_) rfl (by kernel_rfl) (by kernel_rfl) (by kernel_rfl) (fun _ _ _ h => h) (Or.inl ⟨by rfl, ?_⟩) ?_
          rotate_left
          · intro w; go_simp; with_reducible rfl
          refine wpAny_ready (rs := [4]) (by kernel_rfl) (by simp) ?_
          refine AllReady.cons rfl (fun K hK => ?_) AllReady.nil
          · go_simp
            refine hK _ _ ?_
            clear hK K
            refine wpAny_ready (rs := [7]) (by kernel_rfl) (by simp) ?_
            refine AllReady.cons rfl (fun K hK => ?_) AllReady.nil
            · refine step_append_lies _ (by rfl) (.tmp 14) (.tmp 16) 28 (by rfl) B 3 i0 (.int .i64 0) 1 8 Tryz.underlying28 hi hz0 hz1 hz2 (by rfl) (by decide) vt L.length (IV L) (by rfl) (hrow.alloc _) ⟨W.heap.size, 0, none⟩ 1 1 [.int .i64 x.2] (by rfl) (by rfl) (one_new _ _ _) (by simp [Value.oneCell']) (by decide) (by have := HL.out; unfold maxLen; omega) (by have := HL.out; omega) hsz (W.heap.size + 1) (World.size_alloc _ _) ?_
              intro g4 cap4 w4 hown4 hgrow4 hat4 hlt4
              obtain ⟨hb4, hp4, hend⟩ := HE.out g4 cap4 w4 hown4 hgrow4 hat4 hlt4
              have y1 := hb4.cell 1
              have z1 := hb4.frozen 1
              have y0 := hp4.cell 0
              simp only [List.getElem?_toArray, List.getElem?_cons_zero, List.getElem?_cons_succ] at y0 y1
              refine hK _ _ ?_
              clear hK K
              refine wpAny_take (i := 8) (v := ?_) rfl (by kernel_rfl) (by kernel_rfl) (by kernel_rfl) (fun _ _ _ h => h) (Or.inl ⟨by rfl, ?_⟩) ?_
              rotate_left
              · intro w; go_simp; with_reducible rfl
              refine wpAny_take (i := 9) (v := ?_) rfl (by kernel_rfl) (by kernel_rfl) (by kernel_rfl) (fun _ _ _ h => h) (Or.inl ⟨by rfl, ?_⟩) ?_
              rotate_left
              · intro w; go_simp; with_reducible rfl
              refine wpAny_ready (rs := [10]) (by kernel_rfl) (by simp) ?_
              refine AllReady.cons rfl (fun K hK => ?_) AllReady.nil
              · go_simp
                refine hK _ _ ?_
                clear hK K
                refine wpAny_done (by kernel_rfl) ?_ _
                exact ⟨(by intro e; cases e), hend⟩
      · go_simp
        refine hK _ _ ?_
        clear hK K
        refine wpAny_take (i := 2) (v := ?_) rfl (by kernel_rfl) (by kernel_rfl) (by kernel_rfl) (fun _ _ _ h => h) (Or.inl ⟨by rfl, ?_⟩) ?_
        rotate_left
        · intro w; go_simp; with_reducible rfl
        refine wpAny_take (i := 3) (v := ?_) rfl (by kernel_rfl) (by kernel_rfl) (by kernel_rfl) (fun _ _ _ h => h) (Or.inl ⟨by rfl, ?_⟩) ?_
        rotate_left
        · intro w; go_simp; with_reducible rfl
        refine wpAny_ready (rs := [0, 4]) (by kernel_rfl) (by simp) ?_
        refine AllReady.cons rfl (fun K hK => ?_) (AllReady.cons rfl (fun K hK => ?_) AllReady.nil)
        · go_simp
          refine hK _ _ ?_
          clear hK K
          refine wpAny_ready (rs := [4]) (by kernel_rfl) (by simp) ?_
          refine AllReady.cons rfl (fun K hK => ?_) AllReady.nil
          · go_simp
            refine hK _ _ ?_
            clear hK K
            refine wpAny_ready (rs := [7]) (by kernel_rfl) (by simp) ?_
            refine AllReady.cons rfl (fun K hK => ?_) AllReady.nil
            · refine step_append_lies _ (by rfl) (.tmp 14) (.tmp 16) 28 (by rfl) B 3 i0 (.int .i64 0) 1 8 Tryz.underlying28 hi hz0 hz1 hz2 (by rfl) (by decide) vt L.length (IV L) (by rfl) (hrow.alloc _) ⟨W.heap.size, 0, none⟩ 1 1 [.int .i64 x.2] (by rfl) (by rfl) (one_new _ _ _) (by simp [Value.oneCell']) (by decide) (by have := HL.out; unfold maxLen; omega) (by have := HL.out; omega) hsz (W.heap.size + 1) (World.size_alloc _ _) ?_
              intro g4 cap4 w4 hown4 hgrow4 hat4 hlt4
              obtain ⟨hb4, hp4, hend⟩ := HE.out g4 cap4 w4 hown4 hgrow4 hat4 hlt4
              have y1 := hb4.cell 1
              have z1 := hb4.frozen 1
              have y0 := hp4.cell 0
              simp only [List.getElem?_toArray, List.getElem?_cons_zero, List.getElem?_cons_succ] at y0 y1
              refine hK _ _ ?_
              clear hK K
              refine wpAny_take (i := 8) (v := ?_) rfl (by kernel_rfl) (by kernel_rfl) (by kernel_rfl) (fun _ _ _ h => h) (Or.inl ⟨by rfl, ?_⟩) ?_
              rotate_left
              · intro w; go_simp; with_reducible rfl
              refine wpAny_take (i := 9) (v := ?_) rfl (by kernel_rfl) (by kernel_rfl) (by kernel_rfl) (fun _ _ _ h => h) (Or.inl ⟨by rfl, ?_⟩) ?_
              rotate_left
              · intro w; go_simp; with_reducible rfl
              refine wpAny_ready (rs := [10]) (by kernel_rfl) (by simp) ?_
              refine AllReady.cons rfl (fun K hK => ?_) AllReady.nil
              · go_simp
                refine hK _ _ ?_
                clear hK K
                refine wpAny_done (by kernel_rfl) ?_ _
                exact ⟨(by intro e; cases e), hend⟩
        · go_simp
          refine hK _ _ ?_
          clear hK K
          refine wpAny_ready (rs := [0, 7]) (by kernel_rfl) (by simp) ?_
          refine AllReady.cons rfl (fun K hK => ?_) (AllReady.cons rfl (fun K hK => ?_) AllReady.nil)
          · go_simp
            refine hK _ _ ?_
            clear hK K
            refine wpAny_ready (rs := [7]) (by kernel_rfl) (by simp) ?_
            refine AllReady.cons rfl (fun K hK => ?_) AllReady.nil
            · refine step_append_lies _ (by rfl) (.tmp 14) (.tmp 16) 28 (by rfl) B 3 i0 (.int .i64 0) 1 8 Tryz.underlying28 hi hz0 hz1 hz2 (by rfl) (by decide) vt L.length (IV L) (by rfl) (hrow.alloc _) ⟨W.heap.size, 0, none⟩ 1 1 [.int .i64 x.2] (by rfl) (by rfl) (one_new _ _ _) (by simp [Value.oneCell']) (by decide) (by have := HL.out; unfold maxLen; omega) (by have := HL.out; omega) hsz (W.heap.size + 1) (World.size_alloc _ _) ?_
              intro g4 cap4 w4 hown4 hgrow4 hat4 hlt4
              obtain ⟨hb4, hp4, hend⟩ := HE.out g4 cap4 w4 hown4 hgrow4 hat4 hlt4
              have y1 := hb4.cell 1
              have z1 := hb4.frozen 1
              have y0 := hp4.cell 0
              simp only [List.getElem?_toArray, List.getElem?_cons_zero, List.getElem?_cons_succ] at y0 y1
              refine hK _ _ ?_
              clear hK K
              refine wpAny_take (i := 8) (v := ?_) rfl (by kernel_rfl) (by kernel_rfl) (by kernel_rfl) (fun _ _ _ h => h) (Or.inl ⟨by rfl, ?_⟩) ?_
              rotate_left
              · intro w; go_simp; with_reducible rfl
              refine wpAny_take (i := 9) (v := ?_) rfl (by kernel_rfl) (by kernel_rfl) (by kernel_rfl) (fun _ _ _ h => h) (Or.inl ⟨by rfl, ?_⟩) ?_
              rotate_left
              · intro w; go_simp; with_reducible rfl
              refine wpAny_ready (rs := [10]) (by kernel_rfl) (by simp) ?_
              refine AllReady.cons rfl (fun K hK => ?_) AllReady.nil
              · go_simp
                refine hK _ _ ?_
                clear hK K
                refine wpAny_done (by kernel_rfl) ?_ _
                exact ⟨(by intro e; cases e), hend⟩
          · refine step_append_lies _ (by rfl) (.tmp 14) (.tmp 16) 28 (by rfl) B 3 i0 (.int .i64 0) 1 8 Tryz.underlying28 hi hz0 hz1 hz2 (by rfl) (by decide) vt L.length (IV L) (by rfl) (hrow.alloc _) ⟨W.heap.size, 0, none⟩ 1 1 [.int .i64 x.2] (by rfl) (by rfl) (one_new _ _ _) (by simp [Value.oneCell']) (by decide) (by have := HL.out; unfold maxLen; omega) (by have := HL.out; omega) hsz (W.heap.size + 1) (World.size_alloc _ _) ?_
            intro g4 cap4 w4 hown4 hgrow4 hat4 hlt4
            obtain ⟨hb4, hp4, hend⟩ := HE.out g4 cap4 w4 hown4 hgrow4 hat4 hlt4
            have y1 := hb4.cell 1
            have z1 := hb4.frozen 1
            have y0 := hp4.cell 0
            simp only [List.getElem?_toArray, List.getElem?_cons_zero, List.getElem?_cons_succ] at y0 y1
            refine hK _ _ ?_
            clear hK K
            refine wpAny_ready (rs := [0]) (by kernel_rfl) (by simp) ?_
            refine AllReady.cons rfl (fun K hK => ?_) AllReady.nil
            · go_simp
              refine hK _ _ ?_
              clear hK K
              refine wpAny_take (i := 8) (v := ?_) rfl (by kernel_rfl) (by kernel_rfl) (by kernel_rfl) (fun _ _ _ h => h) (Or.inl ⟨by rfl, ?_⟩) ?_
              rotate_left
              · intro w; go_simp; with_reducible rfl
              refine wpAny_take (i := 9) (v := ?_) rfl (by kernel_rfl) (by kernel_rfl) (by kernel_rfl) (fun _ _ _ h => h) (Or.inl ⟨by rfl, ?_⟩) ?_
              rotate_left
              · intro w; go_simp; with_reducible rfl
              refine wpAny_ready (rs := [10]) (by kernel_rfl) (by simp) ?_
              refine AllReady.cons rfl (fun K hK => ?_) AllReady.nil
              · go_simp
                refine hK _ _ ?_
                clear hK K
                refine wpAny_done (by kernel_rfl) ?_ _
                exact ⟨(by intro e; cases e), hend⟩
  case done =>
    rintro D' ys W hD rfl ⟨⟨hP, hbp, hbs⟩, hB⟩ hK
    rw [upto_bk] at hP
    gi_wp2
    refine ⟨by simp, .inl ⟨_, _, rfl, run_takeDeferred hK, ?_⟩⟩
    exact ⟨_, results_none rfl _ _ _, ⟨_, rfl⟩, hP.grown (grownBy_putObj' _ D' _) (fun r e => by cases e; exact ⟨_, hK, rfl⟩), hB.trans (belowK_b (w := w) hBw W D' _ _ (by simp at hD; omega) hK rfl rfl)⟩
  case stop =>
    rintro D c pre W _ _ h _
    exact h.elim
end Go.Proofs.YtomikgkoegkofaaGreatDoor.dv

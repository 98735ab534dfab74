import Derived.Test.YtomikgkoegkofaaGreatDoorUsb
namespace Go.Proofs.YtomikgkoegkofaaGreatDoor.dv
open Go.ChangeShapes Go.WideShapes Go.ChangeAt Go.RowKit Go.Maps Go.WideMaps Go.WideElems
set_option linter.unusedVariables false
set_option linter.unusedSimpArgs false
/-! settle: till nothing new is told of any rule -/
theorem run_store_fl (P : Program) (w : World) (a : Addr) (m : Mode) (k : FloatKind) (b : Nat) : (store a (.float k b) m).run P w = stored P w a (.float k b) m := run_store P w a _ m rfl
attribute [local go_sem] run_store_fl
def RlV (r : Rl) (ao : Option Addr) (cp : Nat) : Value := .agg #[.int .i64 r.left, .slice ao r.right.length cp, .float .f64 r.wt]
set_option maxRecDepth 100000 in
theorem isVarOf_any (w : World) (ta va ra : Option Addr) (tl tc vl vc rl rc : Nat) (x : Int) : Calls Tryz.prog 45 #[.agg #[.slice ta tl tc, .slice va vl vc, .slice ra rl rc], .int .i64 x] w fun e w' => e = .returned (.bool (decide (0 ≤ x) && decide (x < vl))) ∧ ∃ o, w' = w.alloc o := by
  have b0 := Blk.new w 25 #[.slice ta tl tc, .slice va vl vc, .slice ra rl rc]
  have c0 := b0.cell 0
  have c1 := b0.cell 1
  have c2 := b0.cell 2
  simp only [List.getElem?_toArray, List.getElem?_cons_zero, List.getElem?_cons_succ] at c0 c1 c2
  have hbl : Below w.heap.size w (w.alloc (.cells #[.slice ta tl tc, .slice va vl vc, .slice ra rl rc] 25)) := (Below.refl _ w).alloc (Nat.le_refl _) _
  have hiv := isv_any (w.alloc (.cells #[.slice ta tl tc, .slice va vl vc, .slice ra rl rc] 25)) x
  by_cases h0 : 0 ≤ x
  · rw [decide_eq_true h0] at hiv ⊢
    go_enter Tryz.func45, Tryz.ntmps45
    go_wp2_with fail
    refine hiv.mono ?_
    rintro e w1 ⟨rfl, rfl⟩
    go_wp2
    go_ret
    exact ⟨rfl, _, rfl⟩
  · rw [decide_eq_false h0] at hiv ⊢
    go_enter Tryz.func45, Tryz.ntmps45
    go_wp2_with fail
    refine hiv.mono ?_
    rintro e w1 ⟨rfl, rfl⟩
    go_wp2
    go_ret
    exact ⟨rfl, _, rfl⟩
open Classical in
/-- a measure of the state, read off the world -/
noncomputable def muW {σ : Type} (St : σ → World → Prop) (μ : σ → Nat) (W : World) : Nat := if h : ∃ x, St x W then μ h.choose else 0
theorem muW_eq {σ : Type} {St : σ → World → Prop} {μ : σ → Nat} (hf : ∀ x y W, St x W → St y W → μ x = μ y) {x : σ} {W : World} (h : St x W) : muW St μ W = μ x := by
  have hx : ∃ x, St x W := ⟨x, h⟩
  unfold muW
  rw [dif_pos hx]
  exact hf _ _ _ hx.choose_spec h
theorem addf (a : Addr) (n m : Nat) (hm : m ≠ 0) : a.add (n + m) = { block := (a.add n).block, off := (a.add n).off + m } := by
  unfold Addr.add
  rw [if_neg (by omega)]
  by_cases h : n = 0
  · subst h; simp
  · rw [if_neg h]; simp [Nat.add_assoc]
def boolN : Value → Nat
  | .bool true => 1
  | _ => 0
/-- a closure's step, at its place in the round: something new is told, and the measure falls; or nothing, and it is settled -/
def StepP {σ : Type} (R : List Rl) (fn : Nat) (cap : Array Value) (m : Nat) (St : σ → World → Prop) (μ : σ → Nat) (Sat : σ → Nat → Prop) (P : Nat → σ → Prop) (B : Nat) (w : World) : Prop :=
  ∀ (x : σ) (i : Nat) (r : Rl) (ao : Option Addr) (cp : Nat) (W : World), Below B w W → St x W → P i x → R[i]? = some r → RowAt W (.slice ao r.right.length cp) r.right → (∀ a : Addr, ao = some a → 0 < r.right.length → a.block < B) →
    Calls Tryz.prog fn (#[.int .i64 i, RlV r ao cp] ++ cap) W fun e W' => W.grownBy W' (some m) ∧ ((e = .returned (.bool true) ∧ ∃ x', St x' W' ∧ μ x' < μ x ∧ P (i + 1) x') ∨ (e = .returned (.bool false) ∧ St x W' ∧ Sat x i ∧ P (i + 1) x))
set_option maxRecDepth 100000 in
set_option maxHeartbeats 4000000 in
theorem settleP_any {σ : Type} (w : World) (B m : Nat) (ta va : Option Addr) (tl tc vl vc : Nat) (rv : Value) (R : List Rl) (hR : RulesAt B w rv R) (hB : B ≤ m) (hm : m < w.heap.size) (hl : ∀ r ∈ R, 0 ≤ r.left ∧ r.left < vl) (fn : Nat) (cap : Array Value) (hgo : Goes fn) (St : σ → World → Prop) (μ : σ → Nat) (Sat : σ → Nat → Prop) (P : Nat → σ → Prop) (hP : ∀ x, P R.length x → P 0 x)
    (hf : ∀ x y W, St x W → St y W → μ x = μ y) (hk : ∀ x (W : World) (o : Obj), St x W → St x (W.alloc o)) (hst : StepP R fn cap m St μ Sat P B w) (x0 : σ) (h0 : St x0 w) (hp0 : P 0 x0) :
    Calls Tryz.prog 33 #[.agg #[.slice ta tl tc, .slice va vl vc, rv], .func (.func fn) #[] cap] w fun e w' => (∃ v, e = .returned v) ∧ w.grownBy w' (some m) ∧ ∃ x, St x w' ∧ P 0 x ∧ ∀ i, i < R.length → Sat x i := by
  have hg : ∀ (i : Int) (r : Value) (w : World), (callFunc fn (#[.int .i64 i, r] ++ cap)).run Tryz.prog w = .ok (.enter fn (#[.int .i64 i, r] ++ cap)) w := fun i r w => hgo _ w
  have hKB : ∀ (X : World) (o : Obj) (x : σ), (∀ W W', St x W → W.grownBy W' none → True) := fun _ _ _ _ _ _ _ => trivial
  obtain ⟨ra, rc, rfl, hn, hrl⟩ := id hR
  have b0 := Blk.new w 25 #[.slice ta tl tc, .slice va vl vc, .slice ra R.length rc]
  have hgb : w.grownBy (w.alloc (.cells #[.slice ta tl tc, .slice va vl vc, .slice ra R.length rc] 25)) (some m) := World.grownBy_alloc _ _ _
  have h1 := hk x0 w (.cells #[.slice ta tl tc, .slice va vl vc, .slice ra R.length rc] 25) h0
  generalize hW0 : w.alloc (.cells #[.slice ta tl tc, .slice va vl vc, .slice ra R.length rc] 25) = w0 at *
  have hz0 : w0.heap.size = w.heap.size + 1 := by rw [← hW0]; simp
  have hn' : R.length ≤ 9223372036854775807 := by unfold maxLen at hn; omega
  have hbel : ∀ W, w.grownBy W (some m) → Below B w W := fun W h => (Below.refl B w).grown h (by omega) (fun k e => by cases e; exact hB)
  have HBEL := Lib.hid hbel
  have HST := Lib.hid hst
  have HR := Lib.hid hR
  have HL := Lib.hid hl
  have HF := Lib.hid hf
  have HK := Lib.hid hk
  have H1 := Lib.hid h1
  have HP := Lib.hid hP
  have HP0 := Lib.hid hp0
  clear hbel hst hR hrl hl hf hk h1 h0 hKB hgo hP hp0
  go_enter Tryz.func33, Tryz.ntmps33
  go_wp2
  go_loopw [4] (fun more wr => ∃ x b, more = .bool b ∧ (St x wr ∧ P 0 x) ∧ (b = false → ∀ i, i < R.length → Sat x i) ∧ w0.grownBy wr (some m)) (fun more wr => 2 * muW St μ wr + boolN more)
  case atStart => exact ⟨x0, true, rfl, ⟨H1.out, HP0.out⟩, fun h => (by cases h), World.grownBy.refl _ _⟩
  case round =>
    obtain ⟨x, b, rfl, hx, hs, hgr⟩ := hrel
    have HX := Lib.hid hx
    have HS := Lib.hid hs
    have hzr := hgr.size
    have bx := b0.grown hgr (by intro e; have := Option.some.inj e; omega)
    have d0 := bx.cell 0
    have d1 := bx.cell 1
    have d2 := bx.cell 2
    simp only [List.getElem?_toArray, List.getElem?_cons_zero, List.getElem?_cons_succ] at d0 d1 d2
    clear hx hs
    cases b
    · go_wp2
      go_end0
      exact ⟨⟨_, rfl⟩, hgb.trans hgr, x, HX.out.1, HX.out.2, HS.out (by first | rfl | trivial)⟩
    · go_wp2
      have hmx := muW_eq HF.out HX.out.1
      go_loopw [4, 11] (fun more q wi => ∃ (k : Nat) (y : σ) (c : Bool), k ≤ R.length ∧ q = .int .i64 k ∧ more = .bool c ∧ (St y wi ∧ P k y) ∧ (c = false → μ y = μ x ∧ ∀ i, i < k → Sat y i) ∧ (c = true → μ y < μ x) ∧ w0.grownBy wi (some m)) (fun _ q _ => R.length - (intOf q).toNat)
      case atStart => exact ⟨0, x, false, Nat.zero_le _, rfl, rfl, HX.out, fun _ => ⟨rfl, fun i hi => absurd hi (Nat.not_lt_zero _)⟩, fun h => (by cases h), hgr⟩
      case round =>
        obtain ⟨k, y, c, hk1, rfl, rfl, hy, hy1, hy2, hgi⟩ := hrel
        have HY := Lib.hid hy
        have HY1 := Lib.hid hy1
        have HY2 := Lib.hid hy2
        have hzi := hgi.size
        have by0 := b0.grown hgi (by intro e; have := Option.some.inj e; omega)
        have p0 := by0.cell 0
        have p1 := by0.cell 1
        have p2 := by0.cell 2
        simp only [List.getElem?_toArray, List.getElem?_cons_zero, List.getElem?_cons_succ] at p0 p1 p2
        clear hy hy1 hy2 d0 d1 d2 bx
        by_cases hlt : k < R.length
        · obtain ⟨r, hrk⟩ : ∃ r, R[k]? = some r := ⟨_, List.getElem?_eq_getElem hlt⟩
          have hbw := HBEL.out _ (hgb.trans hgi)
          obtain ⟨hl0, hl1⟩ := HL.out r (List.mem_of_getElem? hrk)
          have hRw : RulesAt B wr (.slice ra R.length rc) R := by
            obtain ⟨ao', cap', e, hn2, hr⟩ := HR.out
            refine ⟨ao', cap', e, hn2, fun j q hj => ?_⟩
            obtain ⟨a, ea, hab, ao2, c2, h1, h2, h3, h4, h5, h6, h7, h8⟩ := hr j q hj
            have hc : ∀ n v, w.cell? (a.add n) = some v → wr.cell? (a.add n) = some v := fun n v hv => (hbw.cell (p := a.add n) (by rw [add_block]; exact hab)).trans hv
            refine ⟨a, ea, hab, ao2, c2, hc _ _ h1, hc _ _ h2, hc _ _ h3, h4, h5, h6, fun i hi => ?_, h8⟩
            obtain ⟨a2, e2, hab2, hca⟩ := h7 i hi
            exact ⟨a2, e2, hab2, (hbw.cell (p := a2.add i) (by rw [add_block]; exact hab2)).trans hca⟩
          obtain ⟨ra', rc', er, _, hr2⟩ := hRw
          cases er
          obtain ⟨a2, rfl, hab2, ao2, c2, h1, h2, h3, h4, h5, h6, h7, h8⟩ := hr2 k r hrk
          rw [addf a2 (k * 3) 1 (by decide)] at h2
          rw [addf a2 (k * 3) 2 (by decide)] at h3
          have hrow : RowAt wr (.slice ao2 r.right.length c2) r.right := ⟨ao2, c2, rfl, h4, h5, h6, h8.1, fun i hi => by
            obtain ⟨a3, e3, hab3, hca⟩ := h7 i hi
            exact ⟨a3, e3, by omega, hca⟩⟩
          have HROW := Lib.hid hrow
          have hu : ∀ a : Addr, ao2 = some a → 0 < r.right.length → a.block < B := fun a e h0 => by
            obtain ⟨a3, e3, hab3, _⟩ := h7 0 h0
            rw [e] at e3
            cases e3
            exact hab3
          have hstp := fun W hb hs hr => HST.out y k r ao2 c2 W hb hs HY.out.2 hrk hr hu
          have HSTP := Lib.hid hstp
          have hva := fun W => isVarOf_any W ta va (some a2) tl tc vl vc R.length rc r.left
          rw [decide_eq_true hl0, decide_eq_true hl1] at hva
          unfold RlV at hstp
          have HVA := Lib.hid hva
          clear hr2 h7 h8 hu hrow hstp hva h4 h5 h6
          have pa0 : ∀ o, (wr.alloc o).cell? ⟨w.heap.size, 0, none⟩ = some (.slice ta tl tc) := fun o => (by0.alloc o).cell 0
          have pa1 : ∀ o, (wr.alloc o).cell? ⟨w.heap.size, 1, none⟩ = some (.slice va vl vc) := fun o => (by0.alloc o).cell 1
          have pa2 : ∀ o, (wr.alloc o).cell? ⟨w.heap.size, 2, none⟩ = some (.slice (some a2) R.length rc) := fun o => (by0.alloc o).cell 2
          have HBY := Lib.hid by0
          clear p0 p1 p2
          go_wp2_with fail
          refine (HVA.out _).mono ?_
          rintro e w2 ⟨rfl, o2, rfl⟩
          have e2 : (true && true) = true := rfl
          rw [e2]
          have cR := (Blk.new wr 44 #[.int .i64 r.left, .slice ao2 r.right.length c2, .float .f64 r.wt]).alloc o2
          have cR0 := cR.cell 0
          have cR1 := cR.cell 1
          have cR2 := cR.cell 2
          simp only [List.getElem?_toArray, List.getElem?_cons_zero, List.getElem?_cons_succ] at cR0 cR1 cR2
          have hW2 : Below wr.heap.size wr ((wr.alloc (.cells #[.int .i64 r.left, .slice ao2 r.right.length c2, .float .f64 r.wt] 44)).alloc o2) := ((Below.refl _ wr).alloc (Nat.le_refl _) _).alloc (by rw [World.size_alloc]; omega) _
          have hcall := HSTP.out _ (hbw.trans (hW2.mono (by omega))) (HK.out y _ o2 (HK.out y _ (.cells #[.int .i64 r.left, .slice ao2 r.right.length c2, .float .f64 r.wt] 44) HY.out.1)) (HROW.out.below hW2)
          have hgW : w0.grownBy ((wr.alloc (.cells #[.int .i64 r.left, .slice ao2 r.right.length c2, .float .f64 r.wt] 44)).alloc o2) (some m) := (hgi.trans (World.grownBy_alloc _ _ _)).trans (World.grownBy_alloc _ _ _)
          unfold RlV at hcall
          generalize hWW : ((wr.alloc (.cells #[.int .i64 r.left, .slice ao2 r.right.length c2, .float .f64 r.wt] 44)).alloc o2) = W2 at *
          clear cR hW2 pa0 pa1 pa2 hbw h1 h2 h3
          go_wp2_with fail
          refine hcall.mono ?_
          rintro e w3 ⟨hg3, ⟨rfl, y', hy', hmu, hpy⟩ | ⟨rfl, hy', hsat, hpy⟩⟩
          · have HY' := Lib.hid (⟨hy', hpy⟩ : St y' w3 ∧ P (k + 1) y')
            have h2' := HY2.out
            have h1' := HY1.out
            have hlt' : μ y' < μ x := by
              cases c
              · have := (h1' (by first | rfl | trivial)).1
                omega
              · have := h2' (by first | rfl | trivial)
                omega
            clear hy' hcall h1' h2' hpy
            go_wp2
            exact ⟨⟨k + 1, y', true, hlt, congrArg (Value.int .i64) (by omega), rfl, HY'.out, fun h => (by cases h), fun _ => hlt', hgW.trans hg3⟩, by simp only [intOf]; omega⟩
          · have HY' := Lib.hid (⟨hy', hpy⟩ : St y w3 ∧ P (k + 1) y)
            have HSAT := Lib.hid hsat
            clear hy' hcall hsat hpy
            go_wp2
            refine ⟨⟨k + 1, y, c, hlt, congrArg (Value.int .i64) (by omega), rfl, HY'.out, fun h => ?_, HY2.out, hgW.trans hg3⟩, by simp only [intOf]; omega⟩
            obtain ⟨a1, a2'⟩ := HY1.out (by first | exact h | (subst h; rfl) | (subst h; trivial))
            refine ⟨a1, fun i hi => ?_⟩
            rcases Nat.lt_or_ge i k with h' | h'
            · exact a2' i h'
            · obtain rfl : i = k := by omega
              exact HSAT.out
        · obtain rfl : k = R.length := by omega
          have hmy := muW_eq HF.out HY.out.1
          cases c
          · go_wp2
            obtain ⟨h1, h2⟩ := HY1.out (by first | rfl | trivial)
            exact ⟨⟨y, false, rfl, ⟨HY.out.1, HP.out _ HY.out.2⟩, fun _ => h2, hgi⟩, by simp only [boolN]; omega⟩
          · go_wp2
            have h1 := HY2.out (by first | rfl | trivial)
            exact ⟨⟨y, true, rfl, ⟨HY.out.1, HP.out _ HY.out.2⟩, fun h => (by cases h), hgi⟩, by simp only [boolN]; omega⟩
/-- a closure's step: something new is told, and the measure falls; or nothing, and it is settled -/
def StepOf {σ : Type} (R : List Rl) (fn : Nat) (cap : Array Value) (m : Nat) (St : σ → World → Prop) (μ : σ → Nat) (Sat : σ → Nat → Prop) (B : Nat) (w : World) : Prop :=
  ∀ (x : σ) (i : Nat) (r : Rl) (ao : Option Addr) (cp : Nat) (W : World), Below B w W → St x W → R[i]? = some r → RowAt W (.slice ao r.right.length cp) r.right → (∀ a : Addr, ao = some a → 0 < r.right.length → a.block < B) →
    Calls Tryz.prog fn (#[.int .i64 i, RlV r ao cp] ++ cap) W fun e W' => W.grownBy W' (some m) ∧ ((e = .returned (.bool true) ∧ ∃ x', St x' W' ∧ μ x' < μ x) ∨ (e = .returned (.bool false) ∧ St x W' ∧ Sat x i))
theorem settle_any {σ : Type} (w : World) (B m : Nat) (ta va : Option Addr) (tl tc vl vc : Nat) (rv : Value) (R : List Rl) (hR : RulesAt B w rv R) (hB : B ≤ m) (hm : m < w.heap.size) (hl : ∀ r ∈ R, 0 ≤ r.left ∧ r.left < vl) (fn : Nat) (cap : Array Value) (hgo : Goes fn) (St : σ → World → Prop) (μ : σ → Nat) (Sat : σ → Nat → Prop)
    (hf : ∀ x y W, St x W → St y W → μ x = μ y) (hk : ∀ x (W : World) (o : Obj), St x W → St x (W.alloc o)) (hst : StepOf R fn cap m St μ Sat B w) (x0 : σ) (h0 : St x0 w) :
    Calls Tryz.prog 33 #[.agg #[.slice ta tl tc, .slice va vl vc, rv], .func (.func fn) #[] cap] w fun e w' => (∃ v, e = .returned v) ∧ w.grownBy w' (some m) ∧ ∃ x, St x w' ∧ ∀ i, i < R.length → Sat x i := by
  refine (settleP_any w B m ta va tl tc vl vc rv R hR hB hm hl fn cap hgo St μ Sat (fun _ _ => True) (fun _ _ => trivial) hf hk ?_ x0 h0 trivial).mono ?_
  · intro x i r ao cp W h1 h2 _ h3 h4 h5
    refine (hst x i r ao cp W h1 h2 h3 h4 h5).mono ?_
    rintro e W' ⟨h6, ⟨h7, x', h8, h9⟩ | ⟨h7, h8, h9⟩⟩
    · exact ⟨h6, .inl ⟨h7, x', h8, h9, trivial⟩⟩
    · exact ⟨h6, .inr ⟨h7, h8, h9, trivial⟩⟩
  · rintro e w' ⟨h1, h2, x, h3, _, h4⟩
    exact ⟨h1, h2, x, h3, h4⟩
end Go.Proofs.YtomikgkoegkofaaGreatDoor.dv

import Derived.Test.YtldamieigigncaaGreatDoorVcas
import Derived.Test.YtldamieigigncaaGreatDoorVcat
import Derived.Test.YtldamieigigncaaGreatDoorVcav
import Derived.Test.YtldamieigigncaaGreatDoorVcau
namespace Go.Proofs.YtldamieigigncaaGreatDoor.lx
open Go.ChangeShapes Go.WideShapes Go.ChangeAt Go.RowKit
set_option linter.unusedVariables false
set_option linter.unusedSimpArgs false
attribute [local go_sem] run_store_float
def loadAll (s : List UInt8) : Gra × Nat × Nat :=
  if (readAll s).2.1 = 0 then (match loadD (readAll s).1 with
    | .ok g => (g, 0, 0)
    | .error q => (gra0, q.1, q.2))
  else (gra0, (readAll s).2)
def GrO (B : Nat) (w : World) (tv vv rv : Value) (g : Gra) : Prop := w.ownsRow B 9 1 tv g.terms.length (g.terms.map sv) ∧ w.ownsRow B 9 1 vv g.vars.length (g.vars.map sv) ∧ ∃ N, RlW B N w rv g.rules
def LoadV (B : Nat) (s : List UInt8) (e : Ending) (w : World) : Prop := ∃ tv vv rv, e = .returned (.tuple #[.agg #[tv, vv, rv], .agg #[.int .i64 (loadAll s).2.1, .int .i64 (loadAll s).2.2]]) ∧ GrO B w tv vv rv (loadAll s).1
theorem grO_nil (B : Nat) (w : World) : GrO B w (.slice none 0 0) (.slice none 0 0) (.slice none 0 0) gra0 :=
  ⟨World.ownsRow_nil _ _ _ _, World.ownsRow_nil _ _ _ _, 0, [], rfl, World.ownsRow_nil _ _ _ _, fun j r h => by simp [gra0] at h, List.Pairwise.nil⟩
theorem loadV_err {s : List UInt8} {q : Nat × Nat} (h : loadAll s = (gra0, q.1, q.2)) (B : Nat) (w : World) : LoadV B s (.returned (.tuple #[.agg #[.slice none 0 0, .slice none 0 0, .slice none 0 0], .agg #[.int .i64 q.1, .int .i64 q.2]])) w := by
  unfold LoadV
  rw [h]
  exact ⟨_, _, _, rfl, grO_nil B w⟩
theorem load_def {s : List UInt8} {ds : List Dfn} (h : readAll s = (ds, 0, 0)) : loadAll s = match loadD ds with
    | .ok g => (g, 0, 0)
    | .error q => (gra0, q.1, q.2) := by
  unfold loadAll
  rw [h]
  rfl
theorem loadD_defs {ds : List Dfn} {q : Nat × Nat} (h : ldDefs ld0 ds = .error q) : loadD ds = .error q := by unfold loadD; rw [h]
theorem loadD_want {ds : List Dfn} {l : Ld} {q : Nat × Nat} (h : ldDefs ld0 ds = .ok l) (h2 : wnD l.vars ds = some q) : loadD ds = .error q := by unfold loadD; rw [h]; simp only; rw [h2]
theorem loadD_go {ds : List Dfn} {l : Ld} {q : Nat × Nat} (h : ldDefs ld0 ds = .ok l) (h2 : wnD l.vars ds = none) (h3 : goP 65 0 l = .error q) : loadD ds = .error q := by unfold loadD; rw [h]; simp only; rw [h2]; simp only; rw [h3]
theorem loadD_ok {ds : List Dfn} {l l2 : Ld} (h : ldDefs ld0 ds = .ok l) (h2 : wnD l.vars ds = none) (h3 : goP 65 0 l = .ok l2) : loadD ds = .ok (orderP l2) := by unfold loadD; rw [h]; simp only; rw [h2]; simp only; rw [h3]
theorem read_zero {s : List UInt8} (h : (readAll s).2.1 = 0) : ∃ ds, readAll s = (ds, 0, 0) := by
  unfold readAll at h ⊢
  split at h
  · rename_i h0
    rw [if_pos h0]
    cases hp : pText (lexAll s).1.length (lexAll s).1 with
    | ok ds => exact ⟨ds, rfl⟩
    | error e =>
      rw [hp] at h
      have := pos_text _ _ _ hp
      have h : e.1 = 0 := h
      omega
  · rename_i h0
    exact absurd h h0
theorem fr_nil (gl i : Nat) (h : i ≠ gl) : Fr gl (.slice none 0 0) (.slice none 0 0) (.slice none 0 0) (.slice none 0 0) i := ⟨h, fun e => (by cases e), fun e => (by cases e), fun e => (by cases e), fun e => (by cases e)⟩
theorem ld0_at (B : Nat) (w : World) (hB : B ≤ w.heap.size) : LdW (fun g => B ≤ g) w.heap.size B 0 (.slice none 0 0) (.slice none 0 0) (.slice none 0 0) (.slice none 0 0) ld0 (w.alloc (.cells #[.slice none 0 0, .slice none 0 0, .slice none 0 0, .slice none 0 0, .int .i64 0] 62)) :=
  ⟨Blk.new w _ _, hB, World.ownsRow_nil _ _ _ _, World.ownsRow_nil _ _ _ _, .inl rfl, ⟨[], rfl, World.ownsRow_nil _ _ _ _, fun j r h => by simp [ld0] at h, List.Pairwise.nil⟩, ⟨[], rfl, World.ownsRow_nil _ _ _ _, fun j r h => by simp [ld0] at h⟩, fun g hg => by rw [World.size_alloc] at hg; omega⟩
theorem RlW.low {B B' N : Nat} {w : World} {rv : Value} {rs : List Rl} (h : RlW B N w rv rs) (hB : B' ≤ B) : RlW B' N w rv rs := by
  obtain ⟨us, h1, h2, h3, h4⟩ := h
  refine ⟨us, h1, own_low h2 hB, fun j r hj => ?_, h4⟩
  obtain ⟨u, e, hu, hN⟩ := h3 j r hj
  exact ⟨u, e, own_low hu hB, hN⟩
theorem LdW.own_ge {X : Nat → Prop} {gl B N : Nat} {tv vv rv av : Value} {l : Ld} {w : World} (h : LdW X gl B N tv vv rv av l w) {i : Nat} (hi : ¬ Fr gl tv vv rv av i) : B ≤ i := by
  refine Classical.byContradiction fun hlt => hi ⟨fun e => ?_, fun e => ?_, fun e => ?_, fun e => ?_, fun e => ?_⟩
  · have := h.ge; omega
  · have := (h.ts.lt i e).1; omega
  · have := (h.vs.lt i e).1; omega
  · obtain ⟨us, _, hr, _⟩ := h.rs
    have := (hr.lt i e).1; omega
  · obtain ⟨us, _, hr, _⟩ := h.al
    have := (hr.lt i e).1; omega
theorem wnD_one {vars : List (List UInt8)} {d : Dfn} {ds : List Dfn} : wnD vars (d :: ds) = match wnA vars 17 d.2.2 with
    | some e => some e
    | none => wnD vars ds := rfl
theorem hid_rules {B N : Nat} {w : World} {rv : Value} {rs : List Rl} (h : RlW B N w rv rs) : ∃ ro rc, rv = .slice ro rs.length rc := by
  obtain ⟨us, _, ho, _⟩ := h
  exact own_form ho
set_option maxRecDepth 100000 in
set_option maxHeartbeats 8000000 in
theorem load_any (s : ByteArray) (hs : s.size ≤ maxLen) (w : World) (b off : Nat) (hv : Vs w b off) : Calls Tryz.prog 7 #[.string s] w fun e w' => LoadV w.heap.size s.data.toList e w' ∧ Below w.heap.size w w' := by
  have hmf := mf
  have HV := Lib.hid hv
  have b0 := (Blk.new w 26 #[.slice none 0 0, .slice none 0 0, .slice none 0 0]).alloc (.cells #[.int .i64 0, .int .i64 0] 29)
  have b1 := Blk.new (w.alloc (.cells #[.slice none 0 0, .slice none 0 0, .slice none 0 0] 26)) 29 #[.int .i64 0, .int .i64 0]
  have hw0 : Below w.heap.size w ((w.alloc (.cells #[.slice none 0 0, .slice none 0 0, .slice none 0 0] 26)).alloc (.cells #[.int .i64 0, .int .i64 0] 29)) := ((Below.refl _ _).alloc (Nat.le_refl _) _).alloc (by simp) _
  rw [World.size_alloc] at b1
  have hsz0 : ((w.alloc (.cells #[.slice none 0 0, .slice none 0 0, .slice none 0 0] 26)).alloc (.cells #[.int .i64 0, .int .i64 0] 29)).heap.size = w.heap.size + 2 := by simp
  have hpa := parse_any s hs _ b off (hv.below hw0)
  rw [hsz0] at hpa
  have HPA := Lib.hid hpa
  have HB0 := Lib.hid b0
  have HB1 := Lib.hid b1
  have HW0 := Lib.hid hw0
  have HSZ := Lib.hid hsz0
  clear b0 b1 hw0 hv hpa hsz0
  go_enter_defers Tryz.func7, Tryz.ntmps7
  go_wp2_with fail
  refine HPA.out.mono ?_
  rintro e w1 ⟨⟨v, rfl, hv⟩, hb1⟩
  have hz1 : w.heap.size + 2 ≤ w1.heap.size := by have := hb1.size; rw [HSZ.out] at this; exact this
  obtain ⟨vo, vc, rfl⟩ := ListOf.form hv
  have HVL := Lib.hid hv
  have b0 := HB0.out.below hb1 (by show w.heap.size < w.heap.size + 2; omega)
  have b1 := HB1.out.below hb1 (by show w.heap.size + 1 < w.heap.size + 2; omega)
  have HBW := Lib.hid (HW0.out.trans (hb1.mono (by omega)))
  have y0 := b1.cell 0
  have y1 := b1.cell 1
  simp only [List.getElem?_toArray, List.getElem?_cons_zero, List.getElem?_cons_succ] at y0 y1
  have u1 := b1.frozen 0
  have u2 := b1.frozen 1
  have l0 := b0.lt
  have l1 := b1.lt
  have HC0 := Lib.hid b0
  have HC1 := Lib.hid b1
  clear b0 b1 hb1 hv HB0 HB1 HW0 HSZ HPA HV
  by_cases hE : (readAll s.data.toList).2.1 = 0
  case neg =>
    have HLA : Hid (loadAll s.data.toList = (gra0, (readAll s.data.toList).2.1, (readAll s.data.toList).2.2)) := Lib.hid (by unfold loadAll; rw [if_neg hE])
    have hE' : (((readAll s.data.toList).2.1 : Int) != 0) = true := by rw [bne_iff_ne]; omega
    clear HVL
    generalize (readAll s.data.toList).1.length = dn at *
    generalize hq1 : (readAll s.data.toList).2.1 = q1 at *
    generalize hq2 : (readAll s.data.toList).2.2 = q2 at *
    clear hE hq1 hq2
    go_upto_region 3 with fail
    have b0 := (HC0.out.far (p := ⟨w.heap.size + 1, 0, none⟩) (by show w.heap.size ≠ w.heap.size + 1; omega) (.int .i64 q1)).far (p := ⟨w.heap.size + 1, 1, none⟩) (by show w.heap.size ≠ w.heap.size + 1; omega) (.int .i64 q2)
    have b1 := (HC1.out.set_ 0 (.int .i64 q1)).set_ 1 (.int .i64 q2)
    have hk2 : Kp (fun i => i = w.heap.size + 1) w1 ((w1.setCell ⟨w.heap.size + 1, 0, none⟩ (.int .i64 q1)).setCell ⟨w.heap.size + 1, 1, none⟩ (.int .i64 q2)) := (kp_at _ _ _ _).trans (kp_at _ _ _ _)
    have hbw := HBW.out.trans (hk2.below (n := w.heap.size) (by omega) (fun i hi => by omega))
    generalize (w1.setCell ⟨w.heap.size + 1, 0, none⟩ (.int .i64 q1)).setCell ⟨w.heap.size + 1, 1, none⟩ (.int .i64 q2) = w2 at *
    clear y0 y1 u1 u2 l0 l1 hk2
    have x0 := b0.cell 0
    have x1 := b0.cell 1
    have x2 := b0.cell 2
    have y0 := b1.cell 0
    have y1 := b1.cell 1
    simp only [List.setIfInBounds_toArray, List.set_cons_zero, List.set_cons_succ, List.getElem?_toArray, List.getElem?_cons_zero, List.getElem?_cons_succ] at x0 x1 x2 y0 y1
    have u0 := b0.frozen 0
    have u3 := b0.frozen 1
    have u4 := b0.frozen 2
    have u1 := b1.frozen 0
    have u2 := b1.frozen 1
    have l0 := b0.lt
    have l1 := b1.lt
    have HBW2 := Lib.hid hbw
    have HD0 := Lib.hid b0
    have HD1 := Lib.hid b1
    clear hbw b0 b1
    go_region
    all_goals
      go_wp2
      have k0 : Kp (fun i => i = w.heap.size ∨ i = w.heap.size + 1) w2 (((((w2.setCell ⟨w.heap.size, 0, none⟩ (.slice none 0 0)).setCell ⟨w.heap.size, 1, none⟩ (.slice none 0 0)).setCell ⟨w.heap.size, 2, none⟩ (.slice none 0 0)).setCell ⟨w.heap.size + 1, 0, none⟩ (.int .i64 q1)).setCell ⟨w.heap.size + 1, 1, none⟩ (.int .i64 q2)) := Kp.set_ (S := fun i => i = w.heap.size ∨ i = w.heap.size + 1) (Kp.set_ (S := fun i => i = w.heap.size ∨ i = w.heap.size + 1) (Kp.set_ (S := fun i => i = w.heap.size ∨ i = w.heap.size + 1) (Kp.set_ (S := fun i => i = w.heap.size ∨ i = w.heap.size + 1) (Kp.set_ (S := fun i => i = w.heap.size ∨ i = w.heap.size + 1) (Kp.refl _ w2) (.inl (.inl rfl)) _) (.inl (.inl rfl)) _) (.inl (.inl rfl)) _) (.inl (.inr rfl)) _) (.inl (.inr rfl)) _
      have c0 : Blk ((((((w2.setCell ⟨w.heap.size, 0, none⟩ (.slice none 0 0)).setCell ⟨w.heap.size, 1, none⟩ (.slice none 0 0)).setCell ⟨w.heap.size, 2, none⟩ (.slice none 0 0)).setCell ⟨w.heap.size + 1, 0, none⟩ (.int .i64 q1)).setCell ⟨w.heap.size + 1, 1, none⟩ (.int .i64 q2)).drew) w.heap.size 26 #[.slice none 0 0, .slice none 0 0, .slice none 0 0] := ((((HD0.out.set_ 0 (.slice none 0 0)).set_ 1 (.slice none 0 0)).set_ 2 (.slice none 0 0)).far (p := ⟨w.heap.size + 1, 0, none⟩) (by show w.heap.size ≠ w.heap.size + 1; omega) _).far (p := ⟨w.heap.size + 1, 1, none⟩) (by show w.heap.size ≠ w.heap.size + 1; omega) _
      have c1 : Blk ((((((w2.setCell ⟨w.heap.size, 0, none⟩ (.slice none 0 0)).setCell ⟨w.heap.size, 1, none⟩ (.slice none 0 0)).setCell ⟨w.heap.size, 2, none⟩ (.slice none 0 0)).setCell ⟨w.heap.size + 1, 0, none⟩ (.int .i64 q1)).setCell ⟨w.heap.size + 1, 1, none⟩ (.int .i64 q2)).drew) (w.heap.size + 1) 29 #[.int .i64 q1, .int .i64 q2] := ((((HD1.out.far (p := ⟨w.heap.size, 0, none⟩) (by show w.heap.size + 1 ≠ w.heap.size; omega) (.slice none 0 0)).far (p := ⟨w.heap.size, 1, none⟩) (by show w.heap.size + 1 ≠ w.heap.size; omega) (.slice none 0 0)).far (p := ⟨w.heap.size, 2, none⟩) (by show w.heap.size + 1 ≠ w.heap.size; omega) (.slice none 0 0)).set_ 0 (.int .i64 q1)).set_ 1 (.int .i64 q2)
      have k2 : Kp (fun i => i = w.heap.size ∨ i = w.heap.size + 1) w2 ((((((w2.setCell ⟨w.heap.size, 0, none⟩ (.slice none 0 0)).setCell ⟨w.heap.size, 1, none⟩ (.slice none 0 0)).setCell ⟨w.heap.size, 2, none⟩ (.slice none 0 0)).setCell ⟨w.heap.size + 1, 0, none⟩ (.int .i64 q1)).setCell ⟨w.heap.size + 1, 1, none⟩ (.int .i64 q2)).drew) := ⟨k0.os, k0.tape, k0.output, k0.size, k0.block⟩
      have hbf := HBW2.out.trans (k2.below (n := w.heap.size) (by have := HBW2.out.size; omega) (fun i hi => by omega))
      generalize (((((w2.setCell ⟨w.heap.size, 0, none⟩ (.slice none 0 0)).setCell ⟨w.heap.size, 1, none⟩ (.slice none 0 0)).setCell ⟨w.heap.size, 2, none⟩ (.slice none 0 0)).setCell ⟨w.heap.size + 1, 0, none⟩ (.int .i64 q1)).setCell ⟨w.heap.size + 1, 1, none⟩ (.int .i64 q2)).drew = w3 at *
      have z0 := c0.cell 0
      have z1 := c0.cell 1
      have z2 := c0.cell 2
      have e0 := c1.cell 0
      have e1 := c1.cell 1
      simp only [List.getElem?_toArray, List.getElem?_cons_zero, List.getElem?_cons_succ] at z0 z1 z2 e0 e1
      have HF : Hid (∀ w', LoadV w.heap.size s.data.toList (.returned (.tuple #[.agg #[.slice none 0 0, .slice none 0 0, .slice none 0 0], .agg #[.int .i64 q1, .int .i64 q2]])) w') := Lib.hid fun w' => loadV_err (q := (q1, q2)) HLA.out w.heap.size w'
      clear c0 c1 k0 k2
      simp [bodyPostD, Leaves, results, Tryz.results7, go_sem, z0, z1, z2, e0, e1]
      exact ⟨HF.out _, hbf⟩
  obtain ⟨ds, hds⟩ := read_zero hE
  have HLD := Lib.hid (load_def hds)
  have hwf : ∀ d ∈ ds, wfA 17 d.2.2 := fun d hd => okA_wf 17 _ (read_okD s.data.toList d (by rw [hds]; exact hd)).2
  rw [hds] at HVL ⊢
  have HWF := Lib.hid hwf
  have hdl := HVL.out.1
  unfold maxLen at hdl
  generalize hdn : ds.length = dn at *
  have HDN := Lib.hid hdn
  clear hwf hds hE hdn
  go_upto_region 6 with fail
  have b0 := (HC0.out.far (p := ⟨w.heap.size + 1, 0, none⟩) (by show w.heap.size ≠ w.heap.size + 1; omega) (.int .i64 0)).far (p := ⟨w.heap.size + 1, 1, none⟩) (by show w.heap.size ≠ w.heap.size + 1; omega) (.int .i64 0)
  have b1 := (HC1.out.set_ 0 (.int .i64 0)).set_ 1 (.int .i64 0)
  have hk2 : Kp (fun i => i = w.heap.size + 1) w1 ((w1.setCell ⟨w.heap.size + 1, 0, none⟩ (.int .i64 0)).setCell ⟨w.heap.size + 1, 1, none⟩ (.int .i64 0)) := (kp_at _ _ _ _).trans (kp_at _ _ _ _)
  have hz2 : ((w1.setCell ⟨w.heap.size + 1, 0, none⟩ (.int .i64 0)).setCell ⟨w.heap.size + 1, 1, none⟩ (.int .i64 0)).heap.size = w1.heap.size := by simp
  have hbw := HBW.out.trans (hk2.below (n := w.heap.size) (by omega) (fun i hi => by omega))
  have hvl := HVL.out.keep (w' := (w1.setCell ⟨w.heap.size + 1, 0, none⟩ (.int .i64 0)).setCell ⟨w.heap.size + 1, 1, none⟩ (.int .i64 0)) (A' := fun g => w.heap.size + 2 ≤ g) keepsDef (fun g hg hA => ⟨hA, hk2.block g hg (by omega)⟩) hk2.size
  generalize (w1.setCell ⟨w.heap.size + 1, 0, none⟩ (.int .i64 0)).setCell ⟨w.heap.size + 1, 1, none⟩ (.int .i64 0) = w2 at *
  rw [← hz2] at hz1 ⊢
  clear hk2 y0 y1 u1 u2 l0 l1 hz2 HC0 HC1 HBW HVL
  have hw3 := ld0_at (w.heap.size + 2) w2 hz1
  have hb3 : Below w2.heap.size w2 (w2.alloc (.cells #[.slice none 0 0, .slice none 0 0, .slice none 0 0, .slice none 0 0, .int .i64 0] 62)) := (Below.refl _ _).alloc (Nat.le_refl _) _
  have b0 := b0.below hb3 b0.lt
  have b1 := b1.below hb3 b1.lt
  have hbw3 := hbw.trans (hb3.mono (by omega))
  have hl3 := hvl.keep (w' := w2.alloc (.cells #[.slice none 0 0, .slice none 0 0, .slice none 0 0, .slice none 0 0, .int .i64 0] 62)) (A' := FrX (fun g => w.heap.size + 2 ≤ g) w2.heap.size (.slice none 0 0) (.slice none 0 0) (.slice none 0 0) (.slice none 0 0)) keepsDef (fun g hg hA => ⟨⟨fr_nil _ _ (by omega), hA⟩, hb3.block g hg⟩) hb3.size
  have hz3 : w2.heap.size < (w2.alloc (.cells #[.slice none 0 0, .slice none 0 0, .slice none 0 0, .slice none 0 0, .int .i64 0] 62)).heap.size := by simp
  generalize w2.alloc (.cells #[.slice none 0 0, .slice none 0 0, .slice none 0 0, .slice none 0 0, .int .i64 0] 62) = w3 at *
  generalize hgl : w2.heap.size = gl at *
  have hdf := define_any hw3 ld0_ok ds vo vc (by rw [HDN.out]; exact hl3)
  rw [HDN.out] at hdf
  have HL3 := Lib.hid hl3
  have HBW3 := Lib.hid hbw3
  have HB0 := Lib.hid b0
  have HB1 := Lib.hid b1
  have hz30 := hz3
  clear hvl hbw hb3 hl3 hbw3 b0 b1 hw3 hgl
  cases hx : ldDefs ld0 ds with
  | error q =>
    rw [hx] at hdf
    have HR : Hid (loadAll s.data.toList = (gra0, q.1, q.2)) := Lib.hid (by rw [HLD.out, loadD_defs hx])
    clear hx
    go_wp2_with fail
    refine hdf.mono ?_
    rintro e w4 ⟨rfl, hb4⟩
    have b0 := HB0.out.below hb4 (by show w.heap.size < w.heap.size + 2; omega)
    have b1 := HB1.out.below hb4 (by show w.heap.size + 1 < w.heap.size + 2; omega)
    have hbw4 := HBW3.out.trans (hb4.mono (by omega))
    go_wp2_with fail
    refine leaves_cons (f := 22) (args := #[.pointer (some ⟨w.heap.size, 0, none⟩), .pointer (some ⟨w.heap.size + 1, 0, none⟩)]) (by simp) (by simp [go_sem]) ?_
    refine (catchL_wrong q.1 q.2 w.heap.size (w.heap.size + 1) (by omega) [] w4 _ _ _ _ _ b0 b1).mono ?_
    rintro e u' w5 ⟨rfl, rfl, c0, c1, hk5⟩
    have z0 := c0.cell 0
    have z1 := c0.cell 1
    have z2 := c0.cell 2
    have y0 := c1.cell 0
    have y1 := c1.cell 1
    simp only [List.getElem?_toArray, List.getElem?_cons_zero, List.getElem?_cons_succ] at z0 z1 z2 y0 y1
    have l0 := c0.lt
    have l1 := c1.lt
    have hbf := hbw4.trans (hk5.below (n := w.heap.size) (by have := hbw4.size; omega) (fun i hi => by omega))
    have HF : Hid (∀ w', LoadV w.heap.size s.data.toList (.returned (.tuple #[.agg #[.slice none 0 0, .slice none 0 0, .slice none 0 0], .agg #[.int .i64 q.1, .int .i64 q.2]])) w') := Lib.hid fun w' => loadV_err HR.out w.heap.size w'
    simp [Leaves, settle, results, Tryz.results7, go_sem, z0, z1, z2, y0, y1]
    exact ⟨HF.out _, hbf⟩
  | ok l =>
    rw [hx] at hdf
    have HX := Lib.hid hx
    obtain ⟨hok, hwfl⟩ := ldDefs_ok ld0_ok (fun bs hb => by cases hb) (fun d hd => ⟨17, HWF.out d hd⟩) hx
    have HOK := Lib.hid hok
    have HWL := Lib.hid hwfl
    clear hx hok hwfl
    go_wp2_with fail
    refine hdf.mono ?_
    rintro e w4 ⟨rfl, tv1, vv1, rv1, av1, hw4, hk4⟩
    have hns : ∀ i, ¬ Fr gl (.slice none 0 0) (.slice none 0 0) (.slice none 0 0) (.slice none 0 0) i → i = gl := fun i hi => Classical.byContradiction fun e => hi (fr_nil gl i e)
    have b0 := HB0.out.kept hk4.kp (fun hn => hn (fr_nil gl _ (by omega)))
    have b1 := HB1.out.kept hk4.kp (fun hn => hn (fr_nil gl _ (by omega)))
    have hl4 := HL3.out.keep (w' := w4) (A' := fun _ => True) keepsDef (fun g hg hA => ⟨trivial, hk4.kp.block g hg (fun hn => hn hA.1)⟩) hk4.kp.size
    have hbw4 := HBW3.out.trans (hk4.kp.below (n := w.heap.size) (by omega) (fun i hi => by have := hns i hi; omega))
    have hz4 := hk4.kp.size
    have HW4 := Lib.hid hw4
    have HL4 := Lib.hid hl4
    have HBW4 := Lib.hid hbw4
    have HC0 := Lib.hid b0
    have HC1 := Lib.hid b1
    clear hw4 hk4 hns b0 b1 hl4 hbw4 hdf HL3 HBW3 HB0 HB1
    obtain ⟨Z, hZ⟩ : ∃ Z, wnD l.vars ds = Z := ⟨_, rfl⟩
    have HZ := Lib.hid hZ
    clear hZ
    go_wp2_with fail
    go_loopw [23] (fun i wr => ∃ k : Nat, i = .int .i64 k ∧ k ≤ dn ∧ Below w4.heap.size w4 wr ∧ wnD l.vars (ds.drop k) = Z) (fun i _ => dn - (intOf i).toNat)
    case atStart => exact ⟨0, rfl, Nat.zero_le _, Below.refl _ _, HZ.out⟩
    case round =>
      obtain ⟨k, rfl, hk, hbr, hwn⟩ := hrel
      have HBR := Lib.hid hbr
      have HWN := Lib.hid hwn
      clear hwn
      by_cases hlt : k < dn
      · obtain ⟨d, hd⟩ : ∃ d, ds[k]? = some d := ⟨_, List.getElem?_eq_getElem (by rw [HDN.out]; exact hlt)⟩
        obtain ⟨g3, rfl, hg3, cs3, _, hcs3, iv3, rfl, hit⟩ := ListOf.at2g (by rw [HDN.out]; exact HL4.out) hd
        obtain ⟨bo, bc, rfl⟩ := hit.form
        have hdr : ds.drop k = d :: ds.drop (k + 1) := by
          rw [List.drop_eq_getElem_cons (by rw [HDN.out]; exact hlt), (List.getElem?_eq_some_iff.1 hd).2]
        replace HWN := HWN.out
        rw [hdr, wnD_one] at HWN
        obtain ⟨p, T, L⟩ := d
        simp only at hit HWN
        have e0 : wr.cell? ⟨g3, k * 3, none⟩ = some (.int .i64 p) := (hbr.cell (p := ⟨g3, k * 3, none⟩) hg3).trans (hcs3 0 _ rfl)
        have e1 : wr.cell? ⟨g3, k * 3 + 1, none⟩ = some (.string (S T)) := (hbr.cell (p := ⟨g3, k * 3 + 1, none⟩) hg3).trans (hcs3 1 _ rfl)
        have e2 : wr.cell? ⟨g3, k * 3 + 2, none⟩ = some (.slice bo L.length bc) := (hbr.cell (p := ⟨g3, k * 3 + 2, none⟩) hg3).trans (hcs3 2 _ rfl)
        have lg3 : g3 < wr.heap.size := Nat.lt_of_lt_of_le hg3 hbr.size
        have HIT := Lib.hid hit
        have hwn2 := HWN
        have HWN2 := Lib.hid hwn2
        clear HWN hwn2 hit hcs3 hd hdr
        generalize hm : L.length = m at *
        have HM := Lib.hid hm
        clear hm hbr
        go_upto_region 10 with fail
        have b8 := Blk.new wr 66 #[.int .i64 p, .string (S T), .slice bo m bc]
        have hb8 : Below wr.heap.size wr (wr.alloc (.cells #[.int .i64 p, .string (S T), .slice bo m bc] 66)) := (Below.refl _ _).alloc (Nat.le_refl _) _
        have hb48 := HBR.out.trans (hb8.mono HBR.out.size)
        clear e0 e1 e2 lg3
        generalize wr.alloc (.cells #[.int .i64 p, .string (S T), .slice bo m bc] 66) = w6 at *
        have hwn3 := want_any (XA := fun g => w.heap.size + 2 ≤ g) (gl := gl) (B := w.heap.size + 2) (N := 0) (tv := tv1) (vv := vv1) (rv := rv1) (av := av1) (l := l) 17 w6 (fun _ => True) (.slice bo m bc) L (HW4.out.below hb48) (by have := keepsAlts 17 _ w6 _ (fun _ => True) _ _ HIT.out (fun g hg hA => ⟨trivial, hb48.block g hg⟩) hb48.size; exact this)
        have t2 : w6.cell? ⟨wr.heap.size, 2, none⟩ = some (.slice bo m bc) := b8.cell 2
        have lb := b8.lt
        have HB48 := Lib.hid hb48
        clear b8 hb8 hb48
        replace HWN2 := HWN2.out
        cases hq : wnA l.vars 17 L with
        | some q =>
          rw [hq] at hwn3 HWN2
          have HR : Hid (loadAll s.data.toList = (gra0, q.1, q.2)) := Lib.hid (by rw [HLD.out, loadD_want HX.out (HZ.out.trans HWN2.symm)])
          clear hq HWN2
          go_wp2_with fail
          refine hwn3.mono ?_
          rintro e w7 ⟨rfl, hb7⟩
          have hb47 := HB48.out.trans (hb7.mono HB48.out.size)
          have b0 := HC0.out.below hb47 HC0.out.lt
          have b1 := HC1.out.below hb47 HC1.out.lt
          have hbw7 := HBW4.out.trans (hb47.mono (by have := HBW4.out.size; omega))
          clear t2 lb hb7 hb47
          go_wp2_with fail
          refine leaves_cons (f := 22) (args := #[.pointer (some ⟨w.heap.size, 0, none⟩), .pointer (some ⟨w.heap.size + 1, 0, none⟩)]) (by simp) (by simp [go_sem]) ?_
          refine (catchL_wrong q.1 q.2 w.heap.size (w.heap.size + 1) (by omega) [] w7 _ _ _ _ _ b0 b1).mono ?_
          rintro e u' w5 ⟨rfl, rfl, c0, c1, hk5⟩
          have z0 := c0.cell 0
          have z1 := c0.cell 1
          have z2 := c0.cell 2
          have y0 := c1.cell 0
          have y1 := c1.cell 1
          simp only [List.getElem?_toArray, List.getElem?_cons_zero, List.getElem?_cons_succ] at z0 z1 z2 y0 y1
          have l0 := c0.lt
          have l1 := c1.lt
          have hbf := hbw7.trans (hk5.below (n := w.heap.size) (by have := hbw7.size; omega) (fun i hi => by omega))
          have HF : Hid (∀ w', LoadV w.heap.size s.data.toList (.returned (.tuple #[.agg #[.slice none 0 0, .slice none 0 0, .slice none 0 0], .agg #[.int .i64 q.1, .int .i64 q.2]])) w') := Lib.hid fun w' => loadV_err HR.out w.heap.size w'
          simp [Leaves, settle, results, Tryz.results7, go_sem, z0, z1, z2, y0, y1]
          exact ⟨HF.out _, hbf⟩
        | none =>
          rw [hq] at hwn3 HWN2
          have HN := Lib.hid HWN2
          clear hq HWN2
          go_wp2_with fail
          refine hwn3.mono ?_
          rintro e w7 ⟨rfl, hb7⟩
          have HB47 := Lib.hid (HB48.out.trans (hb7.mono HB48.out.size))
          clear t2 lb hb7 hwn3
          go_wp2_with fail
          exact ⟨⟨k + 1, by go_num, hlt, HB47.out, HN.out⟩, by simp only [intOf]; omega⟩
      · obtain rfl : k = dn := by omega
        have hnone : Z = none := by
          have := HWN.out
          rw [← HDN.out, List.drop_length] at this
          rw [← this]
          rfl
        have HN := Lib.hid (HZ.out.trans hnone)
        have hgt := goThrough_any (HW4.out.below hbr) HOK.out HWL.out
        have HCW := Lib.hid (HW4.out.below hbr)
        clear hnone hbr
        cases hgo : goP 65 0 l with
        | error q =>
          rw [hgo] at hgt
          have HR : Hid (loadAll s.data.toList = (gra0, q.1, q.2)) := Lib.hid (by rw [HLD.out, loadD_go HX.out HN.out hgo])
          clear hgo
          go_wp2_with fail
          refine hgt.mono ?_
          rintro e w7 ⟨rfl, hb7⟩
          have b0 := (HC0.out.below HBR.out HC0.out.lt).below hb7 (by show w.heap.size < w.heap.size + 2; omega)
          have b1 := (HC1.out.below HBR.out HC1.out.lt).below hb7 (by show w.heap.size + 1 < w.heap.size + 2; omega)
          have hbw7 := (HBW4.out.trans (HBR.out.mono (by have := HBW4.out.size; omega))).trans (hb7.mono (by omega))
          clear hb7 hgt
          go_wp2_with fail
          refine leaves_cons (f := 22) (args := #[.pointer (some ⟨w.heap.size, 0, none⟩), .pointer (some ⟨w.heap.size + 1, 0, none⟩)]) (by simp) (by simp [go_sem]) ?_
          refine (catchL_wrong q.1 q.2 w.heap.size (w.heap.size + 1) (by omega) [] w7 _ _ _ _ _ b0 b1).mono ?_
          rintro e u' w5 ⟨rfl, rfl, c0, c1, hk5⟩
          have z0 := c0.cell 0
          have z1 := c0.cell 1
          have z2 := c0.cell 2
          have y0 := c1.cell 0
          have y1 := c1.cell 1
          simp only [List.getElem?_toArray, List.getElem?_cons_zero, List.getElem?_cons_succ] at z0 z1 z2 y0 y1
          have l0 := c0.lt
          have l1 := c1.lt
          have hbf := hbw7.trans (hk5.below (n := w.heap.size) (by have := hbw7.size; omega) (fun i hi => by omega))
          have HF : Hid (∀ w', LoadV w.heap.size s.data.toList (.returned (.tuple #[.agg #[.slice none 0 0, .slice none 0 0, .slice none 0 0], .agg #[.int .i64 q.1, .int .i64 q.2]])) w') := Lib.hid fun w' => loadV_err HR.out w.heap.size w'
          simp [Leaves, settle, results, Tryz.results7, go_sem, z0, z1, z2, y0, y1]
          exact ⟨HF.out _, hbf⟩
        | ok l2 =>
          rw [hgo] at hgt
          have HR : Hid (loadAll s.data.toList = (orderP l2, 0, 0)) := Lib.hid (by rw [HLD.out, loadD_ok HX.out HN.out hgo])
          have hnm := goP_nm (defs_nm HX.out HWF.out HN.out) hgo
          have hok2 := goP_ok HOK.out hgo
          have HNM := Lib.hid hnm
          have HOK2 := Lib.hid hok2
          clear hgo hnm hok2
          go_wp2_with fail
          refine hgt.mono ?_
          rintro e w7 ⟨rfl, N2, tv2, vv2, rv2, av2, hw7, hk7⟩
          have hz7 : w.heap.size + 2 ≤ w7.heap.size := by have := hw7.ge; have := hw7.box.lt; omega
          have b0 := (HC0.out.below HBR.out HC0.out.lt).kept hk7.kp (fun hn => by have := HCW.out.own_ge hn; omega)
          have b1 := (HC1.out.below HBR.out HC1.out.lt).kept hk7.kp (fun hn => by have := HCW.out.own_ge hn; omega)
          have hbw7 := (HBW4.out.trans (HBR.out.mono (by have := HBW4.out.size; omega))).trans (hk7.kp.below (n := w.heap.size) (by have := HBW4.out.size; have := HBR.out.size; omega) (fun i hi => by have := HCW.out.own_ge hi; omega))
          have hor := order_any hw7.toG hz7 HOK2.out.terms HOK2.out.rules (fun r hr => (HNM.out.rl r hr).1) (fun r hr x hx => (HNM.out.rl r hr).2 x hx)
          have HBW7 := Lib.hid hbw7
          have HD0 := Lib.hid b0
          have HD1 := Lib.hid b1
          clear hw7 hk7 hbw7 b0 b1 hgt HCW HNM HOK2 HW4 HL4 HBW4 HC0 HC1 HBR
          go_wp2_with fail
          refine hor.mono ?_
          rintro e w8 ⟨rfl, hb8, tv3, hg8⟩
          have b0 := HD0.out.below hb8 (by show w.heap.size < w.heap.size + 2; omega)
          have b1 := HD1.out.below hb8 (by show w.heap.size + 1 < w.heap.size + 2; omega)
          have hbw8 := HBW7.out.trans (hb8.mono (by omega))
          obtain ⟨tbo, tc, rfl⟩ := own_form hg8.ts
          obtain ⟨vo2, vc2, rfl⟩ := own_form hg8.vs
          obtain ⟨ro, rc, rfl⟩ := hid_rules hg8.rs
          have g0 := hg8.box.cell 0
          have g1 := hg8.box.cell 1
          have g2 := hg8.box.cell 2
          have lg := hg8.box.lt
          have x0 := b0.cell 0
          have x1 := b0.cell 1
          have x2 := b0.cell 2
          have y0 := b1.cell 0
          have y1 := b1.cell 1
          simp only [List.setIfInBounds_toArray, List.set_cons_zero, List.set_cons_succ, List.getElem?_toArray, List.getElem?_cons_zero, List.getElem?_cons_succ] at x0 x1 x2 y0 y1 g0 g1 g2
          have u0 := b0.frozen 0
          have u3 := b0.frozen 1
          have u4 := b0.frozen 2
          have u1 := b1.frozen 0
          have u2 := b1.frozen 1
          have l0 := b0.lt
          have l1 := b1.lt
          have HG8 := Lib.hid hg8
          have HBW8 := Lib.hid hbw8
          have HE0 := Lib.hid b0
          have HE1 := Lib.hid b1
          generalize (srt l2.terms).length = tn at *
          generalize l2.vars.length = vn at *
          generalize (l2.rules.map (trn l2)).length = rn at *
          clear hg8 hbw8 hb8 b0 b1 hor HBW7 HD0 HD1
          go_wp2_with fail
          have c0 : Blk (((((w8.setCell ⟨w.heap.size, 0, none⟩ (.slice tbo tn tc)).setCell ⟨w.heap.size, 1, none⟩ (.slice vo2 vn vc2)).setCell ⟨w.heap.size, 2, none⟩ (.slice ro rn rc)).setCell ⟨w.heap.size + 1, 0, none⟩ (.int .i64 0)).setCell ⟨w.heap.size + 1, 1, none⟩ (.int .i64 0)) w.heap.size 26 #[.slice tbo tn tc, .slice vo2 vn vc2, .slice ro rn rc] := ((((HE0.out.set_ 0 (.slice tbo tn tc)).set_ 1 (.slice vo2 vn vc2)).set_ 2 (.slice ro rn rc)).far (p := ⟨w.heap.size + 1, 0, none⟩) (by show w.heap.size ≠ w.heap.size + 1; omega) _).far (p := ⟨w.heap.size + 1, 1, none⟩) (by show w.heap.size ≠ w.heap.size + 1; omega) _
          have c1 : Blk (((((w8.setCell ⟨w.heap.size, 0, none⟩ (.slice tbo tn tc)).setCell ⟨w.heap.size, 1, none⟩ (.slice vo2 vn vc2)).setCell ⟨w.heap.size, 2, none⟩ (.slice ro rn rc)).setCell ⟨w.heap.size + 1, 0, none⟩ (.int .i64 0)).setCell ⟨w.heap.size + 1, 1, none⟩ (.int .i64 0)) (w.heap.size + 1) 29 #[.int .i64 0, .int .i64 0] := ((((HE1.out.far (p := ⟨w.heap.size, 0, none⟩) (by show w.heap.size + 1 ≠ w.heap.size; omega) (.slice tbo tn tc)).far (p := ⟨w.heap.size, 1, none⟩) (by show w.heap.size + 1 ≠ w.heap.size; omega) (.slice vo2 vn vc2)).far (p := ⟨w.heap.size, 2, none⟩) (by show w.heap.size + 1 ≠ w.heap.size; omega) (.slice ro rn rc)).set_ 0 (.int .i64 0)).set_ 1 (.int .i64 0)
          have k1 : Kp (fun i => i = w.heap.size ∨ i = w.heap.size + 1) w8 (((((w8.setCell ⟨w.heap.size, 0, none⟩ (.slice tbo tn tc)).setCell ⟨w.heap.size, 1, none⟩ (.slice vo2 vn vc2)).setCell ⟨w.heap.size, 2, none⟩ (.slice ro rn rc)).setCell ⟨w.heap.size + 1, 0, none⟩ (.int .i64 0)).setCell ⟨w.heap.size + 1, 1, none⟩ (.int .i64 0)) := Kp.set_ (S := fun i => i = w.heap.size ∨ i = w.heap.size + 1) (Kp.set_ (S := fun i => i = w.heap.size ∨ i = w.heap.size + 1) (Kp.set_ (S := fun i => i = w.heap.size ∨ i = w.heap.size + 1) (Kp.set_ (S := fun i => i = w.heap.size ∨ i = w.heap.size + 1) (Kp.set_ (S := fun i => i = w.heap.size ∨ i = w.heap.size + 1) (Kp.refl _ w8) (.inl (.inl rfl)) _) (.inl (.inl rfl)) _) (.inl (.inl rfl)) _) (.inl (.inr rfl)) _) (.inl (.inr rfl)) _
          have hbf := HBW8.out.trans (k1.below (n := w.heap.size) (by have := HBW8.out.size; omega) (fun i hi => by omega))
          generalize (((((w8.setCell ⟨w.heap.size, 0, none⟩ (.slice tbo tn tc)).setCell ⟨w.heap.size, 1, none⟩ (.slice vo2 vn vc2)).setCell ⟨w.heap.size, 2, none⟩ (.slice ro rn rc)).setCell ⟨w.heap.size + 1, 0, none⟩ (.int .i64 0)).setCell ⟨w.heap.size + 1, 1, none⟩ (.int .i64 0)) = w9 at *
          have hkp : ∀ g, g < w8.heap.size → w.heap.size + 2 ≤ g → w9.heap[g]? = w8.heap[g]? := fun g hg hge => k1.block g hg (by omega)
          have hgo : GrO w.heap.size w9 (.slice tbo tn tc) (.slice vo2 vn vc2) (.slice ro rn rc) (orderP l2) := by
            obtain ⟨us, _, hrr, _⟩ := HG8.out.rs
            exact ⟨own_low (ownsRow_keep HG8.out.ts (fun g hg hv => hkp g hg (HG8.out.ts.lt g hv).1)) (by omega), own_low (ownsRow_keep HG8.out.vs (fun g hg hv => hkp g hg (HG8.out.vs.lt g hv).1)) (by omega), N2, (HG8.out.rs.keep (fun g hg => hkp g (hrr.lt g hg).2 (hrr.lt g hg).1) (fun u n xs g hu hg => hkp g (hu.lt g hg).2 (hu.lt g hg).1)).low (by omega)⟩
          refine leaves_cons (f := 22) (args := #[.pointer (some ⟨w.heap.size, 0, none⟩), .pointer (some ⟨w.heap.size + 1, 0, none⟩)]) (by simp) (by simp [go_sem]) ?_
          refine (catchL_idle _ _ _).mono ?_
          rintro e u' w10 ⟨rfl, rfl, rfl⟩
          have z0 := c0.cell 0
          have z1 := c0.cell 1
          have z2 := c0.cell 2
          have e0 := c1.cell 0
          have e1 := c1.cell 1
          simp only [List.getElem?_toArray, List.getElem?_cons_zero, List.getElem?_cons_succ] at z0 z1 z2 e0 e1
          have l0 := c0.lt
          have l1 := c1.lt
          have HF : Hid (LoadV w.heap.size s.data.toList (.returned (.tuple #[.agg #[.slice tbo tn tc, .slice vo2 vn vc2, .slice ro rn rc], .agg #[.int .i64 0, .int .i64 0]])) w9) := Lib.hid (by
            unfold LoadV
            rw [HR.out]
            exact ⟨_, _, _, rfl, hgo⟩)
          clear hgo hkp k1 c0 c1
          simp [Leaves, settle, results, Tryz.results7, go_sem, z0, z1, z2, e0, e1]
          exact ⟨HF.out, hbf⟩
end Go.Proofs.YtldamieigigncaaGreatDoor.lx


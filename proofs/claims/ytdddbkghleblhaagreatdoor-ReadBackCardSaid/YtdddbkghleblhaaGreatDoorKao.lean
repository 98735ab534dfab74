import Derived.Test.YtdddbkghleblhaaGreatDoorKal
namespace Go.Proofs.YtdddbkghleblhaaGreatDoor.lx
open Go.ChangeShapes Go.WideShapes Go.ChangeAt Go.RowKit
set_option linter.unusedVariables false
attribute [local go_sem] run_store_float
/-! the document's item -/
def AnsR {α : Type} (V : World → Value → α → Prop) (F : Value → Prop) (g cap d : Nat) (T : List Tok) (m : Nat) (w : World) (x : Res α) (e : Ending) (w' : World) : Prop :=
  Below w.heap.size w w' ∧ match x with
  | .error q => ∃ p' v, e = .returned (.tuple #[StV g T.length cap p' d q.1, v]) ∧ F v ∧ 0 < q.1 ∧ p' < T.length ∧ (T.getD p' ⟨0, 0, [], 0⟩).at_ = q.2
  | .ok (a, r) => ∃ p' v, e = .returned (.tuple #[StV g T.length cap p' d 0, v]) ∧ V w' v a ∧ r = T.drop p' ∧ Good r ∧ r.length ≤ m
def SlF (v : Value) : Prop := ∃ ao m c, v = .slice ao m c
def ItmF (v : Value) : Prop := ∃ (a b : Int) (t : ByteArray) (ao : Option Addr) (m c : Nat) (o : Int), v = .agg #[.int .i64 a, .int .i64 b, .string t, .slice ao m c, .int .u8 o]
def AltF (v : Value) : Prop := ∃ (a : Int) (f : Nat) (ao : Option Addr) (m c : Nat), v = .agg #[.int .i64 a, .float .f64 f, .slice ao m c]
def RAltsOk (k : Nat) : Prop := ∀ (w : World) (g cap p : Nat) (T : List Tok), k ≤ 16 → TAt w g cap T → Good (T.drop p) → Calls Tryz.prog 18 #[StV g T.length cap p (16 - k) 0] w (AnsR (fun w' v bs => AltsAt (k + 1) w' (fun g => w.heap.size ≤ g) v bs) SlF g cap (16 - k) T (T.drop p).length w (pA k (T.drop p)))
def RItemOk (k : Nat) : Prop := ∀ (w : World) (g cap p : Nat) (T : List Tok), k ≤ 16 → TAt w g cap T → Good (T.drop p) → atIt (hd (T.drop p)) = true → Calls Tryz.prog 52 #[StV g T.length cap p (16 - k) 0] w (AnsR (ItmV k w.heap.size) ItmF g cap (16 - k) T ((T.drop p).length - 1) w (pItem (pSub k) (T.drop p)))
theorem cell3 {w : World} {a : Addr} {v : Value} (h : w.cell? a = some v) (hl : a.block < w.heap.size) (o1 o2 o3 : Obj) : (((w.alloc o1).alloc o2).alloc o3).cell? a = some v :=
  (World.cell?_alloc_lt _ o3 a (by rw [World.size_alloc, World.size_alloc]; omega)).trans ((World.cell?_alloc_lt _ o2 a (by rw [World.size_alloc]; omega)).trans ((World.cell?_alloc_lt w o1 a hl).trans h))
/-- the blocks of an item's walk -/
structure ISt (w0 w2 : World) (st it tk : Array Value) : Prop where
  b0 : Blk w2 w0.heap.size 59 st
  b1 : Blk w2 (w0.heap.size + 1) 59 #[.slice none 0 0, .int .i64 0, .int .i64 0, .int .i64 0]
  b2 : Blk w2 (w0.heap.size + 1 + 1) 70 #[.int .i64 0, .int .i64 0, .string ⟨#[]⟩, .slice none 0 0, .int .u8 0]
  b3 : Blk w2 (w0.heap.size + 1 + 1 + 1) 61 tk
  b4 : Blk w2 (w0.heap.size + 1 + 1 + 1 + 1) 70 it
  bel : Below w0.heap.size w0 w2
  size : w0.heap.size + 5 ≤ w2.heap.size
theorem ISt.below {w0 w2 w3 : World} {st it tk : Array Value} (h : ISt w0 w2 st it tk) (hb : Below w2.heap.size w2 w3) : ISt w0 w3 st it tk := by
  have hs := h.size
  have hz := hb.size
  exact ⟨h.b0.below hb (by omega), h.b1.below hb (by omega), h.b2.below hb (by omega), h.b3.below hb (by omega), h.b4.below hb (by omega), h.bel.trans (hb.mono (by omega)), by omega⟩
theorem ISt.new (w : World) (st it tk : Array Value) : ISt w (((((w.alloc (.cells st 59)).alloc (.cells #[.slice none 0 0, .int .i64 0, .int .i64 0, .int .i64 0] 59)).alloc (.cells #[.int .i64 0, .int .i64 0, .string ⟨#[]⟩, .slice none 0 0, .int .u8 0] 70)).alloc (.cells tk 61)).alloc (.cells it 70)) st it tk := by
  refine ⟨((((Blk.new w 59 st).alloc _).alloc _).alloc _).alloc _, ?_, ?_, ?_, ?_, ?_, ?_⟩
  · have h := (((Blk.new (w.alloc (.cells st 59)) 59 #[.slice none 0 0, .int .i64 0, .int .i64 0, .int .i64 0]).alloc (.cells #[.int .i64 0, .int .i64 0, .string ⟨#[]⟩, .slice none 0 0, .int .u8 0] 70)).alloc (.cells tk 61)).alloc (.cells it 70)
    rwa [World.size_alloc] at h
  · have h := ((Blk.new ((w.alloc (.cells st 59)).alloc (.cells #[.slice none 0 0, .int .i64 0, .int .i64 0, .int .i64 0] 59)) 70 #[.int .i64 0, .int .i64 0, .string ⟨#[]⟩, .slice none 0 0, .int .u8 0]).alloc (.cells tk 61)).alloc (.cells it 70)
    rwa [World.size_alloc, World.size_alloc] at h
  · have h := (Blk.new (((w.alloc (.cells st 59)).alloc (.cells #[.slice none 0 0, .int .i64 0, .int .i64 0, .int .i64 0] 59)).alloc (.cells #[.int .i64 0, .int .i64 0, .string ⟨#[]⟩, .slice none 0 0, .int .u8 0] 70)) 61 tk).alloc (.cells it 70)
    rwa [World.size_alloc, World.size_alloc, World.size_alloc] at h
  · have h := Blk.new ((((w.alloc (.cells st 59)).alloc (.cells #[.slice none 0 0, .int .i64 0, .int .i64 0, .int .i64 0] 59)).alloc (.cells #[.int .i64 0, .int .i64 0, .string ⟨#[]⟩, .slice none 0 0, .int .u8 0] 70)).alloc (.cells tk 61)) 70 it
    rwa [World.size_alloc, World.size_alloc, World.size_alloc, World.size_alloc] at h
  · exact (((((Below.refl _ _).alloc (Nat.le_refl _) _).alloc (by simp) _).alloc (by simp; omega) _).alloc (by simp; omega) _).alloc (by simp; omega) _
  · simp
theorem kp_item (w : World) (a b : Nat) (v0 v1 v2 v3 u0 u1 u2 u3 u4 : Value) : Kp (fun i => i = a ∨ i = b) w (((((((((w.setCell ⟨a, 0, none⟩ v0).setCell ⟨a, 1, none⟩ v1).setCell ⟨a, 2, none⟩ v2).setCell ⟨a, 3, none⟩ v3).setCell ⟨b, 0, none⟩ u0).setCell ⟨b, 1, none⟩ u1).setCell ⟨b, 2, none⟩ u2).setCell ⟨b, 3, none⟩ u3).setCell ⟨b, 4, none⟩ u4) := by
  have k1 := kp_st w a v0 v1 v2 v3
  have k2 := kp_end5 ((((w.setCell ⟨a, 0, none⟩ v0).setCell ⟨a, 1, none⟩ v1).setCell ⟨a, 2, none⟩ v2).setCell ⟨a, 3, none⟩ v3) b a u0 u1 u2 u3 u4
  exact ⟨k2.os.trans k1.os, k2.tape.trans k1.tape, k2.output.trans k1.output, Nat.le_trans k1.size k2.size, fun i hi hn => (k2.block i (Nat.lt_of_lt_of_le hi k1.size) (fun h => hn (h.elim .inr .inl))).trans (k1.block i hi (fun h => hn (.inl h)))⟩
theorem kp_item_drew (w : World) (a b : Nat) (v0 v1 v2 v3 u0 u1 u2 u3 u4 : Value) : Kp (fun i => i = a ∨ i = b) w (((((((((w.setCell ⟨a, 0, none⟩ v0).setCell ⟨a, 1, none⟩ v1).setCell ⟨a, 2, none⟩ v2).setCell ⟨a, 3, none⟩ v3).setCell ⟨b, 0, none⟩ u0).setCell ⟨b, 1, none⟩ u1).setCell ⟨b, 2, none⟩ u2).setCell ⟨b, 3, none⟩ u3).setCell ⟨b, 4, none⟩ u4).drew := by
  have k := kp_item w a b v0 v1 v2 v3 u0 u1 u2 u3 u4
  generalize ((((((((w.setCell ⟨a, 0, none⟩ v0).setCell ⟨a, 1, none⟩ v1).setCell ⟨a, 2, none⟩ v2).setCell ⟨a, 3, none⟩ v3).setCell ⟨b, 0, none⟩ u0).setCell ⟨b, 1, none⟩ u1).setCell ⟨b, 2, none⟩ u2).setCell ⟨b, 3, none⟩ u3).setCell ⟨b, 4, none⟩ u4 = w' at *
  exact ⟨k.os, k.tape, k.output, k.size, k.block⟩
theorem ISt.stores {w0 w4 : World} {a0 a1 a2 a3 c0 c1 c2 c3 c4 : Value} {tk : Array Value} (h : ISt w0 w4 #[a0, a1, a2, a3] #[c0, c1, c2, c3, c4] tk) (s0 s1 s2 s3 r2 i0 i1 i2 i3 i4 : Value) : ISt w0 ((((((((((w4.setCell ⟨w0.heap.size, 0, none⟩ s0).setCell ⟨w0.heap.size, 1, none⟩ s1).setCell ⟨w0.heap.size, 2, none⟩ s2).setCell ⟨w0.heap.size, 3, none⟩ s3).setCell ⟨w0.heap.size, 2, none⟩ r2).setCell ⟨w0.heap.size + 1 + 1 + 1 + 1, 0, none⟩ i0).setCell ⟨w0.heap.size + 1 + 1 + 1 + 1, 1, none⟩ i1).setCell ⟨w0.heap.size + 1 + 1 + 1 + 1, 2, none⟩ i2).setCell ⟨w0.heap.size + 1 + 1 + 1 + 1, 3, none⟩ i3).setCell ⟨w0.heap.size + 1 + 1 + 1 + 1, 4, none⟩ i4) #[s0, s1, r2, s3] #[i0, i1, i2, i3, i4] tk := by
  have far5 : ∀ (w : World) (g : Nat) (t : TypeId) (cs : Array Value), Blk w g t cs → g ≠ w0.heap.size + 1 + 1 + 1 + 1 → Blk (((((w.setCell ⟨w0.heap.size + 1 + 1 + 1 + 1, 0, none⟩ i0).setCell ⟨w0.heap.size + 1 + 1 + 1 + 1, 1, none⟩ i1).setCell ⟨w0.heap.size + 1 + 1 + 1 + 1, 2, none⟩ i2).setCell ⟨w0.heap.size + 1 + 1 + 1 + 1, 3, none⟩ i3).setCell ⟨w0.heap.size + 1 + 1 + 1 + 1, 4, none⟩ i4) g t cs := fun w g t cs hb hn => ((((hb.far (p := ⟨w0.heap.size + 1 + 1 + 1 + 1, 0, none⟩) hn i0).far (p := ⟨w0.heap.size + 1 + 1 + 1 + 1, 1, none⟩) hn i1).far (p := ⟨w0.heap.size + 1 + 1 + 1 + 1, 2, none⟩) hn i2).far (p := ⟨w0.heap.size + 1 + 1 + 1 + 1, 3, none⟩) hn i3).far (p := ⟨w0.heap.size + 1 + 1 + 1 + 1, 4, none⟩) hn i4
  have far0 : ∀ (w : World) (g : Nat) (t : TypeId) (cs : Array Value), Blk w g t cs → g ≠ w0.heap.size → Blk (((((w.setCell ⟨w0.heap.size, 0, none⟩ s0).setCell ⟨w0.heap.size, 1, none⟩ s1).setCell ⟨w0.heap.size, 2, none⟩ s2).setCell ⟨w0.heap.size, 3, none⟩ s3).setCell ⟨w0.heap.size, 2, none⟩ r2) g t cs := fun w g t cs hb hn => ((((hb.far (p := ⟨w0.heap.size, 0, none⟩) hn s0).far (p := ⟨w0.heap.size, 1, none⟩) hn s1).far (p := ⟨w0.heap.size, 2, none⟩) hn s2).far (p := ⟨w0.heap.size, 3, none⟩) hn s3).far (p := ⟨w0.heap.size, 2, none⟩) hn r2
  refine ⟨far5 _ _ _ _ (((((h.b0.set_ 0 s0).set_ 1 s1).set_ 2 s2).set_ 3 s3).set_ 2 r2) (by omega), far5 _ _ _ _ (far0 _ _ _ _ h.b1 (by omega)) (by omega), far5 _ _ _ _ (far0 _ _ _ _ h.b2 (by omega)) (by omega), far5 _ _ _ _ (far0 _ _ _ _ h.b3 (by omega)) (by omega), (((((far0 _ _ _ _ h.b4 (by omega)).set_ 0 i0).set_ 1 i1).set_ 2 i2).set_ 3 i3).set_ 4 i4, ?_, by simpa using h.size⟩
  exact (((((((((h.bel.setCell (p := ⟨w0.heap.size, 0, none⟩) (Nat.le_refl _) s0).setCell (p := ⟨w0.heap.size, 1, none⟩) (Nat.le_refl _) s1).setCell (p := ⟨w0.heap.size, 2, none⟩) (Nat.le_refl _) s2).setCell (p := ⟨w0.heap.size, 3, none⟩) (Nat.le_refl _) s3).setCell (p := ⟨w0.heap.size, 2, none⟩) (Nat.le_refl _) r2).setCell (p := ⟨w0.heap.size + 1 + 1 + 1 + 1, 0, none⟩) (by show w0.heap.size ≤ w0.heap.size + 1 + 1 + 1 + 1; omega) i0).setCell (p := ⟨w0.heap.size + 1 + 1 + 1 + 1, 1, none⟩) (by show w0.heap.size ≤ w0.heap.size + 1 + 1 + 1 + 1; omega) i1).setCell (p := ⟨w0.heap.size + 1 + 1 + 1 + 1, 2, none⟩) (by show w0.heap.size ≤ w0.heap.size + 1 + 1 + 1 + 1; omega) i2).setCell (p := ⟨w0.heap.size + 1 + 1 + 1 + 1, 3, none⟩) (by show w0.heap.size ≤ w0.heap.size + 1 + 1 + 1 + 1; omega) i3).setCell (p := ⟨w0.heap.size + 1 + 1 + 1 + 1, 4, none⟩) (by show w0.heap.size ≤ w0.heap.size + 1 + 1 + 1 + 1; omega) i4
theorem kp_stores (w : World) (a b : Nat) (v0 v1 v2 v3 v4 u0 u1 u2 u3 u4 : Value) : Kp (fun i => i = a ∨ i = b) w ((((((((((w.setCell ⟨a, 0, none⟩ v0).setCell ⟨a, 1, none⟩ v1).setCell ⟨a, 2, none⟩ v2).setCell ⟨a, 3, none⟩ v3).setCell ⟨a, 2, none⟩ v4).setCell ⟨b, 0, none⟩ u0).setCell ⟨b, 1, none⟩ u1).setCell ⟨b, 2, none⟩ u2).setCell ⟨b, 3, none⟩ u3).setCell ⟨b, 4, none⟩ u4) := by
  have k1 := (kp_st w a v0 v1 v2 v3).trans (kp_at _ a 2 v4)
  have k2 := kp_end5 (((((w.setCell ⟨a, 0, none⟩ v0).setCell ⟨a, 1, none⟩ v1).setCell ⟨a, 2, none⟩ v2).setCell ⟨a, 3, none⟩ v3).setCell ⟨a, 2, none⟩ v4) b a u0 u1 u2 u3 u4
  exact ⟨k2.os.trans k1.os, k2.tape.trans k1.tape, k2.output.trans k1.output, Nat.le_trans k1.size k2.size, fun i hi hn => (k2.block i (Nat.lt_of_lt_of_le hi k1.size) (fun h => hn (h.elim .inr .inl))).trans (k1.block i hi (fun h => hn (.inl h)))⟩
theorem op_bel {w0 w : World} (b4 b0 : Nat) (u v : Value) (h : Below w0.heap.size w0 w) (h4 : w0.heap.size ≤ b4) (h0 : w0.heap.size ≤ b0) : Below w0.heap.size w0 ((w.setCell ⟨b4, 4, none⟩ u).setCell ⟨b0, 1, none⟩ v) := (h.setCell (p := ⟨b4, 4, none⟩) h4 u).setCell (p := ⟨b0, 1, none⟩) h0 v
set_option maxRecDepth 100000 in
set_option maxHeartbeats 4000000 in
theorem ritem_name (k : Nat) (hA : ∀ j, k = j + 1 → RAltsOk j) (w : World) (g cap p : Nat) (T : List Tok) (hk : k ≤ 16) (h : TAt w g cap T) (hg : Good (T.drop p)) (ha : atIt (hd (T.drop p)) = true) (t : Tok) (r : List Tok) (hd : T.drop p = t :: r) (k1 : t.kind = 1) : Calls Tryz.prog 52 #[StV g T.length cap p (16 - k) 0] w (AnsR (ItmV k w.heap.size) ItmF g cap (16 - k) T ((T.drop p).length - 1) w (pItem (pSub k) (T.drop p))) := by
  obtain ⟨hlt, hgt, hdr⟩ := drop_lt hd
  obtain ⟨c0, c1, c2, c3⟩ := h.tok hd
  have hgl := h.lt
  have hlen := h.len
  have hcl := h.capl
  have hcm := h.capm
  have HT := Lib.hid h
  have HG := Lib.hid hg
  unfold maxLen at hcm
  rw [hd] at ha ⊢
  have hgr : Good (T.drop (p + 1)) := by rw [hdr]; rw [hd] at hg; exact hg.tail (by omega)
  have HR : Hid (pItem (pSub k) (t :: r) = .ok (.mk t.at_ 0 t.text [] (opOf r), opTl r)) := Lib.hid (if_pos k1)
  generalize pItem (pSub k) (t :: r) = X at *
  unfold StV
  generalize 16 - k = d at *
  generalize hn : T.length = n at *
  have HN := Lib.hid hn
  replace c0 : w.cell? ⟨g, p * 4, none⟩ = some (.int .i64 1) := by rw [c0, k1]; rfl
  have hrl : (t :: r).length - 1 = r.length := rfl
  generalize (t :: r).length - 1 = m at *
  have hpc : ((p : Int) + 1) = ((p + 1 : Nat) : Int) := rfl
  obtain ⟨p1, hp1⟩ : ∃ p1, p + 1 = p1 := ⟨_, rfl⟩
  rw [hp1] at hpc hgr hdr
  have HPC := Lib.hid hpc
  have HGR := Lib.hid hgr
  have hp1n : p1 ≤ n := by omega
  have HX : Hid (X = .ok (.mk t.at_ 0 t.text [] (opOf (T.drop p1)), opTl (T.drop p1))) := Lib.hid (by rw [hdr]; exact HR.out)
  have HM : Hid ((T.drop p1).length ≤ m) := Lib.hid (by rw [hdr, hrl]; exact Nat.le_refl _)
  obtain ⟨K, P, X', F⟩ := t
  have e0 := cell3 c0 hgl
  have e1 := cell3 c1 hgl
  have e2 := cell3 c2 hgl
  have e3 := cell3 c3 hgl
  clear c0 c1 c2 c3 ha hg hgr k1 hA h hn hpc HR hrl
  go_enter Tryz.func52, Tryz.ntmps52
  go_wp2_with fail
  rw [HPC.out]
  have his := ISt.new w #[.slice (some ⟨g, 0, none⟩) n cap, .int .i64 p1, .int .i64 d, .int .i64 0] #[.int .i64 P, .int .i64 0, .string (S X'), .slice none 0 0, .int .u8 0] #[.int .i64 1, .int .i64 P, .string (S X'), .float .f64 F]
  have ht2 := HT.out.below his.bel hgl
  generalize ((((w.alloc (.cells #[.slice (some ⟨g, 0, none⟩) n cap, .int .i64 p1, .int .i64 d, .int .i64 0] 59)).alloc (.cells #[.slice none 0 0, .int .i64 0, .int .i64 0, .int .i64 0] 59)).alloc (.cells #[.int .i64 0, .int .i64 0, .string ⟨#[]⟩, .slice none 0 0, .int .u8 0] 70)).alloc (.cells #[.int .i64 1, .int .i64 P, .string (S X'), .float .f64 F] 61)).alloc (.cells #[.int .i64 P, .int .i64 0, .string (S X'), .slice none 0 0, .int .u8 0] 70) = w2 at *
  have HIS := Lib.hid his
  have HT2 := Lib.hid ht2
  clear his ht2 e0 e1 e2 e3
  have HSG := Lib.hid (fun w c hc h => rsign_any w g cap p1 d 0 T c hc h HGR.out)
  rw [HN.out] at HSG
  unfold StV at HSG
  by_cases ho : isOp (sg (T.drop p1)) = true
  · obtain ⟨ho0, ho1⟩ := isOp_le ho
    have hoy := op_yes ho
    obtain ⟨t2, r2, hd2, hst, hgr2⟩ := HGR.out.sg_tail ho0
    obtain ⟨hp2, _, hdr2⟩ := drop_lt hd2
    rw [HN.out] at hp2
    have hk4 : t2.kind = 4 := by
      by_cases h4 : t2.kind = 4
      · exact h4
      · unfold sgOf at hst
        rw [if_neg h4] at hst
        omega
    obtain ⟨c', hT2⟩ := HGR.out.sign' hd2 hk4
    have hcs : sg (T.drop p1) = c'.toNat := by
      rw [← hst]
      unfold sgOf
      rw [if_pos hk4, hT2]
      rfl
    have HO : Hid (X = .ok (.mk P 0 X' [] c'.toNat, T.drop (p1 + 1))) := Lib.hid (by rw [HX.out, hoy.1, hoy.2, hcs, hd2, hdr2]; rfl)
    have HG2 : Hid (Good (T.drop (p1 + 1))) := Lib.hid (by rw [hdr2]; exact hgr2)
    have HM2 : Hid ((T.drop (p1 + 1)).length ≤ m) := Lib.hid (by have := HM.out; rw [hd2] at this; rw [hdr2]; simp at this; omega)
    clear hoy hst hk4 hgr2 hdr2 ho ho0
    obtain ⟨K2, P2, X2, F2⟩ := t2
    have hT2 : X2 = [c'] := hT2
    rcases ho1 with h63 | h42 | h43
    · have s1 := HSG.out w2 63 (by decide) HT2.out
      rw [decide_eq_true (show sg (T.drop p1) = UInt8.toNat 63 from h63)] at s1
      refine s1.mono ?_
      rintro e w3 ⟨rfl, hb3⟩
      have his := HIS.out.below hb3
      have ht := HT2.out.below hb3 HT2.out.lt
      have HIS3 := Lib.hid his
      have HT3 := Lib.hid ht
      clear s1 hb3 ht
      obtain ⟨q0, q1, q2, q3⟩ := HT3.out.tok hd2
      have hg5 := HT3.out.lt
      have hs1 : (S [c']).size = 1 := rfl
      have hs2 : (S [c'])[0].toNat = c'.toNat := rfl
      rw [hT2] at q2
      have l0 := his.b0.lt
      have l1 := his.b1.lt
      have l2 := his.b2.lt
      have l4 := his.b4.lt
      have x0 := his.b0.cell 0
      have x1 := his.b0.cell 1
      have x2 := his.b0.cell 2
      have x3 := his.b0.cell 3
      have y0 := his.b1.cell 0
      have y1 := his.b1.cell 1
      have y2 := his.b1.cell 2
      have y3 := his.b1.cell 3
      have z0 := his.b2.cell 0
      have z1 := his.b2.cell 1
      have z2 := his.b2.cell 2
      have z3 := his.b2.cell 3
      have z4 := his.b2.cell 4
      have i0 := his.b4.cell 0
      have i1 := his.b4.cell 1
      have i2 := his.b4.cell 2
      have i3 := his.b4.cell 3
      have i4 := his.b4.cell 4
      simp only [List.getElem?_toArray, List.getElem?_cons_zero, List.getElem?_cons_succ] at x0 x1 x2 x3 y0 y1 y2 y3 z0 z1 z2 z3 z4 i0 i1 i2 i3 i4
      have vx1 := his.b0.frozen 1
      have vx3 := his.b0.frozen 3
      have vy0 := his.b1.frozen 0
      have vy1 := his.b1.frozen 1
      have vy2 := his.b1.frozen 2
      have vy3 := his.b1.frozen 3
      have vz0 := his.b2.frozen 0
      have vz1 := his.b2.frozen 1
      have vz2 := his.b2.frozen 2
      have vz3 := his.b2.frozen 3
      have vz4 := his.b2.frozen 4
      have vi4 := his.b4.frozen 4
      clear his
      go_wp2_with fail
      go_region
      all_goals
        go_wp2
        have hke := kp_item_drew (((w3.setCell ⟨w.heap.size + 1 + 1 + 1 + 1, 4, none⟩ (.int .u8 c'.toNat)).setCell ⟨w.heap.size, 1, none⟩ (.int .i64 ((p1 : Int) + 1)))) (w.heap.size + 1) (w.heap.size + 1 + 1) (.slice (some ⟨g, 0, none⟩) n cap) (.int .i64 ((p1 : Int) + 1)) (.int .i64 d) (.int .i64 0) (.int .i64 P) (.int .i64 0) (.string (S X')) (.slice none 0 0) (.int .u8 c'.toNat)
        refine bodyPost_ret (v := .tuple #[.agg #[.slice (some ⟨g, 0, none⟩) n cap, .int .i64 ((p1 : Int) + 1), .int .i64 d, .int .i64 0], .agg #[.int .i64 P, .int .i64 0, .string (S X'), .slice none 0 0, .int .u8 c'.toNat]]) (by simp [results, Tryz.results52, go_sem, y0, y1, y2, y3, z0, z1, z2, z3, z4]) rfl ?_
        have hbe := op_bel (w.heap.size + 1 + 1 + 1 + 1) w.heap.size (.int .u8 c'.toNat) (.int .i64 ((p1 : Int) + 1)) HIS3.out.bel (by omega) (Nat.le_refl _)
        refine ⟨hbe.trans (hke.below hbe.size (fun i hi => by rcases hi with h | h <;> (rw [h]; omega))), ?_⟩
        rw [HO.out, ← HN.out]
        exact ⟨p1 + 1, _, rfl, ⟨.slice none 0 0, rfl, AltsAt.nil k _ _⟩, rfl, HG2.out, HM2.out⟩

    · have s1 := HSG.out w2 63 (by decide) HT2.out
      rw [decide_eq_false (show ¬ sg (T.drop p1) = UInt8.toNat 63 from (by rw [h42]; decide))] at s1
      refine s1.mono ?_
      rintro e w3 ⟨rfl, hb3⟩
      have his := HIS.out.below hb3
      have ht := HT2.out.below hb3 HT2.out.lt
      have HIS3 := Lib.hid his
      have HT3 := Lib.hid ht
      clear s1 hb3 ht
      have l0 := his.b0.lt
      have l1 := his.b1.lt
      have l2 := his.b2.lt
      have l4 := his.b4.lt
      have x0 := his.b0.cell 0
      have x1 := his.b0.cell 1
      have x2 := his.b0.cell 2
      have x3 := his.b0.cell 3
      have y0 := his.b1.cell 0
      have y1 := his.b1.cell 1
      have y2 := his.b1.cell 2
      have y3 := his.b1.cell 3
      have z0 := his.b2.cell 0
      have z1 := his.b2.cell 1
      have z2 := his.b2.cell 2
      have z3 := his.b2.cell 3
      have z4 := his.b2.cell 4
      have i0 := his.b4.cell 0
      have i1 := his.b4.cell 1
      have i2 := his.b4.cell 2
      have i3 := his.b4.cell 3
      have i4 := his.b4.cell 4
      simp only [List.getElem?_toArray, List.getElem?_cons_zero, List.getElem?_cons_succ] at x0 x1 x2 x3 y0 y1 y2 y3 z0 z1 z2 z3 z4 i0 i1 i2 i3 i4
      have vx1 := his.b0.frozen 1
      have vx3 := his.b0.frozen 3
      have vy0 := his.b1.frozen 0
      have vy1 := his.b1.frozen 1
      have vy2 := his.b1.frozen 2
      have vy3 := his.b1.frozen 3
      have vz0 := his.b2.frozen 0
      have vz1 := his.b2.frozen 1
      have vz2 := his.b2.frozen 2
      have vz3 := his.b2.frozen 3
      have vz4 := his.b2.frozen 4
      have vi4 := his.b4.frozen 4
      clear his
      go_wp2_with fail
      have s1 := HSG.out w3 42 (by decide) HT3.out
      rw [decide_eq_true (show sg (T.drop p1) = UInt8.toNat 42 from h42)] at s1
      refine s1.mono ?_
      clear l0 l1 l2 l4 x0 x1 x2 x3 y0 y1 y2 y3 z0 z1 z2 z3 z4 i0 i1 i2 i3 i4 vx1 vx3 vy0 vy1 vy2 vy3 vz0 vz1 vz2 vz3 vz4 vi4
      rintro e w4 ⟨rfl, hb3⟩
      have his := HIS3.out.below hb3
      have ht := HT3.out.below hb3 HT3.out.lt
      have HIS4 := Lib.hid his
      have HT4 := Lib.hid ht
      clear s1 hb3 ht
      obtain ⟨q0, q1, q2, q3⟩ := HT4.out.tok hd2
      have hg5 := HT4.out.lt
      have hs1 : (S [c']).size = 1 := rfl
      have hs2 : (S [c'])[0].toNat = c'.toNat := rfl
      rw [hT2] at q2
      have l0 := his.b0.lt
      have l1 := his.b1.lt
      have l2 := his.b2.lt
      have l4 := his.b4.lt
      have x0 := his.b0.cell 0
      have x1 := his.b0.cell 1
      have x2 := his.b0.cell 2
      have x3 := his.b0.cell 3
      have y0 := his.b1.cell 0
      have y1 := his.b1.cell 1
      have y2 := his.b1.cell 2
      have y3 := his.b1.cell 3
      have z0 := his.b2.cell 0
      have z1 := his.b2.cell 1
      have z2 := his.b2.cell 2
      have z3 := his.b2.cell 3
      have z4 := his.b2.cell 4
      have i0 := his.b4.cell 0
      have i1 := his.b4.cell 1
      have i2 := his.b4.cell 2
      have i3 := his.b4.cell 3
      have i4 := his.b4.cell 4
      simp only [List.getElem?_toArray, List.getElem?_cons_zero, List.getElem?_cons_succ] at x0 x1 x2 x3 y0 y1 y2 y3 z0 z1 z2 z3 z4 i0 i1 i2 i3 i4
      have vx1 := his.b0.frozen 1
      have vx3 := his.b0.frozen 3
      have vy0 := his.b1.frozen 0
      have vy1 := his.b1.frozen 1
      have vy2 := his.b1.frozen 2
      have vy3 := his.b1.frozen 3
      have vz0 := his.b2.frozen 0
      have vz1 := his.b2.frozen 1
      have vz2 := his.b2.frozen 2
      have vz3 := his.b2.frozen 3
      have vz4 := his.b2.frozen 4
      have vi4 := his.b4.frozen 4
      clear his
      go_wp2_with fail
      go_region
      all_goals
        go_wp2
        have hke := kp_item_drew (((w4.setCell ⟨w.heap.size + 1 + 1 + 1 + 1, 4, none⟩ (.int .u8 c'.toNat)).setCell ⟨w.heap.size, 1, none⟩ (.int .i64 ((p1 : Int) + 1)))) (w.heap.size + 1) (w.heap.size + 1 + 1) (.slice (some ⟨g, 0, none⟩) n cap) (.int .i64 ((p1 : Int) + 1)) (.int .i64 d) (.int .i64 0) (.int .i64 P) (.int .i64 0) (.string (S X')) (.slice none 0 0) (.int .u8 c'.toNat)
        refine bodyPost_ret (v := .tuple #[.agg #[.slice (some ⟨g, 0, none⟩) n cap, .int .i64 ((p1 : Int) + 1), .int .i64 d, .int .i64 0], .agg #[.int .i64 P, .int .i64 0, .string (S X'), .slice none 0 0, .int .u8 c'.toNat]]) (by simp [results, Tryz.results52, go_sem, y0, y1, y2, y3, z0, z1, z2, z3, z4]) rfl ?_
        have hbe := op_bel (w.heap.size + 1 + 1 + 1 + 1) w.heap.size (.int .u8 c'.toNat) (.int .i64 ((p1 : Int) + 1)) HIS4.out.bel (by omega) (Nat.le_refl _)
        refine ⟨hbe.trans (hke.below hbe.size (fun i hi => by rcases hi with h | h <;> (rw [h]; omega))), ?_⟩
        rw [HO.out, ← HN.out]
        exact ⟨p1 + 1, _, rfl, ⟨.slice none 0 0, rfl, AltsAt.nil k _ _⟩, rfl, HG2.out, HM2.out⟩

    · have s1 := HSG.out w2 63 (by decide) HT2.out
      rw [decide_eq_false (show ¬ sg (T.drop p1) = UInt8.toNat 63 from (by rw [h43]; decide))] at s1
      refine s1.mono ?_
      rintro e w3 ⟨rfl, hb3⟩
      have his := HIS.out.below hb3
      have ht := HT2.out.below hb3 HT2.out.lt
      have HIS3 := Lib.hid his
      have HT3 := Lib.hid ht
      clear s1 hb3 ht
      have l0 := his.b0.lt
      have l1 := his.b1.lt
      have l2 := his.b2.lt
      have l4 := his.b4.lt
      have x0 := his.b0.cell 0
      have x1 := his.b0.cell 1
      have x2 := his.b0.cell 2
      have x3 := his.b0.cell 3
      have y0 := his.b1.cell 0
      have y1 := his.b1.cell 1
      have y2 := his.b1.cell 2
      have y3 := his.b1.cell 3
      have z0 := his.b2.cell 0
      have z1 := his.b2.cell 1
      have z2 := his.b2.cell 2
      have z3 := his.b2.cell 3
      have z4 := his.b2.cell 4
      have i0 := his.b4.cell 0
      have i1 := his.b4.cell 1
      have i2 := his.b4.cell 2
      have i3 := his.b4.cell 3
      have i4 := his.b4.cell 4
      simp only [List.getElem?_toArray, List.getElem?_cons_zero, List.getElem?_cons_succ] at x0 x1 x2 x3 y0 y1 y2 y3 z0 z1 z2 z3 z4 i0 i1 i2 i3 i4
      have vx1 := his.b0.frozen 1
      have vx3 := his.b0.frozen 3
      have vy0 := his.b1.frozen 0
      have vy1 := his.b1.frozen 1
      have vy2 := his.b1.frozen 2
      have vy3 := his.b1.frozen 3
      have vz0 := his.b2.frozen 0
      have vz1 := his.b2.frozen 1
      have vz2 := his.b2.frozen 2
      have vz3 := his.b2.frozen 3
      have vz4 := his.b2.frozen 4
      have vi4 := his.b4.frozen 4
      clear his
      go_wp2_with fail
      have s1 := HSG.out w3 42 (by decide) HT3.out
      rw [decide_eq_false (show ¬ sg (T.drop p1) = UInt8.toNat 42 from (by rw [h43]; decide))] at s1
      refine s1.mono ?_
      clear l0 l1 l2 l4 x0 x1 x2 x3 y0 y1 y2 y3 z0 z1 z2 z3 z4 i0 i1 i2 i3 i4 vx1 vx3 vy0 vy1 vy2 vy3 vz0 vz1 vz2 vz3 vz4 vi4
      rintro e w4 ⟨rfl, hb3⟩
      have his := HIS3.out.below hb3
      have ht := HT3.out.below hb3 HT3.out.lt
      have HIS4 := Lib.hid his
      have HT4 := Lib.hid ht
      clear s1 hb3 ht
      have l0 := his.b0.lt
      have l1 := his.b1.lt
      have l2 := his.b2.lt
      have l4 := his.b4.lt
      have x0 := his.b0.cell 0
      have x1 := his.b0.cell 1
      have x2 := his.b0.cell 2
      have x3 := his.b0.cell 3
      have y0 := his.b1.cell 0
      have y1 := his.b1.cell 1
      have y2 := his.b1.cell 2
      have y3 := his.b1.cell 3
      have z0 := his.b2.cell 0
      have z1 := his.b2.cell 1
      have z2 := his.b2.cell 2
      have z3 := his.b2.cell 3
      have z4 := his.b2.cell 4
      have i0 := his.b4.cell 0
      have i1 := his.b4.cell 1
      have i2 := his.b4.cell 2
      have i3 := his.b4.cell 3
      have i4 := his.b4.cell 4
      simp only [List.getElem?_toArray, List.getElem?_cons_zero, List.getElem?_cons_succ] at x0 x1 x2 x3 y0 y1 y2 y3 z0 z1 z2 z3 z4 i0 i1 i2 i3 i4
      have vx1 := his.b0.frozen 1
      have vx3 := his.b0.frozen 3
      have vy0 := his.b1.frozen 0
      have vy1 := his.b1.frozen 1
      have vy2 := his.b1.frozen 2
      have vy3 := his.b1.frozen 3
      have vz0 := his.b2.frozen 0
      have vz1 := his.b2.frozen 1
      have vz2 := his.b2.frozen 2
      have vz3 := his.b2.frozen 3
      have vz4 := his.b2.frozen 4
      have vi4 := his.b4.frozen 4
      clear his
      go_wp2_with fail
      have s1 := HSG.out w4 43 (by decide) HT4.out
      rw [decide_eq_true (show sg (T.drop p1) = UInt8.toNat 43 from h43)] at s1
      refine s1.mono ?_
      clear l0 l1 l2 l4 x0 x1 x2 x3 y0 y1 y2 y3 z0 z1 z2 z3 z4 i0 i1 i2 i3 i4 vx1 vx3 vy0 vy1 vy2 vy3 vz0 vz1 vz2 vz3 vz4 vi4
      rintro e w5 ⟨rfl, hb3⟩
      have his := HIS4.out.below hb3
      have ht := HT4.out.below hb3 HT4.out.lt
      have HIS5 := Lib.hid his
      have HT5 := Lib.hid ht
      clear s1 hb3 ht
      obtain ⟨q0, q1, q2, q3⟩ := HT5.out.tok hd2
      have hg5 := HT5.out.lt
      have hs1 : (S [c']).size = 1 := rfl
      have hs2 : (S [c'])[0].toNat = c'.toNat := rfl
      rw [hT2] at q2
      have l0 := his.b0.lt
      have l1 := his.b1.lt
      have l2 := his.b2.lt
      have l4 := his.b4.lt
      have x0 := his.b0.cell 0
      have x1 := his.b0.cell 1
      have x2 := his.b0.cell 2
      have x3 := his.b0.cell 3
      have y0 := his.b1.cell 0
      have y1 := his.b1.cell 1
      have y2 := his.b1.cell 2
      have y3 := his.b1.cell 3
      have z0 := his.b2.cell 0
      have z1 := his.b2.cell 1
      have z2 := his.b2.cell 2
      have z3 := his.b2.cell 3
      have z4 := his.b2.cell 4
      have i0 := his.b4.cell 0
      have i1 := his.b4.cell 1
      have i2 := his.b4.cell 2
      have i3 := his.b4.cell 3
      have i4 := his.b4.cell 4
      simp only [List.getElem?_toArray, List.getElem?_cons_zero, List.getElem?_cons_succ] at x0 x1 x2 x3 y0 y1 y2 y3 z0 z1 z2 z3 z4 i0 i1 i2 i3 i4
      have vx1 := his.b0.frozen 1
      have vx3 := his.b0.frozen 3
      have vy0 := his.b1.frozen 0
      have vy1 := his.b1.frozen 1
      have vy2 := his.b1.frozen 2
      have vy3 := his.b1.frozen 3
      have vz0 := his.b2.frozen 0
      have vz1 := his.b2.frozen 1
      have vz2 := his.b2.frozen 2
      have vz3 := his.b2.frozen 3
      have vz4 := his.b2.frozen 4
      have vi4 := his.b4.frozen 4
      clear his
      go_wp2_with fail
      go_region
      all_goals
        go_wp2
        have hke := kp_item_drew (((w5.setCell ⟨w.heap.size + 1 + 1 + 1 + 1, 4, none⟩ (.int .u8 c'.toNat)).setCell ⟨w.heap.size, 1, none⟩ (.int .i64 ((p1 : Int) + 1)))) (w.heap.size + 1) (w.heap.size + 1 + 1) (.slice (some ⟨g, 0, none⟩) n cap) (.int .i64 ((p1 : Int) + 1)) (.int .i64 d) (.int .i64 0) (.int .i64 P) (.int .i64 0) (.string (S X')) (.slice none 0 0) (.int .u8 c'.toNat)
        refine bodyPost_ret (v := .tuple #[.agg #[.slice (some ⟨g, 0, none⟩) n cap, .int .i64 ((p1 : Int) + 1), .int .i64 d, .int .i64 0], .agg #[.int .i64 P, .int .i64 0, .string (S X'), .slice none 0 0, .int .u8 c'.toNat]]) (by simp [results, Tryz.results52, go_sem, y0, y1, y2, y3, z0, z1, z2, z3, z4]) rfl ?_
        have hbe := op_bel (w.heap.size + 1 + 1 + 1 + 1) w.heap.size (.int .u8 c'.toNat) (.int .i64 ((p1 : Int) + 1)) HIS5.out.bel (by omega) (Nat.le_refl _)
        refine ⟨hbe.trans (hke.below hbe.size (fun i hi => by rcases hi with h | h <;> (rw [h]; omega))), ?_⟩
        rw [HO.out, ← HN.out]
        exact ⟨p1 + 1, _, rfl, ⟨.slice none 0 0, rfl, AltsAt.nil k _ _⟩, rfl, HG2.out, HM2.out⟩

  · obtain ⟨n1, n2, n3⟩ := isOp_no ho
    have hoy := op_no ho
    have HO : Hid (X = .ok (.mk P 0 X' [] 0, T.drop p1)) := Lib.hid (by rw [HX.out, hoy.1, hoy.2])
    clear hoy ho
    have s1 := HSG.out w2 63 (by decide) HT2.out
    rw [decide_eq_false (show ¬ sg (T.drop p1) = UInt8.toNat 63 from n1)] at s1
    refine s1.mono ?_
    rintro e w3 ⟨rfl, hb3⟩
    have his := HIS.out.below hb3
    have ht := HT2.out.below hb3 HT2.out.lt
    have HIS3 := Lib.hid his
    have HT3 := Lib.hid ht
    clear s1 hb3 ht
    have l0 := his.b0.lt
    have l1 := his.b1.lt
    have l2 := his.b2.lt
    have l4 := his.b4.lt
    have x0 := his.b0.cell 0
    have x1 := his.b0.cell 1
    have x2 := his.b0.cell 2
    have x3 := his.b0.cell 3
    have y0 := his.b1.cell 0
    have y1 := his.b1.cell 1
    have y2 := his.b1.cell 2
    have y3 := his.b1.cell 3
    have z0 := his.b2.cell 0
    have z1 := his.b2.cell 1
    have z2 := his.b2.cell 2
    have z3 := his.b2.cell 3
    have z4 := his.b2.cell 4
    have i0 := his.b4.cell 0
    have i1 := his.b4.cell 1
    have i2 := his.b4.cell 2
    have i3 := his.b4.cell 3
    have i4 := his.b4.cell 4
    simp only [List.getElem?_toArray, List.getElem?_cons_zero, List.getElem?_cons_succ] at x0 x1 x2 x3 y0 y1 y2 y3 z0 z1 z2 z3 z4 i0 i1 i2 i3 i4
    have vx1 := his.b0.frozen 1
    have vx3 := his.b0.frozen 3
    have vy0 := his.b1.frozen 0
    have vy1 := his.b1.frozen 1
    have vy2 := his.b1.frozen 2
    have vy3 := his.b1.frozen 3
    have vz0 := his.b2.frozen 0
    have vz1 := his.b2.frozen 1
    have vz2 := his.b2.frozen 2
    have vz3 := his.b2.frozen 3
    have vz4 := his.b2.frozen 4
    have vi4 := his.b4.frozen 4
    clear his
    go_wp2_with fail
    have s1 := HSG.out w3 42 (by decide) HT3.out
    rw [decide_eq_false (show ¬ sg (T.drop p1) = UInt8.toNat 42 from n2)] at s1
    refine s1.mono ?_
    clear l0 l1 l2 l4 x0 x1 x2 x3 y0 y1 y2 y3 z0 z1 z2 z3 z4 i0 i1 i2 i3 i4 vx1 vx3 vy0 vy1 vy2 vy3 vz0 vz1 vz2 vz3 vz4 vi4
    rintro e w4 ⟨rfl, hb3⟩
    have his := HIS3.out.below hb3
    have ht := HT3.out.below hb3 HT3.out.lt
    have HIS4 := Lib.hid his
    have HT4 := Lib.hid ht
    clear s1 hb3 ht
    have l0 := his.b0.lt
    have l1 := his.b1.lt
    have l2 := his.b2.lt
    have l4 := his.b4.lt
    have x0 := his.b0.cell 0
    have x1 := his.b0.cell 1
    have x2 := his.b0.cell 2
    have x3 := his.b0.cell 3
    have y0 := his.b1.cell 0
    have y1 := his.b1.cell 1
    have y2 := his.b1.cell 2
    have y3 := his.b1.cell 3
    have z0 := his.b2.cell 0
    have z1 := his.b2.cell 1
    have z2 := his.b2.cell 2
    have z3 := his.b2.cell 3
    have z4 := his.b2.cell 4
    have i0 := his.b4.cell 0
    have i1 := his.b4.cell 1
    have i2 := his.b4.cell 2
    have i3 := his.b4.cell 3
    have i4 := his.b4.cell 4
    simp only [List.getElem?_toArray, List.getElem?_cons_zero, List.getElem?_cons_succ] at x0 x1 x2 x3 y0 y1 y2 y3 z0 z1 z2 z3 z4 i0 i1 i2 i3 i4
    have vx1 := his.b0.frozen 1
    have vx3 := his.b0.frozen 3
    have vy0 := his.b1.frozen 0
    have vy1 := his.b1.frozen 1
    have vy2 := his.b1.frozen 2
    have vy3 := his.b1.frozen 3
    have vz0 := his.b2.frozen 0
    have vz1 := his.b2.frozen 1
    have vz2 := his.b2.frozen 2
    have vz3 := his.b2.frozen 3
    have vz4 := his.b2.frozen 4
    have vi4 := his.b4.frozen 4
    clear his
    go_wp2_with fail
    have s1 := HSG.out w4 43 (by decide) HT4.out
    rw [decide_eq_false (show ¬ sg (T.drop p1) = UInt8.toNat 43 from n3)] at s1
    refine s1.mono ?_
    clear l0 l1 l2 l4 x0 x1 x2 x3 y0 y1 y2 y3 z0 z1 z2 z3 z4 i0 i1 i2 i3 i4 vx1 vx3 vy0 vy1 vy2 vy3 vz0 vz1 vz2 vz3 vz4 vi4
    rintro e w5 ⟨rfl, hb3⟩
    have his := HIS4.out.below hb3
    have ht := HT4.out.below hb3 HT4.out.lt
    have HIS5 := Lib.hid his
    have HT5 := Lib.hid ht
    clear s1 hb3 ht
    have l0 := his.b0.lt
    have l1 := his.b1.lt
    have l2 := his.b2.lt
    have l4 := his.b4.lt
    have x0 := his.b0.cell 0
    have x1 := his.b0.cell 1
    have x2 := his.b0.cell 2
    have x3 := his.b0.cell 3
    have y0 := his.b1.cell 0
    have y1 := his.b1.cell 1
    have y2 := his.b1.cell 2
    have y3 := his.b1.cell 3
    have z0 := his.b2.cell 0
    have z1 := his.b2.cell 1
    have z2 := his.b2.cell 2
    have z3 := his.b2.cell 3
    have z4 := his.b2.cell 4
    have i0 := his.b4.cell 0
    have i1 := his.b4.cell 1
    have i2 := his.b4.cell 2
    have i3 := his.b4.cell 3
    have i4 := his.b4.cell 4
    simp only [List.getElem?_toArray, List.getElem?_cons_zero, List.getElem?_cons_succ] at x0 x1 x2 x3 y0 y1 y2 y3 z0 z1 z2 z3 z4 i0 i1 i2 i3 i4
    have vx1 := his.b0.frozen 1
    have vx3 := his.b0.frozen 3
    have vy0 := his.b1.frozen 0
    have vy1 := his.b1.frozen 1
    have vy2 := his.b1.frozen 2
    have vy3 := his.b1.frozen 3
    have vz0 := his.b2.frozen 0
    have vz1 := his.b2.frozen 1
    have vz2 := his.b2.frozen 2
    have vz3 := his.b2.frozen 3
    have vz4 := his.b2.frozen 4
    have vi4 := his.b4.frozen 4
    clear his
    go_wp2_with fail
    go_region
    all_goals
      go_wp2
      have hke := kp_item_drew (w5) (w.heap.size + 1) (w.heap.size + 1 + 1) (.slice (some ⟨g, 0, none⟩) n cap) (.int .i64 p1) (.int .i64 d) (.int .i64 0) (.int .i64 P) (.int .i64 0) (.string (S X')) (.slice none 0 0) (.int .u8 0)
      refine bodyPost_ret (v := .tuple #[.agg #[.slice (some ⟨g, 0, none⟩) n cap, .int .i64 p1, .int .i64 d, .int .i64 0], .agg #[.int .i64 P, .int .i64 0, .string (S X'), .slice none 0 0, .int .u8 0]]) (by simp [results, Tryz.results52, go_sem, y0, y1, y2, y3, z0, z1, z2, z3, z4]) rfl ?_
      have hbe := HIS5.out.bel
      refine ⟨hbe.trans (hke.below hbe.size (fun i hi => by rcases hi with h | h <;> (rw [h]; omega))), ?_⟩
      rw [HO.out, ← HN.out]
      exact ⟨p1, _, rfl, ⟨.slice none 0 0, rfl, AltsAt.nil k _ _⟩, rfl, HGR.out, HM.out⟩
set_option maxRecDepth 100000 in
set_option maxHeartbeats 4000000 in
theorem ritem_quote (k : Nat) (hA : ∀ j, k = j + 1 → RAltsOk j) (w : World) (g cap p : Nat) (T : List Tok) (hk : k ≤ 16) (h : TAt w g cap T) (hg : Good (T.drop p)) (ha : atIt (hd (T.drop p)) = true) (t : Tok) (r : List Tok) (hd : T.drop p = t :: r) (k1 : ¬ t.kind = 1) (k2 : t.kind = 2) : Calls Tryz.prog 52 #[StV g T.length cap p (16 - k) 0] w (AnsR (ItmV k w.heap.size) ItmF g cap (16 - k) T ((T.drop p).length - 1) w (pItem (pSub k) (T.drop p))) := by
  obtain ⟨hlt, hgt, hdr⟩ := drop_lt hd
  obtain ⟨c0, c1, c2, c3⟩ := h.tok hd
  have hgl := h.lt
  have hlen := h.len
  have hcl := h.capl
  have hcm := h.capm
  have HT := Lib.hid h
  have HG := Lib.hid hg
  unfold maxLen at hcm
  rw [hd] at ha ⊢
  have hgr : Good (T.drop (p + 1)) := by rw [hdr]; rw [hd] at hg; exact hg.tail (by omega)
  have HR : Hid (pItem (pSub k) (t :: r) = .ok (.mk t.at_ 1 t.text [] (opOf r), opTl r)) := Lib.hid ((if_neg k1).trans (if_pos k2))
  generalize pItem (pSub k) (t :: r) = X at *
  unfold StV
  generalize 16 - k = d at *
  generalize hn : T.length = n at *
  have HN := Lib.hid hn
  replace c0 : w.cell? ⟨g, p * 4, none⟩ = some (.int .i64 2) := by rw [c0, k2]; rfl
  have hrl : (t :: r).length - 1 = r.length := rfl
  generalize (t :: r).length - 1 = m at *
  have hpc : ((p : Int) + 1) = ((p + 1 : Nat) : Int) := rfl
  obtain ⟨p1, hp1⟩ : ∃ p1, p + 1 = p1 := ⟨_, rfl⟩
  rw [hp1] at hpc hgr hdr
  have HPC := Lib.hid hpc
  have HGR := Lib.hid hgr
  have hp1n : p1 ≤ n := by omega
  have HX : Hid (X = .ok (.mk t.at_ 1 t.text [] (opOf (T.drop p1)), opTl (T.drop p1))) := Lib.hid (by rw [hdr]; exact HR.out)
  have HM : Hid ((T.drop p1).length ≤ m) := Lib.hid (by rw [hdr, hrl]; exact Nat.le_refl _)
  obtain ⟨K, P, X', F⟩ := t
  have e0 := cell3 c0 hgl
  have e1 := cell3 c1 hgl
  have e2 := cell3 c2 hgl
  have e3 := cell3 c3 hgl
  clear c0 c1 c2 c3 ha hg hgr k1 k2 hA h hn hpc HR hrl
  go_enter Tryz.func52, Tryz.ntmps52
  go_wp2_with fail
  rw [HPC.out]
  have his := ISt.new w #[.slice (some ⟨g, 0, none⟩) n cap, .int .i64 p1, .int .i64 d, .int .i64 0] #[.int .i64 P, .int .i64 1, .string (S X'), .slice none 0 0, .int .u8 0] #[.int .i64 2, .int .i64 P, .string (S X'), .float .f64 F]
  have ht2 := HT.out.below his.bel hgl
  generalize ((((w.alloc (.cells #[.slice (some ⟨g, 0, none⟩) n cap, .int .i64 p1, .int .i64 d, .int .i64 0] 59)).alloc (.cells #[.slice none 0 0, .int .i64 0, .int .i64 0, .int .i64 0] 59)).alloc (.cells #[.int .i64 0, .int .i64 0, .string ⟨#[]⟩, .slice none 0 0, .int .u8 0] 70)).alloc (.cells #[.int .i64 2, .int .i64 P, .string (S X'), .float .f64 F] 61)).alloc (.cells #[.int .i64 P, .int .i64 1, .string (S X'), .slice none 0 0, .int .u8 0] 70) = w2 at *
  have HIS := Lib.hid his
  have HT2 := Lib.hid ht2
  clear his ht2 e0 e1 e2 e3
  have HSG := Lib.hid (fun w c hc h => rsign_any w g cap p1 d 0 T c hc h HGR.out)
  rw [HN.out] at HSG
  unfold StV at HSG
  by_cases ho : isOp (sg (T.drop p1)) = true
  · obtain ⟨ho0, ho1⟩ := isOp_le ho
    have hoy := op_yes ho
    obtain ⟨t2, r2, hd2, hst, hgr2⟩ := HGR.out.sg_tail ho0
    obtain ⟨hp2, _, hdr2⟩ := drop_lt hd2
    rw [HN.out] at hp2
    have hk4 : t2.kind = 4 := by
      by_cases h4 : t2.kind = 4
      · exact h4
      · unfold sgOf at hst
        rw [if_neg h4] at hst
        omega
    obtain ⟨c', hT2⟩ := HGR.out.sign' hd2 hk4
    have hcs : sg (T.drop p1) = c'.toNat := by
      rw [← hst]
      unfold sgOf
      rw [if_pos hk4, hT2]
      rfl
    have HO : Hid (X = .ok (.mk P 1 X' [] c'.toNat, T.drop (p1 + 1))) := Lib.hid (by rw [HX.out, hoy.1, hoy.2, hcs, hd2, hdr2]; rfl)
    have HG2 : Hid (Good (T.drop (p1 + 1))) := Lib.hid (by rw [hdr2]; exact hgr2)
    have HM2 : Hid ((T.drop (p1 + 1)).length ≤ m) := Lib.hid (by have := HM.out; rw [hd2] at this; rw [hdr2]; simp at this; omega)
    clear hoy hst hk4 hgr2 hdr2 ho ho0
    obtain ⟨K2, P2, X2, F2⟩ := t2
    have hT2 : X2 = [c'] := hT2
    rcases ho1 with h63 | h42 | h43
    · have s1 := HSG.out w2 63 (by decide) HT2.out
      rw [decide_eq_true (show sg (T.drop p1) = UInt8.toNat 63 from h63)] at s1
      refine s1.mono ?_
      rintro e w3 ⟨rfl, hb3⟩
      have his := HIS.out.below hb3
      have ht := HT2.out.below hb3 HT2.out.lt
      have HIS3 := Lib.hid his
      have HT3 := Lib.hid ht
      clear s1 hb3 ht
      obtain ⟨q0, q1, q2, q3⟩ := HT3.out.tok hd2
      have hg5 := HT3.out.lt
      have hs1 : (S [c']).size = 1 := rfl
      have hs2 : (S [c'])[0].toNat = c'.toNat := rfl
      rw [hT2] at q2
      have l0 := his.b0.lt
      have l1 := his.b1.lt
      have l2 := his.b2.lt
      have l4 := his.b4.lt
      have x0 := his.b0.cell 0
      have x1 := his.b0.cell 1
      have x2 := his.b0.cell 2
      have x3 := his.b0.cell 3
      have y0 := his.b1.cell 0
      have y1 := his.b1.cell 1
      have y2 := his.b1.cell 2
      have y3 := his.b1.cell 3
      have z0 := his.b2.cell 0
      have z1 := his.b2.cell 1
      have z2 := his.b2.cell 2
      have z3 := his.b2.cell 3
      have z4 := his.b2.cell 4
      have i0 := his.b4.cell 0
      have i1 := his.b4.cell 1
      have i2 := his.b4.cell 2
      have i3 := his.b4.cell 3
      have i4 := his.b4.cell 4
      simp only [List.getElem?_toArray, List.getElem?_cons_zero, List.getElem?_cons_succ] at x0 x1 x2 x3 y0 y1 y2 y3 z0 z1 z2 z3 z4 i0 i1 i2 i3 i4
      have vx1 := his.b0.frozen 1
      have vx3 := his.b0.frozen 3
      have vy0 := his.b1.frozen 0
      have vy1 := his.b1.frozen 1
      have vy2 := his.b1.frozen 2
      have vy3 := his.b1.frozen 3
      have vz0 := his.b2.frozen 0
      have vz1 := his.b2.frozen 1
      have vz2 := his.b2.frozen 2
      have vz3 := his.b2.frozen 3
      have vz4 := his.b2.frozen 4
      have vi4 := his.b4.frozen 4
      clear his
      go_wp2_with fail
      go_region
      all_goals
        go_wp2
        have hke := kp_item_drew (((w3.setCell ⟨w.heap.size + 1 + 1 + 1 + 1, 4, none⟩ (.int .u8 c'.toNat)).setCell ⟨w.heap.size, 1, none⟩ (.int .i64 ((p1 : Int) + 1)))) (w.heap.size + 1) (w.heap.size + 1 + 1) (.slice (some ⟨g, 0, none⟩) n cap) (.int .i64 ((p1 : Int) + 1)) (.int .i64 d) (.int .i64 0) (.int .i64 P) (.int .i64 1) (.string (S X')) (.slice none 0 0) (.int .u8 c'.toNat)
        refine bodyPost_ret (v := .tuple #[.agg #[.slice (some ⟨g, 0, none⟩) n cap, .int .i64 ((p1 : Int) + 1), .int .i64 d, .int .i64 0], .agg #[.int .i64 P, .int .i64 1, .string (S X'), .slice none 0 0, .int .u8 c'.toNat]]) (by simp [results, Tryz.results52, go_sem, y0, y1, y2, y3, z0, z1, z2, z3, z4]) rfl ?_
        have hbe := op_bel (w.heap.size + 1 + 1 + 1 + 1) w.heap.size (.int .u8 c'.toNat) (.int .i64 ((p1 : Int) + 1)) HIS3.out.bel (by omega) (Nat.le_refl _)
        refine ⟨hbe.trans (hke.below hbe.size (fun i hi => by rcases hi with h | h <;> (rw [h]; omega))), ?_⟩
        rw [HO.out, ← HN.out]
        exact ⟨p1 + 1, _, rfl, ⟨.slice none 0 0, rfl, AltsAt.nil k _ _⟩, rfl, HG2.out, HM2.out⟩

    · have s1 := HSG.out w2 63 (by decide) HT2.out
      rw [decide_eq_false (show ¬ sg (T.drop p1) = UInt8.toNat 63 from (by rw [h42]; decide))] at s1
      refine s1.mono ?_
      rintro e w3 ⟨rfl, hb3⟩
      have his := HIS.out.below hb3
      have ht := HT2.out.below hb3 HT2.out.lt
      have HIS3 := Lib.hid his
      have HT3 := Lib.hid ht
      clear s1 hb3 ht
      have l0 := his.b0.lt
      have l1 := his.b1.lt
      have l2 := his.b2.lt
      have l4 := his.b4.lt
      have x0 := his.b0.cell 0
      have x1 := his.b0.cell 1
      have x2 := his.b0.cell 2
      have x3 := his.b0.cell 3
      have y0 := his.b1.cell 0
      have y1 := his.b1.cell 1
      have y2 := his.b1.cell 2
      have y3 := his.b1.cell 3
      have z0 := his.b2.cell 0
      have z1 := his.b2.cell 1
      have z2 := his.b2.cell 2
      have z3 := his.b2.cell 3
      have z4 := his.b2.cell 4
      have i0 := his.b4.cell 0
      have i1 := his.b4.cell 1
      have i2 := his.b4.cell 2
      have i3 := his.b4.cell 3
      have i4 := his.b4.cell 4
      simp only [List.getElem?_toArray, List.getElem?_cons_zero, List.getElem?_cons_succ] at x0 x1 x2 x3 y0 y1 y2 y3 z0 z1 z2 z3 z4 i0 i1 i2 i3 i4
      have vx1 := his.b0.frozen 1
      have vx3 := his.b0.frozen 3
      have vy0 := his.b1.frozen 0
      have vy1 := his.b1.frozen 1
      have vy2 := his.b1.frozen 2
      have vy3 := his.b1.frozen 3
      have vz0 := his.b2.frozen 0
      have vz1 := his.b2.frozen 1
      have vz2 := his.b2.frozen 2
      have vz3 := his.b2.frozen 3
      have vz4 := his.b2.frozen 4
      have vi4 := his.b4.frozen 4
      clear his
      go_wp2_with fail
      have s1 := HSG.out w3 42 (by decide) HT3.out
      rw [decide_eq_true (show sg (T.drop p1) = UInt8.toNat 42 from h42)] at s1
      refine s1.mono ?_
      clear l0 l1 l2 l4 x0 x1 x2 x3 y0 y1 y2 y3 z0 z1 z2 z3 z4 i0 i1 i2 i3 i4 vx1 vx3 vy0 vy1 vy2 vy3 vz0 vz1 vz2 vz3 vz4 vi4
      rintro e w4 ⟨rfl, hb3⟩
      have his := HIS3.out.below hb3
      have ht := HT3.out.below hb3 HT3.out.lt
      have HIS4 := Lib.hid his
      have HT4 := Lib.hid ht
      clear s1 hb3 ht
      obtain ⟨q0, q1, q2, q3⟩ := HT4.out.tok hd2
      have hg5 := HT4.out.lt
      have hs1 : (S [c']).size = 1 := rfl
      have hs2 : (S [c'])[0].toNat = c'.toNat := rfl
      rw [hT2] at q2
      have l0 := his.b0.lt
      have l1 := his.b1.lt
      have l2 := his.b2.lt
      have l4 := his.b4.lt
      have x0 := his.b0.cell 0
      have x1 := his.b0.cell 1
      have x2 := his.b0.cell 2
      have x3 := his.b0.cell 3
      have y0 := his.b1.cell 0
      have y1 := his.b1.cell 1
      have y2 := his.b1.cell 2
      have y3 := his.b1.cell 3
      have z0 := his.b2.cell 0
      have z1 := his.b2.cell 1
      have z2 := his.b2.cell 2
      have z3 := his.b2.cell 3
      have z4 := his.b2.cell 4
      have i0 := his.b4.cell 0
      have i1 := his.b4.cell 1
      have i2 := his.b4.cell 2
      have i3 := his.b4.cell 3
      have i4 := his.b4.cell 4
      simp only [List.getElem?_toArray, List.getElem?_cons_zero, List.getElem?_cons_succ] at x0 x1 x2 x3 y0 y1 y2 y3 z0 z1 z2 z3 z4 i0 i1 i2 i3 i4
      have vx1 := his.b0.frozen 1
      have vx3 := his.b0.frozen 3
      have vy0 := his.b1.frozen 0
      have vy1 := his.b1.frozen 1
      have vy2 := his.b1.frozen 2
      have vy3 := his.b1.frozen 3
      have vz0 := his.b2.frozen 0
      have vz1 := his.b2.frozen 1
      have vz2 := his.b2.frozen 2
      have vz3 := his.b2.frozen 3
      have vz4 := his.b2.frozen 4
      have vi4 := his.b4.frozen 4
      clear his
      go_wp2_with fail
      go_region
      all_goals
        go_wp2
        have hke := kp_item_drew (((w4.setCell ⟨w.heap.size + 1 + 1 + 1 + 1, 4, none⟩ (.int .u8 c'.toNat)).setCell ⟨w.heap.size, 1, none⟩ (.int .i64 ((p1 : Int) + 1)))) (w.heap.size + 1) (w.heap.size + 1 + 1) (.slice (some ⟨g, 0, none⟩) n cap) (.int .i64 ((p1 : Int) + 1)) (.int .i64 d) (.int .i64 0) (.int .i64 P) (.int .i64 1) (.string (S X')) (.slice none 0 0) (.int .u8 c'.toNat)
        refine bodyPost_ret (v := .tuple #[.agg #[.slice (some ⟨g, 0, none⟩) n cap, .int .i64 ((p1 : Int) + 1), .int .i64 d, .int .i64 0], .agg #[.int .i64 P, .int .i64 1, .string (S X'), .slice none 0 0, .int .u8 c'.toNat]]) (by simp [results, Tryz.results52, go_sem, y0, y1, y2, y3, z0, z1, z2, z3, z4]) rfl ?_
        have hbe := op_bel (w.heap.size + 1 + 1 + 1 + 1) w.heap.size (.int .u8 c'.toNat) (.int .i64 ((p1 : Int) + 1)) HIS4.out.bel (by omega) (Nat.le_refl _)
        refine ⟨hbe.trans (hke.below hbe.size (fun i hi => by rcases hi with h | h <;> (rw [h]; omega))), ?_⟩
        rw [HO.out, ← HN.out]
        exact ⟨p1 + 1, _, rfl, ⟨.slice none 0 0, rfl, AltsAt.nil k _ _⟩, rfl, HG2.out, HM2.out⟩

    · have s1 := HSG.out w2 63 (by decide) HT2.out
      rw [decide_eq_false (show ¬ sg (T.drop p1) = UInt8.toNat 63 from (by rw [h43]; decide))] at s1
      refine s1.mono ?_
      rintro e w3 ⟨rfl, hb3⟩
      have his := HIS.out.below hb3
      have ht := HT2.out.below hb3 HT2.out.lt
      have HIS3 := Lib.hid his
      have HT3 := Lib.hid ht
      clear s1 hb3 ht
      have l0 := his.b0.lt
      have l1 := his.b1.lt
      have l2 := his.b2.lt
      have l4 := his.b4.lt
      have x0 := his.b0.cell 0
      have x1 := his.b0.cell 1
      have x2 := his.b0.cell 2
      have x3 := his.b0.cell 3
      have y0 := his.b1.cell 0
      have y1 := his.b1.cell 1
      have y2 := his.b1.cell 2
      have y3 := his.b1.cell 3
      have z0 := his.b2.cell 0
      have z1 := his.b2.cell 1
      have z2 := his.b2.cell 2
      have z3 := his.b2.cell 3
      have z4 := his.b2.cell 4
      have i0 := his.b4.cell 0
      have i1 := his.b4.cell 1
      have i2 := his.b4.cell 2
      have i3 := his.b4.cell 3
      have i4 := his.b4.cell 4
      simp only [List.getElem?_toArray, List.getElem?_cons_zero, List.getElem?_cons_succ] at x0 x1 x2 x3 y0 y1 y2 y3 z0 z1 z2 z3 z4 i0 i1 i2 i3 i4
      have vx1 := his.b0.frozen 1
      have vx3 := his.b0.frozen 3
      have vy0 := his.b1.frozen 0
      have vy1 := his.b1.frozen 1
      have vy2 := his.b1.frozen 2
      have vy3 := his.b1.frozen 3
      have vz0 := his.b2.frozen 0
      have vz1 := his.b2.frozen 1
      have vz2 := his.b2.frozen 2
      have vz3 := his.b2.frozen 3
      have vz4 := his.b2.frozen 4
      have vi4 := his.b4.frozen 4
      clear his
      go_wp2_with fail
      have s1 := HSG.out w3 42 (by decide) HT3.out
      rw [decide_eq_false (show ¬ sg (T.drop p1) = UInt8.toNat 42 from (by rw [h43]; decide))] at s1
      refine s1.mono ?_
      clear l0 l1 l2 l4 x0 x1 x2 x3 y0 y1 y2 y3 z0 z1 z2 z3 z4 i0 i1 i2 i3 i4 vx1 vx3 vy0 vy1 vy2 vy3 vz0 vz1 vz2 vz3 vz4 vi4
      rintro e w4 ⟨rfl, hb3⟩
      have his := HIS3.out.below hb3
      have ht := HT3.out.below hb3 HT3.out.lt
      have HIS4 := Lib.hid his
      have HT4 := Lib.hid ht
      clear s1 hb3 ht
      have l0 := his.b0.lt
      have l1 := his.b1.lt
      have l2 := his.b2.lt
      have l4 := his.b4.lt
      have x0 := his.b0.cell 0
      have x1 := his.b0.cell 1
      have x2 := his.b0.cell 2
      have x3 := his.b0.cell 3
      have y0 := his.b1.cell 0
      have y1 := his.b1.cell 1
      have y2 := his.b1.cell 2
      have y3 := his.b1.cell 3
      have z0 := his.b2.cell 0
      have z1 := his.b2.cell 1
      have z2 := his.b2.cell 2
      have z3 := his.b2.cell 3
      have z4 := his.b2.cell 4
      have i0 := his.b4.cell 0
      have i1 := his.b4.cell 1
      have i2 := his.b4.cell 2
      have i3 := his.b4.cell 3
      have i4 := his.b4.cell 4
      simp only [List.getElem?_toArray, List.getElem?_cons_zero, List.getElem?_cons_succ] at x0 x1 x2 x3 y0 y1 y2 y3 z0 z1 z2 z3 z4 i0 i1 i2 i3 i4
      have vx1 := his.b0.frozen 1
      have vx3 := his.b0.frozen 3
      have vy0 := his.b1.frozen 0
      have vy1 := his.b1.frozen 1
      have vy2 := his.b1.frozen 2
      have vy3 := his.b1.frozen 3
      have vz0 := his.b2.frozen 0
      have vz1 := his.b2.frozen 1
      have vz2 := his.b2.frozen 2
      have vz3 := his.b2.frozen 3
      have vz4 := his.b2.frozen 4
      have vi4 := his.b4.frozen 4
      clear his
      go_wp2_with fail
      have s1 := HSG.out w4 43 (by decide) HT4.out
      rw [decide_eq_true (show sg (T.drop p1) = UInt8.toNat 43 from h43)] at s1
      refine s1.mono ?_
      clear l0 l1 l2 l4 x0 x1 x2 x3 y0 y1 y2 y3 z0 z1 z2 z3 z4 i0 i1 i2 i3 i4 vx1 vx3 vy0 vy1 vy2 vy3 vz0 vz1 vz2 vz3 vz4 vi4
      rintro e w5 ⟨rfl, hb3⟩
      have his := HIS4.out.below hb3
      have ht := HT4.out.below hb3 HT4.out.lt
      have HIS5 := Lib.hid his
      have HT5 := Lib.hid ht
      clear s1 hb3 ht
      obtain ⟨q0, q1, q2, q3⟩ := HT5.out.tok hd2
      have hg5 := HT5.out.lt
      have hs1 : (S [c']).size = 1 := rfl
      have hs2 : (S [c'])[0].toNat = c'.toNat := rfl
      rw [hT2] at q2
      have l0 := his.b0.lt
      have l1 := his.b1.lt
      have l2 := his.b2.lt
      have l4 := his.b4.lt
      have x0 := his.b0.cell 0
      have x1 := his.b0.cell 1
      have x2 := his.b0.cell 2
      have x3 := his.b0.cell 3
      have y0 := his.b1.cell 0
      have y1 := his.b1.cell 1
      have y2 := his.b1.cell 2
      have y3 := his.b1.cell 3
      have z0 := his.b2.cell 0
      have z1 := his.b2.cell 1
      have z2 := his.b2.cell 2
      have z3 := his.b2.cell 3
      have z4 := his.b2.cell 4
      have i0 := his.b4.cell 0
      have i1 := his.b4.cell 1
      have i2 := his.b4.cell 2
      have i3 := his.b4.cell 3
      have i4 := his.b4.cell 4
      simp only [List.getElem?_toArray, List.getElem?_cons_zero, List.getElem?_cons_succ] at x0 x1 x2 x3 y0 y1 y2 y3 z0 z1 z2 z3 z4 i0 i1 i2 i3 i4
      have vx1 := his.b0.frozen 1
      have vx3 := his.b0.frozen 3
      have vy0 := his.b1.frozen 0
      have vy1 := his.b1.frozen 1
      have vy2 := his.b1.frozen 2
      have vy3 := his.b1.frozen 3
      have vz0 := his.b2.frozen 0
      have vz1 := his.b2.frozen 1
      have vz2 := his.b2.frozen 2
      have vz3 := his.b2.frozen 3
      have vz4 := his.b2.frozen 4
      have vi4 := his.b4.frozen 4
      clear his
      go_wp2_with fail
      go_region
      all_goals
        go_wp2
        have hke := kp_item_drew (((w5.setCell ⟨w.heap.size + 1 + 1 + 1 + 1, 4, none⟩ (.int .u8 c'.toNat)).setCell ⟨w.heap.size, 1, none⟩ (.int .i64 ((p1 : Int) + 1)))) (w.heap.size + 1) (w.heap.size + 1 + 1) (.slice (some ⟨g, 0, none⟩) n cap) (.int .i64 ((p1 : Int) + 1)) (.int .i64 d) (.int .i64 0) (.int .i64 P) (.int .i64 1) (.string (S X')) (.slice none 0 0) (.int .u8 c'.toNat)
        refine bodyPost_ret (v := .tuple #[.agg #[.slice (some ⟨g, 0, none⟩) n cap, .int .i64 ((p1 : Int) + 1), .int .i64 d, .int .i64 0], .agg #[.int .i64 P, .int .i64 1, .string (S X'), .slice none 0 0, .int .u8 c'.toNat]]) (by simp [results, Tryz.results52, go_sem, y0, y1, y2, y3, z0, z1, z2, z3, z4]) rfl ?_
        have hbe := op_bel (w.heap.size + 1 + 1 + 1 + 1) w.heap.size (.int .u8 c'.toNat) (.int .i64 ((p1 : Int) + 1)) HIS5.out.bel (by omega) (Nat.le_refl _)
        refine ⟨hbe.trans (hke.below hbe.size (fun i hi => by rcases hi with h | h <;> (rw [h]; omega))), ?_⟩
        rw [HO.out, ← HN.out]
        exact ⟨p1 + 1, _, rfl, ⟨.slice none 0 0, rfl, AltsAt.nil k _ _⟩, rfl, HG2.out, HM2.out⟩

  · obtain ⟨n1, n2, n3⟩ := isOp_no ho
    have hoy := op_no ho
    have HO : Hid (X = .ok (.mk P 1 X' [] 0, T.drop p1)) := Lib.hid (by rw [HX.out, hoy.1, hoy.2])
    clear hoy ho
    have s1 := HSG.out w2 63 (by decide) HT2.out
    rw [decide_eq_false (show ¬ sg (T.drop p1) = UInt8.toNat 63 from n1)] at s1
    refine s1.mono ?_
    rintro e w3 ⟨rfl, hb3⟩
    have his := HIS.out.below hb3
    have ht := HT2.out.below hb3 HT2.out.lt
    have HIS3 := Lib.hid his
    have HT3 := Lib.hid ht
    clear s1 hb3 ht
    have l0 := his.b0.lt
    have l1 := his.b1.lt
    have l2 := his.b2.lt
    have l4 := his.b4.lt
    have x0 := his.b0.cell 0
    have x1 := his.b0.cell 1
    have x2 := his.b0.cell 2
    have x3 := his.b0.cell 3
    have y0 := his.b1.cell 0
    have y1 := his.b1.cell 1
    have y2 := his.b1.cell 2
    have y3 := his.b1.cell 3
    have z0 := his.b2.cell 0
    have z1 := his.b2.cell 1
    have z2 := his.b2.cell 2
    have z3 := his.b2.cell 3
    have z4 := his.b2.cell 4
    have i0 := his.b4.cell 0
    have i1 := his.b4.cell 1
    have i2 := his.b4.cell 2
    have i3 := his.b4.cell 3
    have i4 := his.b4.cell 4
    simp only [List.getElem?_toArray, List.getElem?_cons_zero, List.getElem?_cons_succ] at x0 x1 x2 x3 y0 y1 y2 y3 z0 z1 z2 z3 z4 i0 i1 i2 i3 i4
    have vx1 := his.b0.frozen 1
    have vx3 := his.b0.frozen 3
    have vy0 := his.b1.frozen 0
    have vy1 := his.b1.frozen 1
    have vy2 := his.b1.frozen 2
    have vy3 := his.b1.frozen 3
    have vz0 := his.b2.frozen 0
    have vz1 := his.b2.frozen 1
    have vz2 := his.b2.frozen 2
    have vz3 := his.b2.frozen 3
    have vz4 := his.b2.frozen 4
    have vi4 := his.b4.frozen 4
    clear his
    go_wp2_with fail
    have s1 := HSG.out w3 42 (by decide) HT3.out
    rw [decide_eq_false (show ¬ sg (T.drop p1) = UInt8.toNat 42 from n2)] at s1
    refine s1.mono ?_
    clear l0 l1 l2 l4 x0 x1 x2 x3 y0 y1 y2 y3 z0 z1 z2 z3 z4 i0 i1 i2 i3 i4 vx1 vx3 vy0 vy1 vy2 vy3 vz0 vz1 vz2 vz3 vz4 vi4
    rintro e w4 ⟨rfl, hb3⟩
    have his := HIS3.out.below hb3
    have ht := HT3.out.below hb3 HT3.out.lt
    have HIS4 := Lib.hid his
    have HT4 := Lib.hid ht
    clear s1 hb3 ht
    have l0 := his.b0.lt
    have l1 := his.b1.lt
    have l2 := his.b2.lt
    have l4 := his.b4.lt
    have x0 := his.b0.cell 0
    have x1 := his.b0.cell 1
    have x2 := his.b0.cell 2
    have x3 := his.b0.cell 3
    have y0 := his.b1.cell 0
    have y1 := his.b1.cell 1
    have y2 := his.b1.cell 2
    have y3 := his.b1.cell 3
    have z0 := his.b2.cell 0
    have z1 := his.b2.cell 1
    have z2 := his.b2.cell 2
    have z3 := his.b2.cell 3
    have z4 := his.b2.cell 4
    have i0 := his.b4.cell 0
    have i1 := his.b4.cell 1
    have i2 := his.b4.cell 2
    have i3 := his.b4.cell 3
    have i4 := his.b4.cell 4
    simp only [List.getElem?_toArray, List.getElem?_cons_zero, List.getElem?_cons_succ] at x0 x1 x2 x3 y0 y1 y2 y3 z0 z1 z2 z3 z4 i0 i1 i2 i3 i4
    have vx1 := his.b0.frozen 1
    have vx3 := his.b0.frozen 3
    have vy0 := his.b1.frozen 0
    have vy1 := his.b1.frozen 1
    have vy2 := his.b1.frozen 2
    have vy3 := his.b1.frozen 3
    have vz0 := his.b2.frozen 0
    have vz1 := his.b2.frozen 1
    have vz2 := his.b2.frozen 2
    have vz3 := his.b2.frozen 3
    have vz4 := his.b2.frozen 4
    have vi4 := his.b4.frozen 4
    clear his
    go_wp2_with fail
    have s1 := HSG.out w4 43 (by decide) HT4.out
    rw [decide_eq_false (show ¬ sg (T.drop p1) = UInt8.toNat 43 from n3)] at s1
    refine s1.mono ?_
    clear l0 l1 l2 l4 x0 x1 x2 x3 y0 y1 y2 y3 z0 z1 z2 z3 z4 i0 i1 i2 i3 i4 vx1 vx3 vy0 vy1 vy2 vy3 vz0 vz1 vz2 vz3 vz4 vi4
    rintro e w5 ⟨rfl, hb3⟩
    have his := HIS4.out.below hb3
    have ht := HT4.out.below hb3 HT4.out.lt
    have HIS5 := Lib.hid his
    have HT5 := Lib.hid ht
    clear s1 hb3 ht
    have l0 := his.b0.lt
    have l1 := his.b1.lt
    have l2 := his.b2.lt
    have l4 := his.b4.lt
    have x0 := his.b0.cell 0
    have x1 := his.b0.cell 1
    have x2 := his.b0.cell 2
    have x3 := his.b0.cell 3
    have y0 := his.b1.cell 0
    have y1 := his.b1.cell 1
    have y2 := his.b1.cell 2
    have y3 := his.b1.cell 3
    have z0 := his.b2.cell 0
    have z1 := his.b2.cell 1
    have z2 := his.b2.cell 2
    have z3 := his.b2.cell 3
    have z4 := his.b2.cell 4
    have i0 := his.b4.cell 0
    have i1 := his.b4.cell 1
    have i2 := his.b4.cell 2
    have i3 := his.b4.cell 3
    have i4 := his.b4.cell 4
    simp only [List.getElem?_toArray, List.getElem?_cons_zero, List.getElem?_cons_succ] at x0 x1 x2 x3 y0 y1 y2 y3 z0 z1 z2 z3 z4 i0 i1 i2 i3 i4
    have vx1 := his.b0.frozen 1
    have vx3 := his.b0.frozen 3
    have vy0 := his.b1.frozen 0
    have vy1 := his.b1.frozen 1
    have vy2 := his.b1.frozen 2
    have vy3 := his.b1.frozen 3
    have vz0 := his.b2.frozen 0
    have vz1 := his.b2.frozen 1
    have vz2 := his.b2.frozen 2
    have vz3 := his.b2.frozen 3
    have vz4 := his.b2.frozen 4
    have vi4 := his.b4.frozen 4
    clear his
    go_wp2_with fail
    go_region
    all_goals
      go_wp2
      have hke := kp_item_drew (w5) (w.heap.size + 1) (w.heap.size + 1 + 1) (.slice (some ⟨g, 0, none⟩) n cap) (.int .i64 p1) (.int .i64 d) (.int .i64 0) (.int .i64 P) (.int .i64 1) (.string (S X')) (.slice none 0 0) (.int .u8 0)
      refine bodyPost_ret (v := .tuple #[.agg #[.slice (some ⟨g, 0, none⟩) n cap, .int .i64 p1, .int .i64 d, .int .i64 0], .agg #[.int .i64 P, .int .i64 1, .string (S X'), .slice none 0 0, .int .u8 0]]) (by simp [results, Tryz.results52, go_sem, y0, y1, y2, y3, z0, z1, z2, z3, z4]) rfl ?_
      have hbe := HIS5.out.bel
      refine ⟨hbe.trans (hke.below hbe.size (fun i hi => by rcases hi with h | h <;> (rw [h]; omega))), ?_⟩
      rw [HO.out, ← HN.out]
      exact ⟨p1, _, rfl, ⟨.slice none 0 0, rfl, AltsAt.nil k _ _⟩, rfl, HGR.out, HM.out⟩
end Go.Proofs.YtdddbkghleblhaaGreatDoor.lx

import Derived.Test.YtldamieigigncaaGreatDoorVcam
import Derived.Test.YtldamieigigncaaGreatDoorVcan
namespace Go.Proofs.YtldamieigigncaaGreatDoor.lx
open Go.ChangeShapes Go.WideShapes Go.ChangeAt Go.RowKit
set_option linter.unusedVariables false
attribute [local go_sem] run_store_float
def termP (l : Ld) (x : List UInt8) (p : Nat) : LR (Ld × Int) :=
  if x ∈ l.terms then .ok (l, (l.terms.idxOf x : Int))
  else if l.terms.length = 64 then .error (7, p)
  else .ok ({ l with terms := l.terms ++ [x] }, (l.terms.length : Int))
def SymV (X : Nat → Prop) (gl B N : Nat) (tv vv rv av : Value) (w : World) (x : LR (Ld × Int)) (e : Ending) (w' : World) : Prop := match x with
  | .error q => e = .panicked [{ v := WrongG q.1 q.2, recovered := false }] ∧ Below B w w'
  | .ok (l', s) => e = .returned (.int .i64 s) ∧ ∃ tv' vv' rv' av', LdW X gl B N tv' vv' rv' av' l' w' ∧ LdK gl tv vv rv av tv' vv' rv' av' w w'
theorem LdW.size {X : Nat → Prop} {gl B N : Nat} {tv vv rv av : Value} {l : Ld} {w : World} (h : LdW X gl B N tv vv rv av l w) : B ≤ w.heap.size := by
  have := h.ge
  have := h.box.lt
  omega
theorem one_str (x : List UInt8) : ∀ z ∈ [sv x], z.oneCell' = true := by
  intro z hz
  rw [List.mem_singleton.1 hz]
  rfl
set_option maxRecDepth 100000 in
set_option maxHeartbeats 4000000 in
theorem term_any {X : Nat → Prop} {gl B N : Nat} {tv vv rv av : Value} {l : Ld} {w : World} (h : LdW X gl B N tv vv rv av l w) (h64 : l.terms.length ≤ 64) (p K : Nat) (T : List UInt8) (ao : Option Addr) (n c o : Nat) : Calls Tryz.prog 123 #[.pointer (some ⟨gl, 0, none⟩), .agg #[.int .i64 p, .int .i64 K, .string (S T), .slice ao n c, .int .u8 o]] w fun e w' => SymV X gl B N tv vv rv av w (termP l T p) e w' := by
  obtain ⟨tbo, tc, rfl⟩ := own_form h.ts
  have hw1 := h.below ((Below.refl _ w).alloc (Nat.le_refl _) (.cells #[.int .i64 p, .int .i64 K, .string (S T), .slice ao n c, .int .u8 o] 126))
  have hk1 : LdK gl (.slice tbo l.terms.length tc) vv rv av (.slice tbo l.terms.length tc) vv rv av w (w.alloc (.cells #[.int .i64 p, .int .i64 K, .string (S T), .slice ao n c, .int .u8 o] 126)) := LdK.of_below ((Below.refl _ w).alloc (Nat.le_refl _) _)
  have b1 := Blk.new w 126 #[.int .i64 p, .int .i64 K, .string (S T), .slice ao n c, .int .u8 o]
  have hb1 : Below B w (w.alloc (.cells #[.int .i64 p, .int .i64 K, .string (S T), .slice ao n c, .int .u8 o] 126)) := (Below.refl _ _).alloc h.size _
  have HZ := Lib.hid h.size
  have HP : Hid (termP l T p = if T ∈ l.terms then .ok (l, (l.terms.idxOf T : Int)) else if l.terms.length = 64 then .error (7, p) else .ok ({ l with terms := l.terms ++ [T] }, (l.terms.length : Int))) := Lib.hid rfl
  have HIX : Hid (idxI l.terms T = if T ∈ l.terms then (l.terms.idxOf T : Int) else -1) := Lib.hid rfl
  generalize hm : l.terms.length = m at *
  have HM := Lib.hid hm
  clear h hm
  generalize hX : termP l T p = X at *
  clear hX
  go_enter Tryz.func123, Tryz.ntmps123
  go_upto_region 1 with fail
  generalize w.alloc (.cells #[.int .i64 p, .int .i64 K, .string (S T), .slice ao n c, .int .u8 o] 126) = w1 at *
  have c0 : w1.cell? ⟨gl, 0, none⟩ = some (.slice tbo m tc) := hw1.box.cell 0
  have t2 : w1.cell? ⟨w.heap.size, 2, none⟩ = some (.string (S T)) := b1.cell 2
  have t0 : w1.cell? ⟨w.heap.size, 0, none⟩ = some (.int .i64 p) := b1.cell 0
  have lg := hw1.box.lt
  have lb := b1.lt
  have HIN := Lib.hid (fun wx (hx : Below w1.heap.size w1 wx) => index_any wx _ (.slice tbo m tc) l.terms T (strs_of (by rw [HM.out]; exact (hw1.below hx).ts |> fun h => by rw [HM.out] at h; exact h)))
  have HW1 := Lib.hid hw1
  have HK1 := Lib.hid hk1
  have HB1 := Lib.hid hb1
  have B1 := Lib.hid b1
  clear hw1 hk1 hb1 b1
  refine wp_region_E (fun W => Below w1.heap.size w1 W) [] (by kernel_rfl) ?_
  change anyE _ _ _ _ _ _ _ _ _ (World.drew _)
  have HS : Below w1.heap.size w1 (World.drew w1) := (Below.refl _ _).drew
  refine anyE_take (i := 0) (v := ?_) rfl (by kernel_rfl) (by kernel_rfl) (by kernel_rfl) (by kernel_rfl) (by kernel_rfl) (fun _ _ _ h => h) (Or.inl ⟨by kernel_rfl, ?_⟩) HS ?_
  rotate_left
  · intro wq _; go_simp; first | with_reducible rfl | (rw [if_neg (by omega)])
  refine anyE_take (i := 1) (v := ?_) rfl (by kernel_rfl) (by kernel_rfl) (by kernel_rfl) (by kernel_rfl) (by kernel_rfl) (fun _ _ _ h => h) (Or.inl ⟨by kernel_rfl, ?_⟩) HS ?_
  rotate_left
  · intro wq _; go_simp; first | with_reducible rfl | (rw [if_neg (by omega)])
  refine anyE_take (i := 2) (v := ?_) rfl (by kernel_rfl) (by kernel_rfl) (by kernel_rfl) (by kernel_rfl) (by kernel_rfl) (fun _ _ _ h => h) (Or.inl ⟨by kernel_rfl, ?_⟩) HS ?_
  rotate_left
  · intro wq _; go_simp; first | with_reducible rfl | (rw [if_neg (by omega)])
  refine anyE_take (i := 3) (v := ?_) rfl (by kernel_rfl) (by kernel_rfl) (by kernel_rfl) (by kernel_rfl) (by kernel_rfl) (fun _ _ _ h => h) (Or.inl ⟨by kernel_rfl, ?_⟩) HS ?_
  rotate_left
  · intro wq _; go_simp; first | with_reducible rfl | (rw [if_neg (by omega)])
  refine anyE_take (i := 4) (v := ?_) rfl (by kernel_rfl) (by kernel_rfl) (by kernel_rfl) (by kernel_rfl) (by kernel_rfl) (fun _ _ _ h => h) (Or.inl ⟨by kernel_rfl, ?_⟩) HS ?_
  rotate_left
  · intro wq hw; have hw := (hw.cell (p := ⟨gl, 0, none⟩) lg).trans c0; go_simp; with_reducible rfl
  refine anyE_take (i := 5) (v := ?_) rfl (by kernel_rfl) (by kernel_rfl) (by kernel_rfl) (by kernel_rfl) (by kernel_rfl) (fun _ _ _ h => h) (Or.inl ⟨by kernel_rfl, ?_⟩) HS ?_
  rotate_left
  · intro wq _; go_simp; first | with_reducible rfl | (rw [if_neg (by omega)])
  refine anyE_take (i := 6) (v := ?_) rfl (by kernel_rfl) (by kernel_rfl) (by kernel_rfl) (by kernel_rfl) (by kernel_rfl) (fun _ _ _ h => h) (Or.inl ⟨by kernel_rfl, ?_⟩) HS ?_
  rotate_left
  · intro wq hw; have hw := (hw.cell (p := ⟨w.heap.size, 2, none⟩) lb).trans t2; go_simp; with_reducible rfl
  refine anyE_ready (rs := [7]) (by kernel_rfl) (by simp) ?_
  refine ReadyE.cons rfl (by kernel_rfl) (fun K hK => ?_) ReadyE.nil
  go_simp
  go_at_call 51
  refine (HIN.out _ HS).mono ?_
  rintro e w2 ⟨rfl, rfl⟩
  refine hK.out _ _ (fun _ => HS) ?_
  clear hK K
  refine anyE_take (i := 8) (v := ?_) rfl (by kernel_rfl) (by kernel_rfl) (by kernel_rfl) (by kernel_rfl) (by kernel_rfl) (fun _ _ _ h => h) (Or.inl ⟨by kernel_rfl, ?_⟩) HS ?_
  rotate_left
  · intro wq _; go_simp; first | with_reducible rfl | (rw [if_neg (by omega)])
  refine anyE_done (by kernel_rfl) ?_ _
  clear c0 t2 t0 lg lb
  have hw2 := HW1.out.below HS
  have hk2 := HK1.out.trans (LdK.of_below HS)
  have hb2 := HB1.out.trans (HS.mono (by have := HW1.out.size; exact this))
  have b2 := B1.out.below HS B1.out.lt
  generalize World.drew w1 = w2 at *
  have HW2 := Lib.hid hw2
  have HK2 := Lib.hid hk2
  have HB2 := Lib.hid hb2
  have c0 : w2.cell? ⟨gl, 0, none⟩ = some (.slice tbo m tc) := hw2.box.cell 0
  have t2 : w2.cell? ⟨w.heap.size, 2, none⟩ = some (.string (S T)) := b2.cell 2
  have t0 : w2.cell? ⟨w.heap.size, 0, none⟩ = some (.int .i64 p) := b2.cell 0
  have lg := hw2.box.lt
  have lb := b2.lt
  have HF := Lib.hid (gfail_any w2 7 p)
  clear hw2 hk2 hb2 HS HIN
  by_cases hmem : T ∈ l.terms
  · rw [if_pos hmem] at HP HIX
    rw [HIX.out]
    have hge : (0 : Int) ≤ (l.terms.idxOf T : Int) := Int.natCast_nonneg _
    generalize hix : l.terms.idxOf T = ix at *
    go_wp2_with fail
    go_ret
    rw [HP.out]
    exact ⟨rfl, _, _, _, _, HW2.out, HK2.out⟩
  · rw [if_neg hmem] at HP HIX
    rw [HIX.out]
    by_cases hm64 : m = 64
    · rw [if_pos hm64] at HP
      subst hm64
      go_wp2_with fail
      refine HF.out.mono ?_
      rintro e w' ⟨rfl, rfl⟩
      exact ⟨rfl, by rw [HP.out]; exact ⟨rfl, HB2.out⟩⟩
    · rw [if_neg hm64] at HP
      have hm7 : ((m : Int) == 64) = false := by rw [beq_eq_false_iff_ne]; omega
      go_upto_region 6 with fail
      refine wp_region_any (by kernel_rfl) ?_
      change wpAny _ _ _ _ _ _ _ (World.drew _)
      refine wpAny_take (i := 0) (v := ?_) rfl (by kernel_rfl) (by kernel_rfl) (by kernel_rfl) (fun _ _ _ h => h) (Or.inl ⟨by kernel_rfl, ?_⟩) ?_
      rotate_left
      · intro wq; go_simp; with_reducible rfl
      refine any_of_anyE (S := fun W => Below w2.heap.size w2 W) (E := [9, 10, 11, 12, 13]) _ _ _ _ ?_
      have HS : Below w2.heap.size w2 (World.drew w2) := (Below.refl _ _).drew
      refine anyE_take (i := 1) (v := ?_) rfl (by kernel_rfl) (by kernel_rfl) (by kernel_rfl) (by kernel_rfl) (by kernel_rfl) (fun _ _ _ h => h) (Or.inl ⟨by kernel_rfl, ?_⟩) HS ?_
      rotate_left
      · intro wq _; go_simp; first | with_reducible rfl | (rw [if_neg (by omega)])
      refine anyE_take (i := 2) (v := ?_) rfl (by kernel_rfl) (by kernel_rfl) (by kernel_rfl) (by kernel_rfl) (by kernel_rfl) (fun _ _ _ h => h) (Or.inl ⟨by kernel_rfl, ?_⟩) HS ?_
      rotate_left
      · intro wq _; go_simp; first | with_reducible rfl | (rw [if_neg (by omega)])
      refine anyE_take (i := 3) (v := ?_) rfl (by kernel_rfl) (by kernel_rfl) (by kernel_rfl) (by kernel_rfl) (by kernel_rfl) (fun _ _ _ h => h) (Or.inl ⟨by kernel_rfl, ?_⟩) HS ?_
      rotate_left
      · intro wq _; go_simp; first | with_reducible rfl | (rw [if_neg (by omega)])
      refine anyE_take (i := 4) (v := ?_) rfl (by kernel_rfl) (by kernel_rfl) (by kernel_rfl) (by kernel_rfl) (by kernel_rfl) (fun _ _ _ h => h) (Or.inl ⟨by kernel_rfl, ?_⟩) HS ?_
      rotate_left
      · intro wq _; go_simp; first | with_reducible rfl | (rw [if_neg (by omega)])
      refine anyE_take (i := 5) (v := ?_) rfl (by kernel_rfl) (by kernel_rfl) (by kernel_rfl) (by kernel_rfl) (by kernel_rfl) (fun _ _ _ h => h) (Or.inl ⟨by kernel_rfl, ?_⟩) HS ?_
      rotate_left
      · intro wq hw; have hw := (hw.cell (p := ⟨gl, 0, none⟩) lg).trans c0; go_simp; with_reducible rfl
      refine anyE_take (i := 6) (v := ?_) rfl (by kernel_rfl) (by kernel_rfl) (by kernel_rfl) (by kernel_rfl) (by kernel_rfl) (fun _ _ _ h => h) (Or.inl ⟨by kernel_rfl, ?_⟩) HS ?_
      rotate_left
      · intro wq _; go_simp; first | with_reducible rfl | (rw [if_neg (by omega)])
      refine anyE_take (i := 7) (v := ?_) rfl (by kernel_rfl) (by kernel_rfl) (by kernel_rfl) (by kernel_rfl) (by kernel_rfl) (fun _ _ _ h => h) (Or.inl ⟨by kernel_rfl, ?_⟩) HS ?_
      rotate_left
      · intro wq hw; have hw := (hw.cell (p := ⟨w.heap.size, 2, none⟩) lb).trans t2; go_simp; with_reducible rfl
      refine anyE_ready (rs := [8]) (by kernel_rfl) (by simp) ?_
      refine ReadyE.cons rfl (by kernel_rfl) (fun K hK => ?_) ReadyE.nil
      go_simp
      refine hK.out _ _ (fun _ => HS.alloc HS.size _) ?_
      clear hK K
      refine anyE_rest (by kernel_rfl) ?_
      have hw3 := HW2.out.below HS
      have HW3 := Lib.hid hw3
      have HK3 := Lib.hid (HK2.out.trans (LdK.of_below HS))
      have hts := hw3.ts
      rw [HM.out] at hts
      have HTS := Lib.hid hts
      have hz3 := hw3.size
      obtain ⟨i1, ki, kz0, kz1, kz2⟩ := info_parts info_str
      clear hw3 hts c0 t2 t0 lg lb
      change wpAny _ _ _ _ _ _ _ ((World.drew w2).alloc (.cells #[.string (S T)] 9))
      refine wpAny_ready (rs := [9]) (by kernel_rfl) (by simp) ?_
      refine AllReady.cons rfl (fun K hK => ?_) AllReady.nil
      refine step_append_lies _ (by rfl) (.tmp 32) (.tmp 35) 23 (by rfl) B 9 i1 (.string ⟨#[]⟩) 1 16 Tryz.underlying23 ki kz0 kz1 kz2 (by rfl) (by decide) (.slice tbo m tc) m (l.terms.map sv) (by rfl) (HTS.out.alloc _) ⟨(World.drew w2).heap.size, 0, none⟩ 1 1 [sv T] (by rfl) (by rfl) (new_one _ _ _) (one_str _) (by decide) (by unfold maxLen; omega) (by omega) (by rw [World.size_alloc]; omega) ((World.drew w2).heap.size + 1) (World.size_alloc _ _) ?_
      intro g4 cap4 w4 hown4 hgrow4 hat4 hlt4
      have hb4 := Blk.grown (HW3.out.box.alloc (.cells #[sv T] 9)) hgrow4 (fun e => HW3.out.apart_box.1 e.symm)
      have hc4 := hb4.cell 0
      have hf4 := hb4.frozen 0
      have hl4 := hb4.lt
      refine hK _ _ ?_
      clear hK K
      refine wpAny_ready (rs := [10]) (by kernel_rfl) (by simp) ?_
      refine AllReady.cons rfl (fun K hK => ?_) AllReady.nil
      go_simp
      refine hK _ _ ?_
      clear hK K
      refine wpAny_ready (rs := [11]) (by kernel_rfl) (by simp) ?_
      refine AllReady.cons rfl (fun K hK => ?_) AllReady.nil
      go_simp
      refine hK _ _ ?_
      clear hK K
      refine wpAny_ready (rs := [12]) (by kernel_rfl) (by simp) ?_
      refine AllReady.cons rfl (fun K hK => ?_) AllReady.nil
      go_simp
      refine hK _ _ ?_
      clear hK K
      refine wpAny_ready (rs := [13]) (by kernel_rfl) (by simp) ?_
      refine AllReady.cons rfl (fun K hK => ?_) AllReady.nil
      go_simp
      refine hK _ _ ?_
      clear hK K
      refine wpAny_done (by kernel_rfl) ?_ _
      have hat4' : (Value.slice (some ⟨g4, 0, none⟩) (m + 1) cap4).ownBlock = (Value.slice tbo m tc).ownBlock ∨ (Value.slice (some ⟨g4, 0, none⟩) (m + 1) cap4).ownBlock = some ((World.drew w2).alloc (.cells #[sv T] 9)).heap.size := by
        rcases hat4 with h | h
        · exact .inl h.symm
        · right; rw [World.size_alloc, ← h]; rfl
      have hst := HW3.out.terms_more (v1 := .slice (some ⟨g4, 0, none⟩) (m + 1) cap4) (x := T) (by rw [HM.out]; exact hown4) hgrow4 hat4'
      have HST1 := Lib.hid hst.1
      have HST2 := Lib.hid hst.2
      clear hc4 hf4 hl4 hb4 hown4 hgrow4 hat4 hat4' hst
      generalize w4.setCell ⟨gl, 0, none⟩ (.slice (some ⟨g4, 0, none⟩) (m + 1) cap4) = w5 at *
      have c0 : w5.cell? ⟨gl, 0, none⟩ = some (.slice (some ⟨g4, 0, none⟩) (m + 1) cap4) := HST1.out.box.cell 0
      have lg := HST1.out.box.lt
      go_wp2_with fail
      go_ret
      rw [HP.out]
      exact ⟨rfl, _, _, _, _, HST1.out, HK3.out.trans HST2.out⟩
end Go.Proofs.YtldamieigigncaaGreatDoor.lx

namespace Go.Proofs.YtldamieigigncaaGreatDoor.lx
open Go.ChangeShapes Go.WideShapes Go.ChangeAt Go.RowKit
set_option linter.unusedVariables false
attribute [local go_sem] run_store_float
def freshP (l : Ld) (i : Itm) : LR (Ld × Int) := match ldAdd { l with last := newN l } (gnm (newN l)) i.at_ with
  | .error e => .error e
  | .ok l' => .ok ({ l' with alts := l'.alts ++ [meanP i (gnm l'.last)] }, (l'.vars.length : Int) - 1)
section
variable {XA : Nat → Prop} {gl B N : Nat} {tv vv rv av tv' vv' rv' av' : Value} {l : Ld} {w w' : World}
theorem LdW.free_new (h : LdW XA gl B N tv vv rv av l w) {g : Nat} (hg : w.heap.size ≤ g) : Fr gl tv vv rv av g := by
  obtain ⟨us, _, hr, _⟩ := h.rs
  obtain ⟨as_, _, ha, _⟩ := h.al
  have aux : ∀ (e : TypeId) (s n : Nat) (v : Value) (xs : List Value), w.ownsRow B e s v n xs → v.ownBlock ≠ some g := fun e s n v xs ho hv => by
    have := (ho.lt g hv).2
    omega
  exact ⟨by have := h.box.lt; omega, aux _ _ _ _ _ h.ts, aux _ _ _ _ _ h.vs, aux _ _ _ _ _ hr, aux _ _ _ _ _ ha⟩
theorem LdW.free_old (h : LdW XA gl B N tv vv rv av l w) {g : Nat} (hg : g < B) : Fr gl tv vv rv av g := by
  obtain ⟨us, _, hr, _⟩ := h.rs
  obtain ⟨as_, _, ha, _⟩ := h.al
  have aux : ∀ (e : TypeId) (s n : Nat) (v : Value) (xs : List Value), w.ownsRow B e s v n xs → v.ownBlock ≠ some g := fun e s n v xs ho hv => by
    have := (ho.lt g hv).1
    omega
  exact ⟨by have := h.ge; omega, aux _ _ _ _ _ h.ts, aux _ _ _ _ _ h.vs, aux _ _ _ _ _ hr, aux _ _ _ _ _ ha⟩
theorem LdK.belowB (h : LdW XA gl B N tv vv rv av l w) (k : LdK gl tv vv rv av tv' vv' rv' av' w w') : Below B w w' :=
  k.kp.below h.size (fun i hi => by
    rcases Nat.lt_or_ge i B with hlt | hge
    · exact absurd (h.free_old hlt) hi
    · exact hge)
theorem LdK.blk (k : LdK gl tv vv rv av tv' vv' rv' av' w w') {g : Nat} {t : TypeId} {cs : Array Value} (hb : Blk w g t cs) (hf : Fr gl tv vv rv av g) : Blk w' g t cs := hb.kept k.kp (fun h => h hf)
end
theorem info_alts : (Tryz.prog.info? 64).map (fun i => (i.zero, i.size, i.bytes)) = some (some (.slice none 0 0), 1, 24) := by kernel_rfl
theorem one_sl (ao : Option Addr) (n c : Nat) : ∀ z ∈ [Value.slice ao n c], z.oneCell' = true := by
  intro z hz
  rw [List.mem_singleton.1 hz]
  rfl
set_option maxRecDepth 100000 in
set_option maxHeartbeats 4000000 in
theorem fresh_any {XA : Nat → Prop} {gl B N : Nat} {tv vv rv av : Value} {l : Ld} {w : World} (h : LdW XA gl B N tv vv rv av l w) (hok : LdOk l) (i : Itm) (k : Nat) (ao : Option Addr) (c : Nat) (hv : AltsAt k w (FrX XA gl tv vv rv av) (.slice ao i.alts.length c) i.alts) (hkd : i.kind = 0 ∨ i.kind = 1 ∨ i.kind = 2) (ho : i.op < 256) : Calls Tryz.prog 122 #[.pointer (some ⟨gl, 0, none⟩), .agg #[.int .i64 i.at_, .int .i64 i.kind, .string (S i.text), .slice ao i.alts.length c, .int .u8 i.op]] w fun e w' => SymV XA gl B N tv vv rv av w (freshP l i) e w' := by
  have HFN := Lib.hid (h.free_new (Nat.le_refl w.heap.size))
  have HI : Hid (∃ j, j = i) := Lib.hid ⟨i, rfl⟩
  have HP : Hid (freshP l i = match ldAdd { l with last := newN l } (gnm (newN l)) i.at_ with
    | .error e => .error e
    | .ok l' => .ok ({ l' with alts := l'.alts ++ [meanP i (gnm l'.last)] }, (l'.vars.length : Int) - 1)) := Lib.hid rfl
  generalize hX : freshP l i = X at *
  clear hX HI
  obtain ⟨p, K, T, L, o⟩ := i
  simp only [Itm.at_, Itm.kind, Itm.text, Itm.alts, Itm.op] at *
  have hw1 := h.below ((Below.refl _ w).alloc (Nat.le_refl _) (.cells #[.int .i64 p, .int .i64 K, .string (S T), .slice ao L.length c, .int .u8 o] 126))
  have hk1 : LdK gl tv vv rv av tv vv rv av w (w.alloc (.cells #[.int .i64 p, .int .i64 K, .string (S T), .slice ao L.length c, .int .u8 o] 126)) := LdK.of_below ((Below.refl _ w).alloc (Nat.le_refl _) _)
  have b1 := Blk.new w 126 #[.int .i64 p, .int .i64 K, .string (S T), .slice ao L.length c, .int .u8 o]
  have HV := Lib.hid hv
  have H := Lib.hid h
  have HOK := Lib.hid hok
  have hvl := hok.vars
  clear h hv hok
  generalize hn : L.length = n at *
  have HN := Lib.hid hn
  clear hn
  go_enter Tryz.func122, Tryz.ntmps122
  go_upto_region 1 with fail
  generalize w.alloc (.cells #[.int .i64 p, .int .i64 K, .string (S T), .slice ao n c, .int .u8 o] 126) = w1 at *
  have hnn := newName_any hw1 HOK.out
  have HK1 := Lib.hid hk1
  have B1 := Lib.hid b1
  clear hw1 hk1 b1
  go_upto_region 2 with (go_at_call 143; refine hnn.mono ?_; rintro e w2 ⟨rfl, hw2, hk2⟩)
  clear hnn
  have HK2 := Lib.hid (HK1.out.trans hk2)
  have HF2 := Lib.hid (hk2.free B1.out.lt HFN.out)
  have b2 := hk2.blk B1.out HFN.out
  have hw2' := hw2
  have hadd := add_any hw2 (by exact hvl) (gnm (newN l)) p
  have t0 : w2.cell? ⟨w.heap.size, 0, none⟩ = some (.int .i64 p) := b2.cell 0
  have lb := b2.lt
  have B2 := Lib.hid b2
  have HW2 := Lib.hid hw2
  clear hw2 hk2 b2 hw2'
  generalize hGN : gnm (newN l) = G at *
  cases hA : ldAdd { l with last := newN l } G p with
  | error q =>
    rw [hA] at hadd HP
    go_wp2_with (go_at_call 63; refine hadd.mono ?_; rintro e w3 ⟨rfl, hb3⟩)
    exact ⟨rfl, by rw [HP.out]; exact ⟨rfl, (HK2.out.belowB H.out).trans hb3⟩⟩
  | ok l2 =>
    rw [hA] at hadd HP
    go_upto_region 3 with (go_at_call 63; refine hadd.mono ?_; rintro e w3 ⟨rfl, tv', vv', rv', av', hw3, hk3⟩)
    clear hadd t0 lb
    have hlast : l2.last = newN l ∧ l2.alts = l.alts ∧ l2.vars.length ≤ 64 := by
      unfold ldAdd at hA
      split at hA
      · cases hA
      · rename_i hne
        cases hA
        have hne : l.vars.length ≠ 64 := hne
        refine ⟨rfl, rfl, ?_⟩
        show (l.vars ++ [G]).length ≤ 64
        rw [List.length_append]
        simp
        omega
    have HLS := Lib.hid hlast
    have HA2 := Lib.hid hA
    have HK3 := Lib.hid (HK2.out.trans hk3)
    have b3 := hk3.blk B2.out HF2.out
    have hf3 := hk3.free B2.out.lt HF2.out
    have B3 := Lib.hid b3
    obtain ⟨us3, hus3, hoa3, hua3⟩ := hw3.al
    obtain ⟨ao5, c5, rfl⟩ := own_form hoa3
    obtain ⟨vo5, vc5, rfl⟩ := own_form hw3.vs
    have hav3 := keepsAlts k _ w3 _ (FrX XA gl tv' (.slice vo5 l2.vars.length vc5) rv' (.slice ao5 l2.alts.length c5)) _ _ HV.out (fun g hg hA => ⟨⟨HK3.out.free hg hA.1, hA.2⟩, HK3.out.kp.block g hg (fun h => h hA.1)⟩) HK3.out.kp.size
    have HW3 := Lib.hid hw3
    have HMN := Lib.hid (fun wx (hx : Below w3.heap.size w3 wx) => by
      have h := meaning_any wx k (FrX XA gl tv' (.slice vo5 l2.vars.length vc5) rv' (.slice ao5 l2.alts.length c5)) (fun g hg => ⟨(hw3.below hx).free_new hg, (hw3.below hx).nx g hg⟩) (.mk p K T L o) G ao c (keepsAlts k _ wx _ _ _ _ (by have hav := hav3; rw [← HN.out] at hav; exact hav) (fun g hg hA => ⟨hA, hx.block g hg⟩) hx.size) hkd ho
      simp only [Itm.at_, Itm.kind, Itm.text, Itm.alts, Itm.op] at h
      rw [HN.out] at h
      exact h)
    generalize hna : l2.alts.length = na at *
    generalize hnv : l2.vars.length = nv at *
    have HNA := Lib.hid hna
    have HNV := Lib.hid hnv
    have hna64 : na ≤ 64 := by
      have := hlast.2.1
      have := HOK.out.alts
      rw [← hna, hlast.2.1]
      omega
    have hnv64 : nv ≤ 64 := hlast.2.2
    have c3 : w3.cell? ⟨gl, 3, none⟩ = some (.slice ao5 na c5) := hw3.box.cell 3
    have t0 : w3.cell? ⟨w.heap.size, 0, none⟩ = some (.int .i64 p) := b3.cell 0
    have t1 : w3.cell? ⟨w.heap.size, 1, none⟩ = some (.int .i64 K) := b3.cell 1
    have t2 : w3.cell? ⟨w.heap.size, 2, none⟩ = some (.string (S T)) := b3.cell 2
    have t3 : w3.cell? ⟨w.heap.size, 3, none⟩ = some (.slice ao n c) := b3.cell 3
    have t4 : w3.cell? ⟨w.heap.size, 4, none⟩ = some (.int .u8 o) := b3.cell 4
    have lg := hw3.box.lt
    have lb := b3.lt
    clear hw3 hk3 b3 hus3 hoa3 hua3 hav3 hlast hna hnv
    refine wp_region_any (by kernel_rfl) ?_
    change wpAny _ _ _ _ _ _ _ (World.drew _)
    refine wpAny_take (i := 0) (v := ?_) rfl (by kernel_rfl) (by kernel_rfl) (by kernel_rfl) (fun _ _ _ h => h) (Or.inl ⟨by kernel_rfl, ?_⟩) ?_
    rotate_left
    · intro wq; go_simp; with_reducible rfl
    refine any_of_anyE (S := fun W => Below w3.heap.size w3 W) (E := [9, 10, 11, 12]) _ _ _ _ ?_
    have HS : Below w3.heap.size w3 (World.drew w3) := (Below.refl _ _).drew
    refine anyE_take (i := 1) (v := ?_) rfl (by kernel_rfl) (by kernel_rfl) (by kernel_rfl) (by kernel_rfl) (by kernel_rfl) (fun _ _ _ h => h) (Or.inl ⟨by kernel_rfl, ?_⟩) HS ?_
    rotate_left
    · intro wq _; go_simp; first | with_reducible rfl | (rw [if_neg (by omega)])
    refine anyE_take (i := 2) (v := ?_) rfl (by kernel_rfl) (by kernel_rfl) (by kernel_rfl) (by kernel_rfl) (by kernel_rfl) (fun _ _ _ h => h) (Or.inl ⟨by kernel_rfl, ?_⟩) HS ?_
    rotate_left
    · intro wq _; go_simp; first | with_reducible rfl | (rw [if_neg (by omega)])
    refine anyE_take (i := 3) (v := ?_) rfl (by kernel_rfl) (by kernel_rfl) (by kernel_rfl) (by kernel_rfl) (by kernel_rfl) (fun _ _ _ h => h) (Or.inl ⟨by kernel_rfl, ?_⟩) HS ?_
    rotate_left
    · intro wq _; go_simp; first | with_reducible rfl | (rw [if_neg (by omega)])
    refine anyE_take (i := 4) (v := ?_) rfl (by kernel_rfl) (by kernel_rfl) (by kernel_rfl) (by kernel_rfl) (by kernel_rfl) (fun _ _ _ h => h) (Or.inl ⟨by kernel_rfl, ?_⟩) HS ?_
    rotate_left
    · intro wq hw; have hw := (hw.cell (p := ⟨gl, 3, none⟩) lg).trans c3; go_simp; with_reducible rfl
    refine anyE_take (i := 5) (v := ?_) rfl (by kernel_rfl) (by kernel_rfl) (by kernel_rfl) (by kernel_rfl) (by kernel_rfl) (fun _ _ _ h => h) (Or.inl ⟨by kernel_rfl, ?_⟩) HS ?_
    rotate_left
    · intro wq hw; have e0 := (hw.cell (p := ⟨w.heap.size, 0, none⟩) lb).trans t0; have e1 := (hw.cell (p := ⟨w.heap.size, 1, none⟩) lb).trans t1; have e2 := (hw.cell (p := ⟨w.heap.size, 2, none⟩) lb).trans t2; have e3 := (hw.cell (p := ⟨w.heap.size, 3, none⟩) lb).trans t3; have e4 := (hw.cell (p := ⟨w.heap.size, 4, none⟩) lb).trans t4; go_simp; with_reducible rfl
    refine anyE_take (i := 6) (v := ?_) rfl (by kernel_rfl) (by kernel_rfl) (by kernel_rfl) (by kernel_rfl) (by kernel_rfl) (fun _ _ _ h => h) (Or.inl ⟨by kernel_rfl, ?_⟩) HS ?_
    rotate_left
    · intro wq _; go_simp; first | with_reducible rfl | (rw [if_neg (by omega)])
    refine anyE_ready (rs := [7]) (by kernel_rfl) (by simp) ?_
    refine ReadyE.cons rfl (by kernel_rfl) (fun K hK => ?_) ReadyE.nil
    go_simp
    go_at_call 144
    refine (HMN.out _ HS).mono ?_
    rintro e w4 ⟨⟨v4, k4, rfl, hv4⟩, hb4⟩
    obtain ⟨ao4, c4, rfl⟩ := hv4.form
    have hb34 : Below w3.heap.size w3 w4 := HS.trans (hb4.mono HS.size)
    refine hK.out _ _ (fun _ => hb34) ?_
    clear hK K
    refine anyE_ready (rs := [8]) (by kernel_rfl) (by simp) ?_
    refine ReadyE.cons rfl (by kernel_rfl) (fun K hK => ?_) ReadyE.nil
    go_simp
    refine hK.out _ _ (fun _ => hb34.alloc hb34.size _) ?_
    clear hK K
    refine anyE_rest (by kernel_rfl) ?_
    have hw4 := HW3.out.below hb34
    have HW4 := Lib.hid hw4
    have HK4 := Lib.hid (HK3.out.trans (LdK.of_below hb34))
    obtain ⟨us, hus, hoa, hua⟩ := hw4.al
    rw [HNA.out] at hoa
    have HOA := Lib.hid hoa
    have HUS := Lib.hid hus
    have HUA := Lib.hid hua
    have HV4 := Lib.hid hv4
    have hz4 := hw4.size
    obtain ⟨i1, ki, kz0, kz1, kz2⟩ := info_parts info_alts
    generalize hml : (meanP (.mk p K T L o) G).length = ml at *
    clear hw4 hus hoa hua hv4 c3 t0 t1 t2 t3 t4 lg lb hb4 hb34 HS
    refine wpAny_ready (rs := [9]) (by kernel_rfl) (by simp) ?_
    refine AllReady.cons rfl (fun K hK => ?_) AllReady.nil
    refine step_append_lies _ (by rfl) (.tmp 17) (.tmp 21) 60 (by rfl) B 64 i1 (.slice none 0 0) 1 24 Tryz.underlying60 ki kz0 kz1 kz2 (by rfl) (by decide) (.slice ao5 na c5) na us (by rfl) (HOA.out.alloc _) ⟨w4.heap.size, 0, none⟩ 1 1 [.slice ao4 ml c4] (by rfl) (by rfl) (new_one _ _ _) (one_sl _ _ _) (by decide) (by unfold maxLen; omega) (by omega) (by rw [World.size_alloc]; omega) (w4.heap.size + 1) (World.size_alloc _ _) ?_
    intro g5 cap5 w5 hown5 hgrow5 hat5 hlt5
    have hb5 := Blk.grown (HW4.out.box.alloc (.cells #[.slice ao4 ml c4] 64)) hgrow5 (fun e => HW4.out.apart_box.2.2.2 e.symm)
    have hc5 := hb5.cell 3
    have hf5 := hb5.frozen 3
    have hl5 := hb5.lt
    refine hK _ _ ?_
    clear hK K
    refine wpAny_ready (rs := [10]) (by kernel_rfl) (by simp) ?_
    refine AllReady.cons rfl (fun K hK => ?_) AllReady.nil
    go_simp
    refine hK _ _ ?_
    clear hK K
    refine wpAny_ready (rs := [11]) (by kernel_rfl) (by simp) ?_
    refine AllReady.cons rfl (fun K hK => ?_) AllReady.nil
    go_simp
    refine hK _ _ ?_
    clear hK K
    refine wpAny_ready (rs := [12]) (by kernel_rfl) (by simp) ?_
    refine AllReady.cons rfl (fun K hK => ?_) AllReady.nil
    go_simp
    refine hK _ _ ?_
    clear hK K
    refine wpAny_done (by kernel_rfl) ?_ _
    have hat5' : (Value.slice (some ⟨g5, 0, none⟩) (na + 1) cap5).ownBlock = (Value.slice ao5 na c5).ownBlock ∨ (Value.slice (some ⟨g5, 0, none⟩) (na + 1) cap5).ownBlock = some (w4.alloc (.cells #[.slice ao4 ml c4] 64)).heap.size := by
      rcases hat5 with h | h
      · exact .inl h.symm
      · right; rw [World.size_alloc, ← h]; rfl
    have hst := HW4.out.alts_more (v1 := .slice (some ⟨g5, 0, none⟩) (na + 1) cap5) (bs := meanP (.mk p K T L o) G) (u := .slice ao4 ml c4) (k := k4) HUS.out (by rw [HNA.out]; exact HOA.out) HUA.out (by rw [← hml] at HV4 ⊢; exact HV4.out) (by rw [HNA.out]; exact hown5) hgrow5 hat5'
    have HST1 := Lib.hid hst.1
    have HST2 := Lib.hid hst.2
    clear hc5 hf5 hl5 hb5 hown5 hgrow5 hat5 hat5' hst hml
    generalize w5.setCell ⟨gl, 3, none⟩ (.slice (some ⟨g5, 0, none⟩) (na + 1) cap5) = w6 at *
    have c1 : w6.cell? ⟨gl, 1, none⟩ = some (.slice vo5 nv vc5) := HST1.out.box.cell 1
    have lg := HST1.out.box.lt
    go_wp2_with fail
    go_ret
    have hG2 : gnm l2.last = G := by rw [HLS.out.1, hGN]
    rw [HP.out, hG2]
    exact ⟨rfl, _, _, _, _, HST1.out, HK4.out.trans HST2.out⟩
theorem xorI (x : Int) (h0 : 0 ≤ x) (h1 : x ≤ 64) : bits .xor .i64 (-1) x = -x - 1 := by
  obtain ⟨n, rfl⟩ := Int.eq_ofNat_of_zero_le h0
  have hn : n ≤ 64 := by omega
  have : ∀ k : Fin 65, bits .xor .i64 (-1) ((k.val : Nat) : Int) = -((k.val : Nat) : Int) - 1 := by decide +kernel
  exact this ⟨n, by omega⟩
theorem termP_le {l l' : Ld} {T : List UInt8} {p : Nat} {s : Int} (h64 : l.terms.length ≤ 64) (h : termP l T p = .ok (l', s)) : 0 ≤ s ∧ s ≤ 64 := by
  unfold termP at h
  split at h
  · rename_i hm
    cases h
    have := List.idxOf_lt_length_of_mem hm
    omega
  · split at h
    · cases h
    · cases h
      omega
theorem symP_eq (l : Ld) (p K : Nat) (T : List UInt8) (L : List Altn) (o : Nat) : symP l (.mk p K T L o) = if o ≠ 0 ∨ K = 2 then freshP l (.mk p K T L o) else if K = 1 then (match termP l T p with
    | .error e => .error e
    | .ok (l', t) => .ok (l', -t - 1)) else .ok (l, idxI l.vars T) := by
  unfold symP
  show (if o ≠ 0 ∨ K = 2 then freshP l (.mk p K T L o) else if K = 1 then (if T ∈ l.terms then .ok (l, -(l.terms.idxOf T : Int) - 1)
    else if l.terms.length = 64 then .error (7, p)
    else .ok ({ l with terms := l.terms ++ [T] }, -(l.terms.length : Int) - 1)) else .ok (l, idxI l.vars T)) = _
  split
  · rfl
  · split
    · unfold termP
      split
      · rfl
      · split <;> rfl
    · rfl
set_option maxRecDepth 100000 in
set_option maxHeartbeats 4000000 in
theorem symbol_any {XA : Nat → Prop} {gl B N : Nat} {tv vv rv av : Value} {l : Ld} {w : World} (h : LdW XA gl B N tv vv rv av l w) (hok : LdOk l) (i : Itm) (k : Nat) (ao : Option Addr) (c : Nat) (hv : AltsAt k w (FrX XA gl tv vv rv av) (.slice ao i.alts.length c) i.alts) (hkd : i.kind = 0 ∨ i.kind = 1 ∨ i.kind = 2) (ho : i.op < 256) : Calls Tryz.prog 89 #[.pointer (some ⟨gl, 0, none⟩), .agg #[.int .i64 i.at_, .int .i64 i.kind, .string (S i.text), .slice ao i.alts.length c, .int .u8 i.op]] w fun e w' => SymV XA gl B N tv vv rv av w (symP l i) e w' := by
  obtain ⟨p, K, T, L, o⟩ := i
  simp only [Itm.at_, Itm.kind, Itm.text, Itm.alts, Itm.op] at *
  have HP := Lib.hid (symP_eq l p K T L o)
  generalize hX : symP l (.mk p K T L o) = X at *
  clear hX
  have hw1 := h.below ((Below.refl _ w).alloc (Nat.le_refl _) (.cells #[.int .i64 p, .int .i64 K, .string (S T), .slice ao L.length c, .int .u8 o] 126))
  have hk1 : LdK gl tv vv rv av tv vv rv av w (w.alloc (.cells #[.int .i64 p, .int .i64 K, .string (S T), .slice ao L.length c, .int .u8 o] 126)) := LdK.of_below ((Below.refl _ w).alloc (Nat.le_refl _) _)
  have b1 := Blk.new w 126 #[.int .i64 p, .int .i64 K, .string (S T), .slice ao L.length c, .int .u8 o]
  have hv1 := keepsAlts k _ (w.alloc (.cells #[.int .i64 p, .int .i64 K, .string (S T), .slice ao L.length c, .int .u8 o] 126)) _ (FrX XA gl tv vv rv av) _ _ hv (fun g hg hA => ⟨hA, Below.heap_alloc w _ g hg⟩) (by simp)
  have HFR := Lib.hid (fresh_any hw1 hok (.mk p K T L o) k ao c hv1 hkd ho)
  have HTM := Lib.hid (term_any hw1 hok.terms p K T ao L.length c o)
  have H := Lib.hid h
  have hok64 := hok.terms
  have HK1 := Lib.hid hk1
  have hvs := strs_of hw1.vs
  have c1 : (w.alloc (.cells #[.int .i64 p, .int .i64 K, .string (S T), .slice ao L.length c, .int .u8 o] 126)).cell? ⟨gl, 1, none⟩ = some vv := hw1.box.cell 1
  have hvf := own_form hw1.vs
  have HW1 := Lib.hid hw1
  clear h hok hv hv1
  simp only [Itm.at_, Itm.kind, Itm.text, Itm.alts, Itm.op] at HFR
  generalize hn : L.length = n at *
  clear hn
  obtain ⟨w1, hw1e⟩ : ∃ w1, w1 = w.alloc (.cells #[.int .i64 p, .int .i64 K, .string (S T), .slice ao n c, .int .u8 o] 126) := ⟨_, rfl⟩
  rw [← hw1e] at hw1 hk1 b1 HFR HTM HK1 hvs c1 HW1
  have t0 : w1.cell? ⟨w.heap.size, 0, none⟩ = some (.int .i64 p) := b1.cell 0
  have t1 : w1.cell? ⟨w.heap.size, 1, none⟩ = some (.int .i64 K) := b1.cell 1
  have t2 : w1.cell? ⟨w.heap.size, 2, none⟩ = some (.string (S T)) := b1.cell 2
  have t3 : w1.cell? ⟨w.heap.size, 3, none⟩ = some (.slice ao n c) := b1.cell 3
  have t4 : w1.cell? ⟨w.heap.size, 4, none⟩ = some (.int .u8 o) := b1.cell 4
  have lg := hw1.box.lt
  have lb := b1.lt
  have HW1E := Lib.hid hw1e
  clear hw1 hk1 b1 hw1e
  by_cases hf : o ≠ 0 ∨ K = 2
  · rw [if_pos hf] at HP
    by_cases ho0 : o = 0
    · have e1 : ((o : Int) != 0) = false := by rw [bne_eq_false_iff_eq]; omega
      have e2 : ((K : Int) == 2) = true := by rw [beq_iff_eq]; omega
      clear ho0 hf hkd
      cases hx : freshP l (.mk p K T L o) with
      | error q =>
        rw [hx] at HFR HP
        clear hx
        go_enter Tryz.func89, Tryz.ntmps89
        go_upto_region 1 with fail
        rw [← HW1E.out]
        go_wp2_with (go_at_call 122; refine HFR.out.mono ?_; rintro e w2 ⟨rfl, hb2⟩)
        exact ⟨rfl, by rw [HP.out]; exact ⟨rfl, (HK1.out.belowB H.out).trans hb2⟩⟩
      | ok y =>
        obtain ⟨l', s⟩ := y
        rw [hx] at HFR HP
        clear hx
        go_enter Tryz.func89, Tryz.ntmps89
        go_upto_region 1 with fail
        rw [← HW1E.out]
        go_wp2_with (go_at_call 122; refine HFR.out.mono ?_; rintro e w2 ⟨rfl, tv', vv', rv', av', hw2, hk2⟩)
        go_ret
        rw [HP.out]
        exact ⟨rfl, _, _, _, _, hw2, HK1.out.trans hk2⟩
    · have e1 : ((o : Int) != 0) = true := by rw [bne_iff_ne]; omega
      clear ho0 hf hkd
      cases hx : freshP l (.mk p K T L o) with
      | error q =>
        rw [hx] at HFR HP
        clear hx
        go_enter Tryz.func89, Tryz.ntmps89
        go_upto_region 1 with fail
        rw [← HW1E.out]
        go_wp2_with (go_at_call 122; refine HFR.out.mono ?_; rintro e w2 ⟨rfl, hb2⟩)
        exact ⟨rfl, by rw [HP.out]; exact ⟨rfl, (HK1.out.belowB H.out).trans hb2⟩⟩
      | ok y =>
        obtain ⟨l', s⟩ := y
        rw [hx] at HFR HP
        clear hx
        go_enter Tryz.func89, Tryz.ntmps89
        go_upto_region 1 with fail
        rw [← HW1E.out]
        go_wp2_with (go_at_call 122; refine HFR.out.mono ?_; rintro e w2 ⟨rfl, tv', vv', rv', av', hw2, hk2⟩)
        go_ret
        rw [HP.out]
        exact ⟨rfl, _, _, _, _, hw2, HK1.out.trans hk2⟩
  · rw [if_neg hf] at HP
    have e1 : ((o : Int) != 0) = false := by rw [bne_eq_false_iff_eq]; omega
    have e2 : ((K : Int) == 2) = false := by rw [beq_eq_false_iff_ne]; omega
    by_cases hK1 : K = 1
    · rw [if_pos hK1] at HP
      have e3 : ((K : Int) == 1) = true := by rw [beq_iff_eq]; omega
      clear hK1 hf hkd
      cases hx : termP l T p with
      | error q =>
        rw [hx] at HTM HP
        clear hx
        go_enter Tryz.func89, Tryz.ntmps89
        go_upto_region 1 with fail
        rw [← HW1E.out]
        go_wp2_with (go_at_call 123; refine HTM.out.mono ?_; rintro e w2 ⟨rfl, hb2⟩)
        exact ⟨rfl, by rw [HP.out]; exact ⟨rfl, (HK1.out.belowB H.out).trans hb2⟩⟩
      | ok y =>
        obtain ⟨l', s⟩ := y
        have hs := termP_le hok64 hx
        have hxor := xorI s hs.1 hs.2
        rw [hx] at HTM HP
        clear hx hs
        go_enter Tryz.func89, Tryz.ntmps89
        go_upto_region 1 with fail
        rw [← HW1E.out]
        go_wp2_with (go_at_call 123; refine HTM.out.mono ?_; rintro e w2 ⟨rfl, tv', vv', rv', av', hw2, hk2⟩)
        go_ret
        rw [HP.out]
        refine ⟨?_, _, _, _, _, hw2, HK1.out.trans hk2⟩
        first | rfl | (rw [← hxor]; rfl)
    · rw [if_neg hK1] at HP
      have e3 : ((K : Int) == 1) = false := by rw [beq_eq_false_iff_ne]; omega
      clear hK1 hf hkd
      go_enter Tryz.func89, Tryz.ntmps89
      go_upto_region 1 with fail
      rw [← HW1E.out]
      go_upto_region 5 with fail
      refine wp_region_E (fun W => Below w1.heap.size w1 W) [] (by kernel_rfl) ?_
      change anyE _ _ _ _ _ _ _ _ _ (World.drew _)
      have HS : Below w1.heap.size w1 (World.drew w1) := (Below.refl _ _).drew
      refine anyE_take (i := 0) (v := ?_) rfl (by kernel_rfl) (by kernel_rfl) (by kernel_rfl) (by kernel_rfl) (by kernel_rfl) (fun _ _ _ h => h) (Or.inl ⟨by kernel_rfl, ?_⟩) HS ?_
      rotate_left
      · intro wq _; go_simp; first | with_reducible rfl | (rw [if_neg (by omega)])
      refine anyE_take (i := 1) (v := ?_) rfl (by kernel_rfl) (by kernel_rfl) (by kernel_rfl) (by kernel_rfl) (by kernel_rfl) (fun _ _ _ h => h) (Or.inl ⟨by kernel_rfl, ?_⟩) HS ?_
      rotate_left
      · intro wq _; go_simp; first | with_reducible rfl | (rw [if_neg (by omega)])
      refine anyE_take (i := 2) (v := ?_) rfl (by kernel_rfl) (by kernel_rfl) (by kernel_rfl) (by kernel_rfl) (by kernel_rfl) (fun _ _ _ h => h) (Or.inl ⟨by kernel_rfl, ?_⟩) HS ?_
      rotate_left
      · intro wq _; go_simp; first | with_reducible rfl | (rw [if_neg (by omega)])
      refine anyE_take (i := 3) (v := ?_) rfl (by kernel_rfl) (by kernel_rfl) (by kernel_rfl) (by kernel_rfl) (by kernel_rfl) (fun _ _ _ h => h) (Or.inl ⟨by kernel_rfl, ?_⟩) HS ?_
      rotate_left
      · intro wq _; go_simp; first | with_reducible rfl | (rw [if_neg (by omega)])
      refine anyE_take (i := 4) (v := ?_) rfl (by kernel_rfl) (by kernel_rfl) (by kernel_rfl) (by kernel_rfl) (by kernel_rfl) (fun _ _ _ h => h) (Or.inl ⟨by kernel_rfl, ?_⟩) HS ?_
      rotate_left
      · intro wq hw; have hw := (hw.cell (p := ⟨gl, 1, none⟩) lg).trans c1; go_simp; with_reducible rfl
      refine anyE_take (i := 5) (v := ?_) rfl (by kernel_rfl) (by kernel_rfl) (by kernel_rfl) (by kernel_rfl) (by kernel_rfl) (fun _ _ _ h => h) (Or.inl ⟨by kernel_rfl, ?_⟩) HS ?_
      rotate_left
      · intro wq _; go_simp; first | with_reducible rfl | (rw [if_neg (by omega)])
      refine anyE_take (i := 6) (v := ?_) rfl (by kernel_rfl) (by kernel_rfl) (by kernel_rfl) (by kernel_rfl) (by kernel_rfl) (fun _ _ _ h => h) (Or.inl ⟨by kernel_rfl, ?_⟩) HS ?_
      rotate_left
      · intro wq hw; have hw := (hw.cell (p := ⟨w.heap.size, 2, none⟩) lb).trans t2; go_simp; with_reducible rfl
      refine anyE_ready (rs := [7]) (by kernel_rfl) (by simp) ?_
      refine ReadyE.cons rfl (by kernel_rfl) (fun K hK => ?_) ReadyE.nil
      go_simp
      go_at_call 51
      refine (index_any _ _ vv l.vars T (hvs.keep keepsStr (fun g hg hA => ⟨hA, HS.block g hg⟩) HS.size)).mono ?_
      rintro e w2 ⟨rfl, rfl⟩
      refine hK.out _ _ (fun _ => HS) ?_
      clear hK K
      refine anyE_take (i := 8) (v := ?_) rfl (by kernel_rfl) (by kernel_rfl) (by kernel_rfl) (by kernel_rfl) (by kernel_rfl) (fun _ _ _ h => h) (Or.inl ⟨by kernel_rfl, ?_⟩) HS ?_
      rotate_left
      · intro wq _; go_simp; first | with_reducible rfl | (rw [if_neg (by omega)])
      refine anyE_done (by kernel_rfl) ?_ _
      clear c1 t0 t1 t2 t3 t4 lg lb
      go_wp2_with fail
      go_ret
      rw [HP.out]
      exact ⟨rfl, _, _, _, _, HW1.out.below HS, HK1.out.trans (LdK.of_below HS)⟩
end Go.Proofs.YtldamieigigncaaGreatDoor.lx


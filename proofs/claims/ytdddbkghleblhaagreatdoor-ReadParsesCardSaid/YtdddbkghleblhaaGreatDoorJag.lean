import Derived.Test.YtdddbkghleblhaaGreatDoorJaf
import Derived.Deep.RegionHeld3
import Derived.Deep.RegionLaw
import Derived.Deep.DrawnRows
import Derived.Deep.AppendLies
namespace Go.Proofs.YtdddbkghleblhaaGreatDoor.lx
open Go.ChangeShapes Go.WideShapes Go.ChangeAt Go.RowKit
set_option linter.unusedVariables false
attribute [local go_sem] run_store_float
/-! an alternative -/
def AltV (k B : Nat) : World → Value → Altn → Prop := fun w' v a => ∃ iv, v = .agg (AltC a iv).toArray ∧ ListOf 5 (EItm (AltsAt k)) w' (fun g => B ≤ g) iv a.2.2
def AltOk (k : Nat) : Prop := ∀ (w : World) (gp : Nat) (ts : List Tok), k ≤ 16 → PAt w gp ts (16 - k) → Good ts → ts.length ≤ 70000 → Calls Tryz.prog 60 #[.pointer (some ⟨gp, 0, none⟩)] w (Ans (AltV k w.heap.size) gp (16 - k) ts.length w (pAlt (pSub k) ts))
theorem info_item : (Tryz.prog.info? 47).map (fun i => (i.zero, i.size, i.bytes)) = some (some (.agg #[.int .i64 0, .int .i64 0, .string ⟨#[]⟩, .slice none 0 0, .int .u8 0]), 5, 64) := by kernel_rfl
theorem new_cells (w : World) (t : TypeId) (cs : List Value) : ∀ j u, cs[j]? = some u → (w.alloc (.cells cs.toArray t)).cell? ((⟨w.heap.size, 0, none⟩ : Addr).add j) = some u := fun j u h => by
  rw [add0, (Blk.new w t cs.toArray).cell j]
  simpa using h
theorem itm_one (i : Itm) (ao : Option Addr) (n c : Nat) : ∀ z ∈ ItmC i (.slice ao n c), z.oneCell' = true := by
  intro z hz
  simp [ItmC] at hz
  rcases hz with rfl | rfl | rfl | rfl | rfl <;> rfl
theorem Blk.grown {w w' : World} {g : Nat} {t : TypeId} {cs : Array Value} {row : Option Nat} (h : Blk w g t cs) (hb : w.grownBy w' row) (hg : some g ≠ row) : Blk w' g t cs := (hb.block g h.lt hg).trans h
theorem own_apart {w : World} {base size n k : Nat} {e : TypeId} {v : Value} {xs : List Value} (h : w.ownsRow base e size v n xs) (hk : k < base) : some k ≠ v.ownBlock := by
  intro e
  have := (h.lt k e.symm).1
  omega
/-- items that were gone through, and those that come -/
def pre (done : List Itm) (x : Res (List Itm)) : Res (List Itm) := match x with
  | .error e => .error e
  | .ok (is, r) => .ok (done ++ is, r)
theorem pre_nil (x : Res (List Itm)) : pre [] x = x := by
  cases x <;> rfl
theorem pre_step (sub : List Tok → Res (List Altn)) (done : List Itm) (f : Nat) (ts r : List Tok) (i : Itm) (h : atIt (hd ts) = true) (hi : pItem sub ts = .ok (i, r)) : pre done (pItems sub (f + 1) ts) = pre (done ++ [i]) (pItems sub f r) := by
  have e : pItems sub (f + 1) ts = if atIt (hd ts) then (match pItem sub ts with
      | .error e => .error e
      | .ok (i, r) => match pItems sub f r with
        | .error e => .error e
        | .ok (is, r2) => .ok (i :: is, r2)) else .ok ([], ts) := rfl
  rw [e, if_pos h, hi]
  show pre done (match pItems sub f r with
        | .error e => .error e
        | .ok (is, r2) => .ok (i :: is, r2)) = _
  cases hx : pItems sub f r with
  | error e => rfl
  | ok x => simp [pre]
theorem pre_err (sub : List Tok → Res (List Altn)) (done : List Itm) (f : Nat) (ts : List Tok) (p : Nat × Nat) (h : atIt (hd ts) = true) (hi : pItem sub ts = .error p) : pre done (pItems sub (f + 1) ts) = .error p := by
  have e : pItems sub (f + 1) ts = if atIt (hd ts) then (match pItem sub ts with
      | .error e => .error e
      | .ok (i, r) => match pItems sub f r with
        | .error e => .error e
        | .ok (is, r2) => .ok (i :: is, r2)) else .ok ([], ts) := rfl
  rw [e, if_pos h, hi]
  rfl
theorem pre_end (sub : List Tok → Res (List Altn)) (done : List Itm) (f : Nat) (ts : List Tok) (h : ¬ atIt (hd ts) = true) : pre done (pItems sub (f + 1) ts) = .ok (done, ts) := by
  have e : pItems sub (f + 1) ts = if atIt (hd ts) then (match pItem sub ts with
      | .error e => .error e
      | .ok (i, r) => match pItems sub f r with
        | .error e => .error e
        | .ok (is, r2) => .ok (i :: is, r2)) else .ok ([], ts) := rfl
  rw [e, if_neg h]
  simp [pre]
/-- how many words come: off the parser's own cell -/
def comes (w : World) (gp : Nat) : Nat := match w.cell? ⟨gp, 0, none⟩ with
  | some (.slice _ n _) => n
  | _ => 0
theorem PAt.comes {w : World} {gp d : Nat} {ts : List Tok} (h : PAt w gp ts d) : comes w gp = ts.length := by
  obtain ⟨g, o, cap, hb, _⟩ := h
  unfold lx.comes
  rw [show w.cell? ⟨gp, 0, none⟩ = some (.slice (some ⟨g, o, none⟩) ts.length cap) from hb.cell 0]
/-- the items so far -/
def AltR (k gp n b : Nat) (ts0 : List Tok) (P F : Nat) (w wr : World) : Prop := ∃ (done : List Itm) (ts : List Tok) (f : Nat) (iv : Value), PAt wr gp ts (16 - k) ∧ Good ts ∧ ts.length ≤ f ∧ done.length + f ≤ n ∧ Blk wr (b + 1) 45 #[.int .i64 P, .float .f64 F, iv] ∧ Blk wr b 45 #[.int .i64 0, .float .f64 0, .slice none 0 0] ∧ OwnOf 5 (EItm (AltsAt k)) 47 (b + 2) wr iv done ∧ Kp (fun i => i = gp) w wr ∧ b + 2 ≤ wr.heap.size ∧ pre done (pItems (pSub k) f ts) = pItems (pSub k) n ts0
theorem kp_end3 (w : World) (b0 : Nat) (v0 v1 v2 : Value) : Kp (fun i => i = b0) w (((w.setCell ⟨b0, 0, none⟩ v0).setCell ⟨b0, 1, none⟩ v1).setCell ⟨b0, 2, none⟩ v2) := ((kp_at _ _ _ _).trans (kp_at _ _ _ _)).trans (kp_at _ _ _ _)
theorem altR_step (k gp n : Nat) (ts0 : List Tok) (P F : Nat) (w wr w3 w4 : World) (done : List Itm) (dn : Nat) (us : List (List Value)) (ts r2 : List Tok) (f : Nat) (i : Itm) (ao ao2 : Option Addr) (icap c2 g4 cap4 : Nat) (hgp : gp < w.heap.size) (hz1 : w.heap.size + 2 ≤ wr.heap.size)
    (hdn : done.length = dn) (hdf : dn + (f + 1) ≤ n) (hlr : r2.length ≤ ts.length - 1) (htf : ts.length ≤ f + 1) (h0 : 0 < ts.length) (hpr : PAt wr gp ts (16 - k)) (hB0 : Blk wr w.heap.size 45 #[.int .i64 0, .float .f64 0, .slice none 0 0]) (hK1 : Kp (fun i => i = gp) w wr)
    (how : wr.ownsRow (w.heap.size + 2) 47 5 (.slice ao dn icap) dn us.flatten) (hus1 : us.length = dn) (hus2 : ∀ u ∈ us, u.length = 5) (hus4 : ∀ (j : Nat) (x : Itm), done[j]? = some x → ∃ cs, us[j]? = some cs ∧ EItm (AltsAt k) wr (fun g => w.heap.size + 2 ≤ g ∧ some g ≠ (Value.slice ao dn icap).ownBlock) x cs)
    (hv3 : AltsAt k w3 (fun g => wr.heap.size ≤ g) (.slice ao2 i.alts.length c2) i.alts) (hp3 : PAt w3 gp r2 (16 - k)) (hg3 : Good r2) (hk3 : Kp (fun i => i = gp) wr w3)
    (hown4 : w4.ownsRow (w.heap.size + 2) 47 5 (.slice (some ⟨g4, 0, none⟩) (dn + 1) cap4) (dn + 1) (us.flatten ++ ItmC i (.slice ao2 i.alts.length c2))) (hgrow4 : (w3.alloc (.cells (ItmC i (.slice ao2 i.alts.length c2)).toArray 47)).grownBy w4 (Value.slice ao dn icap).ownBlock) (hat4 : (Value.slice ao dn icap).ownBlock = some g4 ∨ g4 = w3.heap.size + 1)
    (hB4 : Blk w4 (w.heap.size + 1) 45 #[.int .i64 P, .float .f64 F, .slice ao dn icap]) (hpre : pre (done ++ [i]) (pItems (pSub k) f r2) = pItems (pSub k) n ts0) :
    AltR k gp n w.heap.size ts0 P F w (w4.setCell ⟨w.heap.size + 1, 2, none⟩ (.slice (some ⟨g4, 0, none⟩) (dn + 1) cap4)) ∧ comes (w4.setCell ⟨w.heap.size + 1, 2, none⟩ (.slice (some ⟨g4, 0, none⟩) (dn + 1) cap4)) gp < comes wr gp := by
  have hz3 := hk3.size
  have hrow : ∀ j, (Value.slice ao dn icap).ownBlock = some j → w.heap.size + 2 ≤ j ∧ j < wr.heap.size := fun j e => how.lt j e
  have kg := Kp.of_grown hgrow4
  have ka : Kp (fun _ => False) w3 (w3.alloc (.cells (ItmC i (.slice ao2 i.alts.length c2)).toArray 47)) := Kp.alloc _ _ _
  have hz4 : w3.heap.size + 1 ≤ w4.heap.size := by have := kg.size; rw [World.size_alloc] at this; exact this
  have ks := kp_at w4 (w.heap.size + 1) 2 (.slice (some ⟨g4, 0, none⟩) (dn + 1) cap4)
  have hpF : PAt (w4.setCell ⟨w.heap.size + 1, 2, none⟩ (.slice (some ⟨g4, 0, none⟩) (dn + 1) cap4)) gp r2 (16 - k) :=
    ((hp3.kept ka (fun _ h => h.elim)).kept kg (fun j hj => by have := (hrow j hj).1; omega)).kept ks (fun j hj => by have : j = w.heap.size + 1 := hj; omega)
  have hdisj : some w.heap.size ≠ (Value.slice ao dn icap).ownBlock := fun e => by have := (hrow _ e.symm).1; omega
  have hE := keepsItm (keepsAlts k)
  have hblk : ∀ g, g < wr.heap.size → w.heap.size + 2 ≤ g → (w3.alloc (.cells (ItmC i (.slice ao2 i.alts.length c2)).toArray 47)).heap[g]? = wr.heap[g]? := fun g hg hb => (Below.heap_alloc w3 _ g (by omega)).trans (hk3.block g hg (by show ¬ g = gp; omega))
  have hO4 : OwnOf 5 (EItm (AltsAt k)) 47 (w.heap.size + 2) w4 (.slice (some ⟨g4, 0, none⟩) (dn + 1) cap4) (done ++ [i]) := by
    refine OwnOf.step hE (v := .slice ao dn icap) (us := us) (cs := ItmC i (.slice ao2 i.alts.length c2)) (hus1.trans hdn.symm) hus2 (fun j x hx => ?_) ⟨_, rfl, ?_⟩ rfl ?_ hgrow4 ?_
    · obtain ⟨cs, e, h⟩ := hus4 j x hx
      exact ⟨cs, e, hE _ _ _ _ _ _ h (fun g hg hA => ⟨hA, hblk g hg hA.1⟩) (by rw [World.size_alloc]; omega)⟩
    · refine keepsAlts k _ _ _ _ _ _ hv3 (fun g hg hA => ⟨⟨by omega, fun e => ?_⟩, Below.heap_alloc w3 _ g hg⟩) (by rw [World.size_alloc]; omega)
      have := (hrow g e.symm).2
      omega
    · rw [hdn]
      exact hown4
    · rcases hat4 with h | h
      · exact .inl h.symm
      · right
        rw [World.size_alloc, ← h]
        rfl
  refine ⟨⟨done ++ [i], r2, f, _, hpF, hg3, by omega, by rw [List.length_append, hdn]; simp; omega, hB4.set_ 2 _, ?_, hO4.keep hE (fun g hg hb => ?_) (by simp), ?_, by simp; omega, hpre⟩, ?_⟩
  · exact (Blk.grown ((hB0.kept hk3 (by show ¬ w.heap.size = gp; omega)).alloc _) hgrow4 hdisj).far (by show w.heap.size ≠ w.heap.size + 1; omega) _
  · exact Below.heap_setCell w4 _ _ g (by show g ≠ w.heap.size + 1; omega)
  · exact (((hK1.trans hk3).then_ ka (fun _ h => h.elim)).then_ kg (fun j hj => .inr (by have := (hrow j hj).1; omega))).then_ ks (fun j hj => .inr (by have : j = w.heap.size + 1 := hj; omega))
  · rw [hpF.comes, hpr.comes]
    omega
set_option maxRecDepth 100000 in
set_option maxHeartbeats 2000000 in
theorem alt_any (k : Nat) (hI : ItemOk k) : AltOk k := by
  intro w gp ts hk h hg hl
  obtain ⟨t, r, rfl⟩ := hg.ne
  have hgp := h.lt
  obtain ⟨g, o, cap, hb, hl1, hm, hne, hgs, hc⟩ := id h
  obtain ⟨c0, c1, c2, c3⟩ := tcells_head t r g o w hc
  have hp : w.cell? ⟨gp, 0, none⟩ = some (.slice (some ⟨g, o, none⟩) (t :: r).length cap) := hb.cell 0
  have hl0 : 0 < (t :: r).length := by simp
  have HH := Lib.hid h
  have HG := Lib.hid hg
  unfold maxLen at hm
  clear hc hb h
  by_cases k3 : t.kind = 3
  · have hgr := hg.tail (r := r) (by omega)
    have HR : Hid (pAlt (pSub k) (t :: r) = match pItems (pSub k) r.length r with
      | .error e => .error e
      | .ok (is, r) => .ok ((t.at_, t.wt, is), r)) := Lib.hid (by
        unfold pAlt
        rw [show wtTl (t :: r) = r from if_pos k3, show wtOf (hd (t :: r)) = t.wt from if_pos k3]
        rfl)
    generalize hX : pAlt (pSub k) (t :: r) = X at *
    have HTK := Lib.hid (fun w h => take_any w gp t r (16 - k) h hgr.pos)
    generalize hn' : (t :: r).length = n' at *
    generalize hn : r.length = n at *
    have HN := Lib.hid hn
    have HN' : Hid (n' = n + 1) := Lib.hid (by rw [← hn', ← hn]; rfl)
    have hl : n ≤ 70000 := by have := HN'.out; omega
    have HT := Lib.hid hI
    have HGR := Lib.hid hgr
    have c0 : w.cell? ⟨g, o, none⟩ = some (.int .i64 3) := by rw [c0, k3]; rfl
    obtain ⟨K, P, T, F⟩ := t
    clear k3 hX hn hI hg hn' hgr
    have hfld := fld3
    go_enter Tryz.func60, Tryz.ntmps60
    go_wp2_with fail
    have hk0 : Kp (fun i => i = gp) w ((w.alloc (.cells #[.int .i64 0, .float .f64 0, .slice none 0 0] 45)).alloc (.cells #[.int .i64 P, .float .f64 0, .slice none 0 0] 45)) := (Kp.alloc _ _ _).trans (Kp.alloc _ _ _)
    have b0 := (Blk.new w 45 #[.int .i64 0, .float .f64 0, .slice none 0 0]).alloc (.cells #[.int .i64 P, .float .f64 0, .slice none 0 0] 45)
    have b1 := Blk.new (w.alloc (.cells #[.int .i64 0, .float .f64 0, .slice none 0 0] 45)) 45 #[.int .i64 P, .float .f64 0, .slice none 0 0]
    rw [World.size_alloc] at b1
    refine (HTK.out _ ((HH.out.alloc _).alloc _)).mono ?_
    rintro e wt ⟨rfl, hpt, hkt⟩
    have hzt : w.heap.size + 2 ≤ wt.heap.size := by have := hkt.size; simp at this; omega
    have b0 := b0.kept hkt (by show ¬ w.heap.size = gp; omega)
    have b1 := b1.kept hkt (by show ¬ w.heap.size + 1 = gp; omega)
    have HKT := Lib.hid (hk0.trans hkt)
    have d1 : wt.cell? ⟨w.heap.size + 1, 1, none⟩ = some (.float .f64 0) := b1.cell 1
    have f1 := b1.frozen 1
    have HB0 := Lib.hid b0
    have HB1 := Lib.hid b1
    have HPT := Lib.hid hpt
    clear b0 b1 hk0 hkt hpt c0 c1 c2 c3 hp
    go_wp2_with fail
    have ks := kp_at wt (w.heap.size + 1) 1 (.float .f64 F)
    have hst : AltR k gp n w.heap.size r P F w (wt.setCell ⟨w.heap.size + 1, 1, none⟩ (.float .f64 F)) :=
      ⟨[], r, n, .slice none 0 0, HPT.out.kept ks (fun i hi => by have : i = w.heap.size + 1 := hi; omega), HGR.out, Nat.le_of_eq HN.out, by simp, HB1.out.set_ 1 _, HB0.out.far (by show w.heap.size ≠ w.heap.size + 1; omega) _, OwnOf.nil _ _ _, HKT.out.then_ ks (fun i hi => .inr (by have : i = w.heap.size + 1 := hi; omega)), by simpa using hzt, pre_nil _⟩
    have HST := Lib.hid hst
    clear hst ks d1 f1 HB0 HB1 HPT HKT hzt
    go_loopw [] (fun wr => AltR k gp n w.heap.size r P F w wr) (fun wr => comes wr gp)
    case atStart => exact HST.out
    case round =>
      obtain ⟨done, ts, f, iv, hp1, hg1, hf, hdf, b1, b0, ho, hk1, hz1, hpre⟩ := hrel
      have ha := atitem_any wr gp ts _ hp1 hg1
      obtain ⟨f, rfl⟩ : ∃ f', f = f' + 1 := ⟨f - 1, by have := hg1.pos; omega⟩
      have HO := Lib.hid ho
      obtain ⟨ao, icap, rfl⟩ : ∃ ao cap, iv = .slice ao done.length cap := by
        obtain ⟨us, _, _, h3, _⟩ := ho
        exact own_form h3
      have HP1 := Lib.hid hp1
      have HG1 := Lib.hid hg1
      have HK1 := Lib.hid hk1
      clear ho hp1 hk1
      by_cases hat : atIt (hd ts) = true
      · rw [hat] at ha
        have HB0 := Lib.hid b0
        have HB1 := Lib.hid b1
        have hc2 : wr.cell? ⟨w.heap.size + 1, 2, none⟩ = some (.slice ao done.length icap) := b1.cell 2
        clear b0 b1
        cases hi : pItem (pSub k) ts with
        | error p =>
          have HPR : Hid (pItems (pSub k) n r = .error p) := Lib.hid (by rw [← hpre]; exact pre_err _ _ _ _ _ hat hi)
          have hit : ∀ wx, Qt wr wx → Calls Tryz.prog 68 #[.pointer (some ⟨gp, 0, none⟩)] wx fun e w3 => e = .panicked [{ v := Wrong p.1 p.2, recovered := false }] ∧ Kp (fun i => i = gp) wr w3 := fun wx hq => by
            have hkq : Kp (fun i => i = gp) wr wx := Kp.of_below (hq.below (B := wr.heap.size)) (Nat.le_refl _)
            have h1 := HT.out wx gp ts hk (HP1.out.kept (Kp.of_below (S := fun _ => False) (hq.below (B := wr.heap.size)) (Nat.le_refl _)) (fun _ h => h.elim)) HG1.out (by omega) hat
            rw [hi] at h1
            exact h1.mono fun e w3 ⟨h2, h3⟩ => ⟨h3, hkq.trans h2⟩
          have HIT := Lib.hid hit
          clear hit hi hat hpre
          go_wp2_with (go_at_call 67; refine ha.mono ?_; rintro e w1 ⟨rfl, rfl⟩)
          refine wp_region_any (by kernel_rfl) ?_
          change wpAny _ _ _ _ _ _ _ (World.drew _)
          refine wpAny_take (i := 0) (v := ?_) rfl (by kernel_rfl) (by kernel_rfl) (by kernel_rfl) (fun _ _ _ h => h) (Or.inl ⟨by rfl, ?_⟩) ?_
          rotate_left
          · intro w
            go_simp
            with_reducible rfl
          refine wpAny_take (i := 2) (v := ?_) rfl (by kernel_rfl) (by kernel_rfl) (by kernel_rfl) (fun _ _ _ h => h) (Or.inl ⟨by rfl, ?_⟩) ?_
          rotate_left
          · intro w
            go_simp
            with_reducible rfl
          refine wpAny_ready (rs := [1, 3]) (by kernel_rfl) (by simp) ?_
          refine AllReady.cons rfl (fun K hK => ?_) (AllReady.cons rfl (fun K hK => ?_) AllReady.nil)
          · go_simp
            refine hK _ _ ?_
            clear hK K
            refine wpAny_ready (rs := [3]) (by kernel_rfl) (by simp) ?_
            refine AllReady.cons rfl (fun K hK => ?_) AllReady.nil
            go_simp
            refine (HIT.out _ ⟨1, rfl⟩).mono ?_
            rintro e w3 ⟨rfl, hk3⟩
            exact ⟨rfl, HK1.out.trans hk3, by rw [HR.out, HPR.out]⟩
          · go_simp
            refine (HIT.out _ ⟨1, rfl⟩).mono ?_
            rintro e w3 ⟨rfl, hk3⟩
            exact ⟨rfl, HK1.out.trans hk3, by rw [HR.out, HPR.out]⟩
        | ok x =>
          obtain ⟨i, r2⟩ := x
          have HPR : Hid (pre (done ++ [i]) (pItems (pSub k) f r2) = pItems (pSub k) n r) := Lib.hid (by rw [← hpre, pre_step _ _ _ _ _ _ hat hi])
          have hit : ∀ wx, Qt wr wx → Calls Tryz.prog 68 #[.pointer (some ⟨gp, 0, none⟩)] wx fun e w3 => ∃ (ao2 : Option Addr) (c2 : Nat), e = .returned (.agg #[.int .i64 i.at_, .int .i64 i.kind, .string (S i.text), .slice ao2 i.alts.length c2, .int .u8 i.op]) ∧ AltsAt k w3 (fun g => wr.heap.size ≤ g) (.slice ao2 i.alts.length c2) i.alts ∧ PAt w3 gp r2 (16 - k) ∧ Good r2 ∧ r2.length ≤ ts.length - 1 ∧ Kp (fun i => i = gp) wr w3 := fun wx hq => by
            have hkq : Kp (fun i => i = gp) wr wx := Kp.of_below (hq.below (B := wr.heap.size)) (Nat.le_refl _)
            have hsz : wx.heap.size = wr.heap.size := by
              obtain ⟨m, rfl⟩ := hq
              rfl
            have h1 := HT.out wx gp ts hk (HP1.out.kept (Kp.of_below (S := fun _ => False) (hq.below (B := wr.heap.size)) (Nat.le_refl _)) (fun _ h => h.elim)) HG1.out (by omega) hat
            rw [hi, hsz] at h1
            refine h1.mono ?_
            rintro e w3 ⟨h2, v, rfl, ⟨av, rfl, hv⟩, h3, h4, h5⟩
            obtain ⟨ao2, c2, rfl⟩ := hv.form
            exact ⟨ao2, c2, rfl, hv, h3, h4, h5, hkq.trans h2⟩
          have HIT := Lib.hid hit
          have hlen := hg1.pos
          have hbd := hdf
          clear hit hi hat hpre
          obtain ⟨us, hus1, hus2, how, hus4⟩ := HO.out
          have HOW := Lib.hid how
          have HU1 := Lib.hid hus1
          have HU2 := Lib.hid hus2
          have HU4 := Lib.hid hus4
          generalize hdn : done.length = dn at *
          have HDN := Lib.hid hdn
          clear how hus1 hus2 hus4 hdn
          obtain ⟨i1, ki, kz0, kz1, kz2⟩ := info_parts info_item
          go_wp2_with (go_at_call 67; refine ha.mono ?_; rintro e w1 ⟨rfl, rfl⟩)
          go_region_law ((first
            | (go_simp; go_at_call 68; refine (HIT.out _ ?_).mono ?_; (first | exact ⟨1, rfl⟩ | exact ⟨0, rfl⟩); rintro e w3 ⟨ao2, c2, rfl, hv3, hp3, hg3, hl3, hk3⟩; have hc3 := hk3.cell hc2 (by show ¬ w.heap.size + 1 = gp; omega); have hlt3 : w.heap.size + 1 < w3.heap.size := (by have := hk3.size; omega); have how3 := ownsRow_keep HOW.out (fun g hg hv => hk3.block g hg (by have := (HOW.out.lt g hv).1; show ¬ g = gp; omega)); have hB3 := HB1.out.kept hk3 (by show ¬ w.heap.size + 1 = gp; omega))
            | (refine step_append_lies _ (by rfl) (.tmp 27) (.tmp 30) 43 (by rfl) (w.heap.size + 2) 47 i1 (.agg #[.int .i64 0, .int .i64 0, .string ⟨#[]⟩, .slice none 0 0, .int .u8 0]) 5 64 Tryz.underlying43 ki kz0 kz1 kz2 (by rfl) (by decide) (.slice ao dn icap) dn us.flatten (by rfl) (how3.alloc _) ⟨w3.heap.size, 0, none⟩ 1 1 (ItmC i (.slice ao2 i.alts.length c2)) (by rfl) (by rfl) (new_cells _ _ _) (itm_one _ _ _ _) (by decide) (by unfold maxLen; omega) (by omega) (by rw [World.size_alloc]; omega) (w3.heap.size + 1) (World.size_alloc _ _) ?_; intro g4 cap4 w4 hown4 hgrow4 hat4 hlt4; have hB4 := (hB3.alloc (.cells #[.int .i64 i.at_, .int .i64 i.kind, .string (S i.text), .slice ao2 i.alts.length c2, .int .u8 i.op] 47)).grown hgrow4 (own_apart HOW.out (by omega)); have hc4 := hB4.cell 2; have hf4 := hB4.frozen 2; have hl4 := hB4.lt)))
          all_goals
            go_wp2
            exact altR_step k gp n _ P F w wr w3 w4 done dn us ts r2 f i ao ao2 icap c2 g4 cap4 hgp hz1 HDN.out hdf hl3 hf hlen HP1.out HB0.out HK1.out HOW.out HU1.out HU2.out HU4.out hv3 hp3 hg3 hk3 hown4 hgrow4 hat4 hB4 HPR.out
      · rw [Bool.not_eq_true] at hat
        rw [hat] at ha
        have HPR : Hid (pItems (pSub k) n r = .ok (done, ts)) := Lib.hid (by rw [← hpre]; exact pre_end _ _ _ _ (by rw [hat]; decide))
        have HL := Lib.hid (HO.out.done (keepsItm (keepsAlts k)))
        have l0 := b0.lt
        have l1 := b1.lt
        have x0 := b0.cell 0
        have x1 := b0.cell 1
        have x2 := b0.cell 2
        have y0 := b1.cell 0
        have y1 := b1.cell 1
        have y2 := b1.cell 2
        simp only [List.getElem?_toArray, List.getElem?_cons_zero, List.getElem?_cons_succ] at x0 x1 x2 y0 y1 y2
        have u0 := b0.frozen 0
        have u1 := b0.frozen 1
        have u2 := b0.frozen 2
        clear b0 b1 hpre hat
        go_wp2_with (go_at_call 67; refine ha.mono ?_; rintro e w1 ⟨rfl, rfl⟩)
        have hke := kp_end3 wr w.heap.size (.int .i64 P) (.float .f64 F) (.slice ao done.length icap)
        refine bodyPost_ret (v := .agg #[.int .i64 P, .float .f64 F, .slice ao done.length icap]) (by simp [results, Tryz.results60, go_sem, x0, x1, x2]) rfl ⟨HK1.out.then_ hke (fun i hi => .inr (by have : i = w.heap.size := hi; omega)), ?_⟩
        rw [HR.out, HPR.out]
        refine ⟨_, rfl, ⟨.slice ao done.length icap, rfl, HL.out.keep (keepsItm (keepsAlts k)) (fun g hg hA => ⟨by omega, hke.block g hg (by show ¬ g = w.heap.size; omega)⟩) hke.size⟩, HP1.out.kept hke (fun i hi => by have : i = w.heap.size := hi; omega), HG1.out, ?_⟩
        have := HN'.out
        omega
  · have HR : Hid (pAlt (pSub k) (t :: r) = match pItems (pSub k) (t :: r).length (t :: r) with
      | .error e => .error e
      | .ok (is, r) => .ok ((t.at_, 0, is), r)) := Lib.hid (by
        unfold pAlt
        rw [show wtTl (t :: r) = t :: r from if_neg k3, show wtOf (hd (t :: r)) = 0 from if_neg k3]
        rfl)
    generalize hX : pAlt (pSub k) (t :: r) = X at *
    have hk3 : ((t.kind : Int) == 3) = false := by rw [beq_eq_false_iff_ne]; omega
    generalize hn : (t :: r).length = n at *
    have HN := Lib.hid hn
    have HT := Lib.hid hI
    obtain ⟨K, P, T, F⟩ := t
    clear k3 hX hn hI hg
    go_enter Tryz.func60, Tryz.ntmps60
    go_wp2_with fail
    have hk0 : Kp (fun i => i = gp) w ((w.alloc (.cells #[.int .i64 0, .float .f64 0, .slice none 0 0] 45)).alloc (.cells #[.int .i64 P, .float .f64 0, .slice none 0 0] 45)) := (Kp.alloc _ _ _).trans (Kp.alloc _ _ _)
    have b0 := (Blk.new w 45 #[.int .i64 0, .float .f64 0, .slice none 0 0]).alloc (.cells #[.int .i64 P, .float .f64 0, .slice none 0 0] 45)
    have b1 := Blk.new (w.alloc (.cells #[.int .i64 0, .float .f64 0, .slice none 0 0] 45)) 45 #[.int .i64 P, .float .f64 0, .slice none 0 0]
    rw [World.size_alloc] at b1
    have hst : AltR k gp n w.heap.size (⟨K, P, T, F⟩ :: r) P 0 w ((w.alloc (.cells #[.int .i64 0, .float .f64 0, .slice none 0 0] 45)).alloc (.cells #[.int .i64 P, .float .f64 0, .slice none 0 0] 45)) :=
      ⟨[], ⟨K, P, T, F⟩ :: r, n, .slice none 0 0, (HH.out.alloc _).alloc _, HG.out, Nat.le_of_eq HN.out, by simp, b1, b0, OwnOf.nil _ _ _, hk0, by simp, pre_nil _⟩
    have HST := Lib.hid hst
    clear b0 b1 hst hk0
    go_loopw [] (fun wr => AltR k gp n w.heap.size (⟨K, P, T, F⟩ :: r) P 0 w wr) (fun wr => comes wr gp)
    case atStart => exact HST.out
    case round =>
      obtain ⟨done, ts, f, iv, hp1, hg1, hf, hdf, b1, b0, ho, hk1, hz1, hpre⟩ := hrel
      have ha := atitem_any wr gp ts _ hp1 hg1
      obtain ⟨f, rfl⟩ : ∃ f', f = f' + 1 := ⟨f - 1, by have := hg1.pos; omega⟩
      have HO := Lib.hid ho
      obtain ⟨ao, icap, rfl⟩ : ∃ ao cap, iv = .slice ao done.length cap := by
        obtain ⟨us, _, _, h3, _⟩ := ho
        exact own_form h3
      have HP1 := Lib.hid hp1
      have HG1 := Lib.hid hg1
      have HK1 := Lib.hid hk1
      clear ho hp1 hk1
      by_cases hat : atIt (hd ts) = true
      · rw [hat] at ha
        have HB0 := Lib.hid b0
        have HB1 := Lib.hid b1
        have hc2 : wr.cell? ⟨w.heap.size + 1, 2, none⟩ = some (.slice ao done.length icap) := b1.cell 2
        clear b0 b1
        cases hi : pItem (pSub k) ts with
        | error p =>
          have HPR : Hid (pItems (pSub k) n (⟨K, P, T, F⟩ :: r) = .error p) := Lib.hid (by rw [← hpre]; exact pre_err _ _ _ _ _ hat hi)
          have hit : ∀ wx, Qt wr wx → Calls Tryz.prog 68 #[.pointer (some ⟨gp, 0, none⟩)] wx fun e w3 => e = .panicked [{ v := Wrong p.1 p.2, recovered := false }] ∧ Kp (fun i => i = gp) wr w3 := fun wx hq => by
            have hkq : Kp (fun i => i = gp) wr wx := Kp.of_below (hq.below (B := wr.heap.size)) (Nat.le_refl _)
            have h1 := HT.out wx gp ts hk (HP1.out.kept (Kp.of_below (S := fun _ => False) (hq.below (B := wr.heap.size)) (Nat.le_refl _)) (fun _ h => h.elim)) HG1.out (by omega) hat
            rw [hi] at h1
            exact h1.mono fun e w3 ⟨h2, h3⟩ => ⟨h3, hkq.trans h2⟩
          have HIT := Lib.hid hit
          clear hit hi hat hpre
          go_wp2_with (go_at_call 67; refine ha.mono ?_; rintro e w1 ⟨rfl, rfl⟩)
          refine wp_region_any (by kernel_rfl) ?_
          change wpAny _ _ _ _ _ _ _ (World.drew _)
          refine wpAny_take (i := 0) (v := ?_) rfl (by kernel_rfl) (by kernel_rfl) (by kernel_rfl) (fun _ _ _ h => h) (Or.inl ⟨by rfl, ?_⟩) ?_
          rotate_left
          · intro w
            go_simp
            with_reducible rfl
          refine wpAny_take (i := 2) (v := ?_) rfl (by kernel_rfl) (by kernel_rfl) (by kernel_rfl) (fun _ _ _ h => h) (Or.inl ⟨by rfl, ?_⟩) ?_
          rotate_left
          · intro w
            go_simp
            with_reducible rfl
          refine wpAny_ready (rs := [1, 3]) (by kernel_rfl) (by simp) ?_
          refine AllReady.cons rfl (fun K hK => ?_) (AllReady.cons rfl (fun K hK => ?_) AllReady.nil)
          · go_simp
            refine hK _ _ ?_
            clear hK K
            refine wpAny_ready (rs := [3]) (by kernel_rfl) (by simp) ?_
            refine AllReady.cons rfl (fun K hK => ?_) AllReady.nil
            go_simp
            refine (HIT.out _ ⟨1, rfl⟩).mono ?_
            rintro e w3 ⟨rfl, hk3⟩
            exact ⟨rfl, HK1.out.trans hk3, by rw [HR.out, HPR.out]⟩
          · go_simp
            refine (HIT.out _ ⟨1, rfl⟩).mono ?_
            rintro e w3 ⟨rfl, hk3⟩
            exact ⟨rfl, HK1.out.trans hk3, by rw [HR.out, HPR.out]⟩
        | ok x =>
          obtain ⟨i, r2⟩ := x
          have HPR : Hid (pre (done ++ [i]) (pItems (pSub k) f r2) = pItems (pSub k) n (⟨K, P, T, F⟩ :: r)) := Lib.hid (by rw [← hpre, pre_step _ _ _ _ _ _ hat hi])
          have hit : ∀ wx, Qt wr wx → Calls Tryz.prog 68 #[.pointer (some ⟨gp, 0, none⟩)] wx fun e w3 => ∃ (ao2 : Option Addr) (c2 : Nat), e = .returned (.agg #[.int .i64 i.at_, .int .i64 i.kind, .string (S i.text), .slice ao2 i.alts.length c2, .int .u8 i.op]) ∧ AltsAt k w3 (fun g => wr.heap.size ≤ g) (.slice ao2 i.alts.length c2) i.alts ∧ PAt w3 gp r2 (16 - k) ∧ Good r2 ∧ r2.length ≤ ts.length - 1 ∧ Kp (fun i => i = gp) wr w3 := fun wx hq => by
            have hkq : Kp (fun i => i = gp) wr wx := Kp.of_below (hq.below (B := wr.heap.size)) (Nat.le_refl _)
            have hsz : wx.heap.size = wr.heap.size := by
              obtain ⟨m, rfl⟩ := hq
              rfl
            have h1 := HT.out wx gp ts hk (HP1.out.kept (Kp.of_below (S := fun _ => False) (hq.below (B := wr.heap.size)) (Nat.le_refl _)) (fun _ h => h.elim)) HG1.out (by omega) hat
            rw [hi, hsz] at h1
            refine h1.mono ?_
            rintro e w3 ⟨h2, v, rfl, ⟨av, rfl, hv⟩, h3, h4, h5⟩
            obtain ⟨ao2, c2, rfl⟩ := hv.form
            exact ⟨ao2, c2, rfl, hv, h3, h4, h5, hkq.trans h2⟩
          have HIT := Lib.hid hit
          have hlen := hg1.pos
          have hbd := hdf
          clear hit hi hat hpre
          obtain ⟨us, hus1, hus2, how, hus4⟩ := HO.out
          have HOW := Lib.hid how
          have HU1 := Lib.hid hus1
          have HU2 := Lib.hid hus2
          have HU4 := Lib.hid hus4
          generalize hdn : done.length = dn at *
          have HDN := Lib.hid hdn
          clear how hus1 hus2 hus4 hdn
          obtain ⟨i1, ki, kz0, kz1, kz2⟩ := info_parts info_item
          go_wp2_with (go_at_call 67; refine ha.mono ?_; rintro e w1 ⟨rfl, rfl⟩)
          go_region_law ((first
            | (go_simp; go_at_call 68; refine (HIT.out _ ?_).mono ?_; (first | exact ⟨1, rfl⟩ | exact ⟨0, rfl⟩); rintro e w3 ⟨ao2, c2, rfl, hv3, hp3, hg3, hl3, hk3⟩; have hc3 := hk3.cell hc2 (by show ¬ w.heap.size + 1 = gp; omega); have hlt3 : w.heap.size + 1 < w3.heap.size := (by have := hk3.size; omega); have how3 := ownsRow_keep HOW.out (fun g hg hv => hk3.block g hg (by have := (HOW.out.lt g hv).1; show ¬ g = gp; omega)); have hB3 := HB1.out.kept hk3 (by show ¬ w.heap.size + 1 = gp; omega))
            | (refine step_append_lies _ (by rfl) (.tmp 27) (.tmp 30) 43 (by rfl) (w.heap.size + 2) 47 i1 (.agg #[.int .i64 0, .int .i64 0, .string ⟨#[]⟩, .slice none 0 0, .int .u8 0]) 5 64 Tryz.underlying43 ki kz0 kz1 kz2 (by rfl) (by decide) (.slice ao dn icap) dn us.flatten (by rfl) (how3.alloc _) ⟨w3.heap.size, 0, none⟩ 1 1 (ItmC i (.slice ao2 i.alts.length c2)) (by rfl) (by rfl) (new_cells _ _ _) (itm_one _ _ _ _) (by decide) (by unfold maxLen; omega) (by omega) (by rw [World.size_alloc]; omega) (w3.heap.size + 1) (World.size_alloc _ _) ?_; intro g4 cap4 w4 hown4 hgrow4 hat4 hlt4; have hB4 := (hB3.alloc (.cells #[.int .i64 i.at_, .int .i64 i.kind, .string (S i.text), .slice ao2 i.alts.length c2, .int .u8 i.op] 47)).grown hgrow4 (own_apart HOW.out (by omega)); have hc4 := hB4.cell 2; have hf4 := hB4.frozen 2; have hl4 := hB4.lt)))
          all_goals
            go_wp2
            exact altR_step k gp n _ P 0 w wr w3 w4 done dn us ts r2 f i ao ao2 icap c2 g4 cap4 hgp hz1 HDN.out hdf hl3 hf hlen HP1.out HB0.out HK1.out HOW.out HU1.out HU2.out HU4.out hv3 hp3 hg3 hk3 hown4 hgrow4 hat4 hB4 HPR.out
      · rw [Bool.not_eq_true] at hat
        rw [hat] at ha
        have HPR : Hid (pItems (pSub k) n (⟨K, P, T, F⟩ :: r) = .ok (done, ts)) := Lib.hid (by rw [← hpre]; exact pre_end _ _ _ _ (by rw [hat]; decide))
        have HL := Lib.hid (HO.out.done (keepsItm (keepsAlts k)))
        have l0 := b0.lt
        have l1 := b1.lt
        have x0 := b0.cell 0
        have x1 := b0.cell 1
        have x2 := b0.cell 2
        have y0 := b1.cell 0
        have y1 := b1.cell 1
        have y2 := b1.cell 2
        simp only [List.getElem?_toArray, List.getElem?_cons_zero, List.getElem?_cons_succ] at x0 x1 x2 y0 y1 y2
        have u0 := b0.frozen 0
        have u1 := b0.frozen 1
        have u2 := b0.frozen 2
        clear b0 b1 hpre hat
        go_wp2_with (go_at_call 67; refine ha.mono ?_; rintro e w1 ⟨rfl, rfl⟩)
        have hke := kp_end3 wr w.heap.size (.int .i64 P) (.float .f64 0) (.slice ao done.length icap)
        refine bodyPost_ret (v := .agg #[.int .i64 P, .float .f64 0, .slice ao done.length icap]) (by simp [results, Tryz.results60, go_sem, x0, x1, x2]) rfl ⟨HK1.out.then_ hke (fun i hi => .inr (by have : i = w.heap.size := hi; omega)), ?_⟩
        rw [HR.out, HPR.out]
        refine ⟨_, rfl, ⟨.slice ao done.length icap, rfl, HL.out.keep (keepsItm (keepsAlts k)) (fun g hg hA => ⟨by omega, hke.block g hg (by show ¬ g = w.heap.size; omega)⟩) hke.size⟩, HP1.out.kept hke (fun i hi => by have : i = w.heap.size := hi; omega), HG1.out, ?_⟩
        omega
end Go.Proofs.YtdddbkghleblhaaGreatDoor.lx
namespace Go.Proofs.YtdddbkghleblhaaGreatDoor.lx
open Go.ChangeShapes Go.WideShapes Go.ChangeAt Go.RowKit
set_option linter.unusedVariables false
attribute [local go_sem] run_store_float
/-! alternatives -/
theorem info_alt : (Tryz.prog.info? 45).map (fun i => (i.zero, i.size, i.bytes)) = some (some (.agg #[.int .i64 0, .float .f64 0, .slice none 0 0]), 3, 40) := by kernel_rfl
def preA (done : List Altn) (x : Res (List Altn)) : Res (List Altn) := match x with
  | .error e => .error e
  | .ok (as_, r) => .ok (done ++ as_, r)
theorem more_eq (sub : List Tok → Res (List Altn)) (f : Nat) (ts : List Tok) : pMore sub (f + 1) ts = if sg ts = 124 then (match pAlt sub ts.tail with
      | .error e => .error e
      | .ok (a, r) => match pMore sub f r with
        | .error e => .error e
        | .ok (as_, r2) => .ok (a :: as_, r2)) else .ok ([], ts) := rfl
theorem preA_step (sub : List Tok → Res (List Altn)) (done : List Altn) (f : Nat) (ts r : List Tok) (a : Altn) (h : sg ts = 124) (hi : pAlt sub ts.tail = .ok (a, r)) : preA done (pMore sub (f + 1) ts) = preA (done ++ [a]) (pMore sub f r) := by
  rw [more_eq, if_pos h, hi]
  show preA done (match pMore sub f r with
        | .error e => .error e
        | .ok (as_, r2) => .ok (a :: as_, r2)) = _
  cases hx : pMore sub f r with
  | error e => rfl
  | ok x => simp [preA]
theorem preA_err (sub : List Tok → Res (List Altn)) (done : List Altn) (f : Nat) (ts : List Tok) (p : Nat × Nat) (h : sg ts = 124) (hi : pAlt sub ts.tail = .error p) : preA done (pMore sub (f + 1) ts) = .error p := by
  rw [more_eq, if_pos h, hi]
  rfl
theorem preA_end (sub : List Tok → Res (List Altn)) (done : List Altn) (f : Nat) (ts : List Tok) (h : ¬ sg ts = 124) : preA done (pMore sub (f + 1) ts) = .ok (done, ts) := by
  rw [more_eq, if_neg h]
  simp [preA]
theorem alts_eq (sub : List Tok → Res (List Altn)) (ts r : List Tok) (a : Altn) (h : pAlt sub ts = .ok (a, r)) : preA [a] (pMore sub r.length r) = pAlts sub ts := by
  unfold pAlts
  rw [h]
  show preA [a] (pMore sub r.length r) = (match pMore sub r.length r with
  | .error e => (.error e : Res (List Altn))
  | .ok (as_, r2) => .ok (a :: as_, r2))
  cases hx : pMore sub r.length r with
  | error e => rfl
  | ok x => rfl
theorem alt_one (a : Altn) (ao : Option Addr) (n c : Nat) : ∀ z ∈ AltC a (.slice ao n c), z.oneCell' = true := by
  intro z hz
  simp [AltC] at hz
  rcases hz with rfl | rfl | rfl <;> rfl
/-- an own row and an element more -/
theorem own_more {α : Type} {c : Nat} {E : Elem α} (hE : Keeps E) {ty B : Nat} {wr w3 w4 : World} {v v4 : Value} {xs : List α} {x : α} {cs : List Value} {us : List (List Value)} (hus1 : us.length = xs.length) (hus2 : ∀ u ∈ us, u.length = c) (hus4 : ∀ (j : Nat) (x : α), xs[j]? = some x → ∃ cs, us[j]? = some cs ∧ E wr (fun g => B ≤ g ∧ some g ≠ v.ownBlock) x cs)
    (how : wr.ownsRow B ty c v xs.length us.flatten) (hk : ∀ g, g < wr.heap.size → B ≤ g → w3.heap[g]? = wr.heap[g]?) (hz : wr.heap.size ≤ w3.heap.size) (hx : E w3 (fun g => wr.heap.size ≤ g) x cs) (hc : cs.length = c) (hB : B ≤ wr.heap.size)
    (hown4 : w4.ownsRow B ty c v4 (xs.length + 1) (us.flatten ++ cs)) (hgrow4 : (w3.alloc (.cells cs.toArray ty)).grownBy w4 v.ownBlock) (hat4 : v4.ownBlock = v.ownBlock ∨ v4.ownBlock = some (w3.alloc (.cells cs.toArray ty)).heap.size) : OwnOf c E ty B w4 v4 (xs ++ [x]) := by
  refine OwnOf.step hE hus1 hus2 (fun j y hy => ?_) ?_ hc hown4 hgrow4 hat4
  · obtain ⟨ds, e, h⟩ := hus4 j y hy
    exact ⟨ds, e, hE _ _ _ _ _ _ h (fun g hg hA => ⟨hA, (Below.heap_alloc w3 _ g (by omega)).trans (hk g hg hA.1)⟩) (by rw [World.size_alloc]; omega)⟩
  · refine hE _ _ _ _ _ _ hx (fun g hg hA => ⟨⟨by omega, fun e => ?_⟩, Below.heap_alloc w3 _ g hg⟩) (by rw [World.size_alloc]; omega)
    have := (how.lt g e.symm).2
    omega
theorem ListOf.form {α : Type} {c : Nat} {E : Elem α} {w : World} {A : Nat → Prop} {v : Value} {xs : List α} (h : ListOf c E w A v xs) : ∃ ao cap, v = .slice ao xs.length cap := by
  obtain ⟨_, ao, cap, e, _⟩ := h
  exact ⟨ao, cap, e⟩
theorem AltV.form {k B : Nat} {w : World} {v : Value} {a : Altn} (h : AltV k B w v a) : ∃ ao c, v = .agg #[.int .i64 a.1, .float .f64 a.2.1, .slice ao a.2.2.length c] ∧ ListOf 5 (EItm (AltsAt k)) w (fun g => B ≤ g) (.slice ao a.2.2.length c) a.2.2 := by
  obtain ⟨iv, rfl, hv⟩ := h
  obtain ⟨ao, c, rfl⟩ := hv.form
  exact ⟨ao, c, rfl, hv⟩
set_option maxRecDepth 100000 in
set_option maxHeartbeats 2000000 in
theorem alts_any (k : Nat) (hA : AltOk k) : AltsOk k := by
  intro w gp ts hk h hg hl
  have hgp := h.lt
  have hE := keepsAlt (keepsAlts k)
  obtain ⟨i1, ki, kz0, kz1, kz2⟩ := info_parts info_alt
  have HA := Lib.hid hA
  have h1 := hA w gp ts hk h hg hl
  rw [pA_sub]
  generalize hn : ts.length = n at *
  clear hA h hg
  cases hx : pAlt (pSub k) ts with
  | error p =>
    rw [hx] at h1
    have HR : Hid (pAlts (pSub k) ts = .error p) := Lib.hid (by unfold pAlts; rw [hx])
    clear hx
    go_enter Tryz.func46, Tryz.ntmps46
    go_wp2_with fail
    refine h1.mono ?_
    rintro e w1 ⟨hk1, rfl⟩
    go_wp2_with fail
    exact ⟨rfl, hk1, by rw [HR.out]⟩
  | ok x =>
    obtain ⟨a, r⟩ := x
    rw [hx] at h1
    have HR := Lib.hid (alts_eq _ _ _ _ hx)
    clear hx
    go_enter Tryz.func46, Tryz.ntmps46
    go_wp2_with fail
    refine h1.mono ?_
    rintro e w1 ⟨hk1, v, rfl, hv, hp1, hg1, hl1⟩
    obtain ⟨ao, c, rfl, hva⟩ := AltV.form hv
    clear hv
    have hv := hva
    clear hva
    have hz1 := hk1.size
    have hol : OwnOf 3 (EAlt (AltsAt k)) 45 w.heap.size (w1.alloc (.cells #[.int .i64 a.1, .float .f64 a.2.1, .slice ao a.2.2.length c] 45)) (.slice (some ⟨w1.heap.size, 0, none⟩) 1 1) [a] := OwnOf.lit1 hE 45 w.heap.size w1 hz1 a (AltC a (.slice ao a.2.2.length c)) rfl ⟨_, rfl, hv⟩
    have HST : Hid (PAt (w1.alloc (.cells #[.int .i64 a.1, .float .f64 a.2.1, .slice ao a.2.2.length c] 45)) gp r (16 - k) ∧ Good r ∧ r.length ≤ n ∧ Kp (fun i => i = gp) w (w1.alloc (.cells #[.int .i64 a.1, .float .f64 a.2.1, .slice ao a.2.2.length c] 45))) := Lib.hid ⟨hp1.alloc _, hg1, hl1, hk1.trans (Kp.alloc _ _ _)⟩
    have HOL := Lib.hid hol
    clear hol hv hp1 hg1 hl1 hk1 h1
    go_wp2_with fail
    go_loopw [3] (fun lv wr => ∃ (v : Value) (done : List Altn) (ts' : List Tok) (f : Nat), v = lv ∧ 1 ≤ done.length ∧ PAt wr gp ts' (16 - k) ∧ Good ts' ∧ ts'.length ≤ f ∧ done.length + f ≤ n + 1 ∧ OwnOf 3 (EAlt (AltsAt k)) 45 w.heap.size wr v done ∧ Kp (fun i => i = gp) w wr ∧ preA done (pMore (pSub k) f ts') = pAlts (pSub k) ts) (fun _ wr => comes wr gp)
    case atStart => exact ⟨_, [a], r, r.length, rfl, Nat.le_refl _, HST.out.1, HST.out.2.1, Nat.le_refl _, by have := HST.out.2.2.1; simp; omega, HOL.out, HST.out.2.2.2, HR.out⟩
    case round =>
      obtain ⟨lv, done, ts', f, rfl, hd1, hp1, hg1, hf, hdf, ho, hk1, hpre⟩ := hrel
      have hs := psign_any wr gp ts' _ hp1 hg1
      obtain ⟨f, rfl⟩ : ∃ f', f = f' + 1 := ⟨f - 1, by have := hg1.pos; omega⟩
      have hzr := hk1.size
      have HO := Lib.hid ho
      have HP1 := Lib.hid hp1
      have HG1 := Lib.hid hg1
      have HK1 := Lib.hid hk1
      have hsb := sg_byte hg1
      obtain ⟨s, hse⟩ : ∃ s, s = sg ts' := ⟨_, rfl⟩
      have HSE := Lib.hid hse
      rw [← hse] at hs hsb
      clear ho hp1 hk1 hse
      by_cases h124 : s = 124
      · subst h124
        obtain ⟨t2, r2, rfl, hst, hgr2⟩ := HG1.out.sg_tail (by rw [← HSE.out]; decide)
        have htk := take_any wr gp t2 r2 _ HP1.out hgr2.pos
        have hlr : r2.length + 1 ≤ f + 1 := hf
        cases hi : pAlt (pSub k) r2 with
        | error p =>
          have HPR : Hid (pAlts (pSub k) ts = .error p) := Lib.hid (by rw [← hpre]; exact preA_err _ _ _ _ _ HSE.out.symm hi)
          clear hpre
          go_wp2_with (first | (go_at_call 59; refine hs.mono ?_; rintro e w2 ⟨rfl, rfl⟩))
          refine htk.mono ?_
          rintro e w3 ⟨rfl, hp3, hk3⟩
          have h1 := HA.out w3 gp r2 hk hp3 hgr2 (by omega)
          rw [hi] at h1
          have hz3 := hk3.size
          clear hi
          go_wp2_with fail
          refine h1.mono ?_
          rintro e w4 ⟨hk4, rfl⟩
          go_wp2_with fail
          exact ⟨rfl, (HK1.out.trans hk3).trans hk4, by rw [HPR.out]⟩
        | ok x =>
          obtain ⟨a2, r3⟩ := x
          have HPR : Hid (preA (done ++ [a2]) (pMore (pSub k) f r3) = pAlts (pSub k) ts) := Lib.hid (by rw [← hpre, preA_step _ _ _ _ _ _ HSE.out.symm hi])
          clear hpre
          obtain ⟨us, hus1, hus2, how, hus4⟩ := HO.out
          obtain ⟨lo, lc, rfl⟩ := own_form how
          have HOW := Lib.hid how
          have HU4 := Lib.hid hus4
          have HU2 := Lib.hid hus2
          clear how hus4 hus2
          go_wp2_with (first | (go_at_call 59; refine hs.mono ?_; rintro e w2 ⟨rfl, rfl⟩))
          refine htk.mono ?_
          rintro e w3 ⟨rfl, hp3, hk3⟩
          have h1 := HA.out w3 gp r2 hk hp3 hgr2 (by omega)
          rw [hi] at h1
          have hz3 := hk3.size
          have HK3 := Lib.hid hk3
          clear hi hp3 hk3
          go_wp2_with fail
          refine h1.mono ?_
          rintro e w4 ⟨hk4, v4, rfl, hv4, hp4, hg4, hl4⟩
          obtain ⟨ao4, c4, rfl, hva⟩ := AltV.form hv4
          clear hv4
          have hv4 := hva
          clear hva
          have hz4 := hk4.size
          have hk34 := HK3.out.trans hk4
          have how4 := ownsRow_keep HOW.out (fun g hg hv => hk34.block g hg (by have := (HOW.out.lt g hv).1; show ¬ g = gp; omega))
          have HW4 := Lib.hid how4
          have HV4 := Lib.hid hv4
          have HK34 := Lib.hid hk34
          have HP4 := Lib.hid hp4
          clear how4 hv4 hk4 hk34 hp4 h1
          go_wp2_with (at_builtin; refine wpList_append_own_at _ rfl (.tmp 12) (.tmp 15) 32 rfl w.heap.size 45 i1 (.agg #[.int .i64 0, .float .f64 0, .slice none 0 0]) 3 40 Tryz.underlying32 ki kz0 kz1 kz2 rfl (by decide) _ done.length us.flatten rfl (HW4.out.alloc _) ⟨w4.heap.size, 0, none⟩ 1 1 (AltC a2 (.slice ao4 a2.2.2.length c4)) rfl rfl (new_cells _ _ _) (alt_one _ _ _ _) (by unfold maxLen; omega) (by omega) (by rw [World.size_alloc]; omega) ?_; intro v5 w5 hown5 hg5 _ hat5)
          have HB5 := Lib.hid (own_more hE hus1 HU2.out HU4.out HOW.out (fun g hg hb => HK34.out.block g hg (by show ¬ g = gp; omega)) (by omega) (hE _ _ _ _ _ _ ⟨_, rfl, HV4.out⟩ (fun g hg hA => ⟨Nat.le_trans hz3 hA, rfl⟩) (Nat.le_refl _)) rfl hzr hown5 hg5 hat5)
          have kg := Kp.of_grown hg5
          have hrow : ∀ j, (Value.slice lo done.length lc).ownBlock = some j → w.heap.size ≤ j := fun j e => (HOW.out.lt j e).1
          have HP5 := Lib.hid ((HP4.out.alloc (.cells #[.int .i64 a2.1, .float .f64 a2.2.1, .slice ao4 a2.2.2.length c4] 45)).kept kg (fun j hj => by have := hrow j hj; omega))
          have HK5 := Lib.hid (((HK1.out.trans HK34.out).trans (Kp.alloc _ w4 (.cells #[.int .i64 a2.1, .float .f64 a2.2.1, .slice ao4 a2.2.2.length c4] 45))).then_ kg (fun j hj => .inr (hrow j hj)))
          clear hown5 hg5 hat5 kg
          go_wp2_with fail
          refine ⟨⟨_, done ++ [a2], r3, f, rfl, by simp, HP5.out, hg4, by omega, by rw [List.length_append]; simp; omega, HB5.out, HK5.out, HPR.out⟩, ?_⟩
          rw [HP5.out.comes, HP1.out.comes]
          simp
          omega
      · have HPR : Hid (pAlts (pSub k) ts = .ok (done, ts')) := Lib.hid (by rw [← hpre]; exact preA_end _ _ _ _ (by rw [← HSE.out]; exact h124))
        have h124' : ((s : Int) == 124) = false := by rw [beq_eq_false_iff_ne]; omega
        have HL : Hid (AltsAt (k + 1) wr (fun g => w.heap.size ≤ g) lv done) := Lib.hid (HO.out.done hE)
        clear hpre h124
        go_wp2_with (first | (go_at_call 59; refine hs.mono ?_; rintro e w2 ⟨rfl, rfl⟩))
        go_ret
        refine ⟨HK1.out, ?_⟩
        rw [HPR.out]
        exact ⟨_, rfl, HL.out, HP1.out, HG1.out, by omega⟩
end Go.Proofs.YtdddbkghleblhaaGreatDoor.lx
namespace Go.Proofs.YtdddbkghleblhaaGreatDoor.lx
open Go.ChangeShapes Go.WideShapes Go.ChangeAt Go.RowKit
set_option linter.unusedVariables false
attribute [local go_sem] run_store_float
/-! a definition -/
theorem alts_all : ∀ k, AltsOk k
  | 0 => alts_any 0 (alt_any 0 (item_any 0 group_zero))
  | k + 1 => alts_any (k + 1) (alt_any (k + 1) (item_any (k + 1) (group_succ k (alts_all k))))
def DefV (B : Nat) : World → Value → Dfn → Prop := fun w' v d => ∃ av, v = .agg (DefC d av).toArray ∧ AltsAt 17 w' (fun g => B ≤ g) av d.2.2
theorem DefV.form {B : Nat} {w : World} {v : Value} {d : Dfn} (h : DefV B w v d) : ∃ ao c, v = .agg #[.int .i64 d.1, .string (S d.2.1), .slice ao d.2.2.length c] ∧ AltsAt 17 w (fun g => B ≤ g) (.slice ao d.2.2.length c) d.2.2 := by
  obtain ⟨iv, rfl, hv⟩ := h
  obtain ⟨ao, c, rfl⟩ := hv.form
  exact ⟨ao, c, rfl, hv⟩
theorem pdef_no (ts : List Tok) (h : ¬ (hd ts).kind = 1) : pDef ts = .error (5, (hd ts).at_) := if_neg h
theorem pdef_eq (t : Tok) (r : List Tok) (h : t.kind = 1) (h2 : ¬ sg r = 61) : pDef (t :: r) = .error (5, (hd r).at_) := (if_pos h).trans (if_neg h2)
theorem pdef_go (t : Tok) (r : List Tok) (h : t.kind = 1) (h2 : sg r = 61) : pDef (t :: r) = (match pShut 59 (pA 16 r.tail) with
      | .error e => .error e
      | .ok (as_, r) => .ok ((t.at_, t.text, as_), r)) := (if_pos h).trans (if_pos h2)
set_option maxRecDepth 100000 in
set_option maxHeartbeats 2000000 in
theorem def_any (w : World) (gp : Nat) (ts : List Tok) (h : PAt w gp ts 0) (hg : Good ts) (hl : ts.length ≤ 70000) : Calls Tryz.prog 27 #[.pointer (some ⟨gp, 0, none⟩)] w (Ans (DefV w.heap.size) gp 0 (ts.length - 1) w (pDef ts)) := by
  obtain ⟨t, r, rfl⟩ := hg.ne
  have hgp := h.lt
  obtain ⟨g, o, cap, hb, hl1, hm, hne, hgs, hc⟩ := id h
  obtain ⟨c0, c1, c2, c3⟩ := tcells_head t r g o w hc
  have hp : w.cell? ⟨gp, 0, none⟩ = some (.slice (some ⟨g, o, none⟩) (t :: r).length cap) := hb.cell 0
  have hl0 : 0 < (t :: r).length := by simp
  have HH := Lib.hid h
  have HG := Lib.hid hg
  have b0 := Blk.new w 34 #[.int .i64 0, .string ⟨#[]⟩, .slice none 0 0]
  have hk0 : Kp (fun i => i = gp) w (w.alloc (.cells #[.int .i64 0, .string ⟨#[]⟩, .slice none 0 0] 34)) := Kp.alloc _ _ _
  unfold maxLen at hm
  clear hc hb h
  by_cases k1 : t.kind = 1
  · have hgr := hg.tail (r := r) (by omega)
    have HTK := Lib.hid (fun w h => take_any w gp t r 0 h hgr.pos)
    have HGR := Lib.hid hgr
    have HK := Lib.hid k1
    have HN : Hid ((t :: r).length = r.length + 1) := Lib.hid rfl
    have HE1 := Lib.hid (pdef_eq t r k1)
    have HE2 := Lib.hid (pdef_go t r k1)
    generalize hX : pDef (t :: r) = X at *
    generalize (t :: r).length = n at *
    have c0 : w.cell? ⟨g, o, none⟩ = some (.int .i64 1) := by rw [c0, k1]; rfl
    obtain ⟨K, P, T, F⟩ := t
    have HB0 := Lib.hid b0
    have HK0 := Lib.hid hk0
    clear hg hgr k1 hX b0 hk0
    go_enter Tryz.func27, Tryz.ntmps27
    go_wp2_with fail
    refine (HTK.out _ (HH.out.alloc _)).mono ?_
    rintro e w1 ⟨rfl, hp1, hk1⟩
    have hz1 : w.heap.size + 1 ≤ w1.heap.size := by have := hk1.size; simp at this; omega
    have HB1 := Lib.hid (HB0.out.kept hk1 (by show ¬ w.heap.size = gp; omega))
    have HK1 := Lib.hid (HK0.out.trans hk1)
    have HP1 := Lib.hid hp1
    clear hp1 hk1 c0 c1 c2 c3 hp HTK HB0 HK0
    go_wp2_with fail
    have hk2 : Kp (fun i => i = gp) w1 (w1.alloc (.cells #[.int .i64 K, .int .i64 P, .string (S T), .float .f64 F] 77)) := Kp.alloc _ _ _
    have b1 := Blk.new w1 77 #[.int .i64 K, .int .i64 P, .string (S T), .float .f64 F]
    have hp2 := HP1.out.alloc (.cells #[.int .i64 K, .int .i64 P, .string (S T), .float .f64 F] 77)
    have hb0 := HB1.out.alloc (.cells #[.int .i64 K, .int .i64 P, .string (S T), .float .f64 F] 77)
    have hz2 : (w1.alloc (.cells #[.int .i64 K, .int .i64 P, .string (S T), .float .f64 F] 77)).heap.size = w1.heap.size + 1 := World.size_alloc _ _
    have hK2 := HK1.out.trans hk2
    generalize w1.alloc (.cells #[.int .i64 K, .int .i64 P, .string (S T), .float .f64 F] 77) = w2 at *
    have HB0 := Lib.hid hb0
    have HB1' := Lib.hid b1
    have HK2 := Lib.hid hK2
    clear hb0 b1 hK2 hk2 HB1 HK1 HP1
    by_cases h61 : sg r = 61
    · have HX := HE2.out h61
      obtain ⟨t2, r2, rfl, hst, hgr2⟩ := HGR.out.sg_tail (by omega)
      refine (want_ok w2 gp t2 r2 0 61 hp2 HGR.out (hst.trans h61) (by decide) (by decide)).mono ?_
      rintro e w3 ⟨rfl, hp3, hk3, _⟩
      have hlr : (t2 :: r2).length = r2.length + 1 := rfl
      have ha := alts_all 16 w3 gp r2 (Nat.le_refl _) hp3 hgr2 (by have := HN.out; omega)
      have hz3 := hk3.size
      have HB3 := Lib.hid (HB0.out.kept hk3 (by show ¬ w.heap.size = gp; omega))
      have HB3' := Lib.hid (HB1'.out.kept hk3 (by show ¬ w1.heap.size = gp; omega))
      have HK3 := Lib.hid (HK2.out.trans hk3)
      have HX2 := Lib.hid HX
      clear HX hp3 hk3 hp2 HB0 HB1' HK2 HE1 HE2
      go_wp2_with fail
      refine ha.mono ?_
      rintro e w4 ⟨hk4, ha4⟩
      have hz4 := hk4.size
      have HB4 := Lib.hid (HB3.out.kept hk4 (by show ¬ w.heap.size = gp; omega))
      have HB4' := Lib.hid (HB3'.out.kept hk4 (by show ¬ w1.heap.size = gp; omega))
      have HK4 := Lib.hid (HK3.out.trans hk4)
      clear ha hk4 HB3 HB3' HK3
      cases hx : pA 16 r2 with
      | error p =>
        rw [hx] at ha4
        obtain rfl : e = _ := ha4
        have HR : Hid (X = .error p) := Lib.hid (by rw [HX2.out, show (t2 :: r2).tail = r2 from rfl, hx]; rfl)
        clear hx
        go_wp2_with fail
        refine ⟨rfl, HK4.out, ?_⟩
        rw [HR.out]
      | ok x =>
        obtain ⟨bs, r3⟩ := x
        rw [hx] at ha4
        obtain ⟨v, rfl, hv, hp4, hg4, hl4⟩ := ha4
        obtain ⟨ao, c, rfl⟩ := hv.form
        have HV := Lib.hid hv
        have HP4 := Lib.hid hp4
        have HXX := Lib.hid hx
        clear hv hp4 hx
        generalize hbn : bs.length = bn at *
        have HBN := Lib.hid hbn
        clear hbn
        go_wp2_with fail
        by_cases h59 : sg r3 = 59
        · obtain ⟨t4, r4, rfl, hst4, hgr4⟩ := hg4.sg_tail (by omega)
          refine (want_ok w4 gp t4 r4 0 59 HP4.out hg4 (hst4.trans h59) (by decide) (by decide)).mono ?_
          rintro e w5 ⟨rfl, hp5, hk5, _⟩
          have hz5 := hk5.size
          have HR : Hid (X = .ok ((P, T, bs), r4)) := Lib.hid (by rw [HX2.out, show (t2 :: r2).tail = r2 from rfl, HXX.out, show pShut 59 (.ok (bs, t4 :: r4)) = .ok (bs, r4) from if_pos h59])
          have b0 := HB4.out.kept hk5 (by show ¬ w.heap.size = gp; omega)
          have b1 := HB4'.out.kept hk5 (by show ¬ w1.heap.size = gp; omega)
          have HV5 := Lib.hid (HV.out.kp hk5 (fun g hg => by show ¬ g = gp; omega))
          have HK5 := Lib.hid (HK4.out.trans hk5)
          have HP5 := Lib.hid hp5
          have l0 := b0.lt
          have l1 := b1.lt
          have x0 := b0.cell 0
          have x1 := b0.cell 1
          have x2 := b0.cell 2
          have y1 := b1.cell 1
          have y2 := b1.cell 2
          simp only [List.getElem?_toArray, List.getElem?_cons_zero, List.getElem?_cons_succ] at x0 x1 x2 y1 y2
          have u0 := b0.frozen 0
          have u1 := b0.frozen 1
          have u2 := b0.frozen 2
          clear b0 b1 hk5 hp5
          go_wp2_with fail
          have hke := kp_end3 w5 w.heap.size (.int .i64 P) (.string (S T)) (.slice ao bn c)
          refine bodyPost_ret (v := .agg #[.int .i64 P, .string (S T), .slice ao bn c]) (by simp [results, Tryz.results27, go_sem, x0, x1, x2]) rfl ⟨HK5.out.then_ hke (fun i hi => .inr (by have : i = w.heap.size := hi; omega)), ?_⟩
          rw [HR.out]
          refine ⟨_, rfl, ⟨.slice ao bn c, rfl, (HV5.out.kp hke (fun g hg => by show ¬ g = w.heap.size; omega)).mono (fun g hg => by omega)⟩, HP5.out.kept hke (fun i hi => by have : i = w.heap.size := hi; omega), hgr4, ?_⟩
          have := HN.out
          have : (t4 :: r4).length = r4.length + 1 := rfl
          omega
        · refine (want_no w4 gp r3 0 59 HP4.out hg4 h59 (sg_byte hg4) (by decide)).mono ?_
          rintro e w5 ⟨rfl, rfl⟩
          have HR : Hid (X = .error (5, (hd r3).at_)) := Lib.hid (by rw [HX2.out, show (t2 :: r2).tail = r2 from rfl, HXX.out, show pShut 59 (.ok (bs, r3)) = .error (5, (hd r3).at_) from if_neg h59])
          go_wp2_with fail
          refine ⟨rfl, HK4.out, ?_⟩
          rw [HR.out]
    · have HX := HE1.out h61
      refine (want_no w2 gp r 0 61 hp2 HGR.out h61 (sg_byte HGR.out) (by decide)).mono ?_
      rintro e w3 ⟨rfl, rfl⟩
      have HR := Lib.hid HX
      clear HX HE1 HE2 hp2
      go_wp2_with fail
      refine ⟨rfl, HK2.out, ?_⟩
      rw [HR.out]
  · have HR := Lib.hid (pdef_no (t :: r) k1)
    generalize hX : pDef (t :: r) = X at *
    have hk1 : ((t.kind : Int) != 1) = true := by rw [bne_iff_ne]; omega
    have hfl := fail_any _ gp _ _ (HH.out.alloc (.cells #[.int .i64 0, .string ⟨#[]⟩, .slice none 0 0] 34)) HG.out 5
    generalize (t :: r).length = n at *
    generalize (hd (t :: r)).at_ = A at *
    obtain ⟨K, P, T, F⟩ := t
    clear k1 hX hg b0
    go_enter Tryz.func27, Tryz.ntmps27
    go_wp2_with fail
    refine hfl.mono ?_
    rintro e w1 ⟨rfl, rfl⟩
    go_wp2_with fail
    refine ⟨rfl, hk0, ?_⟩
    rw [HR.out]
end Go.Proofs.YtdddbkghleblhaaGreatDoor.lx

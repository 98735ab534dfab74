import Derived.Test.YtldamieigigncaaGreatDoorVcah
import Derived.Deep.RegionHeld3
import Derived.Deep.RegionLaw
import Derived.Deep.DrawnRows
import Derived.Deep.AppendLies
namespace Go.Proofs.YtldamieigigncaaGreatDoor.lx
open Go.ChangeShapes Go.WideShapes Go.ChangeAt Go.RowKit
set_option linter.unusedVariables false
attribute [local go_sem] run_store_float
def AltV (k B : Nat) : World → Value → Altn → Prop := fun w' v a => ∃ iv, v = .agg (AltC a iv).toArray ∧ ListOf 5 (EItm (AltsAt k)) w' (fun g => B ≤ g) iv a.2.2
def AltOk (k : Nat) : Prop := ∀ (w : World) (gp : Nat) (ts : List Tok), k ≤ 16 → PAt w gp ts (16 - k) → Good ts → ts.length ≤ 70000 → Calls Tryz.prog 142 #[.pointer (some ⟨gp, 0, none⟩)] w (Ans (AltV k w.heap.size) gp (16 - k) ts.length w (pAlt (pSub k) ts))
theorem info_item : (Tryz.prog.info? 126).map (fun i => (i.zero, i.size, i.bytes)) = some (some (.agg #[.int .i64 0, .int .i64 0, .string ⟨#[]⟩, .slice none 0 0, .int .u8 0]), 5, 64) := by kernel_rfl
theorem new_cells (w : World) (t : TypeId) (cs : List Value) : ∀ j u, cs[j]? = some u → (w.alloc (.cells cs.toArray t)).cell? ((⟨w.heap.size, 0, none⟩ : Addr).add j) = some u := fun j u h => by
  rw [add0, (Blk.new w t cs.toArray).cell j]
  simpa using h
theorem itm_one (i : Itm) (ao : Option Addr) (n c : Nat) : ∀ z ∈ ItmC i (.slice ao n c), z.oneCell' = true := by
  intro z hz
  simp [ItmC] at hz
  rcases hz with rfl | rfl | rfl | rfl | rfl <;> rfl
theorem Blk.grown {w w' : World} {g : Nat} {t : TypeId} {cs : Array Value} {row : Option Nat} (h : Blk w g t cs) (hb : w.grownBy w' row) (hg : some g ≠ row) : Blk w' g t cs := (hb.block g h.lt hg).trans h
theorem own_apart {w : World} {base size n k : Nat} {e : TypeId} {v : Value} {xs : List Value} (h : w.ownsRow base e size v n xs) (hk : k < base) : some k ≠ v.ownBlock := by
  intro e
  have := (h.lt k e.symm).1
  omega
def pre (done : List Itm) (x : Res (List Itm)) : Res (List Itm) := match x with
  | .error e => .error e
  | .ok (is, r) => .ok (done ++ is, r)
theorem pre_nil (x : Res (List Itm)) : pre [] x = x := by
  cases x <;> rfl
theorem pre_step (sub : List Tok → Res (List Altn)) (done : List Itm) (f : Nat) (ts r : List Tok) (i : Itm) (h : atIt (hd ts) = true) (hi : pItem sub ts = .ok (i, r)) : pre done (pItems sub (f + 1) ts) = pre (done ++ [i]) (pItems sub f r) := by
  have e : pItems sub (f + 1) ts = if atIt (hd ts) then (match pItem sub ts with
      | .error e => .error e
      | .ok (i, r) => match pItems sub f r with
        | .error e => .error e
        | .ok (is, r2) => .ok (i :: is, r2)) else .ok ([], ts) := rfl
  rw [e, if_pos h, hi]
  show pre done (match pItems sub f r with
        | .error e => .error e
        | .ok (is, r2) => .ok (i :: is, r2)) = _
  cases hx : pItems sub f r with
  | error e => rfl
  | ok x => simp [pre]
theorem pre_err (sub : List Tok → Res (List Altn)) (done : List Itm) (f : Nat) (ts : List Tok) (p : Nat × Nat) (h : atIt (hd ts) = true) (hi : pItem sub ts = .error p) : pre done (pItems sub (f + 1) ts) = .error p := by
  have e : pItems sub (f + 1) ts = if atIt (hd ts) then (match pItem sub ts with
      | .error e => .error e
      | .ok (i, r) => match pItems sub f r with
        | .error e => .error e
        | .ok (is, r2) => .ok (i :: is, r2)) else .ok ([], ts) := rfl
  rw [e, if_pos h, hi]
  rfl
theorem pre_end (sub : List Tok → Res (List Altn)) (done : List Itm) (f : Nat) (ts : List Tok) (h : ¬ atIt (hd ts) = true) : pre done (pItems sub (f + 1) ts) = .ok (done, ts) := by
  have e : pItems sub (f + 1) ts = if atIt (hd ts) then (match pItem sub ts with
      | .error e => .error e
      | .ok (i, r) => match pItems sub f r with
        | .error e => .error e
        | .ok (is, r2) => .ok (i :: is, r2)) else .ok ([], ts) := rfl
  rw [e, if_neg h]
  simp [pre]
def comes (w : World) (gp : Nat) : Nat := match w.cell? ⟨gp, 0, none⟩ with
  | some (.slice _ n _) => n
  | _ => 0
theorem PAt.comes {w : World} {gp d : Nat} {ts : List Tok} (h : PAt w gp ts d) : comes w gp = ts.length := by
  obtain ⟨g, o, cap, hb, _⟩ := h
  unfold lx.comes
  rw [show w.cell? ⟨gp, 0, none⟩ = some (.slice (some ⟨g, o, none⟩) ts.length cap) from hb.cell 0]
def AltR (k gp n b : Nat) (ts0 : List Tok) (P F : Nat) (w wr : World) : Prop := ∃ (done : List Itm) (ts : List Tok) (f : Nat) (iv : Value), PAt wr gp ts (16 - k) ∧ Good ts ∧ ts.length ≤ f ∧ done.length + f ≤ n ∧ Blk wr (b + 1) 124 #[.int .i64 P, .float .f64 F, iv] ∧ Blk wr b 124 #[.int .i64 0, .float .f64 0, .slice none 0 0] ∧ OwnOf 5 (EItm (AltsAt k)) 126 (b + 2) wr iv done ∧ Kp (fun i => i = gp) w wr ∧ b + 2 ≤ wr.heap.size ∧ pre done (pItems (pSub k) f ts) = pItems (pSub k) n ts0
theorem kp_end3 (w : World) (b0 : Nat) (v0 v1 v2 : Value) : Kp (fun i => i = b0) w (((w.setCell ⟨b0, 0, none⟩ v0).setCell ⟨b0, 1, none⟩ v1).setCell ⟨b0, 2, none⟩ v2) := ((kp_at _ _ _ _).trans (kp_at _ _ _ _)).trans (kp_at _ _ _ _)
theorem altR_step (k gp n : Nat) (ts0 : List Tok) (P F : Nat) (w wr w3 w4 : World) (done : List Itm) (dn : Nat) (us : List (List Value)) (ts r2 : List Tok) (f : Nat) (i : Itm) (ao ao2 : Option Addr) (icap c2 g4 cap4 : Nat) (hgp : gp < w.heap.size) (hz1 : w.heap.size + 2 ≤ wr.heap.size)
    (hdn : done.length = dn) (hdf : dn + (f + 1) ≤ n) (hlr : r2.length ≤ ts.length - 1) (htf : ts.length ≤ f + 1) (h0 : 0 < ts.length) (hpr : PAt wr gp ts (16 - k)) (hB0 : Blk wr w.heap.size 124 #[.int .i64 0, .float .f64 0, .slice none 0 0]) (hK1 : Kp (fun i => i = gp) w wr)
    (how : wr.ownsRow (w.heap.size + 2) 126 5 (.slice ao dn icap) dn us.flatten) (hus1 : us.length = dn) (hus2 : ∀ u ∈ us, u.length = 5) (hus4 : ∀ (j : Nat) (x : Itm), done[j]? = some x → ∃ cs, us[j]? = some cs ∧ EItm (AltsAt k) wr (fun g => w.heap.size + 2 ≤ g ∧ some g ≠ (Value.slice ao dn icap).ownBlock) x cs)
    (hv3 : AltsAt k w3 (fun g => wr.heap.size ≤ g) (.slice ao2 i.alts.length c2) i.alts) (hp3 : PAt w3 gp r2 (16 - k)) (hg3 : Good r2) (hk3 : Kp (fun i => i = gp) wr w3)
    (hown4 : w4.ownsRow (w.heap.size + 2) 126 5 (.slice (some ⟨g4, 0, none⟩) (dn + 1) cap4) (dn + 1) (us.flatten ++ ItmC i (.slice ao2 i.alts.length c2))) (hgrow4 : (w3.alloc (.cells (ItmC i (.slice ao2 i.alts.length c2)).toArray 126)).grownBy w4 (Value.slice ao dn icap).ownBlock) (hat4 : (Value.slice ao dn icap).ownBlock = some g4 ∨ g4 = w3.heap.size + 1)
    (hB4 : Blk w4 (w.heap.size + 1) 124 #[.int .i64 P, .float .f64 F, .slice ao dn icap]) (hpre : pre (done ++ [i]) (pItems (pSub k) f r2) = pItems (pSub k) n ts0) :
    AltR k gp n w.heap.size ts0 P F w (w4.setCell ⟨w.heap.size + 1, 2, none⟩ (.slice (some ⟨g4, 0, none⟩) (dn + 1) cap4)) ∧ comes (w4.setCell ⟨w.heap.size + 1, 2, none⟩ (.slice (some ⟨g4, 0, none⟩) (dn + 1) cap4)) gp < comes wr gp := by
  have hz3 := hk3.size
  have hrow : ∀ j, (Value.slice ao dn icap).ownBlock = some j → w.heap.size + 2 ≤ j ∧ j < wr.heap.size := fun j e => how.lt j e
  have kg := Kp.of_grown hgrow4
  have ka : Kp (fun _ => False) w3 (w3.alloc (.cells (ItmC i (.slice ao2 i.alts.length c2)).toArray 126)) := Kp.alloc _ _ _
  have hz4 : w3.heap.size + 1 ≤ w4.heap.size := by have := kg.size; rw [World.size_alloc] at this; exact this
  have ks := kp_at w4 (w.heap.size + 1) 2 (.slice (some ⟨g4, 0, none⟩) (dn + 1) cap4)
  have hpF : PAt (w4.setCell ⟨w.heap.size + 1, 2, none⟩ (.slice (some ⟨g4, 0, none⟩) (dn + 1) cap4)) gp r2 (16 - k) :=
    ((hp3.kept ka (fun _ h => h.elim)).kept kg (fun j hj => by have := (hrow j hj).1; omega)).kept ks (fun j hj => by have : j = w.heap.size + 1 := hj; omega)
  have hdisj : some w.heap.size ≠ (Value.slice ao dn icap).ownBlock := fun e => by have := (hrow _ e.symm).1; omega
  have hE := keepsItm (keepsAlts k)
  have hblk : ∀ g, g < wr.heap.size → w.heap.size + 2 ≤ g → (w3.alloc (.cells (ItmC i (.slice ao2 i.alts.length c2)).toArray 126)).heap[g]? = wr.heap[g]? := fun g hg hb => (Below.heap_alloc w3 _ g (by omega)).trans (hk3.block g hg (by show ¬ g = gp; omega))
  have hO4 : OwnOf 5 (EItm (AltsAt k)) 126 (w.heap.size + 2) w4 (.slice (some ⟨g4, 0, none⟩) (dn + 1) cap4) (done ++ [i]) := by
    refine OwnOf.step hE (v := .slice ao dn icap) (us := us) (cs := ItmC i (.slice ao2 i.alts.length c2)) (hus1.trans hdn.symm) hus2 (fun j x hx => ?_) ⟨_, rfl, ?_⟩ rfl ?_ hgrow4 ?_
    · obtain ⟨cs, e, h⟩ := hus4 j x hx
      exact ⟨cs, e, hE _ _ _ _ _ _ h (fun g hg hA => ⟨hA, hblk g hg hA.1⟩) (by rw [World.size_alloc]; omega)⟩
    · refine keepsAlts k _ _ _ _ _ _ hv3 (fun g hg hA => ⟨⟨by omega, fun e => ?_⟩, Below.heap_alloc w3 _ g hg⟩) (by rw [World.size_alloc]; omega)
      have := (hrow g e.symm).2
      omega
    · rw [hdn]
      exact hown4
    · rcases hat4 with h | h
      · exact .inl h.symm
      · right
        rw [World.size_alloc, ← h]
        rfl
  refine ⟨⟨done ++ [i], r2, f, _, hpF, hg3, by omega, by rw [List.length_append, hdn]; simp; omega, hB4.set_ 2 _, ?_, hO4.keep hE (fun g hg hb => ?_) (by simp), ?_, by simp; omega, hpre⟩, ?_⟩
  · exact (Blk.grown ((hB0.kept hk3 (by show ¬ w.heap.size = gp; omega)).alloc _) hgrow4 hdisj).far (by show w.heap.size ≠ w.heap.size + 1; omega) _
  · exact Below.heap_setCell w4 _ _ g (by show g ≠ w.heap.size + 1; omega)
  · exact (((hK1.trans hk3).then_ ka (fun _ h => h.elim)).then_ kg (fun j hj => .inr (by have := (hrow j hj).1; omega))).then_ ks (fun j hj => .inr (by have : j = w.heap.size + 1 := hj; omega))
  · rw [hpF.comes, hpr.comes]
    omega
set_option maxRecDepth 100000 in
set_option maxHeartbeats 2000000 in
theorem alt_any (k : Nat) (hI : ItemOk k) : AltOk k := by
  intro w gp ts hk h hg hl
  obtain ⟨t, r, rfl⟩ := hg.ne
  have hgp := h.lt
  obtain ⟨g, o, cap, hb, hl1, hm, hne, hgs, hc⟩ := id h
  obtain ⟨c0, c1, c2, c3⟩ := tcells_head t r g o w hc
  have hp : w.cell? ⟨gp, 0, none⟩ = some (.slice (some ⟨g, o, none⟩) (t :: r).length cap) := hb.cell 0
  have hl0 : 0 < (t :: r).length := by simp
  have HH := Lib.hid h
  have HG := Lib.hid hg
  unfold maxLen at hm
  clear hc hb h
  by_cases k3 : t.kind = 3
  · have hgr := hg.tail (r := r) (by omega)
    have HR : Hid (pAlt (pSub k) (t :: r) = match pItems (pSub k) r.length r with
      | .error e => .error e
      | .ok (is, r) => .ok ((t.at_, t.wt, is), r)) := Lib.hid (by
        unfold pAlt
        rw [show wtTl (t :: r) = r from if_pos k3, show wtOf (hd (t :: r)) = t.wt from if_pos k3]
        rfl)
    generalize hX : pAlt (pSub k) (t :: r) = X at *
    have HTK := Lib.hid (fun w h => take_any w gp t r (16 - k) h hgr.pos)
    generalize hn' : (t :: r).length = n' at *
    generalize hn : r.length = n at *
    have HN := Lib.hid hn
    have HN' : Hid (n' = n + 1) := Lib.hid (by rw [← hn', ← hn]; rfl)
    have hl : n ≤ 70000 := by have := HN'.out; omega
    have HT := Lib.hid hI
    have HGR := Lib.hid hgr
    have c0 : w.cell? ⟨g, o, none⟩ = some (.int .i64 3) := by rw [c0, k3]; rfl
    obtain ⟨K, P, T, F⟩ := t
    clear k3 hX hn hI hg hn' hgr
    have hfld := fld3
    go_enter Tryz.func142, Tryz.ntmps142
    go_wp2_with fail
    have hk0 : Kp (fun i => i = gp) w ((w.alloc (.cells #[.int .i64 0, .float .f64 0, .slice none 0 0] 124)).alloc (.cells #[.int .i64 P, .float .f64 0, .slice none 0 0] 124)) := (Kp.alloc _ _ _).trans (Kp.alloc _ _ _)
    have b0 := (Blk.new w 124 #[.int .i64 0, .float .f64 0, .slice none 0 0]).alloc (.cells #[.int .i64 P, .float .f64 0, .slice none 0 0] 124)
    have b1 := Blk.new (w.alloc (.cells #[.int .i64 0, .float .f64 0, .slice none 0 0] 124)) 124 #[.int .i64 P, .float .f64 0, .slice none 0 0]
    rw [World.size_alloc] at b1
    refine (HTK.out _ ((HH.out.alloc _).alloc _)).mono ?_
    rintro e wt ⟨rfl, hpt, hkt⟩
    have hzt : w.heap.size + 2 ≤ wt.heap.size := by have := hkt.size; simp at this; omega
    have b0 := b0.kept hkt (by show ¬ w.heap.size = gp; omega)
    have b1 := b1.kept hkt (by show ¬ w.heap.size + 1 = gp; omega)
    have HKT := Lib.hid (hk0.trans hkt)
    have d1 : wt.cell? ⟨w.heap.size + 1, 1, none⟩ = some (.float .f64 0) := b1.cell 1
    have f1 := b1.frozen 1
    have HB0 := Lib.hid b0
    have HB1 := Lib.hid b1
    have HPT := Lib.hid hpt
    clear b0 b1 hk0 hkt hpt c0 c1 c2 c3 hp
    go_wp2_with fail
    have ks := kp_at wt (w.heap.size + 1) 1 (.float .f64 F)
    have hst : AltR k gp n w.heap.size r P F w (wt.setCell ⟨w.heap.size + 1, 1, none⟩ (.float .f64 F)) :=
      ⟨[], r, n, .slice none 0 0, HPT.out.kept ks (fun i hi => by have : i = w.heap.size + 1 := hi; omega), HGR.out, Nat.le_of_eq HN.out, by simp, HB1.out.set_ 1 _, HB0.out.far (by show w.heap.size ≠ w.heap.size + 1; omega) _, OwnOf.nil _ _ _, HKT.out.then_ ks (fun i hi => .inr (by have : i = w.heap.size + 1 := hi; omega)), by simpa using hzt, pre_nil _⟩
    have HST := Lib.hid hst
    clear hst ks d1 f1 HB0 HB1 HPT HKT hzt
    go_loopw [] (fun wr => AltR k gp n w.heap.size r P F w wr) (fun wr => comes wr gp)
    case atStart => exact HST.out
    case round =>
      obtain ⟨done, ts, f, iv, hp1, hg1, hf, hdf, b1, b0, ho, hk1, hz1, hpre⟩ := hrel
      have ha := atitem_any wr gp ts _ hp1 hg1
      obtain ⟨f, rfl⟩ : ∃ f', f = f' + 1 := ⟨f - 1, by have := hg1.pos; omega⟩
      have HO := Lib.hid ho
      obtain ⟨ao, icap, rfl⟩ : ∃ ao cap, iv = .slice ao done.length cap := by
        obtain ⟨us, _, _, h3, _⟩ := ho
        exact own_form h3
      have HP1 := Lib.hid hp1
      have HG1 := Lib.hid hg1
      have HK1 := Lib.hid hk1
      clear ho hp1 hk1
      by_cases hat : atIt (hd ts) = true
      · rw [hat] at ha
        have HB0 := Lib.hid b0
        have HB1 := Lib.hid b1
        have hc2 : wr.cell? ⟨w.heap.size + 1, 2, none⟩ = some (.slice ao done.length icap) := b1.cell 2
        clear b0 b1
        cases hi : pItem (pSub k) ts with
        | error p =>
          have HPR : Hid (pItems (pSub k) n r = .error p) := Lib.hid (by rw [← hpre]; exact pre_err _ _ _ _ _ hat hi)
          have hit : ∀ wx, Qt wr wx → Calls Tryz.prog 165 #[.pointer (some ⟨gp, 0, none⟩)] wx fun e w3 => e = .panicked [{ v := Wrong p.1 p.2, recovered := false }] ∧ Kp (fun i => i = gp) wr w3 := fun wx hq => by
            have hkq : Kp (fun i => i = gp) wr wx := Kp.of_below (hq.below (B := wr.heap.size)) (Nat.le_refl _)
            have h1 := HT.out wx gp ts hk (HP1.out.kept (Kp.of_below (S := fun _ => False) (hq.below (B := wr.heap.size)) (Nat.le_refl _)) (fun _ h => h.elim)) HG1.out (by omega) hat
            rw [hi] at h1
            exact h1.mono fun e w3 ⟨h2, h3⟩ => ⟨h3, hkq.trans h2⟩
          have HIT := Lib.hid hit
          clear hit hi hat hpre
          go_wp2_with (go_at_call 164; refine ha.mono ?_; rintro e w1 ⟨rfl, rfl⟩)
          refine wp_region_any (by kernel_rfl) ?_
          change wpAny _ _ _ _ _ _ _ (World.drew _)
          refine wpAny_take (i := 0) (v := ?_) rfl (by kernel_rfl) (by kernel_rfl) (by kernel_rfl) (fun _ _ _ h => h) (Or.inl ⟨by rfl, ?_⟩) ?_
          rotate_left
          · intro w
            go_simp
            with_reducible rfl
          refine wpAny_take (i := 2) (v := ?_) rfl (by kernel_rfl) (by kernel_rfl) (by kernel_rfl) (fun _ _ _ h => h) (Or.inl ⟨by rfl, ?_⟩) ?_
          rotate_left
          · intro w
            go_simp
            with_reducible rfl
          refine wpAny_ready (rs := [1, 3]) (by kernel_rfl) (by simp) ?_
          refine AllReady.cons rfl (fun K hK => ?_) (AllReady.cons rfl (fun K hK => ?_) AllReady.nil)
          · go_simp
            refine hK _ _ ?_
            clear hK K
            refine wpAny_ready (rs := [3]) (by kernel_rfl) (by simp) ?_
            refine AllReady.cons rfl (fun K hK => ?_) AllReady.nil
            go_simp
            refine (HIT.out _ ⟨1, rfl⟩).mono ?_
            rintro e w3 ⟨rfl, hk3⟩
            exact ⟨rfl, HK1.out.trans hk3, by rw [HR.out, HPR.out]⟩
          · go_simp
            refine (HIT.out _ ⟨1, rfl⟩).mono ?_
            rintro e w3 ⟨rfl, hk3⟩
            exact ⟨rfl, HK1.out.trans hk3, by rw [HR.out, HPR.out]⟩
        | ok x =>
          obtain ⟨i, r2⟩ := x
          have HPR : Hid (pre (done ++ [i]) (pItems (pSub k) f r2) = pItems (pSub k) n r) := Lib.hid (by rw [← hpre, pre_step _ _ _ _ _ _ hat hi])
          have hit : ∀ wx, Qt wr wx → Calls Tryz.prog 165 #[.pointer (some ⟨gp, 0, none⟩)] wx fun e w3 => ∃ (ao2 : Option Addr) (c2 : Nat), e = .returned (.agg #[.int .i64 i.at_, .int .i64 i.kind, .string (S i.text), .slice ao2 i.alts.length c2, .int .u8 i.op]) ∧ AltsAt k w3 (fun g => wr.heap.size ≤ g) (.slice ao2 i.alts.length c2) i.alts ∧ PAt w3 gp r2 (16 - k) ∧ Good r2 ∧ r2.length ≤ ts.length - 1 ∧ Kp (fun i => i = gp) wr w3 := fun wx hq => by
            have hkq : Kp (fun i => i = gp) wr wx := Kp.of_below (hq.below (B := wr.heap.size)) (Nat.le_refl _)
            have hsz : wx.heap.size = wr.heap.size := by
              obtain ⟨m, rfl⟩ := hq
              rfl
            have h1 := HT.out wx gp ts hk (HP1.out.kept (Kp.of_below (S := fun _ => False) (hq.below (B := wr.heap.size)) (Nat.le_refl _)) (fun _ h => h.elim)) HG1.out (by omega) hat
            rw [hi, hsz] at h1
            refine h1.mono ?_
            rintro e w3 ⟨h2, v, rfl, ⟨av, rfl, hv⟩, h3, h4, h5⟩
            obtain ⟨ao2, c2, rfl⟩ := hv.form
            exact ⟨ao2, c2, rfl, hv, h3, h4, h5, hkq.trans h2⟩
          have HIT := Lib.hid hit
          have hlen := hg1.pos
          have hbd := hdf
          clear hit hi hat hpre
          obtain ⟨us, hus1, hus2, how, hus4⟩ := HO.out
          have HOW := Lib.hid how
          have HU1 := Lib.hid hus1
          have HU2 := Lib.hid hus2
          have HU4 := Lib.hid hus4
          generalize hdn : done.length = dn at *
          have HDN := Lib.hid hdn
          clear how hus1 hus2 hus4 hdn
          obtain ⟨i1, ki, kz0, kz1, kz2⟩ := info_parts info_item
          go_wp2_with (go_at_call 164; refine ha.mono ?_; rintro e w1 ⟨rfl, rfl⟩)
          go_region_law ((first
            | (go_simp; go_at_call 165; refine (HIT.out _ ?_).mono ?_; (first | exact ⟨1, rfl⟩ | exact ⟨0, rfl⟩); rintro e w3 ⟨ao2, c2, rfl, hv3, hp3, hg3, hl3, hk3⟩; have hc3 := hk3.cell hc2 (by show ¬ w.heap.size + 1 = gp; omega); have hlt3 : w.heap.size + 1 < w3.heap.size := (by have := hk3.size; omega); have how3 := ownsRow_keep HOW.out (fun g hg hv => hk3.block g hg (by have := (HOW.out.lt g hv).1; show ¬ g = gp; omega)); have hB3 := HB1.out.kept hk3 (by show ¬ w.heap.size + 1 = gp; omega))
            | (refine step_append_lies _ (by rfl) (.tmp 27) (.tmp 30) 122 (by rfl) (w.heap.size + 2) 126 i1 (.agg #[.int .i64 0, .int .i64 0, .string ⟨#[]⟩, .slice none 0 0, .int .u8 0]) 5 64 Tryz.underlying122 ki kz0 kz1 kz2 (by rfl) (by decide) (.slice ao dn icap) dn us.flatten (by rfl) (how3.alloc _) ⟨w3.heap.size, 0, none⟩ 1 1 (ItmC i (.slice ao2 i.alts.length c2)) (by rfl) (by rfl) (new_cells _ _ _) (itm_one _ _ _ _) (by decide) (by unfold maxLen; omega) (by omega) (by rw [World.size_alloc]; omega) (w3.heap.size + 1) (World.size_alloc _ _) ?_; intro g4 cap4 w4 hown4 hgrow4 hat4 hlt4; have hB4 := (hB3.alloc (.cells #[.int .i64 i.at_, .int .i64 i.kind, .string (S i.text), .slice ao2 i.alts.length c2, .int .u8 i.op] 126)).grown hgrow4 (own_apart HOW.out (by omega)); have hc4 := hB4.cell 2; have hf4 := hB4.frozen 2; have hl4 := hB4.lt)))
          all_goals
            go_wp2
            exact altR_step k gp n _ P F w wr w3 w4 done dn us ts r2 f i ao ao2 icap c2 g4 cap4 hgp hz1 HDN.out hdf hl3 hf hlen HP1.out HB0.out HK1.out HOW.out HU1.out HU2.out HU4.out hv3 hp3 hg3 hk3 hown4 hgrow4 hat4 hB4 HPR.out
      · rw [Bool.not_eq_true] at hat
        rw [hat] at ha
        have HPR : Hid (pItems (pSub k) n r = .ok (done, ts)) := Lib.hid (by rw [← hpre]; exact pre_end _ _ _ _ (by rw [hat]; decide))
        have HL := Lib.hid (HO.out.done (keepsItm (keepsAlts k)))
        have l0 := b0.lt
        have l1 := b1.lt
        have x0 := b0.cell 0
        have x1 := b0.cell 1
        have x2 := b0.cell 2
        have y0 := b1.cell 0
        have y1 := b1.cell 1
        have y2 := b1.cell 2
        simp only [List.getElem?_toArray, List.getElem?_cons_zero, List.getElem?_cons_succ] at x0 x1 x2 y0 y1 y2
        have u0 := b0.frozen 0
        have u1 := b0.frozen 1
        have u2 := b0.frozen 2
        clear b0 b1 hpre hat
        go_wp2_with (go_at_call 164; refine ha.mono ?_; rintro e w1 ⟨rfl, rfl⟩)
        have hke := kp_end3 wr w.heap.size (.int .i64 P) (.float .f64 F) (.slice ao done.length icap)
        refine bodyPost_ret (v := .agg #[.int .i64 P, .float .f64 F, .slice ao done.length icap]) (by simp [results, Tryz.results142, go_sem, x0, x1, x2]) rfl ⟨HK1.out.then_ hke (fun i hi => .inr (by have : i = w.heap.size := hi; omega)), ?_⟩
        rw [HR.out, HPR.out]
        refine ⟨_, rfl, ⟨.slice ao done.length icap, rfl, HL.out.keep (keepsItm (keepsAlts k)) (fun g hg hA => ⟨by omega, hke.block g hg (by show ¬ g = w.heap.size; omega)⟩) hke.size⟩, HP1.out.kept hke (fun i hi => by have : i = w.heap.size := hi; omega), HG1.out, ?_⟩
        have := HN'.out
        omega
  · have HR : Hid (pAlt (pSub k) (t :: r) = match pItems (pSub k) (t :: r).length (t :: r) with
      | .error e => .error e
      | .ok (is, r) => .ok ((t.at_, 0, is), r)) := Lib.hid (by
        unfold pAlt
        rw [show wtTl (t :: r) = t :: r from if_neg k3, show wtOf (hd (t :: r)) = 0 from if_neg k3]
        rfl)
    generalize hX : pAlt (pSub k) (t :: r) = X at *
    have hk3 : ((t.kind : Int) == 3) = false := by rw [beq_eq_false_iff_ne]; omega
    generalize hn : (t :: r).length = n at *
    have HN := Lib.hid hn
    have HT := Lib.hid hI
    obtain ⟨K, P, T, F⟩ := t
    clear k3 hX hn hI hg
    go_enter Tryz.func142, Tryz.ntmps142
    go_wp2_with fail
    have hk0 : Kp (fun i => i = gp) w ((w.alloc (.cells #[.int .i64 0, .float .f64 0, .slice none 0 0] 124)).alloc (.cells #[.int .i64 P, .float .f64 0, .slice none 0 0] 124)) := (Kp.alloc _ _ _).trans (Kp.alloc _ _ _)
    have b0 := (Blk.new w 124 #[.int .i64 0, .float .f64 0, .slice none 0 0]).alloc (.cells #[.int .i64 P, .float .f64 0, .slice none 0 0] 124)
    have b1 := Blk.new (w.alloc (.cells #[.int .i64 0, .float .f64 0, .slice none 0 0] 124)) 124 #[.int .i64 P, .float .f64 0, .slice none 0 0]
    rw [World.size_alloc] at b1
    have hst : AltR k gp n w.heap.size (⟨K, P, T, F⟩ :: r) P 0 w ((w.alloc (.cells #[.int .i64 0, .float .f64 0, .slice none 0 0] 124)).alloc (.cells #[.int .i64 P, .float .f64 0, .slice none 0 0] 124)) :=
      ⟨[], ⟨K, P, T, F⟩ :: r, n, .slice none 0 0, (HH.out.alloc _).alloc _, HG.out, Nat.le_of_eq HN.out, by simp, b1, b0, OwnOf.nil _ _ _, hk0, by simp, pre_nil _⟩
    have HST := Lib.hid hst
    clear b0 b1 hst hk0
    go_loopw [] (fun wr => AltR k gp n w.heap.size (⟨K, P, T, F⟩ :: r) P 0 w wr) (fun wr => comes wr gp)
    case atStart => exact HST.out
    case round =>
      obtain ⟨done, ts, f, iv, hp1, hg1, hf, hdf, b1, b0, ho, hk1, hz1, hpre⟩ := hrel
      have ha := atitem_any wr gp ts _ hp1 hg1
      obtain ⟨f, rfl⟩ : ∃ f', f = f' + 1 := ⟨f - 1, by have := hg1.pos; omega⟩
      have HO := Lib.hid ho
      obtain ⟨ao, icap, rfl⟩ : ∃ ao cap, iv = .slice ao done.length cap := by
        obtain ⟨us, _, _, h3, _⟩ := ho
        exact own_form h3
      have HP1 := Lib.hid hp1
      have HG1 := Lib.hid hg1
      have HK1 := Lib.hid hk1
      clear ho hp1 hk1
      by_cases hat : atIt (hd ts) = true
      · rw [hat] at ha
        have HB0 := Lib.hid b0
        have HB1 := Lib.hid b1
        have hc2 : wr.cell? ⟨w.heap.size + 1, 2, none⟩ = some (.slice ao done.length icap) := b1.cell 2
        clear b0 b1
        cases hi : pItem (pSub k) ts with
        | error p =>
          have HPR : Hid (pItems (pSub k) n (⟨K, P, T, F⟩ :: r) = .error p) := Lib.hid (by rw [← hpre]; exact pre_err _ _ _ _ _ hat hi)
          have hit : ∀ wx, Qt wr wx → Calls Tryz.prog 165 #[.pointer (some ⟨gp, 0, none⟩)] wx fun e w3 => e = .panicked [{ v := Wrong p.1 p.2, recovered := false }] ∧ Kp (fun i => i = gp) wr w3 := fun wx hq => by
            have hkq : Kp (fun i => i = gp) wr wx := Kp.of_below (hq.below (B := wr.heap.size)) (Nat.le_refl _)
            have h1 := HT.out wx gp ts hk (HP1.out.kept (Kp.of_below (S := fun _ => False) (hq.below (B := wr.heap.size)) (Nat.le_refl _)) (fun _ h => h.elim)) HG1.out (by omega) hat
            rw [hi] at h1
            exact h1.mono fun e w3 ⟨h2, h3⟩ => ⟨h3, hkq.trans h2⟩
          have HIT := Lib.hid hit
          clear hit hi hat hpre
          go_wp2_with (go_at_call 164; refine ha.mono ?_; rintro e w1 ⟨rfl, rfl⟩)
          refine wp_region_any (by kernel_rfl) ?_
          change wpAny _ _ _ _ _ _ _ (World.drew _)
          refine wpAny_take (i := 0) (v := ?_) rfl (by kernel_rfl) (by kernel_rfl) (by kernel_rfl) (fun _ _ _ h => h) (Or.inl ⟨by rfl, ?_⟩) ?_
          rotate_left
          · intro w
            go_simp
            with_reducible rfl
          refine wpAny_take (i := 2) (v := ?_) rfl (by kernel_rfl) (by kernel_rfl) (by kernel_rfl) (fun _ _ _ h => h) (Or.inl ⟨by rfl, ?_⟩) ?_
          rotate_left
          · intro w
            go_simp
            with_reducible rfl
          refine wpAny_ready (rs := [1, 3]) (by kernel_rfl) (by simp) ?_
          refine AllReady.cons rfl (fun K hK => ?_) (AllReady.cons rfl (fun K hK => ?_) AllReady.nil)
          · go_simp
            refine hK _ _ ?_
            clear hK K
            refine wpAny_ready (rs := [3]) (by kernel_rfl) (by simp) ?_
            refine AllReady.cons rfl (fun K hK => ?_) AllReady.nil
            go_simp
            refine (HIT.out _ ⟨1, rfl⟩).mono ?_
            rintro e w3 ⟨rfl, hk3⟩
            exact ⟨rfl, HK1.out.trans hk3, by rw [HR.out, HPR.out]⟩
          · go_simp
            refine (HIT.out _ ⟨1, rfl⟩).mono ?_
            rintro e w3 ⟨rfl, hk3⟩
            exact ⟨rfl, HK1.out.trans hk3, by rw [HR.out, HPR.out]⟩
        | ok x =>
          obtain ⟨i, r2⟩ := x
          have HPR : Hid (pre (done ++ [i]) (pItems (pSub k) f r2) = pItems (pSub k) n (⟨K, P, T, F⟩ :: r)) := Lib.hid (by rw [← hpre, pre_step _ _ _ _ _ _ hat hi])
          have hit : ∀ wx, Qt wr wx → Calls Tryz.prog 165 #[.pointer (some ⟨gp, 0, none⟩)] wx fun e w3 => ∃ (ao2 : Option Addr) (c2 : Nat), e = .returned (.agg #[.int .i64 i.at_, .int .i64 i.kind, .string (S i.text), .slice ao2 i.alts.length c2, .int .u8 i.op]) ∧ AltsAt k w3 (fun g => wr.heap.size ≤ g) (.slice ao2 i.alts.length c2) i.alts ∧ PAt w3 gp r2 (16 - k) ∧ Good r2 ∧ r2.length ≤ ts.length - 1 ∧ Kp (fun i => i = gp) wr w3 := fun wx hq => by
            have hkq : Kp (fun i => i = gp) wr wx := Kp.of_below (hq.below (B := wr.heap.size)) (Nat.le_refl _)
            have hsz : wx.heap.size = wr.heap.size := by
              obtain ⟨m, rfl⟩ := hq
              rfl
            have h1 := HT.out wx gp ts hk (HP1.out.kept (Kp.of_below (S := fun _ => False) (hq.below (B := wr.heap.size)) (Nat.le_refl _)) (fun _ h => h.elim)) HG1.out (by omega) hat
            rw [hi, hsz] at h1
            refine h1.mono ?_
            rintro e w3 ⟨h2, v, rfl, ⟨av, rfl, hv⟩, h3, h4, h5⟩
            obtain ⟨ao2, c2, rfl⟩ := hv.form
            exact ⟨ao2, c2, rfl, hv, h3, h4, h5, hkq.trans h2⟩
          have HIT := Lib.hid hit
          have hlen := hg1.pos
          have hbd := hdf
          clear hit hi hat hpre
          obtain ⟨us, hus1, hus2, how, hus4⟩ := HO.out
          have HOW := Lib.hid how
          have HU1 := Lib.hid hus1
          have HU2 := Lib.hid hus2
          have HU4 := Lib.hid hus4
          generalize hdn : done.length = dn at *
          have HDN := Lib.hid hdn
          clear how hus1 hus2 hus4 hdn
          obtain ⟨i1, ki, kz0, kz1, kz2⟩ := info_parts info_item
          go_wp2_with (go_at_call 164; refine ha.mono ?_; rintro e w1 ⟨rfl, rfl⟩)
          go_region_law ((first
            | (go_simp; go_at_call 165; refine (HIT.out _ ?_).mono ?_; (first | exact ⟨1, rfl⟩ | exact ⟨0, rfl⟩); rintro e w3 ⟨ao2, c2, rfl, hv3, hp3, hg3, hl3, hk3⟩; have hc3 := hk3.cell hc2 (by show ¬ w.heap.size + 1 = gp; omega); have hlt3 : w.heap.size + 1 < w3.heap.size := (by have := hk3.size; omega); have how3 := ownsRow_keep HOW.out (fun g hg hv => hk3.block g hg (by have := (HOW.out.lt g hv).1; show ¬ g = gp; omega)); have hB3 := HB1.out.kept hk3 (by show ¬ w.heap.size + 1 = gp; omega))
            | (refine step_append_lies _ (by rfl) (.tmp 27) (.tmp 30) 122 (by rfl) (w.heap.size + 2) 126 i1 (.agg #[.int .i64 0, .int .i64 0, .string ⟨#[]⟩, .slice none 0 0, .int .u8 0]) 5 64 Tryz.underlying122 ki kz0 kz1 kz2 (by rfl) (by decide) (.slice ao dn icap) dn us.flatten (by rfl) (how3.alloc _) ⟨w3.heap.size, 0, none⟩ 1 1 (ItmC i (.slice ao2 i.alts.length c2)) (by rfl) (by rfl) (new_cells _ _ _) (itm_one _ _ _ _) (by decide) (by unfold maxLen; omega) (by omega) (by rw [World.size_alloc]; omega) (w3.heap.size + 1) (World.size_alloc _ _) ?_; intro g4 cap4 w4 hown4 hgrow4 hat4 hlt4; have hB4 := (hB3.alloc (.cells #[.int .i64 i.at_, .int .i64 i.kind, .string (S i.text), .slice ao2 i.alts.length c2, .int .u8 i.op] 126)).grown hgrow4 (own_apart HOW.out (by omega)); have hc4 := hB4.cell 2; have hf4 := hB4.frozen 2; have hl4 := hB4.lt)))
          all_goals
            go_wp2
            exact altR_step k gp n _ P 0 w wr w3 w4 done dn us ts r2 f i ao ao2 icap c2 g4 cap4 hgp hz1 HDN.out hdf hl3 hf hlen HP1.out HB0.out HK1.out HOW.out HU1.out HU2.out HU4.out hv3 hp3 hg3 hk3 hown4 hgrow4 hat4 hB4 HPR.out
      · rw [Bool.not_eq_true] at hat
        rw [hat] at ha
        have HPR : Hid (pItems (pSub k) n (⟨K, P, T, F⟩ :: r) = .ok (done, ts)) := Lib.hid (by rw [← hpre]; exact pre_end _ _ _ _ (by rw [hat]; decide))
        have HL := Lib.hid (HO.out.done (keepsItm (keepsAlts k)))
        have l0 := b0.lt
        have l1 := b1.lt
        have x0 := b0.cell 0
        have x1 := b0.cell 1
        have x2 := b0.cell 2
        have y0 := b1.cell 0
        have y1 := b1.cell 1
        have y2 := b1.cell 2
        simp only [List.getElem?_toArray, List.getElem?_cons_zero, List.getElem?_cons_succ] at x0 x1 x2 y0 y1 y2
        have u0 := b0.frozen 0
        have u1 := b0.frozen 1
        have u2 := b0.frozen 2
        clear b0 b1 hpre hat
        go_wp2_with (go_at_call 164; refine ha.mono ?_; rintro e w1 ⟨rfl, rfl⟩)
        have hke := kp_end3 wr w.heap.size (.int .i64 P) (.float .f64 0) (.slice ao done.length icap)
        refine bodyPost_ret (v := .agg #[.int .i64 P, .float .f64 0, .slice ao done.length icap]) (by simp [results, Tryz.results142, go_sem, x0, x1, x2]) rfl ⟨HK1.out.then_ hke (fun i hi => .inr (by have : i = w.heap.size := hi; omega)), ?_⟩
        rw [HR.out, HPR.out]
        refine ⟨_, rfl, ⟨.slice ao done.length icap, rfl, HL.out.keep (keepsItm (keepsAlts k)) (fun g hg hA => ⟨by omega, hke.block g hg (by show ¬ g = w.heap.size; omega)⟩) hke.size⟩, HP1.out.kept hke (fun i hi => by have : i = w.heap.size := hi; omega), HG1.out, ?_⟩
        omega
end Go.Proofs.YtldamieigigncaaGreatDoor.lx


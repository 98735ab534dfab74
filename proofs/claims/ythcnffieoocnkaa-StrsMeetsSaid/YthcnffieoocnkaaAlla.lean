import Derived.Test.YthcnffieoocnkaaSorts
import Derived.OneCell
namespace Go.Proofs.Ythcnffieoocnkaa.st
open Go.ChangeShapes Go.WideShapes Go.ChangeAt Go.RowKit Go.Maps Go.WideMaps Go.WideElems
set_option linter.unusedVariables false
theorem info_str : (Try.prog.info? 9).map (fun i => (i.zero, i.size, i.bytes)) = some (some (.string ⟨#[]⟩), 1, 16) := by kernel_rfl
theorem info_ints : (Try.prog.info? 22).map (fun i => (i.zero, i.size, i.bytes)) = some (some (.slice none 0 0), 1, 24) := by kernel_rfl
theorem own_below_ {w w' : World} {base g n cap : Nat} {e : TypeId} {xs : List Value} (h : w.ownsRow base e 1 (.slice (some ⟨g, 0, none⟩) n cap) n xs) (hb : Below w.heap.size w w') : w'.ownsRow base e 1 (.slice (some ⟨g, 0, none⟩) n cap) n xs := by
  obtain ⟨hl, h | ⟨g', cap', cur, hv, hbase, hh, r⟩⟩ := h
  · cases h.1
  · cases hv
    exact ⟨hl, .inr ⟨g, cap, cur, rfl, hbase, (hb.block g (Array.getElem?_eq_some_iff.1 hh).1).trans hh, r⟩⟩
theorem own_lt {w : World} {base g n cap : Nat} {e : TypeId} {xs : List Value} (h : w.ownsRow base e 1 (.slice (some ⟨g, 0, none⟩) n cap) n xs) : g < w.heap.size := by
  obtain ⟨hl, h | ⟨g', cap', cur, hv, hbase, hh, r⟩⟩ := h
  · cases h.1
  · cases hv
    exact (Array.getElem?_eq_some_iff.1 hh).1
theorem own_ge {w : World} {base g n cap : Nat} {e : TypeId} {xs : List Value} (h : w.ownsRow base e 1 (.slice (some ⟨g, 0, none⟩) n cap) n xs) : base ≤ g := by
  obtain ⟨hl, h | ⟨g', cap', cur, hv, hbase, hh, r⟩⟩ := h
  · cases h.1
  · cases hv
    exact hbase
theorem own_kept {w w' : World} {base g n cap : Nat} {e : TypeId} {xs : List Value} {row : Option Nat} (h : w.ownsRow base e 1 (.slice (some ⟨g, 0, none⟩) n cap) n xs) (hb : w.grownBy w' row) (hne : some g ≠ row) : w'.ownsRow base e 1 (.slice (some ⟨g, 0, none⟩) n cap) n xs := by
  obtain ⟨hl, h | ⟨g', cap', cur, hv, hbase, hh, r⟩⟩ := h
  · cases h.1
  · cases hv
    exact ⟨hl, .inr ⟨g, cap, cur, rfl, hbase, (hb.block g (Array.getElem?_eq_some_iff.1 hh).1 hne).trans hh, r⟩⟩
/-- words that the call owns, in a slice that it owns -/
def WordsOwn (B : Nat) (w : World) (v : Value) (ws : List (List Int)) : Prop :=
  ∃ g us, v = .slice (some ⟨g, 0, none⟩) ws.length ws.length ∧ w.ownsRow B 22 1 v ws.length us ∧ ∀ i, i < ws.length → ∃ gi, gi ≠ g ∧ us[i]? = some (.slice (some ⟨gi, 0, none⟩) (ws.getD i []).length (ws.getD i []).length) ∧ w.ownsRow B 3 1 (.slice (some ⟨gi, 0, none⟩) (ws.getD i []).length (ws.getD i []).length) (ws.getD i []).length (IV (ws.getD i []))
theorem set_step (us : List Value) (n k : Nat) (z u : Value) (hk : k < n) (h : us.length = k) : (us ++ List.replicate (n - k) z).set k u = (us ++ [u]) ++ List.replicate (n - (k + 1)) z := by
  rw [List.set_append_right _ _ (by omega), h, Nat.sub_self, show n - k = (n - (k + 1)) + 1 from by omega, List.replicate_succ, List.set_cons_zero]
  simp
theorem own_base {w : World} {base base' g n cap : Nat} {e : TypeId} {xs : List Value} (h : w.ownsRow base e 1 (.slice (some ⟨g, 0, none⟩) n cap) n xs) (hb : base' ≤ base) : w.ownsRow base' e 1 (.slice (some ⟨g, 0, none⟩) n cap) n xs := by
  obtain ⟨hl, h | ⟨g', cap', cur, hv, hbase, hh, r⟩⟩ := h
  · cases h.1
  · cases hv
    exact ⟨hl, .inr ⟨g, cap, cur, rfl, Nat.le_trans hb hbase, hh, r⟩⟩
theorem getD_map (wd : List UInt8 → List Int) (zs : List (List UInt8)) (i : Nat) (h : i < zs.length) : (zs.map wd).getD i [] = wd (zs.getD i []) := by
  simp [List.getD_eq_getElem?_getD, List.getElem?_eq_getElem h]
set_option maxRecDepth 100000 in
set_option maxHeartbeats 1000000 in
theorem all_some (w : World) (s : Nat) (mo : Option Nat) (Ks : List (List UInt8)) (wd : List UInt8 → List Int) (hK : ∀ k ∈ Ks, keyB (wd k) = k ∧ (∀ x ∈ wd k, In64 x) ∧ (wd k).length ≤ 1000) (h : SetIs w s mo Ks) (hl : Ks.length ≤ 1000) (hpos : 0 < Ks.length) : Calls Try.prog 20 #[.pointer (some ⟨s, 0, none⟩)] w fun e w' => ∃ v ws, e = .returned v ∧ WordsOwn w.heap.size w' v ws ∧ (ws.map keyB).Perm Ks ∧ (ws.map keyB).Pairwise (· ≤ ·) ∧ (∀ x ∈ ws, (∀ n ∈ x, In64 n) ∧ x.length ≤ 1000) ∧ Below w.heap.size w w' := by
  obtain ⟨i0, hi, hz0, hz1, hz2⟩ := info_parts info_str
  obtain ⟨j0, ji, jz0, jz1, jz2⟩ := info_parts info_ints
  have h0 := h
  have hs := h.lt
  have hnd := h.nodup
  obtain ⟨mv, hb, hm⟩ := h
  rcases hm with ⟨rfl, rfl, rfl⟩ | ⟨bm, D, rfl, rfl, hown, hD⟩
  · simp at hpos
  · have hbl := hown.lt
    have hcs : ∀ {w0 : World}, w.grownBy w0 none → w0.cell? ⟨s, 0, none⟩ = some (.map (some bm)) := fun hg => (hb.grown hg (by simp)).cell 0
    have hmap : ∀ {w0 : World}, w.grownBy w0 none → w0.ownsMap Try.prog 9 unitElem bm Ks.length D := fun hg => (Kp.of_grown hg).map hown (fun h => by cases h)
    have HK := Lib.hid hK
    clear hK
    go_enter Try.func20, Try.ntmps20
    go_wp2_with (first | (go_at_call 21; refine (len_any _ s _ _ h0).mono ?_; rintro e w1 ⟨rfl, rfl⟩) | (at_make; refine wpList_make_own _ rfl _ _ 54 rfl w.heap.size 9 i0 (.string ⟨#[]⟩) 1 Try.underlying54 hi hz0 hz1 .i64 .i64 _ Ks.length rfl rfl rfl (by rw [hz2]; omega) (by unfold maxLen; omega) (Nat.le_refl _) ?_; intro w0 hown0 hgrow0) | (go_at_call 34; refine (held_any _ s _ (hcs hgrow0)).mono ?_; rintro e w1 ⟨rfl, rfl⟩) | (at_range; refine wpList_range_own _ rfl _ 51 rfl 9 68 law9 Try.underlying51 unitElem bm Ks.length D rfl (hmap hgrow0) ?_; intro w1 hrg1 hg1 hs1))
    go_frame
    have hw0z : w.heap.size < w0.heap.size := by have := own_lt hown0; omega
    have hB1 : Below w.heap.size w w1 := ((Below.refl _ _).grown hgrow0 (Nat.le_refl _) (fun k h => by cases h)).grown hg1 (by omega) (fun k h => by cases h)
    have hown1 := own_kept hown0 hg1 (by simp)
    clear hcs hmap hown0 hgrow0 hg1 hs1 hown hb h0
    generalize w0.heap.size = R at *
    go_loopw [3] (fun v wr => ∃ left cnt vs, v = .slice (some ⟨w.heap.size, 0, none⟩) vs.length Ks.length ∧ wr.ownsRow w.heap.size 9 1 (.slice (some ⟨w.heap.size, 0, none⟩) vs.length Ks.length) vs.length (vs.map Key) ∧ wr.ranges Try.prog 9 unitElem bm R Ks.length D left cnt ∧ Vis Ks left vs ∧ vs.length + cnt ≤ Ks.length ∧ Below w.heap.size w wr) (fun _ wr => wr.rangeLeft bm R)
    case atStart => exact ⟨_, _, [], rfl, hown1, hrg1, Vis.start hD, by rw [hD.2.2]; simp, hB1⟩
    case round =>
      obtain ⟨left, cnt, vs, rfl, hv, hrg, hvis, hcnt, hbel⟩ := hrel
      clear hown1 hrg1 hB1
      go_wp2_with (at_next; refine next_set _ rfl _ rfl bm R Ks.length D left cnt rfl hrg ?_ ?_)
      · intro hc0 hl0
        have hdone := hvis.done hl0
        have hperm : vs.Perm Ks := (List.perm_ext_iff_of_nodup hvis.1 hnd).2 hdone
        have hlen := hperm.length_eq
        clear hvis hrg hl0 hc0 hdone hcnt
        rw [← hlen] at hv hl hpos ⊢
        have HP := Lib.hid hperm
        clear hperm hlen
        have HB := Lib.hid hbel
        have hbz := hbel.size
        go_wp2_with (first | (go_at_call 35; refine (sort_own _ w.heap.size w.heap.size vs.length 9 vs (by omega) hv).mono ?_; rintro e w5 ⟨rfl, hv5, hg5⟩) | (at_make; refine wpList_make_full _ rfl _ _ 29 rfl w.heap.size 22 j0 (.slice none 0 0) 1 Try.underlying29 ji jz0 jz1 .i64 .i64 _ _ vs.length rfl rfl rfl rfl (by rw [jz2]; omega) (by unfold maxLen; omega) (by have := hg5.size; omega) ?_; intro w6 hown6 hg6))
        have hv6 := own_kept hv5 hg6 (by simp)
        have hB6 : Below w.heap.size w w6 := (hbel.grown hg5 hbz (fun k h => by cases h; exact Nat.le_refl _)).grown hg6 (by have := hg5.size; omega) (fun k h => by cases h)
        rw [show (Value.slice none 0 0).cells = #[.slice none 0 0] from rfl, toList_madeCells_one, Nat.mul_one] at hown6
        have hzl := srt_len vs
        have hzk : ∀ z ∈ srt vs, keyB (wd z) = z ∧ (∀ x ∈ wd z, In64 x) ∧ (wd z).length ≤ 1000 := fun z hz => HK.out z (HP.out.mem_iff.1 ((srt_perm vs).mem_iff.1 hz))
        have hsp : (srt vs).Perm Ks := (srt_perm vs).trans HP.out
        have hso := srt_sorted vs
        generalize srt vs = zs at *
        have hLB : w.heap.size < w5.heap.size := by have := own_lt hv5; omega
        clear hv hv5 hg5 hg6 HB hbel hbz
        generalize w5.heap.size = L at *
        have HZ := Lib.hid hzk
        have HSP := Lib.hid hsp
        have HSO := Lib.hid hso
        rw [← hzl] at hv6 hown6 hl hpos ⊢
        have HZL := Lib.hid hzl
        clear hzk hsp hso hzl
        go_loopw [32] (fun i wr => ∃ k us, k ≤ zs.length ∧ i = .int .i64 (k : Nat) ∧ us.length = k ∧ wr.ownsRow w.heap.size 22 1 (.slice (some ⟨L, 0, none⟩) zs.length zs.length) zs.length (us ++ List.replicate (zs.length - k) (.slice none 0 0)) ∧ wr.ownsRow w.heap.size 9 1 (.slice (some ⟨w.heap.size, 0, none⟩) zs.length zs.length) zs.length (zs.map Key) ∧ (∀ i, i < k → ∃ gi, gi ≠ L ∧ us[i]? = some (.slice (some ⟨gi, 0, none⟩) (wd (zs.getD i [])).length (wd (zs.getD i [])).length) ∧ wr.ownsRow w.heap.size 3 1 (.slice (some ⟨gi, 0, none⟩) (wd (zs.getD i [])).length (wd (zs.getD i [])).length) (wd (zs.getD i [])).length (IV (wd (zs.getD i [])))) ∧ Below w.heap.size w wr) (fun i _ => zs.length - (intOf i).toNat)
        case atStart => exact ⟨0, [], Nat.zero_le _, rfl, rfl, hown6, hv6, fun i h => absurd h (Nat.not_lt_zero _), hB6⟩
        case round =>
          obtain ⟨k, us, hk, rfl, hul, hls, hks, hwo, hbe⟩ := hrel
          clear hown6 hv6 hB6
          have HW := Lib.hid hwo
          clear hwo
          have hbez := hbe.size
          by_cases hlt : k < zs.length
          · have hkc : wr.cell? ⟨w.heap.size, k, none⟩ = some (Key (zs.getD k [])) := by
              rw [hks.cellAt k (by omega), List.getElem?_map, List.getD_eq_getElem?_getD, List.getElem?_eq_getElem hlt]
              rfl
            obtain ⟨hz1', hz2', hz3'⟩ := HZ.out (zs.getD k []) (by rw [List.getD_eq_getElem?_getD, List.getElem?_eq_getElem hlt]; simp)
            have hgd : ∃ z, z = zs.getD k [] := ⟨_, rfl⟩
            obtain ⟨z, hz⟩ := hgd
            rw [← hz] at hkc hz1' hz2' hz3'
            have hx : ∃ x, x = wd z := ⟨_, rfl⟩
            obtain ⟨x, hx⟩ := hx
            rw [← hx] at hz1' hz2' hz3'
            rw [← hz1'] at hkc
            have HZ2 := Lib.hid hz
            have HX := Lib.hid hx
            clear hz hx hz1'
            go_wp2_with (first | (go_at_call 36; refine (wordOf_any wr x hz2' hz3').mono ?_; rintro e w7 ⟨rfl, ho7, hb7⟩; have hl7 := own_below_ hls hb7; have hf7 := hl7.frozenAt k; have hc7 : w7.cell? ⟨L, k, none⟩ = some (.slice none 0 0) := by (rw [hl7.cellAt k (by omega), List.getElem?_append_right (by omega), hul, List.getElem?_replicate]; simp; omega)))
            obtain ⟨o1, o2⟩ := hl7.stored k (.slice (some ⟨wr.heap.size, 0, none⟩) x.length x.length)
            rw [set_step us zs.length k _ _ hlt hul] at o1
            have hLz := own_lt hls
            refine ⟨⟨k + 1, us ++ [.slice (some ⟨wr.heap.size, 0, none⟩) x.length x.length], by omega, congrArg (Value.int .i64) (by omega), by simp [hul], o1, own_kept (own_below_ hks hb7) o2 (fun e => by have := Option.some.inj e; omega), fun i hi => ?_, (hbe.trans (hb7.mono hbez)).grown o2 (by have := hb7.size; omega) (fun k h => by cases h; omega)⟩, by simp only [intOf]; omega⟩
            by_cases hik : i < k
            · obtain ⟨gi, g1, g2, g3⟩ := HW.out i hik
              exact ⟨gi, g1, by rw [List.getElem?_append_left (by omega)]; exact g2, own_kept (own_below_ g3 hb7) o2 (fun e => g1 (Option.some.inj e))⟩
            · have hie : i = k := by omega
              rw [hie, ← HZ2.out, ← HX.out]
              exact ⟨wr.heap.size, by omega, by rw [← hul]; simp, own_kept (own_base ho7 hbez) o2 (fun e => by have := Option.some.inj e; omega)⟩
          · have hkk : k = zs.length := by omega
            subst hkk
            go_wp2
            go_ret
            have hmk : (zs.map wd).map keyB = zs := by
              rw [List.map_map]
              exact (List.map_congr_left (fun z hz => (HZ.out z hz).1)).trans (List.map_id _)
            refine ⟨.slice (some ⟨L, 0, none⟩) zs.length zs.length, zs.map wd, rfl, ⟨L, us, by rw [List.length_map], by rw [List.length_map]; simpa using hls, fun i hi => ?_⟩, by rw [hmk]; exact HSP.out, by rw [hmk]; exact HSO.out, fun x hx => by obtain ⟨z, hz, rfl⟩ := List.mem_map.1 hx; exact (HZ.out z hz).2, hbe⟩
            rw [List.length_map] at hi
            rw [getD_map wd zs i hi]
            exact HW.out i hi
      · intro x w2 cnt1 hx1 hlx hhx hrg2 hlt2 hg2 hs2 hen
        have hv2 := own_kept hv hg2 (fun e => by have := Option.some.inj e; omega)
        have hbel2 := hbel.grown hg2 hbel.size (fun k e => by have := Option.some.inj e; omega)
        have hvis2 := hvis.step hD hlx hhx
        have hcap : vs.length + 1 ≤ Ks.length := by omega
        have HV := Lib.hid hvis2
        have hms : wr.rangeLeft bm R = cnt := hrg.left_eq
        have HS := Lib.hid hms
        clear hvis hvis2 hlx hhx hg2 hrg hms hv hbel hs2
        unfold Key
        unfold Key at hen
        go_wp2_with (first | (at_builtin; refine wpList_append_fits _ rfl (.tmp 21) (.tmp 23) 54 rfl w.heap.size 9 i0 1 Try.underlying54 hi hz1 w.heap.size vs.length Ks.length _ rfl (hv2.alloc _) ⟨w2.heap.size, 0, none⟩ 1 1 [.string ⟨x.toArray⟩] rfl rfl (cell_one_new _ _ _) (fun u hu => by simp at hu; subst hu; rfl) hcap ?_; intro w4 hown4 hgrow4))
        have hrg4 := ranges_kp hrg2 ((Kp.ofB ((Below.refl _ _).alloc (Nat.le_refl _) _)).then_ (Kp.of_grown hgrow4) (fun i hi => .inl hi)) (fun e => by have := Option.some.inj e; omega) (fun e => by have := Option.some.inj e; omega)
        have hbel4 : Below w.heap.size w w4 := (hbel2.alloc hbel2.size _).grown hgrow4 (by rw [World.size_alloc]; have := hbel2.size; omega) (fun k h => by cases h; exact Nat.le_refl _)
        have e : (vs ++ [x]).length = vs.length + 1 := by simp
        exact ⟨⟨_, cnt1, vs ++ [x], by rw [e], by rw [e, List.map_append]; exact hown4, hrg4, HV.out, by rw [e]; omega, hbel4⟩, by rw [hrg4.left_eq, HS.out]; exact hlt2⟩
end Go.Proofs.Ythcnffieoocnkaa.st

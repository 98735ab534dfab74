import Derived.Test.YtldamieigigncaaGreatDoorVcai
namespace Go.Proofs.YtldamieigigncaaGreatDoor.lx
open Go.ChangeShapes Go.WideShapes Go.ChangeAt Go.RowKit
set_option linter.unusedVariables false
attribute [local go_sem] run_store_float
theorem info_alt : (Tryz.prog.info? 124).map (fun i => (i.zero, i.size, i.bytes)) = some (some (.agg #[.int .i64 0, .float .f64 0, .slice none 0 0]), 3, 40) := by kernel_rfl
def preA (done : List Altn) (x : Res (List Altn)) : Res (List Altn) := match x with
  | .error e => .error e
  | .ok (as_, r) => .ok (done ++ as_, r)
theorem more_eq (sub : List Tok → Res (List Altn)) (f : Nat) (ts : List Tok) : pMore sub (f + 1) ts = if sg ts = 124 then (match pAlt sub ts.tail with
      | .error e => .error e
      | .ok (a, r) => match pMore sub f r with
        | .error e => .error e
        | .ok (as_, r2) => .ok (a :: as_, r2)) else .ok ([], ts) := rfl
theorem preA_step (sub : List Tok → Res (List Altn)) (done : List Altn) (f : Nat) (ts r : List Tok) (a : Altn) (h : sg ts = 124) (hi : pAlt sub ts.tail = .ok (a, r)) : preA done (pMore sub (f + 1) ts) = preA (done ++ [a]) (pMore sub f r) := by
  rw [more_eq, if_pos h, hi]
  show preA done (match pMore sub f r with
        | .error e => .error e
        | .ok (as_, r2) => .ok (a :: as_, r2)) = _
  cases hx : pMore sub f r with
  | error e => rfl
  | ok x => simp [preA]
theorem preA_err (sub : List Tok → Res (List Altn)) (done : List Altn) (f : Nat) (ts : List Tok) (p : Nat × Nat) (h : sg ts = 124) (hi : pAlt sub ts.tail = .error p) : preA done (pMore sub (f + 1) ts) = .error p := by
  rw [more_eq, if_pos h, hi]
  rfl
theorem preA_end (sub : List Tok → Res (List Altn)) (done : List Altn) (f : Nat) (ts : List Tok) (h : ¬ sg ts = 124) : preA done (pMore sub (f + 1) ts) = .ok (done, ts) := by
  rw [more_eq, if_neg h]
  simp [preA]
theorem alts_eq (sub : List Tok → Res (List Altn)) (ts r : List Tok) (a : Altn) (h : pAlt sub ts = .ok (a, r)) : preA [a] (pMore sub r.length r) = pAlts sub ts := by
  unfold pAlts
  rw [h]
  show preA [a] (pMore sub r.length r) = (match pMore sub r.length r with
  | .error e => (.error e : Res (List Altn))
  | .ok (as_, r2) => .ok (a :: as_, r2))
  cases hx : pMore sub r.length r with
  | error e => rfl
  | ok x => rfl
theorem alt_one (a : Altn) (ao : Option Addr) (n c : Nat) : ∀ z ∈ AltC a (.slice ao n c), z.oneCell' = true := by
  intro z hz
  simp [AltC] at hz
  rcases hz with rfl | rfl | rfl <;> rfl
theorem own_more {α : Type} {c : Nat} {E : Elem α} (hE : Keeps E) {ty B : Nat} {wr w3 w4 : World} {v v4 : Value} {xs : List α} {x : α} {cs : List Value} {us : List (List Value)} (hus1 : us.length = xs.length) (hus2 : ∀ u ∈ us, u.length = c) (hus4 : ∀ (j : Nat) (x : α), xs[j]? = some x → ∃ cs, us[j]? = some cs ∧ E wr (fun g => B ≤ g ∧ some g ≠ v.ownBlock) x cs)
    (how : wr.ownsRow B ty c v xs.length us.flatten) (hk : ∀ g, g < wr.heap.size → B ≤ g → w3.heap[g]? = wr.heap[g]?) (hz : wr.heap.size ≤ w3.heap.size) (hx : E w3 (fun g => wr.heap.size ≤ g) x cs) (hc : cs.length = c) (hB : B ≤ wr.heap.size)
    (hown4 : w4.ownsRow B ty c v4 (xs.length + 1) (us.flatten ++ cs)) (hgrow4 : (w3.alloc (.cells cs.toArray ty)).grownBy w4 v.ownBlock) (hat4 : v4.ownBlock = v.ownBlock ∨ v4.ownBlock = some (w3.alloc (.cells cs.toArray ty)).heap.size) : OwnOf c E ty B w4 v4 (xs ++ [x]) := by
  refine OwnOf.step hE hus1 hus2 (fun j y hy => ?_) ?_ hc hown4 hgrow4 hat4
  · obtain ⟨ds, e, h⟩ := hus4 j y hy
    exact ⟨ds, e, hE _ _ _ _ _ _ h (fun g hg hA => ⟨hA, (Below.heap_alloc w3 _ g (by omega)).trans (hk g hg hA.1)⟩) (by rw [World.size_alloc]; omega)⟩
  · refine hE _ _ _ _ _ _ hx (fun g hg hA => ⟨⟨by omega, fun e => ?_⟩, Below.heap_alloc w3 _ g hg⟩) (by rw [World.size_alloc]; omega)
    have := (how.lt g e.symm).2
    omega
theorem ListOf.form {α : Type} {c : Nat} {E : Elem α} {w : World} {A : Nat → Prop} {v : Value} {xs : List α} (h : ListOf c E w A v xs) : ∃ ao cap, v = .slice ao xs.length cap := by
  obtain ⟨_, ao, cap, e, _⟩ := h
  exact ⟨ao, cap, e⟩
theorem AltV.form {k B : Nat} {w : World} {v : Value} {a : Altn} (h : AltV k B w v a) : ∃ ao c, v = .agg #[.int .i64 a.1, .float .f64 a.2.1, .slice ao a.2.2.length c] ∧ ListOf 5 (EItm (AltsAt k)) w (fun g => B ≤ g) (.slice ao a.2.2.length c) a.2.2 := by
  obtain ⟨iv, rfl, hv⟩ := h
  obtain ⟨ao, c, rfl⟩ := hv.form
  exact ⟨ao, c, rfl, hv⟩
set_option maxRecDepth 100000 in
set_option maxHeartbeats 2000000 in
theorem alts_any (k : Nat) (hA : AltOk k) : AltsOk k := by
  intro w gp ts hk h hg hl
  have hgp := h.lt
  have hE := keepsAlt (keepsAlts k)
  obtain ⟨i1, ki, kz0, kz1, kz2⟩ := info_parts info_alt
  have HA := Lib.hid hA
  have h1 := hA w gp ts hk h hg hl
  rw [pA_sub]
  generalize hn : ts.length = n at *
  clear hA h hg
  cases hx : pAlt (pSub k) ts with
  | error p =>
    rw [hx] at h1
    have HR : Hid (pAlts (pSub k) ts = .error p) := Lib.hid (by unfold pAlts; rw [hx])
    clear hx
    go_enter Tryz.func121, Tryz.ntmps121
    go_wp2_with fail
    refine h1.mono ?_
    rintro e w1 ⟨hk1, rfl⟩
    go_wp2_with fail
    exact ⟨rfl, hk1, by rw [HR.out]⟩
  | ok x =>
    obtain ⟨a, r⟩ := x
    rw [hx] at h1
    have HR := Lib.hid (alts_eq _ _ _ _ hx)
    clear hx
    go_enter Tryz.func121, Tryz.ntmps121
    go_wp2_with fail
    refine h1.mono ?_
    rintro e w1 ⟨hk1, v, rfl, hv, hp1, hg1, hl1⟩
    obtain ⟨ao, c, rfl, hva⟩ := AltV.form hv
    clear hv
    have hv := hva
    clear hva
    have hz1 := hk1.size
    have hol : OwnOf 3 (EAlt (AltsAt k)) 124 w.heap.size (w1.alloc (.cells #[.int .i64 a.1, .float .f64 a.2.1, .slice ao a.2.2.length c] 124)) (.slice (some ⟨w1.heap.size, 0, none⟩) 1 1) [a] := OwnOf.lit1 hE 124 w.heap.size w1 hz1 a (AltC a (.slice ao a.2.2.length c)) rfl ⟨_, rfl, hv⟩
    have HST : Hid (PAt (w1.alloc (.cells #[.int .i64 a.1, .float .f64 a.2.1, .slice ao a.2.2.length c] 124)) gp r (16 - k) ∧ Good r ∧ r.length ≤ n ∧ Kp (fun i => i = gp) w (w1.alloc (.cells #[.int .i64 a.1, .float .f64 a.2.1, .slice ao a.2.2.length c] 124))) := Lib.hid ⟨hp1.alloc _, hg1, hl1, hk1.trans (Kp.alloc _ _ _)⟩
    have HOL := Lib.hid hol
    clear hol hv hp1 hg1 hl1 hk1 h1
    go_wp2_with fail
    go_loopw [3] (fun lv wr => ∃ (v : Value) (done : List Altn) (ts' : List Tok) (f : Nat), v = lv ∧ 1 ≤ done.length ∧ PAt wr gp ts' (16 - k) ∧ Good ts' ∧ ts'.length ≤ f ∧ done.length + f ≤ n + 1 ∧ OwnOf 3 (EAlt (AltsAt k)) 124 w.heap.size wr v done ∧ Kp (fun i => i = gp) w wr ∧ preA done (pMore (pSub k) f ts') = pAlts (pSub k) ts) (fun _ wr => comes wr gp)
    case atStart => exact ⟨_, [a], r, r.length, rfl, Nat.le_refl _, HST.out.1, HST.out.2.1, Nat.le_refl _, by have := HST.out.2.2.1; simp; omega, HOL.out, HST.out.2.2.2, HR.out⟩
    case round =>
      obtain ⟨lv, done, ts', f, rfl, hd1, hp1, hg1, hf, hdf, ho, hk1, hpre⟩ := hrel
      have hs := psign_any wr gp ts' _ hp1 hg1
      obtain ⟨f, rfl⟩ : ∃ f', f = f' + 1 := ⟨f - 1, by have := hg1.pos; omega⟩
      have hzr := hk1.size
      have HO := Lib.hid ho
      have HP1 := Lib.hid hp1
      have HG1 := Lib.hid hg1
      have HK1 := Lib.hid hk1
      have hsb := sg_byte hg1
      obtain ⟨s, hse⟩ : ∃ s, s = sg ts' := ⟨_, rfl⟩
      have HSE := Lib.hid hse
      rw [← hse] at hs hsb
      clear ho hp1 hk1 hse
      by_cases h124 : s = 124
      · subst h124
        obtain ⟨t2, r2, rfl, hst, hgr2⟩ := HG1.out.sg_tail (by rw [← HSE.out]; decide)
        have htk := take_any wr gp t2 r2 _ HP1.out hgr2.pos
        have hlr : r2.length + 1 ≤ f + 1 := hf
        cases hi : pAlt (pSub k) r2 with
        | error p =>
          have HPR : Hid (pAlts (pSub k) ts = .error p) := Lib.hid (by rw [← hpre]; exact preA_err _ _ _ _ _ HSE.out.symm hi)
          clear hpre
          go_wp2_with (first | (go_at_call 141; refine hs.mono ?_; rintro e w2 ⟨rfl, rfl⟩))
          refine htk.mono ?_
          rintro e w3 ⟨rfl, hp3, hk3⟩
          have h1 := HA.out w3 gp r2 hk hp3 hgr2 (by omega)
          rw [hi] at h1
          have hz3 := hk3.size
          clear hi
          go_wp2_with fail
          refine h1.mono ?_
          rintro e w4 ⟨hk4, rfl⟩
          go_wp2_with fail
          exact ⟨rfl, (HK1.out.trans hk3).trans hk4, by rw [HPR.out]⟩
        | ok x =>
          obtain ⟨a2, r3⟩ := x
          have HPR : Hid (preA (done ++ [a2]) (pMore (pSub k) f r3) = pAlts (pSub k) ts) := Lib.hid (by rw [← hpre, preA_step _ _ _ _ _ _ HSE.out.symm hi])
          clear hpre
          obtain ⟨us, hus1, hus2, how, hus4⟩ := HO.out
          obtain ⟨lo, lc, rfl⟩ := own_form how
          have HOW := Lib.hid how
          have HU4 := Lib.hid hus4
          have HU2 := Lib.hid hus2
          clear how hus4 hus2
          go_wp2_with (first | (go_at_call 141; refine hs.mono ?_; rintro e w2 ⟨rfl, rfl⟩))
          refine htk.mono ?_
          rintro e w3 ⟨rfl, hp3, hk3⟩
          have h1 := HA.out w3 gp r2 hk hp3 hgr2 (by omega)
          rw [hi] at h1
          have hz3 := hk3.size
          have HK3 := Lib.hid hk3
          clear hi hp3 hk3
          go_wp2_with fail
          refine h1.mono ?_
          rintro e w4 ⟨hk4, v4, rfl, hv4, hp4, hg4, hl4⟩
          obtain ⟨ao4, c4, rfl, hva⟩ := AltV.form hv4
          clear hv4
          have hv4 := hva
          clear hva
          have hz4 := hk4.size
          have hk34 := HK3.out.trans hk4
          have how4 := ownsRow_keep HOW.out (fun g hg hv => hk34.block g hg (by have := (HOW.out.lt g hv).1; show ¬ g = gp; omega))
          have HW4 := Lib.hid how4
          have HV4 := Lib.hid hv4
          have HK34 := Lib.hid hk34
          have HP4 := Lib.hid hp4
          clear how4 hv4 hk4 hk34 hp4 h1
          go_wp2_with (at_builtin; refine wpList_append_own_at _ rfl (.tmp 12) (.tmp 15) 64 rfl w.heap.size 124 i1 (.agg #[.int .i64 0, .float .f64 0, .slice none 0 0]) 3 40 Tryz.underlying64 ki kz0 kz1 kz2 rfl (by decide) _ done.length us.flatten rfl (HW4.out.alloc _) ⟨w4.heap.size, 0, none⟩ 1 1 (AltC a2 (.slice ao4 a2.2.2.length c4)) rfl rfl (new_cells _ _ _) (alt_one _ _ _ _) (by unfold maxLen; omega) (by omega) (by rw [World.size_alloc]; omega) ?_; intro v5 w5 hown5 hg5 _ hat5)
          have HB5 := Lib.hid (own_more hE hus1 HU2.out HU4.out HOW.out (fun g hg hb => HK34.out.block g hg (by show ¬ g = gp; omega)) (by omega) (hE _ _ _ _ _ _ ⟨_, rfl, HV4.out⟩ (fun g hg hA => ⟨Nat.le_trans hz3 hA, rfl⟩) (Nat.le_refl _)) rfl hzr hown5 hg5 hat5)
          have kg := Kp.of_grown hg5
          have hrow : ∀ j, (Value.slice lo done.length lc).ownBlock = some j → w.heap.size ≤ j := fun j e => (HOW.out.lt j e).1
          have HP5 := Lib.hid ((HP4.out.alloc (.cells #[.int .i64 a2.1, .float .f64 a2.2.1, .slice ao4 a2.2.2.length c4] 124)).kept kg (fun j hj => by have := hrow j hj; omega))
          have HK5 := Lib.hid (((HK1.out.trans HK34.out).trans (Kp.alloc _ w4 (.cells #[.int .i64 a2.1, .float .f64 a2.2.1, .slice ao4 a2.2.2.length c4] 124))).then_ kg (fun j hj => .inr (hrow j hj)))
          clear hown5 hg5 hat5 kg
          go_wp2_with fail
          refine ⟨⟨_, done ++ [a2], r3, f, rfl, by simp, HP5.out, hg4, by omega, by rw [List.length_append]; simp; omega, HB5.out, HK5.out, HPR.out⟩, ?_⟩
          rw [HP5.out.comes, HP1.out.comes]
          simp
          omega
      · have HPR : Hid (pAlts (pSub k) ts = .ok (done, ts')) := Lib.hid (by rw [← hpre]; exact preA_end _ _ _ _ (by rw [← HSE.out]; exact h124))
        have h124' : ((s : Int) == 124) = false := by rw [beq_eq_false_iff_ne]; omega
        have HL : Hid (AltsAt (k + 1) wr (fun g => w.heap.size ≤ g) lv done) := Lib.hid (HO.out.done hE)
        clear hpre h124
        go_wp2_with (first | (go_at_call 141; refine hs.mono ?_; rintro e w2 ⟨rfl, rfl⟩))
        go_ret
        refine ⟨HK1.out, ?_⟩
        rw [HPR.out]
        exact ⟨_, rfl, HL.out, HP1.out, HG1.out, by omega⟩
end Go.Proofs.YtldamieigigncaaGreatDoor.lx

namespace Go.Proofs.YtldamieigigncaaGreatDoor.lx
open Go.ChangeShapes Go.WideShapes Go.ChangeAt Go.RowKit
set_option linter.unusedVariables false
attribute [local go_sem] run_store_float
theorem alts_all : ∀ k, AltsOk k
  | 0 => alts_any 0 (alt_any 0 (item_any 0 group_zero))
  | k + 1 => alts_any (k + 1) (alt_any (k + 1) (item_any (k + 1) (group_succ k (alts_all k))))
def DefV (B : Nat) : World → Value → Dfn → Prop := fun w' v d => ∃ av, v = .agg (DefC d av).toArray ∧ AltsAt 17 w' (fun g => B ≤ g) av d.2.2
theorem DefV.form {B : Nat} {w : World} {v : Value} {d : Dfn} (h : DefV B w v d) : ∃ ao c, v = .agg #[.int .i64 d.1, .string (S d.2.1), .slice ao d.2.2.length c] ∧ AltsAt 17 w (fun g => B ≤ g) (.slice ao d.2.2.length c) d.2.2 := by
  obtain ⟨iv, rfl, hv⟩ := h
  obtain ⟨ao, c, rfl⟩ := hv.form
  exact ⟨ao, c, rfl, hv⟩
theorem pdef_no (ts : List Tok) (h : ¬ (hd ts).kind = 1) : pDef ts = .error (5, (hd ts).at_) := if_neg h
theorem pdef_eq (t : Tok) (r : List Tok) (h : t.kind = 1) (h2 : ¬ sg r = 61) : pDef (t :: r) = .error (5, (hd r).at_) := (if_pos h).trans (if_neg h2)
theorem pdef_go (t : Tok) (r : List Tok) (h : t.kind = 1) (h2 : sg r = 61) : pDef (t :: r) = (match pShut 59 (pA 16 r.tail) with
      | .error e => .error e
      | .ok (as_, r) => .ok ((t.at_, t.text, as_), r)) := (if_pos h).trans (if_pos h2)
set_option maxRecDepth 100000 in
set_option maxHeartbeats 2000000 in
theorem def_any (w : World) (gp : Nat) (ts : List Tok) (h : PAt w gp ts 0) (hg : Good ts) (hl : ts.length ≤ 70000) : Calls Tryz.prog 88 #[.pointer (some ⟨gp, 0, none⟩)] w (Ans (DefV w.heap.size) gp 0 (ts.length - 1) w (pDef ts)) := by
  obtain ⟨t, r, rfl⟩ := hg.ne
  have hgp := h.lt
  obtain ⟨g, o, cap, hb, hl1, hm, hne, hgs, hc⟩ := id h
  obtain ⟨c0, c1, c2, c3⟩ := tcells_head t r g o w hc
  have hp : w.cell? ⟨gp, 0, none⟩ = some (.slice (some ⟨g, o, none⟩) (t :: r).length cap) := hb.cell 0
  have hl0 : 0 < (t :: r).length := by simp
  have HH := Lib.hid h
  have HG := Lib.hid hg
  have b0 := Blk.new w 66 #[.int .i64 0, .string ⟨#[]⟩, .slice none 0 0]
  have hk0 : Kp (fun i => i = gp) w (w.alloc (.cells #[.int .i64 0, .string ⟨#[]⟩, .slice none 0 0] 66)) := Kp.alloc _ _ _
  unfold maxLen at hm
  clear hc hb h
  by_cases k1 : t.kind = 1
  · have hgr := hg.tail (r := r) (by omega)
    have HTK := Lib.hid (fun w h => take_any w gp t r 0 h hgr.pos)
    have HGR := Lib.hid hgr
    have HK := Lib.hid k1
    have HN : Hid ((t :: r).length = r.length + 1) := Lib.hid rfl
    have HE1 := Lib.hid (pdef_eq t r k1)
    have HE2 := Lib.hid (pdef_go t r k1)
    generalize hX : pDef (t :: r) = X at *
    generalize (t :: r).length = n at *
    have c0 : w.cell? ⟨g, o, none⟩ = some (.int .i64 1) := by rw [c0, k1]; rfl
    obtain ⟨K, P, T, F⟩ := t
    have HB0 := Lib.hid b0
    have HK0 := Lib.hid hk0
    clear hg hgr k1 hX b0 hk0
    go_enter Tryz.func88, Tryz.ntmps88
    go_wp2_with fail
    refine (HTK.out _ (HH.out.alloc _)).mono ?_
    rintro e w1 ⟨rfl, hp1, hk1⟩
    have hz1 : w.heap.size + 1 ≤ w1.heap.size := by have := hk1.size; simp at this; omega
    have HB1 := Lib.hid (HB0.out.kept hk1 (by show ¬ w.heap.size = gp; omega))
    have HK1 := Lib.hid (HK0.out.trans hk1)
    have HP1 := Lib.hid hp1
    clear hp1 hk1 c0 c1 c2 c3 hp HTK HB0 HK0
    go_wp2_with fail
    have hk2 : Kp (fun i => i = gp) w1 (w1.alloc (.cells #[.int .i64 K, .int .i64 P, .string (S T), .float .f64 F] 162)) := Kp.alloc _ _ _
    have b1 := Blk.new w1 162 #[.int .i64 K, .int .i64 P, .string (S T), .float .f64 F]
    have hp2 := HP1.out.alloc (.cells #[.int .i64 K, .int .i64 P, .string (S T), .float .f64 F] 162)
    have hb0 := HB1.out.alloc (.cells #[.int .i64 K, .int .i64 P, .string (S T), .float .f64 F] 162)
    have hz2 : (w1.alloc (.cells #[.int .i64 K, .int .i64 P, .string (S T), .float .f64 F] 162)).heap.size = w1.heap.size + 1 := World.size_alloc _ _
    have hK2 := HK1.out.trans hk2
    generalize w1.alloc (.cells #[.int .i64 K, .int .i64 P, .string (S T), .float .f64 F] 162) = w2 at *
    have HB0 := Lib.hid hb0
    have HB1' := Lib.hid b1
    have HK2 := Lib.hid hK2
    clear hb0 b1 hK2 hk2 HB1 HK1 HP1
    by_cases h61 : sg r = 61
    · have HX := HE2.out h61
      obtain ⟨t2, r2, rfl, hst, hgr2⟩ := HGR.out.sg_tail (by omega)
      refine (want_ok w2 gp t2 r2 0 61 hp2 HGR.out (hst.trans h61) (by decide) (by decide)).mono ?_
      rintro e w3 ⟨rfl, hp3, hk3, _⟩
      have hlr : (t2 :: r2).length = r2.length + 1 := rfl
      have ha := alts_all 16 w3 gp r2 (Nat.le_refl _) hp3 hgr2 (by have := HN.out; omega)
      have hz3 := hk3.size
      have HB3 := Lib.hid (HB0.out.kept hk3 (by show ¬ w.heap.size = gp; omega))
      have HB3' := Lib.hid (HB1'.out.kept hk3 (by show ¬ w1.heap.size = gp; omega))
      have HK3 := Lib.hid (HK2.out.trans hk3)
      have HX2 := Lib.hid HX
      clear HX hp3 hk3 hp2 HB0 HB1' HK2 HE1 HE2
      go_wp2_with fail
      refine ha.mono ?_
      rintro e w4 ⟨hk4, ha4⟩
      have hz4 := hk4.size
      have HB4 := Lib.hid (HB3.out.kept hk4 (by show ¬ w.heap.size = gp; omega))
      have HB4' := Lib.hid (HB3'.out.kept hk4 (by show ¬ w1.heap.size = gp; omega))
      have HK4 := Lib.hid (HK3.out.trans hk4)
      clear ha hk4 HB3 HB3' HK3
      cases hx : pA 16 r2 with
      | error p =>
        rw [hx] at ha4
        obtain rfl : e = _ := ha4
        have HR : Hid (X = .error p) := Lib.hid (by rw [HX2.out, show (t2 :: r2).tail = r2 from rfl, hx]; rfl)
        clear hx
        go_wp2_with fail
        refine ⟨rfl, HK4.out, ?_⟩
        rw [HR.out]
      | ok x =>
        obtain ⟨bs, r3⟩ := x
        rw [hx] at ha4
        obtain ⟨v, rfl, hv, hp4, hg4, hl4⟩ := ha4
        obtain ⟨ao, c, rfl⟩ := hv.form
        have HV := Lib.hid hv
        have HP4 := Lib.hid hp4
        have HXX := Lib.hid hx
        clear hv hp4 hx
        generalize hbn : bs.length = bn at *
        have HBN := Lib.hid hbn
        clear hbn
        go_wp2_with fail
        by_cases h59 : sg r3 = 59
        · obtain ⟨t4, r4, rfl, hst4, hgr4⟩ := hg4.sg_tail (by omega)
          refine (want_ok w4 gp t4 r4 0 59 HP4.out hg4 (hst4.trans h59) (by decide) (by decide)).mono ?_
          rintro e w5 ⟨rfl, hp5, hk5, _⟩
          have hz5 := hk5.size
          have HR : Hid (X = .ok ((P, T, bs), r4)) := Lib.hid (by rw [HX2.out, show (t2 :: r2).tail = r2 from rfl, HXX.out, show pShut 59 (.ok (bs, t4 :: r4)) = .ok (bs, r4) from if_pos h59])
          have b0 := HB4.out.kept hk5 (by show ¬ w.heap.size = gp; omega)
          have b1 := HB4'.out.kept hk5 (by show ¬ w1.heap.size = gp; omega)
          have HV5 := Lib.hid (HV.out.kp hk5 (fun g hg => by show ¬ g = gp; omega))
          have HK5 := Lib.hid (HK4.out.trans hk5)
          have HP5 := Lib.hid hp5
          have l0 := b0.lt
          have l1 := b1.lt
          have x0 := b0.cell 0
          have x1 := b0.cell 1
          have x2 := b0.cell 2
          have y1 := b1.cell 1
          have y2 := b1.cell 2
          simp only [List.getElem?_toArray, List.getElem?_cons_zero, List.getElem?_cons_succ] at x0 x1 x2 y1 y2
          have u0 := b0.frozen 0
          have u1 := b0.frozen 1
          have u2 := b0.frozen 2
          clear b0 b1 hk5 hp5
          go_wp2_with fail
          have hke := kp_end3 w5 w.heap.size (.int .i64 P) (.string (S T)) (.slice ao bn c)
          refine bodyPost_ret (v := .agg #[.int .i64 P, .string (S T), .slice ao bn c]) (by simp [results, Tryz.results88, go_sem, x0, x1, x2]) rfl ⟨HK5.out.then_ hke (fun i hi => .inr (by have : i = w.heap.size := hi; omega)), ?_⟩
          rw [HR.out]
          refine ⟨_, rfl, ⟨.slice ao bn c, rfl, (HV5.out.kp hke (fun g hg => by show ¬ g = w.heap.size; omega)).mono (fun g hg => by omega)⟩, HP5.out.kept hke (fun i hi => by have : i = w.heap.size := hi; omega), hgr4, ?_⟩
          have := HN.out
          have : (t4 :: r4).length = r4.length + 1 := rfl
          omega
        · refine (want_no w4 gp r3 0 59 HP4.out hg4 h59 (sg_byte hg4) (by decide)).mono ?_
          rintro e w5 ⟨rfl, rfl⟩
          have HR : Hid (X = .error (5, (hd r3).at_)) := Lib.hid (by rw [HX2.out, show (t2 :: r2).tail = r2 from rfl, HXX.out, show pShut 59 (.ok (bs, r3)) = .error (5, (hd r3).at_) from if_neg h59])
          go_wp2_with fail
          refine ⟨rfl, HK4.out, ?_⟩
          rw [HR.out]
    · have HX := HE1.out h61
      refine (want_no w2 gp r 0 61 hp2 HGR.out h61 (sg_byte HGR.out) (by decide)).mono ?_
      rintro e w3 ⟨rfl, rfl⟩
      have HR := Lib.hid HX
      clear HX HE1 HE2 hp2
      go_wp2_with fail
      refine ⟨rfl, HK2.out, ?_⟩
      rw [HR.out]
  · have HR := Lib.hid (pdef_no (t :: r) k1)
    generalize hX : pDef (t :: r) = X at *
    have hk1 : ((t.kind : Int) != 1) = true := by rw [bne_iff_ne]; omega
    have hfl := fail_any _ gp _ _ (HH.out.alloc (.cells #[.int .i64 0, .string ⟨#[]⟩, .slice none 0 0] 66)) HG.out 5
    generalize (t :: r).length = n at *
    generalize (hd (t :: r)).at_ = A at *
    obtain ⟨K, P, T, F⟩ := t
    clear k1 hX hg b0
    go_enter Tryz.func88, Tryz.ntmps88
    go_wp2_with fail
    refine hfl.mono ?_
    rintro e w1 ⟨rfl, rfl⟩
    go_wp2_with fail
    refine ⟨rfl, hk0, ?_⟩
    rw [HR.out]
end Go.Proofs.YtldamieigigncaaGreatDoor.lx

namespace Go.Proofs.YtldamieigigncaaGreatDoor.lx
open Go.ChangeShapes Go.WideShapes Go.ChangeAt Go.RowKit
set_option linter.unusedVariables false
attribute [local go_sem] run_store_float
theorem info_def : (Tryz.prog.info? 66).map (fun i => (i.zero, i.size, i.bytes)) = some (some (.agg #[.int .i64 0, .string ⟨#[]⟩, .slice none 0 0]), 3, 48) := by kernel_rfl
def preT (done : List Dfn) (x : Except (Nat × Nat) (List Dfn)) : Except (Nat × Nat) (List Dfn) := match x with
  | .error e => .error e
  | .ok ds => .ok (done ++ ds)
def pRest (f : Nat) (ts : List Tok) : Except (Nat × Nat) (List Dfn) := if (hd ts).kind = 0 then .ok [] else pText f ts
theorem text_eq (f : Nat) (ts : List Tok) : pText (f + 1) ts = match pDef ts with
    | .error e => .error e
    | .ok (d, r) => if (hd r).kind = 0 then .ok [d] else match pText f r with
      | .error e => .error e
      | .ok ds => .ok (d :: ds) := rfl
theorem text_ok (f : Nat) (ts r : List Tok) (d : Dfn) (h : pDef ts = .ok (d, r)) : pText (f + 1) ts = preT [d] (pRest f r) := by
  rw [text_eq, h]
  unfold pRest
  by_cases h0 : (hd r).kind = 0
  · rw [if_pos h0]
    show (if (hd r).kind = 0 then _ else _) = _
    rw [if_pos h0]
    rfl
  · rw [if_neg h0]
    show (if (hd r).kind = 0 then _ else _) = _
    rw [if_neg h0]
    cases pText f r <;> rfl
theorem text_err (f : Nat) (ts : List Tok) (p : Nat × Nat) (h : pDef ts = .error p) : pText (f + 1) ts = .error p := by
  rw [text_eq, h]
theorem preT_app (a b : List Dfn) (x : Except (Nat × Nat) (List Dfn)) : preT a (preT b x) = preT (a ++ b) x := by
  cases x with
  | error e => rfl
  | ok ds => simp [preT]
theorem rest_step (done : List Dfn) (f : Nat) (ts r : List Tok) (d : Dfn) (h0 : ¬ (hd ts).kind = 0) (h : pDef ts = .ok (d, r)) : preT done (pRest (f + 1) ts) = preT (done ++ [d]) (pRest f r) := by
  rw [show pRest (f + 1) ts = pText (f + 1) ts from if_neg h0, text_ok f ts r d h, preT_app]
theorem rest_err (done : List Dfn) (f : Nat) (ts : List Tok) (p : Nat × Nat) (h0 : ¬ (hd ts).kind = 0) (h : pDef ts = .error p) : preT done (pRest (f + 1) ts) = .error p := by
  rw [show pRest (f + 1) ts = pText (f + 1) ts from if_neg h0, text_err f ts p h]
  rfl
theorem rest_end (done : List Dfn) (f : Nat) (ts : List Tok) (h0 : (hd ts).kind = 0) : preT done (pRest f ts) = .ok done := by
  rw [show pRest f ts = .ok [] from if_pos h0]
  simp [preT]
theorem def_one (d : Dfn) (ao : Option Addr) (n c : Nat) : ∀ z ∈ DefC d (.slice ao n c), z.oneCell' = true := by
  intro z hz
  simp [DefC] at hz
  rcases hz with rfl | rfl | rfl <;> rfl
def TextP (gp : Nat) (w : World) (x : Except (Nat × Nat) (List Dfn)) (e : Ending) (w' : World) : Prop :=
  Kp (fun i => i = gp) w w' ∧ match x with
  | .error p => e = .panicked [{ v := Wrong p.1 p.2, recovered := false }]
  | .ok ds => ∃ v, e = .returned v ∧ ListOf 3 EDef w' (fun g => w.heap.size ≤ g) v ds
set_option maxRecDepth 100000 in
set_option maxHeartbeats 2000000 in
theorem ptext_any (w : World) (gp : Nat) (ts : List Tok) (h : PAt w gp ts 0) (hg : Good ts) (hl : ts.length ≤ 70000) : Calls Tryz.prog 60 #[.pointer (some ⟨gp, 0, none⟩)] w (TextP gp w (pText ts.length ts)) := by
  have hgp := h.lt
  obtain ⟨i1, ki, kz0, kz1, kz2⟩ := info_parts info_def
  have h1 := def_any w gp ts h hg hl
  obtain ⟨n0, hn0⟩ : ∃ m, ts.length = m + 1 := ⟨ts.length - 1, by have := hg.pos; omega⟩
  rw [hn0] at h1 hl ⊢
  clear h hg
  cases hx : pDef ts with
  | error p =>
    rw [hx] at h1
    have HR := Lib.hid (text_err n0 ts p hx)
    clear hx
    go_enter Tryz.func60, Tryz.ntmps60
    go_wp2_with fail
    refine h1.mono ?_
    rintro e w1 ⟨hk1, rfl⟩
    go_wp2_with fail
    exact ⟨rfl, hk1, by rw [HR.out]⟩
  | ok x =>
    obtain ⟨a, r⟩ := x
    rw [hx] at h1
    have HR := Lib.hid (text_ok n0 ts r a hx)
    clear hx
    go_enter Tryz.func60, Tryz.ntmps60
    go_wp2_with fail
    refine h1.mono ?_
    rintro e w1 ⟨hk1, v, rfl, hv, hp1, hg1, hl1⟩
    obtain ⟨ao, c, rfl, hva⟩ := DefV.form hv
    have hz1 := hk1.size
    have hol : OwnOf 3 EDef 66 w.heap.size (w1.alloc (.cells #[.int .i64 a.1, .string (S a.2.1), .slice ao a.2.2.length c] 66)) (.slice (some ⟨w1.heap.size, 0, none⟩) 1 1) [a] := OwnOf.lit1 keepsDef 66 w.heap.size w1 hz1 a (DefC a (.slice ao a.2.2.length c)) rfl ⟨_, rfl, hva⟩
    have HST : Hid (PAt (w1.alloc (.cells #[.int .i64 a.1, .string (S a.2.1), .slice ao a.2.2.length c] 66)) gp r 0 ∧ Good r ∧ r.length ≤ n0 ∧ Kp (fun i => i = gp) w (w1.alloc (.cells #[.int .i64 a.1, .string (S a.2.1), .slice ao a.2.2.length c] 66))) := Lib.hid ⟨hp1.alloc _, hg1, by omega, hk1.trans (Kp.alloc _ _ _)⟩
    have HOL := Lib.hid hol
    clear hol hv hva hp1 hg1 hl1 hk1 h1
    go_wp2_with fail
    go_loopw [3] (fun lv wr => ∃ (v : Value) (done : List Dfn) (ts' : List Tok) (f : Nat), v = lv ∧ 1 ≤ done.length ∧ PAt wr gp ts' 0 ∧ Good ts' ∧ ts'.length ≤ f ∧ done.length + f ≤ n0 + 1 ∧ OwnOf 3 EDef 66 w.heap.size wr v done ∧ Kp (fun i => i = gp) w wr ∧ preT done (pRest f ts') = pText (n0 + 1) ts) (fun _ wr => comes wr gp)
    case atStart => exact ⟨_, [a], r, n0, rfl, Nat.le_refl _, HST.out.1, HST.out.2.1, HST.out.2.2.1, by simp; omega, HOL.out, HST.out.2.2.2, HR.out.symm⟩
    case round =>
      obtain ⟨lv, done, ts', f, rfl, hd1, hp1, hg1, hf, hdf, ho, hk1, hpre⟩ := hrel
      obtain ⟨t, r', rfl⟩ := hg1.ne
      have hlen : (t :: r').length = r'.length + 1 := rfl
      obtain ⟨f, rfl⟩ : ∃ f', f = f' + 1 := ⟨f - 1, by omega⟩
      have hzr := hk1.size
      have HO := Lib.hid ho
      have HP1 := Lib.hid hp1
      have HG1 := Lib.hid hg1
      have HK1 := Lib.hid hk1
      obtain ⟨g, o, cap, hb, hl1, hm, hne, hgs, hc⟩ := id hp1
      obtain ⟨c0, c1, c2, c3⟩ := tcells_head t r' g o wr hc
      have hp : wr.cell? ⟨gp, 0, none⟩ = some (.slice (some ⟨g, o, none⟩) (t :: r').length cap) := hb.cell 0
      have hl0 : 0 < (t :: r').length := by simp
      unfold maxLen at hm
      clear ho hp1 hk1 hc hb
      by_cases h0 : t.kind = 0
      · have HPR : Hid (pText (n0 + 1) ts = .ok done) := Lib.hid (by rw [← hpre]; exact rest_end _ _ _ h0)
        replace c0 : wr.cell? ⟨g, o, none⟩ = some (.int .i64 0) := by rw [c0, h0]; rfl
        have HL := Lib.hid (HO.out.done keepsDef)
        generalize (t :: r').length = nn at *
        clear hpre h0 c1 c2 c3
        go_wp2_with fail
        go_ret
        refine ⟨HK1.out, ?_⟩
        rw [HPR.out]
        exact ⟨_, rfl, HL.out⟩
      · have h0' : ((t.kind : Int) != 0) = true := by rw [bne_iff_ne]; omega
        have hd' := def_any wr gp (t :: r') HP1.out HG1.out (by omega)
        have HLEN := Lib.hid hlen
        cases hi : pDef (t :: r') with
        | error p =>
          have HPR : Hid (pText (n0 + 1) ts = .error p) := Lib.hid (by rw [← hpre]; exact rest_err _ _ _ _ h0 hi)
          rw [hi] at hd'
          generalize (t :: r').length = nn at *
          obtain ⟨K, P, T, F⟩ := t
          clear hpre h0 c1 c2 c3 hi
          go_wp2_with fail
          refine hd'.mono ?_
          rintro e w4 ⟨hk4, rfl⟩
          go_wp2_with fail
          exact ⟨rfl, HK1.out.trans hk4, by rw [HPR.out]⟩
        | ok x =>
          obtain ⟨a2, r3⟩ := x
          have HPR : Hid (preT (done ++ [a2]) (pRest f r3) = pText (n0 + 1) ts) := Lib.hid (by rw [← hpre]; exact (rest_step done f (t :: r') r3 a2 h0 hi).symm)
          rw [hi] at hd'
          have HCM := Lib.hid HP1.out.comes
          generalize hnn : (t :: r').length = nn at *
          obtain ⟨us, hus1, hus2, how, hus4⟩ := HO.out
          obtain ⟨lo, lc, rfl⟩ := own_form how
          have HOW := Lib.hid how
          have HU4 := Lib.hid hus4
          have HU2 := Lib.hid hus2
          obtain ⟨K, P, T, F⟩ := t
          clear hpre h0 c1 c2 c3 hi how hus4 hus2 hnn
          go_wp2_with fail
          refine hd'.mono ?_
          rintro e w4 ⟨hk4, v4, rfl, hv4, hp4, hg4, hl4⟩
          obtain ⟨ao4, c4, rfl, hva⟩ := DefV.form hv4
          have hz4 := hk4.size
          have how4 := ownsRow_keep HOW.out (fun g hg hv => hk4.block g hg (by have := (HOW.out.lt g hv).1; show ¬ g = gp; omega))
          have HW4 := Lib.hid how4
          have HV4 := Lib.hid hva
          have HK4 := Lib.hid hk4
          have HP4 := Lib.hid hp4
          clear how4 hv4 hva hk4 hp4 hd'
          go_wp2_with (at_builtin; refine wpList_append_own_at _ rfl (.tmp 15) (.tmp 18) 54 rfl w.heap.size 66 i1 (.agg #[.int .i64 0, .string ⟨#[]⟩, .slice none 0 0]) 3 48 Tryz.underlying54 ki kz0 kz1 kz2 rfl (by decide) _ done.length us.flatten rfl (HW4.out.alloc _) ⟨w4.heap.size, 0, none⟩ 1 1 (DefC a2 (.slice ao4 a2.2.2.length c4)) rfl rfl (new_cells _ _ _) (def_one _ _ _ _) (by unfold maxLen; omega) (by omega) (by rw [World.size_alloc]; omega) ?_; intro v5 w5 hown5 hg5 _ hat5)
          have HB5 := Lib.hid (own_more keepsDef hus1 HU2.out HU4.out HOW.out (fun g hg hb => HK4.out.block g hg (by show ¬ g = gp; omega)) (by omega) ⟨_, rfl, HV4.out⟩ rfl hzr hown5 hg5 hat5)
          have kg := Kp.of_grown hg5
          have hrow : ∀ j, (Value.slice lo done.length lc).ownBlock = some j → w.heap.size ≤ j := fun j e => (HOW.out.lt j e).1
          have HP5 := Lib.hid ((HP4.out.alloc (.cells #[.int .i64 a2.1, .string (S a2.2.1), .slice ao4 a2.2.2.length c4] 66)).kept kg (fun j hj => by have := hrow j hj; omega))
          have HK5 := Lib.hid (((HK1.out.trans HK4.out).trans (Kp.alloc _ w4 (.cells #[.int .i64 a2.1, .string (S a2.2.1), .slice ao4 a2.2.2.length c4] 66))).then_ kg (fun j hj => .inr (hrow j hj)))
          clear hown5 hg5 hat5 kg
          go_wp2_with fail
          refine ⟨⟨_, done ++ [a2], r3, f, rfl, by simp, HP5.out, hg4, by omega, by rw [List.length_append]; simp; omega, HB5.out, HK5.out, HPR.out⟩, ?_⟩
          rw [HP5.out.comes, HCM.out]
          omega
end Go.Proofs.YtldamieigigncaaGreatDoor.lx


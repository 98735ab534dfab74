import Derived.Test.YtjddjdpgnoebnaaGreatDoorRdf
namespace Go.Proofs.YtjddjdpgnoebnaaGreatDoor.lx
open Go.ChangeShapes Go.WideShapes Go.ChangeAt Go.RowKit
set_option linter.unusedVariables false
attribute [local go_sem] run_store_float
/-! alternatives -/
theorem info_alt : (Tryz.prog.info? 67).map (fun i => (i.zero, i.size, i.bytes)) = some (some (.agg #[.int .i64 0, .float .f64 0, .slice none 0 0]), 3, 40) := by kernel_rfl
def preA (done : List Altn) (x : Res (List Altn)) : Res (List Altn) := match x with
  | .error e => .error e
  | .ok (as_, r) => .ok (done ++ as_, r)
theorem more_eq (sub : List Tok → Res (List Altn)) (f : Nat) (ts : List Tok) : pMore sub (f + 1) ts = if sg ts = 124 then (match pAlt sub ts.tail with
      | .error e => .error e
      | .ok (a, r) => match pMore sub f r with
        | .error e => .error e
        | .ok (as_, r2) => .ok (a :: as_, r2)) else .ok ([], ts) := rfl
theorem preA_step (sub : List Tok → Res (List Altn)) (done : List Altn) (f : Nat) (ts r : List Tok) (a : Altn) (h : sg ts = 124) (hi : pAlt sub ts.tail = .ok (a, r)) : preA done (pMore sub (f + 1) ts) = preA (done ++ [a]) (pMore sub f r) := by
  rw [more_eq, if_pos h, hi]
  show preA done (match pMore sub f r with
        | .error e => .error e
        | .ok (as_, r2) => .ok (a :: as_, r2)) = _
  cases hx : pMore sub f r with
  | error e => rfl
  | ok x => simp [preA]
theorem preA_err (sub : List Tok → Res (List Altn)) (done : List Altn) (f : Nat) (ts : List Tok) (p : Nat × Nat) (h : sg ts = 124) (hi : pAlt sub ts.tail = .error p) : preA done (pMore sub (f + 1) ts) = .error p := by
  rw [more_eq, if_pos h, hi]
  rfl
theorem preA_end (sub : List Tok → Res (List Altn)) (done : List Altn) (f : Nat) (ts : List Tok) (h : ¬ sg ts = 124) : preA done (pMore sub (f + 1) ts) = .ok (done, ts) := by
  rw [more_eq, if_neg h]
  simp [preA]
theorem alts_eq (sub : List Tok → Res (List Altn)) (ts r : List Tok) (a : Altn) (h : pAlt sub ts = .ok (a, r)) : preA [a] (pMore sub r.length r) = pAlts sub ts := by
  unfold pAlts
  rw [h]
  show preA [a] (pMore sub r.length r) = (match pMore sub r.length r with
  | .error e => (.error e : Res (List Altn))
  | .ok (as_, r2) => .ok (a :: as_, r2))
  cases hx : pMore sub r.length r with
  | error e => rfl
  | ok x => rfl
theorem alt_one (a : Altn) (ao : Option Addr) (n c : Nat) : ∀ z ∈ AltC a (.slice ao n c), z.oneCell' = true := by
  intro z hz
  simp [AltC] at hz
  rcases hz with rfl | rfl | rfl <;> rfl
/-- an own row and an element more -/
theorem own_more {α : Type} {c : Nat} {E : Elem α} (hE : Keeps E) {ty B : Nat} {wr w3 w4 : World} {v v4 : Value} {xs : List α} {x : α} {cs : List Value} {us : List (List Value)} (hus1 : us.length = xs.length) (hus2 : ∀ u ∈ us, u.length = c) (hus4 : ∀ (j : Nat) (x : α), xs[j]? = some x → ∃ cs, us[j]? = some cs ∧ E wr (fun g => B ≤ g ∧ some g ≠ v.ownBlock) x cs)
    (how : wr.ownsRow B ty c v xs.length us.flatten) (hk : ∀ g, g < wr.heap.size → B ≤ g → w3.heap[g]? = wr.heap[g]?) (hz : wr.heap.size ≤ w3.heap.size) (hx : E w3 (fun g => wr.heap.size ≤ g) x cs) (hc : cs.length = c) (hB : B ≤ wr.heap.size)
    (hown4 : w4.ownsRow B ty c v4 (xs.length + 1) (us.flatten ++ cs)) (hgrow4 : (w3.alloc (.cells cs.toArray ty)).grownBy w4 v.ownBlock) (hat4 : v4.ownBlock = v.ownBlock ∨ v4.ownBlock = some (w3.alloc (.cells cs.toArray ty)).heap.size) : OwnOf c E ty B w4 v4 (xs ++ [x]) := by
  refine OwnOf.step hE hus1 hus2 (fun j y hy => ?_) ?_ hc hown4 hgrow4 hat4
  · obtain ⟨ds, e, h⟩ := hus4 j y hy
    exact ⟨ds, e, hE _ _ _ _ _ _ h (fun g hg hA => ⟨hA, (Below.heap_alloc w3 _ g (by omega)).trans (hk g hg hA.1)⟩) (by rw [World.size_alloc]; omega)⟩
  · refine hE _ _ _ _ _ _ hx (fun g hg hA => ⟨⟨by omega, fun e => ?_⟩, Below.heap_alloc w3 _ g hg⟩) (by rw [World.size_alloc]; omega)
    have := (how.lt g e.symm).2
    omega
theorem ListOf.form {α : Type} {c : Nat} {E : Elem α} {w : World} {A : Nat → Prop} {v : Value} {xs : List α} (h : ListOf c E w A v xs) : ∃ ao cap, v = .slice ao xs.length cap := by
  obtain ⟨_, ao, cap, e, _⟩ := h
  exact ⟨ao, cap, e⟩
theorem AltV.form {k B : Nat} {w : World} {v : Value} {a : Altn} (h : AltV k B w v a) : ∃ ao c, v = .agg #[.int .i64 a.1, .float .f64 a.2.1, .slice ao a.2.2.length c] ∧ ListOf 5 (EItm (AltsAt k)) w (fun g => B ≤ g) (.slice ao a.2.2.length c) a.2.2 := by
  obtain ⟨iv, rfl, hv⟩ := h
  obtain ⟨ao, c, rfl⟩ := hv.form
  exact ⟨ao, c, rfl, hv⟩
set_option maxRecDepth 100000 in
set_option maxHeartbeats 2000000 in
theorem alts_any (k : Nat) (hA : AltOk k) : AltsOk k := by
  intro w gp ts hk h hg hl
  have hgp := h.lt
  have hE := keepsAlt (keepsAlts k)
  obtain ⟨i1, ki, kz0, kz1, kz2⟩ := info_parts info_alt
  have HA := Lib.hid hA
  have h1 := hA w gp ts hk h hg hl
  rw [pA_sub]
  generalize hn : ts.length = n at *
  clear hA h hg
  cases hx : pAlt (pSub k) ts with
  | error p =>
    rw [hx] at h1
    have HR : Hid (pAlts (pSub k) ts = .error p) := Lib.hid (by unfold pAlts; rw [hx])
    clear hx
    go_enter Tryz.func68, Tryz.ntmps68
    go_wp2_with fail
    refine h1.mono ?_
    rintro e w1 ⟨hk1, rfl⟩
    go_wp2_with fail
    exact ⟨rfl, hk1, by rw [HR.out]⟩
  | ok x =>
    obtain ⟨a, r⟩ := x
    rw [hx] at h1
    have HR := Lib.hid (alts_eq _ _ _ _ hx)
    clear hx
    go_enter Tryz.func68, Tryz.ntmps68
    go_wp2_with fail
    refine h1.mono ?_
    rintro e w1 ⟨hk1, v, rfl, hv, hp1, hg1, hl1⟩
    obtain ⟨ao, c, rfl, hva⟩ := AltV.form hv
    clear hv
    have hv := hva
    clear hva
    have hz1 := hk1.size
    have hol : OwnOf 3 (EAlt (AltsAt k)) 67 w.heap.size (w1.alloc (.cells #[.int .i64 a.1, .float .f64 a.2.1, .slice ao a.2.2.length c] 67)) (.slice (some ⟨w1.heap.size, 0, none⟩) 1 1) [a] := OwnOf.lit1 hE 67 w.heap.size w1 hz1 a (AltC a (.slice ao a.2.2.length c)) rfl ⟨_, rfl, hv⟩
    have HST : Hid (PAt (w1.alloc (.cells #[.int .i64 a.1, .float .f64 a.2.1, .slice ao a.2.2.length c] 67)) gp r (16 - k) ∧ Good r ∧ r.length ≤ n ∧ Kp (fun i => i = gp) w (w1.alloc (.cells #[.int .i64 a.1, .float .f64 a.2.1, .slice ao a.2.2.length c] 67))) := Lib.hid ⟨hp1.alloc _, hg1, hl1, hk1.trans (Kp.alloc _ _ _)⟩
    have HOL := Lib.hid hol
    clear hol hv hp1 hg1 hl1 hk1 h1
    go_wp2_with fail
    go_loopw [3] (fun lv wr => ∃ (v : Value) (done : List Altn) (ts' : List Tok) (f : Nat), v = lv ∧ 1 ≤ done.length ∧ PAt wr gp ts' (16 - k) ∧ Good ts' ∧ ts'.length ≤ f ∧ done.length + f ≤ n + 1 ∧ OwnOf 3 (EAlt (AltsAt k)) 67 w.heap.size wr v done ∧ Kp (fun i => i = gp) w wr ∧ preA done (pMore (pSub k) f ts') = pAlts (pSub k) ts) (fun _ wr => comes wr gp)
    case atStart => exact ⟨_, [a], r, r.length, rfl, Nat.le_refl _, HST.out.1, HST.out.2.1, Nat.le_refl _, by have := HST.out.2.2.1; simp; omega, HOL.out, HST.out.2.2.2, HR.out⟩
    case round =>
      obtain ⟨lv, done, ts', f, rfl, hd1, hp1, hg1, hf, hdf, ho, hk1, hpre⟩ := hrel
      have hs := psign_any wr gp ts' _ hp1 hg1
      obtain ⟨f, rfl⟩ : ∃ f', f = f' + 1 := ⟨f - 1, by have := hg1.pos; omega⟩
      have hzr := hk1.size
      have HO := Lib.hid ho
      have HP1 := Lib.hid hp1
      have HG1 := Lib.hid hg1
      have HK1 := Lib.hid hk1
      have hsb := sg_byte hg1
      obtain ⟨s, hse⟩ : ∃ s, s = sg ts' := ⟨_, rfl⟩
      have HSE := Lib.hid hse
      rw [← hse] at hs hsb
      clear ho hp1 hk1 hse
      by_cases h124 : s = 124
      · subst h124
        obtain ⟨t2, r2, rfl, hst, hgr2⟩ := HG1.out.sg_tail (by rw [← HSE.out]; decide)
        have htk := take_any wr gp t2 r2 _ HP1.out hgr2.pos
        have hlr : r2.length + 1 ≤ f + 1 := hf
        cases hi : pAlt (pSub k) r2 with
        | error p =>
          have HPR : Hid (pAlts (pSub k) ts = .error p) := Lib.hid (by rw [← hpre]; exact preA_err _ _ _ _ _ HSE.out.symm hi)
          clear hpre
          go_wp2_with (first | (go_at_call 75; refine hs.mono ?_; rintro e w2 ⟨rfl, rfl⟩))
          refine htk.mono ?_
          rintro e w3 ⟨rfl, hp3, hk3⟩
          have h1 := HA.out w3 gp r2 hk hp3 hgr2 (by omega)
          rw [hi] at h1
          have hz3 := hk3.size
          clear hi
          go_wp2_with fail
          refine h1.mono ?_
          rintro e w4 ⟨hk4, rfl⟩
          go_wp2_with fail
          exact ⟨rfl, (HK1.out.trans hk3).trans hk4, by rw [HPR.out]⟩
        | ok x =>
          obtain ⟨a2, r3⟩ := x
          have HPR : Hid (preA (done ++ [a2]) (pMore (pSub k) f r3) = pAlts (pSub k) ts) := Lib.hid (by rw [← hpre, preA_step _ _ _ _ _ _ HSE.out.symm hi])
          clear hpre
          obtain ⟨us, hus1, hus2, how, hus4⟩ := HO.out
          obtain ⟨lo, lc, rfl⟩ := own_form how
          have HOW := Lib.hid how
          have HU4 := Lib.hid hus4
          have HU2 := Lib.hid hus2
          clear how hus4 hus2
          go_wp2_with (first | (go_at_call 75; refine hs.mono ?_; rintro e w2 ⟨rfl, rfl⟩))
          refine htk.mono ?_
          rintro e w3 ⟨rfl, hp3, hk3⟩
          have h1 := HA.out w3 gp r2 hk hp3 hgr2 (by omega)
          rw [hi] at h1
          have hz3 := hk3.size
          have HK3 := Lib.hid hk3
          clear hi hp3 hk3
          go_wp2_with fail
          refine h1.mono ?_
          rintro e w4 ⟨hk4, v4, rfl, hv4, hp4, hg4, hl4⟩
          obtain ⟨ao4, c4, rfl, hva⟩ := AltV.form hv4
          clear hv4
          have hv4 := hva
          clear hva
          have hz4 := hk4.size
          have hk34 := HK3.out.trans hk4
          have how4 := ownsRow_keep HOW.out (fun g hg hv => hk34.block g hg (by have := (HOW.out.lt g hv).1; show ¬ g = gp; omega))
          have HW4 := Lib.hid how4
          have HV4 := Lib.hid hv4
          have HK34 := Lib.hid hk34
          have HP4 := Lib.hid hp4
          clear how4 hv4 hk4 hk34 hp4 h1
          go_wp2_with (at_builtin; refine wpList_append_own_at _ rfl (.tmp 12) (.tmp 15) 48 rfl w.heap.size 67 i1 (.agg #[.int .i64 0, .float .f64 0, .slice none 0 0]) 3 40 Tryz.underlying48 ki kz0 kz1 kz2 rfl (by decide) _ done.length us.flatten rfl (HW4.out.alloc _) ⟨w4.heap.size, 0, none⟩ 1 1 (AltC a2 (.slice ao4 a2.2.2.length c4)) rfl rfl (new_cells _ _ _) (alt_one _ _ _ _) (by unfold maxLen; omega) (by omega) (by rw [World.size_alloc]; omega) ?_; intro v5 w5 hown5 hg5 _ hat5)
          have HB5 := Lib.hid (own_more hE hus1 HU2.out HU4.out HOW.out (fun g hg hb => HK34.out.block g hg (by show ¬ g = gp; omega)) (by omega) (hE _ _ _ _ _ _ ⟨_, rfl, HV4.out⟩ (fun g hg hA => ⟨Nat.le_trans hz3 hA, rfl⟩) (Nat.le_refl _)) rfl hzr hown5 hg5 hat5)
          have kg := Kp.of_grown hg5
          have hrow : ∀ j, (Value.slice lo done.length lc).ownBlock = some j → w.heap.size ≤ j := fun j e => (HOW.out.lt j e).1
          have HP5 := Lib.hid ((HP4.out.alloc (.cells #[.int .i64 a2.1, .float .f64 a2.2.1, .slice ao4 a2.2.2.length c4] 67)).kept kg (fun j hj => by have := hrow j hj; omega))
          have HK5 := Lib.hid (((HK1.out.trans HK34.out).trans (Kp.alloc _ w4 (.cells #[.int .i64 a2.1, .float .f64 a2.2.1, .slice ao4 a2.2.2.length c4] 67))).then_ kg (fun j hj => .inr (hrow j hj)))
          clear hown5 hg5 hat5 kg
          go_wp2_with fail
          refine ⟨⟨_, done ++ [a2], r3, f, rfl, by simp, HP5.out, hg4, by omega, by rw [List.length_append]; simp; omega, HB5.out, HK5.out, HPR.out⟩, ?_⟩
          rw [HP5.out.comes, HP1.out.comes]
          simp
          omega
      · have HPR : Hid (pAlts (pSub k) ts = .ok (done, ts')) := Lib.hid (by rw [← hpre]; exact preA_end _ _ _ _ (by rw [← HSE.out]; exact h124))
        have h124' : ((s : Int) == 124) = false := by rw [beq_eq_false_iff_ne]; omega
        have HL : Hid (AltsAt (k + 1) wr (fun g => w.heap.size ≤ g) lv done) := Lib.hid (HO.out.done hE)
        clear hpre h124
        go_wp2_with (first | (go_at_call 75; refine hs.mono ?_; rintro e w2 ⟨rfl, rfl⟩))
        go_ret
        refine ⟨HK1.out, ?_⟩
        rw [HPR.out]
        exact ⟨_, rfl, HL.out, HP1.out, HG1.out, by omega⟩
end Go.Proofs.YtjddjdpgnoebnaaGreatDoor.lx

import Derived.Test.YtjddjdpgnoebnaaGreatDoorRdh
namespace Go.Proofs.YtjddjdpgnoebnaaGreatDoor.lx
open Go.ChangeShapes Go.WideShapes Go.ChangeAt Go.RowKit
set_option linter.unusedVariables false
attribute [local go_sem] run_store_float
/-! all definitions -/
theorem info_def : (Tryz.prog.info? 50).map (fun i => (i.zero, i.size, i.bytes)) = some (some (.agg #[.int .i64 0, .string ⟨#[]⟩, .slice none 0 0]), 3, 48) := by kernel_rfl
def preT (done : List Dfn) (x : Except (Nat × Nat) (List Dfn)) : Except (Nat × Nat) (List Dfn) := match x with
  | .error e => .error e
  | .ok ds => .ok (done ++ ds)
def pRest (f : Nat) (ts : List Tok) : Except (Nat × Nat) (List Dfn) := if (hd ts).kind = 0 then .ok [] else pText f ts
theorem text_eq (f : Nat) (ts : List Tok) : pText (f + 1) ts = match pDef ts with
    | .error e => .error e
    | .ok (d, r) => if (hd r).kind = 0 then .ok [d] else match pText f r with
      | .error e => .error e
      | .ok ds => .ok (d :: ds) := rfl
theorem text_ok (f : Nat) (ts r : List Tok) (d : Dfn) (h : pDef ts = .ok (d, r)) : pText (f + 1) ts = preT [d] (pRest f r) := by
  rw [text_eq, h]
  unfold pRest
  by_cases h0 : (hd r).kind = 0
  · rw [if_pos h0]
    show (if (hd r).kind = 0 then _ else _) = _
    rw [if_pos h0]
    rfl
  · rw [if_neg h0]
    show (if (hd r).kind = 0 then _ else _) = _
    rw [if_neg h0]
    cases pText f r <;> rfl
theorem text_err (f : Nat) (ts : List Tok) (p : Nat × Nat) (h : pDef ts = .error p) : pText (f + 1) ts = .error p := by
  rw [text_eq, h]
theorem preT_app (a b : List Dfn) (x : Except (Nat × Nat) (List Dfn)) : preT a (preT b x) = preT (a ++ b) x := by
  cases x with
  | error e => rfl
  | ok ds => simp [preT]
theorem rest_step (done : List Dfn) (f : Nat) (ts r : List Tok) (d : Dfn) (h0 : ¬ (hd ts).kind = 0) (h : pDef ts = .ok (d, r)) : preT done (pRest (f + 1) ts) = preT (done ++ [d]) (pRest f r) := by
  rw [show pRest (f + 1) ts = pText (f + 1) ts from if_neg h0, text_ok f ts r d h, preT_app]
theorem rest_err (done : List Dfn) (f : Nat) (ts : List Tok) (p : Nat × Nat) (h0 : ¬ (hd ts).kind = 0) (h : pDef ts = .error p) : preT done (pRest (f + 1) ts) = .error p := by
  rw [show pRest (f + 1) ts = pText (f + 1) ts from if_neg h0, text_err f ts p h]
  rfl
theorem rest_end (done : List Dfn) (f : Nat) (ts : List Tok) (h0 : (hd ts).kind = 0) : preT done (pRest f ts) = .ok done := by
  rw [show pRest f ts = .ok [] from if_pos h0]
  simp [preT]
theorem def_one (d : Dfn) (ao : Option Addr) (n c : Nat) : ∀ z ∈ DefC d (.slice ao n c), z.oneCell' = true := by
  intro z hz
  simp [DefC] at hz
  rcases hz with rfl | rfl | rfl <;> rfl
def TextP (gp : Nat) (w : World) (x : Except (Nat × Nat) (List Dfn)) (e : Ending) (w' : World) : Prop :=
  Kp (fun i => i = gp) w w' ∧ match x with
  | .error p => e = .panicked [{ v := Wrong p.1 p.2, recovered := false }]
  | .ok ds => ∃ v, e = .returned v ∧ ListOf 3 EDef w' (fun g => w.heap.size ≤ g) v ds
set_option maxRecDepth 100000 in
set_option maxHeartbeats 2000000 in
theorem text_any (w : World) (gp : Nat) (ts : List Tok) (h : PAt w gp ts 0) (hg : Good ts) (hl : ts.length ≤ 70000) : Calls Tryz.prog 39 #[.pointer (some ⟨gp, 0, none⟩)] w (TextP gp w (pText ts.length ts)) := by
  have hgp := h.lt
  obtain ⟨i1, ki, kz0, kz1, kz2⟩ := info_parts info_def
  have h1 := def_any w gp ts h hg hl
  obtain ⟨n0, hn0⟩ : ∃ m, ts.length = m + 1 := ⟨ts.length - 1, by have := hg.pos; omega⟩
  rw [hn0] at h1 hl ⊢
  clear h hg
  cases hx : pDef ts with
  | error p =>
    rw [hx] at h1
    have HR := Lib.hid (text_err n0 ts p hx)
    clear hx
    go_enter Tryz.func39, Tryz.ntmps39
    go_wp2_with fail
    refine h1.mono ?_
    rintro e w1 ⟨hk1, rfl⟩
    go_wp2_with fail
    exact ⟨rfl, hk1, by rw [HR.out]⟩
  | ok x =>
    obtain ⟨a, r⟩ := x
    rw [hx] at h1
    have HR := Lib.hid (text_ok n0 ts r a hx)
    clear hx
    go_enter Tryz.func39, Tryz.ntmps39
    go_wp2_with fail
    refine h1.mono ?_
    rintro e w1 ⟨hk1, v, rfl, hv, hp1, hg1, hl1⟩
    obtain ⟨ao, c, rfl, hva⟩ := DefV.form hv
    have hz1 := hk1.size
    have hol : OwnOf 3 EDef 50 w.heap.size (w1.alloc (.cells #[.int .i64 a.1, .string (S a.2.1), .slice ao a.2.2.length c] 50)) (.slice (some ⟨w1.heap.size, 0, none⟩) 1 1) [a] := OwnOf.lit1 keepsDef 50 w.heap.size w1 hz1 a (DefC a (.slice ao a.2.2.length c)) rfl ⟨_, rfl, hva⟩
    have HST : Hid (PAt (w1.alloc (.cells #[.int .i64 a.1, .string (S a.2.1), .slice ao a.2.2.length c] 50)) gp r 0 ∧ Good r ∧ r.length ≤ n0 ∧ Kp (fun i => i = gp) w (w1.alloc (.cells #[.int .i64 a.1, .string (S a.2.1), .slice ao a.2.2.length c] 50))) := Lib.hid ⟨hp1.alloc _, hg1, by omega, hk1.trans (Kp.alloc _ _ _)⟩
    have HOL := Lib.hid hol
    clear hol hv hva hp1 hg1 hl1 hk1 h1
    go_wp2_with fail
    go_loopw [3] (fun lv wr => ∃ (v : Value) (done : List Dfn) (ts' : List Tok) (f : Nat), v = lv ∧ 1 ≤ done.length ∧ PAt wr gp ts' 0 ∧ Good ts' ∧ ts'.length ≤ f ∧ done.length + f ≤ n0 + 1 ∧ OwnOf 3 EDef 50 w.heap.size wr v done ∧ Kp (fun i => i = gp) w wr ∧ preT done (pRest f ts') = pText (n0 + 1) ts) (fun _ wr => comes wr gp)
    case atStart => exact ⟨_, [a], r, n0, rfl, Nat.le_refl _, HST.out.1, HST.out.2.1, HST.out.2.2.1, by simp; omega, HOL.out, HST.out.2.2.2, HR.out.symm⟩
    case round =>
      obtain ⟨lv, done, ts', f, rfl, hd1, hp1, hg1, hf, hdf, ho, hk1, hpre⟩ := hrel
      obtain ⟨t, r', rfl⟩ := hg1.ne
      have hlen : (t :: r').length = r'.length + 1 := rfl
      obtain ⟨f, rfl⟩ : ∃ f', f = f' + 1 := ⟨f - 1, by omega⟩
      have hzr := hk1.size
      have HO := Lib.hid ho
      have HP1 := Lib.hid hp1
      have HG1 := Lib.hid hg1
      have HK1 := Lib.hid hk1
      obtain ⟨g, o, cap, hb, hl1, hm, hne, hgs, hc⟩ := id hp1
      obtain ⟨c0, c1, c2, c3⟩ := tcells_head t r' g o wr hc
      have hp : wr.cell? ⟨gp, 0, none⟩ = some (.slice (some ⟨g, o, none⟩) (t :: r').length cap) := hb.cell 0
      have hl0 : 0 < (t :: r').length := by simp
      unfold maxLen at hm
      clear ho hp1 hk1 hc hb
      by_cases h0 : t.kind = 0
      · have HPR : Hid (pText (n0 + 1) ts = .ok done) := Lib.hid (by rw [← hpre]; exact rest_end _ _ _ h0)
        replace c0 : wr.cell? ⟨g, o, none⟩ = some (.int .i64 0) := by rw [c0, h0]; rfl
        have HL := Lib.hid (HO.out.done keepsDef)
        generalize (t :: r').length = nn at *
        clear hpre h0 c1 c2 c3
        go_wp2_with fail
        go_ret
        refine ⟨HK1.out, ?_⟩
        rw [HPR.out]
        exact ⟨_, rfl, HL.out⟩
      · have h0' : ((t.kind : Int) != 0) = true := by rw [bne_iff_ne]; omega
        have hd' := def_any wr gp (t :: r') HP1.out HG1.out (by omega)
        have HLEN := Lib.hid hlen
        cases hi : pDef (t :: r') with
        | error p =>
          have HPR : Hid (pText (n0 + 1) ts = .error p) := Lib.hid (by rw [← hpre]; exact rest_err _ _ _ _ h0 hi)
          rw [hi] at hd'
          generalize (t :: r').length = nn at *
          obtain ⟨K, P, T, F⟩ := t
          clear hpre h0 c1 c2 c3 hi
          go_wp2_with fail
          refine hd'.mono ?_
          rintro e w4 ⟨hk4, rfl⟩
          go_wp2_with fail
          exact ⟨rfl, HK1.out.trans hk4, by rw [HPR.out]⟩
        | ok x =>
          obtain ⟨a2, r3⟩ := x
          have HPR : Hid (preT (done ++ [a2]) (pRest f r3) = pText (n0 + 1) ts) := Lib.hid (by rw [← hpre]; exact (rest_step done f (t :: r') r3 a2 h0 hi).symm)
          rw [hi] at hd'
          have HCM := Lib.hid HP1.out.comes
          generalize hnn : (t :: r').length = nn at *
          obtain ⟨us, hus1, hus2, how, hus4⟩ := HO.out
          obtain ⟨lo, lc, rfl⟩ := own_form how
          have HOW := Lib.hid how
          have HU4 := Lib.hid hus4
          have HU2 := Lib.hid hus2
          obtain ⟨K, P, T, F⟩ := t
          clear hpre h0 c1 c2 c3 hi how hus4 hus2 hnn
          go_wp2_with fail
          refine hd'.mono ?_
          rintro e w4 ⟨hk4, v4, rfl, hv4, hp4, hg4, hl4⟩
          obtain ⟨ao4, c4, rfl, hva⟩ := DefV.form hv4
          have hz4 := hk4.size
          have how4 := ownsRow_keep HOW.out (fun g hg hv => hk4.block g hg (by have := (HOW.out.lt g hv).1; show ¬ g = gp; omega))
          have HW4 := Lib.hid how4
          have HV4 := Lib.hid hva
          have HK4 := Lib.hid hk4
          have HP4 := Lib.hid hp4
          clear how4 hv4 hva hk4 hp4 hd'
          go_wp2_with (at_builtin; refine wpList_append_own_at _ rfl (.tmp 15) (.tmp 18) 42 rfl w.heap.size 50 i1 (.agg #[.int .i64 0, .string ⟨#[]⟩, .slice none 0 0]) 3 48 Tryz.underlying42 ki kz0 kz1 kz2 rfl (by decide) _ done.length us.flatten rfl (HW4.out.alloc _) ⟨w4.heap.size, 0, none⟩ 1 1 (DefC a2 (.slice ao4 a2.2.2.length c4)) rfl rfl (new_cells _ _ _) (def_one _ _ _ _) (by unfold maxLen; omega) (by omega) (by rw [World.size_alloc]; omega) ?_; intro v5 w5 hown5 hg5 _ hat5)
          have HB5 := Lib.hid (own_more keepsDef hus1 HU2.out HU4.out HOW.out (fun g hg hb => HK4.out.block g hg (by show ¬ g = gp; omega)) (by omega) ⟨_, rfl, HV4.out⟩ rfl hzr hown5 hg5 hat5)
          have kg := Kp.of_grown hg5
          have hrow : ∀ j, (Value.slice lo done.length lc).ownBlock = some j → w.heap.size ≤ j := fun j e => (HOW.out.lt j e).1
          have HP5 := Lib.hid ((HP4.out.alloc (.cells #[.int .i64 a2.1, .string (S a2.2.1), .slice ao4 a2.2.2.length c4] 50)).kept kg (fun j hj => by have := hrow j hj; omega))
          have HK5 := Lib.hid (((HK1.out.trans HK4.out).trans (Kp.alloc _ w4 (.cells #[.int .i64 a2.1, .string (S a2.2.1), .slice ao4 a2.2.2.length c4] 50))).then_ kg (fun j hj => .inr (hrow j hj)))
          clear hown5 hg5 hat5 kg
          go_wp2_with fail
          refine ⟨⟨_, done ++ [a2], r3, f, rfl, by simp, HP5.out, hg4, by omega, by rw [List.length_append]; simp; omega, HB5.out, HK5.out, HPR.out⟩, ?_⟩
          rw [HP5.out.comes, HCM.out]
          omega
end Go.Proofs.YtjddjdpgnoebnaaGreatDoor.lx

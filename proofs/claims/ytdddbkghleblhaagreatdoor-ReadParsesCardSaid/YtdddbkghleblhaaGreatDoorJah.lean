import Derived.Test.YtdddbkghleblhaaGreatDoorJag
namespace Go.Proofs.YtdddbkghleblhaaGreatDoor.lx
open Go.ChangeShapes Go.WideShapes Go.ChangeAt Go.RowKit
set_option linter.unusedVariables false
attribute [local go_sem] run_store_float
/-! all definitions -/
theorem info_def : (Tryz.prog.info? 34).map (fun i => (i.zero, i.size, i.bytes)) = some (some (.agg #[.int .i64 0, .string ⟨#[]⟩, .slice none 0 0]), 3, 48) := by kernel_rfl
def preT (done : List Dfn) (x : Except (Nat × Nat) (List Dfn)) : Except (Nat × Nat) (List Dfn) := match x with
  | .error e => .error e
  | .ok ds => .ok (done ++ ds)
def pRest (f : Nat) (ts : List Tok) : Except (Nat × Nat) (List Dfn) := if (hd ts).kind = 0 then .ok [] else pText f ts
theorem text_eq (f : Nat) (ts : List Tok) : pText (f + 1) ts = match pDef ts with
    | .error e => .error e
    | .ok (d, r) => if (hd r).kind = 0 then .ok [d] else match pText f r with
      | .error e => .error e
      | .ok ds => .ok (d :: ds) := rfl
theorem text_ok (f : Nat) (ts r : List Tok) (d : Dfn) (h : pDef ts = .ok (d, r)) : pText (f + 1) ts = preT [d] (pRest f r) := by
  rw [text_eq, h]
  unfold pRest
  by_cases h0 : (hd r).kind = 0
  · rw [if_pos h0]
    show (if (hd r).kind = 0 then _ else _) = _
    rw [if_pos h0]
    rfl
  · rw [if_neg h0]
    show (if (hd r).kind = 0 then _ else _) = _
    rw [if_neg h0]
    cases pText f r <;> rfl
theorem text_err (f : Nat) (ts : List Tok) (p : Nat × Nat) (h : pDef ts = .error p) : pText (f + 1) ts = .error p := by
  rw [text_eq, h]
theorem preT_app (a b : List Dfn) (x : Except (Nat × Nat) (List Dfn)) : preT a (preT b x) = preT (a ++ b) x := by
  cases x with
  | error e => rfl
  | ok ds => simp [preT]
theorem rest_step (done : List Dfn) (f : Nat) (ts r : List Tok) (d : Dfn) (h0 : ¬ (hd ts).kind = 0) (h : pDef ts = .ok (d, r)) : preT done (pRest (f + 1) ts) = preT (done ++ [d]) (pRest f r) := by
  rw [show pRest (f + 1) ts = pText (f + 1) ts from if_neg h0, text_ok f ts r d h, preT_app]
theorem rest_err (done : List Dfn) (f : Nat) (ts : List Tok) (p : Nat × Nat) (h0 : ¬ (hd ts).kind = 0) (h : pDef ts = .error p) : preT done (pRest (f + 1) ts) = .error p := by
  rw [show pRest (f + 1) ts = pText (f + 1) ts from if_neg h0, text_err f ts p h]
  rfl
theorem rest_end (done : List Dfn) (f : Nat) (ts : List Tok) (h0 : (hd ts).kind = 0) : preT done (pRest f ts) = .ok done := by
  rw [show pRest f ts = .ok [] from if_pos h0]
  simp [preT]
theorem def_one (d : Dfn) (ao : Option Addr) (n c : Nat) : ∀ z ∈ DefC d (.slice ao n c), z.oneCell' = true := by
  intro z hz
  simp [DefC] at hz
  rcases hz with rfl | rfl | rfl <;> rfl
def TextP (gp : Nat) (w : World) (x : Except (Nat × Nat) (List Dfn)) (e : Ending) (w' : World) : Prop :=
  Kp (fun i => i = gp) w w' ∧ match x with
  | .error p => e = .panicked [{ v := Wrong p.1 p.2, recovered := false }]
  | .ok ds => ∃ v, e = .returned v ∧ ListOf 3 EDef w' (fun g => w.heap.size ≤ g) v ds
set_option maxRecDepth 100000 in
set_option maxHeartbeats 2000000 in
theorem text_any (w : World) (gp : Nat) (ts : List Tok) (h : PAt w gp ts 0) (hg : Good ts) (hl : ts.length ≤ 70000) : Calls Tryz.prog 15 #[.pointer (some ⟨gp, 0, none⟩)] w (TextP gp w (pText ts.length ts)) := by
  have hgp := h.lt
  obtain ⟨i1, ki, kz0, kz1, kz2⟩ := info_parts info_def
  have h1 := def_any w gp ts h hg hl
  obtain ⟨n0, hn0⟩ : ∃ m, ts.length = m + 1 := ⟨ts.length - 1, by have := hg.pos; omega⟩
  rw [hn0] at h1 hl ⊢
  clear h hg
  cases hx : pDef ts with
  | error p =>
    rw [hx] at h1
    have HR := Lib.hid (text_err n0 ts p hx)
    clear hx
    go_enter Tryz.func15, Tryz.ntmps15
    go_wp2_with fail
    refine h1.mono ?_
    rintro e w1 ⟨hk1, rfl⟩
    go_wp2_with fail
    exact ⟨rfl, hk1, by rw [HR.out]⟩
  | ok x =>
    obtain ⟨a, r⟩ := x
    rw [hx] at h1
    have HR := Lib.hid (text_ok n0 ts r a hx)
    clear hx
    go_enter Tryz.func15, Tryz.ntmps15
    go_wp2_with fail
    refine h1.mono ?_
    rintro e w1 ⟨hk1, v, rfl, hv, hp1, hg1, hl1⟩
    obtain ⟨ao, c, rfl, hva⟩ := DefV.form hv
    have hz1 := hk1.size
    have hol : OwnOf 3 EDef 34 w.heap.size (w1.alloc (.cells #[.int .i64 a.1, .string (S a.2.1), .slice ao a.2.2.length c] 34)) (.slice (some ⟨w1.heap.size, 0, none⟩) 1 1) [a] := OwnOf.lit1 keepsDef 34 w.heap.size w1 hz1 a (DefC a (.slice ao a.2.2.length c)) rfl ⟨_, rfl, hva⟩
    have HST : Hid (PAt (w1.alloc (.cells #[.int .i64 a.1, .string (S a.2.1), .slice ao a.2.2.length c] 34)) gp r 0 ∧ Good r ∧ r.length ≤ n0 ∧ Kp (fun i => i = gp) w (w1.alloc (.cells #[.int .i64 a.1, .string (S a.2.1), .slice ao a.2.2.length c] 34))) := Lib.hid ⟨hp1.alloc _, hg1, by omega, hk1.trans (Kp.alloc _ _ _)⟩
    have HOL := Lib.hid hol
    clear hol hv hva hp1 hg1 hl1 hk1 h1
    go_wp2_with fail
    go_loopw [3] (fun lv wr => ∃ (v : Value) (done : List Dfn) (ts' : List Tok) (f : Nat), v = lv ∧ 1 ≤ done.length ∧ PAt wr gp ts' 0 ∧ Good ts' ∧ ts'.length ≤ f ∧ done.length + f ≤ n0 + 1 ∧ OwnOf 3 EDef 34 w.heap.size wr v done ∧ Kp (fun i => i = gp) w wr ∧ preT done (pRest f ts') = pText (n0 + 1) ts) (fun _ wr => comes wr gp)
    case atStart => exact ⟨_, [a], r, n0, rfl, Nat.le_refl _, HST.out.1, HST.out.2.1, HST.out.2.2.1, by simp; omega, HOL.out, HST.out.2.2.2, HR.out.symm⟩
    case round =>
      obtain ⟨lv, done, ts', f, rfl, hd1, hp1, hg1, hf, hdf, ho, hk1, hpre⟩ := hrel
      obtain ⟨t, r', rfl⟩ := hg1.ne
      have hlen : (t :: r').length = r'.length + 1 := rfl
      obtain ⟨f, rfl⟩ : ∃ f', f = f' + 1 := ⟨f - 1, by omega⟩
      have hzr := hk1.size
      have HO := Lib.hid ho
      have HP1 := Lib.hid hp1
      have HG1 := Lib.hid hg1
      have HK1 := Lib.hid hk1
      obtain ⟨g, o, cap, hb, hl1, hm, hne, hgs, hc⟩ := id hp1
      obtain ⟨c0, c1, c2, c3⟩ := tcells_head t r' g o wr hc
      have hp : wr.cell? ⟨gp, 0, none⟩ = some (.slice (some ⟨g, o, none⟩) (t :: r').length cap) := hb.cell 0
      have hl0 : 0 < (t :: r').length := by simp
      unfold maxLen at hm
      clear ho hp1 hk1 hc hb
      by_cases h0 : t.kind = 0
      · have HPR : Hid (pText (n0 + 1) ts = .ok done) := Lib.hid (by rw [← hpre]; exact rest_end _ _ _ h0)
        replace c0 : wr.cell? ⟨g, o, none⟩ = some (.int .i64 0) := by rw [c0, h0]; rfl
        have HL := Lib.hid (HO.out.done keepsDef)
        generalize (t :: r').length = nn at *
        clear hpre h0 c1 c2 c3
        go_wp2_with fail
        go_ret
        refine ⟨HK1.out, ?_⟩
        rw [HPR.out]
        exact ⟨_, rfl, HL.out⟩
      · have h0' : ((t.kind : Int) != 0) = true := by rw [bne_iff_ne]; omega
        have hd' := def_any wr gp (t :: r') HP1.out HG1.out (by omega)
        have HLEN := Lib.hid hlen
        cases hi : pDef (t :: r') with
        | error p =>
          have HPR : Hid (pText (n0 + 1) ts = .error p) := Lib.hid (by rw [← hpre]; exact rest_err _ _ _ _ h0 hi)
          rw [hi] at hd'
          generalize (t :: r').length = nn at *
          obtain ⟨K, P, T, F⟩ := t
          clear hpre h0 c1 c2 c3 hi
          go_wp2_with fail
          refine hd'.mono ?_
          rintro e w4 ⟨hk4, rfl⟩
          go_wp2_with fail
          exact ⟨rfl, HK1.out.trans hk4, by rw [HPR.out]⟩
        | ok x =>
          obtain ⟨a2, r3⟩ := x
          have HPR : Hid (preT (done ++ [a2]) (pRest f r3) = pText (n0 + 1) ts) := Lib.hid (by rw [← hpre]; exact (rest_step done f (t :: r') r3 a2 h0 hi).symm)
          rw [hi] at hd'
          have HCM := Lib.hid HP1.out.comes
          generalize hnn : (t :: r').length = nn at *
          obtain ⟨us, hus1, hus2, how, hus4⟩ := HO.out
          obtain ⟨lo, lc, rfl⟩ := own_form how
          have HOW := Lib.hid how
          have HU4 := Lib.hid hus4
          have HU2 := Lib.hid hus2
          obtain ⟨K, P, T, F⟩ := t
          clear hpre h0 c1 c2 c3 hi how hus4 hus2 hnn
          go_wp2_with fail
          refine hd'.mono ?_
          rintro e w4 ⟨hk4, v4, rfl, hv4, hp4, hg4, hl4⟩
          obtain ⟨ao4, c4, rfl, hva⟩ := DefV.form hv4
          have hz4 := hk4.size
          have how4 := ownsRow_keep HOW.out (fun g hg hv => hk4.block g hg (by have := (HOW.out.lt g hv).1; show ¬ g = gp; omega))
          have HW4 := Lib.hid how4
          have HV4 := Lib.hid hva
          have HK4 := Lib.hid hk4
          have HP4 := Lib.hid hp4
          clear how4 hv4 hva hk4 hp4 hd'
          go_wp2_with (at_builtin; refine wpList_append_own_at _ rfl (.tmp 15) (.tmp 18) 23 rfl w.heap.size 34 i1 (.agg #[.int .i64 0, .string ⟨#[]⟩, .slice none 0 0]) 3 48 Tryz.underlying23 ki kz0 kz1 kz2 rfl (by decide) _ done.length us.flatten rfl (HW4.out.alloc _) ⟨w4.heap.size, 0, none⟩ 1 1 (DefC a2 (.slice ao4 a2.2.2.length c4)) rfl rfl (new_cells _ _ _) (def_one _ _ _ _) (by unfold maxLen; omega) (by omega) (by rw [World.size_alloc]; omega) ?_; intro v5 w5 hown5 hg5 _ hat5)
          have HB5 := Lib.hid (own_more keepsDef hus1 HU2.out HU4.out HOW.out (fun g hg hb => HK4.out.block g hg (by show ¬ g = gp; omega)) (by omega) ⟨_, rfl, HV4.out⟩ rfl hzr hown5 hg5 hat5)
          have kg := Kp.of_grown hg5
          have hrow : ∀ j, (Value.slice lo done.length lc).ownBlock = some j → w.heap.size ≤ j := fun j e => (HOW.out.lt j e).1
          have HP5 := Lib.hid ((HP4.out.alloc (.cells #[.int .i64 a2.1, .string (S a2.2.1), .slice ao4 a2.2.2.length c4] 34)).kept kg (fun j hj => by have := hrow j hj; omega))
          have HK5 := Lib.hid (((HK1.out.trans HK4.out).trans (Kp.alloc _ w4 (.cells #[.int .i64 a2.1, .string (S a2.2.1), .slice ao4 a2.2.2.length c4] 34))).then_ kg (fun j hj => .inr (hrow j hj)))
          clear hown5 hg5 hat5 kg
          go_wp2_with fail
          refine ⟨⟨_, done ++ [a2], r3, f, rfl, by simp, HP5.out, hg4, by omega, by rw [List.length_append]; simp; omega, HB5.out, HK5.out, HPR.out⟩, ?_⟩
          rw [HP5.out.comes, HCM.out]
          omega
end Go.Proofs.YtdddbkghleblhaaGreatDoor.lx
namespace Go.Proofs.YtdddbkghleblhaaGreatDoor.lx
open Go.ChangeShapes Go.WideShapes Go.ChangeAt Go.RowKit
set_option linter.unusedVariables false
/-! words with an end, and the same words with others behind them -/
def Loc {α : Type} (E : Tok) (R : List Tok) (n : List Tok) (a b : Res α) : Prop := match a with
  | .error q => q.2 = E.at_ ∨ b = .error q
  | .ok (x, r) => ∃ v, r = v ++ [E] ∧ v <:+ n ∧ (v = [] ∨ b = .ok (x, v ++ R))
theorem sg_end {E : Tok} (hE : E.kind = 0) : sg [E] = 0 := by
  show sgOf E = 0
  unfold sgOf
  rw [if_neg (by omega)]
theorem atIt_end {E : Tok} (hE : E.kind = 0) : atIt (hd [E]) = false := by
  show (E.kind == 1 || E.kind == 2 || sgOf E == 40) = false
  rw [hE, show sgOf E = 0 from sg_end hE]
  rfl
theorem op_end {E : Tok} (hE : E.kind = 0) : opOf [E] = 0 ∧ opTl [E] = [E] := by
  unfold opOf opTl
  rw [sg_end hE]
  exact ⟨rfl, rfl⟩
/-- behind an item's own words -/
theorem loc_op {α : Type} {E : Tok} (hE : E.kind = 0) {R : List Tok} {n : List Tok} (f : Nat → α) (v : List Tok) (hv : v <:+ n) : Loc E R n (.ok (f (opOf (v ++ [E])), opTl (v ++ [E]))) (.ok (f (opOf (v ++ R)), opTl (v ++ R))) := by
  cases v with
  | nil =>
    rw [List.nil_append, (op_end hE).1, (op_end hE).2]
    exact ⟨[], rfl, List.nil_suffix, .inl rfl⟩
  | cons t v =>
    have h1 : opOf (t :: v ++ [E]) = opOf (t :: v ++ R) := rfl
    rw [h1]
    by_cases ho : isOp (sgOf t) = true
    · have e1 : opTl (t :: v ++ [E]) = v ++ [E] := if_pos ho
      have e2 : opTl (t :: v ++ R) = v ++ R := if_pos ho
      rw [e1, e2]
      exact ⟨v, rfl, (List.suffix_cons t v).trans hv, .inr rfl⟩
    · have e1 : opTl (t :: v ++ [E]) = t :: v ++ [E] := if_neg ho
      have e2 : opTl (t :: v ++ R) = t :: v ++ R := if_neg ho
      rw [e1, e2]
      exact ⟨t :: v, rfl, hv, .inr rfl⟩
def LocF {α : Type} (E : Tok) (R : List Tok) (sub : List Tok → Res α) : Prop := ∀ t u, Loc E R u (sub (t :: u ++ [E])) (sub (t :: u ++ R))
theorem loc_item {E : Tok} (hE : E.kind = 0) {R : List Tok} {sub : List Tok → Res (List Altn)} (hs : LocF E R sub) : LocF E R (pItem sub) := by
  intro t u
  have e1 : ∀ Z, hd (t :: u ++ Z) = t := fun _ => rfl
  have e2 : ∀ Z, (t :: u ++ Z).tail = u ++ Z := fun _ => rfl
  unfold pItem
  rw [e1, e1, e2, e2]
  by_cases k1 : t.kind = 1
  · rw [if_pos k1, if_pos k1]
    exact loc_op hE (fun o => Itm.mk t.at_ 0 t.text [] o) u (List.suffix_refl _)
  · rw [if_neg k1, if_neg k1]
    by_cases k2 : t.kind = 2
    · rw [if_pos k2, if_pos k2]
      exact loc_op hE (fun o => Itm.mk t.at_ 1 t.text [] o) u (List.suffix_refl _)
    · rw [if_neg k2, if_neg k2]
      have h := hs t u
      cases ha : sub (t :: u ++ [E]) with
      | error q =>
        rw [ha] at h
        rcases h with h | h
        · exact .inl h
        · rw [h]
          exact .inr rfl
      | ok x =>
        obtain ⟨bs, r⟩ := x
        rw [ha] at h
        obtain ⟨v, rfl, hv, h | h⟩ := h
        · subst h
          have ho := op_end hE
          show Loc E R u (.ok (Itm.mk t.at_ 2 [] bs (opOf ([] ++ [E])), opTl ([] ++ [E]))) _
          rw [List.nil_append, ho.1, ho.2]
          exact ⟨[], rfl, List.nil_suffix, .inl rfl⟩
        · rw [h]
          exact loc_op hE (fun o => Itm.mk t.at_ 2 [] bs o) v hv
theorem items_eq (sub : List Tok → Res (List Altn)) (f : Nat) (ts : List Tok) : pItems sub (f + 1) ts = if atIt (hd ts) then
      (match pItem sub ts with
      | .error e => .error e
      | .ok (i, r) => match pItems sub f r with
        | .error e => .error e
        | .ok (is, r2) => .ok (i :: is, r2))
    else .ok ([], ts) := rfl
theorem loc_items {E : Tok} (hE : E.kind = 0) {R : List Tok} {sub : List Tok → Res (List Altn)} (hs : LocF E R sub) : ∀ (m : Nat) (u : List Tok) (f1 f2 : Nat), u.length < m → u.length < f1 → u.length < f2 → Loc E R u (pItems sub f1 (u ++ [E])) (pItems sub f2 (u ++ R))
  | 0, u, f1, f2, h, _, _ => by omega
  | m + 1, u, f1, f2, h, h1, h2 => by
    obtain ⟨f1, rfl⟩ : ∃ f, f1 = f + 1 := ⟨f1 - 1, by omega⟩
    obtain ⟨f2, rfl⟩ : ∃ f, f2 = f + 1 := ⟨f2 - 1, by omega⟩
    cases u with
    | nil =>
      rw [List.nil_append, items_eq, if_neg (by rw [atIt_end hE]; decide)]
      exact ⟨[], rfl, List.nil_suffix, .inl rfl⟩
    | cons t u =>
      have hl : (t :: u).length = u.length + 1 := rfl
      rw [items_eq, items_eq, show hd (t :: u ++ [E]) = t from rfl, show hd (t :: u ++ R) = t from rfl]
      by_cases ha : atIt t = true
      · rw [if_pos ha, if_pos ha]
        have h := loc_item hE hs t u
        cases hi : pItem sub (t :: u ++ [E]) with
        | error q =>
          rw [hi] at h
          rcases h with h | h
          · exact .inl h
          · rw [h]
            exact .inr rfl
        | ok x =>
          obtain ⟨i, r⟩ := x
          rw [hi] at h
          obtain ⟨v, rfl, hv, h | h⟩ := h
          · subst h
            have e : pItems sub f1 ([] ++ [E]) = .ok ([], [E]) := by
              obtain ⟨f1, rfl⟩ : ∃ f, f1 = f + 1 := ⟨f1 - 1, by omega⟩
              rw [List.nil_append, items_eq, if_neg (by rw [atIt_end hE]; decide)]
            show Loc E R _ (match pItems sub f1 ([] ++ [E]) with
              | .error e => .error e
              | .ok (is, r2) => .ok (i :: is, r2)) _
            rw [e]
            exact ⟨[], rfl, List.nil_suffix, .inl rfl⟩
          · rw [h]
            have hvl := hv.length_le
            have h3 := loc_items hE hs m v f1 f2 (by omega) (by omega) (by omega)
            show Loc E R _ (match pItems sub f1 (v ++ [E]) with
              | .error e => .error e
              | .ok (is, r2) => .ok (i :: is, r2)) (match pItems sub f2 (v ++ R) with
              | .error e => .error e
              | .ok (is, r2) => .ok (i :: is, r2))
            cases hj : pItems sub f1 (v ++ [E]) with
            | error q =>
              rw [hj] at h3
              rcases h3 with h3 | h3
              · exact .inl h3
              · rw [h3]
                exact .inr rfl
            | ok y =>
              obtain ⟨is, r⟩ := y
              rw [hj] at h3
              obtain ⟨v2, rfl, hv2, h3 | h3⟩ := h3
              · exact ⟨v2, rfl, (hv2.trans hv).trans (List.suffix_cons _ _), .inl h3⟩
              · rw [h3]
                exact ⟨v2, rfl, (hv2.trans hv).trans (List.suffix_cons _ _), .inr rfl⟩
      · rw [if_neg ha, if_neg ha]
        exact ⟨t :: u, rfl, List.suffix_refl _, .inr rfl⟩
theorem loc_alt {E : Tok} (hE : E.kind = 0) {R : List Tok} (hR : R ≠ []) {sub : List Tok → Res (List Altn)} (hs : LocF E R sub) (u : List Tok) : Loc E R u (pAlt sub (u ++ [E])) (pAlt sub (u ++ R)) := by
  have hRl : 0 < R.length := List.length_pos_iff.2 hR
  have fin : ∀ (w : List Tok) (a f : Nat), w <:+ u → (∀ Z, pAlt sub (u ++ Z) = (match pItems sub (w ++ Z).length (w ++ Z) with
      | .error e => .error e
      | .ok (is, r) => .ok ((a, f, is), r))) → Loc E R u (pAlt sub (u ++ [E])) (pAlt sub (u ++ R)) := fun w a f hw hZ => by
    have h := loc_items hE hs (w.length + 1) w (w ++ [E]).length (w ++ R).length (by omega) (by simp) (by simp; omega)
    rw [hZ, hZ]
    cases hj : pItems sub (w ++ [E]).length (w ++ [E]) with
    | error q =>
      rw [hj] at h
      rcases h with h | h
      · exact .inl h
      · rw [h]
        exact .inr rfl
    | ok y =>
      obtain ⟨is, r⟩ := y
      rw [hj] at h
      obtain ⟨v, rfl, hv, h | h⟩ := h
      · exact ⟨v, rfl, hv.trans hw, .inl h⟩
      · rw [h]
        exact ⟨v, rfl, hv.trans hw, .inr rfl⟩
  cases u with
  | nil =>
    have h0 : pItems sub 1 [E] = .ok ([], [E]) := by rw [items_eq, if_neg (by rw [atIt_end hE]; decide)]
    have h1 : wtTl [E] = [E] := if_neg (by show ¬ E.kind = 3; omega)
    unfold pAlt
    rw [List.nil_append, h1]
    show Loc E R _ (match pItems sub 1 [E] with
      | .error e => .error e
      | .ok (is, r) => .ok ((_, _, is), r)) _
    rw [h0]
    exact ⟨[], rfl, List.nil_suffix, .inl rfl⟩
  | cons t u =>
    by_cases k3 : t.kind = 3
    · refine fin u t.at_ t.wt (List.suffix_cons _ _) fun Z => ?_
      unfold pAlt
      rw [show wtTl (t :: u ++ Z) = u ++ Z from if_pos k3, show wtOf (hd (t :: u ++ Z)) = t.wt from if_pos k3]
      rfl
    · refine fin (t :: u) t.at_ 0 (List.suffix_refl _) fun Z => ?_
      unfold pAlt
      rw [show wtTl (t :: u ++ Z) = t :: u ++ Z from if_neg k3, show wtOf (hd (t :: u ++ Z)) = 0 from if_neg k3]
      rfl
theorem mores_eq (sub : List Tok → Res (List Altn)) (f : Nat) (ts : List Tok) : pMore sub (f + 1) ts = if sg ts = 124 then (match pAlt sub ts.tail with
      | .error e => .error e
      | .ok (a, r) => match pMore sub f r with
        | .error e => .error e
        | .ok (as_, r2) => .ok (a :: as_, r2)) else .ok ([], ts) := rfl
theorem loc_more {E : Tok} (hE : E.kind = 0) {R : List Tok} (hR : R ≠ []) {sub : List Tok → Res (List Altn)} (hs : LocF E R sub) : ∀ (m : Nat) (u : List Tok) (f1 f2 : Nat), u.length < m → u.length < f1 → u.length < f2 → Loc E R u (pMore sub f1 (u ++ [E])) (pMore sub f2 (u ++ R))
  | 0, u, f1, f2, h, _, _ => by omega
  | m + 1, u, f1, f2, h, h1, h2 => by
    obtain ⟨f1, rfl⟩ : ∃ f, f1 = f + 1 := ⟨f1 - 1, by omega⟩
    obtain ⟨f2, rfl⟩ : ∃ f, f2 = f + 1 := ⟨f2 - 1, by omega⟩
    cases u with
    | nil =>
      rw [List.nil_append, mores_eq, if_neg (by rw [sg_end hE]; decide)]
      exact ⟨[], rfl, List.nil_suffix, .inl rfl⟩
    | cons t u =>
      have hl : (t :: u).length = u.length + 1 := rfl
      rw [mores_eq, mores_eq, show sg (t :: u ++ [E]) = sgOf t from rfl, show sg (t :: u ++ R) = sgOf t from rfl, show (t :: u ++ [E]).tail = u ++ [E] from rfl, show (t :: u ++ R).tail = u ++ R from rfl]
      by_cases ha : sgOf t = 124
      · rw [if_pos ha, if_pos ha]
        have h := loc_alt hE hR hs u
        cases hi : pAlt sub (u ++ [E]) with
        | error q =>
          rw [hi] at h
          rcases h with h | h
          · exact .inl h
          · rw [h]
            exact .inr rfl
        | ok x =>
          obtain ⟨i, r⟩ := x
          rw [hi] at h
          obtain ⟨v, rfl, hv, h | h⟩ := h
          · subst h
            have e : pMore sub f1 ([] ++ [E]) = .ok ([], [E]) := by
              obtain ⟨f1, rfl⟩ : ∃ f, f1 = f + 1 := ⟨f1 - 1, by omega⟩
              rw [List.nil_append, mores_eq, if_neg (by rw [sg_end hE]; decide)]
            show Loc E R _ (match pMore sub f1 ([] ++ [E]) with
              | .error e => .error e
              | .ok (as_, r2) => .ok (i :: as_, r2)) _
            rw [e]
            exact ⟨[], rfl, List.nil_suffix, .inl rfl⟩
          · rw [h]
            have hvl := hv.length_le
            have h3 := loc_more hE hR hs m v f1 f2 (by omega) (by omega) (by omega)
            show Loc E R _ (match pMore sub f1 (v ++ [E]) with
              | .error e => .error e
              | .ok (as_, r2) => .ok (i :: as_, r2)) (match pMore sub f2 (v ++ R) with
              | .error e => .error e
              | .ok (as_, r2) => .ok (i :: as_, r2))
            cases hj : pMore sub f1 (v ++ [E]) with
            | error q =>
              rw [hj] at h3
              rcases h3 with h3 | h3
              · exact .inl h3
              · rw [h3]
                exact .inr rfl
            | ok y =>
              obtain ⟨is, r⟩ := y
              rw [hj] at h3
              obtain ⟨v2, rfl, hv2, h3 | h3⟩ := h3
              · exact ⟨v2, rfl, (hv2.trans hv).trans (List.suffix_cons _ _), .inl h3⟩
              · rw [h3]
                exact ⟨v2, rfl, (hv2.trans hv).trans (List.suffix_cons _ _), .inr rfl⟩
      · rw [if_neg ha, if_neg ha]
        exact ⟨t :: u, rfl, List.suffix_refl _, .inr rfl⟩
theorem loc_alts {E : Tok} (hE : E.kind = 0) {R : List Tok} (hR : R ≠ []) {sub : List Tok → Res (List Altn)} (hs : LocF E R sub) (u : List Tok) : Loc E R u (pAlts sub (u ++ [E])) (pAlts sub (u ++ R)) := by
  have hRl : 0 < R.length := List.length_pos_iff.2 hR
  have h := loc_alt hE hR hs u
  unfold pAlts
  cases hi : pAlt sub (u ++ [E]) with
  | error q =>
    rw [hi] at h
    rcases h with h | h
    · exact .inl h
    · rw [h]
      exact .inr rfl
  | ok x =>
    obtain ⟨i, r⟩ := x
    rw [hi] at h
    obtain ⟨v, rfl, hv, h | h⟩ := h
    · subst h
      have e : pMore sub [E].length [E] = .ok ([], [E]) := by
        show pMore sub (0 + 1) [E] = _
        rw [mores_eq, if_neg (by rw [sg_end hE]; decide)]
      show Loc E R _ (match pMore sub [E].length [E] with
        | .error e => .error e
        | .ok (as_, r2) => .ok (i :: as_, r2)) _
      rw [e]
      exact ⟨[], rfl, List.nil_suffix, .inl rfl⟩
    · rw [h]
      have h3 := loc_more hE hR hs (v.length + 1) v (v ++ [E]).length (v ++ R).length (by omega) (by simp) (by simp; omega)
      show Loc E R _ (match pMore sub (v ++ [E]).length (v ++ [E]) with
        | .error e => .error e
        | .ok (as_, r2) => .ok (i :: as_, r2)) (match pMore sub (v ++ R).length (v ++ R) with
        | .error e => .error e
        | .ok (as_, r2) => .ok (i :: as_, r2))
      cases hj : pMore sub (v ++ [E]).length (v ++ [E]) with
      | error q =>
        rw [hj] at h3
        rcases h3 with h3 | h3
        · exact .inl h3
        · rw [h3]
          exact .inr rfl
      | ok y =>
        obtain ⟨is, r⟩ := y
        rw [hj] at h3
        obtain ⟨v2, rfl, hv2, h3 | h3⟩ := h3
        · exact ⟨v2, rfl, hv2.trans hv, .inl h3⟩
        · rw [h3]
          exact ⟨v2, rfl, hv2.trans hv, .inr rfl⟩
/-- the same, and what is left does not matter -/
def LocS {α : Type} (E : Tok) (R : List Tok) (n : List Tok) (a b : Res α) : Prop := match a with
  | .error q => q.2 = E.at_ ∨ b = .error q
  | .ok (x, r) => ∃ t v, r = v ++ [E] ∧ (t :: v) <:+ n ∧ b = .ok (x, v ++ R)
theorem LocS.loc {α : Type} {E : Tok} {R n : List Tok} {a b : Res α} (h : LocS E R n a b) : Loc E R n a b := by
  cases a with
  | error q => exact h
  | ok x =>
    obtain ⟨t, v, e, hv, h⟩ := h
    exact ⟨v, e, (List.suffix_cons _ _).trans hv, .inr h⟩
theorem loc_shut {E : Tok} (hE : E.kind = 0) {R : List Tok} {n : List Tok} {c : Nat} (hc : 0 < c) {a b : Res (List Altn)} (h : Loc E R n a b) : LocS E R n (pShut c a) (pShut c b) := by
  cases a with
  | error q =>
    rcases h with h | h
    · exact .inl h
    · rw [h]
      exact .inr rfl
  | ok x =>
    obtain ⟨bs, r⟩ := x
    obtain ⟨v, rfl, hv, h⟩ := h
    cases v with
    | nil =>
      have e : pShut c (.ok (bs, [] ++ [E])) = .error (5, E.at_) := if_neg (by rw [List.nil_append, sg_end hE]; omega)
      rw [e]
      exact .inl rfl
    | cons t v =>
      rcases h with h | h
      · cases h
      · rw [h]
        by_cases hs : sgOf t = c
        · rw [show pShut c (.ok (bs, t :: v ++ [E])) = .ok (bs, v ++ [E]) from if_pos hs, show pShut c (.ok (bs, t :: v ++ R)) = .ok (bs, v ++ R) from if_pos hs]
          exact ⟨t, v, rfl, hv, rfl⟩
        · rw [show pShut c (.ok (bs, t :: v ++ [E])) = .error (5, t.at_) from if_neg hs, show pShut c (.ok (bs, t :: v ++ R)) = .error (5, t.at_) from if_neg hs]
          exact .inr rfl
theorem loc_pA {E : Tok} (hE : E.kind = 0) {R : List Tok} (hR : R ≠ []) : ∀ (d : Nat), (∀ u, Loc E R u (pA d (u ++ [E])) (pA d (u ++ R)))
  | 0, u => by
    rw [show pA 0 = pAlts (pSub 0) from funext fun ts => pA_sub 0 ts]
    have h0 : LocF E R (pSub 0) := fun t u => by
      show (hd (t :: u ++ [E])).at_ = E.at_ ∨ pSub 0 (t :: u ++ R) = .error (6, (hd (t :: u ++ [E])).at_)
      exact .inr rfl
    exact loc_alts hE hR h0 u
  | d + 1, u => by
    have ih := loc_pA hE hR d
    rw [show pA (d + 1) = pAlts (pSub (d + 1)) from funext fun ts => pA_sub (d + 1) ts]
    have h0 : LocF E R (pSub (d + 1)) := fun t u => (loc_shut hE (c := 41) (by decide) (ih u)).loc
    exact loc_alts hE hR h0 u
theorem loc_def {E : Tok} (hE : E.kind = 0) {R : List Tok} (hR : R ≠ []) (u : List Tok) : LocS E R u (pDef (u ++ [E])) (pDef (u ++ R)) := by
  cases u with
  | nil =>
    have e : pDef ([] ++ [E]) = .error (5, E.at_) := if_neg (by show ¬ E.kind = 1; omega)
    rw [e]
    exact .inl rfl
  | cons t u =>
    by_cases k1 : t.kind = 1
    · cases u with
      | nil =>
        have e : pDef ([t] ++ [E]) = .error (5, E.at_) := (if_pos k1).trans (if_neg (by show ¬ sg [E] = 61; rw [sg_end hE]; decide))
        rw [e]
        exact .inl rfl
      | cons t2 u =>
        by_cases h61 : sgOf t2 = 61
        · have e : ∀ Z, pDef (t :: t2 :: u ++ Z) = (match pShut 59 (pA 16 (u ++ Z)) with
            | .error e => .error e
            | .ok (as_, r) => .ok ((t.at_, t.text, as_), r)) := fun Z => (if_pos k1).trans (if_pos h61)
          rw [e, e]
          have h := loc_shut hE (c := 59) (by decide) (loc_pA hE hR 16 u)
          cases hj : pShut 59 (pA 16 (u ++ [E])) with
          | error q =>
            rw [hj] at h
            rcases h with h | h
            · exact .inl h
            · rw [h]
              exact .inr rfl
          | ok y =>
            obtain ⟨is, r⟩ := y
            rw [hj] at h
            obtain ⟨t4, v, rfl, hv, h⟩ := h
            rw [h]
            exact ⟨t4, v, rfl, (hv.trans (List.suffix_cons _ _)).trans (List.suffix_cons _ _), rfl⟩
        · have e : ∀ Z, pDef (t :: t2 :: u ++ Z) = .error (5, t2.at_) := fun Z => (if_pos k1).trans (if_neg h61)
          rw [e, e]
          exact .inr rfl
    · have e : ∀ Z, pDef (t :: u ++ Z) = .error (5, t.at_) := fun Z => if_neg k1
      rw [e, e]
      exact .inr rfl
/-- definitions, and others behind them -/
theorem loc_text {E : Tok} (hE : E.kind = 0) {R : List Tok} (hR : R ≠ []) : ∀ (m : Nat) (u : List Tok) (f1 f2 : Nat), u.length < m → u.length < f1 → u.length ≤ f2 → 0 < f2 → (∀ t ∈ u, t.kind ≠ 0) → match pText f1 (u ++ [E]) with
    | .error q => q.2 = E.at_ ∨ pText f2 (u ++ R) = .error q
    | .ok ds => ∃ f', f2 = f' + ds.length ∧ ds.length ≤ u.length ∧ ds ≠ [] ∧ pText f2 (u ++ R) = preT ds (pRest f' R)
  | 0, u, f1, f2, h, _, _, _, _ => by omega
  | m + 1, u, f1, f2, h, h1, h2, h0, hk => by
    obtain ⟨f1, rfl⟩ : ∃ f, f1 = f + 1 := ⟨f1 - 1, by omega⟩
    obtain ⟨f2, rfl⟩ : ∃ f, f2 = f + 1 := ⟨f2 - 1, by omega⟩
    have hd' := loc_def hE hR u
    cases hi : pDef (u ++ [E]) with
    | error q =>
      rw [hi] at hd'
      rw [text_err f1 _ q hi]
      rcases hd' with h | h
      · exact .inl h
      · exact .inr (text_err f2 _ q h)
    | ok x =>
      obtain ⟨d, r⟩ := x
      rw [hi] at hd'
      obtain ⟨t, v, rfl, hv, hb⟩ := hd'
      have hvl := hv.length_le
      have hvl : v.length + 1 ≤ u.length := by simpa using hvl
      rw [text_ok f1 _ _ d hi, text_ok f2 _ _ d hb]
      cases v with
      | nil =>
        rw [show pRest f1 ([] ++ [E]) = .ok [] from if_pos hE]
        exact ⟨f2, rfl, by simp at hvl ⊢; omega, by simp, rfl⟩
      | cons t2 v =>
        have hk2 : t2.kind ≠ 0 := hk t2 (hv.subset (by simp))
        have e1 : pRest f1 (t2 :: v ++ [E]) = pText f1 (t2 :: v ++ [E]) := if_neg hk2
        have e2 : pRest f2 (t2 :: v ++ R) = pText f2 (t2 :: v ++ R) := if_neg hk2
        rw [e1, e2]
        have ih := loc_text hE hR m (t2 :: v) f1 f2 (by omega) (by omega) (by omega) (by simp at hvl; omega) (fun t' ht' => hk t' (hv.subset (by simp at ht' ⊢; exact .inr ht')))
        cases hj : pText f1 (t2 :: v ++ [E]) with
        | error q =>
          rw [hj] at ih
          rcases ih with h | h
          · exact .inl h
          · rw [h]
            exact .inr rfl
        | ok ds =>
          rw [hj] at ih
          obtain ⟨f', g1, g2, g3, g4⟩ := ih
          rw [g4, preT_app]
          exact ⟨f', by simp [g1]; omega, by simp; omega, by simp, rfl⟩
end Go.Proofs.YtdddbkghleblhaaGreatDoor.lx
namespace Go.Proofs.YtdddbkghleblhaaGreatDoor.lx
open Go.ChangeShapes Go.WideShapes Go.ChangeAt Go.RowKit
set_option linter.unusedVariables false
/-! words that are moved -/
def ShR {α : Type} (V : α → α → Prop) (E : Tok) (k : Nat) (n : List Tok) (a b : Res α) : Prop := match a, b with
  | .error q, .error q' => q' = (q.1, q.2 + k)
  | .ok (x, r), .ok (x', r') => V x x' ∧ r' = r.map (shT k) ∧ ∃ v, r = v ++ [E] ∧ v <:+ n
  | _, _ => False
theorem sh_sg (k : Nat) (t : Tok) : sgOf (shT k t) = sgOf t := rfl
def VT {α : Type} (_ _ : α) : Prop := True
def VL (x y : List Altn) : Prop := x.length = y.length
theorem sh_op {α : Type} {V : α → α → Prop} {E : Tok} (hE : E.kind = 0) (k : Nat) {n : List Tok} (f g : Nat → α) (hV : ∀ o, V (f o) (g o)) (v : List Tok) (hv : v <:+ n) : ShR V E k n (.ok (f (opOf (v ++ [E])), opTl (v ++ [E]))) (.ok (g (opOf ((v ++ [E]).map (shT k))), opTl ((v ++ [E]).map (shT k)))) := by
  cases v with
  | nil =>
    have h1 : opOf ([E].map (shT k)) = 0 ∧ opTl ([E].map (shT k)) = [E].map (shT k) := op_end (E := shT k E) hE
    rw [List.nil_append, (op_end hE).1, (op_end hE).2, h1.1, h1.2]
    exact ⟨hV _, rfl, [], rfl, List.nil_suffix⟩
  | cons t v =>
    have h1 : opOf ((t :: v ++ [E]).map (shT k)) = opOf (t :: v ++ [E]) := rfl
    rw [h1]
    by_cases ho : isOp (sgOf t) = true
    · have e1 : opTl (t :: v ++ [E]) = v ++ [E] := if_pos ho
      have e2 : opTl ((t :: v ++ [E]).map (shT k)) = (v ++ [E]).map (shT k) := if_pos ho
      rw [e1, e2]
      exact ⟨hV _, rfl, v, rfl, (List.suffix_cons t v).trans hv⟩
    · have e1 : opTl (t :: v ++ [E]) = t :: v ++ [E] := if_neg ho
      have e2 : opTl ((t :: v ++ [E]).map (shT k)) = (t :: v ++ [E]).map (shT k) := if_neg ho
      rw [e1, e2]
      exact ⟨hV _, rfl, t :: v, rfl, hv⟩
def ShF {α : Type} (V : α → α → Prop) (E : Tok) (k : Nat) (sub : List Tok → Res α) : Prop := ∀ t u, ShR V E k u (sub (t :: u ++ [E])) (sub ((t :: u ++ [E]).map (shT k)))
theorem sh_item {E : Tok} (hE : E.kind = 0) (k : Nat) {sub : List Tok → Res (List Altn)} (hs : ShF VL E k sub) : ShF VT E k (pItem sub) := by
  intro t u
  unfold pItem
  rw [show hd (t :: u ++ [E]) = t from rfl, show (t :: u ++ [E]).tail = u ++ [E] from rfl, show hd ((t :: u ++ [E]).map (shT k)) = shT k t from rfl, show ((t :: u ++ [E]).map (shT k)).tail = (u ++ [E]).map (shT k) from rfl]
  by_cases k1 : t.kind = 1
  · rw [if_pos k1, if_pos (show (shT k t).kind = 1 from k1)]
    exact sh_op hE k (fun o => Itm.mk t.at_ 0 t.text [] o) (fun o => Itm.mk (shT k t).at_ 0 (shT k t).text [] o) (fun _ => trivial) u (List.suffix_refl _)
  · rw [if_neg k1, if_neg (show ¬ (shT k t).kind = 1 from k1)]
    by_cases k2 : t.kind = 2
    · rw [if_pos k2, if_pos (show (shT k t).kind = 2 from k2)]
      exact sh_op hE k (fun o => Itm.mk t.at_ 1 t.text [] o) (fun o => Itm.mk (shT k t).at_ 1 (shT k t).text [] o) (fun _ => trivial) u (List.suffix_refl _)
    · rw [if_neg k2, if_neg (show ¬ (shT k t).kind = 2 from k2)]
      have h := hs t u
      cases ha : sub (t :: u ++ [E]) with
      | error q =>
        cases hb : sub ((t :: u ++ [E]).map (shT k)) with
        | error q' =>
          rw [ha, hb] at h
          exact h
        | ok y => rw [ha, hb] at h; exact h.elim
      | ok x =>
        cases hb : sub ((t :: u ++ [E]).map (shT k)) with
        | error q' => rw [ha, hb] at h; exact h.elim
        | ok y =>
          rw [ha, hb] at h
          obtain ⟨bs, r⟩ := x
          obtain ⟨bs', r'⟩ := y
          obtain ⟨_, rfl, v, rfl, hv⟩ := h
          exact sh_op hE k (fun o => Itm.mk t.at_ 2 [] bs o) (fun o => Itm.mk (shT k t).at_ 2 [] bs' o) (fun _ => trivial) v hv
theorem sh_items {E : Tok} (hE : E.kind = 0) (k : Nat) {sub : List Tok → Res (List Altn)} (hs : ShF VL E k sub) : ∀ (f : Nat) (u : List Tok), u.length < f → ShR VT E k u (pItems sub f (u ++ [E])) (pItems sub f ((u ++ [E]).map (shT k)))
  | 0, u, h => by omega
  | f + 1, u, h => by
    rw [items_eq, items_eq]
    cases u with
    | nil =>
      rw [if_neg (by rw [List.nil_append, atIt_end hE]; decide), if_neg (by rw [List.nil_append, show atIt (hd ([E].map (shT k))) = false from atIt_end (E := shT k E) hE]; decide)]
      exact ⟨trivial, rfl, [], rfl, List.nil_suffix⟩
    | cons t u =>
      have hl : (t :: u).length = u.length + 1 := rfl
      by_cases ha : atIt t = true
      · rw [if_pos (show atIt (hd (t :: u ++ [E])) = true from ha), if_pos (show atIt (hd ((t :: u ++ [E]).map (shT k))) = true from ha)]
        have h2 := sh_item hE k hs t u
        cases ha : pItem sub (t :: u ++ [E]) with
        | error q =>
          cases hb : pItem sub ((t :: u ++ [E]).map (shT k)) with
          | error q' =>
            rw [ha, hb] at h2
            exact h2
          | ok y => rw [ha, hb] at h2; exact h2.elim
        | ok x =>
          cases hb : pItem sub ((t :: u ++ [E]).map (shT k)) with
          | error q' => rw [ha, hb] at h2; exact h2.elim
          | ok y =>
            rw [ha, hb] at h2
            obtain ⟨i, r⟩ := x
            obtain ⟨i', r'⟩ := y
            obtain ⟨_, rfl, v, rfl, hv⟩ := h2
            have hvl := hv.length_le
            have h3 := sh_items hE k hs f v (by omega)
            show ShR VT E k _ (match pItems sub f (v ++ [E]) with
              | .error e => .error e
              | .ok (is, r2) => .ok (i :: is, r2)) (match pItems sub f ((v ++ [E]).map (shT k)) with
              | .error e => .error e
              | .ok (is, r2) => .ok (i' :: is, r2))
            cases hc : pItems sub f (v ++ [E]) with
            | error q =>
              cases hd' : pItems sub f ((v ++ [E]).map (shT k)) with
              | error q' =>
                rw [hc, hd'] at h3
                exact h3
              | ok y => rw [hc, hd'] at h3; exact h3.elim
            | ok x =>
              cases hd' : pItems sub f ((v ++ [E]).map (shT k)) with
              | error q' => rw [hc, hd'] at h3; exact h3.elim
              | ok y =>
                rw [hc, hd'] at h3
                obtain ⟨is, r⟩ := x
                obtain ⟨is', r'⟩ := y
                obtain ⟨_, rfl, v2, rfl, hv2⟩ := h3
                exact ⟨trivial, rfl, v2, rfl, (hv2.trans hv).trans (List.suffix_cons _ _)⟩
      · rw [if_neg (show ¬ atIt (hd (t :: u ++ [E])) = true from ha), if_neg (show ¬ atIt (hd ((t :: u ++ [E]).map (shT k))) = true from ha)]
        exact ⟨trivial, rfl, t :: u, rfl, List.suffix_refl _⟩
theorem sh_alt {E : Tok} (hE : E.kind = 0) (k : Nat) {sub : List Tok → Res (List Altn)} (hs : ShF VL E k sub) (u : List Tok) : ShR VT E k u (pAlt sub (u ++ [E])) (pAlt sub ((u ++ [E]).map (shT k))) := by
  have fin : ∀ (w : List Tok) (a f a' : Nat), w <:+ u → pAlt sub (u ++ [E]) = (match pItems sub (w ++ [E]).length (w ++ [E]) with
      | .error e => .error e
      | .ok (is, r) => .ok ((a, f, is), r)) → pAlt sub ((u ++ [E]).map (shT k)) = (match pItems sub ((w ++ [E]).map (shT k)).length ((w ++ [E]).map (shT k)) with
      | .error e => .error e
      | .ok (is, r) => .ok ((a', f, is), r)) → ShR VT E k u (pAlt sub (u ++ [E])) (pAlt sub ((u ++ [E]).map (shT k))) := fun w a f a' hw e1 e2 => by
    have h := sh_items hE k hs (w ++ [E]).length w (by simp)
    rw [e1, e2, List.length_map]
    cases hc : pItems sub (w ++ [E]).length (w ++ [E]) with
    | error q =>
      cases hd' : pItems sub (w ++ [E]).length ((w ++ [E]).map (shT k)) with
      | error q' =>
        rw [hc, hd'] at h
        exact h
      | ok y => rw [hc, hd'] at h; exact h.elim
    | ok x =>
      cases hd' : pItems sub (w ++ [E]).length ((w ++ [E]).map (shT k)) with
      | error q' => rw [hc, hd'] at h; exact h.elim
      | ok y =>
        rw [hc, hd'] at h
        obtain ⟨is, r⟩ := x
        obtain ⟨is', r'⟩ := y
        obtain ⟨_, rfl, v, rfl, hv⟩ := h
        exact ⟨trivial, rfl, v, rfl, hv.trans hw⟩
  cases u with
  | nil =>
    refine fin [] E.at_ 0 (shT k E).at_ (List.suffix_refl _) ?_ ?_
    · unfold pAlt
      rw [List.nil_append, show wtTl [E] = [E] from if_neg (by show ¬ E.kind = 3; omega), show wtOf (hd [E]) = 0 from if_neg (by show ¬ E.kind = 3; omega)]
      rfl
    · unfold pAlt
      rw [List.nil_append, show wtTl ([E].map (shT k)) = [E].map (shT k) from if_neg (by show ¬ E.kind = 3; omega), show wtOf (hd ([E].map (shT k))) = 0 from if_neg (by show ¬ E.kind = 3; omega)]
      rfl
  | cons t u =>
    by_cases k3 : t.kind = 3
    · refine fin u t.at_ t.wt (shT k t).at_ (List.suffix_cons _ _) ?_ ?_
      · unfold pAlt
        rw [show wtTl (t :: u ++ [E]) = u ++ [E] from if_pos k3, show wtOf (hd (t :: u ++ [E])) = t.wt from if_pos k3]
        rfl
      · unfold pAlt
        rw [show wtTl ((t :: u ++ [E]).map (shT k)) = (u ++ [E]).map (shT k) from if_pos k3, show wtOf (hd ((t :: u ++ [E]).map (shT k))) = t.wt from if_pos k3]
        rfl
    · refine fin (t :: u) t.at_ 0 (shT k t).at_ (List.suffix_refl _) ?_ ?_
      · unfold pAlt
        rw [show wtTl (t :: u ++ [E]) = t :: u ++ [E] from if_neg k3, show wtOf (hd (t :: u ++ [E])) = 0 from if_neg k3]
        rfl
      · unfold pAlt
        rw [show wtTl ((t :: u ++ [E]).map (shT k)) = (t :: u ++ [E]).map (shT k) from if_neg k3, show wtOf (hd ((t :: u ++ [E]).map (shT k))) = 0 from if_neg k3]
        rfl
theorem sh_more {E : Tok} (hE : E.kind = 0) (k : Nat) {sub : List Tok → Res (List Altn)} (hs : ShF VL E k sub) : ∀ (f : Nat) (u : List Tok), u.length < f → ShR VL E k u (pMore sub f (u ++ [E])) (pMore sub f ((u ++ [E]).map (shT k)))
  | 0, u, h => by omega
  | f + 1, u, h => by
    rw [mores_eq, mores_eq]
    cases u with
    | nil =>
      rw [if_neg (by rw [List.nil_append, sg_end hE]; decide), if_neg (by rw [List.nil_append, show sg ([E].map (shT k)) = 0 from sg_end (E := shT k E) hE]; decide)]
      exact ⟨rfl, rfl, [], rfl, List.nil_suffix⟩
    | cons t u =>
      have hl : (t :: u).length = u.length + 1 := rfl
      by_cases ha : sgOf t = 124
      · rw [if_pos (show sg (t :: u ++ [E]) = 124 from ha), if_pos (show sg ((t :: u ++ [E]).map (shT k)) = 124 from ha), show (t :: u ++ [E]).tail = u ++ [E] from rfl, show ((t :: u ++ [E]).map (shT k)).tail = (u ++ [E]).map (shT k) from rfl]
        have h2 := sh_alt hE k hs u
        cases ha : pAlt sub (u ++ [E]) with
        | error q =>
          cases hb : pAlt sub ((u ++ [E]).map (shT k)) with
          | error q' =>
            rw [ha, hb] at h2
            exact h2
          | ok y => rw [ha, hb] at h2; exact h2.elim
        | ok x =>
          cases hb : pAlt sub ((u ++ [E]).map (shT k)) with
          | error q' => rw [ha, hb] at h2; exact h2.elim
          | ok y =>
            rw [ha, hb] at h2
            obtain ⟨i, r⟩ := x
            obtain ⟨i', r'⟩ := y
            obtain ⟨_, rfl, v, rfl, hv⟩ := h2
            have hvl := hv.length_le
            have h3 := sh_more hE k hs f v (by omega)
            show ShR VL E k _ (match pMore sub f (v ++ [E]) with
              | .error e => .error e
              | .ok (as_, r2) => .ok (i :: as_, r2)) (match pMore sub f ((v ++ [E]).map (shT k)) with
              | .error e => .error e
              | .ok (as_, r2) => .ok (i' :: as_, r2))
            cases hc : pMore sub f (v ++ [E]) with
            | error q =>
              cases hd' : pMore sub f ((v ++ [E]).map (shT k)) with
              | error q' =>
                rw [hc, hd'] at h3
                exact h3
              | ok y => rw [hc, hd'] at h3; exact h3.elim
            | ok x =>
              cases hd' : pMore sub f ((v ++ [E]).map (shT k)) with
              | error q' => rw [hc, hd'] at h3; exact h3.elim
              | ok y =>
                rw [hc, hd'] at h3
                obtain ⟨is, r⟩ := x
                obtain ⟨is', r'⟩ := y
                obtain ⟨hl2, rfl, v2, rfl, hv2⟩ := h3
                exact ⟨congrArg (· + 1) hl2, rfl, v2, rfl, (hv2.trans hv).trans (List.suffix_cons _ _)⟩
      · rw [if_neg (show ¬ sg (t :: u ++ [E]) = 124 from ha), if_neg (show ¬ sg ((t :: u ++ [E]).map (shT k)) = 124 from ha)]
        exact ⟨rfl, rfl, t :: u, rfl, List.suffix_refl _⟩
theorem sh_alts {E : Tok} (hE : E.kind = 0) (k : Nat) {sub : List Tok → Res (List Altn)} (hs : ShF VL E k sub) (u : List Tok) : ShR VL E k u (pAlts sub (u ++ [E])) (pAlts sub ((u ++ [E]).map (shT k))) := by
  have h2 := sh_alt hE k hs u
  unfold pAlts
  cases ha : pAlt sub (u ++ [E]) with
  | error q =>
    cases hb : pAlt sub ((u ++ [E]).map (shT k)) with
    | error q' =>
      rw [ha, hb] at h2
      exact h2
    | ok y => rw [ha, hb] at h2; exact h2.elim
  | ok x =>
    cases hb : pAlt sub ((u ++ [E]).map (shT k)) with
    | error q' => rw [ha, hb] at h2; exact h2.elim
    | ok y =>
      rw [ha, hb] at h2
      obtain ⟨i, r⟩ := x
      obtain ⟨i', r'⟩ := y
      obtain ⟨_, rfl, v, rfl, hv⟩ := h2
      have h3 := sh_more hE k hs (v ++ [E]).length v (by simp)
      show ShR VL E k _ (match pMore sub (v ++ [E]).length (v ++ [E]) with
        | .error e => .error e
        | .ok (as_, r2) => .ok (i :: as_, r2)) (match pMore sub ((v ++ [E]).map (shT k)).length ((v ++ [E]).map (shT k)) with
        | .error e => .error e
        | .ok (as_, r2) => .ok (i' :: as_, r2))
      rw [List.length_map]
      cases hc : pMore sub (v ++ [E]).length (v ++ [E]) with
      | error q =>
        cases hd' : pMore sub (v ++ [E]).length ((v ++ [E]).map (shT k)) with
        | error q' =>
          rw [hc, hd'] at h3
          exact h3
        | ok y => rw [hc, hd'] at h3; exact h3.elim
      | ok x =>
        cases hd' : pMore sub (v ++ [E]).length ((v ++ [E]).map (shT k)) with
        | error q' => rw [hc, hd'] at h3; exact h3.elim
        | ok y =>
          rw [hc, hd'] at h3
          obtain ⟨is, r⟩ := x
          obtain ⟨is', r'⟩ := y
          obtain ⟨hl2, rfl, v2, rfl, hv2⟩ := h3
          exact ⟨congrArg (· + 1) hl2, rfl, v2, rfl, hv2.trans hv⟩
theorem sh_shut {E : Tok} (hE : E.kind = 0) (k c : Nat) (hc : 0 < c) {n : List Tok} {a b : Res (List Altn)} (h : ShR VL E k n a b) : ShR VL E k n (pShut c a) (pShut c b) := by
  cases a with
  | error q =>
    cases b with
    | error q' => exact h
    | ok y => exact h.elim
  | ok x =>
    cases b with
    | error q' => exact h.elim
    | ok y =>
      obtain ⟨bs, r⟩ := x
      obtain ⟨bs', r'⟩ := y
      obtain ⟨hl, rfl, v, rfl, hv⟩ := h
      cases v with
      | nil =>
        have e1 : pShut c (.ok (bs, [] ++ [E])) = .error (5, E.at_) := if_neg (by rw [List.nil_append, sg_end hE]; omega)
        have e2 : pShut c (.ok (bs', ([] ++ [E]).map (shT k))) = .error (5, (shT k E).at_) := if_neg (by rw [List.nil_append, show sg ([E].map (shT k)) = 0 from sg_end (E := shT k E) hE]; omega)
        rw [e1, e2]
        rfl
      | cons t v =>
        by_cases hs : sgOf t = c
        · rw [show pShut c (.ok (bs, t :: v ++ [E])) = .ok (bs, v ++ [E]) from if_pos hs, show pShut c (.ok (bs', (t :: v ++ [E]).map (shT k))) = .ok (bs', (v ++ [E]).map (shT k)) from if_pos hs]
          exact ⟨hl, rfl, v, rfl, (List.suffix_cons _ _).trans hv⟩
        · rw [show pShut c (.ok (bs, t :: v ++ [E])) = .error (5, t.at_) from if_neg hs, show pShut c (.ok (bs', (t :: v ++ [E]).map (shT k))) = .error (5, (shT k t).at_) from if_neg hs]
          rfl
theorem sh_pA {E : Tok} (hE : E.kind = 0) (k : Nat) : ∀ (d : Nat), (∀ u, ShR VL E k u (pA d (u ++ [E])) (pA d ((u ++ [E]).map (shT k))))
  | 0, u => by
    rw [show pA 0 = pAlts (pSub 0) from funext fun ts => pA_sub 0 ts]
    have h0 : ShF VL E k (pSub 0) := fun t u => by
      show (6, (shT k t).at_) = (6, t.at_ + k)
      rfl
    exact sh_alts hE k h0 u
  | d + 1, u => by
    have ih := sh_pA hE k d
    rw [show pA (d + 1) = pAlts (pSub (d + 1)) from funext fun ts => pA_sub (d + 1) ts]
    have h0 : ShF VL E k (pSub (d + 1)) := fun t u => sh_shut hE k 41 (by decide) (ih u)
    exact sh_alts hE k h0 u
def VD (k : Nat) (d d' : Dfn) : Prop := d'.1 = d.1 + k ∧ d'.2.1 = d.2.1 ∧ d'.2.2.length = d.2.2.length
theorem sh_def {E : Tok} (hE : E.kind = 0) (k : Nat) (u : List Tok) : ShR (VD k) E k u (pDef (u ++ [E])) (pDef ((u ++ [E]).map (shT k))) := by
  cases u with
  | nil =>
    have e1 : pDef ([] ++ [E]) = .error (5, E.at_) := if_neg (by show ¬ E.kind = 1; omega)
    have e2 : pDef (([] ++ [E]).map (shT k)) = .error (5, (shT k E).at_) := if_neg (by show ¬ E.kind = 1; omega)
    rw [e1, e2]
    rfl
  | cons t u =>
    by_cases k1 : t.kind = 1
    · cases u with
      | nil =>
        have e1 : pDef ([t] ++ [E]) = .error (5, E.at_) := (if_pos k1).trans (if_neg (by show ¬ sg [E] = 61; rw [sg_end hE]; decide))
        have e2 : pDef (([t] ++ [E]).map (shT k)) = .error (5, (shT k E).at_) := (if_pos (show (shT k t).kind = 1 from k1)).trans (if_neg (by show ¬ sg [shT k E] = 61; rw [sg_end (E := shT k E) hE]; decide))
        rw [e1, e2]
        rfl
      | cons t2 u =>
        by_cases h61 : sgOf t2 = 61
        · have e1 : pDef (t :: t2 :: u ++ [E]) = (match pShut 59 (pA 16 (u ++ [E])) with
            | .error e => .error e
            | .ok (as_, r) => .ok ((t.at_, t.text, as_), r)) := (if_pos k1).trans (if_pos h61)
          have e2 : pDef ((t :: t2 :: u ++ [E]).map (shT k)) = (match pShut 59 (pA 16 ((u ++ [E]).map (shT k))) with
            | .error e => .error e
            | .ok (as_, r) => .ok (((shT k t).at_, (shT k t).text, as_), r)) := (if_pos (show (shT k t).kind = 1 from k1)).trans (if_pos (show sgOf (shT k t2) = 61 from h61))
          rw [e1, e2]
          have h := sh_shut hE k 59 (by decide) (sh_pA hE k 16 u)
          cases hc : pShut 59 (pA 16 (u ++ [E])) with
          | error q =>
            cases hd' : pShut 59 (pA 16 ((u ++ [E]).map (shT k))) with
            | error q' =>
              rw [hc, hd'] at h
              exact h
            | ok y => rw [hc, hd'] at h; exact h.elim
          | ok x =>
            cases hd' : pShut 59 (pA 16 ((u ++ [E]).map (shT k))) with
            | error q' => rw [hc, hd'] at h; exact h.elim
            | ok y =>
              rw [hc, hd'] at h
              obtain ⟨is, r⟩ := x
              obtain ⟨is', r'⟩ := y
              obtain ⟨hl, rfl, v, rfl, hv⟩ := h
              exact ⟨⟨rfl, rfl, hl.symm⟩, rfl, v, rfl, (hv.trans (List.suffix_cons _ _)).trans (List.suffix_cons _ _)⟩
        · have e1 : pDef (t :: t2 :: u ++ [E]) = .error (5, t2.at_) := (if_pos k1).trans (if_neg h61)
          have e2 : pDef ((t :: t2 :: u ++ [E]).map (shT k)) = .error (5, (shT k t2).at_) := (if_pos (show (shT k t).kind = 1 from k1)).trans (if_neg (show ¬ sgOf (shT k t2) = 61 from h61))
          rw [e1, e2]
          rfl
    · have e1 : pDef (t :: u ++ [E]) = .error (5, t.at_) := if_neg k1
      have e2 : pDef ((t :: u ++ [E]).map (shT k)) = .error (5, (shT k t).at_) := if_neg (show ¬ (shT k t).kind = 1 from k1)
      rw [e1, e2]
      rfl
end Go.Proofs.YtdddbkghleblhaaGreatDoor.lx
namespace Go.Proofs.YtdddbkghleblhaaGreatDoor.lx
open Go.ChangeShapes Go.WideShapes Go.ChangeAt Go.RowKit
set_option linter.unusedVariables false
/-! the definitions of two texts -/
def VDs (k : Nat) : List Dfn → List Dfn → Prop
  | [], [] => True
  | d :: ds, d' :: ds' => VD k d d' ∧ VDs k ds ds'
  | _, _ => False
theorem sh_text {E : Tok} (hE : E.kind = 0) (k : Nat) : ∀ (f : Nat) (u : List Tok), u.length < f → match pText f (u ++ [E]), pText f ((u ++ [E]).map (shT k)) with
    | .error q, .error q' => q' = (q.1, q.2 + k)
    | .ok ds, .ok ds' => VDs k ds ds'
    | _, _ => False
  | 0, u, h => by omega
  | f + 1, u, h => by
    have h2 := sh_def hE k u
    have h4 := loc_def hE (R := [E]) (by simp) u
    cases ha : pDef (u ++ [E]) with
    | error q =>
      cases hb : pDef ((u ++ [E]).map (shT k)) with
      | error q' =>
        rw [ha, hb] at h2
        rw [text_err _ _ _ ha, text_err _ _ _ hb]
        exact h2
      | ok y => rw [ha, hb] at h2; exact h2.elim
    | ok x =>
      cases hb : pDef ((u ++ [E]).map (shT k)) with
      | error q' => rw [ha, hb] at h2; exact h2.elim
      | ok y =>
        rw [ha, hb] at h2
        obtain ⟨d, r⟩ := x
        obtain ⟨d', r'⟩ := y
        obtain ⟨hV, rfl, v, rfl, hv⟩ := h2
        rw [ha] at h4
        obtain ⟨t, v', he, hv', _⟩ := h4
        obtain rfl : v = v' := List.append_cancel_right he
        have hvl := hv'.length_le
        have hvl : v.length + 1 ≤ u.length := by simpa using hvl
        rw [text_eq, text_eq, ha, hb]
        have hk : (hd ((v ++ [E]).map (shT k))).kind = (hd (v ++ [E])).kind := by cases v <;> rfl
        show match (if (hd (v ++ [E])).kind = 0 then (.ok [d] : Except (Nat × Nat) (List Dfn)) else match pText f (v ++ [E]) with
          | .error e => .error e
          | .ok ds => .ok (d :: ds)), (if (hd ((v ++ [E]).map (shT k))).kind = 0 then (.ok [d'] : Except (Nat × Nat) (List Dfn)) else match pText f ((v ++ [E]).map (shT k)) with
          | .error e => .error e
          | .ok ds => .ok (d' :: ds)) with
          | .error q, .error q' => q' = (q.1, q.2 + k)
          | .ok ds, .ok ds' => VDs k ds ds'
          | _, _ => False
        rw [hk]
        by_cases h0 : (hd (v ++ [E])).kind = 0
        · rw [if_pos h0, if_pos h0]
          exact ⟨hV, trivial⟩
        · rw [if_neg h0, if_neg h0]
          have ih := sh_text hE k f v (by omega)
          cases hc : pText f (v ++ [E]) with
          | error q =>
            cases hd' : pText f ((v ++ [E]).map (shT k)) with
            | error q' =>
              rw [hc, hd'] at ih
              exact ih
            | ok y => rw [hc, hd'] at ih; exact ih.elim
          | ok ds =>
            cases hd' : pText f ((v ++ [E]).map (shT k)) with
            | error q' => rw [hc, hd'] at ih; exact ih.elim
            | ok ds' =>
              rw [hc, hd'] at ih
              exact ⟨hV, ih⟩
/-- more fuel turns nothing -/
theorem fuel_text {E : Tok} (hE : E.kind = 0) : ∀ (m : Nat) (u : List Tok) (f1 f2 : Nat), u.length < m → u.length < f1 → u.length < f2 → pText f1 (u ++ [E]) = pText f2 (u ++ [E])
  | 0, u, f1, f2, h, _, _ => by omega
  | m + 1, u, f1, f2, h, h1, h2 => by
    obtain ⟨f1, rfl⟩ : ∃ f, f1 = f + 1 := ⟨f1 - 1, by omega⟩
    obtain ⟨f2, rfl⟩ : ∃ f, f2 = f + 1 := ⟨f2 - 1, by omega⟩
    have h4 := loc_def hE (R := [E]) (by simp) u
    rw [text_eq, text_eq]
    cases ha : pDef (u ++ [E]) with
    | error q => rfl
    | ok x =>
      obtain ⟨d, r⟩ := x
      rw [ha] at h4
      obtain ⟨t, v, rfl, hv, _⟩ := h4
      have hvl := hv.length_le
      have hvl : v.length + 1 ≤ u.length := by simpa using hvl
      have ih := fuel_text hE m v f1 f2 (by omega) (by omega) (by omega)
      show (if (hd (v ++ [E])).kind = 0 then (.ok [d] : Except (Nat × Nat) (List Dfn)) else match pText f1 (v ++ [E]) with
        | .error e => .error e
        | .ok ds => .ok (d :: ds)) = (if (hd (v ++ [E])).kind = 0 then (.ok [d] : Except (Nat × Nat) (List Dfn)) else match pText f2 (v ++ [E]) with
        | .error e => .error e
        | .ok ds => .ok (d :: ds))
      rw [ih]
/-! what is wrong has a number -/
def PosR {α : Type} (a : Res α) : Prop := match a with
  | .error q => 0 < q.1
  | .ok _ => True
theorem pos_item {sub : List Tok → Res (List Altn)} (hs : ∀ ts, PosR (sub ts)) (ts : List Tok) : PosR (pItem sub ts) := by
  unfold pItem
  split
  · trivial
  · split
    · trivial
    · have h := hs ts
      cases ha : sub ts with
      | error q => rw [ha] at h; exact h
      | ok x => trivial
theorem pos_items {sub : List Tok → Res (List Altn)} (hs : ∀ ts, PosR (sub ts)) : ∀ (f : Nat) (ts : List Tok), PosR (pItems sub f ts)
  | 0, ts => by show 0 < 99; decide
  | f + 1, ts => by
    rw [items_eq]
    split
    · have h := pos_item hs ts
      cases ha : pItem sub ts with
      | error q => rw [ha] at h; exact h
      | ok x =>
        obtain ⟨i, r⟩ := x
        have h3 := pos_items hs f r
        show PosR (match pItems sub f r with
          | .error e => .error e
          | .ok (is, r2) => .ok (i :: is, r2))
        cases hb : pItems sub f r with
        | error q => rw [hb] at h3; exact h3
        | ok y => trivial
    · trivial
theorem pos_alt {sub : List Tok → Res (List Altn)} (hs : ∀ ts, PosR (sub ts)) (ts : List Tok) : PosR (pAlt sub ts) := by
  unfold pAlt
  have h3 := pos_items hs (wtTl ts).length (wtTl ts)
  cases hb : pItems sub (wtTl ts).length (wtTl ts) with
  | error q => rw [hb] at h3; exact h3
  | ok y => trivial
theorem pos_more {sub : List Tok → Res (List Altn)} (hs : ∀ ts, PosR (sub ts)) : ∀ (f : Nat) (ts : List Tok), PosR (pMore sub f ts)
  | 0, ts => by show 0 < 99; decide
  | f + 1, ts => by
    rw [mores_eq]
    split
    · have h := pos_alt hs ts.tail
      cases ha : pAlt sub ts.tail with
      | error q => rw [ha] at h; exact h
      | ok x =>
        obtain ⟨i, r⟩ := x
        have h3 := pos_more hs f r
        show PosR (match pMore sub f r with
          | .error e => .error e
          | .ok (as_, r2) => .ok (i :: as_, r2))
        cases hb : pMore sub f r with
        | error q => rw [hb] at h3; exact h3
        | ok y => trivial
    · trivial
theorem pos_alts {sub : List Tok → Res (List Altn)} (hs : ∀ ts, PosR (sub ts)) (ts : List Tok) : PosR (pAlts sub ts) := by
  unfold pAlts
  have h := pos_alt hs ts
  cases ha : pAlt sub ts with
  | error q => rw [ha] at h; exact h
  | ok x =>
    obtain ⟨i, r⟩ := x
    have h3 := pos_more hs r.length r
    show PosR (match pMore sub r.length r with
      | .error e => .error e
      | .ok (as_, r2) => .ok (i :: as_, r2))
    cases hb : pMore sub r.length r with
    | error q => rw [hb] at h3; exact h3
    | ok y => trivial
theorem pos_shut (c : Nat) {a : Res (List Altn)} (h : PosR a) : PosR (pShut c a) := by
  cases a with
  | error q => exact h
  | ok x =>
    obtain ⟨bs, r⟩ := x
    show PosR (if sg r = c then .ok (bs, r.tail) else .error (5, (hd r).at_))
    split
    · trivial
    · show 0 < 5; decide
theorem pos_pA : ∀ (d : Nat) (ts : List Tok), PosR (pA d ts)
  | 0, ts => by
    rw [pA_sub]
    exact pos_alts (fun ts => by show 0 < 6; decide) ts
  | d + 1, ts => by
    rw [pA_sub]
    exact pos_alts (fun ts => pos_shut 41 (pos_pA d ts.tail)) ts
theorem pos_def (ts : List Tok) : PosR (pDef ts) := by
  unfold pDef
  split
  · split
    · have h := pos_shut 59 (pos_pA 16 ts.tail.tail)
      cases ha : pShut 59 (pA 16 ts.tail.tail) with
      | error q => rw [ha] at h; exact h
      | ok x => trivial
    · show 0 < 5; decide
  · show 0 < 5; decide
theorem pos_text : ∀ (f : Nat) (ts : List Tok) (q : Nat × Nat), pText f ts = .error q → 0 < q.1
  | 0, ts, q, h => by
    cases h
    decide
  | f + 1, ts, q, h => by
    rw [text_eq] at h
    have h2 := pos_def ts
    cases ha : pDef ts with
    | error q' =>
      rw [ha] at h h2
      cases h
      exact h2
    | ok x =>
      obtain ⟨d, r⟩ := x
      rw [ha] at h
      have h : (if (hd r).kind = 0 then (.ok [d] : Except (Nat × Nat) (List Dfn)) else match pText f r with
        | .error e => .error e
        | .ok ds => .ok (d :: ds)) = .error q := h
      split at h
      · cases h
      · cases hb : pText f r with
        | error q' =>
          rw [hb] at h
          cases h
          exact pos_text f r q hb
        | ok ds =>
          rw [hb] at h
          cases h
end Go.Proofs.YtdddbkghleblhaaGreatDoor.lx

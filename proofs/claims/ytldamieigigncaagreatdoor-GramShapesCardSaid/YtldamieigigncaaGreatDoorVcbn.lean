import Derived.Test.YtldamieigigncaaGreatDoorVcba
import Derived.BigQuiet
import Derived.Test.YtldamieigigncaaGreatDoorVcbk
import Derived.Test.YtldamieigigncaaGreatDoorVcac
import Derived.Test.YtldamieigigncaaGreatDoorCards
import Derived.Test.YtldamieigigncaaGreatDoorTie
import Derived.Lib.LaidU8
import Derived.Deep.Strs
import Derived.Deep.Slices
import Derived.Lay
namespace Go.Proofs.YtldamieigigncaaGreatDoor.lx
open Go.ChangeShapes Go.WideShapes Go.ChangeAt Go.RowKit
set_option linter.unusedVariables false
set_option linter.unusedSimpArgs false
def ltW : List Int → List Int → Bool
  | [], [] => false
  | [], _ :: _ => true
  | _ :: _, [] => false
  | x :: xs, y :: ys => decide (x < y) || (decide (x = y) && ltW xs ys)
theorem ltW_drop : ∀ (k : Nat) (xs ys : List Int), k ≤ xs.length → k ≤ ys.length → xs.take k = ys.take k → ltW xs ys = ltW (xs.drop k) (ys.drop k)
  | 0, xs, ys, _, _, _ => by simp
  | k + 1, [], ys, h, _, _ => by simp at h
  | k + 1, x :: xs, [], _, h, _ => by simp at h
  | k + 1, x :: xs, y :: ys, h1, h2, h => by
    simp only [List.take_succ_cons, List.cons.injEq] at h
    obtain ⟨rfl, h⟩ := h
    have := ltW_drop k xs ys (by simpa using h1) (by simpa using h2) h
    simp [ltW, this]
theorem ltW_at {k : Nat} {xs ys : List Int} (h1 : k < xs.length) (h2 : k < ys.length) (h : xs.take k = ys.take k) : ltW xs ys = (decide (xs.getD k 0 < ys.getD k 0) || (decide (xs.getD k 0 = ys.getD k 0) && ltW (xs.drop (k + 1)) (ys.drop (k + 1)))) := by
  rw [ltW_drop k xs ys (by omega) (by omega) h, List.drop_eq_getElem_cons h1, List.drop_eq_getElem_cons h2]
  simp [ltW, List.getD_eq_getElem?_getD, List.getElem?_eq_getElem h1, List.getElem?_eq_getElem h2]
theorem ltW_end {k : Nat} {xs ys : List Int} (h1 : k ≤ xs.length) (h2 : k ≤ ys.length) (h : xs.take k = ys.take k) (he : k = xs.length ∨ k = ys.length) : ltW xs ys = decide (xs.length < ys.length) := by
  rw [ltW_drop k xs ys h1 h2 h]
  rcases he with rfl | rfl
  · rw [List.drop_length]
    cases hd : ys.drop xs.length with
    | nil => have := congrArg List.length hd; simp at this; simp [ltW]; omega
    | cons a l => have := congrArg List.length hd; simp at this; simp [ltW]; omega
  · rw [List.drop_length]
    cases hd : xs.drop ys.length with
    | nil => simp [ltW]; omega
    | cons a l => simp [ltW]; omega
theorem take_more {k : Nat} {xs ys : List Int} (h1 : k < xs.length) (h2 : k < ys.length) (h : xs.take k = ys.take k) (he : xs.getD k 0 = ys.getD k 0) : xs.take (k + 1) = ys.take (k + 1) := by
  rw [List.take_succ_eq_append_getElem h1, List.take_succ_eq_append_getElem h2, h]
  simp [List.getD_eq_getElem?_getD, List.getElem?_eq_getElem h1, List.getElem?_eq_getElem h2] at he
  rw [he]
theorem qt_cell {w w' : World} (h : Qt w w') (a : Addr) : w'.cell? a = w.cell? a := by obtain ⟨m, rfl⟩ := h; rfl
theorem qt_drew {w w' : World} (h : Qt w w') (n : Nat) : Qt w (w'.drewN n) := by
  obtain ⟨m, rfl⟩ := h
  exact ⟨m + n, World.drewN_drewN ..⟩
theorem retb_eq {a b : Bool} (h : a = b) : Ending.returned (.bool a) = .returned (.bool b) := by rw [h]
set_option maxRecDepth 100000 in
set_option maxHeartbeats 1000000 in
theorem lessT_any (w : World) (A A' : Nat → Prop) (v u : Value) (xs ys : List Int) (hv : IntsAt w A v xs) (hu : IntsAt w A' u ys) : Calls Tryz.prog 43 #[v, u] w fun e w' => e = .returned (.bool (ltW xs ys)) ∧ ∃ n, w' = w.drewN n := by
  obtain ⟨ao, ca, rfl⟩ := ListOf.form hv
  obtain ⟨bo, cb, rfl⟩ := ListOf.form hu
  have hl1 := hv.1
  have hl2 := hu.1
  unfold maxLen at hl1 hl2
  have HC := Lib.hid hv
  have HC2 := Lib.hid hu
  clear hv hu
  go_enter Tryz.func43, Tryz.ntmps43
  go_wp2
  go_loopw [5] (fun i wr => ∃ k : Nat, i = .int .i64 k ∧ k ≤ xs.length ∧ k ≤ ys.length ∧ xs.take k = ys.take k ∧ Qt w wr) (fun i _ => xs.length - (intOf i).toNat)
  case atStart => exact ⟨0, rfl, Nat.zero_le _, Nat.zero_le _, by simp, Qt.refl _⟩
  case round =>
    obtain ⟨k, rfl, hk1, hk2, htk, hbel⟩ := hrel
    by_cases h1 : k < xs.length
    · by_cases h2 : k < ys.length
      · have hx1 : xs[k]? = some (xs.getD k 0) := by rw [List.getD_eq_getElem?_getD, List.getElem?_eq_getElem h1]; rfl
        have hy1 : ys[k]? = some (ys.getD k 0) := by rw [List.getD_eq_getElem?_getD, List.getElem?_eq_getElem h2]; rfl
        obtain ⟨ga, ca', ea, _, hca⟩ := IntsAt.cell HC.out hx1
        obtain ⟨gb, cb', eb, _, hcb⟩ := IntsAt.cell HC2.out hy1
        injection ea with ea j1 j2
        subst ea
        injection eb with eb j3 j4
        subst eb
        clear j1 j2 j3 j4
        have ca : wr.cell? ⟨ga, k, none⟩ = some (.int .i64 (xs.getD k 0)) := (qt_cell hbel _).trans hca
        have cb : wr.cell? ⟨gb, k, none⟩ = some (.int .i64 (ys.getD k 0)) := (qt_cell hbel _).trans hcb
        clear hx1 hy1
        have hlt := ltW_at h1 h2 htk
        have hlt2 := ltW_at h2 h1 htk.symm
        have hmo := take_more h1 h2 htk
        clear hca hcb
        generalize xs.getD k 0 = x at *
        generalize ys.getD k 0 = y at *
        have HL := Lib.hid hlt
        have HL2 := Lib.hid hlt2
        have HM := Lib.hid hmo
        have HT := Lib.hid htk
        clear hlt hlt2 hmo htk
        by_cases he : x = y
        · subst he
          go_wp2
          go_quiet (fail)
          go_wp2
          exact ⟨⟨k + 1, congrArg (Value.int .i64) (by omega), h1, h2, HM.out (by trivial), qt_drew hbel _⟩, by simp only [intOf]; omega⟩
        · go_wp2
          go_quiet (fail)
          go_wp2
          go_quiet (fail)
          go_wp2
          go_ret
          exact ⟨retb_eq (by rw [HL.out]; simp [he]), qt_drew (qt_drew hbel _) _⟩
      · obtain rfl : k = ys.length := by omega
        have hlt := ltW_end hk1 hk2 htk (.inr rfl)
        have hlt2 := ltW_end hk2 hk1 htk.symm (.inl rfl)
        have HL := Lib.hid hlt
        have HL2 := Lib.hid hlt2
        clear hlt hlt2 htk
        go_wp2
        go_ret
        exact ⟨retb_eq (by rw [HL.out]; try simp), hbel⟩
    · obtain rfl : k = xs.length := by omega
      have hlt := ltW_end hk1 hk2 htk (.inl rfl)
      have hlt2 := ltW_end hk2 hk1 htk.symm (.inr rfl)
      have HL := Lib.hid hlt
      have HL2 := Lib.hid hlt2
      clear hlt hlt2 htk
      go_wp2
      go_ret
      exact ⟨retb_eq (by rw [HL.out]; try simp), hbel⟩
theorem ltW_both : ∀ xs ys : List Int, (!ltW xs ys && !ltW ys xs) = decide (xs = ys)
  | [], [] => by simp [ltW]
  | [], _ :: _ => by simp [ltW]
  | _ :: _, [] => by simp [ltW]
  | x :: xs, y :: ys => by
    have ih := ltW_both xs ys
    unfold ltW
    by_cases h1 : x = y
    · subst h1
      simp only [Int.lt_irrefl, decide_false, Bool.false_or, decide_true, Bool.true_and, List.cons.injEq, true_and]
      exact ih
    · have h2 : ¬ y = x := fun e => h1 e.symm
      have h3 : decide (x :: xs = y :: ys) = false := decide_eq_false (fun e => h1 (List.cons.inj e).1)
      rw [h3]
      rcases Int.lt_or_gt_of_ne h1 with h | h
      · simp [h]
      · have h4 : y < x := h
        simp [h4]
set_option maxRecDepth 100000 in
set_option maxHeartbeats 1000000 in
theorem sameT_any (w : World) (A A' : Nat → Prop) (v u : Value) (xs ys : List Int) (hv : IntsAt w A v xs) (hu : IntsAt w A' u ys) : Calls Tryz.prog 14 #[v, u] w fun e w' => e = .returned (.bool (decide (xs = ys))) ∧ ∃ n, w' = w.drewN n := by
  have h1 := lessT_any w A A' v u xs ys hv hu
  have h2 := fun (W : World) (n : Nat) (hW : W = w.drewN n) => lessT_any W A' A u v ys xs (by subst hW; exact hu) (by subst hW; exact hv)
  have hb := ltW_both xs ys
  obtain ⟨ao, ca, rfl⟩ := ListOf.form hv
  obtain ⟨bo, cb, rfl⟩ := ListOf.form hu
  have H2 := Lib.hid h2
  generalize decide (xs = ys) = D at *
  generalize xs.length = n at *
  generalize ys.length = m at *
  clear hv hu h2
  cases hx : ltW xs ys
  · rw [hx] at h1 hb
    have HB := Lib.hid hb
    clear hx hb
    go_enter Tryz.func14, Tryz.ntmps14
    go_wp2_with fail
    refine h1.mono ?_
    rintro e w1 ⟨rfl, q, rfl⟩
    have h3 := H2.out _ q rfl
    clear h1
    go_wp2_with fail
    refine h3.mono ?_
    rintro e w2 ⟨rfl, r, rfl⟩
    clear h3
    go_wp2_with fail
    go_ret
    refine ⟨retb_eq ?_, q + r, by first | rfl | exact World.drewN_drewN ..⟩
    rw [← HB.out]
    simp
  · rw [hx] at h1 hb
    have HB := Lib.hid hb
    clear hx hb
    go_enter Tryz.func14, Tryz.ntmps14
    go_wp2_with fail
    refine h1.mono ?_
    rintro e w1 ⟨rfl, q, rfl⟩
    clear h1
    go_wp2_with fail
    go_ret
    refine ⟨retb_eq ?_, q, rfl⟩
    rw [← HB.out]
    simp
end Go.Proofs.YtldamieigigncaaGreatDoor.lx

namespace Go.Proofs.YtldamieigigncaaGreatDoor.lx
open Go.ChangeShapes Go.WideShapes Go.ChangeAt Go.RowKit Go.Proofs.YtldamieigigncaaGreatDoor.ky
set_option linter.unusedVariables false
set_option linter.unusedSimpArgs false
attribute [local go_sem] run_store_float
theorem own_cap {w : World} {base size n cap : Nat} {e : TypeId} {ao : Option Addr} {xs : List Value} (h : w.ownsRow base e size (.slice ao n cap) n xs) : n ≤ cap := by
  rcases h.2 with ⟨hnil, h0⟩ | ⟨g', cap', cur, hv, hbase, hb, h1, h2, h3, h4⟩
  · omega
  · injection hv with _ _ hv
    omega
theorem GrO.reads {B : Nat} {w : World} {tv vv rv : Value} {g : Gra} (h : GrO B w tv vv rv g) : GrAt w (fun k => k < w.heap.size) tv vv rv g := by
  obtain ⟨h1, h2, N, h3⟩ := h
  exact ⟨(strs_of h1).keep keepsStr (fun b hb _ => ⟨hb, rfl⟩) (Nat.le_refl _), (strs_of h2).keep keepsStr (fun b hb _ => ⟨hb, rfl⟩) (Nat.le_refl _), (rules_of h3).keep keepsRul (fun b hb _ => ⟨hb, rfl⟩) (Nat.le_refl _)⟩
theorem RlW.caps {B N : Nat} {w : World} {rs : List Rl} {ro : Option Addr} {n rc : Nat} (h : RlW B N w (.slice ro n rc) rs) : rs.length ≤ rc := by
  obtain ⟨us, _, ho, _⟩ := h
  obtain ⟨ao, cap, e⟩ := own_form ho
  injection e with e1 e2 e3
  subst e2
  exact own_cap ho
theorem sload_any {s : List UInt8} {g : Gra} {E A : Nat} (h : loadAll s = (g, E, A)) (hs : s.length ≤ maxLen) (w : World) (b off : Nat) (hv : Vs w b off) : Calls Tryz.prog 7 #[.string (S s)] w fun e w' => (∃ (tbo vo ro : Option Addr) (tc vc rc : Nat), e = .returned (.tuple #[.agg #[.slice tbo g.terms.length tc, .slice vo g.vars.length vc, .slice ro g.rules.length rc], .agg #[.int .i64 E, .int .i64 A]]) ∧ GrAt w' (fun k => k < w'.heap.size) (.slice tbo g.terms.length tc) (.slice vo g.vars.length vc) (.slice ro g.rules.length rc) g ∧ g.vars.length ≤ vc ∧ g.rules.length ≤ rc) ∧ Below w.heap.size w w' := by
  refine (load_any (S s) hs w b off hv).mono ?_
  rintro e w' ⟨⟨tv, vv, rv, rfl, hg⟩, hb⟩
  rw [show (S s).data.toList = s from rfl, h] at hg ⊢
  obtain ⟨tbo, tc, rfl⟩ := own_form hg.1
  obtain ⟨vo, vc, rfl⟩ := own_form hg.2.1
  obtain ⟨N, hr⟩ := hg.2.2
  obtain ⟨ro, rc, rfl⟩ := hid_rules hr
  exact ⟨⟨tbo, vo, ro, tc, vc, rc, rfl, hg.reads, own_cap hg.2.1, hr.caps⟩, hb⟩
theorem ints_lit (w : World) (x y : Int) : IntsAt (w.alloc (.cells #[.int .i64 x, .int .i64 y] 3)) (fun _ => True) (.slice (some ⟨w.heap.size, 0, none⟩) 2 2) [x, y] := by
  have hb := Blk.new w 3 #[.int .i64 x, .int .i64 y]
  refine ⟨(by show 2 ≤ maxLen; decide), some ⟨w.heap.size, 0, none⟩, 2, rfl, fun _ => ⟨w.heap.size, rfl, hb.lt, trivial, fun k z hk => ?_⟩⟩
  refine ⟨[.int .i64 z], rfl, fun j u hj => ?_, rfl⟩
  match j, hj with
  | 0, hj =>
    cases hj
    match k, hk with
    | 0, hk => cases hk; exact hb.cell 0
    | 1, hk => cases hk; exact hb.cell 1
    | k + 2, hk => cases hk
  | j + 1, hj => cases hj
theorem told_txt {l : List UInt8} (hok : readOk l = true) {w : World} {b off : Nat} (hv : Pv w b off) : TxtTell w (readF l) (shortL l) := fun W hW => by
  obtain ⟨p1, p2⟩ := read_prn l
  have := text_any (readF l) p1 p2 W (hv.below hW).ps
  rw [read_text l hok] at this
  exact this
theorem ex_txt {w : World} {b off : Nat} (hv : Pv w b off) : ∀ r ∈ exG.rules, TxtTell w r.2.2 (exT r.2.2) := fun r hr => by
  have h0 := told_txt (l := [48]) (by decide +kernel) hv
  rw [show readF [48] = 0 by decide +kernel, show shortL [48] = [48] by decide +kernel] at h0
  have h1 := told_txt (l := [49, 46, 53]) (by decide +kernel) hv
  rw [show readF [49, 46, 53] = 4609434218613702656 by decide +kernel, show shortL [49, 46, 53] = [49, 46, 53] by decide +kernel] at h1
  rcases ex_rules r hr with rfl | rfl | rfl | rfl
  · exact h0
  · exact h1
  · exact h0
  · exact h0
theorem ex_tell {w : World} {b off : Nat} (hv : Pv w b off) : ∀ r ∈ exG.rules, WtTell w r.2.2 true := fun r hr => by
  rcases ex_rules r hr with rfl | rfl | rfl | rfl
  · exact told_tell told_zero hv
  · exact told_tell ex_told hv
  · exact told_tell told_zero hv
  · exact told_tell told_zero hv
set_option maxRecDepth 100000 in
set_option maxHeartbeats 8000000 in
theorem galive_any (w : World) (b off : Nat) (hv : Pv w b off) : Calls Tryz.prog 6 #[] w fun e w' => e = .returned (.bool true) ∧ Below w.heap.size w w' := by
  have HV := Lib.hid hv
  have hL1 := sload_any ex_load (by decide) w b off hv.vs
  have hL2 := fun w1 (h : Vs w1 b off) => sload_any ex_fault (by decide) w1 b off h
  have HL2 := Lib.hid hL2
  clear hv hL2
  have nq0 : ∀ w, (binOp BinOp.neq 29 (.agg #[.int .i64 0, .int .i64 0]) (.agg #[.int .i64 0, .int .i64 0])).run Tryz.prog w = .ok (.bool false) w := fun w => by kernel_rfl
  have nq9 : ∀ w, (binOp BinOp.neq 29 (.agg #[.int .i64 9, .int .i64 4]) (.agg #[.int .i64 9, .int .i64 4])).run Tryz.prog w = .ok (.bool false) w := fun w => by kernel_rfl
  have hS1 : S [101, 32, 61, 32, 101, 63, 32, 39, 98, 39, 32, 124, 32, 37, 49, 46, 53, 32, 39, 97, 39, 32, 59, 32] = ⟨#[101, 32, 61, 32, 101, 63, 32, 39, 98, 39, 32, 124, 32, 37, 49, 46, 53, 32, 39, 97, 39, 32, 59, 32]⟩ := rfl
  have hS2 : S [101, 32, 61, 32, 102, 32, 59] = ⟨#[101, 32, 61, 32, 102, 32, 59]⟩ := rfl
  rw [hS1, show exG.terms.length = 2 from rfl, show exG.vars.length = 2 from rfl, show exG.rules.length = 4 from rfl] at hL1
  rw [hS2, show gra0.terms.length = 0 from rfl, show gra0.vars.length = 0 from rfl, show gra0.rules.length = 0 from rfl] at HL2
  clear hS1 hS2
  go_enter Tryz.func6, Tryz.ntmps6
  go_wp2_with fail
  refine hL1.mono ?_
  rintro e w1 ⟨⟨tbo, vo, ro, tc, vc, rc, rfl, hg, hvc, hrc⟩, hb1⟩
  obtain ⟨gv, cv, ev, hgv, hcv⟩ := StrsAt.cell hg.vs (k := 1) (x := [103, 49]) rfl
  injection ev with ev j1 j2
  subst ev
  clear j1 j2
  obtain ⟨gr, cr, u0, er, hgr, _, r01, _, hu0⟩ := ERul.at hg.rs (k := 0) (r := (0, [1, -2], 0)) rfl
  injection er with er j1 j2
  subst er
  clear j1 j2
  obtain ⟨gr', cr', u1, er, _, _, _, r12, _⟩ := ERul.at hg.rs (k := 1) (r := (0, [-1], 4609434218613702656)) rfl
  injection er with er j1 j2
  injection er with er
  injection er with er
  subst er
  clear j1 j2
  obtain ⟨uo, uc, rfl⟩ := ListOf.form hu0
  have HU0 := Lib.hid hu0
  have HCV := Lib.hid hcv
  have HR01 := Lib.hid r01
  have HR12 := Lib.hid r12
  have HGV := Lib.hid hgv
  have HGR := Lib.hid hgr
  clear hu0 hcv r01 r12 hgv hgr
  have HG := Lib.hid hg
  have HB1 := Lib.hid hb1
  have HVC := Lib.hid hvc
  have HRC := Lib.hid hrc
  clear hg hb1 hL1 hvc hrc
  go_upto_region 2 with fail
  have b1 := (Blk.new w1 26 #[.slice tbo 2 tc, .slice (some ⟨gv, 0, none⟩) 2 vc, .slice (some ⟨gr, 0, none⟩) 4 rc]).alloc (.cells #[.int .i64 0, .int .i64 0] 29)
  have b2 := Blk.new (w1.alloc (.cells #[.slice tbo 2 tc, .slice (some ⟨gv, 0, none⟩) 2 vc, .slice (some ⟨gr, 0, none⟩) 4 rc] 26)) 29 #[.int .i64 0, .int .i64 0]
  rw [World.size_alloc] at b2
  have hb2 : Below w1.heap.size w1 ((w1.alloc (.cells #[.slice tbo 2 tc, .slice (some ⟨gv, 0, none⟩) 2 vc, .slice (some ⟨gr, 0, none⟩) 4 rc] 26)).alloc (.cells #[.int .i64 0, .int .i64 0] 29)) := ((Below.refl _ _).alloc (Nat.le_refl _) _).alloc (by simp) _
  generalize (w1.alloc (.cells #[.slice tbo 2 tc, .slice (some ⟨gv, 0, none⟩) 2 vc, .slice (some ⟨gr, 0, none⟩) 4 rc] 26)).alloc (.cells #[.int .i64 0, .int .i64 0] 29) = w2 at *
  have HB2 := Lib.hid (HB1.out.trans (hb2.mono HB1.out.size))
  have HB12 := Lib.hid hb2
  have HK1 := Lib.hid b1
  have HK2 := Lib.hid b2
  clear b1 b2 hb2
  go_wp2_with fail
  refine (HL2.out _ (HV.out.below HB2.out).vs).mono ?_
  rintro e w3 ⟨⟨t2, v2, r2, tc2, vc2, rc2, rfl, _, _, _⟩, hb3⟩
  have HB3 := Lib.hid hb3
  clear hb3
  go_upto_region 3 with fail
  have b4 := Blk.new (w3.alloc (.cells #[.slice t2 0 tc2, .slice v2 0 vc2, .slice r2 0 rc2] 26)) 29 #[.int .i64 9, .int .i64 4]
  rw [World.size_alloc] at b4
  have hb4 : Below w3.heap.size w3 ((w3.alloc (.cells #[.slice t2 0 tc2, .slice v2 0 vc2, .slice r2 0 rc2] 26)).alloc (.cells #[.int .i64 9, .int .i64 4] 29)) := ((Below.refl _ _).alloc (Nat.le_refl _) _).alloc (by simp) _
  generalize (w3.alloc (.cells #[.slice t2 0 tc2, .slice v2 0 vc2, .slice r2 0 rc2] 26)).alloc (.cells #[.int .i64 9, .int .i64 4] 29) = w4 at *
  have hb24 := HB3.out.trans (hb4.mono HB3.out.size)
  have k1 := HK1.out.below hb24 HK1.out.lt
  have k2 := HK2.out.below hb24 HK2.out.lt
  have hb14 := HB12.out.trans (hb24.mono HB12.out.size)
  have HG4 : Hid (GrAt w4 (fun k => k < w1.heap.size) (.slice tbo 2 tc) (.slice (some ⟨gv, 0, none⟩) 2 vc) (.slice (some ⟨gr, 0, none⟩) 4 rc) exG) := Lib.hid (HG.out.keep (fun q hq hA => ⟨hA, hb14.block q hq⟩) hb14.size)
  have HB4 := Lib.hid (HB1.out.trans (hb14.mono HB1.out.size))
  have HB14 := Lib.hid hb14
  have HZ4 := Lib.hid hb14.size
  have HQ := Lib.hid k1
  have f0 : w4.cell? ⟨w1.heap.size + 1, 0, none⟩ = some (.int .i64 0) := k2.cell 0
  have f1 : w4.cell? ⟨w1.heap.size + 1, 1, none⟩ = some (.int .i64 0) := k2.cell 1
  have h0 : w4.cell? ⟨w3.heap.size + 1, 0, none⟩ = some (.int .i64 9) := b4.cell 0
  have h1 : w4.cell? ⟨w3.heap.size + 1, 1, none⟩ = some (.int .i64 4) := b4.cell 1
  have g0 : w4.cell? ⟨w1.heap.size, 0, none⟩ = some (.slice tbo 2 tc) := k1.cell 0
  have g1 : w4.cell? ⟨w1.heap.size, 1, none⟩ = some (.slice (some ⟨gv, 0, none⟩) 2 vc) := k1.cell 1
  have g2 : w4.cell? ⟨w1.heap.size, 2, none⟩ = some (.slice (some ⟨gr, 0, none⟩) 4 rc) := k1.cell 2
  have lf := k2.lt
  have lh := b4.lt
  have lg := k1.lt
  have hru := rules_any w4 (fun k => k < w1.heap.size) tbo (some ⟨gv, 0, none⟩) (some ⟨gr, 0, none⟩) 2 tc 2 vc rc exG.rules 1 HG4.out.rs ex_sorted (by decide)
  rw [ex_from.1, ex_from.2] at hru
  have HV4 := Lib.hid (HV.out.below HB4.out)
  clear k1 k2 b4 hb4 hb24 hb14 HG HB1 HB12 HK1 HK2 HB2 HB3 HL2 HV
  go_wp2_with fail
  refine hru.mono ?_
  rintro e w5 ⟨rfl, hb5⟩
  have HB5 := Lib.hid hb5
  clear hb5 hru f0 f1 h0 h1 g0 g1 g2 lf lh lg nq0 nq9
  have kk := HQ.out.below HB5.out HQ.out.lt
  have lg := kk.lt
  have g0 : w5.cell? ⟨w1.heap.size, 0, none⟩ = some (.slice tbo 2 tc) := kk.cell 0
  have g1 : w5.cell? ⟨w1.heap.size, 1, none⟩ = some (.slice (some ⟨gv, 0, none⟩) 2 vc) := kk.cell 1
  have g2 : w5.cell? ⟨w1.heap.size, 2, none⟩ = some (.slice (some ⟨gr, 0, none⟩) 4 rc) := kk.cell 2
  clear kk
  have hcall := (by have := word_any w5 (fun k => k < w1.heap.size) tbo (some ⟨gv, 0, none⟩) (some ⟨gr, 0, none⟩) 2 tc 2 vc 4 rc exG.terms ⟨#[32, 98, 32, 97, 32]⟩ (by decide) (HG4.out.keep (fun q hq hA => ⟨hA, HB5.out.block q hq⟩) HB5.out.size).ts; rw [ex_word1] at this; exact this)
  go_wp2_with fail
  refine hcall.mono ?_
  rintro e w6 ⟨xv, rfl, hx6, hb6⟩
  have HB6 := Lib.hid (HB5.out.trans (hb6.mono HB5.out.size))
  clear hcall hb6 lg g0 g1 g2
  obtain ⟨xo, xc, rfl⟩ := own_form hx6
  have HX6 := Lib.hid hx6
  clear hx6
  have kk := HQ.out.below HB6.out HQ.out.lt
  have lg := kk.lt
  have g0 : w6.cell? ⟨w1.heap.size, 0, none⟩ = some (.slice tbo 2 tc) := kk.cell 0
  have g1 : w6.cell? ⟨w1.heap.size, 1, none⟩ = some (.slice (some ⟨gv, 0, none⟩) 2 vc) := kk.cell 1
  have g2 : w6.cell? ⟨w1.heap.size, 2, none⟩ = some (.slice (some ⟨gr, 0, none⟩) 4 rc) := kk.cell 2
  clear kk
  have hcall := (by have := word_any w6 (fun k => k < w1.heap.size) tbo (some ⟨gv, 0, none⟩) (some ⟨gr, 0, none⟩) 2 tc 2 vc 4 rc exG.terms ⟨#[98, 32, 99]⟩ (by decide) (HG4.out.keep (fun q hq hA => ⟨hA, HB6.out.block q hq⟩) HB6.out.size).ts; rw [ex_word2] at this; exact this)
  go_wp2_with fail
  refine hcall.mono ?_
  rintro e w7 ⟨yv, rfl, hy7, hb7⟩
  have HB7 := Lib.hid (HB6.out.trans (hb7.mono HB6.out.size))
  have HD7 := Lib.hid hb7
  clear hcall hb7 lg g0 g1 g2
  obtain ⟨yo, yc, rfl⟩ := own_form hy7
  clear hy7
  have HB17 := Lib.hid (HB14.out.trans (HB7.out.mono HZ4.out))
  have kk := HQ.out.below HB7.out HQ.out.lt
  have lg := kk.lt
  have g0 : w7.cell? ⟨w1.heap.size, 0, none⟩ = some (.slice tbo 2 tc) := kk.cell 0
  have g1 : w7.cell? ⟨w1.heap.size, 1, none⟩ = some (.slice (some ⟨gv, 0, none⟩) 2 vc) := kk.cell 1
  have g2 : w7.cell? ⟨w1.heap.size, 2, none⟩ = some (.slice (some ⟨gr, 0, none⟩) 4 rc) := kk.cell 2
  clear kk
  have v1 : w7.cell? ⟨gv, 1, none⟩ = some (.string (S [103, 49])) := (HB17.out.cell (p := ⟨gv, 1, none⟩) HGV.out).trans HCV.out
  have r01 : w7.cell? ⟨gr, 1, none⟩ = some (.slice uo 2 uc) := (HB17.out.cell (p := ⟨gr, 1, none⟩) HGR.out).trans HR01.out
  have hgv : gv < w7.heap.size := Nat.lt_of_lt_of_le HGV.out HB17.out.size
  have hgr : gr < w7.heap.size := Nat.lt_of_lt_of_le HGR.out HB17.out.size
  have sq1 : S [103, 49] = ⟨#[103, 49]⟩ := rfl
  rw [sq1] at v1
  have hb8 : Below w7.heap.size w7 (w7.alloc (.cells #[.int .i64 1, .int .i64 (-2)] 3)) := (Below.refl _ _).alloc (Nat.le_refl _) _
  have hsa := sameT_any (w7.alloc (.cells #[.int .i64 1, .int .i64 (-2)] 3)) (fun _ => True) (fun _ => True) (.slice uo 2 uc) (.slice (some ⟨w7.heap.size, 0, none⟩) 2 2) [1, -2] [1, -2] (HU0.out.keep keepsInt (fun q hq _ => ⟨trivial, (HB17.out.trans (hb8.mono HB17.out.size)).block q hq⟩) (Nat.le_trans HB17.out.size hb8.size)) (ints_lit w7 1 (-2))
  have hr12 : (w7.alloc (.cells #[.int .i64 1, .int .i64 (-2)] 3)).cell? ⟨gr, 5, none⟩ = some (.float .f64 4609434218613702656) := ((HB17.out.trans (hb8.mono HB17.out.size)).cell (p := ⟨gr, 5, none⟩) HGR.out).trans HR12.out
  have HB8 := Lib.hid (HB7.out.trans (hb8.mono HB7.out.size))
  have HD8 := Lib.hid (HD7.out.trans (hb8.mono HD7.out.size))
  clear hb8
  go_wp2_with fail
  refine hsa.mono ?_
  rintro e w9 ⟨rfl, nq, rfl⟩
  have HB9 : Hid (Below w4.heap.size w4 (((w7.alloc (.cells #[.int .i64 1, .int .i64 (-2)] 3))).drewN nq)) := Lib.hid (HB8.out.trans ((qt_drew (Qt.refl _) nq).below))
  have HD9 : Hid (Below w6.heap.size w6 (((w7.alloc (.cells #[.int .i64 1, .int .i64 (-2)] 3))).drewN nq)) := Lib.hid (HD8.out.trans ((qt_drew (Qt.refl _) nq).below))
  have r12 : (((w7.alloc (.cells #[.int .i64 1, .int .i64 (-2)] 3))).drewN nq).cell? ⟨gr, 5, none⟩ = some (.float .f64 4609434218613702656) := hr12
  generalize ((w7.alloc (.cells #[.int .i64 1, .int .i64 (-2)] 3))).drewN nq = w9 at *
  have hfl : (FloatKind.f64.format.order 4609434218613702656 4609434218613702656 == some Ordering.eq) = true := by decide +kernel
  have HB19 := Lib.hid (HB14.out.trans (HB9.out.mono HZ4.out))
  clear hsa hr12 v1 r01 hgv hgr lg g0 g1 g2
  have hgr : gr < w9.heap.size := Nat.lt_of_lt_of_le HGR.out HB19.out.size
  have kk := HQ.out.below HB9.out HQ.out.lt
  have lg := kk.lt
  have g0 : w9.cell? ⟨w1.heap.size, 0, none⟩ = some (.slice tbo 2 tc) := kk.cell 0
  have g1 : w9.cell? ⟨w1.heap.size, 1, none⟩ = some (.slice (some ⟨gv, 0, none⟩) 2 vc) := kk.cell 1
  have g2 : w9.cell? ⟨w1.heap.size, 2, none⟩ = some (.slice (some ⟨gr, 0, none⟩) 4 rc) := kk.cell 2
  clear kk
  have hpr := print_any w9 w1.heap.size tbo (some ⟨gv, 0, none⟩) (some ⟨gr, 0, none⟩) tc vc rc exG exT (HG4.out.keep (w' := w9) (A' := fun k => k < w1.heap.size) (fun q hq hA => ⟨hA, HB9.out.block q hq⟩) HB9.out.size) (Nat.le_trans HZ4.out HB9.out.size) ex_pr (ex_txt (HV4.out.below HB9.out))
  rw [ex_print, show exG.terms.length = 2 from rfl, show exG.vars.length = 2 from rfl, show exG.rules.length = 4 from rfl] at hpr
  have sq2 : S [101, 32, 61, 32, 103, 49, 32, 39, 98, 39, 32, 124, 32, 37, 49, 46, 53, 32, 39, 97, 39, 32, 59, 10, 103, 49, 32, 61, 32, 101, 32, 124, 32, 59, 10] = ⟨#[101, 32, 61, 32, 103, 49, 32, 39, 98, 39, 32, 124, 32, 37, 49, 46, 53, 32, 39, 97, 39, 32, 59, 10, 103, 49, 32, 61, 32, 101, 32, 124, 32, 59, 10]⟩ := rfl
  rw [sq2] at hpr
  clear sq1 sq2
  go_wp2_with fail
  refine hpr.mono ?_
  rintro e w10 ⟨rfl, hb10⟩
  have HB10 := Lib.hid (HB9.out.trans (hb10.mono HB9.out.size))
  have HD10 := Lib.hid (HD9.out.trans (hb10.mono HD9.out.size))
  clear hpr hb10 r12 hgr hfl lg g0 g1 g2
  have kk := HQ.out.below HB10.out HQ.out.lt
  have lg := kk.lt
  have g0 : w10.cell? ⟨w1.heap.size, 0, none⟩ = some (.slice tbo 2 tc) := kk.cell 0
  have g1 : w10.cell? ⟨w1.heap.size, 1, none⟩ = some (.slice (some ⟨gv, 0, none⟩) 2 vc) := kk.cell 1
  have g2 : w10.cell? ⟨w1.heap.size, 2, none⟩ = some (.slice (some ⟨gr, 0, none⟩) 4 rc) := kk.cell 2
  clear kk
  have hri := right_any w10 (fun k => k < w1.heap.size) tbo (some ⟨gv, 0, none⟩) (some ⟨gr, 0, none⟩) tc vc rc exG (fun _ => true) (HG4.out.keep (w' := w10) (A' := fun k => k < w1.heap.size) (fun q hq hA => ⟨hA, HB10.out.block q hq⟩) HB10.out.size) HVC.out HRC.out ex_in64 (fun x hx => by have := ex_pr.vars x hx; unfold maxLen; omega) (fun x hx => by have := ex_pr.terms x hx; unfold maxLen; omega) (ex_tell (HV4.out.below HB10.out))
  rw [show exG.terms.length = 2 from rfl, show exG.vars.length = 2 from rfl, show exG.rules.length = 4 from rfl] at hri
  go_wp2_with fail
  refine hri.mono ?_
  rintro e w11 ⟨⟨D, rfl, hD⟩, hb11⟩
  obtain rfl : D = true := hD.2 ex_right
  have HB11 := Lib.hid (HB10.out.trans (hb11.mono HB10.out.size))
  have HD11 := Lib.hid (HD10.out.trans (hb11.mono HD10.out.size))
  clear hri hb11 hD lg g0 g1 g2
  have hrz := right_any w11 (fun k => k < w1.heap.size) none none none 0 0 0 gra0 (fun _ => true) ⟨ListOf.nil _ _, ListOf.nil _ _, ListOf.nil _ _⟩ (Nat.le_refl _) (Nat.le_refl _) (fun r hr => by cases hr) (fun x hx => by cases hx) (fun x hx => by cases hx) (fun r hr => by cases hr)
  rw [show gra0.terms.length = 0 from rfl, show gra0.vars.length = 0 from rfl, show gra0.rules.length = 0 from rfl] at hrz
  go_wp2_with fail
  refine hrz.mono ?_
  rintro e w12 ⟨⟨D, rfl, hD⟩, hb12⟩
  obtain rfl : D = false := by cases D with
    | false => rfl
    | true => exact absurd (hD.1 rfl) no_right
  have HB12 := Lib.hid (HB11.out.trans (hb12.mono HB11.out.size))
  have HD12 := Lib.hid (HD11.out.trans (hb12.mono HD11.out.size))
  clear hrz hb12 hD
  have kk := HQ.out.below HB12.out HQ.out.lt
  have lg := kk.lt
  have g0 : w12.cell? ⟨w1.heap.size, 0, none⟩ = some (.slice tbo 2 tc) := kk.cell 0
  have g1 : w12.cell? ⟨w1.heap.size, 1, none⟩ = some (.slice (some ⟨gv, 0, none⟩) 2 vc) := kk.cell 1
  have g2 : w12.cell? ⟨w1.heap.size, 2, none⟩ = some (.slice (some ⟨gr, 0, none⟩) 4 rc) := kk.cell 2
  clear kk
  have hsg := gsame_any w12 (fun k => k < w1.heap.size) (fun k => k < w1.heap.size) tbo (some ⟨gv, 0, none⟩) (some ⟨gr, 0, none⟩) tbo (some ⟨gv, 0, none⟩) (some ⟨gr, 0, none⟩) tc vc rc tc vc rc exG exG (HG4.out.keep (w' := w12) (A' := fun k => k < w1.heap.size) (fun q hq hA => ⟨hA, HB12.out.block q hq⟩) HB12.out.size) (HG4.out.keep (w' := w12) (A' := fun k => k < w1.heap.size) (fun q hq hA => ⟨hA, HB12.out.block q hq⟩) HB12.out.size) ex_wt ex_wt
  rw [show exG.terms.length = 2 from rfl, show exG.vars.length = 2 from rfl, show exG.rules.length = 4 from rfl] at hsg
  go_wp2_with fail
  refine hsg.mono ?_
  rintro e w13 ⟨⟨D, rfl, hD⟩, hb13⟩
  obtain rfl : D = true := hD.2 ex_same
  have HB13 := Lib.hid (HB12.out.trans (hb13.mono HB12.out.size))
  have HD13 := Lib.hid (HD12.out.trans (hb13.mono HD12.out.size))
  clear hsg hb13 hD lg g0 g1 g2
  have kk := HQ.out.below HB13.out HQ.out.lt
  have lg := kk.lt
  have g0 : w13.cell? ⟨w1.heap.size, 0, none⟩ = some (.slice tbo 2 tc) := kk.cell 0
  have g1 : w13.cell? ⟨w1.heap.size, 1, none⟩ = some (.slice (some ⟨gv, 0, none⟩) 2 vc) := kk.cell 1
  have g2 : w13.cell? ⟨w1.heap.size, 2, none⟩ = some (.slice (some ⟨gr, 0, none⟩) 4 rc) := kk.cell 2
  clear kk
  have hnm := gname_any w13 (fun k => k < w1.heap.size) tbo (some ⟨gv, 0, none⟩) (some ⟨gr, 0, none⟩) tc vc 4 rc exG (-1) (HG4.out.keep (w' := w13) (A' := fun k => k < w1.heap.size) (fun q hq hA => ⟨hA, HB13.out.block q hq⟩) HB13.out.size).vs (HG4.out.keep (w' := w13) (A' := fun k => k < w1.heap.size) (fun q hq hA => ⟨hA, HB13.out.block q hq⟩) HB13.out.size).ts (by unfold In64x; decide) (by decide) (fun x hx => by have := ex_pr.terms x hx; omega)
  rw [ex_name, show exG.terms.length = 2 from rfl, show exG.vars.length = 2 from rfl] at hnm
  have sq3 : S [39, 97, 39] = ⟨#[39, 97, 39]⟩ := rfl
  rw [sq3] at hnm
  clear sq3
  go_wp2_with fail
  refine hnm.mono ?_
  rintro e w14 ⟨rfl, hb14⟩
  have HBE := Lib.hid (HB13.out.trans (hb14.mono HB13.out.size))
  have HDE := Lib.hid (HD13.out.trans (hb14.mono HD13.out.size))
  clear hnm hb14 lg g0 g1 g2
  have i0 : ∀ w, Calls Tryz.prog 20 #[.int .i64 0] w fun e w' => e = .returned (.bool true) ∧ w' = w := fun w => isVar_any 0 w
  have i1 : ∀ w, Calls Tryz.prog 20 #[.int .i64 (-1)] w fun e w' => e = .returned (.bool false) ∧ w' = w := fun w => isVar_any (-1) w
  go_wp2_with fail
  refine (i0 _).mono ?_
  rintro e wx ⟨rfl, rfl⟩
  go_wp2_with fail
  refine (i1 _).mono ?_
  rintro e wy ⟨rfl, rfl⟩
  have hbx : Below wy.heap.size wy (wy.alloc (.cells #[.int .i64 1, .int .i64 0] 3)) := (Below.refl _ _).alloc (Nat.le_refl _) _
  have hdx := HDE.out.trans (hbx.mono HDE.out.size)
  have hix : IntsAt w6 (fun _ => True) (.slice xo 2 xc) [1, 0] := ints_of HX6.out
  have hsx := sameT_any (wy.alloc (.cells #[.int .i64 1, .int .i64 0] 3)) (fun _ => True) (fun _ => True) (.slice xo 2 xc) (.slice (some ⟨wy.heap.size, 0, none⟩) 2 2) [1, 0] [1, 0] (hix.keep keepsInt (fun q hq hA => ⟨hA, hdx.block q hq⟩) hdx.size) (ints_lit wy 1 0)
  have HBZ := Lib.hid (HB4.out.trans ((HBE.out.trans (hbx.mono HBE.out.size)).mono HB4.out.size))
  clear hbx hdx hix
  go_wp2_with fail
  refine hsx.mono ?_
  rintro e wz ⟨rfl, nq, rfl⟩
  clear hsx
  go_wp2_with fail
  go_ret
  exact ⟨rfl, HBZ.out.trans ((qt_drew (Qt.refl _) nq).below)⟩
end Go.Proofs.YtldamieigigncaaGreatDoor.lx

namespace Go.Proofs.YtldamieigigncaaGreatDoor.lx
open Go.ChangeShapes Go.WideShapes Go.ChangeAt Go.RowKit
set_option linter.unusedVariables false
open Go.Lib Go.Deep
theorem g5 : Tryz.prog.globalNamed "internal/strconv.optimize" = some 1 := by kernel_rfl
theorem g6 : Tryz.prog.globalNamed "internal/strconv.float64info" = some 9 := by kernel_rfl
theorem g9 : Tryz.prog.globalNamed "internal/strconv.float64pow10" = some 12 := by kernel_rfl
theorem y5 : (Tryz.prog.globals[1]?).map (·.type) = some 4 := by kernel_rfl
theorem y6 : (Tryz.prog.globals[9]?).map (·.type) = some 301 := by kernel_rfl
theorem y9 : (Tryz.prog.globals[12]?).map (·.type) = some 320 := by kernel_rfl
theorem v5 {W : World} (h : VarReads Tryz.prog W "internal/strconv.optimize" Rows.laid_internal_strconv_optimize) : W.cell? ⟨1, 0, none⟩ = some (.bool true) := by
  obtain ⟨g, t, cs, fuel, p, hg, ht, hv, hd⟩ := h
  obtain rfl := Option.some.inj (g5.symm.trans hg)
  obtain rfl := Option.some.inj (y5.symm.trans ht)
  obtain ⟨b, e1, e2⟩ := DataW.trod_bool Tryz.underlying4 hd
  have hb : b = true := by
    have := congrArg Prod.fst e2
    simpa [Rows.laid_internal_strconv_optimize] using this.symm
  subst hb
  have := World.var?_cell g5 hv 0
  rw [Array.eq_one_of_toList e1] at this
  simpa using this
theorem cu : Tryz.prog.cellsOf 147 = 1 := by kernel_rfl
theorem cf : Tryz.prog.cellsOf 36 = 1 := by kernel_rfl
theorem v6 {W : World} (h : VarReads Tryz.prog W "internal/strconv.float64info" Rows.laid_internal_strconv_float64info) : W.cell? ⟨9, 0, none⟩ = some (.int .u64 52) := by
  obtain ⟨g, t, cs, fuel, p, hg, ht, hv, hd⟩ := h
  obtain rfl := Option.some.inj (g6.symm.trans hg)
  obtain rfl := Option.some.inj (y6.symm.trans ht)
  obtain ⟨a0, a1, a2, n, e1, e2, e3, e4, e5⟩ := trod_struct3 Tryz.underlying301 hd
  have e1' := congrArg Prod.fst e1
  simp only [Rows.laid_internal_strconv_float64info, DataW.agg.injEq, List.cons.injEq, and_true] at e1'
  obtain ⟨k, f1, f2, _⟩ := DataW.trod_int Tryz.underlying147 (show DataW.trod _ Tryz.prog W 0 _ false n 147 _ = some a0 from e3)
  have hk : k = 52 := by
    rw [f2] at e1'
    simpa using e1'.1.symm
  subst hk
  have := World.var?_cell g6 hv 0
  rw [cu] at f1
  have r0 := congrArg (fun l => l[0]?) f1
  simp at r0
  rw [this]; simpa using r0
theorem trod_float1 {P : Program} {W : World} {t : TypeId} {k : FloatKind} {n : Nat} {v : Value} {b : Nat} {p : List MemPlace} (ht : P.underlying t = some (.float k)) (h : DataW.trod (fun _ => ()) P W 0 (fun _ => true) false n t [v] = some (.lit (.float k b), p)) : v = .float k b := by
  cases n with
  | zero => simp [DataW.trod] at h
  | succ n =>
    simp only [DataW.trod, ht] at h
    cases v <;> simp at h
    simp_all
theorem pw : ∀ k, k ≤ 6 → [4607182418800017408, 4621819117588971520, 4636737291354636288, 4652007308841189376, 4666723172467343360, 4681608360884174848, 4696837146684686336].getD k 0 = Ieee.double.nearest false (10 ^ k) 0 := by decide +kernel
set_option maxRecDepth 100000 in
theorem v9 {W : World} (h : VarReads Tryz.prog W "internal/strconv.float64pow10" Rows.laid_internal_strconv_float64pow10) : ∃ b off, W.cell? ⟨12, 0, none⟩ = some (.slice (some ⟨b, off, none⟩) 23 23) ∧ ∀ k, k ≤ 6 → W.cell? ⟨b, off + k, none⟩ = some (.float .f64 (Ieee.double.nearest false (10 ^ k) 0)) := by
  obtain ⟨g, t, cs, fuel, p, hg, ht, hv, hd⟩ := h
  obtain rfl := Option.some.inj (g9.symm.trans hg)
  obtain rfl := Option.some.inj (y9.symm.trans ht)
  rcases open_slice1 Tryz.underlying320 cf hd with ⟨_, hx⟩ | ⟨a, len, cap, m, n, V, D, Pl, e1, _, hl, _, hm, hx, hc⟩
  · simp [Rows.laid_internal_strconv_float64pow10] at hx
  · have hm' : m = cap := by simpa using hm
    subst hm'
    have e2 := congrArg Prod.fst hx
    simp only [Rows.laid_internal_strconv_float64pow10, DataW.slice.injEq] at e2
    have l1 := congrArg List.length e2.1
    have l2 := congrArg List.length e2.2
    simp at l1 l2
    obtain rfl : len = 23 := by omega
    obtain rfl : m = 23 := by omega
    obtain ⟨b, off, spot⟩ := a
    have hspot : spot = none := by simpa [Addr.add] using World.cell?_spot (hc 0 (by omega)).1
    subst hspot
    refine ⟨b, off, ?_, fun k hk => ?_⟩
    · have := World.var?_cell g9 hv 0
      rw [Array.eq_one_of_toList e1] at this
      simpa using this
    · rw [← pw k hk]
      have hk2 : k = 0 ∨ k = 1 ∨ k = 2 ∨ k = 3 ∨ k = 4 ∨ k = 5 ∨ k = 6 := by omega
      rcases hk2 with rfl | rfl | rfl | rfl | rfl | rfl | rfl
      all_goals
        clear hk
      · obtain ⟨h1, h2⟩ := hc 0 (by omega)
        have e3 := congrArg (fun l => l[0]?) e2.1
        simp at e3
        rw [← e3] at h2
        rw [trod_float1 Tryz.underlying36 h2] at h1
        simpa [Go.WideShapes.add_plain] using h1
      · obtain ⟨h1, h2⟩ := hc 1 (by omega)
        have e3 := congrArg (fun l => l[1]?) e2.1
        simp at e3
        rw [← e3] at h2
        rw [trod_float1 Tryz.underlying36 h2] at h1
        simpa [Go.WideShapes.add_plain] using h1
      · obtain ⟨h1, h2⟩ := hc 2 (by omega)
        have e3 := congrArg (fun l => l[2]?) e2.1
        simp at e3
        rw [← e3] at h2
        rw [trod_float1 Tryz.underlying36 h2] at h1
        simpa [Go.WideShapes.add_plain] using h1
      · obtain ⟨h1, h2⟩ := hc 3 (by omega)
        have e3 := congrArg (fun l => l[3]?) e2.1
        simp at e3
        rw [← e3] at h2
        rw [trod_float1 Tryz.underlying36 h2] at h1
        simpa [Go.WideShapes.add_plain] using h1
      · obtain ⟨h1, h2⟩ := hc 4 (by omega)
        have e3 := congrArg (fun l => l[4]?) e2.1
        simp at e3
        rw [← e3] at h2
        rw [trod_float1 Tryz.underlying36 h2] at h1
        simpa [Go.WideShapes.add_plain] using h1
      · obtain ⟨h1, h2⟩ := hc 5 (by omega)
        have e3 := congrArg (fun l => l[5]?) e2.1
        simp at e3
        rw [← e3] at h2
        rw [trod_float1 Tryz.underlying36 h2] at h1
        simpa [Go.WideShapes.add_plain] using h1
      · obtain ⟨h1, h2⟩ := hc 6 (by omega)
        have e3 := congrArg (fun l => l[6]?) e2.1
        simp at e3
        rw [← e3] at h2
        rw [trod_float1 Tryz.underlying36 h2] at h1
        simpa [Go.WideShapes.add_plain] using h1
theorem vs_of {W : World} (h5 : VarReads Tryz.prog W "internal/strconv.optimize" Rows.laid_internal_strconv_optimize) (h6 : VarReads Tryz.prog W "internal/strconv.float64info" Rows.laid_internal_strconv_float64info) (h9 : VarReads Tryz.prog W "internal/strconv.float64pow10" Rows.laid_internal_strconv_float64pow10) : ∃ b off, Vs W b off := by
  obtain ⟨b, off, h1, h2⟩ := v9 h9
  exact ⟨b, off, v5 h5, v6 h6, h1, h2⟩
end Go.Proofs.YtldamieigigncaaGreatDoor.lx


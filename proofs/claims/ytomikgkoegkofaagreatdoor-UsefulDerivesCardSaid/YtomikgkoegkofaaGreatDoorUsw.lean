import Derived.Maps.OwnIn
import Derived.Maps.AppendAt
import Derived.Test.YtomikgkoegkofaaGreatDoorUsv
namespace Go.Proofs.YtomikgkoegkofaaGreatDoor.dv
open Go.ChangeShapes Go.WideShapes Go.ChangeAt Go.RowKit Go.Maps Go.WideMaps Go.WideElems Go.Shelf
set_option linter.unusedVariables false
set_option linter.unusedSimpArgs false
attribute [local go_sem] Oper.semAt_some
/-! Shortest -/
set_option maxRecDepth 100000 in
set_option maxHeartbeats 4000000 in
theorem shortest_any (w : World) (B : Nat) (ta va : Option Addr) (tl tc vl vc : Nat) (rv : Value) (R : List Rl) (v : Int) (hR : RulesAt B w rv R) (hB : B ≤ w.heap.size) (hl : ∀ r ∈ R, 0 ≤ r.left ∧ r.left < vl) (hv : vl ≤ 1000) (h8 : ∀ r ∈ R, r.right.length ≤ 8) :
    Calls Tryz.prog 19 #[.agg #[.slice ta tl tc, .slice va vl vc, rv], .int .i64 v] w fun e w' => ∃ S u b, e = .returned (.tuple #[u, .bool b]) ∧ Inv R vl S ∧ Done R S ∧ Below w.heap.size w w' ∧
      (b = true → 0 ≤ v ∧ v < vl ∧ (S.getD v.toNat noW).2.1 ≤ 4096 ∧ ∃ ks, Exps R S [v] ks ∧ w'.ownsRow w.heap.size 3 1 u ks.length (IV ks)) ∧ (b = false → u = .slice none 0 0 ∧ (0 ≤ v → v < vl → 4096 < (S.getD v.toNat noW).2.1)) := by
  obtain ⟨ra, rc, rfl, hn, _⟩ := id hR
  have b0 := Blk.new w 25 #[.slice ta tl tc, .slice va vl vc, .slice ra R.length rc]
  have hbl : Below w.heap.size w (w.alloc (.cells #[.slice ta tl tc, .slice va vl vc, .slice ra R.length rc] 25)) := (Below.refl _ w).alloc (Nat.le_refl _) _
  have hwy := ways_any (w.alloc (.cells #[.slice ta tl tc, .slice va vl vc, .slice ra R.length rc] 25)) B ta va tl tc vl vc (.slice ra R.length rc) R (hR.far (hbl.mono hB)) (by rw [World.size_alloc]; omega) hl hv
  have HR := Lib.hid hR
  have HL := Lib.hid hl
  have HB0 := Lib.hid b0
  have HBL := Lib.hid hbl
  have H8 := Lib.hid h8
  have c0 := b0.cell 0
  have c1 := b0.cell 1
  have c2 := b0.cell 2
  simp only [List.getElem?_toArray, List.getElem?_cons_zero, List.getElem?_cons_succ] at c0 c1 c2
  clear hR hl b0 hbl h8
  refine (callsIn_wide (n := 3)).1 ?_
  refine callsIn_of_wp_marks Tryz.func19 rfl trivial ?_ rfl
  simp only [Tryz.ntmps19, List.size_toArray, List.length_cons, List.length_nil, Nat.reduceAdd, Nat.reduceSub, Array.replicate_succ, Array.replicate_zero, List.push_toArray, List.append_toArray, List.nil_append, List.cons_append]
  gi_wp2_with (refine ⟨trivial, ?_⟩; gi_at_call 31; refine (callsIn_wide.2 hwy).mono ?_; rintro e w1 ⟨lv, m, S, rfl, hWS, hI, hDn, hb1⟩; have hb1w : Below w.heap.size w w1 := HBL.out.trans (hb1.mono (by simp)); have bg := HB0.out.below hb1 (by simp); have g0 := bg.cell 0; have g1 := bg.cell 1; have g2 := bg.cell 2; simp only [List.getElem?_toArray, List.getElem?_cons_zero, List.getElem?_cons_succ] at g0 g1 g2; have hva := isVarOf_any w1 ta va ra tl tc vl vc R.length rc v; have HWS := Lib.hid hWS; obtain ⟨⟨cap, rfl⟩, _⟩ := hWS; have HI := Lib.hid hI; have HDN := Lib.hid hDn; have HB1 := Lib.hid hb1w; have HBG := Lib.hid bg; clear hb1w hI hDn c0 c1 c2 hwy bg)
  by_cases hok : 0 ≤ v ∧ v < vl
  · rw [decide_eq_true hok.1, decide_eq_true hok.2] at hva
    obtain ⟨k, rfl⟩ : ∃ k : Nat, v = k := ⟨v.toNat, by omega⟩
    have hkl : k < vl := by omega
    have hkS : k < S.length := by rw [HI.out.len]; exact hkl
    have hk2 : (k : Int) < (S.length : Int) := by omega
    have hk0 : (0 : Int) ≤ (k : Int) := by omega
    obtain ⟨q0, q1, q2⟩ := ways_cell HWS.out.2 k hkS
    have hmlt := ways_lt HWS.out
    have qa : ∀ o, (w1.alloc o).cell? ⟨m, k * 3 + 1, none⟩ = some (.int .i64 ((S.getD k noW).2.1 : Int)) := fun o => (World.cell?_alloc_lt w1 o ⟨m, k * 3 + 1, none⟩ hmlt).trans q1
    have HVA := Lib.hid hva
    clear hva q0 q1 q2
    obtain ⟨st, hste⟩ : ∃ st, st = (S.getD k noW).2.1 := ⟨_, rfl⟩
    rw [← hste] at qa
    have HSTE := Lib.hid hste
    clear hste
    by_cases hst : st ≤ 4096
    · have hgt : decide ((4096 : Int) < (st : Int)) = false := decide_eq_false (by omega)
      have hgt2 : decide (4096 < st) = false := decide_eq_false (by omega)
      gi_wp2_with (refine ⟨trivial, ?_⟩; gi_at_call 45; refine (callsIn_wide.2 HVA.out).mono ?_; rintro e w2 ⟨rfl, o2, rfl⟩)
      have hz1 : w.heap.size < w1.heap.size := HBG.out.lt
      refine wpIn_wide.2 ?_
      have HST := Lib.hid hst
      have hw2 : Below w.heap.size w (w1.alloc o2) := HB1.out.alloc HB1.out.size _
      have hsh0 : Sh w.heap.size w S #[.slice ta tl tc, .slice va vl vc, .slice ra R.length rc] m (.slice (some ⟨m, 0, none⟩) S.length cap) (w1.heap.size + 1 + 1) [] [(k : Int)] [] (.slice (some ⟨w1.heap.size + 1, 0, none⟩) 1 1) (.slice none 0 0) (((w1.alloc o2).alloc (.cells #[.int .i64 k] 3)).alloc (.cells #[.slice (some ⟨w1.heap.size + 1, 0, none⟩) 1 1] 28)) := by
        have hrow : ((w1.alloc o2).alloc (.cells #[.int .i64 k] 3)).ownsRow w.heap.size 3 1 (.slice (some ⟨w1.heap.size + 1, 0, none⟩) 1 1) 1 [.int .i64 k] := by
          have := World.ownsRow_lit (base := w.heap.size) (e := 3) (size := 1) (w1.alloc o2) #[.int .i64 k] 1 (by rw [World.size_alloc]; omega) (by decide) rfl
          rwa [World.size_alloc] at this
        have hbx : Blk (((w1.alloc o2).alloc (.cells #[.int .i64 k] 3)).alloc (.cells #[.slice (some ⟨w1.heap.size + 1, 0, none⟩) 1 1] 28)) (w1.heap.size + 1 + 1) 28 #[.slice (some ⟨w1.heap.size + 1, 0, none⟩) 1 1] := by
          have := Blk.new ((w1.alloc o2).alloc (.cells #[.int .i64 k] 3)) 28 #[.slice (some ⟨w1.heap.size + 1, 0, none⟩) 1 1]
          rwa [World.size_alloc, World.size_alloc] at this
        exact ⟨hbx, by omega, hrow.alloc _, World.ownsRow_nil _ _ _ _, .inl rfl, ways_alloc (ways_alloc (ways_alloc (ways_weak HWS.out (by simp)) _) _) _, ((HBG.out.alloc _).alloc _).alloc _, (hw2.alloc hw2.size _).alloc (by rw [World.size_alloc]; have := hw2.size; omega) _, List.nodup_nil, fun D hD => by cases hD⟩
      have HSH0 := Lib.hid hsh0
      have hgood : GoodT R S [(k : Int)] := fun s hs h0 => by
        obtain rfl : s = (k : Int) := by simpa using hs
        rw [Int.toNat_natCast]
        refine ⟨hkS, ?_⟩
        rcases HI.out.form k with he | ⟨_, k', r, e1, e2, _⟩
        · have h1 := HSTE.out
          rw [he] at h1
          have h2 := HST.out
          unfold noW Far at h1
          simp only at h1
          omega
        · exact ⟨k', r, e1, e2⟩
      have hm0 : todoM S [(k : Int)] ≤ 65537 := by
        have h1 := HSTE.out
        have h2 := HST.out
        unfold todoM sS
        simp only [List.map_cons, List.map_nil, List.sum_cons, List.sum_nil, List.length_cons, List.length_nil, wat_var (show (0 : Int) ≤ (k : Int) by omega), Int.toNat_natCast, ← h1]
        omega
      have HG0 := Lib.hid hgood
      have HM0 := Lib.hid hm0
      clear hsh0 hgood hm0 hst hgt hgt2 g0 g1 g2 qa
      obtain ⟨INV, hINV⟩ : ∃ I : Act → World → Prop, ∀ a W, I a W ↔ (fun a W => ∃ (ds : List Nat) (u7 u9 u10 u11 u28 u29 u30 u31 u32 u33 u34 u35 u36 u37 u38 u39 u40 u41 u42 u43 u44 u45 u46 u47 u48 u49 u50 u51 u52 u53 u54 u55 u56 u57 u58 u59 u60 u61 u62 u63 u64 u65 u66 u67 u68 : Value), a = { tmps := #[.agg #[.slice ta tl tc, .slice va vl vc, .slice ra R.length rc], .int .i64 k, .pointer (some ⟨w.heap.size, 0, none⟩), undef, .slice none 0 0, .bool false, .slice (some ⟨m, 0, none⟩) S.length cap, u7, .pointer (some ⟨w1.heap.size + 1 + 1, 0, none⟩), u9, u10, u11, .agg #[.slice ta tl tc, .slice va vl vc, .slice ra R.length rc], .slice (some ⟨m, 0, none⟩) S.length cap, .agg #[.slice ta tl tc, .slice va vl vc, .slice ra R.length rc], .int .i64 k, .bool true, .bool false, .bool false, .slice (some ⟨m, 0, none⟩) S.length cap, .int .i64 k, .pointer (some ⟨m, k * 3, none⟩), .pointer (some ⟨m, k * 3 + 1, none⟩), .int .i64 st, .bool false, .bool false, .int .i64 k, .slice (some ⟨w1.heap.size + 1, 0, none⟩) 1 1, u28, u29, u30, u31, u32, u33, u34, u35, u36, u37, u38, u39, u40, u41, u42, u43, u44, u45, u46, u47, u48, u49, u50, u51, u52, u53, u54, u55, u56, u57, u58, u59, u60, u61, u62, u63, u64, u65, u66, u67, u68, undef], defers := ds.map mkD } ∧ ∃ T ks tv, Sh w.heap.size w S #[.slice ta tl tc, .slice va vl vc, .slice ra R.length rc] m (.slice (some ⟨m, 0, none⟩) S.length cap) (w1.heap.size + 1 + 1) ds T ks tv u7 W ∧ GoodT R S T ∧ ks.length + todoM S T.reverse ≤ 65537 ∧ (∀ l, Exps R S T.reverse l → Exps R S [(k : Int)] (ks ++ l))) a W := ⟨_, fun _ _ => Iff.rfl⟩
      have HIN := Lib.hid hINV
      obtain ⟨MU, hMU⟩ : ∃ M : World → Nat, ∀ (T : List Int) (W : World), TodoAt w.heap.size (w1.heap.size + 1 + 1) T W → M W = todoM S T.reverse := ⟨muW (TodoAt w.heap.size (w1.heap.size + 1 + 1)) (fun T => todoM S T.reverse), fun T W h => muW_eq (fun X Y W h k => todo_fun X Y W h k) h⟩
      have HMU := Lib.hid hMU
      clear hINV hMU
      refine wp_loop INV (fun _ W => MU W) ?_ ?_
      · refine (HIN.out _ _).2 ?_
        (repeat apply Exists.intro)
        exact ⟨(rfl : _ = Act.mk _ (List.map mkD [])), [(k : Int)], [], _, HSH0.out, HG0.out, by simpa using HM0.out, fun l hl => hl⟩
      · intro a W hinv
        obtain ⟨ds, u7, u9, u10, u11, u28, u29, u30, u31, u32, u33, u34, u35, u36, u37, u38, u39, u40, u41, u42, u43, u44, u45, u46, u47, u48, u49, u50, u51, u52, u53, u54, u55, u56, u57, u58, u59, u60, u61, u62, u63, u64, u65, u66, u67, u68, rfl, T, ks, tv, hsh, hg, hm, hx⟩ := (HIN.out _ _).1 hinv
        have HSH := Lib.hid hsh
        have HG := Lib.hid hg
        have HM := Lib.hid hm
        have HX := Lib.hid hx
        have hbx := hsh.box
        have q0 := hbx.cell 0
        simp only [List.getElem?_toArray, List.getElem?_cons_zero] at q0
        have HMT := Lib.hid (HMU.out T W ⟨tv, hsh.box, hsh.todo⟩)
        clear hsh hg hm hx hinv
        rcases List.eq_nil_or_concat T with rfl | ⟨T0, s, hT⟩
        · have HZ : Hid (∀ W' : World, (W'.ownsRow w.heap.size 3 1 u7 ks.length (IV ks) ∧ Below w.heap.size w W') → ∃ S u b, Ending.returned (.tuple #[u7, .bool true]) = .returned (.tuple #[u, .bool b]) ∧ Inv R vl S ∧ Done R S ∧ Below w.heap.size w W' ∧ (b = true → 0 ≤ (k : Int) ∧ (k : Int) < vl ∧ (S.getD (k : Int).toNat noW).2.1 ≤ 4096 ∧ ∃ ks, Exps R S [(k : Int)] ks ∧ W'.ownsRow w.heap.size 3 1 u ks.length (IV ks)) ∧ (b = false → u = .slice none 0 0 ∧ (0 ≤ (k : Int) → (k : Int) < vl → 4096 < (S.getD (k : Int).toNat noW).2.1))) := Lib.hid (fun W' hz => by
            have hx := HX.out [] Exps.nil
            rw [List.append_nil] at hx
            exact ⟨S, u7, true, rfl, HI.out, HDN.out, hz.2, fun _ => ⟨by omega, by omega, by rw [Int.toNat_natCast, ← HSTE.out]; exact HST.out, ks, hx, hz.1⟩, fun h => by cases h⟩)
          have htv : tv = .slice none 0 0 ∨ ∃ g cap2, tv = .slice (some ⟨g, 0, none⟩) 0 cap2 := by
            rcases HSH.out.todo.2 with ⟨e, _⟩ | ⟨g, c, cur, e, _⟩
            · exact .inl e
            · exact .inr ⟨g, c, e⟩
          clear HMT HMU HIN HM HG HG0 HM0 HSH0 HVA
          rcases htv with rfl | ⟨g, cap2, rfl⟩
          all_goals
            go_wp2
            gi_wp2
            refine leaves_all (by intro h; cases h) w.heap.size (fun W' => W'.ownsRow w.heap.size 3 1 u7 ks.length (IV ks) ∧ Below w.heap.size w W') (fun W' D o' hz h0 hD => ⟨own_grown hz.1 (grownBy_putObj' W' D o') (row_noncells hz.1 (fun r e => by cases e; exact ⟨_, hD, rfl⟩)), hz.2.grown (grownBy_putObj' W' D o') hz.2.size (fun r e => by cases e; exact h0)⟩) (fun W' hz => ?_) ds _ ⟨HSH.out.rows, HSH.out.below⟩ HSH.out.marks
            exact ⟨.tuple #[u7, .bool true], by simp [results, Tryz.results19, go_sem], HZ.out W' hz⟩
        · rw [List.concat_eq_append] at hT
          subst hT
          clear q0
          have hsh := HSH.out
          have hlen : (T0 ++ [s]).length = T0.length + 1 := by simp
          have htd := hsh.todo
          rw [hlen] at htd
          obtain ⟨g, cap2, rfl, hgB, hgl⟩ := World.ownsRow.form htd (Nat.succ_pos _)
          obtain ⟨n, hn⟩ : ∃ n, n = T0.length := ⟨_, rfl⟩
          rw [← hn] at htd hbx
          have hcs : W.cell? ⟨g, n, none⟩ = some (.int .i64 s) := by
            rw [htd.cellAt n (by omega)]
            simp [IV, hn]
          obtain ⟨_, hc1, hc2⟩ := row_lt htd
          have hpop := own_pop (by simpa [IV_snoc] using htd) (show (IV T0).length = n by simp [IV, hn])
          have hsh1 := hsh.put (T2 := T0) (tv2 := .slice (some ⟨g, 0, none⟩) n cap2) (by rw [← hn]; exact hpop) hsh.apart
          have HSH1 := Lib.hid hsh1
          have hmx : n + 1 ≤ 9223372036854775807 := by unfold maxLen at hc2; omega
          have hw1' : IntKind.i64.wrap (((n + 1 : Nat) : Int) - 1) = (n : Int) := by rw [IntKind.wrap_i64]; omega
          have hf0 := hbx.frozen 0
          have q0 := hbx.cell 0
          simp only [List.getElem?_toArray, List.getElem?_cons_zero] at q0
          have hit := fun U => isTerm_any U s
          have hMT : MU W = todoM S (s :: T0.reverse) := by have := HMT.out; simpa using this
          have HMT2 := Lib.hid hMT
          have hXs := HX.out
          rw [List.reverse_append, List.reverse_singleton, List.singleton_append] at hXs
          have HXS := Lib.hid hXs
          have hMs := HM.out
          rw [List.reverse_append, List.reverse_singleton, List.singleton_append] at hMs
          have HMS := Lib.hid hMs
          have HN := Lib.hid hn
          have hmu1 := HMU.out T0 _ ⟨_, hsh1.box, hsh1.todo⟩
          have HMU1 := Lib.hid hmu1
          clear hsh hsh1 htd hpop hMT hXs hMs hmu1 hn HMT HG0 HM0 HSH0 HVA hlen
          have hnn : ((n + 1 : Nat) : Int) - 1 = (n : Int) := by omega
          by_cases hs : s < 0
          · simp only [decide_eq_true hs] at hit
            go_wp2_with (go_at_call 40; refine (hit _).mono ?_; rintro e w' ⟨rfl, rfl⟩)
            have hb := HMS.out
            have ht := todo_term S hs T0.reverse
            refine ⟨(HIN.out _ _).2 ?_, ?_⟩
            · (repeat apply Exists.intro)
              exact ⟨rfl, T0, ks, _, HSH1.out, fun x hx => HG.out x (List.mem_append_left _ hx), by omega, fun l hl => HXS.out l (Exps.term hs hl)⟩
            · rw [HMU1.out, HMT2.out]
              exact ht
          · simp only [decide_eq_false hs] at hit
            obtain ⟨q, rfl⟩ : ∃ q : Nat, s = q := ⟨s.toNat, by omega⟩
            obtain ⟨hqS, kr, r, hkr, hrk⟩ := HG.out (q : Int) (by simp) (by omega)
            rw [Int.toNat_natCast] at hqS hkr
            have hkR : kr < R.length := (List.getElem?_eq_some_iff.1 hrk).1
            obtain ⟨y0, y1, y2⟩ := ways_cell HSH1.out.ways.2 q hqS
            rw [hkr] at y2
            have hq2 : (q : Int) < (S.length : Int) := by omega
            have hq0 : (0 : Int) ≤ (q : Int) := by omega
            have hkr2 : (kr : Int) < (R.length : Int) := by omega
            have hkr0 : (0 : Int) ≤ (kr : Int) := by omega
            obtain ⟨i0, hi, hz0, hz1, hz2⟩ := info_parts info_int
            have hsa := HSH1.out.alloc (.cells #[.int .i64 kr] 3)
            have HSA := Lib.hid hsa
            have hkl2 := HMS.out
            have hnews := one_new (W.setCell ⟨w1.heap.size + 1 + 1, 0, none⟩ (.slice (some ⟨g, 0, none⟩) n cap2)) 3 (.int .i64 kr)
            rw [show (W.setCell ⟨w1.heap.size + 1 + 1, 0, none⟩ (.slice (some ⟨g, 0, none⟩) n cap2)).heap.size = W.heap.size from by simp] at hnews
            have HNW := Lib.hid hnews
            have HKR := Lib.hid hkr
            have HRK := Lib.hid hrk
            clear hsa hnews hkr hrk y0 y1
            have HKL := Lib.hid hkl2
            clear hkl2
            go_wp2_with (first | (go_at_call 40; refine (hit _).mono ?_; rintro e w' ⟨rfl, rfl⟩) | (at_builtin; refine wpList_append_own_at _ rfl _ _ 28 rfl w.heap.size 3 i0 (.int .i64 0) 1 8 Tryz.underlying28 hi hz0 hz1 hz2 rfl (by decide) u7 ks.length (IV ks) rfl HSA.out.rows _ 1 1 [.int .i64 kr] rfl rfl HNW.out (by simp [Value.oneCell']) (by have := HKL.out; unfold maxLen; omega) (by have := HKL.out; omega) (Nat.le_of_lt HSA.out.gram.lt) ?_; intro u72 W2 hown2 hgrow2 hnil2 hat2))
            have hsr := Sh.rule (x := (kr : Int)) HSA.out (by simpa using hown2) hgrow2 hat2
            have hrw := HR.out.far (hsr.below.mono hB)
            obtain ⟨ra', rc', er, _, hr2⟩ := hrw
            cases er
            obtain ⟨a2, rfl, hab2, ao2, c2, h1, h2, h3, h4, h5, h6, h7, h8⟩ := hr2 kr r HRK.out
            rw [addf a2 (kr * 3) 1 (by decide)] at h2
            obtain ⟨y0, y1, y2⟩ := ways_cell hsr.ways.2 q hqS
            rw [HKR.out] at y2
            have z2 := hsr.gram.cell 2
            simp only [List.getElem?_toArray, List.getElem?_cons_zero, List.getElem?_cons_succ] at z2
            have HSR := Lib.hid hsr
            have HRU : Hid (RowUnder w.heap.size W2 ao2 r.right) := Lib.hid (fun j hj => by
              obtain ⟨a3, e3, hab3, hca⟩ := h7 j hj
              exact ⟨a3, e3, Nat.lt_of_lt_of_le hab3 hB, hca⟩)
            clear hsr hown2 hgrow2 hnil2 hat2 hr2 h1 h3 h4 h5 h6 h7 h8 y0 y1 hi hz0 hz1 hz2 hbx hcs q0 hf0
            refine wp_region_EQ (fun U => U.cell? ⟨w.heap.size, 2, none⟩ = some (.slice (some a2) R.length rc) ∧ U.cell? ⟨m, q * 3 + 2, none⟩ = some (.int .i64 kr) ∧ U.cell? { block := (a2.add (kr * 3)).block, off := (a2.add (kr * 3)).off + 1 } = some (.slice ao2 r.right.length c2)) [10] (by kernel_rfl) ?_
            have HS : _ := And.intro (DRC W2 _ _ z2) (And.intro (DRC W2 _ _ y2) (DRC W2 _ _ h2))
            change anyE _ _ _ _ _ _ _ _ _ (World.drew _)
            refine anyE_take (i := 0) (v := ?_) rfl (by kernel_rfl) (by kernel_rfl) (by kernel_rfl) (by kernel_rfl) (by kernel_rfl) (fun c _ _ h => absurd rfl (h.1 c)) (Or.inl ⟨by kernel_rfl, ?_⟩) HS ?_
            rotate_left
            · intro w _; go_simp; with_reducible rfl
            refine anyE_take (i := 1) (v := ?_) rfl (by kernel_rfl) (by kernel_rfl) (by kernel_rfl) (by kernel_rfl) (by kernel_rfl) (fun c _ _ h => absurd rfl (h.1 c)) (Or.inl ⟨by kernel_rfl, ?_⟩) HS ?_
            rotate_left
            · intro w hw; have hw := hw.1; go_simp; with_reducible rfl
            refine anyE_take (i := 2) (v := ?_) rfl (by kernel_rfl) (by kernel_rfl) (by kernel_rfl) (by kernel_rfl) (by kernel_rfl) (fun c _ _ h => absurd rfl (h.1 c)) (Or.inl ⟨by kernel_rfl, ?_⟩) HS ?_
            rotate_left
            · intro w _; go_simp; with_reducible rfl
            refine anyE_take (i := 3) (v := ?_) rfl (by kernel_rfl) (by kernel_rfl) (by kernel_rfl) (by kernel_rfl) (by kernel_rfl) (fun c _ _ h => absurd rfl (h.1 c)) (Or.inl ⟨by kernel_rfl, ?_⟩) HS ?_
            rotate_left
            · intro w _; go_simp; with_reducible rfl
            refine anyE_take (i := 4) (v := ?_) rfl (by kernel_rfl) (by kernel_rfl) (by kernel_rfl) (by kernel_rfl) (by kernel_rfl) (fun c _ _ h => absurd rfl (h.1 c)) (Or.inl ⟨by kernel_rfl, ?_⟩) HS ?_
            rotate_left
            · intro w _; go_simp; with_reducible rfl
            refine anyE_take (i := 5) (v := ?_) rfl (by kernel_rfl) (by kernel_rfl) (by kernel_rfl) (by kernel_rfl) (by kernel_rfl) (fun c _ _ h => absurd rfl (h.1 c)) (Or.inl ⟨by kernel_rfl, ?_⟩) HS ?_
            rotate_left
            · intro w _; go_simp; with_reducible rfl
            refine anyE_take (i := 6) (v := ?_) rfl (by kernel_rfl) (by kernel_rfl) (by kernel_rfl) (by kernel_rfl) (by kernel_rfl) (fun c _ _ h => absurd rfl (h.1 c)) (Or.inl ⟨by kernel_rfl, ?_⟩) HS ?_
            rotate_left
            · intro w hw; have hw := hw.2.1; go_simp; with_reducible rfl
            refine anyE_take (i := 7) (v := ?_) rfl (by kernel_rfl) (by kernel_rfl) (by kernel_rfl) (by kernel_rfl) (by kernel_rfl) (fun c _ _ h => absurd rfl (h.1 c)) (Or.inl ⟨by kernel_rfl, ?_⟩) HS ?_
            rotate_left
            · intro w _; go_simp; with_reducible rfl
            refine anyE_take (i := 8) (v := ?_) rfl (by kernel_rfl) (by kernel_rfl) (by kernel_rfl) (by kernel_rfl) (by kernel_rfl) (fun c _ _ h => absurd rfl (h.1 c)) (Or.inl ⟨by kernel_rfl, ?_⟩) HS ?_
            rotate_left
            · intro w _; go_simp; with_reducible rfl
            refine anyE_take (i := 9) (v := ?_) rfl (by kernel_rfl) (by kernel_rfl) (by kernel_rfl) (by kernel_rfl) (by kernel_rfl) (fun c _ _ h => absurd rfl (h.1 c)) (Or.inl ⟨by kernel_rfl, ?_⟩) HS ?_
            rotate_left
            · intro w hw; have hw := hw.2.2; go_simp; with_reducible rfl
            refine anyE_rest (by kernel_rfl) ?_
            refine wpAny_ready (rs := [10]) (by kernel_rfl) (by simp) ?_
            refine AllReady.cons rfl (fun K hK => ?_) AllReady.nil
            go_simp
            go_at_call 46
            refine (callsIn_wide.1 (back_in Fence.wide 3 trivial rfl _ _ _ _)).mono ?_
            rintro e w5 ⟨rfl, rfl⟩
            refine hK _ _ ?_
            clear hK K
            refine wpAny_done (by kernel_rfl) ?_ _
            refine ⟨fun c h => (by cases h), ?_⟩
            go_wp2
            have HV := Lib.hid (Sh.drew HSR.out)
            have hbT : RowUnder w.heap.size W2.drew ao2 r.right := HRU.out
            have HVU := Lib.hid hbT
            clear hbT HS HSR HRU h2 y2 z2
            generalize W2.drew = V at *
            have hq1 : (1 : Nat) ≤ 3 := by decide
            have hq2 : (1 : Nat) ≤ 3 - 1 := by decide
            have hbV := Blk.new V 28 #[.slice ao2 r.right.length c2]
            have hltV : w.heap.size ≤ V.heap.size := Nat.le_of_lt HV.out.gram.lt
            have hbtl : w1.heap.size + 1 + 1 < V.heap.size := HV.out.box.lt
            have hdsl : ∀ D ∈ ds, D < V.heap.size := fun D hD => (Array.getElem?_eq_some_iff.1 (HV.out.marks.2 D hD).2).1
            have hr8 := H8.out r (List.mem_of_getElem? HRK.out)
            refine (wpIn_wide (n := 3)).1 ?_
            refine wpIn_rangeFunc_ownG (F := Fence.wide) rfl hq1 (gf := 71) (lb := #[.pointer (some ⟨V.heap.size, 0, none⟩)]) rfl trivial (enters_of Tryz.func71 (by kernel_rfl) rfl)
              (back_stops Fence.wide _ trivial rfl hq2 V.heap.size w.heap.size c2 ao2 r.right (by omega) _ (by rw [World.size_alloc]; omega) (by rw [World.size_alloc]; omega) (hbV.cell 0) (fun j hj => by
                obtain ⟨a, e, hab, hca⟩ := HVU.out j hj
                exact ⟨a, e, hab, (World.cell?_alloc_lt V _ (a.add j) (by rw [add_block]; omega)).trans hca⟩)) (fun h k => h.trans k) (fun W l o o' hl h hc hw => kb_b (w := w) (m := w.heap.size) (Nat.le_refl _) W l o o' (by rw [World.size_alloc] at hl; omega) (Nat.le_refl _) h hc hw) (Below.refl _ _) (fun _ => rfl)
              (fun pre U => (∃ tvx, Sh w.heap.size w S #[.slice ta tl tc, .slice va vl vc, .slice (some a2) R.length rc] m (.slice (some ⟨m, 0, none⟩) S.length cap) (w1.heap.size + 1 + 1) ds (T0 ++ pre.map (·.2)) (ks ++ [(kr : Int)]) tvx u72 U) ∧ Blk U V.heap.size 28 #[.slice ao2 r.right.length c2])
              (fun _ _ _ => False)
              (fun pre A B row hs hg hr => by
                obtain ⟨⟨tvx, h1⟩, h2⟩ := hs
                refine ⟨⟨tvx, h1.grownC hg (fun r e => ?_)⟩, h2.grownC hg (fun r e => (hr r e).2)⟩
                obtain ⟨g1, g2⟩ := hr r e
                rw [World.size_alloc] at g1
                exact ⟨by omega, fun D hD => by have := hdsl D hD; omega, g2⟩)
              (fun _ _ _ _ _ hs _ _ => hs)
              ⟨⟨_, by simpa using HV.out.alloc _⟩, hbV⟩
              (fun x => { tmps := #[.agg #[.slice ta tl tc, .slice va vl vc, .slice (some a2) R.length rc], .int .i64 ↑k, .pointer (some ⟨w.heap.size, 0, none⟩), undef, .slice none 0 0, .bool false, .slice (some { block := m, off := 0 }) S.length cap, u72, .pointer (some { block := w1.heap.size + 1 + 1, off := 0 }), .int .i64 ↑q, u10, .int .i64 x.2, .agg #[.slice ta tl tc, .slice va vl vc, .slice (some a2) R.length rc], .slice (some { block := m, off := 0 }) S.length cap, .agg #[.slice ta tl tc, .slice va vl vc, .slice (some a2) R.length rc], .int .i64 ↑k, .bool true, .bool false, .bool false, .slice (some { block := m, off := 0 }) S.length cap, .int .i64 ↑k, .pointer (some { block := m, off := k * 3 }), .pointer (some { block := m, off := k * 3 + 1 }), .int .i64 ↑st, .bool false, .bool false, .int .i64 ↑k, .slice (some { block := w1.heap.size + 1, off := 0 }) 1 1, .slice (some { block := g, off := 0 }) (n + 1) cap2, .int .i64 (↑n + 1), .bool true, .slice (some { block := g, off := 0 }) (n + 1) cap2, .slice (some { block := g, off := 0 }) (n + 1) cap2, .int .i64 (↑n + 1), .int .i64 ↑n, .pointer (some { block := g, off := n }), .int .i64 ↑q, .slice (some { block := g, off := 0 }) (n + 1) cap2, .slice (some { block := g, off := 0 }) (n + 1) cap2, .int .i64 (↑n + 1), .int .i64 ↑n, .slice (some { block := g, off := 0 }) n cap2, .int .i64 ↑q, .bool false, u7, .slice (some { block := m, off := 0 }) S.length cap, .int .i64 ↑q, .pointer (some { block := m, off := q * 3 }), .pointer (some { block := m, off := q * 3 + 2 }), .int .i64 ↑kr, .slice (some { block := W.heap.size, off := 0 }) 1 1, u72, .pointer (some { block := w.heap.size, off := 2 }), .slice (some a2) R.length rc, .slice (some { block := m, off := 0 }) S.length cap, .int .i64 ↑q, .pointer (some { block := m, off := q * 3 }), .pointer (some { block := m, off := q * 3 + 2 }), .int .i64 ↑kr, .pointer (some (a2.add (kr * 3))), .pointer (some { block := (a2.add (kr * 3)).block, off := (a2.add (kr * 3)).off + 1 }), .slice ao2 r.right.length c2, .func (.func 71) #[] #[.pointer (some { block := V.heap.size, off := 0 })], .int .i64 (x.1 : Int), .int .i64 x.2, u65, u66, u67, u68, undef], defers := [] }) ?assign ?body ?done ?stop
            case assign =>
              intro l x U K hK
              gi_wp2
              exact hK
            case body =>
              rintro l pre x U ⟨⟨tvx, hI⟩, hbbU⟩ hlt
              have c0 := hI.box.cell 0
              simp only [List.getElem?_toArray, List.getElem?_cons_zero] at c0
              obtain ⟨i0, hi, hz0, hz1, hz2⟩ := info_parts info_int
              have hsa := hI.alloc (.cells #[.int .i64 x.2] 3)
              have hplen : (T0 ++ pre.map (·.2)).length ≤ 65537 + 9 := by
                have hk := HMS.out
                unfold todoM at hk
                simp only [List.length_append, List.length_map, List.length_cons, List.length_reverse] at hk ⊢
                omega
              have hpb := Blk.alloc hbbU (.cells #[.int .i64 x.2] 3)
              generalize hL : T0 ++ pre.map (·.2) = L at *
              have HPL := Lib.hid hplen
              have HSA2 := Lib.hid hsa
              have HNW2 := Lib.hid (one_new U 3 (.int .i64 x.2))
              have HI2 := Lib.hid hI
              have HL := Lib.hid hL
              have HPB := Lib.hid hpb
              have HBB := Lib.hid hbbU
              clear hplen hsa hpb hL hI hbbU
              gi_wp2_with (gi_at_builtin; refine wpListIn_append_own_at _ rfl _ _ 28 rfl w.heap.size 3 i0 (.int .i64 0) 1 8 Tryz.underlying28 hi hz0 hz1 hz2 rfl (by decide) tvx L.length (IV L) rfl HSA2.out.todo _ 1 1 [.int .i64 x.2] rfl rfl HNW2.out (by simp [Value.oneCell']) (by have := HPL.out; unfold maxLen; omega) (by have := HPL.out; omega) (Nat.le_of_lt HSA2.out.gram.lt) ?_; intro tv9 W9 hown9 hgrow9 hnil9 hat9; obtain ⟨g9, cap9, e9, _, _⟩ := World.ownsRow.form hown9 (Nat.succ_pos _); subst e9; have b9 := HSA2.out.box.grown hgrow9 (HSA2.out.box.not_row (by decide) HSA2.out.todo); have c9 := b9.cell 0; have f9 := b9.frozen 0; simp only [List.getElem?_toArray, List.getElem?_cons_zero] at c9)
              have hL := HL.out
              have hmem : L ++ [x.2] = T0 ++ (pre ++ [x]).map (·.2) := by rw [← hL]; simp
              have hgr2 := grown_set W9 ⟨w1.heap.size + 1 + 1, 0, none⟩ (.slice (some ⟨g9, 0, none⟩) (L.length + 1) cap9)
              have hpush := Sh.push (x := x.2) HSA2.out hown9 hgrow9 hat9
              rw [hmem] at hpush
              have hbb9 := (HPB.out.grown hgrow9 (HPB.out.not_row (by decide) HSA2.out.todo)).far (p := ⟨w1.heap.size + 1 + 1, 0, none⟩) (by show V.heap.size ≠ w1.heap.size + 1 + 1; omega) (.slice (some ⟨g9, 0, none⟩) (L.length + 1) cap9)
              have hbl9 : Below w.heap.size U (W9.setCell ⟨w1.heap.size + 1 + 1, 0, none⟩ (.slice (some ⟨g9, 0, none⟩) (L.length + 1) cap9)) := (((Below.refl w.heap.size U).alloc (Nat.le_of_lt HI2.out.gram.lt) _).grown hgrow9 (Nat.le_of_lt HSA2.out.gram.lt) (fun r e => (row_cells HSA2.out.todo r e).1)).setCell (p := ⟨w1.heap.size + 1 + 1, 0, none⟩) (by show w.heap.size ≤ w1.heap.size + 1 + 1; omega) _
              refine ⟨(((KeepsOthers.alloc U _).trans (KeepsOthers.of_grownBy hgrow9 fun j o ej hj => ?_)).trans (KeepsOthers.setCell _ _ _)).from _, ⟨hbl9, fun v hv => ?_⟩, ⟨_, hpush⟩, hbb9⟩
              · obtain ⟨_, o2, ho2, hc2⟩ := row_cells HSA2.out.todo j ej
                rw [ho2] at hj
                cases hj
                exact hc2
              · have e1 := HBB.out.cell 0
                have e2 := hbb9.cell 0
                rw [e1] at hv
                rw [e2]
                exact hv
            case done =>
              rintro D ys U hD rfl ⟨⟨tvx, hI⟩, hbbU⟩ hK
              rw [upto_bk] at hI
              rw [World.size_alloc] at hD
              have hway := way_eq HI.out HDN.out HKR.out HRK.out
              have hrev : (T0 ++ r.right.reverse).reverse = r.right ++ T0.reverse := by simp
              have hstp : (S.getD ((q : Int)).toNat noW).2.1 = 1 + sS S r.right := by
                have h1 := hway.2.2.2
                have h2 := HMS.out
                have h3 := sS_le (S := S) (F := (q : Int) :: T0.reverse) (s := (q : Int)) (by simp) (by omega)
                rw [Int.toNat_natCast] at h3 ⊢
                unfold todoM at h2
                unfold Far at h1
                omega
              have htv := todo_var S (s := (q : Int)) (r := r) (by omega) hr8 hstp T0.reverse
              have hmu2 := HMU.out _ U ⟨tvx, hI.box, hI.todo⟩
              rw [hrev] at hmu2
              refine ⟨(HIN.out _ _).2 ?_, ?_⟩
              · (repeat apply Exists.intro)
                refine ⟨(rfl : _ = Act.mk _ (List.map mkD (D :: ds))), T0 ++ r.right.reverse, ks ++ [(kr : Int)], tvx, ⟨hI.box, hI.bB, hI.todo, hI.rows, hI.apart, hI.ways, hI.gram, hI.below, ⟨List.nodup_cons.2 ⟨fun h => by have := hdsl D h; omega, hI.marks.1⟩, fun E hE => ?_⟩⟩, ?_, ?_, fun l hl => ?_⟩
                · rcases List.mem_cons.1 hE with rfl | hE
                  · exact ⟨by omega, hK⟩
                  · exact hI.marks.2 E hE
                · intro y hy h0
                  rcases List.mem_append.1 hy with h | h
                  · exact HG.out y (List.mem_append_left _ h) h0
                  · exact good_kids HI.out HDN.out HKR.out HRK.out y (List.mem_reverse.1 h) h0
                · have h2 := HMS.out
                  rw [hrev]
                  simp only [List.length_append, List.length_cons, List.length_nil]
                  omega
                · rw [hrev] at hl
                  have := HXS.out _ (Exps.var (by omega) (by rw [Int.toNat_natCast]; exact HKR.out) HRK.out hl)
                  simpa using this
              · rw [hmu2, HMT2.out]
                exact htv
            case stop =>
              rintro D c pre U _ _ h _
              exact h.elim
    · have hgt : decide ((4096 : Int) < (st : Int)) = true := decide_eq_true (by omega)
      have hgt2 : decide (4096 < st) = true := decide_eq_true (by omega)
      gi_wp2_with (refine ⟨trivial, ?_⟩; gi_at_call 45; refine (callsIn_wide.2 HVA.out).mono ?_; rintro e w2 ⟨rfl, o2, rfl⟩)
      refine ⟨.tuple #[.slice none 0 0, .bool false], by simp [results, Tryz.results19, go_sem], S, .slice none 0 0, false, rfl, HI.out, HDN.out, HB1.out.alloc HB1.out.size _, fun h => (by cases h), fun _ => ⟨rfl, fun _ _ => by rw [Int.toNat_natCast, ← HSTE.out]; omega⟩⟩
  · have hvf : (decide (0 ≤ v) && decide (v < vl)) = false := by
      rw [Bool.and_eq_false_iff]
      by_cases h0 : 0 ≤ v
      · exact .inr (decide_eq_false (fun h => hok ⟨h0, h⟩))
      · exact .inl (decide_eq_false h0)
    rw [hvf] at hva
    have HVA := Lib.hid hva
    clear hva hvf
    gi_wp2_with (refine ⟨trivial, ?_⟩; gi_at_call 45; refine (callsIn_wide.2 HVA.out).mono ?_; rintro e w2 ⟨rfl, o2, rfl⟩)
    refine ⟨.tuple #[.slice none 0 0, .bool false], by simp [results, Tryz.results19, go_sem], S, .slice none 0 0, false, rfl, HI.out, HDN.out, HB1.out.alloc HB1.out.size _, fun h => (by cases h), fun _ => ⟨rfl, fun h1 h2 => absurd ⟨h1, h2⟩ hok⟩⟩
end Go.Proofs.YtomikgkoegkofaaGreatDoor.dv

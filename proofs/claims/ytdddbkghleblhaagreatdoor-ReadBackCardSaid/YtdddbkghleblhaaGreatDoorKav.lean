import Derived.Test.YtdddbkghleblhaaGreatDoorKah
import Derived.Test.YtdddbkghleblhaaGreatDoorKal
import Derived.Test.YtdddbkghleblhaaGreatDoorKar
import Derived.Deep.Cut
namespace Go.Proofs.YtdddbkghleblhaaGreatDoor.lx
open Go.ChangeShapes Go.WideShapes Go.ChangeAt Go.RowKit
set_option linter.unusedVariables false
theorem lex_split (s : List UInt8) : ∀ (m k : Nat), s.length - k < m → k ≤ s.length → ∀ ts, lexA s k = (ts, none) → ∃ u, ts = u ++ [⟨0, s.length, [], 0⟩] ∧ ∀ t ∈ u, t.kind ≠ 0
  | 0, k, h, _, _, _ => by omega
  | m + 1, k, h, hk, ts, hts => by
    by_cases hlt : k < s.length
    · cases hx : wordAt (s.drop k) with
      | error e =>
        rw [lexA_error _ _ e hlt hx] at hts
        cases hts
      | ok x =>
        obtain ⟨kd, t, w, n⟩ := x
        have hn := word_n hx
        rw [List.length_drop] at hn
        have hg := nxt_ge s (k + n + 1)
        have hle := nxt_le s (k + n + 1) (by omega)
        have hkd := word_kind hx
        rw [lexA_ok _ _ kd w n t hlt hx] at hts
        rcases hy : lexA s (nxt s (k + n + 1)) with ⟨us, f⟩
        rw [hy] at hts
        obtain rfl : f = none := congrArg Prod.snd hts
        obtain rfl : ⟨kd, k, t, w⟩ :: us = ts := congrArg Prod.fst hts
        obtain ⟨u, rfl, hu⟩ := lex_split s m _ (by omega) hle _ hy
        refine ⟨⟨kd, k, t, w⟩ :: u, rfl, fun t' ht' => ?_⟩
        rcases List.mem_cons.1 ht' with rfl | ht'
        · show kd ≠ 0
          omega
        · exact hu t' ht'
    · obtain rfl : k = s.length := by omega
      rw [lexA_end] at hts
      obtain rfl : _ = ts := congrArg Prod.fst hts
      exact ⟨[], rfl, fun t ht => by simp at ht⟩
theorem all_split (s : List UInt8) {x : List Tok} (h : lexAll s = (x, 0, 0)) : ∃ u, x = u ++ [⟨0, s.length, [], 0⟩] ∧ ∀ t ∈ u, t.kind ≠ 0 := by
  unfold lexAll at h
  by_cases hb : 65536 < s.length
  · rw [if_pos hb] at h
    cases h
  · rw [if_neg hb] at h
    rcases hA : lexA s (nxt s 0) with ⟨y, f⟩
    rw [hA] at h
    cases f with
    | some f =>
      obtain ⟨e, k⟩ := f
      have := err_ge s hA
      have h' : ([], e, k) = (x, 0, 0) := h
      have : e = 0 := congrArg (fun z => z.2.1) h'
      omega
    | none =>
      have h' : (y, 0, 0) = (x, 0, 0) := h
      obtain rfl : y = x := congrArg Prod.fst h'
      exact lex_split s _ _ (Nat.lt_succ_self _) (nxt_le s 0 (Nat.zero_le _)) _ hA
theorem read_of_bad {s : List UInt8} {e k : Nat} {x : List Tok} (h : lexAll s = (x, e, k)) (he : 1 ≤ e) : readAll s = ([], e, k) := by
  unfold readAll
  rw [h]
  exact if_neg (by show ¬ e = 0; omega)
theorem read_of_ok {s : List UInt8} {x : List Tok} (h : lexAll s = (x, 0, 0)) : readAll s = (match pText x.length x with
    | .error e => ([], e)
    | .ok ds => (ds, 0, 0)) := by
  unfold readAll
  rw [h]
  rfl
theorem VDs.len {k : Nat} : ∀ {x y : List Dfn}, VDs k x y → y.length = x.length
  | [], [], _ => rfl
  | d :: ds, d' :: ds', ⟨_, h⟩ => congrArg (· + 1) (VDs.len h)
/-- the definitions of two texts, one behind the other -/
theorem read_join (a b : List UInt8) (ha : a.length ≤ 600) (hb : b.length ≤ 600) :
    (∃ e k, 0 < e ∧ readAll a = ([], e, k) ∧ (k = a.length ∨ ∃ e' k', 0 < e' ∧ readAll (joinT a b) = ([], e', k'))) ∨
    (∃ x e k, 0 < e ∧ x ≠ [] ∧ readAll a = (x, 0, 0) ∧ readAll b = ([], e, k) ∧ ((∃ z, readAll (joinT a b) = (z, 0, 0) ∧ z.length = x.length) ∨ ∃ e' k', 0 < e' ∧ a.length < k' ∧ readAll (joinT a b) = ([], e', k'))) ∨
    (∃ x y y', x ≠ [] ∧ readAll a = (x, 0, 0) ∧ readAll b = (y, 0, 0) ∧ readAll (joinT a b) = (x ++ y', 0, 0) ∧ VDs (a.length + 1) y y') := by
  rcases lex_join a b ha hb with ⟨e, k, ⟨he, hk⟩, ea, ej⟩ | ⟨x, e, k, ⟨he, hk⟩, ⟨hx, hxl⟩, ea, eb, ej⟩ | ⟨x, y, ⟨hx, hxl, hxa⟩, ⟨hy, hyl, hya⟩, ea, eb, ej⟩
  · exact .inl ⟨e, k, he, read_of_bad ea he, .inr ⟨e, k, he, read_of_bad ej he⟩⟩
  · have hja := read_of_bad ej he
    have hjb := read_of_bad eb he
    have hra := read_of_ok ea
    cases hp : pText x.length x with
    | error q =>
      rw [hp] at hra
      exact .inl ⟨q.1, q.2, pos_text _ _ _ hp, hra, .inr ⟨_, _, he, hja⟩⟩
    | ok ds =>
      rw [hp] at hra
      have hne : ds ≠ [] := by
        obtain ⟨u, hu, huk⟩ := all_split a ea
        have h := loc_text (E := ⟨0, a.length, [], 0⟩) rfl (R := [⟨0, a.length, [], 0⟩]) (by simp) (u.length + 1) u (u.length + 1) (u.length + 1) (by omega) (by omega) (by omega) (by omega) huk
        rw [show u.length + 1 = x.length from by rw [hu]; simp, ← hu, hp] at h
        obtain ⟨_, _, _, h, _⟩ := h
        exact h
      exact .inr (.inl ⟨ds, e, k, he, hne, hra, hjb, .inr ⟨_, _, he, by omega, hja⟩⟩)
  · obtain ⟨u, rfl, huk⟩ := all_split a ea
    obtain ⟨v, rfl, hvk⟩ := all_split b eb
    have hra := read_of_ok ea
    have hrb := read_of_ok eb
    have hrj := read_of_ok ej
    rw [List.dropLast_concat] at hrj
    have hR : (v ++ [(⟨0, b.length, [], 0⟩ : Tok)]).map (shT (a.length + 1)) ≠ [] := by simp
    have hlu : (u ++ [(⟨0, a.length, [], 0⟩ : Tok)]).length = u.length + 1 := by simp
    have hlj : (u ++ (v ++ [(⟨0, b.length, [], 0⟩ : Tok)]).map (shT (a.length + 1))).length = u.length + (v.length + 1) := by simp
    have h := loc_text (E := ⟨0, a.length, [], 0⟩) rfl hR (u.length + 1) u (u.length + 1) (u.length + (v.length + 1)) (by omega) (by omega) (by omega) (by omega) huk
    rw [hlu] at hra
    rw [hlj] at hrj
    cases hp : pText (u.length + 1) (u ++ [⟨0, a.length, [], 0⟩]) with
    | error q =>
      rw [hp] at hra h
      refine .inl ⟨q.1, q.2, pos_text _ _ _ hp, hra, ?_⟩
      rcases h with h | h
      · exact .inl h
      · rw [h] at hrj
        exact .inr ⟨q.1, q.2, pos_text _ _ _ hp, hrj⟩
    | ok ds =>
      rw [hp] at hra h
      obtain ⟨f', g1, g2, g3, g4⟩ := h
      rw [g4] at hrj
      have hsh := sh_text (E := ⟨0, b.length, [], 0⟩) rfl (a.length + 1) (v.length + 1) v (by omega)
      have hlv : (v ++ [(⟨0, b.length, [], 0⟩ : Tok)]).length = v.length + 1 := by simp
      rw [hlv] at hrb
      have hkm : (v ++ [(⟨0, b.length, [], 0⟩ : Tok)]).map (shT (a.length + 1)) = v.map (shT (a.length + 1)) ++ [shT (a.length + 1) ⟨0, b.length, [], 0⟩] := by simp
      have hfu : pText f' ((v ++ [(⟨0, b.length, [], 0⟩ : Tok)]).map (shT (a.length + 1))) = pText (v.length + 1) ((v ++ [(⟨0, b.length, [], 0⟩ : Tok)]).map (shT (a.length + 1))) := by
        rw [hkm]
        exact fuel_text (E := shT (a.length + 1) ⟨0, b.length, [], 0⟩) rfl (v.length + 1) _ _ _ (by simp) (by simp; omega) (by simp)
      by_cases h0 : (hd ((v ++ [(⟨0, b.length, [], 0⟩ : Tok)]).map (shT (a.length + 1)))).kind = 0
      · have hv0 : v = [] := by
          cases v with
          | nil => rfl
          | cons t v => exact absurd h0 (hvk t (by simp))
        subst hv0
        have hpb : pText 1 [(⟨0, b.length, [], 0⟩ : Tok)] = .error (5, b.length) := text_err 0 _ _ (if_neg (by show ¬ 0 = 1; decide))
        rw [show pText (([] : List Tok).length + 1) ([] ++ [(⟨0, b.length, [], 0⟩ : Tok)]) = .error (5, b.length) from hpb] at hrb
        have hpr : pRest f' (([] ++ [(⟨0, b.length, [], 0⟩ : Tok)]).map (shT (a.length + 1))) = .ok [] := if_pos h0
        rw [hpr] at hrj
        refine .inr (.inl ⟨ds, 5, b.length, by decide, g3, hra, hrb, .inl ⟨ds ++ [], hrj, by simp⟩⟩)
      · rw [show pRest f' ((v ++ [(⟨0, b.length, [], 0⟩ : Tok)]).map (shT (a.length + 1))) = pText f' ((v ++ [(⟨0, b.length, [], 0⟩ : Tok)]).map (shT (a.length + 1))) from if_neg h0, hfu] at hrj
        cases hq : pText (v.length + 1) (v ++ [(⟨0, b.length, [], 0⟩ : Tok)]) with
        | error q =>
          cases hq' : pText (v.length + 1) ((v ++ [(⟨0, b.length, [], 0⟩ : Tok)]).map (shT (a.length + 1))) with
          | error q' =>
            rw [hq, hq'] at hsh
            rw [hq] at hrb
            rw [hq', show q' = (q.1, q.2 + (a.length + 1)) from hsh] at hrj
            exact .inr (.inl ⟨ds, q.1, q.2, pos_text _ _ _ hq, g3, hra, hrb, .inr ⟨q.1, q.2 + (a.length + 1), pos_text _ _ _ hq, by omega, hrj⟩⟩)
          | ok y => rw [hq, hq'] at hsh; exact hsh.elim
        | ok y =>
          cases hq' : pText (v.length + 1) ((v ++ [(⟨0, b.length, [], 0⟩ : Tok)]).map (shT (a.length + 1))) with
          | error q' => rw [hq, hq'] at hsh; exact hsh.elim
          | ok y' =>
            rw [hq, hq'] at hsh
            rw [hq] at hrb
            rw [hq'] at hrj
            exact .inr (.inr ⟨ds, y, y', g3, hra, hrb, hrj, hsh⟩)
end Go.Proofs.YtdddbkghleblhaaGreatDoor.lx
namespace Go.Proofs.YtdddbkghleblhaaGreatDoor.lx
open Go.ChangeShapes Go.WideShapes Go.ChangeAt Go.RowKit
set_option linter.unusedVariables false
/-! the document's example -/
theorem ra1 : readAll [101, 32, 61, 32, 37, 50, 32, 39, 97, 39, 32, 40, 101, 32, 124, 32, 41, 42, 32, 59, 32, 102, 32, 61, 32, 59] = ([(0, [101], [(4, 4611686018427387904, [.mk 7 1 [97] [] 0, .mk 11 2 [] [(12, 0, [.mk 12 0 [101] [] 0]), (16, 0, [])] 42])]), (21, [102], [(25, 0, [])])], 0, 0) := by
  unfold readAll
  rw [lexAll_G _ (by decide)]
  kernel_rfl
theorem ra2 : readAll [101, 32, 61, 32, 40, 32, 59] = ([], 5, 6) := by
  unfold readAll
  rw [lexAll_G _ (by decide)]
  kernel_rfl
end Go.Proofs.YtdddbkghleblhaaGreatDoor.lx
namespace Go.Proofs.YtdddbkghleblhaaGreatDoor.lx
open Go.ChangeShapes Go.WideShapes Go.ChangeAt Go.RowKit
set_option linter.unusedVariables false
attribute [local go_sem] run_store_float
/-- an element of a list -/
theorem ListOf.at {α : Type} {c : Nat} {E : Elem α} {w : World} {A : Nat → Prop} {v : Value} {xs : List α} (h : ListOf c E w A v xs) {n cap : Nat} {ao : Option Addr} (e : v = .slice ao n cap) (h0 : 0 < xs.length) : ∃ g, ao = some ⟨g, 0, none⟩ ∧ g < w.heap.size ∧ ∀ k x, xs[k]? = some x → ∃ cs, cs.length = c ∧ (∀ j u, cs[j]? = some u → w.cell? ⟨g, k * c + j, none⟩ = some u) ∧ E w A x cs := by
  obtain ⟨_, ao', cap', e', h⟩ := h
  obtain ⟨g, e2, hg, _, hc⟩ := h h0
  rw [e] at e'
  cases e'
  exact ⟨g, e2, hg, hc⟩
theorem behind3 {w : World} {a : Addr} {v : Value} (h : w.cell? a = some v) (hl : a.block < w.heap.size) (o1 o2 o3 : Obj) : (((w.alloc o1).alloc o2).alloc o3).cell? a = some v :=
  (World.cell?_alloc_lt _ o3 a (by rw [World.size_alloc, World.size_alloc]; omega)).trans ((World.cell?_alloc_lt _ o2 a (by rw [World.size_alloc]; omega)).trans ((World.cell?_alloc_lt w o1 a hl).trans h))
set_option maxRecDepth 100000 in
set_option maxHeartbeats 4000000 in
theorem ralive_any (w : World) (b off : Nat) (hv : Vs w b off) : Calls Tryz.prog 5 #[] w fun e w' => e = .returned (.bool true) ∧ Below w.heap.size w w' := by
  have a1 := parse_any ⟨#[101, 32, 61, 32, 37, 50, 32, 39, 97, 39, 32, 40, 101, 32, 124, 32, 41, 42, 32, 59, 32, 102, 32, 61, 32, 59]⟩ (by decide) w b off hv
  have a2 := fun w h => parse_any ⟨#[101, 32, 61, 32, 40, 32, 59]⟩ (by decide) w b off h
  have HV := Lib.hid hv
  have HA2 := Lib.hid a2
  clear hv a2
  go_enter Tryz.func5, Tryz.ntmps5
  go_wp2_with fail
  refine a1.mono ?_
  rintro e w1 ⟨⟨v, rfl, hl⟩, hb1⟩
  rw [ra1] at hl ⊢
  obtain ⟨ao, cap, rfl⟩ := hl.form
  obtain ⟨g, rfl, hg, hc⟩ := hl.at rfl (by decide)
  obtain ⟨_, _, d0, ⟨av, rfl, hav⟩⟩ := hc 0 _ rfl
  obtain ⟨_, _, d1, ⟨av3, rfl, hav3⟩⟩ := hc 1 _ rfl
  obtain ⟨ao2, cap2, rfl⟩ := hav.form
  obtain ⟨ao3, cap3, rfl⟩ := hav3.form
  obtain ⟨g2, rfl, hg2, hc2⟩ := ListOf.at (show ListOf 3 (EAlt (AltsAt 16)) _ _ _ _ from hav) rfl (by decide)
  obtain ⟨_, _, f0, ⟨iv, rfl, hiv⟩⟩ := hc2 0 _ rfl
  obtain ⟨ao4, cap4, rfl⟩ := hiv.form
  obtain ⟨g3, rfl, hg3, hc3⟩ := hiv.at rfl (by decide)
  obtain ⟨_, _, i1, ⟨av5, rfl, hav5⟩⟩ := hc3 1 _ rfl
  obtain ⟨ao5, cap5, rfl⟩ := hav5.form
  obtain ⟨g4, rfl, hg4, hc4⟩ := ListOf.at (show ListOf 3 (EAlt (AltsAt 15)) _ _ _ _ from hav5) rfl (by decide)
  obtain ⟨_, _, j1, ⟨iv6, rfl, hiv6⟩⟩ := hc4 1 _ rfl
  obtain ⟨ao6, cap6, rfl⟩ := hiv6.form
  have HB1 := Lib.hid hb1
  have p0 := d0 0 _ rfl
  have p1 := d0 1 _ rfl
  have p2 := d0 2 _ rfl
  have q0 := d1 0 _ rfl
  have q1 := d1 1 _ rfl
  have q2 := d1 2 _ rfl
  have r0 := f0 0 _ rfl
  have r1 := f0 1 _ rfl
  have r2 := f0 2 _ rfl
  have s0 := i1 0 _ rfl
  have s1 := i1 1 _ rfl
  have s2 := i1 2 _ rfl
  have s3 := i1 3 _ rfl
  have s4 := i1 4 _ rfl
  have t0 := j1 0 _ rfl
  have t1 := j1 1 _ rfl
  have t2 := j1 2 _ rfl
  have HP := Lib.hid (And.intro p0 (And.intro p1 (And.intro p2 (And.intro q0 (And.intro q1 (And.intro q2 (And.intro r0 (And.intro r1 (And.intro r2 (And.intro s0 (And.intro s1 (And.intro s2 (And.intro s3 (And.intro s4 (And.intro t0 (And.intro t1 t2))))))))))))))))
  clear p0 p1 p2 q0 q1 q2 r0 r1 r2 s0 s1 s2 s3 s4 t0 t1 t2 d0 d1 f0 i1 j1 hc hc2 hc3 hc4 hav hav3 hiv hav5 hiv6 hl a1
  have hvs : ∀ o, Vs (w1.alloc o) b off := fun o => (HV.out.below hb1).below ((Below.refl _ _).alloc (Nat.le_refl _) _)
  have HVS := Lib.hid hvs
  clear hb1 hvs
  go_wp2_with fail
  refine (HA2.out _ (HVS.out _)).mono ?_
  rintro e w2 ⟨⟨v2, rfl, hl2⟩, hb2⟩
  rw [ra2] at hl2 ⊢
  obtain ⟨ao7, cap7, rfl⟩ := hl2.form
  have hK : ∀ a u, a.block < w1.heap.size → w1.cell? a = some u → w2.cell? a = some u := fun a u ha hu => (hb2.cell (p := a) (by rw [World.size_alloc]; omega)).trans ((World.cell?_alloc_lt w1 _ a ha).trans hu)
  obtain ⟨p0, p1, p2, q0, q1, q2, r0, r1, r2, s0, s1, s2, s3, s4, t0, t1, t2⟩ := HP.out
  replace p0 := hK _ _ hg p0
  replace p1 := hK _ _ hg p1
  replace p2 := hK _ _ hg p2
  replace q0 := hK _ _ hg q0
  replace q1 := hK _ _ hg q1
  replace q2 := hK _ _ hg q2
  replace r0 := hK _ _ hg2 r0
  replace r1 := hK _ _ hg2 r1
  replace r2 := hK _ _ hg2 r2
  replace s0 := hK _ _ hg3 s0
  replace s1 := hK _ _ hg3 s1
  replace s2 := hK _ _ hg3 s2
  replace s3 := hK _ _ hg3 s3
  replace s4 := hK _ _ hg3 s4
  replace t0 := hK _ _ hg4 t0
  replace t1 := hK _ _ hg4 t1
  replace t2 := hK _ _ hg4 t2
  have hF : Blk w2 w1.heap.size 26 flt0 := Blk.below (Blk.new w1 26 flt0) hb2 (by simp)
  obtain ⟨f0, f1, f2, f3⟩ := flt_cells hF
  have hz2 : w1.heap.size + 1 ≤ w2.heap.size := by have := hb2.size; rw [World.size_alloc] at this; exact this
  have HB3 := Lib.hid ((HB1.out.alloc HB1.out.size _).trans (hb2.mono (by have := HB1.out.size; rw [World.size_alloc]; omega)))
  have h1' : w1.heap.size < w2.heap.size := by omega
  have hg' : g < w2.heap.size := by omega
  have hg2' : g2 < w2.heap.size := by omega
  have hg3' : g3 < w2.heap.size := by omega
  have hg4' : g4 < w2.heap.size := by omega
  have hS : ((S [101]).toList == [101]) = true := by rw [← list_data]; rfl
  have y0 := behind3 t0 hg4'
  have y1 := behind3 t1 hg4'
  have y2 := behind3 t2 hg4'
  have z0 := behind3 q0 hg'
  have z1 := behind3 q1 hg'
  have z2 := behind3 q2 hg'
  clear hK hb2 hl2 hF HP
  go_wp2_with fail
  go_ret
  exact ⟨rfl, ((HB3.out.alloc (by have := HB3.out.size; omega) _).alloc (by have := HB3.out.size; rw [World.size_alloc]; omega) _).alloc (by have := HB3.out.size; rw [World.size_alloc, World.size_alloc]; omega) _⟩
end Go.Proofs.YtdddbkghleblhaaGreatDoor.lx
namespace Go.Proofs.YtdddbkghleblhaaGreatDoor.lx
open Go.ChangeShapes Go.WideShapes Go.ChangeAt Go.RowKit
set_option linter.unusedVariables false
attribute [local go_sem] run_store_float
theorem pdef_at {ts r : List Tok} {d : Dfn} (h : pDef ts = .ok (d, r)) : (hd ts).kind = 1 ∧ d.1 = (hd ts).at_ := by
  unfold pDef at h
  by_cases h1 : (hd ts).kind = 1
  · rw [if_pos h1] at h
    by_cases h2 : sg ts.tail = 61
    · rw [if_pos h2] at h
      cases hp : pShut 59 (pA 16 ts.tail.tail) with
      | error e => rw [hp] at h; cases h
      | ok q =>
        obtain ⟨bs, r2⟩ := q
        rw [hp] at h
        cases h
        exact ⟨h1, rfl⟩
    · rw [if_neg h2] at h
      cases h
  · rw [if_neg h1] at h
    cases h
theorem ptext_at {E : Tok} (hE : E.kind = 0) : ∀ (f : Nat) (u : List Tok) (ds : List Dfn), pText f (u ++ [E]) = .ok ds → ∀ d ∈ ds, ∃ t ∈ u, d.1 = t.at_
  | 0, u, ds, h => by cases h
  | f + 1, u, ds, h => by
    have hl := loc_def hE (R := [E]) (by simp) u
    unfold pText at h
    cases hp : pDef (u ++ [E]) with
    | error e => rw [hp] at h; cases h
    | ok q =>
      obtain ⟨d, r⟩ := q
      rw [hp] at h hl
      obtain ⟨t, v, rfl, hv, _⟩ := hl
      obtain ⟨k1, e1⟩ := pdef_at hp
      have hu : (hd (u ++ [E])) ∈ u := by
        cases u with
        | nil => exact absurd k1 (by show ¬ E.kind = 1; omega)
        | cons a u => exact List.mem_cons_self
      simp only at h
      intro d' hd'
      by_cases hk : (hd (v ++ [E])).kind = 0
      · rw [if_pos hk] at h
        cases h
        rw [List.mem_singleton.1 hd']
        exact ⟨_, hu, e1⟩
      · rw [if_neg hk] at h
        cases hq : pText f (v ++ [E]) with
        | error e => rw [hq] at h; cases h
        | ok ds2 =>
          rw [hq] at h
          cases h
          rcases List.mem_cons.1 hd' with rfl | hd'
          · exact ⟨_, hu, e1⟩
          · obtain ⟨t', h1, h2⟩ := ptext_at hE f v ds2 hq d' hd'
            exact ⟨t', hv.subset (List.mem_cons_of_mem _ h1), h2⟩
/-- where definitions stand -/
theorem read_at (s : List UInt8) {ds : List Dfn} (h : readAll s = (ds, 0, 0)) : ∀ d ∈ ds, d.1 ≤ s.length := by
  intro d hd'
  rcases hx : lexAll s with ⟨x, e, k⟩
  unfold readAll at h
  rw [hx] at h
  by_cases he : e = 0
  · subst he
    have hx2 : lexAll s = (x, 0, 0) := by
      unfold lexAll at hx ⊢
      by_cases hb : 65536 < s.length
      · rw [if_pos hb] at hx
        cases hx
      · rw [if_neg hb] at hx ⊢
        rcases hA : lexA s (nxt s 0) with ⟨y, f⟩
        rw [hA] at hx
        cases f with
        | some f =>
          obtain ⟨e', k'⟩ := f
          have := (err_ge s hA).1
          have h' : ([], e', k') = (x, 0, k) := hx
          have : e' = 0 := congrArg (fun z => z.2.1) h'
          omega
        | none =>
          have h' : (y, 0, 0) = (x, 0, k) := hx
          cases h'
          rfl
    obtain ⟨u, rfl, hu⟩ := all_split s hx2
    have hle : ∀ t ∈ u, t.at_ ≤ s.length := by
      unfold lexAll at hx2
      by_cases hb : 65536 < s.length
      · rw [if_pos hb] at hx2
        exact absurd (show (1 : Nat) = 0 from congrArg (fun z => z.2.1) hx2) (by decide)
      · rw [if_neg hb] at hx2
        rcases hA : lexA s (nxt s 0) with ⟨y, f⟩
        rw [hA] at hx2
        cases f with
        | some f =>
          obtain ⟨e', k'⟩ := f
          have := (err_ge s hA).1
          have : e' = 0 := congrArg (fun z => z.2.1) (show ([], e', k') = (_, 0, 0) from hx2)
          omega
        | none =>
          have e2 : y = u ++ [⟨0, s.length, [], 0⟩] := congrArg Prod.fst hx2
          intro t ht
          exact (ok_ge s hA).2 t (by rw [e2]; simp [ht])
    simp only [if_true] at h
    cases hp : pText (u ++ [(⟨0, s.length, [], 0⟩ : Tok)]).length (u ++ [(⟨0, s.length, [], 0⟩ : Tok)]) with
    | error q =>
      rw [hp] at h
      have : ds = [] := (congrArg Prod.fst h).symm
      subst this
      cases hd'
    | ok ds2 =>
      rw [hp] at h
      have : ds2 = ds := congrArg Prod.fst h
      subst this
      obtain ⟨t, ht, e⟩ := ptext_at rfl _ u _ hp d hd'
      rw [e]
      exact hle t ht
  · rw [if_neg he] at h
    have : ds = [] := (congrArg Prod.fst h).symm
    subst this
    cases hd'
/-- definitions in memory, as far as their lengths -/
def DefsAt (w : World) (g : Nat) (xs : List Dfn) : Prop := g < w.heap.size ∧ ∀ (k : Nat) (d : Dfn), xs[k]? = some d → ∃ ao cap, w.cell? ⟨g, k * 3, none⟩ = some (.int .i64 d.1) ∧ w.cell? ⟨g, k * 3 + 1, none⟩ = some (.string (S d.2.1)) ∧ w.cell? ⟨g, k * 3 + 2, none⟩ = some (.slice ao d.2.2.length cap)
theorem defs_at {w : World} {A : Nat → Prop} {ao : Option Addr} {cap : Nat} {xs : List Dfn} (h : ListOf 3 EDef w A (.slice ao xs.length cap) xs) (h0 : 0 < xs.length) : ∃ g, ao = some ⟨g, 0, none⟩ ∧ DefsAt w g xs := by
  obtain ⟨g, e, hg, hc⟩ := h.at rfl h0
  refine ⟨g, e, hg, fun k d hd => ?_⟩
  obtain ⟨cs, _, h1, ⟨av, rfl, hav⟩⟩ := hc k d hd
  obtain ⟨ao2, cap2, rfl⟩ := (show ListOf 3 (EAlt (AltsAt 16)) w A av d.2.2 from hav).form
  exact ⟨ao2, cap2, h1 0 _ rfl, h1 1 _ rfl, h1 2 _ rfl⟩
theorem DefsAt.below {w w' : World} {g : Nat} {xs : List Dfn} (h : DefsAt w g xs) (hb : Below w.heap.size w w') : DefsAt w' g xs := by
  refine ⟨Nat.lt_of_lt_of_le h.1 hb.size, fun k d hd => ?_⟩
  obtain ⟨ao, cap, h1, h2, h3⟩ := h.2 k d hd
  exact ⟨ao, cap, (hb.cell (p := ⟨g, _, none⟩) h.1).trans h1, (hb.cell (p := ⟨g, _, none⟩) h.1).trans h2, (hb.cell (p := ⟨g, _, none⟩) h.1).trans h3⟩
theorem VDs.at {k : Nat} : ∀ {y y' : List Dfn} (j : Nat) (d' : Dfn), VDs k y y' → y'[j]? = some d' → ∃ d, y[j]? = some d ∧ VD k d d'
  | [], [], j, d', h, hj => by simp at hj
  | [], e :: es, j, d', h, hj => h.elim
  | d :: ds, [], j, d', h, hj => h.elim
  | d :: ds, e :: es, 0, d', h, hj => by
    obtain rfl : e = d' := by simpa using hj
    exact ⟨d, rfl, h.1⟩
  | d :: ds, e :: es, j + 1, d', h, hj => by
    obtain ⟨c, h1, h2⟩ := VDs.at j d' h.2 (by simpa using hj)
    exact ⟨c, by simpa using h1, h2⟩
end Go.Proofs.YtdddbkghleblhaaGreatDoor.lx
namespace Go.Proofs.YtdddbkghleblhaaGreatDoor.lx
open Go.ChangeShapes Go.WideShapes Go.ChangeAt Go.RowKit
set_option linter.unusedVariables false
attribute [local go_sem] run_store_float
/-! the document's alternatives -/
theorem info_ralt : (Tryz.prog.info? 67).map (fun i => (i.zero, i.size, i.bytes)) = some (some (.agg #[.int .i64 0, .float .f64 0, .slice none 0 0]), 3, 40) := by kernel_rfl
/-- what comes of an alternative, one form for both ways -/
theorem alt_un {k g cap n d m : Nat} {T : List Tok} {wx w3 : World} {e : Ending} {x : Res Altn} (hn : T.length = n) (h : AnsR (AltV k wx.heap.size) AltF g cap d T m wx x e w3) : ∃ (p2 E : Nat) (a : Int) (f : Nat) (ao2 : Option Addr) (m2 c2 : Nat),
    e = .returned (.tuple #[.agg #[.slice (some ⟨g, 0, none⟩) n cap, .int .i64 p2, .int .i64 d, .int .i64 E], .agg #[.int .i64 a, .float .f64 f, .slice ao2 m2 c2]]) ∧ Below wx.heap.size wx w3 ∧
    ((E = 0 ∧ ∃ i, x = .ok (i, T.drop p2) ∧ [.int .i64 a, .float .f64 f, .slice ao2 m2 c2] = AltC i (.slice ao2 m2 c2) ∧ ListOf 5 (EItm (AltsAt k)) w3 (fun g => wx.heap.size ≤ g) (.slice ao2 m2 c2) i.2.2 ∧ Good (T.drop p2) ∧ (T.drop p2).length ≤ m) ∨
     (∃ q, E = q.1 ∧ x = .error q ∧ 0 < q.1 ∧ p2 < n ∧ (T.getD p2 ⟨0, 0, [], 0⟩).at_ = q.2)) := by
  subst hn
  obtain ⟨hb, h⟩ := h
  cases x with
  | error q =>
    obtain ⟨p2, v, rfl, ⟨a, f, ao2, m2, c2, rfl⟩, h1, h2, h3⟩ := h
    exact ⟨p2, q.1, a, f, ao2, m2, c2, rfl, hb, .inr ⟨q, rfl, rfl, h1, h2, h3⟩⟩
  | ok y =>
    obtain ⟨i, r⟩ := y
    obtain ⟨p2, v, rfl, hv, rfl, h1, h2⟩ := h
    obtain ⟨ao2, c2, rfl, hvl⟩ := AltV.form hv
    exact ⟨p2, 0, i.1, i.2.1, ao2, i.2.2.length, c2, rfl, hb, .inl ⟨rfl, i, rfl, rfl, hvl, h1, h2⟩⟩
/-- the alternatives so far: they go on, or something is wrong -/
def RAltsR (k g cap n M : Nat) (T : List Tok) (X : Res (List Altn)) (w : World) (lv : Value) (wr : World) : Prop := Below w.heap.size w wr ∧ w.heap.size + 2 ≤ wr.heap.size ∧
  Blk wr (w.heap.size + 1) 59 #[.slice none 0 0, .int .i64 0, .int .i64 0, .int .i64 0] ∧
  ((∃ (done : List Altn) (p f : Nat), done ≠ [] ∧ Good (T.drop p) ∧ (T.drop p).length ≤ f ∧ done.length + f ≤ M + 1 ∧ Blk wr w.heap.size 59 #[.slice (some ⟨g, 0, none⟩) n cap, .int .i64 p, .int .i64 (16 - k : Nat), .int .i64 (0 : Nat)] ∧
      OwnOf 3 (EAlt (AltsAt k)) 67 (w.heap.size + 2) wr lv done ∧ preA done (pMore (pSub k) f (T.drop p)) = X) ∨
   (∃ (q : Nat × Nat) (p : Nat) (ao : Option Addr) (m c : Nat), X = .error q ∧ 0 < q.1 ∧ p < T.length ∧ (T.getD p ⟨0, 0, [], 0⟩).at_ = q.2 ∧ Blk wr w.heap.size 59 #[.slice (some ⟨g, 0, none⟩) n cap, .int .i64 p, .int .i64 (16 - k : Nat), .int .i64 q.1] ∧ lv = .slice ao m c))
theorem one3 (a : Int) (f : Nat) (ao2 : Option Addr) (m2 c2 : Nat) : ∀ z ∈ [Value.int .i64 a, .float .f64 f, .slice ao2 m2 c2], z.oneCell' = true := by
  intro z hz
  simp at hz
  rcases hz with rfl | rfl | rfl <;> rfl
theorem entry2' (w : World) (s0 s1 : Array Value) (t0 t1 : TypeId) : Below w.heap.size w ((w.alloc (.cells s0 t0)).alloc (.cells s1 t1)) ∧ ((w.alloc (.cells s0 t0)).alloc (.cells s1 t1)).heap.size = w.heap.size + 2 ∧ Blk ((w.alloc (.cells s0 t0)).alloc (.cells s1 t1)) w.heap.size t0 s0 ∧ Blk ((w.alloc (.cells s0 t0)).alloc (.cells s1 t1)) (w.heap.size + 1) t1 s1 := entry2 w s0 s1 t0 t1
theorem raltsR_step {k g cap n d M p' f p2 E m2 c2 icap ao6cap dn f0 : Nat} {T : List Tok} {X : Res (List Altn)} {w wq wr w3 w5 w6 : World} {done : List Altn} {ao ao2 ao6 : Option Addr} {a : Int} {us : List (List Value)} (hn : T.length = n) (hd : 16 - k = d)
    (hdn : done.length = dn) (hzr : w.heap.size + 2 ≤ wr.heap.size) (hz3 : wr.heap.size ≤ w3.heap.size) (hp' : p' < n) (hrl : rleft n w.heap.size wq = 1 + (n - p'))
    (hk35 : ∀ i, i < w3.heap.size → i ≠ w.heap.size → w5.heap[i]? = w3.heap[i]?) (hk5 : ∀ i, i < wr.heap.size → i ≠ w.heap.size → w5.heap[i]? = wr.heap[i]?) (hz5 : w3.heap.size ≤ w5.heap.size) (hbel : Below w.heap.size w w5)
    (b0 : Blk w5 w.heap.size 59 #[.slice (some ⟨g, 0, none⟩) n cap, .int .i64 p2, .int .i64 d, .int .i64 E]) (b1 : Blk w5 (w.heap.size + 1) 59 #[.slice none 0 0, .int .i64 0, .int .i64 0, .int .i64 0])
    (hus1 : us.length = done.length) (hus2 : ∀ u ∈ us, u.length = 3) (how : wr.ownsRow (w.heap.size + 2) 67 3 (.slice ao dn icap) dn us.flatten)
    (hus4 : ∀ (j : Nat) (x : Altn), done[j]? = some x → ∃ cs, us[j]? = some cs ∧ EAlt (AltsAt k) wr (fun g => w.heap.size + 2 ≤ g ∧ some g ≠ (Value.slice ao dn icap).ownBlock) x cs)
    (hown6 : w6.ownsRow (w.heap.size + 2) 67 3 (.slice ao6 (dn + 1) ao6cap) (dn + 1) (us.flatten ++ [.int .i64 a, .float .f64 f0, .slice ao2 m2 c2]))
    (hg6 : (w5.alloc (.cells #[.int .i64 a, .float .f64 f0, .slice ao2 m2 c2] 67)).grownBy w6 (Value.slice ao dn icap).ownBlock)
    (hat6 : (Value.slice ao6 (dn + 1) ao6cap).ownBlock = (Value.slice ao dn icap).ownBlock ∨ (Value.slice ao6 (dn + 1) ao6cap).ownBlock = some (w5.alloc (.cells #[.int .i64 a, .float .f64 f0, .slice ao2 m2 c2] 67)).heap.size)
    (hf : (T.drop p').length ≤ f + 1) (hdf : dn + (f + 1) ≤ M + 1) (h124 : sg (T.drop p') = 124) (htl : (T.drop p').tail = T.drop (p' + 1)) (hpre : preA done (pMore (pSub k) (f + 1) (T.drop p')) = X)
    (hun : (E = 0 ∧ ∃ i, pAlt (pSub k) (T.drop (p' + 1)) = .ok (i, T.drop p2) ∧ [.int .i64 a, .float .f64 f0, .slice ao2 m2 c2] = AltC i (.slice ao2 m2 c2) ∧ ListOf 5 (EItm (AltsAt k)) w3 (fun g => wr.heap.size ≤ g) (.slice ao2 m2 c2) i.2.2 ∧ Good (T.drop p2) ∧ (T.drop p2).length ≤ (T.drop (p' + 1)).length) ∨
     (∃ q, E = q.1 ∧ pAlt (pSub k) (T.drop (p' + 1)) = .error q ∧ 0 < q.1 ∧ p2 < n ∧ (T.getD p2 ⟨0, 0, [], 0⟩).at_ = q.2)) :
    RAltsR k g cap n M T X w (.slice ao6 (dn + 1) ao6cap) w6 ∧ rleft n w.heap.size w6 < rleft n w.heap.size wq := by
  subst hdn
  have hlt := how.lt
  have kg := Kp.of_grown hg6
  have ka : Kp (fun _ => False) w5 (w5.alloc (.cells #[.int .i64 a, .float .f64 f0, .slice ao2 m2 c2] 67)) := Kp.alloc _ _ _
  have hz6 : w5.heap.size + 1 ≤ w6.heap.size := by have := kg.size; rw [World.size_alloc] at this; exact this
  have hne : ∀ j, j < w.heap.size + 2 → some j ≠ (Value.slice ao done.length icap).ownBlock := fun j hj e => by have := (hlt j e.symm).1; omega
  have d0 := Blk.grown (b0.alloc _) hg6 (hne _ (by omega))
  have d1 := Blk.grown (b1.alloc _) hg6 (hne _ (by omega))
  have hbF : Below w.heap.size w w6 :=
    (hbel.trans (ka.below (by have := hbel.size; omega) (fun i h => h.elim))).trans (kg.below (by rw [World.size_alloc]; omega) (fun i hi => by have := (hlt i hi).1; omega))
  rw [rleft_st d0, hrl]
  unfold RAltsR
  rw [hd]
  rcases hun with ⟨rfl, i, hi, hcs, hv, hgd, hl⟩ | ⟨q, rfl, hi, hq, hp2, hqa⟩
  · rw [hcs] at hown6 hg6 hat6
    have hO6 := own_more (keepsAlt (keepsAlts k)) (x := i) hus1 hus2 hus4 how (fun g hg hb => hk5 g hg (by omega)) (by omega) (show EAlt (AltsAt k) w5 (fun g => wr.heap.size ≤ g) i (AltC i (.slice ao2 m2 c2)) from ⟨_, rfl, hv.keep (keepsItm (keepsAlts k)) (fun g hg hb => ⟨hb, hk35 g hg (by have : wr.heap.size ≤ g := hb; omega)⟩) hz5⟩) rfl hzr hown6 hg6 hat6
    have hgl : 0 < (T.drop p2).length := hgd.pos
    rw [List.length_drop, hn] at hgl
    rw [List.length_drop, List.length_drop, hn] at hl
    rw [List.length_drop, hn] at hf
    refine ⟨⟨hbF, by omega, d1, .inl ⟨done ++ [i], p2, f, by simp, hgd, by rw [List.length_drop, hn]; omega, by rw [List.length_append]; simp; omega, d0, hO6, ?_⟩⟩, by rw [if_pos rfl]; omega⟩
    rw [← hpre, preA_step _ _ _ _ _ _ h124 (by rw [htl]; exact hi)]
  · refine ⟨⟨hbF, by omega, d1, .inr ⟨q, p2, _, _, _, ?_, hq, by rw [hn]; exact hp2, hqa, d0, rfl⟩⟩, by rw [if_neg (by omega)]; omega⟩
    rw [← hpre]
    exact preA_err _ _ _ _ _ h124 (by rw [htl]; exact hi)
set_option maxRecDepth 100000 in
set_option maxHeartbeats 4000000 in
theorem ralts_any (k : Nat) (hA : RAltOk k) : RAltsOk k := by
  intro w g cap p T hk h hg
  have hgl := h.lt
  have hlen := h.len
  have hcl := h.capl
  have hcm := h.capm
  have HA := Lib.hid hA
  have HT := Lib.hid h
  have HG := Lib.hid hg
  unfold maxLen at hcm
  rw [pA_sub]
  generalize hX : pAlts (pSub k) (T.drop p) = X at *
  generalize hn : T.length = n at *
  have HN := Lib.hid hn
  have HX0 := Lib.hid hX
  generalize hm : (T.drop p).length = m at *
  have hml : m ≤ 65537 := by rw [List.length_drop, hn] at hm; omega
  have HM := Lib.hid hm
  clear h hg hA hX hn hm
  unfold StV
  generalize hd1 : 16 - k = d at *
  have HD1 := Lib.hid hd1
  clear hd1
  go_enter Tryz.func18, Tryz.ntmps18
  go_upto_region 1 with fail
  have he := entry2 w #[.slice (some ⟨g, 0, none⟩) n cap, .int .i64 p, .int .i64 d, .int .i64 0] #[.slice none 0 0, .int .i64 0, .int .i64 0, .int .i64 0] 59 59
  generalize (w.alloc (.cells #[.slice (some ⟨g, 0, none⟩) n cap, .int .i64 p, .int .i64 d, .int .i64 0] 59)).alloc (.cells #[.slice none 0 0, .int .i64 0, .int .i64 0, .int .i64 0] 59) = w1 at *
  obtain ⟨hb1, hz1, b0, b1⟩ := he
  have hal := HA.out w1 g cap p T hk (HT.out.below hb1 hgl) HG.out
  rw [HN.out, HD1.out, HM.out] at hal
  unfold StV at hal
  have x0 : w1.cell? ⟨w.heap.size, 0, none⟩ = some (.slice (some ⟨g, 0, none⟩) n cap) := b0.cell 0
  have x1 : w1.cell? ⟨w.heap.size, 1, none⟩ = some (.int .i64 p) := b0.cell 1
  have x2 : w1.cell? ⟨w.heap.size, 2, none⟩ = some (.int .i64 d) := b0.cell 2
  have x3 : w1.cell? ⟨w.heap.size, 3, none⟩ = some (.int .i64 0) := b0.cell 3
  have l0 := b0.lt
  have B0 := Lib.hid b0
  have B1 := Lib.hid b1
  have HB1 := Lib.hid hb1
  have HZ1 := Lib.hid hz1
  clear b0 b1 hb1
  go_wp2_with fail
  refine hal.mono ?_
  intro e w3 han
  obtain ⟨p2, E, a, f, ao2, m2, c2, rfl, hb3, hun⟩ := alt_un HN.out han
  clear hal han x0 x1 x2 x3 l0
  have HUN := Lib.hid hun
  have b0 := B0.out.below hb3 B0.out.lt
  have b1 := B1.out.below hb3 B1.out.lt
  have hz3 := hb3.size
  have HB3 := Lib.hid (HB1.out.trans (hb3.mono (by omega)))
  have l0 := b0.lt
  have x0 : w3.cell? ⟨w.heap.size, 0, none⟩ = some (.slice (some ⟨g, 0, none⟩) n cap) := b0.cell 0
  have x1 : w3.cell? ⟨w.heap.size, 1, none⟩ = some (.int .i64 p) := b0.cell 1
  have x2 : w3.cell? ⟨w.heap.size, 2, none⟩ = some (.int .i64 d) := b0.cell 2
  have x3 : w3.cell? ⟨w.heap.size, 3, none⟩ = some (.int .i64 0) := b0.cell 3
  have v0 := b0.frozen 0
  have v1 := b0.frozen 1
  have v2 := b0.frozen 2
  have v3 := b0.frozen 3
  have C0 := Lib.hid b0
  have C1 := Lib.hid b1
  clear hun b0 b1 hb3
  go_upto_region 2 with fail
  have hks := kp_st w3 w.heap.size (.slice (some ⟨g, 0, none⟩) n cap) (.int .i64 p2) (.int .i64 d) (.int .i64 E)
  have b0 : Blk ((((w3.setCell ⟨w.heap.size, 0, none⟩ (.slice (some ⟨g, 0, none⟩) n cap)).setCell ⟨w.heap.size, 1, none⟩ (.int .i64 p2)).setCell ⟨w.heap.size, 2, none⟩ (.int .i64 d)).setCell ⟨w.heap.size, 3, none⟩ (.int .i64 E)) w.heap.size 59 #[.slice (some ⟨g, 0, none⟩) n cap, .int .i64 p2, .int .i64 d, .int .i64 E] :=
    (((C0.out.set_ 0 (.slice (some ⟨g, 0, none⟩) n cap)).set_ 1 (.int .i64 p2)).set_ 2 (.int .i64 d)).set_ 3 (.int .i64 E)
  have hzs : ((((w3.setCell ⟨w.heap.size, 0, none⟩ (.slice (some ⟨g, 0, none⟩) n cap)).setCell ⟨w.heap.size, 1, none⟩ (.int .i64 p2)).setCell ⟨w.heap.size, 2, none⟩ (.int .i64 d)).setCell ⟨w.heap.size, 3, none⟩ (.int .i64 E)).heap.size = w3.heap.size := by simp
  clear x0 x1 x2 x3 v0 v1 v2 v3 l0
  generalize (((w3.setCell ⟨w.heap.size, 0, none⟩ (.slice (some ⟨g, 0, none⟩) n cap)).setCell ⟨w.heap.size, 1, none⟩ (.int .i64 p2)).setCell ⟨w.heap.size, 2, none⟩ (.int .i64 d)).setCell ⟨w.heap.size, 3, none⟩ (.int .i64 E) = ws at *
  have s4 := Blk.new ws 67 #[.int .i64 a, .float .f64 f, .slice ao2 m2 c2]
  have hkw := Kp.alloc (fun _ => False) ws (.cells #[.int .i64 a, .float .f64 f, .slice ao2 m2 c2] 67)
  have b0 := b0.alloc (.cells #[.int .i64 a, .float .f64 f, .slice ao2 m2 c2] 67)
  have b1 : Blk ws (w.heap.size + 1) _ _ := C1.out.kept hks (by show ¬ w.heap.size + 1 = w.heap.size; omega)
  have b1 := b1.alloc (.cells #[.int .i64 a, .float .f64 f, .slice ao2 m2 c2] 67)
  have hz4 : (ws.alloc (.cells #[.int .i64 a, .float .f64 f, .slice ao2 m2 c2] 67)).heap.size = w3.heap.size + 1 := by rw [World.size_alloc, hzs]
  rw [hzs] at s4
  generalize ws.alloc (.cells #[.int .i64 a, .float .f64 f, .slice ao2 m2 c2] 67) = w4 at *
  have hk34 : ∀ i, i < w3.heap.size → i ≠ w.heap.size → w4.heap[i]? = w3.heap[i]? := fun i hi hne => (hkw.block i (by omega) (fun h => h)).trans (hks.block i hi hne)
  have hbel : Below w.heap.size w w4 := HB3.out.trans ((hks.below (n := w.heap.size) (by have := HZ1.out; omega) (fun i hi => by omega)).trans (hkw.below (by have := HZ1.out; omega) (fun i hi => hi.elim)))
  have hst : RAltsR k g cap n m T X w (.slice (some ⟨w4.heap.size, 0, none⟩) 1 1) (w4.alloc (.cells #[.int .i64 a, .float .f64 f, .slice ao2 m2 c2] 67)) := by
    have hz1' := HZ1.out
    unfold RAltsR
    rw [HD1.out]
    refine ⟨hbel.trans ((Below.refl _ _).alloc (by omega) _), by rw [World.size_alloc]; omega, b1.alloc _, ?_⟩
    rcases HUN.out with ⟨rfl, i, hi, hcs, hv, hgd, hl⟩ | ⟨q, rfl, hi, hq, hp2, hqa⟩
    · have hca : (#[.int .i64 a, .float .f64 f, .slice ao2 m2 c2] : Array Value) = (AltC i (.slice ao2 m2 c2)).toArray := by rw [← hcs]
      refine .inl ⟨[i], p2, (T.drop p2).length, by simp, hgd, Nat.le_refl _, by show 1 + (T.drop p2).length ≤ m + 1; omega, b0.alloc _, ?_, ?_⟩
      · rw [hca]
        exact OwnOf.lit1 (keepsAlt (keepsAlts k)) 67 (w.heap.size + 2) w4 (by omega) i (AltC i (.slice ao2 m2 c2)) rfl ⟨_, rfl, hv.keep (keepsItm (keepsAlts k)) (fun g hg hb => ⟨Nat.le_trans (Nat.le_of_eq hz1'.symm) hb, hk34 g hg (by have : w1.heap.size ≤ g := hb; omega)⟩) (by omega)⟩
      · rw [← HX0.out]
        exact alts_eq _ _ _ _ hi
    · refine .inr ⟨q, p2, _, _, _, ?_, hq, by rw [HN.out]; exact hp2, hqa, b0.alloc _, rfl⟩
      rw [← HX0.out]
      unfold pAlts
      rw [hi]
  have HST := Lib.hid hst
  have j0 : w4.cell? ⟨w3.heap.size, 0, none⟩ = some (.int .i64 a) := s4.cell 0
  have j1 : w4.cell? ⟨w3.heap.size, 1, none⟩ = some (.float .f64 f) := s4.cell 1
  have j2 : w4.cell? ⟨w3.heap.size, 2, none⟩ = some (.slice ao2 m2 c2) := s4.cell 2
  have ls4 := s4.lt
  clear hst hbel hk34 s4 b0 b1 hks hkw hzs hz4 hz3 HUN B0 B1 HB1 HZ1 C0 C1 HB3
  go_wp2_with fail
  clear j0 j1 j2 ls4
  go_loopw [5] (fun lv wr => RAltsR k g cap n m T X w lv wr) (fun _ wr => rleft n w.heap.size wr)
  case atStart => exact HST.out
  case round =>
    obtain ⟨hbr, hzr, b1, hh⟩ := hrel
    clear HST
    rw [HD1.out] at hh
    have HBR := Lib.hid hbr
    have HTR := Lib.hid (HT.out.below hbr hgl)
    have BX1 := Lib.hid b1
    clear b1 hbr
    rcases hh with ⟨done, p', f, hne, hg1, hf, hdf, b0, ho, hpre⟩ | ⟨q, p', ao, m', c', hX, hq, hpl, hqa, b0, rfl⟩
    · obtain ⟨f, rfl⟩ : ∃ f', f = f' + 1 := ⟨f - 1, by have := hg1.pos; omega⟩
      have hp2 : p' < n := by
        have := hg1.pos
        rw [List.length_drop, HN.out] at this
        omega
      obtain ⟨ao, icap, rfl⟩ : ∃ ao cap, u5 = .slice ao done.length cap := by
        obtain ⟨us, _, _, h3, _⟩ := ho
        exact own_form h3
      have hs := rsign_any wr g cap p' d 0 T 124 (by decide) HTR.out hg1
      rw [HN.out] at hs
      unfold StV at hs
      have hrl : rleft n w.heap.size wr = 1 + (n - p') := by rw [rleft_st b0, if_pos rfl]
      have HRL := Lib.hid hrl
      have BX0 := Lib.hid b0
      have HG1 := Lib.hid hg1
      have HO := Lib.hid ho
      have HPRE := Lib.hid hpre
      have HF := Lib.hid hf
      have HNE := Lib.hid hne
      have HDF := Lib.hid hdf
      clear hrl b0 hg1 ho hpre hf hdf hne
      have x0 : wr.cell? ⟨w.heap.size, 0, none⟩ = some (.slice (some ⟨g, 0, none⟩) n cap) := BX0.out.cell 0
      have x1 : wr.cell? ⟨w.heap.size, 1, none⟩ = some (.int .i64 p') := BX0.out.cell 1
      have x2 : wr.cell? ⟨w.heap.size, 2, none⟩ = some (.int .i64 d) := BX0.out.cell 2
      have x3 : wr.cell? ⟨w.heap.size, 3, none⟩ = some (.int .i64 0) := BX0.out.cell 3
      have l0 := BX0.out.lt
      have v1 := BX0.out.frozen 1
      by_cases h124 : sg (T.drop p') = 124
      · rw [decide_eq_true (show sg (T.drop p') = UInt8.toNat 124 from h124)] at hs
        obtain ⟨t2, r2, hd2, hst, hgr2⟩ := HG1.out.sg_tail (by omega)
        obtain ⟨_, _, hdr2⟩ := drop_lt hd2
        have HTL : Hid ((T.drop p').tail = T.drop (p' + 1)) := Lib.hid (by rw [hd2, hdr2]; rfl)
        have HG2 : Hid (Good (T.drop (p' + 1))) := Lib.hid (by rw [hdr2]; exact hgr2)
        have H124 := Lib.hid h124
        clear h124 hd2 hst hgr2 hdr2
        go_wp2_with fail
        refine hs.mono ?_
        rintro e wx ⟨rfl, hbx⟩
        clear hs
        clear x0 x1 x2 x3 l0 v1
        have hzx : w.heap.size + 2 ≤ wx.heap.size := by have := hbx.size; omega
        have BX0 := Lib.hid (BX0.out.below hbx BX0.out.lt)
        have BX1 := Lib.hid (BX1.out.below hbx BX1.out.lt)
        have HBR := Lib.hid (HBR.out.trans (hbx.mono (by omega)))
        have HTR := Lib.hid (HTR.out.below hbx HTR.out.lt)
        have HO := Lib.hid (HO.out.keep (keepsAlt (keepsAlts k)) (fun g hg _ => hbx.block g hg) hbx.size)
        clear hbx
        have HPC := Lib.hid (show ((p' : Int) + 1) = ((p' + 1 : Nat) : Int) from rfl)
        have x0 : wx.cell? ⟨w.heap.size, 0, none⟩ = some (.slice (some ⟨g, 0, none⟩) n cap) := BX0.out.cell 0
        have x1 : wx.cell? ⟨w.heap.size, 1, none⟩ = some (.int .i64 p') := BX0.out.cell 1
        have x2 : wx.cell? ⟨w.heap.size, 2, none⟩ = some (.int .i64 d) := BX0.out.cell 2
        have x3 : wx.cell? ⟨w.heap.size, 3, none⟩ = some (.int .i64 0) := BX0.out.cell 3
        have l0 := BX0.out.lt
        have v1 := BX0.out.frozen 1
        go_upto_region 5 with fail
        have hk1 := kp_at wx w.heap.size 1 (.int .i64 ((p' : Int) + 1))
        have b0 : Blk (wx.setCell ⟨w.heap.size, 1, none⟩ (.int .i64 ((p' : Int) + 1))) w.heap.size 59 #[.slice (some ⟨g, 0, none⟩) n cap, .int .i64 (p' + 1 : Nat), .int .i64 d, .int .i64 0] := BX0.out.set_ 1 (.int .i64 ((p' : Int) + 1))
        clear x0 x1 x2 x3 l0 v1
        generalize wx.setCell ⟨w.heap.size, 1, none⟩ (.int .i64 ((p' : Int) + 1)) = wy at *
        have hzy : w.heap.size + 2 ≤ wy.heap.size := by have := hk1.size; omega
        have BX0 := Lib.hid b0
        have BX1 : Hid (Blk wy (w.heap.size + 1) _ _) := Lib.hid (BX1.out.kept hk1 (by show ¬ w.heap.size + 1 = w.heap.size; omega))
        have HBR := Lib.hid (HBR.out.trans (hk1.below (n := w.heap.size) (by omega) (fun i hi => by have : i = w.heap.size := hi; omega)))
        have HTR := Lib.hid (HT.out.below HBR.out hgl)
        have HO := Lib.hid (HO.out.keep (keepsAlt (keepsAlts k)) (fun g hg hb => hk1.block g hg (by show ¬ g = w.heap.size; omega)) hk1.size)
        clear b0 hk1 hzx
        have hal := HA.out wy g cap (p' + 1) T hk HTR.out HG2.out
        rw [HN.out, HD1.out] at hal
        unfold StV at hal
        have x0 : wy.cell? ⟨w.heap.size, 0, none⟩ = some (.slice (some ⟨g, 0, none⟩) n cap) := BX0.out.cell 0
        have x1 : wy.cell? ⟨w.heap.size, 1, none⟩ = some (.int .i64 (p' + 1 : Nat)) := BX0.out.cell 1
        have x2 : wy.cell? ⟨w.heap.size, 2, none⟩ = some (.int .i64 d) := BX0.out.cell 2
        have x3 : wy.cell? ⟨w.heap.size, 3, none⟩ = some (.int .i64 0) := BX0.out.cell 3
        have l0 := BX0.out.lt
        have v1 := BX0.out.frozen 1
        go_wp2_with fail
        refine hal.mono ?_
        intro e w3 han
        obtain ⟨p2, E, a, f0, ao2, m2, c2, rfl, hb3, hun⟩ := alt_un HN.out han
        clear hal han
        clear x0 x1 x2 x3 l0 v1
        have HUN := Lib.hid hun
        have C0 := Lib.hid (BX0.out.below hb3 BX0.out.lt)
        have C1 := Lib.hid (BX1.out.below hb3 BX1.out.lt)
        have hz3 := hb3.size
        have HB3 := Lib.hid hb3
        clear hun hb3
        go_upto_region 6 with fail
        have he := entry2 w3 #[.slice (some ⟨g, 0, none⟩) n cap, .int .i64 p2, .int .i64 d, .int .i64 E] #[.int .i64 a, .float .f64 f0, .slice ao2 m2 c2] 59 67
        generalize (w3.alloc (.cells #[.slice (some ⟨g, 0, none⟩) n cap, .int .i64 p2, .int .i64 d, .int .i64 E] 59)).alloc (.cells #[.int .i64 a, .float .f64 f0, .slice ao2 m2 c2] 67) = w4 at *
        obtain ⟨hb4, hz4, s5, s6⟩ := he
        have HB4 := Lib.hid hb4
        have HZ4 := Lib.hid hz4
        have D0 := Lib.hid (C0.out.below hb4 C0.out.lt)
        have D1 := Lib.hid (C1.out.below hb4 C1.out.lt)
        have D6 := Lib.hid s6
        have l0 := D0.out.lt
        have v0 := D0.out.frozen 0
        have v1 := D0.out.frozen 1
        have v2 := D0.out.frozen 2
        have v3 := D0.out.frozen 3
        have x0 : w4.cell? ⟨w.heap.size, 0, none⟩ = some (.slice (some ⟨g, 0, none⟩) n cap) := D0.out.cell 0
        have x1 : w4.cell? ⟨w.heap.size, 1, none⟩ = some (.int .i64 (p' + 1 : Nat)) := D0.out.cell 1
        have x2 : w4.cell? ⟨w.heap.size, 2, none⟩ = some (.int .i64 d) := D0.out.cell 2
        have x3 : w4.cell? ⟨w.heap.size, 3, none⟩ = some (.int .i64 0) := D0.out.cell 3
        have q0 : w4.cell? ⟨w3.heap.size, 0, none⟩ = some (.slice (some ⟨g, 0, none⟩) n cap) := s5.cell 0
        have q1 : w4.cell? ⟨w3.heap.size, 1, none⟩ = some (.int .i64 p2) := s5.cell 1
        have q2 : w4.cell? ⟨w3.heap.size, 2, none⟩ = some (.int .i64 d) := s5.cell 2
        have q3 : w4.cell? ⟨w3.heap.size, 3, none⟩ = some (.int .i64 E) := s5.cell 3
        clear hb4 hz4 s5 s6 C0 C1
        go_upto_region 7 with fail
        have hks := kp_st w4 w.heap.size (.slice (some ⟨g, 0, none⟩) n cap) (.int .i64 p2) (.int .i64 d) (.int .i64 E)
        have b0 : Blk ((((w4.setCell ⟨w.heap.size, 0, none⟩ (.slice (some ⟨g, 0, none⟩) n cap)).setCell ⟨w.heap.size, 1, none⟩ (.int .i64 p2)).setCell ⟨w.heap.size, 2, none⟩ (.int .i64 d)).setCell ⟨w.heap.size, 3, none⟩ (.int .i64 E)) w.heap.size 59 #[.slice (some ⟨g, 0, none⟩) n cap, .int .i64 p2, .int .i64 d, .int .i64 E] :=
          (((D0.out.set_ 0 (.slice (some ⟨g, 0, none⟩) n cap)).set_ 1 (.int .i64 p2)).set_ 2 (.int .i64 d)).set_ 3 (.int .i64 E)
        clear x0 x1 x2 x3 q0 q1 q2 q3 v0 v1 v2 v3 l0
        generalize (((w4.setCell ⟨w.heap.size, 0, none⟩ (.slice (some ⟨g, 0, none⟩) n cap)).setCell ⟨w.heap.size, 1, none⟩ (.int .i64 p2)).setCell ⟨w.heap.size, 2, none⟩ (.int .i64 d)).setCell ⟨w.heap.size, 3, none⟩ (.int .i64 E) = w5 at *
        have hz45 := hks.size
        have hz4 := HZ4.out
        have b1 : Blk w5 (w.heap.size + 1) _ _ := D1.out.kept hks (by show ¬ w.heap.size + 1 = w.heap.size; omega)
        have s6 : Blk w5 (w3.heap.size + 1) _ _ := D6.out.kept hks (by show ¬ w3.heap.size + 1 = w.heap.size; omega)
        have hk35 : ∀ i, i < w3.heap.size → i ≠ w.heap.size → w5.heap[i]? = w3.heap[i]? := fun i hi hne => (hks.block i (by omega) hne).trans (HB4.out.block i hi)
        have hk5 : ∀ i, i < wy.heap.size → i ≠ w.heap.size → w5.heap[i]? = wy.heap[i]? := fun i hi hne => (hk35 i (by omega) hne).trans (HB3.out.block i hi)
        have hbel5 : Below w.heap.size w w5 := (HBR.out.trans (HB3.out.mono (by omega))).trans ((HB4.out.mono (by omega)).trans (hks.below (n := w.heap.size) (by omega) (fun i hi => by omega)))
        obtain ⟨us, hus1, hus2, how, hus4⟩ := HO.out
        have how5 := ownsRow_keep how (w' := w5) (fun g hg hv => hk5 g hg (by have := (how.lt g hv).1; omega))
        have F0 := Lib.hid b0
        have F1 := Lib.hid b1
        have HK35 := Lib.hid hk35
        have HK5 := Lib.hid hk5
        have HBL := Lib.hid hbel5
        have HU1 := Lib.hid hus1
        have HU2 := Lib.hid hus2
        have HOW := Lib.hid how
        have HU4 := Lib.hid hus4
        have HW5 := Lib.hid how5
        have ls6 := s6.lt
        have i0 : w5.cell? ⟨w3.heap.size + 1, 0, none⟩ = some (.int .i64 a) := s6.cell 0
        have i1' : w5.cell? ⟨w3.heap.size + 1, 1, none⟩ = some (.float .f64 f0) := s6.cell 1
        have i2 : w5.cell? ⟨w3.heap.size + 1, 2, none⟩ = some (.slice ao2 m2 c2) := s6.cell 2
        have hbd : done.length ≤ 70000 := by have := HDF.out; omega
        have hsz5 : w.heap.size + 2 ≤ w5.heap.size := by omega
        clear b0 b1 s6 D0 D1 D6 hks hk35 hk5 hbel5 hus1 hus2 how hus4 how5 hz45 hz4
        obtain ⟨i1, ki, kz0, kz1, kz2⟩ := info_parts info_ralt
        generalize hdn : done.length = dn at *
        have HDN := Lib.hid hdn
        clear hdn
        go_wp2_with (at_builtin; refine wpList_append_own_at _ rfl _ _ 35 rfl (w.heap.size + 2) 67 i1 (.agg #[.int .i64 0, .float .f64 0, .slice none 0 0]) 3 40 Tryz.underlying35 ki kz0 kz1 kz2 rfl (by decide) _ dn us.flatten rfl (HW5.out.alloc _) ⟨w5.heap.size, 0, none⟩ 1 1 [.int .i64 a, .float .f64 f0, .slice ao2 m2 c2] rfl rfl (new_cells _ _ _) (one3 _ _ _ _ _) (by unfold maxLen; omega) (by omega) (by rw [World.size_alloc]; omega) ?_; intro v6 w6 hown6 hg6 _ hat6; obtain ⟨ao6, cap6, rfl⟩ := own_form hown6)
        exact raltsR_step HN.out HD1.out HDN.out hzy hz3 hp2 HRL.out HK35.out HK5.out (by omega) HBL.out F0.out F1.out (HU1.out.trans HDN.out.symm) HU2.out HOW.out HU4.out hown6 hg6 hat6 HF.out HDF.out H124.out HTL.out HPRE.out HUN.out
      · rw [decide_eq_false (show ¬ sg (T.drop p') = UInt8.toNat 124 from h124)] at hs
        have HXX : Hid (X = .ok (done, T.drop p')) := Lib.hid (by rw [← HPRE.out]; exact preA_end _ _ _ _ h124)
        clear h124
        go_wp2_with fail
        refine hs.mono ?_
        rintro e wx ⟨rfl, hbx⟩
        clear hs
        clear x0 x1 x2 x3 l0 v1
        have hzx : w.heap.size + 2 ≤ wx.heap.size := by have := hbx.size; omega
        have BX0 := Lib.hid (BX0.out.below hbx BX0.out.lt)
        have BX1 := Lib.hid (BX1.out.below hbx BX1.out.lt)
        have HBR := Lib.hid (HBR.out.trans (hbx.mono (by omega)))
        have HTR := Lib.hid (HTR.out.below hbx HTR.out.lt)
        have HO := Lib.hid (HO.out.keep (keepsAlt (keepsAlts k)) (fun g hg _ => hbx.block g hg) hbx.size)
        clear hbx
        have x0 : wx.cell? ⟨w.heap.size, 0, none⟩ = some (.slice (some ⟨g, 0, none⟩) n cap) := BX0.out.cell 0
        have x1 : wx.cell? ⟨w.heap.size, 1, none⟩ = some (.int .i64 p') := BX0.out.cell 1
        have x2 : wx.cell? ⟨w.heap.size, 2, none⟩ = some (.int .i64 d) := BX0.out.cell 2
        have x3 : wx.cell? ⟨w.heap.size, 3, none⟩ = some (.int .i64 0) := BX0.out.cell 3
        have l0 := BX0.out.lt
        have v1 := BX0.out.frozen 1
        have l1 := BX1.out.lt
        have y0 : wx.cell? ⟨w.heap.size + 1, 0, none⟩ = some (.slice none 0 0) := BX1.out.cell 0
        have y1 : wx.cell? ⟨w.heap.size + 1, 1, none⟩ = some (.int .i64 0) := BX1.out.cell 1
        have y2 : wx.cell? ⟨w.heap.size + 1, 2, none⟩ = some (.int .i64 0) := BX1.out.cell 2
        have y3 : wx.cell? ⟨w.heap.size + 1, 3, none⟩ = some (.int .i64 0) := BX1.out.cell 3
        have vy0 := BX1.out.frozen 0
        have vy1 := BX1.out.frozen 1
        have vy2 := BX1.out.frozen 2
        have vy3 := BX1.out.frozen 3
        go_wp2_with fail
        have hke := kp_st wx (w.heap.size + 1) (.slice (some ⟨g, 0, none⟩) n cap) (.int .i64 p') (.int .i64 d) (.int .i64 0)
        refine bodyPost_ret (v := .tuple #[.agg #[.slice (some ⟨g, 0, none⟩) n cap, .int .i64 p', .int .i64 d, .int .i64 0], .slice ao done.length icap]) (by simp [results, Tryz.results18, go_sem, y0, y1, y2, y3]) rfl ?_
        generalize (((wx.setCell ⟨w.heap.size + 1, 0, none⟩ (.slice (some ⟨g, 0, none⟩) n cap)).setCell ⟨w.heap.size + 1, 1, none⟩ (.int .i64 p')).setCell ⟨w.heap.size + 1, 2, none⟩ (.int .i64 d)).setCell ⟨w.heap.size + 1, 3, none⟩ (.int .i64 0) = wz at *
        have hbz := HBR.out.trans (hke.below (n := w.heap.size) (by have := HBR.out.size; omega) (fun i hi => by have : i = w.heap.size + 1 := hi; omega))
        refine ⟨hbz, ?_⟩
        clear hbz
        rw [HXX.out, ← HN.out]
        have hL : AltsAt (k + 1) wz (fun g => w.heap.size ≤ g) (.slice ao done.length icap) done := (HO.out.done (keepsAlt (keepsAlts k))).keep (keepsAlt (keepsAlts k)) (fun g hg hA => ⟨Nat.le_trans (Nat.le_add_right _ 2) hA, hke.block g hg (fun h => by have h4 : w.heap.size + 2 ≤ g := hA; have h5 : g = w.heap.size + 1 := h; omega)⟩) hke.size
        have hm : (T.drop p').length ≤ m := by have := HF.out; have := HDF.out; have := List.length_pos_iff.2 (show done ≠ [] from HNE.out); omega
        exact ⟨p', .slice ao done.length icap, rfl, hL, rfl, HG1.out, hm⟩
    · have BX0 := Lib.hid b0
      have HX := Lib.hid hX
      have HPL := Lib.hid hpl
      have HQA := Lib.hid hqa
      have hq1 : ((q.1 : Int) == 0) = false := by rw [beq_eq_false_iff_ne]; omega
      clear b0 hX hpl hqa
      have x0 : wr.cell? ⟨w.heap.size, 0, none⟩ = some (.slice (some ⟨g, 0, none⟩) n cap) := BX0.out.cell 0
      have x1 : wr.cell? ⟨w.heap.size, 1, none⟩ = some (.int .i64 p') := BX0.out.cell 1
      have x2 : wr.cell? ⟨w.heap.size, 2, none⟩ = some (.int .i64 d) := BX0.out.cell 2
      have x3 : wr.cell? ⟨w.heap.size, 3, none⟩ = some (.int .i64 q.1) := BX0.out.cell 3
      have l0 := BX0.out.lt
      have v1 := BX0.out.frozen 1
      have l1 := BX1.out.lt
      have y0 : wr.cell? ⟨w.heap.size + 1, 0, none⟩ = some (.slice none 0 0) := BX1.out.cell 0
      have y1 : wr.cell? ⟨w.heap.size + 1, 1, none⟩ = some (.int .i64 0) := BX1.out.cell 1
      have y2 : wr.cell? ⟨w.heap.size + 1, 2, none⟩ = some (.int .i64 0) := BX1.out.cell 2
      have y3 : wr.cell? ⟨w.heap.size + 1, 3, none⟩ = some (.int .i64 0) := BX1.out.cell 3
      have vy0 := BX1.out.frozen 0
      have vy1 := BX1.out.frozen 1
      have vy2 := BX1.out.frozen 2
      have vy3 := BX1.out.frozen 3
      go_wp2_with fail
      have hke := kp_st wr (w.heap.size + 1) (.slice (some ⟨g, 0, none⟩) n cap) (.int .i64 p') (.int .i64 d) (.int .i64 q.1)
      refine bodyPost_ret (v := .tuple #[.agg #[.slice (some ⟨g, 0, none⟩) n cap, .int .i64 p', .int .i64 d, .int .i64 q.1], .slice ao m' c']) (by simp [results, Tryz.results18, go_sem, y0, y1, y2, y3]) rfl ?_
      generalize (((wr.setCell ⟨w.heap.size + 1, 0, none⟩ (.slice (some ⟨g, 0, none⟩) n cap)).setCell ⟨w.heap.size + 1, 1, none⟩ (.int .i64 p')).setCell ⟨w.heap.size + 1, 2, none⟩ (.int .i64 d)).setCell ⟨w.heap.size + 1, 3, none⟩ (.int .i64 q.1) = wz at *
      have hbz := HBR.out.trans (hke.below (n := w.heap.size) (by have := HBR.out.size; omega) (fun i hi => by have : i = w.heap.size + 1 := hi; omega))
      refine ⟨hbz, ?_⟩
      clear hbz
      rw [HX.out, ← HN.out]
      exact ⟨p', .slice ao m' c', rfl, ⟨ao, m', c', rfl⟩, hq, HPL.out, HQA.out⟩
end Go.Proofs.YtdddbkghleblhaaGreatDoor.lx

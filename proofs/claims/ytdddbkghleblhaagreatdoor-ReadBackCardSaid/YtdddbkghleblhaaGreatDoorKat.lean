import Derived.Test.YtdddbkghleblhaaGreatDoorKas
import Derived.Laws.OwnMore
namespace Go.Proofs.YtdddbkghleblhaaGreatDoor.lx
open Go.ChangeShapes Go.WideShapes Go.ChangeAt Go.RowKit
set_option linter.unusedVariables false
attribute [local go_sem] run_store_float
/-! plain, told of the rows that it makes: they are apart -/
/-- a row of items, whatever their alternatives are -/
def Rows5 (B : Nat) (w : World) (v : Value) (is : List Itm) : Prop := ∃ us : List (List Value), us.length = is.length ∧ w.ownsRow B 70 5 v is.length us.flatten ∧ ∀ (j : Nat) (y : Itm), is[j]? = some y → ∃ (ao : Option Addr) (n c : Nat), us[j]? = some (ItmC y (.slice ao n c))
def cells3 : List Altn → List Value → List Value
  | a :: zs, v :: vs => AltC a v ++ cells3 zs vs
  | _, _ => []
/-- a row of alternatives, and their rows of items, each a block of its own -/
def ShM (B : Nat) (w : World) (v : Value) (bs : List Altn) : Prop := ∃ vs : List Value, vs.length = bs.length ∧ w.ownsRow B 67 3 v bs.length (cells3 bs vs) ∧ (∀ (j : Nat) (a : Altn), bs[j]? = some a → ∃ u, vs[j]? = some u ∧ Rows5 B w u a.2.2) ∧ vs.Pairwise (fun a b => a.ownBlock = none ∨ a.ownBlock ≠ b.ownBlock)
theorem itms_len {us : List (List Value)} {is : List Itm} (h : us.length = is.length) (h2 : ∀ (j : Nat) (y : Itm), is[j]? = some y → ∃ (ao : Option Addr) (n c : Nat), us[j]? = some (ItmC y (.slice ao n c))) : ∀ u ∈ us, u.length = 5 := by
  intro u hu
  obtain ⟨j, hj, rfl⟩ := List.getElem_of_mem hu
  obtain ⟨ao, n, c, e⟩ := h2 j _ (List.getElem?_eq_getElem (by omega))
  rw [List.getElem?_eq_getElem hj] at e
  rw [Option.some.inj e]
  rfl
theorem Rows5.keep {B : Nat} {w w' : World} {v : Value} {is : List Itm} (h : Rows5 B w v is) (hk : ∀ g, v.ownBlock = some g → w'.heap[g]? = w.heap[g]?) : Rows5 B w' v is := by
  obtain ⟨us, h1, h2, h3⟩ := h
  exact ⟨us, h1, ownsRow_keep h2 (fun g _ hv => hk g hv), h3⟩
theorem Rows5.lt {B : Nat} {w : World} {v : Value} {is : List Itm} (h : Rows5 B w v is) : ∀ g, v.ownBlock = some g → B ≤ g ∧ g < w.heap.size := by
  obtain ⟨us, h1, h2, h3⟩ := h
  exact h2.lt
theorem Rows5.mono {B B' : Nat} {w : World} {v : Value} {is : List Itm} (h : Rows5 B w v is) (hb : B' ≤ B) : Rows5 B' w v is := by
  obtain ⟨us, h1, h2, h3⟩ := h
  refine ⟨us, h1, ⟨h2.1, ?_⟩, h3⟩
  rcases h2.2 with h | ⟨g, cap, cur, e, hB, r⟩
  · exact .inl h
  · exact .inr ⟨g, cap, cur, e, by omega, r⟩
theorem Rows5.form {B : Nat} {w : World} {v : Value} {is : List Itm} (h : Rows5 B w v is) : ∃ ao cap, v = .slice ao is.length cap := by
  obtain ⟨us, h1, h2, h3⟩ := h
  exact own_form h2
theorem Rows5.nil (B : Nat) (w : World) : Rows5 B w (.slice none 0 0) [] := ⟨[], rfl, World.ownsRow_nil _ _ _ _, fun j y h => by simp at h⟩
theorem cells3_snoc : ∀ (bs : List Altn) (vs : List Value) (a : Altn) (v : Value), vs.length = bs.length → cells3 (bs ++ [a]) (vs ++ [v]) = cells3 bs vs ++ AltC a v
  | [], [], a, v, _ => by simp [cells3]
  | b :: bs, [], a, v, h => by simp at h
  | [], u :: vs, a, v, h => by simp at h
  | b :: bs, u :: vs, a, v, h => by
    have := cells3_snoc bs vs a v (by simpa using h)
    simp [cells3, this]
/-- items one more -/
theorem rows5_step {wo wr w3 w4 : World} {x1 x2 i g4 cap4 cj Y1 Y2 Y5 n2 cp : Nat} {aj ap : Option Addr} {us : List (List Value)} {xs : List Itm} {Y3 : List UInt8} {Y4 : List Altn} (hi : (xs.take i).length = i) (hy : xs[i]? = some (.mk Y1 Y2 Y3 Y4 Y5))
    (hzr : wo.heap.size + 2 ≤ wr.heap.size) (hbi : Below wo.heap.size wo wr) (hk3 : Below wr.heap.size wr w3) (b6 : Blk wr (wo.heap.size + 1) 67 #[.int .i64 x1, .float .f64 x2, .slice aj i cj])
    (hus1 : us.length = (xs.take i).length) (how : wr.ownsRow (wo.heap.size + 2) 70 5 (.slice aj i cj) i us.flatten)
    (hus4 : ∀ (j : Nat) (y : Itm), (xs.take i)[j]? = some y → ∃ (ao : Option Addr) (n c : Nat), us[j]? = some (ItmC y (.slice ao n c)))
    (hown4 : w4.ownsRow (wo.heap.size + 2) 70 5 (.slice (some ⟨g4, 0, none⟩) (i + 1) cap4) (i + 1) (us.flatten ++ [.int .i64 Y1, .int .i64 Y2, .string (S Y3), .slice ap n2 cp, .int .u8 Y5]))
    (hgrow4 : (w3.alloc (.cells #[.int .i64 Y1, .int .i64 Y2, .string (S Y3), .slice ap n2 cp, .int .u8 Y5] 70)).grownBy w4 (Value.slice aj i cj).ownBlock)
    (hat4 : (Value.slice aj i cj).ownBlock = some g4 ∨ w3.heap.size + 1 = g4) :
    Below wo.heap.size wo (w4.setCell ⟨wo.heap.size + 1, 2, none⟩ (.slice (some ⟨g4, 0, none⟩) (i + 1) cap4)) ∧ wo.heap.size + 2 ≤ (w4.setCell ⟨wo.heap.size + 1, 2, none⟩ (.slice (some ⟨g4, 0, none⟩) (i + 1) cap4)).heap.size ∧
    Blk (w4.setCell ⟨wo.heap.size + 1, 2, none⟩ (.slice (some ⟨g4, 0, none⟩) (i + 1) cap4)) (wo.heap.size + 1) 67 #[.int .i64 x1, .float .f64 x2, .slice (some ⟨g4, 0, none⟩) (i + 1) cap4] ∧
    Rows5 (wo.heap.size + 2) (w4.setCell ⟨wo.heap.size + 1, 2, none⟩ (.slice (some ⟨g4, 0, none⟩) (i + 1) cap4)) (.slice (some ⟨g4, 0, none⟩) (i + 1) cap4) (xs.take (i + 1)) := by
  have hlt := how.lt
  have kg := Kp.of_grown hgrow4
  have ka : Kp (fun _ => False) w3 (w3.alloc (.cells #[.int .i64 Y1, .int .i64 Y2, .string (S Y3), .slice ap n2 cp, .int .u8 Y5] 70)) := Kp.alloc _ _ _
  have hz3 := hk3.size
  have hz4 : w3.heap.size + 1 ≤ w4.heap.size := by have := kg.size; rw [World.size_alloc] at this; exact this
  have ks := kp_at w4 (wo.heap.size + 1) 2 (.slice (some ⟨g4, 0, none⟩) (i + 1) cap4)
  have hne : some (wo.heap.size + 1) ≠ (Value.slice aj i cj).ownBlock := fun e => by have := (hlt _ e.symm).1; omega
  have d6 := (Blk.grown ((b6.below hk3 (by omega)).alloc _) hgrow4 hne).set_ 2 (.slice (some ⟨g4, 0, none⟩) (i + 1) cap4)
  refine ⟨?_, by simp; omega, d6, ?_⟩
  · exact (hbi.trans ((hk3.mono (by omega)).trans (ka.below (by omega) (fun i h => h.elim)))).trans ((kg.below (by rw [World.size_alloc]; omega) (fun i hi => by have := (hlt i hi).1; omega)).trans (ks.below (by omega) (fun i hi => by have : i = wo.heap.size + 1 := hi; omega)))
  · have e : xs.take (i + 1) = xs.take i ++ [.mk Y1 Y2 Y3 Y4 Y5] := by rw [List.take_add_one, hy]; rfl
    have el : (xs.take (i + 1)).length = i + 1 := by rw [e, List.length_append, hi]; rfl
    refine ⟨us ++ [[.int .i64 Y1, .int .i64 Y2, .string (S Y3), .slice ap n2 cp, .int .u8 Y5]], by rw [List.length_append, hus1, hi, el]; rfl, ?_, fun j y hj => ?_⟩
    · rw [el]
      refine ownsRow_keep (by simpa using hown4) (fun g hg hv => ?_)
      refine Below.heap_setCell w4 _ _ g ?_
      have := (hown4.lt g hv).1
      show g ≠ wo.heap.size + 1
      omega
    · rw [e] at hj
      by_cases hlt : j < i
      · rw [List.getElem?_append_left (by omega)] at hj
        obtain ⟨ao, n, c, e2⟩ := hus4 j y hj
        exact ⟨ao, n, c, by rw [List.getElem?_append_left (by omega)]; exact e2⟩
      · have hji : j = i := by
          have := (List.getElem?_eq_some_iff.1 hj).1
          rw [List.length_append, hi] at this
          simp at this
          omega
        subst hji
        rw [List.getElem?_append_right (by omega), hi] at hj
        have hj : some (Itm.mk Y1 Y2 Y3 Y4 Y5) = some y := by simpa using hj
        cases hj
        exact ⟨ap, n2, cp, by rw [List.getElem?_append_right (by omega), hus1, hi, Nat.sub_self]; rfl⟩
theorem below_end {w wo wr w6 : World} {lv : Value} {k s : Nat} {xs : List Value} {cs : Array Value} {ty : TypeId} (hbw : Below w.heap.size w wo) (hbi : Below wo.heap.size wo wr) (how : wo.ownsRow w.heap.size ty s lv k xs) (hg6 : (wr.alloc (.cells cs ty)).grownBy w6 lv.ownBlock) : Below w.heap.size w w6 := by
  have hzi := hbi.size
  have hzw := hbw.size
  have kg := Kp.of_grown hg6
  have ka : Kp (fun _ => False) wr (wr.alloc (.cells cs ty)) := Kp.alloc _ _ _
  exact (hbw.trans (hbi.mono hzw)).trans ((ka.below (by omega) (fun i h => h.elim)).trans (kg.below (by rw [World.size_alloc]; omega) (fun i hi => (how.lt i hi).1)))
/-- alternatives one more -/
theorem shM_step {B : Nat} {wo wr w6 : World} {lv u : Value} {k x1 x2 : Nat} {bs : List Altn} {xs : List Itm} {vs : List Value} {v6 : Value} (hk : (bs.take k).length = k) (hx : bs[k]? = some (x1, x2, xs)) (hB : B ≤ wo.heap.size) (hbi : Below wo.heap.size wo wr) (hz : wo.heap.size + 2 ≤ wr.heap.size)
    (h1 : vs.length = k) (h2 : wo.ownsRow B 67 3 lv k (cells3 (bs.take k) vs)) (h3 : ∀ (j : Nat) (a : Altn), (bs.take k)[j]? = some a → ∃ u, vs[j]? = some u ∧ Rows5 B wo u a.2.2) (h4 : vs.Pairwise (fun a b => a.ownBlock = none ∨ a.ownBlock ≠ b.ownBlock))
    (hr : Rows5 (wo.heap.size + 2) wr u xs) (hown : w6.ownsRow B 67 3 v6 (k + 1) (cells3 (bs.take k) vs ++ [.int .i64 x1, .float .f64 x2, u])) (hg : (wr.alloc (.cells #[.int .i64 x1, .float .f64 x2, u] 67)).grownBy w6 lv.ownBlock) :
    ShM B w6 v6 (bs.take (k + 1)) := by
  have e : bs.take (k + 1) = bs.take k ++ [(x1, x2, xs)] := by rw [List.take_add_one, hx]; rfl
  have el : (bs.take (k + 1)).length = k + 1 := by rw [e, List.length_append, hk]; rfl
  have hty : ∀ (w : World) (v : Value) (is : List Itm) (B' : Nat) (w' : World) (v' : Value) (n : Nat) (ys : List Value), Rows5 B' w v is → w.ownsRow B 67 3 v' n ys → v.ownBlock = none ∨ v.ownBlock ≠ v'.ownBlock := fun w v is B' w' v' n ys hr ho => by
    obtain ⟨us, _, h2, _⟩ := hr
    rcases h2.2 with ⟨h, _⟩ | ⟨g, cap, cur, e, hB, hh, _⟩
    · rw [h]; exact .inl rfl
    · right
      intro e2
      rcases ho.2 with ⟨h, _⟩ | ⟨g', cap', cur', e', hB', hh', _⟩
      · rw [e, h] at e2
        cases e2
      · rw [e, e'] at e2
        have e2 : some g = some g' := e2
        cases e2
        rw [hh] at hh'
        have := Option.some.inj hh'
        injection this with _ h2 _
        exact absurd h2 (by decide)
  have keep : ∀ (v : Value) (is : List Itm) (B' : Nat), Rows5 B' wr v is → (∀ g, v.ownBlock = some g → some g ≠ lv.ownBlock) → Rows5 B' w6 v is := fun v is B' h hne => h.keep (fun g hv => by
    have hlt := (h.lt g hv).2
    exact (hg.block g (by rw [World.size_alloc]; omega) (hne g hv)).trans (Below.heap_alloc wr _ g hlt))
  refine ⟨vs ++ [u], by rw [List.length_append, h1, el]; rfl, ?_, fun j a hj => ?_, ?_⟩
  · rw [el, e, cells3_snoc _ _ _ _ (by rw [h1, hk])]
    exact hown
  · rw [e] at hj
    by_cases hlt : j < k
    · rw [List.getElem?_append_left (by omega)] at hj
      obtain ⟨u', e2, hr'⟩ := h3 j a hj
      have hne := hty _ _ _ _ wo _ _ _ hr' h2
      refine ⟨u', by rw [List.getElem?_append_left (by omega)]; exact e2, keep _ _ _ (hr'.keep (fun g hv => hbi.block g (hr'.lt g hv).2)) (fun g hv e3 => ?_)⟩
      rcases hne with h | h
      · rw [hv] at h; cases h
      · exact h (hv.trans e3)
    · have hjk : j = k := by
        have := (List.getElem?_eq_some_iff.1 hj).1
        rw [List.length_append, hk] at this
        simp at this
        omega
      subst hjk
      rw [List.getElem?_append_right (by omega), hk] at hj
      have hj : some (x1, x2, xs) = some a := by simpa using hj
      cases hj
      refine ⟨u, by rw [List.getElem?_append_right (by omega), h1, Nat.sub_self]; rfl, ?_⟩
      refine (keep _ _ _ hr (fun g hv e3 => ?_)).mono (by omega)
      have h5 := (hr.lt g hv).1
      have h6 := (h2.lt g e3.symm).2
      omega
  · rw [List.pairwise_append]
    refine ⟨h4, by simp, fun a ha b hb => ?_⟩
    rw [List.mem_singleton] at hb
    subst hb
    obtain ⟨j, hj, rfl⟩ := List.getElem_of_mem ha
    obtain ⟨u', e2, hr'⟩ := h3 j _ (List.getElem?_eq_getElem (by omega))
    rw [List.getElem?_eq_getElem hj] at e2
    cases e2
    cases hv : (vs[j]).ownBlock with
    | none => exact .inl rfl
    | some g =>
      right
      intro e3
      have h5 := (hr'.lt g hv).2
      have h6 := (hr.lt g e3.symm).1
      omega
set_option maxRecDepth 100000 in
set_option maxHeartbeats 8000000 in
theorem plain_rows (P : World → (Nat → Prop) → Value → List Altn → Prop) (hP : KeepsP P) (hF : ∀ (w : World) (A : Nat → Prop) (v : Value) (bs : List Altn), P w A v bs → ∃ ao cap, v = .slice ao bs.length cap) (Sm : List Altn → Prop) (hrec : PlainT P Sm) (w : World) (A : Nat → Prop) (v : Value) (bs : List Altn) (h1 : ListOf 3 (EAlt P) w A v bs) (hsm : bs.length ≤ 70000 ∧ ∀ (j : Nat) (x : Altn), bs[j]? = some x → x.2.2.length ≤ 70000 ∧ ∀ (i : Nat) (y : Itm), x.2.2[i]? = some y → Sm y.alts) : Calls Tryz.prog 9 #[v] w fun e w' => (∃ v', e = .returned v' ∧ ShM w.heap.size w' v' bs) ∧ Below w.heap.size w w' := by
  have hl7 := hsm.1
  have HSM := Lib.hid hsm
  clear hsm
  obtain ⟨ao, cap, rfl⟩ := ListOf.form h1
  have hl := h1.1
  unfold maxLen at hl
  have H1 := Lib.hid h1
  have HP := Lib.hid hP
  have HC := Lib.hid hrec
  have HF := Lib.hid hF
  generalize hn : bs.length = n at *
  have HN := Lib.hid hn
  clear h1 hrec hP hF hn
  go_enter Tryz.func9, Tryz.ntmps9
  go_wp2_with fail
  have hol : ShM w.heap.size (w.alloc (.cells #[] 67)) (.slice (some ⟨w.heap.size, 0, none⟩) 0 0) (bs.take 0) := by
    have h1 := World.ownsRow_lit (base := w.heap.size) (e := 67) (size := 3) w #[] 0 (Nat.le_refl _) (by decide) (by simp)
    exact ⟨[], by simp, by simpa [cells3] using h1, by simp, by simp⟩
  have HOL := Lib.hid hol
  have HB0 : Hid (Below w.heap.size w (w.alloc (.cells #[] 67))) := Lib.hid ((Below.refl _ _).alloc (Nat.le_refl _) _)
  clear hol
  go_loopw [3, 12] (fun lv i wr => ∃ (k : Nat) (v3 : Value), i = .int .i64 k ∧ v3 = lv ∧ k ≤ n ∧ Below w.heap.size w wr ∧ ShM w.heap.size wr v3 (bs.take k)) (fun _ i _ => n - (intOf i).toNat)
  case atStart => exact ⟨0, _, rfl, rfl, Nat.zero_le _, HB0.out, HOL.out⟩
  case round =>
    clear HB0 HOL
    obtain ⟨k, v3, rfl, rfl, hk, hbr, ho⟩ := hrel
    have HBR := Lib.hid hbr
    have HO := Lib.hid ho
    have hzr := hbr.size
    by_cases hlt : k < n
    · obtain ⟨x, hx⟩ : ∃ x, bs[k]? = some x := ⟨_, List.getElem?_eq_getElem (by rw [HN.out]; exact hlt)⟩
      obtain ⟨g, rfl, hg, cs, _, hcs, iv, rfl, hiv⟩ := ListOf.at2_ (by rw [HN.out]; exact H1.out) hx
      obtain ⟨ai, ci, rfl⟩ := hiv.form
      have HX := Lib.hid hx
      have HIV := Lib.hid hiv
      have hm := hiv.1
      have hsx := HSM.out.2 k x hx
      have hm7 := hsx.1
      have HSX := Lib.hid hsx
      clear hsx
      obtain ⟨x1, x2, xs⟩ := x
      replace hm7 : xs.length ≤ 70000 := hm7
      have c0 : wr.cell? ⟨g, k * 3, none⟩ = some (.int .i64 x1) := (hbr.cell (p := ⟨g, k * 3, none⟩) hg).trans (hcs 0 _ rfl)
      have c1 : wr.cell? ⟨g, k * 3 + 1, none⟩ = some (.float .f64 x2) := (hbr.cell (p := ⟨g, k * 3 + 1, none⟩) hg).trans (hcs 1 _ rfl)
      have c2 : wr.cell? ⟨g, k * 3 + 2, none⟩ = some (.slice ai xs.length ci) := (hbr.cell (p := ⟨g, k * 3 + 2, none⟩) hg).trans (hcs 2 _ rfl)
      have hm : xs.length ≤ maxLen := hm
      unfold maxLen at hm
      generalize hms : xs.length = m at *
      have HMS := Lib.hid hms
      clear hiv hcs hx H1 hbr ho hms
      go_upto_region 6 with fail
      have he := entry2 wr #[.int .i64 x1, .float .f64 x2, .slice ai m ci] #[.int .i64 x1, .float .f64 x2, .slice none 0 0] 45 67
      obtain ⟨wo, rfl⟩ : ∃ wo, wo = wr := ⟨_, rfl⟩
      clear c0 c1 c2
      generalize (wo.alloc (.cells #[.int .i64 x1, .float .f64 x2, .slice ai m ci] 45)).alloc (.cells #[.int .i64 x1, .float .f64 x2, .slice none 0 0] 67) = w6 at *
      obtain ⟨hb6, hz6, b5, b6⟩ := he
      have HB6 := Lib.hid hb6
      have HS : Hid (w6.heap.size = wo.heap.size + 2 ∧ Blk w6 (wo.heap.size + 1) 67 #[.int .i64 x1, .float .f64 x2, .slice none 0 0]) := Lib.hid ⟨hz6, b6⟩
      have q2 : w6.cell? ⟨wo.heap.size, 2, none⟩ = some (.slice ai m ci) := b5.cell 2
      have l5 := b5.lt
      clear hb6 b5 b6 hz6
      go_wp2_with fail
      clear q2 l5
      go_loopw [24] (fun j wi => ∃ (i : Nat) (jv : Value), j = .int .i64 i ∧ i ≤ m ∧ Below wo.heap.size wo wi ∧ wo.heap.size + 2 ≤ wi.heap.size ∧ Blk wi (wo.heap.size + 1) 67 #[.int .i64 x1, .float .f64 x2, jv] ∧ Rows5 (wo.heap.size + 2) wi jv (xs.take i)) (fun j _ => m - (intOf j).toNat)
      case atStart => exact ⟨0, _, rfl, Nat.zero_le _, HB6.out, by rw [HS.out.1]; omega, HS.out.2, by rw [List.take_zero]; exact Rows5.nil _ _⟩
      case round =>
        clear HS HB6
        obtain ⟨i, jv, rfl, hi, hbi, hzi, b6, hoi⟩ := hrel
        obtain ⟨aj, cj, rfl⟩ : ∃ ao cap, jv = .slice ao (xs.take i).length cap := by
          exact hoi.form
        have htk : (xs.take i).length = i := by rw [List.length_take, HMS.out]; omega
        have HBI := Lib.hid hbi
        have HB6 := Lib.hid b6
        have HOI := Lib.hid hoi
        by_cases hli : i < m
        · obtain ⟨y, hy⟩ : ∃ y, xs[i]? = some y := ⟨_, List.getElem?_eq_getElem (by rw [HMS.out]; exact hli)⟩
          obtain ⟨g3, rfl, hg3, cs3, _, hcs3, av, rfl, hav⟩ := ListOf.at2_ (by rw [HMS.out]; exact HIV.out) hy
          obtain ⟨ay, cy, rfl⟩ := HF.out _ _ _ _ hav
          have hbw := HBR.out.trans (hbi.mono hzr)
          have e0 : wr.cell? ⟨g3, i * 5, none⟩ = some (.int .i64 y.at_) := (hbw.cell (p := ⟨g3, i * 5, none⟩) hg3).trans (hcs3 0 _ rfl)
          have e1 : wr.cell? ⟨g3, i * 5 + 1, none⟩ = some (.int .i64 y.kind) := (hbw.cell (p := ⟨g3, i * 5 + 1, none⟩) hg3).trans (hcs3 1 _ rfl)
          have e2 : wr.cell? ⟨g3, i * 5 + 2, none⟩ = some (.string (S y.text)) := (hbw.cell (p := ⟨g3, i * 5 + 2, none⟩) hg3).trans (hcs3 2 _ rfl)
          have e3 : wr.cell? ⟨g3, i * 5 + 3, none⟩ = some (.slice ay y.alts.length cy) := (hbw.cell (p := ⟨g3, i * 5 + 3, none⟩) hg3).trans (hcs3 3 _ rfl)
          have e4 : wr.cell? ⟨g3, i * 5 + 4, none⟩ = some (.int .u8 y.op) := (hbw.cell (p := ⟨g3, i * 5 + 4, none⟩) hg3).trans (hcs3 4 _ rfl)
          have HAV := Lib.hid hav
          have HY := Lib.hid hy
          have HSY := Lib.hid (HSX.out.2 i y hy)
          clear hav hcs3 hy hbw hbi b6 hoi
          obtain ⟨Y1, Y2, Y3, Y4, Y5⟩ := y
          simp only [Itm.at_, Itm.kind, Itm.text, Itm.alts, Itm.op] at e0 e1 e2 e3 e4 HAV HSY
          go_upto_region 9 with fail
          have b8 := Blk.new wr 47 #[.int .i64 Y1, .int .i64 Y2, .string (S Y3), .slice ay Y4.length cy, .int .u8 Y5]
          have hb9 : Below wr.heap.size wr (wr.alloc (.cells #[.int .i64 Y1, .int .i64 Y2, .string (S Y3), .slice ay Y4.length cy, .int .u8 Y5] 47)) := (Below.refl _ _).alloc (Nat.le_refl _) _
          clear e0 e1 e2 e3 e4
          generalize wr.alloc (.cells #[.int .i64 Y1, .int .i64 Y2, .string (S Y3), .slice ay Y4.length cy, .int .u8 Y5] 47) = w9 at *
          have hz9 := hb9.size
          have hbw9 : Below w.heap.size w w9 := (HBR.out.trans (HBI.out.mono hzr)).trans (hb9.mono (by have := HBI.out.size; omega))
          have hit : ∀ wx, Qt w9 wx → Calls Tryz.prog 9 #[.slice ay Y4.length cy] wx fun e w3 => ∃ (ap : Option Addr) (cp : Nat), e = .returned (.slice ap Y4.length cp) ∧ P w3 (fun g => wr.heap.size ≤ g) (.slice ap Y4.length cp) Y4 ∧ Below w9.heap.size w9 w3 := fun wx hq => by
            have hbq : Below w9.heap.size w9 wx := hq.below (B := w9.heap.size)
            have hbx := hbw9.trans (hbq.mono hbw9.size)
            refine (HC.out wx _ _ Y4 (HP.out _ _ _ _ _ _ HAV.out (fun g hg hA => ⟨hA, hbx.block g hg⟩) hbx.size) HSY.out).mono ?_
            rintro e w3 ⟨⟨v', rfl, hv'⟩, hb'⟩
            obtain ⟨ap, cp, rfl⟩ := HF.out _ _ _ _ hv'
            exact ⟨ap, cp, rfl, HP.out _ _ _ _ _ _ hv' (fun g hg hA => ⟨by have : wx.heap.size ≤ g := hA; have := hbq.size; omega, rfl⟩) (Nat.le_refl _), hbq.trans (hb'.mono hbq.size)⟩
          have HIT := Lib.hid hit
          have HB9 := Lib.hid hb9
          obtain ⟨us, hus1, how, hus4⟩ := HOI.out
          rw [htk] at how
          have HOW := Lib.hid how
          have HU1 := Lib.hid hus1
          have HU4 := Lib.hid hus4
          rw [htk] at HB6
          have HB69 := Lib.hid (HB6.out.below hb9 HB6.out.lt)
          have HI9 := Lib.hid b8
          have m0 : w9.cell? ⟨wr.heap.size, 0, none⟩ = some (.int .i64 Y1) := b8.cell 0
          have m1 : w9.cell? ⟨wr.heap.size, 1, none⟩ = some (.int .i64 Y2) := b8.cell 1
          have m2 : w9.cell? ⟨wr.heap.size, 2, none⟩ = some (.string (S Y3)) := b8.cell 2
          have m3 : w9.cell? ⟨wr.heap.size, 3, none⟩ = some (.slice ay Y4.length cy) := b8.cell 3
          have m4 : w9.cell? ⟨wr.heap.size, 4, none⟩ = some (.int .u8 Y5) := b8.cell 4
          have hc9 : w9.cell? ⟨wo.heap.size + 1, 2, none⟩ = some (.slice aj (xs.take i).length cj) := by rw [htk]; exact HB69.out.cell 2
          have hl9 := HB69.out.lt
          have hl8 := b8.lt
          rw [htk] at hc9
          clear hit hb9 b8 hbw9 hus1 how hus4 HOI
          obtain ⟨i1, ki, kz0, kz1, kz2⟩ := info_parts info_ritem
          refine wp_region_E (fun W => Below w9.heap.size w9 W) [15, 16, 17] (by kernel_rfl) ?_
          change anyE _ _ _ _ _ _ _ _ _ (World.drew _)
          have HS : Below w9.heap.size w9 (World.drew w9) := (Below.refl _ _).drew
          refine anyE_take (i := 0) (v := ?_) rfl (by kernel_rfl) (by kernel_rfl) (by kernel_rfl) (by kernel_rfl) (by kernel_rfl) (fun _ _ _ h => h) (Or.inl ⟨by kernel_rfl, ?_⟩) HS ?_
          rotate_left
          · intro w _; go_simp; with_reducible rfl
          refine anyE_take (i := 1) (v := ?_) rfl (by kernel_rfl) (by kernel_rfl) (by kernel_rfl) (by kernel_rfl) (by kernel_rfl) (fun _ _ _ h => h) (Or.inl ⟨by kernel_rfl, ?_⟩) HS ?_
          rotate_left
          · intro w hw; have hw := (hw.cell (p := ⟨wo.heap.size + 1, 2, none⟩) hl9).trans hc9; go_simp; with_reducible rfl
          refine anyE_take (i := 2) (v := ?_) rfl (by kernel_rfl) (by kernel_rfl) (by kernel_rfl) (by kernel_rfl) (by kernel_rfl) (fun _ _ _ h => h) (Or.inl ⟨by kernel_rfl, ?_⟩) HS ?_
          rotate_left
          · intro w _; go_simp; with_reducible rfl
          refine anyE_take (i := 3) (v := ?_) rfl (by kernel_rfl) (by kernel_rfl) (by kernel_rfl) (by kernel_rfl) (by kernel_rfl) (fun _ _ _ h => h) (Or.inl ⟨by kernel_rfl, ?_⟩) HS ?_
          rotate_left
          · intro w hw; have hw := (hw.cell (p := ⟨wr.heap.size, 0, none⟩) hl8).trans m0; go_simp; with_reducible rfl
          refine anyE_take (i := 4) (v := ?_) rfl (by kernel_rfl) (by kernel_rfl) (by kernel_rfl) (by kernel_rfl) (by kernel_rfl) (fun _ _ _ h => h) (Or.inl ⟨by kernel_rfl, ?_⟩) HS ?_
          rotate_left
          · intro w _; go_simp; with_reducible rfl
          refine anyE_take (i := 5) (v := ?_) rfl (by kernel_rfl) (by kernel_rfl) (by kernel_rfl) (by kernel_rfl) (by kernel_rfl) (fun _ _ _ h => h) (Or.inl ⟨by kernel_rfl, ?_⟩) HS ?_
          rotate_left
          · intro w hw; have hw := (hw.cell (p := ⟨wr.heap.size, 1, none⟩) hl8).trans m1; go_simp; with_reducible rfl
          refine anyE_take (i := 6) (v := ?_) rfl (by kernel_rfl) (by kernel_rfl) (by kernel_rfl) (by kernel_rfl) (by kernel_rfl) (fun _ _ _ h => h) (Or.inl ⟨by kernel_rfl, ?_⟩) HS ?_
          rotate_left
          · intro w _; go_simp; with_reducible rfl
          refine anyE_take (i := 7) (v := ?_) rfl (by kernel_rfl) (by kernel_rfl) (by kernel_rfl) (by kernel_rfl) (by kernel_rfl) (fun _ _ _ h => h) (Or.inl ⟨by kernel_rfl, ?_⟩) HS ?_
          rotate_left
          · intro w hw; have hw := (hw.cell (p := ⟨wr.heap.size, 2, none⟩) hl8).trans m2; go_simp; with_reducible rfl
          refine anyE_take (i := 8) (v := ?_) rfl (by kernel_rfl) (by kernel_rfl) (by kernel_rfl) (by kernel_rfl) (by kernel_rfl) (fun _ _ _ h => h) (Or.inl ⟨by kernel_rfl, ?_⟩) HS ?_
          rotate_left
          · intro w _; go_simp; with_reducible rfl
          refine anyE_take (i := 9) (v := ?_) rfl (by kernel_rfl) (by kernel_rfl) (by kernel_rfl) (by kernel_rfl) (by kernel_rfl) (fun _ _ _ h => h) (Or.inl ⟨by kernel_rfl, ?_⟩) HS ?_
          rotate_left
          · intro w hw; have hw := (hw.cell (p := ⟨wr.heap.size, 4, none⟩) hl8).trans m4; go_simp; with_reducible rfl
          refine anyE_take (i := 10) (v := ?_) rfl (by kernel_rfl) (by kernel_rfl) (by kernel_rfl) (by kernel_rfl) (by kernel_rfl) (fun _ _ _ h => h) (Or.inl ⟨by kernel_rfl, ?_⟩) HS ?_
          rotate_left
          · intro w _; go_simp; with_reducible rfl
          refine anyE_take (i := 11) (v := ?_) rfl (by kernel_rfl) (by kernel_rfl) (by kernel_rfl) (by kernel_rfl) (by kernel_rfl) (fun _ _ _ h => h) (Or.inl ⟨by kernel_rfl, ?_⟩) HS ?_
          rotate_left
          · intro w hw; have hw := (hw.cell (p := ⟨wr.heap.size, 3, none⟩) hl8).trans m3; go_simp; with_reducible rfl
          refine anyE_ready (rs := [12]) (by kernel_rfl) (by simp) ?_
          refine ReadyE.cons rfl (by kernel_rfl) (fun K hK => ?_) ReadyE.nil
          go_simp
          go_at_call 9
          refine (HIT.out _ ⟨1, rfl⟩).mono ?_
          rintro e w3 ⟨ap, cp, rfl, hv3, hk3⟩
          refine hK.out _ _ (fun _ => hk3) ?_
          clear hK K
          refine anyE_take (i := 13) (v := ?_) rfl (by kernel_rfl) (by kernel_rfl) (by kernel_rfl) (by kernel_rfl) (by kernel_rfl) (fun _ _ _ h => h) (Or.inl ⟨by kernel_rfl, ?_⟩) hk3 ?_
          rotate_left
          · intro w _; go_simp; with_reducible rfl
          refine anyE_ready (rs := [14]) (by kernel_rfl) (by simp) ?_
          refine ReadyE.cons rfl (by kernel_rfl) (fun K hK => ?_) ReadyE.nil
          go_simp
          refine hK.out _ _ (fun _ => hk3.alloc hk3.size _) ?_
          clear hK K
          refine anyE_rest (by kernel_rfl) ?_
          have hB3 := HB69.out.below hk3 HB69.out.lt
          have hb93 := HB9.out.trans (hk3.mono hz9)
          have hz3 := hb93.size
          have how3 := ownsRow_keep HOW.out (fun g hg hv => hb93.block g hg)
          refine wpAny_ready (rs := [15]) (by kernel_rfl) (by simp) ?_
          refine AllReady.cons rfl (fun K hK => ?_) AllReady.nil
          refine step_append_lies _ (by rfl) (.tmp 29) (.tmp 42) 65 (by rfl) (wo.heap.size + 2) 70 i1 (.agg #[.int .i64 0, .int .i64 0, .string ⟨#[]⟩, .slice none 0 0, .int .u8 0]) 5 64 Tryz.underlying65 ki kz0 kz1 kz2 (by rfl) (by decide) (.slice aj i cj) i us.flatten (by rfl) (how3.alloc _) ⟨w3.heap.size, 0, none⟩ 1 1 [.int .i64 Y1, .int .i64 Y2, .string (S Y3), .slice ap Y4.length cp, .int .u8 Y5] (by rfl) (by rfl) (new_cells _ _ _) (one5 _ _ _ _ _ _ _) (by decide) (by unfold maxLen; omega) (by omega) (by rw [World.size_alloc]; omega) (w3.heap.size + 1) (World.size_alloc _ _) ?_
          intro g4 cap4 w4 hown4 hgrow4 hat4 hlt4
          have hB4 := (hB3.alloc (.cells #[.int .i64 Y1, .int .i64 Y2, .string (S Y3), .slice ap Y4.length cp, .int .u8 Y5] 70)).grown hgrow4 (own_apart HOW.out (by omega))
          have hc4 := hB4.cell 2
          have hf4 := hB4.frozen 2
          have hl4 := hB4.lt
          refine hK _ _ ?_
          clear hK K
          refine wpAny_ready (rs := [16]) (by kernel_rfl) (by simp) ?_
          refine AllReady.cons rfl (fun K hK => ?_) AllReady.nil
          go_simp
          refine hK _ _ ?_
          clear hK K
          refine wpAny_ready (rs := [17]) (by kernel_rfl) (by simp) ?_
          refine AllReady.cons rfl (fun K hK => ?_) AllReady.nil
          go_simp
          refine hK _ _ ?_
          clear hK K
          refine wpAny_done (by kernel_rfl) ?_ _
          go_wp2
          have hst := rows5_step (x1 := x1) (x2 := x2) (Y1 := Y1) (Y2 := Y2) (Y5 := Y5) (n2 := Y4.length) (cp := cp) (Y3 := Y3) (Y4 := Y4) (ap := ap) (cj := cj) (aj := aj) (xs := xs) (i := i) (us := us) htk HY.out hzi HBI.out hb93 HB6.out HU1.out HOW.out HU4.out hown4 hgrow4 (hat4.imp id Eq.symm)
          exact ⟨⟨i + 1, _, by go_num, hli, hst.1, hst.2.1, hst.2.2.1, hst.2.2.2⟩, by simp only [intOf]; omega⟩
        · obtain rfl : i = m := by omega
          rw [htk] at HB6 HOI
          have hlr : xs.take i = xs := List.take_of_length_le (by rw [HMS.out]; exact Nat.le_refl _)
          have HLX : Hid (Rows5 (wo.heap.size + 2) wr (.slice aj i cj) xs) := Lib.hid (by have h9 := HOI.out; rw [hlr] at h9; exact h9)
          have hz2 := HBI.out.size
          have HWO := Lib.hid (HBR.out.trans (HBI.out.mono (by omega)))
          obtain ⟨us, hus1, how, hus4, hus5⟩ := HO.out
          obtain ⟨ao9, co9, rfl⟩ : ∃ ao cap, v3 = .slice ao (bs.take k).length cap := own_form how
          have htk9 : (bs.take k).length = k := by rw [List.length_take, HN.out]; omega
          rw [htk9] at how
          have HOW := Lib.hid how
          have HOWR := Lib.hid (ownsRow_keep how (fun g hg hv => HBI.out.block g hg))
          have HU1 := Lib.hid hus1
          have HU4 := Lib.hid hus4
          have HU5 := Lib.hid hus5
          have l6 := b6.lt
          have c0 : wr.cell? ⟨wo.heap.size + 1, 0, none⟩ = some (.int .i64 x1) := b6.cell 0
          have c1 : wr.cell? ⟨wo.heap.size + 1, 1, none⟩ = some (.float .f64 x2) := b6.cell 1
          have c2 : wr.cell? ⟨wo.heap.size + 1, 2, none⟩ = some (.slice aj i cj) := by rw [← htk]; exact b6.cell 2
          clear how hus1 hus4 hus5 b6 hoi hbi HB6 HOI HO
          rw [htk9]
          obtain ⟨i1, ki, kz0, kz1, kz2⟩ := info_parts info_ralt'
          go_wp2_with (at_builtin; refine wpList_append_own_at _ rfl _ _ 35 rfl w.heap.size 67 i1 (.agg #[.int .i64 0, .float .f64 0, .slice none 0 0]) 3 40 Tryz.underlying35 ki kz0 kz1 kz2 rfl (by decide) _ k (cells3 (bs.take k) us) rfl (HOWR.out.alloc _) ⟨wr.heap.size, 0, none⟩ 1 1 [.int .i64 x1, .float .f64 x2, .slice aj i cj] rfl rfl (new_cells _ _ _) (one3_ _ _ _ _ _) (by unfold maxLen; omega) (by omega) (by rw [World.size_alloc]; omega) ?_; intro v6 w6 hown6 hg6 _ hat6; obtain ⟨ao6, cap6, rfl⟩ := own_form hown6)
          have hst1 := below_end HBR.out HBI.out HOW.out hg6
          have hst2 := shM_step htk9 HX.out hzr HBI.out hzi (HU1.out.trans htk9) HOW.out HU4.out HU5.out HLX.out hown6 hg6
          exact ⟨⟨k + 1, _, by go_num, rfl, hlt, hst1, hst2⟩, by simp only [intOf]; omega⟩
    · obtain rfl : k = n := by omega
      have HL := HO
      rw [← HN.out, List.take_length] at HL
      clear ho
      go_wp2_with fail
      go_ret
      exact ⟨⟨_, rfl, HL.out⟩, HBR.out⟩
end Go.Proofs.YtdddbkghleblhaaGreatDoor.lx

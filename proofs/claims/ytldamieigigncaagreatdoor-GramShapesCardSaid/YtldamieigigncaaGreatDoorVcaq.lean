import Derived.Test.YtldamieigigncaaGreatDoorVcap
import Derived.Test.YtldamieigigncaaGreatDoorVcam
namespace Go.Proofs.YtldamieigigncaaGreatDoor.lx
open Go.ChangeShapes Go.WideShapes Go.ChangeAt Go.RowKit
set_option linter.unusedVariables false
attribute [local go_sem] run_store_float
def wfI (sub : List Altn → Prop) (i : Itm) : Prop := (i.kind = 0 ∨ i.kind = 1 ∨ i.kind = 2) ∧ i.op < 256 ∧ sub i.alts
def wfA : Nat → List Altn → Prop
  | 0, bs => bs = []
  | k + 1, bs => ∀ a ∈ bs, ∀ i ∈ a.2.2, wfI (wfA k) i
def LdWf (l : Ld) : Prop := ∀ bs ∈ l.alts, ∃ k, wfA k bs
theorem wfA_nil : ∀ k, wfA k []
  | 0 => rfl
  | _ + 1 => fun a h => by cases h
theorem mean_wf {i : Itm} {k : Nat} (h : wfI (wfA k) i) (x : List UInt8) : ∃ k', wfA k' (meanP i x) := by
  obtain ⟨h1, h2, h3⟩ := h
  have ho : wfI (wfA k) (once i) := ⟨h1, by show 0 < 256; decide, h3⟩
  have hm : wfI (wfA k) (many i) := ⟨h1, by show 42 < 256; decide, h3⟩
  have hs : wfI (wfA k) (.mk i.at_ 0 x [] 0) := ⟨.inl rfl, by show 0 < 256; decide, wfA_nil k⟩
  unfold meanP
  split
  · refine ⟨k + 1, fun a ha j hj => ?_⟩
    simp only [List.mem_cons, List.not_mem_nil, or_false] at ha
    rcases ha with rfl | rfl
    · obtain rfl : j = once i := by simpa using hj
      exact ho
    · cases hj
  · split
    · refine ⟨k + 1, fun a ha j hj => ?_⟩
      simp only [List.mem_cons, List.not_mem_nil, or_false] at ha
      rcases ha with rfl | rfl
      · simp only [List.mem_cons, List.not_mem_nil, or_false] at hj
        rcases hj with rfl | rfl
        · exact ho
        · exact hs
      · cases hj
    · split
      · refine ⟨k + 1, fun a ha j hj => ?_⟩
        simp only [List.mem_cons, List.not_mem_nil, or_false] at ha
        subst ha
        simp only [List.mem_cons, List.not_mem_nil, or_false] at hj
        rcases hj with rfl | rfl
        · exact ho
        · exact hm
      · exact ⟨k, h3⟩
theorem symP_wf {l l' : Ld} {i : Itm} {x : Int} {k : Nat} (hl : LdWf l) (hi : wfI (wfA k) i) (h : symP l i = .ok (l', x)) : LdWf l' := by
  unfold symP at h
  split at h
  · unfold ldAdd at h
    split at h
    · rename_i e
      split at e
      · cases h
      · cases e
    · rename_i l1 e
      split at e
      · cases e
      · cases e
        cases h
        intro bs hb
        rcases List.mem_append.1 hb with hb | hb
        · exact hl bs hb
        · rw [List.mem_singleton.1 hb]
          exact mean_wf hi _
  · split at h
    · split at h
      · cases h; exact hl
      · split at h
        · cases h
        · cases h; exact hl
    · cases h; exact hl
def preS (xs : List Int) (x : LR (Ld × List Int)) : LR (Ld × List Int) := match x with
  | .error e => .error e
  | .ok (l, ys) => .ok (l, xs ++ ys)
theorem preS_nil (x : LR (Ld × List Int)) : preS [] x = x := by
  cases x <;> rfl
theorem preS_step {l l' : Ld} {is : List Itm} {i : Itm} {x : Int} {xs : List Int} (h : symP l i = .ok (l', x)) : preS xs (symsP l (i :: is)) = preS (xs ++ [x]) (symsP l' is) := by
  have e : symsP l (i :: is) = match symP l i with
    | .error e => .error e
    | .ok (l, x) => match symsP l is with
      | .error e => .error e
      | .ok (l, xs) => .ok (l, x :: xs) := rfl
  rw [e, h]
  show preS xs (match symsP l' is with
      | .error e => .error e
      | .ok (l, xs) => .ok (l, x :: xs)) = _
  cases symsP l' is with
  | error q => rfl
  | ok y => simp [preS]
theorem preS_err {l : Ld} {is : List Itm} {i : Itm} {q : Nat × Nat} {xs : List Int} (h : symP l i = .error q) : preS xs (symsP l (i :: is)) = .error q := by
  have e : symsP l (i :: is) = match symP l i with
    | .error e => .error e
    | .ok (l, x) => match symsP l is with
      | .error e => .error e
      | .ok (l, xs) => .ok (l, x :: xs) := rfl
  rw [e, h]
  rfl
def LdVN (XA : Nat → Prop) (gl B : Nat) (tv vv rv av : Value) (w : World) (x : LR Ld) (e : Ending) (w' : World) : Prop := match x with
  | .error q => e = .panicked [{ v := WrongG q.1 q.2, recovered := false }] ∧ Below B w w'
  | .ok l' => e = .returned (.tuple #[]) ∧ ∃ N' tv' vv' rv' av', LdW XA gl B N' tv' vv' rv' av' l' w' ∧ LdK gl tv vv rv av tv' vv' rv' av' w w'
theorem LdW.wkN {XA : Nat → Prop} {gl B N : Nat} {tv vv rv av : Value} {l : Ld} {w : World} (h : LdW XA gl B N tv vv rv av l w) : LdW XA gl B w.heap.size tv vv rv av l w := by
  refine ⟨h.box, h.ge, h.ts, h.vs, h.ap, ?_, h.al, h.nx⟩
  obtain ⟨us, h1, h2, h3, h4⟩ := h.rs
  refine ⟨us, h1, h2, fun j r hj => ?_, h4⟩
  obtain ⟨u, e, ho, _⟩ := h3 j r hj
  exact ⟨u, e, ho, fun g hg => (ho.lt g hg).2⟩
theorem info_int : (Tryz.prog.info? 3).map (fun i => (i.zero, i.size, i.bytes)) = some (some (.int .i64 0), 1, 8) := by kernel_rfl
theorem one_iv (x : Int) : ∀ z ∈ [iv x], z.oneCell' = true := by
  intro z hz
  rw [List.mem_singleton.1 hz]
  rfl
theorem one_rl (v : Nat) (ao : Option Addr) (n c F : Nat) : ∀ z ∈ [Value.int .i64 v, .slice ao n c, .float .f64 F], z.oneCell' = true := by
  intro z hz
  simp at hz
  rcases hz with rfl | rfl | rfl <;> rfl
theorem ListOf.at2g {α : Type} {c : Nat} {E : Elem α} {w : World} {A : Nat → Prop} {ao : Option Addr} {cap : Nat} {xs : List α} (h : ListOf c E w A (.slice ao xs.length cap) xs) {k : Nat} {x : α} (hx : xs[k]? = some x) : ∃ g, ao = some ⟨g, 0, none⟩ ∧ g < w.heap.size ∧ ∃ cs, cs.length = c ∧ (∀ j u, cs[j]? = some u → w.cell? ⟨g, k * c + j, none⟩ = some u) ∧ E w A x cs := by
  obtain ⟨_, ao', cap', e, h⟩ := h
  injection e with e1 e2 e3
  subst e1
  obtain ⟨hk, _⟩ := List.getElem?_eq_some_iff.1 hx
  obtain ⟨g, e, hg, _, h5⟩ := h (by omega)
  exact ⟨g, e, hg, h5 k x hx⟩
theorem LdW.toX {X Y : Nat → Prop} {gl B N : Nat} {tv vv rv av : Value} {l : Ld} {w : World} (h : LdW X gl B N tv vv rv av l w) (h1 : ∀ g, g < w.heap.size → X g → Y g) (h2 : ∀ g, w.heap.size ≤ g → Y g) : LdW Y gl B N tv vv rv av l w :=
  ⟨h.box, h.ge, h.ts, h.vs, h.ap, h.rs, h.al.keep (fun _ _ => rfl) (fun g hg hA => ⟨⟨hA.1, h1 g hg hA.2⟩, rfl⟩) (Nat.le_refl _), h2⟩
theorem grown_keep {w w6 : World} {o : Obj} {v0 : Value} (hg : (w.alloc o).grownBy w6 v0.ownBlock) (g : Nat) (hlt : g < w.heap.size) (hne : v0.ownBlock ≠ some g) : w6.heap[g]? = w.heap[g]? :=
  (hg.block g (by rw [World.size_alloc]; omega) (fun e => hne e.symm)).trans (Below.heap_alloc w o g hlt)
theorem grown_size {w w6 : World} {o : Obj} {v0 : Value} (hg : (w.alloc o).grownBy w6 v0.ownBlock) : w.heap.size + 1 ≤ w6.heap.size := by
  have := hg.size
  rw [World.size_alloc] at this
  exact this
theorem LdW.int_grown {X Y : Nat → Prop} {gl B N : Nat} {tv vv rv av : Value} {l : Ld} {w w6 : World} {v0 : Value} {j : Nat} {xs : List Value} {o : Obj} (h : LdW X gl B N tv vv rv av l w) (hX : ∀ g, X g → v0.ownBlock ≠ some g) (ho : w.ownsRow N 3 1 v0 j xs) (hg : (w.alloc o).grownBy w6 v0.ownBlock) (h1 : ∀ g, g < w.heap.size → X g → Y g) (h2 : ∀ g, w6.heap.size ≤ g → Y g) : LdW Y gl B N tv vv rv av l w6 := by
  have hk := grown_keep hg
  have hz := grown_size hg
  have hb := apartB ho h.box (by decide)
  obtain ⟨us, hus, hor, hur, hap⟩ := h.rs
  obtain ⟨as_, _, ha, _⟩ := h.al
  refine ⟨(hk gl h.box.lt hb).trans h.box, h.ge, ownsRow_keep h.ts (fun g hlt hv => hk g hlt (apart2 h.ts ho (by decide) hv)), ownsRow_keep h.vs (fun g hlt hv => hk g hlt (apart2 h.vs ho (by decide) hv)), h.ap, ⟨us, hus, ownsRow_keep hor (fun g hlt hv => hk g hlt (apart2 hor ho (by decide) hv)), fun i r hi => ?_, hap⟩, h.al.keep (fun g hv => hk g (ha.lt g hv).2 (apart2 ha ho (by decide) hv)) (fun g hlt hA => ⟨⟨hA.1, h1 g hlt hA.2⟩, hk g hlt (hX g hA.2)⟩) (by omega), h2⟩
  obtain ⟨u, e, hu, hN⟩ := hur i r hi
  exact ⟨u, e, ownsRow_keep hu (fun g hlt hv => hk g hlt (fun e2 => by have := (ho.lt g e2).1; have := hN g hv; omega)), hN⟩
theorem LdK.grown {gl : Nat} {tv vv rv av tv' vv' rv' av' : Value} {w w1 w6 : World} {o : Obj} {v0 : Value} (k : LdK gl tv vv rv av tv' vv' rv' av' w w1) (h0 : ∀ g, v0.ownBlock = some g → w.heap.size ≤ g) (hg : (w1.alloc o).grownBy w6 v0.ownBlock) : LdK gl tv vv rv av tv' vv' rv' av' w w6 :=
  ⟨⟨hg.os.trans k.kp.os, hg.tape.trans k.kp.tape, hg.output.trans k.kp.output, Nat.le_trans k.kp.size (by have := grown_size hg; omega), fun g hlt hf => (grown_keep hg g (Nat.lt_of_lt_of_le hlt k.kp.size) (fun e => by have := h0 g e; omega)).trans (k.kp.block g hlt hf)⟩, k.n1, k.n2, k.n3, k.n4⟩
theorem own_low {w : World} {B B' s n : Nat} {e : TypeId} {v : Value} {xs : List Value} (h : w.ownsRow B e s v n xs) (hB : B' ≤ B) : w.ownsRow B' e s v n xs := by
  refine ⟨h.1, ?_⟩
  rcases h.2 with h2 | ⟨q, cap, cur, e1, h3, h4⟩
  · exact .inl h2
  · exact .inr ⟨q, cap, cur, e1, Nat.le_trans hB h3, h4⟩
def BarX (XA : Nat → Prop) (u : Value) (g : Nat) : Prop := XA g ∧ u.ownBlock ≠ some g
set_option maxRecDepth 100000 in
set_option maxHeartbeats 8000000 in
theorem rule_any {XA : Nat → Prop} {gl B N0 : Nat} {tv vv rv av : Value} {l : Ld} {w : World} (h0 : LdW XA gl B N0 tv vv rv av l w) (hok : LdOk l) (v P F : Nat) (is : List Itm) (k : Nat) (io : Option Addr) (ic : Nat) (hv : ListOf 5 (EItm (AltsAt k)) w (FrX XA gl tv vv rv av) (.slice io is.length ic) is) (hkd : ∀ i ∈ is, (i.kind = 0 ∨ i.kind = 1 ∨ i.kind = 2) ∧ i.op < 256) : Calls Tryz.prog 64 #[.pointer (some ⟨gl, 0, none⟩), .int .i64 v, .agg #[.int .i64 P, .float .f64 F, .slice io is.length ic]] w fun e w' => LdVN XA gl B tv vv rv av w (ruleP l v (P, F, is)) e w' := by
  have h := h0.wkN
  have hw1 := h.below ((Below.refl _ w).alloc (Nat.le_refl _) (.cells #[.int .i64 P, .float .f64 F, .slice io is.length ic] 124))
  have hk1 : LdK gl tv vv rv av tv vv rv av w (w.alloc (.cells #[.int .i64 P, .float .f64 F, .slice io is.length ic] 124)) := LdK.of_below ((Below.refl _ w).alloc (Nat.le_refl _) _)
  have b1 := Blk.new w 124 #[.int .i64 P, .float .f64 F, .slice io is.length ic]
  have hv1 := hv.keep (keepsItm (keepsAlts k)) (w' := w.alloc (.cells #[.int .i64 P, .float .f64 F, .slice io is.length ic] 124)) (A' := FrX XA gl tv vv rv av) (fun g hg hA => ⟨hA, Below.heap_alloc w _ g hg⟩) (by simp)
  have HFN := Lib.hid (h.free_new (Nat.le_refl w.heap.size))
  have H := Lib.hid h
  have HOK := Lib.hid hok
  have HKD := Lib.hid hkd
  have hr256 := hok.rules
  have HP : Hid (ruleP l v (P, F, is) = if l.rules.length = 256 ∨ 24 < is.length then .error (7, P) else match symsP l is with
    | .error e => .error e
    | .ok (l, xs) => if (l.rules.any fun r => r.1 == v && r.2.1 == xs) = true then .error (10, P) else .ok { l with rules := l.rules ++ [(v, xs, F)] }) := Lib.hid rfl
  have hrf := own_form (show World.ownsRow w B 41 3 rv l.rules.length _ from h.rs.choose_spec.2.1)
  obtain ⟨ro, rc, rfl⟩ := hrf
  have hm31 := hv.1
  unfold maxLen at hm31
  generalize hX : ruleP l v (P, F, is) = X at *
  generalize hn : is.length = m at *
  generalize hrn : l.rules.length = rn at *
  have HM := Lib.hid hn
  have HRN := Lib.hid hrn
  clear h h0 hok hkd hv hX hn hrn
  go_enter Tryz.func64, Tryz.ntmps64
  go_upto_region 1 with fail
  generalize w.alloc (.cells #[.int .i64 P, .float .f64 F, .slice io m ic] 124) = w1 at *
  have c2 : w1.cell? ⟨gl, 2, none⟩ = some (.slice ro rn rc) := hw1.box.cell 2
  have t0 : w1.cell? ⟨w.heap.size, 0, none⟩ = some (.int .i64 P) := b1.cell 0
  have t2 : w1.cell? ⟨w.heap.size, 2, none⟩ = some (.slice io m ic) := b1.cell 2
  have lg := hw1.box.lt
  have lb := b1.lt
  have HF7 := Lib.hid (gfail_any w1 7 P)
  have HW1 := Lib.hid hw1
  have HK1 := Lib.hid hk1
  have B1 := Lib.hid b1
  have HV1 := Lib.hid hv1
  clear hw1 hk1 b1 hv1
  by_cases hr : rn = 256
  · rw [if_pos (.inl hr)] at HP
    have e1 : ((rn : Int) == 256) = true := by rw [beq_iff_eq]; omega
    clear hr
    go_wp2_with fail
    refine HF7.out.mono ?_
    rintro e w' ⟨rfl, rfl⟩
    exact ⟨rfl, by rw [HP.out]; exact ⟨rfl, HK1.out.belowB H.out⟩⟩
  have e1 : ((rn : Int) == 256) = false := by rw [beq_eq_false_iff_ne]; omega
  by_cases hm : 24 < m
  · rw [if_pos (.inr hm)] at HP
    have e2 : (24 : Int) < (m : Int) := by omega
    go_wp2_with fail
    refine HF7.out.mono ?_
    rintro e w' ⟨rfl, rfl⟩
    exact ⟨rfl, by rw [HP.out]; exact ⟨rfl, HK1.out.belowB H.out⟩⟩
  rw [if_neg (by rintro (h | h); exact hr h; exact hm h)] at HP
  have e2 : ¬ (24 : Int) < (m : Int) := by omega
  clear hr
  go_wp2_with fail
  clear e1 e2 c2 t0 t2 lg lb HF7
  go_loopw [6, 28] (fun rt i wr => ∃ (j : Nat) (l' : Ld) (xs : List Int) (rw' : Value) (tv' vv' rv' av' : Value), rw' = rt ∧ i = .int .i64 j ∧ j ≤ m ∧ LdW (BarX XA rw') gl B w.heap.size tv' vv' rv' av' l' wr ∧ LdK gl tv vv (.slice ro rn rc) av tv' vv' rv' av' w wr ∧ LdOk l' ∧ wr.ownsRow w.heap.size 3 1 rw' j (xs.map iv) ∧ xs.length = j ∧ ListOf 5 (EItm (AltsAt k)) wr (FrX (BarX XA rw') gl tv' vv' rv' av') (.slice io m ic) is ∧ Blk wr w.heap.size 124 #[.int .i64 P, .float .f64 F, .slice io m ic] ∧ Fr gl tv' vv' rv' av' w.heap.size ∧ preS xs (symsP l' (is.drop j)) = symsP l is) (fun _ i _ => m - (intOf i).toNat)
  case atStart => exact ⟨0, l, [], _, tv, vv, _, av, rfl, rfl, Nat.zero_le _, HW1.out.toX (fun g _ h => ⟨h, by intro h; cases h⟩) (fun g hg => ⟨HW1.out.nx g hg, by intro h; cases h⟩), HK1.out, HOK.out, World.ownsRow_nil _ _ _ _, rfl, HV1.out.keep (keepsItm (keepsAlts k)) (fun g _ hA => ⟨⟨hA.1, hA.2, by intro h; cases h⟩, rfl⟩) (Nat.le_refl _), B1.out, HFN.out, preS_nil _⟩
  case round =>
    clear HW1 HK1 B1 HV1
    obtain ⟨j, l', xs, rt, tv', vv', rv', av', rfl, rfl, hj, hw, hkk, hokl, hown, hxl, hlist, hb, hfr, hpre⟩ := hrel
    have HW := Lib.hid hw
    have HKK := Lib.hid hkk
    have HOKL := Lib.hid hokl
    have HOWN := Lib.hid hown
    have HXL := Lib.hid hxl
    have HLI := Lib.hid hlist
    have HBX := Lib.hid hb
    have HFR := Lib.hid hfr
    have HPRE := Lib.hid hpre
    obtain ⟨ao9, ac9, rfl⟩ := own_form hown
    have hzw := HKK.out.kp.size
    by_cases hlt : j < m
    · obtain ⟨y, hy⟩ : ∃ y, is[j]? = some y := ⟨_, List.getElem?_eq_getElem (by rw [HM.out]; exact hlt)⟩
      obtain ⟨g3, rfl, hg3, cs3, _, hcs3, ayv, rfl, hav⟩ := ListOf.at2g (by rw [HM.out]; exact hlist) hy
      obtain ⟨ay, cy, rfl⟩ := hav.form
      have hkd1 := HKD.out y (List.mem_of_getElem? hy)
      have hdr : is.drop j = y :: is.drop (j + 1) := by
        rw [List.drop_eq_getElem_cons (by rw [HM.out]; exact hlt), (List.getElem?_eq_some_iff.1 hy).2]
      have e0 : wr.cell? ⟨g3, j * 5, none⟩ = some (.int .i64 y.at_) := hcs3 0 _ rfl
      have e1 : wr.cell? ⟨g3, j * 5 + 1, none⟩ = some (.int .i64 y.kind) := hcs3 1 _ rfl
      have e2 : wr.cell? ⟨g3, j * 5 + 2, none⟩ = some (.string (S y.text)) := hcs3 2 _ rfl
      have e3 : wr.cell? ⟨g3, j * 5 + 3, none⟩ = some (.slice ay y.alts.length cy) := hcs3 3 _ rfl
      have e4 : wr.cell? ⟨g3, j * 5 + 4, none⟩ = some (.int .u8 y.op) := hcs3 4 _ rfl
      have HAV := Lib.hid hav
      have HDR := Lib.hid hdr
      clear hw hkk hokl hown hxl hlist hb hfr hpre hav hcs3 hdr hy
      obtain ⟨Y1, Y2, Y3, Y4, Y5⟩ := y
      simp only [Itm.at_, Itm.kind, Itm.text, Itm.alts, Itm.op] at e0 e1 e2 e3 e4 HAV hkd1
      go_upto_region 7 with fail
      have b8 := Blk.new wr 126 #[.int .i64 Y1, .int .i64 Y2, .string (S Y3), .slice ay Y4.length cy, .int .u8 Y5]
      have hb8 : Below wr.heap.size wr (wr.alloc (.cells #[.int .i64 Y1, .int .i64 Y2, .string (S Y3), .slice ay Y4.length cy, .int .u8 Y5] 126)) := (Below.refl _ _).alloc (Nat.le_refl _) _
      clear e0 e1 e2 e3 e4
      generalize wr.alloc (.cells #[.int .i64 Y1, .int .i64 Y2, .string (S Y3), .slice ay Y4.length cy, .int .u8 Y5] 126) = w9 at *
      have m0 : w9.cell? ⟨wr.heap.size, 0, none⟩ = some (.int .i64 Y1) := b8.cell 0
      have m1 : w9.cell? ⟨wr.heap.size, 1, none⟩ = some (.int .i64 Y2) := b8.cell 1
      have m2 : w9.cell? ⟨wr.heap.size, 2, none⟩ = some (.string (S Y3)) := b8.cell 2
      have m3 : w9.cell? ⟨wr.heap.size, 3, none⟩ = some (.slice ay Y4.length cy) := b8.cell 3
      have m4 : w9.cell? ⟨wr.heap.size, 4, none⟩ = some (.int .u8 Y5) := b8.cell 4
      have l8 := b8.lt
      have hw9 := HW.out.below hb8
      have HSY := Lib.hid (symbol_any hw9 HOKL.out (.mk Y1 Y2 Y3 Y4 Y5) k ay cy (keepsAlts k _ _ _ _ _ _ HAV.out (fun g hg hA => ⟨hA, hb8.block g hg⟩) hb8.size) hkd1.1 hkd1.2)
      simp only [Itm.at_, Itm.kind, Itm.text, Itm.alts, Itm.op] at HSY
      have HK9 := Lib.hid (HKK.out.trans (LdK.of_below hb8))
      have HO9 := Lib.hid (ownsRow_keep HOWN.out (fun g hg _ => hb8.block g hg))
      have HL9 := Lib.hid (HLI.out.keep (keepsItm (keepsAlts k)) (w' := w9) (A' := FrX (BarX XA (.slice ao9 j ac9)) gl tv' vv' rv' av') (fun g hg hA => ⟨hA, hb8.block g hg⟩) hb8.size)
      have HB9 := Lib.hid (HBX.out.below hb8 HBX.out.lt)
      have HW9 := Lib.hid hw9
      clear b8 hb8 hw9 HW HKK HOWN HLI HBX
      cases hs : symP l' (.mk Y1 Y2 Y3 Y4 Y5) with
      | error q =>
        rw [hs] at HSY
        have hq := preS_err (is := is.drop (j + 1)) (xs := xs) hs
        rw [← HDR.out, HPRE.out] at hq
        rw [hq] at HP
        clear hs hq
        go_wp2_with (go_at_call 89; refine HSY.out.mono ?_; rintro e w10 ⟨rfl, hb10⟩)
        exact ⟨rfl, by rw [HP.out]; exact ⟨rfl, (HK9.out.belowB H.out).trans hb10⟩⟩
      | ok z =>
        obtain ⟨l2, x⟩ := z
        rw [hs] at HSY
        have hpz := preS_step (is := is.drop (j + 1)) (xs := xs) hs
        rw [← HDR.out, HPRE.out] at hpz
        have HPZ := Lib.hid hpz.symm
        have HOK2 := Lib.hid (symP_ok HOKL.out hs).1
        clear hs hpz
        go_wp2_with fail
        refine HSY.out.mono ?_
        rintro e w10 ⟨rfl, tv2, vv2, rv2, av2, hw10, hk10⟩
        have HW10 := Lib.hid hw10
        have HK10 := Lib.hid (HK9.out.trans hk10)
        have HO10 := Lib.hid (ownsRow_keep HO9.out (fun g hg hv => hk10.kp.block g hg (fun hf => hf (HW9.out.int_free HO9.out hv))))
        have HL10 := Lib.hid (HL9.out.keep (keepsItm (keepsAlts k)) (w' := w10) (A' := FrX (BarX XA (.slice ao9 j ac9)) gl tv2 vv2 rv2 av2) (fun g hg hA => ⟨⟨hk10.free hg hA.1, hA.2⟩, hk10.kp.block g hg (fun hf => hf hA.1)⟩) hk10.kp.size)
        have HB10 := Lib.hid (hk10.blk HB9.out HFR.out)
        have HF10 := Lib.hid (hk10.free HB9.out.lt HFR.out)
        have hz10 : w.heap.size ≤ w10.heap.size := HK10.out.kp.size
        obtain ⟨i1, ki, kz0, kz1, kz2⟩ := info_parts info_int
        clear m0 m1 m2 m3 m4 l8 hw10 hk10 HSY
        go_wp2_with (at_builtin; refine wpList_append_own_at _ rfl _ _ 39 rfl w.heap.size 3 i1 (.int .i64 0) 1 8 Tryz.underlying39 ki kz0 kz1 kz2 rfl (by decide) _ j (xs.map iv) rfl (HO10.out.alloc _) ⟨w10.heap.size, 0, none⟩ 1 1 [iv x] rfl rfl (new_one _ _ _) (one_iv _) (by unfold maxLen; omega) (by omega) (by rw [World.size_alloc]; omega) ?_; intro v6 w6 hown6 hg6 _ hat6)
        have hg7 : (w10.alloc (.cells #[iv x] 3)).grownBy w6 (Value.slice ao9 j ac9).ownBlock := hg6
        have hat7 : v6.ownBlock = (Value.slice ao9 j ac9).ownBlock ∨ v6.ownBlock = some (w10.alloc (.cells #[iv x] 3)).heap.size := hat6
        clear hg6 hat6
        have hb6 := grown_size hg7
        have hY : ∀ g, g < w10.heap.size → BarX XA (.slice ao9 j ac9) g → BarX XA v6 g := fun g hlt hx => ⟨hx.1, fun e => by
          rcases hat7 with h | h
          · exact hx.2 (h ▸ e)
          · rw [e, World.size_alloc] at h
            have := Option.some.inj h
            omega⟩
        have hw6 := HW10.out.int_grown (Y := BarX XA v6) (fun g h => h.2) HO10.out hg7 hY (fun g hg => ⟨(HW10.out.nx g (by omega)).1, fun e => by have := (hown6.lt g e).2; omega⟩)
        have hk6 := HK10.out.grown (fun g e => (HO10.out.lt g e).1) hg7
        have hl6 := HL10.out.keep (keepsItm (keepsAlts k)) (w' := w6) (A' := FrX (BarX XA v6) gl tv2 vv2 rv2 av2) (fun g hg hA => ⟨⟨hA.1, hY g hg hA.2⟩, grown_keep hg7 g hg hA.2.2⟩) (by omega)
        have hbx : Blk w6 w.heap.size 124 #[.int .i64 P, .float .f64 F, .slice (some ⟨g3, 0, none⟩) m ic] := (grown_keep hg7 _ HB10.out.lt (fun e => by
          have h1 := apartB HO10.out HB10.out (by decide)
          exact h1 e)).trans HB10.out
        exact ⟨⟨j + 1, l2, xs ++ [x], v6, tv2, vv2, rv2, av2, rfl, congrArg (Value.int .i64) (by omega), hlt, hw6, hk6, HOK2.out, by rw [List.map_append]; exact hown6, by rw [List.length_append, HXL.out]; rfl, hl6, hbx, HF10.out, HPZ.out⟩, by simp only [intOf]; omega⟩
    · have hjm : j = m := by omega
      rw [hjm, ← HM.out, List.drop_length] at hpre
      have hpre2 : symsP l is = .ok (l', xs) := by
        rw [← hpre]
        show Except.ok (l', xs ++ []) = _
        rw [List.append_nil]
      rw [hpre2] at HP
      replace HP : Hid (X = if (l'.rules.any fun r => r.1 == v && r.2.1 == xs) = true then .error (10, P) else .ok { l' with rules := l'.rules ++ [(v, xs, F)] }) := HP
      subst hjm
      have hro := rules_of hw.rs
      have hrf := own_form (show World.ownsRow wr B 41 3 rv' l'.rules.length _ from hw.rs.choose_spec.2.1)
      obtain ⟨ro2, rc2, rfl⟩ := hrf
      have hio : IntsAt wr (fun _ => True) (.slice ao9 xs.length ac9) xs := ints_of (by rw [hxl]; exact hown)
      have HHR := Lib.hid (hasRule_any wr (fun _ => True) (fun _ => True) (.slice ro2 l'.rules.length rc2) l'.rules v ao9 xs ac9 hro hio)
      have hok2 := hokl.rules
      have c2 : wr.cell? ⟨gl, 2, none⟩ = some (.slice ro2 l'.rules.length rc2) := hw.box.cell 2
      have t0 : wr.cell? ⟨w.heap.size, 0, none⟩ = some (.int .i64 P) := hb.cell 0
      have lg := hw.box.lt
      have lb := hb.lt
      generalize hD : (l'.rules.any fun r => r.1 == v && r.2.1 == xs) = D at *
      rw [hxl] at HHR
      generalize hrn2 : l'.rules.length = rn2 at *
      have HR2 := Lib.hid hrn2
      clear hw hkk hokl hown hxl hlist hb hfr hpre hpre2 hro hio hD hrn2
      cases D
      · replace HP : Hid (X = .ok { l' with rules := l'.rules ++ [(v, xs, F)] }) := HP
        go_wp2_with fail
        refine HHR.out.mono ?_
        rintro e w9 ⟨rfl, hb9⟩
        clear c2 t0 lg lb HHR
        go_upto_region 11 with fail
        have hw9 := HW.out.below hb9
        have HK9 := Lib.hid (HKK.out.trans (LdK.of_below hb9))
        have hbp := HBX.out.below hb9 HBX.out.lt
        have HO9 := Lib.hid (ownsRow_keep HOWN.out (fun g hg _ => hb9.block g hg))
        have c2 : w9.cell? ⟨gl, 2, none⟩ = some (.slice ro2 rn2 rc2) := hw9.box.cell 2
        have t1 : w9.cell? ⟨w.heap.size, 1, none⟩ = some (.float .f64 F) := hbp.cell 1
        have lg := hw9.box.lt
        have lb := hbp.lt
        have hz9 := hw9.size
        have HW9 := Lib.hid hw9
        clear hw9 hbp hb9
        refine wp_region_any (by kernel_rfl) ?_
        change wpAny _ _ _ _ _ _ _ (World.drew _)
        refine wpAny_take (i := 0) (v := ?_) rfl (by kernel_rfl) (by kernel_rfl) (by kernel_rfl) (fun _ _ _ h => h) (Or.inl ⟨by kernel_rfl, ?_⟩) ?_
        rotate_left
        · intro wq; go_simp; with_reducible rfl
        refine any_of_anyE (S := fun W => Below w9.heap.size w9 W) (E := [12, 13, 14, 15, 16]) _ _ _ _ ?_
        have HS : Below w9.heap.size w9 (World.drew w9) := (Below.refl _ _).drew
        refine anyE_take (i := 1) (v := ?_) rfl (by kernel_rfl) (by kernel_rfl) (by kernel_rfl) (by kernel_rfl) (by kernel_rfl) (fun _ _ _ h => h) (Or.inl ⟨by kernel_rfl, ?_⟩) HS ?_
        rotate_left
        · intro wq _; go_simp; first | with_reducible rfl | (rw [if_neg (by omega)])
        refine anyE_take (i := 2) (v := ?_) rfl (by kernel_rfl) (by kernel_rfl) (by kernel_rfl) (by kernel_rfl) (by kernel_rfl) (fun _ _ _ h => h) (Or.inl ⟨by kernel_rfl, ?_⟩) HS ?_
        rotate_left
        · intro wq _; go_simp; first | with_reducible rfl | (rw [if_neg (by omega)])
        refine anyE_take (i := 3) (v := ?_) rfl (by kernel_rfl) (by kernel_rfl) (by kernel_rfl) (by kernel_rfl) (by kernel_rfl) (fun _ _ _ h => h) (Or.inl ⟨by kernel_rfl, ?_⟩) HS ?_
        rotate_left
        · intro wq _; go_simp; first | with_reducible rfl | (rw [if_neg (by omega)])
        refine anyE_take (i := 4) (v := ?_) rfl (by kernel_rfl) (by kernel_rfl) (by kernel_rfl) (by kernel_rfl) (by kernel_rfl) (fun _ _ _ h => h) (Or.inl ⟨by kernel_rfl, ?_⟩) HS ?_
        rotate_left
        · intro wq _; go_simp; first | with_reducible rfl | (rw [if_neg (by omega)])
        refine anyE_take (i := 5) (v := ?_) rfl (by kernel_rfl) (by kernel_rfl) (by kernel_rfl) (by kernel_rfl) (by kernel_rfl) (fun _ _ _ h => h) (Or.inl ⟨by kernel_rfl, ?_⟩) HS ?_
        rotate_left
        · intro wq hw; have hw := (hw.cell (p := ⟨gl, 2, none⟩) lg).trans c2; go_simp; with_reducible rfl
        refine anyE_take (i := 6) (v := ?_) rfl (by kernel_rfl) (by kernel_rfl) (by kernel_rfl) (by kernel_rfl) (by kernel_rfl) (fun _ _ _ h => h) (Or.inl ⟨by kernel_rfl, ?_⟩) HS ?_
        rotate_left
        · intro wq _; go_simp; first | with_reducible rfl | (rw [if_neg (by omega)])
        refine anyE_take (i := 7) (v := ?_) rfl (by kernel_rfl) (by kernel_rfl) (by kernel_rfl) (by kernel_rfl) (by kernel_rfl) (fun _ _ _ h => h) (Or.inl ⟨by kernel_rfl, ?_⟩) HS ?_
        rotate_left
        · intro wq _; go_simp; first | with_reducible rfl | (rw [if_neg (by omega)])
        refine anyE_take (i := 8) (v := ?_) rfl (by kernel_rfl) (by kernel_rfl) (by kernel_rfl) (by kernel_rfl) (by kernel_rfl) (fun _ _ _ h => h) (Or.inl ⟨by kernel_rfl, ?_⟩) HS ?_
        rotate_left
        · intro wq _; go_simp; first | with_reducible rfl | (rw [if_neg (by omega)])
        refine anyE_take (i := 9) (v := ?_) rfl (by kernel_rfl) (by kernel_rfl) (by kernel_rfl) (by kernel_rfl) (by kernel_rfl) (fun _ _ _ h => h) (Or.inl ⟨by kernel_rfl, ?_⟩) HS ?_
        rotate_left
        · intro wq hw; have hw := (hw.cell (p := ⟨w.heap.size, 1, none⟩) lb).trans t1; go_simp; with_reducible rfl
        refine anyE_take (i := 10) (v := ?_) rfl (by kernel_rfl) (by kernel_rfl) (by kernel_rfl) (by kernel_rfl) (by kernel_rfl) (fun _ _ _ h => h) (Or.inl ⟨by kernel_rfl, ?_⟩) HS ?_
        rotate_left
        · intro wq _; go_simp; first | with_reducible rfl | (rw [if_neg (by omega)])
        refine anyE_ready (rs := [11]) (by kernel_rfl) (by simp) ?_
        refine ReadyE.cons rfl (by kernel_rfl) (fun K hK => ?_) ReadyE.nil
        go_simp
        refine hK.out _ _ (fun _ => HS.alloc HS.size _) ?_
        clear hK K
        refine anyE_rest (by kernel_rfl) ?_
        have hw10 := HW9.out.below HS
        have HK10 := Lib.hid (HK9.out.trans (LdK.of_below HS))
        have HO10 := Lib.hid (ownsRow_keep HO9.out (fun g hg _ => HS.block g hg))
        obtain ⟨us, hus, hor, hur, hap⟩ := hw10.rs
        have hor2 := hor
        rw [HR2.out] at hor2
        have HOR := Lib.hid hor2
        have HOR1 := Lib.hid hor
        have HUS := Lib.hid hus
        have HUR := Lib.hid hur
        have HAP := Lib.hid hap
        have HW10 := Lib.hid hw10
        have hz10 := hw10.size
        obtain ⟨i1, ki, kz0, kz1, kz2⟩ := info_parts info_rule
        clear hw10 hus hor hor2 hur hap c2 t1 lg lb
        change wpAny _ _ _ _ _ _ _ ((World.drew w9).alloc (.cells #[.int .i64 v, .slice ao9 j ac9, .float .f64 F] 41))
        refine wpAny_ready (rs := [12]) (by kernel_rfl) (by simp) ?_
        refine AllReady.cons rfl (fun K hK => ?_) AllReady.nil
        refine step_append_lies _ (by rfl) (.tmp 55) (.tmp 61) 24 (by rfl) B 41 i1 (.agg #[.int .i64 0, .slice none 0 0, .float .f64 0]) 3 40 Tryz.underlying24 ki kz0 kz1 kz2 (by rfl) (by decide) (.slice ro2 rn2 rc2) rn2 (rcells l'.rules us) (by rfl) (HOR.out.alloc _) ⟨(World.drew w9).heap.size, 0, none⟩ 1 1 [Value.int .i64 v, .slice ao9 j ac9, .float .f64 F] (by rfl) (by rfl) (new_cells _ _ _) (one_rl _ _ _ _ _) (by decide) (by unfold maxLen; omega) (by omega) (by rw [World.size_alloc]; omega) ((World.drew w9).heap.size + 1) (World.size_alloc _ _) ?_
        intro g4 cap4 w4 hown4 hgrow4 hat4 hlt4
        have hb4 := Blk.grown (HW10.out.box.alloc (.cells #[.int .i64 v, .slice ao9 j ac9, .float .f64 F] 41)) hgrow4 (fun e => HW10.out.apart_box.2.2.1 e.symm)
        have hc4 := hb4.cell 2
        have hf4 := hb4.frozen 2
        have hl4 := hb4.lt
        refine hK _ _ ?_
        clear hK K
        refine wpAny_ready (rs := [13]) (by kernel_rfl) (by simp) ?_
        refine AllReady.cons rfl (fun K hK => ?_) AllReady.nil
        go_simp
        refine hK _ _ ?_
        clear hK K
        refine wpAny_ready (rs := [14]) (by kernel_rfl) (by simp) ?_
        refine AllReady.cons rfl (fun K hK => ?_) AllReady.nil
        go_simp
        refine hK _ _ ?_
        clear hK K
        refine wpAny_ready (rs := [15]) (by kernel_rfl) (by simp) ?_
        refine AllReady.cons rfl (fun K hK => ?_) AllReady.nil
        go_simp
        refine hK _ _ ?_
        clear hK K
        refine wpAny_ready (rs := [16]) (by kernel_rfl) (by simp) ?_
        refine AllReady.cons rfl (fun K hK => ?_) AllReady.nil
        go_simp
        refine hK _ _ ?_
        clear hK K
        refine wpAny_done (by kernel_rfl) ?_ _
        have hat4' : (Value.slice (some ⟨g4, 0, none⟩) (rn2 + 1) cap4).ownBlock = (Value.slice ro2 rn2 rc2).ownBlock ∨ (Value.slice (some ⟨g4, 0, none⟩) (rn2 + 1) cap4).ownBlock = some ((World.drew w9).alloc (.cells #[.int .i64 v, .slice ao9 j ac9, .float .f64 F] 41)).heap.size := by
          rcases hat4 with h | h
          · exact .inl h.symm
          · right; rw [World.size_alloc, ← h]; rfl
        have hst := HW10.out.rules_more (r := (v, xs, F)) (u := .slice ao9 j ac9) (v1 := .slice (some ⟨g4, 0, none⟩) (rn2 + 1) cap4) (w3 := w4) (us := us) (fun g e => (HO10.out.lt g e).1) (by rw [HXL.out]; exact own_low HO10.out H.out.size) HUS.out HOR1.out HUR.out HAP.out rfl (by rw [HR2.out]; exact hown4) hgrow4 hat4'
        have HST1 := Lib.hid (hst.1.toX (Y := XA) (fun g _ h => h.1) (fun g hg => (hst.1.nx g hg).1))
        have HST2 := Lib.hid hst.2
        clear hc4 hf4 hl4 hb4 hown4 hgrow4 hat4 hat4' hst
        generalize w4.setCell ⟨gl, 2, none⟩ (.slice (some ⟨g4, 0, none⟩) (rn2 + 1) cap4) = w5 at *
        go_wp2_with fail
        go_end0
        rw [HP.out]
        exact ⟨rfl, _, _, _, _, _, HST1.out, HK10.out.trans HST2.out⟩

      · replace HP : Hid (X = .error (10, P)) := HP
        go_wp2_with fail
        refine HHR.out.mono ?_
        rintro e w9 ⟨rfl, hb9⟩
        have t1 : w9.cell? ⟨w.heap.size, 0, none⟩ = some (.int .i64 P) := (hb9.cell (p := ⟨w.heap.size, 0, none⟩) lb).trans t0
        have lb9 : w.heap.size < w9.heap.size := Nat.lt_of_lt_of_le lb hb9.size
        have HF := Lib.hid (gfail_any w9 10 P)
        have HB9 := Lib.hid hb9
        clear c2 t0 lg lb HHR hb9
        go_wp2_with fail
        refine HF.out.mono ?_
        rintro e w' ⟨rfl, rfl⟩
        exact ⟨rfl, by rw [HP.out]; exact ⟨rfl, (HKK.out.belowB H.out).trans (HB9.out.mono (Nat.le_trans H.out.size HKK.out.kp.size))⟩⟩
end Go.Proofs.YtldamieigigncaaGreatDoor.lx

namespace Go.Proofs.YtldamieigigncaaGreatDoor.lx
open Go.ChangeShapes Go.WideShapes Go.ChangeAt Go.RowKit
set_option linter.unusedVariables false
set_option linter.unusedSimpArgs false
set_option maxRecDepth 100000 in
set_option maxHeartbeats 2000000 in
theorem collect_any (w : World) (Bs cap : Nat) (ao : Option Addr) (zs : List (List UInt8)) (hl : zs.length ≤ 100000) (hb : Blk w Bs 23 #[.slice ao zs.length cap]) (hs : SUnder w.heap.size w ao zs) :
    Calls Tryz.prog 90 #[.func (.func 92) #[] #[.pointer (some ⟨Bs, 0, none⟩)]] w fun e w' => (∃ v, e = .returned v ∧ w'.ownsRow w.heap.size 9 1 v zs.length (zs.map sv)) ∧ Below w.heap.size w w' := by
  have ha := append_any w Bs cap ao zs hl hb hs
  clear hb hs
  go_enter Tryz.func90, Tryz.ntmps90
  go_wp2_with (go_at_call 124; refine ha.mono ?_; rintro e w' ⟨⟨v, rfl, hv⟩, hbw⟩; have HV := Lib.hid hv; have HB := Lib.hid hbw; clear ha hv hbw)
  go_ret
  exact ⟨⟨_, rfl, HV.out⟩, HB.out⟩
set_option maxRecDepth 100000 in
set_option maxHeartbeats 2000000 in
theorem sorted_any (w : World) (Bs cap : Nat) (ao : Option Addr) (zs : List (List UInt8)) (hl : zs.length ≤ 100000) (hb : Blk w Bs 23 #[.slice ao zs.length cap]) (hs : SUnder w.heap.size w ao zs) :
    Calls Tryz.prog 65 #[.func (.func 92) #[] #[.pointer (some ⟨Bs, 0, none⟩)]] w fun e w' => (∃ v, e = .returned v ∧ w'.ownsRow w.heap.size 9 1 v zs.length ((srt zs).map sv)) ∧ Below w.heap.size w w' := by
  have ha := collect_any w Bs cap ao zs hl hb hs
  clear hb hs
  go_enter Tryz.func65, Tryz.ntmps65
  go_wp2_with (first
    | (go_at_call 90; refine ha.mono ?_; rintro e w1 ⟨⟨v, rfl, hv⟩, hbw⟩; have hso := sort_row w1 w.heap.size 9 v zs (by omega) hv; have HV := Lib.hid hv; have HB := Lib.hid hbw; clear ha hv hbw)
    | (go_at_call 91; refine hso.mono ?_; rintro e w2 ⟨rfl, hv2, hg2⟩; have HV2 := Lib.hid hv2; have HB2 := Lib.hid (HB.out.grown hg2 (by have := HB.out.size; omega) (fun j ej => (HV.out.lt j ej).1)); clear hso hv2 hg2))
  go_ret
  exact ⟨⟨_, rfl, HV2.out⟩, HB2.out⟩
theorem vals_any (a : Option Addr) (len cap : Nat) (w : World) :
    Calls Tryz.prog 66 #[.slice a len cap] w fun e w' => e = .returned (.func (.func 92) #[] #[.pointer (some ⟨w.heap.size, 0, none⟩)]) ∧ w' = w.alloc (.cells #[.slice a len cap] 23) :=
  (callsIn_wide (n := 3)).1 (vals_in Fence.wide 3 trivial rfl a len cap w)
theorem under_of {n₀ : Nat} {w : World} {A : Nat → Prop} {ao : Option Addr} {cap : Nat} {zs : List (List UInt8)} (h : StrsAt w A (.slice ao zs.length cap) zs) (hn : w.heap.size ≤ n₀) : SUnder n₀ w ao zs := by
  intro j hj
  obtain ⟨x, hx⟩ : ∃ x, zs[j]? = some x := ⟨_, List.getElem?_eq_getElem hj⟩
  obtain ⟨g, rfl, hg, cs, hc1, hc, he⟩ := ListOf.at2g h hx
  refine ⟨⟨g, 0, none⟩, rfl, Nat.lt_of_lt_of_le hg hn, ?_⟩
  have hd : zs.getD j [] = x := by rw [List.getD_eq_getElem?_getD, hx]; rfl
  have he : cs = [.string (S x)] := he
  subst he
  have h1 := hc 0 _ rfl
  rw [hd]
  show w.cell? ((⟨g, 0, none⟩ : Addr).add j) = _
  have e1 : ((⟨g, 0, none⟩ : Addr).add j) = ⟨g, j * 1 + 0, none⟩ := by unfold Addr.add; simp; try exact fun h => h.symm
  rw [e1]
  exact h1
end Go.Proofs.YtldamieigigncaaGreatDoor.lx


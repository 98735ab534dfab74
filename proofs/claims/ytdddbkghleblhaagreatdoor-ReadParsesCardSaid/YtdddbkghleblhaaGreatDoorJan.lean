import Derived.Test.YtdddbkghleblhaaGreatDoorJam
import Derived.Deep.Cut
import Derived.Test.YtdddbkghleblhaaGreatDoorJac
namespace Go.Proofs.YtdddbkghleblhaaGreatDoor.lx
open Go.ChangeShapes Go.WideShapes Go.ChangeAt Go.RowKit
set_option linter.unusedVariables false
attribute [local go_sem] run_store_float
/-! the document's alternatives -/
theorem info_ralt : (Tryz.prog.info? 67).map (fun i => (i.zero, i.size, i.bytes)) = some (some (.agg #[.int .i64 0, .float .f64 0, .slice none 0 0]), 3, 40) := by kernel_rfl
/-- what comes of an alternative, one form for both ways -/
theorem alt_un {k g cap n d m : Nat} {T : List Tok} {wx w3 : World} {e : Ending} {x : Res Altn} (hn : T.length = n) (h : AnsR (AltV k wx.heap.size) AltF g cap d T m wx x e w3) : ∃ (p2 E : Nat) (a : Int) (f : Nat) (ao2 : Option Addr) (m2 c2 : Nat),
    e = .returned (.tuple #[.agg #[.slice (some ⟨g, 0, none⟩) n cap, .int .i64 p2, .int .i64 d, .int .i64 E], .agg #[.int .i64 a, .float .f64 f, .slice ao2 m2 c2]]) ∧ Below wx.heap.size wx w3 ∧
    ((E = 0 ∧ ∃ i, x = .ok (i, T.drop p2) ∧ [.int .i64 a, .float .f64 f, .slice ao2 m2 c2] = AltC i (.slice ao2 m2 c2) ∧ ListOf 5 (EItm (AltsAt k)) w3 (fun g => wx.heap.size ≤ g) (.slice ao2 m2 c2) i.2.2 ∧ Good (T.drop p2) ∧ (T.drop p2).length ≤ m) ∨
     (∃ q, E = q.1 ∧ x = .error q ∧ 0 < q.1 ∧ p2 < n ∧ (T.getD p2 ⟨0, 0, [], 0⟩).at_ = q.2)) := by
  subst hn
  obtain ⟨hb, h⟩ := h
  cases x with
  | error q =>
    obtain ⟨p2, v, rfl, ⟨a, f, ao2, m2, c2, rfl⟩, h1, h2, h3⟩ := h
    exact ⟨p2, q.1, a, f, ao2, m2, c2, rfl, hb, .inr ⟨q, rfl, rfl, h1, h2, h3⟩⟩
  | ok y =>
    obtain ⟨i, r⟩ := y
    obtain ⟨p2, v, rfl, hv, rfl, h1, h2⟩ := h
    obtain ⟨ao2, c2, rfl, hvl⟩ := AltV.form hv
    exact ⟨p2, 0, i.1, i.2.1, ao2, i.2.2.length, c2, rfl, hb, .inl ⟨rfl, i, rfl, rfl, hvl, h1, h2⟩⟩
/-- the alternatives so far: they go on, or something is wrong -/
def RAltsR (k g cap n M : Nat) (T : List Tok) (X : Res (List Altn)) (w : World) (lv : Value) (wr : World) : Prop := Below w.heap.size w wr ∧ w.heap.size + 2 ≤ wr.heap.size ∧
  Blk wr (w.heap.size + 1) 59 #[.slice none 0 0, .int .i64 0, .int .i64 0, .int .i64 0] ∧
  ((∃ (done : List Altn) (p f : Nat), done ≠ [] ∧ Good (T.drop p) ∧ (T.drop p).length ≤ f ∧ done.length + f ≤ M + 1 ∧ Blk wr w.heap.size 59 #[.slice (some ⟨g, 0, none⟩) n cap, .int .i64 p, .int .i64 (16 - k : Nat), .int .i64 (0 : Nat)] ∧
      OwnOf 3 (EAlt (AltsAt k)) 67 (w.heap.size + 2) wr lv done ∧ preA done (pMore (pSub k) f (T.drop p)) = X) ∨
   (∃ (q : Nat × Nat) (p : Nat) (ao : Option Addr) (m c : Nat), X = .error q ∧ 0 < q.1 ∧ p < T.length ∧ (T.getD p ⟨0, 0, [], 0⟩).at_ = q.2 ∧ Blk wr w.heap.size 59 #[.slice (some ⟨g, 0, none⟩) n cap, .int .i64 p, .int .i64 (16 - k : Nat), .int .i64 q.1] ∧ lv = .slice ao m c))
theorem one3 (a : Int) (f : Nat) (ao2 : Option Addr) (m2 c2 : Nat) : ∀ z ∈ [Value.int .i64 a, .float .f64 f, .slice ao2 m2 c2], z.oneCell' = true := by
  intro z hz
  simp at hz
  rcases hz with rfl | rfl | rfl <;> rfl
theorem entry2' (w : World) (s0 s1 : Array Value) (t0 t1 : TypeId) : Below w.heap.size w ((w.alloc (.cells s0 t0)).alloc (.cells s1 t1)) ∧ ((w.alloc (.cells s0 t0)).alloc (.cells s1 t1)).heap.size = w.heap.size + 2 ∧ Blk ((w.alloc (.cells s0 t0)).alloc (.cells s1 t1)) w.heap.size t0 s0 ∧ Blk ((w.alloc (.cells s0 t0)).alloc (.cells s1 t1)) (w.heap.size + 1) t1 s1 := entry2 w s0 s1 t0 t1
theorem raltsR_step {k g cap n d M p' f p2 E m2 c2 icap ao6cap dn f0 : Nat} {T : List Tok} {X : Res (List Altn)} {w wq wr w3 w5 w6 : World} {done : List Altn} {ao ao2 ao6 : Option Addr} {a : Int} {us : List (List Value)} (hn : T.length = n) (hd : 16 - k = d)
    (hdn : done.length = dn) (hzr : w.heap.size + 2 ≤ wr.heap.size) (hz3 : wr.heap.size ≤ w3.heap.size) (hp' : p' < n) (hrl : rleft n w.heap.size wq = 1 + (n - p'))
    (hk35 : ∀ i, i < w3.heap.size → i ≠ w.heap.size → w5.heap[i]? = w3.heap[i]?) (hk5 : ∀ i, i < wr.heap.size → i ≠ w.heap.size → w5.heap[i]? = wr.heap[i]?) (hz5 : w3.heap.size ≤ w5.heap.size) (hbel : Below w.heap.size w w5)
    (b0 : Blk w5 w.heap.size 59 #[.slice (some ⟨g, 0, none⟩) n cap, .int .i64 p2, .int .i64 d, .int .i64 E]) (b1 : Blk w5 (w.heap.size + 1) 59 #[.slice none 0 0, .int .i64 0, .int .i64 0, .int .i64 0])
    (hus1 : us.length = done.length) (hus2 : ∀ u ∈ us, u.length = 3) (how : wr.ownsRow (w.heap.size + 2) 67 3 (.slice ao dn icap) dn us.flatten)
    (hus4 : ∀ (j : Nat) (x : Altn), done[j]? = some x → ∃ cs, us[j]? = some cs ∧ EAlt (AltsAt k) wr (fun g => w.heap.size + 2 ≤ g ∧ some g ≠ (Value.slice ao dn icap).ownBlock) x cs)
    (hown6 : w6.ownsRow (w.heap.size + 2) 67 3 (.slice ao6 (dn + 1) ao6cap) (dn + 1) (us.flatten ++ [.int .i64 a, .float .f64 f0, .slice ao2 m2 c2]))
    (hg6 : (w5.alloc (.cells #[.int .i64 a, .float .f64 f0, .slice ao2 m2 c2] 67)).grownBy w6 (Value.slice ao dn icap).ownBlock)
    (hat6 : (Value.slice ao6 (dn + 1) ao6cap).ownBlock = (Value.slice ao dn icap).ownBlock ∨ (Value.slice ao6 (dn + 1) ao6cap).ownBlock = some (w5.alloc (.cells #[.int .i64 a, .float .f64 f0, .slice ao2 m2 c2] 67)).heap.size)
    (hf : (T.drop p').length ≤ f + 1) (hdf : dn + (f + 1) ≤ M + 1) (h124 : sg (T.drop p') = 124) (htl : (T.drop p').tail = T.drop (p' + 1)) (hpre : preA done (pMore (pSub k) (f + 1) (T.drop p')) = X)
    (hun : (E = 0 ∧ ∃ i, pAlt (pSub k) (T.drop (p' + 1)) = .ok (i, T.drop p2) ∧ [.int .i64 a, .float .f64 f0, .slice ao2 m2 c2] = AltC i (.slice ao2 m2 c2) ∧ ListOf 5 (EItm (AltsAt k)) w3 (fun g => wr.heap.size ≤ g) (.slice ao2 m2 c2) i.2.2 ∧ Good (T.drop p2) ∧ (T.drop p2).length ≤ (T.drop (p' + 1)).length) ∨
     (∃ q, E = q.1 ∧ pAlt (pSub k) (T.drop (p' + 1)) = .error q ∧ 0 < q.1 ∧ p2 < n ∧ (T.getD p2 ⟨0, 0, [], 0⟩).at_ = q.2)) :
    RAltsR k g cap n M T X w (.slice ao6 (dn + 1) ao6cap) w6 ∧ rleft n w.heap.size w6 < rleft n w.heap.size wq := by
  subst hdn
  have hlt := how.lt
  have kg := Kp.of_grown hg6
  have ka : Kp (fun _ => False) w5 (w5.alloc (.cells #[.int .i64 a, .float .f64 f0, .slice ao2 m2 c2] 67)) := Kp.alloc _ _ _
  have hz6 : w5.heap.size + 1 ≤ w6.heap.size := by have := kg.size; rw [World.size_alloc] at this; exact this
  have hne : ∀ j, j < w.heap.size + 2 → some j ≠ (Value.slice ao done.length icap).ownBlock := fun j hj e => by have := (hlt j e.symm).1; omega
  have d0 := Blk.grown (b0.alloc _) hg6 (hne _ (by omega))
  have d1 := Blk.grown (b1.alloc _) hg6 (hne _ (by omega))
  have hbF : Below w.heap.size w w6 :=
    (hbel.trans (ka.below (by have := hbel.size; omega) (fun i h => h.elim))).trans (kg.below (by rw [World.size_alloc]; omega) (fun i hi => by have := (hlt i hi).1; omega))
  rw [rleft_st d0, hrl]
  unfold RAltsR
  rw [hd]
  rcases hun with ⟨rfl, i, hi, hcs, hv, hgd, hl⟩ | ⟨q, rfl, hi, hq, hp2, hqa⟩
  · rw [hcs] at hown6 hg6 hat6
    have hO6 := own_more (keepsAlt (keepsAlts k)) (x := i) hus1 hus2 hus4 how (fun g hg hb => hk5 g hg (by omega)) (by omega) (show EAlt (AltsAt k) w5 (fun g => wr.heap.size ≤ g) i (AltC i (.slice ao2 m2 c2)) from ⟨_, rfl, hv.keep (keepsItm (keepsAlts k)) (fun g hg hb => ⟨hb, hk35 g hg (by have : wr.heap.size ≤ g := hb; omega)⟩) hz5⟩) rfl hzr hown6 hg6 hat6
    have hgl : 0 < (T.drop p2).length := hgd.pos
    rw [List.length_drop, hn] at hgl
    rw [List.length_drop, List.length_drop, hn] at hl
    rw [List.length_drop, hn] at hf
    refine ⟨⟨hbF, by omega, d1, .inl ⟨done ++ [i], p2, f, by simp, hgd, by rw [List.length_drop, hn]; omega, by rw [List.length_append]; simp; omega, d0, hO6, ?_⟩⟩, by rw [if_pos rfl]; omega⟩
    rw [← hpre, preA_step _ _ _ _ _ _ h124 (by rw [htl]; exact hi)]
  · refine ⟨⟨hbF, by omega, d1, .inr ⟨q, p2, _, _, _, ?_, hq, by rw [hn]; exact hp2, hqa, d0, rfl⟩⟩, by rw [if_neg (by omega)]; omega⟩
    rw [← hpre]
    exact preA_err _ _ _ _ _ h124 (by rw [htl]; exact hi)
set_option maxRecDepth 100000 in
set_option maxHeartbeats 4000000 in
theorem ralts_any (k : Nat) (hA : RAltOk k) : RAltsOk k := by
  intro w g cap p T hk h hg
  have hgl := h.lt
  have hlen := h.len
  have hcl := h.capl
  have hcm := h.capm
  have HA := Lib.hid hA
  have HT := Lib.hid h
  have HG := Lib.hid hg
  unfold maxLen at hcm
  rw [pA_sub]
  generalize hX : pAlts (pSub k) (T.drop p) = X at *
  generalize hn : T.length = n at *
  have HN := Lib.hid hn
  have HX0 := Lib.hid hX
  generalize hm : (T.drop p).length = m at *
  have hml : m ≤ 65537 := by rw [List.length_drop, hn] at hm; omega
  have HM := Lib.hid hm
  clear h hg hA hX hn hm
  unfold StV
  generalize hd1 : 16 - k = d at *
  have HD1 := Lib.hid hd1
  clear hd1
  go_enter Tryz.func18, Tryz.ntmps18
  go_upto_region 1 with fail
  have he := entry2 w #[.slice (some ⟨g, 0, none⟩) n cap, .int .i64 p, .int .i64 d, .int .i64 0] #[.slice none 0 0, .int .i64 0, .int .i64 0, .int .i64 0] 59 59
  generalize (w.alloc (.cells #[.slice (some ⟨g, 0, none⟩) n cap, .int .i64 p, .int .i64 d, .int .i64 0] 59)).alloc (.cells #[.slice none 0 0, .int .i64 0, .int .i64 0, .int .i64 0] 59) = w1 at *
  obtain ⟨hb1, hz1, b0, b1⟩ := he
  have hal := HA.out w1 g cap p T hk (HT.out.below hb1 hgl) HG.out
  rw [HN.out, HD1.out, HM.out] at hal
  unfold StV at hal
  have x0 : w1.cell? ⟨w.heap.size, 0, none⟩ = some (.slice (some ⟨g, 0, none⟩) n cap) := b0.cell 0
  have x1 : w1.cell? ⟨w.heap.size, 1, none⟩ = some (.int .i64 p) := b0.cell 1
  have x2 : w1.cell? ⟨w.heap.size, 2, none⟩ = some (.int .i64 d) := b0.cell 2
  have x3 : w1.cell? ⟨w.heap.size, 3, none⟩ = some (.int .i64 0) := b0.cell 3
  have l0 := b0.lt
  have B0 := Lib.hid b0
  have B1 := Lib.hid b1
  have HB1 := Lib.hid hb1
  have HZ1 := Lib.hid hz1
  clear b0 b1 hb1
  go_wp2_with fail
  refine hal.mono ?_
  intro e w3 han
  obtain ⟨p2, E, a, f, ao2, m2, c2, rfl, hb3, hun⟩ := alt_un HN.out han
  clear hal han x0 x1 x2 x3 l0
  have HUN := Lib.hid hun
  have b0 := B0.out.below hb3 B0.out.lt
  have b1 := B1.out.below hb3 B1.out.lt
  have hz3 := hb3.size
  have HB3 := Lib.hid (HB1.out.trans (hb3.mono (by omega)))
  have l0 := b0.lt
  have x0 : w3.cell? ⟨w.heap.size, 0, none⟩ = some (.slice (some ⟨g, 0, none⟩) n cap) := b0.cell 0
  have x1 : w3.cell? ⟨w.heap.size, 1, none⟩ = some (.int .i64 p) := b0.cell 1
  have x2 : w3.cell? ⟨w.heap.size, 2, none⟩ = some (.int .i64 d) := b0.cell 2
  have x3 : w3.cell? ⟨w.heap.size, 3, none⟩ = some (.int .i64 0) := b0.cell 3
  have v0 := b0.frozen 0
  have v1 := b0.frozen 1
  have v2 := b0.frozen 2
  have v3 := b0.frozen 3
  have C0 := Lib.hid b0
  have C1 := Lib.hid b1
  clear hun b0 b1 hb3
  go_upto_region 2 with fail
  have hks := kp_st w3 w.heap.size (.slice (some ⟨g, 0, none⟩) n cap) (.int .i64 p2) (.int .i64 d) (.int .i64 E)
  have b0 : Blk ((((w3.setCell ⟨w.heap.size, 0, none⟩ (.slice (some ⟨g, 0, none⟩) n cap)).setCell ⟨w.heap.size, 1, none⟩ (.int .i64 p2)).setCell ⟨w.heap.size, 2, none⟩ (.int .i64 d)).setCell ⟨w.heap.size, 3, none⟩ (.int .i64 E)) w.heap.size 59 #[.slice (some ⟨g, 0, none⟩) n cap, .int .i64 p2, .int .i64 d, .int .i64 E] :=
    (((C0.out.set_ 0 (.slice (some ⟨g, 0, none⟩) n cap)).set_ 1 (.int .i64 p2)).set_ 2 (.int .i64 d)).set_ 3 (.int .i64 E)
  have hzs : ((((w3.setCell ⟨w.heap.size, 0, none⟩ (.slice (some ⟨g, 0, none⟩) n cap)).setCell ⟨w.heap.size, 1, none⟩ (.int .i64 p2)).setCell ⟨w.heap.size, 2, none⟩ (.int .i64 d)).setCell ⟨w.heap.size, 3, none⟩ (.int .i64 E)).heap.size = w3.heap.size := by simp
  clear x0 x1 x2 x3 v0 v1 v2 v3 l0
  generalize (((w3.setCell ⟨w.heap.size, 0, none⟩ (.slice (some ⟨g, 0, none⟩) n cap)).setCell ⟨w.heap.size, 1, none⟩ (.int .i64 p2)).setCell ⟨w.heap.size, 2, none⟩ (.int .i64 d)).setCell ⟨w.heap.size, 3, none⟩ (.int .i64 E) = ws at *
  have s4 := Blk.new ws 67 #[.int .i64 a, .float .f64 f, .slice ao2 m2 c2]
  have hkw := Kp.alloc (fun _ => False) ws (.cells #[.int .i64 a, .float .f64 f, .slice ao2 m2 c2] 67)
  have b0 := b0.alloc (.cells #[.int .i64 a, .float .f64 f, .slice ao2 m2 c2] 67)
  have b1 : Blk ws (w.heap.size + 1) _ _ := C1.out.kept hks (by show ¬ w.heap.size + 1 = w.heap.size; omega)
  have b1 := b1.alloc (.cells #[.int .i64 a, .float .f64 f, .slice ao2 m2 c2] 67)
  have hz4 : (ws.alloc (.cells #[.int .i64 a, .float .f64 f, .slice ao2 m2 c2] 67)).heap.size = w3.heap.size + 1 := by rw [World.size_alloc, hzs]
  rw [hzs] at s4
  generalize ws.alloc (.cells #[.int .i64 a, .float .f64 f, .slice ao2 m2 c2] 67) = w4 at *
  have hk34 : ∀ i, i < w3.heap.size → i ≠ w.heap.size → w4.heap[i]? = w3.heap[i]? := fun i hi hne => (hkw.block i (by omega) (fun h => h)).trans (hks.block i hi hne)
  have hbel : Below w.heap.size w w4 := HB3.out.trans ((hks.below (n := w.heap.size) (by have := HZ1.out; omega) (fun i hi => by omega)).trans (hkw.below (by have := HZ1.out; omega) (fun i hi => hi.elim)))
  have hst : RAltsR k g cap n m T X w (.slice (some ⟨w4.heap.size, 0, none⟩) 1 1) (w4.alloc (.cells #[.int .i64 a, .float .f64 f, .slice ao2 m2 c2] 67)) := by
    have hz1' := HZ1.out
    unfold RAltsR
    rw [HD1.out]
    refine ⟨hbel.trans ((Below.refl _ _).alloc (by omega) _), by rw [World.size_alloc]; omega, b1.alloc _, ?_⟩
    rcases HUN.out with ⟨rfl, i, hi, hcs, hv, hgd, hl⟩ | ⟨q, rfl, hi, hq, hp2, hqa⟩
    · have hca : (#[.int .i64 a, .float .f64 f, .slice ao2 m2 c2] : Array Value) = (AltC i (.slice ao2 m2 c2)).toArray := by rw [← hcs]
      refine .inl ⟨[i], p2, (T.drop p2).length, by simp, hgd, Nat.le_refl _, by show 1 + (T.drop p2).length ≤ m + 1; omega, b0.alloc _, ?_, ?_⟩
      · rw [hca]
        exact OwnOf.lit1 (keepsAlt (keepsAlts k)) 67 (w.heap.size + 2) w4 (by omega) i (AltC i (.slice ao2 m2 c2)) rfl ⟨_, rfl, hv.keep (keepsItm (keepsAlts k)) (fun g hg hb => ⟨Nat.le_trans (Nat.le_of_eq hz1'.symm) hb, hk34 g hg (by have : w1.heap.size ≤ g := hb; omega)⟩) (by omega)⟩
      · rw [← HX0.out]
        exact alts_eq _ _ _ _ hi
    · refine .inr ⟨q, p2, _, _, _, ?_, hq, by rw [HN.out]; exact hp2, hqa, b0.alloc _, rfl⟩
      rw [← HX0.out]
      unfold pAlts
      rw [hi]
  have HST := Lib.hid hst
  have j0 : w4.cell? ⟨w3.heap.size, 0, none⟩ = some (.int .i64 a) := s4.cell 0
  have j1 : w4.cell? ⟨w3.heap.size, 1, none⟩ = some (.float .f64 f) := s4.cell 1
  have j2 : w4.cell? ⟨w3.heap.size, 2, none⟩ = some (.slice ao2 m2 c2) := s4.cell 2
  have ls4 := s4.lt
  clear hst hbel hk34 s4 b0 b1 hks hkw hzs hz4 hz3 HUN B0 B1 HB1 HZ1 C0 C1 HB3
  go_wp2_with fail
  clear j0 j1 j2 ls4
  go_loopw [5] (fun lv wr => RAltsR k g cap n m T X w lv wr) (fun _ wr => rleft n w.heap.size wr)
  case atStart => exact HST.out
  case round =>
    obtain ⟨hbr, hzr, b1, hh⟩ := hrel
    clear HST
    rw [HD1.out] at hh
    have HBR := Lib.hid hbr
    have HTR := Lib.hid (HT.out.below hbr hgl)
    have BX1 := Lib.hid b1
    clear b1 hbr
    rcases hh with ⟨done, p', f, hne, hg1, hf, hdf, b0, ho, hpre⟩ | ⟨q, p', ao, m', c', hX, hq, hpl, hqa, b0, rfl⟩
    · obtain ⟨f, rfl⟩ : ∃ f', f = f' + 1 := ⟨f - 1, by have := hg1.pos; omega⟩
      have hp2 : p' < n := by
        have := hg1.pos
        rw [List.length_drop, HN.out] at this
        omega
      obtain ⟨ao, icap, rfl⟩ : ∃ ao cap, u5 = .slice ao done.length cap := by
        obtain ⟨us, _, _, h3, _⟩ := ho
        exact own_form h3
      have hs := rsign_any wr g cap p' d 0 T 124 (by decide) HTR.out hg1
      rw [HN.out] at hs
      unfold StV at hs
      have hrl : rleft n w.heap.size wr = 1 + (n - p') := by rw [rleft_st b0, if_pos rfl]
      have HRL := Lib.hid hrl
      have BX0 := Lib.hid b0
      have HG1 := Lib.hid hg1
      have HO := Lib.hid ho
      have HPRE := Lib.hid hpre
      have HF := Lib.hid hf
      have HNE := Lib.hid hne
      have HDF := Lib.hid hdf
      clear hrl b0 hg1 ho hpre hf hdf hne
      have x0 : wr.cell? ⟨w.heap.size, 0, none⟩ = some (.slice (some ⟨g, 0, none⟩) n cap) := BX0.out.cell 0
      have x1 : wr.cell? ⟨w.heap.size, 1, none⟩ = some (.int .i64 p') := BX0.out.cell 1
      have x2 : wr.cell? ⟨w.heap.size, 2, none⟩ = some (.int .i64 d) := BX0.out.cell 2
      have x3 : wr.cell? ⟨w.heap.size, 3, none⟩ = some (.int .i64 0) := BX0.out.cell 3
      have l0 := BX0.out.lt
      have v1 := BX0.out.frozen 1
      by_cases h124 : sg (T.drop p') = 124
      · rw [decide_eq_true (show sg (T.drop p') = UInt8.toNat 124 from h124)] at hs
        obtain ⟨t2, r2, hd2, hst, hgr2⟩ := HG1.out.sg_tail (by omega)
        obtain ⟨_, _, hdr2⟩ := drop_lt hd2
        have HTL : Hid ((T.drop p').tail = T.drop (p' + 1)) := Lib.hid (by rw [hd2, hdr2]; rfl)
        have HG2 : Hid (Good (T.drop (p' + 1))) := Lib.hid (by rw [hdr2]; exact hgr2)
        have H124 := Lib.hid h124
        clear h124 hd2 hst hgr2 hdr2
        go_wp2_with fail
        refine hs.mono ?_
        rintro e wx ⟨rfl, hbx⟩
        clear hs
        clear x0 x1 x2 x3 l0 v1
        have hzx : w.heap.size + 2 ≤ wx.heap.size := by have := hbx.size; omega
        have BX0 := Lib.hid (BX0.out.below hbx BX0.out.lt)
        have BX1 := Lib.hid (BX1.out.below hbx BX1.out.lt)
        have HBR := Lib.hid (HBR.out.trans (hbx.mono (by omega)))
        have HTR := Lib.hid (HTR.out.below hbx HTR.out.lt)
        have HO := Lib.hid (HO.out.keep (keepsAlt (keepsAlts k)) (fun g hg _ => hbx.block g hg) hbx.size)
        clear hbx
        have HPC := Lib.hid (show ((p' : Int) + 1) = ((p' + 1 : Nat) : Int) from rfl)
        have x0 : wx.cell? ⟨w.heap.size, 0, none⟩ = some (.slice (some ⟨g, 0, none⟩) n cap) := BX0.out.cell 0
        have x1 : wx.cell? ⟨w.heap.size, 1, none⟩ = some (.int .i64 p') := BX0.out.cell 1
        have x2 : wx.cell? ⟨w.heap.size, 2, none⟩ = some (.int .i64 d) := BX0.out.cell 2
        have x3 : wx.cell? ⟨w.heap.size, 3, none⟩ = some (.int .i64 0) := BX0.out.cell 3
        have l0 := BX0.out.lt
        have v1 := BX0.out.frozen 1
        go_upto_region 5 with fail
        have hk1 := kp_at wx w.heap.size 1 (.int .i64 ((p' : Int) + 1))
        have b0 : Blk (wx.setCell ⟨w.heap.size, 1, none⟩ (.int .i64 ((p' : Int) + 1))) w.heap.size 59 #[.slice (some ⟨g, 0, none⟩) n cap, .int .i64 (p' + 1 : Nat), .int .i64 d, .int .i64 0] := BX0.out.set_ 1 (.int .i64 ((p' : Int) + 1))
        clear x0 x1 x2 x3 l0 v1
        generalize wx.setCell ⟨w.heap.size, 1, none⟩ (.int .i64 ((p' : Int) + 1)) = wy at *
        have hzy : w.heap.size + 2 ≤ wy.heap.size := by have := hk1.size; omega
        have BX0 := Lib.hid b0
        have BX1 : Hid (Blk wy (w.heap.size + 1) _ _) := Lib.hid (BX1.out.kept hk1 (by show ¬ w.heap.size + 1 = w.heap.size; omega))
        have HBR := Lib.hid (HBR.out.trans (hk1.below (n := w.heap.size) (by omega) (fun i hi => by have : i = w.heap.size := hi; omega)))
        have HTR := Lib.hid (HT.out.below HBR.out hgl)
        have HO := Lib.hid (HO.out.keep (keepsAlt (keepsAlts k)) (fun g hg hb => hk1.block g hg (by show ¬ g = w.heap.size; omega)) hk1.size)
        clear b0 hk1 hzx
        have hal := HA.out wy g cap (p' + 1) T hk HTR.out HG2.out
        rw [HN.out, HD1.out] at hal
        unfold StV at hal
        have x0 : wy.cell? ⟨w.heap.size, 0, none⟩ = some (.slice (some ⟨g, 0, none⟩) n cap) := BX0.out.cell 0
        have x1 : wy.cell? ⟨w.heap.size, 1, none⟩ = some (.int .i64 (p' + 1 : Nat)) := BX0.out.cell 1
        have x2 : wy.cell? ⟨w.heap.size, 2, none⟩ = some (.int .i64 d) := BX0.out.cell 2
        have x3 : wy.cell? ⟨w.heap.size, 3, none⟩ = some (.int .i64 0) := BX0.out.cell 3
        have l0 := BX0.out.lt
        have v1 := BX0.out.frozen 1
        go_wp2_with fail
        refine hal.mono ?_
        intro e w3 han
        obtain ⟨p2, E, a, f0, ao2, m2, c2, rfl, hb3, hun⟩ := alt_un HN.out han
        clear hal han
        clear x0 x1 x2 x3 l0 v1
        have HUN := Lib.hid hun
        have C0 := Lib.hid (BX0.out.below hb3 BX0.out.lt)
        have C1 := Lib.hid (BX1.out.below hb3 BX1.out.lt)
        have hz3 := hb3.size
        have HB3 := Lib.hid hb3
        clear hun hb3
        go_upto_region 6 with fail
        have he := entry2 w3 #[.slice (some ⟨g, 0, none⟩) n cap, .int .i64 p2, .int .i64 d, .int .i64 E] #[.int .i64 a, .float .f64 f0, .slice ao2 m2 c2] 59 67
        generalize (w3.alloc (.cells #[.slice (some ⟨g, 0, none⟩) n cap, .int .i64 p2, .int .i64 d, .int .i64 E] 59)).alloc (.cells #[.int .i64 a, .float .f64 f0, .slice ao2 m2 c2] 67) = w4 at *
        obtain ⟨hb4, hz4, s5, s6⟩ := he
        have HB4 := Lib.hid hb4
        have HZ4 := Lib.hid hz4
        have D0 := Lib.hid (C0.out.below hb4 C0.out.lt)
        have D1 := Lib.hid (C1.out.below hb4 C1.out.lt)
        have D6 := Lib.hid s6
        have l0 := D0.out.lt
        have v0 := D0.out.frozen 0
        have v1 := D0.out.frozen 1
        have v2 := D0.out.frozen 2
        have v3 := D0.out.frozen 3
        have x0 : w4.cell? ⟨w.heap.size, 0, none⟩ = some (.slice (some ⟨g, 0, none⟩) n cap) := D0.out.cell 0
        have x1 : w4.cell? ⟨w.heap.size, 1, none⟩ = some (.int .i64 (p' + 1 : Nat)) := D0.out.cell 1
        have x2 : w4.cell? ⟨w.heap.size, 2, none⟩ = some (.int .i64 d) := D0.out.cell 2
        have x3 : w4.cell? ⟨w.heap.size, 3, none⟩ = some (.int .i64 0) := D0.out.cell 3
        have q0 : w4.cell? ⟨w3.heap.size, 0, none⟩ = some (.slice (some ⟨g, 0, none⟩) n cap) := s5.cell 0
        have q1 : w4.cell? ⟨w3.heap.size, 1, none⟩ = some (.int .i64 p2) := s5.cell 1
        have q2 : w4.cell? ⟨w3.heap.size, 2, none⟩ = some (.int .i64 d) := s5.cell 2
        have q3 : w4.cell? ⟨w3.heap.size, 3, none⟩ = some (.int .i64 E) := s5.cell 3
        clear hb4 hz4 s5 s6 C0 C1
        go_upto_region 7 with fail
        have hks := kp_st w4 w.heap.size (.slice (some ⟨g, 0, none⟩) n cap) (.int .i64 p2) (.int .i64 d) (.int .i64 E)
        have b0 : Blk ((((w4.setCell ⟨w.heap.size, 0, none⟩ (.slice (some ⟨g, 0, none⟩) n cap)).setCell ⟨w.heap.size, 1, none⟩ (.int .i64 p2)).setCell ⟨w.heap.size, 2, none⟩ (.int .i64 d)).setCell ⟨w.heap.size, 3, none⟩ (.int .i64 E)) w.heap.size 59 #[.slice (some ⟨g, 0, none⟩) n cap, .int .i64 p2, .int .i64 d, .int .i64 E] :=
          (((D0.out.set_ 0 (.slice (some ⟨g, 0, none⟩) n cap)).set_ 1 (.int .i64 p2)).set_ 2 (.int .i64 d)).set_ 3 (.int .i64 E)
        clear x0 x1 x2 x3 q0 q1 q2 q3 v0 v1 v2 v3 l0
        generalize (((w4.setCell ⟨w.heap.size, 0, none⟩ (.slice (some ⟨g, 0, none⟩) n cap)).setCell ⟨w.heap.size, 1, none⟩ (.int .i64 p2)).setCell ⟨w.heap.size, 2, none⟩ (.int .i64 d)).setCell ⟨w.heap.size, 3, none⟩ (.int .i64 E) = w5 at *
        have hz45 := hks.size
        have hz4 := HZ4.out
        have b1 : Blk w5 (w.heap.size + 1) _ _ := D1.out.kept hks (by show ¬ w.heap.size + 1 = w.heap.size; omega)
        have s6 : Blk w5 (w3.heap.size + 1) _ _ := D6.out.kept hks (by show ¬ w3.heap.size + 1 = w.heap.size; omega)
        have hk35 : ∀ i, i < w3.heap.size → i ≠ w.heap.size → w5.heap[i]? = w3.heap[i]? := fun i hi hne => (hks.block i (by omega) hne).trans (HB4.out.block i hi)
        have hk5 : ∀ i, i < wy.heap.size → i ≠ w.heap.size → w5.heap[i]? = wy.heap[i]? := fun i hi hne => (hk35 i (by omega) hne).trans (HB3.out.block i hi)
        have hbel5 : Below w.heap.size w w5 := (HBR.out.trans (HB3.out.mono (by omega))).trans ((HB4.out.mono (by omega)).trans (hks.below (n := w.heap.size) (by omega) (fun i hi => by omega)))
        obtain ⟨us, hus1, hus2, how, hus4⟩ := HO.out
        have how5 := ownsRow_keep how (w' := w5) (fun g hg hv => hk5 g hg (by have := (how.lt g hv).1; omega))
        have F0 := Lib.hid b0
        have F1 := Lib.hid b1
        have HK35 := Lib.hid hk35
        have HK5 := Lib.hid hk5
        have HBL := Lib.hid hbel5
        have HU1 := Lib.hid hus1
        have HU2 := Lib.hid hus2
        have HOW := Lib.hid how
        have HU4 := Lib.hid hus4
        have HW5 := Lib.hid how5
        have ls6 := s6.lt
        have i0 : w5.cell? ⟨w3.heap.size + 1, 0, none⟩ = some (.int .i64 a) := s6.cell 0
        have i1' : w5.cell? ⟨w3.heap.size + 1, 1, none⟩ = some (.float .f64 f0) := s6.cell 1
        have i2 : w5.cell? ⟨w3.heap.size + 1, 2, none⟩ = some (.slice ao2 m2 c2) := s6.cell 2
        have hbd : done.length ≤ 70000 := by have := HDF.out; omega
        have hsz5 : w.heap.size + 2 ≤ w5.heap.size := by omega
        clear b0 b1 s6 D0 D1 D6 hks hk35 hk5 hbel5 hus1 hus2 how hus4 how5 hz45 hz4
        obtain ⟨i1, ki, kz0, kz1, kz2⟩ := info_parts info_ralt
        generalize hdn : done.length = dn at *
        have HDN := Lib.hid hdn
        clear hdn
        go_wp2_with (at_builtin; refine wpList_append_own_at _ rfl _ _ 35 rfl (w.heap.size + 2) 67 i1 (.agg #[.int .i64 0, .float .f64 0, .slice none 0 0]) 3 40 Tryz.underlying35 ki kz0 kz1 kz2 rfl (by decide) _ dn us.flatten rfl (HW5.out.alloc _) ⟨w5.heap.size, 0, none⟩ 1 1 [.int .i64 a, .float .f64 f0, .slice ao2 m2 c2] rfl rfl (new_cells _ _ _) (one3 _ _ _ _ _) (by unfold maxLen; omega) (by omega) (by rw [World.size_alloc]; omega) ?_; intro v6 w6 hown6 hg6 _ hat6; obtain ⟨ao6, cap6, rfl⟩ := own_form hown6)
        exact raltsR_step HN.out HD1.out HDN.out hzy hz3 hp2 HRL.out HK35.out HK5.out (by omega) HBL.out F0.out F1.out (HU1.out.trans HDN.out.symm) HU2.out HOW.out HU4.out hown6 hg6 hat6 HF.out HDF.out H124.out HTL.out HPRE.out HUN.out
      · rw [decide_eq_false (show ¬ sg (T.drop p') = UInt8.toNat 124 from h124)] at hs
        have HXX : Hid (X = .ok (done, T.drop p')) := Lib.hid (by rw [← HPRE.out]; exact preA_end _ _ _ _ h124)
        clear h124
        go_wp2_with fail
        refine hs.mono ?_
        rintro e wx ⟨rfl, hbx⟩
        clear hs
        clear x0 x1 x2 x3 l0 v1
        have hzx : w.heap.size + 2 ≤ wx.heap.size := by have := hbx.size; omega
        have BX0 := Lib.hid (BX0.out.below hbx BX0.out.lt)
        have BX1 := Lib.hid (BX1.out.below hbx BX1.out.lt)
        have HBR := Lib.hid (HBR.out.trans (hbx.mono (by omega)))
        have HTR := Lib.hid (HTR.out.below hbx HTR.out.lt)
        have HO := Lib.hid (HO.out.keep (keepsAlt (keepsAlts k)) (fun g hg _ => hbx.block g hg) hbx.size)
        clear hbx
        have x0 : wx.cell? ⟨w.heap.size, 0, none⟩ = some (.slice (some ⟨g, 0, none⟩) n cap) := BX0.out.cell 0
        have x1 : wx.cell? ⟨w.heap.size, 1, none⟩ = some (.int .i64 p') := BX0.out.cell 1
        have x2 : wx.cell? ⟨w.heap.size, 2, none⟩ = some (.int .i64 d) := BX0.out.cell 2
        have x3 : wx.cell? ⟨w.heap.size, 3, none⟩ = some (.int .i64 0) := BX0.out.cell 3
        have l0 := BX0.out.lt
        have v1 := BX0.out.frozen 1
        have l1 := BX1.out.lt
        have y0 : wx.cell? ⟨w.heap.size + 1, 0, none⟩ = some (.slice none 0 0) := BX1.out.cell 0
        have y1 : wx.cell? ⟨w.heap.size + 1, 1, none⟩ = some (.int .i64 0) := BX1.out.cell 1
        have y2 : wx.cell? ⟨w.heap.size + 1, 2, none⟩ = some (.int .i64 0) := BX1.out.cell 2
        have y3 : wx.cell? ⟨w.heap.size + 1, 3, none⟩ = some (.int .i64 0) := BX1.out.cell 3
        have vy0 := BX1.out.frozen 0
        have vy1 := BX1.out.frozen 1
        have vy2 := BX1.out.frozen 2
        have vy3 := BX1.out.frozen 3
        go_wp2_with fail
        have hke := kp_st wx (w.heap.size + 1) (.slice (some ⟨g, 0, none⟩) n cap) (.int .i64 p') (.int .i64 d) (.int .i64 0)
        refine bodyPost_ret (v := .tuple #[.agg #[.slice (some ⟨g, 0, none⟩) n cap, .int .i64 p', .int .i64 d, .int .i64 0], .slice ao done.length icap]) (by simp [results, Tryz.results18, go_sem, y0, y1, y2, y3]) rfl ?_
        generalize (((wx.setCell ⟨w.heap.size + 1, 0, none⟩ (.slice (some ⟨g, 0, none⟩) n cap)).setCell ⟨w.heap.size + 1, 1, none⟩ (.int .i64 p')).setCell ⟨w.heap.size + 1, 2, none⟩ (.int .i64 d)).setCell ⟨w.heap.size + 1, 3, none⟩ (.int .i64 0) = wz at *
        have hbz := HBR.out.trans (hke.below (n := w.heap.size) (by have := HBR.out.size; omega) (fun i hi => by have : i = w.heap.size + 1 := hi; omega))
        refine ⟨hbz, ?_⟩
        clear hbz
        rw [HXX.out, ← HN.out]
        have hL : AltsAt (k + 1) wz (fun g => w.heap.size ≤ g) (.slice ao done.length icap) done := (HO.out.done (keepsAlt (keepsAlts k))).keep (keepsAlt (keepsAlts k)) (fun g hg hA => ⟨Nat.le_trans (Nat.le_add_right _ 2) hA, hke.block g hg (fun h => by have h4 : w.heap.size + 2 ≤ g := hA; have h5 : g = w.heap.size + 1 := h; omega)⟩) hke.size
        have hm : (T.drop p').length ≤ m := by have := HF.out; have := HDF.out; have := List.length_pos_iff.2 (show done ≠ [] from HNE.out); omega
        exact ⟨p', .slice ao done.length icap, rfl, hL, rfl, HG1.out, hm⟩
    · have BX0 := Lib.hid b0
      have HX := Lib.hid hX
      have HPL := Lib.hid hpl
      have HQA := Lib.hid hqa
      have hq1 : ((q.1 : Int) == 0) = false := by rw [beq_eq_false_iff_ne]; omega
      clear b0 hX hpl hqa
      have x0 : wr.cell? ⟨w.heap.size, 0, none⟩ = some (.slice (some ⟨g, 0, none⟩) n cap) := BX0.out.cell 0
      have x1 : wr.cell? ⟨w.heap.size, 1, none⟩ = some (.int .i64 p') := BX0.out.cell 1
      have x2 : wr.cell? ⟨w.heap.size, 2, none⟩ = some (.int .i64 d) := BX0.out.cell 2
      have x3 : wr.cell? ⟨w.heap.size, 3, none⟩ = some (.int .i64 q.1) := BX0.out.cell 3
      have l0 := BX0.out.lt
      have v1 := BX0.out.frozen 1
      have l1 := BX1.out.lt
      have y0 : wr.cell? ⟨w.heap.size + 1, 0, none⟩ = some (.slice none 0 0) := BX1.out.cell 0
      have y1 : wr.cell? ⟨w.heap.size + 1, 1, none⟩ = some (.int .i64 0) := BX1.out.cell 1
      have y2 : wr.cell? ⟨w.heap.size + 1, 2, none⟩ = some (.int .i64 0) := BX1.out.cell 2
      have y3 : wr.cell? ⟨w.heap.size + 1, 3, none⟩ = some (.int .i64 0) := BX1.out.cell 3
      have vy0 := BX1.out.frozen 0
      have vy1 := BX1.out.frozen 1
      have vy2 := BX1.out.frozen 2
      have vy3 := BX1.out.frozen 3
      go_wp2_with fail
      have hke := kp_st wr (w.heap.size + 1) (.slice (some ⟨g, 0, none⟩) n cap) (.int .i64 p') (.int .i64 d) (.int .i64 q.1)
      refine bodyPost_ret (v := .tuple #[.agg #[.slice (some ⟨g, 0, none⟩) n cap, .int .i64 p', .int .i64 d, .int .i64 q.1], .slice ao m' c']) (by simp [results, Tryz.results18, go_sem, y0, y1, y2, y3]) rfl ?_
      generalize (((wr.setCell ⟨w.heap.size + 1, 0, none⟩ (.slice (some ⟨g, 0, none⟩) n cap)).setCell ⟨w.heap.size + 1, 1, none⟩ (.int .i64 p')).setCell ⟨w.heap.size + 1, 2, none⟩ (.int .i64 d)).setCell ⟨w.heap.size + 1, 3, none⟩ (.int .i64 q.1) = wz at *
      have hbz := HBR.out.trans (hke.below (n := w.heap.size) (by have := HBR.out.size; omega) (fun i hi => by have : i = w.heap.size + 1 := hi; omega))
      refine ⟨hbz, ?_⟩
      clear hbz
      rw [HX.out, ← HN.out]
      exact ⟨p', .slice ao m' c', rfl, ⟨ao, m', c', rfl⟩, hq, HPL.out, HQA.out⟩
end Go.Proofs.YtdddbkghleblhaaGreatDoor.lx
namespace Go.Proofs.YtdddbkghleblhaaGreatDoor.lx
open Go.ChangeShapes Go.WideShapes Go.ChangeAt Go.RowKit
set_option linter.unusedVariables false
/-! the document's own reading of a weight's text -/
theorem dig_dot {c : UInt8} (h : digB c = true) : (c != 46) = true := by
  have := dig_bt h
  rw [bne_iff_ne]
  rintro rfl
  revert this
  decide
theorem head_digs : ∀ (x r : List UInt8), (∀ c ∈ x, digB c = true) → headD (x ++ r) = x ++ headD r ∧ tailD (x ++ r) = tailD r ∧ dotB (x ++ r) = dotB r
  | [], r, _ => ⟨rfl, rfl, rfl⟩
  | c :: x, r, h => by
    have hc := dig_dot (h c (by simp))
    obtain ⟨h1, h2, h3⟩ := head_digs x r (fun c' hc' => h c' (by simp [hc']))
    have hc3 : (46 == c) = false := by
      rw [beq_eq_false_iff_ne]
      intro e
      rw [bne_iff_ne] at hc
      exact hc e.symm
    refine ⟨?_, ?_, ?_⟩
    · unfold headD at h1 ⊢
      rw [List.cons_append, List.takeWhile_cons_of_pos (p := fun c => c != 46) hc, h1]
      rfl
    · unfold tailD at h2 ⊢
      rw [List.cons_append, List.dropWhile_cons_of_pos (p := fun c => c != 46) hc, h2]
    · unfold dotB at h3 ⊢
      rw [List.cons_append]
      simp only [List.contains_cons, hc3, Bool.false_or, h3]
/-- the digits ahead are T's first k bytes -/
structure HeadK (T : List UInt8) (k : Nat) : Prop where
  le : k ≤ T.length
  dig : (T.take k).all digB = true
theorem HeadK.parts {T : List UInt8} {k : Nat} (h : HeadK T k) : headD T = T.take k ++ headD (T.drop k) ∧ tailD T = tailD (T.drop k) ∧ dotB T = dotB (T.drop k) := by
  have := head_digs (T.take k) (T.drop k) (fun c hc => List.all_eq_true.1 h.dig c hc)
  rwa [List.take_append_drop] at this
theorem HeadK.whole {T : List UInt8} (h : HeadK T T.length) : headD T = T ∧ tailD T = [] ∧ dotB T = false := by
  have := h.parts
  rw [List.take_length, List.drop_length] at this
  exact ⟨by rw [this.1]; simp [headD], this.2.1, this.2.2⟩
theorem HeadK.point {T : List UInt8} {k : Nat} (h : HeadK T k) (r : List UInt8) (hr : T.drop k = 46 :: r) : headD T = T.take k ∧ tailD T = r ∧ dotB T = true := by
  have := h.parts
  rw [hr] at this
  refine ⟨by rw [this.1]; simp [headD], by rw [this.2.1]; simp [tailD], by rw [this.2.2]; simp [dotB]⟩
theorem HeadK.none {T : List UInt8} {k : Nat} (h : HeadK T k) (c : UInt8) (r : List UInt8) (hr : T.drop k = c :: r) (hc : c ≠ 46) (hd : digB c = false) : digsB (headD T) 9 = false := by
  have := h.parts
  have e : headD (c :: r) = c :: headD r := by
    unfold headD
    rw [List.takeWhile_cons_of_pos (p := fun c => c != 46) (by simpa using hc)]
  rw [this.1, hr, e]
  unfold digsB
  rw [List.all_append, List.all_cons, hd]
  simp
def leadB (H : List UInt8) : Bool := decide (1 < H.length) && H.head? == some 48
theorem dec_eq (l : List UInt8) : decB l = (digsB (headD (strip l)) 9 && !leadB (headD (strip l)) && (!dotB (strip l) || digsB (tailD (strip l)) 6)) := rfl
theorem digs_head {T : List UInt8} {k : Nat} (h : HeadK T k) : digsB (T.take k) 9 = (decide (1 ≤ k) && decide (k ≤ 9)) := by
  have hl : (T.take k).length = k := by rw [List.length_take]; exact Nat.min_eq_left h.le
  unfold digsB
  rw [hl, h.dig, Bool.and_true]
theorem lead_head {T : List UInt8} {k : Nat} (h : HeadK T k) : leadB (T.take k) = (decide (1 < k) && T.head? == some 48) := by
  have hl : (T.take k).length = k := by rw [List.length_take]; exact Nat.min_eq_left h.le
  unfold leadB
  rw [hl]
  by_cases h1 : 1 < k
  · cases T with
    | nil => have := h.le; simp at this; omega
    | cons c T =>
      rw [show k = (k - 1) + 1 from by omega, List.take_succ_cons]
      rfl
  · rw [decide_eq_false h1]
    rfl
/-- what Parts tells, way by way -/
theorem dec_no {l T : List UInt8} {k : Nat} (hT : strip l = T) (h : HeadK T k) (hk : k < 1 ∨ 9 < k ∨ (1 < k ∧ T.head? = some 48)) (hend : k = T.length ∨ ∃ c r, T.drop k = c :: r ∧ digB c = false) : decB l = false := by
  rw [dec_eq, hT]
  rcases hend with rfl | ⟨c, r, hr, hd⟩
  · have e1 := digs_head h
    have e2 := lead_head h
    obtain ⟨p1, _, _⟩ := h.whole
    rw [List.take_length] at e1 e2
    rw [p1, e1, e2]
    rcases hk with hk | hk | ⟨hk, hh⟩
    · rw [decide_eq_false (show ¬ 1 ≤ T.length by omega)]; rfl
    · rw [decide_eq_false (show ¬ T.length ≤ 9 by omega)]; simp
    · rw [decide_eq_true hk, hh]; simp
  · by_cases hc : c = 46
    · subst hc
      have e1 := digs_head h
      have e2 := lead_head h
      obtain ⟨p1, _, _⟩ := h.point r hr
      rw [p1, e1, e2]
      rcases hk with hk | hk | ⟨hk, hh⟩
      · rw [decide_eq_false (show ¬ 1 ≤ k by omega)]; rfl
      · rw [decide_eq_false (show ¬ k ≤ 9 by omega)]; simp
      · rw [decide_eq_true hk, hh]; simp
    · rw [h.none c r hr hc hd]; rfl
theorem dec_whole {l T : List UInt8} (hT : strip l = T) (h : HeadK T T.length) (h1 : 1 ≤ T.length) (h9 : T.length ≤ 9) (hl : ¬ (1 < T.length ∧ T.head? = some 48)) : decB l = true ∧ headD (strip l) = T ∧ tailD (strip l) = [] := by
  have e1 := digs_head h
  have e2 := lead_head h
  obtain ⟨p1, p2, p3⟩ := h.whole
  rw [List.take_length] at e1 e2
  refine ⟨?_, by rw [hT, p1], by rw [hT, p2]⟩
  rw [dec_eq, hT, p1, e1, e2, p3, decide_eq_true h1, decide_eq_true h9]
  have : (decide (1 < T.length) && T.head? == some 48) = false := by
    rw [Bool.and_eq_false_iff, decide_eq_false_iff_not, beq_eq_false_iff_ne]
    exact Classical.not_and_iff_not_or_not.1 hl
  rw [this]
  rfl
theorem dec_none {l T : List UInt8} {k : Nat} (hT : strip l = T) (h : HeadK T k) (c : UInt8) (r : List UInt8) (hr : T.drop k = c :: r) (hc : c ≠ 46) (hd : digB c = false) : decB l = false := by
  rw [dec_eq, hT, h.none c r hr hc hd]
  rfl
theorem dec_tail {l T : List UInt8} {k : Nat} (hT : strip l = T) (h : HeadK T k) (r : List UInt8) (hr : T.drop k = 46 :: r) (hn : digsB r 6 = false) : decB l = false := by
  obtain ⟨p1, p2, p3⟩ := h.point r hr
  rw [dec_eq, hT, p1, p2, p3, hn]
  simp
theorem dec_point {l T : List UInt8} {k : Nat} (hT : strip l = T) (h : HeadK T k) (r : List UInt8) (hr : T.drop k = 46 :: r) (h1 : 1 ≤ k) (h9 : k ≤ 9) (hl : ¬ (1 < k ∧ T.head? = some 48)) (hn : digsB r 6 = true) : decB l = true ∧ headD (strip l) = T.take k ∧ tailD (strip l) = r := by
  have e1 := digs_head h
  have e2 := lead_head h
  obtain ⟨p1, p2, p3⟩ := h.point r hr
  refine ⟨?_, by rw [hT, p1], by rw [hT, p2]⟩
  rw [dec_eq, hT, p1, e1, e2, p2, p3, hn, decide_eq_true h1, decide_eq_true h9]
  have : (decide (1 < k) && T.head? == some 48) = false := by
    rw [Bool.and_eq_false_iff, decide_eq_false_iff_not, beq_eq_false_iff_ne]
    exact Classical.not_and_iff_not_or_not.1 hl
  rw [this]
  rfl
end Go.Proofs.YtdddbkghleblhaaGreatDoor.lx

import Derived.Test.YtldamieigigncaaGreatDoorVcal
import Derived.Maps.OwnIn
import Derived.RangeFuncFrom
import Derived.RangeFuncKeeps
import Derived.RangeFuncOwn
import Derived.RangeFuncWrites
import Derived.Shelf.Strconv.Itoa3
namespace Go.Proofs.YtldamieigigncaaGreatDoor.lx
open Go.ChangeShapes Go.WideShapes Go.ChangeAt Go.RowKit Go.Maps Go.WideMaps Go.WideElems Go.Shelf
set_option linter.unusedVariables false
set_option linter.unusedSimpArgs false
attribute [local go_sem] Oper.semAt_some run_store_float
theorem own_grown2 {w w' : World} {base size n : Nat} {e : TypeId} {v : Value} {xs : List Value} {row : Option Nat} (h : w.ownsRow base e size v n xs) (hb : w.grownBy w' row) (hr : ∀ r, row = some r → ∃ o : Obj, w.heap[r]? = some o ∧ o.isCells = false) : w'.ownsRow base e size v n xs :=
  ownsRow_keep h (fun g hg hv => hb.block g hg (fun e1 => by
    obtain ⟨o, h1, h2⟩ := hr g e1.symm
    obtain ⟨cur, h3⟩ := own_blk h hv
    rw [h3] at h1
    cases h1
    cases h2))
theorem blk_grown2 {w w' : World} {g : Nat} {t : TypeId} {cs : Array Value} {row : Option Nat} (h : Blk w g t cs) (hb : w.grownBy w' row) (hr : ∀ r, row = some r → ∃ o : Obj, w.heap[r]? = some o ∧ o.isCells = false) : Blk w' g t cs := (hb.block g h.lt (fun e1 => by
    obtain ⟨o, h1, h2⟩ := hr g e1.symm
    have h3 : w.heap[g]? = some (.cells cs t (0, 0)) := h
    rw [h3] at h1
    cases h1
    cases h2)).trans h
theorem kbs_b {m n₀ Bs : Nat} {w : World} (hn : n₀ ≤ w.heap.size) : ∀ (W : World) (l : Nat) (o o' : Obj), m ≤ l → w.heap.size ≤ m → W.heap[l]? = some o → o.isCells = false → o.isWalk = false → KbS n₀ Bs W (W.putObj l o') := fun W l o o' hl hm h hc hw => by
  refine ⟨belowK_b (w := w) hn W l o o' (by omega) h hc hw, fun v hv => ?_⟩
  exact cell_kept hv (grownBy_putObj' W l o') (fun r e => by cases e; exact ⟨o, h, hc⟩)
set_option maxRecDepth 100000 in
set_option maxHeartbeats 4000000 in
theorem append_any (w : World) (Bs cap : Nat) (ao : Option Addr) (zs : List (List UInt8)) (hl : zs.length ≤ 100000) (hb : Blk w Bs 23 #[.slice ao zs.length cap]) (hs : SUnder w.heap.size w ao zs) :
    Calls Tryz.prog 124 #[.slice none 0 0, .func (.func 92) #[] #[.pointer (some ⟨Bs, 0, none⟩)]] w fun e w' => (∃ v, e = .returned v ∧ w'.ownsRow w.heap.size 9 1 v zs.length (zs.map sv)) ∧ Below w.heap.size w w' := by
  obtain ⟨i0, hi, hz0, hz1, hz2⟩ := info_parts info_str
  refine (callsIn_wide (n := 3)).1 ?_
  refine callsIn_of_wp_marks Tryz.func124 rfl trivial ?_ rfl
  simp only [Tryz.ntmps124, List.size_toArray, List.length_cons, List.length_nil, Nat.reduceAdd, Nat.reduceSub, Array.replicate_succ, Array.replicate_zero, List.push_toArray, List.append_toArray, List.nil_append, List.cons_append]
  gi_wp2
  have bP := Blk.new w 23 #[.slice none 0 0]
  have hb0 : Below w.heap.size w (w.alloc (.cells #[.slice none 0 0] 23)) := (Below.refl _ w).alloc (Nat.le_refl _) _
  have hbs := hb.alloc (.cells #[.slice none 0 0] 23)
  have hq1 : (1 : Nat) ≤ 3 := by decide
  have hq2 : (1 : Nat) ≤ 3 - 1 := by decide
  refine wpIn_rangeFunc_ownG (F := Fence.wide) rfl hq1 (gf := 92) (lb := #[.pointer (some ⟨Bs, 0, none⟩)]) rfl trivial (enters_of Tryz.func92 (by kernel_rfl) rfl)
    (vals_stops Fence.wide _ trivial rfl hq2 Bs w.heap.size cap ao zs hl _ hbs.lt (by simp) (hbs.cell 0) (fun j hj => by
      obtain ⟨a, e, hab, hca⟩ := hs j hj
      exact ⟨a, e, hab, (hb0.cell (p := a.add j) (by rw [addb]; exact hab)).trans hca⟩)) (fun h k => h.trans k) (fun W l o o' hl h hc hw => kbs_b (w := w) (m := w.heap.size) (Nat.le_refl _) W l o o' (by simp at hl; omega) (Nat.le_refl _) h hc hw) (Below.refl _ _) (fun _ => rfl)
    (fun pre W => (∃ v, Blk W w.heap.size 23 #[v] ∧ W.ownsRow w.heap.size 9 1 v pre.length (pre.map sv)) ∧ Below w.heap.size w W)
    (fun _ _ _ => False)
    (OwnFrom.and (Own.from (fun s A B row hs hg hr => by
      obtain ⟨v, h1, h2⟩ := hs
      exact ⟨v, blk_grown2 h1 hg hr, own_grown2 h2 hg hr⟩) _) (ownFrom_below (Nat.le_refl _) (by simp)))
    (fun _ _ _ _ _ hs _ _ => hs)
    ⟨⟨_, bP, World.ownsRow_nil _ _ _ _⟩, hb0⟩
    (fun x => { tmps := #[.slice none 0 0, .func (.func 92) #[] #[.pointer (some ⟨Bs, 0, none⟩)], .pointer (some ⟨w.heap.size, 0, none⟩), undef, .slice none 0 0, .string (S x), .func (.func 92) #[] #[.pointer (some ⟨Bs, 0, none⟩)], .string (S x), undef, undef, undef, undef, undef], defers := [] }) ?assign ?body ?done ?stop
  case assign =>
    intro l x W K hK
    gi_wp2
    exact hK
  case body =>
    rintro l pre x W ⟨⟨v, hbx, hrow⟩, hB⟩ hlt
    obtain ⟨vo, vc, rfl⟩ := own_form hrow
    have HBX := Lib.hid hbx
    have HROW := Lib.hid hrow
    have HB := Lib.hid hB
    have hzW := hB.size
    have c0 : W.cell? ⟨w.heap.size, 0, none⟩ = some (.slice vo pre.length vc) := hbx.cell 0
    have hlb := hbx.lt
    have hpl : pre.length < zs.length := hlt
    generalize hpn : pre.length = pn at *
    have HPN := Lib.hid hpn
    clear hbx hrow hB hpn hlt
    gi_wp2_with (gi_at_builtin; refine wpListIn_append_own_at _ rfl _ _ 23 rfl w.heap.size 9 i0 (.string ⟨#[]⟩) 1 16 Tryz.underlying23 hi hz0 hz1 hz2 rfl (by decide) (.slice vo pn vc) pn (pre.map sv) rfl (HROW.out.alloc _) _ 1 1 [.string (S x)] rfl rfl (new_one _ _ _) (by intro z hz; rw [List.mem_singleton.1 hz]; rfl) (by unfold maxLen; omega) (by omega) (by rw [World.size_alloc]; omega) ?_; intro tv9 W9 hown9 hgrow9 hnil9 hat9; obtain ⟨g9, cap9, e9, _, _⟩ := World.ownsRow.form hown9 (Nat.succ_pos _); subst e9; have b9 := Blk.grown (HBX.out.alloc (.cells #[.string (S x)] 9)) hgrow9 (fun e => apartB HROW.out HBX.out (by decide) e.symm); have y9 := b9.cell 0; have z9 := b9.frozen 0; have l9 := b9.lt)
    have hg9 : (W.alloc (.cells #[.string (S x)] 9)).grownBy W9 (Value.slice vo pn vc).ownBlock := hgrow9
    have hrow9 : W9.ownsRow w.heap.size 9 1 (.slice (some ⟨g9, 0, none⟩) (pn + 1) cap9) (pn + 1) (pre.map sv ++ [.string (S x)]) := hown9
    have hko : KeepsOthers W (W9.setCell ⟨w.heap.size, 0, none⟩ (.slice (some ⟨g9, 0, none⟩) (pn + 1) cap9)) := ((KeepsOthers.alloc W _).trans (KeepsOthers.of_grownBy hg9 fun j o ej hj => by
      obtain ⟨cur, hc⟩ := own_blk (HROW.out.alloc (.cells #[.string (S x)] 9)) ej
      rw [hc] at hj; cases hj; rfl)).trans (KeepsOthers.setCell _ _ _)
    have hbw : Below w.heap.size W (W9.setCell ⟨w.heap.size, 0, none⟩ (.slice (some ⟨g9, 0, none⟩) (pn + 1) cap9)) := ((((Below.refl w.heap.size W).alloc hzW _).grown hg9 (by rw [World.size_alloc]; omega) fun j ej => (HROW.out.lt j ej).1).setCell (p := ⟨w.heap.size, 0, none⟩) (Nat.le_refl _) _)
    refine ⟨hko.from _, ⟨hbw, fun u hu => (hbw.cell (p := ⟨Bs, 0, none⟩) hb.lt).trans hu⟩, ⟨⟨_, b9.set_ 0 _, ?_⟩, HB.out.trans hbw⟩⟩
    have e1 : (pre ++ [x]).length = pn + 1 := by rw [List.length_append, HPN.out]; rfl
    rw [e1, List.map_append]
    exact ownsRow_keep hrow9 (fun g _ hv => Below.heap_setCell W9 ⟨w.heap.size, 0, none⟩ _ g (fun e => apartB hrow9 b9 (by decide) (by have e : g = w.heap.size := e; rw [← e]; exact hv)))
  case done =>
    rintro D' ys W hD rfl ⟨⟨v, hbx, hrow⟩, hB⟩ hK
    obtain ⟨vo, vc, rfl⟩ := own_form hrow
    have c0 : W.cell? ⟨w.heap.size, 0, none⟩ = some (.slice vo ys.length vc) := hbx.cell 0
    have hlb := hbx.lt
    gi_wp2
    refine ⟨by simp, .inl ⟨_, _, rfl, run_takeDeferred hK, ?_⟩⟩
    refine ⟨_, results_tmp rfl _ _ _, ⟨_, rfl, own_grown2 hrow (grownBy_putObj' W D' _) (fun r e => by cases e; exact ⟨_, hK, rfl⟩)⟩, hB.trans (belowK_b (w := w) (Nat.le_refl _) W D' _ _ (by simp at hD; omega) hK rfl rfl)⟩
  case stop =>
    rintro D c pre W _ _ h _
    exact h.elim
end Go.Proofs.YtldamieigigncaaGreatDoor.lx

namespace Go.Proofs
section
open Go.Shelf
def Tryz.lays171_ren : Go.Shelf.Ren := ⟨fun | 171 => 166 | 243 => 195 | 246 => 225 | 283 => 232 | 284 => 186 | 285 => 215 | 286 => 233 | 129 => 155 | 317 => 187 | 318 => 216 | 319 => 253 | 320 => 254 | 337 => 263 | 338 => 264 | n => n, fun | 3 => 3 | 9 => 9 | 2 => 2 | 4 => 4 | 171 => 239 | 0 => 0 | 53 => 87 | 37 => 99 | 5 => 5 | 173 => 281 | 212 => 267 | 51 => 208 | 20 => 20 | 213 => 315 | 46 => 147 | 232 => 234 | 233 => 322 | n => n, fun | 17 => 2 | 18 => 13 | 19 => 14 | n => n⟩
theorem Tryz.lays171 : Go.Proofs.Lays.n171 Tryz.prog Tryz.lays171_ren := {
  mixed := by kernel_rfl
  f129 := Tryz.func155.trans (congrArg some (by kernel_rfl))
  f171 := Tryz.func166.trans (congrArg some (by kernel_rfl))
  f243 := Tryz.func195.trans (congrArg some (by kernel_rfl))
  f246 := Tryz.func225.trans (congrArg some (by kernel_rfl))
  f283 := Tryz.func232.trans (congrArg some (by kernel_rfl))
  f284 := Tryz.func186.trans (congrArg some (by kernel_rfl))
  f285 := Tryz.func215.trans (congrArg some (by kernel_rfl))
  f286 := Tryz.func233.trans (congrArg some (by kernel_rfl))
  f317 := Tryz.func187.trans (congrArg some (by kernel_rfl))
  f318 := Tryz.func216.trans (congrArg some (by kernel_rfl))
  f319 := Tryz.func253.trans (congrArg some (by kernel_rfl))
  f320 := Tryz.func254.trans (congrArg some (by kernel_rfl))
  f337 := Tryz.func263.trans (congrArg some (by kernel_rfl))
  f338 := Tryz.func264.trans (congrArg some (by kernel_rfl))
  t0 := Tryz.underlying0
  a0 := Tryz.isAgg0
  z0 := Tryz.sizeOf0
  v0 := Tryz.zeroValue0
  t2 := Tryz.underlying2
  a2 := Tryz.isAgg2
  z2 := Tryz.sizeOf2
  v2 := Tryz.zeroValue2
  t3 := Tryz.underlying3
  a3 := Tryz.isAgg3
  z3 := Tryz.sizeOf3
  v3 := Tryz.zeroValue3
  t4 := Tryz.underlying4
  a4 := Tryz.isAgg4
  z4 := Tryz.sizeOf4
  v4 := Tryz.zeroValue4
  t5 := Tryz.underlying5
  a5 := Tryz.isAgg5
  z5 := Tryz.sizeOf5
  v5 := Tryz.zeroValue5
  t9 := Tryz.underlying9
  a9 := Tryz.isAgg9
  z9 := Tryz.sizeOf9
  v9 := Tryz.zeroValue9
  t20 := Tryz.underlying20
  a20 := Tryz.isAgg20
  z20 := Tryz.sizeOf20
  v20 := Tryz.zeroValue20
  t37 := Tryz.underlying99
  a37 := Tryz.isAgg99
  z37 := Tryz.sizeOf99
  v37 := Tryz.zeroValue99
  t46 := Tryz.underlying147
  a46 := Tryz.isAgg147
  z46 := Tryz.sizeOf147
  v46 := Tryz.zeroValue147
  t51 := Tryz.underlying208
  a51 := Tryz.isAgg208
  z51 := Tryz.sizeOf208
  v51 := Tryz.zeroValue208
  t53 := Tryz.underlying87
  a53 := Tryz.isAgg87
  z53 := Tryz.sizeOf87
  v53 := Tryz.zeroValue87
  t171 := Tryz.underlying239
  a171 := Tryz.isAgg239
  z171 := Tryz.sizeOf239
  v171 := Tryz.zeroValue239
  t173 := Tryz.underlying281
  a173 := Tryz.isAgg281
  z173 := Tryz.sizeOf281
  v173 := Tryz.zeroValue281
  t212 := Tryz.underlying267
  a212 := Tryz.isAgg267
  z212 := Tryz.sizeOf267
  v212 := Tryz.zeroValue267
  t213 := Tryz.underlying315
  a213 := Tryz.isAgg315
  z213 := Tryz.sizeOf315
  t232 := Tryz.underlying234
  a232 := Tryz.isAgg234
  z232 := Tryz.sizeOf234
  v232 := Tryz.zeroValue234
  t233 := Tryz.underlying322
  a233 := Tryz.isAgg322
  z233 := Tryz.sizeOf322
  v233 := Tryz.zeroValue322
  g17 := by kernel_rfl
  g18 := by kernel_rfl
  g19 := by kernel_rfl }
end
namespace YtldamieigigncaaGreatDoor.lx
open Go.ChangeShapes Go.WideShapes Go.ChangeAt Go.RowKit Go.Shelf
set_option linter.unusedVariables false
attribute [local go_sem] run_store_float
theorem digs_dec : ∀ n : Fin 100, Lib.decDigits n.val = digsN n.val := by decide +kernel
theorem itoa_any (i : Nat) (hi : i < 100) (w : World) : Calls Tryz.prog 166 #[.int .i64 i] w fun e w' => e = .returned (.string (S (digsN i))) ∧ w' = w := by
  have h := Any.strconv_Itoa_small Tryz.lays171 i hi w
  rw [digs_dec ⟨i, hi⟩] at h
  exact h
theorem digsN_len : ∀ n : Fin 100, (digsN n.val).length ≤ 2 := by decide +kernel
theorem last_le {l : Ld} (h : LdOk l) : l.last ≤ l.vars.length := pigeon l.vars 0 l.last (fun m hm => by rw [Nat.zero_add]; exact h.last m hm)
theorem S_app_ (a b : List UInt8) : S a ++ S b = S (a ++ b) := by
  apply ByteArray.ext
  simp [S]
theorem strs_of {w : World} {B : Nat} {v : Value} {l : List (List UInt8)} (h : w.ownsRow B 9 1 v l.length (l.map sv)) : StrsAt w (fun _ => True) v l := by
  have hm : l.length ≤ maxLen := by
    rcases h.2 with ⟨h, h'⟩ | ⟨g, cap, cur, _, _, _, hn, hc, _⟩ <;> omega
  obtain ⟨ao, cap, e⟩ := own_form h
  refine ⟨hm, ao, cap, e, fun h0 => ?_⟩
  obtain ⟨g, cap', e2, _, hg, hc⟩ := own_open h h0
  rw [e] at e2
  injection e2 with e3 _ _
  refine ⟨g, e3, hg, trivial, fun k x hx => ⟨[.string (S x)], rfl, fun j u hj => ?_, rfl⟩⟩
  have hj0 : j = 0 := by
    have := (List.getElem?_eq_some_iff.1 hj).1
    simp at this
    omega
  subst hj0
  have hu : some (Value.string (S x)) = some u := hj
  cases hu
  rw [Nat.mul_one, Nat.add_zero]
  exact hc k _ (by rw [List.getElem?_map, hx]; rfl)
theorem newN_at {l : Ld} {j : Nat} (hj : ∀ m, m < j → gnm (l.last + m + 1) ∈ l.vars) (hn : gnm (l.last + j + 1) ∉ l.vars) : newN l = l.last + j + 1 := nextN_stop _ _ _ j (pigeon _ _ j hj) hj hn
set_option maxRecDepth 100000 in
set_option maxHeartbeats 2000000 in
theorem newName_any {X : Nat → Prop} {gl B N : Nat} {tv vv rv av : Value} {l : Ld} {w : World} (h : LdW X gl B N tv vv rv av l w) (hok : LdOk l) : Calls Tryz.prog 143 #[.pointer (some ⟨gl, 0, none⟩)] w fun e w' => e = .returned (.string (S (gnm (newN l)))) ∧ LdW X gl B N tv vv rv av { l with last := newN l } w' ∧ LdK gl tv vv rv av tv vv rv av w w' := by
  have hlv := last_le hok
  have hv := hok.vars
  have HNN : Hid (∀ j, (∀ m, m < j → gnm (l.last + m + 1) ∈ l.vars) → l.last + j ≤ 64) := Lib.hid (fun j hj => by
    have := pigeon l.vars 0 (l.last + j) (fun m hm => by
      rw [Nat.zero_add]
      by_cases e : m < l.last
      · exact hok.last m e
      · have := hj (m - l.last) (by omega)
        rwa [show l.last + (m - l.last) = m by omega] at this)
    omega)
  obtain ⟨vo, vc, rfl⟩ := own_form h.vs
  have H := Lib.hid h
  clear h hok hlv
  generalize hn : l.vars.length = n at *
  have HN := Lib.hid hn
  clear hn
  go_enter Tryz.func143, Tryz.ntmps143
  go_wp2_with fail
  have HK0 := Lib.hid (LdK.refl gl tv (.slice vo n vc) rv av w)
  have H0 := Lib.hid (show LdW X gl B N tv (.slice vo n vc) rv av { l with last := l.last + 0 } w from H.out)
  go_loopw [] (fun wr => ∃ j : Nat, (∀ m, m < j → gnm (l.last + m + 1) ∈ l.vars) ∧ LdW X gl B N tv (.slice vo n vc) rv av { l with last := l.last + j } wr ∧ LdK gl tv (.slice vo n vc) rv av tv (.slice vo n vc) rv av w wr) (fun wr => match wr.cell? ⟨gl, 4, none⟩ with | some (.int _ n) => 100 - n.toNat | _ => 0)
  case atStart => exact ⟨0, fun m h => by omega, H0.out, HK0.out⟩
  case round =>
    clear H0 HK0
    obtain ⟨j, hj, hw, hkk⟩ := hrel
    have HJ := Lib.hid hj
    have HKK := Lib.hid hkk
    have hle := HNN.out j hj
    have hl := hw.box.lt
    have c4 : wr.cell? ⟨gl, 4, none⟩ = some (.int .i64 ((l.last + j : Nat) : Int)) := hw.box.cell 4
    have f4 := hw.box.frozen 4
    obtain ⟨hw2, hk2⟩ := hw.last_set (n := l.last + j + 1)
    have HW2 := Lib.hid hw2
    have HKK2 := Lib.hid (HKK.out.trans hk2)
    have HNA : Hid (gnm (l.last + j + 1) ∉ l.vars → newN l = l.last + j + 1) := Lib.hid (newN_at hj)
    have HJ2 : Hid (gnm (l.last + j + 1) ∈ l.vars → ∀ m, m < j + 1 → gnm (l.last + m + 1) ∈ l.vars) := Lib.hid (fun hm m hmj => by
      by_cases e : m = j
      · rw [e]; exact hm
      · exact hj m (by omega))
    clear hj hw hkk hw2 hk2
    have HQ : Hid (l.last + (j + 1) = l.last + j + 1) := Lib.hid rfl
    generalize hq : l.last + j = q at *
    have HIT := Lib.hid (fun w => itoa_any (q + 1) (by omega) w)
    go_upto_region 2 with fail
    have e1 : ((q : Int) + 1) = ((q + 1 : Nat) : Int) := rfl
    try rw [e1]
    have hms : (match wr.cell? ⟨gl, 4, none⟩ with | some (.int _ n) => 100 - n.toNat | _ => 0) = 100 - q := by rw [c4]; rfl
    have HMS := Lib.hid hms
    clear e1 c4 f4 hl hms
    generalize wr.setCell ⟨gl, 4, none⟩ (.int .i64 ((q + 1 : Nat) : Int)) = w2 at *
    have c4 : w2.cell? ⟨gl, 4, none⟩ = some (.int .i64 ((q + 1 : Nat) : Int)) := HW2.out.box.cell 4
    have c1 : w2.cell? ⟨gl, 1, none⟩ = some (.slice vo n vc) := HW2.out.box.cell 1
    have hl := HW2.out.box.lt
    have hds : (S (digsN (q + 1))).size ≤ 2 := digsN_len ⟨q + 1, by omega⟩
    have e2 : ({ data := #[103] } : ByteArray) ++ S (digsN (q + 1)) = S (gnm (q + 1)) := S_app_ [103] _
    have hct := contains_any w2 _ (.slice vo n vc) l.vars (gnm (q + 1)) (strs_of (by have := HW2.out.vs; exact this))
    generalize hD : digsN (q + 1) = D at *
    generalize hG : gnm (q + 1) = G at *
    by_cases hm : G ∈ l.vars
    · rw [decide_eq_true hm] at hct
      go_wp2_with (first | (go_at_call 166; refine (HIT.out _).mono ?_; rintro e w3 ⟨rfl, rfl⟩) | (go_at_call 61; refine hct.mono ?_; rintro e w3 ⟨rfl, rfl⟩))
      refine ⟨⟨j + 1, HJ2.out hm, by rw [HQ.out]; exact HW2.out, HKK2.out⟩, ?_⟩
      rw [HMS.out, c4]
      show 100 - (((q + 1 : Nat) : Int)).toNat < 100 - q
      omega
    · rw [decide_eq_false hm] at hct
      go_wp2_with (first | (go_at_call 166; refine (HIT.out _).mono ?_; rintro e w3 ⟨rfl, rfl⟩) | (go_at_call 61; refine hct.mono ?_; rintro e w3 ⟨rfl, rfl⟩))
      go_ret
      have hnn := HNA.out hm
      refine ⟨?_, by rw [hnn]; exact HW2.out, HKK2.out⟩
      rw [hnn, hG]
      rfl
end YtldamieigigncaaGreatDoor.lx
end Go.Proofs


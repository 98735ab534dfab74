import Derived.Test.YtdddbkghleblhaaGreatDoorKap
import Derived.Deep.Cut
namespace Go.Proofs.YtdddbkghleblhaaGreatDoor.lx
open Go.ChangeShapes Go.WideShapes Go.ChangeAt Go.RowKit
set_option linter.unusedVariables false
attribute [local go_sem] run_store_float
/-! the document's alternative -/
theorem info_ritem : (Tryz.prog.info? 70).map (fun i => (i.zero, i.size, i.bytes)) = some (some (.agg #[.int .i64 0, .int .i64 0, .string ⟨#[]⟩, .slice none 0 0, .int .u8 0]), 5, 64) := by kernel_rfl
def RAltOk (k : Nat) : Prop := ∀ (w : World) (g cap p : Nat) (T : List Tok), k ≤ 16 → TAt w g cap T → Good (T.drop p) → Calls Tryz.prog 31 #[StV g T.length cap p (16 - k) 0] w (AnsR (AltV k w.heap.size) AltF g cap (16 - k) T (T.drop p).length w (pAlt (pSub k) (T.drop p)))
/-- what is left to go, off the state's own cells -/
def rleft (n b : Nat) (w : World) : Nat := match w.cell? ⟨b, 3, none⟩ with
  | some (.int _ e) => if e = 0 then (match w.cell? ⟨b, 1, none⟩ with | some (.int _ p) => 1 + (n - p.toNat) | _ => 0) else 0
  | _ => 0
theorem rleft_st {wr : World} {n b ty p e : Nat} {s d : Value} (h : Blk wr b ty #[s, .int .i64 p, d, .int .i64 e]) : rleft n b wr = if e = 0 then 1 + (n - p) else 0 := by
  unfold rleft
  have h1 : wr.cell? ⟨b, 1, none⟩ = some (.int .i64 p) := h.cell 1
  have h3 : wr.cell? ⟨b, 3, none⟩ = some (.int .i64 e) := h.cell 3
  rw [h3, h1]
  by_cases he : e = 0
  · subst he
    rfl
  · rw [if_neg he]
    show (if (e : Int) = 0 then _ else 0) = 0
    rw [if_neg (by omega)]
theorem Kp.trans_ {S T : Nat → Prop} {w w1 w2 : World} (h : Kp S w w1) (k : Kp T w1 w2) : Kp (fun i => S i ∨ T i) w w2 := ⟨k.os.trans h.os, k.tape.trans h.tape, k.output.trans h.output, Nat.le_trans h.size k.size, fun i hi hs => (k.block i (Nat.lt_of_lt_of_le hi h.size) (fun x => hs (.inr x))).trans (h.block i hi (fun x => hs (.inl x)))⟩
/-- the alternative so far: it goes on, or it is wrong -/
def RAltR (k g cap n m0 P F : Nat) (T : List Tok) (X : Res (List Itm)) (w wr : World) : Prop := Below w.heap.size w wr ∧ w.heap.size + 4 ≤ wr.heap.size ∧
  Blk wr (w.heap.size + 1) 59 #[.slice none 0 0, .int .i64 0, .int .i64 0, .int .i64 0] ∧ Blk wr (w.heap.size + 1 + 1) 67 #[.int .i64 0, .float .f64 0, .slice none 0 0] ∧
  ((∃ (done : List Itm) (p f : Nat) (iv : Value), Good (T.drop p) ∧ (T.drop p).length ≤ f ∧ done.length + f ≤ m0 ∧ Blk wr w.heap.size 59 #[.slice (some ⟨g, 0, none⟩) n cap, .int .i64 p, .int .i64 (16 - k : Nat), .int .i64 (0 : Nat)] ∧
      Blk wr (w.heap.size + 1 + 1 + 1) 67 #[.int .i64 P, .float .f64 F, iv] ∧ OwnOf 5 (EItm (AltsAt k)) 70 (w.heap.size + 4) wr iv done ∧ pre done (pItems (pSub k) f (T.drop p)) = X) ∨
   (∃ (q : Nat × Nat) (p : Nat) (ao : Option Addr) (m c : Nat), X = .error q ∧ 0 < q.1 ∧ p < T.length ∧ (T.getD p ⟨0, 0, [], 0⟩).at_ = q.2 ∧ Blk wr w.heap.size 59 #[.slice (some ⟨g, 0, none⟩) n cap, .int .i64 p, .int .i64 (16 - k : Nat), .int .i64 q.1] ∧
      Blk wr (w.heap.size + 1 + 1 + 1) 67 #[.int .i64 P, .float .f64 F, .slice ao m c]))
theorem entry4 (w : World) (s0 s1 s2 s3 : Array Value) (t0 t1 t2 t3 : TypeId) : Below w.heap.size w ((((w.alloc (.cells s0 t0)).alloc (.cells s1 t1)).alloc (.cells s2 t2)).alloc (.cells s3 t3)) ∧ ((((w.alloc (.cells s0 t0)).alloc (.cells s1 t1)).alloc (.cells s2 t2)).alloc (.cells s3 t3)).heap.size = w.heap.size + 4 ∧
    Blk ((((w.alloc (.cells s0 t0)).alloc (.cells s1 t1)).alloc (.cells s2 t2)).alloc (.cells s3 t3)) w.heap.size t0 s0 ∧ Blk ((((w.alloc (.cells s0 t0)).alloc (.cells s1 t1)).alloc (.cells s2 t2)).alloc (.cells s3 t3)) (w.heap.size + 1) t1 s1 ∧
    Blk ((((w.alloc (.cells s0 t0)).alloc (.cells s1 t1)).alloc (.cells s2 t2)).alloc (.cells s3 t3)) (w.heap.size + 1 + 1) t2 s2 ∧ Blk ((((w.alloc (.cells s0 t0)).alloc (.cells s1 t1)).alloc (.cells s2 t2)).alloc (.cells s3 t3)) (w.heap.size + 1 + 1 + 1) t3 s3 := by
  have b1 := Blk.new (w.alloc (.cells s0 t0)) t1 s1
  have b2 := Blk.new ((w.alloc (.cells s0 t0)).alloc (.cells s1 t1)) t2 s2
  have b3 := Blk.new (((w.alloc (.cells s0 t0)).alloc (.cells s1 t1)).alloc (.cells s2 t2)) t3 s3
  simp only [World.size_alloc] at b1 b2 b3
  exact ⟨((((Below.refl _ _).alloc (Nat.le_refl _) _).alloc (by simp) _).alloc (by simp; omega) _).alloc (by simp; omega) _, by simp, (((Blk.new w t0 s0).alloc _).alloc _).alloc _, (b1.alloc _).alloc _, b2.alloc _, b3⟩
theorem entry2 (w : World) (s0 s1 : Array Value) (t0 t1 : TypeId) : Below w.heap.size w ((w.alloc (.cells s0 t0)).alloc (.cells s1 t1)) ∧ ((w.alloc (.cells s0 t0)).alloc (.cells s1 t1)).heap.size = w.heap.size + 2 ∧ Blk ((w.alloc (.cells s0 t0)).alloc (.cells s1 t1)) w.heap.size t0 s0 ∧ Blk ((w.alloc (.cells s0 t0)).alloc (.cells s1 t1)) (w.heap.size + 1) t1 s1 := by
  have b1 := Blk.new (w.alloc (.cells s0 t0)) t1 s1
  rw [World.size_alloc] at b1
  exact ⟨((Below.refl _ _).alloc (Nat.le_refl _) _).alloc (by simp) _, by simp, (Blk.new w t0 s0).alloc _, b1⟩
theorem one5 (a bb : Int) (tx : ByteArray) (ao2 : Option Addr) (m2 c2 : Nat) (o : Int) : ∀ z ∈ [Value.int .i64 a, .int .i64 bb, .string tx, .slice ao2 m2 c2, .int .u8 o], z.oneCell' = true := by
  intro z hz
  simp at hz
  rcases hz with rfl | rfl | rfl | rfl | rfl <;> rfl
/-- what comes of an item, one form for both ways -/
theorem item_un {k g cap n d m : Nat} {T : List Tok} {wx w3 : World} {e : Ending} {x : Res Itm} (hn : T.length = n) (h : AnsR (ItmV k wx.heap.size) ItmF g cap d T m wx x e w3) : ∃ (p2 E : Nat) (a bb : Int) (tx : ByteArray) (ao2 : Option Addr) (m2 c2 : Nat) (o : Int),
    e = .returned (.tuple #[.agg #[.slice (some ⟨g, 0, none⟩) n cap, .int .i64 p2, .int .i64 d, .int .i64 E], .agg #[.int .i64 a, .int .i64 bb, .string tx, .slice ao2 m2 c2, .int .u8 o]]) ∧ Below wx.heap.size wx w3 ∧
    ((E = 0 ∧ ∃ i, x = .ok (i, T.drop p2) ∧ [.int .i64 a, .int .i64 bb, .string tx, .slice ao2 m2 c2, .int .u8 o] = ItmC i (.slice ao2 m2 c2) ∧ AltsAt k w3 (fun g => wx.heap.size ≤ g) (.slice ao2 m2 c2) i.alts ∧ Good (T.drop p2) ∧ (T.drop p2).length ≤ m) ∨
     (∃ q, E = q.1 ∧ x = .error q ∧ 0 < q.1 ∧ p2 < n ∧ (T.getD p2 ⟨0, 0, [], 0⟩).at_ = q.2)) := by
  subst hn
  obtain ⟨hb, h⟩ := h
  cases x with
  | error q =>
    obtain ⟨p2, v, rfl, ⟨a, bb, tx, ao2, m2, c2, o, rfl⟩, h1, h2, h3⟩ := h
    exact ⟨p2, q.1, a, bb, tx, ao2, m2, c2, o, rfl, hb, .inr ⟨q, rfl, rfl, h1, h2, h3⟩⟩
  | ok y =>
    obtain ⟨i, r⟩ := y
    obtain ⟨p2, v, rfl, ⟨av, rfl, hv⟩, rfl, h1, h2⟩ := h
    obtain ⟨ao2, c2, rfl⟩ := hv.form
    exact ⟨p2, 0, i.at_, i.kind, S i.text, ao2, i.alts.length, c2, i.op, rfl, hb, .inl ⟨rfl, i, rfl, rfl, hv, h1, h2⟩⟩
theorem kp_alt_drew (w : World) (a b : Nat) (v0 v1 v2 v3 u0 u1 u2 : Value) : Kp (fun i => i = a ∨ i = b) w (((((((w.setCell ⟨a, 0, none⟩ v0).setCell ⟨a, 1, none⟩ v1).setCell ⟨a, 2, none⟩ v2).setCell ⟨a, 3, none⟩ v3).setCell ⟨b, 0, none⟩ u0).setCell ⟨b, 1, none⟩ u1).setCell ⟨b, 2, none⟩ u2).drew := by
  have k := (kp_st w a v0 v1 v2 v3).trans_ (kp_end3 ((((w.setCell ⟨a, 0, none⟩ v0).setCell ⟨a, 1, none⟩ v1).setCell ⟨a, 2, none⟩ v2).setCell ⟨a, 3, none⟩ v3) b u0 u1 u2)
  generalize ((((((w.setCell ⟨a, 0, none⟩ v0).setCell ⟨a, 1, none⟩ v1).setCell ⟨a, 2, none⟩ v2).setCell ⟨a, 3, none⟩ v3).setCell ⟨b, 0, none⟩ u0).setCell ⟨b, 1, none⟩ u1).setCell ⟨b, 2, none⟩ u2 = w' at *
  exact ⟨k.os, k.tape, k.output, k.size, k.block⟩
theorem raltR_step {k g cap n d M P F p' f p2 E m2 c2 icap ao6cap dn : Nat} {T : List Tok} {X : Res (List Itm)} {w wq wr w3 w5 w6 : World} {done : List Itm} {ao ao2 ao6 : Option Addr} {a bb o : Int} {tx : ByteArray} {us : List (List Value)} (hn : T.length = n) (hd : 16 - k = d)
    (hdn : done.length = dn) (hzr : w.heap.size + 4 ≤ wr.heap.size) (hz3 : wr.heap.size ≤ w3.heap.size) (hp' : p' < n) (hrl : rleft n w.heap.size wq = 1 + (n - p'))
    (hk35 : ∀ i, i < w3.heap.size → i ≠ w.heap.size → w5.heap[i]? = w3.heap[i]?) (hk5 : ∀ i, i < wr.heap.size → i ≠ w.heap.size → w5.heap[i]? = wr.heap[i]?) (hz5 : w3.heap.size ≤ w5.heap.size) (hbel : Below w.heap.size w w5)
    (b0 : Blk w5 w.heap.size 59 #[.slice (some ⟨g, 0, none⟩) n cap, .int .i64 p2, .int .i64 d, .int .i64 E]) (b1 : Blk w5 (w.heap.size + 1) 59 #[.slice none 0 0, .int .i64 0, .int .i64 0, .int .i64 0]) (b2 : Blk w5 (w.heap.size + 1 + 1) 67 #[.int .i64 0, .float .f64 0, .slice none 0 0])
    (b3 : Blk w5 (w.heap.size + 1 + 1 + 1) 67 #[.int .i64 P, .float .f64 F, .slice ao dn icap])
    (hus1 : us.length = done.length) (hus2 : ∀ u ∈ us, u.length = 5) (how : wr.ownsRow (w.heap.size + 4) 70 5 (.slice ao dn icap) dn us.flatten)
    (hus4 : ∀ (j : Nat) (x : Itm), done[j]? = some x → ∃ cs, us[j]? = some cs ∧ EItm (AltsAt k) wr (fun g => w.heap.size + 4 ≤ g ∧ some g ≠ (Value.slice ao dn icap).ownBlock) x cs)
    (hown6 : w6.ownsRow (w.heap.size + 4) 70 5 (.slice ao6 (dn + 1) ao6cap) (dn + 1) (us.flatten ++ [.int .i64 a, .int .i64 bb, .string tx, .slice ao2 m2 c2, .int .u8 o]))
    (hg6 : (w5.alloc (.cells #[.int .i64 a, .int .i64 bb, .string tx, .slice ao2 m2 c2, .int .u8 o] 70)).grownBy w6 (Value.slice ao dn icap).ownBlock)
    (hat6 : (Value.slice ao6 (dn + 1) ao6cap).ownBlock = (Value.slice ao dn icap).ownBlock ∨ (Value.slice ao6 (dn + 1) ao6cap).ownBlock = some (w5.alloc (.cells #[.int .i64 a, .int .i64 bb, .string tx, .slice ao2 m2 c2, .int .u8 o] 70)).heap.size)
    (hf : (T.drop p').length ≤ f + 1) (hdf : dn + (f + 1) ≤ M) (hat : atIt (lx.hd (T.drop p')) = true) (hpre : pre done (pItems (pSub k) (f + 1) (T.drop p')) = X)
    (hun : (E = 0 ∧ ∃ i, pItem (pSub k) (T.drop p') = .ok (i, T.drop p2) ∧ [.int .i64 a, .int .i64 bb, .string tx, .slice ao2 m2 c2, .int .u8 o] = ItmC i (.slice ao2 m2 c2) ∧ AltsAt k w3 (fun g => wr.heap.size ≤ g) (.slice ao2 m2 c2) i.alts ∧ Good (T.drop p2) ∧ (T.drop p2).length ≤ (T.drop p').length - 1) ∨
     (∃ q, E = q.1 ∧ pItem (pSub k) (T.drop p') = .error q ∧ 0 < q.1 ∧ p2 < n ∧ (T.getD p2 ⟨0, 0, [], 0⟩).at_ = q.2)) :
    RAltR k g cap n M P F T X w (w6.setCell ⟨w.heap.size + 1 + 1 + 1, 2, none⟩ (.slice ao6 (dn + 1) ao6cap)) ∧ rleft n w.heap.size (w6.setCell ⟨w.heap.size + 1 + 1 + 1, 2, none⟩ (.slice ao6 (dn + 1) ao6cap)) < rleft n w.heap.size wq := by
  subst hdn
  have hlt := how.lt
  have kg := Kp.of_grown hg6
  have ka : Kp (fun _ => False) w5 (w5.alloc (.cells #[.int .i64 a, .int .i64 bb, .string tx, .slice ao2 m2 c2, .int .u8 o] 70)) := Kp.alloc _ _ _
  have ks := kp_at w6 (w.heap.size + 1 + 1 + 1) 2 (.slice ao6 (done.length + 1) ao6cap)
  have hz6 : w5.heap.size + 1 ≤ w6.heap.size := by have := kg.size; rw [World.size_alloc] at this; exact this
  have hne : ∀ j, j < w.heap.size + 4 → some j ≠ (Value.slice ao done.length icap).ownBlock := fun j hj e => by have := (hlt j e.symm).1; omega
  have d0 := (Blk.grown (b0.alloc _) hg6 (hne _ (by omega))).far (p := ⟨w.heap.size + 1 + 1 + 1, 2, none⟩) (by show w.heap.size ≠ w.heap.size + 1 + 1 + 1; omega) (.slice ao6 (done.length + 1) ao6cap)
  have d1 := (Blk.grown (b1.alloc _) hg6 (hne _ (by omega))).far (p := ⟨w.heap.size + 1 + 1 + 1, 2, none⟩) (by show w.heap.size + 1 ≠ w.heap.size + 1 + 1 + 1; omega) (.slice ao6 (done.length + 1) ao6cap)
  have d2 := (Blk.grown (b2.alloc _) hg6 (hne _ (by omega))).far (p := ⟨w.heap.size + 1 + 1 + 1, 2, none⟩) (by show w.heap.size + 1 + 1 ≠ w.heap.size + 1 + 1 + 1; omega) (.slice ao6 (done.length + 1) ao6cap)
  have d3 := (Blk.grown (b3.alloc _) hg6 (hne _ (by omega))).set_ 2 (.slice ao6 (done.length + 1) ao6cap)
  have hbF : Below w.heap.size w (w6.setCell ⟨w.heap.size + 1 + 1 + 1, 2, none⟩ (.slice ao6 (done.length + 1) ao6cap)) :=
    (hbel.trans (ka.below (by have := hbel.size; omega) (fun i h => h.elim))).trans ((kg.below (by rw [World.size_alloc]; omega) (fun i hi => by have := (hlt i hi).1; omega)).trans (ks.below (by omega) (fun i hi => by have : i = w.heap.size + 1 + 1 + 1 := hi; omega)))
  rw [rleft_st d0, hrl]
  unfold RAltR
  rw [hd]
  rcases hun with ⟨rfl, i, hi, hcs, hv, hgd, hl⟩ | ⟨q, rfl, hi, hq, hp2, hqa⟩
  · rw [hcs] at hown6 hg6 hat6
    have hO6 := own_more (keepsItm (keepsAlts k)) (x := i) hus1 hus2 hus4 how (fun g hg hb => hk5 g hg (by omega)) (by omega) (show EItm (AltsAt k) w5 (fun g => wr.heap.size ≤ g) i (ItmC i (.slice ao2 m2 c2)) from ⟨_, rfl, keepsAlts k _ _ _ _ _ _ hv (fun g hg hb => ⟨hb, hk35 g hg (by omega)⟩) hz5⟩) rfl hzr hown6 hg6 hat6
    have hgl : 0 < (T.drop p2).length := hgd.pos
    rw [List.length_drop, hn] at hgl
    rw [List.length_drop, List.length_drop, hn] at hl
    rw [List.length_drop, hn] at hf
    refine ⟨⟨hbF, by simp; omega, d1, d2, .inl ⟨done ++ [i], p2, f, _, hgd, by rw [List.length_drop, hn]; omega, by rw [List.length_append]; simp; omega, d0, d3, hO6.keep (keepsItm (keepsAlts k)) (fun g hg hb => Below.heap_setCell w6 _ _ g (by show g ≠ w.heap.size + 1 + 1 + 1; omega)) (by simp), ?_⟩⟩, by rw [if_pos rfl]; omega⟩
    rw [← hpre, pre_step _ _ _ _ _ _ hat hi]
  · refine ⟨⟨hbF, by simp; omega, d1, d2, .inr ⟨q, p2, _, _, _, ?_, hq, by rw [hn]; exact hp2, hqa, d0, d3⟩⟩, by rw [if_neg (by omega)]; omega⟩
    rw [← hpre]
    exact pre_err _ _ _ _ _ hat hi
set_option maxRecDepth 100000 in
set_option maxHeartbeats 4000000 in
theorem ralt_wt (k : Nat) (hI : RItemOk k) (w : World) (g cap p : Nat) (T : List Tok) (hk : k ≤ 16) (h : TAt w g cap T) (hg : Good (T.drop p)) (t : Tok) (r : List Tok) (hd : T.drop p = t :: r) (k3 : t.kind = 3) : Calls Tryz.prog 31 #[StV g T.length cap p (16 - k) 0] w (AnsR (AltV k w.heap.size) AltF g cap (16 - k) T (t :: r).length w (pAlt (pSub k) (t :: r))) := by
  obtain ⟨hlt, hgt, hdr⟩ := drop_lt hd
  obtain ⟨c0, c1, c2, c3⟩ := h.tok hd
  have hgl := h.lt
  have hlen := h.len
  have hcl := h.capl
  have hcm := h.capm
  have HT := Lib.hid h
  have HI := Lib.hid hI
  have HG := Lib.hid hg
  unfold maxLen at hcm
  have HR : Hid (pAlt (pSub k) (t :: r) = match pItems (pSub k) r.length r with
      | .error e => .error e
      | .ok (is, r) => .ok ((t.at_, t.wt, is), r)) := Lib.hid (by
        unfold pAlt
        rw [show wtTl (t :: r) = r from if_pos k3, show wtOf (lx.hd (t :: r)) = t.wt from if_pos k3]
        rfl)
  generalize pAlt (pSub k) (t :: r) = Y at *
  have hgr : Good r := by rw [hd] at hg; exact hg.tail (by omega)
  replace c0 : w.cell? ⟨g, p * 4, none⟩ = some (.int .i64 3) := by rw [c0, k3]; rfl
  generalize hn : T.length = n at *
  have HN := Lib.hid hn
  have HGR := Lib.hid hgr
  have HDR := Lib.hid hdr
  have hml : r.length ≤ 65537 := by have : (T.drop p).length = r.length + 1 := by rw [hd]; rfl
                                    rw [List.length_drop, hn] at this; omega
  have HML : Hid (r.length ≤ (t :: r).length) := Lib.hid (by simp)
  generalize (t :: r).length = m at *
  obtain ⟨K, P, X', F⟩ := t
  have HD := Lib.hid hd
  clear hg hgr hdr hd hgt h hI hn
  unfold StV
  generalize hd1 : 16 - k = d at *
  have HD1 := Lib.hid hd1
  clear hd1
  have e1 := cell3 c1 hgl
  clear c0 c1 c2 c3
  go_enter Tryz.func31, Tryz.ntmps31
  go_upto_region 2 with fail
  have he4 := entry4 w #[.slice (some ⟨g, 0, none⟩) n cap, .int .i64 p, .int .i64 d, .int .i64 0] #[.slice none 0 0, .int .i64 0, .int .i64 0, .int .i64 0] #[.int .i64 0, .float .f64 0, .slice none 0 0] #[.int .i64 P, .float .f64 0, .slice none 0 0] 59 59 67 67
  generalize ((((w.alloc (.cells #[.slice (some ⟨g, 0, none⟩) n cap, .int .i64 p, .int .i64 d, .int .i64 0] 59)).alloc (.cells #[.slice none 0 0, .int .i64 0, .int .i64 0, .int .i64 0] 59)).alloc (.cells #[.int .i64 0, .float .f64 0, .slice none 0 0] 67)).alloc (.cells #[.int .i64 P, .float .f64 0, .slice none 0 0] 67)) = w1 at *
  obtain ⟨hb1, hz1, b0, b1, b2, b3⟩ := he4
  have ht1 := HT.out.below hb1 hgl
  obtain ⟨c0, c1, c2, c3⟩ := ht1.tok HD.out
  replace c0 : w1.cell? ⟨g, p * 4, none⟩ = some (.int .i64 3) := by rw [c0, show K = 3 from k3]; rfl
  have x0 := b0.cell 0
  have x1 := b0.cell 1
  have x2 := b0.cell 2
  have x3 := b0.cell 3
  simp only [List.getElem?_toArray, List.getElem?_cons_zero, List.getElem?_cons_succ] at x0 x1 x2 x3
  have l0 := b0.lt
  have l3 := b3.lt
  have vx1 := b0.frozen 1
  have v31 := b3.frozen 1
  have y31 : w1.cell? ⟨w.heap.size + 1 + 1 + 1, 1, none⟩ = some (.float .f64 0) := b3.cell 1
  have HB0 := Lib.hid b0
  have HB1 := Lib.hid b1
  have HB2 := Lib.hid b2
  have HB3 := Lib.hid b3
  have HBW := Lib.hid hb1
  have HZ1 := Lib.hid hz1
  clear b0 b1 b2 b3 hb1 hz1 ht1 k3
  go_wp2_with fail
  have hst : RAltR k g cap n r.length P F T (pItems (pSub k) r.length r) w ((w1.setCell ⟨w.heap.size + 1 + 1 + 1, 1, none⟩ (.float .f64 F)).setCell ⟨w.heap.size, 1, none⟩ (.int .i64 ((p : Int) + 1))) := by
    have k1 := kp_at w1 (w.heap.size + 1 + 1 + 1) 1 (.float .f64 F)
    have k2 := kp_at (w1.setCell ⟨w.heap.size + 1 + 1 + 1, 1, none⟩ (.float .f64 F)) w.heap.size 1 (.int .i64 ((p : Int) + 1))
    have hk12 := HBW.out.trans (((k1.trans_ k2)).below (n := w.heap.size) (by have := HZ1.out; omega) (fun i hi => by rcases hi with h | h <;> omega))
    unfold RAltR
    rw [HD1.out]
    refine ⟨hk12, by have := HZ1.out; simp; omega, (HB1.out.far (by show w.heap.size + 1 ≠ w.heap.size + 1 + 1 + 1; omega) _).far (by show w.heap.size + 1 ≠ w.heap.size; omega) _, (HB2.out.far (by show w.heap.size + 1 + 1 ≠ w.heap.size + 1 + 1 + 1; omega) _).far (by show w.heap.size + 1 + 1 ≠ w.heap.size; omega) _, .inl ⟨[], p + 1, r.length, .slice none 0 0, ?_, ?_, by simp, (HB0.out.far (p := ⟨w.heap.size + 1 + 1 + 1, 1, none⟩) (by show w.heap.size ≠ w.heap.size + 1 + 1 + 1; omega) (.float .f64 F)).set_ 1 (.int .i64 ((p : Int) + 1)), (HB3.out.set_ 1 (.float .f64 F)).far (by show w.heap.size + 1 + 1 + 1 ≠ w.heap.size; omega) _, OwnOf.nil _ _ _, ?_⟩⟩
    · rw [HDR.out]; exact HGR.out
    · rw [HDR.out]; exact Nat.le_refl _
    · rw [HDR.out]; exact pre_nil _
  have HST := Lib.hid hst
  clear hst x0 x1 x2 x3 l0 l3 vx1 v31 y31 c0 c1 c2 c3 HB0 HB1 HB2 HB3 HBW HZ1 e1 hlt
  go_loopw [] (fun wr => RAltR k g cap n r.length P F T (pItems (pSub k) r.length r) w wr) (fun wr => rleft n w.heap.size wr)
  case atStart => exact HST.out
  case round =>
    clear HST
    obtain ⟨hbr, hzr, b1, b2, hh⟩ := hrel
    rw [HD1.out] at hh
    have htr := HT.out.below hbr hgl
    have BX1 := Lib.hid b1
    have BX2 := Lib.hid b2
    have HBR := Lib.hid hbr
    have HTR := Lib.hid htr
    clear b1 b2 hbr
    rcases hh with ⟨done, p', f, iv, hg1, hf, hdf, b0, b3, ho, hpre⟩ | ⟨q, p', ao, m', c', hX, hq, hpl, hqa, b0, b3⟩
    · obtain ⟨t2, r2, hd2⟩ := hg1.ne
      obtain ⟨hp2, _, hdr2⟩ := drop_lt hd2
      obtain ⟨f, rfl⟩ : ∃ f', f = f' + 1 := ⟨f - 1, by have := hg1.pos; omega⟩
      obtain ⟨c0, c1, c2, c3⟩ := htr.tok hd2
      obtain ⟨ao, icap, rfl⟩ : ∃ ao cap, iv = .slice ao done.length cap := by
        obtain ⟨us, _, _, h3, _⟩ := ho
        exact own_form h3
      rw [HN.out] at hp2
      have hsg : sg (T.drop p') = sgOf t2 := by rw [hd2]; rfl
      have hat1 : atIt (lx.hd (T.drop p')) = (t2.kind == 1 || t2.kind == 2 || sgOf t2 == 40) := by rw [hd2]; rfl
      have BX0 := Lib.hid b0
      have BX3 := Lib.hid b3
      have HG1 := Lib.hid hg1
      have HO := Lib.hid ho
      have HPRE := Lib.hid hpre
      have HF := Lib.hid hf
      have hrl : rleft n w.heap.size wr = 1 + (n - p') := by rw [rleft_st b0, if_pos rfl]
      have HRL := Lib.hid hrl
      clear hrl
      have HDF := Lib.hid hdf
      have x0 : wr.cell? ⟨w.heap.size, 0, none⟩ = some (.slice (some ⟨g, 0, none⟩) n cap) := b0.cell 0
      have x1 : wr.cell? ⟨w.heap.size, 1, none⟩ = some (.int .i64 p') := b0.cell 1
      have x2 : wr.cell? ⟨w.heap.size, 2, none⟩ = some (.int .i64 d) := b0.cell 2
      have x3 : wr.cell? ⟨w.heap.size, 3, none⟩ = some (.int .i64 0) := b0.cell 3
      obtain ⟨K2, P2, X2, F2⟩ := t2
      clear b0 b3 hg1 ho hpre htr hd2 hdr2 hf hdf
      by_cases k1 : K2 = 1
      · have hat : atIt (lx.hd (T.drop p')) = true := by rw [hat1, show (({ kind := K2, at_ := P2, text := X2, wt := F2 } : Tok).kind == 1) = true from by rw [k1]; rfl]; rfl
        replace c0 : wr.cell? ⟨g, p' * 4, none⟩ = some (.int .i64 1) := by rw [c0, show ({ kind := K2, at_ := P2, text := X2, wt := F2 } : Tok).kind = 1 from k1]; rfl
        have hit := HI.out wr g cap p' T hk HTR.out HG1.out hat
        rw [HN.out, HD1.out] at hit
        unfold StV at hit
        have HAT := Lib.hid hat
        clear hat hat1 hsg k1
        go_wp2_with fail
        refine hit.mono ?_
        intro e w3 han
        obtain ⟨p2, E, a, bb, tx, ao2, m2, c2, o, rfl, hb3, hun⟩ := item_un HN.out han
        clear hit han x0 x1 x2 x3
        have HUN := Lib.hid hun
        have b0' := BX0.out.below hb3 BX0.out.lt
        have b1' := BX1.out.below hb3 BX1.out.lt
        have b2' := BX2.out.below hb3 BX2.out.lt
        have b3' := BX3.out.below hb3 BX3.out.lt
        have hz3 := hb3.size
        have l0 := b0'.lt
        have l3 := b3'.lt
        have y32 : w3.cell? ⟨w.heap.size + 1 + 1 + 1, 2, none⟩ = some (.slice ao done.length icap) := b3'.cell 2
        have v0 := b0'.frozen 0
        have v1 := b0'.frozen 1
        have v2 := b0'.frozen 2
        have v3 := b0'.frozen 3
        have v32 := b3'.frozen 2
        have C0 := Lib.hid b0'
        have C1 := Lib.hid b1'
        have C2 := Lib.hid b2'
        have C3 := Lib.hid b3'
        have HB3 := Lib.hid hb3
        clear hun b0' b1' b2' b3' hb3
        go_upto_region 7 with fail
        have he := entry2 w3 #[.slice (some ⟨g, 0, none⟩) n cap, .int .i64 p2, .int .i64 d, .int .i64 E] #[.int .i64 a, .int .i64 bb, .string tx, .slice ao2 m2 c2, .int .u8 o] 59 70
        generalize hW4 : (w3.alloc (.cells #[.slice (some ⟨g, 0, none⟩) n cap, .int .i64 p2, .int .i64 d, .int .i64 E] 59)).alloc (.cells #[.int .i64 a, .int .i64 bb, .string tx, .slice ao2 m2 c2, .int .u8 o] 70) = w4 at *
        obtain ⟨hb4, hz4, s5, s6⟩ := he
        have HB4 := Lib.hid hb4
        have HZ4 := Lib.hid hz4
        have b0 := C0.out.below hb4 C0.out.lt
        have b1 := C1.out.below hb4 C1.out.lt
        have b2 := C2.out.below hb4 C2.out.lt
        have b3 := C3.out.below hb4 C3.out.lt
        clear l0 l3 y32 v0 v1 v2 v3 v32 hb4 hz4 hW4
        have l0 := b0.lt
        have l3 := b3.lt
        have y32 : w4.cell? ⟨w.heap.size + 1 + 1 + 1, 2, none⟩ = some (.slice ao done.length icap) := b3.cell 2
        have v0 := b0.frozen 0
        have v1 := b0.frozen 1
        have v2 := b0.frozen 2
        have v3 := b0.frozen 3
        have x0 : w4.cell? ⟨w.heap.size, 0, none⟩ = some (.slice (some ⟨g, 0, none⟩) n cap) := b0.cell 0
        have x1 : w4.cell? ⟨w.heap.size, 1, none⟩ = some (.int .i64 p') := b0.cell 1
        have x2 : w4.cell? ⟨w.heap.size, 2, none⟩ = some (.int .i64 d) := b0.cell 2
        have x3 : w4.cell? ⟨w.heap.size, 3, none⟩ = some (.int .i64 0) := b0.cell 3
        have q0 : w4.cell? ⟨w3.heap.size, 0, none⟩ = some (.slice (some ⟨g, 0, none⟩) n cap) := s5.cell 0
        have q1 : w4.cell? ⟨w3.heap.size, 1, none⟩ = some (.int .i64 p2) := s5.cell 1
        have q2 : w4.cell? ⟨w3.heap.size, 2, none⟩ = some (.int .i64 d) := s5.cell 2
        have q3 : w4.cell? ⟨w3.heap.size, 3, none⟩ = some (.int .i64 E) := s5.cell 3
        have D0 := Lib.hid b0
        have D1 := Lib.hid b1
        have D2 := Lib.hid b2
        have D3 := Lib.hid b3
        have D6 := Lib.hid s6
        clear b0 b1 b2 b3 s5 s6 C0 C1 C2 C3
        go_upto_region 8 with fail
        have hks := kp_st w4 w.heap.size (.slice (some ⟨g, 0, none⟩) n cap) (.int .i64 p2) (.int .i64 d) (.int .i64 E)
        have b0 : Blk ((((w4.setCell ⟨w.heap.size, 0, none⟩ (.slice (some ⟨g, 0, none⟩) n cap)).setCell ⟨w.heap.size, 1, none⟩ (.int .i64 p2)).setCell ⟨w.heap.size, 2, none⟩ (.int .i64 d)).setCell ⟨w.heap.size, 3, none⟩ (.int .i64 E)) w.heap.size 59 #[.slice (some ⟨g, 0, none⟩) n cap, .int .i64 p2, .int .i64 d, .int .i64 E] :=
          (((D0.out.set_ 0 (.slice (some ⟨g, 0, none⟩) n cap)).set_ 1 (.int .i64 p2)).set_ 2 (.int .i64 d)).set_ 3 (.int .i64 E)
        clear x0 x1 x2 x3 q0 q1 q2 q3 v0 v1 v2 v3 l0 l3 y32
        generalize (((w4.setCell ⟨w.heap.size, 0, none⟩ (.slice (some ⟨g, 0, none⟩) n cap)).setCell ⟨w.heap.size, 1, none⟩ (.int .i64 p2)).setCell ⟨w.heap.size, 2, none⟩ (.int .i64 d)).setCell ⟨w.heap.size, 3, none⟩ (.int .i64 E) = w5 at *
        have hz45 := hks.size
        have hz4 := HZ4.out
        have b1 : Blk w5 (w.heap.size + 1) _ _ := D1.out.kept hks (by show ¬ w.heap.size + 1 = w.heap.size; omega)
        have b2 : Blk w5 (w.heap.size + 1 + 1) _ _ := D2.out.kept hks (by show ¬ w.heap.size + 1 + 1 = w.heap.size; omega)
        have b3 : Blk w5 (w.heap.size + 1 + 1 + 1) _ _ := D3.out.kept hks (by show ¬ w.heap.size + 1 + 1 + 1 = w.heap.size; omega)
        have s6 : Blk w5 (w3.heap.size + 1) _ _ := D6.out.kept hks (by show ¬ w3.heap.size + 1 = w.heap.size; omega)
        have hk35 : ∀ i, i < w3.heap.size → i ≠ w.heap.size → w5.heap[i]? = w3.heap[i]? := fun i hi hne => (hks.block i (by omega) hne).trans (HB4.out.block i hi)
        have hk5 : ∀ i, i < wr.heap.size → i ≠ w.heap.size → w5.heap[i]? = wr.heap[i]? := fun i hi hne => (hk35 i (by omega) hne).trans (HB3.out.block i hi)
        have hbel5 : Below w.heap.size w w5 := (HBR.out.trans (HB3.out.mono (by omega))).trans ((HB4.out.mono (by omega)).trans (hks.below (n := w.heap.size) (by omega) (fun i hi => by omega)))
        obtain ⟨us, hus1, hus2, how, hus4⟩ := HO.out
        have how5 := ownsRow_keep how (w' := w5) (fun g hg hv => hk5 g hg (by have := (how.lt g hv).1; omega))
        have F0 := Lib.hid b0
        have F1 := Lib.hid b1
        have F2 := Lib.hid b2
        have F3 := Lib.hid b3
        have HK35 := Lib.hid hk35
        have HK5 := Lib.hid hk5
        have HBL := Lib.hid hbel5
        have HU1 := Lib.hid hus1
        have HU2 := Lib.hid hus2
        have HOW := Lib.hid how
        have HU4 := Lib.hid hus4
        have HW5 := Lib.hid how5
        have l3 := b3.lt
        have y32 : w5.cell? ⟨w.heap.size + 1 + 1 + 1, 2, none⟩ = some (.slice ao done.length icap) := b3.cell 2
        have ls6 := s6.lt
        have i0 : w5.cell? ⟨w3.heap.size + 1, 0, none⟩ = some (.int .i64 a) := s6.cell 0
        have i1' : w5.cell? ⟨w3.heap.size + 1, 1, none⟩ = some (.int .i64 bb) := s6.cell 1
        have i2 : w5.cell? ⟨w3.heap.size + 1, 2, none⟩ = some (.string tx) := s6.cell 2
        have i3 : w5.cell? ⟨w3.heap.size + 1, 3, none⟩ = some (.slice ao2 m2 c2) := s6.cell 3
        have i4 : w5.cell? ⟨w3.heap.size + 1, 4, none⟩ = some (.int .u8 o) := s6.cell 4
        have hne3 : some (w.heap.size + 1 + 1 + 1) ≠ (Value.slice ao done.length icap).ownBlock := fun e => by have := (how.lt _ e.symm).1; omega
        have hbd : done.length ≤ 70000 := by have := HDF.out; omega
        have hsz5 : w.heap.size + 4 ≤ w5.heap.size := by omega
        clear b0 b1 b2 b3 s6 D0 D1 D2 D3 D6 hks hk35 hk5 hbel5 hus1 hus2 how hus4 how5 hz45 hz4
        obtain ⟨i1, ki, kz0, kz1, kz2⟩ := info_parts info_ritem
        generalize hdn : done.length = dn at *
        have Hdone.length := Lib.hid hdn
        clear hdn
        go_wp2_with (at_builtin; refine wpList_append_own_at _ rfl _ _ 65 rfl (w.heap.size + 4) 70 i1 (.agg #[.int .i64 0, .int .i64 0, .string ⟨#[]⟩, .slice none 0 0, .int .u8 0]) 5 64 Tryz.underlying65 ki kz0 kz1 kz2 rfl (by decide) _ dn us.flatten rfl (HW5.out.alloc _) ⟨w5.heap.size, 0, none⟩ 1 1 [.int .i64 a, .int .i64 bb, .string tx, .slice ao2 m2 c2, .int .u8 o] rfl rfl (new_cells _ _ _) (one5 _ _ _ _ _ _ _) (by unfold maxLen; omega) (by omega) (by rw [World.size_alloc]; omega) ?_; intro v6 w6 hown6 hg6 _ hat6; obtain ⟨ao6, cap6, rfl⟩ := own_form hown6; have b3' := Blk.grown (F3.out.alloc _) hg6 hne3; have l36 := b3'.lt; have y36 : w6.cell? ⟨w.heap.size + 1 + 1 + 1, 2, none⟩ = some (.slice ao dn icap) := b3'.cell 2; have v36 := b3'.frozen 2)
        exact raltR_step HN.out HD1.out Hdone.length.out hzr hz3 hp2 HRL.out HK35.out HK5.out (by omega) HBL.out F0.out F1.out F2.out F3.out (HU1.out.trans Hdone.length.out.symm) HU2.out HOW.out HU4.out hown6 hg6 hat6 HF.out HDF.out HAT.out HPRE.out HUN.out
      by_cases k2 : K2 = 2
      · have hat : atIt (lx.hd (T.drop p')) = true := by rw [hat1, show (({ kind := K2, at_ := P2, text := X2, wt := F2 } : Tok).kind == 2) = true from by rw [k2]; rfl]; simp
        replace c0 : wr.cell? ⟨g, p' * 4, none⟩ = some (.int .i64 2) := by rw [c0, show ({ kind := K2, at_ := P2, text := X2, wt := F2 } : Tok).kind = 2 from k2]; rfl
        have hit := HI.out wr g cap p' T hk HTR.out HG1.out hat
        rw [HN.out, HD1.out] at hit
        unfold StV at hit
        have HAT := Lib.hid hat
        clear hat hat1 hsg k1 k2
        go_wp2_with fail
        refine hit.mono ?_
        intro e w3 han
        obtain ⟨p2, E, a, bb, tx, ao2, m2, c2, o, rfl, hb3, hun⟩ := item_un HN.out han
        clear hit han x0 x1 x2 x3
        have HUN := Lib.hid hun
        have b0' := BX0.out.below hb3 BX0.out.lt
        have b1' := BX1.out.below hb3 BX1.out.lt
        have b2' := BX2.out.below hb3 BX2.out.lt
        have b3' := BX3.out.below hb3 BX3.out.lt
        have hz3 := hb3.size
        have l0 := b0'.lt
        have l3 := b3'.lt
        have y32 : w3.cell? ⟨w.heap.size + 1 + 1 + 1, 2, none⟩ = some (.slice ao done.length icap) := b3'.cell 2
        have v0 := b0'.frozen 0
        have v1 := b0'.frozen 1
        have v2 := b0'.frozen 2
        have v3 := b0'.frozen 3
        have v32 := b3'.frozen 2
        have C0 := Lib.hid b0'
        have C1 := Lib.hid b1'
        have C2 := Lib.hid b2'
        have C3 := Lib.hid b3'
        have HB3 := Lib.hid hb3
        clear hun b0' b1' b2' b3' hb3
        go_upto_region 7 with fail
        have he := entry2 w3 #[.slice (some ⟨g, 0, none⟩) n cap, .int .i64 p2, .int .i64 d, .int .i64 E] #[.int .i64 a, .int .i64 bb, .string tx, .slice ao2 m2 c2, .int .u8 o] 59 70
        generalize hW4 : (w3.alloc (.cells #[.slice (some ⟨g, 0, none⟩) n cap, .int .i64 p2, .int .i64 d, .int .i64 E] 59)).alloc (.cells #[.int .i64 a, .int .i64 bb, .string tx, .slice ao2 m2 c2, .int .u8 o] 70) = w4 at *
        obtain ⟨hb4, hz4, s5, s6⟩ := he
        have HB4 := Lib.hid hb4
        have HZ4 := Lib.hid hz4
        have b0 := C0.out.below hb4 C0.out.lt
        have b1 := C1.out.below hb4 C1.out.lt
        have b2 := C2.out.below hb4 C2.out.lt
        have b3 := C3.out.below hb4 C3.out.lt
        clear l0 l3 y32 v0 v1 v2 v3 v32 hb4 hz4 hW4
        have l0 := b0.lt
        have l3 := b3.lt
        have y32 : w4.cell? ⟨w.heap.size + 1 + 1 + 1, 2, none⟩ = some (.slice ao done.length icap) := b3.cell 2
        have v0 := b0.frozen 0
        have v1 := b0.frozen 1
        have v2 := b0.frozen 2
        have v3 := b0.frozen 3
        have x0 : w4.cell? ⟨w.heap.size, 0, none⟩ = some (.slice (some ⟨g, 0, none⟩) n cap) := b0.cell 0
        have x1 : w4.cell? ⟨w.heap.size, 1, none⟩ = some (.int .i64 p') := b0.cell 1
        have x2 : w4.cell? ⟨w.heap.size, 2, none⟩ = some (.int .i64 d) := b0.cell 2
        have x3 : w4.cell? ⟨w.heap.size, 3, none⟩ = some (.int .i64 0) := b0.cell 3
        have q0 : w4.cell? ⟨w3.heap.size, 0, none⟩ = some (.slice (some ⟨g, 0, none⟩) n cap) := s5.cell 0
        have q1 : w4.cell? ⟨w3.heap.size, 1, none⟩ = some (.int .i64 p2) := s5.cell 1
        have q2 : w4.cell? ⟨w3.heap.size, 2, none⟩ = some (.int .i64 d) := s5.cell 2
        have q3 : w4.cell? ⟨w3.heap.size, 3, none⟩ = some (.int .i64 E) := s5.cell 3
        have D0 := Lib.hid b0
        have D1 := Lib.hid b1
        have D2 := Lib.hid b2
        have D3 := Lib.hid b3
        have D6 := Lib.hid s6
        clear b0 b1 b2 b3 s5 s6 C0 C1 C2 C3
        go_upto_region 8 with fail
        have hks := kp_st w4 w.heap.size (.slice (some ⟨g, 0, none⟩) n cap) (.int .i64 p2) (.int .i64 d) (.int .i64 E)
        have b0 : Blk ((((w4.setCell ⟨w.heap.size, 0, none⟩ (.slice (some ⟨g, 0, none⟩) n cap)).setCell ⟨w.heap.size, 1, none⟩ (.int .i64 p2)).setCell ⟨w.heap.size, 2, none⟩ (.int .i64 d)).setCell ⟨w.heap.size, 3, none⟩ (.int .i64 E)) w.heap.size 59 #[.slice (some ⟨g, 0, none⟩) n cap, .int .i64 p2, .int .i64 d, .int .i64 E] :=
          (((D0.out.set_ 0 (.slice (some ⟨g, 0, none⟩) n cap)).set_ 1 (.int .i64 p2)).set_ 2 (.int .i64 d)).set_ 3 (.int .i64 E)
        clear x0 x1 x2 x3 q0 q1 q2 q3 v0 v1 v2 v3 l0 l3 y32
        generalize (((w4.setCell ⟨w.heap.size, 0, none⟩ (.slice (some ⟨g, 0, none⟩) n cap)).setCell ⟨w.heap.size, 1, none⟩ (.int .i64 p2)).setCell ⟨w.heap.size, 2, none⟩ (.int .i64 d)).setCell ⟨w.heap.size, 3, none⟩ (.int .i64 E) = w5 at *
        have hz45 := hks.size
        have hz4 := HZ4.out
        have b1 : Blk w5 (w.heap.size + 1) _ _ := D1.out.kept hks (by show ¬ w.heap.size + 1 = w.heap.size; omega)
        have b2 : Blk w5 (w.heap.size + 1 + 1) _ _ := D2.out.kept hks (by show ¬ w.heap.size + 1 + 1 = w.heap.size; omega)
        have b3 : Blk w5 (w.heap.size + 1 + 1 + 1) _ _ := D3.out.kept hks (by show ¬ w.heap.size + 1 + 1 + 1 = w.heap.size; omega)
        have s6 : Blk w5 (w3.heap.size + 1) _ _ := D6.out.kept hks (by show ¬ w3.heap.size + 1 = w.heap.size; omega)
        have hk35 : ∀ i, i < w3.heap.size → i ≠ w.heap.size → w5.heap[i]? = w3.heap[i]? := fun i hi hne => (hks.block i (by omega) hne).trans (HB4.out.block i hi)
        have hk5 : ∀ i, i < wr.heap.size → i ≠ w.heap.size → w5.heap[i]? = wr.heap[i]? := fun i hi hne => (hk35 i (by omega) hne).trans (HB3.out.block i hi)
        have hbel5 : Below w.heap.size w w5 := (HBR.out.trans (HB3.out.mono (by omega))).trans ((HB4.out.mono (by omega)).trans (hks.below (n := w.heap.size) (by omega) (fun i hi => by omega)))
        obtain ⟨us, hus1, hus2, how, hus4⟩ := HO.out
        have how5 := ownsRow_keep how (w' := w5) (fun g hg hv => hk5 g hg (by have := (how.lt g hv).1; omega))
        have F0 := Lib.hid b0
        have F1 := Lib.hid b1
        have F2 := Lib.hid b2
        have F3 := Lib.hid b3
        have HK35 := Lib.hid hk35
        have HK5 := Lib.hid hk5
        have HBL := Lib.hid hbel5
        have HU1 := Lib.hid hus1
        have HU2 := Lib.hid hus2
        have HOW := Lib.hid how
        have HU4 := Lib.hid hus4
        have HW5 := Lib.hid how5
        have l3 := b3.lt
        have y32 : w5.cell? ⟨w.heap.size + 1 + 1 + 1, 2, none⟩ = some (.slice ao done.length icap) := b3.cell 2
        have ls6 := s6.lt
        have i0 : w5.cell? ⟨w3.heap.size + 1, 0, none⟩ = some (.int .i64 a) := s6.cell 0
        have i1' : w5.cell? ⟨w3.heap.size + 1, 1, none⟩ = some (.int .i64 bb) := s6.cell 1
        have i2 : w5.cell? ⟨w3.heap.size + 1, 2, none⟩ = some (.string tx) := s6.cell 2
        have i3 : w5.cell? ⟨w3.heap.size + 1, 3, none⟩ = some (.slice ao2 m2 c2) := s6.cell 3
        have i4 : w5.cell? ⟨w3.heap.size + 1, 4, none⟩ = some (.int .u8 o) := s6.cell 4
        have hne3 : some (w.heap.size + 1 + 1 + 1) ≠ (Value.slice ao done.length icap).ownBlock := fun e => by have := (how.lt _ e.symm).1; omega
        have hbd : done.length ≤ 70000 := by have := HDF.out; omega
        have hsz5 : w.heap.size + 4 ≤ w5.heap.size := by omega
        clear b0 b1 b2 b3 s6 D0 D1 D2 D3 D6 hks hk35 hk5 hbel5 hus1 hus2 how hus4 how5 hz45 hz4
        obtain ⟨i1, ki, kz0, kz1, kz2⟩ := info_parts info_ritem
        generalize hdn : done.length = dn at *
        have Hdone.length := Lib.hid hdn
        clear hdn
        go_wp2_with (at_builtin; refine wpList_append_own_at _ rfl _ _ 65 rfl (w.heap.size + 4) 70 i1 (.agg #[.int .i64 0, .int .i64 0, .string ⟨#[]⟩, .slice none 0 0, .int .u8 0]) 5 64 Tryz.underlying65 ki kz0 kz1 kz2 rfl (by decide) _ dn us.flatten rfl (HW5.out.alloc _) ⟨w5.heap.size, 0, none⟩ 1 1 [.int .i64 a, .int .i64 bb, .string tx, .slice ao2 m2 c2, .int .u8 o] rfl rfl (new_cells _ _ _) (one5 _ _ _ _ _ _ _) (by unfold maxLen; omega) (by omega) (by rw [World.size_alloc]; omega) ?_; intro v6 w6 hown6 hg6 _ hat6; obtain ⟨ao6, cap6, rfl⟩ := own_form hown6; have b3' := Blk.grown (F3.out.alloc _) hg6 hne3; have l36 := b3'.lt; have y36 : w6.cell? ⟨w.heap.size + 1 + 1 + 1, 2, none⟩ = some (.slice ao dn icap) := b3'.cell 2; have v36 := b3'.frozen 2)
        exact raltR_step HN.out HD1.out Hdone.length.out hzr hz3 hp2 HRL.out HK35.out HK5.out (by omega) HBL.out F0.out F1.out F2.out F3.out (HU1.out.trans Hdone.length.out.symm) HU2.out HOW.out HU4.out hown6 hg6 hat6 HF.out HDF.out HAT.out HPRE.out HUN.out
      have hs := rsign_any wr g cap p' d 0 T 40 (by decide) HTR.out HG1.out
      rw [HN.out] at hs
      unfold StV at hs
      replace c0 : wr.cell? ⟨g, p' * 4, none⟩ = some (.int .i64 K2) := c0
      have n1 : ((K2 : Int) == 1) = false := by rw [beq_eq_false_iff_ne]; omega
      have n2 : ((K2 : Int) == 2) = false := by rw [beq_eq_false_iff_ne]; omega
      by_cases h40 : sg (T.drop p') = 40
      · have hat : atIt (lx.hd (T.drop p')) = true := by rw [hat1, ← hsg, h40]; simp
        rw [decide_eq_true (show sg (T.drop p') = UInt8.toNat 40 from h40)] at hs
        have HAT := Lib.hid hat
        clear hat hat1 hsg k1 k2 h40
        go_wp2_with fail
        refine hs.mono ?_
        rintro e wx ⟨rfl, hbx⟩
        clear hs x0 x1 x2 x3 c0 c1 c2 c3
        have hzx : w.heap.size + 4 ≤ wx.heap.size := by have := hbx.size; omega
        have BX0 := Lib.hid (BX0.out.below hbx BX0.out.lt)
        have BX1 := Lib.hid (BX1.out.below hbx BX1.out.lt)
        have BX2 := Lib.hid (BX2.out.below hbx BX2.out.lt)
        have BX3 := Lib.hid (BX3.out.below hbx BX3.out.lt)
        have HBR := Lib.hid (HBR.out.trans (hbx.mono (by omega)))
        have HTR := Lib.hid (HTR.out.below hbx HTR.out.lt)
        have HO := Lib.hid (HO.out.keep (keepsItm (keepsAlts k)) (fun g hg _ => hbx.block g hg) hbx.size)
        clear hbx
        have x0 : wx.cell? ⟨w.heap.size, 0, none⟩ = some (.slice (some ⟨g, 0, none⟩) n cap) := BX0.out.cell 0
        have x1 : wx.cell? ⟨w.heap.size, 1, none⟩ = some (.int .i64 p') := BX0.out.cell 1
        have x2 : wx.cell? ⟨w.heap.size, 2, none⟩ = some (.int .i64 d) := BX0.out.cell 2
        have x3 : wx.cell? ⟨w.heap.size, 3, none⟩ = some (.int .i64 0) := BX0.out.cell 3
        have hit := HI.out wx g cap p' T hk HTR.out HG1.out HAT.out
        rw [HN.out, HD1.out] at hit
        unfold StV at hit
        go_wp2_with fail
        refine hit.mono ?_
        intro e w3 han
        obtain ⟨p2, E, a, bb, tx, ao2, m2, c2, o, rfl, hb3, hun⟩ := item_un HN.out han
        clear hit han x0 x1 x2 x3
        have HUN := Lib.hid hun
        have b0' := BX0.out.below hb3 BX0.out.lt
        have b1' := BX1.out.below hb3 BX1.out.lt
        have b2' := BX2.out.below hb3 BX2.out.lt
        have b3' := BX3.out.below hb3 BX3.out.lt
        have hz3 := hb3.size
        have l0 := b0'.lt
        have l3 := b3'.lt
        have y32 : w3.cell? ⟨w.heap.size + 1 + 1 + 1, 2, none⟩ = some (.slice ao done.length icap) := b3'.cell 2
        have v0 := b0'.frozen 0
        have v1 := b0'.frozen 1
        have v2 := b0'.frozen 2
        have v3 := b0'.frozen 3
        have v32 := b3'.frozen 2
        have C0 := Lib.hid b0'
        have C1 := Lib.hid b1'
        have C2 := Lib.hid b2'
        have C3 := Lib.hid b3'
        have HB3 := Lib.hid hb3
        clear hun b0' b1' b2' b3' hb3
        go_upto_region 7 with fail
        have he := entry2 w3 #[.slice (some ⟨g, 0, none⟩) n cap, .int .i64 p2, .int .i64 d, .int .i64 E] #[.int .i64 a, .int .i64 bb, .string tx, .slice ao2 m2 c2, .int .u8 o] 59 70
        generalize hW4 : (w3.alloc (.cells #[.slice (some ⟨g, 0, none⟩) n cap, .int .i64 p2, .int .i64 d, .int .i64 E] 59)).alloc (.cells #[.int .i64 a, .int .i64 bb, .string tx, .slice ao2 m2 c2, .int .u8 o] 70) = w4 at *
        obtain ⟨hb4, hz4, s5, s6⟩ := he
        have HB4 := Lib.hid hb4
        have HZ4 := Lib.hid hz4
        have b0 := C0.out.below hb4 C0.out.lt
        have b1 := C1.out.below hb4 C1.out.lt
        have b2 := C2.out.below hb4 C2.out.lt
        have b3 := C3.out.below hb4 C3.out.lt
        clear l0 l3 y32 v0 v1 v2 v3 v32 hb4 hz4 hW4
        have l0 := b0.lt
        have l3 := b3.lt
        have y32 : w4.cell? ⟨w.heap.size + 1 + 1 + 1, 2, none⟩ = some (.slice ao done.length icap) := b3.cell 2
        have v0 := b0.frozen 0
        have v1 := b0.frozen 1
        have v2 := b0.frozen 2
        have v3 := b0.frozen 3
        have x0 : w4.cell? ⟨w.heap.size, 0, none⟩ = some (.slice (some ⟨g, 0, none⟩) n cap) := b0.cell 0
        have x1 : w4.cell? ⟨w.heap.size, 1, none⟩ = some (.int .i64 p') := b0.cell 1
        have x2 : w4.cell? ⟨w.heap.size, 2, none⟩ = some (.int .i64 d) := b0.cell 2
        have x3 : w4.cell? ⟨w.heap.size, 3, none⟩ = some (.int .i64 0) := b0.cell 3
        have q0 : w4.cell? ⟨w3.heap.size, 0, none⟩ = some (.slice (some ⟨g, 0, none⟩) n cap) := s5.cell 0
        have q1 : w4.cell? ⟨w3.heap.size, 1, none⟩ = some (.int .i64 p2) := s5.cell 1
        have q2 : w4.cell? ⟨w3.heap.size, 2, none⟩ = some (.int .i64 d) := s5.cell 2
        have q3 : w4.cell? ⟨w3.heap.size, 3, none⟩ = some (.int .i64 E) := s5.cell 3
        have D0 := Lib.hid b0
        have D1 := Lib.hid b1
        have D2 := Lib.hid b2
        have D3 := Lib.hid b3
        have D6 := Lib.hid s6
        clear b0 b1 b2 b3 s5 s6 C0 C1 C2 C3
        go_upto_region 8 with fail
        have hks := kp_st w4 w.heap.size (.slice (some ⟨g, 0, none⟩) n cap) (.int .i64 p2) (.int .i64 d) (.int .i64 E)
        have b0 : Blk ((((w4.setCell ⟨w.heap.size, 0, none⟩ (.slice (some ⟨g, 0, none⟩) n cap)).setCell ⟨w.heap.size, 1, none⟩ (.int .i64 p2)).setCell ⟨w.heap.size, 2, none⟩ (.int .i64 d)).setCell ⟨w.heap.size, 3, none⟩ (.int .i64 E)) w.heap.size 59 #[.slice (some ⟨g, 0, none⟩) n cap, .int .i64 p2, .int .i64 d, .int .i64 E] :=
          (((D0.out.set_ 0 (.slice (some ⟨g, 0, none⟩) n cap)).set_ 1 (.int .i64 p2)).set_ 2 (.int .i64 d)).set_ 3 (.int .i64 E)
        clear x0 x1 x2 x3 q0 q1 q2 q3 v0 v1 v2 v3 l0 l3 y32
        generalize (((w4.setCell ⟨w.heap.size, 0, none⟩ (.slice (some ⟨g, 0, none⟩) n cap)).setCell ⟨w.heap.size, 1, none⟩ (.int .i64 p2)).setCell ⟨w.heap.size, 2, none⟩ (.int .i64 d)).setCell ⟨w.heap.size, 3, none⟩ (.int .i64 E) = w5 at *
        have hz45 := hks.size
        have hz4 := HZ4.out
        have b1 : Blk w5 (w.heap.size + 1) _ _ := D1.out.kept hks (by show ¬ w.heap.size + 1 = w.heap.size; omega)
        have b2 : Blk w5 (w.heap.size + 1 + 1) _ _ := D2.out.kept hks (by show ¬ w.heap.size + 1 + 1 = w.heap.size; omega)
        have b3 : Blk w5 (w.heap.size + 1 + 1 + 1) _ _ := D3.out.kept hks (by show ¬ w.heap.size + 1 + 1 + 1 = w.heap.size; omega)
        have s6 : Blk w5 (w3.heap.size + 1) _ _ := D6.out.kept hks (by show ¬ w3.heap.size + 1 = w.heap.size; omega)
        have hk35 : ∀ i, i < w3.heap.size → i ≠ w.heap.size → w5.heap[i]? = w3.heap[i]? := fun i hi hne => (hks.block i (by omega) hne).trans (HB4.out.block i hi)
        have hk5 : ∀ i, i < wx.heap.size → i ≠ w.heap.size → w5.heap[i]? = wx.heap[i]? := fun i hi hne => (hk35 i (by omega) hne).trans (HB3.out.block i hi)
        have hbel5 : Below w.heap.size w w5 := (HBR.out.trans (HB3.out.mono (by omega))).trans ((HB4.out.mono (by omega)).trans (hks.below (n := w.heap.size) (by omega) (fun i hi => by omega)))
        obtain ⟨us, hus1, hus2, how, hus4⟩ := HO.out
        have how5 := ownsRow_keep how (w' := w5) (fun g hg hv => hk5 g hg (by have := (how.lt g hv).1; omega))
        have F0 := Lib.hid b0
        have F1 := Lib.hid b1
        have F2 := Lib.hid b2
        have F3 := Lib.hid b3
        have HK35 := Lib.hid hk35
        have HK5 := Lib.hid hk5
        have HBL := Lib.hid hbel5
        have HU1 := Lib.hid hus1
        have HU2 := Lib.hid hus2
        have HOW := Lib.hid how
        have HU4 := Lib.hid hus4
        have HW5 := Lib.hid how5
        have l3 := b3.lt
        have y32 : w5.cell? ⟨w.heap.size + 1 + 1 + 1, 2, none⟩ = some (.slice ao done.length icap) := b3.cell 2
        have ls6 := s6.lt
        have i0 : w5.cell? ⟨w3.heap.size + 1, 0, none⟩ = some (.int .i64 a) := s6.cell 0
        have i1' : w5.cell? ⟨w3.heap.size + 1, 1, none⟩ = some (.int .i64 bb) := s6.cell 1
        have i2 : w5.cell? ⟨w3.heap.size + 1, 2, none⟩ = some (.string tx) := s6.cell 2
        have i3 : w5.cell? ⟨w3.heap.size + 1, 3, none⟩ = some (.slice ao2 m2 c2) := s6.cell 3
        have i4 : w5.cell? ⟨w3.heap.size + 1, 4, none⟩ = some (.int .u8 o) := s6.cell 4
        have hne3 : some (w.heap.size + 1 + 1 + 1) ≠ (Value.slice ao done.length icap).ownBlock := fun e => by have := (how.lt _ e.symm).1; omega
        have hbd : done.length ≤ 70000 := by have := HDF.out; omega
        have hsz5 : w.heap.size + 4 ≤ w5.heap.size := by omega
        clear b0 b1 b2 b3 s6 D0 D1 D2 D3 D6 hks hk35 hk5 hbel5 hus1 hus2 how hus4 how5 hz45 hz4
        obtain ⟨i1, ki, kz0, kz1, kz2⟩ := info_parts info_ritem
        generalize hdn : done.length = dn at *
        have Hdone.length := Lib.hid hdn
        clear hdn
        go_wp2_with (at_builtin; refine wpList_append_own_at _ rfl _ _ 65 rfl (w.heap.size + 4) 70 i1 (.agg #[.int .i64 0, .int .i64 0, .string ⟨#[]⟩, .slice none 0 0, .int .u8 0]) 5 64 Tryz.underlying65 ki kz0 kz1 kz2 rfl (by decide) _ dn us.flatten rfl (HW5.out.alloc _) ⟨w5.heap.size, 0, none⟩ 1 1 [.int .i64 a, .int .i64 bb, .string tx, .slice ao2 m2 c2, .int .u8 o] rfl rfl (new_cells _ _ _) (one5 _ _ _ _ _ _ _) (by unfold maxLen; omega) (by omega) (by rw [World.size_alloc]; omega) ?_; intro v6 w6 hown6 hg6 _ hat6; obtain ⟨ao6, cap6, rfl⟩ := own_form hown6; have b3' := Blk.grown (F3.out.alloc _) hg6 hne3; have l36 := b3'.lt; have y36 : w6.cell? ⟨w.heap.size + 1 + 1 + 1, 2, none⟩ = some (.slice ao dn icap) := b3'.cell 2; have v36 := b3'.frozen 2)
        exact raltR_step HN.out HD1.out Hdone.length.out hzx hz3 hp2 HRL.out HK35.out HK5.out (by omega) HBL.out F0.out F1.out F2.out F3.out (HU1.out.trans Hdone.length.out.symm) HU2.out HOW.out HU4.out hown6 hg6 hat6 HF.out HDF.out HAT.out HPRE.out HUN.out
      · have hat : ¬ atIt (lx.hd (T.drop p')) = true := by
          rw [hat1, ← hsg]
          simp only [Bool.or_eq_true, beq_iff_eq, not_or]
          exact ⟨⟨k1, k2⟩, h40⟩
        rw [decide_eq_false (show ¬ sg (T.drop p') = UInt8.toNat 40 from h40)] at hs
        have HXX : Hid ( (pItems (pSub k) r.length r) = .ok (done, T.drop p')) := Lib.hid (by rw [← HPRE.out]; exact pre_end _ _ _ _ hat)
        clear hat hat1 hsg k1 k2 h40
        go_wp2_with fail
        refine hs.mono ?_
        rintro e wx ⟨rfl, hbx⟩
        clear hs x0 x1 x2 x3 c0 c1 c2 c3
        have hzx : w.heap.size + 4 ≤ wx.heap.size := by have := hbx.size; omega
        have BX0 := Lib.hid (BX0.out.below hbx BX0.out.lt)
        have BX1 := Lib.hid (BX1.out.below hbx BX1.out.lt)
        have BX2 := Lib.hid (BX2.out.below hbx BX2.out.lt)
        have BX3 := Lib.hid (BX3.out.below hbx BX3.out.lt)
        have HBR := Lib.hid (HBR.out.trans (hbx.mono (by omega)))
        have HTR := Lib.hid (HTR.out.below hbx HTR.out.lt)
        have HO := Lib.hid (HO.out.keep (keepsItm (keepsAlts k)) (fun g hg _ => hbx.block g hg) hbx.size)
        clear hbx
        have x0 : wx.cell? ⟨w.heap.size, 0, none⟩ = some (.slice (some ⟨g, 0, none⟩) n cap) := BX0.out.cell 0
        have x1 : wx.cell? ⟨w.heap.size, 1, none⟩ = some (.int .i64 p') := BX0.out.cell 1
        have x2 : wx.cell? ⟨w.heap.size, 2, none⟩ = some (.int .i64 d) := BX0.out.cell 2
        have x3 : wx.cell? ⟨w.heap.size, 3, none⟩ = some (.int .i64 0) := BX0.out.cell 3
        have l0 := BX0.out.lt
        have l1 := BX1.out.lt
        have l2 := BX2.out.lt
        have l3 := BX3.out.lt
        have y0 : wx.cell? ⟨w.heap.size + 1, 0, none⟩ = some (.slice none 0 0) := BX1.out.cell 0
        have y1 : wx.cell? ⟨w.heap.size + 1, 1, none⟩ = some (.int .i64 0) := BX1.out.cell 1
        have y2 : wx.cell? ⟨w.heap.size + 1, 2, none⟩ = some (.int .i64 0) := BX1.out.cell 2
        have y3 : wx.cell? ⟨w.heap.size + 1, 3, none⟩ = some (.int .i64 0) := BX1.out.cell 3
        have z0 : wx.cell? ⟨w.heap.size + 1 + 1, 0, none⟩ = some (.int .i64 0) := BX2.out.cell 0
        have z1 : wx.cell? ⟨w.heap.size + 1 + 1, 1, none⟩ = some (.float .f64 0) := BX2.out.cell 1
        have z2 : wx.cell? ⟨w.heap.size + 1 + 1, 2, none⟩ = some (.slice none 0 0) := BX2.out.cell 2
        have i0 : wx.cell? ⟨w.heap.size + 1 + 1 + 1, 0, none⟩ = some (.int .i64 P) := BX3.out.cell 0
        have i1 : wx.cell? ⟨w.heap.size + 1 + 1 + 1, 1, none⟩ = some (.float .f64 F) := BX3.out.cell 1
        have i2 : wx.cell? ⟨w.heap.size + 1 + 1 + 1, 2, none⟩ = some (.slice ao done.length icap) := BX3.out.cell 2
        have vy0 := BX1.out.frozen 0
        have vy1 := BX1.out.frozen 1
        have vy2 := BX1.out.frozen 2
        have vy3 := BX1.out.frozen 3
        have vz0 := BX2.out.frozen 0
        have vz1 := BX2.out.frozen 1
        have vz2 := BX2.out.frozen 2
        go_wp2_with fail
        go_region
        all_goals
          go_wp2
          have hke := kp_alt_drew wx (w.heap.size + 1) (w.heap.size + 1 + 1) (.slice (some ⟨g, 0, none⟩) n cap) (.int .i64 p') (.int .i64 d) (.int .i64 0) (.int .i64 P) (.float .f64 F) (.slice ao done.length icap)
          refine bodyPost_ret (v := .tuple #[.agg #[.slice (some ⟨g, 0, none⟩) n cap, .int .i64 p', .int .i64 d, .int .i64 0], .agg #[.int .i64 P, .float .f64 F, .slice ao done.length icap]]) (by simp [results, Tryz.results31, go_sem, y0, y1, y2, y3, z0, z1, z2]) rfl ?_
          generalize (((((((wx.setCell ⟨w.heap.size + 1, 0, none⟩ (.slice (some ⟨g, 0, none⟩) n cap)).setCell ⟨w.heap.size + 1, 1, none⟩ (.int .i64 p')).setCell ⟨w.heap.size + 1, 2, none⟩ (.int .i64 d)).setCell ⟨w.heap.size + 1, 3, none⟩ (.int .i64 0)).setCell ⟨w.heap.size + 1 + 1, 0, none⟩ (.int .i64 P)).setCell ⟨w.heap.size + 1 + 1, 1, none⟩ (.float .f64 F)).setCell ⟨w.heap.size + 1 + 1, 2, none⟩ (.slice ao done.length icap)).drew = wz at *
          have hbz := HBR.out.trans (hke.below (n := w.heap.size) (by have := HBR.out.size; omega) (fun i hi => by rcases hi with h | h <;> (rw [h]; omega)))
          refine ⟨hbz, ?_⟩
          clear hbz
          rw [HR.out, HXX.out, ← HN.out]
          have hL : ListOf 5 (EItm (AltsAt k)) wz (fun g => w.heap.size ≤ g) (.slice ao done.length icap) done := (HO.out.done (keepsItm (keepsAlts k))).keep (keepsItm (keepsAlts k)) (fun g hg hA => ⟨Nat.le_trans (Nat.le_add_right _ 4) hA, hke.block g hg (fun h => by have h4 : w.heap.size + 4 ≤ g := hA; rcases h with h | h <;> omega)⟩) hke.size
          have hm : (T.drop p').length ≤ m := by have := HF.out; have := HDF.out; have := HML.out; omega
          exact ⟨p', .agg #[.int .i64 P, .float .f64 F, .slice ao done.length icap], rfl, ⟨.slice ao done.length icap, rfl, hL⟩, rfl, HG1.out, hm⟩
    · have BX0 := Lib.hid b0
      have BX3 := Lib.hid b3
      have HX := Lib.hid hX
      have HPL := Lib.hid hpl
      have HQA := Lib.hid hqa
      have hq1 : ((q.1 : Int) == 0) = false := by rw [beq_eq_false_iff_ne]; omega
      clear b0 b3 htr hX hpl hqa
      have x0 : wr.cell? ⟨w.heap.size, 0, none⟩ = some (.slice (some ⟨g, 0, none⟩) n cap) := BX0.out.cell 0
      have x1 : wr.cell? ⟨w.heap.size, 1, none⟩ = some (.int .i64 p') := BX0.out.cell 1
      have x2 : wr.cell? ⟨w.heap.size, 2, none⟩ = some (.int .i64 d) := BX0.out.cell 2
      have x3 : wr.cell? ⟨w.heap.size, 3, none⟩ = some (.int .i64 q.1) := BX0.out.cell 3
      have l0 := BX0.out.lt
      have l1 := BX1.out.lt
      have l2 := BX2.out.lt
      have l3 := BX3.out.lt
      have y0 : wr.cell? ⟨w.heap.size + 1, 0, none⟩ = some (.slice none 0 0) := BX1.out.cell 0
      have y1 : wr.cell? ⟨w.heap.size + 1, 1, none⟩ = some (.int .i64 0) := BX1.out.cell 1
      have y2 : wr.cell? ⟨w.heap.size + 1, 2, none⟩ = some (.int .i64 0) := BX1.out.cell 2
      have y3 : wr.cell? ⟨w.heap.size + 1, 3, none⟩ = some (.int .i64 0) := BX1.out.cell 3
      have z0 : wr.cell? ⟨w.heap.size + 1 + 1, 0, none⟩ = some (.int .i64 0) := BX2.out.cell 0
      have z1 : wr.cell? ⟨w.heap.size + 1 + 1, 1, none⟩ = some (.float .f64 0) := BX2.out.cell 1
      have z2 : wr.cell? ⟨w.heap.size + 1 + 1, 2, none⟩ = some (.slice none 0 0) := BX2.out.cell 2
      have i0 : wr.cell? ⟨w.heap.size + 1 + 1 + 1, 0, none⟩ = some (.int .i64 P) := BX3.out.cell 0
      have i1 : wr.cell? ⟨w.heap.size + 1 + 1 + 1, 1, none⟩ = some (.float .f64 F) := BX3.out.cell 1
      have i2 : wr.cell? ⟨w.heap.size + 1 + 1 + 1, 2, none⟩ = some (.slice ao m' c') := BX3.out.cell 2
      have vy0 := BX1.out.frozen 0
      have vy1 := BX1.out.frozen 1
      have vy2 := BX1.out.frozen 2
      have vy3 := BX1.out.frozen 3
      have vz0 := BX2.out.frozen 0
      have vz1 := BX2.out.frozen 1
      have vz2 := BX2.out.frozen 2
      go_wp2_with fail
      go_region
      all_goals
        go_wp2
        have hke := kp_alt_drew wr (w.heap.size + 1) (w.heap.size + 1 + 1) (.slice (some ⟨g, 0, none⟩) n cap) (.int .i64 p') (.int .i64 d) (.int .i64 q.1) (.int .i64 P) (.float .f64 F) (.slice ao m' c')
        refine bodyPost_ret (v := .tuple #[.agg #[.slice (some ⟨g, 0, none⟩) n cap, .int .i64 p', .int .i64 d, .int .i64 q.1], .agg #[.int .i64 P, .float .f64 F, .slice ao m' c']]) (by simp [results, Tryz.results31, go_sem, y0, y1, y2, y3, z0, z1, z2]) rfl ?_
        generalize (((((((wr.setCell ⟨w.heap.size + 1, 0, none⟩ (.slice (some ⟨g, 0, none⟩) n cap)).setCell ⟨w.heap.size + 1, 1, none⟩ (.int .i64 p')).setCell ⟨w.heap.size + 1, 2, none⟩ (.int .i64 d)).setCell ⟨w.heap.size + 1, 3, none⟩ (.int .i64 q.1)).setCell ⟨w.heap.size + 1 + 1, 0, none⟩ (.int .i64 P)).setCell ⟨w.heap.size + 1 + 1, 1, none⟩ (.float .f64 F)).setCell ⟨w.heap.size + 1 + 1, 2, none⟩ (.slice ao m' c')).drew = wz at *
        have hbz := HBR.out.trans (hke.below (n := w.heap.size) (by have := HBR.out.size; omega) (fun i hi => by rcases hi with h | h <;> (rw [h]; omega)))
        refine ⟨hbz, ?_⟩
        clear hbz
        rw [HR.out, HX.out, ← HN.out]
        exact ⟨p', .agg #[.int .i64 P, .float .f64 F, .slice ao m' c'], rfl, ⟨P, F, ao, m', c', rfl⟩, hq, HPL.out, HQA.out⟩
end Go.Proofs.YtdddbkghleblhaaGreatDoor.lx

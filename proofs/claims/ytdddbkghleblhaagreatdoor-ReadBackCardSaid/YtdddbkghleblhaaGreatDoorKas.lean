import Derived.Deep.RegionHeld
import Derived.Test.YtdddbkghleblhaaGreatDoorKar
import Derived.Deep.Cut
import Derived.Deep.RegionHeld3
import Derived.Deep.RegionLaw
import Derived.Deep.DrawnRows
import Derived.Deep.AppendLies
namespace Go.Proofs.YtdddbkghleblhaaGreatDoor.lx
open Go.ChangeShapes Go.WideShapes Go.ChangeAt Go.RowKit
set_option linter.unusedVariables false
set_option linter.unusedSimpArgs false
/-! a region that draws: what is read is read ahead of what is written at its end (the numbers E): S is kept by all others alone -/
section
variable {P : Program} {ops : Array Oper} {Q : Exit → Act → World → Prop} {md : Region.Mode} {S : World → Prop} {E : List Nat}
/-- what has come up, had all come up that it waits for -/
def clB (md : Region.Mode) (ops : Array Oper) (ls : Array Bool) : Bool := (List.range ops.size).all fun j => !ls.getD j false || match ops[j]? with
  | some q => q.after.all fun x => !Region.binds md x || ls.getD x.on false
  | none => true
/-- j waits for i -/
def ancB (md : Region.Mode) (ops : Array Oper) (i : Nat) : Nat → Nat → Bool
  | 0, _ => false
  | n + 1, j => match ops[j]? with
    | some q => q.after.any fun x => Region.binds md x && (x.on == i || ancB md ops i n x.on)
    | none => false
theorem cl_spec {ls : Array Bool} (h : clB md ops ls = true) {j : Nat} {q : Oper} (hq : ops[j]? = some q) (hj : ls.getD j false = true) : ∀ x ∈ q.after, Region.binds md x = true → ls.getD x.on false = true := fun x hx hb => by
  unfold clB at h
  rw [List.all_eq_true] at h
  have k := h j (List.mem_range.2 (Array.getElem?_eq_some_iff.1 hq).1)
  rw [hj, hq] at k
  simp only [Bool.not_true, Bool.false_or] at k
  have k2 := (Array.all_eq_true_iff_forall_mem.1 k) x hx
  rw [hb] at k2
  simpa using k2
theorem anc_spec {ls : Array Bool} (h : clB md ops ls = true) {i : Nat} : ∀ (n j : Nat) (q : Oper), ops[j]? = some q → ancB md ops i n j = true → (∀ x ∈ q.after, Region.binds md x = true → ls.getD x.on false = true) → ls.getD i false = true
  | 0, _, _, _, k, _ => by cases k
  | n + 1, j, q, hq, k, hall => by
    unfold ancB at k
    rw [hq] at k
    simp only at k
    obtain ⟨x, hx, hb⟩ := Array.any_eq_true'.1 k
    simp only [Bool.and_eq_true, Bool.or_eq_true, beq_iff_eq] at hb
    have h1 := hall x hx hb.1
    rcases hb.2 with e | e
    · rw [← e]; exact h1
    · cases hx2 : ops[x.on]? with
      | none =>
        cases n with
        | zero => cases e
        | succ n => unfold ancB at e; rw [hx2] at e; cases e
      | some q2 => exact anc_spec h n x.on q2 hx2 e (cl_spec h hx2 h1)
theorem cl_set {ls : Array Bool} (h : clB md ops ls = true) {j : Nat} (hj : j ∈ Region.ready md ops ls) : clB md ops (ls.setIfInBounds j true) = true := by
  obtain ⟨_, q, hq, hall⟩ := mem_ready.1 hj
  unfold clB
  rw [List.all_eq_true]
  intro k hk
  cases hk2 : ops[k]? with
  | none => simp
  | some r =>
    by_cases e : j = k
    · subst e
      rw [hq] at hk2
      cases hk2
      simp only [Bool.or_eq_true]
      right
      rw [Array.all_eq_true_iff_forall_mem]
      intro x hx
      cases hb : Region.binds md x
      · rfl
      · simpa using getD_set_true (hall x hx hb)
    · rw [getD_set_ne false e]
      cases hl : ls.getD k false
      · rfl
      · simp only [Bool.or_eq_true]
        right
        rw [Array.all_eq_true_iff_forall_mem]
        intro x hx
        cases hb : Region.binds md x
        · rfl
        · simpa using getD_set_true (cl_spec h hk2 hl x hx hb)
def anyE (P : Program) (md : Region.Mode) (ops : Array Oper) (Q : Exit → Act → World → Prop) (S : World → Prop) (E : List Nat) : Nat → Array Bool → Act → World → Prop
  | 0, ls, a, w => Region.ready md ops ls = [] ∧ Q .normal a w
  | n + 1, ls, a, w => (Region.ready md ops ls = [] → Q .normal a w) ∧ ∀ i ∈ Region.ready md ops ls, wpOp P ops Q i (fun b u => (E.contains i = false → S u) ∧ anyE P md ops Q S E n (ls.setIfInBounds i true) b u) a w
theorem any_of_anyE : ∀ (n : Nat) (ls : Array Bool) (a : Act) (w : World), anyE P md ops Q S E n ls a w → wpAny P md ops Q n ls a w
  | 0, _, _, _, h => h
  | n + 1, _, _, _, h => ⟨h.1, fun i hi => wpOp_mono (fun b u k => any_of_anyE n _ b u k.2) (h.2 i hi)⟩
theorem anyE_first {i : Nat} {o : Oper} {v : Value} (hi : ops[i]? = some o) (hsel : ∀ (j : Nat) (q : Oper) cs b, ops[j]? = some q → q.op ≠ .select cs b) (hQ : ∀ c a w, Q (.panic c) (a.put o.dst v) w → Q (.panic c) a w) (hanc : ∀ j ∈ E, ancB md ops i ops.size j = true) :
    ∀ (n : Nat) (ls : Array Bool) (a : Act) (w : World), clB md ops ls = true → (∀ j q, ops[j]? = some q → j ≠ i → ls.getD j true = false → (∀ e ∈ q.after, Region.binds md e = true → e.on ≠ i) → o.apart ops q = true) →
      i ∈ Region.ready md ops ls → YieldsIf P ops S o v a → S w → anyE P md ops Q S E n (ls.setIfInBounds i true) (a.put o.dst v) w → anyE P md ops Q S E (n + 1) ls a w
  | 0, ls, a, w, _, _, hr, hy, hS, H => by
    refine ⟨fun h => (by rw [h] at hr; cases hr), fun j hj => ?_⟩
    by_cases e : j = i
    · subst e; exact hy.wpOp hi hS ⟨fun _ => hS, H⟩
    · have := ready_mono hj e
      rw [H.1] at this
      cases this
  | n + 1, ls, a, w, hcl, hfr, hr, hy, hS, H => by
    refine ⟨fun h => (by rw [h] at hr; cases hr), fun j hj => ?_⟩
    by_cases e : j = i
    · subst e; exact hy.wpOp hi hS ⟨fun _ => hS, H⟩
    · have h1 := H.2 j (ready_mono hj e)
      obtain ⟨hun, q, hq, hall⟩ := mem_ready.1 hj
      have hiu := (mem_ready.1 hr).1
      have hif : ls.getD i false = false := by
        rcases Nat.lt_or_ge i ls.size with h' | h'
        · simp [h'] at hiu ⊢; exact hiu
        · simp [Array.getElem?_eq_none h']
      have hno : ∀ x ∈ q.after, Region.binds md x = true → x.on ≠ i := fun x hx hb he => by
        have k := hall x hx hb
        rw [he, hif] at k
        cases k
      have hjE : E.contains j = false := by
        cases hc : E.contains j
        · rfl
        · have k := anc_spec hcl ops.size j q hq (hanc j (by simpa using hc)) hall
          rw [hif] at k
          cases k
      have h2 := wpOp_putIf hq (hfr j q hq e hun hno) (fun cs b => hsel i o cs b hi) (fun cs b => hsel j q cs b hq) hQ hy h1
      refine wpOp_mono (fun b u k => ⟨fun _ => k.2.1 hjE, anyE_first hi hsel hQ hanc n (ls.setIfInBounds j true) b u (cl_set hcl hj) ?_ (ready_mono hr (Ne.symm e)) k.1 (k.2.1 hjE) ?_⟩) h2
      · intro k q2 hk hki hun2 hno2
        refine hfr k q2 hk hki ?_ hno2
        by_cases hjk : j = k
        · subst hjk; exact hun
        · rw [getD_set_ne true hjk] at hun2; exact hun2
      · rw [Array.setIfInBounds_comm _ _ e]
        exact k.2.2
theorem anyE_take {i : Nat} {o : Oper} {v : Value} {n : Nat} {ls : Array Bool} {a : Act} {w : World} (hi : ops[i]? = some o) (hs : Region.noSelect ops = true) (hcl : clB md ops ls = true) (hanc : E.all (ancB md ops i ops.size) = true) (hf : Region.free md ops ls i = true) (hr : (Region.ready md ops ls).contains i = true)
    (hQ : ∀ c a w, Q (.panic c) (a.put o.dst v) w → Q (.panic c) a w) (hy : YieldsIf P ops S o v a) (hS : S w) (h : anyE P md ops Q S E n (ls.setIfInBounds i true) (a.put o.dst v) w) : anyE P md ops Q S E (n + 1) ls a w :=
  anyE_first hi (Region.noSelect_spec hs) hQ (fun j hj => List.all_eq_true.1 hanc j hj) n ls a w hcl (Region.free_spec hi hf) (by simpa using hr) hy hS h
theorem anyE_all {rs : List Nat} {n : Nat} {ls : Array Bool} {a : Act} {w : World} (hr : Region.ready md ops ls = rs) (hne : rs ≠ []) (h : ∀ i ∈ rs, wpOp P ops Q i (fun b u => (E.contains i = false → S u) ∧ anyE P md ops Q S E n (ls.setIfInBounds i true) b u) a w) : anyE P md ops Q S E (n + 1) ls a w :=
  ⟨fun h0 => absurd (hr ▸ h0) hne, hr ▸ h⟩
theorem anyE_done {ls : Array Bool} {a : Act} {w : World} (hr : Region.ready md ops ls = []) (h : Q .normal a w) : ∀ n, anyE P md ops Q S E n ls a w
  | 0 => ⟨hr, h⟩
  | _ + 1 => ⟨fun _ => h, by rw [hr]; simp⟩
theorem wp_region_E {id : Nat} {a : Act} {w : World} (S : World → Prop) (E : List Nat) (hm : P.follows .mixedOrders = true) (h : anyE P .any ops Q S E ops.size (Array.replicate ops.size false) a { w with drawn := w.drawn + 1 }) : (Code.region id ops true).wp P Q a w :=
  wp_region_any hm (any_of_anyE _ _ _ _ h)
def ReadyE (P : Program) (md : Region.Mode) (ops : Array Oper) (Q : Exit → Act → World → Prop) (S : World → Prop) (E : List Nat) (n : Nat) (ls : Array Bool) (a : Act) (w : World) (rs : List Nat) : Prop := ∀ i ∈ rs, wpOp P ops Q i (fun b u => (E.contains i = false → S u) ∧ anyE P md ops Q S E n (ls.setIfInBounds i true) b u) a w
theorem ReadyE.nil {n : Nat} {ls : Array Bool} {a : Act} {w : World} : ReadyE P md ops Q S E n ls a w [] := fun _ h => by cases h
theorem ReadyE.cons {n : Nat} {ls : Array Bool} {a : Act} {w : World} {i : Nat} {o : Oper} {rs : List Nat} (ho : ops[i]? = some o) (hw : Region.wanted o (yielded ops a.tmps) = true)
    (h : ∀ K : Act → World → Prop, Shut (∀ b u, (E.contains i = false → S u) → anyE P md ops Q S E n (ls.setIfInBounds i true) b u → K b u) → Oper.wp P o a w K Q) (hs : ReadyE P md ops Q S E n ls a w rs) : ReadyE P md ops Q S E n ls a w (i :: rs) := fun j hj => by
  rcases List.mem_cons.1 hj with rfl | hj
  · exact wpOp_step ho (fun K hK => by rw [if_pos hw]; exact h K (fun b u h1 h2 => hK b u ⟨h1, h2⟩))
  · exact hs j hj
theorem ReadyE.consI {n : Nat} {ls : Array Bool} {a : Act} {w : World} {i : Nat} {o : Oper} {rs : List Nat} (ho : ops[i]? = some o)
    (h : ∀ K : Act → World → Prop, Shut (∀ b u, (E.contains i = false → S u) → anyE P md ops Q S E n (ls.setIfInBounds i true) b u → K b u) → if Region.wanted o (yielded ops a.tmps) = true then Oper.wp P o a w K Q else K (a.put o.dst undef) w) (hs : ReadyE P md ops Q S E n ls a w rs) : ReadyE P md ops Q S E n ls a w (i :: rs) := fun j hj => by
  rcases List.mem_cons.1 hj with rfl | hj
  · exact wpOp_step ho (fun K hK => h K (fun b u h1 h2 => hK b u ⟨h1, h2⟩))
  · exact hs j hj
theorem anyE_ready {rs : List Nat} {n : Nat} {ls : Array Bool} {a : Act} {w : World} (hr : Region.ready md ops ls = rs) (hne : rs ≠ []) (h : ReadyE P md ops Q S E n ls a w rs) : anyE P md ops Q S E (n + 1) ls a w := anyE_all hr hne h
/-- nothing but what is of E is left: S is asked no more -/
theorem anyE_of_any : ∀ (n : Nat) (ls : Array Bool) (a : Act) (w : World), (∀ i, ls.getD i true = false → E.contains i = true) → wpAny P md ops Q n ls a w → anyE P md ops Q S E n ls a w
  | 0, _, _, _, _, h => h
  | n + 1, ls, a, w, hE, h => ⟨h.1, fun i hi => wpOp_mono (fun b u k => ⟨fun hc => (by rw [hE i (mem_ready.1 hi).1] at hc; cases hc), anyE_of_any n _ b u (fun j hj => by
      by_cases e : i = j
      · subst e; exact hE i (mem_ready.1 hi).1
      · rw [getD_set_ne true e] at hj; exact hE j hj) k⟩) (h.2 i hi)⟩
theorem anyE_rest {n : Nat} {ls : Array Bool} {a : Act} {w : World} (hE : ((List.range ls.size).all fun i => ls.getD i true || E.contains i) = true) (h : wpAny P md ops Q n ls a w) : anyE P md ops Q S E n ls a w :=
  anyE_of_any n ls a w (fun i hi => by
    rcases Nat.lt_or_ge i ls.size with hl | hl
    · have := List.all_eq_true.1 hE i (List.mem_range.2 hl)
      rw [hi] at this
      simpa using this
    · simp [Array.getElem?_eq_none hl] at hi) h
/-- the same where the post looks at the frame of a panic: the region panics nowhere -/
theorem wp_region_EQ {id : Nat} {a : Act} {w : World} (S : World → Prop) (E : List Nat) (hm : P.follows .mixedOrders = true) (h : anyE P .any ops (fun e a w => (∀ c, e ≠ .panic c) ∧ Q e a w) S E ops.size (Array.replicate ops.size false) a { w with drawn := w.drawn + 1 }) : (Code.region id ops true).wp P Q a w :=
  wp_mono (wp_region_E S E hm h) (fun e a w h => h.2)
end
end Go.Proofs.YtdddbkghleblhaaGreatDoor.lx
namespace Go.Proofs.YtdddbkghleblhaaGreatDoor.lx
open Go.ChangeShapes Go.WideShapes Go.ChangeAt Go.RowKit
set_option linter.unusedVariables false
attribute [local go_sem] run_store_float
/-! the law's plain: a program's alternatives as the document's -/
theorem info_ralt' : (Tryz.prog.info? 67).map (fun i => (i.zero, i.size, i.bytes)) = some (some (.agg #[.int .i64 0, .float .f64 0, .slice none 0 0]), 3, 40) := by kernel_rfl
theorem one3_ (a : Int) (f : Nat) (ao2 : Option Addr) (m2 c2 : Nat) : ∀ z ∈ [Value.int .i64 a, .float .f64 f, .slice ao2 m2 c2], z.oneCell' = true := by
  intro z hz
  simp at hz
  rcases hz with rfl | rfl | rfl <;> rfl
def PlainT (P : World → (Nat → Prop) → Value → List Altn → Prop) (Sm : List Altn → Prop) : Prop := ∀ (w : World) (A : Nat → Prop) (v : Value) (bs : List Altn), P w A v bs → Sm bs → Calls Tryz.prog 9 #[v] w fun e w' => (∃ v', e = .returned v' ∧ P w' (fun g => w.heap.size ≤ g) v' bs) ∧ Below w.heap.size w w'
theorem ListOf.at2_ {α : Type} {c : Nat} {E : Elem α} {w : World} {A : Nat → Prop} {ao : Option Addr} {cap : Nat} {xs : List α} (h : ListOf c E w A (.slice ao xs.length cap) xs) {k : Nat} {x : α} (hx : xs[k]? = some x) : ∃ g, ao = some ⟨g, 0, none⟩ ∧ g < w.heap.size ∧ ∃ cs, cs.length = c ∧ (∀ j u, cs[j]? = some u → w.cell? ⟨g, k * c + j, none⟩ = some u) ∧ E w A x cs := by
  obtain ⟨_, ao', cap', e, h⟩ := h
  injection e with e1 e2 e3
  subst e1
  obtain ⟨hk, _⟩ := List.getElem?_eq_some_iff.1 hx
  obtain ⟨g, e, hg, _, h5⟩ := h (by omega)
  exact ⟨g, e, hg, h5 k x hx⟩
theorem plain_step {P : World → (Nat → Prop) → Value → List Altn → Prop} (hP : KeepsP P) {wo wr w3 w4 : World} {x1 x2 i g4 cap4 cj Y1 Y2 Y5 cp : Nat} {aj ap : Option Addr} {us : List (List Value)} {xs : List Itm} {Y3 : List UInt8} {Y4 : List Altn} (hi : (xs.take i).length = i) (hy : xs[i]? = some (.mk Y1 Y2 Y3 Y4 Y5))
    (hzr : wo.heap.size + 2 ≤ wr.heap.size) (hbi : Below wo.heap.size wo wr) (hk3 : Below wr.heap.size wr w3) (b6 : Blk wr (wo.heap.size + 1) 67 #[.int .i64 x1, .float .f64 x2, .slice aj i cj])
    (hus1 : us.length = (xs.take i).length) (hus2 : ∀ u ∈ us, u.length = 5) (how : wr.ownsRow (wo.heap.size + 2) 70 5 (.slice aj i cj) i us.flatten)
    (hus4 : ∀ (j : Nat) (x : Itm), (xs.take i)[j]? = some x → ∃ cs, us[j]? = some cs ∧ EItm P wr (fun g => wo.heap.size + 2 ≤ g ∧ some g ≠ (Value.slice aj i cj).ownBlock) x cs)
    (hv3 : P w3 (fun g => wr.heap.size ≤ g) (.slice ap Y4.length cp) Y4)
    (hown4 : w4.ownsRow (wo.heap.size + 2) 70 5 (.slice (some ⟨g4, 0, none⟩) (i + 1) cap4) (i + 1) (us.flatten ++ [.int .i64 Y1, .int .i64 Y2, .string (S Y3), .slice ap Y4.length cp, .int .u8 Y5]))
    (hgrow4 : (w3.alloc (.cells #[.int .i64 Y1, .int .i64 Y2, .string (S Y3), .slice ap Y4.length cp, .int .u8 Y5] 70)).grownBy w4 (Value.slice aj i cj).ownBlock)
    (hat4 : (Value.slice aj i cj).ownBlock = some g4 ∨ w3.heap.size + 1 = g4) :
    Below wo.heap.size wo (w4.setCell ⟨wo.heap.size + 1, 2, none⟩ (.slice (some ⟨g4, 0, none⟩) (i + 1) cap4)) ∧ wo.heap.size + 2 ≤ (w4.setCell ⟨wo.heap.size + 1, 2, none⟩ (.slice (some ⟨g4, 0, none⟩) (i + 1) cap4)).heap.size ∧
    Blk (w4.setCell ⟨wo.heap.size + 1, 2, none⟩ (.slice (some ⟨g4, 0, none⟩) (i + 1) cap4)) (wo.heap.size + 1) 67 #[.int .i64 x1, .float .f64 x2, .slice (some ⟨g4, 0, none⟩) (i + 1) cap4] ∧
    OwnOf 5 (EItm P) 70 (wo.heap.size + 2) (w4.setCell ⟨wo.heap.size + 1, 2, none⟩ (.slice (some ⟨g4, 0, none⟩) (i + 1) cap4)) (.slice (some ⟨g4, 0, none⟩) (i + 1) cap4) (xs.take (i + 1)) := by
  have hlt := how.lt
  have kg := Kp.of_grown hgrow4
  have ka : Kp (fun _ => False) w3 (w3.alloc (.cells #[.int .i64 Y1, .int .i64 Y2, .string (S Y3), .slice ap Y4.length cp, .int .u8 Y5] 70)) := Kp.alloc _ _ _
  have hz3 := hk3.size
  have hz4 : w3.heap.size + 1 ≤ w4.heap.size := by have := kg.size; rw [World.size_alloc] at this; exact this
  have ks := kp_at w4 (wo.heap.size + 1) 2 (.slice (some ⟨g4, 0, none⟩) (i + 1) cap4)
  have hne : some (wo.heap.size + 1) ≠ (Value.slice aj i cj).ownBlock := fun e => by have := (hlt _ e.symm).1; omega
  have d6 := (Blk.grown ((b6.below hk3 (by omega)).alloc _) hgrow4 hne).set_ 2 (.slice (some ⟨g4, 0, none⟩) (i + 1) cap4)
  refine ⟨?_, by simp; omega, d6, ?_⟩
  · exact (hbi.trans ((hk3.mono (by omega)).trans (ka.below (by omega) (fun i h => h.elim)))).trans ((kg.below (by rw [World.size_alloc]; omega) (fun i hi => by have := (hlt i hi).1; omega)).trans (ks.below (by omega) (fun i hi => by have : i = wo.heap.size + 1 := hi; omega)))
  · have e : xs.take (i + 1) = xs.take i ++ [.mk Y1 Y2 Y3 Y4 Y5] := by rw [List.take_add_one, hy]; rfl
    rw [e]
    have h1 := own_more (keepsItm hP) (x := Itm.mk Y1 Y2 Y3 Y4 Y5) (cs := ItmC (.mk Y1 Y2 Y3 Y4 Y5) (.slice ap Y4.length cp)) (v := .slice aj i cj) (v4 := .slice (some ⟨g4, 0, none⟩) (i + 1) cap4) (w4 := w4) hus1 hus2 hus4 (by rw [hi]; exact how) (fun g hg hb => hk3.block g hg) hz3 ⟨_, rfl, hv3⟩ rfl hzr (by rw [hi]; exact hown4) hgrow4 (by
      rcases hat4 with h | h
      · exact .inl h.symm
      · right
        rw [World.size_alloc, ← h]
        rfl)
    exact h1.keep (keepsItm hP) (fun g hg hb => Below.heap_setCell w4 _ _ g (by show g ≠ wo.heap.size + 1; omega)) (by simp)
theorem plain_end {P : World → (Nat → Prop) → Value → List Altn → Prop} (hP : KeepsP P) {w wo wr w6 : World} {x1 x2 k i co9 cj cap6 : Nat} {ao9 aj ao6 : Option Addr} {us : List (List Value)} {xs : List Itm} {bs : List Altn} (hk : (bs.take k).length = k) (hx : bs[k]? = some (x1, x2, xs))
    (hbw : Below w.heap.size w wo) (hbi : Below wo.heap.size wo wr) (hus1 : us.length = (bs.take k).length) (hus2 : ∀ u ∈ us, u.length = 3) (how : wo.ownsRow w.heap.size 67 3 (.slice ao9 k co9) k us.flatten)
    (hus4 : ∀ (j : Nat) (x : Altn), (bs.take k)[j]? = some x → ∃ cs, us[j]? = some cs ∧ EAlt P wo (fun g => w.heap.size ≤ g ∧ some g ≠ (Value.slice ao9 k co9).ownBlock) x cs)
    (hl : ListOf 5 (EItm P) wr (fun g => wo.heap.size + 2 ≤ g) (.slice aj i cj) xs)
    (hown6 : w6.ownsRow w.heap.size 67 3 (.slice ao6 (k + 1) cap6) (k + 1) (us.flatten ++ [.int .i64 x1, .float .f64 x2, .slice aj i cj]))
    (hg6 : (wr.alloc (.cells #[.int .i64 x1, .float .f64 x2, .slice aj i cj] 67)).grownBy w6 (Value.slice ao9 k co9).ownBlock)
    (hat6 : (Value.slice ao6 (k + 1) cap6).ownBlock = (Value.slice ao9 k co9).ownBlock ∨ (Value.slice ao6 (k + 1) cap6).ownBlock = some (wr.alloc (.cells #[.int .i64 x1, .float .f64 x2, .slice aj i cj] 67)).heap.size) :
    Below w.heap.size w w6 ∧ OwnOf 3 (EAlt P) 67 w.heap.size w6 (.slice ao6 (k + 1) cap6) (bs.take (k + 1)) := by
  have hzi := hbi.size
  have hzw := hbw.size
  have kg := Kp.of_grown hg6
  have ka : Kp (fun _ => False) wr (wr.alloc (.cells #[.int .i64 x1, .float .f64 x2, .slice aj i cj] 67)) := Kp.alloc _ _ _
  refine ⟨(hbw.trans (hbi.mono hzw)).trans ((ka.below (by omega) (fun i h => h.elim)).trans (kg.below (by rw [World.size_alloc]; omega) (fun i hi => (how.lt i hi).1))), ?_⟩
  have e : bs.take (k + 1) = bs.take k ++ [(x1, x2, xs)] := by rw [List.take_add_one, hx]; rfl
  rw [e]
  exact own_more (keepsAlt hP) (x := (x1, x2, xs)) (cs := AltC (x1, x2, xs) (.slice aj i cj)) (v := .slice ao9 k co9) (v4 := .slice ao6 (k + 1) cap6) (wr := wo) (w3 := wr) hus1 hus2 hus4 (by rw [hk]; exact how) (fun g hg _ => hbi.block g hg) hzi
    ⟨_, rfl, hl.keep (keepsItm hP) (fun g hg hA => ⟨by have hA : wo.heap.size + 2 ≤ g := hA; omega, rfl⟩) (Nat.le_refl _)⟩ rfl hzw (by rw [hk]; exact hown6) hg6 hat6
set_option maxRecDepth 100000 in
set_option maxHeartbeats 8000000 in
theorem plain_list (P : World → (Nat → Prop) → Value → List Altn → Prop) (hP : KeepsP P) (hF : ∀ (w : World) (A : Nat → Prop) (v : Value) (bs : List Altn), P w A v bs → ∃ ao cap, v = .slice ao bs.length cap) (Sm : List Altn → Prop) (hrec : PlainT P Sm) : PlainT (fun w A v bs => ListOf 3 (EAlt P) w A v bs) (fun bs => bs.length ≤ 70000 ∧ ∀ (j : Nat) (x : Altn), bs[j]? = some x → x.2.2.length ≤ 70000 ∧ ∀ (i : Nat) (y : Itm), x.2.2[i]? = some y → Sm y.alts) := by
  intro w A v bs h1 hsm
  have hl7 := hsm.1
  have HSM := Lib.hid hsm
  clear hsm
  obtain ⟨ao, cap, rfl⟩ := ListOf.form h1
  have hl := h1.1
  unfold maxLen at hl
  have H1 := Lib.hid h1
  have HP := Lib.hid hP
  have HC := Lib.hid hrec
  have HF := Lib.hid hF
  generalize hn : bs.length = n at *
  have HN := Lib.hid hn
  clear h1 hrec hP hF hn
  go_enter Tryz.func9, Tryz.ntmps9
  go_wp2_with fail
  have hol : OwnOf 3 (EAlt P) 67 w.heap.size (w.alloc (.cells #[] 67)) (.slice (some ⟨w.heap.size, 0, none⟩) 0 0) (bs.take 0) := by
    have h1 := World.ownsRow_lit (base := w.heap.size) (e := 67) (size := 3) w #[] 0 (Nat.le_refl _) (by decide) (by simp)
    exact ⟨[], by simp, by simp, h1, by simp⟩
  have HOL := Lib.hid hol
  have HB0 : Hid (Below w.heap.size w (w.alloc (.cells #[] 67))) := Lib.hid ((Below.refl _ _).alloc (Nat.le_refl _) _)
  clear hol
  go_loopw [3, 12] (fun lv i wr => ∃ (k : Nat) (v3 : Value), i = .int .i64 k ∧ v3 = lv ∧ k ≤ n ∧ Below w.heap.size w wr ∧ OwnOf 3 (EAlt P) 67 w.heap.size wr v3 (bs.take k)) (fun _ i _ => n - (intOf i).toNat)
  case atStart => exact ⟨0, _, rfl, rfl, Nat.zero_le _, HB0.out, HOL.out⟩
  case round =>
    clear HB0 HOL
    obtain ⟨k, v3, rfl, rfl, hk, hbr, ho⟩ := hrel
    have HBR := Lib.hid hbr
    have HO := Lib.hid ho
    have hzr := hbr.size
    by_cases hlt : k < n
    · obtain ⟨x, hx⟩ : ∃ x, bs[k]? = some x := ⟨_, List.getElem?_eq_getElem (by rw [HN.out]; exact hlt)⟩
      obtain ⟨g, rfl, hg, cs, _, hcs, iv, rfl, hiv⟩ := ListOf.at2_ (by rw [HN.out]; exact H1.out) hx
      obtain ⟨ai, ci, rfl⟩ := hiv.form
      have HX := Lib.hid hx
      have HIV := Lib.hid hiv
      have hm := hiv.1
      have hsx := HSM.out.2 k x hx
      have hm7 := hsx.1
      have HSX := Lib.hid hsx
      clear hsx
      obtain ⟨x1, x2, xs⟩ := x
      replace hm7 : xs.length ≤ 70000 := hm7
      have c0 : wr.cell? ⟨g, k * 3, none⟩ = some (.int .i64 x1) := (hbr.cell (p := ⟨g, k * 3, none⟩) hg).trans (hcs 0 _ rfl)
      have c1 : wr.cell? ⟨g, k * 3 + 1, none⟩ = some (.float .f64 x2) := (hbr.cell (p := ⟨g, k * 3 + 1, none⟩) hg).trans (hcs 1 _ rfl)
      have c2 : wr.cell? ⟨g, k * 3 + 2, none⟩ = some (.slice ai xs.length ci) := (hbr.cell (p := ⟨g, k * 3 + 2, none⟩) hg).trans (hcs 2 _ rfl)
      have hm : xs.length ≤ maxLen := hm
      unfold maxLen at hm
      generalize hms : xs.length = m at *
      have HMS := Lib.hid hms
      clear hiv hcs hx H1 hbr ho hms
      go_upto_region 6 with fail
      have he := entry2 wr #[.int .i64 x1, .float .f64 x2, .slice ai m ci] #[.int .i64 x1, .float .f64 x2, .slice none 0 0] 45 67
      obtain ⟨wo, rfl⟩ : ∃ wo, wo = wr := ⟨_, rfl⟩
      clear c0 c1 c2
      generalize (wo.alloc (.cells #[.int .i64 x1, .float .f64 x2, .slice ai m ci] 45)).alloc (.cells #[.int .i64 x1, .float .f64 x2, .slice none 0 0] 67) = w6 at *
      obtain ⟨hb6, hz6, b5, b6⟩ := he
      have HB6 := Lib.hid hb6
      have HS : Hid (w6.heap.size = wo.heap.size + 2 ∧ Blk w6 (wo.heap.size + 1) 67 #[.int .i64 x1, .float .f64 x2, .slice none 0 0]) := Lib.hid ⟨hz6, b6⟩
      have q2 : w6.cell? ⟨wo.heap.size, 2, none⟩ = some (.slice ai m ci) := b5.cell 2
      have l5 := b5.lt
      clear hb6 b5 b6 hz6
      go_wp2_with fail
      clear q2 l5
      go_loopw [24] (fun j wi => ∃ (i : Nat) (jv : Value), j = .int .i64 i ∧ i ≤ m ∧ Below wo.heap.size wo wi ∧ wo.heap.size + 2 ≤ wi.heap.size ∧ Blk wi (wo.heap.size + 1) 67 #[.int .i64 x1, .float .f64 x2, jv] ∧ OwnOf 5 (EItm P) 70 (wo.heap.size + 2) wi jv (xs.take i)) (fun j _ => m - (intOf j).toNat)
      case atStart => exact ⟨0, _, rfl, Nat.zero_le _, HB6.out, by rw [HS.out.1]; omega, HS.out.2, by rw [List.take_zero]; exact OwnOf.nil _ _ _⟩
      case round =>
        clear HS HB6
        obtain ⟨i, jv, rfl, hi, hbi, hzi, b6, hoi⟩ := hrel
        obtain ⟨aj, cj, rfl⟩ : ∃ ao cap, jv = .slice ao (xs.take i).length cap := by
          obtain ⟨us, _, _, h3, _⟩ := hoi
          exact own_form h3
        have htk : (xs.take i).length = i := by rw [List.length_take, HMS.out]; omega
        have HBI := Lib.hid hbi
        have HB6 := Lib.hid b6
        have HOI := Lib.hid hoi
        by_cases hli : i < m
        · obtain ⟨y, hy⟩ : ∃ y, xs[i]? = some y := ⟨_, List.getElem?_eq_getElem (by rw [HMS.out]; exact hli)⟩
          obtain ⟨g3, rfl, hg3, cs3, _, hcs3, av, rfl, hav⟩ := ListOf.at2_ (by rw [HMS.out]; exact HIV.out) hy
          obtain ⟨ay, cy, rfl⟩ := HF.out _ _ _ _ hav
          have hbw := HBR.out.trans (hbi.mono hzr)
          have e0 : wr.cell? ⟨g3, i * 5, none⟩ = some (.int .i64 y.at_) := (hbw.cell (p := ⟨g3, i * 5, none⟩) hg3).trans (hcs3 0 _ rfl)
          have e1 : wr.cell? ⟨g3, i * 5 + 1, none⟩ = some (.int .i64 y.kind) := (hbw.cell (p := ⟨g3, i * 5 + 1, none⟩) hg3).trans (hcs3 1 _ rfl)
          have e2 : wr.cell? ⟨g3, i * 5 + 2, none⟩ = some (.string (S y.text)) := (hbw.cell (p := ⟨g3, i * 5 + 2, none⟩) hg3).trans (hcs3 2 _ rfl)
          have e3 : wr.cell? ⟨g3, i * 5 + 3, none⟩ = some (.slice ay y.alts.length cy) := (hbw.cell (p := ⟨g3, i * 5 + 3, none⟩) hg3).trans (hcs3 3 _ rfl)
          have e4 : wr.cell? ⟨g3, i * 5 + 4, none⟩ = some (.int .u8 y.op) := (hbw.cell (p := ⟨g3, i * 5 + 4, none⟩) hg3).trans (hcs3 4 _ rfl)
          have HAV := Lib.hid hav
          have HY := Lib.hid hy
          have HSY := Lib.hid (HSX.out.2 i y hy)
          clear hav hcs3 hy hbw hbi b6 hoi
          obtain ⟨Y1, Y2, Y3, Y4, Y5⟩ := y
          simp only [Itm.at_, Itm.kind, Itm.text, Itm.alts, Itm.op] at e0 e1 e2 e3 e4 HAV HSY
          go_upto_region 9 with fail
          have b8 := Blk.new wr 47 #[.int .i64 Y1, .int .i64 Y2, .string (S Y3), .slice ay Y4.length cy, .int .u8 Y5]
          have hb9 : Below wr.heap.size wr (wr.alloc (.cells #[.int .i64 Y1, .int .i64 Y2, .string (S Y3), .slice ay Y4.length cy, .int .u8 Y5] 47)) := (Below.refl _ _).alloc (Nat.le_refl _) _
          clear e0 e1 e2 e3 e4
          generalize wr.alloc (.cells #[.int .i64 Y1, .int .i64 Y2, .string (S Y3), .slice ay Y4.length cy, .int .u8 Y5] 47) = w9 at *
          have hz9 := hb9.size
          have hbw9 : Below w.heap.size w w9 := (HBR.out.trans (HBI.out.mono hzr)).trans (hb9.mono (by have := HBI.out.size; omega))
          have hit : ∀ wx, Qt w9 wx → Calls Tryz.prog 9 #[.slice ay Y4.length cy] wx fun e w3 => ∃ (ap : Option Addr) (cp : Nat), e = .returned (.slice ap Y4.length cp) ∧ P w3 (fun g => wr.heap.size ≤ g) (.slice ap Y4.length cp) Y4 ∧ Below w9.heap.size w9 w3 := fun wx hq => by
            have hbq : Below w9.heap.size w9 wx := hq.below (B := w9.heap.size)
            have hbx := hbw9.trans (hbq.mono hbw9.size)
            refine (HC.out wx _ _ Y4 (HP.out _ _ _ _ _ _ HAV.out (fun g hg hA => ⟨hA, hbx.block g hg⟩) hbx.size) HSY.out).mono ?_
            rintro e w3 ⟨⟨v', rfl, hv'⟩, hb'⟩
            obtain ⟨ap, cp, rfl⟩ := HF.out _ _ _ _ hv'
            exact ⟨ap, cp, rfl, HP.out _ _ _ _ _ _ hv' (fun g hg hA => ⟨by have : wx.heap.size ≤ g := hA; have := hbq.size; omega, rfl⟩) (Nat.le_refl _), hbq.trans (hb'.mono hbq.size)⟩
          have HIT := Lib.hid hit
          have HB9 := Lib.hid hb9
          obtain ⟨us, hus1, hus2, how, hus4⟩ := HOI.out
          rw [htk] at how
          rw [htk] at hus4
          have HOW := Lib.hid how
          have HU1 := Lib.hid hus1
          have HU2 := Lib.hid hus2
          have HU4 := Lib.hid hus4
          rw [htk] at HB6
          have HB69 := Lib.hid (HB6.out.below hb9 HB6.out.lt)
          have HI9 := Lib.hid b8
          have m0 : w9.cell? ⟨wr.heap.size, 0, none⟩ = some (.int .i64 Y1) := b8.cell 0
          have m1 : w9.cell? ⟨wr.heap.size, 1, none⟩ = some (.int .i64 Y2) := b8.cell 1
          have m2 : w9.cell? ⟨wr.heap.size, 2, none⟩ = some (.string (S Y3)) := b8.cell 2
          have m3 : w9.cell? ⟨wr.heap.size, 3, none⟩ = some (.slice ay Y4.length cy) := b8.cell 3
          have m4 : w9.cell? ⟨wr.heap.size, 4, none⟩ = some (.int .u8 Y5) := b8.cell 4
          have hc9 : w9.cell? ⟨wo.heap.size + 1, 2, none⟩ = some (.slice aj (xs.take i).length cj) := by rw [htk]; exact HB69.out.cell 2
          have hl9 := HB69.out.lt
          have hl8 := b8.lt
          rw [htk] at hc9
          clear hit hb9 b8 hbw9 hus1 hus2 how hus4 HOI
          obtain ⟨i1, ki, kz0, kz1, kz2⟩ := info_parts info_ritem
          refine wp_region_E (fun W => Below w9.heap.size w9 W) [15, 16, 17] (by kernel_rfl) ?_
          change anyE _ _ _ _ _ _ _ _ _ (World.drew _)
          have HS : Below w9.heap.size w9 (World.drew w9) := (Below.refl _ _).drew
          refine anyE_take (i := 0) (v := ?_) rfl (by kernel_rfl) (by kernel_rfl) (by kernel_rfl) (by kernel_rfl) (by kernel_rfl) (fun _ _ _ h => h) (Or.inl ⟨by kernel_rfl, ?_⟩) HS ?_
          rotate_left
          · intro w _; go_simp; with_reducible rfl
          refine anyE_take (i := 1) (v := ?_) rfl (by kernel_rfl) (by kernel_rfl) (by kernel_rfl) (by kernel_rfl) (by kernel_rfl) (fun _ _ _ h => h) (Or.inl ⟨by kernel_rfl, ?_⟩) HS ?_
          rotate_left
          · intro w hw; have hw := (hw.cell (p := ⟨wo.heap.size + 1, 2, none⟩) hl9).trans hc9; go_simp; with_reducible rfl
          refine anyE_take (i := 2) (v := ?_) rfl (by kernel_rfl) (by kernel_rfl) (by kernel_rfl) (by kernel_rfl) (by kernel_rfl) (fun _ _ _ h => h) (Or.inl ⟨by kernel_rfl, ?_⟩) HS ?_
          rotate_left
          · intro w _; go_simp; with_reducible rfl
          refine anyE_take (i := 3) (v := ?_) rfl (by kernel_rfl) (by kernel_rfl) (by kernel_rfl) (by kernel_rfl) (by kernel_rfl) (fun _ _ _ h => h) (Or.inl ⟨by kernel_rfl, ?_⟩) HS ?_
          rotate_left
          · intro w hw; have hw := (hw.cell (p := ⟨wr.heap.size, 0, none⟩) hl8).trans m0; go_simp; with_reducible rfl
          refine anyE_take (i := 4) (v := ?_) rfl (by kernel_rfl) (by kernel_rfl) (by kernel_rfl) (by kernel_rfl) (by kernel_rfl) (fun _ _ _ h => h) (Or.inl ⟨by kernel_rfl, ?_⟩) HS ?_
          rotate_left
          · intro w _; go_simp; with_reducible rfl
          refine anyE_take (i := 5) (v := ?_) rfl (by kernel_rfl) (by kernel_rfl) (by kernel_rfl) (by kernel_rfl) (by kernel_rfl) (fun _ _ _ h => h) (Or.inl ⟨by kernel_rfl, ?_⟩) HS ?_
          rotate_left
          · intro w hw; have hw := (hw.cell (p := ⟨wr.heap.size, 1, none⟩) hl8).trans m1; go_simp; with_reducible rfl
          refine anyE_take (i := 6) (v := ?_) rfl (by kernel_rfl) (by kernel_rfl) (by kernel_rfl) (by kernel_rfl) (by kernel_rfl) (fun _ _ _ h => h) (Or.inl ⟨by kernel_rfl, ?_⟩) HS ?_
          rotate_left
          · intro w _; go_simp; with_reducible rfl
          refine anyE_take (i := 7) (v := ?_) rfl (by kernel_rfl) (by kernel_rfl) (by kernel_rfl) (by kernel_rfl) (by kernel_rfl) (fun _ _ _ h => h) (Or.inl ⟨by kernel_rfl, ?_⟩) HS ?_
          rotate_left
          · intro w hw; have hw := (hw.cell (p := ⟨wr.heap.size, 2, none⟩) hl8).trans m2; go_simp; with_reducible rfl
          refine anyE_take (i := 8) (v := ?_) rfl (by kernel_rfl) (by kernel_rfl) (by kernel_rfl) (by kernel_rfl) (by kernel_rfl) (fun _ _ _ h => h) (Or.inl ⟨by kernel_rfl, ?_⟩) HS ?_
          rotate_left
          · intro w _; go_simp; with_reducible rfl
          refine anyE_take (i := 9) (v := ?_) rfl (by kernel_rfl) (by kernel_rfl) (by kernel_rfl) (by kernel_rfl) (by kernel_rfl) (fun _ _ _ h => h) (Or.inl ⟨by kernel_rfl, ?_⟩) HS ?_
          rotate_left
          · intro w hw; have hw := (hw.cell (p := ⟨wr.heap.size, 4, none⟩) hl8).trans m4; go_simp; with_reducible rfl
          refine anyE_take (i := 10) (v := ?_) rfl (by kernel_rfl) (by kernel_rfl) (by kernel_rfl) (by kernel_rfl) (by kernel_rfl) (fun _ _ _ h => h) (Or.inl ⟨by kernel_rfl, ?_⟩) HS ?_
          rotate_left
          · intro w _; go_simp; with_reducible rfl
          refine anyE_take (i := 11) (v := ?_) rfl (by kernel_rfl) (by kernel_rfl) (by kernel_rfl) (by kernel_rfl) (by kernel_rfl) (fun _ _ _ h => h) (Or.inl ⟨by kernel_rfl, ?_⟩) HS ?_
          rotate_left
          · intro w hw; have hw := (hw.cell (p := ⟨wr.heap.size, 3, none⟩) hl8).trans m3; go_simp; with_reducible rfl
          refine anyE_ready (rs := [12]) (by kernel_rfl) (by simp) ?_
          refine ReadyE.cons rfl (by kernel_rfl) (fun K hK => ?_) ReadyE.nil
          go_simp
          go_at_call 9
          refine (HIT.out _ ⟨1, rfl⟩).mono ?_
          rintro e w3 ⟨ap, cp, rfl, hv3, hk3⟩
          refine hK.out _ _ (fun _ => hk3) ?_
          clear hK K
          refine anyE_take (i := 13) (v := ?_) rfl (by kernel_rfl) (by kernel_rfl) (by kernel_rfl) (by kernel_rfl) (by kernel_rfl) (fun _ _ _ h => h) (Or.inl ⟨by kernel_rfl, ?_⟩) hk3 ?_
          rotate_left
          · intro w _; go_simp; with_reducible rfl
          refine anyE_ready (rs := [14]) (by kernel_rfl) (by simp) ?_
          refine ReadyE.cons rfl (by kernel_rfl) (fun K hK => ?_) ReadyE.nil
          go_simp
          refine hK.out _ _ (fun _ => hk3.alloc hk3.size _) ?_
          clear hK K
          refine anyE_rest (by kernel_rfl) ?_
          have hB3 := HB69.out.below hk3 HB69.out.lt
          have hb93 := HB9.out.trans (hk3.mono hz9)
          have hz3 := hb93.size
          have how3 := ownsRow_keep HOW.out (fun g hg hv => hb93.block g hg)
          refine wpAny_ready (rs := [15]) (by kernel_rfl) (by simp) ?_
          refine AllReady.cons rfl (fun K hK => ?_) AllReady.nil
          refine step_append_lies _ (by rfl) (.tmp 29) (.tmp 42) 65 (by rfl) (wo.heap.size + 2) 70 i1 (.agg #[.int .i64 0, .int .i64 0, .string ⟨#[]⟩, .slice none 0 0, .int .u8 0]) 5 64 Tryz.underlying65 ki kz0 kz1 kz2 (by rfl) (by decide) (.slice aj i cj) i us.flatten (by rfl) (how3.alloc _) ⟨w3.heap.size, 0, none⟩ 1 1 [.int .i64 Y1, .int .i64 Y2, .string (S Y3), .slice ap Y4.length cp, .int .u8 Y5] (by rfl) (by rfl) (new_cells _ _ _) (one5 _ _ _ _ _ _ _) (by decide) (by unfold maxLen; omega) (by omega) (by rw [World.size_alloc]; omega) (w3.heap.size + 1) (World.size_alloc _ _) ?_
          intro g4 cap4 w4 hown4 hgrow4 hat4 hlt4
          have hB4 := (hB3.alloc (.cells #[.int .i64 Y1, .int .i64 Y2, .string (S Y3), .slice ap Y4.length cp, .int .u8 Y5] 70)).grown hgrow4 (own_apart HOW.out (by omega))
          have hc4 := hB4.cell 2
          have hf4 := hB4.frozen 2
          have hl4 := hB4.lt
          refine hK _ _ ?_
          clear hK K
          refine wpAny_ready (rs := [16]) (by kernel_rfl) (by simp) ?_
          refine AllReady.cons rfl (fun K hK => ?_) AllReady.nil
          go_simp
          refine hK _ _ ?_
          clear hK K
          refine wpAny_ready (rs := [17]) (by kernel_rfl) (by simp) ?_
          refine AllReady.cons rfl (fun K hK => ?_) AllReady.nil
          go_simp
          refine hK _ _ ?_
          clear hK K
          refine wpAny_done (by kernel_rfl) ?_ _
          go_wp2
          have hst := plain_step (x1 := x1) (x2 := x2) (Y1 := Y1) (Y2 := Y2) (Y5 := Y5) (cp := cp) (Y3 := Y3) (Y4 := Y4) (ap := ap) (cj := cj) (aj := aj) (xs := xs) (i := i) (us := us) HP.out htk HY.out hzi HBI.out hb93 HB6.out (HU1.out.trans rfl) HU2.out HOW.out HU4.out hv3 hown4 hgrow4 (hat4.imp id Eq.symm)
          exact ⟨⟨i + 1, _, by go_num, hli, hst.1, hst.2.1, hst.2.2.1, hst.2.2.2⟩, by simp only [intOf]; omega⟩
        · obtain rfl : i = m := by omega
          rw [htk] at HB6 HOI
          have hlr : xs.take i = xs := List.take_of_length_le (by rw [HMS.out]; exact Nat.le_refl _)
          have HLX : Hid (ListOf 5 (EItm P) wr (fun g => wo.heap.size + 2 ≤ g) (.slice aj i cj) xs) := Lib.hid (by have h9 := OwnOf.done (keepsItm HP.out) HOI.out; rw [hlr] at h9; exact h9)
          have hz2 := HBI.out.size
          have HWO := Lib.hid (HBR.out.trans (HBI.out.mono (by omega)))
          obtain ⟨us, hus1, hus2, how, hus4⟩ := HO.out
          obtain ⟨ao9, co9, rfl⟩ : ∃ ao cap, v3 = .slice ao (bs.take k).length cap := own_form how
          have htk9 : (bs.take k).length = k := by rw [List.length_take, HN.out]; omega
          rw [htk9] at how
          rw [htk9] at hus4
          have HOW := Lib.hid how
          have HOWR := Lib.hid (ownsRow_keep how (fun g hg hv => HBI.out.block g hg))
          have HU1 := Lib.hid hus1
          have HU2 := Lib.hid hus2
          have HU4 := Lib.hid hus4
          have l6 := b6.lt
          have c0 : wr.cell? ⟨wo.heap.size + 1, 0, none⟩ = some (.int .i64 x1) := b6.cell 0
          have c1 : wr.cell? ⟨wo.heap.size + 1, 1, none⟩ = some (.float .f64 x2) := b6.cell 1
          have c2 : wr.cell? ⟨wo.heap.size + 1, 2, none⟩ = some (.slice aj i cj) := by rw [← htk]; exact b6.cell 2
          clear how hus1 hus2 hus4 b6 hoi hbi HB6 HOI HO
          rw [htk9]
          obtain ⟨i1, ki, kz0, kz1, kz2⟩ := info_parts info_ralt'
          go_wp2_with (at_builtin; refine wpList_append_own_at _ rfl _ _ 35 rfl w.heap.size 67 i1 (.agg #[.int .i64 0, .float .f64 0, .slice none 0 0]) 3 40 Tryz.underlying35 ki kz0 kz1 kz2 rfl (by decide) _ k us.flatten rfl (HOWR.out.alloc _) ⟨wr.heap.size, 0, none⟩ 1 1 [.int .i64 x1, .float .f64 x2, .slice aj i cj] rfl rfl (new_cells _ _ _) (one3_ _ _ _ _ _) (by unfold maxLen; omega) (by omega) (by rw [World.size_alloc]; omega) ?_; intro v6 w6 hown6 hg6 _ hat6; obtain ⟨ao6, cap6, rfl⟩ := own_form hown6)
          have hst := plain_end HP.out htk9 HX.out HBR.out HBI.out HU1.out HU2.out HOW.out HU4.out HLX.out hown6 hg6 hat6
          exact ⟨⟨k + 1, _, by go_num, rfl, hlt, hst.1, hst.2⟩, by simp only [intOf]; omega⟩
    · obtain rfl : k = n := by omega
      have HL := Lib.hid (OwnOf.done (keepsAlt HP.out) HO.out)
      rw [← HN.out, List.take_length] at HL
      clear ho
      go_wp2_with fail
      go_ret
      exact ⟨⟨_, rfl, HL.out⟩, HBR.out⟩
end Go.Proofs.YtdddbkghleblhaaGreatDoor.lx

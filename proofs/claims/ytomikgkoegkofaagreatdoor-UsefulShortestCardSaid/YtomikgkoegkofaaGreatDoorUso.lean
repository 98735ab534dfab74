import Derived.Deep.RegionHeld
import Derived.Test.YtomikgkoegkofaaGreatDoorUsn
namespace Go.Proofs.YtomikgkoegkofaaGreatDoor.dv
set_option linter.unusedVariables false
set_option linter.unusedSimpArgs false
/-! a region that draws: what is read is read ahead of what is written at its end (the numbers E): S is kept by all others alone -/
section
variable {P : Program} {ops : Array Oper} {Q : Exit → Act → World → Prop} {md : Region.Mode} {S : World → Prop} {E : List Nat}
/-- what has come up, had all come up that it waits for -/
def clB (md : Region.Mode) (ops : Array Oper) (ls : Array Bool) : Bool := (List.range ops.size).all fun j => !ls.getD j false || match ops[j]? with
  | some q => q.after.all fun x => !Region.binds md x || ls.getD x.on false
  | none => true
/-- j waits for i -/
def ancB (md : Region.Mode) (ops : Array Oper) (i : Nat) : Nat → Nat → Bool
  | 0, _ => false
  | n + 1, j => match ops[j]? with
    | some q => q.after.any fun x => Region.binds md x && (x.on == i || ancB md ops i n x.on)
    | none => false
theorem cl_spec {ls : Array Bool} (h : clB md ops ls = true) {j : Nat} {q : Oper} (hq : ops[j]? = some q) (hj : ls.getD j false = true) : ∀ x ∈ q.after, Region.binds md x = true → ls.getD x.on false = true := fun x hx hb => by
  unfold clB at h
  rw [List.all_eq_true] at h
  have k := h j (List.mem_range.2 (Array.getElem?_eq_some_iff.1 hq).1)
  rw [hj, hq] at k
  simp only [Bool.not_true, Bool.false_or] at k
  have k2 := (Array.all_eq_true_iff_forall_mem.1 k) x hx
  rw [hb] at k2
  simpa using k2
theorem anc_spec {ls : Array Bool} (h : clB md ops ls = true) {i : Nat} : ∀ (n j : Nat) (q : Oper), ops[j]? = some q → ancB md ops i n j = true → (∀ x ∈ q.after, Region.binds md x = true → ls.getD x.on false = true) → ls.getD i false = true
  | 0, _, _, _, k, _ => by cases k
  | n + 1, j, q, hq, k, hall => by
    unfold ancB at k
    rw [hq] at k
    simp only at k
    obtain ⟨x, hx, hb⟩ := Array.any_eq_true'.1 k
    simp only [Bool.and_eq_true, Bool.or_eq_true, beq_iff_eq] at hb
    have h1 := hall x hx hb.1
    rcases hb.2 with e | e
    · rw [← e]; exact h1
    · cases hx2 : ops[x.on]? with
      | none =>
        cases n with
        | zero => cases e
        | succ n => unfold ancB at e; rw [hx2] at e; cases e
      | some q2 => exact anc_spec h n x.on q2 hx2 e (cl_spec h hx2 h1)
theorem cl_set {ls : Array Bool} (h : clB md ops ls = true) {j : Nat} (hj : j ∈ Region.ready md ops ls) : clB md ops (ls.setIfInBounds j true) = true := by
  obtain ⟨_, q, hq, hall⟩ := mem_ready.1 hj
  unfold clB
  rw [List.all_eq_true]
  intro k hk
  cases hk2 : ops[k]? with
  | none => simp
  | some r =>
    by_cases e : j = k
    · subst e
      rw [hq] at hk2
      cases hk2
      simp only [Bool.or_eq_true]
      right
      rw [Array.all_eq_true_iff_forall_mem]
      intro x hx
      cases hb : Region.binds md x
      · rfl
      · simpa using getD_set_true (hall x hx hb)
    · rw [getD_set_ne false e]
      cases hl : ls.getD k false
      · rfl
      · simp only [Bool.or_eq_true]
        right
        rw [Array.all_eq_true_iff_forall_mem]
        intro x hx
        cases hb : Region.binds md x
        · rfl
        · simpa using getD_set_true (cl_spec h hk2 hl x hx hb)
def anyE (P : Program) (md : Region.Mode) (ops : Array Oper) (Q : Exit → Act → World → Prop) (S : World → Prop) (E : List Nat) : Nat → Array Bool → Act → World → Prop
  | 0, ls, a, w => Region.ready md ops ls = [] ∧ Q .normal a w
  | n + 1, ls, a, w => (Region.ready md ops ls = [] → Q .normal a w) ∧ ∀ i ∈ Region.ready md ops ls, wpOp P ops Q i (fun b u => (E.contains i = false → S u) ∧ anyE P md ops Q S E n (ls.setIfInBounds i true) b u) a w
theorem any_of_anyE : ∀ (n : Nat) (ls : Array Bool) (a : Act) (w : World), anyE P md ops Q S E n ls a w → wpAny P md ops Q n ls a w
  | 0, _, _, _, h => h
  | n + 1, _, _, _, h => ⟨h.1, fun i hi => wpOp_mono (fun b u k => any_of_anyE n _ b u k.2) (h.2 i hi)⟩
theorem anyE_first {i : Nat} {o : Oper} {v : Value} (hi : ops[i]? = some o) (hsel : ∀ (j : Nat) (q : Oper) cs b, ops[j]? = some q → q.op ≠ .select cs b) (hQ : ∀ c a w, Q (.panic c) (a.put o.dst v) w → Q (.panic c) a w) (hanc : ∀ j ∈ E, ancB md ops i ops.size j = true) :
    ∀ (n : Nat) (ls : Array Bool) (a : Act) (w : World), clB md ops ls = true → (∀ j q, ops[j]? = some q → j ≠ i → ls.getD j true = false → (∀ e ∈ q.after, Region.binds md e = true → e.on ≠ i) → o.apart ops q = true) →
      i ∈ Region.ready md ops ls → YieldsIf P ops S o v a → S w → anyE P md ops Q S E n (ls.setIfInBounds i true) (a.put o.dst v) w → anyE P md ops Q S E (n + 1) ls a w
  | 0, ls, a, w, _, _, hr, hy, hS, H => by
    refine ⟨fun h => (by rw [h] at hr; cases hr), fun j hj => ?_⟩
    by_cases e : j = i
    · subst e; exact hy.wpOp hi hS ⟨fun _ => hS, H⟩
    · have := ready_mono hj e
      rw [H.1] at this
      cases this
  | n + 1, ls, a, w, hcl, hfr, hr, hy, hS, H => by
    refine ⟨fun h => (by rw [h] at hr; cases hr), fun j hj => ?_⟩
    by_cases e : j = i
    · subst e; exact hy.wpOp hi hS ⟨fun _ => hS, H⟩
    · have h1 := H.2 j (ready_mono hj e)
      obtain ⟨hun, q, hq, hall⟩ := mem_ready.1 hj
      have hiu := (mem_ready.1 hr).1
      have hif : ls.getD i false = false := by
        rcases Nat.lt_or_ge i ls.size with h' | h'
        · simp [h'] at hiu ⊢; exact hiu
        · simp [Array.getElem?_eq_none h']
      have hno : ∀ x ∈ q.after, Region.binds md x = true → x.on ≠ i := fun x hx hb he => by
        have k := hall x hx hb
        rw [he, hif] at k
        cases k
      have hjE : E.contains j = false := by
        cases hc : E.contains j
        · rfl
        · have k := anc_spec hcl ops.size j q hq (hanc j (by simpa using hc)) hall
          rw [hif] at k
          cases k
      have h2 := wpOp_putIf hq (hfr j q hq e hun hno) (fun cs b => hsel i o cs b hi) (fun cs b => hsel j q cs b hq) hQ hy h1
      refine wpOp_mono (fun b u k => ⟨fun _ => k.2.1 hjE, anyE_first hi hsel hQ hanc n (ls.setIfInBounds j true) b u (cl_set hcl hj) ?_ (ready_mono hr (Ne.symm e)) k.1 (k.2.1 hjE) ?_⟩) h2
      · intro k q2 hk hki hun2 hno2
        refine hfr k q2 hk hki ?_ hno2
        by_cases hjk : j = k
        · subst hjk; exact hun
        · rw [getD_set_ne true hjk] at hun2; exact hun2
      · rw [Array.setIfInBounds_comm _ _ e]
        exact k.2.2
theorem anyE_take {i : Nat} {o : Oper} {v : Value} {n : Nat} {ls : Array Bool} {a : Act} {w : World} (hi : ops[i]? = some o) (hs : Region.noSelect ops = true) (hcl : clB md ops ls = true) (hanc : E.all (ancB md ops i ops.size) = true) (hf : Region.free md ops ls i = true) (hr : (Region.ready md ops ls).contains i = true)
    (hQ : ∀ c a w, Q (.panic c) (a.put o.dst v) w → Q (.panic c) a w) (hy : YieldsIf P ops S o v a) (hS : S w) (h : anyE P md ops Q S E n (ls.setIfInBounds i true) (a.put o.dst v) w) : anyE P md ops Q S E (n + 1) ls a w :=
  anyE_first hi (Region.noSelect_spec hs) hQ (fun j hj => List.all_eq_true.1 hanc j hj) n ls a w hcl (Region.free_spec hi hf) (by simpa using hr) hy hS h
theorem anyE_all {rs : List Nat} {n : Nat} {ls : Array Bool} {a : Act} {w : World} (hr : Region.ready md ops ls = rs) (hne : rs ≠ []) (h : ∀ i ∈ rs, wpOp P ops Q i (fun b u => (E.contains i = false → S u) ∧ anyE P md ops Q S E n (ls.setIfInBounds i true) b u) a w) : anyE P md ops Q S E (n + 1) ls a w :=
  ⟨fun h0 => absurd (hr ▸ h0) hne, hr ▸ h⟩
theorem anyE_done {ls : Array Bool} {a : Act} {w : World} (hr : Region.ready md ops ls = []) (h : Q .normal a w) : ∀ n, anyE P md ops Q S E n ls a w
  | 0 => ⟨hr, h⟩
  | _ + 1 => ⟨fun _ => h, by rw [hr]; simp⟩
theorem wp_region_E {id : Nat} {a : Act} {w : World} (S : World → Prop) (E : List Nat) (hm : P.follows .mixedOrders = true) (h : anyE P .any ops Q S E ops.size (Array.replicate ops.size false) a { w with drawn := w.drawn + 1 }) : (Code.region id ops true).wp P Q a w :=
  wp_region_any hm (any_of_anyE _ _ _ _ h)
def ReadyE (P : Program) (md : Region.Mode) (ops : Array Oper) (Q : Exit → Act → World → Prop) (S : World → Prop) (E : List Nat) (n : Nat) (ls : Array Bool) (a : Act) (w : World) (rs : List Nat) : Prop := ∀ i ∈ rs, wpOp P ops Q i (fun b u => (E.contains i = false → S u) ∧ anyE P md ops Q S E n (ls.setIfInBounds i true) b u) a w
theorem ReadyE.nil {n : Nat} {ls : Array Bool} {a : Act} {w : World} : ReadyE P md ops Q S E n ls a w [] := fun _ h => by cases h
theorem ReadyE.cons {n : Nat} {ls : Array Bool} {a : Act} {w : World} {i : Nat} {o : Oper} {rs : List Nat} (ho : ops[i]? = some o) (hw : Region.wanted o (yielded ops a.tmps) = true)
    (h : ∀ K : Act → World → Prop, Shut (∀ b u, (E.contains i = false → S u) → anyE P md ops Q S E n (ls.setIfInBounds i true) b u → K b u) → Oper.wp P o a w K Q) (hs : ReadyE P md ops Q S E n ls a w rs) : ReadyE P md ops Q S E n ls a w (i :: rs) := fun j hj => by
  rcases List.mem_cons.1 hj with rfl | hj
  · exact wpOp_step ho (fun K hK => by rw [if_pos hw]; exact h K (fun b u h1 h2 => hK b u ⟨h1, h2⟩))
  · exact hs j hj
theorem ReadyE.consI {n : Nat} {ls : Array Bool} {a : Act} {w : World} {i : Nat} {o : Oper} {rs : List Nat} (ho : ops[i]? = some o)
    (h : ∀ K : Act → World → Prop, Shut (∀ b u, (E.contains i = false → S u) → anyE P md ops Q S E n (ls.setIfInBounds i true) b u → K b u) → if Region.wanted o (yielded ops a.tmps) = true then Oper.wp P o a w K Q else K (a.put o.dst undef) w) (hs : ReadyE P md ops Q S E n ls a w rs) : ReadyE P md ops Q S E n ls a w (i :: rs) := fun j hj => by
  rcases List.mem_cons.1 hj with rfl | hj
  · exact wpOp_step ho (fun K hK => h K (fun b u h1 h2 => hK b u ⟨h1, h2⟩))
  · exact hs j hj
theorem anyE_ready {rs : List Nat} {n : Nat} {ls : Array Bool} {a : Act} {w : World} (hr : Region.ready md ops ls = rs) (hne : rs ≠ []) (h : ReadyE P md ops Q S E n ls a w rs) : anyE P md ops Q S E (n + 1) ls a w := anyE_all hr hne h
/-- nothing but what is of E is left: S is asked no more -/
theorem anyE_of_any : ∀ (n : Nat) (ls : Array Bool) (a : Act) (w : World), (∀ i, ls.getD i true = false → E.contains i = true) → wpAny P md ops Q n ls a w → anyE P md ops Q S E n ls a w
  | 0, _, _, _, _, h => h
  | n + 1, ls, a, w, hE, h => ⟨h.1, fun i hi => wpOp_mono (fun b u k => ⟨fun hc => (by rw [hE i (mem_ready.1 hi).1] at hc; cases hc), anyE_of_any n _ b u (fun j hj => by
      by_cases e : i = j
      · subst e; exact hE i (mem_ready.1 hi).1
      · rw [getD_set_ne true e] at hj; exact hE j hj) k⟩) (h.2 i hi)⟩
theorem anyE_rest {n : Nat} {ls : Array Bool} {a : Act} {w : World} (hE : ((List.range ls.size).all fun i => ls.getD i true || E.contains i) = true) (h : wpAny P md ops Q n ls a w) : anyE P md ops Q S E n ls a w :=
  anyE_of_any n ls a w (fun i hi => by
    rcases Nat.lt_or_ge i ls.size with hl | hl
    · have := List.all_eq_true.1 hE i (List.mem_range.2 hl)
      rw [hi] at this
      simpa using this
    · simp [Array.getElem?_eq_none hl] at hi) h
/-- the same where the post looks at the frame of a panic: the region panics nowhere -/
theorem wp_region_EQ {id : Nat} {a : Act} {w : World} (S : World → Prop) (E : List Nat) (hm : P.follows .mixedOrders = true) (h : anyE P .any ops (fun e a w => (∀ c, e ≠ .panic c) ∧ Q e a w) S E ops.size (Array.replicate ops.size false) a { w with drawn := w.drawn + 1 }) : (Code.region id ops true).wp P Q a w :=
  wp_mono (wp_region_E S E hm h) (fun e a w h => h.2)
end
end Go.Proofs.YtomikgkoegkofaaGreatDoor.dv

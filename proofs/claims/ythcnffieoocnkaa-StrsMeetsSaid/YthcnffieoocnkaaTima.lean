import Derived.Test.YthcnffieoocnkaaAllz
namespace Go.Proofs.Ythcnffieoocnkaa.st
open Go.ChangeShapes Go.WideShapes Go.ChangeAt Go.RowKit Go.Maps Go.WideMaps Go.WideElems
set_option linter.unusedVariables false
/-! a map of sets, by numbers -/
def ptrElem : Value → Option (DataW Unit × List MemPlace)
  | .pointer none => some (.nil, [])
  | .pointer (some ⟨t, 0, none⟩) => some (.lit (.int .u64 t), [])
  | _ => none
theorem ptrElem_nil {v : Value} {ps : List MemPlace} (h : ptrElem v = some (.nil, ps)) : v = .pointer none := by
  unfold ptrElem at h
  split at h
  · rfl
  · simp at h
  · cases h
theorem ptrElem_some {v : Value} {t : Nat} {ps : List MemPlace} (h : ptrElem v = some (.lit (.int .u64 t), ps)) : v = .pointer (some ⟨t, 0, none⟩) := by
  unfold ptrElem at h
  split at h
  · simp at h
  · rename_i t'
    simp at h
    obtain rfl : t' = t := by omega
    rfl
  · cases h
theorem lawInt : Keyed Try.prog 3 := int_keyed Try.underlying3
theorem zeroP (w : World) : (zeroValue 31).run Try.prog w = .ok (.pointer none) w := by kernel_rfl
theorem key_int (r : Int) (h : In64 r) : keyOf Try.prog 3 (.int .i64 r) = some (.int .i64 r) := keyOf_int_mk Try.underlying3 (by
  have := h.1; have := h.2
  simp [Lit.wf, IntKind.min, IntKind.max, IntKind.signed, IntKind.bits]; omega)
theorem look_none {w : World} {b n : Nat} {D : DataW Unit} (h : w.ownsMap Try.prog 3 ptrElem b n D) {r : Int} (hr : In64 r) (hh : has D (.int .i64 r) = false) : (Instr.lookup 60 (.map (some b)) (.int .i64 r) false).run Try.prog w = .ok (.pointer none) w := by
  obtain ⟨v, ps, hrun, hv⟩ := h.lookup lawInt Try.underlying60 (zeroP w) (zd := .nil) (zp := []) rfl (key_int r hr)
  rw [atKey_of_not_has hh] at hv
  rw [hrun, ptrElem_nil hv]
theorem look_some {w : World} {b n t : Nat} {D : DataW Unit} (h : w.ownsMap Try.prog 3 ptrElem b n D) {r : Int} (hr : In64 r) (hh : ∀ z, D.atKey (.int .i64 r) z = .lit (.int .u64 t)) : (Instr.lookup 60 (.map (some b)) (.int .i64 r) false).run Try.prog w = .ok (.pointer (some ⟨t, 0, none⟩)) w := by
  obtain ⟨v, ps, hrun, hv⟩ := h.lookup lawInt Try.underlying60 (zeroP w) (zd := .nil) (zp := []) rfl (key_int r hr)
  rw [hh] at hv
  rw [hrun, ptrElem_some hv]
/-- the tails that were cut, by how many numbers there is room for -/
def Tails (w : World) (B o bT : Nat) (moO : Option Nat) (D : DataW Unit) (Kt : List (List UInt8)) : Prop := ∀ r : Int, has D (.int .i64 r) = true → ∃ (t : Nat) (mt : Option Nat) (Kx : List (List UInt8)), (∀ z, D.atKey (.int .i64 r) z = .lit (.int .u64 t)) ∧ SetIs w t mt Kx ∧ (∀ x, x ∈ Kx ↔ ∃ b ∈ Kt, headB b r = x) ∧ Kx.length ≤ Kt.length ∧ B ≤ t ∧ (∀ b, mt = some b → B ≤ b ∧ moO ≠ some b ∧ b ≠ bT) ∧ t ≠ o
theorem blk_ne_iter {w : World} {t r : Nat} {ty : TypeId} {cs : Array Value} {m : Option Nat} {since c0 : Nat} {seen : Array Nat} (h : Blk w t ty cs) (hi : w.heap[r]? = some (.mapIter m since seen c0)) : t ≠ r := by
  rintro rfl
  unfold Blk at h
  rw [hi] at h
  cases h
theorem map_ne_iter {w : World} {b r n : Nat} {P : Program} {k : TypeId} {R : Value → Option (DataW Unit × List MemPlace)} {D : DataW Unit} {m : Option Nat} {since c0 : Nat} {seen : Array Nat} (h : w.ownsMap P k R b n D) (hi : w.heap[r]? = some (.mapIter m since seen c0)) : b ≠ r := by
  rintro rfl
  obtain ⟨es, clock, h3, _⟩ := h
  rw [hi] at h3
  cases h3
theorem Tails.kept {w w' : World} {B o bT : Nat} {moO moO' : Option Nat} {D : DataW Unit} {Kt : List (List UInt8)} {S : Nat → Prop} (h : Tails w B o bT moO D Kt) (k : Kp S w w') (hS : ∀ t mt Kx, SetIs w t mt Kx → t ≠ o → (∀ b, mt = some b → moO ≠ some b ∧ b ≠ bT) → ¬ S t ∧ ∀ b, mt = some b → ¬ S b) (hm : moO' = moO ∨ ∃ b, moO' = some b ∧ w.heap.size ≤ b)   : Tails w' B o bT moO' D Kt := fun r hr => by
  obtain ⟨t, mt, Kx, h1, h2, h3, h4, h5, h6, h7⟩ := h r hr
  obtain ⟨s1, s2⟩ := hS t mt Kx h2 h7 (fun b hb => (h6 b hb).2)
  refine ⟨t, mt, Kx, h1, h2.kept k s1 s2, h3, h4, h5, fun b hb => ⟨(h6 b hb).1, ?_, (h6 b hb).2.2⟩, h7⟩
  rcases hm with e | ⟨b', e, hb'⟩
  · rw [e]; exact (h6 b hb).2.1
  · subst hb
    have := h2.lt_map
    rw [e]
    intro e2
    have := Option.some.inj e2
    omega
/-- what stays round a word that is put in -/
structure Outs (w wr : World) (B o R bm bT n nT cnt : Nat) (DS DT : DataW Unit) (left : Lit → Bool) (moO : Option Nat) (Kt Ko : List (List UInt8)) : Prop where
  rg : wr.ranges Try.prog 9 unitElem bm R n DS left cnt
  tm : wr.ownsMap Try.prog 3 ptrElem bT nT DT
  tl : Tails wr B o bT moO DT Kt
  os : SetIs wr o moO Ko
  kp : Kp (fun i => B ≤ i) w wr
  lo : bm < B ∧ B ≤ o ∧ B ≤ R ∧ B ≤ bT
  mo : ∀ b, moO = some b → B ≤ b ∧ b ≠ bT
theorem Outs.put {w wr w2 : World} {B o R bm bT n nT cnt : Nat} {DS DT : DataW Unit} {left : Lit → Bool} {moO mo' : Option Nat} {Kt Ko Ko' : List (List UInt8)} (h : Outs w wr B o R bm bT n nT cnt DS DT left moO Kt Ko) (hm : mo' = moO ∨ ∃ b, mo' = some b ∧ wr.heap.size ≤ b) (hs : SetIs w2 o mo' Ko') (k : Kp (fun i => i = o ∨ moO = some i) wr w2) : Outs w w2 B o R bm bT n nT cnt DS DT left mo' Kt Ko' := by
  obtain ⟨_, _, _, hi⟩ := ranges_iter h.rg
  obtain ⟨_, hob, _⟩ := h.os
  have e1 : o ≠ R := blk_ne_iter hob hi
  have e2 : o ≠ bT := blk_ne_map hob h.tm
  have e3 : ∀ b, moO = some b → b ≠ R := fun b e => set_ne_iter (e ▸ h.os) hi
  have hlo := h.lo
  refine ⟨ranges_kp h.rg k ?_ ?_, k.map h.tm ?_, h.tl.kept k ?_ hm, hs, h.kp.then_ k ?_, h.lo, ?_⟩
  · rintro (e | e)
    · omega
    · have := (h.mo _ e).1; omega
  · rintro (e | e)
    · exact e1 e.symm
    · exact e3 _ e rfl
  · rintro (e | e)
    · exact e2 e.symm
    · exact (h.mo _ e).2 rfl
  · intro t mt Kx ht hto hmt
    refine ⟨?_, fun b hb => ?_⟩
    · rintro (e | e)
      · exact hto e
      · exact SetIs.ne ht (e ▸ h.os) rfl
    · rintro (e | e)
      · subst hb; exact SetIs.ne h.os ht e.symm
      · exact (hmt b hb).1 e
  · rintro i (e | e)
    · left; omega
    · left; exact (h.mo _ e).1
  · intro b hb
    rcases hm with e | ⟨b', e, hb'⟩
    · exact h.mo b (e ▸ hb)
    · rw [hb] at e
      have := Option.some.inj e
      have := h.tm.lt
      have := h.kp.size
      have := h.os.lt
      omega
/-- another block turns, that is neither of these: an iterator's, or a new one -/
theorem Outs.step {w wr w2 : World} {B o R bm bT n nT cnt : Nat} {DS DT : DataW Unit} {left : Lit → Bool} {moO : Option Nat} {Kt Ko : List (List UInt8)} {R2 : Nat} (h : Outs w wr B o R bm bT n nT cnt DS DT left moO Kt Ko) (hR : R2 ≠ R) (hi2 : (∃ m since seen c0, wr.heap[R2]? = some (.mapIter m since seen c0)) ∨ wr.heap.size ≤ R2) (hB : B ≤ R2) (k : Kp (fun i => i = R2) wr w2) : Outs w w2 B o R bm bT n nT cnt DS DT left moO Kt Ko := by
  have hlo := h.lo
  have hset : ∀ t mt Kx, SetIs wr t mt Kx → t ≠ R2 ∧ ∀ b, mt = some b → b ≠ R2 := by
    intro t mt Kx ht
    rcases hi2 with ⟨m, since, seen, c0, hi⟩ | hi
    · obtain ⟨_, hb, _⟩ := id ht
      exact ⟨blk_ne_iter hb hi, fun b e => set_ne_iter (e ▸ ht) hi⟩
    · have := ht.lt
      exact ⟨by omega, fun b e => by subst e; have := ht.lt_map; omega⟩
  have hbT : bT ≠ R2 := by
    rcases hi2 with ⟨m, since, seen, c0, hi⟩ | hi
    · exact map_ne_iter h.tm hi
    · have := h.tm.lt; omega
  exact ⟨ranges_kp h.rg k (by omega) (fun e => hR e.symm), k.map h.tm hbT, h.tl.kept k (fun t mt Kx ht _ _ => hset t mt Kx ht) (.inl rfl), h.os.kept k (hset _ _ _ h.os).1 (hset _ _ _ h.os).2, h.kp.then_ k (fun i hi => .inl (by omega)), h.lo, h.mo⟩
/-! the words, each with each -/
theorem head_whole {a b : List UInt8} {k : Int} (ha : a.length % 8 = 0) (hk : k.toNat ≤ a.length / 8) : headB (a ++ b) k = headB a k := by
  unfold headB
  rw [List.length_append, Nat.min_eq_right (by omega), Nat.min_eq_right hk, List.take_append_of_le_length (by omega)]
theorem head_part {a b : List UInt8} {k : Int} (ha : a.length % 8 = 0) (hb : b.length % 8 = 0) (hk : (a.length / 8 : Nat) < k) : headB (a ++ b) k = a ++ headB b (k - (a.length / 8 : Nat)) := by
  unfold headB
  rw [List.length_append, List.take_append, List.take_of_length_le (by omega)]
  congr 2
  omega
def TimesOf (vs Kt : List (List UInt8)) (k : Int) (x : List UInt8) : Prop := ∃ a ∈ vs, ∃ b ∈ Kt, headB (a ++ b) k = x
theorem TimesOf.snoc {vs Kt : List (List UInt8)} {k : Int} {x z : List UInt8} : TimesOf (vs ++ [x]) Kt k z ↔ TimesOf vs Kt k z ∨ ∃ b ∈ Kt, headB (x ++ b) k = z := by
  constructor
  · rintro ⟨a, ha, b, hb, e⟩
    rcases List.mem_append.1 ha with h | h
    · exact .inl ⟨a, h, b, hb, e⟩
    · simp at h; subst h; exact .inr ⟨b, hb, e⟩
  · rintro (⟨a, ha, b, hb, e⟩ | ⟨b, hb, e⟩)
    · exact ⟨a, by simp [ha], b, hb, e⟩
    · exact ⟨x, by simp, b, hb, e⟩
theorem put_mem {Ko : List (List UInt8)} {y z : List UInt8} : z ∈ (if y ∈ Ko then Ko else Ko ++ [y]) ↔ z ∈ Ko ∨ z = y := by
  split
  · rename_i hin
    exact ⟨.inl, fun h => h.elim id (fun e => e ▸ hin)⟩
  · simp
theorem put_len {Ko : List (List UInt8)} {y : List UInt8} : (if y ∈ Ko then Ko else Ko ++ [y]).length ≤ Ko.length + 1 := by
  split <;> simp
end Go.Proofs.Ythcnffieoocnkaa.st

import Derived.Test.YthcnffieoocnkaaSfin
namespace Go.Proofs.Ythcnffieoocnkaa.st
open Go.ChangeShapes Go.WideShapes Go.ChangeAt Go.RowKit Go.Maps Go.WideMaps Go.WideElems
set_option linter.unusedVariables false
theorem cell_took {w w' : World} {s : Nat} {mo : Option Nat} {Ks : List (List UInt8)} (h : SetIs w s mo Ks) (k : Kp (fun i => i = s ∨ mo = some i) w w') {a : Addr} {u : Value} (hab : a.block < w.heap.size) (hc : w.cell? a = some u) (hu : ∀ m, u ≠ .map m) : w'.cell? a = some u := by
  have hs := World.cell?_spot hc
  by_cases hin : a.block = s ∨ mo = some a.block
  · exfalso
    obtain ⟨mv, hb, hm⟩ := h
    unfold World.cell? at hc
    rcases hin with e | e
    · unfold Blk at hb
      rw [e, hb] at hc
      simp only [hs] at hc
      have hc : (#[mv] : Array Value)[a.off]? = some u := by simpa using hc
      have h0 : a.off = 0 := by
        rcases Nat.eq_zero_or_pos a.off with h | h
        · exact h
        · rw [Array.getElem?_eq_none (by simp; omega)] at hc
          cases hc
      rw [h0] at hc
      simp at hc
      rcases hm with ⟨_, e2, _⟩ | ⟨_, _, _, e2, _⟩
      · exact hu _ (by rw [← hc, e2])
      · exact hu _ (by rw [← hc, e2])
    · rcases hm with ⟨e1, _⟩ | ⟨bm, D, e1, _, ⟨es, clock, h3, _⟩, _⟩
      · rw [e1] at e; cases e
      · rw [e1] at e
        obtain rfl := Option.some.inj e
        rw [h3] at hc
        simp at hc
  · have e := k.block a.block hab hin
    unfold World.cell? at hc ⊢
    rw [e]
    exact hc
theorem WordN.took {w w' : World} {s : Nat} {mo : Option Nat} {Ks : List (List UInt8)} (h : SetIs w s mo Ks) (k : Kp (fun i => i = s ∨ mo = some i) w w') {u : Value} {x : List Int} (hw : WordN w u x) : WordN w' u x := by
  obtain ⟨hl, ao, cap, e, hn, hin, hc⟩ := hw
  refine ⟨hl, ao, cap, e, hn, hin, fun j hj => ?_⟩
  obtain ⟨a, e2, hab, hcell⟩ := hc j hj
  exact ⟨a, e2, Nat.lt_of_lt_of_le hab k.size, cell_took h k (by rw [add_block]; exact hab) hcell (fun m e => by cases e)⟩
theorem WordsN.took {w w' : World} {s : Nat} {mo : Option Nat} {Ks : List (List UInt8)} (h : SetIs w s mo Ks) (k : Kp (fun i => i = s ∨ mo = some i) w w') {v : Value} {L : List (List Int)} (hw : WordsN w v L) : WordsN w' v L := by
  obtain ⟨ao, cap, e, hn, hc⟩ := hw
  refine ⟨ao, cap, e, hn, fun i hi => ?_⟩
  obtain ⟨a, u, e2, hab, hcell, hw⟩ := hc i hi
  refine ⟨a, u, e2, Nat.lt_of_lt_of_le hab k.size, cell_took h k (by rw [add_block]; exact hab) hcell (fun m e => ?_), hw.took h k⟩
  obtain ⟨_, ao, cap, e3, _⟩ := hw
  rw [e3] at e
  cases e
theorem keys_both {Ks Kt Ko : List (List UInt8)} {A C : List (List Int)} (h : KeysOf Ks A) (ht : KeysOf Kt C) (hm : ∀ x, x ∈ Ko ↔ x ∈ Ks ∨ x ∈ Kt) : KeysOf Ko (A ++ C) := by
  refine ⟨fun x hx => (List.mem_append.1 hx).elim (h.1 x) (ht.1 x), fun z => ?_⟩
  rw [hm z, h.2 z, ht.2 z]
  constructor
  · rintro (⟨x, hx, e⟩ | ⟨x, hx, e⟩)
    · exact ⟨x, List.mem_append.2 (.inl hx), e⟩
    · exact ⟨x, List.mem_append.2 (.inr hx), e⟩
  · rintro ⟨x, hx, e⟩
    rcases List.mem_append.1 hx with h1 | h1
    · exact .inl ⟨x, h1, e⟩
    · exact .inr ⟨x, h1, e⟩
/-- what Take leaves: both sets, and every list of words -/
def TookX (w0 w w' : World) (s t : Nat) (A C : List (List Int)) : Prop := (∃ m2 K2, SetX w0.heap.size w' s (A ++ C) m2 K2) ∧ (∃ mt Kt, SetX w0.heap.size w' t C mt Kt) ∧ (∀ v L, WordsN w v L → WordsN w' v L) ∧ Below w0.heap.size w0 w'
theorem take_s {B B' : Nat} (w0 w : World) (s t : Nat) (A C : List (List Int)) (mo mt : Option Nat) (Ks Kt : List (List UInt8)) (h : SetX B w s A mo Ks) (ht : SetX B' w t C mt Kt) (hst : s ≠ t) (hmm : ∀ b, mo = some b → mt ≠ some b) (h1 : Ks.length ≤ 400) (h2 : Kt.length ≤ 400) (hd : Below w0.heap.size w0 w) (hB : w0.heap.size ≤ B) (hB' : w0.heap.size ≤ B') : Calls Try.prog 31 #[.pointer (some ⟨s, 0, none⟩), .pointer (some ⟨t, 0, none⟩)] w fun e w' => e = .returned (.int .i64 (((setW (A ++ C)).length : Int) - ((setW A).length : Int))) ∧ TookX w0 w w' s t A C :=
  (take_any w s t mo mt Ks Kt hst hmm (by unfold maxLen; omega) h.set ht.set).mono fun e w' ⟨d, he, ⟨m2, Ko, hs, hm, hmem, hlen, hdl⟩, hk⟩ => by
    have k2 := take_k h.k hB hd.size hs hm (by omega)
    have kt := take_t h.k ht.k hst hmm hk hB'
    have x2 : SetX w0.heap.size w' s (A ++ C) m2 Ko := ⟨k2.set, k2.lo, k2.mlo, keys_both h.keys ht.keys hmem, k2.few⟩
    refine ⟨?_, ⟨m2, Ko, x2⟩, ⟨mt, Kt, ⟨kt.set, kt.lo, kt.mlo, ht.keys, kt.few⟩⟩, fun v L hw => hw.took h.set hk, take_d hd h.k hB hk⟩
    have e1 := keys_len x2.set.nodup x2.keys (setW_up _) (mem_setW _)
    have e2 := keys_len h.set.nodup h.keys (setW_up _) (mem_setW _)
    rw [he]
    exact ret_int (by omega)
/-- the cells of a list of words -/
theorem words_us {w : World} {v : Value} {L : List (List Int)} (h : WordsN w v L) : ∃ (ao : Option Addr) (cap : Nat) (us : List Value), v = .slice ao L.length cap ∧ (ao = none → L.length = 0 ∧ cap = 0) ∧ us.length = L.length ∧ (∀ ad, ao = some ad → ∀ j u, us[j]? = some u → w.cell? (ad.add j) = some u) ∧ ∀ i, i < L.length → ∃ u, us[i]? = some u ∧ WordN w u (L.getD i []) := by
  obtain ⟨ao, cap, e, hn, hc⟩ := h
  cases ao with
  | none =>
    have h0 : L.length = 0 := by
      rcases Nat.eq_zero_or_pos L.length with h | h
      · exact h
      · obtain ⟨a, u, e2, _⟩ := hc 0 h
        cases e2
    exact ⟨none, cap, [], e, fun _ => ⟨h0, hn rfl⟩, by rw [h0]; rfl, (fun ad e => by cases e), fun i hi => by omega⟩
  | some a =>
    refine ⟨some a, cap, (List.range L.length).map (fun i => (w.cell? (a.add i)).getD (.bool false)), e, (fun e => by cases e), by simp, ?_, ?_⟩
    · intro ad e2 j u hj
      cases e2
      rw [List.getElem?_map] at hj
      by_cases hlt : j < L.length
      · obtain ⟨a', u', e3, _, hcell, _⟩ := hc j hlt
        cases e3
        simp [hlt, hcell] at hj
        rw [hcell, hj]
      · simp [hlt] at hj
    · intro i hi
      obtain ⟨a', u', e3, _, hcell, hw⟩ := hc i hi
      cases e3
      exact ⟨u', by simp [hi, hcell], hw⟩
end Go.Proofs.Ythcnffieoocnkaa.st

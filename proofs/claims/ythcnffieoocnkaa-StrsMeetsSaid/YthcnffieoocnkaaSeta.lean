import Derived.Test.YthcnffieoocnkaaRows
import Derived.WalkKit
import Derived.WalkLawsBesides
import Derived.WalkSpells
import Derived.ProofKit
import Derived.OpenShut
import Derived.Handy
import Derived.Outline
import Derived.Lib.Hide
import Derived.Below
import Derived.WalkSmall
import Derived.Laws.OwnMore
import Derived.Laws.EntriesVeiled
import Derived.Deep.Draws
import Derived.Deep.AppendLies
import Derived.Laws.Rows
import Derived.Maps.OwnSet
import Derived.Maps.RangeWalk
import Derived.Maps.Ext
import Derived.Maps.AppendAt
import Derived.Deep.QuietTactic
import Derived.BigQuiet
namespace Go.Proofs.Ythcnffieoocnkaa.st
open Go.ChangeShapes Go.WideShapes Go.ChangeAt Go.RowKit Go.Maps Go.WideMaps Go.WideElems
set_option linter.unusedVariables false
/-! numbers -/
def ordI (a b : Int) : Int := if a < b then -1 else if b < a then 1 else 0
set_option maxRecDepth 100000 in
theorem order_any (a b : Int) (w : World) : Calls Try.prog 32 #[.int .i64 a, .int .i64 b] w fun e w' => e = .returned (.int .i64 (ordI a b)) ∧ w = w' := by
  have e : (a < b ∧ ordI a b = -1) ∨ (¬ a < b ∧ b < a ∧ ordI a b = 1) ∨ (¬ a < b ∧ ¬ b < a ∧ ordI a b = 0) := by
    unfold ordI; by_cases h1 : a < b
    · simp [h1]
    · by_cases h2 : b < a <;> simp [h1, h2]
  rcases e with ⟨h1, e⟩ | ⟨h1, h2, e⟩ | ⟨h1, h2, e⟩ <;> rw [e] <;> clear e
  all_goals
    go_enter Try.func32, Try.ntmps32
    go_wp2
    go_ret
    exact ⟨rfl, rfl⟩
/-! a set in memory: a block of one cell, nil or a map, whose keys are the texts -/
theorem law9 : Keyed Try.prog 9 := string_keyed Try.underlying9
theorem zeroU (w : World) : (zeroValue 68).run Try.prog w = .ok (.agg #[]) w := by kernel_rfl
def Key (k : List UInt8) : Value := .string ⟨k.toArray⟩
theorem key_of (k : List UInt8) (h : k.length ≤ maxLen) : keyOf Try.prog 9 (Key k) = some (.string k) := by
  have := keyOf_string_mk (P := Try.prog) (s := (⟨k.toArray⟩ : ByteArray)) Try.underlying9 (by simpa [ByteArray.size] using h)
  simpa [Key] using this
def Blk (w : World) (g : Nat) (t : TypeId) (cs : Array Value) : Prop := w.heap[g]? = some (.cells cs t (0, 0))
section
variable {w w' : World} {g : Nat} {t : TypeId} {cs : Array Value}
theorem Blk.lt (h : Blk w g t cs) : g < w.heap.size := by
  rcases Nat.lt_or_ge g w.heap.size with hlt | hge
  · exact hlt
  · unfold Blk at h; rw [Array.getElem?_eq_none hge] at h; cases h
theorem Blk.cell (h : Blk w g t cs) (i : Nat) : w.cell? ⟨g, i, none⟩ = cs[i]? := cell_of_row w g i cs t (0, 0) h
theorem Blk.frozen (h : Blk w g t cs) (i : Nat) : w.frozen? ⟨g, i, none⟩ = false := by
  unfold Blk at h
  simp [World.frozen?, h]
theorem Blk.new (w : World) (t : TypeId) (cs : Array Value) : Blk (w.alloc (.cells cs t)) w.heap.size t cs := heap_alloc_new w _
theorem Blk.drew (h : Blk w g t cs) : Blk w.drew g t cs := h
theorem Blk.alloc (h : Blk w g t cs) (o : Obj) : Blk (w.alloc o) g t cs := (Below.heap_alloc w o g h.lt).trans h
theorem Blk.set_ (h : Blk w g t cs) (i : Nat) (u : Value) : Blk (w.setCell ⟨g, i, none⟩ u) g t (cs.setIfInBounds i u) := by
  unfold Blk at h ⊢
  simp [World.setCell, Array.getElem?_modify, h]
theorem Blk.far (h : Blk w g t cs) {p : Addr} (hp : g ≠ p.block) (u : Value) : Blk (w.setCell p u) g t cs := (Below.heap_setCell w p u g hp).trans h
theorem Blk.grown {row : Option Nat} (h : Blk w g t cs) (hb : w.grownBy w' row) (hg : some g ≠ row) : Blk w' g t cs := (hb.block g h.lt hg).trans h
end
/-- what may have turned: the blocks of S, and new ones -/
structure Kp (S : Nat → Prop) (w w' : World) : Prop where
  os : w'.os = w.os
  tape : w'.tape = w.tape
  output : w'.output = w.output
  size : w.heap.size ≤ w'.heap.size
  block : ∀ k, k < w.heap.size → ¬ S k → w'.heap[k]? = w.heap[k]?
section
variable {S T : Nat → Prop} {a b c w w' : World}
theorem Kp.refl (S : Nat → Prop) (w : World) : Kp S w w := ⟨rfl, rfl, rfl, Nat.le_refl _, fun _ _ _ => rfl⟩
theorem Kp.trans (h : Kp S a b) (k : Kp S b c) : Kp S a c :=
  ⟨k.os.trans h.os, k.tape.trans h.tape, k.output.trans h.output, Nat.le_trans h.size k.size, fun i hi hn => (k.block i (Nat.lt_of_lt_of_le hi h.size) hn).trans (h.block i hi hn)⟩
/-- behind a step whose own blocks are new, or in S -/
theorem Kp.then_ (h : Kp S a b) (k : Kp T b c) (hT : ∀ i, T i → S i ∨ a.heap.size ≤ i) : Kp S a c :=
  ⟨k.os.trans h.os, k.tape.trans h.tape, k.output.trans h.output, Nat.le_trans h.size k.size, fun i hi hn => (k.block i (Nat.lt_of_lt_of_le hi h.size) (fun ht => (hT i ht).elim hn (fun h => by omega))).trans (h.block i hi hn)⟩
theorem Kp.mono (h : Kp S a b) (hS : ∀ i, S i → T i) : Kp T a b := ⟨h.os, h.tape, h.output, h.size, fun i hi hn => h.block i hi (fun hs => hn (hS i hs))⟩
theorem Kp.of_grown {row : Option Nat} (h : w.grownBy w' row) : Kp (fun i => row = some i) w w' := ⟨h.os, h.tape, h.output, h.size, fun i hi hn => h.block i hi (fun e => hn e.symm)⟩
theorem Kp.alloc (S : Nat → Prop) (w : World) (o : Obj) : Kp S w (w.alloc o) := (Kp.of_grown (World.grownBy_alloc w o none)).mono (fun _ h => by cases h)
theorem Kp.drew (h : Kp S a b) : Kp S a b.drew := ⟨h.os, h.tape, h.output, h.size, h.block⟩
theorem Kp.drewN (h : Kp S a b) (n : Nat) : Kp S a (b.drewN n) := ⟨h.os, h.tape, h.output, h.size, h.block⟩
theorem Kp.set_ (h : Kp S a b) {g i : Nat} (hS : S g ∨ a.heap.size ≤ g) (u : Value) : Kp S a (b.setCell ⟨g, i, none⟩ u) :=
  ⟨h.os, h.tape, h.output, by rw [World.size_setCell]; exact h.size, fun j hj hn => (RowKit.Below.heap_setCell _ _ _ _ (fun e => by
    have e' : j = g := e
    subst e'
    rcases hS with h1 | h1
    · exact hn h1
    · omega)).trans (h.block j hj hn)⟩
theorem Kp.below {B : Nat} (h : Kp S a b) (hS : ∀ i, S i → B ≤ i) (hB : B ≤ a.heap.size) : Below B a b := ⟨h.os, h.tape, h.output, h.size, fun i hi => h.block i (by omega) (fun hs => by have := hS i hs; omega)⟩
theorem Kp.of_below {B : Nat} (h : Below B a b) : Kp (fun i => B ≤ i) a b := ⟨h.os, h.tape, h.output, h.size, fun i _ hn => h.block i (by omega)⟩
theorem Kp.blk {g : Nat} {t : TypeId} {cs : Array Value} (h : Kp S w w') (hb : Blk w g t cs) (hn : ¬ S g) : Blk w' g t cs := (h.block g hb.lt hn).trans hb
theorem Kp.map {k : TypeId} {R : Value → Option (DataW Unit × List MemPlace)} {P : Program} {bm n : Nat} {D : DataW Unit} (h : Kp S w w') (hb : w.ownsMap P k R bm n D) (hn : ¬ S bm) : w'.ownsMap P k R bm n D := by
  have hlt := hb.lt
  obtain ⟨es, clock, hb, F, hs, hD⟩ := hb
  exact ⟨es, clock, (h.block bm hlt hn).trans hb, F, hs, hD⟩
end
/-- the keys of a map as read -/
def KeysAre (D : DataW Unit) (Ks : List (List UInt8)) : Prop := Ks.Nodup ∧ (∀ kl, has D kl = true ↔ ∃ k ∈ Ks, kl = .string k) ∧ size D = Ks.length
def MapIs (w : World) (mv : Value) (mo : Option Nat) (Ks : List (List UInt8)) : Prop :=
  (mo = none ∧ mv = .map none ∧ Ks = []) ∨ ∃ bm D, mo = some bm ∧ mv = .map (some bm) ∧ w.ownsMap Try.prog 9 unitElem bm Ks.length D ∧ KeysAre D Ks
/-- block s is a set, its map lies in mo, its keys are Ks -/
def SetIs (w : World) (s : Nat) (mo : Option Nat) (Ks : List (List UInt8)) : Prop := ∃ mv, Blk w s 53 #[mv] ∧ MapIs w mv mo Ks
theorem SetIs.lt {w : World} {s : Nat} {mo : Option Nat} {Ks : List (List UInt8)} (h : SetIs w s mo Ks) : s < w.heap.size := let ⟨_, hb, _⟩ := h; hb.lt
theorem SetIs.lt_map {w : World} {s bm : Nat} {Ks : List (List UInt8)} (h : SetIs w s (some bm) Ks) : bm < w.heap.size := by
  obtain ⟨mv, _, hm⟩ := h
  rcases hm with ⟨h1, _⟩ | ⟨bm', D, h1, _, h3, _⟩
  · cases h1
  · cases h1; exact h3.lt
theorem blk_ne_map {w : World} {s bm n : Nat} {t k : TypeId} {cs : Array Value} {P : Program} {R : Value → Option (DataW Unit × List MemPlace)} {D : DataW Unit} (hb : Blk w s t cs) (h : w.ownsMap P k R bm n D) : s ≠ bm := by
  rintro rfl
  obtain ⟨es, clock, h3, _⟩ := h
  unfold Blk at hb
  rw [hb] at h3
  cases h3
theorem made_set (w : World) (s : Nat) (u : Value) : ((w.setCell ⟨s, 0, none⟩ u).alloc (.map #[] 0)).ownsMap Try.prog 9 (unitElem (H := Unit)) w.heap.size 0 (.map []) := by
  have := World.ownsMap_made (H := Unit) (w.setCell ⟨s, 0, none⟩ u) Try.prog 9 unitElem
  rwa [World.size_setCell] at this
theorem SetIs.ne {w : World} {s s' bm : Nat} {mo : Option Nat} {Ks Ks' : List (List UInt8)} (h : SetIs w s mo Ks) (h' : SetIs w s' (some bm) Ks') : s ≠ bm := by
  rintro rfl
  obtain ⟨mv, hb, _⟩ := h
  obtain ⟨mv', _, hm⟩ := h'
  rcases hm with ⟨h1, _⟩ | ⟨bm', D, h1, _, ⟨es, clock, h3, _⟩, _⟩
  · cases h1
  · cases h1
    unfold Blk at hb
    rw [hb] at h3
    cases h3
theorem SetIs.kept {S : Nat → Prop} {w w' : World} {s : Nat} {mo : Option Nat} {Ks : List (List UInt8)} (h : SetIs w s mo Ks) (k : Kp S w w') (h1 : ¬ S s) (h2 : ∀ bm, mo = some bm → ¬ S bm) : SetIs w' s mo Ks := by
  obtain ⟨mv, hb, hm⟩ := h
  refine ⟨mv, k.blk hb h1, ?_⟩
  rcases hm with ⟨e1, e2, e3⟩ | ⟨bm, D, e1, e2, e3, e4⟩
  · exact .inl ⟨e1, e2, e3⟩
  · exact .inr ⟨bm, D, e1, e2, k.map e3 (h2 bm e1), e4⟩
theorem SetIs.nodup {w : World} {s : Nat} {mo : Option Nat} {Ks : List (List UInt8)} (h : SetIs w s mo Ks) : Ks.Nodup := by
  obtain ⟨mv, _, hm⟩ := h
  rcases hm with ⟨_, _, rfl⟩ | ⟨_, _, _, _, _, h⟩
  · exact List.nodup_nil
  · exact h.1
theorem KeysAre.has_ {D : DataW Unit} {Ks : List (List UInt8)} (h : KeysAre D Ks) (k : List UInt8) : has D (.string k) = decide (k ∈ Ks) := by
  rw [Bool.eq_iff_iff, h.2.1, decide_eq_true_eq]
  constructor
  · rintro ⟨k', hk, e⟩
    cases e
    exact hk
  · exact fun hk => ⟨k, hk, rfl⟩
set_option maxRecDepth 100000 in
theorem held_any (w : World) (s : Nat) (mv : Value) (h : w.cell? ⟨s, 0, none⟩ = some mv) : Calls Try.prog 34 #[.pointer (some ⟨s, 0, none⟩)] w fun e w' => e = .returned mv ∧ w = w' := by
  go_enter Try.func34, Try.ntmps34
  go_wp2
  go_ret
  exact ⟨rfl, rfl⟩
set_option maxRecDepth 100000 in
theorem holds_any (w : World) (s : Nat) (mo : Option Nat) (Ks : List (List UInt8)) (k : List UInt8) (hk : k.length ≤ maxLen) (h : SetIs w s mo Ks) : Calls Try.prog 37 #[.pointer (some ⟨s, 0, none⟩), Key k] w fun e w' => e = .returned (.bool (decide (k ∈ Ks))) ∧ Below w.heap.size w w' := by
  obtain ⟨mv, hb, hm⟩ := h
  have hkey := key_of k hk
  have hc : w.cell? ⟨s, 0, none⟩ = some mv := hb.cell 0
  clear hb hk
  generalize hK : Key k = kv at *
  have HK := Lib.hid hK
  clear hK
  rcases hm with ⟨_, rfl, rfl⟩ | ⟨bm, D, _, rfl, hown, hD⟩
  · have hln := fun w : World => Maps.look_nil (P := Try.prog) (w := w) true law9 Try.underlying51 (zeroU w) hkey
    simp only [if_true] at hln
    go_enter Try.func37, Try.ntmps37
    go_wp2_with (go_at_call 34; refine (held_any _ s _ hc).mono ?_; rintro e w1 ⟨rfl, rfl⟩)
    go_ret
    exact ⟨by simp, (Below.refl _ _).alloc (Nat.le_refl _) _⟩
  · have hh := hD.has_ k
    go_enter Try.func37, Try.ntmps37
    go_wp2_with (first | (go_at_call 34; refine (held_any _ s _ hc).mono ?_; rintro e w1 ⟨rfl, rfl⟩) | (at_lookup; refine wpList_lookup_own_unit _ rfl _ _ 51 rfl 9 68 law9 Try.underlying51 (zeroU _) bm _ _ rfl hown _ _ rfl hkey ?_))
    go_ret
    exact ⟨rfl, (Below.refl _ _).alloc (Nat.le_refl _) _⟩
theorem keysAre_empty : KeysAre (.map [] : DataW Unit) [] := ⟨List.nodup_nil, fun kl => by simp [has], rfl⟩
theorem KeysAre.put {D : DataW Unit} {Ks : List (List UInt8)} (h : KeysAre D Ks) (hT : Tidy D) {k : List UInt8} (hk : k ∉ Ks) (d : DataW Unit) : KeysAre (D.put (.string k) d) (Ks ++ [k]) := by
  have hkl : WideAt.IsKeyLit (.string k) := by trivial
  refine ⟨?_, fun kl => ?_, ?_⟩
  · rw [List.nodup_append]
    exact ⟨h.1, by simp, fun a ha b hb => by simp at hb; subst hb; exact fun e => hk (e ▸ ha)⟩
  · by_cases e : kl = .string k
    · subst e
      rw [has_put_same hT.isMap hkl]
      simp
    · rw [has_put_other e, h.2.1]
      constructor
      · rintro ⟨k', hk', rfl⟩; exact ⟨k', by simp [hk'], rfl⟩
      · rintro ⟨k', hk', rfl⟩
        rcases List.mem_append.1 hk' with h' | h'
        · exact ⟨k', h', rfl⟩
        · simp at h'; subst h'; exact absurd rfl e
  · rw [size_put hT, h.has_ k, h.2.2]
    simp [hk]
set_option maxRecDepth 100000 in
theorem put_old (w : World) (s : Nat) (mo : Option Nat) (Ks : List (List UInt8)) (k : List UInt8) (hk : k.length ≤ maxLen) (hin : k ∈ Ks) (h : SetIs w s mo Ks) : Calls Try.prog 40 #[.pointer (some ⟨s, 0, none⟩), Key k] w fun e w' => e = .returned (.bool false) ∧ Below w.heap.size w w' := by
  have hc := holds_any w s mo Ks k hk h
  rw [show decide (k ∈ Ks) = true from decide_eq_true hin] at hc
  generalize Key k = kv at *
  have HC := Lib.hid hc
  clear hc h hin hk
  go_enter Try.func40, Try.ntmps40
  go_wp2_with (go_at_call 37; refine HC.out.mono ?_; rintro e w1 ⟨rfl, hb⟩)
  go_ret
  exact ⟨rfl, hb⟩
/-- a new key: where the map lies now, what may have turned -/
def PutTo (w w' : World) (s : Nat) (mo : Option Nat) (Ks : List (List UInt8)) : Prop := ∃ mo', (mo' = mo ∨ ∃ bm, mo' = some bm ∧ w.heap.size ≤ bm) ∧ SetIs w' s mo' Ks ∧ Kp (fun i => i = s ∨ mo = some i) w w'
set_option maxRecDepth 100000 in
set_option maxHeartbeats 1000000 in
theorem put_new (w : World) (s : Nat) (mo : Option Nat) (Ks : List (List UInt8)) (k : List UInt8) (hk : k.length ≤ maxLen) (hin : k ∉ Ks) (hroom : Ks.length < maxLen) (h : SetIs w s mo Ks) : Calls Try.prog 40 #[.pointer (some ⟨s, 0, none⟩), Key k] w fun e w' => e = .returned (.bool true) ∧ PutTo w w' s mo (Ks ++ [k]) := by
  have hh := holds_any w s mo Ks k hk h
  rw [show decide (k ∈ Ks) = false from decide_eq_false hin] at hh
  have hslt := h.lt
  have hkey := key_of k hk
  obtain ⟨mv, hb, hm⟩ := h
  generalize hK : Key k = kv at *
  have HK := Lib.hid hK
  have HC := Lib.hid hh
  clear hK hh hk
  rcases hm with ⟨rfl, rfl, rfl⟩ | ⟨bm, D, rfl, rfl, hown, hD⟩
  · have hmm := @run_makeMap Try.prog
    have heq := fun (w : World) (r : Option Nat) => run_eql_map_nil (P := Try.prog) w 51 9 68 r Try.underlying51
    go_enter Try.func40, Try.ntmps40
    go_wp2_with (first | (go_at_call 37; refine HC.out.mono ?_; rintro e w1 ⟨rfl, hb1⟩; have c1 : w1.cell? ⟨s, 0, none⟩ = some (.map none) := (hb1.cell (p := ⟨s, 0, none⟩) hslt).trans (hb.cell 0); have f1 : w1.frozen? ⟨s, 0, none⟩ = false := (hb1.frozen (p := ⟨s, 0, none⟩) hslt).trans (hb.frozen 0); have z1 := hb1.size; have hsz : s < w1.heap.size := Nat.lt_of_lt_of_le hslt z1; have c2 : ∀ o, (w1.alloc o).cell? ⟨s, 0, none⟩ = some (.map none) := fun o => (World.cell?_alloc_lt w1 o ⟨s, 0, none⟩ hsz).trans c1; have f2 : ∀ o, (w1.alloc o).frozen? ⟨s, 0, none⟩ = false := fun o => (World.frozen?_of_block (w := w1) (w' := w1.alloc o) (a := ⟨s, 0, none⟩) (RowKit.Below.heap_alloc w1 o s hsz)).trans f1) | (at_mapUpdate; go_must (refine wpList_mapUpdate_own _ rfl _ _ _ 51 rfl 9 68 law9 Try.underlying51 unitElem w1.heap.size 0 (.map []) rfl (made_set w1 s _) (by unfold maxLen; omega) _ _ _ rfl rfl hkey _ [] unitElem_mk ?_); intro w3 hown3 hg3))
    go_ret
    have k1 : Kp (fun i => i = s ∨ none = some i) w w1 := ⟨hb1.os, hb1.tape, hb1.output, hb1.size, fun i hi _ => hb1.block i hi⟩
    have b1 : Blk w1 s 53 #[.map none] := (hb1.block s hslt).trans hb
    have hne : some s ≠ some w1.heap.size := fun e => Nat.ne_of_lt hsz (Option.some.inj e)
    refine ⟨rfl, some w1.heap.size, .inr ⟨_, rfl, z1⟩, ⟨_, ((b1.set_ 0 (.map (some w1.heap.size))).alloc _).grown hg3 hne, .inr ⟨_, _, rfl, rfl, hown3, keysAre_empty.put tidy_empty (by simp) _⟩⟩, ?_⟩
    exact ((k1.set_ (.inl (.inl rfl)) _).trans (Kp.alloc _ _ _)).then_ (Kp.of_grown hg3) (fun i hi => .inr (by have := Option.some.inj hi; omega))
  · have hT := hown.tidy law9
    have heq := fun (w : World) (r : Option Nat) => run_eql_map_nil (P := Try.prog) w 51 9 68 r Try.underlying51
    have hbs : s ≠ bm := blk_ne_map hb hown
    have hbl := hown.lt
    go_enter Try.func40, Try.ntmps40
    go_wp2_with (first | (go_at_call 37; refine HC.out.mono ?_; rintro e w1 ⟨rfl, hb1⟩; have c1 : w1.cell? ⟨s, 0, none⟩ = some (.map (some bm)) := (hb1.cell (p := ⟨s, 0, none⟩) hslt).trans (hb.cell 0); have k1 : Kp (fun i => i = s ∨ some bm = some i) w w1 := ⟨hb1.os, hb1.tape, hb1.output, hb1.size, fun i hi _ => hb1.block i hi⟩; have b1 : Blk w1 s 53 #[.map (some bm)] := (hb1.block s hslt).trans hb; have o1 := (Kp.mk (S := fun _ => False) hb1.os hb1.tape hb1.output hb1.size (fun i hi _ => hb1.block i hi)).map hown (fun h => h)) | (at_mapUpdate; go_must (refine wpList_mapUpdate_own _ rfl _ _ _ 51 rfl 9 68 law9 Try.underlying51 unitElem bm _ _ rfl o1 hroom _ _ _ rfl rfl hkey _ [] unitElem_mk ?_); intro w3 hown3 hg3))
    go_ret
    refine ⟨rfl, some bm, .inl rfl, ⟨_, b1.grown hg3 (fun e => hbs (Option.some.inj e)), .inr ⟨_, _, rfl, rfl, by simpa using hown3, hD.put hT hin _⟩⟩, ?_⟩
    exact k1.then_ (Kp.of_grown hg3) (fun i hi => .inl (.inr hi))
end Go.Proofs.Ythcnffieoocnkaa.st

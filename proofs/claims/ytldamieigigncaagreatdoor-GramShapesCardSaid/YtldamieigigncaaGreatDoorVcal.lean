import Derived.Test.YtldamieigigncaaGreatDoorVcak
import Derived.Laws.OwnMore
import Derived.RangeFuncNested
import Derived.RangeFuncBound
import Derived.RangeFuncCalls
import Derived.RangeFuncLeaves
import Derived.RangeFuncBox
import Derived.Shelf.Abstract
import Derived.Shelf.RegionOpen
import Derived.OwnWalkIn
import Derived.TacticsInMore
import Derived.LoopNIn
import Derived.LoopIn
import Derived.Shelf.Slices.In.SortAlone
import Derived.Shelf.Slices.In.SortNone
import Derived.Sort.EveryDepth
import Derived.Sort.OwnSorted
namespace Go.Proofs.YtldamieigigncaaGreatDoor.lx
open Go.ChangeShapes Go.WideShapes Go.ChangeAt Go.RowKit
set_option linter.unusedVariables false
attribute [local go_sem] run_store_float
abbrev Rl := Nat × List Int × Nat
def sv (x : List UInt8) : Value := .string (S x)
def iv (x : Int) : Value := .int .i64 x
def Fr (gl : Nat) (tv vv rv av : Value) (g : Nat) : Prop := g ≠ gl ∧ tv.ownBlock ≠ some g ∧ vv.ownBlock ≠ some g ∧ rv.ownBlock ≠ some g ∧ av.ownBlock ≠ some g
def FrX (X : Nat → Prop) (gl : Nat) (tv vv rv av : Value) (g : Nat) : Prop := Fr gl tv vv rv av g ∧ X g
def rcells : List Rl → List Value → List Value
  | r :: rs, u :: us => [.int .i64 r.1, u, .float .f64 r.2.2] ++ rcells rs us
  | _, _ => []
def Apt (us : List Value) : Prop := us.Pairwise (fun a b => a.ownBlock = none ∨ a.ownBlock ≠ b.ownBlock)
def RlW (B N : Nat) (w : World) (rv : Value) (rs : List Rl) : Prop := ∃ us : List Value, us.length = rs.length ∧ w.ownsRow B 41 3 rv rs.length (rcells rs us) ∧ (∀ (j : Nat) (r : Rl), rs[j]? = some r → ∃ u, us[j]? = some u ∧ w.ownsRow B 3 1 u r.2.1.length (r.2.1.map iv) ∧ ∀ g, u.ownBlock = some g → g < N) ∧ Apt us
def AlW (B : Nat) (A : Nat → Prop) (w : World) (av : Value) (ls : List (List Altn)) : Prop := ∃ us : List Value, us.length = ls.length ∧ w.ownsRow B 64 1 av ls.length us ∧ ∀ (j : Nat) (bs : List Altn), ls[j]? = some bs → ∃ (u : Value) (k : Nat), us[j]? = some u ∧ AltsAt k w A u bs
structure LdW (X : Nat → Prop) (gl B N : Nat) (tv vv rv av : Value) (l : Ld) (w : World) : Prop where
  box : Blk w gl 62 #[tv, vv, rv, av, .int .i64 l.last]
  ge : B ≤ gl
  ts : w.ownsRow B 9 1 tv l.terms.length (l.terms.map sv)
  vs : w.ownsRow B 9 1 vv l.vars.length (l.vars.map sv)
  ap : tv.ownBlock = none ∨ tv.ownBlock ≠ vv.ownBlock
  rs : RlW B N w rv l.rules
  al : AlW B (FrX X gl tv vv rv av) w av l.alts
  nx : ∀ g, w.heap.size ≤ g → X g
theorem own_blk {w : World} {B s n : Nat} {e : TypeId} {v : Value} {xs : List Value} (h : w.ownsRow B e s v n xs) {g : Nat} (hg : v.ownBlock = some g) : ∃ cur, w.heap[g]? = some (.cells cur e (0, 0)) := by
  rcases h.2 with ⟨h, _⟩ | ⟨q, cap, cur, e1, hB, hh, _⟩
  · rw [h] at hg; cases hg
  · rw [e1] at hg
    have hg : some q = some g := hg
    cases hg
    exact ⟨cur, hh⟩
theorem typ_ne {w : World} {g : Nat} {e e' : TypeId} {c c' : Array Value} (h : w.heap[g]? = some (.cells c e (0, 0))) (h' : w.heap[g]? = some (.cells c' e' (0, 0))) : e = e' := by
  rw [h] at h'
  have := Option.some.inj h'
  injection this
theorem apart2 {w : World} {B B' s s' n n' : Nat} {e e' : TypeId} {v v' : Value} {xs xs' : List Value} (h : w.ownsRow B e s v n xs) (h' : w.ownsRow B' e' s' v' n' xs') (hne : e ≠ e') {g : Nat} (hg : v.ownBlock = some g) : v'.ownBlock ≠ some g := fun h2 => by
  obtain ⟨c, hc⟩ := own_blk h hg
  obtain ⟨c', hc'⟩ := own_blk h' h2
  exact hne (typ_ne hc hc')
theorem apartB {w : World} {B s n gl : Nat} {e e' : TypeId} {v : Value} {xs : List Value} {cs : Array Value} (h : w.ownsRow B e s v n xs) (hb : Blk w gl e' cs) (hne : e ≠ e') : v.ownBlock ≠ some gl := fun h2 => by
  obtain ⟨c, hc⟩ := own_blk h h2
  exact hne (typ_ne hc hb)
theorem LdW.int_free {X : Nat → Prop} {gl B N : Nat} {tv vv rv av : Value} {l : Ld} {w : World} (h : LdW X gl B N tv vv rv av l w) {B' n : Nat} {u : Value} {xs : List Value} (ho : w.ownsRow B' 3 1 u n xs) {g : Nat} (hg : u.ownBlock = some g) : Fr gl tv vv rv av g := by
  obtain ⟨us, _, hr, _⟩ := h.rs
  obtain ⟨as_, _, ha, _⟩ := h.al
  refine ⟨fun e => ?_, apart2 ho h.ts (by decide) hg, apart2 ho h.vs (by decide) hg, apart2 ho hr (by decide) hg, apart2 ho ha (by decide) hg⟩
  subst e
  exact apartB ho h.box (by decide) hg
def Nw (w : World) (v v' : Value) : Prop := v'.ownBlock = v.ownBlock ∨ ∀ g, v'.ownBlock = some g → w.heap.size ≤ g
theorem Nw.refl (w : World) (v : Value) : Nw w v v := .inl rfl
theorem Nw.trans {w w' : World} {a b c : Value} (h : Nw w a b) (k : Nw w' b c) (hs : w.heap.size ≤ w'.heap.size) : Nw w a c := by
  rcases k with k | k
  · rcases h with h | h
    · exact .inl (k.trans h)
    · exact .inr (fun g hg => h g (k ▸ hg))
  · exact .inr (fun g hg => Nat.le_trans hs (k g hg))
structure LdK (gl : Nat) (tv vv rv av tv' vv' rv' av' : Value) (w w' : World) : Prop where
  kp : Kp (fun g => ¬ Fr gl tv vv rv av g) w w'
  n1 : Nw w tv tv'
  n2 : Nw w vv vv'
  n3 : Nw w rv rv'
  n4 : Nw w av av'
section
variable {X : Nat → Prop} {gl B N : Nat} {tv vv rv av tv' vv' rv' av' tv'' vv'' rv'' av'' : Value} {w w' w'' : World}
theorem LdK.refl (gl : Nat) (tv vv rv av : Value) (w : World) : LdK gl tv vv rv av tv vv rv av w w := ⟨Kp.refl _ _, .refl _ _, .refl _ _, .refl _ _, .refl _ _⟩
theorem LdK.free (h : LdK gl tv vv rv av tv' vv' rv' av' w w') {g : Nat} (hg : g < w.heap.size) (hf : Fr gl tv vv rv av g) : Fr gl tv' vv' rv' av' g := by
  have aux : ∀ v v' : Value, Nw w v v' → v.ownBlock ≠ some g → v'.ownBlock ≠ some g := fun v v' hn hv e => by
    rcases hn with hn | hn
    · exact hv (hn ▸ e)
    · have := hn g e; omega
  exact ⟨hf.1, aux _ _ h.n1 hf.2.1, aux _ _ h.n2 hf.2.2.1, aux _ _ h.n3 hf.2.2.2.1, aux _ _ h.n4 hf.2.2.2.2⟩
theorem LdK.trans (h : LdK gl tv vv rv av tv' vv' rv' av' w w') (k : LdK gl tv' vv' rv' av' tv'' vv'' rv'' av'' w' w'') : LdK gl tv vv rv av tv'' vv'' rv'' av'' w w'' :=
  ⟨h.kp.then_ k.kp (fun i hi => by
      by_cases hlt : i < w.heap.size
      · exact .inl (fun hf => hi (h.free hlt hf))
      · exact .inr (by omega)), h.n1.trans k.n1 h.kp.size, h.n2.trans k.n2 h.kp.size, h.n3.trans k.n3 h.kp.size, h.n4.trans k.n4 h.kp.size⟩
theorem LdK.of_below (hb : Below w.heap.size w w') : LdK gl tv vv rv av tv vv rv av w w' := ⟨Kp.of_below hb (Nat.le_refl _), .refl _ _, .refl _ _, .refl _ _, .refl _ _⟩
theorem AlW.keep {A A' : Nat → Prop} {ls : List (List Altn)} {av : Value} (h : AlW B A w av ls) (ho : ∀ g, av.ownBlock = some g → w'.heap[g]? = w.heap[g]?) (hk : ∀ g, g < w.heap.size → A g → A' g ∧ w'.heap[g]? = w.heap[g]?) (hs : w.heap.size ≤ w'.heap.size) : AlW B A' w' av ls := by
  obtain ⟨us, h1, h2, h3⟩ := h
  refine ⟨us, h1, ownsRow_keep h2 (fun g _ hv => ho g hv), fun j bs hj => ?_⟩
  obtain ⟨u, k, e, ha⟩ := h3 j bs hj
  exact ⟨u, k, e, keepsAlts k _ _ _ _ _ _ ha hk hs⟩
theorem RlW.keep {rs : List Rl} {rv : Value} (h : RlW B N w rv rs) (ho : ∀ g, rv.ownBlock = some g → w'.heap[g]? = w.heap[g]?) (hk : ∀ (u : Value) (n : Nat) (xs : List Value) (g : Nat), w.ownsRow B 3 1 u n xs → u.ownBlock = some g → w'.heap[g]? = w.heap[g]?) : RlW B N w' rv rs := by
  obtain ⟨us, h1, h2, h3, h4⟩ := h
  refine ⟨us, h1, ownsRow_keep h2 (fun g _ hv => ho g hv), fun j r hj => ?_, h4⟩
  obtain ⟨u, e, hu, hN⟩ := h3 j r hj
  exact ⟨u, e, ownsRow_keep hu (fun g _ hv => hk u _ _ g hu hv), hN⟩
theorem LdW.below {l : Ld} (h : LdW X gl B N tv vv rv av l w) (hb : Below w.heap.size w w') : LdW X gl B N tv vv rv av l w' := by
  have hk : ∀ g, g < w.heap.size → w'.heap[g]? = w.heap[g]? := fun g hg => hb.block g hg
  have own : ∀ (e : TypeId) (s n : Nat) (v : Value) (xs : List Value), w.ownsRow B e s v n xs → ∀ g, v.ownBlock = some g → w'.heap[g]? = w.heap[g]? := fun e s n v xs ho g hg => hk g (ho.lt g hg).2
  refine ⟨h.box.below hb h.box.lt, h.ge, ownsRow_keep h.ts (fun g hg _ => hk g hg), ownsRow_keep h.vs (fun g hg _ => hk g hg), h.ap, ?_, ?_, fun g hg => h.nx g (Nat.le_trans hb.size hg)⟩
  · obtain ⟨us, _, h2, _⟩ := h.rs
    exact h.rs.keep (own _ _ _ _ _ h2) (fun u n xs g ho hg => own _ _ _ _ _ ho g hg)
  · obtain ⟨us, _, h2, _⟩ := h.al
    exact h.al.keep (own _ _ _ _ _ h2) (fun g hg hA => ⟨hA, hk g hg⟩) hb.size
end
theorem LdW.apart_box {X : Nat → Prop} {gl B N : Nat} {tv vv rv av : Value} {l : Ld} {w : World} (h : LdW X gl B N tv vv rv av l w) : tv.ownBlock ≠ some gl ∧ vv.ownBlock ≠ some gl ∧ rv.ownBlock ≠ some gl ∧ av.ownBlock ≠ some gl := by
  obtain ⟨us, _, hr, _⟩ := h.rs
  obtain ⟨as_, _, ha, _⟩ := h.al
  exact ⟨apartB h.ts h.box (by decide), apartB h.vs h.box (by decide), apartB hr h.box (by decide), apartB ha h.box (by decide)⟩
structure Gr (gl B s n : Nat) (e : TypeId) (v0 v1 : Value) (xs : List Value) (w w' : World) : Prop where
  os : w'.os = w.os
  tape : w'.tape = w.tape
  output : w'.output = w.output
  size : w.heap.size ≤ w'.heap.size
  keep : ∀ g, g < w.heap.size → g ≠ gl → v0.ownBlock ≠ some g → w'.heap[g]? = w.heap[g]?
  nw : v1.ownBlock = v0.ownBlock ∨ ∀ g, v1.ownBlock = some g → w.heap.size ≤ g
  own : w'.ownsRow B e s v1 n xs
theorem gr_of {gl B s n m k : Nat} {e t : TypeId} {v0 v1 : Value} {xs ys : List Value} {w w3 : World} {o : Obj} {cs : Array Value} (hb : Blk w gl t cs) (ho : w.ownsRow B e s v0 m ys) (hne : e ≠ t) (hown : w3.ownsRow B e s v1 n xs) (hg : (w.alloc o).grownBy w3 v0.ownBlock) (hat : v1.ownBlock = v0.ownBlock ∨ v1.ownBlock = some (w.alloc o).heap.size) :
    Gr gl B s n e v0 v1 xs w (w3.setCell ⟨gl, k, none⟩ v1) ∧ Blk w3 gl t cs := by
  have b2 := apartB ho hb hne
  have hl := hb.lt
  have hz : w.heap.size + 1 ≤ w3.heap.size := by have := hg.size; rw [World.size_alloc] at this; exact this
  have hk3 : ∀ g, g < w.heap.size → v0.ownBlock ≠ some g → w3.heap[g]? = w.heap[g]? := fun g hlt hne => (hg.block g (by rw [World.size_alloc]; omega) (fun e => hne e.symm)).trans (Below.heap_alloc w o g hlt)
  have hv' : v1.ownBlock ≠ some gl := fun e => by
    rcases hat with e2 | e2
    · exact b2 (e2 ▸ e)
    · rw [e, World.size_alloc] at e2
      have := Option.some.inj e2
      omega
  refine ⟨⟨hg.os, hg.tape, hg.output, by simp; omega, fun g hlt h1 h2 => (Below.heap_setCell w3 ⟨gl, k, none⟩ _ g h1).trans (hk3 g hlt h2), ?_, ownsRow_keep hown (fun g _ hv => Below.heap_setCell w3 ⟨gl, k, none⟩ _ g (fun e => hv' (by have e : g = gl := e; rw [← e]; exact hv)))⟩, (hk3 gl hl b2).trans hb⟩
  rcases hat with e | e
  · exact .inl e
  · refine .inr (fun g hg => ?_)
    rw [e, World.size_alloc] at hg
    cases hg
    omega
section
variable {X : Nat → Prop} {gl B N : Nat} {tv vv rv av v1 : Value} {l : Ld} {w w' : World} {s n : Nat} {e : TypeId} {v0 : Value} {xs : List Value}
theorem Gr.row (h : Gr gl B s n e v0 v1 xs w w') {B' s' n' : Nat} {e' : TypeId} {v : Value} {ys : List Value} (ho : w.ownsRow B' e' s' v n' ys) (h1 : v.ownBlock ≠ some gl) (h2 : ∀ g, v.ownBlock = some g → v0.ownBlock ≠ some g) : w'.ownsRow B' e' s' v n' ys :=
  ownsRow_keep ho (fun g hg hv => h.keep g hg (fun e => h1 (e ▸ hv)) (h2 g hv))
theorem Gr.rules (h : Gr gl B s n e v0 v1 xs w w') (H : LdW X gl B N tv vv rv av l w) (hv0 : ∀ g, rv.ownBlock = some g → v0.ownBlock ≠ some g) (hi : ∀ g, Fr gl tv vv rv av g → v0.ownBlock ≠ some g) : RlW B N w' rv l.rules :=
  H.rs.keep (fun g hv => by
    obtain ⟨us, _, hr, _⟩ := H.rs
    exact h.keep g (hr.lt g hv).2 (fun e => H.apart_box.2.2.1 (e ▸ hv)) (hv0 g hv)) (fun u n xs g ho hv => h.keep g (ho.lt g hv).2 (H.int_free ho hv).1 (hi g (H.int_free ho hv)))
theorem ap_new {w : World} {a b b' : Value} (h : a.ownBlock = none ∨ a.ownBlock ≠ b.ownBlock) (hn : b'.ownBlock = b.ownBlock ∨ ∀ g, b'.ownBlock = some g → w.heap.size ≤ g) (hl : ∀ g, a.ownBlock = some g → g < w.heap.size) : a.ownBlock = none ∨ a.ownBlock ≠ b'.ownBlock := by
  cases ha : a.ownBlock with
  | none => exact .inl rfl
  | some g =>
    right
    intro e
    rcases hn with hn | hn
    · rw [hn] at e
      rcases h with h | h
      · rw [ha] at h; cases h
      · exact h (ha.trans e)
    · have h1 := hn g e.symm
      have h2 := hl g ha
      omega
theorem ap_new' {w : World} {a a' b : Value} (h : a.ownBlock = none ∨ a.ownBlock ≠ b.ownBlock) (hn : a'.ownBlock = a.ownBlock ∨ ∀ g, a'.ownBlock = some g → w.heap.size ≤ g) (hl : ∀ g, b.ownBlock = some g → g < w.heap.size) : a'.ownBlock = none ∨ a'.ownBlock ≠ b.ownBlock := by
  cases ha : a'.ownBlock with
  | none => exact .inl rfl
  | some g =>
    right
    intro e
    rcases hn with hn | hn
    · rw [ha] at hn
      rcases h with h | h
      · rw [h] at hn; cases hn
      · exact h (hn.symm.trans e)
    · have h1 := hn g ha
      have h2 := hl g e.symm
      omega
theorem LdW.vars_more {x : List UInt8} {w3 : World} {o : Obj} (h : LdW X gl B N tv vv rv av l w)
    (hown : w3.ownsRow B 9 1 v1 (l.vars.length + 1) (l.vars.map sv ++ [sv x])) (hg : (w.alloc o).grownBy w3 vv.ownBlock) (hat : v1.ownBlock = vv.ownBlock ∨ v1.ownBlock = some (w.alloc o).heap.size) :
    LdW X gl B N tv v1 rv av { l with vars := l.vars ++ [x] } (w3.setCell ⟨gl, 1, none⟩ v1) ∧ LdK gl tv vv rv av tv v1 rv av w (w3.setCell ⟨gl, 1, none⟩ v1) := by
  obtain ⟨b1, b2, b3, b4⟩ := h.apart_box
  obtain ⟨hG, hb3⟩ := gr_of (k := 1) h.box h.vs (by decide) hown hg hat
  have hK : LdK gl tv vv rv av tv v1 rv av w (w3.setCell ⟨gl, 1, none⟩ v1) := ⟨⟨hG.os, hG.tape, hG.output, hG.size, fun g hlt hf => by
    have hf := Classical.not_not.1 hf
    exact hG.keep g hlt hf.1 hf.2.2.1⟩, .refl _ _, hG.nw, .refl _ _, .refl _ _⟩
  obtain ⟨us, hu1, hr, hu3⟩ := h.rs
  obtain ⟨as_, ha1, ha, ha3⟩ := h.al
  have hRU := hG.rules h (fun g hv => apart2 hr h.vs (by decide) hv) (fun g hf => hf.2.2.1)
  refine ⟨⟨hb3.set_ 1 v1, h.ge, hG.row h.ts b1 (fun g hv e => ?_), ?_, ap_new h.ap hG.nw (fun g hg => (h.ts.lt g hg).2), hRU, ?_, fun g hg => h.nx g (Nat.le_trans hK.kp.size hg)⟩, hK⟩
  · rcases h.ap with h0 | h0
    · rw [hv] at h0; cases h0
    · exact h0 (hv.trans e.symm)
  · show World.ownsRow _ B 9 1 v1 (l.vars ++ [x]).length ((l.vars ++ [x]).map sv)
    rw [List.length_append, List.map_append]
    exact hG.own
  · exact h.al.keep (fun g hv => hG.keep g (ha.lt g hv).2 (fun e => b4 (e ▸ hv)) (apart2 ha h.vs (by decide) hv)) (fun g hlt hA => ⟨⟨hK.free hlt hA.1, hA.2⟩, hG.keep g hlt hA.1.1 hA.1.2.2.1⟩) hG.size
theorem LdW.terms_more {x : List UInt8} {w3 : World} {o : Obj} (h : LdW X gl B N tv vv rv av l w)
    (hown : w3.ownsRow B 9 1 v1 (l.terms.length + 1) (l.terms.map sv ++ [sv x])) (hg : (w.alloc o).grownBy w3 tv.ownBlock) (hat : v1.ownBlock = tv.ownBlock ∨ v1.ownBlock = some (w.alloc o).heap.size) :
    LdW X gl B N v1 vv rv av { l with terms := l.terms ++ [x] } (w3.setCell ⟨gl, 0, none⟩ v1) ∧ LdK gl tv vv rv av v1 vv rv av w (w3.setCell ⟨gl, 0, none⟩ v1) := by
  obtain ⟨b1, b2, b3, b4⟩ := h.apart_box
  obtain ⟨hG, hb3⟩ := gr_of (k := 0) h.box h.ts (by decide) hown hg hat
  have hK : LdK gl tv vv rv av v1 vv rv av w (w3.setCell ⟨gl, 0, none⟩ v1) := ⟨⟨hG.os, hG.tape, hG.output, hG.size, fun g hlt hf => by
    have hf := Classical.not_not.1 hf
    exact hG.keep g hlt hf.1 hf.2.1⟩, hG.nw, .refl _ _, .refl _ _, .refl _ _⟩
  obtain ⟨us, hu1, hr, hu3⟩ := h.rs
  obtain ⟨as_, ha1, ha, ha3⟩ := h.al
  have hRU := hG.rules h (fun g hv => apart2 hr h.ts (by decide) hv) (fun g hf => hf.2.1)
  refine ⟨⟨hb3.set_ 0 v1, h.ge, ?_, hG.row h.vs b2 (fun g hv e => ?_), ap_new' h.ap hG.nw (fun g hg => (h.vs.lt g hg).2), hRU, ?_, fun g hg => h.nx g (Nat.le_trans hK.kp.size hg)⟩, hK⟩
  · show World.ownsRow _ B 9 1 v1 (l.terms ++ [x]).length ((l.terms ++ [x]).map sv)
    rw [List.length_append, List.map_append]
    exact hG.own
  · rcases h.ap with h0 | h0
    · rw [h0] at e; cases e
    · exact h0 (e.trans hv.symm)
  · exact h.al.keep (fun g hv => hG.keep g (ha.lt g hv).2 (fun e => b4 (e ▸ hv)) (apart2 ha h.ts (by decide) hv)) (fun g hlt hA => ⟨⟨hK.free hlt hA.1, hA.2⟩, hG.keep g hlt hA.1.1 hA.1.2.1⟩) hG.size
theorem LdW.alts_more {bs : List Altn} {u : Value} {k : Nat} {w3 : World} {us : List Value} (h : LdW X gl B N tv vv rv av l w) (hus : us.length = l.alts.length) (hoa : w.ownsRow B 64 1 av l.alts.length us) (hua : ∀ (j : Nat) (bs : List Altn), l.alts[j]? = some bs → ∃ (u : Value) (k : Nat), us[j]? = some u ∧ AltsAt k w (FrX X gl tv vv rv av) u bs)
    (hu : AltsAt k w (FrX X gl tv vv rv av) u bs) (hown : w3.ownsRow B 64 1 v1 (l.alts.length + 1) (us ++ [u])) (hg : (w.alloc (.cells #[u] 64)).grownBy w3 av.ownBlock) (hat : v1.ownBlock = av.ownBlock ∨ v1.ownBlock = some (w.alloc (.cells #[u] 64)).heap.size) :
    LdW X gl B N tv vv rv v1 { l with alts := l.alts ++ [bs] } (w3.setCell ⟨gl, 3, none⟩ v1) ∧ LdK gl tv vv rv av tv vv rv v1 w (w3.setCell ⟨gl, 3, none⟩ v1) := by
  obtain ⟨b1, b2, b3, b4⟩ := h.apart_box
  obtain ⟨hG, hb3⟩ := gr_of (k := 3) h.box hoa (by decide) hown hg hat
  have hK : LdK gl tv vv rv av tv vv rv v1 w (w3.setCell ⟨gl, 3, none⟩ v1) := ⟨⟨hG.os, hG.tape, hG.output, hG.size, fun g hlt hf => by
    have hf := Classical.not_not.1 hf
    exact hG.keep g hlt hf.1 hf.2.2.2.2⟩, .refl _ _, .refl _ _, .refl _ _, hG.nw⟩
  obtain ⟨rs, hu1, hr, hu3⟩ := h.rs
  have hRU := hG.rules h (fun g hv => apart2 hr hoa (by decide) hv) (fun g hf => hf.2.2.2.2)
  refine ⟨⟨hb3.set_ 3 v1, h.ge, hG.row h.ts b1 (fun g hv => apart2 h.ts hoa (by decide) hv), hG.row h.vs b2 (fun g hv => apart2 h.vs hoa (by decide) hv), h.ap, hRU, ⟨us ++ [u], by simp [hus], ?_, fun j cs hj => ?_⟩, fun g hg => h.nx g (Nat.le_trans hK.kp.size hg)⟩, hK⟩
  · show World.ownsRow _ B 64 1 v1 (l.alts ++ [bs]).length (us ++ [u])
    rw [List.length_append]
    exact hG.own
  · have kp : ∀ (k : Nat) (u : Value) (cs : List Altn), AltsAt k w (FrX X gl tv vv rv av) u cs → AltsAt k (w3.setCell ⟨gl, 3, none⟩ v1) (FrX X gl tv vv rv v1) u cs := fun k u cs ha => keepsAlts k _ _ _ _ _ _ ha (fun g hlt hA => ⟨⟨hK.free hlt hA.1, hA.2⟩, hG.keep g hlt hA.1.1 hA.1.2.2.2.2⟩) hG.size
    by_cases hlt : j < l.alts.length
    · have hj' : l.alts[j]? = some cs := by
        have hj : (l.alts ++ [bs])[j]? = some cs := hj
        rwa [List.getElem?_append_left hlt] at hj
      obtain ⟨u', k', e, ha⟩ := hua j cs hj'
      exact ⟨u', k', by rw [List.getElem?_append_left (by omega)]; exact e, kp _ _ _ ha⟩
    · have hj0 : (l.alts ++ [bs])[j]? = some cs := hj
      have hjl : j = l.alts.length := by
        have := (List.getElem?_eq_some_iff.1 hj0).1
        rw [List.length_append] at this
        simp at this
        omega
      subst hjl
      rw [List.getElem?_append_right (Nat.le_refl _), Nat.sub_self] at hj0
      have hj0 : some bs = some cs := hj0
      cases hj0
      exact ⟨u, k, by rw [List.getElem?_append_right (by omega), hus, Nat.sub_self]; rfl, kp _ _ _ hu⟩
theorem LdW.rules_more {r : Rl} {u : Value} {w3 : World} {us : List Value} {N0 : Nat} (h : LdW X gl B N tv vv rv av l w) (hN0 : ∀ g, u.ownBlock = some g → N ≤ g) (hu : w.ownsRow B 3 1 u r.2.1.length (r.2.1.map iv)) (hus : us.length = l.rules.length) (hor : w.ownsRow B 41 3 rv l.rules.length (rcells l.rules us)) (hur : ∀ (j : Nat) (r : Rl), l.rules[j]? = some r → ∃ u, us[j]? = some u ∧ w.ownsRow B 3 1 u r.2.1.length (r.2.1.map iv) ∧ ∀ g, u.ownBlock = some g → g < N) (hap : Apt us)
    (hN : N0 = (w3.setCell ⟨gl, 2, none⟩ v1).heap.size) (hown : w3.ownsRow B 41 3 v1 (l.rules.length + 1) (rcells l.rules us ++ [.int .i64 r.1, u, .float .f64 r.2.2])) (hg : (w.alloc (.cells #[.int .i64 r.1, u, .float .f64 r.2.2] 41)).grownBy w3 rv.ownBlock) (hat : v1.ownBlock = rv.ownBlock ∨ v1.ownBlock = some (w.alloc (.cells #[.int .i64 r.1, u, .float .f64 r.2.2] 41)).heap.size) :
    LdW X gl B N0 tv vv v1 av { l with rules := l.rules ++ [r] } (w3.setCell ⟨gl, 2, none⟩ v1) ∧ LdK gl tv vv rv av tv vv v1 av w (w3.setCell ⟨gl, 2, none⟩ v1) := by
  subst hN
  obtain ⟨b1, b2, b3, b4⟩ := h.apart_box
  obtain ⟨hG, hb3⟩ := gr_of (k := 2) h.box hor (by decide) hown hg hat
  have hK : LdK gl tv vv rv av tv vv v1 av w (w3.setCell ⟨gl, 2, none⟩ v1) := ⟨⟨hG.os, hG.tape, hG.output, hG.size, fun g hlt hf => by
    have hf := Classical.not_not.1 hf
    exact hG.keep g hlt hf.1 hf.2.2.2.1⟩, .refl _ _, .refl _ _, hG.nw, .refl _ _⟩
  obtain ⟨as_, ha1, ha, ha3⟩ := h.al
  have rowI : ∀ (u : Value) (n : Nat) (xs : List Value), w.ownsRow B 3 1 u n xs → (w3.setCell ⟨gl, 2, none⟩ v1).ownsRow B 3 1 u n xs := fun u n xs ho => hG.row ho (apartB ho h.box (by decide)) (fun g hv => apart2 ho hor (by decide) hv)
  have rc : ∀ (rs : List Rl) (vs : List Value), vs.length = rs.length → rcells (rs ++ [r]) (vs ++ [u]) = rcells rs vs ++ [.int .i64 r.1, u, .float .f64 r.2.2] := by
    intro rs
    induction rs with
    | nil =>
      intro vs hv
      obtain rfl := List.length_eq_zero_iff.1 hv
      simp [rcells]
    | cons a rs ih =>
      intro vs hv
      cases vs with
      | nil => simp at hv
      | cons v vs => simp [rcells, ih vs (by simpa using hv)]
  refine ⟨⟨hb3.set_ 2 v1, h.ge, hG.row h.ts b1 (fun g hv => apart2 h.ts hor (by decide) hv), hG.row h.vs b2 (fun g hv => apart2 h.vs hor (by decide) hv), h.ap, ⟨us ++ [u], by simp [hus], ?_, fun j q hj => ?_, ?_⟩, ?_, fun g hg => h.nx g (Nat.le_trans hK.kp.size hg)⟩, hK⟩
  · show World.ownsRow _ B 41 3 v1 (l.rules ++ [r]).length (rcells (l.rules ++ [r]) (us ++ [u]))
    rw [List.length_append, rc _ _ hus]
    exact hG.own
  · have hj0 : (l.rules ++ [r])[j]? = some q := hj
    by_cases hlt : j < l.rules.length
    · rw [List.getElem?_append_left hlt] at hj0
      obtain ⟨u', e, ho, hN⟩ := hur j q hj0
      exact ⟨u', by rw [List.getElem?_append_left (by omega)]; exact e, rowI _ _ _ ho, fun g hv => Nat.lt_of_lt_of_le (ho.lt g hv).2 hG.size⟩
    · have hjl : j = l.rules.length := by
        have := (List.getElem?_eq_some_iff.1 hj0).1
        rw [List.length_append] at this
        simp at this
        omega
      subst hjl
      rw [List.getElem?_append_right (Nat.le_refl _), Nat.sub_self] at hj0
      have hj0 : some r = some q := hj0
      cases hj0
      exact ⟨u, by rw [List.getElem?_append_right (by omega), hus, Nat.sub_self]; rfl, rowI _ _ _ hu, fun g hv => Nat.lt_of_lt_of_le (hu.lt g hv).2 hG.size⟩
  · unfold Apt
    rw [List.pairwise_append]
    refine ⟨hap, by simp, fun a ha b hb => ?_⟩
    rw [List.mem_singleton] at hb
    subst hb
    obtain ⟨j, hj, rfl⟩ := List.getElem_of_mem ha
    obtain ⟨u', e, ho, hN⟩ := hur j _ (List.getElem?_eq_getElem (by omega))
    rw [List.getElem?_eq_getElem hj] at e
    cases e
    cases hv : (us[j]).ownBlock with
    | none => exact .inl rfl
    | some g =>
      right
      intro e3
      have h5 := hN g hv
      have h6 := hN0 g e3.symm
      omega
  · exact h.al.keep (fun g hv => hG.keep g (ha.lt g hv).2 (fun e => b4 (e ▸ hv)) (apart2 ha hor (by decide) hv)) (fun g hlt hA => ⟨⟨hK.free hlt hA.1, hA.2⟩, hG.keep g hlt hA.1.1 hA.1.2.2.2.1⟩) hG.size
theorem LdW.last_set {n : Nat} (h : LdW X gl B N tv vv rv av l w) : LdW X gl B N tv vv rv av { l with last := n } (w.setCell ⟨gl, 4, none⟩ (.int .i64 n)) ∧ LdK gl tv vv rv av tv vv rv av w (w.setCell ⟨gl, 4, none⟩ (.int .i64 n)) := by
  obtain ⟨b1, b2, b3, b4⟩ := h.apart_box
  have hk : ∀ g, g ≠ gl → (w.setCell ⟨gl, 4, none⟩ (.int .i64 n)).heap[g]? = w.heap[g]? := fun g hg => Below.heap_setCell w ⟨gl, 4, none⟩ _ g hg
  have row : ∀ (B' s' n' : Nat) (e' : TypeId) (v : Value) (ys : List Value), w.ownsRow B' e' s' v n' ys → v.ownBlock ≠ some gl → (w.setCell ⟨gl, 4, none⟩ (.int .i64 n)).ownsRow B' e' s' v n' ys := fun B' s' n' e' v ys ho h1 => ownsRow_keep ho (fun g hg hv => hk g (fun e => h1 (e ▸ hv)))
  refine ⟨⟨h.box.set_ 4 _, h.ge, row _ _ _ _ _ _ h.ts b1, row _ _ _ _ _ _ h.vs b2, h.ap, h.rs.keep (fun g hv => hk g (fun e => b3 (e ▸ hv))) (fun u n xs g ho hv => hk g (h.int_free ho hv).1), h.al.keep (fun g hv => hk g (fun e => b4 (e ▸ hv))) (fun g hlt hA => ⟨hA, hk g hA.1.1⟩) (by simp), fun g hg => h.nx g (by simpa using hg)⟩, ⟨⟨rfl, rfl, rfl, by simp, fun g hlt hf => hk g (Classical.not_not.1 hf).1⟩, .refl _ _, .refl _ _, .refl _ _, .refl _ _⟩⟩
end
theorem info_str : (Tryz.prog.info? 9).map (fun i => (i.zero, i.size, i.bytes)) = some (some (.string ⟨#[]⟩), 1, 16) := by kernel_rfl
theorem new_one (w : World) (t : TypeId) (v : Value) : ∀ j u, [v][j]? = some u → (w.alloc (.cells #[v] t)).cell? ((⟨w.heap.size, 0, none⟩ : Addr).add j) = some u := fun j u h => new_cells w t [v] j u h
def LdV (X : Nat → Prop) (gl B N : Nat) (tv vv rv av : Value) (w : World) (x : LR Ld) (e : Ending) (w' : World) : Prop := match x with
  | .error q => e = .panicked [{ v := WrongG q.1 q.2, recovered := false }] ∧ Below B w w'
  | .ok l' => e = .returned (.tuple #[]) ∧ ∃ tv' vv' rv' av', LdW X gl B N tv' vv' rv' av' l' w' ∧ LdK gl tv vv rv av tv' vv' rv' av' w w'
set_option maxRecDepth 100000 in
set_option maxHeartbeats 2000000 in
theorem add_any {X : Nat → Prop} {gl B N : Nat} {tv vv rv av : Value} {l : Ld} {w : World} (h : LdW X gl B N tv vv rv av l w) (hv : l.vars.length ≤ 64) (x : List UInt8) (p : Nat) : Calls Tryz.prog 63 #[.pointer (some ⟨gl, 0, none⟩), .string (S x), .int .i64 p] w fun e w' => LdV X gl B N tv vv rv av w (ldAdd l x p) e w' := by
  have H := Lib.hid h
  have c1 : w.cell? ⟨gl, 1, none⟩ = some vv := h.box.cell 1
  have hl := h.box.lt
  have HV := Lib.hid h.vs
  obtain ⟨vo, vc, rfl⟩ := own_form h.vs
  have hf := gfail_any w 7 p
  rw [show ldAdd l x p = if l.vars.length = 64 then .error (7, p) else .ok { l with vars := l.vars ++ [x] } from rfl]
  generalize hn : l.vars.length = n at *
  have HN := Lib.hid hn
  clear h hn
  by_cases h64 : n = 64
  · rw [if_pos h64]
    go_enter Tryz.func63, Tryz.ntmps63
    subst h64
    go_wp2_with fail
    refine hf.mono ?_
    rintro e w' ⟨rfl, rfl⟩
    exact ⟨rfl, rfl, Below.refl _ _⟩
  · rw [if_neg h64]
    have hn7 : ((n : Int) == 64) = false := by rw [beq_eq_false_iff_ne]; omega
    go_enter Tryz.func63, Tryz.ntmps63
    obtain ⟨i1, ki, kz0, kz1, kz2⟩ := info_parts info_str
    go_wp2_with (at_builtin; refine wpList_append_own_at _ rfl _ _ 23 rfl B 9 i1 (.string ⟨#[]⟩) 1 16 Tryz.underlying23 ki kz0 kz1 kz2 rfl (by decide) _ n (l.vars.map sv) rfl (HV.out.alloc _) ⟨w.heap.size, 0, none⟩ 1 1 [sv x] rfl rfl (new_one _ _ _) (by intro z hz; rw [List.mem_singleton.1 hz]; rfl) (by unfold maxLen; omega) (by omega) (by rw [World.size_alloc]; have := H.out.ge; have := H.out.box.lt; omega) ?_; intro v3 w3 hown3 hg3 _ hat3; obtain ⟨vo3, vc3, rfl⟩ := own_form hown3; have hb3 := Blk.grown (H.out.box.alloc (.cells #[sv x] 9)) hg3 (fun e => H.out.apart_box.2.1 e.symm); have hc3 := hb3.cell 1; have hf3 := hb3.frozen 1; have hl3 := hb3.lt)
    go_end0
    have hst := H.out.vars_more (v1 := .slice vo3 (n + 1) vc3) (x := x) (by rw [HN.out]; exact hown3) hg3 hat3
    exact ⟨rfl, _, _, _, _, hst.1, hst.2⟩
end Go.Proofs.YtldamieigigncaaGreatDoor.lx

namespace Go.Proofs.YtldamieigigncaaGreatDoor.lx
open Go.ChangeShapes Go.WideShapes Go.ChangeAt Go.RowKit Go.Maps Go.WideMaps Go.WideElems Go.Shelf
set_option linter.unusedVariables false
set_option linter.unusedSimpArgs false
attribute [local go_sem] Oper.semAt_some
def SUnder (n₀ : Nat) (W : World) (ao : Option Addr) (zs : List (List UInt8)) : Prop := ∀ j, j < zs.length → ∃ a : Addr, ao = some a ∧ a.block < n₀ ∧ W.cell? (a.add j) = some (sv (zs.getD j []))
def KbS (n₀ Bs : Nat) (W W' : World) : Prop := Below n₀ W W' ∧ ∀ v, W.cell? ⟨Bs, 0, none⟩ = some v → W'.cell? ⟨Bs, 0, none⟩ = some v
theorem KbS.refl (n₀ Bs : Nat) (W : World) : KbS n₀ Bs W W := ⟨Below.refl _ _, fun _ h => h⟩
theorem KbS.trans {n₀ Bs : Nat} {A B C : World} (h : KbS n₀ Bs A B) (k : KbS n₀ Bs B C) : KbS n₀ Bs A C := ⟨h.1.trans k.1, fun v hv => k.2 v (h.2 v hv)⟩
theorem addb (a : Addr) (k : Nat) : (a.add k).block = a.block := by unfold Addr.add; split <;> rfl
set_option maxRecDepth 100000 in
set_option maxHeartbeats 2000000 in
theorem vals1_in (F : Fence) (n : Nat) (h7 : F.fn 92) (hro : F.round = none) (hn : 1 ≤ n) (l Bs n₀ cap : Nat) (ao : Option Addr) (zs : List (List UInt8)) (hreach : zs.length ≤ 100000) (J Jx : List (List UInt8) → World → Prop)
    (hY : ∀ pre x W, J pre W → pre.length < zs.length → YieldAt F (n - 1) Tryz.prog l #[sv x] W fun e W' =>
      (e = .returned (.bool true) ∧ J (pre ++ [x]) W' ∧ KbS n₀ Bs W W') ∨ (e = .returned (.bool false) ∧ Jx (pre ++ [x]) W'))
    (W : World) (hBs : W.cell? ⟨Bs, 0, none⟩ = some (.slice ao zs.length cap)) (hc : SUnder n₀ W ao zs) (h0 : J [] W) :
    CallsIn F n Tryz.prog 92 #[.func (.yield l) #[] #[], .pointer (some ⟨Bs, 0, none⟩)] W fun e W' => (∃ v, e = .returned v) ∧
      ((∃ ys, ys = zs ∧ J ys W') ∨ (∃ pre, (∃ k, k ≤ zs.length ∧ pre = zs.take k) ∧ Jx pre W')) := by
  have HC := Lib.hid hc
  clear hc
  refine callsIn_of_wp Tryz.func92 rfl h7 ?_ hro
  simp only [Tryz.ntmps92, List.size_toArray, List.length_cons, List.length_nil, Nat.reduceAdd, Nat.reduceSub, Array.replicate_succ, Array.replicate_zero, List.push_toArray, List.append_toArray, List.nil_append, List.cons_append]
  gi_wp2
  gi_loopw [7] (fun i wr => ∃ m : Nat, m ≤ zs.length ∧ i = .int .i64 (m : Int) ∧ J (zs.take m) wr ∧ KbS n₀ Bs W wr)
    (fun i _ => zs.length - (intOf i).toNat)
  case atStart => exact ⟨0, Nat.zero_le _, rfl, h0, KbS.refl _ _ _⟩
  case round =>
    obtain ⟨m, hk, rfl, hJs, hnx⟩ := hrel
    have hcb : wr.cell? ⟨Bs, 0, none⟩ = some (.slice ao zs.length cap) := hnx.2 _ hBs
    by_cases hlt : m < zs.length
    · obtain ⟨a, rfl, hab, hca⟩ := HC.out m hlt
      have hcx : wr.cell? (a.add m) = some (sv (zs.getD m [])) := (hnx.1.cell (p := a.add m) (by rw [addb]; exact hab)).trans hca
      have hup : zs.take (m + 1) = zs.take m ++ [zs.getD m []] := by
        rw [List.take_add_one, List.getD_eq_getElem?_getD, List.getElem?_eq_getElem hlt]
        rfl
      obtain ⟨fn, tmps, assign, body, hy, hR⟩ := hY _ (zs.getD m []) wr hJs (by rw [List.length_take]; omega)
      have HU := Lib.hid hup
      clear hup hca
      generalize zs.getD m [] = z at *
      unfold sv at hcx hy
      gi_wp2
      refine hR.mono ?_
      rintro e W3 (⟨rfl, hJ3, hk3⟩ | ⟨rfl, hJx3⟩)
      · gi_wp2
        go_roundw
        case rel => exact ⟨m + 1, by omega, congrArg (Value.int .i64) (by omega), by rw [HU.out]; exact hJ3, hnx.trans hk3⟩
        case measure => simp only [intOf]; omega
      · gi_wp2
        refine bodyPost_ret (results_none rfl _ _ _) rfl ?_
        exact ⟨⟨_, rfl⟩, .inr ⟨_, ⟨m + 1, by omega, HU.out.symm⟩, hJx3⟩⟩
    · have hmn : m = zs.length := by omega
      rw [hmn, List.take_length] at hJs
      gi_wp2
      go_end0
      exact ⟨⟨_, rfl⟩, .inl ⟨_, rfl, hJs⟩⟩
set_option maxHeartbeats 1000000 in
theorem vals_in (F : Fence) (n : Nat) (h5 : F.fn 66) (hro : F.round = none) (a : Option Addr) (len cap : Nat) (w : World) :
    CallsIn F n Tryz.prog 66 #[.slice a len cap] w fun e w' => e = .returned (.func (.func 92) #[] #[.pointer (some ⟨w.heap.size, 0, none⟩)]) ∧ w' = w.alloc (.cells #[.slice a len cap] 23) := by
  refine callsIn_of_wp Tryz.func66 rfl h5 ?_ hro
  simp only [Tryz.ntmps66, List.size_toArray, List.length_cons, List.length_nil, Nat.reduceAdd, Nat.reduceSub, Array.replicate_succ, Array.replicate_zero, List.push_toArray, List.append_toArray, List.nil_append, List.cons_append]
  gi_wp2
  go_ret
  exact ⟨rfl, rfl⟩
theorem vals_stops (F : Fence) (n : Nat) (h7 : F.fn 92) (hro : F.round = none) (hn : 1 ≤ n) (Bs n₀ cap : Nat) (ao : Option Addr) (zs : List (List UInt8)) (hreach : zs.length ≤ 100000) (w : World) (hB0 : Bs < w.heap.size) (hn₀ : n₀ ≤ w.heap.size)
    (hc : w.cell? ⟨Bs, 0, none⟩ = some (.slice ao zs.length cap)) (hI : SUnder n₀ w ao zs) :
    SeqStopsK F n Tryz.prog 92 #[.pointer (some ⟨Bs, 0, none⟩)] (fun x : List UInt8 => #[sv x]) (KbS n₀ Bs) (fun ys => ys = zs)
      (fun pre => ∃ k, k ≤ zs.length ∧ pre = zs.take k) zs.length w := fun l J Jx W hW _ _ hY h0 =>
  vals1_in F n h7 hro hn l Bs n₀ cap ao zs hreach J Jx hY W ((hW.cell (p := ⟨Bs, 0, none⟩) hB0).trans hc) (fun j hj => by
    obtain ⟨a, e, hab, hca⟩ := hI j hj
    exact ⟨a, e, hab, (hW.cell (p := a.add j) (by rw [addb]; exact Nat.lt_of_lt_of_le hab hn₀)).trans hca⟩) h0
end Go.Proofs.YtldamieigigncaaGreatDoor.lx

namespace Go.Proofs
section
open Go.Shelf
def Tryz.lays190_ren : Go.Shelf.Ren := ⟨fun | 190 => 91 | 125 => 126 | 258 => 125 | 128 => 154 | 129 => 155 | 302 => 145 | 303 => 146 | 304 => 147 | 305 => 148 | 306 => 149 | 307 => 150 | 308 => 151 | 309 => 152 | 310 => 153 | 333 => 168 | 329 => 169 | 330 => 170 | 334 => 171 | 335 => 172 | 336 => 173 | 344 => 196 | n => n, fun | 31 => 23 | 9 => 9 | 3 => 3 | 46 => 147 | 0 => 0 | 51 => 208 | 53 => 87 | 4 => 4 | 183 => 200 | 182 => 199 | 131 => 205 | 5 => 5 | 218 => 219 | 222 => 223 | 228 => 247 | 229 => 43 | n => n, fun | n => n⟩
theorem Tryz.lays190 : Go.Proofs.Lays.n190 Tryz.prog Tryz.lays190_ren := {
  mixed := by kernel_rfl
  f125 := Tryz.func126.trans (congrArg some (by kernel_rfl))
  f128 := Tryz.func154.trans (congrArg some (by kernel_rfl))
  f129 := Tryz.func155.trans (congrArg some (by kernel_rfl))
  f190 := Tryz.func91.trans (congrArg some (by kernel_rfl))
  f258 := Tryz.func125.trans (congrArg some (by kernel_rfl))
  f302 := Tryz.func145.trans (congrArg some (by kernel_rfl))
  f303 := Tryz.func146.trans (congrArg some (by kernel_rfl))
  f304 := Tryz.func147.trans (congrArg some (by kernel_rfl))
  f305 := Tryz.func148.trans (congrArg some (by kernel_rfl))
  f306 := Tryz.func149.trans (congrArg some (by kernel_rfl))
  f307 := Tryz.func150.trans (congrArg some (by kernel_rfl))
  f308 := Tryz.func151.trans (congrArg some (by kernel_rfl))
  f309 := Tryz.func152.trans (congrArg some (by kernel_rfl))
  f310 := Tryz.func153.trans (congrArg some (by kernel_rfl))
  f329 := Tryz.func169.trans (congrArg some (by kernel_rfl))
  f330 := Tryz.func170.trans (congrArg some (by kernel_rfl))
  f333 := Tryz.func168.trans (congrArg some (by kernel_rfl))
  f334 := Tryz.func171.trans (congrArg some (by kernel_rfl))
  f335 := Tryz.func172.trans (congrArg some (by kernel_rfl))
  f336 := Tryz.func173.trans (congrArg some (by kernel_rfl))
  f344 := Tryz.func196.trans (congrArg some (by kernel_rfl))
  t0 := Tryz.underlying0
  a0 := Tryz.isAgg0
  z0 := Tryz.sizeOf0
  v0 := Tryz.zeroValue0
  t3 := Tryz.underlying3
  a3 := Tryz.isAgg3
  z3 := Tryz.sizeOf3
  v3 := Tryz.zeroValue3
  t4 := Tryz.underlying4
  a4 := Tryz.isAgg4
  z4 := Tryz.sizeOf4
  v4 := Tryz.zeroValue4
  t5 := Tryz.underlying5
  a5 := Tryz.isAgg5
  z5 := Tryz.sizeOf5
  v5 := Tryz.zeroValue5
  t9 := Tryz.underlying9
  a9 := Tryz.isAgg9
  z9 := Tryz.sizeOf9
  v9 := Tryz.zeroValue9
  t31 := Tryz.underlying23
  a31 := Tryz.isAgg23
  z31 := Tryz.sizeOf23
  v31 := Tryz.zeroValue23
  t46 := Tryz.underlying147
  a46 := Tryz.isAgg147
  z46 := Tryz.sizeOf147
  v46 := Tryz.zeroValue147
  t51 := Tryz.underlying208
  a51 := Tryz.isAgg208
  z51 := Tryz.sizeOf208
  v51 := Tryz.zeroValue208
  t53 := Tryz.underlying87
  a53 := Tryz.isAgg87
  z53 := Tryz.sizeOf87
  v53 := Tryz.zeroValue87
  t131 := Tryz.underlying205
  a131 := Tryz.isAgg205
  z131 := Tryz.sizeOf205
  v131 := Tryz.zeroValue205
  t182 := Tryz.underlying199
  a182 := Tryz.isAgg199
  z182 := Tryz.sizeOf199
  v182 := Tryz.zeroValue199
  t183 := Tryz.underlying200
  a183 := Tryz.isAgg200
  z183 := Tryz.sizeOf200
  v183 := Tryz.zeroValue200
  t218 := Tryz.underlying219
  a218 := Tryz.isAgg219
  z218 := Tryz.sizeOf219
  v218 := Tryz.zeroValue219
  t222 := Tryz.underlying223
  a222 := Tryz.isAgg223
  z222 := Tryz.sizeOf223
  v222 := Tryz.zeroValue223
  t228 := Tryz.underlying247
  a228 := Tryz.isAgg247
  z228 := Tryz.sizeOf247
  v228 := Tryz.zeroValue247
  t229 := Tryz.underlying43
  a229 := Tryz.isAgg43
  z229 := Tryz.sizeOf43
  v229 := Tryz.zeroValue43 }
end
namespace YtldamieigigncaaGreatDoor.lx
open Go.RowKit Go.Shelf Go.Sort
set_option linter.unusedVariables false
set_option linter.unusedSimpArgs false
theorem sort_any (blk off cap : Nat) (zs : List (List UInt8)) (w : World) (hH : Holds encStr w blk off zs.toArray) (hblk : blk < w.heap.size) (hsz : zs.length < 4611686018427387904) :
    Calls Tryz.prog 91 #[.slice (some ⟨blk, off, none⟩) zs.length cap] w fun e w' =>
      e = .returned (.tuple #[]) ∧ ∃ n os, w' = grow (putRow encStr (Sort.ahead w n) blk off (srt zs).toArray) os :=
  calls_of_every_depth fun D => AnyS.slices_Sort_string_alone Tryz.lays190 D blk off cap zs w hH hblk hsz
theorem enc_key : encStr = sv := rfl
theorem sort_own (w : World) (base g cap : Nat) (e : TypeId) (zs : List (List UInt8)) (hsz : zs.length < 4611686018427387904) (h : w.ownsRow base e 1 (.slice (some ⟨g, 0, none⟩) zs.length cap) zs.length (zs.map sv)) :
    Calls Tryz.prog 91 #[.slice (some ⟨g, 0, none⟩) zs.length cap] w fun r w' => r = .returned (.tuple #[]) ∧ w'.ownsRow base e 1 (.slice (some ⟨g, 0, none⟩) zs.length cap) zs.length ((srt zs).map sv) ∧ w.grownBy w' (some g) := by
  rcases h.2 with ⟨hnil, _⟩ | ⟨g', cap', cur, hv, hbase, hb, h1, h2, h3, h4⟩
  · cases hnil
  · cases hv
    refine (sort_any g 0 cap zs w (holds_of_block hb (by rw [enc_key]; simpa using h4)) (Array.getElem?_eq_some_iff.1 hb).1 hsz).mono ?_
    rintro r w' ⟨rfl, n, os, rfl⟩
    exact ⟨rfl, ownsRow_sorted (srt_len zs) hbase hb h1 h2 h3, grownBy_sorted _⟩
theorem sort_row (w : World) (base : Nat) (e : TypeId) (v : Value) (zs : List (List UInt8)) (hsz : zs.length < 4611686018427387904) (h : w.ownsRow base e 1 v zs.length (zs.map sv)) :
    Calls Tryz.prog 91 #[v] w fun r w' => r = .returned (.tuple #[]) ∧ w'.ownsRow base e 1 v zs.length ((srt zs).map sv) ∧ w.grownBy w' v.ownBlock := by
  rcases h.2 with ⟨rfl, h0⟩ | ⟨g, cap, cur, rfl, _⟩
  · have hz : zs = [] := List.length_eq_zero_iff.1 h0
    subst hz
    refine (Any.slices_Sort_string_none Tryz.lays190 none 0 w).mono ?_
    rintro r w' ⟨rfl, rfl⟩
    exact ⟨rfl, by rw [srt_nil]; exact h, World.grownBy.refl _ _⟩
  · exact sort_own w base g cap e zs hsz h
end YtldamieigigncaaGreatDoor.lx
end Go.Proofs


import Derived.Test.YtldamieigigncaaGreatDoorVaag
import Derived.Test.YtldamieigigncaaGreatDoorVaal
import Derived.Deep.Cut
import Derived.Laws.OwnMore
namespace Go.Proofs.YtldamieigigncaaGreatDoor.lx
open Go.ChangeShapes Go.WideShapes Go.ChangeAt Go.RowKit
set_option linter.unusedVariables false
attribute [local go_sem] run_store_float
/-! rows of texts and of numbers -/
def EStr : Elem (List UInt8) := fun _ _ x cs => cs = [.string (S x)]
def EInt : Elem Int := fun _ _ x cs => cs = [.int .i64 x]
theorem keepsStr : Keeps EStr := fun _ _ _ _ _ _ h _ _ => h
theorem keepsInt : Keeps EInt := fun _ _ _ _ _ _ h _ _ => h
abbrev StrsAt (w : World) (A : Nat → Prop) (v : Value) (l : List (List UInt8)) : Prop := ListOf 1 EStr w A v l
abbrev IntsAt (w : World) (A : Nat → Prop) (v : Value) (l : List Int) : Prop := ListOf 1 EInt w A v l
theorem StrsAt.cell {w : World} {A : Nat → Prop} {v : Value} {l : List (List UInt8)} (h : StrsAt w A v l) {k : Nat} {x : List UInt8} (hx : l[k]? = some x) : ∃ g cap, v = .slice (some ⟨g, 0, none⟩) l.length cap ∧ g < w.heap.size ∧ w.cell? ⟨g, k, none⟩ = some (.string (S x)) := by
  obtain ⟨_, ao, cap, rfl, h⟩ := h
  obtain ⟨hk, _⟩ := List.getElem?_eq_some_iff.1 hx
  obtain ⟨g, rfl, hg, _, h5⟩ := h (by omega)
  obtain ⟨cs, _, h6, h7⟩ := h5 k x hx
  have h7 : cs = [.string (S x)] := h7
  subst h7
  refine ⟨g, cap, rfl, hg, ?_⟩
  have := h6 0 _ rfl
  rwa [Nat.mul_one, Nat.add_zero] at this
theorem IntsAt.cell {w : World} {A : Nat → Prop} {v : Value} {l : List Int} (h : IntsAt w A v l) {k : Nat} {x : Int} (hx : l[k]? = some x) : ∃ g cap, v = .slice (some ⟨g, 0, none⟩) l.length cap ∧ g < w.heap.size ∧ w.cell? ⟨g, k, none⟩ = some (.int .i64 x) := by
  obtain ⟨_, ao, cap, rfl, h⟩ := h
  obtain ⟨hk, _⟩ := List.getElem?_eq_some_iff.1 hx
  obtain ⟨g, rfl, hg, _, h5⟩ := h (by omega)
  obtain ⟨cs, _, h6, h7⟩ := h5 k x hx
  have h7 : cs = [.int .i64 x] := h7
  subst h7
  refine ⟨g, cap, rfl, hg, ?_⟩
  have := h6 0 _ rfl
  rwa [Nat.mul_one, Nat.add_zero] at this
theorem S_eq (x y : List UInt8) : ((S x).toList == (S y).toList) = decide (x = y) := by
  rw [← list_data, ← list_data]
  show (x == y) = decide (x = y)
  by_cases h : x = y <;> simp [h]
/-- where a text stands: as the program tells it -/
def idxI (l : List (List UInt8)) (x : List UInt8) : Int := if x ∈ l then (l.idxOf x : Int) else -1
theorem idx_at {l : List (List UInt8)} {x : List UInt8} {k : Nat} (hk : l[k]? = some x) (hno : ∀ (j : Nat) (y : List UInt8), j < k → l[j]? = some y → y ≠ x) : idxI l x = k := by
  have hm := List.mem_of_getElem? hk
  obtain ⟨hl, he⟩ := List.getElem?_eq_some_iff.1 hk
  unfold idxI
  rw [if_pos hm]
  have h1 : l.idxOf x ≤ k := by
    rcases Nat.lt_or_ge k (l.idxOf x) with h | h
    · have := List.not_of_lt_findIdx (p := fun y => y == x) (xs := l) h
      simp [he] at this
    · exact h
  have h2 : ¬ l.idxOf x < k := fun h => by
    have hlt := List.idxOf_lt_length_of_mem hm
    exact hno _ _ h (List.getElem?_eq_getElem hlt) (List.getElem_idxOf hlt)
  omega
theorem idx_no {l : List (List UInt8)} {x : List UInt8} (hno : ∀ (j : Nat) (y : List UInt8), l[j]? = some y → y ≠ x) : idxI l x = -1 := by
  unfold idxI
  rw [if_neg]
  intro hm
  obtain ⟨j, hj, he⟩ := List.getElem_of_mem hm
  exact hno j _ (List.getElem?_eq_getElem hj) he
set_option maxRecDepth 100000 in
theorem index_any (w : World) (A : Nat → Prop) (v : Value) (l : List (List UInt8)) (x : List UInt8) (h : StrsAt w A v l) : Calls Tryz.prog 51 #[v, .string (S x)] w fun e w' => e = .returned (.int .i64 (idxI l x)) ∧ w = w' := by
  obtain ⟨ao, cap, rfl⟩ := ListOf.form h
  have hl := h.1
  unfold maxLen at hl
  have H := Lib.hid h
  generalize hn : l.length = n at *
  have HN := Lib.hid hn
  clear h hn
  go_enter Tryz.func51, Tryz.ntmps51
  go_wp2_with fail
  go_loopw [8] (fun i wr => ∃ k : Nat, i = .int .i64 k ∧ k ≤ n ∧ w = wr ∧ ∀ (j : Nat) (y : List UInt8), j < k → l[j]? = some y → y ≠ x) (fun i _ => n - (intOf i).toNat)
  case atStart => exact ⟨0, rfl, Nat.zero_le _, rfl, fun j y h => by omega⟩
  case round =>
    obtain ⟨k, rfl, hk, rfl, hno⟩ := hrel
    have HNO := Lib.hid hno
    clear hno
    by_cases hlt : k < n
    · obtain ⟨y, hy⟩ : ∃ y, l[k]? = some y := ⟨_, List.getElem?_eq_getElem (by rw [HN.out]; exact hlt)⟩
      obtain ⟨g, cap', e, hg, hc⟩ := StrsAt.cell H.out hy
      rw [HN.out] at e
      cases e
      have HY := Lib.hid hy
      have he := S_eq x y
      clear hy
      by_cases hxy : x = y
      · rw [decide_eq_true hxy] at he
        go_wp2_with fail
        go_ret
        refine ⟨?_, rfl⟩
        rw [idx_at (by rw [HY.out, hxy]) HNO.out]
        rfl
      · rw [decide_eq_false hxy] at he
        go_wp2_with fail
        refine ⟨⟨k + 1, by go_num, hlt, by first | exact rfl | trivial, fun j z hj hz => ?_⟩, by simp only [intOf]; omega⟩
        by_cases hjk : j < k
        · exact HNO.out j z hjk hz
        · obtain rfl : j = k := by omega
          have : z = y := Option.some.inj (hz.symm.trans HY.out)
          rw [this]
          exact fun e => hxy e.symm
    · obtain rfl : k = n := by omega
      go_wp2_with fail
      go_ret
      refine ⟨?_, rfl⟩
      rw [idx_no (fun j y hj => HNO.out j y (by have := (List.getElem?_eq_some_iff.1 hj).1; have := HN.out; omega) hj)]
      rfl
theorem idxI_ge (l : List (List UInt8)) (x : List UInt8) : decide ((0 : Int) ≤ idxI l x) = decide (x ∈ l) := by
  unfold idxI
  by_cases h : x ∈ l
  · rw [if_pos h]; simp [h]
  · rw [if_neg h]; simp [h]
set_option maxRecDepth 100000 in
theorem contains_any (w : World) (A : Nat → Prop) (v : Value) (l : List (List UInt8)) (x : List UInt8) (h : StrsAt w A v l) : Calls Tryz.prog 61 #[v, .string (S x)] w fun e w' => e = .returned (.bool (decide (x ∈ l))) ∧ w = w' := by
  have hi := index_any w A v l x h
  have HG := Lib.hid (idxI_ge l x)
  generalize idxI l x = z at *
  obtain ⟨ao, cap, rfl⟩ := ListOf.form h
  clear h
  go_enter Tryz.func61, Tryz.ntmps61
  go_wp2_with fail
  refine hi.mono ?_
  rintro e w' ⟨rfl, rfl⟩
  clear hi
  go_wp2_with fail
  go_ret
  refine ⟨?_, rfl⟩
  rw [← HG.out]
  rfl
/-! what is wrong with a grammar goes up -/
def WrongG (n a : Nat) : Value := .iface 58 (.agg #[.int .i64 n, .int .i64 a])
set_option maxRecDepth 100000 in
theorem gfail_any (w : World) (n a : Nat) : Calls Tryz.prog 62 #[.int .i64 n, .int .i64 a] w fun e w' => e = .panicked [{ v := WrongG n a, recovered := false }] ∧ w = w' := by
  go_enter Tryz.func62, Tryz.ntmps62
  go_wp2
  first | exact ⟨rfl, rfl, rfl⟩ | exact ⟨rfl, rfl⟩
end Go.Proofs.YtldamieigigncaaGreatDoor.lx
namespace Go.Proofs.YtldamieigigncaaGreatDoor.lx
open Go.ChangeShapes Go.WideShapes Go.ChangeAt Go.RowKit
set_option linter.unusedVariables false
attribute [local go_sem] run_store_float
/-! a loader in memory -/
abbrev Rl := Nat × List Int × Nat
def sv (x : List UInt8) : Value := .string (S x)
def iv (x : Int) : Value := .int .i64 x
def Fr (gl : Nat) (tv vv rv av : Value) (g : Nat) : Prop := g ≠ gl ∧ tv.ownBlock ≠ some g ∧ vv.ownBlock ≠ some g ∧ rv.ownBlock ≠ some g ∧ av.ownBlock ≠ some g
/-- what is free, and kept apart from what X bars -/
def FrX (X : Nat → Prop) (gl : Nat) (tv vv rv av : Value) (g : Nat) : Prop := Fr gl tv vv rv av g ∧ X g
def rcells : List Rl → List Value → List Value
  | r :: rs, u :: us => [.int .i64 r.1, u, .float .f64 r.2.2] ++ rcells rs us
  | _, _ => []
def Apt (us : List Value) : Prop := us.Pairwise (fun a b => a.ownBlock = none ∨ a.ownBlock ≠ b.ownBlock)
/-- rules that are owned, each with a row of its own -/
def RlW (B N : Nat) (w : World) (rv : Value) (rs : List Rl) : Prop := ∃ us : List Value, us.length = rs.length ∧ w.ownsRow B 41 3 rv rs.length (rcells rs us) ∧ (∀ (j : Nat) (r : Rl), rs[j]? = some r → ∃ u, us[j]? = some u ∧ w.ownsRow B 3 1 u r.2.1.length (r.2.1.map iv) ∧ ∀ g, u.ownBlock = some g → g < N) ∧ Apt us
def AlW (B : Nat) (A : Nat → Prop) (w : World) (av : Value) (ls : List (List Altn)) : Prop := ∃ us : List Value, us.length = ls.length ∧ w.ownsRow B 64 1 av ls.length us ∧ ∀ (j : Nat) (bs : List Altn), ls[j]? = some bs → ∃ (u : Value) (k : Nat), us[j]? = some u ∧ AltsAt k w A u bs
structure LdW (X : Nat → Prop) (gl B N : Nat) (tv vv rv av : Value) (l : Ld) (w : World) : Prop where
  box : Blk w gl 62 #[tv, vv, rv, av, .int .i64 l.last]
  ge : B ≤ gl
  ts : w.ownsRow B 9 1 tv l.terms.length (l.terms.map sv)
  vs : w.ownsRow B 9 1 vv l.vars.length (l.vars.map sv)
  ap : tv.ownBlock = none ∨ tv.ownBlock ≠ vv.ownBlock
  rs : RlW B N w rv l.rules
  al : AlW B (FrX X gl tv vv rv av) w av l.alts
  nx : ∀ g, w.heap.size ≤ g → X g
theorem own_blk {w : World} {B s n : Nat} {e : TypeId} {v : Value} {xs : List Value} (h : w.ownsRow B e s v n xs) {g : Nat} (hg : v.ownBlock = some g) : ∃ cur, w.heap[g]? = some (.cells cur e (0, 0)) := by
  rcases h.2 with ⟨h, _⟩ | ⟨q, cap, cur, e1, hB, hh, _⟩
  · rw [h] at hg; cases hg
  · rw [e1] at hg
    have hg : some q = some g := hg
    cases hg
    exact ⟨cur, hh⟩
theorem typ_ne {w : World} {g : Nat} {e e' : TypeId} {c c' : Array Value} (h : w.heap[g]? = some (.cells c e (0, 0))) (h' : w.heap[g]? = some (.cells c' e' (0, 0))) : e = e' := by
  rw [h] at h'
  have := Option.some.inj h'
  injection this
/-- rows of two types lie apart -/
theorem apart2 {w : World} {B B' s s' n n' : Nat} {e e' : TypeId} {v v' : Value} {xs xs' : List Value} (h : w.ownsRow B e s v n xs) (h' : w.ownsRow B' e' s' v' n' xs') (hne : e ≠ e') {g : Nat} (hg : v.ownBlock = some g) : v'.ownBlock ≠ some g := fun h2 => by
  obtain ⟨c, hc⟩ := own_blk h hg
  obtain ⟨c', hc'⟩ := own_blk h' h2
  exact hne (typ_ne hc hc')
theorem apartB {w : World} {B s n gl : Nat} {e e' : TypeId} {v : Value} {xs : List Value} {cs : Array Value} (h : w.ownsRow B e s v n xs) (hb : Blk w gl e' cs) (hne : e ≠ e') : v.ownBlock ≠ some gl := fun h2 => by
  obtain ⟨c, hc⟩ := own_blk h h2
  exact hne (typ_ne hc hb)
/-- rows of numbers lie apart from all that a loader turns -/
theorem LdW.int_free {X : Nat → Prop} {gl B N : Nat} {tv vv rv av : Value} {l : Ld} {w : World} (h : LdW X gl B N tv vv rv av l w) {B' n : Nat} {u : Value} {xs : List Value} (ho : w.ownsRow B' 3 1 u n xs) {g : Nat} (hg : u.ownBlock = some g) : Fr gl tv vv rv av g := by
  obtain ⟨us, _, hr, _⟩ := h.rs
  obtain ⟨as_, _, ha, _⟩ := h.al
  refine ⟨fun e => ?_, apart2 ho h.ts (by decide) hg, apart2 ho h.vs (by decide) hg, apart2 ho hr (by decide) hg, apart2 ho ha (by decide) hg⟩
  subst e
  exact apartB ho h.box (by decide) hg
def Nw (w : World) (v v' : Value) : Prop := v'.ownBlock = v.ownBlock ∨ ∀ g, v'.ownBlock = some g → w.heap.size ≤ g
theorem Nw.refl (w : World) (v : Value) : Nw w v v := .inl rfl
theorem Nw.trans {w w' : World} {a b c : Value} (h : Nw w a b) (k : Nw w' b c) (hs : w.heap.size ≤ w'.heap.size) : Nw w a c := by
  rcases k with k | k
  · rcases h with h | h
    · exact .inl (k.trans h)
    · exact .inr (fun g hg => h g (k ▸ hg))
  · exact .inr (fun g hg => Nat.le_trans hs (k g hg))
/-- what has turned: the loader's own box and rows, and new blocks -/
structure LdK (gl : Nat) (tv vv rv av tv' vv' rv' av' : Value) (w w' : World) : Prop where
  kp : Kp (fun g => ¬ Fr gl tv vv rv av g) w w'
  n1 : Nw w tv tv'
  n2 : Nw w vv vv'
  n3 : Nw w rv rv'
  n4 : Nw w av av'
section
variable {X : Nat → Prop} {gl B N : Nat} {tv vv rv av tv' vv' rv' av' tv'' vv'' rv'' av'' : Value} {w w' w'' : World}
theorem LdK.refl (gl : Nat) (tv vv rv av : Value) (w : World) : LdK gl tv vv rv av tv vv rv av w w := ⟨Kp.refl _ _, .refl _ _, .refl _ _, .refl _ _, .refl _ _⟩
theorem LdK.free (h : LdK gl tv vv rv av tv' vv' rv' av' w w') {g : Nat} (hg : g < w.heap.size) (hf : Fr gl tv vv rv av g) : Fr gl tv' vv' rv' av' g := by
  have aux : ∀ v v' : Value, Nw w v v' → v.ownBlock ≠ some g → v'.ownBlock ≠ some g := fun v v' hn hv e => by
    rcases hn with hn | hn
    · exact hv (hn ▸ e)
    · have := hn g e; omega
  exact ⟨hf.1, aux _ _ h.n1 hf.2.1, aux _ _ h.n2 hf.2.2.1, aux _ _ h.n3 hf.2.2.2.1, aux _ _ h.n4 hf.2.2.2.2⟩
theorem LdK.trans (h : LdK gl tv vv rv av tv' vv' rv' av' w w') (k : LdK gl tv' vv' rv' av' tv'' vv'' rv'' av'' w' w'') : LdK gl tv vv rv av tv'' vv'' rv'' av'' w w'' :=
  ⟨h.kp.then_ k.kp (fun i hi => by
      by_cases hlt : i < w.heap.size
      · exact .inl (fun hf => hi (h.free hlt hf))
      · exact .inr (by omega)), h.n1.trans k.n1 h.kp.size, h.n2.trans k.n2 h.kp.size, h.n3.trans k.n3 h.kp.size, h.n4.trans k.n4 h.kp.size⟩
/-- a step that turns nothing that is there -/
theorem LdK.of_below (hb : Below w.heap.size w w') : LdK gl tv vv rv av tv vv rv av w w' := ⟨Kp.of_below hb (Nat.le_refl _), .refl _ _, .refl _ _, .refl _ _, .refl _ _⟩
theorem AlW.keep {A A' : Nat → Prop} {ls : List (List Altn)} {av : Value} (h : AlW B A w av ls) (ho : ∀ g, av.ownBlock = some g → w'.heap[g]? = w.heap[g]?) (hk : ∀ g, g < w.heap.size → A g → A' g ∧ w'.heap[g]? = w.heap[g]?) (hs : w.heap.size ≤ w'.heap.size) : AlW B A' w' av ls := by
  obtain ⟨us, h1, h2, h3⟩ := h
  refine ⟨us, h1, ownsRow_keep h2 (fun g _ hv => ho g hv), fun j bs hj => ?_⟩
  obtain ⟨u, k, e, ha⟩ := h3 j bs hj
  exact ⟨u, k, e, keepsAlts k _ _ _ _ _ _ ha hk hs⟩
theorem RlW.keep {rs : List Rl} {rv : Value} (h : RlW B N w rv rs) (ho : ∀ g, rv.ownBlock = some g → w'.heap[g]? = w.heap[g]?) (hk : ∀ (u : Value) (n : Nat) (xs : List Value) (g : Nat), w.ownsRow B 3 1 u n xs → u.ownBlock = some g → w'.heap[g]? = w.heap[g]?) : RlW B N w' rv rs := by
  obtain ⟨us, h1, h2, h3, h4⟩ := h
  refine ⟨us, h1, ownsRow_keep h2 (fun g _ hv => ho g hv), fun j r hj => ?_, h4⟩
  obtain ⟨u, e, hu, hN⟩ := h3 j r hj
  exact ⟨u, e, ownsRow_keep hu (fun g _ hv => hk u _ _ g hu hv), hN⟩
theorem LdW.below {l : Ld} (h : LdW X gl B N tv vv rv av l w) (hb : Below w.heap.size w w') : LdW X gl B N tv vv rv av l w' := by
  have hk : ∀ g, g < w.heap.size → w'.heap[g]? = w.heap[g]? := fun g hg => hb.block g hg
  have own : ∀ (e : TypeId) (s n : Nat) (v : Value) (xs : List Value), w.ownsRow B e s v n xs → ∀ g, v.ownBlock = some g → w'.heap[g]? = w.heap[g]? := fun e s n v xs ho g hg => hk g (ho.lt g hg).2
  refine ⟨h.box.below hb h.box.lt, h.ge, ownsRow_keep h.ts (fun g hg _ => hk g hg), ownsRow_keep h.vs (fun g hg _ => hk g hg), h.ap, ?_, ?_, fun g hg => h.nx g (Nat.le_trans hb.size hg)⟩
  · obtain ⟨us, _, h2, _⟩ := h.rs
    exact h.rs.keep (own _ _ _ _ _ h2) (fun u n xs g ho hg => own _ _ _ _ _ ho g hg)
  · obtain ⟨us, _, h2, _⟩ := h.al
    exact h.al.keep (own _ _ _ _ _ h2) (fun g hg hA => ⟨hA, hk g hg⟩) hb.size
end
theorem nw_at {w : World} {v v' : Value} (h : v'.ownBlock = v.ownBlock ∨ v'.ownBlock = some w.heap.size) : Nw w v v' := by
  rcases h with h | h
  · exact .inl h
  · refine .inr (fun g hg => ?_)
    rw [h] at hg
    cases hg
    exact Nat.le_refl _
/-- the kinds of rows: types that are apart -/
theorem LdW.apart_box {X : Nat → Prop} {gl B N : Nat} {tv vv rv av : Value} {l : Ld} {w : World} (h : LdW X gl B N tv vv rv av l w) : tv.ownBlock ≠ some gl ∧ vv.ownBlock ≠ some gl ∧ rv.ownBlock ≠ some gl ∧ av.ownBlock ≠ some gl := by
  obtain ⟨us, _, hr, _⟩ := h.rs
  obtain ⟨as_, _, ha, _⟩ := h.al
  exact ⟨apartB h.ts h.box (by decide), apartB h.vs h.box (by decide), apartB hr h.box (by decide), apartB ha h.box (by decide)⟩
/-- a row of the loader grows: all but it and the box stays -/
structure Gr (gl B s n : Nat) (e : TypeId) (v0 v1 : Value) (xs : List Value) (w w' : World) : Prop where
  os : w'.os = w.os
  tape : w'.tape = w.tape
  output : w'.output = w.output
  size : w.heap.size ≤ w'.heap.size
  keep : ∀ g, g < w.heap.size → g ≠ gl → v0.ownBlock ≠ some g → w'.heap[g]? = w.heap[g]?
  nw : v1.ownBlock = v0.ownBlock ∨ ∀ g, v1.ownBlock = some g → w.heap.size ≤ g
  own : w'.ownsRow B e s v1 n xs
theorem gr_of {gl B s n m k : Nat} {e t : TypeId} {v0 v1 : Value} {xs ys : List Value} {w w3 : World} {o : Obj} {cs : Array Value} (hb : Blk w gl t cs) (ho : w.ownsRow B e s v0 m ys) (hne : e ≠ t) (hown : w3.ownsRow B e s v1 n xs) (hg : (w.alloc o).grownBy w3 v0.ownBlock) (hat : v1.ownBlock = v0.ownBlock ∨ v1.ownBlock = some (w.alloc o).heap.size) :
    Gr gl B s n e v0 v1 xs w (w3.setCell ⟨gl, k, none⟩ v1) ∧ Blk w3 gl t cs := by
  have b2 := apartB ho hb hne
  have hl := hb.lt
  have hz : w.heap.size + 1 ≤ w3.heap.size := by have := hg.size; rw [World.size_alloc] at this; exact this
  have hk3 : ∀ g, g < w.heap.size → v0.ownBlock ≠ some g → w3.heap[g]? = w.heap[g]? := fun g hlt hne => (hg.block g (by rw [World.size_alloc]; omega) (fun e => hne e.symm)).trans (Below.heap_alloc w o g hlt)
  have hv' : v1.ownBlock ≠ some gl := fun e => by
    rcases hat with e2 | e2
    · exact b2 (e2 ▸ e)
    · rw [e, World.size_alloc] at e2
      have := Option.some.inj e2
      omega
  refine ⟨⟨hg.os, hg.tape, hg.output, by simp; omega, fun g hlt h1 h2 => (Below.heap_setCell w3 ⟨gl, k, none⟩ _ g h1).trans (hk3 g hlt h2), ?_, ownsRow_keep hown (fun g _ hv => Below.heap_setCell w3 ⟨gl, k, none⟩ _ g (fun e => hv' (by have e : g = gl := e; rw [← e]; exact hv)))⟩, (hk3 gl hl b2).trans hb⟩
  rcases hat with e | e
  · exact .inl e
  · refine .inr (fun g hg => ?_)
    rw [e, World.size_alloc] at hg
    cases hg
    omega
section
variable {X : Nat → Prop} {gl B N : Nat} {tv vv rv av v1 : Value} {l : Ld} {w w' : World} {s n : Nat} {e : TypeId} {v0 : Value} {xs : List Value}
theorem Gr.row (h : Gr gl B s n e v0 v1 xs w w') {B' s' n' : Nat} {e' : TypeId} {v : Value} {ys : List Value} (ho : w.ownsRow B' e' s' v n' ys) (h1 : v.ownBlock ≠ some gl) (h2 : ∀ g, v.ownBlock = some g → v0.ownBlock ≠ some g) : w'.ownsRow B' e' s' v n' ys :=
  ownsRow_keep ho (fun g hg hv => h.keep g hg (fun e => h1 (e ▸ hv)) (h2 g hv))
theorem Gr.rules (h : Gr gl B s n e v0 v1 xs w w') (H : LdW X gl B N tv vv rv av l w) (hv0 : ∀ g, rv.ownBlock = some g → v0.ownBlock ≠ some g) (hi : ∀ g, Fr gl tv vv rv av g → v0.ownBlock ≠ some g) : RlW B N w' rv l.rules :=
  H.rs.keep (fun g hv => by
    obtain ⟨us, _, hr, _⟩ := H.rs
    exact h.keep g (hr.lt g hv).2 (fun e => H.apart_box.2.2.1 (e ▸ hv)) (hv0 g hv)) (fun u n xs g ho hv => h.keep g (ho.lt g hv).2 (H.int_free ho hv).1 (hi g (H.int_free ho hv)))
theorem ap_new {w : World} {a b b' : Value} (h : a.ownBlock = none ∨ a.ownBlock ≠ b.ownBlock) (hn : b'.ownBlock = b.ownBlock ∨ ∀ g, b'.ownBlock = some g → w.heap.size ≤ g) (hl : ∀ g, a.ownBlock = some g → g < w.heap.size) : a.ownBlock = none ∨ a.ownBlock ≠ b'.ownBlock := by
  cases ha : a.ownBlock with
  | none => exact .inl rfl
  | some g =>
    right
    intro e
    rcases hn with hn | hn
    · rw [hn] at e
      rcases h with h | h
      · rw [ha] at h; cases h
      · exact h (ha.trans e)
    · have h1 := hn g e.symm
      have h2 := hl g ha
      omega
theorem ap_new' {w : World} {a a' b : Value} (h : a.ownBlock = none ∨ a.ownBlock ≠ b.ownBlock) (hn : a'.ownBlock = a.ownBlock ∨ ∀ g, a'.ownBlock = some g → w.heap.size ≤ g) (hl : ∀ g, b.ownBlock = some g → g < w.heap.size) : a'.ownBlock = none ∨ a'.ownBlock ≠ b.ownBlock := by
  cases ha : a'.ownBlock with
  | none => exact .inl rfl
  | some g =>
    right
    intro e
    rcases hn with hn | hn
    · rw [ha] at hn
      rcases h with h | h
      · rw [h] at hn; cases hn
      · exact h (hn.symm.trans e)
    · have h1 := hn g ha
      have h2 := hl g e.symm
      omega
/-- one name more -/
theorem LdW.vars_more {x : List UInt8} {w3 : World} {o : Obj} (h : LdW X gl B N tv vv rv av l w)
    (hown : w3.ownsRow B 9 1 v1 (l.vars.length + 1) (l.vars.map sv ++ [sv x])) (hg : (w.alloc o).grownBy w3 vv.ownBlock) (hat : v1.ownBlock = vv.ownBlock ∨ v1.ownBlock = some (w.alloc o).heap.size) :
    LdW X gl B N tv v1 rv av { l with vars := l.vars ++ [x] } (w3.setCell ⟨gl, 1, none⟩ v1) ∧ LdK gl tv vv rv av tv v1 rv av w (w3.setCell ⟨gl, 1, none⟩ v1) := by
  obtain ⟨b1, b2, b3, b4⟩ := h.apart_box
  obtain ⟨hG, hb3⟩ := gr_of (k := 1) h.box h.vs (by decide) hown hg hat
  have hK : LdK gl tv vv rv av tv v1 rv av w (w3.setCell ⟨gl, 1, none⟩ v1) := ⟨⟨hG.os, hG.tape, hG.output, hG.size, fun g hlt hf => by
    have hf := Classical.not_not.1 hf
    exact hG.keep g hlt hf.1 hf.2.2.1⟩, .refl _ _, hG.nw, .refl _ _, .refl _ _⟩
  obtain ⟨us, hu1, hr, hu3⟩ := h.rs
  obtain ⟨as_, ha1, ha, ha3⟩ := h.al
  have hRU := hG.rules h (fun g hv => apart2 hr h.vs (by decide) hv) (fun g hf => hf.2.2.1)
  refine ⟨⟨hb3.set_ 1 v1, h.ge, hG.row h.ts b1 (fun g hv e => ?_), ?_, ap_new h.ap hG.nw (fun g hg => (h.ts.lt g hg).2), hRU, ?_, fun g hg => h.nx g (Nat.le_trans hK.kp.size hg)⟩, hK⟩
  · rcases h.ap with h0 | h0
    · rw [hv] at h0; cases h0
    · exact h0 (hv.trans e.symm)
  · show World.ownsRow _ B 9 1 v1 (l.vars ++ [x]).length ((l.vars ++ [x]).map sv)
    rw [List.length_append, List.map_append]
    exact hG.own
  · exact h.al.keep (fun g hv => hG.keep g (ha.lt g hv).2 (fun e => b4 (e ▸ hv)) (apart2 ha h.vs (by decide) hv)) (fun g hlt hA => ⟨⟨hK.free hlt hA.1, hA.2⟩, hG.keep g hlt hA.1.1 hA.1.2.2.1⟩) hG.size
/-- one terminal more -/
theorem LdW.terms_more {x : List UInt8} {w3 : World} {o : Obj} (h : LdW X gl B N tv vv rv av l w)
    (hown : w3.ownsRow B 9 1 v1 (l.terms.length + 1) (l.terms.map sv ++ [sv x])) (hg : (w.alloc o).grownBy w3 tv.ownBlock) (hat : v1.ownBlock = tv.ownBlock ∨ v1.ownBlock = some (w.alloc o).heap.size) :
    LdW X gl B N v1 vv rv av { l with terms := l.terms ++ [x] } (w3.setCell ⟨gl, 0, none⟩ v1) ∧ LdK gl tv vv rv av v1 vv rv av w (w3.setCell ⟨gl, 0, none⟩ v1) := by
  obtain ⟨b1, b2, b3, b4⟩ := h.apart_box
  obtain ⟨hG, hb3⟩ := gr_of (k := 0) h.box h.ts (by decide) hown hg hat
  have hK : LdK gl tv vv rv av v1 vv rv av w (w3.setCell ⟨gl, 0, none⟩ v1) := ⟨⟨hG.os, hG.tape, hG.output, hG.size, fun g hlt hf => by
    have hf := Classical.not_not.1 hf
    exact hG.keep g hlt hf.1 hf.2.1⟩, hG.nw, .refl _ _, .refl _ _, .refl _ _⟩
  obtain ⟨us, hu1, hr, hu3⟩ := h.rs
  obtain ⟨as_, ha1, ha, ha3⟩ := h.al
  have hRU := hG.rules h (fun g hv => apart2 hr h.ts (by decide) hv) (fun g hf => hf.2.1)
  refine ⟨⟨hb3.set_ 0 v1, h.ge, ?_, hG.row h.vs b2 (fun g hv e => ?_), ap_new' h.ap hG.nw (fun g hg => (h.vs.lt g hg).2), hRU, ?_, fun g hg => h.nx g (Nat.le_trans hK.kp.size hg)⟩, hK⟩
  · show World.ownsRow _ B 9 1 v1 (l.terms ++ [x]).length ((l.terms ++ [x]).map sv)
    rw [List.length_append, List.map_append]
    exact hG.own
  · rcases h.ap with h0 | h0
    · rw [h0] at e; cases e
    · exact h0 (e.trans hv.symm)
  · exact h.al.keep (fun g hv => hG.keep g (ha.lt g hv).2 (fun e => b4 (e ▸ hv)) (apart2 ha h.ts (by decide) hv)) (fun g hlt hA => ⟨⟨hK.free hlt hA.1, hA.2⟩, hG.keep g hlt hA.1.1 hA.1.2.1⟩) hG.size
/-- one variable's alternatives more -/
theorem LdW.alts_more {bs : List Altn} {u : Value} {k : Nat} {w3 : World} {us : List Value} (h : LdW X gl B N tv vv rv av l w) (hus : us.length = l.alts.length) (hoa : w.ownsRow B 64 1 av l.alts.length us) (hua : ∀ (j : Nat) (bs : List Altn), l.alts[j]? = some bs → ∃ (u : Value) (k : Nat), us[j]? = some u ∧ AltsAt k w (FrX X gl tv vv rv av) u bs)
    (hu : AltsAt k w (FrX X gl tv vv rv av) u bs) (hown : w3.ownsRow B 64 1 v1 (l.alts.length + 1) (us ++ [u])) (hg : (w.alloc (.cells #[u] 64)).grownBy w3 av.ownBlock) (hat : v1.ownBlock = av.ownBlock ∨ v1.ownBlock = some (w.alloc (.cells #[u] 64)).heap.size) :
    LdW X gl B N tv vv rv v1 { l with alts := l.alts ++ [bs] } (w3.setCell ⟨gl, 3, none⟩ v1) ∧ LdK gl tv vv rv av tv vv rv v1 w (w3.setCell ⟨gl, 3, none⟩ v1) := by
  obtain ⟨b1, b2, b3, b4⟩ := h.apart_box
  obtain ⟨hG, hb3⟩ := gr_of (k := 3) h.box hoa (by decide) hown hg hat
  have hK : LdK gl tv vv rv av tv vv rv v1 w (w3.setCell ⟨gl, 3, none⟩ v1) := ⟨⟨hG.os, hG.tape, hG.output, hG.size, fun g hlt hf => by
    have hf := Classical.not_not.1 hf
    exact hG.keep g hlt hf.1 hf.2.2.2.2⟩, .refl _ _, .refl _ _, .refl _ _, hG.nw⟩
  obtain ⟨rs, hu1, hr, hu3⟩ := h.rs
  have hRU := hG.rules h (fun g hv => apart2 hr hoa (by decide) hv) (fun g hf => hf.2.2.2.2)
  refine ⟨⟨hb3.set_ 3 v1, h.ge, hG.row h.ts b1 (fun g hv => apart2 h.ts hoa (by decide) hv), hG.row h.vs b2 (fun g hv => apart2 h.vs hoa (by decide) hv), h.ap, hRU, ⟨us ++ [u], by simp [hus], ?_, fun j cs hj => ?_⟩, fun g hg => h.nx g (Nat.le_trans hK.kp.size hg)⟩, hK⟩
  · show World.ownsRow _ B 64 1 v1 (l.alts ++ [bs]).length (us ++ [u])
    rw [List.length_append]
    exact hG.own
  · have kp : ∀ (k : Nat) (u : Value) (cs : List Altn), AltsAt k w (FrX X gl tv vv rv av) u cs → AltsAt k (w3.setCell ⟨gl, 3, none⟩ v1) (FrX X gl tv vv rv v1) u cs := fun k u cs ha => keepsAlts k _ _ _ _ _ _ ha (fun g hlt hA => ⟨⟨hK.free hlt hA.1, hA.2⟩, hG.keep g hlt hA.1.1 hA.1.2.2.2.2⟩) hG.size
    by_cases hlt : j < l.alts.length
    · have hj' : l.alts[j]? = some cs := by
        have hj : (l.alts ++ [bs])[j]? = some cs := hj
        rwa [List.getElem?_append_left hlt] at hj
      obtain ⟨u', k', e, ha⟩ := hua j cs hj'
      exact ⟨u', k', by rw [List.getElem?_append_left (by omega)]; exact e, kp _ _ _ ha⟩
    · have hj0 : (l.alts ++ [bs])[j]? = some cs := hj
      have hjl : j = l.alts.length := by
        have := (List.getElem?_eq_some_iff.1 hj0).1
        rw [List.length_append] at this
        simp at this
        omega
      subst hjl
      rw [List.getElem?_append_right (Nat.le_refl _), Nat.sub_self] at hj0
      have hj0 : some bs = some cs := hj0
      cases hj0
      exact ⟨u, k, by rw [List.getElem?_append_right (by omega), hus, Nat.sub_self]; rfl, kp _ _ _ hu⟩
/-- one rule more -/
theorem LdW.rules_more {r : Rl} {u : Value} {w3 : World} {us : List Value} {N0 : Nat} (h : LdW X gl B N tv vv rv av l w) (hN0 : ∀ g, u.ownBlock = some g → N ≤ g) (hu : w.ownsRow B 3 1 u r.2.1.length (r.2.1.map iv)) (hus : us.length = l.rules.length) (hor : w.ownsRow B 41 3 rv l.rules.length (rcells l.rules us)) (hur : ∀ (j : Nat) (r : Rl), l.rules[j]? = some r → ∃ u, us[j]? = some u ∧ w.ownsRow B 3 1 u r.2.1.length (r.2.1.map iv) ∧ ∀ g, u.ownBlock = some g → g < N) (hap : Apt us)
    (hN : N0 = (w3.setCell ⟨gl, 2, none⟩ v1).heap.size) (hown : w3.ownsRow B 41 3 v1 (l.rules.length + 1) (rcells l.rules us ++ [.int .i64 r.1, u, .float .f64 r.2.2])) (hg : (w.alloc (.cells #[.int .i64 r.1, u, .float .f64 r.2.2] 41)).grownBy w3 rv.ownBlock) (hat : v1.ownBlock = rv.ownBlock ∨ v1.ownBlock = some (w.alloc (.cells #[.int .i64 r.1, u, .float .f64 r.2.2] 41)).heap.size) :
    LdW X gl B N0 tv vv v1 av { l with rules := l.rules ++ [r] } (w3.setCell ⟨gl, 2, none⟩ v1) ∧ LdK gl tv vv rv av tv vv v1 av w (w3.setCell ⟨gl, 2, none⟩ v1) := by
  subst hN
  obtain ⟨b1, b2, b3, b4⟩ := h.apart_box
  obtain ⟨hG, hb3⟩ := gr_of (k := 2) h.box hor (by decide) hown hg hat
  have hK : LdK gl tv vv rv av tv vv v1 av w (w3.setCell ⟨gl, 2, none⟩ v1) := ⟨⟨hG.os, hG.tape, hG.output, hG.size, fun g hlt hf => by
    have hf := Classical.not_not.1 hf
    exact hG.keep g hlt hf.1 hf.2.2.2.1⟩, .refl _ _, .refl _ _, hG.nw, .refl _ _⟩
  obtain ⟨as_, ha1, ha, ha3⟩ := h.al
  have rowI : ∀ (u : Value) (n : Nat) (xs : List Value), w.ownsRow B 3 1 u n xs → (w3.setCell ⟨gl, 2, none⟩ v1).ownsRow B 3 1 u n xs := fun u n xs ho => hG.row ho (apartB ho h.box (by decide)) (fun g hv => apart2 ho hor (by decide) hv)
  have rc : ∀ (rs : List Rl) (vs : List Value), vs.length = rs.length → rcells (rs ++ [r]) (vs ++ [u]) = rcells rs vs ++ [.int .i64 r.1, u, .float .f64 r.2.2] := by
    intro rs
    induction rs with
    | nil =>
      intro vs hv
      obtain rfl := List.length_eq_zero_iff.1 hv
      simp [rcells]
    | cons a rs ih =>
      intro vs hv
      cases vs with
      | nil => simp at hv
      | cons v vs => simp [rcells, ih vs (by simpa using hv)]
  refine ⟨⟨hb3.set_ 2 v1, h.ge, hG.row h.ts b1 (fun g hv => apart2 h.ts hor (by decide) hv), hG.row h.vs b2 (fun g hv => apart2 h.vs hor (by decide) hv), h.ap, ⟨us ++ [u], by simp [hus], ?_, fun j q hj => ?_, ?_⟩, ?_, fun g hg => h.nx g (Nat.le_trans hK.kp.size hg)⟩, hK⟩
  · show World.ownsRow _ B 41 3 v1 (l.rules ++ [r]).length (rcells (l.rules ++ [r]) (us ++ [u]))
    rw [List.length_append, rc _ _ hus]
    exact hG.own
  · have hj0 : (l.rules ++ [r])[j]? = some q := hj
    by_cases hlt : j < l.rules.length
    · rw [List.getElem?_append_left hlt] at hj0
      obtain ⟨u', e, ho, hN⟩ := hur j q hj0
      exact ⟨u', by rw [List.getElem?_append_left (by omega)]; exact e, rowI _ _ _ ho, fun g hv => Nat.lt_of_lt_of_le (ho.lt g hv).2 hG.size⟩
    · have hjl : j = l.rules.length := by
        have := (List.getElem?_eq_some_iff.1 hj0).1
        rw [List.length_append] at this
        simp at this
        omega
      subst hjl
      rw [List.getElem?_append_right (Nat.le_refl _), Nat.sub_self] at hj0
      have hj0 : some r = some q := hj0
      cases hj0
      exact ⟨u, by rw [List.getElem?_append_right (by omega), hus, Nat.sub_self]; rfl, rowI _ _ _ hu, fun g hv => Nat.lt_of_lt_of_le (hu.lt g hv).2 hG.size⟩
  · unfold Apt
    rw [List.pairwise_append]
    refine ⟨hap, by simp, fun a ha b hb => ?_⟩
    rw [List.mem_singleton] at hb
    subst hb
    obtain ⟨j, hj, rfl⟩ := List.getElem_of_mem ha
    obtain ⟨u', e, ho, hN⟩ := hur j _ (List.getElem?_eq_getElem (by omega))
    rw [List.getElem?_eq_getElem hj] at e
    cases e
    cases hv : (us[j]).ownBlock with
    | none => exact .inl rfl
    | some g =>
      right
      intro e3
      have h5 := hN g hv
      have h6 := hN0 g e3.symm
      omega
  · exact h.al.keep (fun g hv => hG.keep g (ha.lt g hv).2 (fun e => b4 (e ▸ hv)) (apart2 ha hor (by decide) hv)) (fun g hlt hA => ⟨⟨hK.free hlt hA.1, hA.2⟩, hG.keep g hlt hA.1.1 hA.1.2.2.2.1⟩) hG.size
/-- the newest name's number -/
theorem LdW.last_set {n : Nat} (h : LdW X gl B N tv vv rv av l w) : LdW X gl B N tv vv rv av { l with last := n } (w.setCell ⟨gl, 4, none⟩ (.int .i64 n)) ∧ LdK gl tv vv rv av tv vv rv av w (w.setCell ⟨gl, 4, none⟩ (.int .i64 n)) := by
  obtain ⟨b1, b2, b3, b4⟩ := h.apart_box
  have hk : ∀ g, g ≠ gl → (w.setCell ⟨gl, 4, none⟩ (.int .i64 n)).heap[g]? = w.heap[g]? := fun g hg => Below.heap_setCell w ⟨gl, 4, none⟩ _ g hg
  have row : ∀ (B' s' n' : Nat) (e' : TypeId) (v : Value) (ys : List Value), w.ownsRow B' e' s' v n' ys → v.ownBlock ≠ some gl → (w.setCell ⟨gl, 4, none⟩ (.int .i64 n)).ownsRow B' e' s' v n' ys := fun B' s' n' e' v ys ho h1 => ownsRow_keep ho (fun g hg hv => hk g (fun e => h1 (e ▸ hv)))
  refine ⟨⟨h.box.set_ 4 _, h.ge, row _ _ _ _ _ _ h.ts b1, row _ _ _ _ _ _ h.vs b2, h.ap, h.rs.keep (fun g hv => hk g (fun e => b3 (e ▸ hv))) (fun u n xs g ho hv => hk g (h.int_free ho hv).1), h.al.keep (fun g hv => hk g (fun e => b4 (e ▸ hv))) (fun g hlt hA => ⟨hA, hk g hA.1.1⟩) (by simp), fun g hg => h.nx g (by simpa using hg)⟩, ⟨⟨rfl, rfl, rfl, by simp, fun g hlt hf => hk g (Classical.not_not.1 hf).1⟩, .refl _ _, .refl _ _, .refl _ _, .refl _ _⟩⟩
end
theorem info_str : (Tryz.prog.info? 9).map (fun i => (i.zero, i.size, i.bytes)) = some (some (.string ⟨#[]⟩), 1, 16) := by kernel_rfl
theorem new_one (w : World) (t : TypeId) (v : Value) : ∀ j u, [v][j]? = some u → (w.alloc (.cells #[v] t)).cell? ((⟨w.heap.size, 0, none⟩ : Addr).add j) = some u := fun j u h => new_cells w t [v] j u h
/-- what comes of a step of a loader -/
def LdV (X : Nat → Prop) (gl B N : Nat) (tv vv rv av : Value) (w : World) (x : LR Ld) (e : Ending) (w' : World) : Prop := match x with
  | .error q => e = .panicked [{ v := WrongG q.1 q.2, recovered := false }] ∧ Below B w w'
  | .ok l' => e = .returned (.tuple #[]) ∧ ∃ tv' vv' rv' av', LdW X gl B N tv' vv' rv' av' l' w' ∧ LdK gl tv vv rv av tv' vv' rv' av' w w'
set_option maxRecDepth 100000 in
set_option maxHeartbeats 2000000 in
theorem add_any {X : Nat → Prop} {gl B N : Nat} {tv vv rv av : Value} {l : Ld} {w : World} (h : LdW X gl B N tv vv rv av l w) (hv : l.vars.length ≤ 64) (x : List UInt8) (p : Nat) : Calls Tryz.prog 63 #[.pointer (some ⟨gl, 0, none⟩), .string (S x), .int .i64 p] w fun e w' => LdV X gl B N tv vv rv av w (ldAdd l x p) e w' := by
  have H := Lib.hid h
  have c1 : w.cell? ⟨gl, 1, none⟩ = some vv := h.box.cell 1
  have hl := h.box.lt
  have HV := Lib.hid h.vs
  obtain ⟨vo, vc, rfl⟩ := own_form h.vs
  have hf := gfail_any w 7 p
  rw [show ldAdd l x p = if l.vars.length = 64 then .error (7, p) else .ok { l with vars := l.vars ++ [x] } from rfl]
  generalize hn : l.vars.length = n at *
  have HN := Lib.hid hn
  clear h hn
  by_cases h64 : n = 64
  · rw [if_pos h64]
    go_enter Tryz.func63, Tryz.ntmps63
    subst h64
    go_wp2_with fail
    refine hf.mono ?_
    rintro e w' ⟨rfl, rfl⟩
    exact ⟨rfl, rfl, Below.refl _ _⟩
  · rw [if_neg h64]
    have hn7 : ((n : Int) == 64) = false := by rw [beq_eq_false_iff_ne]; omega
    go_enter Tryz.func63, Tryz.ntmps63
    obtain ⟨i1, ki, kz0, kz1, kz2⟩ := info_parts info_str
    go_wp2_with (at_builtin; refine wpList_append_own_at _ rfl _ _ 23 rfl B 9 i1 (.string ⟨#[]⟩) 1 16 Tryz.underlying23 ki kz0 kz1 kz2 rfl (by decide) _ n (l.vars.map sv) rfl (HV.out.alloc _) ⟨w.heap.size, 0, none⟩ 1 1 [sv x] rfl rfl (new_one _ _ _) (by intro z hz; rw [List.mem_singleton.1 hz]; rfl) (by unfold maxLen; omega) (by omega) (by rw [World.size_alloc]; have := H.out.ge; have := H.out.box.lt; omega) ?_; intro v3 w3 hown3 hg3 _ hat3; obtain ⟨vo3, vc3, rfl⟩ := own_form hown3; have hb3 := Blk.grown (H.out.box.alloc (.cells #[sv x] 9)) hg3 (fun e => H.out.apart_box.2.1 e.symm); have hc3 := hb3.cell 1; have hf3 := hb3.frozen 1; have hl3 := hb3.lt)
    go_end0
    have hst := H.out.vars_more (v1 := .slice vo3 (n + 1) vc3) (x := x) (by rw [HN.out]; exact hown3) hg3 hat3
    exact ⟨rfl, _, _, _, _, hst.1, hst.2⟩
end Go.Proofs.YtldamieigigncaaGreatDoor.lx

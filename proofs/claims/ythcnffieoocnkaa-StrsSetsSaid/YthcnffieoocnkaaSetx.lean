import Derived.Test.YthcnffieoocnkaaJoin
import Derived.Deep.RegionWith
namespace Go.Proofs.Ythcnffieoocnkaa.st
open Go.ChangeShapes Go.WideShapes Go.ChangeAt Go.RowKit Go.Maps Go.WideMaps Go.WideElems
set_option linter.unusedVariables false
/-! literals -/
theorem add0 (g i : Nat) : (⟨g, 0, none⟩ : Addr).add i = ⟨g, i, none⟩ := by
  simp [Addr.add]
  exact fun h => h.symm
theorem blk_new' {w : World} {t : TypeId} {cs : Array Value} {n : Nat} (h : n = w.heap.size) : Blk (w.alloc (.cells cs t)) n t cs := h ▸ Blk.new w t cs
theorem word_blk {w : World} {g : Nat} {t : TypeId} {xs : List Int} (h : Blk w g t (IV xs).toArray) (hf : ∀ x ∈ xs, In64 x) : WordAt w (.slice (some ⟨g, 0, none⟩) xs.length xs.length) xs := by
  refine ⟨_, _, rfl, hf, fun i hi => ⟨_, rfl, h.lt, ?_⟩⟩
  rw [add0, h.cell i]
  simp [IV, List.getD_eq_getElem?_getD, List.getElem?_eq_getElem hi]
theorem words_blk {w : World} {g : Nat} {t : TypeId} {us : List Value} {xss : List (List Int)} (h : Blk w g t us.toArray) (hl : us.length = xss.length) (hu : ∀ i, i < xss.length → ∃ u, us[i]? = some u ∧ WordAt w u (xss.getD i []) ∧ (xss.getD i []).length ≤ 1000) : WordsAt w (.slice (some ⟨g, 0, none⟩) xss.length xss.length) xss := by
  refine ⟨_, _, rfl, fun i hi => ?_⟩
  obtain ⟨u, e, h1, h2⟩ := hu i hi
  exact ⟨_, u, rfl, h.lt, by rw [add0, h.cell i]; simpa using e, h1, h2⟩
theorem lit2 (W : World) (x y : List Int) (hx : Fine x) (hy : Fine y) : WordsAt (((W.alloc (.cells (IV x).toArray 3)).alloc (.cells (IV y).toArray 3)).alloc (.cells #[.slice (some ⟨W.heap.size, 0, none⟩) x.length x.length, .slice (some ⟨W.heap.size + 1, 0, none⟩) y.length y.length] 22)) (.slice (some ⟨W.heap.size + 1 + 1, 0, none⟩) 2 2) [x, y] := by
  generalize hW : ((W.alloc (.cells (IV x).toArray 3)).alloc (.cells (IV y).toArray 3)).alloc (.cells #[.slice (some ⟨W.heap.size, 0, none⟩) x.length x.length, .slice (some ⟨W.heap.size + 1, 0, none⟩) y.length y.length] 22) = W'
  have a1 : Blk W' W.heap.size 3 (IV x).toArray := by rw [← hW]; exact ((Blk.new W _ _).alloc _).alloc _
  have a2 : Blk W' (W.heap.size + 1) 3 (IV y).toArray := by rw [← hW]; exact (blk_new' (by simp)).alloc _
  have a3 : Blk W' (W.heap.size + 1 + 1) 22 [.slice (some ⟨W.heap.size, 0, none⟩) x.length x.length, .slice (some ⟨W.heap.size + 1, 0, none⟩) y.length y.length].toArray := by rw [← hW]; exact blk_new' (by simp)
  refine words_blk (xss := [x, y]) a3 rfl fun i hi => ?_
  have hi3 : i < 2 := hi
  match i, hi3 with
  | 0, _ => exact ⟨_, rfl, word_blk a1 hx.1, hx.2⟩
  | 1, _ => exact ⟨_, rfl, word_blk a2 hy.1, hy.2⟩
theorem lit3 (W : World) (x y z : List Int) (hx : Fine x) (hy : Fine y) (hz : Fine z) : WordsAt ((((W.alloc (.cells (IV x).toArray 3)).alloc (.cells (IV y).toArray 3)).alloc (.cells (IV z).toArray 3)).alloc (.cells #[.slice (some ⟨W.heap.size, 0, none⟩) x.length x.length, .slice (some ⟨W.heap.size + 1, 0, none⟩) y.length y.length, .slice (some ⟨W.heap.size + 1 + 1, 0, none⟩) z.length z.length] 22)) (.slice (some ⟨W.heap.size + 1 + 1 + 1, 0, none⟩) 3 3) [x, y, z] := by
  generalize hW : (((W.alloc (.cells (IV x).toArray 3)).alloc (.cells (IV y).toArray 3)).alloc (.cells (IV z).toArray 3)).alloc (.cells #[.slice (some ⟨W.heap.size, 0, none⟩) x.length x.length, .slice (some ⟨W.heap.size + 1, 0, none⟩) y.length y.length, .slice (some ⟨W.heap.size + 1 + 1, 0, none⟩) z.length z.length] 22) = W'
  have a1 : Blk W' W.heap.size 3 (IV x).toArray := by rw [← hW]; exact (((Blk.new W _ _).alloc _).alloc _).alloc _
  have a2 : Blk W' (W.heap.size + 1) 3 (IV y).toArray := by rw [← hW]; exact ((blk_new' (by simp)).alloc _).alloc _
  have a3 : Blk W' (W.heap.size + 1 + 1) 3 (IV z).toArray := by rw [← hW]; exact (blk_new' (by simp)).alloc _
  have a4 : Blk W' (W.heap.size + 1 + 1 + 1) 22 [.slice (some ⟨W.heap.size, 0, none⟩) x.length x.length, .slice (some ⟨W.heap.size + 1, 0, none⟩) y.length y.length, .slice (some ⟨W.heap.size + 1 + 1, 0, none⟩) z.length z.length].toArray := by rw [← hW]; exact blk_new' (by simp)
  refine words_blk (xss := [x, y, z]) a4 rfl fun i hi => ?_
  have hi3 : i < 3 := hi
  match i, hi3 with
  | 0, _ => exact ⟨_, rfl, word_blk a1 hx.1, hx.2⟩
  | 1, _ => exact ⟨_, rfl, word_blk a2 hy.1, hy.2⟩
  | 2, _ => exact ⟨_, rfl, word_blk a3 hz.1, hz.2⟩
/-! a set of words -/
structure SetX (B : Nat) (w : World) (t : Nat) (X : List (List Int)) (mo : Option Nat) (Ks : List (List UInt8)) : Prop where
  set : SetIs w t mo Ks
  lo : B ≤ t
  mlo : ∀ b, mo = some b → B ≤ b
  keys : KeysOf Ks X
  few : Ks.length ≤ 1000
theorem SetX.below {B : Nat} {w w' : World} {t : Nat} {X : List (List Int)} {mo : Option Nat} {Ks : List (List UInt8)} (h : SetX B w t X mo Ks) (hb : Below w.heap.size w w') : SetX B w' t X mo Ks := ⟨h.set.below hb, h.lo, h.mlo, h.keys, h.few⟩
theorem SetX.base {B B' : Nat} {w : World} {t : Nat} {X : List (List Int)} {mo : Option Nat} {Ks : List (List UInt8)} (h : SetX B w t X mo Ks) (hb : B' ≤ B) : SetX B' w t X mo Ks := ⟨h.set, by have := h.lo; omega, fun b e => by have := h.mlo b e; omega, h.keys, h.few⟩
theorem of_x (w : World) (v : Value) (X : List (List Int)) (hv : WordsAt w v X) (hf : ∀ x ∈ X, Fine x) (hl : X.length ≤ 1000) : Calls Try.prog 17 #[v] w fun e w' => ∃ t mo Ks, e = .returned (.pointer (some ⟨t, 0, none⟩)) ∧ SetX w.heap.size w' t X mo Ks ∧ Ks.length ≤ X.length ∧ Below w.heap.size w w' :=
  (of_any w v X hv hl).mono fun e w' ⟨t, he, ⟨mo, Ko, h1, h2, h3, h4, h5⟩, hb⟩ => ⟨t, mo, Ko, he, ⟨h1, h2, h3, ⟨hf, h4⟩, by omega⟩, h5, hb⟩
theorem keys_len {Ks : List (List UInt8)} {X Y : List (List Int)} (hn : Ks.Nodup) (hk : KeysOf Ks X) (hY : Up Y) (hm : ∀ x, x ∈ Y ↔ x ∈ X) : Ks.length = Y.length := by
  have hYn : Y.Nodup := by
    unfold List.Nodup
    refine hY.imp ?_
    intro a b h e
    subst e
    rw [ltW_irr] at h
    cases h
  have hYk : (Y.map keyB).Nodup := by
    unfold List.Nodup at hYn ⊢
    rw [List.pairwise_map]
    refine hYn.imp_of_mem ?_
    intro a b ha hb hne e
    exact hne (keyB_inj (hk.1 a ((hm a).1 ha)).1 (hk.1 b ((hm b).1 hb)).1 e)
  have : Ks.Perm (Y.map keyB) := (List.perm_ext_iff_of_nodup hn hYk).2 fun z => by
    rw [hk.2 z, List.mem_map]
    constructor
    · rintro ⟨x, hx, e⟩; exact ⟨x, (hm x).2 hx, e⟩
    · rintro ⟨x, hx, e⟩; exact ⟨x, (hm x).1 hx, e⟩
  rw [this.length_eq, List.length_map]
theorem keys8 {Ks : List (List UInt8)} {X : List (List Int)} (h : KeysOf Ks X) (hl : Ks.length ≤ 1000) : Keys8 Ks := ⟨hl, fun a ha => by
  obtain ⟨x, hx, e⟩ := (h.2 a).1 ha
  have := (h.1 x hx).2
  rw [← e, keyB_len]
  omega⟩
/-- the words of two lists, each with each -/
def timesW (X Y : List (List Int)) (k : Nat) : List (List Int) := X.flatMap fun a => Y.map fun b => (a ++ b).take k
theorem mem_timesW {X Y : List (List Int)} {k : Nat} {z : List Int} : z ∈ timesW X Y k ↔ ∃ a ∈ X, ∃ b ∈ Y, (a ++ b).take k = z := by
  simp [timesW, List.mem_flatMap, List.mem_map]
theorem times_keys {Ks Kt Ko : List (List UInt8)} {X Y : List (List Int)} {k : Int} (hX : KeysOf Ks X) (hY : KeysOf Kt Y) (hl : ∀ a ∈ X, ∀ b ∈ Y, a.length + b.length ≤ 1000) (h : ∀ z, z ∈ Ko ↔ TimesOf Ks Kt k z) : KeysOf Ko (timesW X Y k.toNat) := by
  refine ⟨fun x hx => ?_, fun z => ?_⟩
  · obtain ⟨a, ha, b, hb, rfl⟩ := mem_timesW.1 hx
    refine ⟨fun n hn => ?_, by have := hl a ha b hb; simp; omega⟩
    rcases List.mem_append.1 (List.mem_of_mem_take hn) with h | h
    · exact (hX.1 a ha).1 n h
    · exact (hY.1 b hb).1 n h
  · rw [h z]
    constructor
    · rintro ⟨p, hp, q, hq, e⟩
      obtain ⟨a, ha, rfl⟩ := (hX.2 p).1 hp
      obtain ⟨b, hb, rfl⟩ := (hY.2 q).1 hq
      rw [← keyB_append, headB_key] at e
      exact ⟨_, mem_timesW.2 ⟨a, ha, b, hb, rfl⟩, e⟩
    · rintro ⟨x, hx, e⟩
      obtain ⟨a, ha, b, hb, rfl⟩ := mem_timesW.1 hx
      exact ⟨keyB a, (hX.2 _).2 ⟨a, ha, rfl⟩, keyB b, (hY.2 _).2 ⟨b, hb, rfl⟩, by rw [← keyB_append, headB_key, e]⟩
theorem times_x {B B' : Nat} (w : World) (s t : Nat) (mo mt : Option Nat) (X Y : List (List Int)) (Ks Kt : List (List UInt8)) (k : Int) (h : SetX B w s X mo Ks) (ht : SetX B' w t Y mt Kt) (hl : ∀ a ∈ X, ∀ b ∈ Y, a.length + b.length ≤ 1000) (hk : In64 k) (hfew : Ks.length * Kt.length ≤ 1000) : Calls Try.prog 25 #[.pointer (some ⟨s, 0, none⟩), .pointer (some ⟨t, 0, none⟩), .int .i64 k] w fun e w' => ∃ o m2 Ko, e = .returned (.pointer (some ⟨o, 0, none⟩)) ∧ SetX w.heap.size w' o (timesW X Y k.toNat) m2 Ko ∧ Ko.length ≤ Ks.length * Kt.length ∧ Below w.heap.size w w' :=
  (times_any w s t mo mt Ks Kt k h.set ht.set (keys8 h.keys h.few) (keys8 ht.keys ht.few) hk).mono fun e w' ⟨o, he, hlo, ⟨m2, Ko, h1, h2, h3, h4⟩, hb⟩ => ⟨o, m2, Ko, he, ⟨h1, hlo, h2, times_keys h.keys ht.keys hl h3, by omega⟩, h4, hb⟩
theorem all_x {B : Nat} (w : World) (s : Nat) (mo : Option Nat) (Ks : List (List UInt8)) (X Y : List (List Int)) (h : SetX B w s X mo Ks) (hY : Up Y) (hm : ∀ x, x ∈ Y ↔ x ∈ X) : Calls Try.prog 20 #[.pointer (some ⟨s, 0, none⟩)] w fun e w' => ∃ v, e = .returned v ∧ AllIs w.heap.size w' v Y ∧ WordsAt w' v Y ∧ Below w.heap.size w w' :=
  all_any w s mo Ks X Y h.set h.keys h.few hY hm
end Go.Proofs.Ythcnffieoocnkaa.st

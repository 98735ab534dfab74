import Derived.Test.YtomikgkoegkofaaJc
import Derived.Test.YtomikgkoegkofaaJa
namespace Go.Proofs.Ytomikgkoegkofaa.dt
open Go.ChangeShapes Go.WideShapes Go.ChangeAt Go.RowKit Go.Maps Go.WideMaps Go.WideElems Go.Shelf Go.Proofs.Ytomikgkoegkofaa.dv
set_option linter.unusedVariables false
set_option linter.unusedSimpArgs false
/-! TreeBends: trees whose blocks are told apart -/
/-- trees in memory that Of has made, with all blocks in order -/
inductive FoB (B : Nat) (W : World) : List Nat → Fo → List Nat → Prop
  | nil : FoB B W [] .nil []
  | cons {b : Nat} {bs : List Nat} {s r : Int} {v : Value} {kb : List Nat} {k f : Fo} {l1 l2 : List Nat} (h0 : B ≤ b) (h1 : Blk W b 65 #[.int .i64 s, .int .i64 r, v]) (h2 : W.ownsRow B 53 1 v kb.length (PV kb)) (hn : kb = [] → v = .slice none 0 0) (h3 : FoB B W kb k l1) (h4 : FoB B W bs f l2) : FoB B W (b :: bs) (.node s r k f) (b :: (l1 ++ l2))
theorem FoB.at_ {B : Nat} {W : World} {bs : List Nat} {f : Fo} {ls : List Nat} (h : FoB B W bs f ls) : FoAt W bs f := by
  induction h with
  | nil => exact .nil
  | cons h0 h1 h2 hn h3 h4 ih3 ih4 => exact .cons h1 (own_base' h2 (Nat.zero_le _)) ih3 ih4
theorem FoB.sub {B : Nat} {W : World} {bs : List Nat} {f : Fo} {ls : List Nat} (h : FoB B W bs f ls) : ∀ b ∈ bs, b ∈ ls := by
  induction h with
  | nil => intro b hb; cases hb
  | cons h0 h1 h2 hn h3 h4 ih3 ih4 =>
    intro b hb
    rcases List.mem_cons.1 hb with rfl | hb
    · simp
    · have := ih4 b hb; simp [this]
theorem FoB.kept {B : Nat} {W W' : World} {bs : List Nat} {f : Fo} {ls : List Nat} (h : FoB B W bs f ls) (hb : Below W.heap.size W W') : FoB B W' bs f ls := by
  induction h with
  | nil => exact .nil
  | cons h0 h1 h2 hn h3 h4 ih3 ih4 => exact .cons h0 (h1.below hb h1.lt) (ownsRow_keep h2 (fun g hg _ => hb.block g hg)) hn ih3 ih4
theorem FoB.len {B : Nat} {W : World} {bs : List Nat} {f : Fo} {ls : List Nat} (h : FoB B W bs f ls) : bs.length = f.len := h.at_.len
theorem pv_inj {a b : List Nat} (h : PV a = PV b) : a = b := by
  induction a generalizing b with
  | nil => cases b with
    | nil => rfl
    | cons y b => simp [PV] at h
  | cons x a ih => cases b with
    | nil => simp [PV] at h
    | cons y b =>
      simp only [PV, List.map_cons, PtrV, List.cons.injEq, Value.pointer.injEq, Option.some.injEq, Addr.mk.injEq, and_true] at h
      rw [h.1, ih (b := b) (by simpa [PV] using h.2)]
theorem own_list {W : World} {B B' n m : Nat} {e : TypeId} {v : Value} {xs ys : List Value} (h : W.ownsRow B e 1 v n xs) (k : W.ownsRow B' e 1 v m ys) : xs = ys := by
  rcases h.2 with ⟨rfl, hn⟩ | ⟨g, cap, cur, rfl, _, h1, _, _, _, h2⟩
  · rcases k.2 with ⟨_, hm⟩ | ⟨g, cap, cur, e2, _⟩
    · have e1 : xs = [] := List.eq_nil_of_length_eq_zero (by have := h.1; omega)
      have e2 : ys = [] := List.eq_nil_of_length_eq_zero (by have := k.1; omega)
      rw [e1, e2]
    · cases e2
  · rcases k.2 with ⟨e2, _⟩ | ⟨g', cap', cur', e2, _, k1, _, _, _, k2⟩
    · cases e2
    · cases e2
      rw [h1] at k1
      cases k1
      rw [← h2, ← k2]
theorem fob_of_n {B : Nat} {W : World} : ∀ (n : Nat) (bs : List Nat) (lv : Nat) (rest : List (Nat × Nat)) (ns : List Nd), ns.length ≤ n → StackAt W (bs.map (fun c => (c, lv)) ++ rest) ns → (∀ x ∈ ns, NewAt B W x) → ∃ f n1 n2, ns = n1 ++ n2 ∧ FoB B W bs f (n1.map (·.b)) ∧ n1.map trip = f.nodes lv ∧ StackAt W rest n2
  | _, [], lv, rest, ns, _, h, _ => ⟨.nil, [], ns, rfl, .nil, rfl, h⟩
  | 0, b :: bs, lv, rest, ns, hn, h, _ => by
    have := h.le
    simp at this
    omega
  | n + 1, b :: bs, lv, rest, ns, hn, h, hnew => by
    cases h with
    | @cons _ _ _ sy ru v kb ns' h1 h2 h3 =>
      obtain ⟨h0, v', kb', g1', g2', g3'⟩ := hnew ⟨b, sy, ru, lv⟩ (by simp)
      have hv : v' = v := by
        have := (show W.heap[b]? = _ from g1').symm.trans h1
        simpa using this
      subst hv
      have hkb : kb' = kb := pv_inj (own_list g2' h2)
      subst hkb
      obtain ⟨k, n1, n2, rfl, g1, g2, g3⟩ := fob_of_n n kb' (lv + 1) _ ns' (by simp at hn; omega) h3 (fun x hx => hnew x (by simp [hx]))
      obtain ⟨f, n3, n4, rfl, g4, g5, g6⟩ := fob_of_n n bs lv rest n2 (by simp at hn; omega) g3 (fun x hx => hnew x (by simp only [List.mem_cons, List.mem_append]; exact .inr (.inr hx)))
      exact ⟨_, ⟨b, sy, ru, lv⟩ :: (n1 ++ n3), n4, by simp, by simpa using FoB.cons h0 g1' g2' g3' g1 g4, by simp [Fo.nodes, trip, g2, g5], g6⟩
theorem fob_of {B : Nat} {W : World} {b : Nat} {ns : List Nd} (h : StackAt W [(b, 1)] ns) (hn : ∀ x ∈ ns, NewAt B W x) (hd : (ns.map (·.b)).Nodup) : ∃ f ls, FoB B W [b] f ls ∧ ls.Nodup ∧ ns.map trip = f.nodes 1 := by
  obtain ⟨f, n1, n2, rfl, h1, h2, h3⟩ := fob_of_n _ [b] 1 [] ns (Nat.le_refl _) h hn
  cases h3
  rw [List.append_nil] at hd ⊢
  exact ⟨f, _, h1, hd, h2⟩
/-- a node that is looked at: what it is made of -/
structure XAt (B : Nat) (W : World) (x : Nat) (s r : Int) (v : Value) (kb : List Nat) (k : Fo) (lk : List Nat) : Prop where
  ge : B ≤ x
  blk : Blk W x 65 #[.int .i64 s, .int .i64 r, v]
  own : W.ownsRow B 53 1 v kb.length (PV kb)
  none_ : kb = [] → v = .slice none 0 0
  kids : FoB B W kb k lk
/-- where it stands: the trees round it, as a function of its rule and its kids -/
inductive Pos (B : Nat) (W : World) (x : Nat) (s r : Int) (k : Fo) (lk : List Nat) : List Nat → Fo → List Nat → (Int → Fo → Fo) → Prop
  | here {bs : List Nat} {f : Fo} {l2 : List Nat} (h4 : FoB B W bs f l2) : Pos B W x s r k lk (x :: bs) (.node s r k f) (x :: (lk ++ l2)) (fun r' k' => .node s r' k' f)
  | down {b : Nat} {bs : List Nat} {s' r' : Int} {v' : Value} {kb' : List Nat} {k' f : Fo} {l1 l2 : List Nat} {c : Int → Fo → Fo} (h1 : Blk W b 65 #[.int .i64 s', .int .i64 r', v']) (h2 : W.ownsRow B 53 1 v' kb'.length (PV kb')) (hn : kb' = [] → v' = .slice none 0 0) (hp : Pos B W x s r k lk kb' k' l1 c) (h4 : FoB B W bs f l2) : Pos B W x s r k lk (b :: bs) (.node s' r' k' f) (b :: (l1 ++ l2)) (fun r2 k2 => .node s' r' (c r2 k2) f)
  | next {b : Nat} {bs : List Nat} {s' r' : Int} {v' : Value} {kb' : List Nat} {k' f : Fo} {l1 l2 : List Nat} {c : Int → Fo → Fo} (h1 : Blk W b 65 #[.int .i64 s', .int .i64 r', v']) (h2 : W.ownsRow B 53 1 v' kb'.length (PV kb')) (hn : kb' = [] → v' = .slice none 0 0) (h3 : FoB B W kb' k' l1) (hp : Pos B W x s r k lk bs f l2 c) : Pos B W x s r k lk (b :: bs) (.node s' r' k' f) (b :: (l1 ++ l2)) (fun r2 k2 => .node s' r' k' (c r2 k2))
section
variable {B : Nat} {W : World} {x : Nat} {s r : Int} {k : Fo} {lk : List Nat}
theorem Pos.eq {bs : List Nat} {f : Fo} {ls : List Nat} {c : Int → Fo → Fo} (h : Pos B W x s r k lk bs f ls c) : f = c r k := by
  induction h with
  | here h4 => rfl
  | @down _ _ s1 r1 _ _ _ f1 _ _ _ h1 h2 hn hp h4 ih => exact congrArg (fun q => Fo.node s1 r1 q f1) ih
  | @next _ _ s1 r1 _ _ k1 _ _ _ _ h1 h2 hn h3 hp ih => exact congrArg (fun q => Fo.node s1 r1 k1 q) ih
theorem Pos.syms {bs : List Nat} {f : Fo} {ls : List Nat} {c : Int → Fo → Fo} (h : Pos B W x s r k lk bs f ls c) : ∀ r' k', (c r' k').syms = f.syms := by
  induction h with
  | here h4 => exact fun _ _ => rfl
  | down h1 h2 hn hp h4 ih => exact fun _ _ => rfl
  | next h1 h2 hn h3 hp ih => exact fun r' k' => by simp only [Fo.syms, ih r' k']
theorem Pos.all {p : Int → Int → List Int → Bool} {bs : List Nat} {f : Fo} {ls : List Nat} {c : Int → Fo → Fo} (h : Pos B W x s r k lk bs f ls c) : ∃ z, ∀ r' k', (c r' k').all p = (z && (p s r' k'.syms && k'.all p)) := by
  induction h with
  | @here bs f l2 h4 => exact ⟨f.all p, fun r' k' => by simp only [Fo.all]; cases f.all p <;> simp⟩
  | @down b bs s' r' v' kb' k' f l1 l2 c h1 h2 hn hp h4 ih =>
    obtain ⟨z, hz⟩ := ih
    refine ⟨p s' r' k'.syms && (f.all p && z), fun r2 k2 => ?_⟩
    simp only [Fo.all, hp.syms, hz]
    cases p s' r' k'.syms <;> cases f.all p <;> cases z <;> simp
  | @next b bs s' r' v' kb' k' f l1 l2 c h1 h2 hn h3 hp ih =>
    obtain ⟨z, hz⟩ := ih
    refine ⟨p s' r' k'.syms && (k'.all p && z), fun r2 k2 => ?_⟩
    simp only [Fo.all, hz]
    cases p s' r' k'.syms <;> cases k'.all p <;> cases z <;> simp
theorem Pos.forr {p : Int → Int → Prop} {bs : List Nat} {f : Fo} {ls : List Nat} {c : Int → Fo → Fo} (h : Pos B W x s r k lk bs f ls c) : f.For p → p s r ∧ k.For p ∧ ∀ r' k', p s r' → k'.For p → (c r' k').For p := by
  induction h with
  | here h4 => exact fun hf => ⟨hf.1, hf.2.1, fun r' k' h1 h2 => ⟨h1, h2, hf.2.2⟩⟩
  | down h1 h2 hn hp h4 ih => exact fun hf => ⟨(ih hf.2.1).1, (ih hf.2.1).2.1, fun r' k' g1 g2 => ⟨hf.1, (ih hf.2.1).2.2 r' k' g1 g2, hf.2.2⟩⟩
  | next h1 h2 hn h3 hp ih => exact fun hf => ⟨(ih hf.2.2).1, (ih hf.2.2).2.1, fun r' k' g1 g2 => ⟨hf.1, hf.2.1, (ih hf.2.2).2.2 r' k' g1 g2⟩⟩
theorem Pos.size {bs : List Nat} {f : Fo} {ls : List Nat} {c : Int → Fo → Fo} (h : Pos B W x s r k lk bs f ls c) : ∀ r' k', (c r' k').size + k.size = f.size + k'.size := by
  induction h with
  | here h4 => exact fun _ _ => by simp only [Fo.size]; omega
  | down h1 h2 hn hp h4 ih => exact fun r' k' => by have := ih r' k'; simp only [Fo.size]; omega
  | next h1 h2 hn h3 hp ih => exact fun r' k' => by have := ih r' k'; simp only [Fo.size]; omega
theorem Pos.mem {bs : List Nat} {f : Fo} {ls : List Nat} {c : Int → Fo → Fo} (h : Pos B W x s r k lk bs f ls c) : x ∈ ls ∧ ∀ y ∈ lk, y ∈ ls := by
  induction h with
  | here h4 => exact ⟨by simp, fun y hy => by simp [hy]⟩
  | down h1 h2 hn hp h4 ih => exact ⟨by simp [ih.1], fun y hy => by simp [ih.2 y hy]⟩
  | next h1 h2 hn h3 hp ih => exact ⟨by simp [ih.1], fun y hy => by simp [ih.2 y hy]⟩
theorem nodup3 {b : Nat} {l1 l2 : List Nat} (h : (b :: (l1 ++ l2)).Nodup) : b ∉ l1 ∧ b ∉ l2 ∧ l1.Nodup ∧ l2.Nodup ∧ ∀ y ∈ l1, y ∉ l2 := by
  rw [List.nodup_cons, List.nodup_append] at h
  obtain ⟨h1, h2, h3, h4⟩ := h
  exact ⟨fun e => h1 (by simp [e]), fun e => h1 (by simp [e]), h2, h3, fun y g1 g2 => h4 y g1 y g2 rfl⟩
/-- its kids are none of the roots -/
theorem Pos.roots {kb : List Nat} (hk : ∀ z ∈ kb, z ∈ lk) {bs : List Nat} {f : Fo} {ls : List Nat} {c : Int → Fo → Fo} (h : Pos B W x s r k lk bs f ls c) : ls.Nodup → ∀ z ∈ kb, z ∉ bs := by
  induction h with
  | here h4 =>
    intro hd z hz hm
    obtain ⟨h1, h2, _, _, h5⟩ := nodup3 hd
    rcases List.mem_cons.1 hm with rfl | hm
    · exact h1 (hk z hz)
    · exact h5 z (hk z hz) (h4.sub z hm)
  | down h1 h2 hn hp h4 ih =>
    intro hd z hz hm
    obtain ⟨g1, g2, _, _, g5⟩ := nodup3 hd
    have hz1 := hp.mem.2 z (hk z hz)
    rcases List.mem_cons.1 hm with rfl | hm
    · exact g1 hz1
    · exact g5 z hz1 (h4.sub z hm)
  | next h1 h2 hn h3 hp ih =>
    intro hd z hz hm
    obtain ⟨g1, g2, _, g4, g5⟩ := nodup3 hd
    have hz1 := hp.mem.2 z (hk z hz)
    rcases List.mem_cons.1 hm with rfl | hm
    · exact g2 hz1
    · exact ih g4 z hz hm
end
/-- two rows in one block begin with the same node -/
theorem row_first {W : World} {B B' n n' : Nat} {v v' : Value} {kb kb' : List Nat} {g : Nat} (h : W.ownsRow B 53 1 v n (PV kb)) (h' : W.ownsRow B' 53 1 v' n' (PV kb')) (e : v.ownBlock = some g) (e' : v'.ownBlock = some g) (hk : kb ≠ []) (hk' : kb' ≠ []) : ∃ z, z ∈ kb ∧ z ∈ kb' := by
  have c1 := h.cells e 0
  have c2 := h'.cells e' 0
  cases kb with
  | nil => exact absurd rfl hk
  | cons z kb =>
    cases kb' with
    | nil => exact absurd rfl hk'
    | cons z' kb' =>
      have a1 := c1 (PtrV z) (by simp [PV])
      have a2 := c2 (PtrV z') (by simp [PV])
      rw [a1] at a2
      have : z = z' := by simpa [PtrV] using a2
      exact ⟨z, by simp, by simp [this]⟩
section
variable {B : Nat} {W W' : World} {x : Nat} {s r : Int} {v : Value} {kb : List Nat} {k : Fo} {lk : List Nat}
theorem blk_typ {W : World} {b : Nat} {t t' : TypeId} {cs : Array Value} {cs' : Array Value} {fz : Nat × Nat} (h : Blk W b t cs) (k : W.heap[b]? = some (.cells cs' t' fz)) : t = t' := by
  have := (show W.heap[b]? = _ from h).symm.trans k
  simp at this
  exact this.2.1
/-- what stands apart from the node stays -/
theorem FoB.apart (hx : XAt B W x s r v kb k lk) (hW : ∀ q, q < W.heap.size → q ≠ x → v.ownBlock ≠ some q → W'.heap[q]? = W.heap[q]?) {bs : List Nat} {f : Fo} {ls : List Nat} (h : FoB B W bs f ls) (h1 : x ∉ ls) (h2 : ∀ z ∈ kb, z ∉ ls) : FoB B W' bs f ls := by
  induction h with
  | nil => exact .nil
  | @cons b bs s1 r1 v1 kb1 k1 f1 l1 l2 g0 g1 g2 gn g3 g4 ih3 ih4 =>
    refine .cons g0 ((hW b g1.lt (fun e => h1 (by simp [e])) (fun e => ?_)).trans g1) (ownsRow_keep g2 (fun g hg e => hW g hg (fun e2 => ?_) (fun e2 => ?_))) gn (ih3 (fun e => h1 (by simp [e])) (fun z hz e => h2 z hz (by simp [e]))) (ih4 (fun e => h1 (by simp [e])) (fun z hz e => h2 z hz (by simp [e])))
    · obtain ⟨_, cs, fz, ho⟩ := row_obj hx.own b e
      exact absurd (blk_typ g1 ho) (by decide)
    · subst e2
      obtain ⟨_, cs, fz, ho⟩ := row_obj g2 g e
      exact absurd (blk_typ hx.blk ho) (by decide)
    · have n1 : kb1 ≠ [] := fun hk => by rw [gn hk] at e; cases e
      have n2 : kb ≠ [] := fun hk => by rw [hx.none_ hk] at e2; cases e2
      obtain ⟨z, z1, z2⟩ := row_first g2 hx.own e e2 n1 n2
      exact h2 z z2 (by simp [g3.sub z z1])
/-- the node turned -/
theorem Pos.turn (hx : XAt B W x s r v kb k lk) (hW : ∀ q, q < W.heap.size → q ≠ x → v.ownBlock ≠ some q → W'.heap[q]? = W.heap[q]?) {r' : Int} {v' : Value} {kb' : List Nat} {k' : Fo} (g1 : Blk W' x 65 #[.int .i64 s, .int .i64 r', v']) (g2 : W'.ownsRow 0 53 1 v' kb'.length (PV kb')) (g3 : FoAt W' kb' k')
    {bs : List Nat} {f : Fo} {ls : List Nat} {c : Int → Fo → Fo} (h : Pos B W x s r k lk bs f ls c) : ls.Nodup → FoAt W' bs (c r' k') := by
  have hks : ∀ z ∈ kb, z ∈ lk := hx.kids.sub
  induction h with
  | here h4 =>
    intro hd
    obtain ⟨d1, d2, d3, d4, d5⟩ := nodup3 hd
    exact .cons g1 g2 g3 (FoB.apart hx hW h4 d2 (fun z hz => d5 z (hks z hz))).at_
  | @down b bs s1 r1 v1 kb1 k1 f1 l1 l2 c h1 h2 hn hp h4 ih =>
    intro hd
    obtain ⟨d1, d2, d3, d4, d5⟩ := nodup3 hd
    have hxm := hp.mem
    refine .cons ((hW b h1.lt (fun e => d1 (e ▸ hxm.1)) (fun e => ?_)).trans h1) (ownsRow_keep (own_base' h2 (Nat.zero_le _)) (fun g hg e => hW g hg (fun e2 => ?_) (fun e2 => ?_))) (ih d3) (FoB.apart hx hW h4 (d5 x hxm.1) (fun z hz => d5 z (hxm.2 z (hks z hz)))).at_
    · obtain ⟨_, cs, fz, ho⟩ := row_obj hx.own b e
      exact absurd (blk_typ h1 ho) (by decide)
    · subst e2
      obtain ⟨_, cs, fz, ho⟩ := row_obj h2 g e
      exact absurd (blk_typ hx.blk ho) (by decide)
    · have n1 : kb1 ≠ [] := fun hk => by rw [hn hk] at e; cases e
      have n2 : kb ≠ [] := fun hk => by rw [hx.none_ hk] at e2; cases e2
      obtain ⟨z, z1, z2⟩ := row_first h2 hx.own e e2 n1 n2
      exact hp.roots hks d3 z z2 z1
  | @next b bs s1 r1 v1 kb1 k1 f1 l1 l2 c h1 h2 hn h3 hp ih =>
    intro hd
    obtain ⟨d1, d2, d3, d4, d5⟩ := nodup3 hd
    have hxm := hp.mem
    have hxl : x ∉ l1 := fun e => d5 x e hxm.1
    have hzl : ∀ z ∈ kb, z ∉ l1 := fun z hz e => d5 z e (hxm.2 z (hks z hz))
    refine .cons ((hW b h1.lt (fun e => d2 (e ▸ hxm.1)) (fun e => ?_)).trans h1) (ownsRow_keep (own_base' h2 (Nat.zero_le _)) (fun g hg e => hW g hg (fun e2 => ?_) (fun e2 => ?_))) (FoB.apart hx hW h3 hxl hzl).at_ (ih d4)
    · obtain ⟨_, cs, fz, ho⟩ := row_obj hx.own b e
      exact absurd (blk_typ h1 ho) (by decide)
    · subst e2
      obtain ⟨_, cs, fz, ho⟩ := row_obj h2 g e
      exact absurd (blk_typ hx.blk ho) (by decide)
    · have n1 : kb1 ≠ [] := fun hk => by rw [hn hk] at e; cases e
      have n2 : kb ≠ [] := fun hk => by rw [hx.none_ hk] at e2; cases e2
      obtain ⟨z, z1, z2⟩ := row_first h2 hx.own e e2 n1 n2
      exact hzl z z2 (h3.sub z z1)
/-- one deeper -/
theorem Pos.comp {y : Nat} {s2 r2 : Int} {k2 : Fo} {lk2 : List Nat} {c2 : Int → Fo → Fo} (hx : XAt B W x s r v kb k lk) (hy : Pos B W y s2 r2 k2 lk2 kb k lk c2) {bs : List Nat} {f : Fo} {ls : List Nat} {c : Int → Fo → Fo} (h : Pos B W x s r k lk bs f ls c) : Pos B W y s2 r2 k2 lk2 bs f ls (fun r' k' => c r (c2 r' k')) := by
  induction h with
  | here h4 => exact .down hx.blk hx.own hx.none_ hy h4
  | down h1 h2 hn hp h4 ih => exact .down h1 h2 hn ih h4
  | next h1 h2 hn h3 hp ih => exact .next h1 h2 hn h3 ih
end
/-- the i-th tree of a row of trees -/
theorem fob_pos {B : Nat} {W : World} {bs : List Nat} {f : Fo} {ls : List Nat} (h : FoB B W bs f ls) : ∀ i, i < bs.length → ∃ s r v kb k lk c, XAt B W (bs.getD i 0) s r v kb k lk ∧ Pos B W (bs.getD i 0) s r k lk bs f ls c := by
  induction h with
  | nil => intro i hi; exact absurd hi (Nat.not_lt_zero _)
  | @cons b bs s1 r1 v1 kb1 k1 f1 l1 l2 g0 g1 g2 gn g3 g4 ih3 ih4 =>
    intro i hi
    cases i with
    | zero => exact ⟨s1, r1, v1, kb1, k1, l1, _, ⟨g0, g1, g2, gn, g3⟩, .here g4⟩
    | succ i =>
      obtain ⟨s, r, v, kb, k, lk, c, h1, h2⟩ := ih4 i (by simpa using hi)
      exact ⟨s, r, v, kb, k, lk, _, by simpa using h1, .next g1 g2 gn g3 (by simpa using h2)⟩
/-- one node alone is turned -/
theorem FoB.far1 {B : Nat} {W W' : World} {x : Nat} {cs : Array Value} (hx : Blk W x 65 cs) (hW : ∀ q, q < W.heap.size → q ≠ x → W'.heap[q]? = W.heap[q]?) {bs : List Nat} {f : Fo} {ls : List Nat} (h : FoB B W bs f ls) (h1 : x ∉ ls) : FoB B W' bs f ls := by
  induction h with
  | nil => exact .nil
  | @cons b bs s1 r1 v1 kb1 k1 f1 l1 l2 g0 g1 g2 gn g3 g4 ih3 ih4 =>
    refine .cons g0 ((hW b g1.lt (fun e => h1 (by simp [e]))).trans g1) (ownsRow_keep g2 (fun g hg e => hW g hg (fun e2 => ?_))) gn (ih3 (fun e => h1 (by simp [e]))) (ih4 (fun e => h1 (by simp [e])))
    subst e2
    obtain ⟨_, cs, fz, ho⟩ := row_obj g2 g e
    exact absurd (blk_typ hx ho) (by decide)
/-- the node's own kids, where its row is turned -/
theorem FoB.kidsapart {B : Nat} {W W' : World} {x : Nat} {s r : Int} {v : Value} {kb : List Nat} {k : Fo} {lk : List Nat} (hx : XAt B W x s r v kb k lk) (hW : ∀ q, q < W.heap.size → q ≠ x → v.ownBlock ≠ some q → W'.heap[q]? = W.heap[q]?) {bs : List Nat} {f : Fo} {ls : List Nat} (h : FoB B W bs f ls) (hd : ls.Nodup) (h1 : x ∉ ls) (h2 : ∀ z ∈ kb, z ∈ ls → z ∈ bs) : FoB B W' bs f ls := by
  induction h with
  | nil => exact .nil
  | @cons b bs s1 r1 v1 kb1 k1 f1 l1 l2 g0 g1 g2 gn g3 g4 ih3 ih4 =>
    obtain ⟨d1, d2, d3, d4, d5⟩ := nodup3 hd
    have hz1 : ∀ z ∈ kb, z ∉ l1 := fun z hz e => by
      rcases List.mem_cons.1 (h2 z hz (by simp [e])) with rfl | hm
      · exact d1 e
      · exact d5 z e (g4.sub z hm)
    have hz2 : ∀ z ∈ kb, z ∈ l2 → z ∈ bs := fun z hz e => by
      rcases List.mem_cons.1 (h2 z hz (by simp [e])) with rfl | hm
      · exact absurd e d2
      · exact hm
    refine .cons g0 ((hW b g1.lt (fun e => h1 (by simp [e])) (fun e => ?_)).trans g1) (ownsRow_keep g2 (fun g hg e => hW g hg (fun e2 => ?_) (fun e2 => ?_))) gn (FoB.apart hx hW g3 (fun e => h1 (by simp [e])) hz1) (ih4 d4 (fun e => h1 (by simp [e])) hz2)
    · obtain ⟨_, cs, fz, ho⟩ := row_obj hx.own b e
      exact absurd (blk_typ g1 ho) (by decide)
    · subst e2
      obtain ⟨_, cs, fz, ho⟩ := row_obj g2 g e
      exact absurd (blk_typ hx.blk ho) (by decide)
    · have n1 : kb1 ≠ [] := fun hk => by rw [gn hk] at e; cases e
      have n2 : kb ≠ [] := fun hk => by rw [hx.none_ hk] at e2; cases e2
      obtain ⟨z, z1, z2⟩ := row_first g2 hx.own e e2 n1 n2
      exact hz1 z z2 (g3.sub z z1)
def Fo.app : Fo → Fo → Fo
  | .nil, g => g
  | .node s r k f, g => .node s r k (f.app g)
theorem Fo.syms_app : ∀ f g : Fo, (f.app g).syms = f.syms ++ g.syms
  | .nil, _ => rfl
  | .node s r k f, g => by simp [Fo.app, Fo.syms, syms_app f g]
theorem Fo.size_app : ∀ f g : Fo, (f.app g).size = f.size + g.size
  | .nil, _ => by simp [Fo.app, Fo.size]
  | .node s r k f, g => by have := size_app f g; simp only [Fo.app, Fo.size]; omega
theorem Fo.for_app {p : Int → Int → Prop} : ∀ f g : Fo, f.For p → g.For p → (f.app g).For p
  | .nil, _, _, h => h
  | .node s r k f, g, h1, h2 => ⟨h1.1, h1.2.1, for_app f g h1.2.2 h2⟩
theorem FoAt.app {W : World} {a b : List Nat} {f g : Fo} (h : FoAt W a f) (k : FoAt W b g) : FoAt W (a ++ b) (f.app g) := by
  induction h with
  | nil => exact k
  | cons h1 h2 h3 h4 ih3 ih4 => exact .cons h1 h2 h3 ih4
theorem Pos.notin {B : Nat} {W : World} {x : Nat} {s r : Int} {k : Fo} {lk : List Nat} {bs : List Nat} {f : Fo} {ls : List Nat} {c : Int → Fo → Fo} (h : Pos B W x s r k lk bs f ls c) : ls.Nodup → x ∉ lk ∧ lk.Nodup := by
  induction h with
  | here h4 => exact fun hd => ⟨(nodup3 hd).1, (nodup3 hd).2.2.1⟩
  | down h1 h2 hn hp h4 ih => exact fun hd => ih (nodup3 hd).2.2.1
  | next h1 h2 hn h3 hp ih => exact fun hd => ih (nodup3 hd).2.2.2.1
theorem fit_more {tl : Nat} {R : List Rl} {s r : Int} {S : List Int} (h : fitB tl R s r S = true) : fitB tl R s r (S ++ [0]) = false := by
  unfold fitB at *
  by_cases hs : s < 0
  · rw [if_pos hs] at *
    simp
  · rw [if_neg hs] at *
    simp only [Bool.and_eq_true, decide_eq_true_eq] at h
    rw [← h.2]
    simp
end Go.Proofs.Ytomikgkoegkofaa.dt
namespace Go.Proofs.Ytomikgkoegkofaa.dt
open Go.ChangeShapes Go.WideShapes Go.ChangeAt Go.RowKit Go.Maps Go.WideMaps Go.WideElems Go.Proofs.Ytomikgkoegkofaa.dv
set_option linter.unusedVariables false
set_option linter.unusedSimpArgs false
/-! a right grammar's rules are told apart -/
attribute [local go_sem] run_store_float
def DistU (R : List Rl) (k : Nat) : Prop := ∀ (j : Nat) (r2 r' : Rl), j < k → R[j]? = some r2 → R[k]? = some r' → ¬ (r2.left = r'.left ∧ r2.right = r'.right)
theorem dist_more {R : List Rl} {r r4 : Rl} {j : Nat} (h : ∀ i r2, i < j → R[i]? = some r2 → ¬ (r2.left = r.left ∧ r2.right = r.right)) (hk : R[j]? = some r4) (hn : ¬ (r4.left = r.left ∧ r4.right = r.right)) : ∀ i r2, i < j + 1 → R[i]? = some r2 → ¬ (r2.left = r.left ∧ r2.right = r.right) := fun i r2 hi h2 => by
  rcases Nat.lt_or_ge i j with h1 | h1
  · exact h i r2 h1 h2
  · obtain rfl : i = j := by omega
    rw [hk] at h2
    cases h2
    exact hn
set_option maxRecDepth 100000 in
set_option maxHeartbeats 0 in
theorem rule_full (w : World) (B : Nat) (ta va ra : Option Addr) (tl tc vl vc rc : Nat) (R : List Rl) (k : Nat) (hk : k < R.length) (hR : RulesAt B w (.slice ra R.length rc) R) (hB : B ≤ w.heap.size) (hn : R.length ≤ 24) (ht : tl ≤ 6) (hv : vl ≤ 8) (h8 : ∀ r ∈ R, r.right.length ≤ 8) :
    Calls Try.prog 43 #[.agg #[.slice ta tl tc, .slice va vl vc, .slice ra R.length rc], .int .i64 k] w (AnsIf ((∀ r', R[k]? = some r' → RlOk tl vl r') ∧ DistU R k) w) := by
  have b0 := Blk.new w 25 #[.slice ta tl tc, .slice va vl vc, .slice ra R.length rc]
  have hbl : Below w.heap.size w (w.alloc (.cells #[.slice ta tl tc, .slice va vl vc, .slice ra R.length rc] 25)) := below_lit _ _ _
  have hR1 := hR.below (hbl.mono hB)
  generalize hW0 : w.alloc (.cells #[.slice ta tl tc, .slice va vl vc, .slice ra R.length rc] 25) = w0 at *
  have hz0 : w0.heap.size = w.heap.size + 1 := by rw [← hW0]; simp
  have d2 := b0.cell 2
  simp only [List.getElem?_toArray, List.getElem?_cons_zero, List.getElem?_cons_succ] at d2
  obtain ⟨a, r, ao, cap, rfl, hab, hrk, g1, g2, g3, g4, g5, g6, g7, g8, g9⟩ := hR1.at k hk
  have hr8 := h8 r (List.mem_of_getElem? hrk)
  have br := Blk.new w0 52 #[.int .i64 r.left, .slice ao r.right.length cap, .float .f64 r.wt]
  have bg := b0.alloc (.cells #[.int .i64 r.left, .slice ao r.right.length cap, .float .f64 r.wt] 52)
  have hbr : Below w0.heap.size w0 (w0.alloc (.cells #[.int .i64 r.left, .slice ao r.right.length cap, .float .f64 r.wt] 52)) := below_lit _ _ _
  rw [hz0] at br
  have hbr' : Below w.heap.size w (w0.alloc (.cells #[.int .i64 r.left, .slice ao r.right.length cap, .float .f64 r.wt] 52)) := hbl.trans (hbr.mono (by omega))
  have hR2 := hR1.below (hbr.mono (by omega))
  have HR1 := Lib.hid hR2
  have H7 := Lib.hid g7
  clear hR hR1 hR2 g7
  go_enter Try.func43, Try.ntmps43
  go_wp2
  generalize hW1 : w0.alloc (.cells #[.int .i64 r.left, .slice ao r.right.length cap, .float .f64 r.wt] 52) = w1 at *
  have x0 := br.cell 0
  have x1 := br.cell 1
  have x2 := br.cell 2
  have e0 := bg.cell 0
  have e1 := bg.cell 1
  have e2 := bg.cell 2
  simp only [List.getElem?_toArray, List.getElem?_cons_zero, List.getElem?_cons_succ] at x0
  simp only [List.getElem?_toArray, List.getElem?_cons_zero, List.getElem?_cons_succ] at x1
  simp only [List.getElem?_toArray, List.getElem?_cons_zero, List.getElem?_cons_succ] at x2
  simp only [List.getElem?_toArray, List.getElem?_cons_zero, List.getElem?_cons_succ] at e0
  simp only [List.getElem?_toArray, List.getElem?_cons_zero, List.getElem?_cons_succ] at e1
  simp only [List.getElem?_toArray, List.getElem?_cons_zero, List.getElem?_cons_succ] at e2
  by_cases c1 : r.left < 0
  · have c1' := decide_eq_true c1
    go_quiet (fail)
    go_wp2
    go_ret
    exact ⟨_, rfl, (fun h => by cases h), below_drewN hbr' _⟩
  · have c1' := decide_eq_false c1
    by_cases c2 : (vl : Int) ≤ r.left
    · have c2' := decide_eq_true c2
      go_quiet (fail)
      go_wp2
      go_ret
      exact ⟨_, rfl, (fun h => by cases h), below_drewN hbr' _⟩
    · have c2' := decide_eq_false c2
      cases k with
      | zero =>
        have c3' : decide ((0 : Int) < ((0 : Nat) : Int)) = false := rfl
        have c4 : (decide ((24 : Int) < (r.right.length : Int))) = false := decide_eq_false (by omega)
        refine wp_region_any (by kernel_rfl) ?_
        change wpAny _ _ _ _ _ _ _ (World.drew _)
        refine wpAny_take (i := 0) (v := ?_) rfl (by kernel_rfl) (by kernel_rfl) (by kernel_rfl) (fun _ _ _ h => h) (Or.inl ⟨by kernel_rfl, ?_⟩) ?_
        rotate_left
        · intro w; go_simp; with_reducible rfl
        refine wpAny_ready (rs := [1]) (by kernel_rfl) (by simp) ?_
        refine AllReady.cons rfl (fun K hK => ?_) AllReady.nil
        go_simp
        refine hK _ _ ?_
        clear hK K
        refine wpAny_take (i := 2) (v := ?_) rfl (by kernel_rfl) (by kernel_rfl) (by kernel_rfl) (fun _ _ _ h => h) (Or.inl ⟨by kernel_rfl, ?_⟩) ?_
        rotate_left
        · intro w; go_simp; with_reducible rfl
        refine wpAny_take (i := 3) (v := ?_) rfl (by kernel_rfl) (by kernel_rfl) (by kernel_rfl) (fun _ _ _ h => h) (Or.inl ⟨by kernel_rfl, ?_⟩) ?_
        rotate_left
        · intro w; go_simp; with_reducible rfl
        refine wpAny_take (i := 4) (v := ?_) rfl (by kernel_rfl) (by kernel_rfl) (by kernel_rfl) (fun _ _ _ h => h) (Or.inl ⟨by kernel_rfl, ?_⟩) ?_
        rotate_left
        · intro w; go_simp; with_reducible rfl
        refine wpAny_take (i := 6) (v := ?_) rfl (by kernel_rfl) (by kernel_rfl) (by kernel_rfl) (fun _ _ _ h => h) (Or.inl ⟨by kernel_rfl, ?_⟩) ?_
        rotate_left
        · intro w; go_simp; with_reducible rfl
        apply later
        · intro hG
          refine wpAny_ready (rs := [5, 7]) (by kernel_rfl) (by simp) ?_
          refine AllReady.cons rfl (fun K hK => ?_) (AllReady.cons rfl (fun K hK => ?_) AllReady.nil)
          · go_simp
            refine hK _ _ ?_
            clear hK K
            refine wpAny_ready (rs := [7]) (by kernel_rfl) (by simp) ?_
            refine AllReady.cons rfl (fun K hK => ?_) AllReady.nil
            · go_simp
              refine hK _ _ ?_
              clear hK K
              refine wpAny_take (i := 8) (v := ?_) rfl (by kernel_rfl) (by kernel_rfl) (by kernel_rfl) (fun _ _ _ h => h) (Or.inl ⟨by kernel_rfl, ?_⟩) ?_
              rotate_left
              · intro w; go_simp; with_reducible rfl
              refine wpAny_take (i := 9) (v := ?_) rfl (by kernel_rfl) (by kernel_rfl) (by kernel_rfl) (fun _ _ _ h => h) (Or.inl ⟨by kernel_rfl, ?_⟩) ?_
              rotate_left
              · intro w; go_simp; with_reducible rfl
              exact hG
          · go_simp
            refine hK _ _ ?_
            clear hK K
            refine wpAny_take (i := 8) (v := ?_) rfl (by kernel_rfl) (by kernel_rfl) (by kernel_rfl) (fun _ _ _ h => h) (Or.inl ⟨by kernel_rfl, ?_⟩) ?_
            rotate_left
            · intro w; go_simp; with_reducible rfl
            refine wpAny_ready (rs := [5]) (by kernel_rfl) (by simp) ?_
            refine AllReady.cons rfl (fun K hK => ?_) AllReady.nil
            · go_simp
              refine hK _ _ ?_
              clear hK K
              refine wpAny_take (i := 9) (v := ?_) rfl (by kernel_rfl) (by kernel_rfl) (by kernel_rfl) (fun _ _ _ h => h) (Or.inl ⟨by kernel_rfl, ?_⟩) ?_
              rotate_left
              · intro w; go_simp; with_reducible rfl
              exact hG
        refine wpAny_take (i := 10) (v := ?_) rfl (by kernel_rfl) (by kernel_rfl) (by kernel_rfl) (fun _ _ _ h => h) (Or.inl ⟨by kernel_rfl, ?_⟩) ?_
        rotate_left
        · intro w; go_simp; with_reducible rfl
        refine wpAny_take (i := 11) (v := ?_) rfl (by kernel_rfl) (by kernel_rfl) (by kernel_rfl) (fun _ _ _ h => h) (Or.inl ⟨by kernel_rfl, ?_⟩) ?_
        rotate_left
        · intro w; go_simp; with_reducible rfl
        refine wpAny_take (i := 12) (v := ?_) rfl (by kernel_rfl) (by kernel_rfl) (by kernel_rfl) (fun _ _ _ h => h) (Or.inl ⟨by kernel_rfl, ?_⟩) ?_
        rotate_left
        · intro w; go_simp; with_reducible rfl
        refine wpAny_take (i := 13) (v := ?_) rfl (by kernel_rfl) (by kernel_rfl) (by kernel_rfl) (fun _ _ _ h => h) (Or.inl ⟨by kernel_rfl, ?_⟩) ?_
        rotate_left
        · intro w; go_simp; with_reducible rfl
        refine wpAny_take (i := 14) (v := ?_) rfl (by kernel_rfl) (by kernel_rfl) (by kernel_rfl) (fun _ _ _ h => h) (Or.inl ⟨by kernel_rfl, ?_⟩) ?_
        rotate_left
        · intro w; go_simp; with_reducible rfl
        refine wpAny_take (i := 15) (v := undef) rfl (by kernel_rfl) (by kernel_rfl) (by kernel_rfl) (fun _ _ _ h => h) (Or.inr ⟨by kernel_rfl, rfl⟩) ?_
        refine wpAny_take (i := 16) (v := undef) rfl (by kernel_rfl) (by kernel_rfl) (by kernel_rfl) (fun _ _ _ h => h) (Or.inr ⟨by kernel_rfl, rfl⟩) ?_
        refine wpAny_take (i := 17) (v := undef) rfl (by kernel_rfl) (by kernel_rfl) (by kernel_rfl) (fun _ _ _ h => h) (Or.inr ⟨by kernel_rfl, rfl⟩) ?_
        refine wpAny_take (i := 18) (v := undef) rfl (by kernel_rfl) (by kernel_rfl) (by kernel_rfl) (fun _ _ _ h => h) (Or.inr ⟨by kernel_rfl, rfl⟩) ?_
        refine wpAny_take (i := 19) (v := undef) rfl (by kernel_rfl) (by kernel_rfl) (by kernel_rfl) (fun _ _ _ h => h) (Or.inr ⟨by kernel_rfl, rfl⟩) ?_
        refine wpAny_take (i := 20) (v := undef) rfl (by kernel_rfl) (by kernel_rfl) (by kernel_rfl) (fun _ _ _ h => h) (Or.inr ⟨by kernel_rfl, rfl⟩) ?_
        refine wpAny_take (i := 21) (v := undef) rfl (by kernel_rfl) (by kernel_rfl) (by kernel_rfl) (fun _ _ _ h => h) (Or.inr ⟨by kernel_rfl, rfl⟩) ?_
        refine wpAny_take (i := 22) (v := undef) rfl (by kernel_rfl) (by kernel_rfl) (by kernel_rfl) (fun _ _ _ h => h) (Or.inr ⟨by kernel_rfl, rfl⟩) ?_
        refine wpAny_take (i := 23) (v := undef) rfl (by kernel_rfl) (by kernel_rfl) (by kernel_rfl) (fun _ _ _ h => h) (Or.inr ⟨by kernel_rfl, rfl⟩) ?_
        refine wpAny_take (i := 24) (v := undef) rfl (by kernel_rfl) (by kernel_rfl) (by kernel_rfl) (fun _ _ _ h => h) (Or.inr ⟨by kernel_rfl, rfl⟩) ?_
        refine wpAny_take (i := 25) (v := ?_) rfl (by kernel_rfl) (by kernel_rfl) (by kernel_rfl) (fun _ _ _ h => h) (Or.inl ⟨by kernel_rfl, ?_⟩) ?_
        rotate_left
        · intro w; go_simp; with_reducible rfl
        refine wpAny_take (i := 26) (v := ?_) rfl (by kernel_rfl) (by kernel_rfl) (by kernel_rfl) (fun _ _ _ h => h) (Or.inl ⟨by kernel_rfl, ?_⟩) ?_
        rotate_left
        · intro w; go_simp; with_reducible rfl
        refine wpAny_take (i := 27) (v := ?_) rfl (by kernel_rfl) (by kernel_rfl) (by kernel_rfl) (fun _ _ _ h => h) (Or.inl ⟨by kernel_rfl, ?_⟩) ?_
        rotate_left
        · intro w; go_simp; with_reducible rfl
        refine wpAny_take (i := 28) (v := ?_) rfl (by kernel_rfl) (by kernel_rfl) (by kernel_rfl) (fun _ _ _ h => h) (Or.inl ⟨by kernel_rfl, ?_⟩) ?_
        rotate_left
        · intro w; go_simp; with_reducible rfl
        refine wpAny_ready (rs := [29]) (by kernel_rfl) (by simp) ?_
        refine AllReady.cons rfl (fun K hK => ?_) AllReady.nil
        go_simp
        refine hK _ _ ?_
        clear hK K
        refine wpAny_take (i := 30) (v := ?_) rfl (by kernel_rfl) (by kernel_rfl) (by kernel_rfl) (fun _ _ _ h => h) (Or.inl ⟨by kernel_rfl, ?_⟩) ?_
        rotate_left
        · intro w; go_simp; with_reducible rfl
        refine wpAny_take (i := 31) (v := ?_) rfl (by kernel_rfl) (by kernel_rfl) (by kernel_rfl) (fun _ _ _ h => h) (Or.inl ⟨by kernel_rfl, ?_⟩) ?_
        rotate_left
        · intro w; go_simp; with_reducible rfl
        refine wpAny_take (i := 32) (v := ?_) rfl (by kernel_rfl) (by kernel_rfl) (by kernel_rfl) (fun _ _ _ h => h) (Or.inl ⟨by kernel_rfl, ?_⟩) ?_
        rotate_left
        · intro w; go_simp; with_reducible rfl
        refine wpAny_take (i := 33) (v := ?_) rfl (by kernel_rfl) (by kernel_rfl) (by kernel_rfl) (fun _ _ _ h => h) (Or.inl ⟨by kernel_rfl, ?_⟩) ?_
        rotate_left
        · intro w; go_simp; with_reducible rfl
        refine wpAny_take (i := 34) (v := ?_) rfl (by kernel_rfl) (by kernel_rfl) (by kernel_rfl) (fun _ _ _ h => h) (Or.inl ⟨by kernel_rfl, ?_⟩) ?_
        rotate_left
        · intro w; go_simp; with_reducible rfl
        refine wpAny_ready (rs := [35]) (by kernel_rfl) (by simp) ?_
        refine AllReady.cons rfl (fun K hK => ?_) AllReady.nil
        go_simp
        refine hK _ _ ?_
        clear hK K
        refine wpAny_ready (rs := [36]) (by kernel_rfl) (by simp) ?_
        refine AllReady.cons rfl (fun K hK => ?_) AllReady.nil
        go_simp
        go_at_call 72
        refine (told_any _ _).mono ?_
        rintro e w5 ⟨b1, rfl, n5, rfl⟩
        refine hK _ _ ?_
        clear hK K
        refine wpAny_take (i := 37) (v := ?_) rfl (by kernel_rfl) (by kernel_rfl) (by kernel_rfl) (fun _ _ _ h => h) (Or.inl ⟨by kernel_rfl, ?_⟩) ?_
        rotate_left
        · intro w; go_simp; with_reducible rfl
        refine wpAny_take (i := 38) (v := ?_) rfl (by kernel_rfl) (by kernel_rfl) (by kernel_rfl) (fun _ _ _ h => h) (Or.inl ⟨by kernel_rfl, ?_⟩) ?_
        rotate_left
        · intro w; go_simp; with_reducible rfl
        refine wpAny_done (by kernel_rfl) ?_ _
        cases b1
        · go_wp2
          go_ret
          exact ⟨_, rfl, (fun h => by cases h), below_drewN hbr' _⟩
        · go_wp2
          go_loopw [6] (fun i wr => ∃ j : Nat, j ≤ r.right.length ∧ i = .int .i64 j ∧ (∀ i, i < j → SymOk tl vl (r.right.getD i 0)) ∧ ∃ m, wr = w1.drewN m) (fun i _ => r.right.length - (intOf i).toNat)
          case atStart => exact ⟨0, Nat.zero_le _, rfl, fun i hi => absurd hi (Nat.not_lt_zero _), 1 + n5, rfl⟩
          case round =>
            obtain ⟨j, hj, rfl, hal, m, rfl⟩ := hrel
            have HAL := Lib.hid hal
            clear hal
            by_cases hlt : j < r.right.length
            · obtain ⟨a2, rfl, hab2, hc2⟩ := H7.out j hlt
              have hc2' := (hbr.cell (p := a2.add j) (by rw [add_block]; omega)).trans hc2
              have hy := g8 (r.right.getD j 0) (by rw [List.getD_eq_getElem?_getD, List.getElem?_eq_getElem hlt]; simp)
              have hx := cm_if (r.right.getD j 0) hy
              have hx2 := cm_any (r.right.getD j 0) hy
              clear hc2 hy
              obtain ⟨y, hyy⟩ : ∃ y, y = r.right.getD j 0 := ⟨_, rfl⟩
              rw [← hyy] at hc2' hx hx2
              have HYY := Lib.hid hyy
              clear hyy
              by_cases q1 : (vl : Int) ≤ y
              · go_wp2
                all_goals go_ret
                all_goals exact ⟨_, rfl, (fun h => by cases h), below_drewN hbr' _⟩
              · by_cases q2 : y < 0
                · by_cases q3 : (tl : Int) ≤ -1 - y
                  · go_wp2
                    all_goals go_ret
                    all_goals exact ⟨_, rfl, (fun h => by cases h), below_drewN hbr' _⟩
                  · go_wp2
                    exact ⟨⟨j + 1, hlt, congrArg (Value.int .i64) (by omega), sym_more HAL.out HYY.out ⟨by omega, by omega⟩, m, rfl⟩, by simp only [intOf]; omega⟩
                · go_wp2
                  exact ⟨⟨j + 1, hlt, congrArg (Value.int .i64) (by omega), sym_more HAL.out HYY.out ⟨by omega, by omega⟩, m, rfl⟩, by simp only [intOf]; omega⟩
            · obtain rfl : j = r.right.length := by omega
              have hfin : ∀ r', R[0]? = some r' → RlOk tl vl r' := fun r' hr' => by
                cases hrk.symm.trans hr'
                exact ⟨by omega, by omega, sym_all rfl HAL.out⟩
              have HFIN := Lib.hid hfin
              clear hfin
              go_wp2
              go_loopw [8] (fun i wr => ∃ j : Nat, j ≤ 0 ∧ i = .int .i64 j ∧ ∃ m, wr = w1.drewN m) (fun i _ => 0 - (intOf i).toNat)
              case atStart => exact ⟨0, Nat.zero_le _, rfl, m, rfl⟩
              case round =>
                obtain ⟨j, hj, rfl, m2, rfl⟩ := hrel
                by_cases hlt : j < 0
                · exact absurd hlt (Nat.not_lt_zero _)
                · obtain rfl : j = 0 := by omega
                  go_wp2
                  go_ret
                  exact ⟨_, rfl, (fun _ => ⟨HFIN.out, fun j r2 r' hj => absurd hj (Nat.not_lt_zero _)⟩), below_drewN hbr' _⟩
      | succ k =>
        obtain ⟨a3, r3, ao3, cap3, ea3, hab3, hrk3, p1, _⟩ := HR1.out.at k (by omega)
        cases ea3
        by_cases c3 : r.left < r3.left
        · have c3' := decide_eq_true c3
          go_quiet (fail)
          go_wp2
          go_ret
          exact ⟨_, rfl, (fun h => by cases h), below_drewN hbr' _⟩
        · have c3' := decide_eq_false c3
          have c4 : (decide ((24 : Int) < (r.right.length : Int))) = false := decide_eq_false (by omega)
          have hwk : IntKind.i64.wrap (k : Int) = (k : Int) := by rw [IntKind.wrap_i64]; omega
          have hkb : 0 ≤ (k : Int) ∧ (k : Int) < (R.length : Int) := ⟨by omega, by omega⟩
          refine wp_region_any (by kernel_rfl) ?_
          change wpAny _ _ _ _ _ _ _ (World.drew _)
          refine wpAny_take (i := 0) (v := ?_) rfl (by kernel_rfl) (by kernel_rfl) (by kernel_rfl) (fun _ _ _ h => h) (Or.inl ⟨by kernel_rfl, ?_⟩) ?_
          rotate_left
          · intro w; go_simp; with_reducible rfl
          refine wpAny_ready (rs := [1]) (by kernel_rfl) (by simp) ?_
          refine AllReady.cons rfl (fun K hK => ?_) AllReady.nil
          go_simp
          refine hK _ _ ?_
          clear hK K
          refine wpAny_take (i := 2) (v := ?_) rfl (by kernel_rfl) (by kernel_rfl) (by kernel_rfl) (fun _ _ _ h => h) (Or.inl ⟨by kernel_rfl, ?_⟩) ?_
          rotate_left
          · intro w; go_simp; with_reducible rfl
          refine wpAny_take (i := 3) (v := ?_) rfl (by kernel_rfl) (by kernel_rfl) (by kernel_rfl) (fun _ _ _ h => h) (Or.inl ⟨by kernel_rfl, ?_⟩) ?_
          rotate_left
          · intro w; go_simp; with_reducible rfl
          refine wpAny_take (i := 4) (v := ?_) rfl (by kernel_rfl) (by kernel_rfl) (by kernel_rfl) (fun _ _ _ h => h) (Or.inl ⟨by kernel_rfl, ?_⟩) ?_
          rotate_left
          · intro w; go_simp; with_reducible rfl
          refine wpAny_take (i := 6) (v := ?_) rfl (by kernel_rfl) (by kernel_rfl) (by kernel_rfl) (fun _ _ _ h => h) (Or.inl ⟨by kernel_rfl, ?_⟩) ?_
          rotate_left
          · intro w; go_simp; with_reducible rfl
          apply later
          · intro hG
            refine wpAny_ready (rs := [5, 7]) (by kernel_rfl) (by simp) ?_
            refine AllReady.cons rfl (fun K hK => ?_) (AllReady.cons rfl (fun K hK => ?_) AllReady.nil)
            · go_simp
              refine hK _ _ ?_
              clear hK K
              refine wpAny_ready (rs := [7]) (by kernel_rfl) (by simp) ?_
              refine AllReady.cons rfl (fun K hK => ?_) AllReady.nil
              · go_simp
                refine hK _ _ ?_
                clear hK K
                refine wpAny_take (i := 8) (v := ?_) rfl (by kernel_rfl) (by kernel_rfl) (by kernel_rfl) (fun _ _ _ h => h) (Or.inl ⟨by kernel_rfl, ?_⟩) ?_
                rotate_left
                · intro w; go_simp; with_reducible rfl
                refine wpAny_take (i := 9) (v := ?_) rfl (by kernel_rfl) (by kernel_rfl) (by kernel_rfl) (fun _ _ _ h => h) (Or.inl ⟨by kernel_rfl, ?_⟩) ?_
                rotate_left
                · intro w; go_simp; with_reducible rfl
                exact hG
            · go_simp
              refine hK _ _ ?_
              clear hK K
              refine wpAny_take (i := 8) (v := ?_) rfl (by kernel_rfl) (by kernel_rfl) (by kernel_rfl) (fun _ _ _ h => h) (Or.inl ⟨by kernel_rfl, ?_⟩) ?_
              rotate_left
              · intro w; go_simp; with_reducible rfl
              refine wpAny_ready (rs := [5]) (by kernel_rfl) (by simp) ?_
              refine AllReady.cons rfl (fun K hK => ?_) AllReady.nil
              · go_simp
                refine hK _ _ ?_
                clear hK K
                refine wpAny_take (i := 9) (v := ?_) rfl (by kernel_rfl) (by kernel_rfl) (by kernel_rfl) (fun _ _ _ h => h) (Or.inl ⟨by kernel_rfl, ?_⟩) ?_
                rotate_left
                · intro w; go_simp; with_reducible rfl
                exact hG
          refine wpAny_take (i := 10) (v := ?_) rfl (by kernel_rfl) (by kernel_rfl) (by kernel_rfl) (fun _ _ _ h => h) (Or.inl ⟨by kernel_rfl, ?_⟩) ?_
          rotate_left
          · intro w; go_simp; with_reducible rfl
          refine wpAny_take (i := 11) (v := ?_) rfl (by kernel_rfl) (by kernel_rfl) (by kernel_rfl) (fun _ _ _ h => h) (Or.inl ⟨by kernel_rfl, ?_⟩) ?_
          rotate_left
          · intro w; go_simp; with_reducible rfl
          refine wpAny_take (i := 12) (v := ?_) rfl (by kernel_rfl) (by kernel_rfl) (by kernel_rfl) (fun _ _ _ h => h) (Or.inl ⟨by kernel_rfl, ?_⟩) ?_
          rotate_left
          · intro w; go_simp; with_reducible rfl
          refine wpAny_take (i := 13) (v := ?_) rfl (by kernel_rfl) (by kernel_rfl) (by kernel_rfl) (fun _ _ _ h => h) (Or.inl ⟨by kernel_rfl, ?_⟩) ?_
          rotate_left
          · intro w; go_simp; with_reducible rfl
          refine wpAny_take (i := 14) (v := ?_) rfl (by kernel_rfl) (by kernel_rfl) (by kernel_rfl) (fun _ _ _ h => h) (Or.inl ⟨by kernel_rfl, ?_⟩) ?_
          rotate_left
          · intro w; go_simp; with_reducible rfl
          refine wpAny_take (i := 15) (v := ?_) rfl (by kernel_rfl) (by kernel_rfl) (by kernel_rfl) (fun _ _ _ h => h) (Or.inl ⟨by kernel_rfl, ?_⟩) ?_
          rotate_left
          · intro w; go_simp; with_reducible rfl
          refine wpAny_take (i := 17) (v := ?_) rfl (by kernel_rfl) (by kernel_rfl) (by kernel_rfl) (fun _ _ _ h => h) (Or.inl ⟨by kernel_rfl, ?_⟩) ?_
          rotate_left
          · intro w; go_simp; with_reducible rfl
          refine wpAny_take (i := 18) (v := ?_) rfl (by kernel_rfl) (by kernel_rfl) (by kernel_rfl) (fun _ _ _ h => h) (Or.inl ⟨by kernel_rfl, ?_⟩) ?_
          rotate_left
          · intro w; go_simp; with_reducible rfl
          refine wpAny_take (i := 22) (v := ?_) rfl (by kernel_rfl) (by kernel_rfl) (by kernel_rfl) (fun _ _ _ h => h) (Or.inl ⟨by kernel_rfl, ?_⟩) ?_
          rotate_left
          · intro w; go_simp; with_reducible rfl
          apply later
          · intro hG
            refine wpAny_ready (rs := [16, 23]) (by kernel_rfl) (by simp) ?_
            refine AllReady.cons rfl (fun K hK => ?_) (AllReady.cons rfl (fun K hK => ?_) AllReady.nil)
            · go_simp
              refine hK _ _ ?_
              clear hK K
              refine wpAny_take (i := 19) (v := ?_) rfl (by kernel_rfl) (by kernel_rfl) (by kernel_rfl) (fun _ _ _ h => h) (Or.inl ⟨by kernel_rfl, ?_⟩) ?_
              rotate_left
              · intro w; go_simp; with_reducible rfl
              refine wpAny_take (i := 20) (v := ?_) rfl (by kernel_rfl) (by kernel_rfl) (by kernel_rfl) (fun _ _ _ h => h) (Or.inl ⟨by kernel_rfl, ?_⟩) ?_
              rotate_left
              · intro w; go_simp; with_reducible rfl
              refine wpAny_ready (rs := [21, 23]) (by kernel_rfl) (by simp) ?_
              refine AllReady.cons rfl (fun K hK => ?_) (AllReady.cons rfl (fun K hK => ?_) AllReady.nil)
              · go_simp
                refine hK _ _ ?_
                clear hK K
                refine wpAny_ready (rs := [23]) (by kernel_rfl) (by simp) ?_
                refine AllReady.cons rfl (fun K hK => ?_) AllReady.nil
                · go_simp
                  refine hK _ _ ?_
                  clear hK K
                  exact hG
              · go_simp
                refine hK _ _ ?_
                clear hK K
                refine wpAny_ready (rs := [21]) (by kernel_rfl) (by simp) ?_
                refine AllReady.cons rfl (fun K hK => ?_) AllReady.nil
                · go_simp
                  refine hK _ _ ?_
                  clear hK K
                  exact hG
            · go_simp
              refine hK _ _ ?_
              clear hK K
              refine wpAny_ready (rs := [16]) (by kernel_rfl) (by simp) ?_
              refine AllReady.cons rfl (fun K hK => ?_) AllReady.nil
              · go_simp
                refine hK _ _ ?_
                clear hK K
                refine wpAny_take (i := 19) (v := ?_) rfl (by kernel_rfl) (by kernel_rfl) (by kernel_rfl) (fun _ _ _ h => h) (Or.inl ⟨by kernel_rfl, ?_⟩) ?_
                rotate_left
                · intro w; go_simp; with_reducible rfl
                refine wpAny_take (i := 20) (v := ?_) rfl (by kernel_rfl) (by kernel_rfl) (by kernel_rfl) (fun _ _ _ h => h) (Or.inl ⟨by kernel_rfl, ?_⟩) ?_
                rotate_left
                · intro w; go_simp; with_reducible rfl
                refine wpAny_ready (rs := [21]) (by kernel_rfl) (by simp) ?_
                refine AllReady.cons rfl (fun K hK => ?_) AllReady.nil
                · go_simp
                  refine hK _ _ ?_
                  clear hK K
                  exact hG
          refine wpAny_take (i := 24) (v := ?_) rfl (by kernel_rfl) (by kernel_rfl) (by kernel_rfl) (fun _ _ _ h => h) (Or.inl ⟨by kernel_rfl, ?_⟩) ?_
          rotate_left
          · intro w; go_simp; with_reducible rfl
          refine wpAny_take (i := 25) (v := ?_) rfl (by kernel_rfl) (by kernel_rfl) (by kernel_rfl) (fun _ _ _ h => h) (Or.inl ⟨by kernel_rfl, ?_⟩) ?_
          rotate_left
          · intro w; go_simp; with_reducible rfl
          refine wpAny_take (i := 26) (v := ?_) rfl (by kernel_rfl) (by kernel_rfl) (by kernel_rfl) (fun _ _ _ h => h) (Or.inl ⟨by kernel_rfl, ?_⟩) ?_
          rotate_left
          · intro w; go_simp; with_reducible rfl
          refine wpAny_take (i := 27) (v := ?_) rfl (by kernel_rfl) (by kernel_rfl) (by kernel_rfl) (fun _ _ _ h => h) (Or.inl ⟨by kernel_rfl, ?_⟩) ?_
          rotate_left
          · intro w; go_simp; with_reducible rfl
          refine wpAny_take (i := 28) (v := ?_) rfl (by kernel_rfl) (by kernel_rfl) (by kernel_rfl) (fun _ _ _ h => h) (Or.inl ⟨by kernel_rfl, ?_⟩) ?_
          rotate_left
          · intro w; go_simp; with_reducible rfl
          refine wpAny_ready (rs := [29]) (by kernel_rfl) (by simp) ?_
          refine AllReady.cons rfl (fun K hK => ?_) AllReady.nil
          go_simp
          refine hK _ _ ?_
          clear hK K
          refine wpAny_take (i := 30) (v := ?_) rfl (by kernel_rfl) (by kernel_rfl) (by kernel_rfl) (fun _ _ _ h => h) (Or.inl ⟨by kernel_rfl, ?_⟩) ?_
          rotate_left
          · intro w; go_simp; with_reducible rfl
          refine wpAny_take (i := 31) (v := ?_) rfl (by kernel_rfl) (by kernel_rfl) (by kernel_rfl) (fun _ _ _ h => h) (Or.inl ⟨by kernel_rfl, ?_⟩) ?_
          rotate_left
          · intro w; go_simp; with_reducible rfl
          refine wpAny_take (i := 32) (v := ?_) rfl (by kernel_rfl) (by kernel_rfl) (by kernel_rfl) (fun _ _ _ h => h) (Or.inl ⟨by kernel_rfl, ?_⟩) ?_
          rotate_left
          · intro w; go_simp; with_reducible rfl
          refine wpAny_take (i := 33) (v := ?_) rfl (by kernel_rfl) (by kernel_rfl) (by kernel_rfl) (fun _ _ _ h => h) (Or.inl ⟨by kernel_rfl, ?_⟩) ?_
          rotate_left
          · intro w; go_simp; with_reducible rfl
          refine wpAny_take (i := 34) (v := ?_) rfl (by kernel_rfl) (by kernel_rfl) (by kernel_rfl) (fun _ _ _ h => h) (Or.inl ⟨by kernel_rfl, ?_⟩) ?_
          rotate_left
          · intro w; go_simp; with_reducible rfl
          refine wpAny_ready (rs := [35]) (by kernel_rfl) (by simp) ?_
          refine AllReady.cons rfl (fun K hK => ?_) AllReady.nil
          go_simp
          refine hK _ _ ?_
          clear hK K
          refine wpAny_ready (rs := [36]) (by kernel_rfl) (by simp) ?_
          refine AllReady.cons rfl (fun K hK => ?_) AllReady.nil
          go_simp
          go_at_call 72
          refine (told_any _ _).mono ?_
          rintro e w5 ⟨b1, rfl, n5, rfl⟩
          refine hK _ _ ?_
          clear hK K
          refine wpAny_take (i := 37) (v := ?_) rfl (by kernel_rfl) (by kernel_rfl) (by kernel_rfl) (fun _ _ _ h => h) (Or.inl ⟨by kernel_rfl, ?_⟩) ?_
          rotate_left
          · intro w; go_simp; with_reducible rfl
          refine wpAny_take (i := 38) (v := ?_) rfl (by kernel_rfl) (by kernel_rfl) (by kernel_rfl) (fun _ _ _ h => h) (Or.inl ⟨by kernel_rfl, ?_⟩) ?_
          rotate_left
          · intro w; go_simp; with_reducible rfl
          refine wpAny_done (by kernel_rfl) ?_ _
          cases b1
          · go_wp2
            go_ret
            exact ⟨_, rfl, (fun h => by cases h), below_drewN hbr' _⟩
          · go_wp2
            go_loopw [6] (fun i wr => ∃ j : Nat, j ≤ r.right.length ∧ i = .int .i64 j ∧ (∀ i, i < j → SymOk tl vl (r.right.getD i 0)) ∧ ∃ m, wr = w1.drewN m) (fun i _ => r.right.length - (intOf i).toNat)
            case atStart => exact ⟨0, Nat.zero_le _, rfl, fun i hi => absurd hi (Nat.not_lt_zero _), 1 + n5, rfl⟩
            case round =>
              obtain ⟨j, hj, rfl, hal, m, rfl⟩ := hrel
              have HAL := Lib.hid hal
              clear hal
              by_cases hlt : j < r.right.length
              · obtain ⟨a2, rfl, hab2, hc2⟩ := H7.out j hlt
                have hc2' := (hbr.cell (p := a2.add j) (by rw [add_block]; omega)).trans hc2
                have hy := g8 (r.right.getD j 0) (by rw [List.getD_eq_getElem?_getD, List.getElem?_eq_getElem hlt]; simp)
                have hx := cm_if (r.right.getD j 0) hy
                have hx2 := cm_any (r.right.getD j 0) hy
                clear hc2 hy
                obtain ⟨y, hyy⟩ : ∃ y, y = r.right.getD j 0 := ⟨_, rfl⟩
                rw [← hyy] at hc2' hx hx2
                have HYY := Lib.hid hyy
                clear hyy
                by_cases q1 : (vl : Int) ≤ y
                · go_wp2
                  all_goals go_ret
                  all_goals exact ⟨_, rfl, (fun h => by cases h), below_drewN hbr' _⟩
                · by_cases q2 : y < 0
                  · by_cases q3 : (tl : Int) ≤ -1 - y
                    · go_wp2
                      all_goals go_ret
                      all_goals exact ⟨_, rfl, (fun h => by cases h), below_drewN hbr' _⟩
                    · go_wp2
                      exact ⟨⟨j + 1, hlt, congrArg (Value.int .i64) (by omega), sym_more HAL.out HYY.out ⟨by omega, by omega⟩, m, rfl⟩, by simp only [intOf]; omega⟩
                  · go_wp2
                    exact ⟨⟨j + 1, hlt, congrArg (Value.int .i64) (by omega), sym_more HAL.out HYY.out ⟨by omega, by omega⟩, m, rfl⟩, by simp only [intOf]; omega⟩
              · obtain rfl : j = r.right.length := by omega
                have hfin : ∀ r', R[k + 1]? = some r' → RlOk tl vl r' := fun r' hr' => by
                  cases hrk.symm.trans hr'
                  exact ⟨by omega, by omega, sym_all rfl HAL.out⟩
                have HFIN := Lib.hid hfin
                have HDU := Lib.hid (fun (h : ∀ i r2, i < k + 1 → R[i]? = some r2 → ¬ (r2.left = r.left ∧ r2.right = r.right)) => (show DistU R (k + 1) from fun i r2 r' hi h2 h3 => by cases hrk.symm.trans h3; exact h i r2 hi h2))
                clear hfin
                go_wp2
                go_loopw [8] (fun i wr => ∃ j : Nat, j ≤ (k + 1) ∧ i = .int .i64 j ∧ (∀ i r2, i < j → R[i]? = some r2 → ¬ (r2.left = r.left ∧ r2.right = r.right)) ∧ ∃ m, wr = w1.drewN m) (fun i _ => (k + 1) - (intOf i).toNat)
                case atStart => exact ⟨0, Nat.zero_le _, rfl, fun i r2 hi => absurd hi (Nat.not_lt_zero _), m, rfl⟩
                case round =>
                  obtain ⟨j, hj, rfl, hdi, m2, rfl⟩ := hrel
                  have HDI := Lib.hid hdi
                  clear hdi
                  by_cases hlt : j < (k + 1)
                  · obtain ⟨a4, r4, ao4, cap4, ea4, hab4, hrk4, s1, s2, s3, s4, s5, s6, s7, s8, s9⟩ := HR1.out.at j (by omega)
                    cases ea4
                    have HRK4 := Lib.hid hrk4
                    by_cases hle : r4.left = r.left
                    · have hw1 : WordAt w1 (.slice ao4 r4.right.length cap4) r4.right := ⟨ao4, cap4, rfl, s8, fun i hi => by obtain ⟨a5, e5, hab5, hc5⟩ := s7 i hi; exact ⟨a5, e5, by have := hbr'.size; omega, hc5⟩⟩
                      have hw2 : WordAt w1 (.slice ao r.right.length cap) r.right := ⟨ao, cap, rfl, g8, fun i hi => by obtain ⟨a5, e5, hab5, hc5⟩ := H7.out i hi; exact ⟨a5, e5, by have := hbr'.size; omega, (hbr.cell (p := a5.add i) (by rw [add_block]; omega)).trans hc5⟩⟩
                      have h84 := h8 r4 (List.mem_of_getElem? hrk4)
                      have hsm : ∀ x, Calls Try.prog 18 #[.slice ao4 r4.right.length cap4, .slice ao r.right.length cap] (w1.drewN (m2 + x)) fun e w' => e = .returned (.bool (decide (r4.right = r.right))) ∧ ∃ n, w' = w1.drewN (m2 + n) := fun x => (rsame_any (w1.drewN (m2 + x)) _ _ _ _ hw1 hw2 (by omega) (by omega)).mono fun _ _ ⟨he, m', hm⟩ => ⟨he, x + m', by rw [hm, drewN_add, Nat.add_assoc]⟩
                      have HSM := Lib.hid hsm
                      clear hsm hw1 hw2 s7 s8 s9
                      rw [hle] at s1
                      go_wp2
                      go_quiet ((go_at_call 18; exact HSM.out _))
                      cases hd : decide (r4.right = r.right)
                      · have HD2 := Lib.hid (of_decide_eq_false hd)
                        clear hd
                        go_wp2
                        exact ⟨⟨j + 1, hlt, congrArg (Value.int .i64) (by omega), dist_more HDI.out HRK4.out (fun e => HD2.out e.2), _, rfl⟩, by simp only [intOf]; omega⟩
                      · go_wp2
                        go_ret
                        first | exact ⟨_, rfl, (fun h => by cases h), below_drewN hbr' _⟩ | exact ⟨_, rfl, (fun h => by cases h), below_drewN (below_drewN hbr' _) _⟩
                    · have c5 : (r4.left == r.left) = false := by rw [beq_eq_false_iff_ne]; exact hle
                      have HLE := Lib.hid hle
                      go_wp2
                      go_quiet (fail)
                      go_wp2
                      exact ⟨⟨j + 1, hlt, congrArg (Value.int .i64) (by omega), dist_more HDI.out HRK4.out (fun e => HLE.out e.1), _, rfl⟩, by simp only [intOf]; omega⟩
                  · obtain rfl : j = (k + 1) := by omega
                    go_wp2
                    go_ret
                    exact ⟨_, rfl, (fun _ => ⟨HFIN.out, HDU.out (fun i r2 hi => HDI.out i r2 hi)⟩), below_drewN hbr' _⟩
set_option maxRecDepth 100000 in
set_option maxHeartbeats 2000000 in
theorem right_full2 (w : World) (B : Nat) (ta va ra : Option Addr) (tl tc vl vc rc : Nat) (R : List Rl) (hR : RulesAt B w (.slice ra R.length rc) R) (hT : StrsAt B w ta tl) (hV : StrsAt B w va vl) (hB : B ≤ w.heap.size) (hn : R.length ≤ 24) (ht : tl ≤ 6) (hv : vl ≤ 8) (h8 : ∀ r ∈ R, r.right.length ≤ 8) :
    Calls Try.prog 14 #[.agg #[.slice ta tl tc, .slice va vl vc, .slice ra R.length rc]] w (AnsIf ((1 ≤ vl ∧ ∀ r ∈ R, RlOk tl vl r) ∧ ∀ k, k < R.length → DistU R k) w) := by
  have b0 := Blk.new w 25 #[.slice ta tl tc, .slice va vl vc, .slice ra R.length rc]
  have hbl : Below w.heap.size w (w.alloc (.cells #[.slice ta tl tc, .slice va vl vc, .slice ra R.length rc] 25)) := below_lit _ _ _
  have hR1 := hR.below (hbl.mono hB)
  have hT1 := hT.below (hbl.mono hB)
  have hV1 := hV.below (hbl.mono hB)
  generalize hW0 : w.alloc (.cells #[.slice ta tl tc, .slice va vl vc, .slice ra R.length rc] 25) = w0 at *
  have hz0 : w0.heap.size = w.heap.size + 1 := by rw [← hW0]; simp
  have d0 := b0.cell 0
  have d1 := b0.cell 1
  have d2 := b0.cell 2
  simp only [List.getElem?_toArray, List.getElem?_cons_zero, List.getElem?_cons_succ] at d0 d1 d2
  have HR := Lib.hid hR1
  have HT := Lib.hid hT1
  have HV := Lib.hid hV1
  have H8 := Lib.hid h8
  have HVW := Lib.hid (fun (h : ShortAt w0 va vl) => short_back hV (hbl.mono hB) h)
  have HTW := Lib.hid (fun (h : ShortAt w0 ta tl) => short_back hT (hbl.mono hB) h)
  clear hR hT hV hR1 hT1 hV1 h8
  by_cases hv1 : 1 ≤ vl
  · go_enter Try.func14, Try.ntmps14
    go_wp2
    go_loopw [3] (fun i wr => ∃ k : Nat, k ≤ vl ∧ i = .int .i64 k ∧ ShortAt w0 va k ∧ Qt w0 wr) (fun i _ => vl - (intOf i).toNat)
    case atStart => exact ⟨0, Nat.zero_le _, rfl, ShortAt.nil _ _, 0, rfl⟩
    case round =>
      obtain ⟨k, hk, rfl, hsh, hqt⟩ := hrel
      have HSH := Lib.hid hsh
      clear hsh
      have f0 := (hqt.cell _).trans d0
      have f1 := (hqt.cell _).trans d1
      have f2 := (hqt.cell _).trans d2
      have hbw : Below w.heap.size w wr := hbl.trans (hqt.below.mono (by omega))
      by_cases hlt : k < vl
      · obtain ⟨a, s, rfl, hab, hc0, hs⟩ := HV.out k hlt
        have hc := (hqt.cell _).trans hc0
        obtain ⟨b, hb, hb24⟩ := isName_det2 s hs
        have HSM := Lib.hid (fun (e : b = true) => HSH.out.more rfl hc0 (hb24 e))
        clear hb24
        obtain ⟨x, hx⟩ := place_det w0 B (some a) vl vc s hs hv HV.out
        have HBN := Lib.hid hb
        have HX2 : ∀ n, Calls Try.prog 41 #[.slice (some a) vl vc, .string s] (wr.drewN n) fun e w' => e = .returned (.int .i64 x) ∧ w' = wr.drewN n := fun n => by
          obtain ⟨m, rfl⟩ := hqt
          rw [drewN_add]
          exact hx (m + n)
        have HX := Lib.hid HX2
        have HQ := Lib.hid hqt
        clear hb hx HX2 hqt hc0
        cases b
        · go_wp2
          go_quiet ((go_at_call 40; exact Calls.quiet_of_same ((HBN.out _).mono fun _ _ h => ⟨h.1, h.2⟩)))
          go_wp2
          go_ret
          exact ⟨_, rfl, (fun h => by cases h), below_drewN hbw _⟩
        · go_wp2
          go_quiet ((first | (go_at_call 40; exact Calls.quiet_of_same ((HBN.out _).mono fun _ _ h => ⟨h.1, h.2⟩)) | (go_at_call 41; exact Calls.quiet_of_same (HX.out _))))
          by_cases hxk : x = k
          · subst hxk
            go_wp2
            exact ⟨⟨k + 1, hlt, congrArg (Value.int .i64) (by omega), HSM.out trivial, HQ.out.drewN _⟩, by simp only [intOf]; omega⟩
          · go_wp2
            go_ret
            exact ⟨_, rfl, (fun h => by cases h), below_drewN hbw _⟩
      · obtain rfl : vl = k := by omega
        go_wp2
        go_loopw [4] (fun i wr => ∃ k : Nat, k ≤ tl ∧ i = .int .i64 k ∧ ShortAt w0 ta k ∧ Qt w0 wr) (fun i _ => tl - (intOf i).toNat)
        case atStart => exact ⟨0, Nat.zero_le _, rfl, ShortAt.nil _ _, hqt⟩
        case round =>
          clear f0 f1 f2 hbw hqt
          obtain ⟨j, hj, rfl, hsh2, hqt⟩ := hrel
          have HST := Lib.hid hsh2
          clear hsh2
          have f0 := (hqt.cell _).trans d0
          have f1 := (hqt.cell _).trans d1
          have f2 := (hqt.cell _).trans d2
          have hbw : Below w.heap.size w wr := hbl.trans (hqt.below.mono (by omega))
          by_cases hlt : j < tl
          · obtain ⟨a, s, rfl, hab, hc0, hs⟩ := HT.out j hlt
            have hc := (hqt.cell _).trans hc0
            obtain ⟨b, hb, hb24⟩ := isQuote_det2 s hs
            have HTM := Lib.hid (fun (e : b = true) => HST.out.more rfl hc0 (hb24 e))
            clear hb24
            have HBN := Lib.hid hb
            have HQ := Lib.hid hqt
            clear hb hc0
            cases b
            · clear hqt
              go_wp2
              go_quiet ((go_at_call 42; exact Calls.quiet_of_same ((HBN.out _).mono fun _ _ h => ⟨h.1, h.2⟩)))
              go_wp2
              go_ret
              exact ⟨_, rfl, (fun h => by cases h), below_drewN hbw _⟩
            · by_cases h0 : 0 < j
              · obtain ⟨p, hp⟩ : ∃ p, j = p + 1 := ⟨j - 1, by omega⟩
                obtain ⟨a', s', ea, _, hc0', hs'⟩ := HT.out p (by omega)
                cases ea
                have hc' := (hqt.cell _).trans hc0'
                have e1 : (j : Int) - 1 = (p : Int) := by omega
                have e2 : IntKind.i64.wrap ((j : Int) - 1) = (p : Int) := by rw [IntKind.wrap_i64]; omega
                have c3' : decide ((0 : Int) < (j : Int)) = true := decide_eq_true (by omega)
                have hpl : p < tl := by omega
                have hpi : (p : Int) < (tl : Int) := by omega
                clear hc0' hqt hp
                go_wp2
                go_quiet ((go_at_call 42; exact Calls.quiet_of_same ((HBN.out _).mono fun _ _ h => ⟨h.1, h.2⟩)))
                go_wp2
                all_goals first
                  | (go_ret; exact ⟨_, rfl, (fun h => by cases h), below_drewN hbw _⟩)
                  | exact ⟨⟨j + 1, hlt, congrArg (Value.int .i64) (by omega), HTM.out trivial, HQ.out.drewN _⟩, by simp only [intOf]; omega⟩
              · have c3' : decide ((0 : Int) < (j : Int)) = false := decide_eq_false (by omega)
                clear hqt
                go_wp2
                go_quiet ((go_at_call 42; exact Calls.quiet_of_same ((HBN.out _).mono fun _ _ h => ⟨h.1, h.2⟩)))
                go_wp2
                exact ⟨⟨j + 1, hlt, congrArg (Value.int .i64) (by omega), HTM.out trivial, HQ.out.drewN _⟩, by simp only [intOf]; omega⟩
          · obtain rfl : tl = j := by omega
            go_wp2
            go_loopw [5] (fun i wr => ∃ q : Nat, q ≤ R.length ∧ i = .int .i64 q ∧ (∀ i r', i < q → R[i]? = some r' → RlOk tl vl r') ∧ (∀ i, i < q → DistU R i) ∧ Below (w.heap.size + 1) w0 wr) (fun i _ => R.length - (intOf i).toNat)
            case atStart => exact ⟨0, Nat.zero_le _, rfl, fun i r' hi => absurd hi (Nat.not_lt_zero _), fun i hi => absurd hi (Nat.not_lt_zero _), hqt.below.mono (by omega)⟩
            case round =>
              clear f0 f1 f2 hbw hqt
              obtain ⟨q, hq, rfl, hal, hdu, hbr⟩ := hrel
              have HDU := Lib.hid hdu
              clear hdu
              have HAL := Lib.hid hal
              clear hal
              have hzr := hbr.size
              have bx := b0.below hbr (by omega)
              have f0 := bx.cell 0
              have f1 := bx.cell 1
              have f2 := bx.cell 2
              simp only [List.getElem?_toArray, List.getElem?_cons_zero, List.getElem?_cons_succ] at f0 f1 f2
              by_cases hlt : q < R.length
              · have hru := rule_full wr B ta va ra tl tc vl vc rc R q hlt (HR.out.below (hbr.mono (by omega))) (by omega) hn ht hv H8.out
                go_wp2_with fail
                refine hru.mono ?_
                rintro e w2 ⟨b1, rfl, hok, hb2⟩
                have HOK := Lib.hid hok
                clear hok
                have hb2' : Below (w.heap.size + 1) w0 w2 := hbr.trans (hb2.mono (by omega))
                cases b1
                · go_wp2
                  go_ret
                  exact ⟨_, rfl, (fun h => by cases h), hbl.trans (hb2'.mono (by omega))⟩
                · go_wp2
                  exact ⟨⟨q + 1, hlt, congrArg (Value.int .i64) (by omega), (fun i r' hi hr => by
                    rcases Nat.lt_or_ge i q with h1 | h1
                    · exact HAL.out i r' h1 hr
                    · obtain rfl : i = q := by omega
                      exact (HOK.out (by simp)).1 r' hr), (fun i hi => by
                    rcases Nat.lt_or_ge i q with h1 | h1
                    · exact HDU.out i h1
                    · obtain rfl : i = q := by omega
                      exact (HOK.out (by simp)).2), hb2'⟩, by simp only [intOf]; omega⟩
              · have hqR : q = R.length := by omega
                subst hqR
                have hfin : ((1 ≤ vl ∧ ∀ r ∈ R, RlOk tl vl r) ∧ ∀ k, k < R.length → DistU R k) := ⟨⟨hv1, fun r hr => by
                  obtain ⟨i, hi, rfl⟩ := List.mem_iff_getElem.1 hr
                  exact HAL.out i _ hi (List.getElem?_eq_getElem hi)⟩, HDU.out⟩
                have HFIN := Lib.hid hfin
                clear hfin
                go_wp2
                go_loopw [6] (fun i wr => ∃ q : Nat, q ≤ vl ∧ i = .int .i64 q ∧ Below (w.heap.size + 1) w0 wr) (fun i _ => vl - (intOf i).toNat)
                case atStart => exact ⟨0, Nat.zero_le _, rfl, hbr⟩
                case round =>
                  clear f0 f1 f2 bx hzr hbr
                  obtain ⟨q, hq, rfl, hbr⟩ := hrel
                  have hzr := hbr.size
                  have bx := b0.below hbr (by omega)
                  have f0 := bx.cell 0
                  have f1 := bx.cell 1
                  have f2 := bx.cell 2
                  simp only [List.getElem?_toArray, List.getElem?_cons_zero, List.getElem?_cons_succ] at f0 f1 f2
                  by_cases hlt : q < vl
                  · have hru := count_any wr B ta va ra tl tc vl vc rc R (q : Int) (HR.out.below (hbr.mono (by omega))) (by omega) hn
                    go_wp2_with fail
                    refine hru.mono ?_
                    rintro e w2 ⟨x1, rfl, hb2⟩
                    have hb2' : Below (w.heap.size + 1) w0 w2 := hbr.trans (hb2.mono (by omega))
                    go_wp2
                    · go_ret
                      exact ⟨_, rfl, (fun h => by cases h), hbl.trans (hb2'.mono (by omega))⟩
                    · exact ⟨⟨q + 1, hlt, congrArg (Value.int .i64) (by omega), hb2'⟩, by simp only [intOf]; omega⟩
                  · obtain rfl : vl = q := by omega
                    go_wp2
                    go_loopw [7] (fun i wr => ∃ q : Nat, q ≤ tl ∧ i = .int .i64 q ∧ Below (w.heap.size + 1) w0 wr) (fun i _ => tl - (intOf i).toNat)
                    case atStart => exact ⟨0, Nat.zero_le _, rfl, hbr⟩
                    case round =>
                      clear f0 f1 f2 bx hzr hbr
                      obtain ⟨q, hq, rfl, hbr⟩ := hrel
                      have hzr := hbr.size
                      have bx := b0.below hbr (by omega)
                      have f0 := bx.cell 0
                      have f1 := bx.cell 1
                      have f2 := bx.cell 2
                      simp only [List.getElem?_toArray, List.getElem?_cons_zero, List.getElem?_cons_succ] at f0 f1 f2
                      by_cases hlt : q < tl
                      · have hru : ∀ z, Calls Try.prog 45 _ wr _ := fun z => uses_any wr B ta va ra tl tc vl vc rc R z (HR.out.below (hbr.mono (by omega))) (by omega) hn H8.out
                        go_wp2_with fail
                        refine (hru _).mono ?_
                        rintro e w2 ⟨b1, rfl, hb2⟩
                        have hb2' : Below (w.heap.size + 1) w0 w2 := hbr.trans (hb2.mono (by omega))
                        cases b1
                        · go_wp2
                          go_ret
                          exact ⟨_, rfl, (fun h => by cases h), hbl.trans (hb2'.mono (by omega))⟩
                        · go_wp2
                          exact ⟨⟨q + 1, hlt, congrArg (Value.int .i64) (by omega), hb2'⟩, by simp only [intOf]; omega⟩
                      · obtain rfl : tl = q := by omega
                        go_wp2
                        go_ret
                        exact ⟨_, rfl, (fun _ => HFIN.out), hbl.trans (hbr.mono (by omega))⟩
  · go_enter Try.func14, Try.ntmps14
    go_wp2
    go_ret
    exact ⟨_, rfl, (fun h => by cases h), hbl⟩
end Go.Proofs.Ytomikgkoegkofaa.dt

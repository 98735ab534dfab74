import Derived.Test.YtomikgkoegkofaaTrk
namespace Go.Proofs.Ytomikgkoegkofaa.dt
open Go.ChangeShapes Go.WideShapes Go.ChangeAt Go.RowKit Go.Maps Go.WideMaps Go.WideElems Go.Shelf Go.Proofs.Ytomikgkoegkofaa.dv
set_option linter.unusedVariables false
set_option linter.unusedSimpArgs false
/-! Of: a variable -/
def SameBut (X : Nat → Prop) (W W' : World) : Prop := ∀ (k : Nat) (o : Obj), ¬ X k → W.heap[k]? = some o → W'.heap[k]? = some o
theorem SameBut.grown {X : Nat → Prop} {W W' : World} {row : Option Nat} (hg : W.grownBy W' row) (h : ∀ k, some k = row → X k) : SameBut X W W' := fun k o hx ho => (hg.block k (Array.getElem?_eq_some_iff.1 ho).1 (fun e => hx (h k e))).trans ho
theorem SameBut.below {X : Nat → Prop} {W W' : World} (h : Below W.heap.size W W') : SameBut X W W' := fun k o _ ho => (h.block k (Array.getElem?_eq_some_iff.1 ho).1).trans ho
theorem SameBut.trans {X : Nat → Prop} {A B C : World} (h : SameBut X A B) (k : SameBut X B C) : SameBut X A C := fun i o hx ho => k i o hx (h i o hx ho)
theorem SameBut.blk {X : Nat → Prop} {W W' : World} (h : SameBut X W W') {b : Nat} {t : TypeId} {cs : Array Value} (hb : Blk W b t cs) (hx : ¬ X b) : Blk W' b t cs := h b _ hx hb
theorem SameBut.own {X : Nat → Prop} {W W' : World} (h : SameBut X W W') {B s n : Nat} {e : TypeId} {v : Value} {xs : List Value} (hv : W.ownsRow B e s v n xs) (hx : ∀ k, X k → ∀ cs fz, W.heap[k]? ≠ some (.cells cs e fz)) : W'.ownsRow B e s v n xs := ownsRow_keep hv (fun g hg e' => by
  obtain ⟨_, cs, fz, ho⟩ := row_obj hv g e'
  rw [ho]
  exact h g _ (fun hX => hx g hX cs fz ho) ho)
theorem SameBut.vis {X : Nat → Prop} {W W' : World} (h : SameBut X W W') {s s' : List (Nat × Nat)} {ns : List Nd} (hv : Vis W s ns s') (hn : ∀ x ∈ ns, ¬ X x.b) (hx : ∀ k, X k → ∀ cs fz, W.heap[k]? ≠ some (.cells cs 53 fz)) : Vis W' s ns s' := by
  induction hv with
  | nil s => exact .nil s
  | @cons b lv rest s' sy ru v kb ns h1 h2 h3 ih => exact .cons (h.blk h1 (hn ⟨b, sy, ru, lv⟩ (by simp))) (h.own h2 hx) (ih fun x hx => hn x (by simp [hx]))
theorem SameBut.leaf {X : Nat → Prop} {W W' : World} (h : SameBut X W W') {B : Nat} {s : List (Nat × Nat)} {st : List (Int × Nat)} (hl : LeafS B W s st) (hn : ∀ x ∈ s, ¬ X x.1) : LeafS B W' s st := by
  induction hl with
  | nil => exact .nil
  | @cons b lv sy rest st h1 h2 h3 ih => exact .cons h1 (h.blk h2 (hn (b, lv) (by simp))) (ih fun x hx => hn x (by simp [hx]))
theorem LeafS.lt {B : Nat} {W : World} {s : List (Nat × Nat)} {st : List (Int × Nat)} (h : LeafS B W s st) : ∀ x ∈ s, x.1 < W.heap.size := by
  induction h with
  | nil => intro x hx; cases hx
  | @cons b lv sy rest st h1 h2 h3 ih =>
    intro x hx
    rcases List.mem_cons.1 hx with rfl | hx
    · exact Blk.lt h2
    · exact ih x hx
theorem Vis.lt {W : World} {s s' : List (Nat × Nat)} {ns : List Nd} (h : Vis W s ns s') : ∀ x ∈ ns, x.b < W.heap.size ∧ ∃ cs, Blk W x.b 65 cs := by
  induction h with
  | nil s => intro x hx; cases hx
  | @cons b lv rest s' sy ru v kb ns h1 h2 h3 ih =>
    intro x hx
    rcases List.mem_cons.1 hx with rfl | hx
    · exact ⟨h1.lt, _, h1⟩
    · exact ih x hx
theorem LeafS.wide {B B' : Nat} {W : World} {s : List (Nat × Nat)} {st : List (Int × Nat)} (h : LeafS B W s st) (hB : B' ≤ B) : LeafS B' W s st := by
  induction h with
  | nil => exact .nil
  | cons h1 h2 h3 ih => exact .cons (by omega) h2 ih
theorem SameBut.new {X : Nat → Prop} {W W' : World} (h : SameBut X W W') {B : Nat} {x : Nd} (hn : NewAt B W x) (hb : ¬ X x.b) (hx : ∀ k, X k → ∀ cs fz, W.heap[k]? ≠ some (.cells cs 53 fz)) : NewAt B W' x := by
  obtain ⟨h0, v, kb, h1, h2, h3⟩ := hn
  exact ⟨h0, v, kb, h.blk h1 hb, h.own h2 hx, h3⟩
/-- the first of the rules that are still to be done -/
theorem OfS.head {w : World} {R : List Rl} {ks : List Int} {out : List (Int × Int × Nat)} {root rb gb : Nat} {gc : Array Value} {k b lv : Nat} {rest : List (Nat × Nat)} {i j : Nat} {ns : List Nd} {sy : Int} {st : List (Int × Nat)} {W : World} (h : OfS w R ks out root rb gb gc (k + 1) ((b, lv) :: rest) i j ns ((sy, lv) :: st) W) (hs : 0 ≤ sy) :
    j < ks.length ∧ refW R sy (ks.getD j 0) = 0 ∧ ks.drop j = ks.getD j 0 :: ks.drop (j + 1) ∧ out[i]? = some (sy, ks.getD j 0, lv) ∧ Built R ((ruleW R (ks.getD j 0)).map (fun x => (x, lv + 1)) ++ st) (ks.drop (j + 1)) (out.drop (i + 1)) := by
  have g2 := h.built
  have hlt : i < out.length := by have := h.num; omega
  generalize hd : out.drop i = od at g2
  generalize hks : ks.drop j = kd at g2
  cases g2 with
  | term h1 => omega
  | @var _ k2 _ _ ks' od' h1 hr hb =>
    have hj : j < ks.length := by
      rcases Nat.lt_or_ge j ks.length with h | h
      · exact h
      · rw [List.drop_eq_nil_of_le h] at hks
        cases hks
    have hk0 : ks[j]? = some k2 := by
      have := congrArg (fun l => l[0]?) hks
      simpa [List.getElem?_drop] using this
    have hkd : ks.getD j 0 = k2 := by rw [List.getD_eq_getElem?_getD, hk0]; rfl
    have hkt : ks.drop (j + 1) = ks' := by
      have := congrArg List.tail hks
      simpa [List.tail_drop] using this
    have hot : out.drop (i + 1) = od' := by
      have := congrArg List.tail hd
      simpa [List.tail_drop] using this
    have ho0 : out[i]? = some (sy, k2, lv) := by
      have := congrArg (fun l => l[0]?) hd
      simpa [List.getElem?_drop] using this
    rw [hkd, hkt, hot]
    exact ⟨hj, hr, rfl, ho0, hb⟩
theorem OfS.var {w : World} {R : List Rl} {ks : List Int} {out : List (Int × Int × Nat)} {root rb gb : Nat} {gc : Array Value} {k b lv : Nat} {rest : List (Nat × Nat)} {i j : Nat} {ns : List Nd} {sy : Int} {st : List (Int × Nat)} {U W : World} (h : OfS w R ks out root rb gb gc (k + 1) ((b, lv) :: rest) i j ns ((sy, lv) :: st) U) (hs : 0 ≤ sy)
    (hsame : SameBut (fun k => k = b ∨ k = rb) U W) {u : Value} {bs : List Nat} {B4 : Nat} (hb : Blk W b 65 #[.int .i64 sy, .int .i64 (ks.getD j 0), u]) (hown : W.ownsRow 0 53 1 u bs.length (PV bs)) (hownB : W.ownsRow w.heap.size 53 1 u bs.length (PV bs)) (hno : bs = [] → u = .slice none 0 0) (hlv : LeavesAt B4 W bs (ruleW R (ks.getD j 0))) (hB4 : U.heap.size ≤ B4) (hrb : RBox w ks (j + 1) rb W) (hbl : Below w.heap.size w W) :
    KidsAt W b bs ∧ OfJ w R ks out root rb gb gc k (bs.map (fun c => (c, lv + 1)) ++ rest) W := by
  obtain ⟨hj, hr, hks, ho, hbt⟩ := h.head hs
  obtain ⟨g1, g2, g3, g4, g5, g6, ⟨ko, kc, g7, _⟩, g8, g9, g10⟩ := h
  refine ⟨⟨sy, _, u, hb, hown⟩, ?_⟩
  cases g5 with
  | cons l1 l2 l3 =>
    have hbr : b ≠ rb := fun e => by
      subst e
      have := (show U.heap[b]? = _ from l2).symm.trans g7
      simp at this
    have hX : ∀ k, (k = b ∨ k = rb) → ∀ cs fz, U.heap[k]? ≠ some (.cells cs 53 fz) := by
      rintro k (rfl | rfl) cs fz e
      · have := (show U.heap[k]? = _ from l2).symm.trans e
        simp at this
      · have := (show U.heap[k]? = _ from g7).symm.trans e
        simp at this
    have hnr : ∀ x cs, Blk U x 65 cs → x ≠ rb := fun x cs hx e => by
      subst e
      have := (show U.heap[x]? = _ from hx).symm.trans g7
      simp at this
    have hnd := List.nodup_append.1 g6
    have hnb : ∀ x ∈ ns, ¬ (x.b = b ∨ x.b = rb) := fun x hx => by
      rintro (e | e)
      · exact hnd.2.2 x.b (List.mem_map_of_mem hx) b (by simp) e
      · obtain ⟨_, cs, hc⟩ := g3.lt x hx
        exact hnr _ _ hc e
    have hrest : ∀ x ∈ rest, x.1 ≠ b := fun x hx e => by
      have hc : (b :: rest.map (·.1)).Nodup := hnd.2.1
      refine (List.nodup_cons.1 hc).1 ?_
      rw [← e]
      exact List.mem_map_of_mem hx
    have hlr : ∀ x ∈ rest, ¬ (x.1 = b ∨ x.1 = rb) := fun x hx => by
      rintro (e | e)
      · exact hrest x hx e
      · have : ∀ (s : List (Nat × Nat)) (st : List (Int × Nat)), LeafS w.heap.size U s st → x ∈ s → ∃ cs, Blk U x.1 65 cs := by
          intro s st hl
          induction hl with
          | nil => intro h; cases h
          | cons m1 m2 m3 ih =>
            intro h
            rcases List.mem_cons.1 h with rfl | h
            · exact ⟨_, m2⟩
            · exact ih h
        obtain ⟨cs, hc⟩ := this _ _ l3 hx
        exact hnr _ _ hc e
    have hsz : w.heap.size ≤ B4 := Nat.le_trans g9.size hB4
    have hv := (hsame.vis g3 hnb hX).snoc rfl hb hown
    refine ⟨i + 1, j + 1, ns ++ [⟨b, sy, ks.getD j 0, lv⟩], _, by omega, hbt, hv, ?_, ((LeafS.of_leaves hlv).wide hsz).app (hsame.leaf l3 hlr), ?_, hrb, hsame.blk g8 ?_, hbl, fun x hx => ?_⟩
    rotate_right
    · rcases List.mem_append.1 hx with hx | hx
      · exact hsame.new (g10 x hx) (hnb x hx) hX
      · obtain rfl : x = ⟨b, sy, ks.getD j 0, lv⟩ := by simpa using hx
        exact ⟨l1, u, bs, hb, hownB, hno⟩
    · rw [List.map_append, g4, List.take_add_one, ho]
      rfl
    · have hold : ∀ y ∈ ns.map (·.b) ++ b :: rest.map (·.1), y < U.heap.size := fun y hy => by
        rcases List.mem_append.1 hy with h | h
        · obtain ⟨x, hx, rfl⟩ := List.mem_map.1 h
          exact (g3.lt x hx).1
        · rcases List.mem_cons.1 h with rfl | h
          · exact Blk.lt l2
          · obtain ⟨x, hx, rfl⟩ := List.mem_map.1 h
            exact l3.lt x hx
      have hnew : ∀ y ∈ bs, U.heap.size ≤ y := fun y hy => by
        obtain ⟨q, hq, rfl⟩ := List.mem_iff_getElem.1 hy
        have := (hlv.at_ q hq).1
        omega
      have e1 : ((bs.map (fun c => (c, lv + 1))) ++ rest).map (·.1) = bs ++ rest.map (·.1) := by
        rw [List.map_append, List.map_map]
        congr 1
        exact List.map_id' bs
      rw [e1, List.map_append, List.append_assoc]
      have hperm : ((ns.map (·.b) ++ b :: rest.map (·.1)) ++ bs).Perm (ns.map (·.b) ++ ([⟨b, sy, ks.getD j 0, lv⟩] : List Nd).map (·.b) ++ (bs ++ rest.map (·.1))) := by
        simp only [List.map_cons, List.map_nil, List.append_assoc, List.cons_append, List.nil_append]
        exact List.Perm.append_left _ (List.Perm.cons _ (List.perm_append_comm))
      have hnd2 : ((ns.map (·.b) ++ b :: rest.map (·.1)) ++ bs).Nodup := List.nodup_append.2 ⟨by simpa using g6, hlv.nd, fun x hx y hy e => by have := hold x hx; have := hnew y hy; omega⟩
      have := hperm.nodup_iff.1 hnd2
      simpa [List.append_assoc] using this
    · rintro (e | e)
      · subst e
        have := (show U.heap[gb]? = _ from g8).symm.trans l2
        simp at this
      · subst e
        have := (show U.heap[gb]? = _ from g8).symm.trans g7
        simp at this
end Go.Proofs.Ytomikgkoegkofaa.dt

import Derived.Test.YtkhflfkedpkelaaGreatDoorFnl
import Derived.Test.YtkhflfkedpkelaaGreatDoorLxt
namespace Go.Proofs.YtkhflfkedpkelaaGreatDoor.lx
open Go.ChangeShapes Go.WideShapes Go.ChangeAt Go.RowKit
set_option linter.unusedVariables false
/-! the document's Short -/
theorem S_self (s : ByteArray) : S s.data.toList = s := by
  unfold S
  rfl
theorem S_app (a b : List UInt8) : S a ++ S b = S (a ++ b) := by
  unfold S
  apply ByteArray.ext
  simp [ByteArray.data_append]
theorem S_take (l : List UInt8) (k : Nat) : (S l).extract 0 k = S (l.take k) := by
  rw [pre_S]
  rfl
set_option maxRecDepth 100000 in
set_option maxHeartbeats 2000000 in
theorem rshort_any (s : ByteArray) (hs : s.size ≤ maxLen) (w : World) : Calls Tryz.prog 10 #[.string s] w fun e w' => e = .returned (.string (S (shortL s.data.toList))) ∧ Below w.heap.size w w' := by
  have hp := parts_any s hs w
  unfold shortL
  have hsl : s.data.toList.length = s.size := by simp
  have hself := S_self s
  cases hd : decB s.data.toList
  · rw [if_neg (by simp), hself]
    unfold PartsV at hp
    rw [hd, if_neg (by simp)] at hp
    clear hd hself hsl
    go_enter Tryz.func10, Tryz.ntmps10
    go_wp2_with fail
    refine hp.mono ?_
    rintro e w1 ⟨rfl, hq⟩
    have HB : Hid (Below w.heap.size w w1) := Lib.hid hq.below
    clear hq hp
    go_wp2_with fail
    go_ret
    exact ⟨rfl, HB.out⟩
  · rw [if_pos rfl]
    obtain ⟨_, _, h1, h9, h6, _⟩ := fm.dec_parts hd
    unfold PartsV at hp
    rw [hd, if_pos rfl] at hp
    generalize (s.data.toList.head? == some 45) = neg at *
    generalize headD (strip s.data.toList) = H at *
    generalize tailD (strip s.data.toList) = P at *
    clear hd hself hsl hs
    go_enter Tryz.func10, Tryz.ntmps10
    go_wp2_with fail
    refine hp.mono ?_
    rintro e w1 ⟨rfl, hq⟩
    have HB : Hid (Below w.heap.size w w1) := Lib.hid hq.below
    clear hq hp
    go_wp2_with fail
    go_loopw [5] (fun v wr => ∃ t : List UInt8, v = .string (S t) ∧ t.length ≤ 6 ∧ fm.stripZ t = fm.stripZ P ∧ Below w.heap.size w wr) (fun v _ => match v with | .string b => b.size | _ => 0)
    case atStart => exact ⟨P, rfl, h6, rfl, HB.out⟩
    case round =>
      obtain ⟨t, rfl, ht6, hst, hb⟩ := hrel
      have HB2 := Lib.hid hb
      clear hb HB
      have hnil : t = [] ∨ ∃ u c, t = u ++ [c] := by
        rcases List.eq_nil_or_concat t with h | ⟨u, c, h⟩
        · exact .inl h
        · exact .inr ⟨u, c, by rw [h, List.concat_eq_append]⟩
      rcases hnil with rfl | ⟨u, c, rfl⟩
      · have hz : (S []).size = 0 := rfl
        have hst : [] = fm.stripZ P := hst
        cases neg
        · have HR : Hid (fm.shortB false H P = H) := Lib.hid (by unfold fm.shortB; rw [← hst, if_pos rfl]; simp)
          have sH : (S H).size = H.length := rfl
          have he : (S []).toList.isEmpty = true := by rw [← list_data]; rfl
          clear hst
          go_wp2_with fail
          go_ret
          exact ⟨by rw [HR.out]; rfl, HB2.out⟩
        · have HR : Hid (fm.shortB true H P = (45 :: H)) := Lib.hid (by unfold fm.shortB; rw [← hst, if_pos rfl]; simp)
          have sH : (S H).size = H.length := rfl
          have k1 : (ByteArray.mk #[45] : ByteArray) ++ S H = S (45 :: H) := S_app [45] H
          have s1 : (S (45 :: H)).size = H.length + 1 := rfl
          have he : (S []).toList.isEmpty = true := by rw [← list_data]; rfl
          clear hst
          go_wp2_with fail
          go_ret
          exact ⟨by rw [HR.out]; rfl, HB2.out⟩

      · have hsz : (S (u ++ [c])).size = u.length + 1 := by show (u ++ [c]).length = _; simp
        have hu : u.length ≤ 5 := by simp at ht6; omega
        have hget : (S (u ++ [c]))[u.length].toNat = c.toNat := by
          rw [S_get]
          simp
        by_cases h48 : c = 48
        · have hex : (S (u ++ [c])).extract 0 u.length = S u := by rw [S_take]; simp
          have hsu : (S u).size = u.length := rfl
          have hv : c.toNat = 48 := by rw [h48]; rfl
          rw [hv] at hget
          have HST : Hid (fm.stripZ u = fm.stripZ P) := Lib.hid (by rw [← hst, h48, fm.strip_snoc0])
          clear hst h48 hv ht6
          go_wp2_with fail
          exact ⟨⟨u, rfl, by omega, HST.out, HB2.out⟩, by show (S u).size < (S (u ++ [c])).size; omega⟩
        · have ht0 : fm.stripZ (u ++ [c]) = u ++ [c] := fm.strip_snoc u c h48
          have hv : ((c.toNat : Int) == 48) = false := by
            rw [beq_eq_false_iff_ne]
            intro e
            exact h48 (UInt8.toNat.inj (by show c.toNat = 48; omega))
          cases neg
          · have HR : Hid (fm.shortB false H P = (H ++ 46 :: (u ++ [c]))) := Lib.hid (by unfold fm.shortB; rw [← hst, ht0]; simp)
            have sH : (S H).size = H.length := rfl
            have k2 : S H ++ (ByteArray.mk #[46] : ByteArray) = S (H ++ [46]) := S_app _ [46]
            have s2 : (S (H ++ [46])).size = H.length + 1 := by show (H ++ [46]).length = _; simp
            have k3 : S (H ++ [46]) ++ S (u ++ [c]) = S (H ++ [46] ++ (u ++ [c])) := S_app _ _
            have hl : H.length ≤ 10 := by first | (simp; omega) | omega
            have sT : (S (u ++ [c])).size = (u ++ [c]).length := rfl
            have he : (S (u ++ [c])).toList.isEmpty = false := by rw [← list_data]; show ((u ++ [c])).isEmpty = false; simp
            clear hst
            go_wp2_with fail
            go_ret
            exact ⟨by rw [HR.out]; rfl, HB2.out⟩
          · have HR : Hid (fm.shortB true H P = (45 :: (H ++ 46 :: (u ++ [c])))) := Lib.hid (by unfold fm.shortB; rw [← hst, ht0]; simp)
            have sH : (S H).size = H.length := rfl
            have k1 : (ByteArray.mk #[45] : ByteArray) ++ S H = S (45 :: H) := S_app [45] H
            have s1 : (S (45 :: H)).size = H.length + 1 := rfl
            have k2 : S (45 :: H) ++ (ByteArray.mk #[46] : ByteArray) = S (45 :: (H ++ [46])) := S_app _ [46]
            have s2 : (S (45 :: (H ++ [46]))).size = H.length + 2 := by show (45 :: (H ++ [46])).length = _; simp
            have k3 : S (45 :: (H ++ [46])) ++ S (u ++ [c]) = S (45 :: (H ++ 46 :: (u ++ [c]))) := by rw [S_app]; simp
            have sT : (S (u ++ [c])).size = (u ++ [c]).length := rfl
            have he : (S (u ++ [c])).toList.isEmpty = false := by rw [← list_data]; show ((u ++ [c])).isEmpty = false; simp
            clear hst
            go_wp2_with fail
            go_ret
            exact ⟨by rw [HR.out]; rfl, HB2.out⟩

end Go.Proofs.YtkhflfkedpkelaaGreatDoor.lx

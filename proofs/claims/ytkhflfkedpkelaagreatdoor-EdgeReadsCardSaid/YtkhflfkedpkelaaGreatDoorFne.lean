import Derived.Test.YtkhflfkedpkelaaGreatDoorFnd
namespace Go.Proofs.YtkhflfkedpkelaaGreatDoor.lx
open Go.ChangeShapes Go.WideShapes Go.ChangeAt Go.RowKit
set_option linter.unusedVariables false
/-! setDigits -/
theorem strip_take_last (l : List UInt8) (n : Nat) (c : UInt8) (hc : l[n]? = some c) : l.take (n + 1) = l.take n ++ [c] := by
  obtain ⟨h, e⟩ := List.getElem?_eq_some_iff.1 hc
  rw [List.take_succ_eq_append_getElem h, e]
set_option maxRecDepth 100000 in
set_option maxHeartbeats 1000000 in
theorem sd_any (ty b d nd : Nat) (p : Int) (hp : -5000 ≤ p ∧ p ≤ 5000) (hd : d < 10 ^ nd) (hd64 : d < 18446744073709551616) (hn : nd ≤ 20) (w : World) (hb : Blk w b ty (BL (List.replicate 32 0))) : Calls Tryz.prog 60 #[.slice (some ⟨b, 0, none⟩) 32 32, .int .u64 d, .int .i64 p, .int .i64 nd] w fun e w' => e = .returned (.tuple #[.int .i64 (nd + p), .int .i64 ((fm.stripZ (fm.digs nd d)).length : Nat)]) ∧ Blk w' b ty (BL (fm.digs nd d ++ List.replicate (32 - nd) 0)) ∧ w.grownBy w' (some b) := by
  have hf := fb_any ty b nd d (List.replicate 32 0) (by simp) (by omega) hd hd64 w hb
  rw [List.drop_replicate] at hf
  have hlen := fm.digs_len nd d
  generalize fm.digs nd d = G at *
  clear hb hd
  go_enter Tryz.func60, Tryz.ntmps60
  go_wp2_with fail
  refine hf.mono ?_
  rintro e w1 ⟨rfl, hk, hg⟩
  have HK := Lib.hid hk
  have HG := Lib.hid hg
  have HL := Lib.hid hlen
  clear hf hk hg hlen
  go_wp2_with fail
  go_loopw [3] (fun i wr => ∃ n : Nat, i = .int .i64 n ∧ n ≤ nd ∧ fm.stripZ (G.take n) = fm.stripZ G ∧ wr = w1) (fun i _ => (intOf i).toNat)
  case atStart => exact ⟨nd, rfl, Nat.le_refl _, by rw [List.take_of_length_le (by rw [HL.out]; exact Nat.le_refl _)], rfl⟩
  case round =>
    obtain ⟨n, rfl, hn2, hs, hwr⟩ := hrel
    subst hwr
    cases n with
    | zero =>
      have hz : Hid ((fm.stripZ G).length = 0) := Lib.hid (by rw [← hs]; rfl)
      clear hs
      go_wp2_with fail
      go_ret2
      exact ⟨by rw [hz.out]; rfl, HK.out, HG.out⟩
    | succ n =>
      obtain ⟨c, hc⟩ : ∃ c, G[n]? = some c := ⟨_, List.getElem?_eq_getElem (by rw [HL.out]; omega)⟩
      have ht := strip_take_last G n c hc
      have hcell : wr.cell? ⟨b, n, none⟩ = some (.int .u8 (c.toNat : Int)) := by
        rw [HK.out.cell n, BL_get, List.getElem?_append_left (by rw [HL.out]; omega), hc]
        rfl
      by_cases h48 : c = 48
      · have h2 : Hid (fm.stripZ (G.take n) = fm.stripZ G) := Lib.hid (by rw [← hs, ht, h48, fm.strip_snoc0])
        have hv : ((c.toNat : Int) == 48) = true := by rw [h48]; rfl
        generalize c.toNat = cn at *
        clear hs hc ht h48
        go_wp2_with fail
        exact ⟨⟨n, rfl, by omega, h2.out, by first | exact rfl | trivial⟩, by simp only [intOf]; omega⟩
      · have hlz : Hid ((fm.stripZ G).length = n + 1) := Lib.hid (by
          rw [← hs, ht, fm.strip_snoc _ _ h48, List.length_append, List.length_take, HL.out]
          simp
          omega)
        have hv : ((c.toNat : Int) == 48) = false := by
          rw [beq_eq_false_iff_ne]
          intro e
          exact h48 (UInt8.toNat.inj (by show c.toNat = 48; omega))
        generalize c.toNat = cn at *
        clear hs hc ht h48
        go_wp2_with fail
        go_ret2
        exact ⟨by rw [hlz.out]; rfl, HK.out, HG.out⟩
end Go.Proofs.YtkhflfkedpkelaaGreatDoor.lx

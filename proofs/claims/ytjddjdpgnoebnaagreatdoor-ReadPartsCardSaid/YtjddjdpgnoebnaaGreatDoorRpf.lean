import Derived.Test.YtjddjdpgnoebnaaGreatDoorRpe
import Derived.Test.YtjddjdpgnoebnaaGreatDoorRdj
namespace Go.Proofs.YtjddjdpgnoebnaaGreatDoor.lx
open Go.ChangeShapes Go.WideShapes Go.ChangeAt Go.RowKit
set_option linter.unusedVariables false
attribute [local go_sem] run_store_float
/-- an element of a list -/
theorem ListOf.at {α : Type} {c : Nat} {E : Elem α} {w : World} {A : Nat → Prop} {v : Value} {xs : List α} (h : ListOf c E w A v xs) {n cap : Nat} {ao : Option Addr} (e : v = .slice ao n cap) (h0 : 0 < xs.length) : ∃ g, ao = some ⟨g, 0, none⟩ ∧ g < w.heap.size ∧ ∀ k x, xs[k]? = some x → ∃ cs, cs.length = c ∧ (∀ j u, cs[j]? = some u → w.cell? ⟨g, k * c + j, none⟩ = some u) ∧ E w A x cs := by
  obtain ⟨_, ao', cap', e', h⟩ := h
  obtain ⟨g, e2, hg, _, hc⟩ := h h0
  rw [e] at e'
  cases e'
  exact ⟨g, e2, hg, hc⟩
theorem behind3 {w : World} {a : Addr} {v : Value} (h : w.cell? a = some v) (hl : a.block < w.heap.size) (o1 o2 o3 : Obj) : (((w.alloc o1).alloc o2).alloc o3).cell? a = some v :=
  (World.cell?_alloc_lt _ o3 a (by rw [World.size_alloc, World.size_alloc]; omega)).trans ((World.cell?_alloc_lt _ o2 a (by rw [World.size_alloc]; omega)).trans ((World.cell?_alloc_lt w o1 a hl).trans h))
set_option maxRecDepth 100000 in
set_option maxHeartbeats 4000000 in
theorem ralive_any (w : World) (b off : Nat) (hv : Vs w b off) : Calls Tryz.prog 19 #[] w fun e w' => e = .returned (.bool true) ∧ Below w.heap.size w w' := by
  have a1 := parse_any ⟨#[101, 32, 61, 32, 37, 50, 32, 39, 97, 39, 32, 40, 101, 32, 124, 32, 41, 42, 32, 59, 32, 102, 32, 61, 32, 59]⟩ (by decide) w b off hv
  have a2 := fun w h => parse_any ⟨#[101, 32, 61, 32, 40, 32, 59]⟩ (by decide) w b off h
  have HV := Lib.hid hv
  have HA2 := Lib.hid a2
  clear hv a2
  go_enter Tryz.func19, Tryz.ntmps19
  go_wp2_with fail
  refine a1.mono ?_
  rintro e w1 ⟨⟨v, rfl, hl⟩, hb1⟩
  rw [ra1] at hl ⊢
  obtain ⟨ao, cap, rfl⟩ := hl.form
  obtain ⟨g, rfl, hg, hc⟩ := hl.at rfl (by decide)
  obtain ⟨_, _, d0, ⟨av, rfl, hav⟩⟩ := hc 0 _ rfl
  obtain ⟨_, _, d1, ⟨av3, rfl, hav3⟩⟩ := hc 1 _ rfl
  obtain ⟨ao2, cap2, rfl⟩ := hav.form
  obtain ⟨ao3, cap3, rfl⟩ := hav3.form
  obtain ⟨g2, rfl, hg2, hc2⟩ := ListOf.at (show ListOf 3 (EAlt (AltsAt 16)) _ _ _ _ from hav) rfl (by decide)
  obtain ⟨_, _, f0, ⟨iv, rfl, hiv⟩⟩ := hc2 0 _ rfl
  obtain ⟨ao4, cap4, rfl⟩ := hiv.form
  obtain ⟨g3, rfl, hg3, hc3⟩ := hiv.at rfl (by decide)
  obtain ⟨_, _, i1, ⟨av5, rfl, hav5⟩⟩ := hc3 1 _ rfl
  obtain ⟨ao5, cap5, rfl⟩ := hav5.form
  obtain ⟨g4, rfl, hg4, hc4⟩ := ListOf.at (show ListOf 3 (EAlt (AltsAt 15)) _ _ _ _ from hav5) rfl (by decide)
  obtain ⟨_, _, j1, ⟨iv6, rfl, hiv6⟩⟩ := hc4 1 _ rfl
  obtain ⟨ao6, cap6, rfl⟩ := hiv6.form
  have HB1 := Lib.hid hb1
  have p0 := d0 0 _ rfl
  have p1 := d0 1 _ rfl
  have p2 := d0 2 _ rfl
  have q0 := d1 0 _ rfl
  have q1 := d1 1 _ rfl
  have q2 := d1 2 _ rfl
  have r0 := f0 0 _ rfl
  have r1 := f0 1 _ rfl
  have r2 := f0 2 _ rfl
  have s0 := i1 0 _ rfl
  have s1 := i1 1 _ rfl
  have s2 := i1 2 _ rfl
  have s3 := i1 3 _ rfl
  have s4 := i1 4 _ rfl
  have t0 := j1 0 _ rfl
  have t1 := j1 1 _ rfl
  have t2 := j1 2 _ rfl
  have HP := Lib.hid (And.intro p0 (And.intro p1 (And.intro p2 (And.intro q0 (And.intro q1 (And.intro q2 (And.intro r0 (And.intro r1 (And.intro r2 (And.intro s0 (And.intro s1 (And.intro s2 (And.intro s3 (And.intro s4 (And.intro t0 (And.intro t1 t2))))))))))))))))
  clear p0 p1 p2 q0 q1 q2 r0 r1 r2 s0 s1 s2 s3 s4 t0 t1 t2 d0 d1 f0 i1 j1 hc hc2 hc3 hc4 hav hav3 hiv hav5 hiv6 hl a1
  have hvs : ∀ o, Vs (w1.alloc o) b off := fun o => (HV.out.below hb1).below ((Below.refl _ _).alloc (Nat.le_refl _) _)
  have HVS := Lib.hid hvs
  clear hb1 hvs
  go_wp2_with fail
  refine (HA2.out _ (HVS.out _)).mono ?_
  rintro e w2 ⟨⟨v2, rfl, hl2⟩, hb2⟩
  rw [ra2] at hl2 ⊢
  obtain ⟨ao7, cap7, rfl⟩ := hl2.form
  have hK : ∀ a u, a.block < w1.heap.size → w1.cell? a = some u → w2.cell? a = some u := fun a u ha hu => (hb2.cell (p := a) (by rw [World.size_alloc]; omega)).trans ((World.cell?_alloc_lt w1 _ a ha).trans hu)
  obtain ⟨p0, p1, p2, q0, q1, q2, r0, r1, r2, s0, s1, s2, s3, s4, t0, t1, t2⟩ := HP.out
  replace p0 := hK _ _ hg p0
  replace p1 := hK _ _ hg p1
  replace p2 := hK _ _ hg p2
  replace q0 := hK _ _ hg q0
  replace q1 := hK _ _ hg q1
  replace q2 := hK _ _ hg q2
  replace r0 := hK _ _ hg2 r0
  replace r1 := hK _ _ hg2 r1
  replace r2 := hK _ _ hg2 r2
  replace s0 := hK _ _ hg3 s0
  replace s1 := hK _ _ hg3 s1
  replace s2 := hK _ _ hg3 s2
  replace s3 := hK _ _ hg3 s3
  replace s4 := hK _ _ hg3 s4
  replace t0 := hK _ _ hg4 t0
  replace t1 := hK _ _ hg4 t1
  replace t2 := hK _ _ hg4 t2
  have hF : Blk w2 w1.heap.size 26 flt0 := Blk.below (Blk.new w1 26 flt0) hb2 (by simp)
  obtain ⟨f0, f1, f2, f3⟩ := flt_cells hF
  have hz2 : w1.heap.size + 1 ≤ w2.heap.size := by have := hb2.size; rw [World.size_alloc] at this; exact this
  have HB3 := Lib.hid ((HB1.out.alloc HB1.out.size _).trans (hb2.mono (by have := HB1.out.size; rw [World.size_alloc]; omega)))
  have h1' : w1.heap.size < w2.heap.size := by omega
  have hg' : g < w2.heap.size := by omega
  have hg2' : g2 < w2.heap.size := by omega
  have hg3' : g3 < w2.heap.size := by omega
  have hg4' : g4 < w2.heap.size := by omega
  have hS : ((S [101]).toList == [101]) = true := by rw [← list_data]; rfl
  have y0 := behind3 t0 hg4'
  have y1 := behind3 t1 hg4'
  have y2 := behind3 t2 hg4'
  have z0 := behind3 q0 hg'
  have z1 := behind3 q1 hg'
  have z2 := behind3 q2 hg'
  clear hK hb2 hl2 hF HP
  go_wp2_with fail
  go_ret
  exact ⟨rfl, ((HB3.out.alloc (by have := HB3.out.size; omega) _).alloc (by have := HB3.out.size; rw [World.size_alloc]; omega) _).alloc (by have := HB3.out.size; rw [World.size_alloc, World.size_alloc]; omega) _⟩
end Go.Proofs.YtjddjdpgnoebnaaGreatDoor.lx

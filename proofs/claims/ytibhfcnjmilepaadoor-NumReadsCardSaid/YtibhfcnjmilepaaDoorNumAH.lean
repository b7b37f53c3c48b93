import Derived.Test.YtibhfcnjmilepaaDoorNumAG
namespace Go.Proofs.YtibhfcnjmilepaaDoor
open Go.RowKit

theorem cmp_neg {x y : Nat} : (cmpN x y < 0) = (x < y) := by
  unfold cmpN
  apply propext
  split
  · simp [*]
  · split <;> simp [*] <;> omega

set_option maxRecDepth 100000 in
set_option maxHeartbeats 4000000 in
theorem pdivide_any (x y : Nat) (hx : (digB x).length ≤ 10000) (hy : (digB y).length ≤ 10000) (hy0 : 0 < y) (va vb : Value) (w : World) (ha : U32s w va (digB x)) (hb : U32s w vb (digB y)) :
    Calls Tryd.prog 41 #[va, vb] w (TwoPost (x / y) (x % y) w) := by
  have CM := pcmp_any x y hx hy va vb w ha hb
  have HCM := Lib.hid CM
  have HA := Lib.hid ha
  have HB := Lib.hid hb
  by_cases hlt : x < y
  · have hc : cmpN x y = -1 := by unfold cmpN; rw [if_pos hlt]
    rw [hc] at HCM
    have hq : x / y = 0 := Nat.div_eq_of_lt hlt
    have hr : x % y = x := Nat.mod_eq_of_lt hlt
    rw [hq, hr]
    clear CM ha hb hc hq hr hlt
    go_enter Tryd.func41, Tryd.ntmps41
    go_wp2_with fail
    refine HCM.out.mono ?_
    rintro e w1 ⟨rfl, q, rfl⟩
    have CP := pcopied_any va (digB x) (by omega) (w.drewN q) (HA.out.below (below_drewN (Below.refl _ _) q))
    have HCP := Lib.hid CP
    clear CP
    go_wp2_with fail
    refine HCP.out.mono ?_
    rintro e w2 ⟨⟨v, rfl, hcp⟩, hb2⟩
    have HU := Lib.hid hcp.u32s
    have HB2 := Lib.hid ((below_drewN (Below.refl w.heap.size w) q).trans hb2)
    clear hcp hb2
    go_wp2
    go_ret2
    exact ⟨⟨_, v, rfl, .inl ⟨digB_zero, none, 0, rfl⟩, HU.out⟩, HB2.out⟩
  · have hc : ¬ cmpN x y < 0 := by rw [cmp_neg]; exact hlt
    obtain ⟨c, hcc⟩ : ∃ c, c = cmpN x y := ⟨_, rfl⟩
    rw [← hcc] at HCM hc
    obtain ⟨pa, ca, rfl⟩ := ha.val
    obtain ⟨pb, cb, rfl⟩ := hb.val
    obtain ⟨nb, hnb⟩ : ∃ nb, nb = (digB y).length := ⟨_, rfl⟩
    have hnb0 : 0 < nb := by rw [hnb, digB_pos hy0]; simp
    rw [← hnb] at HCM HB ⊢
    by_cases h1 : nb = 1
    · have e1 : ((nb : Int) == 1) = true := by rw [h1]; rfl
      obtain ⟨b2, o2, rfl, hb2, hcx⟩ := HB.out.at (show 0 < (digB y).length by omega)
      have hd : (digB y).getD 0 0 = y := by
        have h2 : (digB y).length = 1 := by omega
        have h3 := valB_digB y
        match hh : digB y, h2 with
        | [d], _ =>
          rw [hh] at h3
          simp only [valB, Nat.mul_zero, Nat.add_zero] at h3
          rw [List.getD_cons_zero]; exact h3
      rw [hd, Nat.add_zero] at hcx
      unfold u32V at hcx
      have hyB : y < bigB := by rw [← hd]; exact okB_getD (digB_ok _) _
      obtain ⟨na, hna⟩ : ∃ na, na = (digB x).length := ⟨_, rfl⟩
      have hBY : ∀ q, Calls Tryd.prog 55 #[.slice pa (digB x).length ca, .int .u32 y] (w.drewN q) (TwoPost (x / y) (x % y) (w.drewN q)) := fun q => by
        have := pby_any na y (digB x) hna (by omega) (digB_ok _) hy0 hyB (.slice pa (digB x).length ca) (w.drewN q) (ha.below (below_drewN (Below.refl _ _) q))
        rw [valB_digB] at this
        exact this
      have HBY := Lib.hid hBY
      have hnb1 : (0 : Int) < nb := by omega
      have hcq : ∀ q, (w.drewN q).cell? ⟨b2, o2, none⟩ = some (.int .u32 y) := fun q => hcx
      have HCQ := Lib.hid hcq
      clear CM ha hb hcc hnb hnb0 hd hyB hna hBY h1 hlt hcx hcq
      go_enter Tryd.func41, Tryd.ntmps41
      go_wp2_with fail
      refine HCM.out.mono ?_
      rintro e w1 ⟨rfl, q, rfl⟩
      have hcx := HCQ.out q
      have BY := HBY.out q
      obtain ⟨w1, hw1⟩ : ∃ w1, w1 = w.drewN q := ⟨_, rfl⟩
      rw [← hw1] at hcx BY ⊢
      have HBY1 := Lib.hid BY
      have HB1 := Lib.hid (show Below w.heap.size w w1 by rw [hw1]; exact below_drewN (Below.refl _ _) q)
      clear BY hw1
      go_wp2_with fail
      refine HBY1.out.mono ?_
      rintro e w2 ⟨⟨v, u, rfl, hu1, hu2⟩, hb2⟩
      have HU1 := Lib.hid hu1
      have HU2 := Lib.hid hu2
      have HB2 := Lib.hid (HB1.out.trans (hb2.mono HB1.out.size))
      clear hu1 hu2 hb2
      go_wp2
      go_ret2
      exact ⟨⟨v, u, rfl, HU1.out, HU2.out⟩, HB2.out⟩
    · have e1 : ((nb : Int) == 1) = false := by rw [beq_eq_false_iff_ne]; omega
      have hBY : ∀ q, Calls Tryd.prog 56 #[.slice pa (digB x).length ca, .slice pb nb cb] (w.drewN q) (TwoPost (x / y) (x % y) (w.drewN q)) := fun q =>
        plong_any x y hx (by omega) (by omega) _ _ (w.drewN q) (ha.below (below_drewN (Below.refl _ _) q)) (HB.out.below (below_drewN (Below.refl _ _) q))
      have HBY := Lib.hid hBY
      clear CM ha hb hcc hnb hnb0 hBY h1 hlt
      go_enter Tryd.func41, Tryd.ntmps41
      go_wp2_with fail
      refine HCM.out.mono ?_
      rintro e w1 ⟨rfl, q, rfl⟩
      have BY := HBY.out q
      have HB1 := Lib.hid (below_drewN (Below.refl w.heap.size w) q)
      obtain ⟨w1, hw1⟩ : ∃ w1, w1 = w.drewN q := ⟨_, rfl⟩
      rw [← hw1] at BY HB1 ⊢
      have HBY1 := Lib.hid BY
      clear BY hw1
      go_wp2_with fail
      refine HBY1.out.mono ?_
      rintro e w2 ⟨⟨v, u, rfl, hu1, hu2⟩, hb2⟩
      have HU1 := Lib.hid hu1
      have HU2 := Lib.hid hu2
      have HB2 := Lib.hid (HB1.out.trans (hb2.mono HB1.out.size))
      clear hu1 hu2 hb2
      go_wp2
      go_ret2
      exact ⟨⟨v, u, rfl, HU1.out, HU2.out⟩, HB2.out⟩
end Go.Proofs.YtibhfcnjmilepaaDoor

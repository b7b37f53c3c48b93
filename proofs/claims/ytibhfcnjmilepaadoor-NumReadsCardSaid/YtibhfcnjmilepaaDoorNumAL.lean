import Derived.Test.YtibhfcnjmilepaaDoorNumAK
namespace Go.Proofs.YtibhfcnjmilepaaDoor
open Go.RowKit

theorem dec_dig {n : Nat} (h : 0 < n) : (decN n).length ≤ 9 * (digB n).length := by
  have h0 : 0 < (digB n).length := by rw [digB_pos h]; simp
  refine (dec_len (by omega)).2 ?_
  rw [pow_nine]
  exact digB_len.1 (Nat.le_refl _)
theorem dig_dec {n k : Nat} (h : (decN n).length ≤ 9 * k) (hk : 0 < k) : (digB n).length ≤ k := by
  rw [digB_len, ← pow_nine]
  exact (dec_len (by omega)).1 h
theorem cmpZ_pp {x y : Int} (hx : decide (x < 0) = false) (hy : decide (y < 0) = false) : cmpN x.natAbs y.natAbs = cmpZ x y := by
  simp only [decide_eq_false_iff_not] at hx hy
  unfold cmpN cmpZ
  repeat' split
  all_goals first | rfl | (exfalso; omega)
theorem cmpZ_mm {x y : Int} (hx : decide (x < 0) = true) (hy : decide (y < 0) = true) : cmpN y.natAbs x.natAbs = cmpZ x y := by
  simp only [decide_eq_true_eq] at hx hy
  unfold cmpN cmpZ
  repeat' split
  all_goals first | rfl | (exfalso; omega)

set_option maxRecDepth 100000 in
set_option maxHeartbeats 4000000 in
theorem pCmp_any (x y : Int) (hx : (digB x.natAbs).length ≤ 10000) (hy : (digB y.natAbs).length ≤ 10000) (va vb : Value) (w : World) (ha : IntIs w va x) (hb : IntIs w vb y) :
    Calls Tryd.prog 31 #[va, vb] w fun e w' => e = .returned (.int .i64 (cmpZ x y)) ∧ Below w.heap.size w w' := by
  obtain ⟨sa, rfl, hua⟩ := ha
  obtain ⟨sb, rfl, hub⟩ := hb
  obtain ⟨W, hW⟩ : ∃ W, W = (w.alloc (.cells #[.bool (decide (x < 0)), sa] 25)).alloc (.cells #[.bool (decide (y < 0)), sb] 25) := ⟨_, rfl⟩
  have hBW : Below w.heap.size w W := by rw [hW]; exact ((Below.refl _ _).alloc (Nat.le_refl _) _).alloc (by simp) _
  have HUA := Lib.hid (hua.below hBW)
  have HUB := Lib.hid (hub.below hBW)
  have HBW := Lib.hid hBW
  obtain ⟨z, hz⟩ : ∃ z, z = cmpZ x y := ⟨_, rfl⟩
  cases hm : decide (x < 0) <;> cases hc : decide (y < 0)
  · have CM := pcmp_any x.natAbs y.natAbs hx hy sa sb W HUA.out HUB.out
    rw [cmpZ_pp hm hc, ← hz] at CM
    have HCM := Lib.hid CM
    rw [← hz]
    rw [hm, hc] at hW
    have HW := Lib.hid hW
    clear CM hz hua hub hBW hm hc hW
    go_enter Tryd.func31, Tryd.ntmps31
    go_wp2_with fail
    rw [← HW.out]
    refine HCM.out.mono ?_
    rintro e w' ⟨rfl, q, rfl⟩
    go_wp2
    go_ret
    exact ⟨rfl, HBW.out.trans (below_drewN (Below.refl _ _) q)⟩
  · have hzz : z = 1 := by
      rw [hz]; simp only [decide_eq_true_eq, decide_eq_false_iff_not] at hm hc; exact cmpZ_pos (by omega)
    rw [← hz, hzz]
    rw [hm, hc] at hW
    have HW := Lib.hid hW
    clear hz hua hub hBW hm hc hW hzz
    go_enter Tryd.func31, Tryd.ntmps31
    go_wp2
    go_ret
    exact ⟨rfl, by rw [← HW.out]; exact HBW.out⟩
  · have hzz : z = -1 := by
      rw [hz]; simp only [decide_eq_true_eq, decide_eq_false_iff_not] at hm hc; exact cmpZ_neg (by omega)
    rw [← hz, hzz]
    rw [hm, hc] at hW
    have HW := Lib.hid hW
    clear hz hua hub hBW hm hc hW hzz
    go_enter Tryd.func31, Tryd.ntmps31
    go_wp2
    go_ret
    exact ⟨rfl, by rw [← HW.out]; exact HBW.out⟩
  · have CM := pcmp_any y.natAbs x.natAbs hy hx sb sa W HUB.out HUA.out
    rw [cmpZ_mm hm hc, ← hz] at CM
    have HCM := Lib.hid CM
    rw [← hz]
    rw [hm, hc] at hW
    have HW := Lib.hid hW
    clear CM hz hua hub hBW hm hc hW
    go_enter Tryd.func31, Tryd.ntmps31
    go_wp2_with fail
    rw [← HW.out]
    refine HCM.out.mono ?_
    rintro e w' ⟨rfl, q, rfl⟩
    go_wp2
    go_ret
    exact ⟨rfl, HBW.out.trans (below_drewN (Below.refl _ _) q)⟩

set_option maxRecDepth 100000 in
set_option maxHeartbeats 4000000 in
theorem pText_any (x : Int) (hx : (digB x.natAbs).length ≤ 10000) (va : Value) (w : World) (ha : IntIs w va x) (ht : TabW w) :
    Calls Tryd.prog 11 #[va] w fun e w' => e = .returned (.string ⟨(textZ x).toArray⟩) ∧ Below w.heap.size w w' := by
  obtain ⟨sa, rfl, hua⟩ := ha
  obtain ⟨a, c, rfl⟩ := hua.val
  obtain ⟨n, hn⟩ : ∃ n, n = (digB x.natAbs).length := ⟨_, rfl⟩
  rw [← hn] at hua ⊢
  obtain ⟨W, hW⟩ : ∃ W, W = w.alloc (.cells #[.bool (decide (x < 0)), .slice a n c] 25) := ⟨_, rfl⟩
  have hBW : Below w.heap.size w W := by rw [hW]; exact (Below.refl _ _).alloc (Nat.le_refl _) _
  have HUA := Lib.hid (hua.below hBW)
  have HBW := Lib.hid hBW
  have HTW := Lib.hid (ht.below hBW)
  by_cases h0 : x = 0
  · subst h0
    have hn0 : n = 0 := by rw [hn]; show (digB 0).length = 0; rw [digB_zero]; rfl
    subst hn0
    have htz : textZ 0 = [48] := by unfold textZ; rw [if_neg (by omega)]; show decN 0 = _; rw [decN_small (by omega)]; rfl
    have HTZ := Lib.hid htz
    rw [decide_eq_false (by omega)] at hW ⊢
    have HW := Lib.hid hW
    clear hW hBW hua hn htz
    go_enter Tryd.func11, Tryd.ntmps11
    go_wp2
    go_ret
    exact ⟨ret_str (by rw [HTZ.out]), by rw [← HW.out]; exact HBW.out⟩
  · have hx0 : 0 < x.natAbs := by omega
    have hn0 : 0 < n := by rw [hn, digB_pos hx0]; simp
    have g1 : ((n : Int) == 0) = false := by rw [beq_eq_false_iff_ne]; omega
    have DC := pdecimal_any x.natAbs hx hx0 (.slice a n c) W HUA.out HTW.out
    obtain ⟨S, hS⟩ : ∃ S, S = decS x.natAbs := ⟨_, rfl⟩
    rw [← hS] at DC
    have HDC := Lib.hid DC
    cases hm : decide (x < 0)
    · have htz : (⟨(textZ x).toArray⟩ : ByteArray) = S := by
        simp only [decide_eq_false_iff_not] at hm
        unfold textZ; rw [if_neg hm, hS]; rfl
      have HTZ := Lib.hid htz
      rw [hm] at hW
      have HW := Lib.hid hW
      clear hW hBW hua hn htz DC hS hm h0 hn0
      go_enter Tryd.func11, Tryd.ntmps11
      go_wp2_with fail
      rw [← HW.out]
      refine HDC.out.mono ?_
      rintro e w' ⟨rfl, hb⟩
      have HB := Lib.hid (HBW.out.trans (hb.mono HBW.out.size))
      clear hb
      go_wp2
      go_ret
      exact ⟨ret_str HTZ.out.symm, HB.out⟩
    · have hdl : (decN x.natAbs).length ≤ 90000 := by
        have := dec_dig hx0
        omega
      have hSl : S.size ≤ 90000 := by rw [hS, decS_size]; exact hdl
      have htz : (⟨(textZ x).toArray⟩ : ByteArray) = ((⟨#[45]⟩ : ByteArray) ++ S) := by
        simp only [decide_eq_true_eq] at hm
        unfold textZ; rw [if_pos hm, hS, cons45]; rfl
      have HTZ := Lib.hid htz
      rw [hm] at hW
      have HW := Lib.hid hW
      clear hW hBW hua hn htz DC hS hm h0 hn0 hdl
      go_enter Tryd.func11, Tryd.ntmps11
      go_wp2_with fail
      rw [← HW.out]
      refine HDC.out.mono ?_
      rintro e w' ⟨rfl, hb⟩
      have HB := Lib.hid (HBW.out.trans (hb.mono HBW.out.size))
      clear hb
      go_wp2
      go_ret
      exact ⟨ret_str HTZ.out.symm, HB.out⟩
end Go.Proofs.YtibhfcnjmilepaaDoor

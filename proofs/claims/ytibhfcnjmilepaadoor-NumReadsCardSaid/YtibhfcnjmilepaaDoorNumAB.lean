import Derived.Test.YtibhfcnjmilepaaDoorNumAA
import Derived.Test.YtibhfcnjmilepaaDoorShelf
import Derived.Deep.QuietTactic
import Derived.BigQuiet
namespace Go.Proofs.YtibhfcnjmilepaaDoor
open Go.RowKit

set_option maxRecDepth 100000 in
set_option maxHeartbeats 4000000 in
theorem nan32_any (x : Int) (w : World) : Calls Tryd.prog 68 #[.int .u32 x] w fun e w' => e = .returned (.bool false) ∧ w' = w := by
  go_enter Tryd.func68, Tryd.ntmps68
  go_wp2
  go_ret
  exact ⟨rfl, rfl⟩
set_option maxRecDepth 100000 in
set_option maxHeartbeats 4000000 in
theorem cmp32_any (x y : Int) (w : World) : Calls Tryd.prog 59 #[.int .u32 x, .int .u32 y] w fun e w' => e = .returned (.int .i64 (Lib.compareInt x y)) ∧ w' = w := by
  go_enter Tryd.func59, Tryd.ntmps59
  go_wp2_with fail
  refine (nan32_any _ _).mono ?_
  rintro e w' ⟨rfl, hw⟩
  rw [hw]
  clear hw
  go_wp2_with fail
  refine (nan32_any _ _).mono ?_
  rintro e w' ⟨rfl, hw⟩
  rw [hw]
  clear hw
  go_wp2
  all_goals (go_ret; refine ⟨?_, rfl⟩; unfold Lib.compareInt; (repeat' split) <;> first | rfl | (exfalso; omega))

theorem U32s.at {w : World} {pa : Option Addr} {n c : Nat} {l : List Nat} (h : U32s w (.slice pa n c) l) {j : Nat} (hj : j < l.length) : ∃ b off, pa = some ⟨b, off, none⟩ ∧ b < w.heap.size ∧ w.cell? ⟨b, off + j, none⟩ = some (u32V (l.getD j 0)) := by
  rcases h with ⟨rfl, _⟩ | ⟨b, off, cap, e, hb, hc⟩
  · simp at hj
  · cases e
    exact ⟨b, off, rfl, hb, hc j hj⟩
theorem cmp_lens {x y : Nat} (h : (digB x).length ≠ (digB y).length) : Lib.compareInt ((digB x).length : Int) ((digB y).length : Int) = cmpN x y := by
  unfold Lib.compareInt cmpN
  rcases Nat.lt_or_gt_of_ne h with h1 | h1
  · rw [if_pos (by omega), if_pos (cmp_long h1)]
  · have := cmp_long h1
    rw [if_neg (by omega), if_pos (by omega), if_neg (by omega), if_pos this]
theorem cmp_at {x y k : Nat} (hl : (digB x).length = (digB y).length) (hk : k < (digB x).length) (hd : (digB x).drop (k + 1) = (digB y).drop (k + 1)) (hne : (digB x).getD k 0 ≠ (digB y).getD k 0) : Lib.compareInt ((digB x).getD k 0 : Nat) ((digB y).getD k 0 : Nat) = cmpN x y := by
  unfold Lib.compareInt cmpN
  rcases Nat.lt_or_gt_of_ne hne with h1 | h1
  · have := valB_cmp hl hk (digB_ok x) hd h1
    rw [valB_digB, valB_digB] at this
    rw [if_pos (by omega), if_pos this]
  · have := valB_cmp hl.symm (by omega) (digB_ok y) hd.symm h1
    rw [valB_digB, valB_digB] at this
    rw [if_neg (by omega), if_pos (by omega), if_neg (by omega), if_pos this]
theorem cmp_same {x y : Nat} (h : digB x = digB y) : cmpN x y = 0 := by
  rw [digB_inj h]; unfold cmpN; rw [if_neg (by omega), if_neg (by omega)]

def CmpPost (z : Int) (w : World) (e : Ending) (w' : World) : Prop := e = .returned (.int .i64 z) ∧ ∃ q, w' = w.drewN q

set_option maxRecDepth 100000 in
set_option maxHeartbeats 4000000 in
theorem pcmp_any (x y : Nat) (hx : (digB x).length ≤ 10000) (hy : (digB y).length ≤ 10000) (va vb : Value) (w : World) (ha : U32s w va (digB x)) (hb : U32s w vb (digB y)) :
    Calls Tryd.prog 44 #[va, vb] w (CmpPost (cmpN x y) w) := by
  obtain ⟨pa, ca, rfl⟩ := ha.val
  obtain ⟨pb, cb, rfl⟩ := hb.val
  obtain ⟨na, hna⟩ : ∃ na, na = (digB x).length := ⟨_, rfl⟩
  obtain ⟨nb, hnb⟩ : ∃ nb, nb = (digB y).length := ⟨_, rfl⟩
  rw [← hna] at ha hx ⊢
  rw [← hnb] at hb hy ⊢
  have HA := Lib.hid ha
  have HB := Lib.hid hb
  have HNA := Lib.hid hna
  have HNB := Lib.hid hnb
  by_cases hne : na = nb
  · have g0 : ((na : Int) != (nb : Int)) = false := by rw [hne]; simp
    obtain ⟨z, hz⟩ : ∃ z, z = cmpN x y := ⟨_, rfl⟩
    have HZ := Lib.hid hz
    have HNE := Lib.hid hne
    rw [← hz]
    clear ha hb hna hnb hz hne
    go_enter Tryd.func44, Tryd.ntmps44
    go_wp2
    go_loopw [19] (fun i wr => ∃ k q : Nat, k ≤ na ∧ i = .int .i64 k ∧ Hid ((digB x).drop (na - k) = (digB y).drop (na - k)) ∧ wr = w.drewN q) (fun i _ => na - (intOf i).toNat)
    case atStart => exact ⟨0, 0, by omega, rfl, Lib.hid (by rw [List.drop_of_length_le (by have := HNA.out; omega), List.drop_of_length_le (by have := HNB.out; have := HNE.out; omega)]), rfl⟩
    case round =>
      obtain ⟨k, q, hk, rfl, HD, hw⟩ := hrel
      have HW := Lib.hid hw
      have k0 : (0 : Int) ≤ k := Int.natCast_nonneg _
      by_cases hgo : k < na
      · have g1 : (k : Int) < na := by omega
        obtain ⟨t, ht⟩ : ∃ t, t = na - 1 - k := ⟨_, rfl⟩
        have htn : t < na := by omega
        have hti : (na : Int) - 1 - k = t := by omega
        have t0 : (0 : Int) ≤ t := Int.natCast_nonneg _
        have t1 : (t : Int) < na := by omega
        have t2 : (t : Int) < nb := by have := HNE.out; omega
        obtain ⟨b1, o1, rfl, hb1, hc1⟩ := HA.out.at (show t < _ by rw [← HNA.out]; exact htn)
        obtain ⟨b2, o2, rfl, hb2, hc2⟩ := HB.out.at (show t < _ by rw [← HNB.out, ← HNE.out]; exact htn)
        obtain ⟨d1, hd1⟩ : ∃ d, d = (digB x).getD t 0 := ⟨_, rfl⟩
        obtain ⟨d2, hd2⟩ : ∃ d, d = (digB y).getD t 0 := ⟨_, rfl⟩
        rw [← hd1] at hc1
        rw [← hd2] at hc2
        have c1 : wr.cell? ⟨b1, o1 + t, none⟩ = some (.int .u32 d1) := by rw [hw]; exact hc1
        have c2 : wr.cell? ⟨b2, o2 + t, none⟩ = some (.int .u32 d2) := by rw [hw]; exact hc2
        have hdr : (digB x).drop (t + 1) = (digB y).drop (t + 1) := by have := HD.out; rwa [show na - k = t + 1 by omega] at this
        have HDR := Lib.hid hdr
        have HD1 := Lib.hid hd1
        have HD2 := Lib.hid hd2
        have HT := Lib.hid ht
        have HTN := Lib.hid htn
        by_cases heq : d1 = d2
        · have e0 : ((d1 : Int) != (d2 : Int)) = false := by rw [heq]; simp
          have HEQ := Lib.hid heq
          clear hw hd1 hd2 hc1 hc2 hdr ht htn heq HD
          go_wp2_with fail
          go_quiet (fail)
          go_wp2
          go_roundw
          case rel => exact ⟨k + 1, q + nq, by omega, by go_num, Lib.hid (by
            rw [show na - (k + 1) = t by have := HT.out; omega, drop_getD (by rw [← HNA.out]; exact HTN.out), drop_getD (l := digB y) (by rw [← HNB.out, ← HNE.out]; exact HTN.out), HDR.out, ← HD1.out, ← HD2.out, HEQ.out]), by rw [HW.out, World.drewN_drewN]⟩
          case measure => simp [intOf]; omega
        · have e0 : ((d1 : Int) != (d2 : Int)) = true := by rw [bne_iff_ne]; omega
          have hcm := cmp_at (x := x) (y := y) (k := t) (by rw [← HNA.out, ← HNB.out]; exact HNE.out) (by rw [← HNA.out]; exact htn) hdr (by rw [← hd1, ← hd2]; exact heq)
          rw [← hd1, ← hd2, ← HZ.out] at hcm
          have HCM := Lib.hid hcm
          clear hw hd1 hd2 hc1 hc2 hdr ht htn heq HD hcm
          go_wp2_with fail
          go_quiet (fail)
          obtain ⟨wq, hwq⟩ : ∃ wq, wq = wr.drewN nq := ⟨_, rfl⟩
          have c3 : wq.cell? ⟨b1, o1 + t, none⟩ = some (.int .u32 d1) := by rw [hwq]; exact c1
          have c4 : wq.cell? ⟨b2, o2 + t, none⟩ = some (.int .u32 d2) := by rw [hwq]; exact c2
          rw [← hwq]
          have HWQ : Hid (∃ Q, wq = w.drewN Q) := ⟨q + nq, by rw [hwq, HW.out, World.drewN_drewN]⟩
          clear hwq c1 c2
          go_wp2_with fail
          go_quiet ((go_at_call 59; exact Calls.quiet_of_same (cmp32_any _ _ _)))
          go_wp2
          go_ret
          obtain ⟨Q, hQ⟩ := HWQ.out
          exact ⟨ret_int HCM.out, Q + nq, by rw [hQ, World.drewN_drewN]⟩
      · have g1 : ¬ (k : Int) < na := by omega
        have hkn : k = na := by omega
        have hz0 : z = 0 := by
          have := HD.out
          rw [hkn, Nat.sub_self, List.drop_zero, List.drop_zero] at this
          rw [HZ.out, cmp_same this]
        have HZ0 := Lib.hid hz0
        clear hw hz0 HD
        go_wp2
        go_ret
        exact ⟨ret_int HZ0.out.symm, q, HW.out⟩
  · have g0 : ((na : Int) != (nb : Int)) = true := by rw [bne_iff_ne]; omega
    have hcm := cmp_lens (x := x) (y := y) (by rw [← hna, ← hnb]; exact hne)
    rw [← hna, ← hnb] at hcm
    have HCM := Lib.hid hcm
    clear ha hb hna hnb hcm hne
    go_enter Tryd.func44, Tryd.ntmps44
    go_wp2_with fail
    refine (Tryd.cmp_Compare_int _ _ _).mono ?_
    rintro e w' ⟨rfl, rfl⟩
    go_wp2
    go_ret
    exact ⟨ret_int HCM.out, 0, rfl⟩
end Go.Proofs.YtibhfcnjmilepaaDoor

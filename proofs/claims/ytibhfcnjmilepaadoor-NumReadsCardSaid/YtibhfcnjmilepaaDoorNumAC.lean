import Derived.Test.YtibhfcnjmilepaaDoorNumAB
import Derived.IntWalk
namespace Go.Proofs.YtibhfcnjmilepaaDoor
open Go.RowKit

theorem last_two {l : List Nat} (m s f : Nat) (dl : List Nat) (hl : l = dl ++ [s, f]) (hm : m = dl.length) : l.getD m 0 = s ∧ l.getD (m + 1) 0 = f ∧ l.length = m + 2 ∧ valB l = (f * bigB + s) * bigB ^ m + valB dl := by
  subst hl; subst hm
  refine ⟨by simp, by simp, by simp, ?_⟩
  rw [valB_app]
  simp only [valB, Nat.mul_zero, Nat.add_zero]
  rw [Nat.mul_comm bigB f, Nat.add_comm s, Nat.mul_comm (bigB ^ _), Nat.add_comm]
theorem last_three {l : List Nat} (m u0 u1 u2 : Nat) (dl : List Nat) (hl : l = dl ++ [u0, u1, u2]) (hm : m = dl.length) : l.getD m 0 = u0 ∧ l.getD (m + 1) 0 = u1 ∧ l.getD (m + 2) 0 = u2 ∧ l.length = m + 3 ∧ valB l = ((u2 * bigB + u1) * bigB + u0) * bigB ^ m + valB dl := by
  subst hl; subst hm
  refine ⟨by simp, by simp, by simp, by simp, ?_⟩
  rw [valB_app]
  simp only [valB, Nat.mul_zero, Nat.add_zero]
  generalize bigB = b
  grind
theorem guess_round {q f r top : Nat} (h : q * f + r = top) (hq : 0 < q) : (q - 1) * f + (r + f) = top := by
  obtain ⟨p, rfl⟩ : ∃ p, q = p + 1 := ⟨q - 1, by omega⟩
  rw [Nat.succ_mul] at h
  rw [Nat.add_sub_cancel]
  omega
def GuessPost (x v : Nat) (w : World) (e : Ending) (w' : World) : Prop := ∃ q, e = .returned (.int .u32 (q : Nat)) ∧ x / v ≤ q ∧ q ≤ x / v + 1 ∧ q ≤ bigB ∧ 0 < v ∧ ∃ k, w' = w.drewN k

set_option maxRecDepth 100000 in
set_option maxHeartbeats 4000000 in
theorem pguess_any (m s f u0 u1 u2 : Nat) (dl xl X D : List Nat) (hD : D = dl ++ [s, f]) (hX : X = xl ++ [u0, u1, u2]) (hm : m = dl.length) (hm2 : m = xl.length) (hm6 : m ≤ 1000000) (hoD : okB D) (hoX : okB X) (hf : bigB ≤ 2 * f) (hlt : valB X < bigB * valB D)
    (vx vd : Value) (w : World) (hx : U32s w vx X) (hd : U32s w vd D) :
    Calls Tryd.prog 74 #[vx, vd] w (GuessPost (valB X) (valB D) w) := by
  obtain ⟨d0, d1, dn, dv⟩ := last_two m s f dl hD hm
  obtain ⟨x0, x1, x2, xn, xv⟩ := last_three m u0 u1 u2 xl hX hm2
  obtain ⟨px, cx, rfl⟩ := hx.val
  obtain ⟨pd, cd, rfl⟩ := hd.val
  have sB : s < bigB := by rw [← d0]; exact okB_getD hoD _
  have fB : f < bigB := by rw [← d1]; exact okB_getD hoD _
  have u0B : u0 < bigB := by rw [← x0]; exact okB_getD hoX _
  have u1B : u1 < bigB := by rw [← x1]; exact okB_getD hoX _
  have u2B : u2 < bigB := by rw [← x2]; exact okB_getD hoX _
  obtain ⟨bx, ox, rfl, hbx, c0⟩ := hx.at (show m < _ by omega)
  have c1 : w.cell? ⟨bx, ox + (m + 1), none⟩ = some (u32V (X.getD (m + 1) 0)) := by obtain ⟨b, o, e, _, h⟩ := hx.at (show m + 1 < _ by omega); cases e; exact h
  have c2 : w.cell? ⟨bx, ox + (m + 2), none⟩ = some (u32V (X.getD (m + 2) 0)) := by obtain ⟨b, o, e, _, h⟩ := hx.at (show m + 2 < _ by omega); cases e; exact h
  obtain ⟨bd, od, rfl, hbd, e0⟩ := hd.at (show m < _ by omega)
  have e1 : w.cell? ⟨bd, od + (m + 1), none⟩ = some (u32V (D.getD (m + 1) 0)) := by obtain ⟨b, o, e, _, h⟩ := hd.at (show m + 1 < _ by omega); cases e; exact h
  rw [x0] at c0; rw [x1] at c1; rw [x2] at c2; rw [d0] at e0; rw [d1] at e1
  unfold u32V at c0 c1 c2 e0 e1
  have hW : 0 < bigB ^ m := Nat.pow_pos bigB_pos
  have hxl : valB xl < bigB ^ m := by rw [hm2]; exact valB_lt _ (by rw [hX] at hoX; exact okB_left hoX)
  have hdl : valB dl < bigB ^ m := by rw [hm]; exact valB_lt _ (by rw [hD] at hoD; exact okB_left hoD)
  have hv2 : bigB * bigB ≤ 2 * (f * bigB + s) := by
    have : bigB * bigB ≤ 2 * f * bigB := Nat.mul_le_mul_right _ hf
    rw [Nat.mul_assoc] at this
    omega
  rw [xv, dv] at hlt ⊢
  have near := guess_near hdl hxl hv2 hlt
  obtain ⟨n, hn⟩ : ∃ n, n = m + 2 := ⟨_, rfl⟩
  obtain ⟨n1, hn1⟩ : ∃ n, n = m + 1 := ⟨_, rfl⟩
  obtain ⟨nx, hnx⟩ : ∃ n, n = m + 3 := ⟨_, rfl⟩
  rw [xn, dn, ← hn, ← hnx]
  rw [← hn] at c2
  rw [← hn1] at c1 e1
  have htop : u2 * bigB + u1 < bigB * (f + 1) := by
    have h1 : ((u2 * bigB + u1) * bigB + u0) * bigB ^ m < bigB * ((f * bigB + s) + 1) * bigB ^ m := by
      have h0 : bigB * ((f * bigB + s) * bigB ^ m + valB dl) ≤ bigB * (((f * bigB + s) + 1) * bigB ^ m) := Nat.mul_le_mul_left _ (by rw [Nat.succ_mul]; omega)
      rw [← Nat.mul_assoc] at h0
      omega
    have h2 := mul_lt_cancel h1
    have h3 : (f * bigB + s) + 1 ≤ bigB * (f + 1) := by rw [Nat.mul_add, Nat.mul_comm bigB f]; omega
    have h4 : bigB * ((f * bigB + s) + 1) ≤ bigB * (bigB * (f + 1)) := Nat.mul_le_mul_left _ h3
    have h5 : (u2 * bigB + u1) * bigB < bigB * (f + 1) * bigB := by rw [Nat.mul_comm (bigB * (f + 1))]; omega
    exact mul_lt_cancel h5
  obtain ⟨top, htopd⟩ : ∃ top, top = u2 * bigB + u1 := ⟨_, rfl⟩
  rw [← htopd] at htop near ⊢
  have st := guess_start fB hf htop sB u0B
  have hv0 : 0 < f * bigB + s := by
    have := Nat.mul_pos (show 0 < f by have := bigB_eq; omega) bigB_pos
    omega
  have topB : top < bigB * bigB := by
    rw [htopd]
    have : (u2 + 1) * bigB ≤ bigB * bigB := Nat.mul_le_mul_right _ u2B
    rw [Nat.succ_mul] at this
    omega
  obtain ⟨XV, hXV⟩ : ∃ XV, XV = (top * bigB + u0) * bigB ^ m + valB xl := ⟨_, rfl⟩
  obtain ⟨DV, hDV⟩ : ∃ DV, DV = (f * bigB + s) * bigB ^ m + valB dl := ⟨_, rfl⟩
  rw [← hXV, ← hDV] at near ⊢
  have STN := Lib.hid near
  have HST := Lib.hid st
  have HV0 := Lib.hid hv0
  have HSB := Lib.hid sB
  have HTOP := Lib.hid topB
  have HTD := Lib.hid htopd
  have f0 : (0 : Int) < f := by have := bigB_eq; omega
  have fI : (f : Int) < 1000000000 := by have := bigB_eq; omega
  have s0 : (0 : Int) ≤ s := Int.natCast_nonneg _
  have sI : (s : Int) < 1000000000 := by have := bigB_eq; omega
  have u00 : (0 : Int) ≤ u0 := Int.natCast_nonneg _
  have u0I : (u0 : Int) < 1000000000 := by have := bigB_eq; omega
  have u10 : (0 : Int) ≤ u1 := Int.natCast_nonneg _
  have u1I : (u1 : Int) < 1000000000 := by have := bigB_eq; omega
  have u20 : (0 : Int) ≤ u2 := Int.natCast_nonneg _
  have u2I : (u2 : Int) < 1000000000 := by have := bigB_eq; omega
  have m0 : (0 : Int) ≤ m := Int.natCast_nonneg _
  have m1 : (m : Int) ≤ 1000000 := by omega
  have wn1 : IntKind.i64.wrap ((n : Int) - 1) = (n1 : Int) := by rw [IntWalk.i64_in _ (by omega)]; omega
  have wn2 : IntKind.i64.wrap ((n : Int) - 2) = (m : Int) := by rw [IntWalk.i64_in _ (by omega)]; omega
  have k1 : (0 : Int) ≤ n1 := by omega
  have k2 : (n1 : Int) < n := by omega
  have k3 : (m : Int) < n := by omega
  have k4 : (n : Int) < nx := by omega
  have k5 : (n1 : Int) < nx := by omega
  have k6 : (m : Int) < nx := by omega
  have k7 : (0 : Int) ≤ n := by omega
  clear d0 d1 dn dv x0 x1 x2 xn xv sB fB u0B u1B u2B hW hxl hdl hv2 hlt near st hv0 topB htopd htop hf hoD hoX hD hX hm hm2 hx hd hn hn1 hnx hXV hDV
  go_enter Tryd.func74, Tryd.ntmps74
  go_wp2_with fail
  go_quiet (fail)
  obtain ⟨wq, hwq⟩ : ∃ wq, wq = w.drewN nq := ⟨_, rfl⟩
  rw [← hwq]
  have c0' : wq.cell? ⟨bx, ox + m, none⟩ = some (.int .u32 u0) := by rw [hwq]; exact c0
  have c1' : wq.cell? ⟨bx, ox + n1, none⟩ = some (.int .u32 u1) := by rw [hwq]; exact c1
  have c2' : wq.cell? ⟨bx, ox + n, none⟩ = some (.int .u32 u2) := by rw [hwq]; exact c2
  have HWQ : Hid (∃ Q, wq = w.drewN Q) := ⟨_, hwq⟩
  obtain ⟨t1, ht1⟩ : ∃ t1, t1 = u2 * bigB := ⟨_, rfl⟩
  have hB := bigB_eq
  have wt1 : IntKind.u64.wrap ((u2 : Int) * 1000000000) = (t1 : Int) := by rw [IntWalk.u64_in _ (by omega), ht1, hB]; omega
  have wt2 : IntKind.u64.wrap ((t1 : Int) + u1) = (top : Int) := by rw [IntWalk.u64_in _ (by rw [ht1, hB]; omega), HTD.out, ht1]; omega
  clear c0 c1 c2 e0 e1 hwq ht1 hB
  go_wp2_with fail
  go_quiet (fail)
  obtain ⟨wy, hwy⟩ : ∃ wy, wy = wq.drewN nq := ⟨_, rfl⟩
  rw [← hwy]
  have c0 : wy.cell? ⟨bx, ox + m, none⟩ = some (.int .u32 u0) := by rw [hwy]; exact c0'
  have HWY : Hid (∃ Q, wy = w.drewN Q) := by
    obtain ⟨Q, h⟩ := HWQ.out
    exact ⟨Q + nq, by rw [hwy, h, World.drewN_drewN]⟩
  obtain ⟨q0, hq0⟩ : ∃ q, q = top / f := ⟨_, rfl⟩
  obtain ⟨r0, hr0⟩ : ∃ r, r = top % f := ⟨_, rfl⟩
  have htI : (top : Int) < 1000000000000000000 := by have := HTOP.out; rw [bigB_eq] at this; omega
  have ht0 : (0 : Int) ≤ top := Int.natCast_nonneg _
  have wq0 : IntKind.u64.wrap ((top : Int) / f) = (q0 : Int) := by
    have e : (top : Int) / f = (q0 : Int) := by rw [hq0]; rfl
    have hle : q0 ≤ top := by rw [hq0]; exact Nat.div_le_self _ _
    rw [e, IntWalk.u64_in _ (by omega)]
  have wr0 : (top : Int).tmod f = (r0 : Int) := by rw [IntWalk.rem_in _ _ ht0, hr0]; rfl
  have hf0 : ((f : Int) == 0) = false := by rw [beq_eq_false_iff_ne]; omega
  have HQ0 := Lib.hid hq0
  have HR0 := Lib.hid hr0
  clear c0' c1' c2' hwy wt1 wt2 HWQ hq0 hr0
  go_wp2_with fail
  go_quiet (fail)
  obtain ⟨wz, hwz⟩ : ∃ wz, wz = wy.drewN nq := ⟨_, rfl⟩
  rw [← hwz]
  have c1 : wz.cell? ⟨bx, ox + m, none⟩ = some (.int .u32 u0) := by rw [hwz]; exact c0
  have HWZ : Hid (∃ Q, wz = w.drewN Q) := by
    obtain ⟨Q, h⟩ := HWY.out
    exact ⟨Q + nq, by rw [hwz, h, World.drewN_drewN]⟩
  obtain ⟨V2, hV2⟩ : ∃ V2, V2 = f * bigB + s := ⟨_, rfl⟩
  obtain ⟨U3, hU3⟩ : ∃ U3, U3 = top * bigB + u0 := ⟨_, rfl⟩
  rw [← hV2, ← hU3] at STN HST
  rw [← hV2] at HV0
  have HV2 := Lib.hid hV2
  have HU3 := Lib.hid hU3
  clear c0 hwz wq0 wr0 hf0 HWY wn1 hV2 hU3
  go_wp2
  go_loopw [9, 10] (fun a b wr => ∃ q r : Nat, a = .int .u64 q ∧ b = .int .u64 r ∧ Hid (q * f + r = top) ∧ Hid (q ≤ bigB + 1) ∧ Hid (U3 / V2 ≤ q) ∧ (r : Int) < 2000000000 ∧ wr = wz) (fun a _ _ => (intOf a).toNat)
  case atStart => exact ⟨q0, r0, rfl, rfl, Lib.hid (by rw [HQ0.out, HR0.out]; exact HST.out.1), Lib.hid (by rw [HQ0.out]; exact HST.out.2.1), Lib.hid (by rw [HQ0.out]; exact HST.out.2.2.1), by have := HST.out.2.2.2; rw [← HR0.out, bigB_eq] at this; omega, rfl⟩
  case round =>
    obtain ⟨q, r, rfl, rfl, HT, HQ, HL, hr2, rfl⟩ := hrel
    have q00 : (0 : Int) ≤ q := Int.natCast_nonneg _
    have r00 : (0 : Int) ≤ r := Int.natCast_nonneg _
    have qI : (q : Int) ≤ 1000000001 := by have := HQ.out; rw [bigB_eq] at this; omega
    have hqs : (q : Int) * s ≤ 1000000001000000001 ∧ (0 : Int) ≤ (q : Int) * s := by
      have h1 : q * s ≤ 1000000001 * 1000000000 := Nat.mul_le_mul (by omega) (by omega)
      have h2 : ((q * s : Nat) : Int) = (q : Int) * s := Int.natCast_mul q s
      omega
    obtain ⟨hqs1, hqs2⟩ := hqs
    have htest := guess_test (second := s) (u := u0) HT.out
    rw [← HV2.out, ← HU3.out] at htest
    have HTEST := Lib.hid htest
    clear htest
    by_cases hrB : (r : Int) < 1000000000
    · by_cases hgo : (r : Int) * 1000000000 + u0 < (q : Int) * s
      · have hgt : U3 < q * V2 := by rw [← HTEST.out, bigB_eq]; omega
        have hls := guess_less HV0.out hgt
        have HLS := Lib.hid hls.1
        have hq1 : (1 : Int) ≤ q := by have := hls.2; omega
        clear hgt hls
        go_wp2
        go_roundw
        case rel => exact ⟨q - 1, r + f, by congr 1; omega, by congr 1, Lib.hid (guess_round HT.out (by omega)), Lib.hid (by have := HQ.out; omega), HLS, by omega, trivial⟩
        case measure => simp [intOf]; omega
      · have hnt : ¬ U3 < q * V2 := by rw [← HTEST.out, bigB_eq]; omega
        have hdn := guess_done HV0.out hnt HL.out
        have HDN := Lib.hid hdn
        clear hnt hdn
        go_wp2
        go_ret
        exact ⟨q, rfl, by rw [HDN.out]; exact STN.out.1, by rw [HDN.out]; exact STN.out.2.1, by rw [HDN.out]; exact STN.out.2.2.1, STN.out.2.2.2, HWZ.out⟩
    · have hnt : ¬ U3 < q * V2 := by rw [← HTEST.out]; exact guess_far HQ.out HSB.out (by rw [bigB_eq]; omega)
      have hdn := guess_done HV0.out hnt HL.out
      have HDN := Lib.hid hdn
      clear hnt hdn
      go_wp2
      go_ret
      exact ⟨q, rfl, by rw [HDN.out]; exact STN.out.1, by rw [HDN.out]; exact STN.out.2.1, by rw [HDN.out]; exact STN.out.2.2.1, STN.out.2.2.2, HWZ.out⟩
end Go.Proofs.YtibhfcnjmilepaaDoor

import Derived.Test.YtibhfcnjmilepaaDoorNumG
namespace Go.Proofs.YtibhfcnjmilepaaDoor
open Go.RowKit

theorem sg_mul (b c : Bool) (X Y : Nat) : sg (b != c) (X * Y) = sg b X * sg c Y := by
  unfold sg
  cases b <;> cases c <;> simp [Int.neg_mul, Int.mul_neg]
theorem decS_0 : decS 0 = ⟨#[48]⟩ := by unfold decS; rw [decN_small (by omega)]; rfl
theorem pre_step (Y lb k : Nat) (hk : k < lb) : Y / 10 ^ (lb - (k + 1)) = 10 * (Y / 10 ^ (lb - k)) + dgt Y (lb - 1 - k) := by
  obtain ⟨e, he⟩ : ∃ e, e = lb - 1 - k := ⟨_, rfl⟩
  rw [show lb - (k + 1) = e by omega, show lb - k = e + 1 by omega, ← he, Nat.pow_succ, ← Nat.div_div_eq_div_mul]
  unfold dgt
  omega
theorem pre_le (Y lb k : Nat) : Y / 10 ^ (lb - k) ≤ Y := Nat.div_le_self _ _
theorem trim_ten (V : Nat) (hV : (decN V).length ≤ 10000) (w : World) :
    Calls Tryd.prog 50 #[.string (decS V ++ ⟨#[48]⟩)] w fun e w' => e = .returned (.string (decS (10 * V))) ∧ w = w' := by
  have e : (decS V ++ ⟨#[48]⟩ : ByteArray).data.toList = decN V ++ [48] := by
    rw [ByteArray.data_append]; simp [decS]
  have hd : allD (decS V ++ ⟨#[48]⟩ : ByteArray).data.toList := by
    rw [e]; intro c hc
    rcases List.mem_append.1 hc with hc | hc
    · exact dec_allD V c hc
    · simp at hc; subst hc; decide
  have T := trim_any (decS V ++ ⟨#[48]⟩) (by rw [← ba_len, e]; simp; omega) w
  rw [trim_dec hd, e, val_snoc, val_dec] at T
  exact T

/-- the outer loop of a product -/
def MulRel (X Y lb : Nat) (W : World) (o i : Value) (wr : World) : Prop :=
  ∃ (k : Nat), k ≤ lb ∧ i = .int .i64 k ∧ o = .string (decS (X * (Y / 10 ^ (lb - k)))) ∧ Hid (Below W.heap.size W wr)
/-- the inner loop -/
def MulIn (X T : Nat) (W : World) (o n : Value) (wr : World) : Prop :=
  ∃ (c U : Nat), c ≤ 9 ∧ n = .int .i64 c ∧ o = .string (decS U) ∧ Hid (U + c * X = T) ∧ Hid (Below W.heap.size W wr)

set_option maxRecDepth 100000 in
set_option maxHeartbeats 4000000 in
theorem mul_any (b c : Bool) (X Y : Nat) (hX : (decN X).length ≤ 4000) (hY : (decN Y).length ≤ 4000) (hXY : (decN (X * Y)).length ≤ 4000) (w : World) :
    Calls Tryd.prog 30 #[smV b X, smV c Y] w fun e w' => e = .returned (intV (sg b X * sg c Y)) ∧ Below w.heap.size w w' := by
  have M := fun w => made_dec (b != c) (X * Y) (by omega) w
  rw [sg_mul] at M
  obtain ⟨z, hz⟩ : ∃ z, z = sg b X * sg c Y := ⟨_, rfl⟩
  rw [← hz] at M ⊢
  obtain ⟨P, hP⟩ : ∃ P, P = decS X := ⟨_, rfl⟩
  obtain ⟨Q, hQ⟩ : ∃ Q, Q = decS Y := ⟨_, rfl⟩
  obtain ⟨zb, hzb⟩ : ∃ zb, zb = decide (z < 0) := ⟨_, rfl⟩
  obtain ⟨zs, hzs⟩ : ∃ zs, zs = decS z.natAbs := ⟨_, rfl⟩
  have D := fun (i : Nat) (hi : i ≤ 100000) w => digit_any Q i (by rw [hQ]; exact decS_allD Y) (by rw [hQ, decS_size]; omega) hi w
  have eQ : valL Q.data.toList = Y := by rw [hQ, decS_data, val_dec]
  rw [eQ] at D
  have SM := fun (U : Nat) (hU : U ≤ X * Y) w => sum_dec U X (by have := dec_len_mono hXY hU; omega) (by omega) w
  rw [← hP] at SM
  have hq : Q.size = (decN Y).length := by rw [hQ, decS_size]
  have TT := fun (V : Nat) (hV : V ≤ X * Y) w => trim_ten V (by have := dec_len_mono hXY hV; omega) w
  unfold intV smV at M ⊢
  rw [← hzb, ← hzs] at M
  rw [← hP, ← hQ, ← hzb, ← hzs]
  have hq4 : Q.size ≤ 4000 := by omega
  have HQY : Hid (Y < 10 ^ Q.size) := by
    have := val_lt _ (dec_allD Y)
    rw [val_dec, ← hq] at this
    exact this
  have HXL := Lib.hid hXY
  have HM := Lib.hid M
  have HD := Lib.hid D
  have HS := Lib.hid SM
  have HT := Lib.hid TT
  clear M D SM TT hz hP hQ hzb hzs eQ hq hX hY hXY
  go_enter Tryd.func30, Tryd.ntmps30
  go_wp2
  obtain ⟨W, hW⟩ : ∃ W, W = ((w.alloc (.cells #[.bool b, .string P] 30)).alloc (.cells #[.bool c, .string Q] 30)).alloc (.cells #[.bool false, .string ⟨#[]⟩] 30) := ⟨_, rfl⟩
  rw [← hW]
  have q0 : W.heap[w.heap.size]? = some (.cells #[.bool b, .string P] 30 (0, 0)) := by rw [hW]; exact alloc_past (alloc_past (alloc_at (by simp)) (by simp)) (by simp; omega)
  have q1 : W.heap[w.heap.size + 1]? = some (.cells #[.bool c, .string Q] 30 (0, 0)) := by rw [hW]; exact alloc_past (alloc_at (by simp)) (by simp)
  have q2 : W.heap[w.heap.size + 1 + 1]? = some (.cells #[.bool false, .string ⟨#[]⟩] 30 (0, 0)) := by rw [hW]; exact alloc_at (by simp)
  have hz : w.heap.size + 1 + 1 < W.heap.size := by rw [hW]; simp
  have hBel : Below w.heap.size w W := by rw [hW]; exact (((Below.refl _ _).alloc (Nat.le_refl _) _).alloc (by simp) _).alloc (by simp; omega) _
  have HB := Lib.hid hBel
  have Q0 := Lib.hid q0
  have Q1 := Lib.hid q1
  have Q2 := Lib.hid q2
  clear hW q0 q1 q2 hBel
  go_loopw [5, 6] (fun o i wr => MulRel X Y Q.size W o i wr) (fun _ i _ => Q.size - (intOf i).toNat)
  case atStart => exact ⟨0, by omega, rfl, by rw [Nat.sub_zero, Nat.div_eq_of_lt HQY.out, Nat.mul_zero, decS_0], Lib.hid (Below.refl _ _)⟩
  case round =>
    obtain ⟨k, hk, rfl, rfl, HBW⟩ := hrel
    have k0 : (0 : Int) ≤ k := Int.natCast_nonneg _
    have hbz := HBW.out.size
    have d0 : wr.cell? ⟨w.heap.size + 1, 1, none⟩ = some (.string Q) := (HBW.out.cell (p := ⟨w.heap.size + 1, 1, none⟩) (show w.heap.size + 1 < W.heap.size by omega)).trans (Lib.cell_of_heap Q1.out 1)
    by_cases hgo : k < Q.size
    · have h1 : (k : Int) < Q.size := by omega
      have hpre := pre_step Y Q.size k hgo
      obtain ⟨V, hV⟩ : ∃ V, V = X * (Y / 10 ^ (Q.size - k)) := ⟨_, rfl⟩
      rw [← hV]
      have hVle : V ≤ X * Y := by rw [hV]; exact Nat.mul_le_mul_left _ (pre_le _ _ _)
      obtain ⟨d, hd⟩ : ∃ d, d = dgt Y (Q.size - 1 - k) := ⟨_, rfl⟩
      have hd9 : d < 10 := hd ▸ dgt_lt _ _
      obtain ⟨j, hj⟩ : ∃ j, j = Q.size - 1 - k := ⟨_, rfl⟩
      have hji : ((Q.size : Int) - 1 - k) = (j : Int) := by omega
      have T1 := HT.out V hVle wr
      have C1 := HD.out j (by omega) wr
      rw [← hd] at hpre
      rw [hj, ← hd, ← hj] at C1
      have hT : X * (Y / 10 ^ (Q.size - (k + 1))) = 10 * V + d * X := by rw [hpre, hV, Nat.mul_add, Nat.mul_left_comm, Nat.mul_comm d]
      have hTle : 10 * V + d * X ≤ X * Y := by rw [← hT]; exact Nat.mul_le_mul_left _ (pre_le _ _ _)
      obtain ⟨T, hTT⟩ : ∃ T, T = 10 * V + d * X := ⟨_, rfl⟩
      rw [← hTT] at hT hTle
      obtain ⟨S, hS⟩ : ∃ S, S = decS V := ⟨_, rfl⟩
      obtain ⟨S2, hS2⟩ : ∃ S2, S2 = decS (10 * V) := ⟨_, rfl⟩
      have hSs : S.size ≤ 10000 := by
        have h := decS_size V
        rw [← hS] at h
        have := dec_len_mono HXL.out hVle
        omega
      rw [← hS, ← hS2] at T1
      rw [← hS]
      have HT1 := Lib.hid T1
      have HC1 := Lib.hid C1
      have HTT := Lib.hid hTT
      have HTX := Lib.hid hT
      have HTL := Lib.hid hTle
      have HS2 := Lib.hid hS2
      have HJI := Lib.hid hji
      clear T1 C1 hd hj hpre hV hTT hT hTle hS hS2
      go_wp2_with fail
      refine HT1.out.mono ?_
      rintro e w' ⟨rfl, rfl⟩
      go_wp2_with fail
      refine HC1.out.mono ?_
      rintro e w' ⟨rfl, rfl⟩
      go_wp2
      obtain ⟨wo, rfl⟩ : ∃ wo : World, wo = wr := ⟨_, rfl⟩
      go_loopw [5, 7] (fun o n wr => MulIn X T W o n wr) (fun _ n _ => (intOf n).toNat)
      case atStart => exact ⟨d, 10 * V, by omega, rfl, by rw [HS2.out], Lib.hid HTT.out.symm, HBW⟩
      case round =>
        obtain ⟨n, U, hn, rfl, rfl, HU, HBW2⟩ := hrel
        have n0 : (0 : Int) ≤ n := Int.natCast_nonneg _
        have hbz2 := HBW2.out.size
        have hUT := HU.out
        by_cases hn0 : n = 0
        · have hn1 : ¬ (0 : Int) < n := by omega
          have hUe : decS U = decS (X * (Y / 10 ^ (Q.size - (k + 1)))) := by rw [HTX.out, ← hUT, hn0]; simp
          rw [hUe]
          obtain ⟨S3, hS3⟩ : ∃ S3, S3 = decS (X * (Y / 10 ^ (Q.size - (k + 1)))) := ⟨_, rfl⟩
          rw [← hS3]
          have HS3 := Lib.hid hS3
          clear hUe hUT hn0 hS3
          go_wp2
          exact ⟨⟨k + 1, by omega, by go_num, by rw [HS3.out], HBW2⟩, by simp [intOf]; omega⟩
        · have hn1 : (0 : Int) < n := by omega
          have e0 : wr.cell? ⟨w.heap.size, 1, none⟩ = some (.string P) := (HBW2.out.cell (p := ⟨w.heap.size, 1, none⟩) (show w.heap.size < W.heap.size by omega)).trans (Lib.cell_of_heap Q0.out 1)
          have S1 := HS.out U (by have := HTL.out; omega) wr
          have hU2 : (U + X) + (n - 1) * X = T := by
            obtain ⟨p, rfl⟩ : ∃ p, n = p + 1 := ⟨n - 1, by omega⟩
            rw [Nat.add_mul] at hUT
            rw [Nat.add_sub_cancel]
            omega
          obtain ⟨S3, hS3⟩ : ∃ S3, S3 = decS U := ⟨_, rfl⟩
          obtain ⟨S4, hS4⟩ : ∃ S4, S4 = decS (U + X) := ⟨_, rfl⟩
          rw [← hS3, ← hS4] at S1
          rw [← hS3]
          have HS1 := Lib.hid S1
          have HU2 := Lib.hid hU2
          have HS4 := Lib.hid hS4
          have HN0 := Lib.hid hn0
          clear S1 hU2 hUT hS3 hS4 hn0
          go_wp2_with fail
          refine HS1.out.mono ?_
          rintro e w5 ⟨rfl, hb5⟩
          have HB5 := Lib.hid (HBW2.out.trans (hb5.mono hbz2))
          clear hb5
          go_wp2
          exact ⟨⟨n - 1, U + X, by omega, by congr 1; have := HN0.out; omega, by rw [HS4.out], HU2, HB5⟩, by have := HN0.out; simp [intOf]; omega⟩
    · have h1 : ¬ (k : Int) < Q.size := by omega
      have hke : k = Q.size := by omega
      have hXe : decS (X * (Y / 10 ^ (Q.size - k))) = decS (X * Y) := by rw [hke, Nat.sub_self, Nat.pow_zero, Nat.div_one]
      rw [hXe]
      obtain ⟨S3, hS3⟩ : ∃ S3, S3 = decS (X * Y) := ⟨_, rfl⟩
      have M1 := HM.out wr
      rw [← hS3] at M1 ⊢
      have HM1 := Lib.hid M1
      have e0 : wr.cell? ⟨w.heap.size, 0, none⟩ = some (.bool b) := (HBW.out.cell (p := ⟨w.heap.size, 0, none⟩) (show w.heap.size < W.heap.size by omega)).trans (Lib.cell_of_heap Q0.out 0)
      have e1 : wr.cell? ⟨w.heap.size + 1, 0, none⟩ = some (.bool c) := (HBW.out.cell (p := ⟨w.heap.size + 1, 0, none⟩) (show w.heap.size + 1 < W.heap.size by omega)).trans (Lib.cell_of_heap Q1.out 0)
      clear M1 hXe hS3 hke hgo
      go_wp2_with fail
      refine HM1.out.mono ?_
      rintro e w6 ⟨rfl, hb6⟩
      have HB6 := Lib.hid (HB.out.trans ((HBW.out.trans (hb6.mono hbz)).mono (show w.heap.size ≤ W.heap.size by omega)))
      have q6 := (hb6.block (w.heap.size + 1 + 1) (show w.heap.size + 1 + 1 < wr.heap.size by omega)).trans ((HBW.out.block (w.heap.size + 1 + 1) hz).trans Q2.out)
      have z0 : w6.cell? ⟨w.heap.size + 1 + 1, 0, none⟩ = some (.bool false) := Lib.cell_of_heap q6 0
      have z1 : w6.cell? ⟨w.heap.size + 1 + 1, 1, none⟩ = some (.string ⟨#[]⟩) := Lib.cell_of_heap q6 1
      have f0 : w6.frozen? ⟨w.heap.size + 1 + 1, 0, none⟩ = false := Lib.frozen_of_heap q6 0
      have f1 : w6.frozen? ⟨w.heap.size + 1 + 1, 1, none⟩ = false := Lib.frozen_of_heap q6 1
      clear hb6 q6
      go_wp2
      exact bodyPost_ret (v := .agg #[.bool zb, .string zs]) (by simp [results, Tryd.results30, go_sem, z0, z1]) rfl ⟨rfl, (HB6.out.setCell (p := ⟨w.heap.size + 1 + 1, 0, none⟩) (show w.heap.size ≤ w.heap.size + 1 + 1 by omega) _).setCell (p := ⟨w.heap.size + 1 + 1, 1, none⟩) (show w.heap.size ≤ w.heap.size + 1 + 1 by omega) _⟩
end Go.Proofs.YtibhfcnjmilepaaDoor

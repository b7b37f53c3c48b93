import Derived.Test.YtibhfcnjmilepaaDoorNumK
namespace Go.Proofs.YtibhfcnjmilepaaDoor
open Go.RowKit

def lowZ : Int := -2305843009213693952
def highZ : Int := 2305843009213693951
def lowS : ByteArray := ⟨#[45, 50, 51, 48, 53, 56, 52, 51, 48, 48, 57, 50, 49, 51, 54, 57, 51, 57, 53, 50]⟩
def highS : ByteArray := ⟨#[50, 51, 48, 53, 56, 52, 51, 48, 48, 57, 50, 49, 51, 54, 57, 51, 57, 53, 49]⟩
theorem low_read : readZ lowS.data.toList = some lowZ := by kernel_rfl
theorem high_read : readZ highS.data.toList = some highZ := by kernel_rfl
theorem low_len : (decN lowZ.natAbs).length ≤ 5000 := Nat.le_trans ((dec_len (k := 19) (by omega)).2 (Nat.lt_of_lt_of_eq (show (2305843009213693952 : Nat) < 10000000000000000000 by omega) rfl)) (by omega)
theorem high_len : (decN highZ.natAbs).length ≤ 5000 := Nat.le_trans ((dec_len (k := 19) (by omega)).2 (Nat.lt_of_lt_of_eq (show (2305843009213693951 : Nat) < 10000000000000000000 by omega) rfl)) (by omega)
theorem rread_low (w : World) : Calls Tryd.prog 10 #[.string lowS] w fun e w' => e = .returned (.tuple #[.agg #[.bool true, .string (decS lowZ.natAbs)], .int .i64 0]) ∧ Below w.heap.size w w' := by
  have h := rread_any lowS (by decide) w
  rw [low_read] at h
  exact h
theorem rread_high (w : World) : Calls Tryd.prog 10 #[.string highS] w fun e w' => e = .returned (.tuple #[.agg #[.bool false, .string (decS highZ.natAbs)], .int .i64 0]) ∧ Below w.heap.size w w' := by
  have h := rread_any highS (by decide) w
  rw [high_read] at h
  exact h
theorem cmpZ_neg {x y : Int} (h : x < y) : cmpZ x y = -1 := if_pos h
theorem cmpZ_pos {x y : Int} (h : y < x) : cmpZ x y = 1 := by unfold cmpZ; rw [if_neg (by omega), if_neg (by omega)]
theorem cmpZ_bound (x y : Int) : -1 ≤ cmpZ x y ∧ cmpZ x y ≤ 1 := by unfold cmpZ; split <;> (try split) <;> omega
theorem cmpZ_lt (x y : Int) : cmpZ x y < 0 ↔ x < y := by unfold cmpZ; split <;> (try split) <;> omega
theorem cmpZ_gt (x y : Int) : 0 < cmpZ x y ↔ y < x := by unfold cmpZ; split <;> (try split) <;> omega
/-- may it be a small one? -/
def smallB (z : Int) : Bool := decide (lowZ ≤ z) && decide (z ≤ highZ)
def smallV (z : Int) : Value := .tuple #[.int .i64 (if smallB z then z else 0), .bool (smallB z)]
theorem smallV_no {z : Int} (h : smallB z = false) : smallV z = .tuple #[.int .i64 0, .bool false] := by unfold smallV; rw [h]; rfl
theorem smallV_yes {z : Int} (h : smallB z = true) : smallV z = .tuple #[.int .i64 z, .bool true] := by unfold smallV; rw [h]; rfl

set_option maxRecDepth 100000 in
set_option maxHeartbeats 4000000 in
theorem rsmall_any (z : Int) (hl : (decN z.natAbs).length ≤ 4000) (w : World) :
    Calls Tryd.prog 19 #[intV z] w fun e w' => e = .returned (smallV z) ∧ Below w.heap.size w w' := by
  have C1 := fun w => cmp_any (decide (z < 0)) true z.natAbs lowZ.natAbs (by omega) low_len w
  have C2 := fun w => cmp_any (decide (z < 0)) false z.natAbs highZ.natAbs (by omega) high_len w
  rw [sg_int, show sg true lowZ.natAbs = lowZ from rfl] at C1
  rw [sg_int, show sg false highZ.natAbs = highZ from rfl] at C2
  have R1 := rread_low
  have R2 := rread_high
  obtain ⟨LO, hLO⟩ : ∃ LO, LO = decS lowZ.natAbs := ⟨_, rfl⟩
  obtain ⟨HI, hHI⟩ : ∃ HI, HI = decS highZ.natAbs := ⟨_, rfl⟩
  obtain ⟨D, hD⟩ : ∃ D, D = decS z.natAbs := ⟨_, rfl⟩
  obtain ⟨b, hb⟩ : ∃ b, b = decide (z < 0) := ⟨_, rfl⟩
  obtain ⟨c1, hc1⟩ : ∃ c1, c1 = cmpZ z lowZ := ⟨_, rfl⟩
  obtain ⟨c2, hc2⟩ : ∃ c2, c2 = cmpZ z highZ := ⟨_, rfl⟩
  unfold smV at C1 C2
  rw [← hb, ← hD, ← hLO, ← hc1] at C1
  rw [← hb, ← hD, ← hHI, ← hc2] at C2
  rw [← hLO] at R1
  rw [← hHI] at R2
  unfold intV smV
  rw [← hb, ← hD]
  have g1 := cmpZ_bound z lowZ
  have g2 := cmpZ_bound z highZ
  have g3 := cmpZ_lt z lowZ
  have g4 := cmpZ_gt z highZ
  rw [← hc1] at g1 g3
  rw [← hc2] at g2 g4
  have HC1 := Lib.hid C1
  have HC2 := Lib.hid C2
  have HR1 := Lib.hid R1
  have HR2 := Lib.hid R2
  have HG3 := Lib.hid g3
  have HG4 := Lib.hid g4
  have HDD := Lib.hid hD
  have HBB := Lib.hid hb
  clear C1 C2 R1 R2 hLO hHI hD hb hc1 hc2 g3 g4
  obtain ⟨W, hW⟩ : ∃ W, W = w.alloc (.cells #[.bool b, .string D] 30) := ⟨_, rfl⟩
  have q0 : W.heap[w.heap.size]? = some (.cells #[.bool b, .string D] 30 (0, 0)) := by rw [hW]; exact alloc_at rfl
  have hz : w.heap.size < W.heap.size := by rw [hW]; simp
  have hBel : Below w.heap.size w W := by rw [hW]; exact (Below.refl _ _).alloc (Nat.le_refl _) _
  have HB := Lib.hid hBel
  have Q0 := Lib.hid q0
  have HW := Lib.hid hW
  clear hW q0 hBel
  go_enter Tryd.func19, Tryd.ntmps19
  go_wp2_with fail
  rw [← HW.out]
  refine (HR1.out _).mono ?_
  rintro e w1 ⟨rfl, hb1⟩
  have hbz1 := hb1.size
  have HB1 := Lib.hid (HB.out.trans (hb1.mono (show w.heap.size ≤ W.heap.size by omega)))
  have Q1 := Lib.hid ((hb1.block w.heap.size hz).trans Q0.out)
  clear hb1
  go_wp2_with fail
  refine (HR2.out _).mono ?_
  rintro e w2 ⟨rfl, hb2⟩
  have hbz2 : w1.heap.size < w2.heap.size := by have := hb2.size; simp at this; omega
  have B1 := (Below.refl w1.heap.size w1).alloc (Nat.le_refl _) (.cells #[.bool true, .string LO] 30)
  have HB2 := Lib.hid (HB1.out.trans ((B1.trans (hb2.mono (by simp))).mono (show w.heap.size ≤ w1.heap.size by omega)))
  have ql := (hb2.block w1.heap.size (by simp)).trans (heap_alloc_new w1 (.cells #[.bool true, .string LO] 30))
  have q0 := ((B1.trans (hb2.mono (by simp))).block w.heap.size (show w.heap.size < w1.heap.size by omega)).trans Q1.out
  have k0 : w2.cell? ⟨w.heap.size, 0, none⟩ = some (.bool b) := Lib.cell_of_heap q0 0
  have k1 : w2.cell? ⟨w.heap.size, 1, none⟩ = some (.string D) := Lib.cell_of_heap q0 1
  have l0 : w2.cell? ⟨w1.heap.size, 0, none⟩ = some (.bool true) := Lib.cell_of_heap ql 0
  have l1 : w2.cell? ⟨w1.heap.size, 1, none⟩ = some (.string LO) := Lib.cell_of_heap ql 1
  have hw2 : w.heap.size < w2.heap.size := by omega
  have QK := Lib.hid q0
  clear hb2 B1 ql q0
  go_wp2_with fail
  refine (HC1.out _).mono ?_
  rintro e w3 ⟨rfl, hb3⟩
  have hbz3 : w2.heap.size < w3.heap.size := by have := hb3.size; simp at this; omega
  have B2 := (Below.refl w2.heap.size w2).alloc (Nat.le_refl _) (.cells #[.bool false, .string HI] 30)
  have HB3 := Lib.hid (HB2.out.trans ((B2.trans (hb3.mono (by simp))).mono (show w.heap.size ≤ w2.heap.size by omega)))
  have qh := (hb3.block w2.heap.size (by simp)).trans (heap_alloc_new w2 (.cells #[.bool false, .string HI] 30))
  have q0 := ((B2.trans (hb3.mono (by simp))).block w.heap.size hw2).trans QK.out
  have m0 : w3.cell? ⟨w.heap.size, 0, none⟩ = some (.bool b) := Lib.cell_of_heap q0 0
  have m1 : w3.cell? ⟨w.heap.size, 1, none⟩ = some (.string D) := Lib.cell_of_heap q0 1
  have h0 : w3.cell? ⟨w2.heap.size, 0, none⟩ = some (.bool false) := Lib.cell_of_heap qh 0
  have h1 : w3.cell? ⟨w2.heap.size, 1, none⟩ = some (.string HI) := Lib.cell_of_heap qh 1
  have QM := Lib.hid q0
  clear hb3 B2 qh q0 k0 k1 l0 l1
  by_cases hlow : c1 < 0
  · have HS : Hid (smallV z = .tuple #[.int .i64 0, .bool false]) := Lib.hid (smallV_no (by
      have := HG3.out.1 hlow
      unfold smallB
      rw [decide_eq_false (by omega), Bool.false_and]))
    go_wp2
    go_ret2
    rw [HS.out]
    exact ⟨rfl, HB3.out⟩
  · go_wp2_with fail
    refine (HC2.out _).mono ?_
    rintro e w4 ⟨rfl, hb4⟩
    have HB4 := Lib.hid (HB3.out.trans (hb4.mono (show w.heap.size ≤ w3.heap.size by omega)))
    have q0 := (hb4.block w.heap.size (show w.heap.size < w3.heap.size by omega)).trans QM.out
    have m0 : w4.cell? ⟨w.heap.size, 0, none⟩ = some (.bool b) := Lib.cell_of_heap q0 0
    have m1 : w4.cell? ⟨w.heap.size, 1, none⟩ = some (.string D) := Lib.cell_of_heap q0 1
    clear hb4 q0 h0 h1
    by_cases hhigh : 0 < c2
    · have HS : Hid (smallV z = .tuple #[.int .i64 0, .bool false]) := Lib.hid (smallV_no (by
        have := HG4.out.1 hhigh
        unfold smallB
        rw [decide_eq_false (show ¬ z ≤ highZ by omega), Bool.and_false]))
      go_wp2
      go_ret2
      rw [HS.out]
      exact ⟨rfl, HB4.out⟩
    · have h3 : lowZ ≤ z := by
        have := HG3.out
        omega
      have h4 : z ≤ highZ := by
        have := HG4.out
        omega
      have HS : Hid (smallV z = .tuple #[.int .i64 z, .bool true]) := Lib.hid (smallV_yes (by
        unfold smallB
        rw [decide_eq_true h3, decide_eq_true h4]; rfl))
      have HR : Hid (lowZ ≤ z ∧ z ≤ highZ) := Lib.hid ⟨h3, h4⟩
      clear h3 h4
      go_wp2
      have hzn : z.natAbs ≤ 2305843009213693952 := by
        have := HR.out
        unfold lowZ highZ at this
        omega
      have HZN := Lib.hid hzn
      have hDl : D.size ≤ 4000 := by rw [HDD.out, decS_size]; exact hl
      have HDD2 : Hid (allD D.data.toList) := by rw [HDD.out]; exact decS_allD _
      have HVD : Hid (valL D.data.toList = z.natAbs) := by show _ = _; rw [HDD.out, decS_data, val_dec]
      clear hzn
      go_loop [8, 9] (fun n i => ∃ k : Nat, k ≤ D.size ∧ i = .int .i64 k ∧ n = .int .i64 (valL (D.data.toList.take k))) (fun _ i => D.size - (intOf i).toNat)
      case atStart => exact ⟨0, by omega, rfl, rfl⟩
      case round =>
        obtain ⟨k, hk, rfl, rfl⟩ := hrel
        have k0' : (0 : Int) ≤ k := Int.natCast_nonneg _
        by_cases hgo : k < D.size
        · have hg1 : (k : Int) < D.size := by omega
          obtain ⟨v, hv⟩ : ∃ v, v = valL (D.data.toList.take k) := ⟨_, rfl⟩
          rw [← hv]
          have v0 : (0 : Int) ≤ v := Int.natCast_nonneg _
          obtain ⟨c, hc⟩ : ∃ c : UInt8, c = D[k] := ⟨_, rfl⟩
          have htk : D.data.toList.take (k + 1) = D.data.toList.take k ++ [D[k]] := by rw [List.take_succ_eq_append_getElem (by rw [ba_len]; exact hgo)]; rfl
          have hcd : isD D[k] = true := HDD2.out _ (by
            have : D.data.toList[k]'(by rw [ba_len]; exact hgo) = D[k] := rfl
            rw [← this]; exact List.getElem_mem _)
          have hcn := (isD_nat _).1 hcd
          have hv2 : valL (D.data.toList.take (k + 1)) = 10 * v + (D[k].toNat - 48) := by rw [htk, val_snoc, hv]
          have hle : valL (D.data.toList.take (k + 1)) ≤ 2305843009213693952 := by
            refine Nat.le_trans ?_ (HVD.out ▸ HZN.out)
            conv => rhs; rw [← List.take_append_drop (k + 1) D.data.toList, val_app]
            have := Nat.pow_pos (n := (List.drop (k + 1) D.data.toList).length) (show 0 < 10 by omega)
            exact Nat.le_trans (Nat.le_mul_of_pos_right _ this) (Nat.le_add_right _ _)
          have HF : Hid (Value.int .i64 (wrap64 (wrap64 (10 * (v : Int)) + ((D[k].toNat : Int) - 48) % 256)) = .int .i64 (valL (D.data.toList.take (k + 1)))) := by
            show _ = _
            rw [hv2] at hle ⊢
            congr 1
            rw [IntWalk.wrap64_in (10 * (v : Int)) (by omega), IntWalk.wrap64_in _ (by omega)]
            omega
          have HV := Lib.hid hv
          clear htk hcd hcn hv2 hle hv
          go_wp2
          go_round
          case rel => exact ⟨k + 1, by omega, by go_num, HF.out⟩
          case measure => simp [intOf]; omega
        · have hg1 : ¬ (k : Int) < D.size := by omega
          have hfull : valL (D.data.toList.take k) = z.natAbs := by rw [List.take_of_length_le (by rw [ba_len]; omega), HVD.out]
          rw [hfull]
          have hb2 := HBB.out
          cases hb3 : b with
          | true =>
            rw [hb3] at hb2 m0
            have hneg : z < 0 := of_decide_eq_true hb2.symm
            have HF : Hid (-(z.natAbs : Int) = z) := Lib.hid (by omega)
            obtain ⟨a, ha⟩ : ∃ a, a = z.natAbs := ⟨_, rfl⟩
            have ha2 : (a : Int) ≤ 2305843009213693952 := by have := HZN.out; omega
            have a0 : (0 : Int) ≤ a := Int.natCast_nonneg _
            rw [← ha] at HF ⊢
            clear hb2 hb3 hneg ha hfull hgo
            go_wp2
            go_ret2
            refine ⟨?_, HB4.out⟩
            rw [HS.out, ← HF.out]
            rfl
          | false =>
            rw [hb3] at hb2 m0
            have hpos : ¬ z < 0 := of_decide_eq_false hb2.symm
            have HF : Hid ((z.natAbs : Int) = z) := Lib.hid (by omega)
            obtain ⟨a, ha⟩ : ∃ a, a = z.natAbs := ⟨_, rfl⟩
            rw [← ha] at HF ⊢
            clear hb2 hb3 hpos ha hfull hgo
            go_wp2
            go_ret2
            refine ⟨?_, HB4.out⟩
            rw [HS.out, ← HF.out]
            rfl
end Go.Proofs.YtibhfcnjmilepaaDoor

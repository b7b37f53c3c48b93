import Derived.Test.YtibhfcnjmilepaaDoorNumA
namespace Go.Proofs.YtibhfcnjmilepaaDoor
open Go.RowKit

theorem str_one {n : Nat} (hn : n < 10) : strOfNums [48 + (n : Int)] = ⟨#[dig n]⟩ := by
  have h : n = 0 ∨ n = 1 ∨ n = 2 ∨ n = 3 ∨ n = 4 ∨ n = 5 ∨ n = 6 ∨ n = 7 ∨ n = 8 ∨ n = 9 := by omega
  rcases h with rfl | rfl | rfl | rfl | rfl | rfl | rfl | rfl | rfl | rfl <;> rfl
/-- a digit's byte, as a string -/
theorem conv1 (w : World) (z : Int) (n : Nat) (hz : z = 48 + n) (hn : n < 10) :
    (convert 64 9 (.slice (some ⟨w.heap.size, 0, none⟩) 1 1)).run Tryd.prog (w.alloc (.cells #[.int .u8 z] 5)) = .ok (.string ⟨#[dig n]⟩) (w.alloc (.cells #[.int .u8 z] 5)) := by
  have h := run_convert_bytes_arg (P := Tryd.prog) (w.alloc (.cells #[.int .u8 z] 5)) 64 5 Tryd.underlying64 Tryd.underlying5 w.heap.size 0 1 1 [z] rfl (fun i hi => by
    obtain rfl : i = 0 := by omega
    rw [Lib.cell_of_heap (heap_alloc_new w _)]; rfl) 9 Tryd.underlying9
  rw [h, hz, str_one hn]
/-- a sum of two rows, so far -/
def SumRel (A B L : Nat) (w : World) (o m i : Value) (wr : World) : Prop :=
  ∃ (k M : Nat) (X : List UInt8), k ≤ L + 1 ∧ i = .int .i64 k ∧ m = .int .i64 M ∧ o = .string ⟨X.toArray⟩ ∧ M ≤ 1 ∧ Hid (k = L + 1 → M = 0) ∧ Hid (X.length = k) ∧ Hid (allD X) ∧ Hid (valL X + 10 ^ k * M = A % 10 ^ k + B % 10 ^ k) ∧ Hid (Below w.heap.size w wr)

theorem SumRel.next {A B L x y M k la lb : Nat} {w w' : World} {X : List UInt8} (hkL : k ≤ L) (hL : L = max la lb) (va : A < 10 ^ la) (vb : B < 10 ^ lb) (hx : x = dgt A k) (hy : y = dgt B k) (hM : M ≤ 1) (HX : X.length = k) (HD : allD X) (HV : valL X + 10 ^ k * M = A % 10 ^ k + B % 10 ^ k) (HB : Below w.heap.size w w') :
    SumRel A B L w (.string (⟨#[dig ((x + y + M) % 10)]⟩ ++ ⟨X.toArray⟩)) (.int .i64 (((x : Int) + y + M) / 10)) (.int .i64 ((k : Int) + 1)) w' := by
  have hx9 : x < 10 := hx ▸ dgt_lt A k
  have hy9 : y < 10 := hy ▸ dgt_lt B k
  refine ⟨k + 1, (x + y + M) / 10, dig ((x + y + M) % 10) :: X, by omega, by go_num, by congr 1, ?_, by omega, Lib.hid fun h => ?_, Lib.hid (by simp [HX]), Lib.hid ?_, Lib.hid ?_, Lib.hid HB⟩
  · congr 1
  · have ea : A / 10 ^ k = 0 := Nat.div_eq_of_lt (Nat.lt_of_lt_of_le va (Nat.pow_le_pow_right (by omega) (by omega)))
    have eb : B / 10 ^ k = 0 := Nat.div_eq_of_lt (Nat.lt_of_lt_of_le vb (Nat.pow_le_pow_right (by omega) (by omega)))
    unfold dgt at hx hy
    rw [ea] at hx
    rw [eb] at hy
    omega
  · intro c hc
    rcases List.mem_cons.1 hc with rfl | hc
    · exact dig_isD (Nat.mod_lt _ (by omega))
    · exact HD c hc
  · rw [val_cons, dig_nat (Nat.mod_lt _ (by omega)), HX, Nat.add_sub_cancel_left]
    exact sum_step HV (by rw [hx, hy]; rfl)

set_option maxRecDepth 100000 in
set_option maxHeartbeats 4000000 in
theorem sum_any (a b : ByteArray) (ha : allD a.data.toList) (hb : allD b.data.toList) (hsa : a.size ≤ 10000) (hsb : b.size ≤ 10000) (w : World) :
    Calls Tryd.prog 46 #[.string a, .string b] w fun e w' => e = .returned (.string ⟨(decN (valL a.data.toList + valL b.data.toList)).toArray⟩) ∧ Below w.heap.size w w' := by
  have D1 := fun i (hi : i ≤ 100000) w => digit_any a i ha (by omega) hi w
  have D2 := fun i (hi : i ≤ 100000) w => digit_any b i hb (by omega) hi w
  have va := val_lt _ ha
  have vb := val_lt _ hb
  rw [ba_len] at va vb
  obtain ⟨A, hA⟩ : ∃ A, A = valL a.data.toList := ⟨_, rfl⟩
  obtain ⟨B, hB⟩ : ∃ B, B = valL b.data.toList := ⟨_, rfl⟩
  rw [← hA] at D1 va ⊢
  rw [← hB] at D2 vb ⊢
  obtain ⟨L, hL⟩ : ∃ L, L = max a.size b.size := ⟨_, rfl⟩
  have hLa : a.size ≤ L := by omega
  have hLb : b.size ≤ L := by omega
  have hL1 : L ≤ 10000 := by omega
  have HD1 := Lib.hid D1
  have HD2 := Lib.hid D2
  have VA := Lib.hid va
  have VB := Lib.hid vb
  have HL := Lib.hid hL
  clear D1 D2 va vb hA hB ha hb hL
  go_enter Tryd.func46, Tryd.ntmps46
  go_wp2
  go_loopw [5, 6, 7] (fun o m i wr => SumRel A B L w o m i wr) (fun _ _ i _ => L + 2 - (intOf i).toNat)
  case atStart => exact ⟨0, 0, [], by omega, rfl, rfl, rfl, by omega, Lib.hid (fun _ => rfl), Lib.hid rfl, Lib.hid (fun c hc => by cases hc), Lib.hid (by simp [valL]; omega), Lib.hid (Below.refl _ _)⟩
  case round =>
    obtain ⟨k, M, X, hk, rfl, rfl, rfl, hM, HK, HX, HDX, HV, HBW⟩ := hrel
    have k0 : (0 : Int) ≤ k := Int.natCast_nonneg _
    have m0 : (0 : Int) ≤ M := Int.natCast_nonneg _
    have m1 : (M : Int) ≤ 1 := by omega
    have hXl : X.length ≤ 10001 := by rw [HX.out]; omega
    by_cases hgo : k < a.size ∨ k < b.size ∨ 0 < M
    · have hkL : k ≤ L := by
        rcases Nat.lt_or_ge L k with h | h
        · have : M = 0 := HK.out (by omega)
          omega
        · exact h
      obtain ⟨x, hx⟩ : ∃ x, x = dgt A k := ⟨_, rfl⟩
      obtain ⟨y, hy⟩ : ∃ y, y = dgt B k := ⟨_, rfl⟩
      have C1 := HD1.out k (by omega) wr
      have C2 := HD2.out k (by omega) wr
      rw [← hx] at C1
      rw [← hy] at C2
      have hx9 : (x : Int) < 10 := by have := dgt_lt A k; omega
      have hy9 : (y : Int) < 10 := by have := dgt_lt B k; omega
      have x0 : (0 : Int) ≤ x := Int.natCast_nonneg _
      have y0 : (0 : Int) ≤ y := Int.natCast_nonneg _
      have HX1 := Lib.hid hx
      have HY1 := Lib.hid hy
      have HC1 := Lib.hid C1
      have HC2 := Lib.hid C2
      have hcv := conv1 wr (48 + ((x : Int) + y + M) % 10) ((x + y + M) % 10) (by omega) (by omega)
      clear hx hy C1 C2
      have hways : (k : Int) < a.size ∨ (¬ (k : Int) < a.size ∧ (k : Int) < b.size) ∨ (¬ (k : Int) < a.size ∧ ¬ (k : Int) < b.size ∧ (0 : Int) < M) := by omega
      clear hgo
      have HWY := Lib.hid hways
      rcases hways with h1 | ⟨h1, h2⟩ | ⟨h1, h2, h3⟩
      all_goals
        go_wp2_with fail
        refine HC1.out.mono ?_
        rintro e w' ⟨rfl, rfl⟩
        go_wp2_with fail
        refine HC2.out.mono ?_
        rintro e w' ⟨rfl, rfl⟩
        go_wp2
        exact ⟨SumRel.next hkL HL.out VA.out VB.out HX1.out HY1.out hM HX.out HDX.out HV.out (HBW.out.alloc HBW.out.size _), by simp [intOf]; omega⟩
    · have n1 : ¬ (k : Int) < a.size := by omega
      have n2 : ¬ (k : Int) < b.size := by omega
      have n3 : ¬ (0 : Int) < M := by omega
      have hend : valL X = A + B := by
        have h := HV.out
        have pa := Nat.pow_le_pow_right (n := 10) (by omega) (show a.size ≤ k by omega)
        have pb := Nat.pow_le_pow_right (n := 10) (by omega) (show b.size ≤ k by omega)
        have va := VA.out
        have vb := VB.out
        rw [Nat.mod_eq_of_lt (show A < 10 ^ k by omega), Nat.mod_eq_of_lt (show B < 10 ^ k by omega), show M = 0 by omega, Nat.mul_zero] at h
        omega
      have T := trim_any ⟨X.toArray⟩ (by rw [ba_size]; omega) wr
      rw [ba_mk, trim_dec HDX.out, hend] at T
      have HT := Lib.hid T
      clear T hend hgo
      go_wp2_with fail
      refine HT.out.mono ?_
      rintro e w' ⟨rfl, rfl⟩
      go_wp2
      go_ret
      exact ⟨rfl, HBW.out⟩
end Go.Proofs.YtibhfcnjmilepaaDoor

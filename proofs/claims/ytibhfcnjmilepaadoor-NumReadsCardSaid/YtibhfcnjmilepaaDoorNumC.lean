import Derived.Test.YtibhfcnjmilepaaDoorNumB
namespace Go.Proofs.YtibhfcnjmilepaaDoor
open Go.RowKit

/-- a difference of two rows, so far -/
def LessRel (A B L : Nat) (w : World) (o m i : Value) (wr : World) : Prop :=
  ∃ (k M : Nat) (X : List UInt8), k ≤ L ∧ i = .int .i64 k ∧ m = .int .i64 M ∧ o = .string ⟨X.toArray⟩ ∧ M ≤ 1 ∧ Hid (X.length = k) ∧ Hid (allD X) ∧ Hid (valL X + B % 10 ^ k = A % 10 ^ k + 10 ^ k * M) ∧ Hid (Below w.heap.size w wr)
theorem LessRel.next {A B L x y M k n : Nat} {w w' : World} {X : List UInt8} {s m i : Value} {M' : Nat} (hkL : k < L) (hx : x = dgt A k) (hy : y = dgt B k) (hM : M ≤ 1) (HX : X.length = k) (HD : allD X) (HV : valL X + B % 10 ^ k = A % 10 ^ k + 10 ^ k * M) (HB : Below w.heap.size w w')
    (hn : (0 ≤ (x : Int) - y - M ∧ (n : Int) = x - y - M ∧ M' = 0) ∨ ((x : Int) - y - M < 0 ∧ (n : Int) = x - y - M + 10 ∧ M' = 1)) (hs : s = .string (⟨#[dig n]⟩ ++ ⟨X.toArray⟩)) (hm : m = .int .i64 M') (hi : i = .int .i64 ((k : Int) + 1)) :
    LessRel A B L w s m i w' := by
  subst hs hm hi
  have hx9 : x < 10 := hx ▸ dgt_lt A k
  have hy9 : y < 10 := hy ▸ dgt_lt B k
  have hn9 : n < 10 := by omega
  have hst := less_step (A := A) (B := B) (V := valL X) (M := M) (i := k) hM HV ((x : Int) - y - M) (by rw [hx, hy]; rfl)
  refine ⟨k + 1, M', dig n :: X, by omega, by go_num, rfl, by congr 1, by omega, Lib.hid (by simp [HX]), Lib.hid ?_, Lib.hid ?_, Lib.hid HB⟩
  · intro c hc
    rcases List.mem_cons.1 hc with rfl | hc
    · exact dig_isD hn9
    · exact HD c hc
  · rw [val_cons, dig_nat hn9, HX, Nat.add_sub_cancel_left]
    rcases hn with ⟨h0, h1, rfl⟩ | ⟨h0, h1, rfl⟩
    · have := hst.1 h0
      rwa [show ((x : Int) - y - M).toNat = n by omega] at this
    · have := hst.2 h0
      rwa [show ((x : Int) - y - M + 10).toNat = n by omega] at this

set_option maxRecDepth 100000 in
set_option maxHeartbeats 4000000 in
theorem without_any (a b : ByteArray) (ha : allD a.data.toList) (hb : allD b.data.toList) (hsa : a.size ≤ 10000) (hsb : b.size ≤ 10000) (hle : valL b.data.toList ≤ valL a.data.toList) (w : World) :
    Calls Tryd.prog 48 #[.string a, .string b] w fun e w' => e = .returned (.string ⟨(decN (valL a.data.toList - valL b.data.toList)).toArray⟩) ∧ Below w.heap.size w w' := by
  have D1 := fun i (hi : i ≤ 100000) w => digit_any a i ha (by omega) hi w
  have D2 := fun i (hi : i ≤ 100000) w => digit_any b i hb (by omega) hi w
  have va := val_lt _ ha
  rw [ba_len] at va
  obtain ⟨A, hA⟩ : ∃ A, A = valL a.data.toList := ⟨_, rfl⟩
  obtain ⟨B, hB⟩ : ∃ B, B = valL b.data.toList := ⟨_, rfl⟩
  rw [← hA] at D1 va hle ⊢
  rw [← hB] at D2 hle ⊢
  have HD1 := Lib.hid D1
  have HD2 := Lib.hid D2
  have VA := Lib.hid va
  have HLE := Lib.hid hle
  clear D1 D2 va hA hB ha hb hle
  go_enter Tryd.func48, Tryd.ntmps48
  go_wp2
  go_loopw [5, 6, 7] (fun o m i wr => LessRel A B a.size w o m i wr) (fun _ _ i _ => a.size - (intOf i).toNat)
  case atStart => exact ⟨0, 0, [], by omega, rfl, rfl, rfl, by omega, Lib.hid rfl, Lib.hid (fun c hc => by cases hc), Lib.hid (by simp [valL]; omega), Lib.hid (Below.refl _ _)⟩
  case round =>
    obtain ⟨k, M, X, hk, rfl, rfl, rfl, hM, HX, HDX, HV, HBW⟩ := hrel
    have k0 : (0 : Int) ≤ k := Int.natCast_nonneg _
    have m0 : (0 : Int) ≤ M := Int.natCast_nonneg _
    have m1 : (M : Int) ≤ 1 := by omega
    have hXl : X.length ≤ 10001 := by rw [HX.out]; omega
    by_cases hgo : k < a.size
    · obtain ⟨x, hx⟩ : ∃ x, x = dgt A k := ⟨_, rfl⟩
      obtain ⟨y, hy⟩ : ∃ y, y = dgt B k := ⟨_, rfl⟩
      have C1 := HD1.out k (by omega) wr
      have C2 := HD2.out k (by omega) wr
      rw [← hx] at C1
      rw [← hy] at C2
      have hx9 : (x : Int) < 10 := by have := dgt_lt A k; omega
      have hy9 : (y : Int) < 10 := by have := dgt_lt B k; omega
      have x0 : (0 : Int) ≤ x := Int.natCast_nonneg _
      have y0 : (0 : Int) ≤ y := Int.natCast_nonneg _
      have HX1 := Lib.hid hx
      have HY1 := Lib.hid hy
      have HC1 := Lib.hid C1
      have HC2 := Lib.hid C2
      have h1 : (k : Int) < a.size := by omega
      clear hx hy C1 C2
      by_cases hneg : (x : Int) - y - M < 0
      · have hcv := conv1 wr (48 + ((x : Int) - y - M + 10)) ((x : Int) - y - M + 10).toNat (by omega) (by omega)
        go_wp2_with fail
        refine HC1.out.mono ?_
        rintro e w' ⟨rfl, rfl⟩
        go_wp2_with fail
        refine HC2.out.mono ?_
        rintro e w' ⟨rfl, rfl⟩
        go_wp2
        exact ⟨LessRel.next hgo HX1.out HY1.out hM HX.out HDX.out HV.out (HBW.out.alloc HBW.out.size _) (.inr ⟨hneg, by omega, rfl⟩) rfl rfl rfl, by simp [intOf]; omega⟩
      · have hcv := conv1 wr (48 + ((x : Int) - y - M)) ((x : Int) - y - M).toNat (by omega) (by omega)
        go_wp2_with fail
        refine HC1.out.mono ?_
        rintro e w' ⟨rfl, rfl⟩
        go_wp2_with fail
        refine HC2.out.mono ?_
        rintro e w' ⟨rfl, rfl⟩
        go_wp2
        exact ⟨LessRel.next hgo HX1.out HY1.out hM HX.out HDX.out HV.out (HBW.out.alloc HBW.out.size _) (.inl ⟨by omega, by omega, rfl⟩) rfl rfl rfl, by simp [intOf]; omega⟩
    · have n1 : ¬ (k : Int) < a.size := by omega
      have hend : valL X = A - B := by
        have va := VA.out
        rw [show a.size = k by omega] at va
        have hv := val_lt _ HDX.out
        rw [HX.out] at hv
        exact less_end HV.out va HLE.out hv
      have T := trim_any ⟨X.toArray⟩ (by rw [ba_size]; omega) wr
      rw [ba_mk, trim_dec HDX.out, hend] at T
      have HT := Lib.hid T
      clear T hend hgo
      go_wp2_with fail
      refine HT.out.mono ?_
      rintro e w' ⟨rfl, rfl⟩
      go_wp2
      go_ret
      exact ⟨rfl, HBW.out⟩
end Go.Proofs.YtibhfcnjmilepaaDoor

import Derived.Test.YtibhfcnjmilepaaDoorNumH
namespace Go.Proofs.YtibhfcnjmilepaaDoor
open Go.RowKit

theorem ext_one (s : ByteArray) (k : Nat) (h : k < s.size) : (s.extract k (k + 1)).data.toList = [s[k]] := by
  rw [Lib.extract_data, drop_cons s k h, show k + 1 - k = 1 by omega]
  rfl
theorem trim_more (L : Nat) (c : ByteArray) (d : Nat) (hd : d < 10) (hc : c.data.toList = [dig d]) (hL : (decN L).length ≤ 10000) (w : World) :
    Calls Tryd.prog 50 #[.string (decS L ++ c)] w fun e w' => e = .returned (.string (decS (10 * L + d))) ∧ w = w' := by
  have e : (decS L ++ c : ByteArray).data.toList = decN L ++ [dig d] := by
    rw [ByteArray.data_append]; simp [decS, hc]
  have hdd : allD (decS L ++ c : ByteArray).data.toList := by
    rw [e]; intro x hx
    rcases List.mem_append.1 hx with hx | hx
    · exact dec_allD L x hx
    · simp at hx; subst hx; exact dig_isD hd
  have T := trim_any (decS L ++ c) (by rw [← ba_len, e]; simp; omega) w
  rw [trim_dec hdd, e, val_snoc, val_dec, dig_nat hd, Nat.add_sub_cancel_left] at T
  exact T

/-- the outer loop of a division -/
def DivRel (A B la : Nat) (w : World) (o l i : Value) (wr : World) : Prop :=
  ∃ (k : Nat) (X : List UInt8), k ≤ la ∧ i = .int .i64 k ∧ o = .string ⟨X.toArray⟩ ∧ l = .string (decS (A / 10 ^ (la - k) % B)) ∧ Hid (X.length = k) ∧ Hid (allD X) ∧ Hid (valL X = A / 10 ^ (la - k) / B) ∧ Hid (Below w.heap.size w wr)
/-- the inner loop -/
def DivIn (R B : Nat) (w : World) (l n : Value) (wr : World) : Prop :=
  ∃ (c U : Nat), c ≤ 9 ∧ n = .int .i64 c ∧ l = .string (decS U) ∧ Hid (U + c * B = R) ∧ Hid (Below w.heap.size w wr)
theorem div_end {U c B R : Nat} (h : U + c * B = R) (hU : U < B) : R / B = c ∧ R % B = U := by
  subst h
  have hB : 0 < B := by omega
  rw [Nat.add_mul_div_right _ _ hB, Nat.div_eq_of_lt hU, Nat.add_mul_mod_self_right, Nat.mod_eq_of_lt hU]
  omega

set_option maxRecDepth 100000 in
set_option maxHeartbeats 4000000 in
theorem divide_any (A B : Nat) (hB : 0 < B) (hA : (decN A).length ≤ 4000) (hBl : (decN B).length ≤ 4000) (w : World) :
    Calls Tryd.prog 42 #[.string (decS A), .string (decS B)] w fun e w' => e = .returned (.tuple #[.string (decS (A / B)), .string (decS (A % B))]) ∧ Below w.heap.size w w' := by
  have LS := fun U w => less_dec_any U B w
  have WO := fun (U : Nat) (hU : (decN U).length ≤ 5000) (hle : B ≤ U) w => without_dec U B hU (by omega) hle w
  have TM := fun (L : Nat) c d h1 h2 (h3 : L < B) w => trim_more L c d h1 h2 (by have := dec_len_mono hBl (Nat.le_of_lt h3); omega) w
  have RL : ∀ R, R < 10 * B → (decN R).length ≤ 5000 := by
    intro R hR
    have hn : 0 < (decN B).length := dec_pos B
    have h1 : B < 10 ^ (decN B).length := (dec_len hn).1 (Nat.le_refl _)
    have h2 : (decN R).length ≤ (decN B).length + 1 := (dec_len (Nat.succ_pos _)).2 (by rw [Nat.pow_succ]; omega)
    omega
  obtain ⟨P, hP⟩ : ∃ P, P = decS A := ⟨_, rfl⟩
  obtain ⟨Q, hQ⟩ : ∃ Q, Q = decS B := ⟨_, rfl⟩
  have hp : P.size = (decN A).length := by rw [hP, decS_size]
  have hp4 : P.size ≤ 4000 := by omega
  have HPY : Hid (A < 10 ^ P.size) := by
    have := val_lt _ (dec_allD A)
    rw [val_dec, ← hp] at this
    exact this
  have HPD : Hid (∀ k (h : k < P.size), P[k] = dig (dgt A (P.size - 1 - k))) := Lib.hid fun k h => by
    have hv := val_digit _ (dec_allD A) (P.size - 1 - k) (by omega)
    rw [val_dec, ← hp, show P.size - 1 - (P.size - 1 - k) = k by omega] at hv
    have hg : (decN A).getD k 0 = P[k] := by
      subst hP
      rw [List.getD_eq_getElem?_getD, List.getElem?_eq_getElem (by omega)]
      rfl
    rw [hg] at hv
    have hm : isD P[k] = true := by
      refine dec_allD A _ ?_
      rw [← hg, List.getD_eq_getElem?_getD, List.getElem?_eq_getElem (by omega), Option.getD_some]
      exact List.getElem_mem _
    unfold dgt
    rw [hv, dig_of hm]
  rw [← hP, ← hQ]
  rw [← hQ] at LS WO
  have HLS := Lib.hid LS
  have HWO := Lib.hid WO
  have HTM := Lib.hid TM
  have HRL := Lib.hid RL
  have HBP := Lib.hid hB
  clear LS WO TM RL hP hQ hp hA hBl hB
  go_enter Tryd.func42, Tryd.ntmps42
  go_wp2
  go_loopw [6, 7, 8] (fun o l i wr => DivRel A B P.size w o l i wr) (fun _ _ i _ => P.size - (intOf i).toNat)
  case atStart => exact ⟨0, [], by omega, rfl, rfl, by rw [Nat.sub_zero, Nat.div_eq_of_lt HPY.out, Nat.zero_mod, decS_0], Lib.hid rfl, Lib.hid (fun c hc => by cases hc), Lib.hid (by rw [Nat.sub_zero, Nat.div_eq_of_lt HPY.out, Nat.zero_div]; rfl), Lib.hid (Below.refl _ _)⟩
  case round =>
    obtain ⟨k, X, hk, rfl, rfl, rfl, HX, HXD, HXV, HBW⟩ := hrel
    have k0 : (0 : Int) ≤ k := Int.natCast_nonneg _
    have hbz := HBW.out.size
    have hXl : X.length ≤ 4000 := by rw [HX.out]; omega
    by_cases hgo : k < P.size
    · have h1 : (k : Int) < P.size := by omega
      have hpre := pre_step A P.size k hgo
      obtain ⟨p, hp⟩ : ∃ p, p = A / 10 ^ (P.size - k) := ⟨_, rfl⟩
      obtain ⟨d, hd⟩ : ∃ d, d = dgt A (P.size - 1 - k) := ⟨_, rfl⟩
      have hd9 : d < 10 := hd ▸ dgt_lt _ _
      have hbyte := HPD.out k hgo
      have hext := ext_one P k hgo
      rw [← hp]
      rw [← hp] at hpre
      rw [← hd] at hpre hbyte
      rw [hbyte] at hext
      obtain ⟨L, hL⟩ : ∃ L, L = p % B := ⟨_, rfl⟩
      rw [← hL]
      have hLB : L < B := hL ▸ Nat.mod_lt _ HBP.out
      obtain ⟨C, hC⟩ : ∃ C, C = P.extract k (k + 1) := ⟨_, rfl⟩
      rw [← hC] at hext
      have T1 := HTM.out L C d hd9 hext hLB wr
      obtain ⟨R, hR⟩ : ∃ R, R = 10 * L + d := ⟨_, rfl⟩
      rw [← hR] at T1
      have hRB : R < 10 * B := by omega
      have hds := div_step (X := p) (B := B) (d := d) HBP.out
      rw [← hpre, ← hL, ← hR] at hds
      obtain ⟨S, hS⟩ : ∃ S, S = decS L := ⟨_, rfl⟩
      obtain ⟨S2, hS2⟩ : ∃ S2, S2 = decS R := ⟨_, rfl⟩
      have hSs : S.size ≤ 10000 := by
        have h := decS_size L
        rw [← hS] at h
        have := HRL.out L (by omega)
        omega
      have hCs : C.size = 1 := by rw [← ba_len, hext]; rfl
      rw [← hS, ← hS2, hC] at T1
      rw [← hS]
      have HT1 := Lib.hid T1
      have HDS := Lib.hid hds
      have HS2 := Lib.hid hS2
      have HXV2 : Hid (valL X = p / B) := by rw [hp]; exact HXV
      have hk1 : ((k : Int) + 1) ≤ P.size := by omega
      have HXX := HX
      clear T1 hds hpre hp hd hbyte hext hL hR hS hS2 hC hCs HXV
      go_wp2_with fail
      refine HT1.out.mono ?_
      rintro e w' ⟨rfl, rfl⟩
      go_wp2
      obtain ⟨wo, rfl⟩ : ∃ wo : World, wo = wr := ⟨_, rfl⟩
      go_loopw [7, 9] (fun l n wr => DivIn R B w l n wr) (fun _ n _ => 10 - (intOf n).toNat)
      case atStart => exact ⟨0, R, by omega, rfl, by rw [HS2.out], Lib.hid (by simp), HBW⟩
      case round =>
        obtain ⟨c, U, hc, rfl, rfl, HU, HBW2⟩ := hrel
        have c0 : (0 : Int) ≤ c := Int.natCast_nonneg _
        have hbz2 := HBW2.out.size
        have hUT := HU.out
        have L1 := HLS.out U wr
        by_cases hlt : U < B
        · rw [decide_eq_true hlt] at L1
          have hde := div_end hUT hlt
          have hcv := conv1 wr (48 + (c : Int)) c rfl (by omega)
          obtain ⟨S3, hS3⟩ : ∃ S3, S3 = decS U := ⟨_, rfl⟩
          rw [← hS3] at L1 ⊢
          have HL1 := Lib.hid L1
          have HDE := Lib.hid hde
          have HS3 := Lib.hid hS3
          have hc9 : (c : Int) ≤ 9 := by omega
          clear L1 hde hS3 hlt hUT
          go_wp2_with fail
          refine HL1.out.mono ?_
          rintro e w' ⟨rfl, rfl⟩
          go_wp2
          refine ⟨⟨k + 1, X ++ [dig c], by omega, by go_num, ?_, ?_, Lib.hid (by rw [List.length_append, HX.out]; rfl), Lib.hid ?_, Lib.hid ?_, Lib.hid (HBW2.out.alloc hbz2 _)⟩, by simp [intOf]; omega⟩
          · congr 1
          · rw [HDS.out.2, HDE.out.2, HS3.out]
          · intro x hx
            rcases List.mem_append.1 hx with hx | hx
            · exact HXD.out x hx
            · simp at hx; subst hx; exact dig_isD (by omega)
          · rw [val_snoc, HXV2.out, HDS.out.1, HDE.out.1, dig_nat (by omega), Nat.add_sub_cancel_left]
        · rw [decide_eq_false hlt] at L1
          have hUR : U ≤ R := by omega
          have W1 := HWO.out U (HRL.out U (by omega)) (by omega) wr
          have hU2 : (U - B) + (c + 1) * B = R := by rw [Nat.add_mul]; omega
          have hc8 : c + 1 ≤ 9 := by
            rcases Nat.lt_or_ge 9 (c + 1) with h | h
            · have := Nat.mul_le_mul_right B (show 10 ≤ c + 1 by omega)
              omega
            · exact h
          obtain ⟨S3, hS3⟩ : ∃ S3, S3 = decS U := ⟨_, rfl⟩
          obtain ⟨S4, hS4⟩ : ∃ S4, S4 = decS (U - B) := ⟨_, rfl⟩
          rw [← hS3] at L1 ⊢
          rw [← hS3, ← hS4] at W1
          have HL1 := Lib.hid L1
          have HW1 := Lib.hid W1
          have HU2 := Lib.hid hU2
          have HS4 := Lib.hid hS4
          clear L1 W1 hU2 hS3 hS4 hlt hUT
          go_wp2_with fail
          refine HL1.out.mono ?_
          rintro e w' ⟨rfl, rfl⟩
          go_wp2_with fail
          refine HW1.out.mono ?_
          rintro e w5 ⟨rfl, hb5⟩
          have HB5 := Lib.hid (HBW2.out.trans (hb5.mono hbz2))
          clear hb5
          go_wp2
          exact ⟨⟨c + 1, U - B, by omega, by go_num, by rw [HS4.out], HU2, HB5⟩, by simp [intOf]; omega⟩
    · have h1 : ¬ (k : Int) < P.size := by omega
      have hke : k = P.size := by omega
      have he : decS (A / 10 ^ (P.size - k) % B) = decS (A % B) := by rw [hke, Nat.sub_self, Nat.pow_zero, Nat.div_one]
      have hv : valL X = A / B := by rw [HXV.out, hke, Nat.sub_self, Nat.pow_zero, Nat.div_one]
      rw [he]
      have T1 := trim_any ⟨X.toArray⟩ (by rw [ba_size]; omega) wr
      rw [ba_mk, trim_dec HXD.out, hv] at T1
      obtain ⟨S3, hS3⟩ : ∃ S3, S3 = decS (A % B) := ⟨_, rfl⟩
      obtain ⟨S4, hS4⟩ : ∃ S4, S4 = decS (A / B) := ⟨_, rfl⟩
      have T2 : Calls Tryd.prog 50 #[.string ⟨X.toArray⟩] wr fun e w' => e = .returned (.string S4) ∧ wr = w' := by rw [hS4]; exact T1
      rw [← hS3]
      have HT2 := Lib.hid T2
      have HS3 := Lib.hid hS3
      have HS4 := Lib.hid hS4
      clear T1 T2 hS3 hS4 he hv hke hgo
      go_wp2_with fail
      refine HT2.out.mono ?_
      rintro e w' ⟨rfl, rfl⟩
      go_wp2
      go_ret2
      exact ⟨by rw [HS3.out, HS4.out]; rfl, HBW.out⟩
end Go.Proofs.YtibhfcnjmilepaaDoor

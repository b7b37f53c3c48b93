import Derived.Test.YtghgjefobfaodaaDoorLexF
namespace Go.Proofs.YtghgjefobfaodaaDoor
open Go.RowKit

theorem take_all_snoc {p : UInt8 → Bool} (s : ByteArray) (k : Nat) (h : k < s.size) : (s.data.toList.take (k + 1)).all p = ((s.data.toList.take k).all p && p s[k]) := by
  rw [List.take_succ_eq_append_getElem (by simpa using h), List.all_append]
  simp; rfl

theorem isNum_dash (s : ByteArray) (h : 0 < s.size) (h45 : s[0] = 45) : isNum s.data.toList = (decide (0 < (s.extract 1 s.size).size) && (s.extract 1 s.size).data.toList.all digB) := by
  have hd := drop_cons s 0 h
  rw [List.drop_zero] at hd
  rw [Lib.extract_to_end s 1, hd, h45]
  have hl : (s.extract 1 s.size).size = (s.data.toList.drop 1).length := by simp
  rw [hl]
  unfold isNum
  simp only [List.head?_cons, if_true, List.tail_cons]
  cases (s.data.toList.drop (0 + 1)) <;> simp
theorem isNum_plain (s : ByteArray) (h : 0 < s.size → s[0]! ≠ 45) : isNum s.data.toList = (decide (0 < s.size) && s.data.toList.all digB) := by
  by_cases h0 : 0 < s.size
  · have hd := drop_cons s 0 h0
    rw [List.drop_zero] at hd
    have h45 : ¬ s[0] = 45 := by
      have := h h0
      rwa [getElem!_pos s 0 h0] at this
    rw [hd]
    unfold isNum
    simp [h45, h0]
  · have : s.data.toList = [] := by
      have := drop_none s 0 h0
      simpa using this
    rw [this, decide_eq_false h0]
    rfl

theorem all_stop (v : ByteArray) (k : Nat) (h : k < v.size) (hd : digZ (v[k].toNat : Int) = false) : v.data.toList.all digB = false := by
  rw [List.all_eq_false]
  exact ⟨v[k], byte_mem v k h, by simpa [digB] using hd⟩
theorem all_end (v : ByteArray) (k : Nat) (h : ¬ k < v.size) (hd : (v.data.toList.take k).all digB = true) : v.data.toList.all digB = true := by
  rwa [List.take_of_length_le (by simp; omega)] at hd

set_option maxRecDepth 100000 in
set_option maxHeartbeats 1000000 in
theorem number_any (s : ByteArray) (hs : s.size ≤ 100000) (w : World) :
    Calls Tryd.prog 40 #[.string s] w fun e w' => e = .returned (.bool (isNum s.data.toList)) ∧ w = w' := by
  by_cases h0 : 0 < s.size
  · have e45 : ((s[0].toNat : Int) == 45) = decide (s[0] = 45) := u8_eq _ 45
    by_cases h45 : s[0] = 45
    · have hb' := isNum_dash s h0 h45
      obtain ⟨b, hb⟩ : ∃ b, b = isNum s.data.toList := ⟨_, rfl⟩
      rw [← hb] at hb' ⊢
      rw [decide_eq_true h45] at e45
      have HBV := Lib.hid hb'
      have hv : (s.extract 1 s.size).size ≤ 100000 := by simp; omega
      clear h45 hb hb'
      go_enter Tryd.func40, Tryd.ntmps40
      go_wp2
      obtain ⟨v, hv'⟩ : ∃ v, v = s.extract 1 s.size := ⟨_, rfl⟩
      rw [← hv'] at hv ⊢ HBV
      clear hv'
      go_loop [3] (fun i => ∃ k : Nat, k ≤ v.size ∧ i = .int .i64 k ∧ Hid ((v.data.toList.take k).all digB = true)) (fun i => v.size - (intOf i).toNat)
      case atStart => exact ⟨0, Nat.zero_le _, rfl, Lib.hid rfl⟩
      case round =>
        obtain ⟨k, hk, rfl, H⟩ := hrel
        by_cases hlt : k < v.size
        · cases hd : digZ (v[k].toNat : Int)
          · have HD := Lib.hid (all_stop v k hlt hd)
            go_wp2_with (go_at_call 56; refine (digit_any _ _).mono ?_; rintro e w' ⟨rfl, rfl⟩; rw [hd])
            go_ret
            exact ⟨ret_bool (by rw [HBV.out, HD.out, Bool.and_false]), rfl⟩
          · have HS := Lib.hid (take_all_snoc (p := digB) v k hlt)
            go_wp2_with (go_at_call 56; refine (digit_any _ _).mono ?_; rintro e w' ⟨rfl, rfl⟩; rw [hd])
            go_round
            case rel => exact ⟨k + 1, by omega, by go_num, Lib.hid (by rw [HS.out, H.out]; simpa [digB] using hd)⟩
            case measure => simp [intOf]; omega
        · have HE := Lib.hid (all_end v k hlt H.out)
          go_wp2
          go_ret
          exact ⟨ret_bool (by rw [HBV.out, HE.out]; simp), rfl⟩
    · rw [isNum_plain s (fun h => by rwa [getElem!_pos s 0 h])]
      rw [decide_eq_false h45] at e45
      clear h45
      go_enter Tryd.func40, Tryd.ntmps40
      go_wp2
      go_loop [3] (fun i => ∃ k : Nat, k ≤ s.size ∧ i = .int .i64 k ∧ Hid ((s.data.toList.take k).all digB = true)) (fun i => s.size - (intOf i).toNat)
      case atStart => exact ⟨0, Nat.zero_le _, rfl, Lib.hid rfl⟩
      case round =>
        obtain ⟨k, hk, rfl, H⟩ := hrel
        by_cases hlt : k < s.size
        · cases hd : digZ (s[k].toNat : Int)
          · have HD := Lib.hid (all_stop s k hlt hd)
            go_wp2_with (go_at_call 56; refine (digit_any _ _).mono ?_; rintro e w' ⟨rfl, rfl⟩; rw [hd])
            go_ret
            exact ⟨ret_bool (by rw [HD.out, Bool.and_false]), rfl⟩
          · have HS := Lib.hid (take_all_snoc (p := digB) s k hlt)
            go_wp2_with (go_at_call 56; refine (digit_any _ _).mono ?_; rintro e w' ⟨rfl, rfl⟩; rw [hd])
            go_round
            case rel => exact ⟨k + 1, by omega, by go_num, Lib.hid (by rw [HS.out, H.out]; simpa [digB] using hd)⟩
            case measure => simp [intOf]; omega
        · have HE := Lib.hid (all_end s k hlt H.out)
          go_wp2
          go_ret
          exact ⟨ret_bool (by have h := HE.out; simp at h ⊢; exact h), rfl⟩
  · rw [isNum_plain s (fun h => absurd h h0)]
    go_enter Tryd.func40, Tryd.ntmps40
    go_wp2
    refine wp_loop_rounds 1 ?_
    rw [rounds_succ]
    go_wp2
    go_ret
    exact ⟨ret_bool (by simp; omega), rfl⟩
end Go.Proofs.YtghgjefobfaodaaDoor

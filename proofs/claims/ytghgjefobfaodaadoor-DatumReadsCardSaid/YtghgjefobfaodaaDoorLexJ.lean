import Derived.Test.YtghgjefobfaodaaDoorLexI
namespace Go.Proofs.YtghgjefobfaodaaDoor
open Go.RowKit

theorem Tryd.infoRefTok : (Tryd.prog.info? 47).map (fun i => (i.zero, i.size, i.bytes)) = some (some (.agg #[.int .i64 0, .string ⟨#[]⟩, .int .i64 0]), 3, 32) := by kernel_rfl

theorem ext_one (s : ByteArray) (k : Nat) (h : k < s.size) : (s.extract k (k + 1) : ByteArray) = ⟨[s[k]].toArray⟩ := by
  refine ba_ext ?_
  rw [Lib.extract_data, show k + 1 - k = 1 by omega, drop_cons s k h]
  rfl
/-- the three single bytes -/
theorem stepL_one {c : UInt8} {r : List UInt8} (k : Nat) (h : c = 40 ∧ k = 1 ∨ c = 41 ∧ k = 2 ∨ c = 39 ∧ k = 3) : blankB c = false ∧ c ≠ 59 ∧ stepL (c :: r) = .tok k [c] r := by
  rcases h with ⟨rfl, rfl⟩ | ⟨rfl, rfl⟩ | ⟨rfl, rfl⟩ <;> exact ⟨by decide, by decide, rfl⟩

theorem quotedL_kind (start : List UInt8) : ∀ (n : Nat) (l acc : List UInt8), l.length ≤ n → ∀ k t r', quotedL start l acc = .tok k t r' → k = 6 := by
  intro n
  induction n with
  | zero => intro l acc h k t r' he; obtain rfl := List.length_eq_zero_iff.1 (by omega : l.length = 0); simp [quotedL] at he
  | succ n ih =>
    intro l acc h k t r' he
    cases l with
    | nil => simp [quotedL] at he
    | cons c r =>
      simp only [List.length_cons] at h
      by_cases h1 : c = 34
      · subst h1; rw [q_close] at he; cases he; rfl
      · by_cases h2 : c = 92
        · subst h2
          cases r with
          | nil => rw [q_end] at he; cases he
          | cons d r2 =>
            simp only [List.length_cons] at h
            cases hd : escB d
            · rw [q_noesc _ _ _ hd] at he; cases he
            · rw [q_esc _ _ _ hd] at he
              exact ih r2 _ (by omega) _ _ _ he
        · cases hb : (decide (c < 32) || decide (126 < c))
          · rw [q_plain _ _ _ h1 h2 hb] at he
            exact ih r _ (by omega) _ _ _ he
          · rw [q_bad _ _ _ h1 h2 hb] at he; cases he

set_option maxRecDepth 100000 in
set_option linter.unusedSimpArgs false in
set_option maxHeartbeats 8000000 in
theorem refLex_any (s : ByteArray) (hs : s.size ≤ 100000) (w : World) :
    Calls Tryd.prog 22 #[.string s] w fun e w' => LexVal w' (lexN s.size s.data.toList) e ∧ Below w.heap.size w w' := by
  obtain ⟨i0, hi, hz0, hz1, hz2⟩ := info_parts Tryd.infoRefTok
  obtain ⟨res, hres⟩ : ∃ res, res = lexN s.size s.data.toList := ⟨_, rfl⟩
  rw [← hres]
  have HR : Hid (res = (lexN s.size (s.data.toList.drop 0)).pre []) := by show _ = _; rw [Res.pre_nil]; exact hres
  clear hres
  go_enter Tryd.func22, Tryd.ntmps22
  go_wp2
  go_loopw [5, 6] (fun v i wr => ∃ (k : Nat) (acc : List Tok), k ≤ s.size ∧ i = .int .i64 k ∧ acc.length ≤ k ∧ Hid (res = (lexN s.size (s.data.toList.drop k)).pre acc) ∧ wr.ownsRow w.heap.size 47 3 v acc.length (toksCells acc) ∧ Below w.heap.size w wr) (fun _ i _ => s.size - (intOf i).toNat)
  case atStart => exact ⟨0, [], Nat.zero_le _, rfl, Nat.zero_le _, HR, World.ownsRow_nil _ _ _ _, Below.refl _ _⟩
  case round =>
    obtain ⟨k, acc, hk, rfl, hacc, HQ, hown, hb⟩ := hrel
    have HO := Lib.hid hown
    have HB := Lib.hid hb
    have hsz := hb.size
    clear hown hb
    by_cases hlt : k < s.size
    · have hdc := drop_cons s k hlt
      have hdl : (s.data.toList.drop k).length = s.size - k := by simp
      have e32 : ((s[k].toNat : Int) == 32) = decide (s[k] = 32) := u8_eq _ 32
      have e9 : ((s[k].toNat : Int) == 9) = decide (s[k] = 9) := u8_eq _ 9
      have e10 : ((s[k].toNat : Int) == 10) = decide (s[k] = 10) := u8_eq _ 10
      have e13 : ((s[k].toNat : Int) == 13) = decide (s[k] = 13) := u8_eq _ 13
      have hq := HQ.out
      cases hbl : blankB s[k]
      · have hnb : ¬ s[k] = 32 ∧ ¬ s[k] = 9 ∧ ¬ s[k] = 10 ∧ ¬ s[k] = 13 := by
          simp [blankB] at hbl; grind
        rw [decide_eq_false hnb.1] at e32
        rw [decide_eq_false hnb.2.1] at e9
        rw [decide_eq_false hnb.2.2.1] at e10
        rw [decide_eq_false hnb.2.2.2] at e13
        clear hnb
        have e59 : ((s[k].toNat : Int) == 59) = decide (s[k] = 59) := u8_eq _ 59
        by_cases h59 : s[k] = 59
        · rw [decide_eq_true h59] at e59
          as_aux_lemma =>
            have hcm : dropCmt (s.data.toList.drop k) = dropCmt (s.data.toList.drop (k + 1)) := by rw [hdc, h59]; rfl
            have hdc59 := hdc
            rw [h59] at hdc59
            rw [hdc59, lexN_cmt, ← hcm] at hq
            have HQ2 := Lib.hid hq
            clear hq HQ hdc hdc59 hdl hbl h59 hcm
            go_wp2
            obtain ⟨wo, rfl⟩ : ∃ wo : World, wo = wr := ⟨_, rfl⟩
            go_loop [6] (fun i => ∃ j : Nat, k ≤ j ∧ j ≤ s.size ∧ i = .int .i64 j ∧ (j = k → s[k].toNat = 59) ∧ Hid (dropCmt (s.data.toList.drop k) = dropCmt (s.data.toList.drop j))) (fun i => s.size - (intOf i).toNat)
            case atStart => exact ⟨k, Nat.le_refl _, hk, rfl, fun _ => by have := eq_of_beq e59; omega, Lib.hid rfl⟩
            case round =>
              obtain ⟨j, hkj, hj, rfl, hjk, HJ⟩ := hrel
              by_cases hjl : j < s.size
              · have hdj := drop_cons s j hjl
                have n10 : ((s[j].toNat : Int) != 10) = !decide (s[j] = 10) := congrArg (fun b => !b) (u8_eq s[j] 10)
                by_cases h10 : s[j] = 10
                · rw [decide_eq_true h10, Bool.not_true] at n10
                  have hjk' : k < j := by
                    rcases Nat.lt_or_ge k j with h | h
                    · exact h
                    · obtain rfl : j = k := by omega
                      have := hjk rfl
                      rw [h10] at this
                      exact absurd this (by decide)
                  have hq := HQ2.out
                  rw [HJ.out, hdj, h10] at hq
                  have HQ3 : Hid (res = (lexN s.size (s.data.toList.drop j)).pre acc) := by
                    show _ = _
                    rw [hdj, h10, lexN_blank _ _ _ (by decide)]
                    exact hq
                  clear hq hdj h10 hjk e59 e32 e9 e10 e13
                  go_wp2
                  exact ⟨⟨j, acc, hj, rfl, by omega, HQ3, HO.out, HB.out⟩, by simp [intOf]; omega⟩
                · rw [decide_eq_false h10, Bool.not_false] at n10
                  have HJ2 : Hid (dropCmt (s.data.toList.drop k) = dropCmt (s.data.toList.drop (j + 1))) := by
                    show _ = _
                    rw [HJ.out, hdj]
                    simp [dropCmt, h10]
                  clear hdj h10 hjk e59 e32 e9 e10 e13
                  go_wp2
                  go_round
                  case rel => exact ⟨j + 1, by omega, by omega, by go_num, fun h => by omega, HJ2⟩
                  case measure => simp [intOf]; omega
              · have hq := HQ2.out
                rw [HJ.out, drop_none s j hjl] at hq
                have HQ3 : Hid (res = (lexN s.size (s.data.toList.drop j)).pre acc) := by
                  show _ = _
                  rw [drop_none s j hjl]
                  exact hq
                clear hq hjk e59 e32 e9 e10 e13
                go_wp2
                exact ⟨⟨j, acc, hj, rfl, by omega, HQ3, HO.out, HB.out⟩, by simp [intOf]; omega⟩
        · rw [decide_eq_false h59] at e59
          have e40 : ((s[k].toNat : Int) == 40) = decide (s[k] = 40) := u8_eq _ 40
          have e41 : ((s[k].toNat : Int) == 41) = decide (s[k] = 41) := u8_eq _ 41
          have e39 : ((s[k].toNat : Int) == 39) = decide (s[k] = 39) := u8_eq _ 39
          by_cases h40 : s[k] = 40
          · rw [decide_eq_true h40] at e40
            as_aux_lemma =>
              rw [decide_eq_false (by rw [h40]; decide)] at e41
              rw [decide_eq_false (by rw [h40]; decide)] at e39
              obtain ⟨_, _, hst⟩ := stepL_one (r := s.data.toList.drop (k + 1)) 1 (by simp [h40] : s[k] = 40 ∧ 1 = 1 ∨ s[k] = 41 ∧ 1 = 2 ∨ s[k] = 39 ∧ 1 = 3)
              rw [hdc, lexN_tok _ hbl h59 hst, Res.pre_pre, ← hdc, hdl, show s.size - (s.size - k) = k by omega, ← ext_one s k hlt] at hq
              have HQ2 := Lib.hid hq
              clear hq HQ hdc hdl h59 h40 hst hbl
              go_wp2_with (at_builtin; refine wpList_append_own _ rfl _ _ 42 rfl w.heap.size 47 i0 (.agg #[.int .i64 0, .string ⟨#[]⟩, .int .i64 0]) 3 32 Tryd.underlying42 hi hz0 hz1 hz2 rfl (by decide) _ _ _ rfl (HO.out.alloc _) ⟨wr.heap.size, 0, none⟩ 1 1 (tokCells ⟨1, s.extract k (k + 1), k⟩) rfl rfl ?_ ?_ ?_ ?_ ?_ ?_)
              rotate_left 5
              intro v' w3 hown' hgrow _
              have hgB := HB.out.alloc hsz (.cells (tokCells ⟨1, s.extract k (k + 1), k⟩).toArray 47)
              have hB3 := hgB.grown hgrow (by simp; omega) (fun b hb => (HO.out.lt b hb).1)
              have HB3 := Lib.hid hB3
              rw [← toksCells_snoc] at hown'
              have HO3 := Lib.hid hown'
              clear hgB hB3 hgrow hown'
              go_wp2
              exact ⟨⟨k + 1, acc ++ [⟨1, s.extract k (k + 1), k⟩], by omega, by go_num, by simp; omega, HQ2, by rw [List.length_append]; exact HO3.out, HB3.out⟩, by simp [intOf]; omega⟩
              · intro j u hj
                match j, hj with
                | 0, hj => simp [tokCells] at hj; subst hj; simp [Addr.add]
                | 1, hj => simp [tokCells] at hj; subst hj; simp [Addr.add]
                | 2, hj => simp [tokCells] at hj; subst hj; simp [Addr.add]
              · intro u hu; simp [tokCells] at hu; rcases hu with rfl | rfl | rfl <;> rfl
              · unfold maxLen; omega
              · omega
              · first | omega | (simp; omega)
          rw [decide_eq_false h40] at e40
          by_cases h41 : s[k] = 41
          · rw [decide_eq_true h41] at e41
            as_aux_lemma =>
              rw [decide_eq_false (by rw [h41]; decide)] at e39
              obtain ⟨_, _, hst⟩ := stepL_one (r := s.data.toList.drop (k + 1)) 2 (by simp [h41] : s[k] = 40 ∧ 2 = 1 ∨ s[k] = 41 ∧ 2 = 2 ∨ s[k] = 39 ∧ 2 = 3)
              rw [hdc, lexN_tok _ hbl h59 hst, Res.pre_pre, ← hdc, hdl, show s.size - (s.size - k) = k by omega, ← ext_one s k hlt] at hq
              have HQ2 := Lib.hid hq
              clear hq HQ hdc hdl h59 h41 hst hbl
              go_wp2_with (at_builtin; refine wpList_append_own _ rfl _ _ 42 rfl w.heap.size 47 i0 (.agg #[.int .i64 0, .string ⟨#[]⟩, .int .i64 0]) 3 32 Tryd.underlying42 hi hz0 hz1 hz2 rfl (by decide) _ _ _ rfl (HO.out.alloc _) ⟨wr.heap.size, 0, none⟩ 1 1 (tokCells ⟨2, s.extract k (k + 1), k⟩) rfl rfl ?_ ?_ ?_ ?_ ?_ ?_)
              rotate_left 5
              intro v' w3 hown' hgrow _
              have hgB := HB.out.alloc hsz (.cells (tokCells ⟨2, s.extract k (k + 1), k⟩).toArray 47)
              have hB3 := hgB.grown hgrow (by simp; omega) (fun b hb => (HO.out.lt b hb).1)
              have HB3 := Lib.hid hB3
              rw [← toksCells_snoc] at hown'
              have HO3 := Lib.hid hown'
              clear hgB hB3 hgrow hown'
              go_wp2
              exact ⟨⟨k + 1, acc ++ [⟨2, s.extract k (k + 1), k⟩], by omega, by go_num, by simp; omega, HQ2, by rw [List.length_append]; exact HO3.out, HB3.out⟩, by simp [intOf]; omega⟩
              · intro j u hj
                match j, hj with
                | 0, hj => simp [tokCells] at hj; subst hj; simp [Addr.add]
                | 1, hj => simp [tokCells] at hj; subst hj; simp [Addr.add]
                | 2, hj => simp [tokCells] at hj; subst hj; simp [Addr.add]
              · intro u hu; simp [tokCells] at hu; rcases hu with rfl | rfl | rfl <;> rfl
              · unfold maxLen; omega
              · omega
              · first | omega | (simp; omega)
          rw [decide_eq_false h41] at e41
          by_cases h39 : s[k] = 39
          · rw [decide_eq_true h39] at e39
            as_aux_lemma =>
              obtain ⟨_, _, hst⟩ := stepL_one (r := s.data.toList.drop (k + 1)) 3 (by simp [h39] : s[k] = 40 ∧ 3 = 1 ∨ s[k] = 41 ∧ 3 = 2 ∨ s[k] = 39 ∧ 3 = 3)
              rw [hdc, lexN_tok _ hbl h59 hst, Res.pre_pre, ← hdc, hdl, show s.size - (s.size - k) = k by omega, ← ext_one s k hlt] at hq
              have HQ2 := Lib.hid hq
              clear hq HQ hdc hdl h59 h39 hst hbl
              go_wp2_with (at_builtin; refine wpList_append_own _ rfl _ _ 42 rfl w.heap.size 47 i0 (.agg #[.int .i64 0, .string ⟨#[]⟩, .int .i64 0]) 3 32 Tryd.underlying42 hi hz0 hz1 hz2 rfl (by decide) _ _ _ rfl (HO.out.alloc _) ⟨wr.heap.size, 0, none⟩ 1 1 (tokCells ⟨3, s.extract k (k + 1), k⟩) rfl rfl ?_ ?_ ?_ ?_ ?_ ?_)
              rotate_left 5
              intro v' w3 hown' hgrow _
              have hgB := HB.out.alloc hsz (.cells (tokCells ⟨3, s.extract k (k + 1), k⟩).toArray 47)
              have hB3 := hgB.grown hgrow (by simp; omega) (fun b hb => (HO.out.lt b hb).1)
              have HB3 := Lib.hid hB3
              rw [← toksCells_snoc] at hown'
              have HO3 := Lib.hid hown'
              clear hgB hB3 hgrow hown'
              go_wp2
              exact ⟨⟨k + 1, acc ++ [⟨3, s.extract k (k + 1), k⟩], by omega, by go_num, by simp; omega, HQ2, by rw [List.length_append]; exact HO3.out, HB3.out⟩, by simp [intOf]; omega⟩
              · intro j u hj
                match j, hj with
                | 0, hj => simp [tokCells] at hj; subst hj; simp [Addr.add]
                | 1, hj => simp [tokCells] at hj; subst hj; simp [Addr.add]
                | 2, hj => simp [tokCells] at hj; subst hj; simp [Addr.add]
              · intro u hu; simp [tokCells] at hu; rcases hu with rfl | rfl | rfl <;> rfl
              · unfold maxLen; omega
              · omega
              · first | omega | (simp; omega)
          rw [decide_eq_false h39] at e39
          cases hwd : wordZ (s[k].toNat : Int)
          · have e35 : ((s[k].toNat : Int) == 35) = decide (s[k] = 35) := u8_eq _ 35
            by_cases h35 : s[k] = 35
            · rw [decide_eq_true h35] at e35
              as_aux_lemma =>
                have hstep : stepL (s[k] :: s.data.toList.drop (k + 1)) = boolL s[k] (s.data.toList.drop (k + 1)) := by
                  rw [stepL, if_neg h40, if_neg h41, if_neg h39, if_pos h35]
                by_cases hend : k + 1 = s.size
                · have hst : stepL (s[k] :: s.data.toList.drop (k + 1)) = .err (s[k] :: s.data.toList.drop (k + 1)) 2 := by
                    rw [hstep, drop_none s (k + 1) (by omega)]; rfl
                  have hes : ((k : Int) + 1 == (s.size : Int)) = true := by simp; omega
                  rw [hdc, lexN_err _ hbl h59 hst, ← hdc, hdl, show s.size - (s.size - k) = k by omega] at hq
                  have HQ2 := Lib.hid hq
                  clear hq HQ hdc hdl h59 h40 h41 h39 h35 hst hbl hstep hend
                  go_wp2_with fail
                  refine (wordly_any _ _).mono ?_
                  rintro e w' ⟨rfl, rfl⟩
                  rw [hwd]
                  go_wp2
                  go_ret3
                  refine ⟨?_, HB.out⟩
                  rw [HQ2.out]
                  rfl
                have hes : ((k : Int) + 1 == (s.size : Int)) = false := by simp; omega
                have hlt1 : k + 1 < s.size := by omega
                have hlt1' : (k : Int) + 1 < s.size := by omega
                have hd1 := drop_cons s (k + 1) hlt1
                have d116 : ((s[k + 1].toNat : Int) != 116) = !decide (s[k + 1] = 116) := congrArg (fun b => !b) (u8_eq s[k + 1] 116)
                have d102 : ((s[k + 1].toNat : Int) != 102) = !decide (s[k + 1] = 102) := congrArg (fun b => !b) (u8_eq s[k + 1] 102)
                by_cases hd : s[k + 1] = 116 ∨ s[k + 1] = 102
                · have he2 : s.extract k (k + 2) = ⟨[s[k], s[k + 1]].toArray⟩ := by
                    refine ba_ext ?_
                    rw [Lib.extract_data, show k + 2 - k = 2 by omega, hdc, hd1]
                    rfl
                  by_cases hw : k + 2 < s.size ∧ wordB s[k + 2]! = true
                  · obtain ⟨hlt2, hw2⟩ := hw
                    rw [getElem!_pos s (k + 2) hlt2] at hw2
                    have hw2' : wordZ (s[k + 2].toNat : Int) = true := hw2
                    have hlt2' : (k : Int) + 2 < s.size := by omega
                    have hst : stepL (s[k] :: s.data.toList.drop (k + 1)) = .err (s[k] :: s.data.toList.drop (k + 1)) 2 := by
                      rw [hstep, hd1, boolL, if_neg]
                      simp [drop_cons s (k + 2) hlt2, wordLen, hw2]
                    rw [hdc, lexN_err _ hbl h59 hst, ← hdc, hdl, show s.size - (s.size - k) = k by omega] at hq
                    have HQ2 := Lib.hid hq
                    clear hq HQ hdc hdl h59 h40 h41 h39 h35 hst hbl hstep hend hd1 he2 hw2
                    rcases hd with hd | hd
                    · rw [decide_eq_true hd, Bool.not_true] at d116
                      clear hd d102
                      go_wp2_with fail
                      refine (wordly_any _ _).mono ?_
                      rintro e w' ⟨rfl, rfl⟩
                      rw [hwd]
                      go_wp2_with fail
                      refine (wordly_any _ _).mono ?_
                      rintro e w' ⟨rfl, rfl⟩
                      rw [hw2']
                      go_wp2
                      go_ret3
                      refine ⟨?_, HB.out⟩
                      rw [HQ2.out]
                      rfl
                    · rw [decide_eq_false (by rw [hd]; decide), Bool.not_false] at d116
                      rw [decide_eq_true hd, Bool.not_true] at d102
                      clear hd
                      go_wp2_with fail
                      refine (wordly_any _ _).mono ?_
                      rintro e w' ⟨rfl, rfl⟩
                      rw [hwd]
                      go_wp2_with fail
                      refine (wordly_any _ _).mono ?_
                      rintro e w' ⟨rfl, rfl⟩
                      rw [hw2']
                      go_wp2
                      go_ret3
                      refine ⟨?_, HB.out⟩
                      rw [HQ2.out]
                      rfl
                  · by_cases hlt2 : k + 2 < s.size
                    · have hw2 : wordB s[k + 2] = false := by
                        cases hx : wordB s[k + 2] with
                        | false => rfl
                        | true => exact absurd ⟨hlt2, by rw [getElem!_pos s (k + 2) hlt2]; exact hx⟩ hw
                      have hw2' : wordZ (s[k + 2].toNat : Int) = false := hw2
                      have hlt2' : (k : Int) + 2 < s.size := by omega
                      have hst : stepL (s[k] :: s.data.toList.drop (k + 1)) = .tok 7 [s[k], s[k + 1]] (s.data.toList.drop (k + 2)) := by
                        rw [hstep, hd1, boolL, if_pos]
                        simp [drop_cons s (k + 2) hlt2, wordLen, hw2]
                        exact hd
                      rw [hdc, lexN_tok _ hbl h59 hst, Res.pre_pre, ← hdc, hdl, show s.size - (s.size - k) = k by omega, ← he2] at hq
                      have HQ2 := Lib.hid hq
                      clear hq HQ hdc hdl h59 h40 h41 h39 h35 hst hbl hstep hend hd1 he2 hw2 hw
                      rcases hd with hd | hd
                      · rw [decide_eq_true hd, Bool.not_true] at d116
                        clear hd d102
                        go_wp2_with fail
                        refine (wordly_any _ _).mono ?_
                        rintro e w' ⟨rfl, rfl⟩
                        rw [hwd]
                        go_wp2_with fail
                        refine (wordly_any _ _).mono ?_
                        rintro e w' ⟨rfl, rfl⟩
                        rw [hw2']
                        go_wp2_with (at_builtin; refine wpList_append_own _ rfl _ _ 42 rfl w.heap.size 47 i0 (.agg #[.int .i64 0, .string ⟨#[]⟩, .int .i64 0]) 3 32 Tryd.underlying42 hi hz0 hz1 hz2 rfl (by decide) _ _ _ rfl (HO.out.alloc _) ⟨wr.heap.size, 0, none⟩ 1 1 (tokCells ⟨7, s.extract k (k + 2), k⟩) rfl rfl ?_ ?_ ?_ ?_ ?_ ?_)
                        rotate_left 5
                        intro v' w3 hown' hgrow _
                        have hgB := HB.out.alloc hsz (.cells (tokCells ⟨7, s.extract k (k + 2), k⟩).toArray 47)
                        have hB3 := hgB.grown hgrow (by simp; omega) (fun b hb => (HO.out.lt b hb).1)
                        have HB3 := Lib.hid hB3
                        rw [← toksCells_snoc] at hown'
                        have HO3 := Lib.hid hown'
                        clear hgB hB3 hgrow hown'
                        go_wp2
                        exact ⟨⟨k + 2, acc ++ [⟨7, s.extract k (k + 2), k⟩], by omega, by go_num, by simp; omega, HQ2, by rw [List.length_append]; exact HO3.out, HB3.out⟩, by simp [intOf]; omega⟩
                        · intro j u hj
                          match j, hj with
                          | 0, hj => simp [tokCells] at hj; subst hj; simp [Addr.add]
                          | 1, hj => simp [tokCells] at hj; subst hj; simp [Addr.add]
                          | 2, hj => simp [tokCells] at hj; subst hj; simp [Addr.add]
                        · intro u hu; simp [tokCells] at hu; rcases hu with rfl | rfl | rfl <;> rfl
                        · unfold maxLen; omega
                        · omega
                        · first | omega | (simp; omega)
                      · rw [decide_eq_false (by rw [hd]; decide), Bool.not_false] at d116
                        rw [decide_eq_true hd, Bool.not_true] at d102
                        clear hd
                        go_wp2_with fail
                        refine (wordly_any _ _).mono ?_
                        rintro e w' ⟨rfl, rfl⟩
                        rw [hwd]
                        go_wp2_with fail
                        refine (wordly_any _ _).mono ?_
                        rintro e w' ⟨rfl, rfl⟩
                        rw [hw2']
                        go_wp2_with (at_builtin; refine wpList_append_own _ rfl _ _ 42 rfl w.heap.size 47 i0 (.agg #[.int .i64 0, .string ⟨#[]⟩, .int .i64 0]) 3 32 Tryd.underlying42 hi hz0 hz1 hz2 rfl (by decide) _ _ _ rfl (HO.out.alloc _) ⟨wr.heap.size, 0, none⟩ 1 1 (tokCells ⟨7, s.extract k (k + 2), k⟩) rfl rfl ?_ ?_ ?_ ?_ ?_ ?_)
                        rotate_left 5
                        intro v' w3 hown' hgrow _
                        have hgB := HB.out.alloc hsz (.cells (tokCells ⟨7, s.extract k (k + 2), k⟩).toArray 47)
                        have hB3 := hgB.grown hgrow (by simp; omega) (fun b hb => (HO.out.lt b hb).1)
                        have HB3 := Lib.hid hB3
                        rw [← toksCells_snoc] at hown'
                        have HO3 := Lib.hid hown'
                        clear hgB hB3 hgrow hown'
                        go_wp2
                        exact ⟨⟨k + 2, acc ++ [⟨7, s.extract k (k + 2), k⟩], by omega, by go_num, by simp; omega, HQ2, by rw [List.length_append]; exact HO3.out, HB3.out⟩, by simp [intOf]; omega⟩
                        · intro j u hj
                          match j, hj with
                          | 0, hj => simp [tokCells] at hj; subst hj; simp [Addr.add]
                          | 1, hj => simp [tokCells] at hj; subst hj; simp [Addr.add]
                          | 2, hj => simp [tokCells] at hj; subst hj; simp [Addr.add]
                        · intro u hu; simp [tokCells] at hu; rcases hu with rfl | rfl | rfl <;> rfl
                        · unfold maxLen; omega
                        · omega
                        · first | omega | (simp; omega)
                    · have hge2 : (s.size : Int) ≤ (k : Int) + 2 := by omega
                      have hst : stepL (s[k] :: s.data.toList.drop (k + 1)) = .tok 7 [s[k], s[k + 1]] (s.data.toList.drop (k + 2)) := by
                        rw [hstep, hd1, boolL, if_pos]
                        simp [drop_none s (k + 2) hlt2, wordLen]
                        exact hd
                      rw [hdc, lexN_tok _ hbl h59 hst, Res.pre_pre, ← hdc, hdl, show s.size - (s.size - k) = k by omega, ← he2] at hq
                      have HQ2 := Lib.hid hq
                      clear hq HQ hdc hdl h59 h40 h41 h39 h35 hst hbl hstep hend hd1 he2 hw
                      rcases hd with hd | hd
                      · rw [decide_eq_true hd, Bool.not_true] at d116
                        clear hd d102
                        go_wp2_with fail
                        refine (wordly_any _ _).mono ?_
                        rintro e w' ⟨rfl, rfl⟩
                        rw [hwd]
                        go_wp2_with (at_builtin; refine wpList_append_own _ rfl _ _ 42 rfl w.heap.size 47 i0 (.agg #[.int .i64 0, .string ⟨#[]⟩, .int .i64 0]) 3 32 Tryd.underlying42 hi hz0 hz1 hz2 rfl (by decide) _ _ _ rfl (HO.out.alloc _) ⟨wr.heap.size, 0, none⟩ 1 1 (tokCells ⟨7, s.extract k (k + 2), k⟩) rfl rfl ?_ ?_ ?_ ?_ ?_ ?_)
                        rotate_left 5
                        intro v' w3 hown' hgrow _
                        have hgB := HB.out.alloc hsz (.cells (tokCells ⟨7, s.extract k (k + 2), k⟩).toArray 47)
                        have hB3 := hgB.grown hgrow (by simp; omega) (fun b hb => (HO.out.lt b hb).1)
                        have HB3 := Lib.hid hB3
                        rw [← toksCells_snoc] at hown'
                        have HO3 := Lib.hid hown'
                        clear hgB hB3 hgrow hown'
                        go_wp2
                        exact ⟨⟨k + 2, acc ++ [⟨7, s.extract k (k + 2), k⟩], by omega, by go_num, by simp; omega, HQ2, by rw [List.length_append]; exact HO3.out, HB3.out⟩, by simp [intOf]; omega⟩
                        · intro j u hj
                          match j, hj with
                          | 0, hj => simp [tokCells] at hj; subst hj; simp [Addr.add]
                          | 1, hj => simp [tokCells] at hj; subst hj; simp [Addr.add]
                          | 2, hj => simp [tokCells] at hj; subst hj; simp [Addr.add]
                        · intro u hu; simp [tokCells] at hu; rcases hu with rfl | rfl | rfl <;> rfl
                        · unfold maxLen; omega
                        · omega
                        · first | omega | (simp; omega)
                      · rw [decide_eq_false (by rw [hd]; decide), Bool.not_false] at d116
                        rw [decide_eq_true hd, Bool.not_true] at d102
                        clear hd
                        go_wp2_with fail
                        refine (wordly_any _ _).mono ?_
                        rintro e w' ⟨rfl, rfl⟩
                        rw [hwd]
                        go_wp2_with (at_builtin; refine wpList_append_own _ rfl _ _ 42 rfl w.heap.size 47 i0 (.agg #[.int .i64 0, .string ⟨#[]⟩, .int .i64 0]) 3 32 Tryd.underlying42 hi hz0 hz1 hz2 rfl (by decide) _ _ _ rfl (HO.out.alloc _) ⟨wr.heap.size, 0, none⟩ 1 1 (tokCells ⟨7, s.extract k (k + 2), k⟩) rfl rfl ?_ ?_ ?_ ?_ ?_ ?_)
                        rotate_left 5
                        intro v' w3 hown' hgrow _
                        have hgB := HB.out.alloc hsz (.cells (tokCells ⟨7, s.extract k (k + 2), k⟩).toArray 47)
                        have hB3 := hgB.grown hgrow (by simp; omega) (fun b hb => (HO.out.lt b hb).1)
                        have HB3 := Lib.hid hB3
                        rw [← toksCells_snoc] at hown'
                        have HO3 := Lib.hid hown'
                        clear hgB hB3 hgrow hown'
                        go_wp2
                        exact ⟨⟨k + 2, acc ++ [⟨7, s.extract k (k + 2), k⟩], by omega, by go_num, by simp; omega, HQ2, by rw [List.length_append]; exact HO3.out, HB3.out⟩, by simp [intOf]; omega⟩
                        · intro j u hj
                          match j, hj with
                          | 0, hj => simp [tokCells] at hj; subst hj; simp [Addr.add]
                          | 1, hj => simp [tokCells] at hj; subst hj; simp [Addr.add]
                          | 2, hj => simp [tokCells] at hj; subst hj; simp [Addr.add]
                        · intro u hu; simp [tokCells] at hu; rcases hu with rfl | rfl | rfl <;> rfl
                        · unfold maxLen; omega
                        · omega
                        · first | omega | (simp; omega)
                · have hn := not_or.1 hd
                  rw [decide_eq_false hn.1, Bool.not_false] at d116
                  rw [decide_eq_false hn.2, Bool.not_false] at d102
                  have hst : stepL (s[k] :: s.data.toList.drop (k + 1)) = .err (s[k] :: s.data.toList.drop (k + 1)) 2 := by
                    rw [hstep, hd1, boolL, if_neg]
                    simp
                    intro hx; exact absurd hx hd
                  rw [hdc, lexN_err _ hbl h59 hst, ← hdc, hdl, show s.size - (s.size - k) = k by omega] at hq
                  have HQ2 := Lib.hid hq
                  clear hq HQ hdc hdl h59 h40 h41 h39 h35 hst hbl hstep hend hd hn hd1
                  go_wp2_with fail
                  refine (wordly_any _ _).mono ?_
                  rintro e w' ⟨rfl, rfl⟩
                  rw [hwd]
                  go_wp2
                  go_ret3
                  refine ⟨?_, HB.out⟩
                  rw [HQ2.out]
                  rfl
            · rw [decide_eq_false h35] at e35
              have e34 : ((s[k].toNat : Int) != 34) = !decide (s[k] = 34) := congrArg (fun b => !b) (u8_eq s[k] 34)
              by_cases h34 : s[k] = 34
              · rw [decide_eq_true h34, Bool.not_true] at e34
                as_aux_lemma =>
                  have hstep : stepL (s[k] :: s.data.toList.drop (k + 1)) = quotedL (s.data.toList.drop k) (s.data.toList.drop (k + 1)) [] := by
                    rw [stepL, if_neg h40, if_neg h41, if_neg h39, if_neg h35, if_pos h34, ← hdc]
                  have Q := fun w => quoted_any s k hs hlt w
                  rw [← hstep] at Q
                  cases hst : stepL (s[k] :: s.data.toList.drop (k + 1)) with
                  | err p e =>
                    rw [hdc, lexN_err _ hbl h59 hst] at hq
                    rw [hst] at Q
                    have hcode := stepL_code _ _ _ _ hst
                    simp only [quoVal] at Q
                    have hne : ((e : Int) != 0) = true := by rw [bne_iff_ne]; omega
                    have HQ2 := Lib.hid hq
                    have HQu := Lib.hid Q
                    clear hq HQ hdc hdl h59 h40 h41 h39 h35 h34 hst hbl hstep Q hcode
                    go_wp2_with fail
                    refine (wordly_any _ _).mono ?_
                    rintro e w' ⟨rfl, rfl⟩
                    rw [hwd]
                    go_wp2_with fail
                    refine (HQu.out _).mono ?_
                    rintro e' w2 ⟨rfl, hb2⟩
                    go_wp2
                    go_ret3
                    refine ⟨?_, HB.out.trans (hb2.mono hsz)⟩
                    rw [HQ2.out]
                    rfl
                  | tok kd t r' =>
                    have hlt' := stepL_lt hst
                    obtain ⟨m, hm⟩ := stepL_suffix _ _ _ _ _ hst
                    have hr := rest_at hdc.symm hm
                    rw [show s.data.toList.length = s.size from Array.length_toList] at hr
                    have hk6 : kd = 6 := quotedL_kind _ _ _ _ (Nat.le_refl _) _ _ _ (hstep.symm.trans hst)
                    subst hk6
                    rw [hdc, lexN_tok _ hbl h59 hst, Res.pre_pre] at hq
                    rw [hst] at Q
                    rw [← hdc, hdl] at hq hlt'
                    obtain ⟨d, hd⟩ : ∃ d, d = r'.length := ⟨_, rfl⟩
                    simp only [quoVal] at Q
                    rw [← hd] at Q hr hlt'
                    rw [hr, show s.size - (s.size - k) = k by omega] at hq
                    have HQ2 := Lib.hid hq
                    have HQu := Lib.hid Q
                    clear hq HQ hdc hdl h59 h40 h41 h39 h35 h34 hst hbl hstep Q hd hr hm
                    go_wp2_with fail
                    refine (wordly_any _ _).mono ?_
                    rintro e w' ⟨rfl, rfl⟩
                    rw [hwd]
                    go_wp2_with fail
                    refine (HQu.out _).mono ?_
                    rintro e' w2 ⟨rfl, hb2⟩
                    have HOw := Lib.hid (own_below HO.out hb2)
                    have HBw := Lib.hid (HB.out.trans (hb2.mono hsz))
                    have hszw : w.heap.size ≤ w2.heap.size := Nat.le_trans hsz hb2.size
                    clear hb2
                    go_wp2_with (at_builtin; refine wpList_append_own _ rfl _ _ 42 rfl w.heap.size 47 i0 (.agg #[.int .i64 0, .string ⟨#[]⟩, .int .i64 0]) 3 32 Tryd.underlying42 hi hz0 hz1 hz2 rfl (by decide) _ _ _ rfl (HOw.out.alloc _) ⟨w2.heap.size, 0, none⟩ 1 1 (tokCells ⟨6, ⟨t.toArray⟩, k⟩) rfl rfl ?_ ?_ ?_ ?_ ?_ ?_)
                    rotate_left 5
                    intro v' w3 hown' hgrow _
                    have hgB := HBw.out.alloc hszw (.cells (tokCells ⟨6, ⟨t.toArray⟩, k⟩).toArray 47)
                    have hB3 := hgB.grown hgrow (by simp; omega) (fun b hb => (HO.out.lt b hb).1)
                    have HB3 := Lib.hid hB3
                    rw [← toksCells_snoc] at hown'
                    have HO3 := Lib.hid hown'
                    clear hgB hB3 hgrow hown'
                    go_wp2
                    exact ⟨⟨s.size - d, acc ++ [⟨6, ⟨t.toArray⟩, k⟩], by omega, rfl, by simp; omega, HQ2, by rw [List.length_append]; exact HO3.out, HB3.out⟩, by simp [intOf]; omega⟩
                    · intro j u hj
                      match j, hj with
                      | 0, hj => simp [tokCells] at hj; subst hj; simp [Addr.add]
                      | 1, hj => simp [tokCells] at hj; subst hj; simp [Addr.add]
                      | 2, hj => simp [tokCells] at hj; subst hj; simp [Addr.add]
                    · intro u hu; simp [tokCells] at hu; rcases hu with rfl | rfl | rfl <;> rfl
                    · unfold maxLen; omega
                    · omega
                    · first | omega | (simp; omega)
              · rw [decide_eq_false h34, Bool.not_false] at e34
                as_aux_lemma =>
                  have hst : stepL (s[k] :: s.data.toList.drop (k + 1)) = .err (s[k] :: s.data.toList.drop (k + 1)) 2 := by
                    rw [stepL, if_neg h40, if_neg h41, if_neg h39, if_neg h35, if_neg h34, wordL, if_pos]
                    simp [wordLen, wordB, hwd]
                  rw [hdc, lexN_err _ hbl h59 hst, ← hdc, hdl, show s.size - (s.size - k) = k by omega] at hq
                  have HQ2 := Lib.hid hq
                  clear hq HQ hdc hdl h59 h40 h41 h39 h35 h34 hst hbl
                  go_wp2_with (go_at_call 39; refine (wordly_any _ _).mono ?_; rintro e w' ⟨rfl, rfl⟩; rw [hwd])
                  go_ret3
                  refine ⟨?_, HB.out⟩
                  rw [HQ2.out]
                  rfl
          · have hwb : wordB s[k] = true := hwd
            as_aux_lemma =>
              obtain ⟨n, hn⟩ : ∃ n, n = wordLen (s.data.toList.drop k) := ⟨_, rfl⟩
              have hn1 : 0 < n := by rw [hn, hdc]; simp [wordLen, hwb]
              have hnle : k + n ≤ s.size := by have := wordLen_le (s.data.toList.drop k); omega
              have hst : stepL (s[k] :: s.data.toList.drop (k + 1)) = .tok (if isNum ((s.data.toList.drop k).take n) then 5 else 4) ((s.data.toList.drop k).take n) ((s.data.toList.drop k).drop n) := by
                have h35 : ¬ s[k] = 35 := fun h => by rw [h] at hwb; exact absurd hwb (by decide)
                have h34 : ¬ s[k] = 34 := fun h => by rw [h] at hwb; exact absurd hwb (by decide)
                rw [stepL, if_neg h40, if_neg h41, if_neg h39, if_neg h35, if_neg h34, wordL, ← hdc, ← hn, if_neg (by omega)]
              have he : (⟨((s.data.toList.drop k).take n).toArray⟩ : ByteArray) = s.extract k (k + n) := by
                refine ba_ext ?_
                rw [Lib.extract_data, show k + n - k = n by omega]
              have hel : (s.extract k (k + n)).data.toList = (s.data.toList.drop k).take n := by rw [← he]
              rw [hdc, lexN_tok _ hbl h59 hst, Res.pre_pre, ← hdc, hdl, show s.size - (s.size - k) = k by omega, he, List.drop_drop, ← hel] at hq
              have hes : (s.extract k (k + n)).size ≤ 100000 := by simp; omega
              have HN0 : Hid (k + n = k + wordLen (s.data.toList.drop k)) := by show _ = _; rw [hn]
              have N := number_any (s.extract k (k + n)) hes
              obtain ⟨b, hb⟩ : ∃ b, b = isNum (s.extract k (k + n)).data.toList := ⟨_, rfl⟩
              rw [← hb] at hq N
              have HNum := Lib.hid N
              have HQ1 := Lib.hid hq
              clear hq HQ hdc hdl hbl h59 h40 h41 h39 hn hst he hel hb N hes
              go_wp2_with (go_at_call 39; refine (wordly_any _ _).mono ?_; rintro e w' ⟨rfl, rfl⟩; rw [hwd])
              clear e32 e9 e10 e13 e59 e40 e41 e39
              obtain ⟨wo, rfl⟩ : ∃ wo : World, wo = wr := ⟨_, rfl⟩
              go_loop [6] (fun i => ∃ j : Nat, k ≤ j ∧ j ≤ k + n ∧ i = .int .i64 j ∧ Hid (k + n = j + wordLen (s.data.toList.drop j))) (fun i => s.size - (intOf i).toNat)
              case atStart => exact ⟨k, Nat.le_refl _, by omega, rfl, HN0⟩
              case round =>
                obtain ⟨j, hkj, hjn, rfl, HJ⟩ := hrel
                have hend : (j < s.size ∧ wordZ (s[j]!.toNat : Int) = true) ∨ (j < s.size ∧ wordZ (s[j]!.toNat : Int) = false ∧ j = k + n) ∨ (j = s.size ∧ j = k + n) := by
                  have hj := HJ.out
                  by_cases hjl : j < s.size
                  · rw [getElem!_pos s j hjl]
                    have hwa := wordLen_at s j hjl
                    cases hwj : wordB s[j]
                    · rw [hwj] at hwa
                      exact .inr (.inl ⟨hjl, hwj, by simp at hwa; omega⟩)
                    · exact .inl ⟨hjl, hwj⟩
                  · have := wordLen_end s j (by omega)
                    exact .inr (.inr ⟨by omega, by omega⟩)
                rcases hend with ⟨hjl, hwj⟩ | ⟨hjl, hwj, hje⟩ | ⟨hje0, hje⟩
                · rw [getElem!_pos s j hjl] at hwj
                  have hwa := wordLen_at s j hjl
                  rw [show wordB s[j] = true from hwj, if_pos rfl] at hwa
                  have hj := HJ.out
                  have HJ2 : Hid (k + n = j + 1 + wordLen (s.data.toList.drop (j + 1))) := by show _ = _; omega
                  clear hwa hj
                  go_wp2_with (go_at_call 39; refine (wordly_any _ _).mono ?_; rintro e w' ⟨rfl, rfl⟩; rw [hwj])
                  go_round
                  case rel => exact ⟨j + 1, by omega, by have := HJ2.out; omega, by go_num, HJ2⟩
                  case measure => simp [intOf]; omega
                · rw [getElem!_pos s j hjl] at hwj
                  have hje2 : k + n = j := hje.symm
                  rw [hje2] at HNum HQ1 hnle hjn
                  have hn2 : n = j - k := by omega
                  clear hje HJ HN0
                  have hkj' : k < j := by omega
                  clear hje2 hn2
                  cases b
                  · have hq := HQ1.out
                    have HQ2 : Hid (res = Res.pre (acc ++ [⟨4, s.extract k j, k⟩]) (lexN s.size (s.data.toList.drop j))) := hq
                    clear hq HQ1
                    go_wp2_with fail
                    refine (wordly_any _ _).mono ?_
                    rintro e w' ⟨rfl, rfl⟩
                    rw [hwj]
                    go_wp2_with fail
                    refine (HNum.out _).mono ?_
                    rintro e w' ⟨rfl, rfl⟩
                    go_wp2_with (at_builtin; refine wpList_append_own _ rfl _ _ 42 rfl w.heap.size 47 i0 (.agg #[.int .i64 0, .string ⟨#[]⟩, .int .i64 0]) 3 32 Tryd.underlying42 hi hz0 hz1 hz2 rfl (by decide) _ _ _ rfl (HO.out.alloc _) ⟨wo.heap.size, 0, none⟩ 1 1 (tokCells ⟨4, s.extract k j, k⟩) rfl rfl ?_ ?_ ?_ ?_ ?_ ?_)
                    rotate_left 5
                    intro v' w3 hown' hgrow _
                    have hgB := HB.out.alloc hsz (.cells (tokCells ⟨4, s.extract k j, k⟩).toArray 47)
                    have hB3 := hgB.grown hgrow (by simp; omega) (fun b hb => (HO.out.lt b hb).1)
                    have HB3 := Lib.hid hB3
                    rw [← toksCells_snoc] at hown'
                    have HO3 := Lib.hid hown'
                    clear hgB hB3 hgrow hown'
                    go_wp2
                    exact ⟨⟨j, acc ++ [⟨4, s.extract k j, k⟩], by omega, by go_num, by simp; omega, HQ2, by rw [List.length_append]; exact HO3.out, HB3.out⟩, by simp [intOf]; omega⟩
                    · intro j u hj
                      match j, hj with
                      | 0, hj => simp [tokCells] at hj; subst hj; simp [Addr.add]
                      | 1, hj => simp [tokCells] at hj; subst hj; simp [Addr.add]
                      | 2, hj => simp [tokCells] at hj; subst hj; simp [Addr.add]
                    · intro u hu; simp [tokCells] at hu; rcases hu with rfl | rfl | rfl <;> rfl
                    · unfold maxLen; omega
                    · omega
                    · first | omega | (simp; omega)
                  · have hq := HQ1.out
                    have HQ2 : Hid (res = Res.pre (acc ++ [⟨5, s.extract k j, k⟩]) (lexN s.size (s.data.toList.drop j))) := hq
                    clear hq HQ1
                    go_wp2_with fail
                    refine (wordly_any _ _).mono ?_
                    rintro e w' ⟨rfl, rfl⟩
                    rw [hwj]
                    go_wp2_with fail
                    refine (HNum.out _).mono ?_
                    rintro e w' ⟨rfl, rfl⟩
                    go_wp2_with (at_builtin; refine wpList_append_own _ rfl _ _ 42 rfl w.heap.size 47 i0 (.agg #[.int .i64 0, .string ⟨#[]⟩, .int .i64 0]) 3 32 Tryd.underlying42 hi hz0 hz1 hz2 rfl (by decide) _ _ _ rfl (HO.out.alloc _) ⟨wo.heap.size, 0, none⟩ 1 1 (tokCells ⟨5, s.extract k j, k⟩) rfl rfl ?_ ?_ ?_ ?_ ?_ ?_)
                    rotate_left 5
                    intro v' w3 hown' hgrow _
                    have hgB := HB.out.alloc hsz (.cells (tokCells ⟨5, s.extract k j, k⟩).toArray 47)
                    have hB3 := hgB.grown hgrow (by simp; omega) (fun b hb => (HO.out.lt b hb).1)
                    have HB3 := Lib.hid hB3
                    rw [← toksCells_snoc] at hown'
                    have HO3 := Lib.hid hown'
                    clear hgB hB3 hgrow hown'
                    go_wp2
                    exact ⟨⟨j, acc ++ [⟨5, s.extract k j, k⟩], by omega, by go_num, by simp; omega, HQ2, by rw [List.length_append]; exact HO3.out, HB3.out⟩, by simp [intOf]; omega⟩
                    · intro j u hj
                      match j, hj with
                      | 0, hj => simp [tokCells] at hj; subst hj; simp [Addr.add]
                      | 1, hj => simp [tokCells] at hj; subst hj; simp [Addr.add]
                      | 2, hj => simp [tokCells] at hj; subst hj; simp [Addr.add]
                    · intro u hu; simp [tokCells] at hu; rcases hu with rfl | rfl | rfl <;> rfl
                    · unfold maxLen; omega
                    · omega
                    · first | omega | (simp; omega)
                · have hje2 : k + n = j := hje.symm
                  rw [hje2] at HNum HQ1 hnle hjn
                  have hkj' : k < j := by omega
                  have hnlt : (s.size : Int) ≤ j := by omega
                  clear hje HJ HN0 hje0 hje2 hjn
                  cases b
                  · have hq := HQ1.out
                    have HQ2 : Hid (res = Res.pre (acc ++ [⟨4, s.extract k j, k⟩]) (lexN s.size (s.data.toList.drop j))) := hq
                    clear hq HQ1
                    go_wp2_with fail
                    refine (HNum.out _).mono ?_
                    rintro e w' ⟨rfl, rfl⟩
                    go_wp2_with (at_builtin; refine wpList_append_own _ rfl _ _ 42 rfl w.heap.size 47 i0 (.agg #[.int .i64 0, .string ⟨#[]⟩, .int .i64 0]) 3 32 Tryd.underlying42 hi hz0 hz1 hz2 rfl (by decide) _ _ _ rfl (HO.out.alloc _) ⟨wo.heap.size, 0, none⟩ 1 1 (tokCells ⟨4, s.extract k j, k⟩) rfl rfl ?_ ?_ ?_ ?_ ?_ ?_)
                    rotate_left 5
                    intro v' w3 hown' hgrow _
                    have hgB := HB.out.alloc hsz (.cells (tokCells ⟨4, s.extract k j, k⟩).toArray 47)
                    have hB3 := hgB.grown hgrow (by simp; omega) (fun b hb => (HO.out.lt b hb).1)
                    have HB3 := Lib.hid hB3
                    rw [← toksCells_snoc] at hown'
                    have HO3 := Lib.hid hown'
                    clear hgB hB3 hgrow hown'
                    go_wp2
                    exact ⟨⟨j, acc ++ [⟨4, s.extract k j, k⟩], by omega, by go_num, by simp; omega, HQ2, by rw [List.length_append]; exact HO3.out, HB3.out⟩, by simp [intOf]; omega⟩
                    · intro j u hj
                      match j, hj with
                      | 0, hj => simp [tokCells] at hj; subst hj; simp [Addr.add]
                      | 1, hj => simp [tokCells] at hj; subst hj; simp [Addr.add]
                      | 2, hj => simp [tokCells] at hj; subst hj; simp [Addr.add]
                    · intro u hu; simp [tokCells] at hu; rcases hu with rfl | rfl | rfl <;> rfl
                    · unfold maxLen; omega
                    · omega
                    · first | omega | (simp; omega)
                  · have hq := HQ1.out
                    have HQ2 : Hid (res = Res.pre (acc ++ [⟨5, s.extract k j, k⟩]) (lexN s.size (s.data.toList.drop j))) := hq
                    clear hq HQ1
                    go_wp2_with fail
                    refine (HNum.out _).mono ?_
                    rintro e w' ⟨rfl, rfl⟩
                    go_wp2_with (at_builtin; refine wpList_append_own _ rfl _ _ 42 rfl w.heap.size 47 i0 (.agg #[.int .i64 0, .string ⟨#[]⟩, .int .i64 0]) 3 32 Tryd.underlying42 hi hz0 hz1 hz2 rfl (by decide) _ _ _ rfl (HO.out.alloc _) ⟨wo.heap.size, 0, none⟩ 1 1 (tokCells ⟨5, s.extract k j, k⟩) rfl rfl ?_ ?_ ?_ ?_ ?_ ?_)
                    rotate_left 5
                    intro v' w3 hown' hgrow _
                    have hgB := HB.out.alloc hsz (.cells (tokCells ⟨5, s.extract k j, k⟩).toArray 47)
                    have hB3 := hgB.grown hgrow (by simp; omega) (fun b hb => (HO.out.lt b hb).1)
                    have HB3 := Lib.hid hB3
                    rw [← toksCells_snoc] at hown'
                    have HO3 := Lib.hid hown'
                    clear hgB hB3 hgrow hown'
                    go_wp2
                    exact ⟨⟨j, acc ++ [⟨5, s.extract k j, k⟩], by omega, by go_num, by simp; omega, HQ2, by rw [List.length_append]; exact HO3.out, HB3.out⟩, by simp [intOf]; omega⟩
                    · intro j u hj
                      match j, hj with
                      | 0, hj => simp [tokCells] at hj; subst hj; simp [Addr.add]
                      | 1, hj => simp [tokCells] at hj; subst hj; simp [Addr.add]
                      | 2, hj => simp [tokCells] at hj; subst hj; simp [Addr.add]
                    · intro u hu; simp [tokCells] at hu; rcases hu with rfl | rfl | rfl <;> rfl
                    · unfold maxLen; omega
                    · omega
                    · first | omega | (simp; omega)
      · have hq2 := hq
        rw [hdc, lexN_blank _ _ _ hbl] at hq2
        as_aux_lemma =>
          have HQ2 := Lib.hid hq2
          have hbb : s[k] = 32 ∨ (¬ s[k] = 32 ∧ s[k] = 9) ∨ (¬ s[k] = 32 ∧ ¬ s[k] = 9 ∧ s[k] = 10) ∨ (¬ s[k] = 32 ∧ ¬ s[k] = 9 ∧ ¬ s[k] = 10 ∧ s[k] = 13) := by
            simp [blankB] at hbl; grind
          clear hq hq2 HQ hdc hdl hbl
          rcases hbb with h | ⟨n1, h⟩ | ⟨n1, n2, h⟩ | ⟨n1, n2, n3, h⟩
          · rw [decide_eq_true h] at e32
            clear h  e9 e10 e13
            go_wp2
            exact ⟨⟨k + 1, acc, by omega, by go_num, by omega, HQ2, HO.out, HB.out⟩, by simp [intOf]; omega⟩
          · rw [decide_eq_false n1] at e32
            rw [decide_eq_true h] at e9
            clear h n1 e10 e13
            go_wp2
            exact ⟨⟨k + 1, acc, by omega, by go_num, by omega, HQ2, HO.out, HB.out⟩, by simp [intOf]; omega⟩
          · rw [decide_eq_false n1] at e32
            rw [decide_eq_false n2] at e9
            rw [decide_eq_true h] at e10
            clear h n1 n2 e13
            go_wp2
            exact ⟨⟨k + 1, acc, by omega, by go_num, by omega, HQ2, HO.out, HB.out⟩, by simp [intOf]; omega⟩
          · rw [decide_eq_false n1] at e32
            rw [decide_eq_false n2] at e9
            rw [decide_eq_false n3] at e10
            rw [decide_eq_true h] at e13
            clear h n1 n2 n3 
            go_wp2
            exact ⟨⟨k + 1, acc, by omega, by go_num, by omega, HQ2, HO.out, HB.out⟩, by simp [intOf]; omega⟩
    · have hq := HQ.out
      rw [drop_none s k hlt, lexN_nil] at hq
      have HQ2 := Lib.hid hq
      clear hq HQ
      go_wp2
      go_ret3
      refine ⟨?_, HB.out⟩
      rw [HQ2.out]
      exact ⟨_, rfl, Toks.of_own (B := w.heap.size) (e := 47) (by simpa using HO.out) (by simp [maxLen]; omega)⟩
end Go.Proofs.YtghgjefobfaodaaDoor

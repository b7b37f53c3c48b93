import Derived.Test.YtghgjefobfaodaaDoorLexD
namespace Go.Proofs.YtghgjefobfaodaaDoor
open Go.RowKit

theorem stpVal_shape (N a : Nat) (st : Stp) : ∃ (k : Int) (t : ByteArray) (p e c : Int), stpVal N a st = .tuple #[.agg #[.int .i64 k, .string t, .int .i64 p], .int .i64 e, .int .i64 c] := by
  cases st <;> exact ⟨_, _, _, _, _, rfl⟩

set_option maxRecDepth 100000 in
set_option maxHeartbeats 2000000 in
theorem next_any (s : ByteArray) (a : Nat) (hs : s.size ≤ 300000) (ha : a < s.size) (w : World) :
    Calls Tryd.prog 35 #[.string s, .int .i64 a] w fun e w' => e = .returned (stpVal s.size a (stepL (s.data.toList.drop a))) ∧ Below w.heap.size w w' := by
  have hdc := drop_cons s a ha
  have hdl : (s.data.toList.drop a).length = s.size - a := by simp
  have he : s.extract a (a + 1) = ⟨#[s[a]]⟩ := by
    refine ba_ext ?_
    rw [Lib.extract_data, show a + 1 - a = 1 by omega, hdc]
    rfl
  have e40 : ((s[a].toNat : Int) == 40) = decide (s[a] = 40) := u8_eq _ 40
  have e41 : ((s[a].toNat : Int) == 41) = decide (s[a] = 41) := u8_eq _ 41
  have e39 : ((s[a].toNat : Int) == 39) = decide (s[a] = 39) := u8_eq _ 39
  have e35 : ((s[a].toNat : Int) == 35) = decide (s[a] = 35) := u8_eq _ 35
  have e34 : ((s[a].toNat : Int) == 34) = decide (s[a] = 34) := u8_eq _ 34
  have hstep := stepL.eq_2 s[a] (s.data.toList.drop (a + 1))
  rw [← hdc] at hstep
  rw [hstep]
  have HE := Lib.hid he
  rw [hdc, List.length_cons] at hdl
  have HL := Lib.hid hdl
  clear hstep he
  by_cases h40 : s[a] = 40
  · rw [if_pos h40]
    rw [decide_eq_true h40] at e40
    clear e41 e39 e35 e34
    clear hdc hdl h40
    go_enter Tryd.func35, Tryd.ntmps35
    go_wp2_with fail
    refine (cut_int s a (a + 1) _ _ _ rfl (by omega) hs (by omega) (by omega) _).mono ?_
    rintro e w1 ⟨rfl, hb1⟩
    obtain ⟨hc, hf⟩ := bcell hb1
    go_wp2
    refine bodyPost_ret (v := .tuple #[.agg #[.int .i64 1, .string (s.extract a (a + 1)), .int .i64 a], .int .i64 (a + 1 : Int), .int .i64 0]) (by simp [results, Tryd.results35, go_sem, hc]) rfl ⟨ret_eq ?_, (((((Below.refl _ _).alloc (Nat.le_refl _) _).trans (hb1.mono (by simp))).setCell (by simp) _).setCell (by simp) _).setCell (by simp) _⟩
    rw [HE.out]
    have hl := HL.out
    show _ = Value.tuple #[_, .int .i64 ((s.size - (s.data.toList.drop (a + 1)).length : Nat) : Int), _]
    rw [show s.size - (s.data.toList.drop (a + 1)).length = a + 1 by omega]
    rfl
  rw [if_neg h40]
  rw [decide_eq_false h40] at e40
  clear h40
  by_cases h41 : s[a] = 41
  · rw [if_pos h41]
    rw [decide_eq_true h41] at e41
    clear e39 e35 e34
    clear hdc hdl h41
    go_enter Tryd.func35, Tryd.ntmps35
    go_wp2_with fail
    refine (cut_int s a (a + 1) _ _ _ rfl (by omega) hs (by omega) (by omega) _).mono ?_
    rintro e w1 ⟨rfl, hb1⟩
    obtain ⟨hc, hf⟩ := bcell hb1
    go_wp2
    refine bodyPost_ret (v := .tuple #[.agg #[.int .i64 2, .string (s.extract a (a + 1)), .int .i64 a], .int .i64 (a + 1 : Int), .int .i64 0]) (by simp [results, Tryd.results35, go_sem, hc]) rfl ⟨ret_eq ?_, (((((Below.refl _ _).alloc (Nat.le_refl _) _).trans (hb1.mono (by simp))).setCell (by simp) _).setCell (by simp) _).setCell (by simp) _⟩
    rw [HE.out]
    have hl := HL.out
    show _ = Value.tuple #[_, .int .i64 ((s.size - (s.data.toList.drop (a + 1)).length : Nat) : Int), _]
    rw [show s.size - (s.data.toList.drop (a + 1)).length = a + 1 by omega]
    rfl
  rw [if_neg h41]
  rw [decide_eq_false h41] at e41
  clear h41
  by_cases h39 : s[a] = 39
  · rw [if_pos h39]
    rw [decide_eq_true h39] at e39
    clear e35 e34
    clear hdc hdl h39
    go_enter Tryd.func35, Tryd.ntmps35
    go_wp2_with fail
    refine (cut_int s a (a + 1) _ _ _ rfl (by omega) hs (by omega) (by omega) _).mono ?_
    rintro e w1 ⟨rfl, hb1⟩
    obtain ⟨hc, hf⟩ := bcell hb1
    go_wp2
    refine bodyPost_ret (v := .tuple #[.agg #[.int .i64 3, .string (s.extract a (a + 1)), .int .i64 a], .int .i64 (a + 1 : Int), .int .i64 0]) (by simp [results, Tryd.results35, go_sem, hc]) rfl ⟨ret_eq ?_, (((((Below.refl _ _).alloc (Nat.le_refl _) _).trans (hb1.mono (by simp))).setCell (by simp) _).setCell (by simp) _).setCell (by simp) _⟩
    rw [HE.out]
    have hl := HL.out
    show _ = Value.tuple #[_, .int .i64 ((s.size - (s.data.toList.drop (a + 1)).length : Nat) : Int), _]
    rw [show s.size - (s.data.toList.drop (a + 1)).length = a + 1 by omega]
    rfl
  rw [if_neg h39]
  rw [decide_eq_false h39] at e39
  clear h39
  by_cases h35 : s[a] = 35
  · rw [if_pos h35]
    rw [decide_eq_true h35] at e35
    clear e34
    rw [h35] at hdc ⊢
    clear h35
    obtain ⟨k, t, p, e, c, hv⟩ := stpVal_shape s.size a (boolL 35 (s.data.toList.drop (a + 1)))
    have C := fun w => boolean_any s a hs ha hdc w
    rw [hv] at C ⊢
    have HC := Lib.hid C
    clear C hv hdc hdl
    go_enter Tryd.func35, Tryd.ntmps35
    go_wp2_with fail
    refine (HC.out _).mono ?_
    rintro e w1 ⟨rfl, hb1⟩
    obtain ⟨hc, hf⟩ := bcell hb1
    go_wp2
    exact bodyPost_ret (v := .tuple #[.agg #[.int .i64 k, .string t, .int .i64 p], .int .i64 e, .int .i64 c]) (by simp [results, Tryd.results35, go_sem, hc]) rfl ⟨rfl, (((((Below.refl _ _).alloc (Nat.le_refl _) _).trans (hb1.mono (by simp))).setCell (by simp) _).setCell (by simp) _).setCell (by simp) _⟩
  rw [if_neg h35]
  rw [decide_eq_false h35] at e35
  clear h35
  by_cases h34 : s[a] = 34
  · rw [if_pos h34]
    rw [decide_eq_true h34] at e34
    clear h34
    obtain ⟨k, t, p, e, c, hv⟩ := stpVal_shape s.size a (quotedL (s.data.toList.drop a) (s.data.toList.drop (a + 1)) [])
    have C := fun w => literal_any s a hs ha w
    rw [hv] at C ⊢
    have HC := Lib.hid C
    clear C hv hdc hdl
    go_enter Tryd.func35, Tryd.ntmps35
    go_wp2_with fail
    refine (HC.out _).mono ?_
    rintro e w1 ⟨rfl, hb1⟩
    obtain ⟨hc, hf⟩ := bcell hb1
    go_wp2
    exact bodyPost_ret (v := .tuple #[.agg #[.int .i64 k, .string t, .int .i64 p], .int .i64 e, .int .i64 c]) (by simp [results, Tryd.results35, go_sem, hc]) rfl ⟨rfl, (((((Below.refl _ _).alloc (Nat.le_refl _) _).trans (hb1.mono (by simp))).setCell (by simp) _).setCell (by simp) _).setCell (by simp) _⟩
  rw [if_neg h34]
  rw [decide_eq_false h34] at e34
  clear h34
  obtain ⟨k, t, p, e, c, hv⟩ := stpVal_shape s.size a (wordL (s.data.toList.drop a))
  have C := fun w => word_any s a hs ha w
  rw [hv] at C ⊢
  have HC := Lib.hid C
  clear C hv hdc hdl
  go_enter Tryd.func35, Tryd.ntmps35
  go_wp2_with fail
  refine (HC.out _).mono ?_
  rintro e w1 ⟨rfl, hb1⟩
  obtain ⟨hc, hf⟩ := bcell hb1
  go_wp2
  exact bodyPost_ret (v := .tuple #[.agg #[.int .i64 k, .string t, .int .i64 p], .int .i64 e, .int .i64 c]) (by simp [results, Tryd.results35, go_sem, hc]) rfl ⟨rfl, (((((Below.refl _ _).alloc (Nat.le_refl _) _).trans (hb1.mono (by simp))).setCell (by simp) _).setCell (by simp) _).setCell (by simp) _⟩
end Go.Proofs.YtghgjefobfaodaaDoor

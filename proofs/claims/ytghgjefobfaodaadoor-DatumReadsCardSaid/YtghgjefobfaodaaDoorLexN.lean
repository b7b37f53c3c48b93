import Derived.Test.YtghgjefobfaodaaDoorLexM
import Derived.Lib.SmallJoins
namespace Go.Proofs.YtghgjefobfaodaaDoor
open Go.RowKit

theorem str_app (acc : List UInt8) (b : ByteArray) : Value.string ((⟨acc.toArray⟩ : ByteArray) ++ b) = .string ⟨(acc ++ b.data.toList).toArray⟩ := by
  congr 1

theorem ext_byte (s : ByteArray) (k : Nat) (h : k < s.size) : (s.extract k (k + 1)).data.toList = [s[k]] := by
  rw [Lib.extract_data, show k + 1 - k = 1 by omega, drop_cons s k h]
  rfl

set_option maxRecDepth 100000 in
set_option maxHeartbeats 1000000 in
theorem text_none (a : Option Addr) (c : Nat) (w : World) :
    Calls Tryd.prog 58 #[.slice a 0 c] w fun e w' => e = .returned (textVal []) ∧ Below w.heap.size w w' := by
  have HBN := Lib.hid (builder_new w)
  go_enter Tryd.func58, Tryd.ntmps58
  go_wp2
  refine wp_loop_rounds 1 ?_
  rw [rounds_succ]
  have hb0 : Below w.heap.size w (w.alloc (.cells #[.pointer none, .slice none 0 0] 54)) := (Below.refl _ _).alloc (Nat.le_refl _) _
  have HB0 := Lib.hid hb0
  have S := Tryd.Builder_String_any w.heap.size w.heap.size [] (w.alloc (.cells #[.pointer none, .slice none 0 0] 54)) HBN.out (by simp)
  have HS := Lib.hid S
  clear hb0 S
  go_wp2_with fail
  refine HS.out.mono ?_
  rintro e w4 ⟨rfl, hb4⟩
  have HB4 := Lib.hid hb4
  clear hb4
  go_wp2
  go_ret2
  exact ⟨rfl, HB0.out.trans HB4.out⟩

theorem text_any (v : Value) (l : List Tok) (hf : Few l) (w : World) (h : Toks w v l) :
    Calls Tryd.prog 58 #[v] w fun e w' => e = .returned (textVal l) ∧ Below w.heap.size w w' := by
  rcases h with ⟨rfl, a, c, rfl⟩ | ⟨b, off, cap, rfl, hb, _, hc⟩
  · exact text_none a c w
  · exact text_some b off cap l hf w hb hc

set_option maxRecDepth 100000 in
set_option maxHeartbeats 1000000 in
theorem one_word (k p : Int) (t : ByteArray) (hk : (k == 6) = false) (w : World) :
    Calls Tryd.prog 60 #[.agg #[.int .i64 k, .string t, .int .i64 p]] w fun e w' => e = .returned (.string t) ∧ Below w.heap.size w w' := by
  have hk' : (k != 6) = true := by rw [bne, hk]; rfl
  go_enter Tryd.func60, Tryd.ntmps60
  go_wp2
  go_ret
  exact ⟨rfl, (Below.refl _ _).alloc (Nat.le_refl _) _⟩

set_option maxRecDepth 100000 in
set_option maxHeartbeats 2000000 in
theorem one_str (p : Int) (t : ByteArray) (ht : t.size ≤ 100000) (w : World) :
    Calls Tryd.prog 60 #[.agg #[.int .i64 6, .string t, .int .i64 p]] w fun e w' => e = .returned (.string ⟨(spellL 6 t).toArray⟩) ∧ Below w.heap.size w w' := by
  obtain ⟨w0, hw0⟩ : ∃ w0, w0 = w.alloc (.cells #[.int .i64 6, .string t, .int .i64 p] 47) := ⟨_, rfl⟩
  have hb0 : Below w.heap.size w w0 := by rw [hw0]; exact (Below.refl _ _).alloc (Nat.le_refl _) _
  have hc1 : w0.cell? ⟨w.heap.size, 1, none⟩ = some (.string t) := by rw [hw0]; simp [go_sem]
  have HB0 := Lib.hid hb0
  go_enter Tryd.func60, Tryd.ntmps60
  go_wp2
  rw [← hw0]
  clear hw0 hb0
  go_loop [3, 4] (fun o i => ∃ (k : Nat) (X : List UInt8), k ≤ t.size ∧ i = .int .i64 k ∧ o = .string ⟨X.toArray⟩ ∧ Hid (X = 34 :: escL (t.data.toList.take k))) (fun _ i => t.size - (intOf i).toNat)
  case atStart => exact ⟨0, [34], Nat.zero_le _, rfl, rfl, Lib.hid rfl⟩
  case round =>
    obtain ⟨k, X, hk, rfl, rfl, HX⟩ := hrel
    have hXl : X.length ≤ 300000 := by
      have := escL_take_len t k
      rw [HX.out, List.length_cons]; omega
    by_cases hlt : k < t.size
    · have hsn := escL_snoc t k hlt
      have e10 : ((t[k].toNat : Int) == 10) = decide (t[k] = 10) := u8_eq _ 10
      have e34 : ((t[k].toNat : Int) == 34) = decide (t[k] = 34) := u8_eq _ 34
      have e92 : ((t[k].toNat : Int) == 92) = decide (t[k] = 92) := u8_eq _ 92
      have hY : 34 :: escL (t.data.toList.take (k + 1)) = X ++ escC t[k] := by rw [HX.out, hsn]; rfl
      have HE : Hid ((t.extract k (k + 1)).data.toList = [t[k]]) := ext_byte t k hlt
      clear hsn
      by_cases h10 : t[k] = 10
      · rw [decide_eq_true h10] at e10
        have HY : Hid (34 :: escL (t.data.toList.take (k + 1)) = X ++ [92, 110]) := by show _ = _; rw [hY, h10]; rfl
        clear e34 e92 h10 hY
        go_wp2
        exact ⟨⟨k + 1, X ++ [92, 110], by omega, by go_num, str_app _ _, Lib.hid HY.out.symm⟩, by simp [intOf]; omega⟩
      · rw [decide_eq_false h10] at e10
        by_cases hq : t[k] = 34 ∨ t[k] = 92
        · have HY : Hid (34 :: escL (t.data.toList.take (k + 1)) = (X ++ [92]) ++ [t[k]]) := by
            show _ = _
            rw [hY, List.append_assoc]; congr 1
            unfold escC
            rw [if_neg h10, if_pos (by simpa using hq)]
            rfl
          have hh : (t[k] = 34) ∨ (¬ t[k] = 34 ∧ t[k] = 92) := by
            rcases hq with h | h
            · exact .inl h
            · exact .inr ⟨by rw [h]; decide, h⟩
          clear h10 hY hq
          have HS : Hid (Value.string ((⟨X.toArray⟩ ++ ⟨#[92]⟩ : ByteArray) ++ t.extract k (k + 1)) = .string ⟨((X ++ [92]) ++ [t[k]]).toArray⟩) := by
            show _ = _
            congr 1
            refine ba_ext ?_
            rw [Go.Joins.data_append, Go.Joins.data_append, HE.out]
          rcases hh with hh | ⟨hh0, hh⟩
          · rw [decide_eq_true hh] at e34
            clear hh e92
            go_wp2
            exact ⟨⟨k + 1, (X ++ [92]) ++ [t[k]], by omega, by go_num, HS.out, Lib.hid HY.out.symm⟩, by simp [intOf]; omega⟩
          · rw [decide_eq_true hh] at e92
            rw [decide_eq_false hh0] at e34
            clear hh hh0
            go_wp2
            exact ⟨⟨k + 1, (X ++ [92]) ++ [t[k]], by omega, by go_num, HS.out, Lib.hid HY.out.symm⟩, by simp [intOf]; omega⟩
        · have hn := not_or.1 hq
          rw [decide_eq_false hn.1] at e34
          rw [decide_eq_false hn.2] at e92
          have HY : Hid (34 :: escL (t.data.toList.take (k + 1)) = X ++ [t[k]]) := by
            show _ = _
            rw [hY]; congr 1
            unfold escC
            rw [if_neg h10, if_neg (by simpa using hq)]
          clear h10 hY hq hn
          go_wp2
          exact ⟨⟨k + 1, X ++ [t[k]], by omega, by go_num, by rw [str_app, HE.out], Lib.hid HY.out.symm⟩, by simp [intOf]; omega⟩
    · have HA := Lib.hid (escL_take_all t k hlt)
      go_wp2
      go_ret
      refine ⟨ret_eq ?_, HB0.out⟩
      rw [str_app, HX.out, HA.out]
      rfl
theorem one_any (k p : Int) (t : ByteArray) (ht : t.size ≤ 100000) (w : World) :
    Calls Tryd.prog 60 #[.agg #[.int .i64 k, .string t, .int .i64 p]] w fun e w' => e = .returned (.string ⟨(spellL k t).toArray⟩) ∧ Below w.heap.size w w' := by
  by_cases h : k = 6
  · subst h; exact one_str p t ht w
  · have : (⟨(spellL k t).toArray⟩ : ByteArray) = t := by unfold spellL; rw [if_neg h]
    rw [this]
    exact one_word k p t (by simpa using h) w
end Go.Proofs.YtghgjefobfaodaaDoor

import Derived.Test.YtghgjefobfaodaaDoorLexI
namespace Go.Proofs.YtghgjefobfaodaaDoor
open Go.RowKit

def escC (c : UInt8) : List UInt8 := if c = 10 then [92, 110] else if c = 34 || c = 92 then [92, c] else [c]
def escL (l : List UInt8) : List UInt8 := l.flatMap escC
/-- a token's bytes -/
def spellL (k : Int) (t : ByteArray) : List UInt8 := if k = 6 then 34 :: (escL t.data.toList ++ [34]) else t.data.toList
theorem escC_len (c : UInt8) : (escC c).length ≤ 2 := by unfold escC; split <;> (try split) <;> simp
theorem escL_len (l : List UInt8) : (escL l).length ≤ 2 * l.length := by
  induction l with
  | nil => simp [escL]
  | cons c r ih =>
    have : escL (c :: r) = escC c ++ escL r := rfl
    rw [this, List.length_append]
    have := escC_len c
    simp only [List.length_cons]; omega
theorem escL_snoc (t : ByteArray) (k : Nat) (h : k < t.size) : escL (t.data.toList.take (k + 1)) = escL (t.data.toList.take k) ++ escC t[k] := by
  unfold escL
  rw [List.take_succ_eq_append_getElem (by simpa using h), List.flatMap_append]
  simp; rfl
theorem escL_take_len (t : ByteArray) (k : Nat) : (escL (t.data.toList.take k)).length ≤ 2 * t.size := by
  have h1 := escL_len (t.data.toList.take k)
  have h2 : (t.data.toList.take k).length ≤ t.size := by simp; omega
  omega
theorem escL_take_all (t : ByteArray) (k : Nat) (h : ¬ k < t.size) : escL (t.data.toList.take k) = escL t.data.toList := by
  rw [List.take_of_length_le (by simp; omega)]

set_option maxRecDepth 100000 in
set_option maxHeartbeats 1000000 in
theorem spell_word (k p : Int) (t : ByteArray) (hk : (k == 6) = false) (w : World) :
    Calls Tryd.prog 66 #[.agg #[.int .i64 k, .string t, .int .i64 p]] w fun e w' => e = .returned (.string t) ∧ Below w.heap.size w w' := by
  have hk' : (k != 6) = true := by rw [bne, hk]; rfl
  go_enter Tryd.func66, Tryd.ntmps66
  go_wp2
  go_ret
  exact ⟨rfl, (Below.refl _ _).alloc (Nat.le_refl _) _⟩

set_option maxRecDepth 100000 in
set_option maxHeartbeats 1000000 in
theorem spell_str (p : Int) (t : ByteArray) (ht : t.size ≤ 100000) (w : World) :
    Calls Tryd.prog 66 #[.agg #[.int .i64 6, .string t, .int .i64 p]] w fun e w' => e = .returned (.string ⟨(spellL 6 t).toArray⟩) ∧ Below w.heap.size w w' := by
  obtain ⟨w0, hw0⟩ : ∃ w0, w0 = w.alloc (.cells #[.int .i64 6, .string t, .int .i64 p] 61) := ⟨_, rfl⟩
  have hz0 : w0.heap.size = w.heap.size + 1 := by rw [hw0]; simp
  have hb0 : Below w.heap.size w w0 := by rw [hw0]; exact (Below.refl _ _).alloc (Nat.le_refl _) _
  have hbn := builder_new w0
  have hc1 : w0.cell? ⟨w.heap.size, 1, none⟩ = some (.string t) := by rw [hw0]; simp [go_sem]
  have HC1 := Lib.hid hc1
  have HZ := Lib.hid hz0
  have HB0 := Lib.hid hb0
  rw [hz0] at hbn
  have HBN := Lib.hid hbn
  clear hbn hz0 hc1 hb0
  go_enter Tryd.func66, Tryd.ntmps66
  go_wp2_with fail
  rw [← hw0]
  clear hw0
  refine (writeByte (w.heap.size + 1) (w.heap.size + 1) (Lib.byteCells []) 34 _ HBN.out (by simp [Lib.byteCells]) (by simp [HZ.out])).mono ?_
  rintro e w1 ⟨rfl, hI1, hb1⟩
  have hI : Lib.IsBuilder 54 5 (w.heap.size + 1) (w.heap.size + 1) (Lib.byteCells (34 :: escL (t.data.toList.take 0))) w1 := .inr hI1
  have hB1 : Below (w.heap.size + 1) w0 w1 := ((Below.refl _ _).alloc (by rw [HZ.out]; omega) _).trans hb1
  have hs1 := hB1.size
  rw [HZ.out] at hs1
  have hcx := (hB1.cell (p := ⟨w.heap.size, 1, none⟩) (Nat.lt_succ_self _)).trans HC1.out
  have HI := Lib.hid hI
  have HB1 := Lib.hid hB1
  clear hI hB1 hI1 hb1 HBN
  go_wp2
  go_loopw [15] (fun i wr => ∃ k : Nat, k ≤ t.size ∧ i = .int .i64 k ∧ Hid (Lib.IsBuilder 54 5 (w.heap.size + 1) (w.heap.size + 1) (Lib.byteCells (34 :: escL (t.data.toList.take k))) wr) ∧ Hid (Below (w.heap.size + 1) w0 wr) ∧ w.heap.size + 1 ≤ wr.heap.size) (fun i _ => t.size - (intOf i).toNat)
  case atStart => exact ⟨0, Nat.zero_le _, rfl, HI, HB1, hs1⟩
  case round =>
    obtain ⟨k, hk, rfl, HI, HB, hsz⟩ := hrel
    have hcx := (HB.out.cell (p := ⟨w.heap.size, 1, none⟩) (Nat.lt_succ_self _)).trans HC1.out
    have hlen : (Lib.byteCells (34 :: escL (t.data.toList.take k))).length ≤ 1000000 := by
      rw [Lib.byteCells_length]
      have := escL_take_len t k
      simp only [List.length_cons]; omega
    by_cases hlt : k < t.size
    · have hsn := escL_snoc t k hlt
      have e10 : ((t[k].toNat : Int) == 10) = decide (t[k] = 10) := u8_eq _ 10
      have e34 : ((t[k].toNat : Int) == 34) = decide (t[k] = 34) := u8_eq _ 34
      have e92 : ((t[k].toNat : Int) == 92) = decide (t[k] = 92) := u8_eq _ 92
      obtain ⟨X, hX⟩ : ∃ X, X = 34 :: escL (t.data.toList.take k) := ⟨_, rfl⟩
      have hY : 34 :: escL (t.data.toList.take (k + 1)) = X ++ escC t[k] := by rw [hX, hsn]; rfl
      rw [← hX] at HI hlen
      have HL := Lib.hid hlen
      clear hsn hX hlen
      by_cases h10 : t[k] = 10
      · rw [decide_eq_true h10] at e10
        have HY : Hid (34 :: escL (t.data.toList.take (k + 1)) = X ++ [92, 110]) := by show _ = _; rw [hY, h10]; rfl
        have W := writeString (w.heap.size + 1) (w.heap.size + 1) (Lib.byteCells X) ⟨#[92, 110]⟩ wr HI.out (by have := HL.out; show _ + 2 ≤ _; omega) hsz
        have HW := Lib.hid W
        clear W e34 e92 h10 hY HI
        go_wp2_with fail
        refine HW.out.mono ?_
        rintro e w3 ⟨rfl, hI3, hb3⟩
        have HI3 := Lib.hid hI3
        have HB3 := Lib.hid hb3
        have hs3 := hb3.size
        clear hI3 hb3
        go_wp2
        go_roundw
        case rel => exact ⟨k + 1, by omega, by go_num, Lib.hid (by rw [HY.out, Lib.byteCells_append]; exact .inr HI3.out), Lib.hid (HB.out.trans HB3.out), by omega⟩
        case measure => simp [intOf]; omega
      · rw [decide_eq_false h10] at e10
        by_cases hq : t[k] = 34 ∨ t[k] = 92
        · have HY : Hid (34 :: escL (t.data.toList.take (k + 1)) = (X ++ [92]) ++ [t[k]]) := by
            show _ = _
            rw [hY, List.append_assoc]; congr 1
            unfold escC
            rw [if_neg h10, if_pos (by simpa using hq)]
            rfl
          have W := writeByte (w.heap.size + 1) (w.heap.size + 1) (Lib.byteCells X) 92 wr HI.out (by have := HL.out; omega) hsz
          have W2 := fun w' h1 h2 => writeByte (w.heap.size + 1) (w.heap.size + 1) (Lib.byteCells (X ++ [92])) (t[k].toNat : Int) w' h1 (by have := HL.out; rw [Lib.byteCells_length] at *; simp; omega) h2
          have HW := Lib.hid W
          have HW2 := Lib.hid W2
          have hh : (t[k] = 34) ∨ (¬ t[k] = 34 ∧ t[k] = 92) := by
            rcases hq with h | h
            · exact .inl h
            · exact .inr ⟨by rw [h]; decide, h⟩
          clear W W2 h10 hY HI hq
          rcases hh with hh | ⟨hh0, hh⟩
          · rw [decide_eq_true hh] at e34
            clear hh e92
            go_wp2_with fail
            refine HW.out.mono ?_
            rintro e w3 ⟨rfl, hI3, hb3⟩
            have hs3 := hb3.size
            have hcx3 := (hb3.cell (p := ⟨w.heap.size, 1, none⟩) (Nat.lt_succ_self _)).trans hcx
            have hI3' : Lib.IsBuilder 54 5 (w.heap.size + 1) (w.heap.size + 1) (Lib.byteCells (X ++ [92])) w3 := by rw [Lib.byteCells_append]; exact .inr hI3
            have HI3 := Lib.hid hI3'
            have HB3 := Lib.hid hb3
            clear hI3 hb3 hI3'
            go_wp2_with fail
            refine (HW2.out _ HI3.out (by omega)).mono ?_
            rintro e w4 ⟨rfl, hI4, hb4⟩
            have HI4 := Lib.hid hI4
            have HB4 := Lib.hid hb4
            have hs4 := hb4.size
            clear hI4 hb4
            go_wp2
            go_roundw
            case rel => exact ⟨k + 1, by omega, by go_num, Lib.hid (by rw [HY.out, byteCells_snoc]; exact .inr HI4.out), Lib.hid ((HB.out.trans HB3.out).trans HB4.out), by omega⟩
            case measure => simp [intOf]; omega
          · rw [decide_eq_true hh] at e92
            rw [decide_eq_false hh0] at e34
            clear hh hh0
            go_wp2_with fail
            refine HW.out.mono ?_
            rintro e w3 ⟨rfl, hI3, hb3⟩
            have hs3 := hb3.size
            have hcx3 := (hb3.cell (p := ⟨w.heap.size, 1, none⟩) (Nat.lt_succ_self _)).trans hcx
            have hI3' : Lib.IsBuilder 54 5 (w.heap.size + 1) (w.heap.size + 1) (Lib.byteCells (X ++ [92])) w3 := by rw [Lib.byteCells_append]; exact .inr hI3
            have HI3 := Lib.hid hI3'
            have HB3 := Lib.hid hb3
            clear hI3 hb3 hI3'
            go_wp2_with fail
            refine (HW2.out _ HI3.out (by omega)).mono ?_
            rintro e w4 ⟨rfl, hI4, hb4⟩
            have HI4 := Lib.hid hI4
            have HB4 := Lib.hid hb4
            have hs4 := hb4.size
            clear hI4 hb4
            go_wp2
            go_roundw
            case rel => exact ⟨k + 1, by omega, by go_num, Lib.hid (by rw [HY.out, byteCells_snoc]; exact .inr HI4.out), Lib.hid ((HB.out.trans HB3.out).trans HB4.out), by omega⟩
            case measure => simp [intOf]; omega
        · have hn := not_or.1 hq
          rw [decide_eq_false hn.1] at e34
          rw [decide_eq_false hn.2] at e92
          have HY : Hid (34 :: escL (t.data.toList.take (k + 1)) = X ++ [t[k]]) := by
            show _ = _
            rw [hY]; congr 1
            unfold escC
            rw [if_neg h10, if_neg (by simpa using hq)]
          have W := writeByte (w.heap.size + 1) (w.heap.size + 1) (Lib.byteCells X) (t[k].toNat : Int) wr HI.out (by have := HL.out; omega) hsz
          have HW := Lib.hid W
          clear W h10 hY HI hq hn
          go_wp2_with fail
          refine HW.out.mono ?_
          rintro e w3 ⟨rfl, hI3, hb3⟩
          have HI3 := Lib.hid hI3
          have HB3 := Lib.hid hb3
          have hs3 := hb3.size
          clear hI3 hb3
          go_wp2
          go_roundw
          case rel => exact ⟨k + 1, by omega, by go_num, Lib.hid (by rw [HY.out, byteCells_snoc]; exact .inr HI3.out), Lib.hid (HB.out.trans HB3.out), by omega⟩
          case measure => simp [intOf]; omega
    · have HA := Lib.hid (escL_take_all t k hlt)
      have hI := HI.out
      rw [HA.out] at hI hlen
      have W := writeByte (w.heap.size + 1) (w.heap.size + 1) (Lib.byteCells (34 :: escL t.data.toList)) 34 wr hI (by omega) hsz
      have HW := Lib.hid W
      have S := fun w' h1 h2 => Tryd.Builder_String_any (w.heap.size + 1) (w.heap.size + 1) ((34 :: escL t.data.toList) ++ [34]) w' h1 h2
      have HS := Lib.hid S
      clear W S hI hlen
      go_wp2_with fail
      refine HW.out.mono ?_
      rintro e w3 ⟨rfl, hI3, hb3⟩
      have hs3 := hb3.size
      have hI3' : Lib.IsBuilder 54 5 (w.heap.size + 1) (w.heap.size + 1) (Lib.byteCells ((34 :: escL t.data.toList) ++ [34])) w3 := by rw [Lib.byteCells_append]; exact .inr hI3
      have HI3 := Lib.hid hI3'
      have HB3 := Lib.hid hb3
      clear hI3 hb3 hI3'
      go_wp2_with fail
      refine (HS.out _ HI3.out (by omega)).mono ?_
      rintro e w4 ⟨rfl, hb4⟩
      have HB4 := Lib.hid hb4
      clear hb4
      go_wp2
      go_ret
      exact ⟨rfl, HB0.out.trans (((HB.out.trans HB3.out).trans HB4.out).mono (Nat.le_succ _))⟩
end Go.Proofs.YtghgjefobfaodaaDoor

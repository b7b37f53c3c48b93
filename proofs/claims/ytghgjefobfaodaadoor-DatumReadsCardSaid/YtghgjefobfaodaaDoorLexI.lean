import Derived.Test.YtghgjefobfaodaaDoorLexH
import Derived.Test.YtghgjefobfaodaaDoorLexD
import Derived.Laws.IdiomStrings
namespace Go.Proofs.YtghgjefobfaodaaDoor
open Go.RowKit

/-- what the document's reader of a quoted text returns -/
def quoVal (N : Nat) : Stp → Value
  | .tok _ t r => .tuple #[.string ⟨t.toArray⟩, .int .i64 ((N - r.length : Nat) : Int), .int .i64 0, .int .i64 0]
  | .err p c => .tuple #[.string ⟨#[]⟩, .int .i64 0, .int .i64 ((N - p.length : Nat) : Int), .int .i64 (c : Int)]

theorem conv1 (W : World) (z : Int) (c : UInt8) (hz : z = c.toNat) :
    (convert 52 9 (.slice (some ⟨W.heap.size, 0, none⟩) 1 1)).run Tryd.prog (W.alloc (.cells #[.int .u8 z] 5)) = .ok (.string ⟨#[c]⟩) (W.alloc (.cells #[.int .u8 z] 5)) := by
  subst hz
  exact run_convert_bytes_back _ 52 9 5 ⟨W.heap.size, 0, none⟩ 1 [c] Tryd.underlying52 Tryd.underlying5 Tryd.underlying9 (fun j hj => by
    match j, hj with
    | 0, _ => simp [Addr.add])

theorem str_snoc (acc : List UInt8) (c : UInt8) : Value.string ((⟨acc.toArray⟩ : ByteArray) ++ ⟨#[c]⟩) = .string ⟨(acc ++ [c]).toArray⟩ := by
  congr 1

set_option maxRecDepth 100000 in
set_option maxHeartbeats 2000000 in
theorem quoted_any (s : ByteArray) (a : Nat) (hs : s.size ≤ 100000) (ha : a < s.size) (w : World) :
    Calls Tryd.prog 41 #[.string s, .int .i64 a] w fun e w' => e = .returned (quoVal s.size (quotedL (s.data.toList.drop a) (s.data.toList.drop (a + 1)) [])) ∧ Below w.heap.size w w' := by
  obtain ⟨start, hst⟩ : ∃ start, start = s.data.toList.drop a := ⟨_, rfl⟩
  rw [← hst]
  have hsl : start.length = s.size - a := by rw [hst]; simp
  have HSL := Lib.hid hsl
  clear hst hsl
  obtain ⟨res, hres⟩ : ∃ res, res = quotedL start (s.data.toList.drop (a + 1)) [] := ⟨_, rfl⟩
  rw [← hres]
  have HR := Lib.hid hres
  clear hres
  go_enter Tryd.func41, Tryd.ntmps41
  go_wp2
  go_loopw [8, 9] (fun o i wr => ∃ (k : Nat) (acc : List UInt8), a + 1 ≤ k ∧ k ≤ s.size ∧ i = .int .i64 k ∧ o = .string ⟨acc.toArray⟩ ∧ acc.length ≤ k ∧ Hid (res = quotedL start (s.data.toList.drop k) acc) ∧ Below w.heap.size w wr) (fun _ i _ => s.size - (intOf i).toNat)
  case atStart => exact ⟨a + 1, [], Nat.le_refl _, ha, by go_num, rfl, Nat.zero_le _, HR, Below.refl _ _⟩
  case round =>
    obtain ⟨k, acc, hak, hk, rfl, rfl, hacc, HQ, hbw⟩ := hrel
    have HB := Lib.hid hbw
    have hsz := hbw.size
    clear hbw
    by_cases hlt : k < s.size
    · have hdc := drop_cons s k hlt
      have hdl : (s.data.toList.drop k).length = s.size - k := by simp
      obtain ⟨c, hc⟩ : ∃ c, c = s[k] := ⟨_, rfl⟩
      rw [← hc] at hdc
      have e34 : ((s[k].toNat : Int) == 34) = decide (c = 34) := by rw [hc]; exact u8_eq _ 34
      have e92 : ((s[k].toNat : Int) == 92) = decide (c = 92) := by rw [hc]; exact u8_eq _ 92
      have hq := HQ.out
      rw [hdc] at hq
      by_cases h34 : c = 34
      · subst h34
        rw [q_close] at hq
        rw [decide_eq_true rfl] at e34
        have HQ2 := Lib.hid hq
        have HDL := Lib.hid hdl
        have HDC := Lib.hid hdc
        clear e92 hc hdc hdl hq HQ
        go_wp2
        refine bodyPost_ret (v := .tuple #[.string ⟨acc.toArray⟩, .int .i64 (k + 1 : Int), .int .i64 0, .int .i64 0]) (by simp [results, Tryd.results41, go_sem]) rfl ⟨ret_eq ?_, HB.out⟩
        rw [HQ2.out]
        have hdl := HDL.out
        rw [HDC.out, List.length_cons] at hdl
        show _ = Value.tuple #[_, .int .i64 ((s.size - (s.data.toList.drop (k + 1)).length : Nat) : Int), _, _]
        rw [show s.size - (s.data.toList.drop (k + 1)).length = k + 1 by omega]
        rfl
      · rw [decide_eq_false h34] at e34
        by_cases h92 : c = 92
        · subst h92
          rw [decide_eq_true rfl] at e92
          by_cases hend : k + 1 = s.size
          · have hnil : s.data.toList.drop (k + 1) = [] := drop_none s (k + 1) (by omega)
            rw [hnil, q_end] at hq
            have HQ2 := Lib.hid hq
            have hes : ((k : Int) + 1 == (s.size : Int)) = true := by simp; omega
            clear hc hdc hdl hq HQ hnil hend h34
            go_wp2
            refine bodyPost_ret (v := .tuple #[.string ⟨#[]⟩, .int .i64 0, .int .i64 (a : Int), .int .i64 3]) (by simp [results, Tryd.results41, go_sem]) rfl ⟨ret_eq ?_, HB.out⟩
            rw [HQ2.out]
            show _ = Value.tuple #[_, _, .int .i64 ((s.size - start.length : Nat) : Int), _]
            rw [HSL.out, show s.size - (s.size - a) = a by omega]
            rfl
          · have hlt2 : k + 1 < s.size := by omega
            have hd2 := drop_cons s (k + 1) hlt2
            rw [hd2] at hq
            have hes : ((k : Int) + 1 == (s.size : Int)) = false := by simp; omega
            have d34 : ((s[k + 1].toNat : Int) != 34) = !decide (s[k + 1] = 34) := congrArg (fun b => !b) (u8_eq s[k + 1] 34)
            have d92 : ((s[k + 1].toNat : Int) != 92) = !decide (s[k + 1] = 92) := congrArg (fun b => !b) (u8_eq s[k + 1] 92)
            have d110 : ((s[k + 1].toNat : Int) != 110) = !decide (s[k + 1] = 110) := congrArg (fun b => !b) (u8_eq s[k + 1] 110)
            have b110 : ((s[k + 1].toNat : Int) == 110) = decide (s[k + 1] = 110) := u8_eq _ 110
            cases hesc : escB s[k + 1]
            · rw [q_noesc _ _ _ hesc] at hq
              have hpl : (92 :: s[k + 1] :: s.data.toList.drop (k + 1 + 1)).length = s.size - k := by rw [← hd2, ← hdc]; exact hdl
              have HQ2 := Lib.hid hq
              have HPL := Lib.hid hpl
              have hn : ¬ s[k + 1] = 34 ∧ ¬ s[k + 1] = 92 ∧ ¬ s[k + 1] = 110 := by simp [escB] at hesc; grind
              rw [decide_eq_false hn.1] at d34
              rw [decide_eq_false hn.2.1] at d92
              rw [decide_eq_false hn.2.2] at d110
              simp only [Bool.not_false] at d34 d92 d110
              clear hc hdc hdl hq HQ hd2 hend h34 hpl hesc hn b110
              go_wp2
              refine bodyPost_ret (v := .tuple #[.string ⟨#[]⟩, .int .i64 0, .int .i64 (k : Int), .int .i64 2]) (by simp [results, Tryd.results41, go_sem]) rfl ⟨ret_eq ?_, HB.out⟩
              rw [HQ2.out]
              show _ = Value.tuple #[_, _, .int .i64 ((s.size - (92 :: s[k + 1] :: s.data.toList.drop (k + 1 + 1)).length : Nat) : Int), _]
              rw [HPL.out, show s.size - (s.size - k) = k by omega]
              rfl
            · rw [q_esc _ _ _ hesc] at hq
              have hways : s[k + 1] = 34 ∨ s[k + 1] = 92 ∨ s[k + 1] = 110 := by simp [escB] at hesc; grind
              have HQ2 := Lib.hid hq
              clear hc hdc hdl hq HQ hd2 hend h34 hesc
              have hcv := fun (W : World) => conv1 W (s[k + 1].toNat : Int) s[k + 1] rfl
              have hcn := fun (W : World) => conv1 W 10 10 rfl
              rcases hways with h | h | h
              · rw [decide_eq_true h] at d34
                rw [decide_eq_false (by rw [h]; decide)] at b110
                simp only [Bool.not_true] at d34
                have HU : Hid (unesc s[k + 1] = s[k + 1]) := by show _ = _; rw [h]; rfl
                clear h d92 d110 hcn
                go_wp2
                exact ⟨⟨k + 2, acc ++ [unesc s[k + 1]], by omega, by omega, by go_num, by rw [HU.out]; exact str_snoc _ _, by simp; omega, HQ2, HB.out.alloc hsz _⟩, by simp [intOf]; omega⟩
              · rw [decide_eq_false (by rw [h]; decide)] at d34
                rw [decide_eq_true h] at d92
                rw [decide_eq_false (by rw [h]; decide)] at b110
                simp only [Bool.not_true, Bool.not_false] at d34 d92
                have HU : Hid (unesc s[k + 1] = s[k + 1]) := by show _ = _; rw [h]; rfl
                clear h d110 hcn
                go_wp2
                exact ⟨⟨k + 2, acc ++ [unesc s[k + 1]], by omega, by omega, by go_num, by rw [HU.out]; exact str_snoc _ _, by simp; omega, HQ2, HB.out.alloc hsz _⟩, by simp [intOf]; omega⟩
              · rw [decide_eq_false (by rw [h]; decide)] at d34
                rw [decide_eq_false (by rw [h]; decide)] at d92
                rw [decide_eq_true h] at d110 b110
                simp only [Bool.not_true, Bool.not_false] at d34 d92 d110
                have HU : Hid (unesc s[k + 1] = 10) := by show _ = _; rw [h]; rfl
                clear h hcv
                go_wp2
                exact ⟨⟨k + 2, acc ++ [unesc s[k + 1]], by omega, by omega, by go_num, by rw [HU.out]; exact str_snoc _ _, by simp; omega, HQ2, HB.out.alloc hsz _⟩, by simp [intOf]; omega⟩
        · rw [decide_eq_false h92] at e92
          cases hbad : (decide (c < 32) || decide (126 < c))
          · rw [q_plain _ _ _ h34 h92 hbad] at hq
            have h32 : 32 ≤ (s[k].toNat : Int) ∧ (s[k].toNat : Int) ≤ 126 := by
              rw [← hc]
              simp [UInt8.lt_iff_toNat_lt] at hbad
              omega
            obtain ⟨hlo, hhi⟩ := h32
            rw [hc] at hq
            have HQ2 := Lib.hid hq
            have HX : Hid (s.extract k (k + 1) = ⟨#[s[k]]⟩) := by
              show _ = _
              refine ba_ext ?_
              rw [Lib.extract_data, show k + 1 - k = 1 by omega, hdc, hc]
              rfl
            clear hc hdc hdl hq HQ h34 h92 hbad
            go_wp2
            exact ⟨⟨k + 1, acc ++ [s[k]], by omega, by omega, by go_num, by rw [HX.out]; exact str_snoc _ _, by simp; omega, HQ2, HB.out⟩, by simp [intOf]; omega⟩
          · rw [q_bad _ _ _ h34 h92 hbad] at hq
            rw [← hdc] at hq
            have h32 : (s[k].toNat : Int) < 32 ∨ 32 ≤ (s[k].toNat : Int) ∧ 126 < (s[k].toNat : Int) := by
              rw [← hc]
              simp [UInt8.lt_iff_toNat_lt] at hbad
              omega
            have HQ2 := Lib.hid hq
            have HDL := Lib.hid hdl
            clear hc hdc hdl hq HQ h34 h92 hbad
            rcases h32 with hlo | ⟨hlo, hhi⟩
            all_goals
              go_wp2
              refine bodyPost_ret (v := .tuple #[.string ⟨#[]⟩, .int .i64 0, .int .i64 (k : Int), .int .i64 2]) (by simp [results, Tryd.results41, go_sem]) rfl ⟨ret_eq ?_, HB.out⟩
              rw [HQ2.out]
              show _ = Value.tuple #[_, _, .int .i64 ((s.size - (s.data.toList.drop k).length : Nat) : Int), _]
              rw [HDL.out, show s.size - (s.size - k) = k by omega]
              rfl
    · have hq := HQ.out
      rw [drop_none s k hlt] at hq
      have HQ2 := Lib.hid hq
      clear hq HQ
      go_wp2
      refine bodyPost_ret (v := .tuple #[.string ⟨#[]⟩, .int .i64 0, .int .i64 (a : Int), .int .i64 3]) (by simp [results, Tryd.results41, go_sem]) rfl ⟨ret_eq ?_, HB.out⟩
      rw [HQ2.out]
      show _ = Value.tuple #[_, _, .int .i64 ((s.size - start.length : Nat) : Int), _]
      rw [HSL.out, show s.size - (s.size - a) = a by omega]
      rfl
end Go.Proofs.YtghgjefobfaodaaDoor

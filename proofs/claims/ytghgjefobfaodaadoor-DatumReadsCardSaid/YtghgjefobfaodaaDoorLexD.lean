import Derived.Test.YtghgjefobfaodaaDoorLexC
import Derived.Test.YtghgjefobfaodaaDoorBuilder
namespace Go.Proofs.YtghgjefobfaodaaDoor
open Go.RowKit

theorem byteCells_snoc (l : List UInt8) (c : UInt8) : Lib.byteCells (l ++ [c]) = Lib.byteCells l ++ [.int .u8 (c.toNat : Int)] := by
  rw [Lib.byteCells_append]; rfl

theorem u8_eq (c d : UInt8) : ((c.toNat : Int) == (d.toNat : Int)) = decide (c = d) := by
  rw [Bool.eq_iff_iff]; simp [← UInt8.toNat_inj]; omega

set_option maxRecDepth 100000 in
set_option maxHeartbeats 2000000 in
theorem literal_any (s : ByteArray) (a : Nat) (hs : s.size ≤ 300000) (ha : a < s.size) (w : World) :
    Calls Tryd.prog 51 #[.string s, .int .i64 a] w fun e w' => e = .returned (stpVal s.size a (quotedL (s.data.toList.drop a) (s.data.toList.drop (a + 1)) [])) ∧ Below w.heap.size w w' := by
  obtain ⟨start, hst⟩ : ∃ start, start = s.data.toList.drop a := ⟨_, rfl⟩
  rw [← hst]
  have hsl : start.length = s.size - a := by rw [hst]; simp
  have HSL := Lib.hid hsl
  clear hst hsl
  obtain ⟨res, hres⟩ : ∃ res, res = quotedL start (s.data.toList.drop (a + 1)) [] := ⟨_, rfl⟩
  rw [← hres]
  have HR := Lib.hid hres
  clear hres
  obtain ⟨w0, hw0⟩ : ∃ w0, w0 = w.alloc (.cells #[.int .i64 0, .string ⟨#[]⟩, .int .i64 0] 61) := ⟨_, rfl⟩
  have hbn := builder_new w0
  have hz0 : w0.heap.size = w.heap.size + 1 := by rw [hw0]; simp
  have hb0 : Below w.heap.size w w0 := by rw [hw0]; exact (Below.refl _ _).alloc (Nat.le_refl _) _
  have hc00 : w0.cell? ⟨w.heap.size, 0, none⟩ = some (.int .i64 0) := by rw [hw0]; simp [go_sem]
  have hc01 : w0.cell? ⟨w.heap.size, 1, none⟩ = some (.string ⟨#[]⟩) := by rw [hw0]; simp [go_sem]
  have hc02 : w0.cell? ⟨w.heap.size, 2, none⟩ = some (.int .i64 0) := by rw [hw0]; simp [go_sem]
  have HW0 := Lib.hid hw0
  have HZ := Lib.hid hz0
  have HBN := Lib.hid hbn
  clear hz0 hbn hc00 hc01 hc02
  go_enter Tryd.func51, Tryd.ntmps51
  go_wp2
  rw [← hw0]
  have hI0 : Lib.IsBuilder 54 5 (w.heap.size + 1) (w.heap.size + 1) (Lib.byteCells []) (w0.alloc (.cells #[.pointer none, .slice none 0 0] 54)) := by
    rw [← HZ.out]; exact HBN.out
  obtain ⟨w1, hw1⟩ : ∃ w1, w1 = w0.alloc (.cells #[.pointer none, .slice none 0 0] 54) := ⟨_, rfl⟩
  have hb1 : Below (w.heap.size + 1) w0 w1 := by rw [hw1]; exact (Below.refl _ _).alloc (by rw [HZ.out]; omega) _
  have hs1 : w.heap.size + 1 ≤ w1.heap.size := by rw [hw1]; simp [HZ.out]
  rw [← hw1] at hI0 ⊢
  clear hw0 hw1 HBN
  have HI0 := Lib.hid hI0
  have HB1 := Lib.hid hb1
  clear hI0 hb1
  go_loopw [8] (fun i wr => ∃ (k : Nat) (acc : List UInt8), a + 1 ≤ k ∧ k ≤ s.size ∧ i = .int .i64 k ∧ acc.length ≤ k ∧ Hid (res = quotedL start (s.data.toList.drop k) acc) ∧ Hid (Lib.IsBuilder 54 5 (w.heap.size + 1) (w.heap.size + 1) (Lib.byteCells acc) wr) ∧ Hid (Below (w.heap.size + 1) w0 wr) ∧ w.heap.size + 1 ≤ wr.heap.size) (fun i _ => s.size - (intOf i).toNat)
  case atStart => exact ⟨a + 1, [], Nat.le_refl _, ha, by go_num, Nat.zero_le _, HR, HI0, HB1, hs1⟩
  case round =>
    obtain ⟨k, acc, hak, hk, rfl, hacc, HQ, HI, HB, hsz⟩ := hrel
    have hcells : wr.cell? ⟨w.heap.size, 0, none⟩ = some (.int .i64 0) ∧ wr.cell? ⟨w.heap.size, 1, none⟩ = some (.string ⟨#[]⟩) ∧ wr.cell? ⟨w.heap.size, 2, none⟩ = some (.int .i64 0) := by
      have hh := fun o => HB.out.cell (p := ⟨w.heap.size, o, none⟩) (Nat.lt_succ_self _)
      rw [hh, hh, hh, HW0.out]
      refine ⟨?_, ?_, ?_⟩ <;> simp [go_sem]
    obtain ⟨hcc0, hcc1, hcc2⟩ := hcells
    have hff : ∀ o, wr.frozen? ⟨w.heap.size, o, none⟩ = false := fun o => by
      rw [HB.out.frozen (p := ⟨w.heap.size, o, none⟩) (Nat.lt_succ_self _), HW0.out]
      simp [go_sem]
    have hbw : Below w.heap.size w wr := hb0.trans (HB.out.mono (Nat.le_succ _))
    by_cases hlt : k < s.size
    · have hdc := drop_cons s k hlt
      have hdl : (s.data.toList.drop k).length = s.size - k := by simp
      obtain ⟨c, hc⟩ : ∃ c, c = s[k] := ⟨_, rfl⟩
      have HC := Lib.hid hc
      rw [← hc] at hdc
      have e34 : ((s[k].toNat : Int) == 34) = decide (c = 34) := by rw [hc]; exact u8_eq _ 34
      have e92 : ((s[k].toNat : Int) == 92) = decide (c = 92) := by rw [hc]; exact u8_eq _ 92
      have hq := HQ.out
      rw [hdc] at hq
      by_cases h34 : c = 34
      · subst h34
        rw [q_close] at hq
        rw [decide_eq_true rfl] at e34
        have S := Tryd.Builder_String_any (w.heap.size + 1) (w.heap.size + 1) acc wr HI.out hsz
        have HS := Lib.hid S
        have HQ2 := Lib.hid hq
        have HDL := Lib.hid hdl
        have HDC := Lib.hid hdc
        clear e92 hc hdc hdl hq S HQ
        go_wp2_with fail
        refine HS.out.mono ?_
        rintro e w2 ⟨rfl, hb2⟩
        have k0 := (hb2.cell (p := ⟨w.heap.size, 0, none⟩) (Nat.lt_succ_self _)).trans hcc0
        have k1 := (hb2.cell (p := ⟨w.heap.size, 1, none⟩) (Nat.lt_succ_self _)).trans hcc1
        have k2 := (hb2.cell (p := ⟨w.heap.size, 2, none⟩) (Nat.lt_succ_self _)).trans hcc2
        have kf := fun o => (hb2.frozen (p := ⟨w.heap.size, o, none⟩) (Nat.lt_succ_self _)).trans (hff o)
        have hbw2 := hbw.trans (hb2.mono (Nat.le_succ _))
        clear hcc0 hcc1 hcc2 hff
        go_wp2
        refine bodyPost_ret (v := .tuple #[.agg #[.int .i64 6, .string ⟨acc.toArray⟩, .int .i64 a], .int .i64 (k + 1 : Int), .int .i64 0]) (by simp [results, Tryd.results51, go_sem, k0, k1, k2]) rfl ⟨ret_eq ?_, (((hbw2.setCell (by simp) _).setCell (by simp) _).setCell (by simp) _)⟩
        rw [HQ2.out]
        have hdl := HDL.out
        rw [HDC.out, List.length_cons] at hdl
        show _ = Value.tuple #[_, .int .i64 ((s.size - (s.data.toList.drop (k + 1)).length : Nat) : Int), _]
        rw [show s.size - (s.data.toList.drop (k + 1)).length = k + 1 by omega]
        rfl
      · rw [decide_eq_false h34] at e34
        by_cases h92 : c = 92
        · subst h92
          rw [decide_eq_true rfl] at e92
          by_cases hend : k + 1 = s.size
          · have hnil : s.data.toList.drop (k + 1) = [] := drop_none s (k + 1) (by omega)
            rw [hnil, q_end] at hq
            have HQ2 := Lib.hid hq
            have hes : ((k : Int) + 1 == (s.size : Int)) = true := by simp; omega
            clear hc hdc hdl hq HQ hnil hend h34
            go_wp2
            refine bodyPost_ret (v := .tuple #[.agg #[.int .i64 0, .string ⟨#[]⟩, .int .i64 0], .int .i64 (a : Int), .int .i64 3]) (by simp [results, Tryd.results51, go_sem, hcc0, hcc1, hcc2]) rfl ⟨ret_eq ?_, ?_⟩
            · rw [HQ2.out]
              show _ = Value.tuple #[_, .int .i64 ((s.size - start.length : Nat) : Int), _]
              rw [HSL.out, show s.size - (s.size - a) = a by omega]
              rfl
            · exact ((hbw.setCell (by simp) _).setCell (by simp) _).setCell (by simp) _
          · have hlt2 : k + 1 < s.size := by omega
            have hd2 := drop_cons s (k + 1) hlt2
            obtain ⟨d, hd⟩ : ∃ d, d = s[k + 1] := ⟨_, rfl⟩
            rw [← hd] at hd2
            rw [hd2] at hq
            have hes : ((k : Int) + 1 == (s.size : Int)) = false := by simp; omega
            cases hesc : escB d
            · rw [q_noesc _ _ _ hesc] at hq
              have hpl : (92 :: d :: s.data.toList.drop (k + 1 + 1)).length = s.size - k := by rw [← hd2, ← hdc]; exact hdl
              have HQ2 := Lib.hid hq
              have HPL := Lib.hid hpl
              rw [hd] at hesc
              have U := fun w => unescape_no s[k + 1] hesc w
              have HU := Lib.hid U
              clear hc hdc hdl hq HQ hd2 hd hend h34 hpl U hesc
              go_wp2_with fail
              refine (HU.out _).mono ?_
              rintro e w2 ⟨rfl, rfl⟩
              go_wp2
              refine bodyPost_ret (v := .tuple #[.agg #[.int .i64 0, .string ⟨#[]⟩, .int .i64 0], .int .i64 (k : Int), .int .i64 2]) (by simp [results, Tryd.results51, go_sem, hcc0, hcc1, hcc2]) rfl ⟨ret_eq ?_, ?_⟩
              · rw [HQ2.out]
                show _ = Value.tuple #[_, .int .i64 ((s.size - (92 :: d :: s.data.toList.drop (k + 1 + 1)).length : Nat) : Int), _]
                rw [HPL.out, show s.size - (s.size - k) = k by omega]
                rfl
              · exact ((hbw.setCell (by simp) _).setCell (by simp) _).setCell (by simp) _
            · rw [q_esc _ _ _ hesc] at hq
              rw [hd] at hesc hq
              have HQ2 := Lib.hid hq
              have U := fun w => unescape_yes s[k + 1] hesc w
              have HU := Lib.hid U
              have W := fun w' h1 h2 => writeByte (w.heap.size + 1) (w.heap.size + 1) (Lib.byteCells acc) ((unesc s[k + 1]).toNat : Int) w' h1 (by rw [Lib.byteCells_length]; omega) h2
              have HWr := Lib.hid W
              clear hc hdc hdl hq HQ hd2 hend h34 U hesc hd W
              go_wp2_with fail
              refine (HU.out _).mono ?_
              rintro e w2 ⟨rfl, rfl⟩
              go_wp2_with fail
              refine (HWr.out _ HI.out hsz).mono ?_
              rintro e w3 ⟨rfl, hI3, hb3⟩
              have HI3 := Lib.hid hI3
              have HB3 := Lib.hid hb3
              have hs3 := hb3.size
              clear hI3 hb3 hcc0 hcc1 hcc2 hff hbw
              go_wp2
              go_roundw
              case rel => exact ⟨k + 2, acc ++ [unesc s[k + 1]], by omega, by omega, by go_num, by simp; omega, HQ2, Lib.hid (by rw [byteCells_snoc]; exact .inr HI3.out), Lib.hid (HB.out.trans HB3.out), by omega⟩
              case measure => simp [intOf]; omega
        · rw [decide_eq_false h92] at e92
          cases hbad : (decide (c < 32) || decide (126 < c))
          · rw [q_plain _ _ _ h34 h92 hbad] at hq
            have h32 : 32 ≤ (s[k].toNat : Int) ∧ (s[k].toNat : Int) ≤ 126 := by
              rw [← hc]
              simp [UInt8.lt_iff_toNat_lt] at hbad
              omega
            obtain ⟨hlo, hhi⟩ := h32
            rw [hc] at hq
            have HQ2 := Lib.hid hq
            have W := fun w' h1 h2 => writeByte (w.heap.size + 1) (w.heap.size + 1) (Lib.byteCells acc) (s[k].toNat : Int) w' h1 (by rw [Lib.byteCells_length]; omega) h2
            have HWr := Lib.hid W
            clear hc hdc hdl hq HQ h34 h92 W hbad
            go_wp2_with fail
            refine (HWr.out _ HI.out hsz).mono ?_
            rintro e w3 ⟨rfl, hI3, hb3⟩
            have HI3 := Lib.hid hI3
            have HB3 := Lib.hid hb3
            have hs3 := hb3.size
            clear hI3 hb3 hcc0 hcc1 hcc2 hff hbw
            go_wp2
            go_roundw
            case rel => exact ⟨k + 1, acc ++ [s[k]], by omega, by omega, by go_num, by simp; omega, HQ2, Lib.hid (by rw [byteCells_snoc]; exact .inr HI3.out), Lib.hid (HB.out.trans HB3.out), by omega⟩
            case measure => simp [intOf]; omega
          · rw [q_bad _ _ _ h34 h92 hbad] at hq
            rw [← hdc] at hq
            have h32 : (s[k].toNat : Int) < 32 ∨ 32 ≤ (s[k].toNat : Int) ∧ 126 < (s[k].toNat : Int) := by
              rw [← hc]
              simp [UInt8.lt_iff_toNat_lt] at hbad
              omega
            have HQ2 := Lib.hid hq
            have HDL := Lib.hid hdl
            clear hc hdc hdl hq HQ h34 h92 hbad
            rcases h32 with hlo | ⟨hlo, hhi⟩
            all_goals
              go_wp2
              refine bodyPost_ret (v := .tuple #[.agg #[.int .i64 0, .string ⟨#[]⟩, .int .i64 0], .int .i64 (k : Int), .int .i64 2]) (by simp [results, Tryd.results51, go_sem, hcc0, hcc1, hcc2]) rfl ⟨ret_eq ?_, ?_⟩
              · rw [HQ2.out]
                show _ = Value.tuple #[_, .int .i64 ((s.size - (s.data.toList.drop k).length : Nat) : Int), _]
                rw [HDL.out, show s.size - (s.size - k) = k by omega]
                rfl
              · exact ((hbw.setCell (by simp) _).setCell (by simp) _).setCell (by simp) _
    · have hq := HQ.out
      rw [drop_none s k hlt] at hq
      have HQ2 := Lib.hid hq
      clear hq HQ
      go_wp2
      refine bodyPost_ret (v := .tuple #[.agg #[.int .i64 0, .string ⟨#[]⟩, .int .i64 0], .int .i64 (a : Int), .int .i64 3]) (by simp [results, Tryd.results51, go_sem, hcc0, hcc1, hcc2]) rfl ⟨ret_eq ?_, ?_⟩
      · rw [HQ2.out]
        show _ = Value.tuple #[_, .int .i64 ((s.size - start.length : Nat) : Int), _]
        rw [HSL.out, show s.size - (s.size - a) = a by omega]
        rfl
      · exact ((hbw.setCell (by simp) _).setCell (by simp) _).setCell (by simp) _
end Go.Proofs.YtghgjefobfaodaaDoor

import Derived.Test.YtghgjefobfaodaaDoorLexF
namespace Go.Proofs.YtghgjefobfaodaaDoor
open Go.RowKit

theorem Tryd.infoTok : (Tryd.prog.info? 61).map (fun i => (i.zero, i.size, i.bytes)) = some (some (.agg #[.int .i64 0, .string ⟨#[]⟩, .int .i64 0]), 3, 32) := by kernel_rfl

set_option maxRecDepth 100000 in
set_option maxHeartbeats 2000000 in
theorem lex_any (s : ByteArray) (hs : s.size ≤ 300000) (w : World) :
    Calls Tryd.prog 20 #[.string s] w fun e w' => LexVal w' (lexN s.size s.data.toList) e ∧ Below w.heap.size w w' := by
  obtain ⟨i0, hi, hz0, hz1, hz2⟩ := info_parts Tryd.infoTok
  obtain ⟨res, hres⟩ : ∃ res, res = lexN s.size s.data.toList := ⟨_, rfl⟩
  rw [← hres]
  have HR : Hid (res = (lexN s.size (s.data.toList.drop 0)).pre []) := by show _ = _; rw [Res.pre_nil]; exact hres
  clear hres
  go_enter Tryd.func20, Tryd.ntmps20
  go_wp2
  go_loopw [5, 6] (fun v i wr => ∃ (k : Nat) (acc : List Tok), k ≤ s.size ∧ i = .int .i64 k ∧ acc.length ≤ k ∧ Hid (res = (lexN s.size (s.data.toList.drop k)).pre acc) ∧ wr.ownsRow w.heap.size 61 3 v acc.length (toksCells acc) ∧ Below w.heap.size w wr) (fun _ i _ => s.size - (intOf i).toNat)
  case atStart => exact ⟨0, [], Nat.zero_le _, rfl, Nat.zero_le _, HR, World.ownsRow_nil _ _ _ _, Below.refl _ _⟩
  case round =>
    obtain ⟨k, acc, hk, rfl, hacc, HQ, hown, hb⟩ := hrel
    have HO := Lib.hid hown
    have HB := Lib.hid hb
    have hsz := hb.size
    clear hown hb
    by_cases hlt : k < s.size
    · have hdc := drop_cons s k hlt
      have hdl : (s.data.toList.drop k).length = s.size - k := by simp
      obtain ⟨c, hc⟩ : ∃ c, c = s[k] := ⟨_, rfl⟩
      have e59 : ((s[k].toNat : Int) == 59) = decide (c = 59) := by rw [hc]; exact u8_eq _ 59
      have e32 : ((s[k].toNat : Int) == 32) = decide (c = 32) := by rw [hc]; exact u8_eq _ 32
      have e9 : ((s[k].toNat : Int) == 9) = decide (c = 9) := by rw [hc]; exact u8_eq _ 9
      have e10 : ((s[k].toNat : Int) == 10) = decide (c = 10) := by rw [hc]; exact u8_eq _ 10
      have e13 : ((s[k].toNat : Int) == 13) = decide (c = 13) := by rw [hc]; exact u8_eq _ 13
      have hq := HQ.out
      rw [← hc] at hdc
      by_cases h59 : c = 59
      · subst h59
        rw [decide_eq_true rfl] at e59
        rw [hdc, lexN_cmt] at hq
        obtain ⟨m, hm⟩ := dropCmt_suffix (s.data.toList.drop (k + 1))
        have hr := rest_at rfl hm
        have hle := dropCmt_le (s.data.toList.drop (k + 1))
        rw [show s.data.toList.length = s.size from Array.length_toList] at hr
        rw [hr] at hq
        have hcl : dropCmt (s.data.toList.drop k) = dropCmt (s.data.toList.drop (k + 1)) := by rw [hdc]; rfl
        have CL := fun w => commentLast_any s k hs hlt w
        rw [hcl] at CL
        have hl2 : (s.data.toList.drop (k + 1)).length = s.size - (k + 1) := by simp
        obtain ⟨d, hd⟩ : ∃ d, d = (dropCmt (s.data.toList.drop (k + 1))).length := ⟨_, rfl⟩
        rw [← hd] at CL hq hle
        have HQ2 := Lib.hid hq
        have hdb : d + k + 1 ≤ s.size := by omega
        have HCL := Lib.hid CL
        clear hq HQ hc hdc hdl hm hr hle hcl CL hl2 hd e32 e9 e10 e13
        go_wp2_with fail
        refine (HCL.out _).mono ?_
        rintro e w2 ⟨rfl, rfl⟩
        go_wp2
        exact ⟨⟨s.size - d, acc, by omega, by congr 1; omega, by omega, HQ2, HO.out, HB.out⟩, by simp [intOf]; omega⟩
      · rw [decide_eq_false h59] at e59
        cases hbl : blankB c
        · have hnb : ¬ c = 32 ∧ ¬ c = 9 ∧ ¬ c = 10 ∧ ¬ c = 13 := by
            simp [blankB] at hbl; grind
          obtain ⟨n32, n9, n10, n13⟩ := hnb
          rw [decide_eq_false n32] at e32
          rw [decide_eq_false n9] at e9
          rw [decide_eq_false n10] at e10
          rw [decide_eq_false n13] at e13
          have N := fun w => next_any s k hs hlt w
          rw [hdc] at N hq
          cases hst : stepL (c :: s.data.toList.drop (k + 1)) with
          | err p e =>
            rw [lexN_err _ hbl h59 hst] at hq
            rw [hst] at N
            have hcode := stepL_code _ _ _ _ hst
            simp only [stpVal] at N
            have hne : ((e : Int) != 0) = true := by rw [bne_iff_ne]; omega
            have HQ2 := Lib.hid hq
            have HN := Lib.hid N
            clear hq HQ hc hdc hdl n32 n9 n10 n13 h59 hst N hcode hbl
            go_wp2_with fail
            refine (HN.out _).mono ?_
            rintro e' w2 ⟨rfl, hb2⟩
            obtain ⟨hcl, hfr⟩ := bcell hb2
            go_wp2
            go_ret3
            refine ⟨?_, (HB.out.trans (hb2.mono hsz)).alloc (by have := hb2.size; omega) _⟩
            rw [HQ2.out]
            rfl
          | tok kd t r' =>
            rw [lexN_tok _ hbl h59 hst, Res.pre_pre] at hq
            rw [hst] at N
            have hlt' := stepL_lt hst
            obtain ⟨m, hm⟩ := stepL_suffix _ _ _ _ _ hst
            have hr := rest_at hdc.symm hm
            rw [show s.data.toList.length = s.size from Array.length_toList] at hr
            rw [← hdc, hdl] at hq hlt'
            obtain ⟨d, hd⟩ : ∃ d, d = r'.length := ⟨_, rfl⟩
            simp only [stpVal] at N
            rw [← hd] at N hr hlt'
            rw [hr, show s.size - (s.size - k) = k by omega] at hq
            have HQ2 := Lib.hid hq
            have HN := Lib.hid N
            clear hq HQ hc hdc hdl n32 n9 n10 n13 h59 hst N hbl hd hr hm
            have own2 := fun (w' : World) (h : Below wr.heap.size wr w') => own_below HO.out h
            have HO2 := Lib.hid own2
            clear own2
            go_wp2_with fail
            refine (HN.out _).mono ?_
            rintro e' w2 ⟨rfl, hb2⟩
            have hown2 := HO2.out _ hb2
            have hs2 := hb2.size
            have HB2 := Lib.hid hb2
            clear hb2
            go_wp2_with (at_builtin; refine wpList_append_own _ rfl _ _ 38 rfl w.heap.size 61 i0 (.agg #[.int .i64 0, .string ⟨#[]⟩, .int .i64 0]) 3 32 Tryd.underlying38 hi hz0 hz1 hz2 rfl (by decide) _ _ _ rfl ((hown2.alloc _).alloc _) ⟨w2.heap.size + 1, 0, none⟩ 1 1 (tokCells ⟨kd, ⟨t.toArray⟩, k⟩) rfl rfl ?c1 ?c2 ?c3 ?c4 ?c5 ?_)
            case c1 =>
              intro j u hj
              match j, hj with
              | 0, hj => simp [tokCells] at hj; subst hj; simp [Addr.add]
              | 1, hj => simp [tokCells] at hj; subst hj; simp [Addr.add]
              | 2, hj => simp [tokCells] at hj; subst hj; simp [Addr.add]
            case c2 => intro u hu; simp [tokCells] at hu; rcases hu with rfl | rfl | rfl <;> rfl
            case c3 => unfold maxLen; omega
            case c4 => omega
            case c5 => simp; omega
            intro v' w3 hown' hgrow _
            have hgB := ((HB.out.trans (HB2.out.mono hsz)).alloc (by omega) (.cells (tokCells ⟨kd, ⟨t.toArray⟩, k⟩).toArray 61)).alloc (by simp; omega) (.cells (tokCells ⟨kd, ⟨t.toArray⟩, k⟩).toArray 61)
            have hB3 := hgB.grown hgrow (by simp; omega) (fun b hb => (HO.out.lt b hb).1)
            have HB3 := Lib.hid hB3
            rw [← toksCells_snoc] at hown'
            have HO3 := Lib.hid hown'
            clear hgB hB3 hgrow hown' hown2
            go_wp2
            exact ⟨⟨s.size - d, acc ++ [⟨kd, ⟨t.toArray⟩, k⟩], by omega, rfl, by simp; omega, HQ2, by rw [List.length_append]; exact HO3.out, HB3.out⟩, by simp [intOf]; omega⟩
        · have hq2 := hq
          rw [hdc, lexN_blank _ _ _ hbl] at hq2
          have HQ2 := Lib.hid hq2
          have hbb : c = 32 ∨ (¬ c = 32 ∧ c = 9) ∨ (¬ c = 32 ∧ ¬ c = 9 ∧ c = 10) ∨ (¬ c = 32 ∧ ¬ c = 9 ∧ ¬ c = 10 ∧ c = 13) := by
            simp [blankB] at hbl; grind
          clear hq hq2 HQ hc hdc hdl hbl h59
          rcases hbb with h | ⟨n1, h⟩ | ⟨n1, n2, h⟩ | ⟨n1, n2, n3, h⟩
          · rw [decide_eq_true h] at e32
            clear h e9 e10 e13
            go_wp2
            exact ⟨⟨k + 1, acc, by omega, by go_num, by omega, HQ2, HO.out, HB.out⟩, by simp [intOf]; omega⟩
          · rw [decide_eq_false n1] at e32
            rw [decide_eq_true h] at e9
            clear h n1 e10 e13
            go_wp2
            exact ⟨⟨k + 1, acc, by omega, by go_num, by omega, HQ2, HO.out, HB.out⟩, by simp [intOf]; omega⟩
          · rw [decide_eq_false n1] at e32
            rw [decide_eq_false n2] at e9
            rw [decide_eq_true h] at e10
            clear h n1 n2 e13
            go_wp2
            exact ⟨⟨k + 1, acc, by omega, by go_num, by omega, HQ2, HO.out, HB.out⟩, by simp [intOf]; omega⟩
          · rw [decide_eq_false n1] at e32
            rw [decide_eq_false n2] at e9
            rw [decide_eq_false n3] at e10
            rw [decide_eq_true h] at e13
            clear h n1 n2 n3
            go_wp2
            exact ⟨⟨k + 1, acc, by omega, by go_num, by omega, HQ2, HO.out, HB.out⟩, by simp [intOf]; omega⟩
    · have hq := HQ.out
      rw [drop_none s k hlt, lexN_nil] at hq
      have HQ2 := Lib.hid hq
      clear hq HQ
      go_wp2
      go_ret3
      refine ⟨?_, HB.out⟩
      rw [HQ2.out]
      exact ⟨_, rfl, Toks.of_own (B := w.heap.size) (e := 61) (by simpa using HO.out) (by simp [maxLen]; omega)⟩
end Go.Proofs.YtghgjefobfaodaaDoor

import Derived.Test.YtghgjefobfaodaaDoorLexB
namespace Go.Proofs.YtghgjefobfaodaaDoor
open Go.RowKit

theorem ret_eq {a b : Value} (h : a = b) : Ending.returned a = Ending.returned b := by rw [h]
theorem ba_ext {a b : ByteArray} (h : a.data.toList = b.data.toList) : a = b := by
  cases a; cases b; congr; exact Array.toList_inj.1 h

set_option maxHeartbeats 400000 in
theorem boolean_any (s : ByteArray) (a : Nat) (hs : s.size ≤ 300000) (ha : a < s.size) (h35 : s.data.toList.drop a = 35 :: s.data.toList.drop (a + 1)) (w : World) :
    Calls Tryd.prog 50 #[.string s, .int .i64 a] w fun e w' => e = .returned (stpVal s.size a (boolL 35 (s.data.toList.drop (a + 1)))) ∧ Below w.heap.size w w' := by
  have hw := wordLen_le (s.data.toList.drop (a + 1))
  have hl : (s.data.toList.drop (a + 1)).length = s.size - (a + 1) := by simp
  have hb : a + 1 + wordLen (s.data.toList.drop (a + 1)) ≤ s.size := by omega
  have hcs := boolL_cases (s.data.toList.drop (a + 1))
  obtain ⟨n, hn⟩ : ∃ n, n = a + 1 + wordLen (s.data.toList.drop (a + 1)) := ⟨_, rfl⟩
  have M := fun w => measure_any s (a + 1) hs (by omega) w
  rw [← hn] at M hb
  have ht : (s.data.toList.drop (a + 1)).take (wordLen (s.data.toList.drop (a + 1))) = (s.extract (a + 1) n).toList := by
    rw [Lib.extract_toList, hn]; congr 1; omega
  rw [ht] at hcs
  have HM := Lib.hid M
  have hna : a + 1 ≤ n := by omega
  clear M ht
  rcases hcs with ⟨d, r, h1, h2, h3, h4, h5⟩ | ⟨h1, h2, h3⟩
  · rw [h5]
    have hr : r.length = s.size - (a + 2) := by rw [h1] at hl; simp at hl; omega
    have h35' := h35
    obtain rfl : n = a + 2 := by omega
    have he : s.extract a (a + 2) = ⟨#[35, d]⟩ := by
      refine ba_ext ?_
      rw [Lib.extract_data, show a + 2 - a = 2 by omega, h35, h1]
      rfl
    have HE := Lib.hid he
    have HR := Lib.hid hr
    clear h5 h1 he hr hn hl h3 hw h35 h35'
    have hb2 : a + 2 ≤ s.size := hb
    have hd : ((s.extract (a + 1) (a + 2)).toList == [116]) = true ∨ ((s.extract (a + 1) (a + 2)).toList == [116]) = false ∧ ((s.extract (a + 1) (a + 2)).toList == [102]) = true := by
      rcases h2 with rfl | rfl
      · left; rw [h4]; rfl
      · right; rw [h4]; exact ⟨rfl, rfl⟩
    clear h4 h2
    rcases hd with t1 | ⟨t1, t2⟩
    all_goals
      go_enter Tryd.func50, Tryd.ntmps50
      go_wp2_with fail
      refine (HM.out _).mono ?_
      rintro e w1 ⟨rfl, rfl⟩
      go_wp2_with fail
      refine (cut_any s a (a + 2) 7 hs (by omega) hb2 _).mono ?_
      rintro e w1 ⟨rfl, hb1⟩
      obtain ⟨hc, hf⟩ := bcell hb1
      go_wp2
      refine bodyPost_ret (v := .tuple #[.agg #[.int .i64 7, .string (s.extract a (a + 2)), .int .i64 a], .int .i64 (a + 2 : Int), .int .i64 0]) (by simp [results, Tryd.results50, go_sem, hc]) rfl ⟨ret_eq ?_, (((((Below.refl _ _).alloc (Nat.le_refl _) _).trans (hb1.mono (by simp))).setCell (by simp) _).setCell (by simp) _).setCell (by simp) _⟩
      rw [HE.out]
      show _ = Value.tuple #[_, .int .i64 ((s.size - r.length : Nat) : Int), _]
      rw [HR.out, show s.size - (s.size - (a + 2)) = a + 2 by omega]
      rfl
  · rw [h1]
    have hlen : (35 :: s.data.toList.drop (a + 1)).length = s.size - a := by rw [List.length_cons]; omega
    have HL := Lib.hid hlen
    clear h1 hlen hn hl hw h35
    go_enter Tryd.func50, Tryd.ntmps50
    go_wp2_with fail
    refine (HM.out _).mono ?_
    rintro e w1 ⟨rfl, rfl⟩
    go_wp2
    refine bodyPost_ret (v := .tuple #[.agg #[.int .i64 0, .string ⟨#[]⟩, .int .i64 0], .int .i64 a, .int .i64 2]) (by simp [results, Tryd.results50, go_sem]) rfl ⟨ret_eq ?_, ?_⟩
    · show _ = Value.tuple #[_, .int .i64 ((s.size - (35 :: s.data.toList.drop (a + 1)).length : Nat) : Int), _]
      rw [HL.out, show s.size - (s.size - a) = a by omega]
      rfl
    · exact (Below.refl _ _).alloc (Nat.le_refl _) _

theorem all_digs : ∀ l : List UInt8, (l.take (wordLen l)).all digB = (wordDigs l == wordLen l)
  | [] => rfl
  | c :: r => by
    have ih := all_digs r
    have hle := wordDigs_le r
    unfold wordLen wordDigs
    cases hw : wordB c
    · simp
    · simp only [if_true, List.take_succ_cons, List.all_cons, ih]
      cases hd : digB c
      · simp; omega
      · simp
theorem isNum_word {c : UInt8} {r : List UInt8} (hw : wordB c = true) :
    isNum ((c :: r).take (wordLen (c :: r))) = (decide (0 < wordDigs (c :: r)) && (wordDigs (c :: r) == wordLen (c :: r) - (if c = 45 then 1 else 0))) := by
  have hl : wordLen (c :: r) = wordLen r + 1 := by simp [wordLen, hw]
  have hd : wordDigs (c :: r) = wordDigs r + (if digB c then 1 else 0) := by simp [wordDigs, hw]
  have ha := all_digs r
  have ha' := all_digs (c :: r)
  have hle := wordDigs_le r
  rw [hl] at ha'
  rw [hl, List.take_succ_cons]
  unfold isNum
  have hne : (List.take (wordLen r) r).isEmpty = decide (wordLen r = 0) := by
    rw [Bool.eq_iff_iff]
    simp [List.take_eq_nil_iff]
    intro h; subst h; rfl
  by_cases h45 : c = 45
  · subst h45
    have hz : digB 45 = false := rfl
    simp only [List.head?_cons, if_true, List.tail_cons, ha, hne, hd, hz, Bool.false_eq_true, if_false]
    rw [Bool.eq_iff_iff]; simp; try omega
  · simp only [List.head?_cons, Option.some.injEq, h45, if_false, List.isEmpty_cons, Bool.not_false, Bool.true_and]
    rw [List.take_succ_cons] at ha'
    rw [ha', Bool.eq_iff_iff]; simp; omega

set_option maxHeartbeats 1000000 in
theorem word_any (s : ByteArray) (a : Nat) (hs : s.size ≤ 300000) (ha : a < s.size) (w : World) :
    Calls Tryd.prog 52 #[.string s, .int .i64 a] w fun e w' => e = .returned (stpVal s.size a (wordL (s.data.toList.drop a))) ∧ Below w.heap.size w w' := by
  have hw := wordLen_le (s.data.toList.drop a)
  have hl : (s.data.toList.drop a).length = s.size - a := by simp
  have hb : a + wordLen (s.data.toList.drop a) ≤ s.size := by omega
  have hdc := drop_cons s a ha
  have M := fun w => measure_any s a hs (by omega) w
  obtain ⟨m, hm⟩ : ∃ m, m = wordLen (s.data.toList.drop a) := ⟨_, rfl⟩
  rw [wordL, ← hm]
  by_cases h0 : m = 0
  · rw [if_pos h0]
    subst h0
    rw [← hm] at M
    have HM := Lib.hid M
    have HL := Lib.hid hl
    clear M hm hdc hw hl hb
    go_enter Tryd.func52, Tryd.ntmps52
    go_wp2_with fail
    refine (HM.out _).mono ?_
    rintro e w1 ⟨rfl, rfl⟩
    go_wp2
    refine bodyPost_ret (v := .tuple #[.agg #[.int .i64 0, .string ⟨#[]⟩, .int .i64 0], .int .i64 a, .int .i64 2]) (by simp [results, Tryd.results52, go_sem]) rfl ⟨ret_eq ?_, ?_⟩
    · show _ = Value.tuple #[_, .int .i64 ((s.size - (s.data.toList.drop a).length : Nat) : Int), _]
      rw [HL.out, show s.size - (s.size - a) = a by omega]
      rfl
    · exact (Below.refl _ _).alloc (Nat.le_refl _) _
  · rw [if_neg h0]
    have hwb : wordB s[a] = true := by
      cases hx : wordB s[a] with
      | true => rfl
      | false => exact absurd (by rw [hm, hdc]; simp [wordLen, hx]) h0
    have hin := isNum_word (r := s.data.toList.drop (a + 1)) hwb
    rw [← hdc, ← hm] at hin
    rw [← hm] at M hb
    obtain ⟨d, hd⟩ : ∃ d, d = wordDigs (s.data.toList.drop a) := ⟨_, rfl⟩
    have hdm : d ≤ m := by rw [hd, hm]; exact wordDigs_le _
    rw [← hd] at hin M
    obtain ⟨k, hk⟩ : ∃ k : Nat, k = if isNum ((s.data.toList.drop a).take m) = true then 5 else 4 := ⟨_, rfl⟩
    rw [← hk]
    rw [hin] at hk
    have hrl : ((s.data.toList.drop a).drop m).length = s.size - (a + m) := by simp
    have he : s.extract a (a + m) = ⟨((s.data.toList.drop a).take m).toArray⟩ := by
      refine ba_ext ?_
      rw [Lib.extract_data, show a + m - a = m by omega]
    have HM := Lib.hid M
    have HL := Lib.hid hrl
    have HE := Lib.hid he
    have HK := Lib.hid hk
    have hma : a < a + m := by omega
    clear M hm hd hdc hw hl hin hk hrl he hwb
    have hd0 : d = 0 ∨ 0 < d := by omega
    have hc0 : ((s[a].toNat : Int) == 45) = decide (s[a] = 45) := by rw [Bool.eq_iff_iff]; simp [← UInt8.toNat_inj]; omega
    obtain ⟨x, hx⟩ : ∃ x : Nat, x = if s[a] = 45 then 1 else 0 := ⟨_, rfl⟩
    have HK2 := HK.out
    rw [← hx] at HK2
    have HX : ((s[a].toNat : Int) == 45) = true ∧ x = 1 ∨ ((s[a].toNat : Int) == 45) = false ∧ x = 0 := by
      rw [hc0, hx]
      by_cases h45 : s[a] = 45
      · left; simp [h45]
      · right; simp [h45]
    have HK3 := Lib.hid HK2
    clear HK2 hx hc0 HK
    rcases HX with ⟨hc0, rfl⟩ | ⟨hc0, rfl⟩
    all_goals
      go_enter Tryd.func52, Tryd.ntmps52
      go_wp2_with fail
      refine (HM.out _).mono ?_
      rintro e w1 ⟨rfl, rfl⟩
      go_wp2_with fail
    all_goals
      refine (cut_int s a (a + m) _ _ _ rfl (by omega) hs (by omega) hb _).mono ?_
      rintro e w1 ⟨rfl, hb1⟩
      obtain ⟨hc, hf⟩ := bcell hb1
      go_wp2
      first
      | (refine bodyPost_ret (v := .tuple #[.agg #[.int .i64 5, .string (s.extract a (a + m)), .int .i64 a], .int .i64 (a + m : Int), .int .i64 0]) ?_ rfl ?_; focus (simp [results, Tryd.results52, go_sem, hc]; done))
      | (refine bodyPost_ret (v := .tuple #[.agg #[.int .i64 4, .string (s.extract a (a + m)), .int .i64 a], .int .i64 (a + m : Int), .int .i64 0]) ?_ rfl ?_; focus (simp [results, Tryd.results52, go_sem, hc]; done))
      refine ⟨ret_eq ?_, (((((Below.refl _ _).alloc (Nat.le_refl _) _).trans (hb1.mono (by simp))).setCell (by simp) _).setCell (by simp) _).setCell (by simp) _⟩
      have hk := HK3.out
      rw [HE.out]
      show _ = Value.tuple #[.agg #[.int .i64 (k : Int), _, _], .int .i64 ((s.size - (List.drop m (List.drop a s.data.toList)).length : Nat) : Int), _]
      rw [HL.out, show s.size - (s.size - (a + m)) = a + m by omega]
      first
      | (obtain rfl : k = 5 := by
           rw [hk, if_pos]
           simp at *; omega
         rfl)
      | (obtain rfl : k = 4 := by
           rw [hk, if_neg]
           simp at *; omega
         rfl)
end Go.Proofs.YtghgjefobfaodaaDoor

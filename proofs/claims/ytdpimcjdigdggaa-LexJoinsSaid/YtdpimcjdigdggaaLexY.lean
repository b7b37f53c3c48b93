import Derived.Test.YtdpimcjdigdggaaLexW
import Derived.Laws.AppendOwnNone
namespace Go.Proofs.Ytdpimcjdigdggaa
open Go.RowKit

theorem Toks.shape {w : World} {v : Value} {l : List Tok} (h : Toks w v l) : ∃ a c, v = .slice a l.length c := toks_one h

set_option maxRecDepth 100000 in
set_option maxHeartbeats 4000000 in
theorem joins_long (s t : ByteArray) (w : World) (hs : 700 < (s.size : Int) ∨ (s.size : Int) ≤ 700 ∧ 700 < (t.size : Int)) :
    Calls Try.prog 6 #[.string s, .string t] w fun e w' => e = .returned (.bool true) ∧ Below w.heap.size w w' := by
  have A := awake_any w
  rcases hs with hs | ⟨hs, hs'⟩
  all_goals
    go_enter Try.func6, Try.ntmps6
    go_wp2_with fail
    refine A.mono ?_
    rintro e w1 ⟨rfl, hb1⟩
    have HB1 := Lib.hid hb1
    clear A hb1
    go_wp2
    go_ret
    exact ⟨rfl, HB1.out⟩

set_option maxRecDepth 100000 in
set_option maxHeartbeats 4000000 in
theorem joins_err (s t : ByteArray) (w : World) (hs : (s.size : Int) ≤ 700) (ht : (t.size : Int) ≤ 700) (p c : Nat) (hr : lexN s.size s.data.toList = .err p c) :
    Calls Try.prog 6 #[.string s, .string t] w fun e w' => e = .returned (.bool true) ∧ Below w.heap.size w w' := by
  have A := awake_any w
  have L := fun w => lex_any s (by omega) w
  rw [hr] at L
  have H1 := Lib.hid L
  have H2 := Lib.hid (fun w => lex_any t (by omega) w)
  have hcode := lexN_code hr
  have hne : ((c : Int) != 0) = true := by rw [bne_iff_ne]; omega
  obtain ⟨r, hrt⟩ : ∃ r, r = lexN t.size t.data.toList := ⟨_, rfl⟩
  rw [← hrt] at H2
  clear L hr hcode hrt
  go_enter Try.func6, Try.ntmps6
  go_wp2_with fail
  refine A.mono ?_
  rintro e w1 ⟨rfl, hb1⟩
  have HB1 := Lib.hid hb1
  clear A hb1
  go_wp2_with fail
  refine (H1.out _).mono ?_
  rintro e w2 ⟨he, hb2⟩
  obtain rfl : e = _ := he
  have HB2 := Lib.hid (HB1.out.trans (hb2.mono HB1.out.size))
  clear hb2 HB1
  go_wp2_with fail
  refine (H2.out _).mono ?_
  rintro e w3 ⟨he, hb3⟩
  obtain ⟨sb, rfl, _⟩ := he.open_
  have HB3 := Lib.hid (HB2.out.trans (hb3.mono HB2.out.size))
  clear hb3 HB2 he
  go_wp2
  go_ret
  exact ⟨rfl, HB3.out⟩

set_option maxRecDepth 100000 in
set_option maxHeartbeats 4000000 in
theorem joins_bad (s t : ByteArray) (w : World) (hs : (s.size : Int) ≤ 700) (ht : (t.size : Int) ≤ 700) (a : List Tok) (p c : Nat) (hr : lexN s.size s.data.toList = .ok a) (hr2 : lexN t.size t.data.toList = .err p c)
    (hr3 : lexN (s ++ ⟨#[10]⟩ ++ t).size (s ++ ⟨#[10]⟩ ++ t).data.toList = .err (p + (s.size + 1)) c) :
    Calls Try.prog 6 #[.string s, .string t] w fun e w' => e = .returned (.bool true) ∧ Below w.heap.size w w' := by
  have A := awake_any w
  have L := fun w => lex_any s (by omega) w
  have L2 := fun w => lex_any t (by omega) w
  have hjs : (s ++ ⟨#[10]⟩ ++ t).size ≤ 100000 := by simp only [ByteArray.size_append]; show s.size + 1 + t.size ≤ _; omega
  have L3 := fun w => lex_any (s ++ ⟨#[10]⟩ ++ t) hjs w
  rw [hr] at L
  rw [hr2] at L2
  rw [hr3] at L3
  have H1 := Lib.hid L
  have H2 := Lib.hid L2
  have H3 := Lib.hid L3
  have hcode := lexN_code hr2
  have hne : ((c : Int) != 0) = true := by rw [bne_iff_ne]; omega
  have hp : p ≤ 100000 := by
    have := lex_err _ _ _ (Nat.le_refl _) (by have : t.data.toList.length = t.size := Array.length_toList; omega) _ _ hr2
    omega
  clear L hr hcode L2 hr2 L3 hr3
  go_enter Try.func6, Try.ntmps6
  go_wp2_with fail
  refine A.mono ?_
  rintro e w1 ⟨rfl, hb1⟩
  have HB1 := Lib.hid hb1
  clear A hb1
  go_wp2_with fail
  refine (H1.out _).mono ?_
  rintro e w2 ⟨⟨sa, rfl, hTa⟩, hb2⟩
  have HB2 := Lib.hid (HB1.out.trans (hb2.mono HB1.out.size))
  clear hb2 HB1 hTa
  go_wp2_with fail
  refine (H2.out _).mono ?_
  rintro e w3 ⟨he, hb3⟩
  obtain rfl : e = _ := he
  have HB3 := Lib.hid (HB2.out.trans (hb3.mono HB2.out.size))
  clear hb3 HB2
  go_wp2_with fail
  refine (H3.out _).mono ?_
  rintro e w4 ⟨he, hb4⟩
  obtain rfl : e = _ := he
  have HB4 := Lib.hid (HB3.out.trans (hb4.mono HB3.out.size))
  clear hb4 HB3
  go_wp2
  go_ret
  refine ⟨ret_bool ?_, HB4.out⟩
  simp; omega

set_option maxRecDepth 100000 in
set_option maxHeartbeats 4000000 in
theorem joins_ok (s t : ByteArray) (w : World) (hs : (s.size : Int) ≤ 700) (ht : (t.size : Int) ≤ 700) (a b c : List Tok) (hr : lexN s.size s.data.toList = .ok a) (hr2 : lexN t.size t.data.toList = .ok b)
    (hr3 : lexN (s ++ ⟨#[10]⟩ ++ t).size (s ++ ⟨#[10]⟩ ++ t).data.toList = .ok c) (hal : Alike false c (a ++ b)) (ha : a.length ≤ 1000) (hb : b.length ≤ 1000) :
    Calls Try.prog 6 #[.string s, .string t] w fun e w' => e = .returned (.bool true) ∧ Below w.heap.size w w' := by
  obtain ⟨i0, hi, hz0, hz1, hz2⟩ := info_parts Try.infoRefTok
  have A := awake_any w
  have L := fun w => lex_any s (by omega) w
  have L2 := fun w => lex_any t (by omega) w
  have hjs : (s ++ ⟨#[10]⟩ ++ t).size ≤ 100000 := by simp only [ByteArray.size_append]; show s.size + 1 + t.size ≤ _; omega
  have L3 := fun w => lex_any (s ++ ⟨#[10]⟩ ++ t) hjs w
  rw [hr] at L
  rw [hr2] at L2
  rw [hr3] at L3
  have hcl : c.length ≤ 100000 := by have := hal.1; rw [List.length_append] at this; omega
  have H1 := Lib.hid L
  have H2 := Lib.hid L2
  have H3 := Lib.hid L3
  have HA := Lib.hid hal
  clear L hr L2 hr2 L3 hr3 hal
  go_enter Try.func6, Try.ntmps6
  go_wp2_with fail
  refine A.mono ?_
  rintro e w1 ⟨rfl, hb1⟩
  have HB1 := Lib.hid hb1
  clear A hb1
  go_wp2_with fail
  refine (H1.out _).mono ?_
  rintro e w2 ⟨⟨sa, rfl, hTa⟩, hb2⟩
  have HTa := Lib.hid hTa
  have HB2 := Lib.hid (HB1.out.trans (hb2.mono HB1.out.size))
  clear hb2 HB1 hTa
  go_wp2_with fail
  refine (H2.out _).mono ?_
  rintro e w3 ⟨⟨sb, rfl, hTb⟩, hb3⟩
  have HTa3 := Lib.hid (HTa.out.below hb3)
  have HTb := Lib.hid hTb
  have HB3 := Lib.hid (HB2.out.trans (hb3.mono HB2.out.size))
  clear hb3 HB2 HTa hTb
  go_wp2_with fail
  refine (H3.out _).mono ?_
  rintro e w4 ⟨⟨sc, rfl, hTc⟩, hb4⟩
  have HTa4 := Lib.hid (HTa3.out.below hb4)
  have HTb4 := Lib.hid (HTb.out.below hb4)
  have HTc := Lib.hid hTc
  have HB4 := Lib.hid (HB3.out.trans (hb4.mono HB3.out.size))
  clear hb4 HB3 HTa3 HTb hTc
  go_wp2_with fail
  refine (to_any _ c hcl _ HTc.out).mono ?_
  rintro e w5 ⟨⟨sd, rfl, hTd⟩, hb5⟩
  have HTa5 := Lib.hid (HTa4.out.below hb5)
  have HTb5 := Lib.hid (HTb4.out.below hb5)
  have HTd := Lib.hid hTd
  have HB5 := Lib.hid (HB4.out.trans (hb5.mono HB4.out.size))
  have hs50 := HB5.out.size
  clear hb5 HB4 HTa4 HTb4 HTc hTd
  go_wp2_with fail
  refine (to_own _ a (by omega) _ HTa5.out).mono ?_
  rintro e w6 ⟨⟨va, rfl, hOa, _⟩, hb6⟩
  have HTb6 := Lib.hid (HTb5.out.below hb6)
  have HTd6 := Lib.hid (HTd.out.below hb6)
  have HB6 := Lib.hid (HB5.out.trans (hb6.mono HB5.out.size))
  have HOa := Lib.hid hOa
  have hs6 := hb6.size
  have HB56 := Lib.hid hb6
  clear hb6 HB5 HTa5 HTb5 hOa
  go_wp2_with fail
  refine (to_own _ b (by omega) _ HTb6.out).mono ?_
  rintro e w7 ⟨⟨vb, rfl, hOb, hnb⟩, hb7⟩
  have HTd7 := Lib.hid (HTd6.out.below hb7)
  have HB7 := Lib.hid (HB6.out.trans (hb7.mono HB6.out.size))
  have HOa7 := Lib.hid (own_below HOa.out hb7)
  have HOb := Lib.hid hOb
  have hs7 := hb7.size
  have HB57 := Lib.hid (HB56.out.trans (hb7.mono hs6))
  have hs5 := HB6.out.size
  clear hb7 HB6 HTb6 HTd6 HOa hOb
  by_cases hb0 : b = []
  · have hvb := hnb hb0
    subst hvb
    have HA2 : Hid (Alike false c a) := by
      have := HA.out; rw [hb0, List.append_nil] at this; exact this
    have HTv := Lib.hid (Toks.of_own HOa7.out (by unfold maxLen; omega))
    clear hnb hb0 HOb
    go_wp2_with (at_builtin; refine wpList_append_own_none rfl _ _ 28 rfl w5.heap.size 44 i0 3 Try.underlying28 hi va a.length (toksCells a) rfl HOa7.out rfl ?_)
    go_wp2_with fail
    refine (same_any _ _ false _ _ hcl HA2.out _ HTd7.out HTv.out).mono ?_
    rintro e w8 ⟨rfl, hb8⟩
    have HB8 := Lib.hid (HB7.out.trans (hb8.mono HB7.out.size))
    clear hb8
    go_wp2
    go_ret
    exact ⟨rfl, HB8.out⟩
  · have hbl : 0 < b.length := List.length_pos_iff.2 hb0
    obtain ⟨g, cap, rfl, hcells⟩ : ∃ g cap, vb = .slice (some ⟨g, 0, none⟩) b.length cap ∧ ∀ j u, (toksCells b)[j]? = some u → w7.cell? ((⟨g, 0, none⟩ : Addr).add j) = some u := by
      have hc := @World.ownsRow.cells _ _ _ _ _ _ _ HOb.out
      rcases HOb.out.2 with ⟨_, h0⟩ | ⟨g, cap, cur, rfl, _⟩
      · omega
      · exact ⟨g, cap, rfl, hc rfl⟩
    have HCe := Lib.hid hcells
    have hca := toksCells_len a
    have hcb := toksCells_len b
    have h1c : ∀ u ∈ toksCells b, u.oneCell' = true := by
      intro u hu
      simp only [toksCells, List.mem_flatMap, tokCells] at hu
      obtain ⟨t, _, ht⟩ := hu
      simp at ht
      rcases ht with rfl | rfl | rfl <;> rfl
    have H1c := Lib.hid h1c
    have HCb := Lib.hid hcb
    clear hnb hb0 hcells h1c hca hcb
    go_wp2_with (at_builtin; refine wpList_append_own _ rfl _ _ 28 rfl w5.heap.size 44 i0 (.agg #[.int .i64 0, .string ⟨#[]⟩, .int .i64 0]) 3 32 Try.underlying28 hi hz0 hz1 hz2 rfl (by decide) va a.length (toksCells a) rfl HOa7.out ⟨g, 0, none⟩ b.length cap (toksCells b) rfl HCb.out HCe.out H1c.out (by unfold maxLen; omega) (by omega) (by omega) ?_)
    intro v' w8 hown' hgrow _
    have hB8 := HB7.out.grown hgrow (by omega) (fun x hx => Nat.le_trans hs50 (HOa7.out.lt x hx).1)
    have e : toksCells a ++ toksCells b = toksCells (a ++ b) := by simp [toksCells]
    have hTv : Toks w8 v' (a ++ b) := by
      rw [e, ← List.length_append] at hown'
      exact Toks.of_own hown' (by rw [List.length_append]; unfold maxLen; omega)
    have HTv := Lib.hid hTv
    have hB58 : Below w5.heap.size w5 w8 := HB57.out.grown hgrow (Nat.le_trans hs6 hs7) (fun x hx => (HOa7.out.lt x hx).1)
    have hTd8 : Toks w8 sd c := HTd.out.below hB58
    have HTd8 := Lib.hid hTd8
    have HB8 := Lib.hid hB8
    clear hB8 e hTv hTd8 hgrow hown' hB58
    go_wp2_with fail
    refine (same_any _ _ false _ _ hcl HA.out _ HTd8.out HTv.out).mono ?_
    rintro e w9 ⟨rfl, hb9⟩
    have HB9 := Lib.hid (HB8.out.trans (hb9.mono HB8.out.size))
    clear hb9
    go_wp2
    go_ret
    exact ⟨rfl, HB9.out⟩

theorem joins_any (s t : ByteArray) (w : World) :
    Calls Try.prog 6 #[.string s, .string t] w fun e w' => e = .returned (.bool true) ∧ Below w.heap.size w w' := by
  by_cases hs : (s.size : Int) ≤ 700
  · by_cases ht : (t.size : Int) ≤ 700
    · cases hr : lexN s.size s.data.toList with
      | err p c => exact joins_err s t w hs ht p c hr
      | ok a =>
        have es : s.data.toList.length = s.size := Array.length_toList
        have et : t.data.toList.length = t.size := Array.length_toList
        have hj := lex_join s.size t.data.toList _ _ (Nat.le_refl _) (by omega) a hr
        have hz : (s ++ ⟨#[10]⟩ ++ t).size = s.size + (t.data.toList.length + 1) := by
          simp only [ByteArray.size_append]
          show s.size + 1 + t.size = _
          omega
        have hl : (s ++ ⟨#[10]⟩ ++ t).data.toList = s.data.toList ++ 10 :: t.data.toList := by
          rw [Go.Joins.data_append, Go.Joins.data_append, List.append_assoc]; rfl
        rw [← hz, ← hl] at hj
        have hsh := lex_shift t.size (s.size + 1) _ t.data.toList (Nat.le_refl _) (by omega)
        have hn : t.size + (s.size + 1) = (s ++ ⟨#[10]⟩ ++ t).size := by rw [hz]; omega
        rw [hn] at hsh
        have ha := lexN_count s.size s.data.toList
        have hb := lexN_count t.size t.data.toList
        rw [hr] at ha
        cases hr2 : lexN t.size t.data.toList with
        | err p c =>
          rw [hr2] at hsh
          cases hr3 : lexN (s ++ ⟨#[10]⟩ ++ t).size t.data.toList with
          | ok x => rw [hr3] at hsh; exact absurd hsh (fun h => h)
          | err p' c' =>
            rw [hr3] at hsh hj
            obtain ⟨h1, h2⟩ := hsh
            rw [h1, h2] at hj
            exact joins_bad s t w hs ht a p c hr hr2 hj
        | ok b =>
          rw [hr2] at hsh hb
          cases hr3 : lexN (s ++ ⟨#[10]⟩ ++ t).size t.data.toList with
          | err p' c' => rw [hr3] at hsh; exact absurd hsh (fun h => h)
          | ok x =>
            rw [hr3] at hsh hj
            have hxb : Alike false b x := hsh
            have hal : Alike false (a ++ x) (a ++ b) := by
              refine ⟨by simp [hxb.1], fun j hj' => ?_⟩
              by_cases hja : j < a.length
              · have g : ∀ y : List Tok, (a ++ y).getD j tok0 = a.getD j tok0 := fun y => by simp [List.getD_eq_getElem?_getD, List.getElem?_append_left hja]
                rw [g, g]; exact ⟨rfl, rfl, fun _ => rfl⟩
              · have g : ∀ y : List Tok, (a ++ y).getD j tok0 = y.getD (j - a.length) tok0 := fun y => by simp [List.getD_eq_getElem?_getD, List.getElem?_append_right (Nat.le_of_not_lt hja)]
                rw [g, g]
                rw [List.length_append] at hj'
                have := hxb.2 (j - a.length) (by rw [hxb.1]; omega)
                exact ⟨this.1.symm, this.2.1.symm, fun h => by cases h⟩
            have ha' : a.length ≤ s.data.toList.length := ha
            have hb' : b.length ≤ t.data.toList.length := hb
            exact joins_ok s t w hs ht a b (a ++ x) hr hr2 hj hal (by omega) (by omega)
    · exact joins_long s t w (.inr ⟨hs, by omega⟩)
  · exact joins_long s t w (.inl (by omega))
end Go.Proofs.Ytdpimcjdigdggaa

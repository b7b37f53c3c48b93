import Derived.Test.YtdpimcjdigdggaaLexW
namespace Go.Proofs.Ytdpimcjdigdggaa
open Go.RowKit

theorem quotedL_used (start : List UInt8) : ∀ (n : Nat) (l acc : List UInt8), l.length ≤ n → ∀ k t r, quotedL start l acc = .tok k t r → t.length + r.length + 1 ≤ acc.length + l.length := by
  intro n
  induction n with
  | zero => intro l acc h k t r' he; obtain rfl := List.length_eq_zero_iff.1 (by omega : l.length = 0); simp [quotedL] at he
  | succ n ih =>
    intro l acc h k t r' he
    cases l with
    | nil => simp [quotedL] at he
    | cons c r =>
      simp only [List.length_cons] at h ⊢
      by_cases h1 : c = 34
      · subst h1; rw [q_close] at he; simp only [Stp.tok.injEq] at he
        obtain ⟨_, rfl, rfl⟩ := he
        omega
      · by_cases h2 : c = 92
        · subst h2
          cases r with
          | nil => rw [q_end] at he; cases he
          | cons d r2 =>
            simp only [List.length_cons] at h ⊢
            cases hd : escB d
            · rw [q_noesc _ _ _ hd] at he; cases he
            · rw [q_esc _ _ _ hd] at he
              have := ih r2 _ (by omega) _ _ _ he
              simp only [List.length_append, List.length_cons, List.length_nil] at this
              omega
        · cases hb : (decide (c < 32) || decide (126 < c))
          · rw [q_plain _ _ _ h1 h2 hb] at he
            have := ih r _ (by omega) _ _ _ he
            simp only [List.length_append, List.length_cons, List.length_nil] at this
            omega
          · rw [q_bad _ _ _ h1 h2 hb] at he; cases he
theorem stepL_used {c : UInt8} {r : List UInt8} {k : Nat} {t r' : List UInt8} (h : stepL (c :: r) = .tok k t r') : t.length + r'.length ≤ (c :: r).length ∧ 1 + (spellL k ⟨t.toArray⟩).length + 5 * r'.length ≤ 5 * (c :: r).length := by
  obtain ⟨s1, s2⟩ := stepL_self h
  by_cases h6 : k = 6
  · subst h6
    obtain ⟨h34, _⟩ := s2 rfl
    subst h34
    have hq : quotedL (34 :: r) r [] = .tok 6 t r' := h
    have hu := quotedL_used _ _ _ _ (Nat.le_refl _) _ _ _ hq
    have hs := spellL_len ((6 : Nat) : Int) ⟨t.toArray⟩
    have e : (⟨t.toArray⟩ : ByteArray).size = t.length := by show t.toArray.size = _; simp
    rw [e] at hs
    simp only [List.length_nil, List.length_cons] at hu ⊢
    omega
  · obtain ⟨m, h1, h2, _⟩ := s1 h6
    have hl := congrArg List.length h2
    have hs : (spellL (k : Int) ⟨t.toArray⟩).length = t.length := by rw [spellL_other _ (by omega)]
    have ht : 0 < t.length := by rw [h1]; simp
    rw [List.length_append] at hl
    rw [hs]
    omega
theorem lex_small (N : Nat) : ∀ (n : Nat) (l : List UInt8), l.length ≤ n → ∀ m, lexN N l = .ok m → (flatT m).length ≤ 5 * l.length ∧ ∀ t ∈ m, t.text.size ≤ l.length := by
  intro n
  induction n with
  | zero => intro l h m he; obtain rfl := List.length_eq_zero_iff.1 (by omega : l.length = 0); rw [lexN_nil] at he; cases he; exact ⟨Nat.le_refl _, fun t ht => by cases ht⟩
  | succ n ih =>
    intro l h m he
    cases l with
    | nil => rw [lexN_nil] at he; cases he; exact ⟨Nat.le_refl _, fun t ht => by cases ht⟩
    | cons c r =>
      simp only [List.length_cons] at h
      cases hb : blankB c
      · by_cases h59 : c = 59
        · subst h59
          rw [lexN_cmt] at he
          have hd := dropCmt_le r
          obtain ⟨h1, h2⟩ := ih _ (by omega) m he
          exact ⟨by simp only [List.length_cons]; omega, fun t ht => by have := h2 t ht; simp only [List.length_cons]; omega⟩
        · cases hst : stepL (c :: r) with
          | err p e => rw [lexN_err _ hb h59 hst] at he; cases he
          | tok k t r' =>
            have hlt := stepL_lt hst
            obtain ⟨hu1, hu2⟩ := stepL_used hst
            simp only [List.length_cons] at hlt
            rw [lexN_tok _ hb h59 hst] at he
            cases hx : lexN N r' with
            | err p e => rw [hx] at he; cases he
            | ok x =>
              rw [hx] at he
              simp only [Res.pre, Res.ok.injEq] at he
              subst he
              obtain ⟨h1, h2⟩ := ih r' (by omega) x hx
              refine ⟨?_, fun t' ht => ?_⟩
              · have e : flatT ([⟨(k : Int), ⟨t.toArray⟩, ((N - (c :: r).length : Nat) : Int)⟩] ++ x) = (32 :: spellL (k : Int) ⟨t.toArray⟩) ++ flatT x := rfl
                rw [e, List.length_append, List.length_cons]
                omega
              · rcases List.mem_append.1 ht with h' | h'
                · rw [List.mem_singleton] at h'
                  subst h'
                  show t.toArray.size ≤ _
                  simp only [List.size_toArray]; omega
                · have := h2 t' h'; simp only [List.length_cons]; omega
      · rw [lexN_blank _ _ _ hb] at he
        obtain ⟨h1, h2⟩ := ih _ (by omega) m he
        exact ⟨by simp only [List.length_cons]; omega, fun t ht => by have := h2 t ht; simp only [List.length_cons]; omega⟩

theorem rises_get : ∀ {lo hi : Int} {l : List Tok}, Rises lo hi l → ∀ j, j < l.length → lo ≤ (l.getD j tok0).pos ∧ (l.getD j tok0).pos < hi
  | _, _, [], _, j, hj => by simp at hj
  | lo, hi, t :: r, h, 0, _ => ⟨h.1, h.2.1⟩
  | lo, hi, t :: r, h, j + 1, hj => by
    have := rises_get h.2.2 j (by simpa using hj)
    exact ⟨by have := h.1; simp only [List.getD_cons_succ]; omega, this.2⟩
theorem rises_next : ∀ {lo hi : Int} {l : List Tok}, Rises lo hi l → ∀ j, j + 1 < l.length → (l.getD j tok0).pos < (l.getD (j + 1) tok0).pos
  | _, _, [], _, j, hj => by simp at hj
  | lo, hi, t :: r, h, 0, hj => by
    have := (rises_get h.2.2 0 (by simpa using hj)).1
    simp only [List.getD_cons_zero, List.getD_cons_succ]
    simp only [Nat.zero_add] at *
    omega
  | lo, hi, t :: r, h, j + 1, hj => rises_next h.2.2 j (by simpa using hj)

set_option maxRecDepth 100000 in
set_option maxHeartbeats 4000000 in
theorem again_long (s : ByteArray) (w : World) (hs : 1500 < (s.size : Int)) :
    Calls Try.prog 5 #[.string s] w fun e w' => e = .returned (.bool true) ∧ Below w.heap.size w w' := by
  have A := awake_any w
  go_enter Try.func5, Try.ntmps5
  go_wp2_with fail
  refine A.mono ?_
  rintro e w1 ⟨rfl, hb1⟩
  have HB1 := Lib.hid hb1
  clear A hb1
  go_wp2
  go_ret
  exact ⟨rfl, HB1.out⟩

set_option maxRecDepth 100000 in
set_option maxHeartbeats 4000000 in
theorem again_err (s : ByteArray) (w : World) (hs : (s.size : Int) ≤ 1500) (p c : Nat) (hr : lexN s.size s.data.toList = .err p c) :
    Calls Try.prog 5 #[.string s] w fun e w' => e = .returned (.bool true) ∧ Below w.heap.size w w' := by
  have A := awake_any w
  have L := fun w => lex_any s (by omega) w
  rw [hr] at L
  have H1 := Lib.hid L
  have e : s.data.toList.length = s.size := Array.length_toList
  have hp := lex_err _ _ _ (Nat.le_refl _) (by omega) _ _ hr
  have hp1 : (p : Int) < s.size := by omega
  have hp0 : (0 : Int) ≤ p := by omega
  have hcode := lexN_code hr
  clear L hr e hp
  rcases hcode with rfl | rfl
  all_goals
    go_enter Try.func5, Try.ntmps5
    go_wp2_with fail
    refine A.mono ?_
    rintro e w1 ⟨rfl, hb1⟩
    have HB1 := Lib.hid hb1
    clear A hb1
    go_wp2_with fail
    refine (H1.out _).mono ?_
    rintro e w2 ⟨he, hb2⟩
    obtain rfl : e = _ := he
    have HB2 := Lib.hid (HB1.out.trans (hb2.mono HB1.out.size))
    clear hb2 HB1
    go_wp2
    go_ret
    exact ⟨rfl, HB2.out⟩

set_option maxRecDepth 100000 in
set_option maxHeartbeats 4000000 in
theorem again_ok (s : ByteArray) (w : World) (hs : (s.size : Int) ≤ 1500) (l : List Tok) (hr : lexN s.size s.data.toList = .ok l) :
    Calls Try.prog 5 #[.string s] w fun e w' => e = .returned (.bool true) ∧ Below w.heap.size w w' := by
  have A := awake_any w
  have L := fun w => lex_any s (by omega) w
  rw [hr] at L
  have e : s.data.toList.length = s.size := Array.length_toList
  obtain ⟨hv, hri⟩ := lex_read _ _ _ (Nat.le_refl _) (by omega) _ hr
  rw [e, Nat.sub_self] at hri
  obtain ⟨hfl, htx⟩ := lex_small _ _ _ (Nat.le_refl _) _ hr
  have hcnt := lexN_count s.size s.data.toList
  rw [hr] at hcnt
  have hll : l.length ≤ 1500 := by have : l.length ≤ s.data.toList.length := hcnt; omega
  have hfew : Few l := ⟨by omega, fun t ht => by have := htx t ht; omega⟩
  have T1 := fun v w h => text_any v l hfew w h
  rw [textVal_yes hv] at T1
  obtain ⟨X, hX⟩ : ∃ X : ByteArray, X = ⟨((flatT l).drop 1).toArray⟩ := ⟨_, rfl⟩
  have hXs : X.size ≤ 10000 := by rw [hX]; show ((flatT l).drop 1).toArray.size ≤ _; simp; omega
  have hXl : X.data.toList = (flatT l).drop 1 := by rw [hX]
  obtain ⟨m, hm, ha⟩ := lex_text X.size l hv
  rw [← hXl] at hm
  have L2 := fun w => lex_any X (by omega) w
  rw [hm] at L2
  rw [← hX] at T1
  have hml : m.length ≤ 100000 := by rw [← ha.1]; omega
  have H1 := Lib.hid L
  have H2 := Lib.hid L2
  have H3 := Lib.hid T1
  have HA := Lib.hid ha
  have HM := Lib.hid hml
  have HR := Lib.hid hri
  have HLL : Hid (l.length ≤ 1500) := hll
  have hll' : (l.length : Int) ≤ 1500 := by omega
  clear L hr e hv hri hfl htx hcnt hfew T1 hX hXs hXl hm ha L2 hml hll
  go_enter Try.func5, Try.ntmps5
  go_wp2_with fail
  refine A.mono ?_
  rintro e w1 ⟨rfl, hb1⟩
  have HB1 := Lib.hid hb1
  clear A hb1
  go_wp2_with fail
  refine (H1.out _).mono ?_
  rintro e w2 ⟨⟨sv, rfl, hT⟩, hb2⟩
  have HB2 := Lib.hid (HB1.out.trans (hb2.mono HB1.out.size))
  have HT := Lib.hid hT
  clear hb2 HB1
  obtain ⟨a, cap, rfl⟩ := toks_one hT
  clear hT
  obtain ⟨n, hn⟩ : ∃ n, n = l.length := ⟨_, rfl⟩
  have HN := Lib.hid hn
  rw [← hn] at hll' HT ⊢
  clear hn
  go_wp2
  go_loopw [7] (fun i wr => ∃ k : Nat, k ≤ n ∧ i = .int .i64 k ∧ ∃ d, wr = w2.drewN d) (fun i _ => n - (intOf i).toNat)
  case atStart => exact ⟨0, Nat.zero_le _, rfl, 0, rfl⟩
  case round =>
    obtain ⟨k, hk, rfl, d, rfl⟩ := hrel
    by_cases hlt : k < n
    · rcases HT.out with ⟨h0, _⟩ | ⟨b, off, cap', hvv, hbl, _, hcs⟩
      · have := HN.out; rw [h0] at this; simp at this; omega
      have hvv' : a = some ⟨b, off, none⟩ ∧ n = l.length ∧ cap = cap' := by
        simp only [Value.slice.injEq] at hvv; exact hvv
      obtain ⟨ha1, ha2, ha3⟩ := hvv'
      clear ha2 hvv
      subst ha1 ha3
      have hkl : k < l.length := by rw [← HN.out]; exact hlt
      obtain ⟨r1, r2⟩ := rises_get HR.out k hkl
      have c2 := (hcs k hkl).2.2
      obtain ⟨z, hz⟩ : ∃ z, z = (l.getD k tok0).pos := ⟨_, rfl⟩
      rw [← hz] at r1 r2 c2
      have h0 : (0 : Int) ≤ k := by omega
      have h1 : (k : Int) < n := by omega
      have r1' : (0 : Int) ≤ z := by simpa using r1
      have t1 : decide (z < 0) = false := decide_eq_false (by omega)
      have t2 : decide ((s.size : Int) ≤ z) = false := decide_eq_false (by omega)
      clear r1
      by_cases hk0 : k = 0
      · have k0 : ¬ 0 < k := by omega
        have k0' : (k : Int) ≤ 0 := by omega
        have t3 : decide (0 < (k : Int)) = false := decide_eq_false (by omega)
        have t4 : decide (0 < k) = false := decide_eq_false (by omega)
        clear hk0 hz hcs
        go_wp2
        go_quiet (fail)
        go_wp2
        go_roundw
        case rel => exact ⟨k + 1, by omega, by go_num, _, rfl⟩
        case measure => simp [intOf]; omega
      · obtain ⟨j, rfl⟩ : ∃ j, k = j + 1 := ⟨k - 1, by omega⟩
        have hnx := rises_next HR.out j hkl
        have c2p := (hcs j (by omega)).2.2
        rw [← hz] at hnx
        obtain ⟨y, hy⟩ : ∃ y, y = (l.getD j tok0).pos := ⟨_, rfl⟩
        rw [← hy] at hnx c2p
        have j0 : (0 : Int) ≤ j := by omega
        have j1 : (j : Int) < n := by omega
        have j2 : (0 : Int) < (j : Int) + 1 := by omega
        have t3 : decide ((0 : Int) < (j : Int) + 1) = true := decide_eq_true (by omega)
        have t4 : decide (z ≤ y) = false := decide_eq_false (by omega)
        clear hcs hz hy hk0
        go_wp2
        go_quiet (fail)
        go_wp2
        go_roundw
        case rel => exact ⟨j + 1 + 1, by omega, by go_num, _, rfl⟩
        case measure => simp [intOf]; omega
    · have HT2 : Hid (Toks (w2.drewN d) (.slice a n cap) l) := HT.out.below (below_draws (Below.refl _ _) d)
      have HBd : Hid (Below w.heap.size w (w2.drewN d)) := below_draws HB2.out d
      obtain ⟨w2', hw2⟩ : ∃ x, x = w2.drewN d := ⟨_, rfl⟩
      rw [← hw2] at HT2 HBd ⊢
      clear hw2
      go_wp2_with fail
      refine (H3.out _ _ HT2.out).mono ?_
      rintro e w3 ⟨rfl, hb3⟩
      have HT3 := Lib.hid (HT2.out.below hb3)
      have HB3 := Lib.hid (HBd.out.trans (hb3.mono HBd.out.size))
      clear hb3 HBd HT2
      go_wp2_with fail
      refine (H2.out _).mono ?_
      rintro e w4 ⟨⟨sm, rfl, hTm⟩, hb4⟩
      have HTm := Lib.hid hTm
      have HT4 := Lib.hid (HT3.out.below hb4)
      have HB4 := Lib.hid (HB3.out.trans (hb4.mono HB3.out.size))
      clear hb4 HB3 hTm HT3
      go_wp2_with fail
      refine (to_any _ l (by have := HLL.out; omega) _ HT4.out).mono ?_
      rintro e w5 ⟨⟨sc, rfl, hTc⟩, hb5⟩
      have HTc := Lib.hid hTc
      have HTm5 := Lib.hid (HTm.out.below hb5)
      have HB5 := Lib.hid (HB4.out.trans (hb5.mono HB4.out.size))
      clear hb5 HB4 hTc HTm HT4
      go_wp2_with fail
      refine (to_any _ m HM.out _ HTm5.out).mono ?_
      rintro e w6 ⟨⟨sd, rfl, hTd⟩, hb6⟩
      have HTd := Lib.hid hTd
      have HTc6 := Lib.hid (HTc.out.below hb6)
      have HB6 := Lib.hid (HB5.out.trans (hb6.mono HB5.out.size))
      clear hb6 HB5 hTd HTc HTm5
      go_wp2_with fail
      refine (same_any _ _ false _ _ (by have := HLL.out; omega) HA.out _ HTc6.out HTd.out).mono ?_
      rintro e w7 ⟨rfl, hb7⟩
      have HB7 := Lib.hid (HB6.out.trans (hb7.mono HB6.out.size))
      clear hb7 HB6 HTd HTc6
      go_wp2
      go_ret
      exact ⟨rfl, HB7.out⟩

theorem again_any (s : ByteArray) (w : World) :
    Calls Try.prog 5 #[.string s] w fun e w' => e = .returned (.bool true) ∧ Below w.heap.size w w' := by
  by_cases hs : (s.size : Int) ≤ 1500
  · cases hr : lexN s.size s.data.toList with
    | ok l => exact again_ok s w hs l hr
    | err p c => exact again_err s w hs p c hr
  · exact again_long s w (by omega)
end Go.Proofs.Ytdpimcjdigdggaa

import Derived.Test.YtghgjefobfaodaaDoorLexN
import Derived.Test.YtghgjefobfaodaaDoorLexJ
namespace Go.Proofs.YtghgjefobfaodaaDoor
open Go.RowKit

/-- the ways in which a text is not read as one token -/
theorem readsB_ways (s : ByteArray) (k : Int) (t : ByteArray) :
    (∃ p c, lexN s.size s.data.toList = .err p c ∧ readsB s k t = false ∧ ((c : Int) != 0) = true) ∨
    (∃ l, lexN s.size s.data.toList = .ok l ∧ ((l.length : Int) != 1) = true ∧ readsB s k t = false) ∨
    (∃ u, lexN s.size s.data.toList = .ok [u] ∧ (u.kind != k) = true ∧ readsB s k t = false) ∨
    (∃ u, lexN s.size s.data.toList = .ok [u] ∧ (u.kind != k) = false ∧ (u.text.toList == t.toList) = false ∧ readsB s k t = false) ∨
    (∃ u, lexN s.size s.data.toList = .ok [u] ∧ (u.kind != k) = false ∧ (u.text.toList == t.toList) = true ∧ readsB s k t = true) := by
  unfold readsB
  cases h : lexN s.size s.data.toList with
  | err p c =>
    have := lexN_code h
    exact .inl ⟨p, c, rfl, rfl, by rw [bne_iff_ne]; omega⟩
  | ok l =>
    match l with
    | [] => exact .inr (.inl ⟨[], rfl, rfl, rfl⟩)
    | a :: b :: r => exact .inr (.inl ⟨_, rfl, by rw [bne_iff_ne]; simp only [List.length_cons]; omega, rfl⟩)
    | [u] =>
      right; right
      cases h1 : u.kind == k
      · exact .inl ⟨u, rfl, by rw [bne, h1]; rfl, by simp [h1]⟩
      · right
        cases h2 : u.text.toList == t.toList
        · exact .inl ⟨u, rfl, by rw [bne, h1]; rfl, h2, by simp only [h2, Bool.and_false]⟩
        · exact .inr ⟨u, rfl, by rw [bne, h1]; rfl, h2, by simp only [h1, h2, Bool.and_true]⟩

theorem str_app2 (X sp : List UInt8) : Value.string ((⟨X.toArray⟩ : ByteArray) ++ ⟨sp.toArray⟩) = .string ⟨(X ++ sp).toArray⟩ := str_app _ _

theorem str_app3 (X sp : List UInt8) : Value.string ((⟨X.toArray⟩ : ByteArray) ++ ⟨#[32]⟩ ++ ⟨sp.toArray⟩) = .string ⟨((X ++ [32]) ++ sp).toArray⟩ := by
  congr 1

theorem flatT_round {l : List Tok} (k : Nat) (hkl : k < l.length) {u : Tok} (hu : u = l.getD k tok0) {X : List UInt8} (hX : X = (flatT (l.take k)).drop 1) :
    (flatT (l.take (k + 1))).drop 1 = (if k = 0 then X else X ++ [32]) ++ spellL u.kind u.text := by
  rw [flatT_snoc l k hkl, ← hu, hX]
  by_cases h0 : k = 0
  · subst h0; simp [flatT]
  · rw [if_neg h0]
    obtain ⟨a, r, har⟩ : ∃ a r, flatT (l.take k) = a :: r := by
      obtain ⟨j, rfl⟩ : ∃ j, k = j + 1 := ⟨k - 1, by omega⟩
      rw [flatT_snoc l j (by omega)]
      cases hh : flatT (l.take j) with
      | nil => exact ⟨_, _, rfl⟩
      | cons a r => exact ⟨a, r ++ _, rfl⟩
    rw [har]
    simp

set_option maxRecDepth 100000 in
set_option maxHeartbeats 4000000 in
theorem refText_some (b off cap : Nat) (l : List Tok) (hf : Few l) (w : World) (hb : b < w.heap.size)
    (hc : ∀ j, j < l.length → w.cell? ⟨b, off + j * 3, none⟩ = some (.int .i64 (l.getD j tok0).kind) ∧ w.cell? ⟨b, off + j * 3 + 1, none⟩ = some (.string (l.getD j tok0).text) ∧ w.cell? ⟨b, off + j * 3 + 2, none⟩ = some (.int .i64 (l.getD j tok0).pos)) :
    Calls Tryd.prog 45 #[.slice (some ⟨b, off, none⟩) l.length cap] w fun e w' => e = .returned (textVal l) ∧ Below w.heap.size w w' := by
  have hll := hf.1
  have HC := Lib.hid hc
  have HF := Lib.hid hf
  clear hc hf
  obtain ⟨n, hn⟩ : ∃ n, n = l.length := ⟨_, rfl⟩
  rw [← hn] at hll ⊢
  have HN := Lib.hid hn
  clear hn
  go_enter Tryd.func45, Tryd.ntmps45
  go_wp2
  go_loopw [4, 5] (fun o i wr => ∃ (k : Nat) (X : List UInt8), k ≤ n ∧ i = .int .i64 k ∧ o = .string ⟨X.toArray⟩ ∧ X.length ≤ 60000000 ∧ Hid ((l.take k).all validT = true) ∧ Hid (X = (flatT (l.take k)).drop 1) ∧ Hid (Below w.heap.size w wr) ∧ w.heap.size ≤ wr.heap.size) (fun _ i _ => n - (intOf i).toNat)
  case atStart => exact ⟨0, [], Nat.zero_le _, rfl, rfl, Nat.zero_le _, Lib.hid rfl, Lib.hid rfl, Lib.hid (Below.refl _ _), Nat.le_refl _⟩
  case round =>
    obtain ⟨k, X, hk, rfl, rfl, hXl, HA, HX, HB, hsz⟩ := hrel
    by_cases hlt : k < n
    · have hkl : k < l.length := by rw [← HN.out]; exact hlt
      obtain ⟨u, hu⟩ : ∃ u, u = l.getD k tok0 := ⟨_, rfl⟩
      have hcs := HC.out k hkl
      rw [← hu] at hcs
      obtain ⟨g0, g1, g2⟩ := hcs
      have c0 := (HB.out.cell (p := ⟨b, _, none⟩) hb).trans g0
      have c1 := (HB.out.cell (p := ⟨b, _, none⟩) hb).trans g1
      have c2 := (HB.out.cell (p := ⟨b, _, none⟩) hb).trans g2
      have hbw : b < wr.heap.size := Nat.lt_of_lt_of_le hb hsz
      have HU := Lib.hid hu
      have hfr := flatT_round k hkl hu HX.out
      have hfl := flatT_len HF.out (k + 1)
      clear g0 g1 g2 hu
      have hul : u.text.size ≤ 10000 := by rw [HU.out]; exact few_get HF.out k hkl
      have S := fun w' => one_any u.kind u.pos u.text (by omega) w'
      have hspl := spellL_len u.kind u.text
      obtain ⟨sl, hsl⟩ : ∃ sl, sl = spellL u.kind u.text := ⟨_, rfl⟩
      rw [← hsl] at S hfr hspl
      have L := fun w' => refLex_any ⟨sl.toArray⟩ (by show sl.toArray.size ≤ _; simp; omega) w'
      have hv : readsB ⟨sl.toArray⟩ u.kind u.text = validT u := by rw [hsl]; rfl
      have hways := readsB_ways ⟨sl.toArray⟩ u.kind u.text
      rw [hv] at hways
      have HS := Lib.hid S
      have hsl3 : sl.length ≤ 30000 := by omega
      have hk100 : 30000 * (k + 1) ≤ 60000000 := by omega
      have HFR := Lib.hid hfr
      have HFL := Lib.hid hfl
      clear S hv hsl hul hfr hfl hspl
      rcases hways with ⟨p, c, hr, hvu, hne⟩ | ⟨lm, hr, hne, hvu⟩ | ⟨um, hr, hne, hvu⟩ | ⟨um, hr, hne1, hne, hvu⟩ | ⟨um, hr, hne1, hne, hvu⟩
      · rw [hr] at L
        have HL := Lib.hid L
        have hno : textVal l = .tuple #[.string ⟨#[]⟩, .int .i64 1] := by
          unfold textVal
          rw [all_not l k hkl (by rw [← HU.out]; exact hvu)]
          rfl
        have HNO := Lib.hid hno
        clear hno L hr hvu
        go_wp2_with fail
        refine (HS.out _).mono ?_
        rintro e w1 ⟨rfl, hb1⟩
        have kc := fun o => (hb1.cell (p := ⟨b, o, none⟩) hbw)
        have HB1 := Lib.hid hb1
        have hs1 := hb1.size
        clear hb1
        go_wp2_with fail
        refine (HL.out _).mono ?_
        rintro e w2 ⟨he, hb2⟩
        obtain rfl : e = _ := he
        have HB2 := Lib.hid hb2
        have kc2 := fun o => (hb2.cell (p := ⟨b, o, none⟩) (Nat.lt_of_lt_of_le hbw hs1))
        have hs2 := hb2.size
        clear hb2
        go_wp2
        go_quiet (fail)
        go_wp2
        go_ret2
        exact ⟨ret_eq HNO.out.symm, below_draws ((HB.out.trans (HB1.out.mono hsz)).trans (HB2.out.mono (Nat.le_trans hsz hs1))) _⟩
      · rw [hr] at L
        have HL := Lib.hid L
        have hno : textVal l = .tuple #[.string ⟨#[]⟩, .int .i64 1] := by
          unfold textVal
          rw [all_not l k hkl (by rw [← HU.out]; exact hvu)]
          rfl
        have HNO := Lib.hid hno
        clear hno L hr hvu
        go_wp2_with fail
        refine (HS.out _).mono ?_
        rintro e w1 ⟨rfl, hb1⟩
        have kc := fun o => (hb1.cell (p := ⟨b, o, none⟩) hbw)
        have HB1 := Lib.hid hb1
        have hs1 := hb1.size
        clear hb1
        go_wp2_with fail
        refine (HL.out _).mono ?_
        rintro e w2 ⟨⟨sv, rfl, hT⟩, hb2⟩
        obtain ⟨am, cm, rfl⟩ := toks_one hT
        have HB2 := Lib.hid hb2
        have kc2 := fun o => (hb2.cell (p := ⟨b, o, none⟩) (Nat.lt_of_lt_of_le hbw hs1))
        have hs2 := hb2.size
        clear hb2
        go_wp2
        go_quiet (fail)
        go_wp2
        go_ret2
        exact ⟨ret_eq HNO.out.symm, below_draws ((HB.out.trans (HB1.out.mono hsz)).trans (HB2.out.mono (Nat.le_trans hsz hs1))) _⟩
      · rw [hr] at L
        have HL := Lib.hid L
        have hno : textVal l = .tuple #[.string ⟨#[]⟩, .int .i64 1] := by
          unfold textVal
          rw [all_not l k hkl (by rw [← HU.out]; exact hvu)]
          rfl
        have HNO := Lib.hid hno
        clear hno L hr hvu
        go_wp2_with fail
        refine (HS.out _).mono ?_
        rintro e w1 ⟨rfl, hb1⟩
        have kc := fun o => (hb1.cell (p := ⟨b, o, none⟩) hbw)
        have HB1 := Lib.hid hb1
        have hs1 := hb1.size
        clear hb1
        go_wp2_with fail
        refine (HL.out _).mono ?_
        rintro e w2 ⟨⟨sv, rfl, hT⟩, hb2⟩
        rcases hT with ⟨h0, _⟩ | ⟨bm, offm, capm, rfl, _, _, hcs⟩
        · cases h0
        obtain ⟨m0, m1, _⟩ := hcs 0 (by simp)
        simp only [List.getD_cons_zero, Nat.zero_mul, Nat.add_zero] at m0 m1
        clear hcs
        have HB2 := Lib.hid hb2
        have kc2 := fun o => (hb2.cell (p := ⟨b, o, none⟩) (Nat.lt_of_lt_of_le hbw hs1))
        have hs2 := hb2.size
        clear hb2
        go_wp2
        go_quiet (fail)
        go_wp2
        go_ret2
        exact ⟨ret_eq HNO.out.symm, below_draws ((HB.out.trans (HB1.out.mono hsz)).trans (HB2.out.mono (Nat.le_trans hsz hs1))) _⟩
      · rw [hr] at L
        have HL := Lib.hid L
        have hno : textVal l = .tuple #[.string ⟨#[]⟩, .int .i64 1] := by
          unfold textVal
          rw [all_not l k hkl (by rw [← HU.out]; exact hvu)]
          rfl
        have HNO := Lib.hid hno
        clear hno L hr hvu
        go_wp2_with fail
        refine (HS.out _).mono ?_
        rintro e w1 ⟨rfl, hb1⟩
        have kc := fun o => (hb1.cell (p := ⟨b, o, none⟩) hbw)
        have HB1 := Lib.hid hb1
        have hs1 := hb1.size
        clear hb1
        go_wp2_with fail
        refine (HL.out _).mono ?_
        rintro e w2 ⟨⟨sv, rfl, hT⟩, hb2⟩
        rcases hT with ⟨h0, _⟩ | ⟨bm, offm, capm, rfl, _, _, hcs⟩
        · cases h0
        obtain ⟨m0, m1, _⟩ := hcs 0 (by simp)
        simp only [List.getD_cons_zero, Nat.zero_mul, Nat.add_zero] at m0 m1
        clear hcs
        have HB2 := Lib.hid hb2
        have kc2 := fun o => (hb2.cell (p := ⟨b, o, none⟩) (Nat.lt_of_lt_of_le hbw hs1))
        have hs2 := hb2.size
        clear hb2
        go_wp2
        go_quiet (fail)
        go_wp2
        go_ret2
        exact ⟨ret_eq HNO.out.symm, below_draws ((HB.out.trans (HB1.out.mono hsz)).trans (HB2.out.mono (Nat.le_trans hsz hs1))) _⟩
      · rw [hr] at L
        have HL := Lib.hid L
        have HA2 : Hid ((l.take (k + 1)).all validT = true) := by
          show _ = _
          rw [all_take_snoc l k hkl, HA.out, ← HU.out, hvu]; rfl
        clear L hr hvu
        by_cases h0 : k = 0
        · have HFR2 : Hid ((flatT (l.take (k + 1))).drop 1 = X ++ sl) := by show _ = _; rw [HFR.out, if_pos h0]
          have hk0 : ¬ (0 < (k : Int)) := by omega
          have hk0' : (k : Int) ≤ 0 := by omega
          have hk0n : ¬ 0 < k := by omega
          clear h0
          go_wp2_with fail
          refine (HS.out _).mono ?_
          rintro e w1 ⟨rfl, hb1⟩
          have kc := fun o => (hb1.cell (p := ⟨b, o, none⟩) hbw)
          have HB1 := Lib.hid hb1
          have hs1 := hb1.size
          clear hb1
          go_wp2_with fail
          refine (HL.out _).mono ?_
          rintro e w2 ⟨⟨sv, rfl, hT⟩, hb2⟩
          rcases hT with ⟨h0, _⟩ | ⟨bm, offm, capm, rfl, _, _, hcs⟩
          · cases h0
          obtain ⟨m0, m1, _⟩ := hcs 0 (by simp)
          simp only [List.getD_cons_zero, Nat.zero_mul, Nat.add_zero] at m0 m1
          clear hcs
          have HB2 := Lib.hid hb2
          have kc2 := fun o => (hb2.cell (p := ⟨b, o, none⟩) (Nat.lt_of_lt_of_le hbw hs1))
          have hs2 := hb2.size
          clear hb2
          go_wp2
          go_quiet (fail)
          go_wp2
          exact ⟨⟨k + 1, X ++ sl, by omega, by go_num, str_app2 _ _, by have h1 := HFL.out; have h2 := congrArg List.length HFR2.out; rw [← h2, List.length_drop]; omega, HA2, Lib.hid HFR2.out.symm, Lib.hid (below_draws ((HB.out.trans (HB1.out.mono hsz)).trans (HB2.out.mono (Nat.le_trans hsz hs1))) _), by have := hs1; show _ ≤ w2.heap.size; omega⟩, by simp [intOf]; omega⟩
        · have HFR2 : Hid ((flatT (l.take (k + 1))).drop 1 = (X ++ [32]) ++ sl) := by show _ = _; rw [HFR.out, if_neg h0]
          have hk0 : 0 < (k : Int) := by omega
          have hk0n : 0 < k := by omega
          clear h0
          go_wp2_with fail
          refine (HS.out _).mono ?_
          rintro e w1 ⟨rfl, hb1⟩
          have kc := fun o => (hb1.cell (p := ⟨b, o, none⟩) hbw)
          have HB1 := Lib.hid hb1
          have hs1 := hb1.size
          clear hb1
          go_wp2_with fail
          refine (HL.out _).mono ?_
          rintro e w2 ⟨⟨sv, rfl, hT⟩, hb2⟩
          rcases hT with ⟨h0, _⟩ | ⟨bm, offm, capm, rfl, _, _, hcs⟩
          · cases h0
          obtain ⟨m0, m1, _⟩ := hcs 0 (by simp)
          simp only [List.getD_cons_zero, Nat.zero_mul, Nat.add_zero] at m0 m1
          clear hcs
          have HB2 := Lib.hid hb2
          have kc2 := fun o => (hb2.cell (p := ⟨b, o, none⟩) (Nat.lt_of_lt_of_le hbw hs1))
          have hs2 := hb2.size
          clear hb2
          go_wp2
          go_quiet (fail)
          go_wp2
          exact ⟨⟨k + 1, (X ++ [32]) ++ sl, by omega, by go_num, str_app3 _ _, by have h1 := HFL.out; have h2 := congrArg List.length HFR2.out; rw [← h2, List.length_drop]; omega, HA2, Lib.hid HFR2.out.symm, Lib.hid (below_draws ((HB.out.trans (HB1.out.mono hsz)).trans (HB2.out.mono (Nat.le_trans hsz hs1))) _), by have := hs1; show _ ≤ w2.heap.size; omega⟩, by simp [intOf]; omega⟩
    · have hkn : k = n := by omega
      have HV : Hid (textVal l = .tuple #[.string ⟨X.toArray⟩, .int .i64 0]) := by
        show _ = _
        have ha := HA.out
        have hx := HX.out
        rw [List.take_of_length_le (by rw [← HN.out]; omega)] at ha hx
        unfold textVal
        rw [ha, hx]; rfl
      clear hkn
      go_wp2
      go_ret2
      exact ⟨ret_eq HV.out.symm, HB.out⟩

set_option maxRecDepth 100000 in
set_option maxHeartbeats 1000000 in
theorem refText_none (a : Option Addr) (c : Nat) (w : World) :
    Calls Tryd.prog 45 #[.slice a 0 c] w fun e w' => e = .returned (textVal []) ∧ Below w.heap.size w w' := by
  go_enter Tryd.func45, Tryd.ntmps45
  go_wp2
  refine wp_loop_rounds 1 ?_
  rw [rounds_succ]
  go_wp2
  go_ret2
  exact ⟨rfl, Below.refl _ _⟩

theorem refText_any (v : Value) (l : List Tok) (hf : Few l) (w : World) (h : Toks w v l) :
    Calls Tryd.prog 45 #[v] w fun e w' => e = .returned (textVal l) ∧ Below w.heap.size w w' := by
  rcases h with ⟨rfl, a, c, rfl⟩ | ⟨b, off, cap, rfl, hb, _, hc⟩
  · exact refText_none a c w
  · exact refText_some b off cap l hf w hb hc
end Go.Proofs.YtghgjefobfaodaaDoor

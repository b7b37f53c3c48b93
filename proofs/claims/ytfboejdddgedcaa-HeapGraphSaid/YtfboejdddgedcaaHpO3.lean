import Derived.Test.YtfboejdddgedcaaHpO
namespace Go.Proofs.Ytfboejdddgedcaa
open Go.RowKit

/-- the fields of a word's object -/
def fldsH (L : List Ob) (y : Nat) : List Nat := match atH L y with
  | some k => (L.getD k ob0).f
  | none => []
theorem len_flds (L : List Ob) (y : Nat) : lenH L y = (fldsH L y).length := by
  unfold lenH fldsH
  cases atH L y <;> rfl
theorem fld_at {L : List Ob} {y j : Nat} (hj : j < (fldsH L y).length) : fieldH L y j = ((fldsH L y).getD j 0, true) := by
  unfold fldsH at hj ⊢
  cases he : atH L y with
  | none => rw [he] at hj; exact absurd hj (Nat.not_lt_zero _)
  | some k => rw [he] at hj; exact field_yes he hj
/-- a word that is no place's, or an object's -/
def GdW (L : List Ob) (x : Nat) : Prop := atH L x = none → x % 4 ≠ 0 ∨ x = 0
theorem kind_flag (L : List Ob) (x : Nat) : (kindH L x).2 = (atH L x).isSome := by unfold kindH; cases atH L x <;> rfl
/-- the law's test: a place's word, but no object's -/
theorem bad_test (L : List Ob) (x : Nat) : (((kindH L x).2 == false) && (othH x 0).2 && decide (0 < (othH x 0).1)) = false → GdW L x := by
  intro h he
  rw [kind_flag, he] at h
  unfold othH at h
  by_cases h4 : x % 4 = 0
  · rw [if_pos h4] at h
    simp at h
    right; omega
  · exact .inl h4
theorem flds_lt {L : List Ob} (h : OkL L) (y : Nat) : ∀ x ∈ fldsH L y, x < 18446744073709551616 := by
  unfold fldsH
  cases he : atH L y with
  | none => intro x hx; cases hx
  | some k => exact (h k (atH_some.1 he).1).2.2
theorem flds_le (L : List Ob) (y : Nat) : (fldsH L y).length ≤ usedH L := by
  unfold fldsH
  cases he : atH L y with
  | none => exact Nat.zero_le _
  | some k =>
    have hk := (atH_some.1 he).1
    have := adrH_in (j := (L.getD k ob0).f.length) hk (Nat.le_refl _)
    have := adrH_pos L k
    show (L.getD k ob0).f.length ≤ _
    omega

set_option maxRecDepth 100000 in
set_option maxHeartbeats 8000000 in
theorem stray_any {w : World} {N ok : Nat → Prop} {hb cap : Nat} {L : List Ob} {v : Value} {made : List Nat} (h : PhAt w N hb cap L) (hv : WdS w ok v made) :
    Calls Try.prog 38 #[.pointer (some ⟨hb, 0, none⟩), v] w fun e w' => ∃ z : Bool, e = .returned (.bool z) ∧ (∃ d, w' = w.drewN d) ∧ (z = false → ∀ t, t < made.length → ∀ x ∈ fldsH L (made.getD t 0), GdW L x) := by
  have HP := Lib.hid (fun d => h.drew d)
  have HV := Lib.hid hv
  have HU := Lib.hid h.used
  obtain ⟨a, c, rfl⟩ := hv.val
  have hm := hv.len
  have hm2 : (made.length : Int) ≤ 9223372036854775807 := by unfold maxLen at hm; omega
  obtain ⟨n, hn⟩ : ∃ n, n = made.length := ⟨_, rfl⟩
  rw [← hn] at HV hm2 ⊢
  have HN := Lib.hid hn
  clear h hv hm hn
  go_enter Try.func38, Try.ntmps38
  go_wp2
  go_loopw [5] (fun iv wr => ∃ i d : Nat, i ≤ n ∧ iv = .int .i64 i ∧ Hid (∀ t, t < i → ∀ x ∈ fldsH L (made.getD t 0), GdW L x) ∧ wr = w.drewN d) (fun iv _ => n - (intOf iv).toNat)
  case atStart => exact ⟨0, 0, Nat.zero_le _, rfl, Lib.hid fun t ht => absurd ht (Nat.not_lt_zero _), rfl⟩
  case round =>
    obtain ⟨i, d, hi, rfl, HQ, rfl⟩ := hrel
    by_cases hlt : i < n
    · obtain ⟨g, off, c', hv, _, e0, hxl⟩ := HV.out.elem (j := i) (by rw [← HN.out]; exact hlt)
      rw [← HN.out] at hv
      cases hv
      have HLN := Lib.hid (fun d => plen_any (HP.out d) (made.getD i 0) hxl)
      have HFD := Lib.hid (fun d j => pfield_any (HP.out d) (made.getD i 0) hxl j)
      have HXL := Lib.hid hxl
      have HSM := Lib.hid (flds_lt HU.out.2.2 (made.getD i 0))
      have hfl := flds_le L (made.getD i 0)
      have hub := HU.out
      rw [len_flds] at HLN
      have hflb : (fldsH L (made.getD i 0)).length ≤ 1048576 := by omega
      have HFA := Lib.hid (fun j hj => fld_at (L := L) (y := made.getD i 0) (j := j) hj)
      have hy : ∃ y, y = made.getD i 0 := ⟨_, rfl⟩
      obtain ⟨y, hy⟩ := hy
      rw [← hy] at HLN HFD HSM hflb HFA e0
      have HY := Lib.hid hy
      clear hy hxl hfl hub
      obtain ⟨F, hF⟩ : ∃ F, F = fldsH L y := ⟨_, rfl⟩
      rw [← hF] at HLN HSM hflb HFA
      have HF := Lib.hid hF
      clear hF
      obtain ⟨m, hmm⟩ : ∃ m, m = F.length := ⟨_, rfl⟩
      rw [← hmm] at HLN hflb HFA
      have HMM := Lib.hid hmm
      clear hmm
      go_wp2
      go_loopw [6] (fun jv wr => ∃ j d : Nat, j ≤ m ∧ jv = .int .i64 j ∧ Hid (∀ t, t < j → GdW L (F.getD t 0)) ∧ wr = w.drewN d) (fun jv _ => m - (intOf jv).toNat)
      case atStart => exact ⟨0, d, Nat.zero_le _, rfl, Lib.hid fun t ht => absurd ht (Nat.not_lt_zero _), rfl⟩
      case round =>
        obtain ⟨j, d2, hj, rfl, HG, rfl⟩ := hrel
        by_cases hjl : j < m
        · have hjl2 : j < F.length := by rw [← HMM.out]; exact hjl
          have HFJ := HFA.out j hjl
          have hx := HSM.out _ (getD_mem hjl2)
          obtain ⟨x, hxx⟩ : ∃ x, x = F.getD j 0 := ⟨_, rfl⟩
          rw [← hxx] at HFJ hx
          have HK := Lib.hid (fun d => pkind_any (HP.out d) x hx)
          have HPL := Lib.hid (fun w => pplace_any x hx w)
          have HBT := Lib.hid (bad_test L x)
          have HFJ2 := Lib.hid (fun d => by have := HFD.out d j; rw [HFJ] at this; exact this)
          have HXX := Lib.hid hxx
          generalize kindH L x = kp at *
          obtain ⟨kd, kb⟩ := kp
          generalize othH x 0 = pp at *
          obtain ⟨pa, pb⟩ := pp
          dsimp only at *
          clear HFJ hx hxx hjl2
          go_wp2_with fail
          refine (HLN.out d2).mono ?_
          rintro e w3 ⟨rfl, d3, rfl⟩
          rw [World.drewN_drewN]
          go_wp2_with fail
          refine (HFJ2.out _).mono ?_
          rintro e w4 ⟨rfl, d4, rfl⟩
          rw [World.drewN_drewN]
          go_wp2_with fail
          refine (HK.out _).mono ?_
          rintro e w5 ⟨rfl, d5, rfl⟩
          rw [World.drewN_drewN]
          go_wp2_with fail
          refine (HPL.out _).mono ?_
          rintro e w6 ⟨rfl, rfl⟩
          cases kb with
          | true =>
            have HB2 := Lib.hid (HBT.out (by simp))
            clear HBT
            go_wp2
            exact ⟨⟨j + 1, _, hjl, by go_num, Lib.hid fun t ht => by
              rcases Nat.lt_or_ge t j with h1 | h1
              · exact HG.out t h1
              · obtain rfl : t = j := by omega
                rw [← HXX.out]; exact HB2.out, rfl⟩, by simp [intOf]; omega⟩
          | false =>
            cases pb with
            | false =>
              have HB2 := Lib.hid (HBT.out (by simp))
              clear HBT
              go_wp2
              exact ⟨⟨j + 1, _, hjl, by go_num, Lib.hid fun t ht => by
                rcases Nat.lt_or_ge t j with h1 | h1
                · exact HG.out t h1
                · obtain rfl : t = j := by omega
                  rw [← HXX.out]; exact HB2.out, rfl⟩, by simp [intOf]; omega⟩
            | true =>
              by_cases hpa : 0 < pa
              · clear HBT
                go_wp2
                go_ret
                exact ⟨true, rfl, ⟨_, rfl⟩, nofun⟩
              · have HB2 := Lib.hid (HBT.out (by simpa using hpa))
                clear HBT
                go_wp2
                exact ⟨⟨j + 1, _, hjl, by go_num, Lib.hid fun t ht => by
                  rcases Nat.lt_or_ge t j with h1 | h1
                  · exact HG.out t h1
                  · obtain rfl : t = j := by omega
                    rw [← HXX.out]; exact HB2.out, rfl⟩, by simp [intOf]; omega⟩
        · obtain rfl : j = m := by omega
          have HALL := Lib.hid (show ∀ t, t < i + 1 → ∀ x ∈ fldsH L (made.getD t 0), GdW L x from fun t ht x hx => by
            rcases Nat.lt_or_ge t i with h1 | h1
            · exact HQ.out t h1 x hx
            · obtain rfl : t = i := by omega
              rw [← HY.out, ← HF.out] at hx
              obtain ⟨q, hq, rfl⟩ := List.getElem_of_mem hx
              have := HG.out q (by rw [HMM.out]; exact hq)
              simpa [List.getD_eq_getElem?_getD, hq] using this)
          go_wp2_with fail
          refine (HLN.out d2).mono ?_
          rintro e w3 ⟨rfl, d3, rfl⟩
          rw [World.drewN_drewN]
          go_wp2
          exact ⟨⟨i + 1, _, hlt, by go_num, HALL, rfl⟩, by simp [intOf]; omega⟩
    · obtain rfl : i = n := by omega
      go_wp2
      go_ret
      exact ⟨false, rfl, ⟨_, rfl⟩, fun _ => HQ.out⟩
end Go.Proofs.Ytfboejdddgedcaa

import Derived.Test.YtghgjefobfaodaaDoorLexK
import Derived.Test.YtghgjefobfaodaaDoorLexG
import Derived.Test.YtghgjefobfaodaaDoorLexJ
namespace Go.Proofs.YtghgjefobfaodaaDoor
open Go.RowKit

theorem lexF_code (N : Nat) : ∀ (k : Nat) (l : List UInt8) p c, lexF N k l = .err p c → c = 2 ∨ c = 3 := by
  intro k
  induction k with
  | zero => intro l p c h; cases l <;> simp [lexF] at h
  | succ k ih =>
    intro l p c h
    cases l with
    | nil => simp [lexF] at h
    | cons b r =>
      rw [lexF] at h
      cases hb : blankB b
      · rw [hb] at h
        by_cases h59 : b = 59
        · rw [if_neg (by decide), if_pos h59] at h; exact ih _ _ _ h
        · rw [if_neg (by decide), if_neg h59] at h
          cases hst : stepL (b :: r) with
          | err p' e =>
            rw [hst] at h
            simp only [Res.err.injEq] at h
            rw [← h.2]; exact stepL_code _ _ _ _ hst
          | tok kd t r' =>
            rw [hst] at h
            simp only at h
            cases hx : lexF N k r' with
            | ok l => rw [hx] at h; simp [Res.pre] at h
            | err p' e => rw [hx] at h; simp only [Res.pre, Res.err.injEq] at h; rw [← h.2]; exact ih _ _ _ hx
      · rw [hb, if_pos rfl] at h; exact ih _ _ _ h
theorem lexN_code {N : Nat} {l : List UInt8} {p c : Nat} (h : lexN N l = .err p c) : c = 2 ∨ c = 3 := lexF_code N _ _ _ _ h

/-- is a text read as just this token? -/
def readsB (s : ByteArray) (k : Int) (t : ByteArray) : Bool :=
  match lexN s.size s.data.toList with
  | .ok [u] => u.kind == k && u.text.toList == t.toList
  | _ => false

theorem toks_one {w : World} {v : Value} {l : List Tok} (h : Toks w v l) : ∃ a c, v = .slice a l.length c := by
  rcases h with ⟨rfl, a, c, rfl⟩ | ⟨b, off, cap, rfl, _⟩
  · exact ⟨a, c, rfl⟩
  · exact ⟨_, _, rfl⟩

theorem below_draws {B : Nat} {a w : World} (h : Below B a w) (n : Nat) : Below B a (w.drewN n) := ⟨h.os, h.tape, h.output, h.size, h.block⟩

set_option maxRecDepth 100000 in
set_option maxHeartbeats 2000000 in
theorem readsAs_any (s : ByteArray) (hs : s.size ≤ 100000) (k p : Int) (t : ByteArray) (w : World) :
    Calls Tryd.prog 67 #[.string s, .agg #[.int .i64 k, .string t, .int .i64 p]] w fun e w' => e = .returned (.bool (readsB s k t)) ∧ Below w.heap.size w w' := by
  have L := lex_any s (by omega)
  unfold readsB
  obtain ⟨w0, hw0⟩ : ∃ w0, w0 = w.alloc (.cells #[.int .i64 k, .string t, .int .i64 p] 61) := ⟨_, rfl⟩
  have hz0 : w0.heap.size = w.heap.size + 1 := by rw [hw0]; simp
  have hb0 : Below w.heap.size w w0 := by rw [hw0]; exact (Below.refl _ _).alloc (Nat.le_refl _) _
  have hc0 : w0.cell? ⟨w.heap.size, 0, none⟩ = some (.int .i64 k) := by rw [hw0]; simp [go_sem]
  have hc1 : w0.cell? ⟨w.heap.size, 1, none⟩ = some (.string t) := by rw [hw0]; simp [go_sem]
  have HC0 := Lib.hid hc0
  have HC1 := Lib.hid hc1
  have HZ := Lib.hid hz0
  have HB0 := Lib.hid hb0
  clear hc0 hc1 hz0 hb0
  cases hr : lexN s.size s.data.toList with
  | err pl c =>
    rw [hr] at L
    have hcode := lexN_code hr
    have hne : ((c : Int) == 0) = false := by rw [beq_eq_false_iff_ne]; omega
    have HL := Lib.hid L
    clear L hcode hr
    simp only
    go_enter Tryd.func67, Tryd.ntmps67
    go_wp2_with fail
    rw [← hw0]
    clear hw0
    refine (HL.out _).mono ?_
    rintro e w1 ⟨he, hb1⟩
    obtain rfl : e = _ := he
    go_wp2
    go_quiet (fail)
    go_wp2
    go_ret
    exact ⟨rfl, below_draws (HB0.out.trans (hb1.mono (by rw [HZ.out]; omega))) _⟩
  | ok l =>
    rw [hr] at L
    have HL := Lib.hid L
    clear L hr
    by_cases h1 : l.length = 1
    · obtain ⟨u, rfl⟩ := List.length_eq_one_iff.1 h1
      simp only
      obtain ⟨b1, hk1⟩ : ∃ b1, b1 = (u.kind == k) := ⟨_, rfl⟩
      obtain ⟨b2, hk2⟩ : ∃ b2, b2 = (u.text.toList == t.toList) := ⟨_, rfl⟩
      rw [← hk1, ← hk2]
      replace hk1 := hk1.symm
      replace hk2 := hk2.symm
      clear h1
      cases b1 <;> cases b2
      · go_enter Tryd.func67, Tryd.ntmps67
        go_wp2_with fail
        rw [← hw0]
        clear hw0
        refine (HL.out _).mono ?_
        rintro e w1 ⟨⟨sv, rfl, hT⟩, hb1⟩
        have k0 := (hb1.cell (p := ⟨w.heap.size, 0, none⟩) (by rw [HZ.out]; exact Nat.lt_succ_self _)).trans HC0.out
        have k1 := (hb1.cell (p := ⟨w.heap.size, 1, none⟩) (by rw [HZ.out]; exact Nat.lt_succ_self _)).trans HC1.out
        rcases hT with ⟨h0, _⟩ | ⟨b, off, cap, rfl, _, _, hcs⟩
        · cases h0
        obtain ⟨c0, c1, _⟩ := hcs 0 (by simp)
        simp only [List.getD_cons_zero, Nat.zero_mul, Nat.add_zero] at c0 c1
        clear hcs
        go_wp2
        go_quiet (fail)
        go_wp2
        go_ret
        exact ⟨rfl, below_draws (HB0.out.trans (hb1.mono (by rw [HZ.out]; omega))) _⟩
      · go_enter Tryd.func67, Tryd.ntmps67
        go_wp2_with fail
        rw [← hw0]
        clear hw0
        refine (HL.out _).mono ?_
        rintro e w1 ⟨⟨sv, rfl, hT⟩, hb1⟩
        have k0 := (hb1.cell (p := ⟨w.heap.size, 0, none⟩) (by rw [HZ.out]; exact Nat.lt_succ_self _)).trans HC0.out
        have k1 := (hb1.cell (p := ⟨w.heap.size, 1, none⟩) (by rw [HZ.out]; exact Nat.lt_succ_self _)).trans HC1.out
        rcases hT with ⟨h0, _⟩ | ⟨b, off, cap, rfl, _, _, hcs⟩
        · cases h0
        obtain ⟨c0, c1, _⟩ := hcs 0 (by simp)
        simp only [List.getD_cons_zero, Nat.zero_mul, Nat.add_zero] at c0 c1
        clear hcs
        go_wp2
        go_quiet (fail)
        go_wp2
        go_ret
        exact ⟨rfl, below_draws (HB0.out.trans (hb1.mono (by rw [HZ.out]; omega))) _⟩
      · go_enter Tryd.func67, Tryd.ntmps67
        go_wp2_with fail
        rw [← hw0]
        clear hw0
        refine (HL.out _).mono ?_
        rintro e w1 ⟨⟨sv, rfl, hT⟩, hb1⟩
        have k0 := (hb1.cell (p := ⟨w.heap.size, 0, none⟩) (by rw [HZ.out]; exact Nat.lt_succ_self _)).trans HC0.out
        have k1 := (hb1.cell (p := ⟨w.heap.size, 1, none⟩) (by rw [HZ.out]; exact Nat.lt_succ_self _)).trans HC1.out
        rcases hT with ⟨h0, _⟩ | ⟨b, off, cap, rfl, _, _, hcs⟩
        · cases h0
        obtain ⟨c0, c1, _⟩ := hcs 0 (by simp)
        simp only [List.getD_cons_zero, Nat.zero_mul, Nat.add_zero] at c0 c1
        clear hcs
        go_wp2
        go_quiet (fail)
        go_wp2
        go_ret
        exact ⟨rfl, below_draws (HB0.out.trans (hb1.mono (by rw [HZ.out]; omega))) _⟩
      · go_enter Tryd.func67, Tryd.ntmps67
        go_wp2_with fail
        rw [← hw0]
        clear hw0
        refine (HL.out _).mono ?_
        rintro e w1 ⟨⟨sv, rfl, hT⟩, hb1⟩
        have k0 := (hb1.cell (p := ⟨w.heap.size, 0, none⟩) (by rw [HZ.out]; exact Nat.lt_succ_self _)).trans HC0.out
        have k1 := (hb1.cell (p := ⟨w.heap.size, 1, none⟩) (by rw [HZ.out]; exact Nat.lt_succ_self _)).trans HC1.out
        rcases hT with ⟨h0, _⟩ | ⟨b, off, cap, rfl, _, _, hcs⟩
        · cases h0
        obtain ⟨c0, c1, _⟩ := hcs 0 (by simp)
        simp only [List.getD_cons_zero, Nat.zero_mul, Nat.add_zero] at c0 c1
        clear hcs
        go_wp2
        go_quiet (fail)
        go_wp2
        go_ret
        exact ⟨rfl, below_draws (HB0.out.trans (hb1.mono (by rw [HZ.out]; omega))) _⟩
    · have hv : (match Res.ok l with | .ok [u] => u.kind == k && u.text.toList == t.toList | _ => false) = false := by
        match l, h1 with
        | [], _ => rfl
        | [u], h => exact absurd rfl h
        | _ :: _ :: _, _ => rfl
      rw [hv]
      have hne : ((l.length : Int) == 1) = false := by rw [beq_eq_false_iff_ne]; omega
      clear hv h1
      go_enter Tryd.func67, Tryd.ntmps67
      go_wp2_with fail
      rw [← hw0]
      clear hw0
      refine (HL.out _).mono ?_
      rintro e w1 ⟨⟨sv, rfl, hT⟩, hb1⟩
      obtain ⟨a, c, rfl⟩ := toks_one hT
      go_wp2
      go_quiet (fail)
      go_wp2
      go_ret
      exact ⟨rfl, below_draws (HB0.out.trans (hb1.mono (by rw [HZ.out]; omega))) _⟩
end Go.Proofs.YtghgjefobfaodaaDoor

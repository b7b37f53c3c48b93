import Derived.Test.YtghgjefobfaodaaDoorDatX
namespace Go.Proofs.YtghgjefobfaodaaDoor
open Go.RowKit

theorem rises_mem {lo hi : Int} : ∀ {l : List Tok}, Rises lo hi l → ∀ t ∈ l, lo ≤ t.pos ∧ t.pos ≤ hi
  | [], _, t, ht => by simp at ht
  | u :: r, h, t, ht => by
    rcases List.mem_cons.1 ht with rfl | ht
    · exact ⟨h.1, Int.le_of_lt h.2.1⟩
    · have := rises_mem h.2.2 t ht
      exact ⟨by have := h.1; omega, this.2⟩
theorem run_err (N : Int) (hN : 0 ≤ N) : ∀ (ts : List Tok) (fs : List Fr) (base : List Dat) (a c : Int), (∀ t ∈ ts, 0 ≤ t.pos ∧ t.pos ≤ N) → runD N fs base ts = .err a c → 0 ≤ a ∧ a ≤ N ∧ c ≠ 0
  | [], fs, base, a, c, _, he => by
    cases fs with
    | nil => rw [runD_done] at he; cases he
    | cons x q => rw [runD_nil] at he; cases he; exact ⟨hN, Int.le_refl _, by decide⟩
  | t :: r, fs, base, a, c, hv, he => by
    have ht := hv t (by simp)
    have hvr : ∀ u ∈ r, 0 ≤ u.pos ∧ u.pos ≤ N := fun u hu => hv u (by simp [hu])
    by_cases k1 : t.kind = 1
    · rw [runD_open N fs base r k1] at he
      by_cases hl : 60 ≤ fs.length
      · rw [if_pos hl] at he; cases he; exact ⟨ht.1, ht.2, by decide⟩
      · rw [if_neg hl] at he; exact run_err N hN r _ base a c hvr he
    by_cases k3 : t.kind = 3
    · rw [runD_quote N fs base r k3] at he
      by_cases hl : 60 ≤ fs.length
      · rw [if_pos hl] at he; cases he; exact ⟨ht.1, ht.2, by decide⟩
      · rw [if_neg hl] at he; exact run_err N hN r _ base a c hvr he
    by_cases k2 : t.kind = 2
    · match fs, he with
      | [], he => rw [runD_close_bad N [] base r k2 (.inl rfl)] at he; cases he; exact ⟨ht.1, ht.2, by decide⟩
      | (true, es) :: q, he => rw [runD_close_bad N _ base r k2 (.inr ⟨_, _, rfl⟩)] at he; cases he; exact ⟨ht.1, ht.2, by decide⟩
      | (false, es) :: q, he =>
        rw [runD_close N q base r k2] at he
        exact run_err N hN r _ _ a c hvr he
    by_cases k5 : t.kind = 5
    · rw [runD_num N fs base r k5] at he
      by_cases hd : 200 < digs t.text
      · rw [if_pos hd] at he; cases he; exact ⟨ht.1, ht.2, by decide⟩
      · rw [if_neg hd] at he; exact run_err N hN r _ _ a c hvr he
    · rw [runD_leaf N fs base r k1 k2 k3 k5] at he
      exact run_err N hN r _ _ a c hvr he
theorem read_err {N : Nat} {s : List UInt8} {a c : Int} (h : readN N s = .err a c) (hs : s.length ≤ N) : 0 ≤ a ∧ a ≤ N ∧ c ≠ 0 := by
  unfold readN at h
  cases hx : lexN N s with
  | err p k =>
    rw [hx] at h
    have h1 := lex_err N s.length s (Nat.le_refl _) hs p k hx
    have h2 := lexN_code hx
    cases h
    exact ⟨by omega, by omega, by omega⟩
  | ok ts =>
    rw [hx] at h
    have hr := (lex_read N s.length s (Nat.le_refl _) hs ts hx).2
    exact run_err N (by omega) ts [] [] a c (fun t ht => by have := rises_mem hr t ht; omega) h
end Go.Proofs.YtghgjefobfaodaaDoor

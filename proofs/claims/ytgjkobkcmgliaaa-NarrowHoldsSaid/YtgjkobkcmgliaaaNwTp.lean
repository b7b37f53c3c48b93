import Derived.Test.YtgjkobkcmgliaaaNwTe
namespace Go.Proofs.Ytgjkobkcmgliaaa
open Go.RowKit

theorem if_len (c a b : Prp) (L : Nat) (h1 : c.th.l.length ≤ L ∧ c.el.l.length ≤ L) (h2 : a.th.l.length ≤ L ∧ a.el.l.length ≤ L) (h3 : b.th.l.length ≤ L ∧ b.el.l.length ≤ L) : (ifP c a b).th.l.length ≤ 2 * L ∧ (ifP c a b).el.l.length ≤ 2 * L := by
  have k1 := andF_len c.th a.th
  have k2 := andF_len c.el b.th
  have k3 := andF_len c.th a.el
  have k4 := andF_len c.el b.el
  have k5 := orF_len (andF c.th a.th) (andF c.el b.th)
  have k6 := orF_len (andF c.th a.el) (andF c.el b.el)
  show (orF (andF c.th a.th) (andF c.el b.th)).l.length ≤ 2 * L ∧ (orF (andF c.th a.el) (andF c.el b.el)).l.length ≤ 2 * L
  omega
theorem state_len (v g : Int) : (stateF v g).l.length ≤ 1 := by
  have := nrm_len [(v, g)]
  simpa [stateF] using this
/-- how long the facts of a test may be -/
theorem prp_len : ∀ (n : Nat) (t : Tst), (prpT n t).th.l.length ≤ 2 ^ n ∧ (prpT n t).el.l.length ≤ 2 ^ n := by
  intro n
  induction n with
  | zero => exact fun _ => ⟨Nat.zero_le _, Nat.zero_le _⟩
  | succ n ih =>
    intro t
    have hp : 1 ≤ 2 ^ (n + 1) := Nat.one_le_two_pow
    have hq : 2 ^ (n + 1) = 2 * 2 ^ n := by rw [Nat.pow_succ, Nat.mul_comm]
    unfold prpT
    split
    · exact ⟨Nat.le_trans (state_len _ _) hp, Nat.le_trans (state_len _ _) hp⟩
    · split
      · exact ⟨Nat.zero_le _, Nat.le_trans (state_len _ _) hp⟩
      · split
        · cases t.yes <;> exact ⟨Nat.zero_le _, Nat.zero_le _⟩
        · split
          · have := ih (t.of.getD 0 te0)
            exact ⟨by show (prpT n (t.of.getD 0 te0)).el.l.length ≤ _; omega, by show (prpT n (t.of.getD 0 te0)).th.l.length ≤ _; omega⟩
          · split
            · rw [hq]; exact if_len _ _ _ _ (ih _) (ih _) (ih _)
            · exact ⟨Nat.zero_le _, Nat.zero_le _⟩
end Go.Proofs.Ytgjkobkcmgliaaa

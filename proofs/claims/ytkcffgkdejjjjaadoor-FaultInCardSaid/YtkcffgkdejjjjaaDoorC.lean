import Derived.Test.YtkcffgkdejjjjaaDoorB
namespace Go.Proofs.YtkcffgkdejjjjaaDoor
open Go.RowKit

set_option maxHeartbeats 400000 in
theorem same_none (p q : Option Addr) (c d : Nat) (w : World) :
    Calls Tryd.prog 11 #[.slice p 0 c, .slice q 0 d] w fun e w' => e = .returned (.bool true) ∧ w = w' := by
  go_enter Tryd.func11, Tryd.ntmps11
  go_wp2
  refine wp_loop_rounds 1 ?_
  rw [rounds_succ]
  go_wp2
  go_ret
  exact ⟨rfl, rfl⟩

set_option maxHeartbeats 400000 in
theorem same_some (b off cap b' off' cap' len : Nat) (ss : List ByteArray) (w : World) (hlen : len ≤ maxLen) (hz : ss.length = len)
    (hc : ∀ j, j < ss.length → w.cell? ⟨b, off + j, none⟩ = some (.string (ss.getD j ByteArray.empty)))
    (hc' : ∀ j, j < ss.length → w.cell? ⟨b', off' + j, none⟩ = some (.string (ss.getD j ByteArray.empty))) :
    Calls Tryd.prog 11 #[.slice (some ⟨b, off, none⟩) len cap, .slice (some ⟨b', off', none⟩) len cap'] w fun e w' => e = .returned (.bool true) ∧ ∃ n, w' = w.drewN n := by
  unfold maxLen at hlen
  go_enter Tryd.func11, Tryd.ntmps11
  go_wp2
  go_loopw [5] (fun i wr => ∃ k : Nat, k ≤ len ∧ i = .int .i64 k ∧ ∃ n, wr = w.drewN n) (fun i _ => len - (intOf i).toNat)
  case atStart => exact ⟨0, Nat.zero_le _, rfl, 0, rfl⟩
  case round =>
    obtain ⟨k, hk, rfl, n, rfl⟩ := hrel
    obtain ⟨s, hs⟩ : ∃ s, s = ss.getD k ByteArray.empty := ⟨_, rfl⟩
    by_cases hlt : k < len
    · have hcx : w.cell? ⟨b, off + k, none⟩ = some (.string s) := by rw [hs]; exact hc k (by omega)
      have hcx' : w.cell? ⟨b', off' + k, none⟩ = some (.string s) := by rw [hs]; exact hc' k (by omega)
      clear hs hc hc'
      have h0 : (0 : Int) ≤ k := by omega
      have h1 : (k : Int) < len := by omega
      go_wp2
      go_quiet (fail)
      go_wp2
      go_roundw
      case rel => exact ⟨k + 1, by omega, by go_num, _, rfl⟩
      case measure => simp [intOf]; omega
    · go_wp2
      go_ret
      exact ⟨rfl, _, rfl⟩
end Go.Proofs.YtkcffgkdejjjjaaDoor

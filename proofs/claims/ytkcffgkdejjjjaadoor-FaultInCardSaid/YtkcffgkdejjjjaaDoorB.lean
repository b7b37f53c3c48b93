import Derived.Test.YtkcffgkdejjjjaaDoorRows
import Derived.WalkKit
import Derived.WalkSpells
import Derived.WalkLawsBesides
import Derived.BigQuiet
import Derived.Deep.QuietTactic
import Derived.Outline
namespace Go.Proofs.YtkcffgkdejjjjaaDoor
open Go.RowKit

theorem ret_bool {a b : Bool} (h : a = b) : Ending.returned (.bool a) = .returned (.bool b) := by rw [h]
theorem ret_str {a b : List UInt8} (h : a = b) : Ending.returned (.string ⟨a.toArray⟩) = .returned (.string ⟨b.toArray⟩) := by rw [h]

/-- the sum of the first k lengths, each at most 10000 -/
def lsum (ss : List ByteArray) (k : Nat) : Nat := ((ss.take k).map fun s => min s.size 10000).sum
theorem lsum_succ (ss : List ByteArray) (k : Nat) (h : k < ss.length) : lsum ss (k + 1) = lsum ss k + min (ss.getD k ByteArray.empty).size 10000 := by
  unfold lsum
  rw [List.take_succ_eq_append_getElem h, List.map_append, List.sum_append]
  simp [List.getD_eq_getElem?_getD, h]
theorem lsum_le (ss : List ByteArray) (k : Nat) : lsum ss k ≤ 10000 * k := by
  induction k with
  | zero => simp [lsum]
  | succ k ih =>
    by_cases h : k < ss.length
    · rw [lsum_succ ss k h]; omega
    · unfold lsum at *
      rw [List.take_of_length_le (by omega)] at *
      omega
def lightB (ss : List ByteArray) : Bool := decide (ss.length ≤ 40) && decide (lsum ss (min ss.length 60) < 3000)

set_option maxHeartbeats 400000 in
theorem light_any (b off len cap : Nat) (ss : List ByteArray) (w : World) (hlen : len ≤ maxLen) (hz : ss.length = len)
    (hc : ∀ j, j < ss.length → w.cell? ⟨b, off + j, none⟩ = some (.string (ss.getD j ByteArray.empty))) :
    Calls Tryd.prog 6 #[.slice (some ⟨b, off, none⟩) len cap] w fun e w' => e = .returned (.bool (lightB ss)) ∧ w = w' := by
  unfold maxLen at hlen
  go_enter Tryd.func6, Tryd.ntmps6
  go_wp2
  go_loop [3, 4] (fun n i => ∃ k : Nat, k ≤ len ∧ k ≤ 60 ∧ i = .int .i64 k ∧ n = .int .i64 (lsum ss k : Nat)) (fun _ i => len - (intOf i).toNat)
  case atStart => exact ⟨0, Nat.zero_le _, by omega, rfl, rfl⟩
  case round =>
    obtain ⟨k, hk, hk6, rfl, rfl⟩ := hrel
    have hl := lsum_le ss k
    obtain ⟨s, hs⟩ : ∃ s, s = ss.getD k ByteArray.empty := ⟨_, rfl⟩
    have HL : Hid (k < ss.length → lsum ss (k + 1) = lsum ss k + min s.size 10000) := by rw [hs]; exact lsum_succ ss k
    have hcx : k < len → w.cell? ⟨b, off + k, none⟩ = some (.string s) := fun h => by rw [hs]; exact hc k (by omega)
    clear hs hc
    by_cases hlt : k < len
    · by_cases h6 : k < 60
      · have hcx := hcx hlt
        have HL := HL.out (by omega)
        have HM : Hid (((lsum ss (k+1) : Nat) : Int) = (lsum ss k : Nat) + if (10000 : Int) < s.size then 10000 else (s.size : Int)) := by
          show _ = _
          rw [HL]; split <;> omega
        clear HL
        go_wp2
        go_round
        case rel => exact ⟨k + 1, by omega, by omega, by go_num, by rw [HM.out]⟩
        case measure => simp [intOf]; omega
      · have e60 : k = 60 := by omega
        have HB : Hid (lightB ss = false) := by
          show lightB ss = false
          unfold lightB
          simp; omega
        subst e60
        go_wp2
        go_ret
        exact ⟨ret_bool HB.out.symm, rfl⟩
    · have e : k = len := by omega
      have HB : Hid (lightB ss = (decide (len ≤ 40) && decide (lsum ss len < 3000))) := by
        show lightB ss = _
        unfold lightB
        by_cases h60 : len ≤ 60
        · rw [hz, show min len 60 = len by omega]
        · simp [hz, show ¬ len ≤ 40 by omega]
      have HE : Hid (k = len) := e
      clear e
      go_wp2
      · go_ret
        refine ⟨ret_bool ?_, rfl⟩
        have h40 : len ≤ 40 := by omega
        rw [HB.out, HE.out]; simp [h40]; omega
      · go_ret
        refine ⟨ret_bool ?_, rfl⟩
        have h40 : ¬ len ≤ 40 := by omega
        rw [HB.out]; simp [h40]

set_option maxHeartbeats 400000 in
theorem light_nil (a : Option Addr) (c : Nat) (w : World) :
    Calls Tryd.prog 6 #[.slice a 0 c] w fun e w' => e = .returned (.bool true) ∧ w = w' := by
  go_enter Tryd.func6, Tryd.ntmps6
  go_wp2
  refine wp_loop_rounds 1 ?_
  rw [rounds_succ]
  go_wp2
  go_ret
  exact ⟨rfl, rfl⟩

/-- a slice of strings, as it lies in memory -/
def Strs (w : World) (v : Value) (ss : List ByteArray) : Prop :=
  (ss = [] ∧ ∃ a c, v = .slice a 0 c) ∨ ∃ b off cap, v = .slice (some ⟨b, off, none⟩) ss.length cap ∧ b < w.heap.size ∧ ss.length ≤ maxLen ∧
    ∀ j, j < ss.length → w.cell? ⟨b, off + j, none⟩ = some (.string (ss.getD j ByteArray.empty))

theorem light_calls (v : Value) (ss : List ByteArray) (w : World) (h : Strs w v ss) :
    Calls Tryd.prog 6 #[v] w fun e w' => e = .returned (.bool (lightB ss)) ∧ w = w' := by
  rcases h with ⟨rfl, a, c, rfl⟩ | ⟨b, off, cap, rfl, _, hm, hc⟩
  · exact light_nil a c w
  · exact light_any b off _ cap ss w hm rfl hc

end Go.Proofs.YtkcffgkdejjjjaaDoor

import Derived.Test.YtdpimcjdigdggaaLexQ
import Derived.KernelRfl
namespace Go.Proofs.Ytdpimcjdigdggaa
open Go.RowKit

/-- the sum of the first k lengths, each at most 10000 -/
def lsumT (l : List Tok) (k : Nat) : Nat := ((l.take k).map fun t => min t.text.size 10000).sum
theorem lsumT_succ (l : List Tok) (k : Nat) (h : k < l.length) : lsumT l (k + 1) = lsumT l k + min (l.getD k tok0).text.size 10000 := by
  unfold lsumT
  rw [List.take_succ_eq_append_getElem h, List.map_append, List.sum_append]
  simp [List.getD_eq_getElem?_getD, h]
theorem lsumT_le (l : List Tok) (k : Nat) : lsumT l k ≤ 10000 * k := by
  induction k with
  | zero => simp [lsumT]
  | succ k ih =>
    by_cases h : k < l.length
    · rw [lsumT_succ l k h]; omega
    · unfold lsumT at *
      rw [List.take_of_length_le (by omega)] at *
      omega
def lightB (l : List Tok) : Bool := decide (l.length ≤ 60) && decide (lsumT l (min l.length 80) < 2000)
theorem lsumT_mem (l : List Tok) {t : Tok} (h : t ∈ l) : min t.text.size 10000 ≤ lsumT l l.length := by
  unfold lsumT
  rw [List.take_of_length_le (Nat.le_refl _)]
  induction l with
  | nil => cases h
  | cons a r ih =>
    simp only [List.map_cons, List.sum_cons]
    rcases List.mem_cons.1 h with rfl | h'
    · omega
    · have := ih h'; omega
theorem light_few {l : List Tok} (h : lightB l = true) : Few l ∧ l.length ≤ 60 ∧ ∀ t ∈ l, t.text.size < 2000 := by
  unfold lightB at h
  simp only [Bool.and_eq_true, decide_eq_true_eq] at h
  obtain ⟨h1, h2⟩ := h
  rw [show min l.length 80 = l.length by omega] at h2
  have key : ∀ t ∈ l, t.text.size < 2000 := fun t ht => by have := lsumT_mem l ht; omega
  exact ⟨⟨by omega, fun t ht => by have := key t ht; omega⟩, h1, key⟩
theorem flatT_light {l : List Tok} (h : lightB l = true) : (flatT l).length ≤ 6000 := by
  have hl := h
  unfold lightB at hl
  simp only [Bool.and_eq_true, decide_eq_true_eq] at hl
  obtain ⟨h1, h2⟩ := hl
  rw [show min l.length 80 = l.length by omega] at h2
  obtain ⟨hf, _, hk⟩ := light_few h
  have key : ∀ k, k ≤ l.length → (flatT (l.take k)).length ≤ 2 * lsumT l k + 3 * k := by
    intro k
    induction k with
    | zero => intro _; simp [flatT, lsumT]
    | succ k ih =>
      intro hkl
      have := ih (by omega)
      rw [flatT_snoc l k (by omega), lsumT_succ l k (by omega), List.length_append, List.length_cons]
      have h3 := spellL_len (l.getD k tok0).kind (l.getD k tok0).text
      have h4 : (l.getD k tok0).text.size < 2000 := hk _ (by simp [List.getD_eq_getElem?_getD, show k < l.length by omega])
      omega
  have := key l.length (Nat.le_refl _)
  rw [List.take_of_length_le (Nat.le_refl _)] at this
  omega

set_option maxRecDepth 100000 in
set_option maxHeartbeats 1000000 in
theorem light_some (b off len cap : Nat) (l : List Tok) (w : World) (hlen : len ≤ maxLen) (hz : l.length = len)
    (hc : ∀ j, j < l.length → w.cell? ⟨b, off + j * 3 + 1, none⟩ = some (.string (l.getD j tok0).text)) :
    Calls Try.prog 8 #[.slice (some ⟨b, off, none⟩) len cap] w fun e w' => e = .returned (.bool (lightB l)) ∧ w = w' := by
  unfold maxLen at hlen
  go_enter Try.func8, Try.ntmps8
  go_wp2
  go_loop [3, 4] (fun n i => ∃ k : Nat, k ≤ len ∧ k ≤ 80 ∧ i = .int .i64 k ∧ n = .int .i64 (lsumT l k : Nat)) (fun _ i => len - (intOf i).toNat)
  case atStart => exact ⟨0, Nat.zero_le _, by omega, rfl, rfl⟩
  case round =>
    obtain ⟨k, hk, hk6, rfl, rfl⟩ := hrel
    have hl := lsumT_le l k
    obtain ⟨s, hs⟩ : ∃ s, s = (l.getD k tok0).text := ⟨_, rfl⟩
    have HL : Hid (k < l.length → lsumT l (k + 1) = lsumT l k + min s.size 10000) := by rw [hs]; exact lsumT_succ l k
    have hcx : k < len → w.cell? ⟨b, off + k * 3 + 1, none⟩ = some (.string s) := fun h => by rw [hs]; exact hc k (by omega)
    clear hs hc
    by_cases hlt : k < len
    · by_cases h6 : k < 80
      · have hcx := hcx hlt
        have HL := HL.out (by omega)
        have HM := Lib.hid HL
        clear HL
        go_wp2
        go_round
        case rel => exact ⟨k + 1, by omega, by omega, by go_num, by rw [HM.out]; exact congrArg (Value.int .i64) (by omega)⟩
        case measure => simp [intOf]; omega
      · have e80 : k = 80 := by omega
        have HB : Hid (lightB l = false) := by
          show lightB l = false
          unfold lightB
          simp; omega
        subst e80
        go_wp2
        go_ret
        exact ⟨ret_bool HB.out.symm, rfl⟩
    · have e : k = len := by omega
      have HB : Hid (lightB l = (decide (len ≤ 60) && decide (lsumT l len < 2000))) := by
        show lightB l = _
        unfold lightB
        by_cases h60 : len ≤ 80
        · rw [hz, show min len 80 = len by omega]
        · simp [hz, show ¬ len ≤ 60 by omega]
      have HE : Hid (k = len) := e
      clear e
      go_wp2
      · go_ret
        refine ⟨ret_bool ?_, rfl⟩
        have h40 : len ≤ 60 := by omega
        rw [HB.out, HE.out]; simp [h40]; omega
      · go_ret
        refine ⟨ret_bool ?_, rfl⟩
        have h40 : ¬ len ≤ 60 := by omega
        rw [HB.out]; simp [h40]

set_option maxHeartbeats 400000 in
theorem light_none (a : Option Addr) (c : Nat) (w : World) :
    Calls Try.prog 8 #[.slice a 0 c] w fun e w' => e = .returned (.bool true) ∧ w = w' := by
  go_enter Try.func8, Try.ntmps8
  go_wp2
  refine wp_loop_rounds 1 ?_
  rw [rounds_succ]
  go_wp2
  go_ret
  exact ⟨rfl, rfl⟩
theorem light_any (v : Value) (l : List Tok) (w : World) (h : Toks w v l) :
    Calls Try.prog 8 #[v] w fun e w' => e = .returned (.bool (lightB l)) ∧ w = w' := by
  rcases h with ⟨rfl, a, c, rfl⟩ | ⟨b, off, cap, rfl, _, hm, hc⟩
  · exact light_none a c w
  · exact light_some b off _ cap l w hm rfl (fun j hj => (hc j hj).2.1)

set_option maxHeartbeats 400000 in
theorem same_none (p q : Option Addr) (c d : Nat) (pl : Bool) (w : World) :
    Calls Try.prog 14 #[.slice p 0 c, .slice q 0 d, .bool pl] w fun e w' => e = .returned (.bool true) ∧ ∃ d, w' = w.drewN d := by
  go_enter Try.func14, Try.ntmps14
  go_wp2
  refine wp_loop_rounds 1 ?_
  rw [rounds_succ]
  go_wp2
  go_ret
  exact ⟨rfl, 0, rfl⟩
theorem same_any (v v' : Value) (pl : Bool) (l m : List Tok) (hm : l.length ≤ 100000) (ha : Alike pl l m) (w : World) (h : Toks w v l) (h' : Toks w v' m) :
    Calls Try.prog 14 #[v, v', .bool pl] w fun e w' => e = .returned (.bool true) ∧ Below w.heap.size w w' := by
  have key : Calls Try.prog 14 #[v, v', .bool pl] w fun e w' => e = .returned (.bool true) ∧ ∃ d, w' = w.drewN d := by
    have hl := ha.1
    rcases h with ⟨rfl, a, c, rfl⟩ | ⟨b, off, cap, rfl, hb, hmx, hc⟩
    · obtain ⟨q, d, rfl⟩ := toks_one h'
      rw [← hl]
      exact same_none _ _ _ _ _ w
    · rcases h' with ⟨rfl, a, c, rfl⟩ | ⟨b', off', cap', rfl, hb', hmx', hc'⟩
      · rw [hl]; exact same_none _ _ _ _ _ w
      · rw [← hl]
        exact same_some b off cap b' off' cap' _ pl l m w hm rfl ha hc hc'
  exact key.mono fun e w' ⟨he, d, hw⟩ => ⟨he, by rw [hw]; exact below_draws (Below.refl _ _) d⟩
end Go.Proofs.Ytdpimcjdigdggaa

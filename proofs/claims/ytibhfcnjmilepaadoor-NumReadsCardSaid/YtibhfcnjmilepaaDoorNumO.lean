import Derived.Test.YtibhfcnjmilepaaDoorNumN
namespace Go.Proofs.YtibhfcnjmilepaaDoor
open Go.RowKit

/-- a slice of digits, as it lies in memory -/
def U32s (w : World) (v : Value) (l : List Nat) : Prop :=
  (l = [] ∧ ∃ a c, v = .slice a 0 c) ∨ ∃ b off cap, v = .slice (some ⟨b, off, none⟩) l.length cap ∧ b < w.heap.size ∧ ∀ j, j < l.length → w.cell? ⟨b, off + j, none⟩ = some (u32V (l.getD j 0))
theorem U32s.val {w : World} {v : Value} {l : List Nat} (h : U32s w v l) : ∃ a c, v = .slice a l.length c := by
  rcases h with ⟨rfl, a, c, rfl⟩ | ⟨b, off, cap, rfl, _⟩
  · exact ⟨a, c, rfl⟩
  · exact ⟨_, _, rfl⟩
theorem U32s.of_own {w : World} {B : Nat} {v : Value} {l : List Nat} (h : w.ownsRow B 40 1 v l.length (l.map u32V)) : U32s w v l := by
  have hc := @World.ownsRow.cells _ _ _ _ _ _ _ h
  have hlt := h.lt
  rcases h.2 with ⟨rfl, h0⟩ | ⟨g, cap, cur, rfl, hr⟩
  · exact .inl ⟨List.length_eq_zero_iff.1 h0, none, 0, rfl⟩
  · refine .inr ⟨g, 0, cap, rfl, (hlt g rfl).2, fun j hj => ?_⟩
    have := hc (g := g) rfl j (u32V (l.getD j 0)) (by rw [List.getElem?_map, List.getElem?_eq_getElem hj, List.getD_eq_getElem?_getD, List.getElem?_eq_getElem hj]; rfl)
    have e : (⟨g, 0, none⟩ : Addr).add j = ⟨g, 0 + j, none⟩ := by unfold Addr.add; split <;> simp_all
    rw [e] at this
    exact this
/-- the number of digits, if there is one -/
def joinZ (m : Bool) (l : List Nat) : Option Int := if (l.all fun d => decide (d < bigB)) = true ∧ decide (sg m (valB l) < 0) = m ∧ (digB (valB l)).length = l.length then some (sg m (valB l)) else none
def joinV : Option Int → Value
  | some z => .tuple #[intV z, .int .i64 0]
  | none => .tuple #[intV 0, .int .i64 1]
theorem join_big {m : Bool} {l : List Nat} {k : Nat} (hk : k < l.length) (h : ¬ l.getD k 0 < bigB) : joinZ m l = none := by
  unfold joinZ
  rw [if_neg]
  rintro ⟨h1, _⟩
  rw [List.all_eq_true] at h1
  have := h1 (l.getD k 0) (by rw [List.getD_eq_getElem?_getD, List.getElem?_eq_getElem hk, Option.getD_some]; exact List.getElem_mem hk)
  exact h (of_decide_eq_true this)
theorem all_small {l : List Nat} (h : ∀ k, k < l.length → l.getD k 0 < bigB) : (l.all fun d => decide (d < bigB)) = true := by
  rw [List.all_eq_true]
  intro d hd
  obtain ⟨k, hk, rfl⟩ := List.getElem_of_mem hd
  have := h k hk
  rw [List.getD_eq_getElem?_getD, List.getElem?_eq_getElem hk, Option.getD_some] at this
  exact decide_eq_true this
theorem sg_abs (m : Bool) (n : Nat) : (sg m n).natAbs = n := by unfold sg; split <;> omega
theorem valB_take (l : List Nat) (k : Nat) (h : k < l.length) : valB (l.take (k + 1)) = valB (l.take k) + bigB ^ k * l.getD k 0 := by
  rw [List.take_succ_eq_append_getElem h, valB_snoc, List.length_take, Nat.min_eq_left (by omega), List.getD_eq_getElem?_getD, List.getElem?_eq_getElem h, Option.getD_some]
/-- one decimal digit more -/
theorem dig_step {X : List UInt8} {V x t K : Nat} (hX : X.length = K + t) (hd : allD X) (hv : valL X = V + 10 ^ K * (x % 10 ^ t)) :
    allD (dig (x / 10 ^ t % 10) :: X) ∧ (dig (x / 10 ^ t % 10) :: X).length = K + (t + 1) ∧ valL (dig (x / 10 ^ t % 10) :: X) = V + 10 ^ K * (x % 10 ^ (t + 1)) := by
  have h10 : x / 10 ^ t % 10 < 10 := Nat.mod_lt _ (by omega)
  refine ⟨?_, by simp [hX]; omega, ?_⟩
  · intro c hc
    rcases List.mem_cons.1 hc with rfl | hc
    · exact dig_isD h10
    · exact hd c hc
  · rw [val_cons, dig_nat h10, Nat.add_sub_cancel_left, hX, hv, Nat.mod_pow_succ, Nat.pow_add, Nat.mul_add]
    have : x / 10 ^ t % 10 * (10 ^ K * 10 ^ t) = 10 ^ K * (10 ^ t * (x / 10 ^ t % 10)) := by
      generalize x / 10 ^ t % 10 = y
      generalize (10 : Nat) ^ K = p
      generalize (10 : Nat) ^ t = q
      rw [Nat.mul_comm, Nat.mul_assoc]
    omega
def JoinRel (l : List Nat) (W : World) (d i : Value) (wr : World) : Prop :=
  ∃ (k : Nat) (X : List UInt8), k ≤ l.length ∧ i = .int .i64 k ∧ d = .string ⟨X.toArray⟩ ∧ Hid (X.length = 9 * k) ∧ Hid (allD X) ∧ Hid (valL X = valB (l.take k)) ∧ Hid (∀ j, j < k → l.getD j 0 < bigB) ∧ Hid (Below W.heap.size W wr)
def JoinIn (V x K : Nat) (W : World) (d n k : Value) (wr : World) : Prop :=
  ∃ (t : Nat) (X : List UInt8), t ≤ 9 ∧ k = .int .i64 t ∧ n = .int .u32 (x / 10 ^ t : Nat) ∧ d = .string ⟨X.toArray⟩ ∧ Hid (X.length = K + t) ∧ Hid (allD X) ∧ Hid (valL X = V + 10 ^ K * (x % 10 ^ t)) ∧ Hid (Below W.heap.size W wr)
end Go.Proofs.YtibhfcnjmilepaaDoor

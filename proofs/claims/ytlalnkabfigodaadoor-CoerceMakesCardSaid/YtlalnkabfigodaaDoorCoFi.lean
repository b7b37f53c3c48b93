import Derived.Test.YtlalnkabfigodaaDoorCoSh
import Derived.Laws.Bits64b
import Derived.Laws.Bits128
import Derived.Test.YtlalnkabfigodaaDoorCoTz
import Derived.Test.YtlalnkabfigodaaDoorCoHs
-- joined
namespace Go.Proofs.YtlalnkabfigodaaDoor
open Go.Lib (hid)
open Go.RowKit

def valB : List Nat → Nat
 | [] => 0
 | y :: r => y + 256 * valB r
def mskB (k : Nat) : Nat → Nat
 | 0 => 0
 | n + 1 => k + 256 * mskB k n
theorem land_split (h y m k : Nat) (hy : y < 256) (hk : k < 256) : (y + 256 * h) &&& (k + 256 * m) = (y &&& k) + 256 * (h &&& m) := by
 have e1 := Nat.and_div_two_pow (a := y + 256 * h) (b := k + 256 * m) (n := 8)
 have e2 := Nat.and_mod_two_pow (a := y + 256 * h) (b := k + 256 * m) (n := 8)
 have f1 : (y + 256 * h) / 2 ^ 8 = h := by omega
 have f2 : (k + 256 * m) / 2 ^ 8 = m := by omega
 have f3 : (y + 256 * h) % 2 ^ 8 = y := by omega
 have f4 : (k + 256 * m) % 2 ^ 8 = k := by omega
 rw [f1, f2] at e1
 rw [f3, f4] at e2
 omega
theorem a_bit : ∀ y : Fin 256, ∀ b : Fin 2, (y.val / 2 + 128 * b.val) &&& 85 = (y.val / 2) &&& 85 := by decide +kernel
theorem b_bit : ∀ y : Fin 256, ∀ b : Fin 4, (y.val / 4 + 64 * b.val) &&& 51 = (y.val / 4) &&& 51 := by decide +kernel
def aB (y : Nat) : Nat := ((y / 2) &&& 85) + (y &&& 85)
def bB (y : Nat) : Nat := ((y / 4) &&& 51) + (y &&& 51)
def cB (y : Nat) : Nat := (y / 16 + y) &&& 15
theorem aB_ok : ∀ y : Fin 256, aB y.val < 256 := by decide +kernel
theorem bB_ok : ∀ y : Fin 256, bB (aB y.val) % 16 ≤ 4 ∧ bB (aB y.val) / 16 ≤ 4 := by decide +kernel
theorem pB_one : ∀ y : Fin 256, cB (bB (aB y.val)) ≤ 8 ∧ (cB (bB (aB y.val)) = 0 → y.val = 0) ∧ (cB (bB (aB y.val)) = 1 → y.val = 1 ∨ y.val = 2 ∨ y.val = 4 ∨ y.val = 8 ∨ y.val = 16 ∨ y.val = 32 ∨ y.val = 64 ∨ y.val = 128) := by decide +kernel
theorem val_a : ∀ l : List Nat, (∀ y ∈ l, y < 256) → ((valB l / 2) &&& mskB 85 l.length) + (valB l &&& mskB 85 l.length) = valB (l.map aB)
 | [], _ => by simp [valB, mskB]
 | y :: r, h => by
  have ih := val_a r fun x hx => h x (List.mem_cons_of_mem _ hx)
  have hy := h y List.mem_cons_self
  simp only [valB, List.length_cons, mskB, List.map_cons]
  have e : (y + 256 * valB r) / 2 = (y / 2 + 128 * (valB r % 2)) + 256 * (valB r / 2) := by omega
  rw [e, land_split _ _ _ _ (by omega) (by omega), land_split _ _ _ _ hy (by omega), show (y / 2 + 128 * (valB r % 2)) &&& 85 = (y / 2) &&& 85 from a_bit ⟨y, hy⟩ ⟨valB r % 2, by omega⟩]
  have e2 : aB y = ((y / 2) &&& 85) + (y &&& 85) := rfl
  rw [e2]
  omega
theorem val_b : ∀ l : List Nat, (∀ y ∈ l, y < 256) → ((valB l / 4) &&& mskB 51 l.length) + (valB l &&& mskB 51 l.length) = valB (l.map bB)
 | [], _ => by simp [valB, mskB]
 | y :: r, h => by
  have ih := val_b r fun x hx => h x (List.mem_cons_of_mem _ hx)
  have hy := h y List.mem_cons_self
  simp only [valB, List.length_cons, mskB, List.map_cons]
  have e : (y + 256 * valB r) / 4 = (y / 4 + 64 * (valB r % 4)) + 256 * (valB r / 4) := by omega
  rw [e, land_split _ _ _ _ (by omega) (by omega), land_split _ _ _ _ hy (by omega), show (y / 4 + 64 * (valB r % 4)) &&& 51 = (y / 4) &&& 51 from b_bit ⟨y, hy⟩ ⟨valB r % 4, by omega⟩]
  have e2 : bB y = ((y / 4) &&& 51) + (y &&& 51) := rfl
  rw [e2]
  omega
theorem c_bit : ∀ a : Fin 5, ∀ b : Fin 5, ∀ c : Fin 5, ((b.val + (a.val + 16 * b.val)) + 16 * c.val) &&& 15 = cB (a.val + 16 * b.val) := by decide +kernel
theorem val_c : ∀ l : List Nat, (∀ y ∈ l, y % 16 ≤ 4 ∧ y / 16 ≤ 4) → ((valB l / 16 + valB l) &&& mskB 15 l.length) = valB (l.map cB) ∧ valB l % 16 ≤ 4
 | [], _ => by simp [valB, mskB]
 | y :: r, h => by
  obtain ⟨ih, i2⟩ := val_c r fun x hx => h x (List.mem_cons_of_mem _ hx)
  obtain ⟨h1, h2⟩ := h y List.mem_cons_self
  simp only [valB, List.length_cons, mskB, List.map_cons]
  have e : (y + 256 * valB r) / 16 + (y + 256 * valB r) = ((y / 16 + (y % 16 + 16 * (y / 16))) + 16 * (valB r % 16)) + 256 * (valB r / 16 + valB r) := by omega
  have hc := c_bit ⟨y % 16, by omega⟩ ⟨y / 16, by omega⟩ ⟨valB r % 16, by omega⟩
  simp only at hc
  have hy : y % 16 + 16 * (y / 16) = y := by omega
  refine ⟨?_, by omega⟩
  rw [e, land_split _ _ _ _ (by omega) (by omega), hc, hy, ih]
/-- how many ones: as bits.OnesCount64 reckons it -/
def popX1 (x : Nat) : Nat := ((x / 2) &&& 6148914691236517205) + (x &&& 6148914691236517205)
def popX2 (x : Nat) : Nat := ((x / 4) &&& 3689348814741910323) + (x &&& 3689348814741910323)
def popX3 (x : Nat) : Nat := (x / 16 + x) &&& 1085102592571150095
def popX4 (x : Nat) : Nat := x + x / 256
def popX5 (x : Nat) : Nat := x + x / 65536
def popX6 (x : Nat) : Nat := x + x / 4294967296
def pop64 (x : Nat) : Nat := popX6 (popX5 (popX4 (popX3 (popX2 (popX1 x))))) % 128
theorem valB_le : ∀ l : List Nat, ∀ m, (∀ y ∈ l, y ≤ m) → valB l ≤ mskB m l.length
 | [], _, _ => Nat.zero_le _
 | y :: r, m, h => by
  have := valB_le r m fun x hx => h x (List.mem_cons_of_mem _ hx)
  have := h y List.mem_cons_self
  simp only [valB, List.length_cons, mskB]; omega
theorem digits8 (x : Nat) (hx : x < 18446744073709551616) : ∃ l : List Nat, l.length = 8 ∧ (∀ y ∈ l, y < 256) ∧ valB l = x := by
 refine ⟨[x % 256, x / 256 % 256, x / 65536 % 256, x / 16777216 % 256, x / 4294967296 % 256, x / 1099511627776 % 256, x / 281474976710656 % 256, x / 72057594037927936], rfl, ?_, ?_⟩
 ·
  intro y hy
  simp only [List.mem_cons, List.not_mem_nil, or_false] at hy
  omega
 ·
  simp only [valB]; omega
theorem pop_steps (x : Nat) (hx : x < 18446744073709551616) : ∃ l : List Nat, l.length = 8 ∧ (∀ y ∈ l, y < 256) ∧ valB l = x ∧ popX1 x = valB (l.map aB) ∧ popX2 (popX1 x) = valB ((l.map aB).map bB) ∧ popX3 (popX2 (popX1 x)) = valB (((l.map aB).map bB).map cB) := by
 obtain ⟨l, hl, hb, hv⟩ := digits8 x hx
 have h1 := val_a l hb
 have hb2 : ∀ y ∈ l.map aB, y < 256 := fun y hy => by
  obtain ⟨z, hz, rfl⟩ := List.mem_map.1 hy
  exact aB_ok ⟨z, hb z hz⟩
 have h2 := val_b (l.map aB) hb2
 have hb3 : ∀ y ∈ (l.map aB).map bB, y % 16 ≤ 4 ∧ y / 16 ≤ 4 := fun y hy => by
  obtain ⟨z, hz, rfl⟩ := List.mem_map.1 hy
  obtain ⟨z2, hz2, rfl⟩ := List.mem_map.1 hz
  exact bB_ok ⟨z2, hb z2 hz2⟩
 have h3 := (val_c ((l.map aB).map bB) hb3).1
 simp only [List.length_map] at h2 h3
 rw [hl, hv] at h1
 rw [hl, ← h1] at h2
 rw [hl, ← h2] at h3
 exact ⟨l, hl, hb, hv, h1, by rw [← h1] at *; exact h2, by exact h3⟩
theorem list8 {l : List Nat} (h : l.length = 8) : ∃ a b c d e f g i, l = [a, b, c, d, e, f, g, i] := by
 match l, h with
 | [a, b, c, d, e, f, g, i], _ => exact ⟨a, b, c, d, e, f, g, i, rfl⟩
theorem pop_last (q0 q1 q2 q3 q4 q5 q6 q7 s : Nat) (h0 : q0 ≤ 255) (h1 : q1 ≤ 255) (h2 : q2 ≤ 255) (h3 : q3 ≤ 255) (h : q0 + q4 = s ∧ s < 128) :
  popX6 (q0 + 256 * (q1 + 256 * (q2 + 256 * (q3 + 256 * (q4 + 256 * (q5 + 256 * (q6 + 256 * q7))))))) % 128 = s := by
 obtain ⟨r, hr⟩ : ∃ r, r = q4 + 256 * (q5 + 256 * (q6 + 256 * q7)) := ⟨_, rfl⟩
 rw [← hr]
 unfold popX6
 have e : (q0 + 256 * (q1 + 256 * (q2 + 256 * (q3 + 256 * r)))) / 4294967296 = r := by omega
 rw [e]
 omega
theorem pop_sum (p0 p1 p2 p3 p4 p5 p6 p7 : Nat) (h0 : p0 ≤ 8) (h1 : p1 ≤ 8) (h2 : p2 ≤ 8) (h3 : p3 ≤ 8) (h4 : p4 ≤ 8) (h5 : p5 ≤ 8) (h6 : p6 ≤ 8) (h7 : p7 ≤ 8) :
  popX6 (popX5 (popX4 (valB [p0, p1, p2, p3, p4, p5, p6, p7]))) % 128 = p0 + p1 + p2 + p3 + p4 + p5 + p6 + p7 := by
 obtain ⟨c, hc⟩ : ∃ c, c = valB [p0, p1, p2, p3, p4, p5, p6, p7] := ⟨_, rfl⟩
 rw [← hc]
 simp only [valB] at hc
 have e4 : popX4 c = (p0 + p1) + 256 * ((p1 + p2) + 256 * ((p2 + p3) + 256 * ((p3 + p4) + 256 * ((p4 + p5) + 256 * ((p5 + p6) + 256 * ((p6 + p7) + 256 * p7)))))) := by
  unfold popX4; omega
 rw [e4]
 clear hc e4
 obtain ⟨d, hd⟩ : ∃ d, d = (p0 + p1) + 256 * ((p1 + p2) + 256 * ((p2 + p3) + 256 * ((p3 + p4) + 256 * ((p4 + p5) + 256 * ((p5 + p6) + 256 * ((p6 + p7) + 256 * p7)))))) := ⟨_, rfl⟩
 rw [← hd]
 have e5 : popX5 d = (p0 + p1 + p2 + p3) + 256 * ((p1 + p2 + p3 + p4) + 256 * ((p2 + p3 + p4 + p5) + 256 * ((p3 + p4 + p5 + p6) + 256 * ((p4 + p5 + p6 + p7) + 256 * ((p5 + p6 + p7) + 256 * ((p6 + p7) + 256 * p7)))))) := by
  unfold popX5; omega
 rw [e5]
 clear hd e5
 exact pop_last _ _ _ _ _ _ _ _ _ (by omega) (by omega) (by omega) (by omega) (by omega)
theorem pop_bytes (x : Nat) (hx : x < 18446744073709551616) : ∃ l : List Nat, l.length = 8 ∧ (∀ y ∈ l, y < 256) ∧ valB l = x ∧ pop64 x = (l.map fun y => cB (bB (aB y))).sum := by
 obtain ⟨l, hl, hb, hv, _, _, h3⟩ := pop_steps x hx
 refine ⟨l, hl, hb, hv, ?_⟩
 unfold pop64
 rw [h3]
 obtain ⟨a, b, c, d, e, f, g, i, rfl⟩ := list8 hl
 simp only [List.mem_cons, List.not_mem_nil, or_false, forall_eq_or_imp, forall_eq] at hb
 obtain ⟨ha, hbb, hc, hd, he, hf, hg, hi⟩ := hb
 simp only [List.map_cons, List.map_nil, List.sum_cons, List.sum_nil]
 rw [pop_sum _ _ _ _ _ _ _ _ (pB_one ⟨a, ha⟩).1 (pB_one ⟨b, hbb⟩).1 (pB_one ⟨c, hc⟩).1 (pB_one ⟨d, hd⟩).1 (pB_one ⟨e, he⟩).1 (pB_one ⟨f, hf⟩).1 (pB_one ⟨g, hg⟩).1 (pB_one ⟨i, hi⟩).1]
 simp only [Nat.add_zero, Nat.add_assoc]
theorem sum0 : ∀ l : List Nat, (∀ y ∈ l, y < 256) → (l.map fun y => cB (bB (aB y))).sum = 0 → valB l = 0
 | [], _, _ => rfl
 | y :: r, hb, h => by
  simp only [List.map_cons, List.sum_cons] at h
  have h1 := (pB_one ⟨y, hb y List.mem_cons_self⟩).2.1 (by simp only; omega)
  have h2 := sum0 r (fun x hx => hb x (List.mem_cons_of_mem _ hx)) (by omega)
  simp only at h1
  simp only [valB, h1, h2]
theorem sum1 : ∀ l : List Nat, (∀ y ∈ l, y < 256) → (l.map fun y => cB (bB (aB y))).sum = 1 → ∃ i, i < 8 * l.length ∧ valB l = 2 ^ i
 | [], _, h => by simp at h
 | y :: r, hb, h => by
  simp only [List.map_cons, List.sum_cons] at h
  have hy := hb y List.mem_cons_self
  have hr := fun x hx => hb x (List.mem_cons_of_mem y hx)
  by_cases h0 : cB (bB (aB y)) = 0
  ·
   have h1 := (pB_one ⟨y, hy⟩).2.1 h0
   simp only at h1
   obtain ⟨i, hi, e⟩ := sum1 r hr (by omega)
   exact ⟨i + 8, by simp only [List.length_cons]; omega, by simp only [valB, h1, e, Nat.pow_add]; omega⟩
  ·
   have h1 := (pB_one ⟨y, hy⟩).2.2 (by simp only; omega)
   simp only at h1
   have h2 := sum0 r hr (by omega)
   rcases h1 with rfl | rfl | rfl | rfl | rfl | rfl | rfl | rfl
   ·
    exact ⟨0, by simp only [List.length_cons]; omega, by simp [valB, h2]⟩
   ·
    exact ⟨1, by simp only [List.length_cons]; omega, by simp [valB, h2]⟩
   ·
    exact ⟨2, by simp only [List.length_cons]; omega, by simp [valB, h2]⟩
   ·
    exact ⟨3, by simp only [List.length_cons]; omega, by simp [valB, h2]⟩
   ·
    exact ⟨4, by simp only [List.length_cons]; omega, by simp [valB, h2]⟩
   ·
    exact ⟨5, by simp only [List.length_cons]; omega, by simp [valB, h2]⟩
   ·
    exact ⟨6, by simp only [List.length_cons]; omega, by simp [valB, h2]⟩
   ·
    exact ⟨7, by simp only [List.length_cons]; omega, by simp [valB, h2]⟩
theorem pop_one (x : Nat) (hx : x < 18446744073709551616) (h : pop64 x = 1) : ∃ i, i < 64 ∧ x = 2 ^ i := by
 obtain ⟨l, hl, hb, hv, hs⟩ := pop_bytes x hx
 rw [hs] at h
 obtain ⟨i, hi, e⟩ := sum1 l hb h
 exact ⟨i, by omega, by rw [← hv, e]⟩
theorem pop_pow : ∀ i : Fin 64, pop64 (2 ^ i.val) = 1 := by decide +kernel
theorem pop_le (x : Nat) (hx : x < 18446744073709551616) : popX1 x < 18446744073709551616 ∧ popX2 (popX1 x) < 18446744073709551616 ∧ popX2 (popX1 x) / 16 + popX2 (popX1 x) < 18446744073709551616 ∧ popX3 (popX2 (popX1 x)) ≤ 578721382704613384 := by
 obtain ⟨l, hl, hb, hv, h1, h2, h3⟩ := pop_steps x hx
 have a1 := Nat.and_le_right (n := x / 2) (m := 6148914691236517205)
 have a2 := Nat.and_le_right (n := x) (m := 6148914691236517205)
 have b1 := Nat.and_le_right (n := popX1 x / 4) (m := 3689348814741910323)
 have b2 := Nat.and_le_right (n := popX1 x) (m := 3689348814741910323)
 refine ⟨by unfold popX1; omega, by unfold popX2; omega, by unfold popX2; omega, ?_⟩
 rw [h3]
 have := valB_le (((l.map aB).map bB).map cB) 8 fun y hy => by
  obtain ⟨z, hz, rfl⟩ := List.mem_map.1 hy
  obtain ⟨z2, hz2, rfl⟩ := List.mem_map.1 hz
  obtain ⟨z3, hz3, rfl⟩ := List.mem_map.1 hz2
  exact (pB_one ⟨z3, hb z3 hz3⟩).1
 simp only [List.length_map, hl] at this
 exact Nat.le_trans this (by decide)

set_option maxRecDepth 100000 in
set_option maxHeartbeats 8000000 in
theorem ones64_p (x : Nat) (hx : x < 18446744073709551616) (w : World) : Calls Tryd.prog 77 #[.int .u64 x] w fun e w' => e = .returned (.int .i64 (pop64 x : Nat)) ∧ w' = w := by
 obtain ⟨l1, l2, l3, l4⟩ := pop_le x hx
 obtain ⟨x1, e1⟩ : ∃ y, y = popX1 x := ⟨_, rfl⟩
 obtain ⟨x2, e2⟩ : ∃ y, y = popX2 x1 := ⟨_, rfl⟩
 obtain ⟨x3, e3⟩ : ∃ y, y = popX3 x2 := ⟨_, rfl⟩
 rw [← e1] at l1 l2 l3 l4
 rw [← e2] at l2 l3 l4
 rw [← e3] at l4
 obtain ⟨x4, e4⟩ : ∃ y, y = popX4 x3 := ⟨_, rfl⟩
 obtain ⟨x5, e5⟩ : ∃ y, y = popX5 x4 := ⟨_, rfl⟩
 obtain ⟨x6, e6⟩ : ∃ y, y = popX6 x5 := ⟨_, rfl⟩
 have d6 : pop64 x = x6 % 128 := by unfold pop64; rw [← e1, ← e2, ← e3, ← e4, ← e5, ← e6]
 rw [d6]
 have a1 := Nat.and_le_right (n := x / 2) (m := 6148914691236517205)
 have a2 := Nat.and_le_right (n := x) (m := 6148914691236517205)
 have a3 := Nat.and_le_right (n := x1 / 4) (m := 3689348814741910323)
 have a4 := Nat.and_le_right (n := x1) (m := 3689348814741910323)
 have b1 : bits .and .u64 ((x : Int) / 2) 6148914691236517205 = (((x / 2) &&& 6148914691236517205 : Nat) : Int) := by
  have := bits_and_u64_nat (x / 2) 6148914691236517205 (by omega) (by omega); simpa using this
 have b2 : bits .and .u64 (x : Int) 6148914691236517205 = ((x &&& 6148914691236517205 : Nat) : Int) := bits_and_u64_nat x 6148914691236517205 hx (by omega)
 have b3 : bits .and .u64 ((x1 : Int) / 4) 3689348814741910323 = (((x1 / 4) &&& 3689348814741910323 : Nat) : Int) := by
  have := bits_and_u64_nat (x1 / 4) 3689348814741910323 (by omega) (by omega); simpa using this
 have b4 : bits .and .u64 (x1 : Int) 3689348814741910323 = ((x1 &&& 3689348814741910323 : Nat) : Int) := bits_and_u64_nat x1 3689348814741910323 l1 (by omega)
 have b5 : bits .and .u64 ((x2 : Int) / 16 + (x2 : Int)) 1085102592571150095 = (x3 : Int) := by
  rw [e3, show (x2 : Int) / 16 + (x2 : Int) = ((x2 / 16 + x2 : Nat) : Int) by omega]; exact bits_and_u64_nat (x2 / 16 + x2) 1085102592571150095 l3 (by omega)
 have c1 : IntKind.u64.wrap ((((x / 2) &&& 6148914691236517205 : Nat) : Int) + ((x &&& 6148914691236517205 : Nat) : Int)) = (x1 : Int) := by rw [IntKind.wrap_u64, e1]; unfold popX1; omega
 have c2 : IntKind.u64.wrap ((((x1 / 4) &&& 3689348814741910323 : Nat) : Int) + ((x1 &&& 3689348814741910323 : Nat) : Int)) = (x2 : Int) := by rw [IntKind.wrap_u64, e2]; unfold popX2; omega
 have c3 : IntKind.u64.wrap ((x2 : Int) / 16 + (x2 : Int)) = ((x2 / 16 + x2 : Nat) : Int) := by rw [IntKind.wrap_u64]; omega
 have m4 : x4 < 600000000000000000 := by rw [e4]; unfold popX4; omega
 have m5 : x5 < 610000000000000000 := by rw [e5]; unfold popX5; omega
 have m6 : x6 < 620000000000000000 := by rw [e6]; unfold popX6; omega
 have c4 : IntKind.u64.wrap ((x3 : Int) + (x3 : Int) / 256) = (x4 : Int) := by rw [IntKind.wrap_u64, e4]; unfold popX4; omega
 have c5 : IntKind.u64.wrap ((x4 : Int) + (x4 : Int) / 65536) = (x5 : Int) := by rw [IntKind.wrap_u64, e5]; unfold popX5; omega
 have c6 : IntKind.u64.wrap ((x5 : Int) + (x5 : Int) / 4294967296) = (x6 : Int) := by rw [IntKind.wrap_u64, e6]; unfold popX6; omega
 have c7 : wrap64 (x6 : Int) = (x6 : Int) := by unfold wrap64; omega
 have c8 : bits .and .i64 (x6 : Int) 127 = ((x6 % 128 : Nat) : Int) := by
  rw [i64_and127]; omega
 clear l1 l2 l3 l4 e1 e2 e3 e4 e5 e6 d6 a1 a2 a3 a4 m4 m5 m6 hx
 go_enter Tryd.func77, Tryd.ntmps77
 go_wp2
 go_ret
 exact ⟨rfl, rfl⟩
end Go.Proofs.YtlalnkabfigodaaDoor
namespace Go.Proofs.YtlalnkabfigodaaDoor
open Go.Lib (hid)
open Go.RowKit

set_option maxRecDepth 100000 in
set_option maxHeartbeats 8000000 in
theorem ones_p (x : Nat) (hx : x < 18446744073709551616) (w : World) : Calls Tryd.prog 55 #[.int .u64 x] w fun e w' => e = .returned (.int .i64 (pop64 x : Nat)) ∧ w' = w := by
 have HC := hid (ones64_p x hx w)
 have hw : IntKind.u64.wrap (x : Int) = (x : Int) := by rw [IntKind.wrap_u64]; omega
 go_enter Tryd.func55, Tryd.ntmps55
 go_wp2_with fail
 refine HC.out.mono ?_
 rintro e w2 ⟨rfl, rfl⟩
 go_wp2
 go_ret
 exact ⟨rfl, rfl⟩
theorem ctz_pow : ∀ i : Fin 64, Lib.ctz 64 (2 ^ i.val) = i.val := by decide +kernel
theorem pow_ne : ∀ i : Fin 64, 6 ≤ i.val → ∀ j : Fin 6, 2 ^ i.val ≠ 2 ^ j.val := by decide +kernel
/-- what a tag's word says -/
theorem tag_word (tag : Int) (ht : -9223372036854775808 ≤ tag ∧ tag ≤ 9223372036854775807) : ∃ x : Nat, x < 18446744073709551616 ∧ IntKind.u64.wrap tag = (x : Int) ∧ (∀ j, j < 8 → tag = ((2 ^ j : Nat) : Int) → x = 2 ^ j) ∧ (∀ i, i < 6 → x = 2 ^ i → tag = ((2 ^ i : Nat) : Int)) := by
 refine ⟨(IntKind.u64.wrap tag).toNat, ?_, ?_, ?_, ?_⟩
 ·
  rw [IntKind.wrap_u64]; omega
 ·
  rw [IntKind.wrap_u64]; omega
 ·
  intro j hj h
  have : 2 ^ j ≤ 2 ^ 7 := Nat.pow_le_pow_right (by decide) (by omega)
  rw [IntKind.wrap_u64, h]
  generalize 2 ^ j = p at *
  omega
 ·
  intro i hi h
  have : 2 ^ i ≤ 2 ^ 5 := Nat.pow_le_pow_right (by decide) (by omega)
  rw [IntKind.wrap_u64] at h
  generalize 2 ^ i = p at *
  omega
theorem tag_none {tag : Int} {x : Nat} (c : Co) (hp : pop64 x ≠ 1) (h : ∀ j, j < 8 → tag = ((2 ^ j : Nat) : Int) → x = 2 ^ j) : firstC c tag = 0 := by
 have hn : ∀ j, j < 8 → tag ≠ ((2 ^ j : Nat) : Int) := fun j hj e => hp (by rw [h j hj e]; exact pop_pow ⟨j, by omega⟩)
 rw [first_no c fun j hj => hn j (by omega), if_neg (fun e => hn 6 (by omega) e.1), if_neg (fun e => hn 7 (by omega) e.1)]

set_option maxRecDepth 100000 in
set_option maxHeartbeats 16000000 in
theorem first_p (c : Co) (tag : Int) (v : Value) (w : World) (ht : -9223372036854775808 ≤ tag ∧ tag ≤ 9223372036854775807) (hT : TzW w) (hv : CoV w v c) : Calls Tryd.prog 25 #[v, .int .i64 tag] w fun e w' => e = .returned (.int .i64 (firstC c tag)) ∧ Below w.heap.size w w' := by
 obtain ⟨x, hx, hwr, hj, hi⟩ := tag_word tag ht
 obtain ⟨pa, pc, fa, fc, rfl, hp, hf⟩ := hv.form
 obtain ⟨np, hnp⟩ : ∃ n, n = c.pairs.length := ⟨_, rfl⟩
 obtain ⟨nf, hnf⟩ : ∃ n, n = c.funs.length := ⟨_, rfl⟩
 rw [← hnp] at hp ⊢
 rw [← hnf] at hf ⊢
 have bp : (np : Int) ≤ 9223372036854775807 := by have := hp.len; rw [← hnp] at this; unfold maxLen at this; omega
 have bf : (nf : Int) ≤ 9223372036854775807 := by have := hf.len; rw [← hnf] at this; unfold maxLen at this; omega
 obtain ⟨W, hW⟩ : ∃ W, W = w.alloc (.cells #[.int .i64 c.h.f0, .int .i64 c.h.f1, .int .i64 c.h.f2, .int .i64 c.h.f3, .int .i64 c.h.f4, .int .i64 c.h.f5, .int .i64 c.h.pair, .int .i64 c.h.pl, .slice pa np pc, .int .i64 c.h.fn, .int .i64 c.h.fl, .slice fa nf fc] 25) := ⟨_, rfl⟩
 have HX := hid (show CBox W w.heap.size 25 ⟨c.h, .slice pa np pc, .slice fa nf fc⟩ by rw [hW]; exact CBox.made _ _ ⟨c.h, .slice pa np pc, .slice fa nf fc⟩)
 have HL := hid (show Below w.heap.size w W by rw [hW]; exact bAl _ _)
 have HP := hid (CoSN.below hp HL.out)
 have HF := hid (CoSN.below hf HL.out)
 have HPN := hid hnp
 have HFN := hid hnf
 have HW := hid hW
 clear hp hf hnp hnf hW hv
 have HT := hid (hT.keep HL.out)
 obtain ⟨z, hz⟩ : ∃ z, z = firstC c tag := ⟨_, rfl⟩
 have HO := hid (ones_p x hx W)
 have HZP := hid (fun h0 => tz_p x hx h0 W HT.out)
 by_cases h1 : pop64 x = 1
 case neg =>
  have hz0 : z = 0 := by rw [hz]; exact tag_none c h1 hj
  rw [← hz, hz0]
  have q1 : (((pop64 x : Nat) : Int) != 1) = true := bne_iff_ne.2 (by omega)
  clear hz0 hz h1 hT hi hj hx HZP
  go_enter Tryd.func25, Tryd.ntmps25
  go_wp2_with fail
  rw [← HW.out]
  refine HO.out.mono ?_
  rintro e w2 ⟨rfl, rfl⟩
  go_wp2
  refine bodyPost_ret (v := .int .i64 0) ?_ ?_ ?_
  ·
   simp [results, Tryd.results25, go_sem]
  ·
   rfl
  ·
   exact ⟨rfl, HL.out⟩
 obtain ⟨i, hi64, hxi⟩ := pop_one x hx h1
 have q1 : (((pop64 x : Nat) : Int) != 1) = false := by rw [h1]; rfl
 have hc : Lib.ctz 64 x = i := by rw [hxi]; exact ctz_pow ⟨i, hi64⟩
 have HZC := hid (HZP.out (by rw [hxi]; exact Nat.ne_of_gt (Nat.pow_pos (by decide))))
 rw [hc] at HZC
 clear HZP hc h1 hT
 have HXI := hid hxi
 clear hxi
 have x0 : W.cell? ⟨w.heap.size, 0, none⟩ = some (.int .i64 c.h.f0) := HX.out.c0
 have x1 : W.cell? ⟨w.heap.size, 1, none⟩ = some (.int .i64 c.h.f1) := HX.out.c1
 have x2 : W.cell? ⟨w.heap.size, 2, none⟩ = some (.int .i64 c.h.f2) := HX.out.c2
 have x3 : W.cell? ⟨w.heap.size, 3, none⟩ = some (.int .i64 c.h.f3) := HX.out.c3
 have x4 : W.cell? ⟨w.heap.size, 4, none⟩ = some (.int .i64 c.h.f4) := HX.out.c4
 have x5 : W.cell? ⟨w.heap.size, 5, none⟩ = some (.int .i64 c.h.f5) := HX.out.c5
 have x6 : W.cell? ⟨w.heap.size, 6, none⟩ = some (.int .i64 c.h.pair) := HX.out.c6
 have x7 : W.cell? ⟨w.heap.size, 7, none⟩ = some (.int .i64 c.h.pl) := HX.out.c7
 have x9 : W.cell? ⟨w.heap.size, 9, none⟩ = some (.int .i64 c.h.fn) := HX.out.c9
 have x10 : W.cell? ⟨w.heap.size, 10, none⟩ = some (.int .i64 c.h.fl) := HX.out.c10
 by_cases h6 : i < 6
 case pos =>
  have HTG := hid (hi i h6 HXI.out)
  have hz1 : z = c.h.flat.getD i 0 := by rw [hz]; exact first_at c h6 HTG.out
  clear hi hj hx ht
  have HZ := hid hz1
  rw [← hz, HZ.out]
  clear hz hz1 HXI HTG
  obtain rfl | rfl | rfl | rfl | rfl | rfl : i = 0 ∨ i = 1 ∨ i = 2 ∨ i = 3 ∨ i = 4 ∨ i = 5 := by omega
  ·
   clear h6 hi64 HZ
   go_enter Tryd.func25, Tryd.ntmps25
   go_wp2_with fail
   rw [← HW.out]
   refine HO.out.mono ?_
   rintro e w2 ⟨rfl, rfl⟩
   go_wp2_with fail
   refine HZC.out.mono ?_
   rintro e w2 ⟨rfl, rfl⟩
   go_wp2
   refine bodyPost_ret (v := .int .i64 c.h.f0) ?_ ?_ ?_
   ·
    simp [results, Tryd.results25, go_sem]
   ·
    rfl
   ·
    exact ⟨rfl, HL.out⟩
  ·
   clear h6 hi64 HZ
   go_enter Tryd.func25, Tryd.ntmps25
   go_wp2_with fail
   rw [← HW.out]
   refine HO.out.mono ?_
   rintro e w2 ⟨rfl, rfl⟩
   go_wp2_with fail
   refine HZC.out.mono ?_
   rintro e w2 ⟨rfl, rfl⟩
   go_wp2
   refine bodyPost_ret (v := .int .i64 c.h.f1) ?_ ?_ ?_
   ·
    simp [results, Tryd.results25, go_sem]
   ·
    rfl
   ·
    exact ⟨rfl, HL.out⟩
  ·
   clear h6 hi64 HZ
   go_enter Tryd.func25, Tryd.ntmps25
   go_wp2_with fail
   rw [← HW.out]
   refine HO.out.mono ?_
   rintro e w2 ⟨rfl, rfl⟩
   go_wp2_with fail
   refine HZC.out.mono ?_
   rintro e w2 ⟨rfl, rfl⟩
   go_wp2
   refine bodyPost_ret (v := .int .i64 c.h.f2) ?_ ?_ ?_
   ·
    simp [results, Tryd.results25, go_sem]
   ·
    rfl
   ·
    exact ⟨rfl, HL.out⟩
  ·
   clear h6 hi64 HZ
   go_enter Tryd.func25, Tryd.ntmps25
   go_wp2_with fail
   rw [← HW.out]
   refine HO.out.mono ?_
   rintro e w2 ⟨rfl, rfl⟩
   go_wp2_with fail
   refine HZC.out.mono ?_
   rintro e w2 ⟨rfl, rfl⟩
   go_wp2
   refine bodyPost_ret (v := .int .i64 c.h.f3) ?_ ?_ ?_
   ·
    simp [results, Tryd.results25, go_sem]
   ·
    rfl
   ·
    exact ⟨rfl, HL.out⟩
  ·
   clear h6 hi64 HZ
   go_enter Tryd.func25, Tryd.ntmps25
   go_wp2_with fail
   rw [← HW.out]
   refine HO.out.mono ?_
   rintro e w2 ⟨rfl, rfl⟩
   go_wp2_with fail
   refine HZC.out.mono ?_
   rintro e w2 ⟨rfl, rfl⟩
   go_wp2
   refine bodyPost_ret (v := .int .i64 c.h.f4) ?_ ?_ ?_
   ·
    simp [results, Tryd.results25, go_sem]
   ·
    rfl
   ·
    exact ⟨rfl, HL.out⟩
  ·
   clear h6 hi64 HZ
   go_enter Tryd.func25, Tryd.ntmps25
   go_wp2_with fail
   rw [← HW.out]
   refine HO.out.mono ?_
   rintro e w2 ⟨rfl, rfl⟩
   go_wp2_with fail
   refine HZC.out.mono ?_
   rintro e w2 ⟨rfl, rfl⟩
   go_wp2
   refine bodyPost_ret (v := .int .i64 c.h.f5) ?_ ?_ ?_
   ·
    simp [results, Tryd.results25, go_sem]
   ·
    rfl
   ·
    exact ⟨rfl, HL.out⟩
 have hno : ∀ j, j < 6 → tag ≠ ((2 ^ j : Nat) : Int) := fun j hj6 e => by
  have := hj j (by omega) e
  rw [HXI.out] at this
  exact pow_ne ⟨i, hi64⟩ (show 6 ≤ i by omega) ⟨j, hj6⟩ this
 have h9 := first_no c hno
 rw [← hz] at h9
 have H9 := hid h9
 rw [← hz]
 have i6 : (6 : Int) ≤ (i : Int) := by omega
 have i64 : (i : Int) ≤ 63 := by omega
 clear hz h9 hno hi hj hx ht HXI h6 hi64
 by_cases h2 : tag = 64
 ·
  have b2 : (tag == 64) = true := by rw [h2]; rfl
  by_cases h3 : c.h.pair = 1
  ·
   have b3 : (c.h.pair == 1) = true := by rw [h3]; rfl
   have HE := hid (show z = c.h.pl by rw [H9.out, if_pos ⟨h2, h3⟩])
   rw [HE.out]
   clear h2 h3 HE H9
   go_enter Tryd.func25, Tryd.ntmps25
   go_wp2_with fail
   rw [← HW.out]
   refine HO.out.mono ?_
   rintro e w2 ⟨rfl, rfl⟩
   go_wp2_with fail
   refine HZC.out.mono ?_
   rintro e w2 ⟨rfl, rfl⟩
   go_wp2
   refine bodyPost_ret (v := .int .i64 c.h.pl) ?_ ?_ ?_
   ·
    simp [results, Tryd.results25, go_sem]
   ·
    rfl
   ·
    exact ⟨rfl, HL.out⟩
  ·
   have b3 : (c.h.pair == 1) = false := beq_false_of_ne h3
   have b4 : (tag == 128) = false := beq_false_of_ne (by omega)
   have HE := hid (show z = 0 by rw [H9.out, if_neg (fun h => h3 h.2), if_neg (fun h => by omega)])
   rw [HE.out]
   clear h2 h3 HE H9
   go_enter Tryd.func25, Tryd.ntmps25
   go_wp2_with fail
   rw [← HW.out]
   refine HO.out.mono ?_
   rintro e w2 ⟨rfl, rfl⟩
   go_wp2_with fail
   refine HZC.out.mono ?_
   rintro e w2 ⟨rfl, rfl⟩
   go_wp2
   refine bodyPost_ret (v := .int .i64 0) ?_ ?_ ?_
   ·
    simp [results, Tryd.results25, go_sem]
   ·
    rfl
   ·
    exact ⟨rfl, HL.out⟩
 ·
  have b2 : (tag == 64) = false := beq_false_of_ne h2
  by_cases h4 : tag = 128
  ·
   have b4 : (tag == 128) = true := by rw [h4]; rfl
   by_cases h5 : c.h.fn = 1
   ·
    have b5 : (c.h.fn == 1) = true := by rw [h5]; rfl
    have HE := hid (show z = c.h.fl by rw [H9.out, if_neg (fun h => by omega), if_pos ⟨h4, h5⟩])
    rw [HE.out]
    clear h2 h4 h5 HE H9
    go_enter Tryd.func25, Tryd.ntmps25
    go_wp2_with fail
    rw [← HW.out]
    refine HO.out.mono ?_
    rintro e w2 ⟨rfl, rfl⟩
    go_wp2_with fail
    refine HZC.out.mono ?_
    rintro e w2 ⟨rfl, rfl⟩
    go_wp2
    refine bodyPost_ret (v := .int .i64 c.h.fl) ?_ ?_ ?_
    ·
     simp [results, Tryd.results25, go_sem]
    ·
     rfl
    ·
     exact ⟨rfl, HL.out⟩
   ·
    have b5 : (c.h.fn == 1) = false := beq_false_of_ne h5
    have HE := hid (show z = 0 by rw [H9.out, if_neg (fun h => by omega), if_neg (fun h => h5 h.2)])
    rw [HE.out]
    clear h2 h4 h5 HE H9
    go_enter Tryd.func25, Tryd.ntmps25
    go_wp2_with fail
    rw [← HW.out]
    refine HO.out.mono ?_
    rintro e w2 ⟨rfl, rfl⟩
    go_wp2_with fail
    refine HZC.out.mono ?_
    rintro e w2 ⟨rfl, rfl⟩
    go_wp2
    refine bodyPost_ret (v := .int .i64 0) ?_ ?_ ?_
    ·
     simp [results, Tryd.results25, go_sem]
    ·
     rfl
    ·
     exact ⟨rfl, HL.out⟩
  ·
   have b4 : (tag == 128) = false := beq_false_of_ne h4
   have HE := hid (show z = 0 by rw [H9.out, if_neg (fun h => h2 h.1), if_neg (fun h => h4 h.1)])
   rw [HE.out]
   clear h2 h4 HE H9
   go_enter Tryd.func25, Tryd.ntmps25
   go_wp2_with fail
   rw [← HW.out]
   refine HO.out.mono ?_
   rintro e w2 ⟨rfl, rfl⟩
   go_wp2_with fail
   refine HZC.out.mono ?_
   rintro e w2 ⟨rfl, rfl⟩
   go_wp2
   refine bodyPost_ret (v := .int .i64 0) ?_ ?_ ?_
   ·
    simp [results, Tryd.results25, go_sem]
   ·
    rfl
   ·
    exact ⟨rfl, HL.out⟩

set_option maxRecDepth 100000 in
set_option maxHeartbeats 8000000 in
theorem wraps_p (c : Co) (tag : Int) (v : Value) (w : World) (hs : Shape c) (hv : CoV w v c) : Calls Tryd.prog 27 #[v, .int .i64 tag] w fun e w' => e = .returned (.bool (wrapsC c tag)) ∧ Below w.heap.size w w' := by
 have hp := hs.own.1
 have hq := hs.own.2.1
 obtain ⟨pa, pc, fa, fc, rfl, hp, hf⟩ := hv.form
 obtain ⟨np, hnp⟩ : ∃ n, n = c.pairs.length := ⟨_, rfl⟩
 obtain ⟨nf, hnf⟩ : ∃ n, n = c.funs.length := ⟨_, rfl⟩
 rw [← hnp] at hp ⊢
 rw [← hnf] at hf ⊢
 have bp : (np : Int) ≤ 9223372036854775807 := by have := hp.len; rw [← hnp] at this; unfold maxLen at this; omega
 have bf : (nf : Int) ≤ 9223372036854775807 := by have := hf.len; rw [← hnf] at this; unfold maxLen at this; omega
 obtain ⟨W, hW⟩ : ∃ W, W = w.alloc (.cells #[.int .i64 c.h.f0, .int .i64 c.h.f1, .int .i64 c.h.f2, .int .i64 c.h.f3, .int .i64 c.h.f4, .int .i64 c.h.f5, .int .i64 c.h.pair, .int .i64 c.h.pl, .slice pa np pc, .int .i64 c.h.fn, .int .i64 c.h.fl, .slice fa nf fc] 25) := ⟨_, rfl⟩
 have HX := hid (show CBox W w.heap.size 25 ⟨c.h, .slice pa np pc, .slice fa nf fc⟩ by rw [hW]; exact CBox.made _ _ ⟨c.h, .slice pa np pc, .slice fa nf fc⟩)
 have HL := hid (show Below w.heap.size w W by rw [hW]; exact bAl _ _)
 have HP := hid (CoSN.below hp HL.out)
 have HF := hid (CoSN.below hf HL.out)
 have HPN := hid hnp
 have HFN := hid hnf
 have HW := hid hW
 clear hp hf hnp hnf hW hv
 have x6 : W.cell? ⟨w.heap.size, 6, none⟩ = some (.int .i64 c.h.pair) := HX.out.c6
 have x9 : W.cell? ⟨w.heap.size, 9, none⟩ = some (.int .i64 c.h.fn) := HX.out.c9
 obtain ⟨z, hz⟩ : ∃ z, z = wrapsC c tag := ⟨_, rfl⟩
 rw [← hz]
 have HR : Hid (z = (decide (tag = 64 ∧ 2 ≤ c.h.pair) || decide (tag = 128 ∧ 2 ≤ c.h.fn))) := hid hz
 have HP2 := hid hp
 have HQ2 := hid hq
 clear hz hs hp hq
 go_enter Tryd.func27, Tryd.ntmps27
 go_upto_region 1 with fail
 rw [← HW.out]
 clear HW
 by_cases h1 : tag = 64
 ·
  subst h1
  by_cases h2 : c.h.pair = 2
  ·
   have b2 : (c.h.pair == 2) = true := by rw [h2]; rfl
   have HK := hid h2
   clear h2
   have e : z = true := by rw [HR.out, decide_eq_true (p := (64 : Int) = 64 ∧ 2 ≤ c.h.pair) ⟨rfl, by have := HK.out; omega⟩]; rfl
   subst e
   go_wp2
   refine bodyPost_ret (v := .bool true) ?_ ?_ ?_
   ·
    simp [results, Tryd.results27, go_sem]
   ·
    rfl
   ·
    exact ⟨rfl, HL.out⟩
  ·
   have b2 : (c.h.pair == 2) = false := beq_false_of_ne h2
   by_cases h3 : c.h.pair = 3
   ·
    have b3 : (c.h.pair == 3) = true := by rw [h3]; rfl
    have HK := hid h3
    clear h2 h3
    have e : z = true := by rw [HR.out, decide_eq_true (p := (64 : Int) = 64 ∧ 2 ≤ c.h.pair) ⟨rfl, by have := HK.out; omega⟩]; rfl
    subst e
    go_wp2
    refine bodyPost_ret (v := .bool true) ?_ ?_ ?_
    ·
     simp [results, Tryd.results27, go_sem]
    ·
     rfl
    ·
     exact ⟨rfl, HL.out⟩
   ·
    have b3 : (c.h.pair == 3) = false := beq_false_of_ne h3
    have HK := hid (show ¬ 2 ≤ c.h.pair by have := HP2.out; omega)
    clear h2 h3
    have e : z = false := by rw [HR.out, decide_eq_false (p := (64 : Int) = 64 ∧ 2 ≤ c.h.pair) (fun h => HK.out h.2), decide_eq_false (p := (64 : Int) = 128 ∧ 2 ≤ c.h.fn) (fun h => by omega)]; rfl
    subst e
    go_wp2
    refine bodyPost_ret (v := .bool false) ?_ ?_ ?_
    ·
     simp [results, Tryd.results27, go_sem]
    ·
     rfl
    ·
     exact ⟨rfl, HL.out⟩
 ·
  have b1 : (tag == 64) = false := beq_false_of_ne h1
  by_cases h0 : tag = 128
  ·
   subst h0
   by_cases h2 : c.h.fn = 2
   ·
    have b2 : (c.h.fn == 2) = true := by rw [h2]; rfl
    have HK := hid h2
    clear h2
    have e : z = true := by rw [HR.out, decide_eq_true (p := (128 : Int) = 128 ∧ 2 ≤ c.h.fn) ⟨rfl, by have := HK.out; omega⟩, Bool.or_true]
    subst e
    go_wp2
    refine bodyPost_ret (v := .bool true) ?_ ?_ ?_
    ·
     simp [results, Tryd.results27, go_sem]
    ·
     rfl
    ·
     exact ⟨rfl, HL.out⟩
   ·
    have b2 : (c.h.fn == 2) = false := beq_false_of_ne h2
    by_cases h3 : c.h.fn = 3
    ·
     have b3 : (c.h.fn == 3) = true := by rw [h3]; rfl
     have HK := hid h3
     clear h2 h3
     have e : z = true := by rw [HR.out, decide_eq_true (p := (128 : Int) = 128 ∧ 2 ≤ c.h.fn) ⟨rfl, by have := HK.out; omega⟩, Bool.or_true]
     subst e
     go_wp2
     refine bodyPost_ret (v := .bool true) ?_ ?_ ?_
     ·
      simp [results, Tryd.results27, go_sem]
     ·
      rfl
     ·
      exact ⟨rfl, HL.out⟩
    ·
     have b3 : (c.h.fn == 3) = false := beq_false_of_ne h3
     have HK := hid (show ¬ 2 ≤ c.h.fn by have := HQ2.out; omega)
     clear h2 h3
     have e : z = false := by rw [HR.out, decide_eq_false (p := (128 : Int) = 64 ∧ 2 ≤ c.h.pair) (fun h => by omega), decide_eq_false (p := (128 : Int) = 128 ∧ 2 ≤ c.h.fn) (fun h => HK.out h.2)]; rfl
     subst e
     go_wp2
     refine bodyPost_ret (v := .bool false) ?_ ?_ ?_
     ·
      simp [results, Tryd.results27, go_sem]
     ·
      rfl
     ·
      exact ⟨rfl, HL.out⟩
  ·
   have b0 : (tag == 128) = false := beq_false_of_ne h0
   have e : z = false := by rw [HR.out, decide_eq_false (p := tag = 64 ∧ 2 ≤ c.h.pair) (fun h => h1 h.1), decide_eq_false (p := tag = 128 ∧ 2 ≤ c.h.fn) (fun h => h0 h.1)]; rfl
   subst e
   go_wp2
   refine bodyPost_ret (v := .bool false) ?_ ?_ ?_
   ·
    simp [results, Tryd.results27, go_sem]
   ·
    rfl
   ·
    exact ⟨rfl, HL.out⟩
end Go.Proofs.YtlalnkabfigodaaDoor

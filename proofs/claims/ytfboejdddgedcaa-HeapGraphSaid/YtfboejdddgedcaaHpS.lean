import Derived.Test.YtfboejdddgedcaaHpR
import Derived.Laws.AppendOwn
namespace Go.Proofs.Ytfboejdddgedcaa
open Go.RowKit

def rowU (l : List Nat) : List Value := l.map fun x => Value.int .u64 (x : Nat)
theorem rowU_len (l : List Nat) : (rowU l).length = l.length := by simp [rowU]
theorem rowU_app (l m : List Nat) : rowU (l ++ m) = rowU l ++ rowU m := by simp [rowU]
theorem rowU_get (l : List Nat) {j : Nat} (h : j < l.length) : (rowU l)[j]? = some (.int .u64 (l.getD j 0 : Nat)) := by
  simp [rowU, List.getD_eq_getElem?_getD, h]
theorem rowU_one (l : List Nat) : ∀ u ∈ rowU l, u.oneCell' = true := by
  intro u hu
  obtain ⟨x, _, rfl⟩ := List.mem_map.1 hu
  rfl
theorem addh_none (g i : Nat) : (⟨g, 0, none⟩ : Addr).add i = ⟨g, i, none⟩ := by unfold Addr.add; split <;> simp_all
/-- a row of words in a block of its own -/
def RowM (w : World) (v : Value) (l : List Nat) : Prop := w.ownsRow 0 32 1 v l.length (rowU l)
theorem RowM.elem {w : World} {v : Value} {l : List Nat} (h : RowM w v l) {j : Nat} (hj : j < l.length) :
    ∃ g c, v = .slice (some ⟨g, 0, none⟩) l.length c ∧ w.cell? ⟨g, j, none⟩ = some (.int .u64 (l.getD j 0 : Nat)) ∧ (∀ i, w.frozen? ⟨g, i, none⟩ = false) ∧ g < w.heap.size := by
  rcases h.2 with ⟨_, h0⟩ | ⟨g, cap, cur, rfl, hb, hg, hr⟩
  · rw [h0] at hj; exact absurd hj (Nat.not_lt_zero _)
  · refine ⟨g, cap, rfl, ?_, fun i => Lib.frozen_of_heap hg i, (Array.getElem?_eq_some_iff.1 hg).1⟩
    have := h.cells (g := g) rfl j _ (rowU_get l hj)
    rw [addh_none] at this
    exact this
theorem RowM.val {w : World} {v : Value} {l : List Nat} (h : RowM w v l) : ∃ a c, v = .slice a l.length c ∧ l.length ≤ c ∧ c ≤ maxLen := by
  rcases h.2 with ⟨rfl, h0⟩ | ⟨g, cap, cur, rfl, hb, hg, h1, h2, hr⟩
  · exact ⟨_, _, by rw [h0], by omega, Nat.zero_le _⟩
  · exact ⟨_, _, rfl, h1, h2⟩
theorem RowM.keep {w w' : World} {v : Value} {l : List Nat} (h : RowM w v l) (hb : ∀ g, v.ownBlock = some g → w'.heap[g]? = w.heap[g]?) : RowM w' v l := by
  refine ⟨h.1, ?_⟩
  rcases h.2 with h2 | ⟨g, cap, cur, rfl, hB, hg, r⟩
  · exact .inl h2
  · exact .inr ⟨g, cap, cur, rfl, hB, (hb g rfl).trans hg, r⟩
theorem RowM.lt {w : World} {v : Value} {l : List Nat} (h : RowM w v l) {g : Nat} (hg : v.ownBlock = some g) : g < w.heap.size := (World.ownsRow.lt h g hg).2
/-- a space: its words, its marks -/
structure SpM (w : World) (hb f : Nat) (vw vs : Value) (W S : List Nat) : Prop where
  c0 : w.cell? ⟨hb, f, none⟩ = some vw
  c1 : w.cell? ⟨hb, f + 1, none⟩ = some vs
  rw : RowM w vw W
  rs : RowM w vs S
/-- the place of a word's object -/
def placeH (l : List Ob) (x : Nat) : Int × Bool := match atH l x with
  | some k => (((adrH l k - 1 : Nat) : Int), true)
  | none => (0, false)
theorem bit_and (y r : Nat) (hy : y < 18446744073709551616) : bits .and .u64 ((y : Int) / 2 ^ r) 1 = if y.testBit r then 1 else 0 := by
  have h0 : y / 2 ^ r < 18446744073709551616 := Nat.lt_of_le_of_lt (Nat.div_le_self _ _) hy
  have h1 := bits_and_u64_nat (y / 2 ^ r) 1 h0 (by omega)
  rw [nat_mask1] at h1
  have h2 : ((y / 2 ^ r : Nat) : Int) = (y : Int) / 2 ^ r := by simp
  rw [h2] at h1
  rw [show ((1 : Nat) : Int) = 1 from rfl] at h1
  rw [h1, Nat.testBit_eq_decide_div_mod_eq]
  by_cases h : y / 2 ^ r % 2 = 1
  · simp [h]
  · have : y / 2 ^ r % 2 = 0 := by omega
    simp [this]

set_option maxRecDepth 20000 in
set_option maxHeartbeats 1600000 in
/-- the place of the object that a word refers to -/
theorem pfind_any {w : World} {hb f : Nat} {vw vs : Value} {W S : List Nat} {l : List Ob} (h : SpM w hb f vw vs W S) (hB : BitsP S l) (hS : S.length ≤ 100000) (x : Nat) (hx : x < 18446744073709551616) :
    Calls Try.prog 49 #[.pointer (some ⟨hb, f, none⟩), .int .u64 x] w fun e w' => e = .returned (.tuple #[.int .i64 (placeH l x).1, .bool (placeH l x).2]) ∧ w = w' := by
  have HC := Lib.hid (pplace_any x hx)
  have hc1 := h.c1
  obtain ⟨sa, sc, rfl, hs1, hs2⟩ := h.rs.val
  have HR := Lib.hid h.rs
  clear h
  unfold placeH
  unfold othH at HC
  by_cases h4 : x % 4 = 0
  case neg =>
    rw [if_neg h4] at HC
    rw [atH_low (.inl h4)]
    dsimp only at HC ⊢
    clear h4 hx hB
    go_enter Try.func49, Try.ntmps49
    go_wp2_with fail
    refine (HC.out w).mono ?_
    rintro e w' ⟨rfl, rfl⟩
    go_wp2
    go_ret2
    exact ⟨rfl, rfl⟩
  rw [if_pos h4] at HC
  dsimp only at HC
  by_cases h0 : x = 0
  case pos =>
    subst h0
    rw [atH_low (.inr rfl)]
    dsimp only at HC ⊢
    clear h4 hx hB
    go_enter Try.func49, Try.ntmps49
    go_wp2_with fail
    refine (HC.out w).mono ?_
    rintro e w' ⟨rfl, rfl⟩
    go_wp2
    go_ret2
    exact ⟨rfl, rfl⟩
  obtain ⟨p, rfl⟩ : ∃ p, x = 4 * (p + 1) := ⟨x / 4 - 1, by omega⟩
  rw [show ((4 * (p + 1) : Nat) : Int) / 4 = (p : Int) + 1 by omega] at HC
  have hp : (p : Int) < 4611686018427387904 := by omega
  clear hx h4 h0
  obtain ⟨n, hn⟩ : ∃ n, n = S.length := ⟨_, rfl⟩
  rw [← hn] at hc1 hs1 hS HR
  have HN := Lib.hid hn
  clear hn
  by_cases hq : p / 64 < n
  case neg =>
    have hnone : atH l (4 * (p + 1)) = none := by
      cases he : atH l (4 * (p + 1)) with
      | none => rfl
      | some k => exact absurd (hB.some he).1 (by rw [← HN.out]; exact hq)
    rw [hnone]
    dsimp only
    have hge : (n : Int) ≤ (p : Int) / 64 := by omega
    clear hB hnone hq
    go_enter Try.func49, Try.ntmps49
    go_wp2_with fail
    refine (HC.out w).mono ?_
    rintro e w' ⟨rfl, rfl⟩
    go_wp2
    go_ret2
    exact ⟨rfl, rfl⟩
  obtain ⟨g, c, hv, he, hfr, hg⟩ := HR.out.elem (j := p / 64) (by rw [← HN.out]; exact hq)
  rw [← HN.out] at hv
  cases hv
  obtain ⟨y, hy⟩ : ∃ y, y = S.getD (p / 64) 0 := ⟨_, rfl⟩
  have hy2 : y < 18446744073709551616 := hB.lt y (by rw [hy]; simp [List.getD_eq_getElem?_getD, show p / 64 < S.length by rw [← HN.out]; exact hq])
  rw [← hy] at he
  obtain ⟨q, hq1⟩ : ∃ q, q = p / 64 := ⟨_, rfl⟩
  obtain ⟨r, hr1⟩ : ∃ r, r = p % 64 := ⟨_, rfl⟩
  have hbit := bit_and y r hy2
  have e1 : (p : Int) / 64 = (q : Int) := by omega
  have e2 : (p : Int) % 64 = (r : Int) := by omega
  have hr : r < 64 := by omega
  cases hat : atH l (4 * (p + 1)) with
  | none =>
    have hz := hB.none hat (by rw [← HN.out]; exact hq)
    rw [← hr1, ← hy] at hz
    rw [hz, if_neg (by decide)] at hbit
    rw [← hq1] at he hq
    clear hB hq1 hr1 hy hy2 hat hz
    dsimp only
    go_enter Try.func49, Try.ntmps49
    go_wp2_with fail
    refine (HC.out w).mono ?_
    rintro e w' ⟨rfl, rfl⟩
    go_upto_region 3 with fail
    have hsh : Op.shift .shr .u64 (y : Int) .i64 (r : Int) = pure (.int .u64 ((y : Int) / 2 ^ r)) := shift_shr_u64 _ _ _ (by omega) (by omega)
    have hr0 : (0 : Int) ≤ r := by omega
    clear hp
    go_wp2
    go_ret2
    exact ⟨rfl, rfl⟩
  | some k =>
    obtain ⟨_, hz, hpk, _⟩ := hB.some hat
    rw [← hr1, ← hy] at hz
    rw [hz, if_pos rfl] at hbit
    rw [← hq1] at he hq
    dsimp only
    rw [show adrH l k - 1 = p by omega]
    clear hB hq1 hr1 hy hy2 hat hz hpk
    go_enter Try.func49, Try.ntmps49
    go_wp2_with fail
    refine (HC.out w).mono ?_
    rintro e w' ⟨rfl, rfl⟩
    go_upto_region 3 with fail
    have hsh : Op.shift .shr .u64 (y : Int) .i64 (r : Int) = pure (.int .u64 ((y : Int) / 2 ^ r)) := shift_shr_u64 _ _ _ (by omega) (by omega)
    have hr0 : (0 : Int) ≤ r := by omega
    clear hp
    go_wp2
    go_ret2
    exact ⟨rfl, rfl⟩
end Go.Proofs.Ytfboejdddgedcaa

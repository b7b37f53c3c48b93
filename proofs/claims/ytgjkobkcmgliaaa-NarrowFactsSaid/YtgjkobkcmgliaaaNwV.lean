import Derived.Test.YtgjkobkcmgliaaaNwU
namespace Go.Proofs.Ytgjkobkcmgliaaa
open Go.RowKit

set_option maxRecDepth 100000 in
set_option maxHeartbeats 4000000 in
theorem empty_go (x y : Int) (w : World) : Calls Try.prog 69 #[.agg #[.int .i64 x, .int .i64 y]] w fun e w' => e = .returned (.bool (decide (y = 255))) ∧ Below w.heap.size w w' := by
  by_cases h : y = 255
  · subst h
    go_enter Try.func69, Try.ntmps69
    go_wp2
    go_ret
    exact ⟨rfl, (Below.refl _ _).alloc (Nat.le_refl _) _⟩
  · have h2 : (y == 255) = false := by simp [h]
    have H := Lib.hid h
    clear h
    go_enter Try.func69, Try.ntmps69
    go_wp2
    go_ret
    exact ⟨retb (decide_eq_false H.out).symm, (Below.refl _ _).alloc (Nat.le_refl _) _⟩
/-- the first that states nothing -/
def FstE (n : Nat) (l : List (Int × Int)) (r : Int) : Prop :=
  (r = -1 ∧ ∀ j, j < n → (l.getD j fa0).2 ≠ 255) ∨ ∃ i : Nat, i < n ∧ r = i ∧ (l.getD i fa0).2 = 255 ∧ ∀ j, j < i → (l.getD j fa0).2 ≠ 255

set_option maxRecDepth 100000 in
set_option maxHeartbeats 8000000 in
theorem findex_go (B n c : Nat) (a : Option Addr) (l : List (Int × Int)) (w : World) (hn : n = l.length) (hm : n ≤ 100000) (hl : FaB B w (.slice a n c) l) :
    Calls Try.prog 89 #[.slice a n c, .func (.func 69) #[] #[]] w fun e w' => (∃ r, e = .returned (.int .i64 r) ∧ FstE n l r) ∧ Below w.heap.size w w' := by
  have HN := Lib.hid hn
  have HF := Lib.hid hl
  clear hn hl
  go_enter Try.func89, Try.ntmps89
  go_wp2
  go_loopw [8] (fun iv wr => ∃ k : Nat, k ≤ n ∧ iv = .int .i64 k ∧ Hid (∀ j, j < k → (l.getD j fa0).2 ≠ 255) ∧ Hid (Below w.heap.size w wr)) (fun iv _ => n - (intOf iv).toNat)
  case atStart => exact ⟨0, Nat.zero_le _, rfl, Lib.hid (fun j h => by omega), Lib.hid (Below.refl _ _)⟩
  case round =>
    obtain ⟨k, hk, rfl, HNE, HB⟩ := hrel
    by_cases hlt : k < n
    · have hkl : k < l.length := by rw [← HN.out]; exact hlt
      obtain ⟨q, off, rfl, _, hq, c0, c1⟩ := HF.out.get hkl
      have e0 := (HB.out.cell (p := ⟨q, _, none⟩) hq).trans c0
      have e1 := (HB.out.cell (p := ⟨q, _, none⟩) hq).trans c1
      obtain ⟨x, hx⟩ : ∃ x, x = (l.getD k fa0).1 := ⟨_, rfl⟩
      obtain ⟨y, hy⟩ : ∃ y, y = (l.getD k fa0).2 := ⟨_, rfl⟩
      rw [← hx] at e0
      rw [← hy] at e1
      have HY := Lib.hid hy
      have hc := empty_go x y wr
      have h0 : (0 : Int) ≤ (k : Int) := Int.natCast_nonneg _
      have h1 : (k : Int) < (n : Int) := by omega
      by_cases h255 : y = 255
      · rw [show decide (y = 255) = true by simp [h255]] at hc
        have HC := Lib.hid hc
        have H5 := Lib.hid h255
        clear c0 c1 hkl hx hy hc h255
        go_wp2_with (go_at_call 69; refine HC.out.mono ?_; rintro e w1 ⟨rfl, hb1⟩)
        have HB1 := Lib.hid (HB.out.trans (hb1.mono HB.out.size))
        go_ret
        exact ⟨⟨_, rfl, .inr ⟨k, hlt, rfl, by rw [← HY.out]; exact H5.out, HNE.out⟩⟩, HB1.out⟩
      · rw [show decide (y = 255) = false by simp [h255]] at hc
        have HC := Lib.hid hc
        have H5 := Lib.hid h255
        clear c0 c1 hkl hx hy hc h255
        go_wp2_with (go_at_call 69; refine HC.out.mono ?_; rintro e w1 ⟨rfl, hb1⟩)
        have HB1 := Lib.hid (HB.out.trans (hb1.mono HB.out.size))
        go_roundw
        case rel =>
          refine ⟨k + 1, by omega, by go_num, Lib.hid fun j hj => ?_, HB1⟩
          by_cases e : j = k
          · rw [e, ← HY.out]; exact H5.out
          · exact HNE.out j (by omega)
        case measure => simp [intOf]; omega
    · have hkn : k = n := by omega
      have HE := Lib.hid (show ∀ j, j < n → (l.getD j fa0).2 ≠ 255 by rw [← hkn]; exact HNE.out)
      clear hkn
      go_wp2
      go_ret
      exact ⟨⟨_, rfl, .inl ⟨rfl, HE.out⟩⟩, HB.out⟩
/-- a fact of the row is written over -/
theorem own_set2 {w : World} {B e g cap n i : Nat} {L : List (Int × Int)} (hL : L.length = n) (hi : i < n) (h : w.ownsRow B e 2 (.slice (some ⟨g, 0, none⟩) n cap) n (fasCells L)) (x y : Int) :
    ((w.setCell ⟨g, i * 2, none⟩ (.int .i64 x)).setCell ⟨g, i * 2 + 1, none⟩ (.int .i64 y)).ownsRow B e 2 (.slice (some ⟨g, 0, none⟩) n cap) n (fasCells (L.set i (x, y))) := by
  obtain ⟨cur, hb, hg, hnc, hcm, hcs, ht⟩ : ∃ cur, B ≤ g ∧ w.heap[g]? = some (.cells cur e (0, 0)) ∧ n ≤ cap ∧ cap ≤ maxLen ∧ cur.size = cap * 2 ∧ cur.toList.take (n * 2) = fasCells L := by
    rcases h.2 with ⟨h, _⟩ | ⟨g', cap', cur, hv, hb, hg, r⟩
    · cases h
    · cases hv; exact ⟨cur, hb, hg, r⟩
  refine ⟨by rw [fasCells_len]; simp [hL], .inr ⟨g, cap, (cur.setIfInBounds (i * 2) (.int .i64 x)).setIfInBounds (i * 2 + 1) (.int .i64 y), rfl, hb, ?_, hnc, hcm, by simp [hcs], ?_⟩⟩
  · simp [World.setCell, Array.getElem?_modify, hg]
  · simp only [Array.toList_setIfInBounds, List.take_set, ht]
    have e1 : L = L.take i ++ L.getD i fa0 :: L.drop (i + 1) := by
      have e0 : L.getD i fa0 = L[i]'(by omega) := by simp [List.getD_eq_getElem?_getD, show i < L.length by omega]
      rw [e0, ← List.drop_eq_getElem_cons (by omega : i < L.length), List.take_append_drop]
    have e2 : L.set i (x, y) = L.take i ++ (x, y) :: L.drop (i + 1) := by rw [List.set_eq_take_append_cons_drop, if_pos (by omega)]
    have hl : (fasCells (L.take i)).length = i * 2 := by rw [fasCells_len, List.length_take, Nat.min_eq_left (by omega)]
    rw [e2]
    conv => lhs; rw [e1]
    rw [fasCells_app, fasCells_app]
    have e3 : ∀ f r, fasCells (f :: r) = .int .i64 f.1 :: .int .i64 f.2 :: fasCells r := fun f r => rfl
    rw [e3, e3, List.set_append, if_neg (by omega), hl, Nat.sub_self, List.set_cons_zero, List.set_append, if_neg (by omega), hl, show i * 2 + 1 - i * 2 = 1 by omega, List.set_cons_succ, List.set_cons_zero]
theorem own_cells {w : World} {B e g cap n j : Nat} {L : List (Int × Int)} (hj : j < L.length) (h : w.ownsRow B e 2 (.slice (some ⟨g, 0, none⟩) n cap) n (fasCells L)) :
    w.cell? ⟨g, j * 2, none⟩ = some (.int .i64 (L.getD j fa0).1) ∧ w.cell? ⟨g, j * 2 + 1, none⟩ = some (.int .i64 (L.getD j fa0).2) ∧ ∀ o, w.frozen? ⟨g, o, none⟩ = false := by
  have hc := @World.ownsRow.cells _ _ _ _ _ _ _ h
  obtain ⟨h1, h2⟩ := fasCells_get L j hj
  have g1 := hc (g := g) rfl _ _ h1
  have g2 := hc (g := g) rfl _ _ h2
  rw [add_none] at g1 g2
  refine ⟨g1, g2, fun o => ?_⟩
  rcases h.2 with ⟨h, _⟩ | ⟨g', cap', cur, hv, hb, hg, r⟩
  · cases h
  · cases hv; exact Lib.frozen_of_heap hg o
/-- what lies behind the row's end does not count -/
theorem own_past {w : World} {B e g cap n p : Nat} {xs : List Value} (h : w.ownsRow B e 2 (.slice (some ⟨g, 0, none⟩) n cap) n xs) (hp : n * 2 ≤ p) (x : Value) : (w.setCell ⟨g, p, none⟩ x).ownsRow B e 2 (.slice (some ⟨g, 0, none⟩) n cap) n xs := by
  rcases h.2 with ⟨h, _⟩ | ⟨g', cap', cur, hv, hb, hg, hnc, hcm, hcs, ht⟩
  · cases h
  · cases hv
    refine ⟨h.1, .inr ⟨g, cap, cur.setIfInBounds p x, rfl, hb, ?_, hnc, hcm, by simp [hcs], ?_⟩⟩
    · simp [World.setCell, Array.getElem?_modify, hg]
    · rw [Array.toList_setIfInBounds, List.take_set_of_le hp, ht]
theorem own_pasts {B e g cap n : Nat} {xs : List Value} : ∀ (zs : List Value) (p : Nat) (w : World), w.ownsRow B e 2 (.slice (some ⟨g, 0, none⟩) n cap) n xs → n * 2 ≤ p → (w.setCells g p zs).ownsRow B e 2 (.slice (some ⟨g, 0, none⟩) n cap) n xs
  | [], _, _, h, _ => h
  | z :: r, p, w, h, hp => own_pasts r (p + 1) (w.setCell ⟨g, p, none⟩ z) (own_past h hp z) (by omega)
theorem but_sets {r : Nat} {w0 : World} : ∀ (zs : List Value) (p : Nat) (w : World), But r w0 w → But r w0 (w.setCells r p zs)
  | [], _, _, h => h
  | z :: r', p, w, h => but_sets r' (p + 1) (w.setCell ⟨r, p, none⟩ z) (h.set p z)
theorem run_clear2 {P : Program} (w : World) (t e ty : TypeId) (z : Value) (ht : P.underlying t = some (.slice e)) (hv : ∀ w, (zeroValue e).run P w = .ok z w) (hz : z.cells.size = 2) (h1 : ∀ u ∈ z.cells.toList, u.oneCell' = true) (b o n c : Nat) (hn : 0 < n)
    (hc : ∀ j, j < n * 2 → (w.cell? ⟨b, o + j, none⟩).isSome = true) (hf : ∀ j, j < n * 2 → w.frozen? ⟨b, o + j, none⟩ = false) :
    (Builtin.clear_ #[t] ty #[.slice (some ⟨b, o, none⟩) n c]).run P w = .ok (.tuple #[]) (w.setCells b o (Builtin.zeroCells z.cells n).toList) := by
  have hl : (Builtin.zeroCells z.cells n).toList.length = n * 2 := by
    rw [Array.length_toList]; unfold Builtin.zeroCells; rw [Array.size_map, Array.size_range, hz]
  have hone : ∀ u ∈ (Builtin.zeroCells z.cells n).toList, u.oneCell' = true := by
    intro u hu
    unfold Builtin.zeroCells at hu
    rw [Array.mem_toList_iff, Array.mem_map] at hu
    obtain ⟨j, hj, rfl⟩ := hu
    have hm : j % z.cells.size < z.cells.size := Nat.mod_lt _ (by omega)
    refine h1 _ ?_
    rw [Array.mem_toList_iff]
    simp [hm]
  have hst := run_storeCells_cells (P := P) b o (Builtin.zeroCells z.cells n).toList 0 w (by rw [hl]; simpa using hc) (by rw [hl]; simpa using hf) hone
  simp only [Nat.add_zero] at hst
  obtain ⟨m, rfl⟩ : ∃ m, n = m + 1 := ⟨n - 1, by omega⟩
  simp [Builtin.clear_, run_underlying ht, hv, hst]
end Go.Proofs.Ytgjkobkcmgliaaa

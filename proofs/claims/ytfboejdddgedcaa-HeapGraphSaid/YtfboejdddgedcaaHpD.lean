import Derived.Test.YtfboejdddgedcaaHpC
import Derived.StillTailTactics
namespace Go.Proofs.Ytfboejdddgedcaa
open Go.RowKit

theorem beq_lists {l m : List Nat} (hl : l.length = m.length) (h : ∀ j, j < l.length → l.getD j 0 = m.getD j 0) : (l == m) = true := by
  rw [beq_iff_eq]
  apply List.ext_getElem hl
  intro i h1 h2
  have := h i h1
  simpa [List.getD_eq_getElem?_getD, h1, h2] using this
theorem beq_lists_ne {l m : List Nat} {j : Nat} (h : l.getD j 0 ≠ m.getD j 0) : (l == m) = false := by
  rw [beq_eq_false_iff_ne]
  rintro rfl
  exact h rfl

set_option maxHeartbeats 1600000 in
/-- are two rows of words the same? -/
theorem rsame_any {w : World} {ok ok' : Nat → Prop} {u v : Value} {l m : List Nat} (h1 : WdS w ok u l) (h2 : WdS w ok' v m) (hl : l.length ≤ 100000000) :
    Calls Try.prog 18 #[u, v] w fun e w' => e = .returned (.bool (l == m)) ∧ ∃ d, w' = w.drewN d := by
  have H1 := Lib.hid h1
  have H2 := Lib.hid h2
  obtain ⟨a1, c1, rfl⟩ := h1.val
  obtain ⟨a2, c2, rfl⟩ := h2.val
  have hm := h2.len
  clear h1 h2
  obtain ⟨x, hx⟩ : ∃ x, x = l.length := ⟨_, rfl⟩
  obtain ⟨y, hy⟩ : ∃ y, y = m.length := ⟨_, rfl⟩
  rw [← hx] at H1 hl ⊢
  rw [← hy] at H2 hm ⊢
  have HX := Lib.hid hx
  have HY := Lib.hid hy
  clear hx hy
  by_cases hne : x = y
  · have hd : ((x : Int) == (y : Int)) = true := by rw [beq_iff_eq]; omega
    have HE := Lib.hid hne
    clear hne
    go_enter Try.func18, Try.ntmps18
    go_wp2
    go_loopw [5] (fun i wr => ∃ k : Nat, k ≤ x ∧ i = .int .i64 k ∧ Hid (∀ j, j < k → l.getD j 0 = m.getD j 0) ∧ ∃ d, wr = w.drewN d) (fun i _ => x - (intOf i).toNat)
    case atStart => exact ⟨0, Nat.zero_le _, rfl, Lib.hid (fun j hj => absurd hj (Nat.not_lt_zero _)), 0, rfl⟩
    case round =>
      obtain ⟨k, hk, rfl, H, d, rfl⟩ := hrel
      by_cases hlt : k < x
      · obtain ⟨b1, o1, d1, hv1, _, e1, f1⟩ := H1.out.elem (j := k) (by rw [← HX.out]; exact hlt)
        obtain ⟨b2, o2, d2, hv2, _, e2, f2⟩ := H2.out.elem (j := k) (by rw [← HY.out, ← HE.out]; exact hlt)
        rw [← HX.out] at hv1
        rw [← HY.out] at hv2
        cases hv1
        cases hv2
        obtain ⟨p, hp⟩ : ∃ p, p = l.getD k 0 := ⟨_, rfl⟩
        obtain ⟨q, hq⟩ : ∃ q, q = m.getD k 0 := ⟨_, rfl⟩
        rw [← hp] at e1
        rw [← hq] at e2
        have HP := Lib.hid hp
        have HQ := Lib.hid hq
        clear hp hq f1 f2
        have hky : (k : Int) < y := by have := HE.out; omega
        by_cases he : p = q
        · have hd : ((p : Int) == (q : Int)) = true := by rw [beq_iff_eq]; omega
          have HPQ := Lib.hid he
          clear he
          go_wp2
          go_quiet (fail)
          go_wp2
          go_roundw
          case rel =>
            refine ⟨k + 1, by omega, by go_num, Lib.hid fun j hj => ?_, _, rfl⟩
            rcases Nat.lt_or_ge j k with h1 | h1
            · exact H.out j h1
            · obtain rfl : j = k := by omega
              rw [← HP.out, ← HQ.out]; exact HPQ.out
          case measure => simp [intOf]; omega
        · have hd : ((p : Int) == (q : Int)) = false := by rw [beq_eq_false_iff_ne]; omega
          have HPQ := Lib.hid he
          clear he
          go_wp2
          go_quiet (fail)
          go_wp2
          go_ret
          refine ⟨ret_bool ?_, _, World.drewN_drewN _ _ _⟩
          exact (beq_lists_ne (j := k) (by rw [← HP.out, ← HQ.out]; exact HPQ.out)).symm
      · obtain rfl : k = x := by omega
        go_wp2
        go_ret
        refine ⟨ret_bool ?_, _, rfl⟩
        exact (beq_lists (by rw [← HX.out, ← HY.out]; exact HE.out) fun j hj => H.out j (by rw [HX.out]; exact hj)).symm
  · have hd : ((x : Int) == (y : Int)) = false := by rw [beq_eq_false_iff_ne]; omega
    have HE := Lib.hid hne
    clear hne
    go_enter Try.func18, Try.ntmps18
    go_wp2
    go_ret
    refine ⟨ret_bool ?_, 0, rfl⟩
    rw [eq_comm, beq_eq_false_iff_ne]
    intro e
    exact HE.out (by rw [HX.out, HY.out, e])

/-- a row of places -/
inductive PlS (w : World) (ok : Nat → Prop) : Value → List Nat → Prop
  | mkNil (a : Option Addr) (c : Nat) : PlS w ok (.slice a 0 c) []
  | mkSome (b off cap n : Nat) (l : List Nat) : ok b → n = l.length → n ≤ maxLen ∧ n ≤ cap → (∀ j, j < l.length → w.cell? ⟨b, off + j, none⟩ = some (.int .i64 (l.getD j 0 : Nat))) → PlS w ok (.slice (some ⟨b, off, none⟩) n cap) l
theorem PlS.mono {w w' : World} {ok ok' : Nat → Prop} (ho : ∀ b, ok b → ok' b) (hc : ∀ b o, ok b → w'.cell? ⟨b, o, none⟩ = w.cell? ⟨b, o, none⟩) {v : Value} {l : List Nat} (h : PlS w ok v l) : PlS w' ok' v l := by
  cases h with
  | mkNil a c => exact .mkNil a c
  | mkSome b off cap n l h1 h2 h3 h4 => exact .mkSome b off cap n l (ho b h1) h2 h3 (fun j hj => (hc b _ h1).trans (h4 j hj))
theorem PlS.val {w : World} {ok : Nat → Prop} {v : Value} {l : List Nat} (h : PlS w ok v l) : ∃ a c, v = .slice a l.length c := by
  cases h with
  | mkNil a c => exact ⟨_, _, rfl⟩
  | mkSome b off cap n l h1 h2 h3 h4 => exact ⟨_, _, by rw [h2]⟩
theorem PlS.elem {w : World} {ok : Nat → Prop} {v : Value} {l : List Nat} (h : PlS w ok v l) {j : Nat} (hj : j < l.length) :
    ∃ b off c, v = .slice (some ⟨b, off, none⟩) l.length c ∧ ok b ∧ w.cell? ⟨b, off + j, none⟩ = some (.int .i64 (l.getD j 0 : Nat)) := by
  cases h with
  | mkNil a c => exact absurd hj (Nat.not_lt_zero _)
  | mkSome b off cap n l h1 h2 h3 h4 => exact ⟨b, off, cap, by rw [h2], h1, h4 j hj⟩
theorem PlS.len {w : World} {ok : Nat → Prop} {v : Value} {l : List Nat} (h : PlS w ok v l) : l.length ≤ maxLen := by
  cases h with
  | mkNil a c => exact Nat.zero_le _
  | mkSome b off cap n l h1 h2 h3 h4 => rw [← h2]; exact h3.1
/-- the place of one in a row of places -/
def foundI (o : List Nat) (k : Nat) : Int := if k ∈ o then ((o.idxOf k : Nat) : Int) else -1
theorem found_at {o : List Nat} {k j : Nat} (hj : j < o.length) (h : o.getD j 0 = k) (hb : ∀ i, i < j → o.getD i 0 ≠ k) : foundI o k = j := by
  have hm : k ∈ o := by
    rw [← h]; simp [List.getD_eq_getElem?_getD, hj]
  unfold foundI
  rw [if_pos hm]
  congr 1
  have hi := List.idxOf_lt_length_of_mem hm
  have hg : o.getD (o.idxOf k) 0 = k := by simp [List.getD_eq_getElem?_getD, hi]
  rcases Nat.lt_trichotomy (o.idxOf k) j with h1 | h1 | h1
  · exact absurd hg (hb _ h1)
  · exact h1
  · exfalso
    have := List.not_of_lt_findIdx (p := (· == k)) (xs := o) (i := j) h1
    simp [List.getD_eq_getElem?_getD, hj] at h
    simp [h] at this
theorem found_no {o : List Nat} {k : Nat} (hb : ∀ i, i < o.length → o.getD i 0 ≠ k) : foundI o k = -1 := by
  unfold foundI
  rw [if_neg]
  intro hm
  obtain ⟨i, hi, he⟩ := List.getElem_of_mem hm
  exact hb i hi (by simp [List.getD_eq_getElem?_getD, hi, he])

set_option maxHeartbeats 800000 in
theorem rfound_any {w : World} {ok : Nat → Prop} {v : Value} {o : List Nat} (h : PlS w ok v o) (k : Nat) :
    Calls Try.prog 48 #[v, .int .i64 k] w fun e w' => e = .returned (.int .i64 (foundI o k)) ∧ w = w' := by
  have HO := Lib.hid h
  have hm := h.len
  unfold maxLen at hm
  obtain ⟨a, c, rfl⟩ := h.val
  clear h
  obtain ⟨m, hx⟩ : ∃ m, m = o.length := ⟨_, rfl⟩
  have HM := Lib.hid hx
  rw [← hx] at HO hm ⊢
  clear hx
  go_enter Try.func48, Try.ntmps48
  go_wp2
  go_loop [5] (fun i => ∃ j : Nat, j ≤ m ∧ i = .int .i64 j ∧ Hid (∀ i, i < j → o.getD i 0 ≠ k)) (fun i => m - (intOf i).toNat)
  case atStart => exact ⟨0, Nat.zero_le _, rfl, Lib.hid fun j hj => absurd hj (Nat.not_lt_zero _)⟩
  case round =>
    obtain ⟨j, hj, rfl, H⟩ := hrel
    by_cases hlt : j < m
    · obtain ⟨b, off, c', hv, _, e0⟩ := HO.out.elem (j := j) (by rw [← HM.out]; exact hlt)
      rw [← HM.out] at hv
      cases hv
      obtain ⟨z, hz⟩ : ∃ z, z = o.getD j 0 := ⟨_, rfl⟩
      rw [← hz] at e0
      have HZ := Lib.hid hz
      clear hz
      by_cases he : z = k
      · have hd : ((z : Int) == (k : Int)) = true := by rw [beq_iff_eq]; omega
        have HE := Lib.hid he
        clear he
        go_wp2
        go_ret
        refine ⟨ret_int ?_, rfl⟩
        exact (found_at (by rw [← HM.out]; exact hlt) (by rw [← HZ.out]; exact HE.out) H.out).symm
      · have hd : ((z : Int) == (k : Int)) = false := by rw [beq_eq_false_iff_ne]; omega
        have HE := Lib.hid he
        clear he
        go_wp2
        go_round
        case rel =>
          refine ⟨j + 1, by omega, by go_num, Lib.hid fun i hi => ?_⟩
          rcases Nat.lt_or_ge i j with h1 | h1
          · exact H.out i h1
          · obtain rfl : i = j := by omega
            rw [← HZ.out]; exact HE.out
        case measure => simp [intOf]; omega
    · obtain rfl : j = m := by omega
      go_wp2
      go_ret
      refine ⟨ret_int ?_, rfl⟩
      exact (found_no fun i hi => H.out i (by rw [HM.out]; exact hi)).symm

set_option maxHeartbeats 800000 in
/-- no heap -/
theorem rnew_bad (n : Int) (hn : n < 16 ∨ 1048576 < n) (w : World) :
    Calls Try.prog 9 #[.int .i64 n] w fun e w' => e = .returned (.tuple #[.pointer none, .int .i64 1]) ∧ w = w' := by
  by_cases h1 : n < 16
  · clear hn
    go_enter Try.func9, Try.ntmps9
    go_wp2
    go_ret2
    exact ⟨rfl, rfl⟩
  · have h2 : 1048576 < n := hn.resolve_left h1
    clear hn
    go_enter Try.func9, Try.ntmps9
    go_wp2
    go_ret2
    exact ⟨rfl, rfl⟩

set_option maxHeartbeats 800000 in
/-- a heap made anew -/
theorem rnew_ok (n : Nat) (h1 : 16 ≤ n) (h2 : n ≤ 1048576) (w : World) :
    Calls Try.prog 9 #[.int .i64 n] w fun e w' => e = .returned (.tuple #[.pointer (some ⟨w.heap.size, 0, none⟩), .int .i64 0]) ∧ w' = w.alloc (.cells #[.int .i64 n, .slice none 0 0] 45) := by
  have h3 : (16 : Int) ≤ n := by omega
  have h4 : (n : Int) ≤ 1048576 := by omega
  go_enter Try.func9, Try.ntmps9
  go_wp2
  go_ret2
  exact ⟨rfl, rfl⟩
end Go.Proofs.Ytfboejdddgedcaa

import Derived.Test.YtfboejdddgedcaaHpV
import Derived.Lib.Builder
namespace Go.Proofs.Ytfboejdddgedcaa
open Go.RowKit

theorem rowU_set (l : List Nat) (j x : Nat) : rowU (l.set j x) = (rowU l).set j (.int .u64 (x : Nat)) := by simp [rowU, List.map_set]
theorem RowM.set {w : World} {v : Value} {l : List Nat} (h : RowM w v l) {g : Nat} (hg : v.ownBlock = some g) {j : Nat} (_hj : j < l.length) (x : Nat) : RowM (w.setCell ⟨g, j, none⟩ (.int .u64 (x : Nat))) v (l.set j x) := by
  refine ⟨by simp [rowU], ?_⟩
  rcases h.2 with ⟨rfl, h0⟩ | ⟨g', cap, cur, rfl, hB, hg', h1, h2, h3, h4⟩
  · cases hg
  · cases hg
    refine .inr ⟨_, cap, cur.setIfInBounds j (.int .u64 (x : Nat)), by rw [List.length_set], hB, heap_setCell_same _ _ j cur _ _ hg', by rw [List.length_set]; exact h1, h2, by simpa using h3, ?_⟩
    rw [rowU_set, List.length_set, ← h4, Array.toList_setIfInBounds, List.take_set]
section
variable {w w' : World} {N M : Nat → Prop} {hb cap : Nat} {vw vs pw ps : Value} {W S P Z W' P' : List Nat}
theorem HwM.row1 (h : HwM w N hb cap vw vs pw ps W S P Z) (hs : w.heap.size ≤ w'.heap.size) (hk : ∀ k, k < w.heap.size → vw.ownBlock ≠ some k → w'.heap[k]? = w.heap[k]?) (hr : RowM w' vw W') : HwM w' N hb cap vw vs pw ps W' S P Z :=
  ⟨(hk hb h.lt h.n1).trans h.blk, hr, h.r2.keep fun g hg => hk g (h.r2.lt hg) fun e => h.d12 g e hg, h.r3.keep fun g hg => hk g (h.r3.lt hg) fun e => h.d13 g e hg, h.r4.keep fun g hg => hk g (h.r4.lt hg) fun e => h.d14 g e hg,
    h.n1, h.n2, h.n3, h.n4, h.d12, h.d13, h.d14, h.d23, h.d24, h.d34, fun b hb => ⟨Nat.lt_of_lt_of_le (h.out b hb).1 hs, (h.out b hb).2⟩⟩
theorem HwM.row3 (h : HwM w N hb cap vw vs pw ps W S P Z) (hs : w.heap.size ≤ w'.heap.size) (hk : ∀ k, k < w.heap.size → pw.ownBlock ≠ some k → w'.heap[k]? = w.heap[k]?) (hr : RowM w' pw P') : HwM w' N hb cap vw vs pw ps W S P' Z :=
  ⟨(hk hb h.lt h.n3).trans h.blk, h.r1.keep fun g hg => hk g (h.r1.lt hg) fun e => h.d13 g hg e, h.r2.keep fun g hg => hk g (h.r2.lt hg) fun e => h.d23 g hg e, hr, h.r4.keep fun g hg => hk g (h.r4.lt hg) fun e => h.d34 g e hg,
    h.n1, h.n2, h.n3, h.n4, h.d12, h.d13, h.d14, h.d23, h.d24, h.d34, fun b hb => ⟨Nat.lt_of_lt_of_le (h.out b hb).1 hs, (h.out b hb).2⟩⟩
theorem HwM.set1 (h : HwM w N hb cap vw vs pw ps W S P Z) {g : Nat} (hg : vw.ownBlock = some g) {j : Nat} (hj : j < W.length) (x : Nat) : HwM (w.setCell ⟨g, j, none⟩ (.int .u64 (x : Nat))) N hb cap vw vs pw ps (W.set j x) S P Z :=
  h.row1 (by simp [World.setCell]) (fun k _ hn => Below.heap_setCell w ⟨g, j, none⟩ _ k (fun e => hn (by rw [hg]; exact congrArg some e.symm))) (h.r1.set hg hj x)
theorem HwM.set3 (h : HwM w N hb cap vw vs pw ps W S P Z) {g : Nat} (hg : pw.ownBlock = some g) {j : Nat} (hj : j < P.length) (x : Nat) : HwM (w.setCell ⟨g, j, none⟩ (.int .u64 (x : Nat))) N hb cap vw vs pw ps W S (P.set j x) Z :=
  h.row3 (by simp [World.setCell]) (fun k _ hn => Below.heap_setCell w ⟨g, j, none⟩ _ k (fun e => hn (by rw [hg]; exact congrArg some e.symm))) (h.r3.set hg hj x)
end
theorem HpC.set {cap : Nat} {l : List Ob} {W S Z : List Nat} (h : HpC cap l W S Z) {k i : Nat} (hk : k < l.length) (hi : i < (l.getD k ob0).f.length) {x : Nat} (hx : x < 18446744073709551616) :
    HpC cap (l.set k (setF (l.getD k ob0) i x)) (W.set (adrH l k + i) x) S Z := by
  have hs := setF_sz (l.getD k ob0) i x
  refine ⟨h.lay.set hk hi x, h.bits.setF hk hs, h.zero, by rw [usedH_set hk hs]; exact h.used, h.big, h.s1, h.z1, fun j hj => ?_⟩
  rw [List.length_set] at hj
  by_cases e : k = j
  · subst e
    rw [getO_set_eq hk]
    refine ⟨(h.ok k hk).1, (h.ok k hk).2.1, fun y hy => ?_⟩
    rcases List.mem_or_eq_of_mem_set hy with h1 | h1
    · exact (h.ok k hk).2.2 y h1
    · rw [h1]; exact hx
  · rw [getO_set_ne e]; exact h.ok j hj
theorem ret_ub {a b : Nat} {p q : Bool} (h : a = b) (h2 : p = q) : Ending.returned (.tuple #[.int .u64 (a : Nat), .bool p]) = .returned (.tuple #[.int .u64 (b : Nat), .bool q]) := by rw [h, h2]
/-- no such field -/
theorem field_no {l : List Ob} {x k : Nat} {i : Int} (hat : atH l x = some k) (h : ¬ (0 ≤ i ∧ i < (l.getD k ob0).f.length)) : fieldH l x i = (0, false) := by unfold fieldH; rw [hat]; dsimp only; rw [if_neg h]
theorem field_yes {l : List Ob} {x k : Nat} {i : Nat} (hat : atH l x = some k) (h : i < (l.getD k ob0).f.length) : fieldH l x i = ((l.getD k ob0).f.getD i 0, true) := by
  unfold fieldH; rw [hat]; dsimp only; rw [if_pos (by omega)]; rfl

set_option maxHeartbeats 800000 in
/-- a field of a word's object -/
theorem pfield_any {w : World} {N : Nat → Prop} {hb cap : Nat} {l : List Ob} (h : PhAt w N hb cap l) (x : Nat) (hx : x < 18446744073709551616) (i : Int) :
    Calls Try.prog 24 #[.pointer (some ⟨hb, 0, none⟩), .int .u64 x, .int .i64 i] w fun e w' => e = .returned (.tuple #[.int .u64 ((fieldH l x i).1 : Nat), .bool (fieldH l x i).2]) ∧ ∃ d, w' = w.drewN d := by
  cases hat : atH l x with
  | none =>
    have HF := Lib.hid (pfields_none h x hx hat)
    rw [show fieldH l x i = (0, false) by unfold fieldH; rw [hat]]
    dsimp only
    clear h hat hx
    by_cases hi : i < 0
    · go_enter Try.func24, Try.ntmps24
      go_wp2_with fail
      refine HF.out.mono ?_
      rintro e w' ⟨rfl, d, rfl⟩
      go_wp2
      go_ret2
      exact ⟨rfl, _, rfl⟩
    · have h0 : 0 ≤ i := by omega
      clear hi
      go_enter Try.func24, Try.ntmps24
      go_wp2_with fail
      refine HF.out.mono ?_
      rintro e w' ⟨rfl, d, rfl⟩
      go_wp2
      go_ret2
      exact ⟨rfl, _, rfl⟩
  | some k =>
    obtain ⟨vw, vs, pw, ps, W, S, Z, h1, h2⟩ := h
    have HF := Lib.hid (pfields_some h1 h2 x hx hat)
    have hk := (atH_some.1 hat).1
    have hin := adrH_in (j := (l.getD k ob0).f.length) hk (Nat.le_refl _)
    have hpos := adrH_pos l k
    have hub : usedH l ≤ 1048576 := Nat.le_trans h2.used h2.big
    by_cases hneg : i < 0
    · rw [field_no hat (by omega)]
      clear h1 h2 hat hx
      generalize (l.getD k ob0).f.length = m at *
      go_enter Try.func24, Try.ntmps24
      go_wp2_with fail
      refine HF.out.mono ?_
      rintro e w' ⟨⟨g, c, o, d, rfl, rfl, hd, ho⟩, d2, rfl⟩
      clear hd ho HF
      go_wp2
      go_ret2
      exact ⟨rfl, _, rfl⟩
    have h0 : 0 ≤ i := by omega
    by_cases hge : (l.getD k ob0).f.length ≤ i
    · rw [field_no hat (by omega)]
      clear h1 h2 hat hx
      generalize (l.getD k ob0).f.length = m at *
      go_enter Try.func24, Try.ntmps24
      go_wp2_with fail
      refine HF.out.mono ?_
      rintro e w' ⟨⟨g, c, o, d, rfl, rfl, hd, ho⟩, d2, rfl⟩
      clear hd ho HF
      go_wp2
      go_ret2
      exact ⟨rfl, _, rfl⟩
    obtain ⟨j, rfl⟩ : ∃ j : Nat, i = j := ⟨i.toNat, by omega⟩
    have hj : j < (l.getD k ob0).f.length := by omega
    rw [field_yes hat hj]
    obtain ⟨g, c, hv, he, _, _⟩ := h1.r1.elem (j := adrH l k + j) (by rw [h2.lay.len]; omega)
    rw [h2.lay.fl k hk j hj] at he
    have HV := Lib.hid hv
    clear h1 h2 hat hx hv hneg hge h0 hin hpos
    generalize (l.getD k ob0).f.getD j 0 = y at *
    generalize (l.getD k ob0).f.length = m at *
    have hj2 : (j : Int) < m := by omega
    have h0 : (0 : Int) ≤ j := Int.natCast_nonneg _
    generalize adrH l k = q at *
    dsimp only
    go_enter Try.func24, Try.ntmps24
    go_wp2_with fail
    refine HF.out.mono ?_
    rintro e w' ⟨⟨g', c', o, d, hv', rfl, hd, ho⟩, d2, rfl⟩
    rw [HV.out] at hv'
    cases hv'
    obtain rfl : o = q := ho.resolve_right (by omega)
    clear hd ho HF
    go_wp2
    go_ret2
    exact ⟨rfl, _, rfl⟩

set_option maxHeartbeats 800000 in
/-- no such field: nothing is set -/
theorem pset_bad {w : World} {N : Nat → Prop} {hb cap : Nat} {l : List Ob} (h : PhAt w N hb cap l) (x : Nat) (hx : x < 18446744073709551616) (i : Int) (y : Nat) (hn : setH l x i y = none) :
    Calls Try.prog 14 #[.pointer (some ⟨hb, 0, none⟩), .int .u64 x, .int .i64 i, .int .u64 y] w fun e w' => e = .returned (.int .i64 1) ∧ ∃ d, w' = w.drewN d := by
  cases hat : atH l x with
  | none =>
    have HF := Lib.hid (pfields_none h x hx hat)
    clear h hat hx hn
    by_cases hi : i < 0
    · go_enter Try.func14, Try.ntmps14
      go_wp2_with fail
      refine HF.out.mono ?_
      rintro e w' ⟨rfl, d, rfl⟩
      go_wp2
      go_ret
      exact ⟨rfl, _, rfl⟩
    · have h0 : 0 ≤ i := by omega
      clear hi
      go_enter Try.func14, Try.ntmps14
      go_wp2_with fail
      refine HF.out.mono ?_
      rintro e w' ⟨rfl, d, rfl⟩
      go_wp2
      go_ret
      exact ⟨rfl, _, rfl⟩
  | some k =>
    unfold setH at hn
    rw [hat] at hn
    dsimp only at hn
    have hor : i < 0 ∨ (0 ≤ i ∧ ((l.getD k ob0).f.length : Int) ≤ i) := by
      by_cases hin : 0 ≤ i ∧ i < (l.getD k ob0).f.length
      · rw [if_pos hin] at hn; cases hn
      · omega
    clear hn
    obtain ⟨vw, vs, pw, ps, W, S, Z, h1, h2⟩ := h
    have HF := Lib.hid (pfields_some h1 h2 x hx hat)
    clear h1 h2 hat hx
    generalize (l.getD k ob0).f.length = m at *
    rcases hor with hneg | ⟨hpos, hge⟩
    all_goals
      go_enter Try.func14, Try.ntmps14
      go_wp2_with fail
      refine HF.out.mono ?_
      rintro e w' ⟨⟨g, c, o, d, rfl, rfl, hd, ho⟩, d2, rfl⟩
      clear hd ho HF
      go_wp2
      go_ret
      exact ⟨rfl, _, rfl⟩

theorem set_yes {l l' : List Ob} {x y : Nat} {i : Int} (h : setH l x i y = some l') : ∃ k j : Nat, atH l x = some k ∧ i = j ∧ j < (l.getD k ob0).f.length ∧ l' = l.set k (setF (l.getD k ob0) j y) := by
  unfold setH at h
  cases hat : atH l x with
  | none => rw [hat] at h; cases h
  | some k =>
    rw [hat] at h
    dsimp only at h
    by_cases hin : 0 ≤ i ∧ i < (l.getD k ob0).f.length
    · rw [if_pos hin] at h
      cases h
      exact ⟨k, i.toNat, rfl, by omega, by omega, rfl⟩
    · rw [if_neg hin] at h; cases h

set_option maxHeartbeats 800000 in
/-- a field is set -/
theorem pset_ok {w : World} {N : Nat → Prop} {hb cap : Nat} {l l' : List Ob} (h : PhAt w N hb cap l) (x : Nat) (hx : x < 18446744073709551616) (i : Int) (y : Nat) (hy : y < 18446744073709551616) (hn : setH l x i y = some l') :
    Calls Try.prog 14 #[.pointer (some ⟨hb, 0, none⟩), .int .u64 x, .int .i64 i, .int .u64 y] w fun e w' => e = .returned (.int .i64 0) ∧ PhAt w' N hb cap l' ∧ Ked N w w' := by
  obtain ⟨k, j, hat, rfl, hj, rfl⟩ := set_yes hn
  clear hn
  obtain ⟨vw, vs, pw, ps, W, S, Z, h1, h2⟩ := h
  have HF := Lib.hid (pfields_some h1 h2 x hx hat)
  have hk := (atH_some.1 hat).1
  have hin := adrH_in (j := (l.getD k ob0).f.length) hk (Nat.le_refl _)
  have hub : usedH l ≤ 1048576 := Nat.le_trans h2.used h2.big
  have hW : adrH l k + j < W.length := by rw [h2.lay.len]; omega
  obtain ⟨g, c, hv, he, hfr, hgl⟩ := h1.r1.elem (j := adrH l k + j) hW
  have HP := Lib.hid (fun d => show PhAt ((w.drewN d).setCell ⟨g, adrH l k + j, none⟩ (.int .u64 (y : Nat))) N hb cap (l.set k (setF (l.getD k ob0) j y)) from ⟨vw, vs, pw, ps, _, S, Z, (h1.drew d).set1 (by rw [hv]; rfl) hW y, h2.set hk hj hy⟩)
  have HK := Lib.hid (fun d => show Ked N w ((w.drewN d).setCell ⟨g, adrH l k + j, none⟩ (.int .u64 (y : Nat))) from (Ked.drew N w d).set (fun _ hN => (h1.out _ hN).2.2.1 (by rw [hv]; rfl)) _)
  have HV := Lib.hid hv
  have hf0 := hfr (adrH l k + j)
  clear h1 h2 hat hx hv hin hW hfr hy
  generalize l.set k (setF (l.getD k ob0) j y) = l' at *
  generalize W.getD (adrH l k + j) 0 = u at *
  generalize (l.getD k ob0).f.length = m at *
  have hj2 : (j : Int) < m := by omega
  have h0 : (0 : Int) ≤ j := Int.natCast_nonneg _
  generalize adrH l k = q at *
  go_enter Try.func14, Try.ntmps14
  go_wp2_with fail
  refine HF.out.mono ?_
  rintro e w' ⟨⟨g', c', o, d, hv', rfl, hd, ho⟩, d2, rfl⟩
  rw [HV.out] at hv'
  cases hv'
  obtain rfl : o = q := ho.resolve_right (by omega)
  clear hd ho HF
  go_wp2
  go_ret
  exact ⟨rfl, HP.out _, HK.out _⟩
end Go.Proofs.Ytfboejdddgedcaa

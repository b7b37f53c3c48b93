import Derived.Test.YtgjkobkcmgliaaaNwTe
import Derived.Test.YtgjkobkcmgliaaaNwL
namespace Go.Proofs.Ytgjkobkcmgliaaa
open Go.RowKit

def LtRel (n m : Nat) (W : World) (l : List Tst) (iv : Value) (wr : World) : Prop :=
  ∃ i : Nat, i ≤ m ∧ iv = .int .i64 i ∧ Hid (Below W.heap.size W wr) ∧ Hid (∀ j, j < i → litT n (l.getD j te0) = true)
theorem lit_succ (n : Nat) (t : Tst) : litT (n + 1) t = (decide (t.of.length ≤ 5) && t.of.all (litT n)) := rfl

set_option maxRecDepth 100000 in
set_option maxHeartbeats 8000000 in
theorem light_go (n : Nat) (hn : n ≤ 6) : ∀ (lv : Int) (t : Tst) (v : Value) (w : World), lv = n → TeV w v t → Calls Try.prog 9 #[v, .int .i64 lv] w fun e w' => e = .returned (.bool (litT n t)) ∧ Below w.heap.size w w' := by
  induction n with
  | zero =>
    intro lv t v w hlv hv
    subst hlv
    obtain ⟨a, c, rfl, hs⟩ := hv.form
    generalize t.of.length = m
    have HL := Lib.hid (show Below w.heap.size w (w.alloc (.cells #[.int .i64 t.op, .int .i64 t.vr, .int .i64 t.tags, .bool t.yes, .slice a m c] 24)) from (Below.refl _ _).alloc (Nat.le_refl _) _)
    go_enter Try.func9, Try.ntmps9
    go_wp2
    refine bodyPost_ret (v := .bool false) ?_ ?_ ?_
    · simp [results, Try.results9, go_sem]
    · rfl
    · exact ⟨rfl, HL.out⟩
  | succ n ih =>
    intro lv t v w hlv hv
    obtain ⟨a, c, rfl, hs⟩ := hv.form
    have IH := Lib.hid (ih (by omega))
    clear ih
    obtain ⟨m, hm⟩ : ∃ m, m = t.of.length := ⟨_, rfl⟩
    rw [← hm] at hs ⊢
    have hml := hs.len
    rw [← hm] at hml
    obtain ⟨W, hW⟩ : ∃ W, W = w.alloc (.cells #[.int .i64 t.op, .int .i64 t.vr, .int .i64 t.tags, .bool t.yes, .slice a m c] 24) := ⟨_, rfl⟩
    have HX := Lib.hid (show Bx W w.heap.size 24 #[.int .i64 t.op, .int .i64 t.vr, .int .i64 t.tags, .bool t.yes, .slice a m c] by rw [hW]; exact Bx.made _ _ _)
    have HL := Lib.hid (show Below w.heap.size w W by rw [hW]; exact (Below.refl _ _).alloc (Nat.le_refl _) _)
    have HS := Lib.hid (hs.keep HL.out)
    obtain ⟨z, hz⟩ : ∃ z, z = litT (n + 1) t := ⟨_, rfl⟩
    rw [← hz]
    rw [lit_succ, ← hm] at hz
    have HZ := Lib.hid hz
    have HM := Lib.hid hm
    have HW := Lib.hid hW
    have px4 : W.cell? ⟨w.heap.size, 4, none⟩ = some (.slice a m c) := HX.out.c 4
    have bl : lv = (n : Int) + 1 := by omega
    have b6 : (n : Int) ≤ 5 := by omega
    have b0 : (0 : Int) ≤ (n : Int) := Int.natCast_nonneg _
    have bm : (m : Int) ≤ 9223372036854775807 := by unfold maxLen at hml; omega
    subst bl
    have bne : ¬ ((n : Int) + 1 = 0) := by omega
    clear hs hz hm hW hml hlv
    go_enter Try.func9, Try.ntmps9
    go_upto_region 1 with fail
    rw [← HW.out]
    by_cases h5 : m ≤ 5
    · have g5 : ¬ (5 : Int) < (m : Int) := by omega
      go_wp2
      go_loopw [5] (fun iv wr => LtRel n m W t.of iv wr) (fun iv _ => m - (intOf iv).toNat)
      case atStart => exact ⟨0, Nat.zero_le _, rfl, Lib.hid (Below.refl _ _), Lib.hid fun j h => absurd h (Nat.not_lt_zero _)⟩
      case round =>
        clear px4
        obtain ⟨i, hi1, rfl, HB, HQ⟩ := hrel
        have qx4 : wr.cell? ⟨w.heap.size, 4, none⟩ = some (.slice a m c) := (HX.out.keep HB.out).c 4
        by_cases hlt : i < m
        · have hi0 : (0 : Int) ≤ (i : Int) := Int.natCast_nonneg _
          have hi2 : (i : Int) < (m : Int) := by omega
          have hil : i < t.of.length := by rw [← HM.out]; exact hlt
          obtain ⟨b, off, ea, ec, rfl, hb, e0, e1, e2, e3, e4, he⟩ := (HS.out.keep HB.out).elem hil
          obtain ⟨d, hd⟩ : ∃ d, t.of.getD i te0 = d := ⟨_, rfl⟩
          rw [hd] at e0 e1 e2 e3 e4 he
          have HDD := Lib.hid hd
          have HE := Lib.hid he
          clear hd he hb
          go_wp2_with fail
          refine (IH.out _ d _ wr (by omega) ⟨_, rfl, HE.out⟩).mono ?_
          rintro e w2 ⟨rfl, hb⟩
          have HB2 := Lib.hid (HB.out.trans (hb.mono HB.out.size))
          obtain ⟨y, hy⟩ : ∃ y, y = litT n d := ⟨_, rfl⟩
          rw [← hy]
          have HY := Lib.hid hy
          clear hb hy e0 e1 e2 e3 e4
          cases y with
          | false =>
            have e : z = false := by
              rw [HZ.out]
              have : t.of.all (litT n) = false := by
                rw [List.all_eq_false]
                refine ⟨d, ?_, by rw [← HY.out]; decide⟩
                rw [← HDD.out, List.getD_eq_getElem?_getD, List.getElem?_eq_getElem hil]; exact List.getElem_mem hil
              rw [this]; simp
            subst e
            go_wp2
            refine bodyPost_ret (v := .bool false) ?_ ?_ ?_
            · simp [results, Try.results9, go_sem]
            · rfl
            · exact ⟨rfl, HL.out.trans (HB2.out.mono HL.out.size)⟩
          | true =>
            go_wp2
            refine ⟨⟨i + 1, hlt, by go_num, HB2, Lib.hid fun j hj => ?_⟩, by simp [intOf]; omega⟩
            by_cases e : j = i
            · rw [e, HDD.out]; exact HY.out.symm
            · exact HQ.out j (by omega)
        · have hin : i = m := by omega
          have e : z = true := by
            rw [HZ.out, decide_eq_true h5, Bool.true_and, List.all_eq_true]
            intro x hx
            obtain ⟨j, hj, rfl⟩ := List.getElem_of_mem hx
            have := HQ.out j (by rw [hin, HM.out]; exact hj)
            rwa [List.getD_eq_getElem?_getD, List.getElem?_eq_getElem hj] at this
          subst e
          go_wp2
          refine bodyPost_ret (v := .bool true) ?_ ?_ ?_
          · simp [results, Try.results9, go_sem]
          · rfl
          · exact ⟨rfl, HL.out.trans (HB.out.mono HL.out.size)⟩
    · have g5 : (5 : Int) < (m : Int) := by omega
      have e : z = false := by rw [HZ.out]; simp [h5]
      subst e
      go_wp2
      refine bodyPost_ret (v := .bool false) ?_ ?_ ?_
      · simp [results, Try.results9, go_sem]
      · rfl
      · exact ⟨rfl, HL.out⟩
end Go.Proofs.Ytgjkobkcmgliaaa

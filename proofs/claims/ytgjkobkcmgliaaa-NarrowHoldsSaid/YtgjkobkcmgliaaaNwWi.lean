import Derived.Test.YtgjkobkcmgliaaaNwHp
import Derived.Test.YtgjkobkcmgliaaaNwL
namespace Go.Proofs.Ytgjkobkcmgliaaa
open Go.RowKit

def WiRel (many : Int) (n m : Nat) (W : World) (l : List Tst) (iv : Value) (wr : World) : Prop :=
  ∃ i : Nat, i ≤ m ∧ iv = .int .i64 i ∧ Hid (Below W.heap.size W wr) ∧ Hid (∀ j, j < i → winT many n (l.getD j te0) = true)
theorem win_succ (many : Int) (n : Nat) (t : Tst) : winT many (n + 1) t = (!decide ((t.op = 0 ∨ t.op = 1) ∧ (t.vr < 0 ∨ many ≤ t.vr)) && t.of.all (winT many n)) := rfl

set_option maxRecDepth 100000 in
set_option maxHeartbeats 16000000 in
theorem within_go (many : Int) (n : Nat) : ∀ (t : Tst) (v : Value) (w : World), litT n t = true → TeV w v t → Calls Try.prog 28 #[v, .int .i64 many] w fun e w' => e = .returned (.bool (winT many n t)) ∧ Below w.heap.size w w' := by
  induction n with
  | zero => intro t v w h; cases h
  | succ n ih =>
    intro t v w hlit hv
    obtain ⟨a, c, rfl, hs⟩ := hv.form
    have IH := Lib.hid ih
    have HLI := Lib.hid (lit_of hlit)
    clear ih hlit
    obtain ⟨m, hm⟩ : ∃ m, m = t.of.length := ⟨_, rfl⟩
    rw [← hm] at hs ⊢
    have hml := hs.len
    rw [← hm] at hml
    obtain ⟨W, hW⟩ : ∃ W, W = w.alloc (.cells #[.int .i64 t.op, .int .i64 t.vr, .int .i64 t.tags, .bool t.yes, .slice a m c] 24) := ⟨_, rfl⟩
    have HX := Lib.hid (show Bx W w.heap.size 24 #[.int .i64 t.op, .int .i64 t.vr, .int .i64 t.tags, .bool t.yes, .slice a m c] by rw [hW]; exact Bx.made _ _ _)
    have HL := Lib.hid (show Below w.heap.size w W by rw [hW]; exact (Below.refl _ _).alloc (Nat.le_refl _) _)
    have HS := Lib.hid (hs.keep HL.out)
    obtain ⟨z, hz⟩ : ∃ z, z = winT many (n + 1) t := ⟨_, rfl⟩
    rw [← hz]
    rw [win_succ] at hz
    have HZ := Lib.hid hz
    have HM := Lib.hid hm
    have HW := Lib.hid hW
    have x0 : W.cell? ⟨w.heap.size, 0, none⟩ = some (.int .i64 t.op) := HX.out.c 0
    have x1 : W.cell? ⟨w.heap.size, 1, none⟩ = some (.int .i64 t.vr) := HX.out.c 1
    have x4 : W.cell? ⟨w.heap.size, 4, none⟩ = some (.slice a m c) := HX.out.c 4
    have bm : (m : Int) ≤ 9223372036854775807 := by unfold maxLen at hml; omega
    clear hs hz hm hW hml hv
    go_enter Try.func28, Try.ntmps28
    go_upto_region 1 with fail
    rw [← HW.out]
    clear HW
    by_cases h0 : t.op = 0
    · skip
      by_cases hv : t.vr < 0
      · have gv : decide (t.vr < 0) = true := decide_eq_true hv
        have e : z = false := by
          rw [HZ.out, decide_eq_true ⟨.inl h0, .inl hv⟩, Bool.not_true, Bool.false_and]
        subst e
        go_wp2
        refine bodyPost_ret (v := .bool false) ?_ ?_ ?_
        · simp [results, Try.results28, go_sem]
        · rfl
        · exact ⟨rfl, HL.out⟩
      · have gv : decide (t.vr < 0) = false := decide_eq_false hv
        by_cases hm2 : many ≤ t.vr
        · have gm : decide (many ≤ t.vr) = true := decide_eq_true hm2
          have e : z = false := by
            rw [HZ.out, decide_eq_true ⟨.inl h0, .inr hm2⟩, Bool.not_true, Bool.false_and]
          subst e
          go_wp2
          refine bodyPost_ret (v := .bool false) ?_ ?_ ?_
          · simp [results, Try.results28, go_sem]
          · rfl
          · exact ⟨rfl, HL.out⟩
        · have gm : decide (many ≤ t.vr) = false := decide_eq_false hm2
          have HC := Lib.hid (show decide ((t.op = 0 ∨ t.op = 1) ∧ (t.vr < 0 ∨ many ≤ t.vr)) = false from decide_eq_false (fun h => h.2.elim hv hm2))
          go_wp2
          go_loopw [5] (fun iv wr => WiRel many n m W t.of iv wr) (fun iv _ => m - (intOf iv).toNat)
          case atStart => exact ⟨0, Nat.zero_le _, rfl, Lib.hid (Below.refl _ _), Lib.hid fun j h => absurd h (Nat.not_lt_zero _)⟩
          case round =>
            clear x0 x1 x4
            obtain ⟨i, hi1, rfl, HB, HQ⟩ := hrel
            have qx4 : wr.cell? ⟨w.heap.size, 4, none⟩ = some (.slice a m c) := (HX.out.keep HB.out).c 4
            by_cases hlt : i < m
            · have hi0 : (0 : Int) ≤ (i : Int) := Int.natCast_nonneg _
              have hi2 : (i : Int) < (m : Int) := by omega
              have hil : i < t.of.length := by rw [← HM.out]; exact hlt
              obtain ⟨b, off, ea, ec, rfl, hb, e0, e1, e2, e3, e4, he⟩ := (HS.out.keep HB.out).elem hil
              obtain ⟨d, hd⟩ : ∃ d, t.of.getD i te0 = d := ⟨_, rfl⟩
              rw [hd] at e0 e1 e2 e3 e4 he
              have HDD := Lib.hid hd
              have HE := Lib.hid he
              have HLD := Lib.hid (show litT n d = true by rw [← hd]; exact HLI.out i hil)
              clear hd he hb
              go_wp2_with fail
              refine (IH.out d _ wr HLD.out ⟨_, rfl, HE.out⟩).mono ?_
              rintro e w2 ⟨rfl, hb⟩
              have HB2 := Lib.hid (HB.out.trans (hb.mono HB.out.size))
              obtain ⟨y, hy⟩ : ∃ y, y = winT many n d := ⟨_, rfl⟩
              rw [← hy]
              have HY := Lib.hid hy
              clear hb hy e0 e1 e2 e3 e4
              cases y with
              | false =>
                have e : z = false := by
                  rw [HZ.out]
                  have : t.of.all (winT many n) = false := by
                    rw [List.all_eq_false]
                    refine ⟨d, ?_, by rw [← HY.out]; decide⟩
                    rw [← HDD.out, List.getD_eq_getElem?_getD, List.getElem?_eq_getElem hil]; exact List.getElem_mem hil
                  rw [this, Bool.and_false]
                subst e
                go_wp2
                refine bodyPost_ret (v := .bool false) ?_ ?_ ?_
                · simp [results, Try.results28, go_sem]
                · rfl
                · exact ⟨rfl, HL.out.trans (HB2.out.mono HL.out.size)⟩
              | true =>
                go_wp2
                refine ⟨⟨i + 1, hlt, by go_num, HB2, Lib.hid fun j hj => ?_⟩, by simp [intOf]; omega⟩
                by_cases e : j = i
                · rw [e, HDD.out]; exact HY.out.symm
                · exact HQ.out j (by omega)
            · have hin : i = m := by omega
              have e : z = true := by
                rw [HZ.out, HC.out, Bool.not_false, Bool.true_and, List.all_eq_true]
                intro x hx
                obtain ⟨j, hj, rfl⟩ := List.getElem_of_mem hx
                have := HQ.out j (by rw [hin, HM.out]; exact hj)
                rwa [List.getD_eq_getElem?_getD, List.getElem?_eq_getElem hj] at this
              subst e
              go_wp2
              refine bodyPost_ret (v := .bool true) ?_ ?_ ?_
              · simp [results, Try.results28, go_sem]
              · rfl
              · exact ⟨rfl, HL.out.trans (HB.out.mono HL.out.size)⟩
    by_cases h1 : t.op = 1
    · skip
      by_cases hv : t.vr < 0
      · have gv : decide (t.vr < 0) = true := decide_eq_true hv
        have e : z = false := by
          rw [HZ.out, decide_eq_true ⟨.inr h1, .inl hv⟩, Bool.not_true, Bool.false_and]
        subst e
        go_wp2
        refine bodyPost_ret (v := .bool false) ?_ ?_ ?_
        · simp [results, Try.results28, go_sem]
        · rfl
        · exact ⟨rfl, HL.out⟩
      · have gv : decide (t.vr < 0) = false := decide_eq_false hv
        by_cases hm2 : many ≤ t.vr
        · have gm : decide (many ≤ t.vr) = true := decide_eq_true hm2
          have e : z = false := by
            rw [HZ.out, decide_eq_true ⟨.inr h1, .inr hm2⟩, Bool.not_true, Bool.false_and]
          subst e
          go_wp2
          refine bodyPost_ret (v := .bool false) ?_ ?_ ?_
          · simp [results, Try.results28, go_sem]
          · rfl
          · exact ⟨rfl, HL.out⟩
        · have gm : decide (many ≤ t.vr) = false := decide_eq_false hm2
          have HC := Lib.hid (show decide ((t.op = 0 ∨ t.op = 1) ∧ (t.vr < 0 ∨ many ≤ t.vr)) = false from decide_eq_false (fun h => h.2.elim hv hm2))
          go_wp2
          go_loopw [5] (fun iv wr => WiRel many n m W t.of iv wr) (fun iv _ => m - (intOf iv).toNat)
          case atStart => exact ⟨0, Nat.zero_le _, rfl, Lib.hid (Below.refl _ _), Lib.hid fun j h => absurd h (Nat.not_lt_zero _)⟩
          case round =>
            clear x0 x1 x4
            obtain ⟨i, hi1, rfl, HB, HQ⟩ := hrel
            have qx4 : wr.cell? ⟨w.heap.size, 4, none⟩ = some (.slice a m c) := (HX.out.keep HB.out).c 4
            by_cases hlt : i < m
            · have hi0 : (0 : Int) ≤ (i : Int) := Int.natCast_nonneg _
              have hi2 : (i : Int) < (m : Int) := by omega
              have hil : i < t.of.length := by rw [← HM.out]; exact hlt
              obtain ⟨b, off, ea, ec, rfl, hb, e0, e1, e2, e3, e4, he⟩ := (HS.out.keep HB.out).elem hil
              obtain ⟨d, hd⟩ : ∃ d, t.of.getD i te0 = d := ⟨_, rfl⟩
              rw [hd] at e0 e1 e2 e3 e4 he
              have HDD := Lib.hid hd
              have HE := Lib.hid he
              have HLD := Lib.hid (show litT n d = true by rw [← hd]; exact HLI.out i hil)
              clear hd he hb
              go_wp2_with fail
              refine (IH.out d _ wr HLD.out ⟨_, rfl, HE.out⟩).mono ?_
              rintro e w2 ⟨rfl, hb⟩
              have HB2 := Lib.hid (HB.out.trans (hb.mono HB.out.size))
              obtain ⟨y, hy⟩ : ∃ y, y = winT many n d := ⟨_, rfl⟩
              rw [← hy]
              have HY := Lib.hid hy
              clear hb hy e0 e1 e2 e3 e4
              cases y with
              | false =>
                have e : z = false := by
                  rw [HZ.out]
                  have : t.of.all (winT many n) = false := by
                    rw [List.all_eq_false]
                    refine ⟨d, ?_, by rw [← HY.out]; decide⟩
                    rw [← HDD.out, List.getD_eq_getElem?_getD, List.getElem?_eq_getElem hil]; exact List.getElem_mem hil
                  rw [this, Bool.and_false]
                subst e
                go_wp2
                refine bodyPost_ret (v := .bool false) ?_ ?_ ?_
                · simp [results, Try.results28, go_sem]
                · rfl
                · exact ⟨rfl, HL.out.trans (HB2.out.mono HL.out.size)⟩
              | true =>
                go_wp2
                refine ⟨⟨i + 1, hlt, by go_num, HB2, Lib.hid fun j hj => ?_⟩, by simp [intOf]; omega⟩
                by_cases e : j = i
                · rw [e, HDD.out]; exact HY.out.symm
                · exact HQ.out j (by omega)
            · have hin : i = m := by omega
              have e : z = true := by
                rw [HZ.out, HC.out, Bool.not_false, Bool.true_and, List.all_eq_true]
                intro x hx
                obtain ⟨j, hj, rfl⟩ := List.getElem_of_mem hx
                have := HQ.out j (by rw [hin, HM.out]; exact hj)
                rwa [List.getD_eq_getElem?_getD, List.getElem?_eq_getElem hj] at this
              subst e
              go_wp2
              refine bodyPost_ret (v := .bool true) ?_ ?_ ?_
              · simp [results, Try.results28, go_sem]
              · rfl
              · exact ⟨rfl, HL.out.trans (HB.out.mono HL.out.size)⟩
    have HC := Lib.hid (show decide ((t.op = 0 ∨ t.op = 1) ∧ (t.vr < 0 ∨ many ≤ t.vr)) = false from decide_eq_false (fun h => h.1.elim h0 h1))
    go_wp2
    go_loopw [5] (fun iv wr => WiRel many n m W t.of iv wr) (fun iv _ => m - (intOf iv).toNat)
    case atStart => exact ⟨0, Nat.zero_le _, rfl, Lib.hid (Below.refl _ _), Lib.hid fun j h => absurd h (Nat.not_lt_zero _)⟩
    case round =>
      clear x0 x1 x4
      obtain ⟨i, hi1, rfl, HB, HQ⟩ := hrel
      have qx4 : wr.cell? ⟨w.heap.size, 4, none⟩ = some (.slice a m c) := (HX.out.keep HB.out).c 4
      by_cases hlt : i < m
      · have hi0 : (0 : Int) ≤ (i : Int) := Int.natCast_nonneg _
        have hi2 : (i : Int) < (m : Int) := by omega
        have hil : i < t.of.length := by rw [← HM.out]; exact hlt
        obtain ⟨b, off, ea, ec, rfl, hb, e0, e1, e2, e3, e4, he⟩ := (HS.out.keep HB.out).elem hil
        obtain ⟨d, hd⟩ : ∃ d, t.of.getD i te0 = d := ⟨_, rfl⟩
        rw [hd] at e0 e1 e2 e3 e4 he
        have HDD := Lib.hid hd
        have HE := Lib.hid he
        have HLD := Lib.hid (show litT n d = true by rw [← hd]; exact HLI.out i hil)
        clear hd he hb
        go_wp2_with fail
        refine (IH.out d _ wr HLD.out ⟨_, rfl, HE.out⟩).mono ?_
        rintro e w2 ⟨rfl, hb⟩
        have HB2 := Lib.hid (HB.out.trans (hb.mono HB.out.size))
        obtain ⟨y, hy⟩ : ∃ y, y = winT many n d := ⟨_, rfl⟩
        rw [← hy]
        have HY := Lib.hid hy
        clear hb hy e0 e1 e2 e3 e4
        cases y with
        | false =>
          have e : z = false := by
            rw [HZ.out]
            have : t.of.all (winT many n) = false := by
              rw [List.all_eq_false]
              refine ⟨d, ?_, by rw [← HY.out]; decide⟩
              rw [← HDD.out, List.getD_eq_getElem?_getD, List.getElem?_eq_getElem hil]; exact List.getElem_mem hil
            rw [this, Bool.and_false]
          subst e
          go_wp2
          refine bodyPost_ret (v := .bool false) ?_ ?_ ?_
          · simp [results, Try.results28, go_sem]
          · rfl
          · exact ⟨rfl, HL.out.trans (HB2.out.mono HL.out.size)⟩
        | true =>
          go_wp2
          refine ⟨⟨i + 1, hlt, by go_num, HB2, Lib.hid fun j hj => ?_⟩, by simp [intOf]; omega⟩
          by_cases e : j = i
          · rw [e, HDD.out]; exact HY.out.symm
          · exact HQ.out j (by omega)
      · have hin : i = m := by omega
        have e : z = true := by
          rw [HZ.out, HC.out, Bool.not_false, Bool.true_and, List.all_eq_true]
          intro x hx
          obtain ⟨j, hj, rfl⟩ := List.getElem_of_mem hx
          have := HQ.out j (by rw [hin, HM.out]; exact hj)
          rwa [List.getD_eq_getElem?_getD, List.getElem?_eq_getElem hj] at this
        subst e
        go_wp2
        refine bodyPost_ret (v := .bool true) ?_ ?_ ?_
        · simp [results, Try.results28, go_sem]
        · rfl
        · exact ⟨rfl, HL.out.trans (HB.out.mono HL.out.size)⟩
end Go.Proofs.Ytgjkobkcmgliaaa

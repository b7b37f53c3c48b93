import Derived.Test.YtlalnkabfigodaaDoorCoPa
namespace Go.Proofs.YtlalnkabfigodaaDoor
open Go.Lib (hid)
open Go.RowKit

theorem headC_eq (c : Co) : headC c = (!decide (¬ ((0 ≤ c.h.pair ∧ c.h.pair ≤ 3) ∧ (0 ≤ c.h.fn ∧ c.h.fn ≤ 3) ∧ (0 ≤ c.h.pl ∧ c.h.pl ≤ 99) ∧ (0 ≤ c.h.fl ∧ c.h.fl ≤ 99))) && ((c.h.flat.all fun x => decide (0 ≤ x ∧ x ≤ 99)) && (!decide (¬ ((c.pairs.length : Int) = wantC c.h.pair ∧ (c.h.pair = 1 → c.h.pl ≠ 0) ∧ (c.h.pair = 0 ∨ c.h.pair = 2 → c.h.pl = 0))) && (!decide (2 ≤ c.h.pair ∧ allC c.pairs = true ∧ c.h.pl = 0) && !decide (¬ ((c.h.fn ≠ 2 → c.funs.length = 0) ∧ (c.h.fn = 2 → 1 ≤ c.funs.length ∧ c.funs.length ≤ 9 ∧ ¬ allC c.funs = true) ∧ (c.h.fn = 1 ↔ c.h.fl ≠ 0))))))) := by
 have e : headC c = true ↔ (!decide (¬ ((0 ≤ c.h.pair ∧ c.h.pair ≤ 3) ∧ (0 ≤ c.h.fn ∧ c.h.fn ≤ 3) ∧ (0 ≤ c.h.pl ∧ c.h.pl ≤ 99) ∧ (0 ≤ c.h.fl ∧ c.h.fl ≤ 99))) && ((c.h.flat.all fun x => decide (0 ≤ x ∧ x ≤ 99)) && (!decide (¬ ((c.pairs.length : Int) = wantC c.h.pair ∧ (c.h.pair = 1 → c.h.pl ≠ 0) ∧ (c.h.pair = 0 ∨ c.h.pair = 2 → c.h.pl = 0))) && (!decide (2 ≤ c.h.pair ∧ allC c.pairs = true ∧ c.h.pl = 0) && !decide (¬ ((c.h.fn ≠ 2 → c.funs.length = 0) ∧ (c.h.fn = 2 → 1 ≤ c.funs.length ∧ c.funs.length ≤ 9 ∧ ¬ allC c.funs = true) ∧ (c.h.fn = 1 ↔ c.h.fl ≠ 0))))))) = true := by
  unfold headC Hd.flat rng
  simp only [List.all_cons, List.all_nil, Bool.and_eq_true, Bool.not_eq_true', decide_eq_false_iff_not, decide_eq_true_eq, Bool.and_true, Classical.not_not]
  constructor
  ·
   rintro ⟨a0, a1, a2, a3, a4, a5, a6, a7, a8, a9, a10, a11, a12, a13, a14, a15, a16⟩
   exact ⟨⟨a6, a7, a8, a9⟩, ⟨a0, a1, a2, a3, a4, a5⟩, ⟨a10, a11, a12⟩, a13, a14, a15, a16⟩
  ·
   rintro ⟨⟨a6, a7, a8, a9⟩, ⟨a0, a1, a2, a3, a4, a5⟩, ⟨a10, a11, a12⟩, a13, a14, a15, a16⟩
   exact ⟨a0, a1, a2, a3, a4, a5, a6, a7, a8, a9, a10, a11, a12, a13, a14, a15, a16⟩
 generalize (!decide (¬ ((0 ≤ c.h.pair ∧ c.h.pair ≤ 3) ∧ (0 ≤ c.h.fn ∧ c.h.fn ≤ 3) ∧ (0 ≤ c.h.pl ∧ c.h.pl ≤ 99) ∧ (0 ≤ c.h.fl ∧ c.h.fl ≤ 99))) && ((c.h.flat.all fun x => decide (0 ≤ x ∧ x ≤ 99)) && (!decide (¬ ((c.pairs.length : Int) = wantC c.h.pair ∧ (c.h.pair = 1 → c.h.pl ≠ 0) ∧ (c.h.pair = 0 ∨ c.h.pair = 2 → c.h.pl = 0))) && (!decide (2 ≤ c.h.pair ∧ allC c.pairs = true ∧ c.h.pl = 0) && !decide (¬ ((c.h.fn ≠ 2 → c.funs.length = 0) ∧ (c.h.fn = 2 → 1 ≤ c.funs.length ∧ c.funs.length ≤ 9 ∧ ¬ allC c.funs = true) ∧ (c.h.fn = 1 ↔ c.h.fl ≠ 0))))))) = y at e ⊢
 cases h : headC c <;> cases y
 ·
  rfl
 ·
  rw [e.2 rfl] at h; cases h
 ·
  exact absurd (e.1 h) (by simp)
 ·
  rfl
theorem wtab_cell (W : World) (m : Nat) (hm : m ≤ 3) : (W.alloc (.cells #[.int .i64 0, .int .i64 0, .int .i64 2, .int .i64 1] 3)).cell? ⟨W.heap.size, m, none⟩ = some (.int .i64 (wantC m)) := by
 rw [Lib.cell_of_heap (heap_alloc_new _ _) m]
 obtain rfl | rfl | rfl | rfl : m = 0 ∨ m = 1 ∨ m = 2 ∨ m = 3 := by omega
 all_goals rfl
theorem below_drawn7 {B : Nat} {a w : World} (h : Below B a w) (n : Nat) : Below B a (w.drewN n) := ⟨h.os, h.tape, h.output, h.size, h.block⟩
set_option maxRecDepth 100000 in
set_option maxHeartbeats 32000000 in
theorem deepc_go (n : Nat) (hn : n ≤ 60) : ∀ (lv : Int) (c : Co) (v : Value) (w : World), lv = n → CoV w v c → Calls Tryd.prog 43 #[v, .int .i64 lv] w fun e w' => e = .returned (.bool (deepC n c)) ∧ Below w.heap.size w w' := by
 induction n with
 | zero =>
  intro lv c v w hlv hv
  subst hlv
  obtain ⟨pa, pc, fa, fc, rfl, hp, hf⟩ := hv.form
  generalize c.pairs.length = np
  generalize c.funs.length = nf
  clear hp hf hv
  have HL := hid (show Below w.heap.size w (w.alloc (.cells #[.int .i64 c.h.f0, .int .i64 c.h.f1, .int .i64 c.h.f2, .int .i64 c.h.f3, .int .i64 c.h.f4, .int .i64 c.h.f5, .int .i64 c.h.pair, .int .i64 c.h.pl, .slice pa np pc, .int .i64 c.h.fn, .int .i64 c.h.fl, .slice fa nf fc] 30)) from (Below.refl _ _).alloc (Nat.le_refl _) _)
  go_enter Tryd.func43, Tryd.ntmps43
  go_wp2
  refine bodyPost_ret (v := .bool false) ?_ ?_ ?_
  ·
   simp [results, Tryd.results43, go_sem]
  ·
   rfl
  ·
   exact ⟨rfl, HL.out⟩
 | succ n ih =>
  intro lv c v w hlv hv
  have IH := hid (ih (by omega))
  clear ih
  obtain ⟨pa, pc, fa, fc, rfl, hp, hf⟩ := hv.form
  obtain ⟨np, hnp⟩ : ∃ n, n = c.pairs.length := ⟨_, rfl⟩
  obtain ⟨nf, hnf⟩ : ∃ n, n = c.funs.length := ⟨_, rfl⟩
  rw [← hnp] at hp ⊢
  rw [← hnf] at hf ⊢
  have bp : (np : Int) ≤ 9223372036854775807 := by have := hp.len; rw [← hnp] at this; unfold maxLen at this; omega
  have bf : (nf : Int) ≤ 9223372036854775807 := by have := hf.len; rw [← hnf] at this; unfold maxLen at this; omega
  obtain ⟨W, hW⟩ : ∃ W, W = w.alloc (.cells #[.int .i64 c.h.f0, .int .i64 c.h.f1, .int .i64 c.h.f2, .int .i64 c.h.f3, .int .i64 c.h.f4, .int .i64 c.h.f5, .int .i64 c.h.pair, .int .i64 c.h.pl, .slice pa np pc, .int .i64 c.h.fn, .int .i64 c.h.fl, .slice fa nf fc] 30) := ⟨_, rfl⟩
  have HX := hid (show CBox W w.heap.size 30 ⟨c.h, .slice pa np pc, .slice fa nf fc⟩ by rw [hW]; exact CBox.made _ _ ⟨c.h, .slice pa np pc, .slice fa nf fc⟩)
  have HL := hid (show Below w.heap.size w W by rw [hW]; exact (Below.refl _ _).alloc (Nat.le_refl _) _)
  have HP := hid (CoSN.below hp HL.out)
  have HF := hid (CoSN.below hf HL.out)
  have HPN := hid hnp
  have HFN := hid hnf
  have HW := hid hW
  clear hp hf hnp hnf hW hv
  obtain ⟨z, hz⟩ : ∃ z, z = deepC (n + 1) c := ⟨_, rfl⟩
  rw [← hz]
  obtain ⟨ap, hap⟩ : ∃ z, z = allC c.pairs := ⟨_, rfl⟩
  obtain ⟨af, haf⟩ : ∃ z, z = allC c.funs := ⟨_, rfl⟩
  rw [deepC_succ, headC_eq, ← hap, ← haf, ← HPN.out, ← HFN.out] at hz
  have HZ := hid hz
  have HAP := hid hap
  have HAF := hid haf
  clear hz hap haf
  have x6 : W.cell? ⟨w.heap.size, 6, none⟩ = some (.int .i64 c.h.pair) := HX.out.c6
  have x7 : W.cell? ⟨w.heap.size, 7, none⟩ = some (.int .i64 c.h.pl) := HX.out.c7
  have x8 : W.cell? ⟨w.heap.size, 8, none⟩ = some (.slice pa np pc) := HX.out.c8
  have x9 : W.cell? ⟨w.heap.size, 9, none⟩ = some (.int .i64 c.h.fn) := HX.out.c9
  have x10 : W.cell? ⟨w.heap.size, 10, none⟩ = some (.int .i64 c.h.fl) := HX.out.c10
  have x11 : W.cell? ⟨w.heap.size, 11, none⟩ = some (.slice fa nf fc) := HX.out.c11
  have bl : lv = (n : Int) + 1 := by omega
  have b0 : (0 : Int) ≤ (n : Int) := Int.natCast_nonneg _
  have b6 : (n : Int) ≤ 60 := by omega
  subst bl
  have bne : ¬ ((n : Int) + 1 = 0) := by omega
  clear hlv
  go_enter Tryd.func43, Tryd.ntmps43
  go_upto_region 1 with fail
  rw [← HW.out]
  clear HW
  go_cut [50] from 9 to 50 (fun cc wx => cc = .bool (decide (¬ ((0 ≤ c.h.pair ∧ c.h.pair ≤ 3) ∧ (0 ≤ c.h.fn ∧ c.h.fn ≤ 3) ∧ (0 ≤ c.h.pl ∧ c.h.pl ≤ 99) ∧ (0 ≤ c.h.fl ∧ c.h.fl ≤ 99)))) ∧ W = wx)
  case first =>
   by_cases h1 : c.h.pair < 0
   ·
    have bh1 : decide (c.h.pair < 0) = true := decide_eq_true h1
    go_wp2
    go_meet
    case rel => exact ⟨congrArg Value.bool (decide_eq_true (p := ¬ ((0 ≤ c.h.pair ∧ c.h.pair ≤ 3) ∧ (0 ≤ c.h.fn ∧ c.h.fn ≤ 3) ∧ (0 ≤ c.h.pl ∧ c.h.pl ≤ 99) ∧ (0 ≤ c.h.fl ∧ c.h.fl ≤ 99))) (by omega)).symm, rfl⟩
   ·
    have bh1 : decide (c.h.pair < 0) = false := decide_eq_false h1
    by_cases h2 : 3 < c.h.pair
    ·
     have bh2 : decide (3 < c.h.pair) = true := decide_eq_true h2
     go_wp2
     go_meet
     case rel => exact ⟨congrArg Value.bool (decide_eq_true (p := ¬ ((0 ≤ c.h.pair ∧ c.h.pair ≤ 3) ∧ (0 ≤ c.h.fn ∧ c.h.fn ≤ 3) ∧ (0 ≤ c.h.pl ∧ c.h.pl ≤ 99) ∧ (0 ≤ c.h.fl ∧ c.h.fl ≤ 99))) (by omega)).symm, rfl⟩
    ·
     have bh2 : decide (3 < c.h.pair) = false := decide_eq_false h2
     by_cases h3 : c.h.fn < 0
     ·
      have bh3 : decide (c.h.fn < 0) = true := decide_eq_true h3
      go_wp2
      go_meet
      case rel => exact ⟨congrArg Value.bool (decide_eq_true (p := ¬ ((0 ≤ c.h.pair ∧ c.h.pair ≤ 3) ∧ (0 ≤ c.h.fn ∧ c.h.fn ≤ 3) ∧ (0 ≤ c.h.pl ∧ c.h.pl ≤ 99) ∧ (0 ≤ c.h.fl ∧ c.h.fl ≤ 99))) (by omega)).symm, rfl⟩
     ·
      have bh3 : decide (c.h.fn < 0) = false := decide_eq_false h3
      by_cases h4 : 3 < c.h.fn
      ·
       have bh4 : decide (3 < c.h.fn) = true := decide_eq_true h4
       go_wp2
       go_meet
       case rel => exact ⟨congrArg Value.bool (decide_eq_true (p := ¬ ((0 ≤ c.h.pair ∧ c.h.pair ≤ 3) ∧ (0 ≤ c.h.fn ∧ c.h.fn ≤ 3) ∧ (0 ≤ c.h.pl ∧ c.h.pl ≤ 99) ∧ (0 ≤ c.h.fl ∧ c.h.fl ≤ 99))) (by omega)).symm, rfl⟩
      ·
       have bh4 : decide (3 < c.h.fn) = false := decide_eq_false h4
       by_cases h5 : c.h.pl < 0
       ·
        have bh5 : decide (c.h.pl < 0) = true := decide_eq_true h5
        go_wp2
        go_meet
        case rel => exact ⟨congrArg Value.bool (decide_eq_true (p := ¬ ((0 ≤ c.h.pair ∧ c.h.pair ≤ 3) ∧ (0 ≤ c.h.fn ∧ c.h.fn ≤ 3) ∧ (0 ≤ c.h.pl ∧ c.h.pl ≤ 99) ∧ (0 ≤ c.h.fl ∧ c.h.fl ≤ 99))) (by omega)).symm, rfl⟩
       ·
        have bh5 : decide (c.h.pl < 0) = false := decide_eq_false h5
        by_cases h6 : 99 < c.h.pl
        ·
         have bh6 : decide (99 < c.h.pl) = true := decide_eq_true h6
         go_wp2
         go_meet
         case rel => exact ⟨congrArg Value.bool (decide_eq_true (p := ¬ ((0 ≤ c.h.pair ∧ c.h.pair ≤ 3) ∧ (0 ≤ c.h.fn ∧ c.h.fn ≤ 3) ∧ (0 ≤ c.h.pl ∧ c.h.pl ≤ 99) ∧ (0 ≤ c.h.fl ∧ c.h.fl ≤ 99))) (by omega)).symm, rfl⟩
        ·
         have bh6 : decide (99 < c.h.pl) = false := decide_eq_false h6
         by_cases h7 : c.h.fl < 0
         ·
          have bh7 : decide (c.h.fl < 0) = true := decide_eq_true h7
          go_wp2
          go_meet
          case rel => exact ⟨congrArg Value.bool (decide_eq_true (p := ¬ ((0 ≤ c.h.pair ∧ c.h.pair ≤ 3) ∧ (0 ≤ c.h.fn ∧ c.h.fn ≤ 3) ∧ (0 ≤ c.h.pl ∧ c.h.pl ≤ 99) ∧ (0 ≤ c.h.fl ∧ c.h.fl ≤ 99))) (by omega)).symm, rfl⟩
         ·
          have bh7 : decide (c.h.fl < 0) = false := decide_eq_false h7
          by_cases h8 : 99 < c.h.fl
          ·
           have bh8 : decide (99 < c.h.fl) = true := decide_eq_true h8
           go_wp2
           go_meet
           case rel => exact ⟨congrArg Value.bool (decide_eq_true (p := ¬ ((0 ≤ c.h.pair ∧ c.h.pair ≤ 3) ∧ (0 ≤ c.h.fn ∧ c.h.fn ≤ 3) ∧ (0 ≤ c.h.pl ∧ c.h.pl ≤ 99) ∧ (0 ≤ c.h.fl ∧ c.h.fl ≤ 99))) (by omega)).symm, rfl⟩
          ·
           have bh8 : decide (99 < c.h.fl) = false := decide_eq_false h8
           go_wp2
           go_meet
           case rel => exact ⟨congrArg Value.bool (decide_eq_false (p := ¬ ((0 ≤ c.h.pair ∧ c.h.pair ≤ 3) ∧ (0 ≤ c.h.fn ∧ c.h.fn ≤ 3) ∧ (0 ≤ c.h.pl ∧ c.h.pl ≤ 99) ∧ (0 ≤ c.h.fl ∧ c.h.fl ≤ 99))) (by omega)).symm, rfl⟩
  case rest =>
   obtain ⟨rfl, rfl⟩ := hcut
   by_cases hv1 : ¬ ((0 ≤ c.h.pair ∧ c.h.pair ≤ 3) ∧ (0 ≤ c.h.fn ∧ c.h.fn ≤ 3) ∧ (0 ≤ c.h.pl ∧ c.h.pl ≤ 99) ∧ (0 ≤ c.h.fl ∧ c.h.fl ≤ 99))
   ·
    have bv1 : decide (¬ ((0 ≤ c.h.pair ∧ c.h.pair ≤ 3) ∧ (0 ≤ c.h.fn ∧ c.h.fn ≤ 3) ∧ (0 ≤ c.h.pl ∧ c.h.pl ≤ 99) ∧ (0 ≤ c.h.fl ∧ c.h.fl ≤ 99))) = true := decide_eq_true hv1
    have e : z = false := by rw [HZ.out, bv1]; simp
    subst e
    rw [bv1]
    clear hv1
    go_wp2
    refine bodyPost_ret (v := .bool false) ?_ ?_ ?_
    ·
     simp [results, Tryd.results43, go_sem]
    ·
     rfl
    ·
     exact ⟨rfl, HL.out⟩
   have bv1 : decide (¬ ((0 ≤ c.h.pair ∧ c.h.pair ≤ 3) ∧ (0 ≤ c.h.fn ∧ c.h.fn ≤ 3) ∧ (0 ≤ c.h.pl ∧ c.h.pl ≤ 99) ∧ (0 ≤ c.h.fl ∧ c.h.fl ≤ 99))) = false := decide_eq_false hv1
   have HV1 := hid bv1
   have HH1 := hid (Classical.not_not.1 hv1)
   rw [bv1]
   clear hv1 bv1
   go_wp2
   go_loopw [5] (fun iv wr => ∃ i : Nat, i ≤ 6 ∧ iv = .int .i64 i ∧ W = wr ∧ Hid (∀ j, j < i → 0 ≤ c.h.flat.getD j 0 ∧ c.h.flat.getD j 0 ≤ 99)) (fun iv _ => 6 - (intOf iv).toNat)
   case atStart => exact ⟨0, Nat.zero_le _, rfl, rfl, hid fun j h => absurd h (Nat.not_lt_zero _)⟩
   case round =>
    obtain ⟨i, hi1, rfl, rfl, HQ⟩ := hrel
    by_cases hlt : i < 6
    ·
     have hi0 : (0 : Int) ≤ (i : Int) := Int.natCast_nonneg _
     have hi2 : (i : Int) < 6 := by omega
     have xi := HX.out.flat hlt
     obtain ⟨x, hx⟩ : ∃ x, c.h.flat.getD i 0 = x := ⟨_, rfl⟩
     rw [hx] at xi
     have HXX := hid hx
     clear hx
     have hbad : ¬ (0 ≤ x ∧ x ≤ 99) → z = false := fun hx => by
      rw [HZ.out]
      have : (c.h.flat.all fun x => decide (0 ≤ x ∧ x ≤ 99)) = false := by
       rw [List.all_eq_false]
       refine ⟨x, ?_, by rw [decide_eq_false hx]; decide⟩
       rw [← HXX.out, List.getD_eq_getElem?_getD, List.getElem?_eq_getElem (show i < c.h.flat.length from hlt)]
       exact List.getElem_mem _
      rw [this]; simp
     have HBAD := hid hbad
     clear hbad
     by_cases g1 : x < 0
     ·
      have bg1 : decide (x < 0) = true := decide_eq_true g1
      have e : z = false := HBAD.out (by omega)
      subst e
      go_wp2
      refine bodyPost_ret (v := .bool false) ?_ ?_ ?_
      ·
       simp [results, Tryd.results43, go_sem]
      ·
       rfl
      ·
       exact ⟨rfl, HL.out⟩
     ·
      have bg1 : decide (x < 0) = false := decide_eq_false g1
      by_cases g2 : 99 < x
      ·
       have bg2 : decide (99 < x) = true := decide_eq_true g2
       have e : z = false := HBAD.out (by omega)
       subst e
       go_wp2
       refine bodyPost_ret (v := .bool false) ?_ ?_ ?_
       ·
        simp [results, Tryd.results43, go_sem]
       ·
        rfl
       ·
        exact ⟨rfl, HL.out⟩
      ·
       have bg2 : decide (99 < x) = false := decide_eq_false g2
       go_wp2
       refine ⟨⟨i + 1, hlt, by go_num, by trivial, hid fun j hj => ?_⟩, by simp [intOf]; omega⟩
       by_cases e : j = i
       ·
        rw [e, HXX.out]; omega
       ·
        exact HQ.out j (by omega)
    ·
     have HFL := hid (show (c.h.flat.all fun x => decide (0 ≤ x ∧ x ≤ 99)) = true by
      rw [List.all_eq_true]
      intro x hx
      obtain ⟨j, hj, rfl⟩ := List.getElem_of_mem hx
      have := HQ.out j (by have : j < 6 := hj; omega)
      rw [List.getD_eq_getElem?_getD, List.getElem?_eq_getElem hj] at this
      exact decide_eq_true this)
     clear HQ
     go_upto_region 9 with fail
     obtain ⟨m, hm⟩ : ∃ m : Nat, c.h.pair = (m : Int) := ⟨c.h.pair.toNat, by have := HH1.out; omega⟩
     have hm3 : m ≤ 3 := by have := HH1.out; omega
     have tcell := wtab_cell W m hm3
     obtain ⟨W1, hW1⟩ : ∃ x, x = W.alloc (.cells #[.int .i64 0, .int .i64 0, .int .i64 2, .int .i64 1] 3) := ⟨_, rfl⟩
     have HTL := hid (show Below W.heap.size W W1 by rw [hW1]; exact (Below.refl _ _).alloc (Nat.le_refl _) _)
     rw [← hW1] at tcell ⊢
     have hB := HTL.out
     replace HX := hid (HX.out.keep hB)
     replace HP := hid (CoSN.below HP.out hB)
     replace HF := hid (CoSN.below HF.out hB)
     replace HL := hid (HL.out.trans (hB.mono HL.out.size))
     clear hB hW1 x6 x7 x8 x9 x10 x11
     have x6 : W1.cell? ⟨w.heap.size, 6, none⟩ = some (.int .i64 c.h.pair) := HX.out.c6
     have x7 : W1.cell? ⟨w.heap.size, 7, none⟩ = some (.int .i64 c.h.pl) := HX.out.c7
     have x8 : W1.cell? ⟨w.heap.size, 8, none⟩ = some (.slice pa np pc) := HX.out.c8
     have x9 : W1.cell? ⟨w.heap.size, 9, none⟩ = some (.int .i64 c.h.fn) := HX.out.c9
     have x10 : W1.cell? ⟨w.heap.size, 10, none⟩ = some (.int .i64 c.h.fl) := HX.out.c10
     have x11 : W1.cell? ⟨w.heap.size, 11, none⟩ = some (.slice fa nf fc) := HX.out.c11
     rw [hm] at x6
     have HM := hid hm
     have m0 : (0 : Int) ≤ (m : Int) := Int.natCast_nonneg _
     have m4 : (m : Int) < 4 := by omega
     clear hm
     go_cut [101] from 68 to 101 (fun cc wx => cc = .bool (decide (¬ ((np : Int) = wantC (m : Int) ∧ ((m : Int) = 1 → c.h.pl ≠ 0) ∧ ((m : Int) = 0 ∨ (m : Int) = 2 → c.h.pl = 0)))) ∧ ∃ k, wx = W1.drewN k)
     case first =>
      by_cases k1 : (np : Int) = wantC m
      case neg =>
       have bk1 : ((np : Int) != wantC m) = true := bne_iff_ne.2 k1
       have dk1 : decide ((np : Int) = wantC m) = false := decide_eq_false k1
       have K1 := hid k1
       clear k1
       go_quiet (fail)
       go_wp2
       go_meet
       case rel => exact ⟨congrArg Value.bool (decide_eq_true (p := ¬ ((np : Int) = wantC (m : Int) ∧ ((m : Int) = 1 → c.h.pl ≠ 0) ∧ ((m : Int) = 0 ∨ (m : Int) = 2 → c.h.pl = 0))) (fun hh => K1.out hh.1)).symm, _, rfl⟩
      have bk1 : ((np : Int) != wantC m) = false := by simp [k1]
      have dk1 : decide ((np : Int) = wantC m) = true := decide_eq_true k1
      have K1 := hid k1
      clear k1
      by_cases k3 : c.h.pl = 0
      ·
       have bk3 : decide (c.h.pl = 0) = true := decide_eq_true k3
       have ck3 : (c.h.pl == 0) = true := by simp [k3]
       have ek3 : (c.h.pl != 0) = false := by simp [k3]
       have K3 := hid k3
       clear k3
       by_cases k2 : m = 1
       ·
        have bm0 : ((m : Int) == 0) = false := by simp; omega
        have dm0 : decide ((m : Int) = 0) = false := by simp; omega
        have bm1 : ((m : Int) == 1) = true := by simp; omega
        have dm1 : decide ((m : Int) = 1) = true := by simp; omega
        have bm2 : ((m : Int) == 2) = false := by simp; omega
        have dm2 : decide ((m : Int) = 2) = false := by simp; omega
        have KM := hid k2
        clear k2
        go_quiet (fail)
        go_wp2
        go_meet
        case rel => exact ⟨congrArg Value.bool (decide_eq_true (p := ¬ ((np : Int) = wantC (m : Int) ∧ ((m : Int) = 1 → c.h.pl ≠ 0) ∧ ((m : Int) = 0 ∨ (m : Int) = 2 → c.h.pl = 0))) (fun hh => hh.2.1 (by have := KM.out; omega) K3.out)).symm, _, rfl⟩
       by_cases k4 : m = 0
       ·
        have bm0 : ((m : Int) == 0) = true := by simp; omega
        have dm0 : decide ((m : Int) = 0) = true := by simp; omega
        have bm1 : ((m : Int) == 1) = false := by simp; omega
        have dm1 : decide ((m : Int) = 1) = false := by simp; omega
        have bm2 : ((m : Int) == 2) = false := by simp; omega
        have dm2 : decide ((m : Int) = 2) = false := by simp; omega
        have KM := hid k4
        clear k2 k4
        go_quiet (fail)
        go_wp2
        go_meet
        case rel => exact ⟨congrArg Value.bool (decide_eq_false (p := ¬ ((np : Int) = wantC (m : Int) ∧ ((m : Int) = 1 → c.h.pl ≠ 0) ∧ ((m : Int) = 0 ∨ (m : Int) = 2 → c.h.pl = 0))) (fun hh => hh ⟨K1.out, fun h => by have := KM.out; omega, fun _ => K3.out⟩)).symm, _, rfl⟩
       by_cases k5 : m = 2
       ·
        have bm0 : ((m : Int) == 0) = false := by simp; omega
        have dm0 : decide ((m : Int) = 0) = false := by simp; omega
        have bm1 : ((m : Int) == 1) = false := by simp; omega
        have dm1 : decide ((m : Int) = 1) = false := by simp; omega
        have bm2 : ((m : Int) == 2) = true := by simp; omega
        have dm2 : decide ((m : Int) = 2) = true := by simp; omega
        have KM := hid k5
        clear k2 k4 k5
        go_quiet (fail)
        go_wp2
        go_meet
        case rel => exact ⟨congrArg Value.bool (decide_eq_false (p := ¬ ((np : Int) = wantC (m : Int) ∧ ((m : Int) = 1 → c.h.pl ≠ 0) ∧ ((m : Int) = 0 ∨ (m : Int) = 2 → c.h.pl = 0))) (fun hh => hh ⟨K1.out, fun h => by have := KM.out; omega, fun _ => K3.out⟩)).symm, _, rfl⟩
       have KM := hid (show m = 3 by omega)
       have bm0 : ((m : Int) == 0) = false := by simp; omega
       have dm0 : decide ((m : Int) = 0) = false := by simp; omega
       have bm1 : ((m : Int) == 1) = false := by simp; omega
       have dm1 : decide ((m : Int) = 1) = false := by simp; omega
       have bm2 : ((m : Int) == 2) = false := by simp; omega
       have dm2 : decide ((m : Int) = 2) = false := by simp; omega
       clear k2 k4 k5
       go_quiet (fail)
       go_wp2
       go_meet
       case rel => exact ⟨congrArg Value.bool (decide_eq_false (p := ¬ ((np : Int) = wantC (m : Int) ∧ ((m : Int) = 1 → c.h.pl ≠ 0) ∧ ((m : Int) = 0 ∨ (m : Int) = 2 → c.h.pl = 0))) (fun hh => hh ⟨K1.out, fun h => by have := KM.out; omega, fun h => by have := KM.out; omega⟩)).symm, _, rfl⟩
      ·
       have bk3 : decide (c.h.pl = 0) = false := decide_eq_false k3
       have ck3 : (c.h.pl == 0) = false := by simp [k3]
       have ek3 : (c.h.pl != 0) = true := by simp [k3]
       have K3 := hid k3
       clear k3
       by_cases k2 : m = 1
       ·
        have bm0 : ((m : Int) == 0) = false := by simp; omega
        have dm0 : decide ((m : Int) = 0) = false := by simp; omega
        have bm1 : ((m : Int) == 1) = true := by simp; omega
        have dm1 : decide ((m : Int) = 1) = true := by simp; omega
        have bm2 : ((m : Int) == 2) = false := by simp; omega
        have dm2 : decide ((m : Int) = 2) = false := by simp; omega
        have KM := hid k2
        clear k2
        go_quiet (fail)
        go_wp2
        go_meet
        case rel => exact ⟨congrArg Value.bool (decide_eq_false (p := ¬ ((np : Int) = wantC (m : Int) ∧ ((m : Int) = 1 → c.h.pl ≠ 0) ∧ ((m : Int) = 0 ∨ (m : Int) = 2 → c.h.pl = 0))) (fun hh => hh ⟨K1.out, fun _ => K3.out, fun h => by have := KM.out; omega⟩)).symm, _, rfl⟩
       by_cases k4 : m = 0
       ·
        have bm0 : ((m : Int) == 0) = true := by simp; omega
        have dm0 : decide ((m : Int) = 0) = true := by simp; omega
        have bm1 : ((m : Int) == 1) = false := by simp; omega
        have dm1 : decide ((m : Int) = 1) = false := by simp; omega
        have bm2 : ((m : Int) == 2) = false := by simp; omega
        have dm2 : decide ((m : Int) = 2) = false := by simp; omega
        have KM := hid k4
        clear k2 k4
        go_quiet (fail)
        go_wp2
        go_meet
        case rel => exact ⟨congrArg Value.bool (decide_eq_true (p := ¬ ((np : Int) = wantC (m : Int) ∧ ((m : Int) = 1 → c.h.pl ≠ 0) ∧ ((m : Int) = 0 ∨ (m : Int) = 2 → c.h.pl = 0))) (fun hh => K3.out (hh.2.2 (by have := KM.out; omega)))).symm, _, rfl⟩
       by_cases k5 : m = 2
       ·
        have bm0 : ((m : Int) == 0) = false := by simp; omega
        have dm0 : decide ((m : Int) = 0) = false := by simp; omega
        have bm1 : ((m : Int) == 1) = false := by simp; omega
        have dm1 : decide ((m : Int) = 1) = false := by simp; omega
        have bm2 : ((m : Int) == 2) = true := by simp; omega
        have dm2 : decide ((m : Int) = 2) = true := by simp; omega
        have KM := hid k5
        clear k2 k4 k5
        go_quiet (fail)
        go_wp2
        go_meet
        case rel => exact ⟨congrArg Value.bool (decide_eq_true (p := ¬ ((np : Int) = wantC (m : Int) ∧ ((m : Int) = 1 → c.h.pl ≠ 0) ∧ ((m : Int) = 0 ∨ (m : Int) = 2 → c.h.pl = 0))) (fun hh => K3.out (hh.2.2 (by have := KM.out; omega)))).symm, _, rfl⟩
       have KM := hid (show m = 3 by omega)
       have bm0 : ((m : Int) == 0) = false := by simp; omega
       have dm0 : decide ((m : Int) = 0) = false := by simp; omega
       have bm1 : ((m : Int) == 1) = false := by simp; omega
       have dm1 : decide ((m : Int) = 1) = false := by simp; omega
       have bm2 : ((m : Int) == 2) = false := by simp; omega
       have dm2 : decide ((m : Int) = 2) = false := by simp; omega
       clear k2 k4 k5
       go_quiet (fail)
       go_wp2
       go_meet
       case rel => exact ⟨congrArg Value.bool (decide_eq_false (p := ¬ ((np : Int) = wantC (m : Int) ∧ ((m : Int) = 1 → c.h.pl ≠ 0) ∧ ((m : Int) = 0 ∨ (m : Int) = 2 → c.h.pl = 0))) (fun hh => hh ⟨K1.out, fun h => by have := KM.out; omega, fun h => by have := KM.out; omega⟩)).symm, _, rfl⟩
     case rest =>
      obtain ⟨rfl, kd, rfl⟩ := hcut
      obtain ⟨W2, hW2⟩ : ∃ x, x = W1.drewN kd := ⟨_, rfl⟩
      rw [← hW2]
      have hB : Below W1.heap.size W1 W2 := by rw [hW2]; exact below_drawn7 (Below.refl _ _) _
      replace HX := hid (HX.out.keep hB)
      replace HP := hid (CoSN.below HP.out hB)
      replace HF := hid (CoSN.below HF.out hB)
      replace HL := hid (HL.out.trans (hB.mono HL.out.size))
      clear hB hW2 tcell x6 x7 x8 x9 x10 x11
      rw [← HM.out]
      clear m0 m4
      by_cases hv2 : ¬ ((np : Int) = wantC c.h.pair ∧ (c.h.pair = 1 → c.h.pl ≠ 0) ∧ (c.h.pair = 0 ∨ c.h.pair = 2 → c.h.pl = 0))
      ·
       have bv2 : decide (¬ ((np : Int) = wantC c.h.pair ∧ (c.h.pair = 1 → c.h.pl ≠ 0) ∧ (c.h.pair = 0 ∨ c.h.pair = 2 → c.h.pl = 0))) = true := decide_eq_true hv2
       have e : z = false := by rw [HZ.out, bv2]; simp
       subst e
       rw [bv2]
       clear hv2
       go_wp2
       refine bodyPost_ret (v := .bool false) ?_ ?_ ?_
       ·
        simp [results, Tryd.results43, go_sem]
       ·
        rfl
       ·
        exact ⟨rfl, HL.out⟩
      have bv2 : decide (¬ ((np : Int) = wantC c.h.pair ∧ (c.h.pair = 1 → c.h.pl ≠ 0) ∧ (c.h.pair = 0 ∨ c.h.pair = 2 → c.h.pl = 0))) = false := decide_eq_false hv2
      have HV2 := hid bv2
      rw [bv2]
      clear hv2 bv2
      have x6 : W2.cell? ⟨w.heap.size, 6, none⟩ = some (.int .i64 c.h.pair) := HX.out.c6
      have x7 : W2.cell? ⟨w.heap.size, 7, none⟩ = some (.int .i64 c.h.pl) := HX.out.c7
      have x8 : W2.cell? ⟨w.heap.size, 8, none⟩ = some (.slice pa np pc) := HX.out.c8
      have x9 : W2.cell? ⟨w.heap.size, 9, none⟩ = some (.int .i64 c.h.fn) := HX.out.c9
      have x10 : W2.cell? ⟨w.heap.size, 10, none⟩ = some (.int .i64 c.h.fl) := HX.out.c10
      have x11 : W2.cell? ⟨w.heap.size, 11, none⟩ = some (.slice fa nf fc) := HX.out.c11
      go_upto_region 11 with fail
      go_cut [114] from 102 to 114 (fun cc wx => cc = .bool (decide (2 ≤ c.h.pair ∧ ap = true ∧ c.h.pl = 0)) ∧ Hid (Below W2.heap.size W2 wx))
      case first =>
       by_cases m1 : 2 ≤ c.h.pair
       ·
        have bm1 : decide (2 ≤ c.h.pair) = true := decide_eq_true m1
        have M1 := hid m1
        clear m1
        go_wp2_with fail
        refine (rall_go c.pairs pa np pc _ HPN.out HP.out).mono ?_
        rintro e w2 ⟨rfl, hb⟩
        rw [← HAP.out]
        have hx2 := HX.out.keep hb
        have y6 : w2.cell? ⟨w.heap.size, 6, none⟩ = some (.int .i64 c.h.pair) := hx2.c6
        have y7 : w2.cell? ⟨w.heap.size, 7, none⟩ = some (.int .i64 c.h.pl) := hx2.c7
        have y8 : w2.cell? ⟨w.heap.size, 8, none⟩ = some (.slice pa np pc) := hx2.c8
        have y9 : w2.cell? ⟨w.heap.size, 9, none⟩ = some (.int .i64 c.h.fn) := hx2.c9
        have y10 : w2.cell? ⟨w.heap.size, 10, none⟩ = some (.int .i64 c.h.fl) := hx2.c10
        have y11 : w2.cell? ⟨w.heap.size, 11, none⟩ = some (.slice fa nf fc) := hx2.c11
        have HB2 := hid hb
        clear hb hx2
        cases ap with
        | true =>
         by_cases m2 : c.h.pl = 0
         ·
          have bm2 : decide (c.h.pl = 0) = true := decide_eq_true m2
          have cm2 : (c.h.pl == 0) = true := by simp [m2]
          have em2 : (c.h.pl != 0) = false := by simp [m2]
          have M2 := hid m2
          clear m2
          go_wp2
          go_meet
          case rel => exact ⟨congrArg Value.bool (by simp [M1.out, M2.out]), HB2⟩
         ·
          have bm2 : decide (c.h.pl = 0) = false := decide_eq_false m2
          have cm2 : (c.h.pl == 0) = false := by simp [m2]
          have em2 : (c.h.pl != 0) = true := by simp [m2]
          have M2 := hid m2
          clear m2
          go_wp2
          go_meet
          case rel => exact ⟨congrArg Value.bool (by simp [M2.out]), HB2⟩
        | false =>
         go_wp2
         go_meet
         case rel => exact ⟨congrArg Value.bool (by simp), HB2⟩
       ·
        have bm1 : decide (2 ≤ c.h.pair) = false := decide_eq_false m1
        have M1 := hid m1
        clear m1
        go_wp2
        go_meet
        case rel => exact ⟨congrArg Value.bool (decide_eq_false (p := 2 ≤ c.h.pair ∧ ap = true ∧ c.h.pl = 0) (fun h => by have h1 := M1.out; have h2 := h.1; omega)).symm, hid (Below.refl _ _)⟩
      case rest =>
       obtain ⟨rfl, HB3⟩ := hcut
       obtain ⟨W3, rfl⟩ : ∃ x, x = wc := ⟨_, rfl⟩
       have hB := HB3.out
       replace HX := hid (HX.out.keep hB)
       replace HP := hid (CoSN.below HP.out hB)
       replace HF := hid (CoSN.below HF.out hB)
       replace HL := hid (HL.out.trans (hB.mono HL.out.size))
       clear hB HB3 x6 x7 x8 x9 x10 x11
       by_cases hv3 : 2 ≤ c.h.pair ∧ ap = true ∧ c.h.pl = 0
       ·
        have bv3 : decide (2 ≤ c.h.pair ∧ ap = true ∧ c.h.pl = 0) = true := decide_eq_true hv3
        have e : z = false := by rw [HZ.out, bv3]; simp
        subst e
        rw [bv3]
        clear hv3
        go_wp2
        refine bodyPost_ret (v := .bool false) ?_ ?_ ?_
        ·
         simp [results, Tryd.results43, go_sem]
        ·
         rfl
        ·
         exact ⟨rfl, HL.out⟩
       have bv3 : decide (2 ≤ c.h.pair ∧ ap = true ∧ c.h.pl = 0) = false := decide_eq_false hv3
       have HV3 := hid bv3
       rw [bv3]
       clear hv3 bv3
       have x6 : W3.cell? ⟨w.heap.size, 6, none⟩ = some (.int .i64 c.h.pair) := HX.out.c6
       have x7 : W3.cell? ⟨w.heap.size, 7, none⟩ = some (.int .i64 c.h.pl) := HX.out.c7
       have x8 : W3.cell? ⟨w.heap.size, 8, none⟩ = some (.slice pa np pc) := HX.out.c8
       have x9 : W3.cell? ⟨w.heap.size, 9, none⟩ = some (.int .i64 c.h.fn) := HX.out.c9
       have x10 : W3.cell? ⟨w.heap.size, 10, none⟩ = some (.int .i64 c.h.fl) := HX.out.c10
       have x11 : W3.cell? ⟨w.heap.size, 11, none⟩ = some (.slice fa nf fc) := HX.out.c11
       go_upto_region 13 with fail
       go_cut [154] from 115 to 154 (fun cc wx => cc = .bool (decide (¬ ((c.h.fn ≠ 2 → nf = 0) ∧ (c.h.fn = 2 → 1 ≤ nf ∧ nf ≤ 9 ∧ ¬ af = true) ∧ (c.h.fn = 1 ↔ c.h.fl ≠ 0)))) ∧ Hid (Below W3.heap.size W3 wx))
       case first =>
        by_cases n1 : c.h.fn = 2
        ·
         have bn1 : decide (c.h.fn = 2) = true := decide_eq_true n1
         have cn1 : (c.h.fn == 2) = true := by simp [n1]
         have en1 : (c.h.fn != 2) = false := by simp [n1]
         have N1 := hid n1
         clear n1
         have dn1 : (c.h.fn == 1) = false := by have := N1.out; simp; omega
         by_cases n2 : nf < 1
         ·
          have bn2 : decide ((nf : Int) < 1) = true := decide_eq_true (by omega)
          have in2 : (nf : Int) < 1 := by omega
          have N2 := hid n2
          clear n2
          go_wp2
          go_meet
          case rel => exact ⟨congrArg Value.bool (decide_eq_true (p := ¬ ((c.h.fn ≠ 2 → nf = 0) ∧ (c.h.fn = 2 → 1 ≤ nf ∧ nf ≤ 9 ∧ ¬ af = true) ∧ (c.h.fn = 1 ↔ c.h.fl ≠ 0))) (fun hh => by have h1 := (hh.2.1 N1.out).1; have h2 := N2.out; omega)).symm, hid (Below.refl _ _)⟩
         ·
          have bn2 : decide ((nf : Int) < 1) = false := decide_eq_false (by omega)
          have in2 : ¬ (nf : Int) < 1 := by omega
          by_cases n3 : 9 < nf
          ·
           have bn3 : decide ((9 : Int) < (nf : Int)) = true := decide_eq_true (by omega)
           have in3 : (9 : Int) < (nf : Int) := by omega
           have N3 := hid n3
           clear n2 n3
           go_wp2
           go_meet
           case rel => exact ⟨congrArg Value.bool (decide_eq_true (p := ¬ ((c.h.fn ≠ 2 → nf = 0) ∧ (c.h.fn = 2 → 1 ≤ nf ∧ nf ≤ 9 ∧ ¬ af = true) ∧ (c.h.fn = 1 ↔ c.h.fl ≠ 0))) (fun hh => by have h1 := (hh.2.1 N1.out).2.1; have h2 := N3.out; omega)).symm, hid (Below.refl _ _)⟩
          ·
           have bn3 : decide ((9 : Int) < (nf : Int)) = false := decide_eq_false (by omega)
           have in3 : ¬ (9 : Int) < (nf : Int) := by omega
           have H1 := hid (show 1 ≤ nf by omega)
           have H9 := hid (show nf ≤ 9 by omega)
           clear n2 n3
           go_wp2_with fail
           refine (rall_go c.funs fa nf fc _ HFN.out HF.out).mono ?_
           rintro e w2 ⟨rfl, hb⟩
           rw [← HAF.out]
           have hx2 := HX.out.keep hb
           have y6 : w2.cell? ⟨w.heap.size, 6, none⟩ = some (.int .i64 c.h.pair) := hx2.c6
           have y7 : w2.cell? ⟨w.heap.size, 7, none⟩ = some (.int .i64 c.h.pl) := hx2.c7
           have y8 : w2.cell? ⟨w.heap.size, 8, none⟩ = some (.slice pa np pc) := hx2.c8
           have y9 : w2.cell? ⟨w.heap.size, 9, none⟩ = some (.int .i64 c.h.fn) := hx2.c9
           have y10 : w2.cell? ⟨w.heap.size, 10, none⟩ = some (.int .i64 c.h.fl) := hx2.c10
           have y11 : w2.cell? ⟨w.heap.size, 11, none⟩ = some (.slice fa nf fc) := hx2.c11
           have HB2 := hid hb
           clear hb hx2
           cases af with
           | true =>
            go_wp2
            go_meet
            case rel => exact ⟨congrArg Value.bool (by simp [N1.out]), HB2⟩
           | false =>
            by_cases n4 : c.h.fl = 0
            ·
             have bn4 : decide (c.h.fl = 0) = true := decide_eq_true n4
             have cn4 : (c.h.fl == 0) = true := by simp [n4]
             have en4 : (c.h.fl != 0) = false := by simp [n4]
             have N4 := hid n4
             clear n4
             go_wp2
             go_meet
             case rel => exact ⟨congrArg Value.bool (by simp [N1.out, H1.out, H9.out, N4.out]), HB2⟩
            ·
             have bn4 : decide (c.h.fl = 0) = false := decide_eq_false n4
             have cn4 : (c.h.fl == 0) = false := by simp [n4]
             have en4 : (c.h.fl != 0) = true := by simp [n4]
             have N4 := hid n4
             clear n4
             go_wp2
             go_meet
             case rel => exact ⟨congrArg Value.bool (by simp [N1.out, N4.out]), HB2⟩
        ·
         have bn1 : decide (c.h.fn = 2) = false := decide_eq_false n1
         have cn1 : (c.h.fn == 2) = false := by simp [n1]
         have en1 : (c.h.fn != 2) = true := by simp [n1]
         have N1 := hid n1
         clear n1
         by_cases n2 : nf = 0
         ·
          have bn2 : ((nf : Int) != 0) = false := by simp [n2]
          have cn2 : ((nf : Int) == 0) = true := by simp [n2]
          have N2 := hid n2
          clear n2
          by_cases n3 : c.h.fn = 1
          ·
           have bn3 : decide (c.h.fn = 1) = true := decide_eq_true n3
           have cn3 : (c.h.fn == 1) = true := by simp [n3]
           have en3 : (c.h.fn != 1) = false := by simp [n3]
           have N3 := hid n3
           clear n3
           by_cases n4 : c.h.fl = 0
           ·
            have bn4 : decide (c.h.fl = 0) = true := decide_eq_true n4
            have cn4 : (c.h.fl == 0) = true := by simp [n4]
            have en4 : (c.h.fl != 0) = false := by simp [n4]
            have N4 := hid n4
            clear n4
            go_wp2
            go_meet
            case rel => exact ⟨congrArg Value.bool (decide_eq_true (p := ¬ ((c.h.fn ≠ 2 → nf = 0) ∧ (c.h.fn = 2 → 1 ≤ nf ∧ nf ≤ 9 ∧ ¬ af = true) ∧ (c.h.fn = 1 ↔ c.h.fl ≠ 0))) (fun hh => (hh.2.2.1 N3.out) N4.out)).symm, hid (Below.refl _ _)⟩
           ·
            have bn4 : decide (c.h.fl = 0) = false := decide_eq_false n4
            have cn4 : (c.h.fl == 0) = false := by simp [n4]
            have en4 : (c.h.fl != 0) = true := by simp [n4]
            have N4 := hid n4
            clear n4
            go_wp2
            go_meet
            case rel => exact ⟨congrArg Value.bool (decide_eq_false (p := ¬ ((c.h.fn ≠ 2 → nf = 0) ∧ (c.h.fn = 2 → 1 ≤ nf ∧ nf ≤ 9 ∧ ¬ af = true) ∧ (c.h.fn = 1 ↔ c.h.fl ≠ 0))) (fun hh => hh ⟨fun _ => N2.out, fun h => absurd h N1.out, ⟨fun _ => N4.out, fun _ => N3.out⟩⟩)).symm, hid (Below.refl _ _)⟩
          ·
           have bn3 : decide (c.h.fn = 1) = false := decide_eq_false n3
           have cn3 : (c.h.fn == 1) = false := by simp [n3]
           have en3 : (c.h.fn != 1) = true := by simp [n3]
           have N3 := hid n3
           clear n3
           by_cases n4 : c.h.fl = 0
           ·
            have bn4 : decide (c.h.fl = 0) = true := decide_eq_true n4
            have cn4 : (c.h.fl == 0) = true := by simp [n4]
            have en4 : (c.h.fl != 0) = false := by simp [n4]
            have N4 := hid n4
            clear n4
            go_wp2
            go_meet
            case rel => exact ⟨congrArg Value.bool (decide_eq_false (p := ¬ ((c.h.fn ≠ 2 → nf = 0) ∧ (c.h.fn = 2 → 1 ≤ nf ∧ nf ≤ 9 ∧ ¬ af = true) ∧ (c.h.fn = 1 ↔ c.h.fl ≠ 0))) (fun hh => hh ⟨fun _ => N2.out, fun h => absurd h N1.out, ⟨fun h => absurd h N3.out, fun h => absurd N4.out h⟩⟩)).symm, hid (Below.refl _ _)⟩
           ·
            have bn4 : decide (c.h.fl = 0) = false := decide_eq_false n4
            have cn4 : (c.h.fl == 0) = false := by simp [n4]
            have en4 : (c.h.fl != 0) = true := by simp [n4]
            have N4 := hid n4
            clear n4
            go_wp2
            go_meet
            case rel => exact ⟨congrArg Value.bool (decide_eq_true (p := ¬ ((c.h.fn ≠ 2 → nf = 0) ∧ (c.h.fn = 2 → 1 ≤ nf ∧ nf ≤ 9 ∧ ¬ af = true) ∧ (c.h.fn = 1 ↔ c.h.fl ≠ 0))) (fun hh => N3.out (hh.2.2.2 N4.out))).symm, hid (Below.refl _ _)⟩
         ·
          have bn2 : ((nf : Int) != 0) = true := by rw [bne_iff_ne]; omega
          have cn2 : ((nf : Int) == 0) = false := by simp; omega
          have N2 := hid n2
          clear n2
          go_wp2
          go_meet
          case rel => exact ⟨congrArg Value.bool (decide_eq_true (p := ¬ ((c.h.fn ≠ 2 → nf = 0) ∧ (c.h.fn = 2 → 1 ≤ nf ∧ nf ≤ 9 ∧ ¬ af = true) ∧ (c.h.fn = 1 ↔ c.h.fl ≠ 0))) (fun hh => N2.out (hh.1 N1.out))).symm, hid (Below.refl _ _)⟩
       case rest =>
        obtain ⟨rfl, HB4⟩ := hcut
        obtain ⟨W4, rfl⟩ : ∃ x, x = wc := ⟨_, rfl⟩
        have hB := HB4.out
        replace HX := hid (HX.out.keep hB)
        replace HP := hid (CoSN.below HP.out hB)
        replace HF := hid (CoSN.below HF.out hB)
        replace HL := hid (HL.out.trans (hB.mono HL.out.size))
        clear hB HB4 x6 x7 x8 x9 x10 x11
        by_cases hv4 : ¬ ((c.h.fn ≠ 2 → nf = 0) ∧ (c.h.fn = 2 → 1 ≤ nf ∧ nf ≤ 9 ∧ ¬ af = true) ∧ (c.h.fn = 1 ↔ c.h.fl ≠ 0))
        ·
         have bv4 : decide (¬ ((c.h.fn ≠ 2 → nf = 0) ∧ (c.h.fn = 2 → 1 ≤ nf ∧ nf ≤ 9 ∧ ¬ af = true) ∧ (c.h.fn = 1 ↔ c.h.fl ≠ 0))) = true := decide_eq_true hv4
         have e : z = false := by rw [HZ.out, bv4]; simp
         subst e
         rw [bv4]
         clear hv4
         go_wp2
         refine bodyPost_ret (v := .bool false) ?_ ?_ ?_
         ·
          simp [results, Tryd.results43, go_sem]
         ·
          rfl
         ·
          exact ⟨rfl, HL.out⟩
        have bv4 : decide (¬ ((c.h.fn ≠ 2 → nf = 0) ∧ (c.h.fn = 2 → 1 ≤ nf ∧ nf ≤ 9 ∧ ¬ af = true) ∧ (c.h.fn = 1 ↔ c.h.fl ≠ 0))) = false := decide_eq_false hv4
        have HHD := hid (show (!decide (¬ ((0 ≤ c.h.pair ∧ c.h.pair ≤ 3) ∧ (0 ≤ c.h.fn ∧ c.h.fn ≤ 3) ∧ (0 ≤ c.h.pl ∧ c.h.pl ≤ 99) ∧ (0 ≤ c.h.fl ∧ c.h.fl ≤ 99))) && ((c.h.flat.all fun x => decide (0 ≤ x ∧ x ≤ 99)) && (!decide (¬ ((np : Int) = wantC c.h.pair ∧ (c.h.pair = 1 → c.h.pl ≠ 0) ∧ (c.h.pair = 0 ∨ c.h.pair = 2 → c.h.pl = 0))) && (!decide (2 ≤ c.h.pair ∧ ap = true ∧ c.h.pl = 0) && !decide (¬ ((c.h.fn ≠ 2 → nf = 0) ∧ (c.h.fn = 2 → 1 ≤ nf ∧ nf ≤ 9 ∧ ¬ af = true) ∧ (c.h.fn = 1 ↔ c.h.fl ≠ 0))))))) = true by rw [HV1.out, HFL.out, HV2.out, HV3.out, bv4]; rfl)
        rw [bv4]
        clear hv4 bv4 HV1 HFL HV2 HV3
        have x6 : W4.cell? ⟨w.heap.size, 6, none⟩ = some (.int .i64 c.h.pair) := HX.out.c6
        have x7 : W4.cell? ⟨w.heap.size, 7, none⟩ = some (.int .i64 c.h.pl) := HX.out.c7
        have x8 : W4.cell? ⟨w.heap.size, 8, none⟩ = some (.slice pa np pc) := HX.out.c8
        have x9 : W4.cell? ⟨w.heap.size, 9, none⟩ = some (.int .i64 c.h.fn) := HX.out.c9
        have x10 : W4.cell? ⟨w.heap.size, 10, none⟩ = some (.int .i64 c.h.fl) := HX.out.c10
        have x11 : W4.cell? ⟨w.heap.size, 11, none⟩ = some (.slice fa nf fc) := HX.out.c11
        go_wp2
        go_loopw [7] (fun iv wr => AlRel (deepC n) np W4 c.pairs iv wr) (fun iv _ => np - (intOf iv).toNat)
        case atStart => exact ⟨0, Nat.zero_le _, rfl, hid (Below.refl _ _), hid fun j h => absurd h (Nat.not_lt_zero _)⟩
        case round =>
         clear x8 x11
         obtain ⟨i, hi1, rfl, HB, HQ⟩ := hrel
         have x8 : wr.cell? ⟨w.heap.size, 8, none⟩ = some (.slice pa np pc) := (HX.out.keep HB.out).c8
         have x11 : wr.cell? ⟨w.heap.size, 11, none⟩ = some (.slice fa nf fc) := (HX.out.keep HB.out).c11
         by_cases hlt : i < np
         ·
          have hi0 : (0 : Int) ≤ (i : Int) := Int.natCast_nonneg _
          have hi2 : (i : Int) < (np : Int) := by omega
          have hil : i < c.pairs.length := by rw [← HPN.out]; exact hlt
          obtain ⟨d, hd⟩ : ∃ d, c.pairs.getD i co0 = d := ⟨_, rfl⟩
          obtain ⟨b, off, p1, c1, p2, c2, rfl, hb, ⟨e0, e1, e2, e3, e4, e5, e6, e7, e8, e9, e10, e11⟩, hv⟩ := CoSN.elem (CoSN.below HP.out HB.out) hil hd
          have HDD := hid hd
          have HV := hid hv
          clear hd hv hb
          go_wp2_with fail
          refine (IH.out _ d _ wr (by omega) HV.out).mono ?_
          rintro e w2 ⟨rfl, hb⟩
          have HB2 := hid (HB.out.trans (hb.mono HB.out.size))
          obtain ⟨y, hy⟩ : ∃ y, y = deepC n d := ⟨_, rfl⟩
          rw [← hy]
          have HY := hid hy
          clear hb hy e0 e1 e2 e3 e4 e5 e6 e7 e8 e9 e10 e11
          cases y with
          | false =>
           have HBAD := hid (all_noC (p := deepC n) hil (by rw [HDD.out]; exact HY.out.symm))
           have e : z = false := by rw [HZ.out, HBAD.out]; simp
           subst e
           go_wp2
           refine bodyPost_ret (v := .bool false) ?_ ?_ ?_
           ·
            simp [results, Tryd.results43, go_sem]
           ·
            rfl
           ·
            exact ⟨rfl, HL.out.trans (HB2.out.mono HL.out.size)⟩
          | true =>
           go_wp2
           refine ⟨⟨i + 1, hlt, by go_num, HB2, hid fun j hj => ?_⟩, by simp [intOf]; omega⟩
           by_cases e : j = i
           ·
            rw [e, HDD.out]; exact HY.out.symm
           ·
            exact HQ.out j (by omega)
         ·
          have hin : i = np := by omega
          have HALL := hid (all_getC (p := deepC n) (l := c.pairs) fun j hj => HQ.out j (by rw [hin, HPN.out]; exact hj))
          clear hin
          obtain ⟨W2, rfl⟩ : ∃ x, x = wr := ⟨_, rfl⟩
          have HALL1 := HALL
          have hB := HB.out
          replace HX := hid (HX.out.keep hB)
          replace HP := hid (CoSN.below HP.out hB)
          replace HF := hid (CoSN.below HF.out hB)
          replace HL := hid (HL.out.trans (hB.mono HL.out.size))
          clear HB HQ HALL hB
          go_wp2
          go_loopw [8] (fun iv wr => AlRel (deepC n) nf W2 c.funs iv wr) (fun iv _ => nf - (intOf iv).toNat)
          case atStart => exact ⟨0, Nat.zero_le _, rfl, hid (Below.refl _ _), hid fun j h => absurd h (Nat.not_lt_zero _)⟩
          case round =>
           clear x8 x11
           obtain ⟨i, hi1, rfl, HB, HQ⟩ := hrel
           have x8 : wr.cell? ⟨w.heap.size, 8, none⟩ = some (.slice pa np pc) := (HX.out.keep HB.out).c8
           have x11 : wr.cell? ⟨w.heap.size, 11, none⟩ = some (.slice fa nf fc) := (HX.out.keep HB.out).c11
           by_cases hlt : i < nf
           ·
            have hi0 : (0 : Int) ≤ (i : Int) := Int.natCast_nonneg _
            have hi2 : (i : Int) < (nf : Int) := by omega
            have hil : i < c.funs.length := by rw [← HFN.out]; exact hlt
            obtain ⟨d, hd⟩ : ∃ d, c.funs.getD i co0 = d := ⟨_, rfl⟩
            obtain ⟨b, off, p1, c1, p2, c2, rfl, hb, ⟨e0, e1, e2, e3, e4, e5, e6, e7, e8, e9, e10, e11⟩, hv⟩ := CoSN.elem (CoSN.below HF.out HB.out) hil hd
            have HDD := hid hd
            have HV := hid hv
            clear hd hv hb
            go_wp2_with fail
            refine (IH.out _ d _ wr (by omega) HV.out).mono ?_
            rintro e w2 ⟨rfl, hb⟩
            have HB2 := hid (HB.out.trans (hb.mono HB.out.size))
            obtain ⟨y, hy⟩ : ∃ y, y = deepC n d := ⟨_, rfl⟩
            rw [← hy]
            have HY := hid hy
            clear hb hy e0 e1 e2 e3 e4 e5 e6 e7 e8 e9 e10 e11
            cases y with
            | false =>
             have HBAD := hid (all_noC (p := deepC n) hil (by rw [HDD.out]; exact HY.out.symm))
             have e : z = false := by rw [HZ.out, HBAD.out]; simp
             subst e
             go_wp2
             refine bodyPost_ret (v := .bool false) ?_ ?_ ?_
             ·
              simp [results, Tryd.results43, go_sem]
             ·
              rfl
             ·
              exact ⟨rfl, HL.out.trans (HB2.out.mono HL.out.size)⟩
            | true =>
             go_wp2
             refine ⟨⟨i + 1, hlt, by go_num, HB2, hid fun j hj => ?_⟩, by simp [intOf]; omega⟩
             by_cases e : j = i
             ·
              rw [e, HDD.out]; exact HY.out.symm
             ·
              exact HQ.out j (by omega)
           ·
            have hin : i = nf := by omega
            have HALL := hid (all_getC (p := deepC n) (l := c.funs) fun j hj => HQ.out j (by rw [hin, HFN.out]; exact hj))
            clear hin
            have e : z = true := by rw [HZ.out, HHD.out, HALL1.out, HALL.out]; rfl
            subst e
            go_wp2
            refine bodyPost_ret (v := .bool true) ?_ ?_ ?_
            ·
             simp [results, Tryd.results43, go_sem]
            ·
             rfl
            ·
             exact ⟨rfl, HL.out.trans (HB.out.mono HL.out.size)⟩

set_option maxRecDepth 100000 in
set_option maxHeartbeats 4000000 in
theorem rightc_go (c : Co) (v : Value) (w : World) (hv : CoV w v c) : Calls Tryd.prog 11 #[v] w fun e w' => e = .returned (.bool (rightC c)) ∧ Below w.heap.size w w' := by
 have HC := hid (fun w' h => deepc_go 25 (by omega) 25 c v w' rfl h)
 have HV := hid hv
 obtain ⟨pa, pc, fa, fc, rfl, _, _⟩ := hv.form
 clear hv
 go_enter Tryd.func11, Tryd.ntmps11
 go_wp2_with fail
 refine (HC.out _ (HV.out.below ((Below.refl _ _).alloc (Nat.le_refl _) _))).mono ?_
 rintro e w' ⟨rfl, hb⟩
 go_wp2
 go_ret
 exact ⟨rfl, ((Below.refl _ _).alloc (Nat.le_refl _) _).trans (hb.mono (by simp))⟩
end Go.Proofs.YtlalnkabfigodaaDoor

import Derived.Test.YtgjkobkcmgliaaaNwT
namespace Go.Proofs.Ytgjkobkcmgliaaa
open Go.RowKit

set_option maxRecDepth 100000 in
set_option maxHeartbeats 16000000 in
theorem fconcat1_go (q : Nat) (Bn : Nat) (a : Option Addr) (n c : Nat) (l : List (Int × Int)) (w : World) (hq : q < w.heap.size) (hn : n = l.length) (hmn : n ≤ 20000) (hfn : FaB Bn w (.slice a n c) l) (hc0 : w.cell? ⟨q, 0, none⟩ = some (.slice a n c)) :
    Calls Try.prog 64 #[.slice (some ⟨q, 0, none⟩) 1 1] w fun e w' => (∃ v, e = .returned v ∧ w'.ownsRow w.heap.size 61 2 v (n) (fasCells (l))) ∧ Below w.heap.size w w' := by
  obtain ⟨i0, hi, hz0, hz1, hz2⟩ := info_parts Try.infoFa
  have HSn := Lib.hid (hfn.src hn)
  have HLn := Lib.hid (show (fasCells l).length = n * 2 by rw [fasCells_len, hn])
  have HC0 := Lib.hid hc0
  have bn : (n : Int) ≤ 20000 := by omega
  have pn : (0 : Int) ≤ n := by omega
  have dn : decide ((n : Int) < 0) = false := decide_eq_false (by omega)
  have HM := Lib.hid (show n ≤ 40000 by omega)
  have CG := fgrow_go (n) w (by omega)
  have HCG := Lib.hid CG
  have HQ := Lib.hid hq
  clear CG hn hmn hfn
  go_enter Try.func64, Try.ntmps64
  go_wp2
  refine wp_loop_rounds 2 ?_
  rw [rounds_succ]
  go_wp2
  rw [rounds_succ]
  go_wp2_with fail
  refine HCG.out.mono ?_
  rintro e w2 ⟨⟨v0, rfl, hown⟩, hb2⟩
  have HB2 := Lib.hid hb2
  have HOW := Lib.hid hown
  have e0 := (hb2.cell (p := ⟨q, 0, none⟩) HQ.out).trans HC0.out
  clear hc0 hown hb2
  go_wp2
  refine wp_loop_rounds 2 ?_
  rw [rounds_succ]
  go_wp2_with (at_builtin; refine wpl_append_gen _ rfl _ _ 28 rfl w.heap.size 61 i0 (.agg #[.int .i64 0, .int .i64 0]) 2 16 Try.underlying28 hi hz0 hz1 hz2 rfl (by decide) v0 (0) [] rfl HOW.out a n c (fasCells l) rfl HLn.out (HSn.out _ HB2.out) (fasCells_one l) (by have := HM.out; unfold maxLen; omega) (by have := HM.out; omega) HB2.out.size ?_)
  intro v1 w3 hown0 hgrow0
  have hbw3 : Below w.heap.size w w3 := HB2.out.grown hgrow0 HB2.out.size fun k hk => (HOW.out.lt k hk).1
  have HBw3 := Lib.hid hbw3
  have HOw3 := Lib.hid (show w3.ownsRow w.heap.size 61 2 v1 (n) (fasCells l) by simpa using hown0)
  clear hown0 hgrow0 hbw3 e0
  go_wp2
  rw [rounds_succ]
  go_wp2
  go_ret
  refine ⟨⟨_, rfl, ?_⟩, HBw3.out⟩
  have h := HOw3.out
  simpa [fasCells_app] using h

set_option maxRecDepth 100000 in
set_option maxHeartbeats 16000000 in
theorem fconcat2_go (q : Nat) (Bn : Nat) (a : Option Addr) (n c : Nat) (l : List (Int × Int)) (Bm : Nat) (b : Option Addr) (m d : Nat) (k : List (Int × Int)) (w : World) (hq : q < w.heap.size) (hn : n = l.length) (hmn : n ≤ 20000) (hfn : FaB Bn w (.slice a n c) l) (hc0 : w.cell? ⟨q, 0, none⟩ = some (.slice a n c)) (hm : m = k.length) (hmm : m ≤ 20000) (hfm : FaB Bm w (.slice b m d) k) (hc1 : w.cell? ⟨q, 1, none⟩ = some (.slice b m d)) :
    Calls Try.prog 64 #[.slice (some ⟨q, 0, none⟩) 2 2] w fun e w' => (∃ v, e = .returned v ∧ w'.ownsRow w.heap.size 61 2 v (n + m) (fasCells (l ++ k))) ∧ Below w.heap.size w w' := by
  obtain ⟨i0, hi, hz0, hz1, hz2⟩ := info_parts Try.infoFa
  have HSn := Lib.hid (hfn.src hn)
  have HLn := Lib.hid (show (fasCells l).length = n * 2 by rw [fasCells_len, hn])
  have HC0 := Lib.hid hc0
  have bn : (n : Int) ≤ 20000 := by omega
  have pn : (0 : Int) ≤ n := by omega
  have dn : decide ((n : Int) < 0) = false := decide_eq_false (by omega)
  have HSm := Lib.hid (hfm.src hm)
  have HLm := Lib.hid (show (fasCells k).length = m * 2 by rw [fasCells_len, hm])
  have HC1 := Lib.hid hc1
  have bm : (m : Int) ≤ 20000 := by omega
  have pm : (0 : Int) ≤ m := by omega
  have dm : decide ((m : Int) < 0) = false := decide_eq_false (by omega)
  have dnm : decide ((n : Int) + (m : Int) < 0) = false := decide_eq_false (by omega)
  have HM := Lib.hid (show n + m ≤ 40000 by omega)
  have CG := fgrow_go (n + m) w (by omega)
  rw [show ((n + m : Nat) : Int) = (n : Int) + (m : Int) by omega] at CG
  have HCG := Lib.hid CG
  have HQ := Lib.hid hq
  clear CG hn hmn hfn hm hmm hfm
  go_enter Try.func64, Try.ntmps64
  go_wp2
  refine wp_loop_rounds 3 ?_
  rw [rounds_succ]
  go_wp2
  rw [rounds_succ]
  go_wp2
  rw [rounds_succ]
  go_wp2_with fail
  refine HCG.out.mono ?_
  rintro e w2 ⟨⟨v0, rfl, hown⟩, hb2⟩
  have HB2 := Lib.hid hb2
  have HOW := Lib.hid hown
  have e0 := (hb2.cell (p := ⟨q, 0, none⟩) HQ.out).trans HC0.out
  have e1 := (hb2.cell (p := ⟨q, 1, none⟩) HQ.out).trans HC1.out
  clear hc0 hc1 hown hb2
  go_wp2
  refine wp_loop_rounds 3 ?_
  rw [rounds_succ]
  go_wp2_with (at_builtin; refine wpl_append_gen _ rfl _ _ 28 rfl w.heap.size 61 i0 (.agg #[.int .i64 0, .int .i64 0]) 2 16 Try.underlying28 hi hz0 hz1 hz2 rfl (by decide) v0 (0) [] rfl HOW.out a n c (fasCells l) rfl HLn.out (HSn.out _ HB2.out) (fasCells_one l) (by have := HM.out; unfold maxLen; omega) (by have := HM.out; omega) HB2.out.size ?_)
  intro v1 w3 hown0 hgrow0
  have hbw3 : Below w.heap.size w w3 := HB2.out.grown hgrow0 HB2.out.size fun k hk => (HOW.out.lt k hk).1
  have HBw3 := Lib.hid hbw3
  have HOw3 := Lib.hid (show w3.ownsRow w.heap.size 61 2 v1 (n) (fasCells l) by simpa using hown0)
  have e1 := (hbw3.cell (p := ⟨q, 1, none⟩) HQ.out).trans HC1.out
  clear hown0 hgrow0 hbw3 e0
  go_wp2
  rw [rounds_succ]
  go_wp2_with (at_builtin; refine wpl_append_gen _ rfl _ _ 28 rfl w.heap.size 61 i0 (.agg #[.int .i64 0, .int .i64 0]) 2 16 Try.underlying28 hi hz0 hz1 hz2 rfl (by decide) v1 (n) (fasCells l) rfl HOw3.out b m d (fasCells k) rfl HLm.out (HSm.out _ HBw3.out) (fasCells_one k) (by have := HM.out; unfold maxLen; omega) (by have := HM.out; omega) HBw3.out.size ?_)
  intro v2 w4 hown1 hgrow1
  have hbw4 : Below w.heap.size w w4 := HBw3.out.grown hgrow1 HBw3.out.size fun k hk => (HOw3.out.lt k hk).1
  have HBw4 := Lib.hid hbw4
  have HOw4 := Lib.hid (show w4.ownsRow w.heap.size 61 2 v2 (n + m) ((fasCells l) ++ fasCells k) by exact hown1)
  clear hown1 hgrow1 hbw4 e1
  go_wp2
  rw [rounds_succ]
  go_wp2
  go_ret
  refine ⟨⟨_, rfl, ?_⟩, HBw4.out⟩
  have h := HOw4.out
  simpa [fasCells_app] using h
end Go.Proofs.Ytgjkobkcmgliaaa

import Derived.Test.YtgjkobkcmgliaaaNwV
namespace Go.Proofs.Ytgjkobkcmgliaaa
open Go.RowKit

theorem dropF_take (l : List (Int × Int)) (j : Nat) (h : j < l.length) : dropF (l.take (j + 1)) = if (l.getD j fa0).2 = 255 then dropF (l.take j) else dropF (l.take j) ++ [l.getD j fa0] := by
  have e0 : l.getD j fa0 = l[j] := by simp [List.getD_eq_getElem?_getD, h]
  unfold dropF
  rw [List.take_succ_eq_append_getElem h, List.filter_append, e0]
  by_cases hv : l[j].2 = 255 <;> simp [hv]
theorem dropF_all {l : List (Int × Int)} (h : ∀ j, j < l.length → (l.getD j fa0).2 ≠ 255) : dropF l = l := by
  unfold dropF
  refine List.filter_eq_self.2 fun f hf => ?_
  obtain ⟨j, hj, rfl⟩ := List.getElem_of_mem hf
  have := h j hj
  rw [List.getD_eq_getElem?_getD, List.getElem?_eq_getElem hj] at this
  simpa using this
/-- the row while it is gone through -/
def DelRel (B g cap n : Nat) (l : List (Int × Int)) (w : World) (iv jv : Value) (wr : World) : Prop :=
  ∃ (i j : Nat) (L : List (Int × Int)), i < j ∧ j ≤ n ∧ iv = .int .i64 i ∧ jv = .int .i64 j ∧ Hid (L.length = n) ∧ Hid (wr.ownsRow B 61 2 (.slice (some ⟨g, 0, none⟩) n cap) n (fasCells L)) ∧
    Hid (L.take i = dropF (l.take j)) ∧ Hid (∀ k, j ≤ k → k < n → L.getD k fa0 = l.getD k fa0) ∧ Hid (But g w wr)
theorem getD_set {L : List (Int × Int)} {i k : Nat} (f : Int × Int) (h : i ≠ k) : (L.set i f).getD k fa0 = L.getD k fa0 := by
  simp [List.getD_eq_getElem?_getD, h]
theorem del_keep {B g cap n i j : Nat} {l L : List (Int × Int)} {w wr w1 : World} {iv jv : Value} {x y : Int} (hij : i < j) (hj : j < n) (hn : n = l.length) (hL : L.length = n) (ho : wr.ownsRow B 61 2 (.slice (some ⟨g, 0, none⟩) n cap) n (fasCells L)) (ht : L.take i = dropF (l.take j))
    (hk : ∀ k, j ≤ k → k < n → L.getD k fa0 = l.getD k fa0) (hB : But g w wr) (hb1 : Below wr.heap.size wr w1) (hx : l.getD j fa0 = (x, y)) (hy : y ≠ 255) (hiv : iv = .int .i64 ((i + 1 : Nat) : Int)) (hjv : jv = .int .i64 ((j + 1 : Nat) : Int)) :
    DelRel B g cap n l w iv jv ((w1.setCell ⟨g, i * 2, none⟩ (.int .i64 x)).setCell ⟨g, i * 2 + 1, none⟩ (.int .i64 y)) := by
  refine ⟨i + 1, j + 1, L.set i (x, y), by omega, by omega, hiv, hjv, Lib.hid (by simpa using hL), Lib.hid ?_, Lib.hid ?_, Lib.hid ?_, Lib.hid ?_⟩
  · exact own_set2 hL (by omega) (own_block ho fun g' hg' => by cases hg'; exact hb1.block _ (own_some_lt ho).2) x y
  · rw [dropF_take l j (by omega), hx, if_neg hy, ← ht, List.set_eq_take_append_cons_drop, if_pos (by omega), List.take_append, List.length_take, Nat.min_eq_left (by omega), Nat.add_sub_cancel_left, List.take_of_length_le (by simp; omega)]
    rfl
  · intro k h1 h2
    rw [getD_set _ (by omega)]
    exact hk k (by omega) h2
  · exact ((hB.then hb1).set _ _).set _ _
theorem del_skip {B g cap n i j : Nat} {l L : List (Int × Int)} {w wr w1 : World} {iv jv : Value} {x y : Int} (hij : i < j) (hj : j < n) (hn : n = l.length) (hL : L.length = n) (ho : wr.ownsRow B 61 2 (.slice (some ⟨g, 0, none⟩) n cap) n (fasCells L)) (ht : L.take i = dropF (l.take j))
    (hk : ∀ k, j ≤ k → k < n → L.getD k fa0 = l.getD k fa0) (hB : But g w wr) (hb1 : Below wr.heap.size wr w1) (hx : l.getD j fa0 = (x, y)) (hy : y = 255) (hiv : iv = .int .i64 (i : Int)) (hjv : jv = .int .i64 ((j + 1 : Nat) : Int)) :
    DelRel B g cap n l w iv jv w1 := by
  refine ⟨i, j + 1, L, by omega, by omega, hiv, hjv, Lib.hid hL, Lib.hid ?_, Lib.hid ?_, Lib.hid fun k h1 h2 => hk k (by omega) h2, Lib.hid (hB.then hb1)⟩
  · exact own_block ho fun g' hg' => by cases hg'; exact hb1.block _ (own_some_lt ho).2
  · rw [dropF_take l j (by omega), hx, if_pos hy, ← ht]
theorem own_pop2 {w : World} {B e sz g cap n : Nat} {xs ys : List Value} (h : w.ownsRow B e sz (.slice (some ⟨g, 0, none⟩) n cap) n (xs ++ ys)) (k : Nat) (hk : k ≤ n) (hx : xs.length = k * sz) : w.ownsRow B e sz (.slice (some ⟨g, 0, none⟩) k cap) k xs := by
  rcases h.2 with ⟨h, _⟩ | ⟨g', cap', cur, hv, hb, hg, hnc, hcm, hcs, ht⟩
  · cases h
  · cases hv
    refine ⟨hx, .inr ⟨g, cap, cur, rfl, hb, hg, by omega, hcm, hcs, ?_⟩⟩
    have e : cur.toList.take (k * sz) = (cur.toList.take (n * sz)).take (k * sz) := by
      rw [List.take_take, Nat.min_eq_left (Nat.mul_le_mul_right _ hk)]
    rw [e, ht, ← hx, List.take_left]
theorem del_kept {B g cap n i j : Nat} {l L : List (Int × Int)} {wr : World} (hj : j = n) (hi : i < n) (hn : n = l.length) (hL : L.length = n) (ho : wr.ownsRow B 61 2 (.slice (some ⟨g, 0, none⟩) n cap) n (fasCells L)) (ht : L.take i = dropF (l.take j)) :
    i = (dropF l).length ∧ wr.ownsRow B 61 2 (.slice (some ⟨g, 0, none⟩) i cap) i (fasCells (dropF l)) := by
  rw [hj, hn, List.take_length] at ht
  have hl : (dropF l).length = i := by rw [← ht, List.length_take]; omega
  refine ⟨hl.symm, own_pop2 (n := n) (ys := fasCells (L.drop i)) ?_ i (by omega) (by rw [fasCells_len, hl])⟩
  rw [← ht, ← fasCells_app, List.take_append_drop]
  exact ho
/-- what is left of a row of the call's own -/
def DelPost (B : Nat) (l : List (Int × Int)) (w : World) (e : Ending) (w' : World) : Prop := (∃ v, e = .returned v ∧ FaB B w' v (dropF l)) ∧ Below B w w'

set_option maxRecDepth 100000 in
set_option maxHeartbeats 16000000 in
theorem fdel_some (B g cap n : Nat) (l : List (Int × Int)) (w : World) (hn : n = l.length) (hm : n ≤ 100000) (hBw : B ≤ w.heap.size) (ho : w.ownsRow B 61 2 (.slice (some ⟨g, 0, none⟩) n cap) n (fasCells l)) :
    Calls Try.prog 68 #[.slice (some ⟨g, 0, none⟩) n cap, .func (.func 69) #[] #[]] w (DelPost B l w) := by
  have hfa : FaB B w (.slice (some ⟨g, 0, none⟩) n cap) l := FaB.of_own (e := 61) (by rw [← hn]; exact ho) (by rw [← hn]; unfold maxLen; omega)
  have hgl := own_some_lt ho
  have hcap := own_cap ho
  have HIX := Lib.hid (findex_go B n cap _ l w hn hm hfa)
  have HN := Lib.hid hn
  have HO := Lib.hid ho
  have HFA := Lib.hid hfa
  have hg2 := hgl.2
  have HGL := Lib.hid hgl
  have HBW := Lib.hid hBw
  have hc1 : (n : Int) ≤ (cap : Int) := by omega
  have HCAP := Lib.hid hcap
  clear hn ho hfa hgl hBw hcap
  go_enter Try.func68, Try.ntmps68
  go_wp2_with fail
  refine HIX.out.mono ?_
  rintro e w1 ⟨⟨r, rfl, hr⟩, hb1⟩
  have HB1 := Lib.hid hb1
  have hg3 : g < w1.heap.size := Nat.lt_of_lt_of_le hg2 hb1.size
  rcases hr with ⟨rfl, hall⟩ | ⟨i0, hi0, rfl, hy0, hall⟩
  · have HD := Lib.hid (show FaB B w1 (.slice (some ⟨g, 0, none⟩) n cap) (dropF l) by rw [dropF_all (by rw [← HN.out]; exact hall)]; exact HFA.out.below hb1)
    clear hall hb1
    go_wp2
    go_ret
    exact ⟨⟨_, rfl, HD.out⟩, HB1.out.mono HBW.out⟩
  · have HST := Lib.hid (show DelRel B g cap n l w (.int .i64 (i0 : Int)) (.int .i64 ((i0 : Int) + 1)) w1 from
      ⟨i0, i0 + 1, l, by omega, by omega, rfl, by go_num, Lib.hid HN.out.symm, Lib.hid (own_block HO.out fun g' hg' => by cases hg'; exact hb1.block _ hg2), Lib.hid (by
        have hi1 : i0 < l.length := by rw [← HN.out]; exact hi0
        rw [dropF_take l i0 hi1, if_pos hy0, dropF_all fun j hj => ?_]
        have hj2 : j < i0 := by simp at hj; omega
        have := hall j hj2
        rw [List.getD_eq_getElem?_getD, List.getElem?_take_of_lt hj2]
        rwa [List.getD_eq_getElem?_getD] at this), Lib.hid (fun _ _ _ => rfl), Lib.hid ((But.refl g w).then hb1)⟩)
    have hne : ((i0 : Int) == -1) = false := by rw [beq_eq_false_iff_ne]; omega
    have b0 : (i0 : Int) < (n : Int) := by omega
    have bn : (n : Int) ≤ 100000 := by omega
    have HHM := Lib.hid hm
    clear hall hb1 hy0 hi0 HIX
    go_wp2
    go_loopw [5, 6] (fun iv jv wr => DelRel B g cap n l w iv jv wr) (fun _ jv _ => n - (intOf jv).toNat)
    case atStart => exact HST.out
    case round =>
      obtain ⟨i, j, L, hij, hjn, rfl, rfl, HLL, HOW, HTK, HKK, HBU⟩ := hrel
      have hgw : g < wr.heap.size := (own_some_lt HOW.out).2
      have k0 : (0 : Int) ≤ (i : Int) := Int.natCast_nonneg _
      have k1 : (0 : Int) ≤ (j : Int) := Int.natCast_nonneg _
      have k2 : (i : Int) < (j : Int) := by omega
      by_cases hlt : j < n
      · have hjl : j < L.length := by rw [HLL.out]; exact hlt
        have hil : i < L.length := by omega
        obtain ⟨x, hx⟩ : ∃ x, x = (L.getD j fa0).1 := ⟨_, rfl⟩
        obtain ⟨y, hy⟩ : ∃ y, y = (L.getD j fa0).2 := ⟨_, rfl⟩
        have HXY := Lib.hid (show l.getD j fa0 = (x, y) by rw [← HKK.out j (Nat.le_refl _) hlt, hx, hy])
        obtain ⟨c0, c1, cf⟩ := own_cells hjl HOW.out
        rw [← hx] at c0
        rw [← hy] at c1
        have k3 : (j : Int) < (n : Int) := by omega
        have k4 : (i : Int) < (n : Int) := by omega
        obtain ⟨W, hW⟩ : ∃ W, W = wr.alloc (.cells #[.int .i64 x, .int .i64 y] 61) := ⟨_, rfl⟩
        have hbW : Below wr.heap.size wr W := by rw [hW]; exact (Below.refl _ _).alloc (Nat.le_refl _) _
        have hbx : Bx W wr.heap.size 61 #[.int .i64 x, .int .i64 y] := by rw [hW]; exact Bx.made _ _ _
        have HE := Lib.hid (empty_go x y W)
        have HBX := Lib.hid hbx
        have HBWW := Lib.hid hbW
        have HW := Lib.hid hW
        clear hx hy hbW hbx hW cf
        by_cases h255 : y = 255
        · have hc := HE.out
          rw [show decide (y = 255) = true by simp [h255]] at hc
          have HC := Lib.hid hc
          have H5 := Lib.hid h255
          clear hc h255 hjl hil
          go_wp2_with fail
          rw [← HW.out]
          refine HC.out.mono ?_
          rintro e w2 ⟨rfl, hb2⟩
          have HB2 := Lib.hid (HBWW.out.trans (hb2.mono HBWW.out.size))
          clear hb2
          go_wp2
          exact ⟨del_skip hij hlt HN.out HLL.out HOW.out HTK.out HKK.out HBU.out HB2.out HXY.out H5.out rfl (by go_num), by simp [intOf]; omega⟩
        · have hc := HE.out
          rw [show decide (y = 255) = false by simp [h255]] at hc
          have HC := Lib.hid hc
          have H5 := Lib.hid h255
          have HIL := Lib.hid hil
          clear hc h255 hjl hil
          go_wp2_with fail
          rw [← HW.out]
          refine HC.out.mono ?_
          rintro e w2 ⟨rfl, hb2⟩
          have HB2 := Lib.hid (HBWW.out.trans (hb2.mono HBWW.out.size))
          have hbx2 := HBX.out.keep hb2
          have x0 := hbx2.c0
          have x1 := hbx2.c1
          have how2 := own_block HOW.out (w' := w2) fun g' hg' => by cases hg'; exact HB2.out.block _ hgw
          obtain ⟨s0, s1, sf⟩ := own_cells HIL.out how2
          have f0 := sf (i * 2)
          have f1 := sf (i * 2 + 1)
          have hne2 : g ≠ wr.heap.size := by omega
          clear hb2 hbx2 how2 sf
          go_wp2
          exact ⟨del_keep hij hlt HN.out HLL.out HOW.out HTK.out HKK.out HBU.out HB2.out HXY.out H5.out (by go_num) (by go_num), by simp [intOf]; omega⟩
      · have hjn2 : j = n := by omega
        have hin : i < n := by omega
        have hcap := HCAP.out
        have HKEEP := Lib.hid (del_kept hjn2 hin HN.out HLL.out HOW.out HTK.out)
        have hcl : ∀ ty, (Builtin.clear_ #[28] ty #[.slice (some ⟨g, i * 2, none⟩) (n - i) (cap - i)]).run Try.prog wr = .ok (.tuple #[]) (wr.setCells g (i * 2) (Builtin.zeroCells (Value.agg #[.int .i64 0, .int .i64 0]).cells (n - i)).toList) :=
          fun ty => run_clear2 wr _ _ ty _ Try.underlying28 Try.zeroValue61 rfl (by simp [Value.cells, Value.oneCell']) g (i * 2) (n - i) _ (by omega) (fun q hq => by
              obtain ⟨s0, s1, _⟩ := own_cells (j := (i * 2 + q) / 2) (by rw [HLL.out]; omega) HOW.out
              rcases (by omega : i * 2 + q = (i * 2 + q) / 2 * 2 ∨ i * 2 + q = (i * 2 + q) / 2 * 2 + 1) with e | e
              · rw [e, s0]; rfl
              · rw [e, s1]; rfl) (fun q _ => (own_cells (j := 0) (by rw [HLL.out]; omega) HOW.out).2.2 _)
        obtain ⟨zs, hzs⟩ : ∃ zs, zs = (Builtin.zeroCells (Value.agg #[.int .i64 0, .int .i64 0]).cells (n - i)).toList := ⟨_, rfl⟩
        rw [← hzs] at hcl
        have HFIN := Lib.hid (show FaB B (wr.setCells g (i * 2) zs) (.slice (some ⟨g, 0, none⟩) i cap) (dropF l) from FaB.of_own (e := 61) (by have h := own_pasts zs (i * 2) wr HKEEP.out.2 (Nat.le_refl _); rw [← HKEEP.out.1]; exact h) (by rw [← HKEEP.out.1]; have := HHM.out; unfold maxLen; omega))
        have HBF := Lib.hid (show Below B w (wr.setCells g (i * 2) zs) from (but_sets zs (i * 2) wr HBU.out).below HGL.out.1 HBW.out)
        have k5 : ¬ cap = i := by omega
        have k6 : (i : Int) ≤ (n : Int) := by omega
        have k7 : (i : Int) ≤ (cap : Int) := by omega
        have k8 : ¬ ((j : Int) < (n : Int)) := by omega
        clear hzs hjn2
        go_wp2
        go_ret
        exact ⟨⟨_, rfl, HFIN.out⟩, HBF.out⟩
end Go.Proofs.Ytgjkobkcmgliaaa

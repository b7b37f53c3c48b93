import Derived.Test.YtgjkobkcmgliaaaNwW
import Derived.Test.YtgjkobkcmgliaaaNwS
namespace Go.Proofs.Ytgjkobkcmgliaaa
open Go.RowKit

set_option maxRecDepth 100000 in
set_option maxHeartbeats 4000000 in
theorem fdel_none (w : World) : Calls Try.prog 68 #[.slice none 0 0, .func (.func 69) #[] #[]] w fun e w' => e = .returned (.slice none 0 0) ∧ Below w.heap.size w w' := by
  have HIX := Lib.hid (findex_go 0 0 0 none [] w rfl (by omega) (FaB.nil 0 w none 0))
  go_enter Try.func68, Try.ntmps68
  go_wp2_with fail
  refine HIX.out.mono ?_
  rintro e w1 ⟨⟨r, rfl, hr⟩, hb1⟩
  have HB1 := Lib.hid hb1
  rcases hr with ⟨rfl, _⟩ | ⟨i, hi, _⟩
  · clear hb1
    go_wp2
    go_ret
    exact ⟨rfl, HB1.out⟩
  · omega
/-- what states nothing leaves a row of the call's own -/
theorem fdel_go (B n : Nat) (v : Value) (l : List (Int × Int)) (w : World) (hn : n = l.length) (hm : n ≤ 100000) (hBw : B ≤ w.heap.size) (ho : w.ownsRow B 61 2 v n (fasCells l)) :
    Calls Try.prog 68 #[v, .func (.func 69) #[] #[]] w (DelPost B l w) := by
  rcases ho.2 with ⟨rfl, h0⟩ | ⟨g, cap, cur, rfl, _⟩
  · have e : l = [] := List.length_eq_zero_iff.1 (by omega)
    subst e
    exact (fdel_none w).mono fun e w' ⟨he, hb⟩ => ⟨⟨_, he, FaB.nil _ _ _ _⟩, hb.mono hBw⟩
  · exact fdel_some B g cap n l w hn hm hBw ho
theorem sort_go (B n : Nat) (v : Value) (l : List (Int × Int)) (w : World) (hn : n = l.length) (hm : n ≤ 100000) (hBw : B ≤ w.heap.size) (ho : w.ownsRow B 61 2 v n (fasCells l)) :
    Calls Try.prog 65 #[v, .func (.func 66) #[] #[]] w fun e w' => e = .returned (.tuple #[]) ∧ Below B w w' ∧ ∃ d, d.Perm l ∧ Sorted d ∧ w'.ownsRow B 61 2 v n (fasCells d) := by
  rcases ho.2 with ⟨rfl, h0⟩ | ⟨g, cap, cur, rfl, hg, _⟩
  · have e : l = [] := List.length_eq_zero_iff.1 (by omega)
    subst e h0
    have h := Go.Proofs.AnyF.slices_SortFunc_none Try.sortFa none 0 (.func (.func 66) #[] #[]) w
    change Calls Try.prog 65 _ _ _ at h
    refine h.mono fun e w' ⟨he, hw⟩ => ⟨he, ?_, [], List.Perm.refl _, List.Pairwise.nil, World.ownsRow_nil _ _ _ _⟩
    rw [hw]; exact Below.refl _ _
  · exact (sort_some B g n cap l w hn hm ho).mono fun e w' ⟨he, hb, hd⟩ => ⟨he, hb.below hg hBw, hd⟩
/-- the last one's tags are cut -/
theorem own_last2 {w : World} {B e g cap n : Nat} {a : List (Int × Int)} {x : Int × Int} (hn : n + 1 = (a ++ [x]).length) (h : w.ownsRow B e 2 (.slice (some ⟨g, 0, none⟩) (n + 1) cap) (n + 1) (fasCells (a ++ [x]))) (y : Int) :
    (w.setCell ⟨g, n * 2 + 1, none⟩ (.int .i64 y)).ownsRow B e 2 (.slice (some ⟨g, 0, none⟩) (n + 1) cap) (n + 1) (fasCells (a ++ [(x.1, y)])) := by
  have hl : (fasCells a).length = n * 2 := by rw [fasCells_len]; simp at hn; omega
  rcases h.2 with ⟨h, _⟩ | ⟨g', cap', cur, hv, hb, hg, hnc, hcm, hcs, ht⟩
  · cases h
  · cases hv
    refine ⟨by rw [fasCells_len]; simp at hn ⊢; omega, .inr ⟨g, cap, cur.setIfInBounds (n * 2 + 1) (.int .i64 y), rfl, hb, ?_, hnc, hcm, by simp [hcs], ?_⟩⟩
    · simp [World.setCell, Array.getElem?_modify, hg]
    · simp only [Array.toList_setIfInBounds, List.take_set, ht]
      rw [fasCells_snoc, fasCells_snoc, List.set_append, if_neg (by omega), hl, show n * 2 + 1 - n * 2 = 1 by omega]
      rfl
/-- the row that is being merged -/
def MgRel (N : Nat) (d : List (Int × Int)) (w0 : World) (ov iv : Value) (wr : World) : Prop :=
  ∃ (i n : Nat), i ≤ N ∧ iv = .int .i64 i ∧ n ≤ i ∧ Hid (n = (mergeF (d.take i)).length) ∧ Hid (wr.ownsRow w0.heap.size 61 2 ov n (fasCells (mergeF (d.take i)))) ∧ Hid (Below w0.heap.size w0 wr)
theorem take_get (l : List (Int × Int)) (i : Nat) (h : i < l.length) : l.take (i + 1) = l.take i ++ [l.getD i fa0] := by
  rw [List.take_succ_eq_append_getElem h]
  simp [List.getD_eq_getElem?_getD, h]
/-- what is known of the row's end -/
theorem mg_case (acc : List (Int × Int)) (f : Int × Int) (n : Nat) (hn : n = acc.length) : (n = 0 ∧ acc = [] ∧ merge1 acc f = acc ++ [(f.1, (lowN f.2 : Int))]) ∨
    ∃ a x, acc = a ++ [x] ∧ n = a.length + 1 ∧ merge1 acc f = if x.1 = f.1 then a ++ [(x.1, ((x.2.toNat &&& lowN f.2 : Nat) : Int))] else acc ++ [(f.1, (lowN f.2 : Int))] := by
  rcases List.eq_nil_or_concat acc with rfl | ⟨a, x, rfl⟩
  · exact .inl ⟨hn, rfl, rfl⟩
  · rw [List.concat_eq_append] at hn ⊢
    exact .inr ⟨a, x, rfl, by simpa using hn, merge1_snoc a x f⟩
theorem mg_end {N i n n' : Nat} {d acc : List (Int × Int)} {w0 w9 : World} {ov iv : Value} (hi : i < N) (hN : N = d.length) (hacc : acc = merge1 (mergeF (d.take i)) (d.getD i fa0)) (hni : n ≤ i) (hn' : n' ≤ n + 1) (hlen : n' = acc.length) (ho : w9.ownsRow w0.heap.size 61 2 ov n' (fasCells acc)) (hb : Below w0.heap.size w0 w9) (hiv : iv = .int .i64 ((i + 1 : Nat) : Int)) :
    MgRel N d w0 ov iv w9 ∧ N - (intOf iv).toNat < N - i := by
  have e : mergeF (d.take (i + 1)) = acc := by rw [take_get d i (by omega), mergeF_snoc, hacc]
  exact ⟨⟨i + 1, n', hi, hiv, by omega, Lib.hid (by rw [e]; exact hlen), Lib.hid (by rw [e]; exact ho), Lib.hid hb⟩, by rw [hiv]; simp [intOf]; omega⟩
end Go.Proofs.Ytgjkobkcmgliaaa

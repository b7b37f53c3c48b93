import Derived.Test.YtibhfcnjmilepaaDoorNumAQ
namespace Go.Proofs.YtibhfcnjmilepaaDoor
open Go.RowKit

theorem lowZ_eq : lowZ = -2305843009213693952 := rfl
theorem highZ_eq : highZ = 2305843009213693951 := rfl
theorem low_dig : (digB lowZ.natAbs).length ≤ 10000 := Nat.le_trans (digB_len.2 (show lowZ.natAbs < bigB ^ 3 by rw [lowZ_eq, bigB_eq]; omega)) (by omega)
theorem high_dig : (digB highZ.natAbs).length ≤ 10000 := Nat.le_trans (digB_len.2 (show highZ.natAbs < bigB ^ 3 by rw [highZ_eq, bigB_eq]; omega)) (by omega)
def SmRel (L : List Nat) (l : Nat) (W : World) (n i : Value) (wr : World) : Prop := ∃ k : Nat, k ≤ l ∧ i = .int .i64 k ∧ n = .int .i64 (valB (L.drop (l - k)) : Nat) ∧ wr = W
def SmallPost (x : Int) (w : World) (e : Ending) (w' : World) : Prop := e = .returned (smallV x) ∧ Below w.heap.size w w'

set_option maxRecDepth 100000 in
set_option maxHeartbeats 8000000 in
theorem pSmall_low (x : Int) (hlo : x < -2305843009213693952) (hx : (digB x.natAbs).length ≤ 10000) (va : Value) (w : World) (ha : IntIs w va x) :
    Calls Tryd.prog 18 #[va] w (SmallPost x w) := by
  obtain ⟨sa, rfl, hua⟩ := ha
  obtain ⟨pa, ca, rfl⟩ := hua.val
  obtain ⟨na, hna⟩ : ∃ na, na = (digB x.natAbs).length := ⟨_, rfl⟩
  obtain ⟨m, hm⟩ : ∃ m, m = decide (x < 0) := ⟨_, rfl⟩
  have hna6 : na ≤ 10000 := by omega
  rw [← hm, ← hna]
  rw [← hna] at hua
  obtain ⟨W, hW⟩ : ∃ W, W = w.alloc (.cells #[.bool m, .slice pa na ca] 25) := ⟨_, rfl⟩
  have hBW : Below w.heap.size w W := by rw [hW]; exact (Below.refl _ _).alloc (Nat.le_refl _) _
  have hz : w.heap.size < W.heap.size := by rw [hW]; simp
  have q0 : W.heap[w.heap.size]? = some (.cells #[.bool m, .slice pa na ca] 25 (0, 0)) := by rw [hW]; exact heap_alloc_new _ _
  have c0 : W.cell? ⟨w.heap.size, 0, none⟩ = some (.bool m) := Lib.cell_of_heap q0 0
  have c1 : W.cell? ⟨w.heap.size, 1, none⟩ = some (.slice pa na ca) := Lib.cell_of_heap q0 1
  have hia : IntIs W (.agg #[.bool m, .slice pa na ca]) x := ⟨_, by rw [hm], hua.below hBW⟩
  have O1 := pOf_any (-2305843009213693952) (by omega) (by omega) W.drew
  have H1 := Lib.hid O1
  have HIA := Lib.hid (hia.below (Below.refl _ _).drew)
  have HB := Lib.hid hBW.drew
  have HW := Lib.hid hW
  have HXX := Lib.hid hx
  have HNA := Lib.hid hna
  have HM := Lib.hid hm
  have hcz : cmpZ x (-2305843009213693952) = -1 := cmpZ_neg hlo
  have HCZ := Lib.hid hcz
  have hs : smallV x = .tuple #[.int .i64 0, .bool false] := smallV_no (by unfold smallB; rw [lowZ_eq, decide_eq_false (by omega), Bool.false_and])
  have HS := Lib.hid hs
  clear hua hna hm hW hBW q0 hia O1 hx hcz hs hlo
  go_enter Tryd.func18, Tryd.ntmps18
  go_wp2
  rw [← HW.out]
  go_region_with (first
      | ((go_at_call 31; refine H2.out.mono ?_; rintro e w6 ⟨rfl, hb6⟩
          have b0 : w6.cell? ⟨w.heap.size, 0, none⟩ = some (.bool m) := (hb6.cell (p := ⟨w.heap.size, 0, none⟩) hz5).trans a0
          have b1 : w6.cell? ⟨w.heap.size, 1, none⟩ = some (.slice pa na ca) := (hb6.cell (p := ⟨w.heap.size, 1, none⟩) hz5).trans a1
          have hz6 : w.heap.size < w6.heap.size := Nat.lt_of_lt_of_le hz5 hb6.size
          have HB6 := Lib.hid (HB5.out.trans (hb6.mono (Nat.le_of_lt hz5)))
          clear hb6))
      | ((go_at_call 17; refine H1.out.mono ?_; rintro e w5 ⟨⟨v5, rfl, hi5⟩, hb5⟩
          have a0 : w5.cell? ⟨w.heap.size, 0, none⟩ = some (.bool m) := (hb5.cell (p := ⟨w.heap.size, 0, none⟩) hz).trans c0
          have a1 : w5.cell? ⟨w.heap.size, 1, none⟩ = some (.slice pa na ca) := (hb5.cell (p := ⟨w.heap.size, 1, none⟩) hz).trans c1
          have hz5 : w.heap.size < w5.heap.size := Nat.lt_of_lt_of_le hz hb5.size
          have HB5 := Lib.hid (HB.out.trans (hb5.mono (Nat.le_of_lt hz)))
          have CM := pCmp_any x (-2305843009213693952) HXX.out low_dig _ v5 w5 (HIA.out.below hb5) hi5
          rw [HCZ.out] at CM
          have H2 := Lib.hid CM
          have HIA5 := Lib.hid (HIA.out.below hb5)
          clear hb5 hi5 CM)))
  all_goals
    go_wp2
    go_ret2
    exact ⟨by rw [HS.out]; rfl, HB6.out⟩

set_option maxRecDepth 100000 in
set_option maxHeartbeats 8000000 in
theorem pSmall_high (x : Int) (hlo : ¬ x < -2305843009213693952) (hhi : 2305843009213693951 < x) (hx : (digB x.natAbs).length ≤ 10000) (va : Value) (w : World) (ha : IntIs w va x) :
    Calls Tryd.prog 18 #[va] w (SmallPost x w) := by
  obtain ⟨sa, rfl, hua⟩ := ha
  obtain ⟨pa, ca, rfl⟩ := hua.val
  obtain ⟨na, hna⟩ : ∃ na, na = (digB x.natAbs).length := ⟨_, rfl⟩
  obtain ⟨m, hm⟩ : ∃ m, m = decide (x < 0) := ⟨_, rfl⟩
  have hna6 : na ≤ 10000 := by omega
  rw [← hm, ← hna]
  rw [← hna] at hua
  obtain ⟨W, hW⟩ : ∃ W, W = w.alloc (.cells #[.bool m, .slice pa na ca] 25) := ⟨_, rfl⟩
  have hBW : Below w.heap.size w W := by rw [hW]; exact (Below.refl _ _).alloc (Nat.le_refl _) _
  have hz : w.heap.size < W.heap.size := by rw [hW]; simp
  have q0 : W.heap[w.heap.size]? = some (.cells #[.bool m, .slice pa na ca] 25 (0, 0)) := by rw [hW]; exact heap_alloc_new _ _
  have c0 : W.cell? ⟨w.heap.size, 0, none⟩ = some (.bool m) := Lib.cell_of_heap q0 0
  have c1 : W.cell? ⟨w.heap.size, 1, none⟩ = some (.slice pa na ca) := Lib.cell_of_heap q0 1
  have hia : IntIs W (.agg #[.bool m, .slice pa na ca]) x := ⟨_, by rw [hm], hua.below hBW⟩
  have O1 := pOf_any (-2305843009213693952) (by omega) (by omega) W.drew
  have H1 := Lib.hid O1
  have HIA := Lib.hid (hia.below (Below.refl _ _).drew)
  have HB := Lib.hid hBW.drew
  have HW := Lib.hid hW
  have HXX := Lib.hid hx
  have HNA := Lib.hid hna
  have HM := Lib.hid hm
  obtain ⟨c, hcz⟩ : ∃ c, c = cmpZ x (-2305843009213693952) := ⟨_, rfl⟩
  have hcn : ¬ c < 0 := by rw [hcz, cmpZ_lt]; omega
  have hcd : decide (c < 0) = false := decide_eq_false hcn
  have HCZ := Lib.hid hcz
  have hcy : cmpZ x 2305843009213693951 = 1 := cmpZ_pos hhi
  have HCY := Lib.hid hcy
  have hs : smallV x = .tuple #[.int .i64 0, .bool false] := smallV_no (by unfold smallB; rw [highZ_eq, decide_eq_false (show ¬ x ≤ 2305843009213693951 by omega), Bool.and_false])
  have HS := Lib.hid hs
  clear hua hna hm hW hBW q0 hia O1 hx hcz hs hlo hhi hcy hcn
  go_enter Tryd.func18, Tryd.ntmps18
  go_wp2
  rw [← HW.out]
  go_region_with (first
      | ((go_at_call 31; refine H4.out.mono ?_; rintro e w8 ⟨rfl, hb8⟩
          have g0 : w8.cell? ⟨w.heap.size, 0, none⟩ = some (.bool m) := (hb8.cell (p := ⟨w.heap.size, 0, none⟩) hz7).trans d0
          have g1 : w8.cell? ⟨w.heap.size, 1, none⟩ = some (.slice pa na ca) := (hb8.cell (p := ⟨w.heap.size, 1, none⟩) hz7).trans d1
          have hz8 : w.heap.size < w8.heap.size := Nat.lt_of_lt_of_le hz7 hb8.size
          have HB8 := Lib.hid (HB7.out.trans (hb8.mono (Nat.le_of_lt hz7)))
          have HIA8 := Lib.hid (HIA7.out.below hb8)
          clear hb8))
      | ((go_at_call 17; refine H3.out.mono ?_; rintro e w7 ⟨⟨v7, rfl, hi7⟩, hb7⟩
          have d0 : w7.cell? ⟨w.heap.size, 0, none⟩ = some (.bool m) := (hb7.cell (p := ⟨w.heap.size, 0, none⟩) hz6).trans b0
          have d1 : w7.cell? ⟨w.heap.size, 1, none⟩ = some (.slice pa na ca) := (hb7.cell (p := ⟨w.heap.size, 1, none⟩) hz6).trans b1
          have hz7 : w.heap.size < w7.heap.size := Nat.lt_of_lt_of_le hz6 hb7.size
          have HB7 := Lib.hid (HB6.out.trans (hb7.mono (Nat.le_of_lt hz6)))
          have CM := pCmp_any x 2305843009213693951 HXX.out high_dig _ v7 w7 (HIA6.out.below hb7) hi7
          rw [HCY.out] at CM
          have H4 := Lib.hid CM
          have HIA7 := Lib.hid (HIA6.out.below hb7)
          clear hb7 hi7 CM))
      | ((go_at_call 31; refine H2.out.mono ?_; rintro e w6 ⟨rfl, hb6⟩
          have b0 : w6.cell? ⟨w.heap.size, 0, none⟩ = some (.bool m) := (hb6.cell (p := ⟨w.heap.size, 0, none⟩) hz5).trans a0
          have b1 : w6.cell? ⟨w.heap.size, 1, none⟩ = some (.slice pa na ca) := (hb6.cell (p := ⟨w.heap.size, 1, none⟩) hz5).trans a1
          have hz6 : w.heap.size < w6.heap.size := Nat.lt_of_lt_of_le hz5 hb6.size
          have HB6 := Lib.hid (HB5.out.trans (hb6.mono (Nat.le_of_lt hz5)))
          have O2 := pOf_any 2305843009213693951 (by omega) (by omega) w6
          have H3 := Lib.hid O2
          have HIA6 := Lib.hid (HIA5.out.below hb6)
          clear O2
          clear hb6))
      | ((go_at_call 17; refine H1.out.mono ?_; rintro e w5 ⟨⟨v5, rfl, hi5⟩, hb5⟩
          have a0 : w5.cell? ⟨w.heap.size, 0, none⟩ = some (.bool m) := (hb5.cell (p := ⟨w.heap.size, 0, none⟩) hz).trans c0
          have a1 : w5.cell? ⟨w.heap.size, 1, none⟩ = some (.slice pa na ca) := (hb5.cell (p := ⟨w.heap.size, 1, none⟩) hz).trans c1
          have hz5 : w.heap.size < w5.heap.size := Nat.lt_of_lt_of_le hz hb5.size
          have HB5 := Lib.hid (HB.out.trans (hb5.mono (Nat.le_of_lt hz)))
          have CM := pCmp_any x (-2305843009213693952) HXX.out low_dig _ v5 w5 (HIA.out.below hb5) hi5
          rw [← HCZ.out] at CM
          have H2 := Lib.hid CM
          have HIA5 := Lib.hid (HIA.out.below hb5)
          clear hb5 hi5 CM)))
  all_goals
    go_wp2
    go_ret2
    exact ⟨by rw [HS.out]; rfl, HB8.out⟩

set_option maxRecDepth 100000 in
set_option maxHeartbeats 8000000 in
theorem pSmall_ok (x : Int) (hlo : ¬ x < -2305843009213693952) (hhi : ¬ 2305843009213693951 < x) (hx : (digB x.natAbs).length ≤ 10000) (va : Value) (w : World) (ha : IntIs w va x) :
    Calls Tryd.prog 18 #[va] w (SmallPost x w) := by
  obtain ⟨sa, rfl, hua⟩ := ha
  obtain ⟨pa, ca, rfl⟩ := hua.val
  obtain ⟨na, hna⟩ : ∃ na, na = (digB x.natAbs).length := ⟨_, rfl⟩
  obtain ⟨m, hm⟩ : ∃ m, m = decide (x < 0) := ⟨_, rfl⟩
  have hna6 : na ≤ 10000 := by omega
  rw [← hm, ← hna]
  rw [← hna] at hua
  obtain ⟨W, hW⟩ : ∃ W, W = w.alloc (.cells #[.bool m, .slice pa na ca] 25) := ⟨_, rfl⟩
  have hBW : Below w.heap.size w W := by rw [hW]; exact (Below.refl _ _).alloc (Nat.le_refl _) _
  have hz : w.heap.size < W.heap.size := by rw [hW]; simp
  have q0 : W.heap[w.heap.size]? = some (.cells #[.bool m, .slice pa na ca] 25 (0, 0)) := by rw [hW]; exact heap_alloc_new _ _
  have c0 : W.cell? ⟨w.heap.size, 0, none⟩ = some (.bool m) := Lib.cell_of_heap q0 0
  have c1 : W.cell? ⟨w.heap.size, 1, none⟩ = some (.slice pa na ca) := Lib.cell_of_heap q0 1
  have hia : IntIs W (.agg #[.bool m, .slice pa na ca]) x := ⟨_, by rw [hm], hua.below hBW⟩
  have O1 := pOf_any (-2305843009213693952) (by omega) (by omega) W.drew
  have H1 := Lib.hid O1
  have HIA := Lib.hid (hia.below (Below.refl _ _).drew)
  have HB := Lib.hid hBW.drew
  have HW := Lib.hid hW
  have HXX := Lib.hid hx
  have HNA := Lib.hid hna
  have HM := Lib.hid hm
  obtain ⟨c, hcz⟩ : ∃ c, c = cmpZ x (-2305843009213693952) := ⟨_, rfl⟩
  have hcn : ¬ c < 0 := by rw [hcz, cmpZ_lt]; omega
  have hcd : decide (c < 0) = false := decide_eq_false hcn
  have HCZ := Lib.hid hcz
  obtain ⟨c', hcy⟩ : ∃ c, c = cmpZ x 2305843009213693951 := ⟨_, rfl⟩
  have hcn' : ¬ 0 < c' := by rw [hcy, cmpZ_gt]; omega
  have hcd' : decide (0 < c') = false := decide_eq_false hcn'
  have HCY := Lib.hid hcy
  have hs : smallV x = .tuple #[.int .i64 x, .bool true] := smallV_yes (by unfold smallB; rw [lowZ_eq, highZ_eq, decide_eq_true (by omega), decide_eq_true (by omega)]; rfl)
  have HS := Lib.hid hs
  obtain ⟨X, hX⟩ : ∃ X, X = x.natAbs := ⟨_, rfl⟩
  have hXle : X ≤ 2305843009213693952 := by omega
  have hxm : x = if m then -(X : Int) else X := by
    rw [hm]
    by_cases h : x < 0
    · rw [decide_eq_true h, if_pos rfl]; omega
    · rw [decide_eq_false h, if_neg (by simp)]; omega
  have HXM := Lib.hid hxm
  have HXLE := Lib.hid hXle
  rw [← hX] at HNA
  have HUAX := Lib.hid (show IntIs W (.agg #[.bool m, .slice pa na ca]) x from hia)
  have HX := Lib.hid hX
  clear hua hna hm hW hBW q0 hia O1 hx hcz hs hlo hhi hcy hcn hcn' hX hXle hxm
  go_enter Tryd.func18, Tryd.ntmps18
  go_wp2
  rw [← HW.out]
  go_region_with (first
      | ((go_at_call 31; refine H4.out.mono ?_; rintro e w8 ⟨rfl, hb8⟩
          have g0 : w8.cell? ⟨w.heap.size, 0, none⟩ = some (.bool m) := (hb8.cell (p := ⟨w.heap.size, 0, none⟩) hz7).trans d0
          have g1 : w8.cell? ⟨w.heap.size, 1, none⟩ = some (.slice pa na ca) := (hb8.cell (p := ⟨w.heap.size, 1, none⟩) hz7).trans d1
          have hz8 : w.heap.size < w8.heap.size := Nat.lt_of_lt_of_le hz7 hb8.size
          have HB8 := Lib.hid (HB7.out.trans (hb8.mono (Nat.le_of_lt hz7)))
          have HIA8 := Lib.hid (HIA7.out.below hb8)
          clear hb8))
      | ((go_at_call 17; refine H3.out.mono ?_; rintro e w7 ⟨⟨v7, rfl, hi7⟩, hb7⟩
          have d0 : w7.cell? ⟨w.heap.size, 0, none⟩ = some (.bool m) := (hb7.cell (p := ⟨w.heap.size, 0, none⟩) hz6).trans b0
          have d1 : w7.cell? ⟨w.heap.size, 1, none⟩ = some (.slice pa na ca) := (hb7.cell (p := ⟨w.heap.size, 1, none⟩) hz6).trans b1
          have hz7 : w.heap.size < w7.heap.size := Nat.lt_of_lt_of_le hz6 hb7.size
          have HB7 := Lib.hid (HB6.out.trans (hb7.mono (Nat.le_of_lt hz6)))
          have CM := pCmp_any x 2305843009213693951 HXX.out high_dig _ v7 w7 (HIA6.out.below hb7) hi7
          rw [← HCY.out] at CM
          have H4 := Lib.hid CM
          have HIA7 := Lib.hid (HIA6.out.below hb7)
          clear hb7 hi7 CM))
      | ((go_at_call 31; refine H2.out.mono ?_; rintro e w6 ⟨rfl, hb6⟩
          have b0 : w6.cell? ⟨w.heap.size, 0, none⟩ = some (.bool m) := (hb6.cell (p := ⟨w.heap.size, 0, none⟩) hz5).trans a0
          have b1 : w6.cell? ⟨w.heap.size, 1, none⟩ = some (.slice pa na ca) := (hb6.cell (p := ⟨w.heap.size, 1, none⟩) hz5).trans a1
          have hz6 : w.heap.size < w6.heap.size := Nat.lt_of_lt_of_le hz5 hb6.size
          have HB6 := Lib.hid (HB5.out.trans (hb6.mono (Nat.le_of_lt hz5)))
          have O2 := pOf_any 2305843009213693951 (by omega) (by omega) w6
          have H3 := Lib.hid O2
          have HIA6 := Lib.hid (HIA5.out.below hb6)
          clear O2
          clear hb6))
      | ((go_at_call 17; refine H1.out.mono ?_; rintro e w5 ⟨⟨v5, rfl, hi5⟩, hb5⟩
          have a0 : w5.cell? ⟨w.heap.size, 0, none⟩ = some (.bool m) := (hb5.cell (p := ⟨w.heap.size, 0, none⟩) hz).trans c0
          have a1 : w5.cell? ⟨w.heap.size, 1, none⟩ = some (.slice pa na ca) := (hb5.cell (p := ⟨w.heap.size, 1, none⟩) hz).trans c1
          have hz5 : w.heap.size < w5.heap.size := Nat.lt_of_lt_of_le hz hb5.size
          have HB5 := Lib.hid (HB.out.trans (hb5.mono (Nat.le_of_lt hz)))
          have CM := pCmp_any x (-2305843009213693952) HXX.out low_dig _ v5 w5 (HIA.out.below hb5) hi5
          rw [← HCZ.out] at CM
          have H2 := Lib.hid CM
          have HIA5 := Lib.hid (HIA.out.below hb5)
          clear hb5 hi5 CM)))
  all_goals
    have hu8 : U32s w8 (.slice pa na ca) (digB X) := by
      obtain ⟨sv, e, h⟩ := HIA8.out
      cases e
      rw [HX.out]; exact h
    have HU8 := Lib.hid hu8
    have HALL : ∀ _ : Unit, smallV x = .tuple #[.int .i64 x, .bool true] ∧ (x = if m then -(X : Int) else X) ∧ X ≤ 2305843009213693952 := fun _ => ⟨HS.out, HXM.out, HXLE.out⟩
    clear hu8 HIA8 H1 H2 H3 H4 HIA5 HIA6 HIA7 HIA HB5 HB6 HB7 HW HUAX a0 a1 b0 b1 d0 d1 c0 c1 HS HXM HXLE HXX HM HX HCZ HCY hcd hcd'
    go_wp2
    go_loopw [4, 19] (fun n i wr => SmRel (digB X) na w8 n i wr) (fun _ i _ => na - (intOf i).toNat)
    case atStart => exact ⟨0, by omega, rfl, by rw [Nat.sub_zero, HNA.out, List.drop_length]; rfl, rfl⟩
    case round =>
      obtain ⟨k, hk, rfl, rfl, rfl⟩ := hrel
      have k0 : (0 : Int) ≤ k := Int.natCast_nonneg _
      have hle : ∀ j, valB ((digB X).drop j) ≤ X := fun j => by
        by_cases hj : j ≤ (digB X).length
        · rw [(val_drop (digB_ok X) hj).1, valB_digB]; exact Nat.div_le_self _ _
        · rw [List.drop_of_length_le (by omega)]; exact Nat.zero_le _
      by_cases hgo : k < na
      · have g1' : (k : Int) < na := by omega
        obtain ⟨t, ht⟩ : ∃ t, t = na - 1 - k := ⟨_, rfl⟩
        have hti : (na : Int) - 1 - k = (t : Int) := by omega
        have t0 : (0 : Int) ≤ t := Int.natCast_nonneg _
        have t1 : (t : Int) < na := by omega
        obtain ⟨b2, o2, rfl, hb2, hct⟩ := HU8.out.at (show t < (digB X).length by rw [← HNA.out]; omega)
        obtain ⟨d, hd⟩ : ∃ d, d = (digB X).getD t 0 := ⟨_, rfl⟩
        rw [← hd] at hct
        unfold u32V at hct
        have hdB : d < bigB := by rw [hd]; exact okB_getD (digB_ok _) _
        have dI : (d : Int) < 1000000000 := by have := bigB_eq; omega
        have dI0 : (0 : Int) ≤ d := Int.natCast_nonneg _
        have hstep := valB_dropD (digB X) t
        have hnx := hle t
        obtain ⟨n, hn⟩ : ∃ n, n = valB ((digB X).drop (na - k)) := ⟨_, rfl⟩
        rw [← hn]
        rw [show t + 1 = na - k by omega, ← hd, ← hn, bigB_eq] at hstep
        have n0 : (0 : Int) ≤ n := Int.natCast_nonneg _
        have nI : (n : Int) ≤ 2305843010 := by have := (HALL ()).2.2; omega
        have hvq : valB ((digB X).drop t) = n * 1000000000 + d := by omega
        have HVQ := Lib.hid hvq
        have HTT := Lib.hid ht
        clear hstep hnx hn hd hdB ht hle hvq
        go_wp2
        go_roundw
        case rel => exact ⟨k + 1, by omega, by go_num, by rw [show na - (k + 1) = t by have := HTT.out; omega, HVQ.out]; congr 1, rfl⟩
        case measure => simp [intOf]; omega
      · have g1' : ¬ (k : Int) < na := by omega
        have hkn : na - k = 0 := by omega
        rw [hkn, List.drop_zero, valB_digB]
        have X0 : (0 : Int) ≤ X := Int.natCast_nonneg _
        have XI : (X : Int) ≤ 2305843009213693952 := by have := (HALL ()).2.2; omega
        clear hle hkn
        cases m
        · have hxx : x = (X : Int) := (HALL ()).2.1
          have HS2 : Hid (smallV x = .tuple #[.int .i64 (X : Int), .bool true]) := by show _ = _; rw [(HALL ()).1, hxx]
          clear hxx
          go_wp2
          go_ret2
          exact ⟨by rw [HS2.out]; rfl, HB8.out⟩
        · have hxx : x = -(X : Int) := (HALL ()).2.1
          have HS2 : Hid (smallV x = .tuple #[.int .i64 (-(X : Int)), .bool true]) := by show _ = _; rw [(HALL ()).1, hxx]
          clear hxx
          go_wp2
          go_ret2
          exact ⟨by rw [HS2.out]; rfl, HB8.out⟩

theorem pSmall_any (x : Int) (hx : (digB x.natAbs).length ≤ 10000) (va : Value) (w : World) (ha : IntIs w va x) :
    Calls Tryd.prog 18 #[va] w (SmallPost x w) := by
  by_cases hlo : x < -2305843009213693952
  · exact pSmall_low x hlo hx va w ha
  · by_cases hhi : 2305843009213693951 < x
    · exact pSmall_high x hlo hhi hx va w ha
    · exact pSmall_ok x hlo hhi hx va w ha
end Go.Proofs.YtibhfcnjmilepaaDoor

import Derived.Test.YtibhfcnjmilepaaDoorNumAL
namespace Go.Proofs.YtibhfcnjmilepaaDoor
open Go.RowKit

def PartsPost (x : Int) (w : World) (e : Ending) (w' : World) : Prop := (∃ v, e = .returned (.tuple #[.bool (decide (x < 0)), v]) ∧ U32s w' v (digB x.natAbs)) ∧ Below w.heap.size w w'

set_option maxRecDepth 100000 in
set_option maxHeartbeats 4000000 in
theorem pParts_any (x : Int) (hx : (digB x.natAbs).length ≤ 10000) (va : Value) (w : World) (ha : IntIs w va x) :
    Calls Tryd.prog 15 #[va] w (PartsPost x w) := by
  obtain ⟨sa, rfl, hua⟩ := ha
  obtain ⟨m, hm⟩ : ∃ m, m = decide (x < 0) := ⟨_, rfl⟩
  rw [← hm]
  obtain ⟨W, hW⟩ : ∃ W, W = w.alloc (.cells #[.bool m, sa] 25) := ⟨_, rfl⟩
  have hBW : Below w.heap.size w W := by rw [hW]; exact (Below.refl _ _).alloc (Nat.le_refl _) _
  have hz : w.heap.size < W.heap.size := by rw [hW]; simp
  have q0 : W.heap[w.heap.size]? = some (.cells #[.bool m, sa] 25 (0, 0)) := by rw [hW]; exact heap_alloc_new _ _
  have c0 : W.cell? ⟨w.heap.size, 0, none⟩ = some (.bool m) := Lib.cell_of_heap q0 0
  have c1 : W.cell? ⟨w.heap.size, 1, none⟩ = some sa := Lib.cell_of_heap q0 1
  have CP := pcopied_any sa (digB x.natAbs) (by omega) W.drew ((hua.below hBW).below (Below.refl _ _).drew)
  have HCP := Lib.hid CP
  have HB := Lib.hid hBW
  have HM := Lib.hid hm
  have HW := Lib.hid hW
  clear hua hW hBW q0 CP hm
  go_enter Tryd.func15, Tryd.ntmps15
  go_wp2
  rw [← HW.out]
  clear HW
  go_region_held3 (fun w' => w'.cell? ⟨w.heap.size, 0, none⟩ = some (.bool m) ∧ w'.cell? ⟨w.heap.size, 1, none⟩ = some sa)
    (first | exact ⟨c0, c1⟩ | exact ⟨a0, a1⟩)
    (first
      | ((go_at_call 39; refine HCP.out.mono ?_; rintro e w5 ⟨⟨v, rfl, hcp⟩, hb5⟩
          have a0 : w5.cell? ⟨w.heap.size, 0, none⟩ = some (.bool m) := (hb5.cell (p := ⟨w.heap.size, 0, none⟩) hz).trans c0
          have a1 : w5.cell? ⟨w.heap.size, 1, none⟩ = some sa := (hb5.cell (p := ⟨w.heap.size, 1, none⟩) hz).trans c1
          have HU5 := Lib.hid hcp.u32s
          have HB5 := Lib.hid (HB.out.drew.trans (hb5.mono (show w.heap.size ≤ W.heap.size by omega)))
          clear hb5 hcp)))
  go_wp2
  go_ret2
  exact ⟨⟨v, by rw [HM.out]; rfl, HU5.out⟩, HB5.out⟩
def OfRel (g A : Nat) (W : World) (r i : Value) (wr : World) : Prop :=
  ∃ k : Nat, k ≤ 3 ∧ i = .int .i64 k ∧ r = .int .u64 (A / bigB ^ k : Nat) ∧ Hid (Bk wr g (grps A k ++ List.replicate (3 - k) 0)) ∧ Hid (Keep g W wr)

set_option maxRecDepth 100000 in
set_option maxHeartbeats 4000000 in
theorem pOf_any (n : Int) (h0 : -9223372036854775808 ≤ n) (h1 : n ≤ 9223372036854775807) (w : World) :
    Calls Tryd.prog 17 #[.int .i64 n] w (IntPost n w) := by
  obtain ⟨A, hA⟩ : ∃ A, A = n.natAbs := ⟨_, rfl⟩
  have hAB : A ≤ 9223372036854775808 := by omega
  obtain ⟨W0, hW0⟩ : ∃ W0, W0 = w.alloc (.cells #[.bool false, .slice none 0 0] 25) := ⟨_, rfl⟩
  have q0 : W0.heap[w.heap.size]? = some (.cells #[.bool false, .slice none 0 0] 25 (0, 0)) := by rw [hW0]; exact heap_alloc_new _ _
  have hz0 : W0.heap.size = w.heap.size + 1 := by rw [hW0]; simp
  have hB0 : Below w.heap.size w W0 := by rw [hW0]; exact (Below.refl _ _).alloc (Nat.le_refl _) _
  have MK := mk_any 3 (by omega) W0
  obtain ⟨W, hW⟩ : ∃ W, W = W0.alloc (.cells ((List.replicate 3 0).map u32V).toArray 40) := ⟨_, rfl⟩
  rw [← hW] at MK
  obtain ⟨g, hg⟩ : ∃ g, g = W0.heap.size := ⟨_, rfl⟩
  rw [← hg] at MK
  have hbk : Bk W g (List.replicate 3 0) := by rw [hW, hg]; exact Bk.made _
  have hBW : Below W0.heap.size W0 W := by rw [hW]; exact (Below.refl _ _).alloc (Nat.le_refl _) _
  have hgw : w.heap.size < g := by omega
  have Q0 := Lib.hid ((hBW.block w.heap.size (by omega)).trans q0)
  have HBK := Lib.hid hbk
  have HBW := Lib.hid (hB0.trans (hBW.mono hB0.size))
  have HW0 := Lib.hid hW0
  have HA := Lib.hid hA
  have HAB := Lib.hid hAB
  have hsg : sg (decide (n < 0)) A = n := by rw [hA]; exact sg_int n
  have HSG := Lib.hid hsg
  have MK3 : (Instr.makeSlice 22 (.int .i64 3) (.int .i64 3)).run Tryd.prog W0 = .ok (.slice (some ⟨g, 0, none⟩) 3 3) W := MK
  have v3 : valB (grps A 3) = A := by
    rw [valB_grps]
    refine Nat.mod_eq_of_lt ?_
    rw [bigB_eq]; omega
  have HV3 := Lib.hid v3
  have hlast : ∀ wr : World, Bk wr g (grps A 3) → Calls Tryd.prog 40 #[.slice (some ⟨g, 0, none⟩) 3 3] wr fun e w' => (∃ v, e = .returned v ∧ U32s w' v (digB A)) ∧ Below wr.heap.size wr w' ∧ ∃ q, w' = wr.drewN q := fun wr hb => by
    have := trim_dig g 3 3 (grps A 3) (grps_len _ _).symm (Nat.le_refl _) (by omega) (grps_ok _ _) wr hb
    rw [v3] at this
    exact this
  have HLAST := Lib.hid hlast
  rw [hW0] at MK3
  clear MK hbk hBW q0 hB0 hW hg hz0 hW0 hsg v3 hlast hAB
  by_cases hneg : n < 0
  · have w1 : IntKind.u64.wrap n = n + 18446744073709551616 := by simp [IntKind.wrap, IntKind.bits, IntKind.signed]; omega
    have w2 : IntKind.u64.wrap (-(n + 18446744073709551616)) = (A : Int) := by simp [IntKind.wrap, IntKind.bits, IntKind.signed]; omega
    clear hA
    go_enter Tryd.func17, Tryd.ntmps17
    go_wp2
    go_loopw [3, 15] (fun r i wr => OfRel g A W r i wr) (fun _ i _ => 3 - (intOf i).toNat)
    case atStart => exact ⟨0, by omega, rfl, by rw [Nat.pow_zero, Nat.div_one], HBK, Lib.hid (Keep.refl _ _)⟩
    case round =>
      obtain ⟨k, hk, rfl, rfl, HB1, HKP⟩ := hrel
      have k0 : (0 : Int) ≤ k := Int.natCast_nonneg _
      obtain ⟨a, ha⟩ : ∃ a, a = A / bigB ^ k := ⟨_, rfl⟩
      rw [← ha]
      have haA : a ≤ A := by rw [ha]; exact Nat.div_le_self _ _
      have a0 : (0 : Int) ≤ a := Int.natCast_nonneg _
      have aI : (a : Int) ≤ 9223372036854775808 := by have := HAB.out; omega
      by_cases hgo : k < 3
      · have g1 : (k : Int) < 3 := by omega
        have hnext : A / bigB ^ (k + 1) = a / bigB := by rw [ha, Nat.pow_succ, Nat.div_div_eq_div_mul]
        have hdig : grp A k = a % bigB := by rw [ha]; rfl
        have HNX := Lib.hid hnext
        have HDG := Lib.hid hdig
        have HB2 : Hid (Bk wr g ([] ++ (grps A k ++ 0 :: List.replicate (3 - k - 1) 0) ++ [])) := by
          have := HB1.out
          rw [show 3 - k = 3 - k - 1 + 1 by omega, List.replicate_succ] at this
          show Bk _ _ _
          rw [List.nil_append, List.append_nil]; exact this
        have hfz : wr.frozen? ⟨g, k, none⟩ = false := HB2.out.frozen _
        have hcz : wr.cell? ⟨g, k, none⟩ = some (.int .u32 ((0 : Nat) : Int)) := HB2.out.cell (by have := get_mid [] (grps A k) (List.replicate (3 - k - 1) 0) [] 0; rw [List.length_nil, Nat.zero_add, grps_len] at this; exact this)
        clear hnext hdig ha haA HB1
        go_wp2
        go_roundw
        case rel => exact ⟨k + 1, by omega, by go_num, by rw [HNX.out, bigB_eq]; rfl, Lib.hid (by
          have := bk_put HB2.out (o := k) (by simp [grps_len]) (a % bigB) ((a : Int) % 1000000000) (by rw [bigB_eq]; omega)
          rw [List.nil_append, List.append_nil, ← HDG.out] at this
          rw [grps_succ, List.append_assoc, show 3 - (k + 1) = 3 - k - 1 by omega]
          exact this), Lib.hid (HKP.out.setCell _ _)⟩
        case measure => simp [intOf]; omega
      · have g1 : ¬ (k : Int) < 3 := by omega
        have hk3 : k = 3 := by omega
        clear ha haA
        subst hk3
        have TR := HLAST.out wr (by have := HB1.out; rw [Nat.sub_self, List.replicate_zero, List.append_nil] at this; exact this)
        have HTR := Lib.hid TR
        clear TR
        go_wp2_with fail
        refine HTR.out.mono ?_
        rintro e w3 ⟨⟨v, rfl, hu⟩, hb3, _⟩
        have SG := signed_any true A v w3 hu
        have hsg := HSG.out
        rw [decide_eq_true hneg] at hsg
        rw [hsg] at SG
        have HS3 := Lib.hid SG
        have HB3 := Lib.hid ((HBW.out.trans (HKP.out.below (Nat.le_of_lt hgw))).trans (hb3.mono (by rw [HKP.out.size]; exact HBW.out.size)))
        have q3 : w3.heap[w.heap.size]? = some (.cells #[.bool false, .slice none 0 0] 25 (0, 0)) := (hb3.block w.heap.size (by have := HB1.out.lt; omega)).trans ((HKP.out.block w.heap.size (by omega)).trans Q0.out)
        have Q3 := Lib.hid q3
        have hw3 : w.heap.size < w3.heap.size := by have := hb3.size; have := HB1.out.lt; omega
        clear SG hsg hu hb3 q3
        go_wp2_with fail
        refine HS3.out.mono ?_
        rintro e w4 ⟨⟨v4, rfl, hi4⟩, hb4⟩
        obtain ⟨sv4, rfl, hu4⟩ := hi4
        obtain ⟨s4, c4, rfl⟩ := hu4.val
        obtain ⟨l4, hl4⟩ : ∃ l4, l4 = (digB n.natAbs).length := ⟨_, rfl⟩
        rw [← hl4] at hu4 ⊢
        have HB4 := Lib.hid (HB3.out.trans (hb4.mono HB3.out.size))
        have q4 := (hb4.block w.heap.size hw3).trans Q3.out
        have Q4 := Lib.hid q4
        have z0 : w4.cell? ⟨w.heap.size, 0, none⟩ = some (.bool false) := Lib.cell_of_heap q4 0
        have z1 : w4.cell? ⟨w.heap.size, 1, none⟩ = some (.slice none 0 0) := Lib.cell_of_heap q4 1
        have f0 : w4.frozen? ⟨w.heap.size, 0, none⟩ = false := Lib.frozen_of_heap q4 0
        have f1 : w4.frozen? ⟨w.heap.size, 1, none⟩ = false := Lib.frozen_of_heap q4 1
        have HU4 := Lib.hid hu4
        obtain ⟨bb, hbb⟩ : ∃ bb, bb = decide (n < 0) := ⟨_, rfl⟩
        rw [← hbb]
        have HBB := Lib.hid hbb
        clear hb4 q4 hu4 hbb hl4
        go_wp2
        have HR := Lib.hid (HU4.out.set2 Q4.out (.bool bb) (.slice s4 l4 c4))
        refine bodyPost_ret (v := .agg #[.bool bb, .slice s4 l4 c4]) ?_ ?_ ?_
        · simp [results, Tryd.results17, go_sem, z0, z1]
        · rfl
        · refine ⟨⟨.agg #[.bool bb, .slice s4 l4 c4], rfl, .slice s4 l4 c4, ?_, HR.out⟩, ?_⟩
          · rw [HBB.out]
          · exact (HB4.out.setCell (p := ⟨w.heap.size, 0, none⟩) (Nat.le_refl _) _).setCell (p := ⟨w.heap.size, 1, none⟩) (Nat.le_refl _) _
  · have w1 : IntKind.u64.wrap n = (A : Int) := by simp [IntKind.wrap, IntKind.bits, IntKind.signed]; omega
    clear hA
    go_enter Tryd.func17, Tryd.ntmps17
    go_wp2
    go_loopw [3, 15] (fun r i wr => OfRel g A W r i wr) (fun _ i _ => 3 - (intOf i).toNat)
    case atStart => exact ⟨0, by omega, rfl, by rw [Nat.pow_zero, Nat.div_one], HBK, Lib.hid (Keep.refl _ _)⟩
    case round =>
      obtain ⟨k, hk, rfl, rfl, HB1, HKP⟩ := hrel
      have k0 : (0 : Int) ≤ k := Int.natCast_nonneg _
      obtain ⟨a, ha⟩ : ∃ a, a = A / bigB ^ k := ⟨_, rfl⟩
      rw [← ha]
      have haA : a ≤ A := by rw [ha]; exact Nat.div_le_self _ _
      have a0 : (0 : Int) ≤ a := Int.natCast_nonneg _
      have aI : (a : Int) ≤ 9223372036854775808 := by have := HAB.out; omega
      by_cases hgo : k < 3
      · have g1 : (k : Int) < 3 := by omega
        have hnext : A / bigB ^ (k + 1) = a / bigB := by rw [ha, Nat.pow_succ, Nat.div_div_eq_div_mul]
        have hdig : grp A k = a % bigB := by rw [ha]; rfl
        have HNX := Lib.hid hnext
        have HDG := Lib.hid hdig
        have HB2 : Hid (Bk wr g ([] ++ (grps A k ++ 0 :: List.replicate (3 - k - 1) 0) ++ [])) := by
          have := HB1.out
          rw [show 3 - k = 3 - k - 1 + 1 by omega, List.replicate_succ] at this
          show Bk _ _ _
          rw [List.nil_append, List.append_nil]; exact this
        have hfz : wr.frozen? ⟨g, k, none⟩ = false := HB2.out.frozen _
        have hcz : wr.cell? ⟨g, k, none⟩ = some (.int .u32 ((0 : Nat) : Int)) := HB2.out.cell (by have := get_mid [] (grps A k) (List.replicate (3 - k - 1) 0) [] 0; rw [List.length_nil, Nat.zero_add, grps_len] at this; exact this)
        clear hnext hdig ha haA HB1
        go_wp2
        go_roundw
        case rel => exact ⟨k + 1, by omega, by go_num, by rw [HNX.out, bigB_eq]; rfl, Lib.hid (by
          have := bk_put HB2.out (o := k) (by simp [grps_len]) (a % bigB) ((a : Int) % 1000000000) (by rw [bigB_eq]; omega)
          rw [List.nil_append, List.append_nil, ← HDG.out] at this
          rw [grps_succ, List.append_assoc, show 3 - (k + 1) = 3 - k - 1 by omega]
          exact this), Lib.hid (HKP.out.setCell _ _)⟩
        case measure => simp [intOf]; omega
      · have g1 : ¬ (k : Int) < 3 := by omega
        have hk3 : k = 3 := by omega
        clear ha haA
        subst hk3
        have TR := HLAST.out wr (by have := HB1.out; rw [Nat.sub_self, List.replicate_zero, List.append_nil] at this; exact this)
        have HTR := Lib.hid TR
        clear TR
        go_wp2_with fail
        refine HTR.out.mono ?_
        rintro e w3 ⟨⟨v, rfl, hu⟩, hb3, _⟩
        have SG := signed_any (decide (n < 0)) A v w3 hu
        have hsg := HSG.out
        rw [hsg] at SG
        have HS3 := Lib.hid SG
        have HB3 := Lib.hid ((HBW.out.trans (HKP.out.below (Nat.le_of_lt hgw))).trans (hb3.mono (by rw [HKP.out.size]; exact HBW.out.size)))
        have q3 : w3.heap[w.heap.size]? = some (.cells #[.bool false, .slice none 0 0] 25 (0, 0)) := (hb3.block w.heap.size (by have := HB1.out.lt; omega)).trans ((HKP.out.block w.heap.size (by omega)).trans Q0.out)
        have Q3 := Lib.hid q3
        have hw3 : w.heap.size < w3.heap.size := by have := hb3.size; have := HB1.out.lt; omega
        clear SG hsg hu hb3 q3
        go_wp2_with fail
        refine HS3.out.mono ?_
        rintro e w4 ⟨⟨v4, rfl, hi4⟩, hb4⟩
        obtain ⟨sv4, rfl, hu4⟩ := hi4
        obtain ⟨s4, c4, rfl⟩ := hu4.val
        obtain ⟨l4, hl4⟩ : ∃ l4, l4 = (digB n.natAbs).length := ⟨_, rfl⟩
        rw [← hl4] at hu4 ⊢
        have HB4 := Lib.hid (HB3.out.trans (hb4.mono HB3.out.size))
        have q4 := (hb4.block w.heap.size hw3).trans Q3.out
        have Q4 := Lib.hid q4
        have z0 : w4.cell? ⟨w.heap.size, 0, none⟩ = some (.bool false) := Lib.cell_of_heap q4 0
        have z1 : w4.cell? ⟨w.heap.size, 1, none⟩ = some (.slice none 0 0) := Lib.cell_of_heap q4 1
        have f0 : w4.frozen? ⟨w.heap.size, 0, none⟩ = false := Lib.frozen_of_heap q4 0
        have f1 : w4.frozen? ⟨w.heap.size, 1, none⟩ = false := Lib.frozen_of_heap q4 1
        have HU4 := Lib.hid hu4
        obtain ⟨bb, hbb⟩ : ∃ bb, bb = decide (n < 0) := ⟨_, rfl⟩
        rw [← hbb]
        have HBB := Lib.hid hbb
        clear hb4 q4 hu4 hbb hl4
        go_wp2
        have HR := Lib.hid (HU4.out.set2 Q4.out (.bool bb) (.slice s4 l4 c4))
        refine bodyPost_ret (v := .agg #[.bool bb, .slice s4 l4 c4]) ?_ ?_ ?_
        · simp [results, Tryd.results17, go_sem, z0, z1]
        · rfl
        · refine ⟨⟨.agg #[.bool bb, .slice s4 l4 c4], rfl, .slice s4 l4 c4, ?_, HR.out⟩, ?_⟩
          · rw [HBB.out]
          · exact (HB4.out.setCell (p := ⟨w.heap.size, 0, none⟩) (Nat.le_refl _) _).setCell (p := ⟨w.heap.size, 1, none⟩) (Nat.le_refl _) _
end Go.Proofs.YtibhfcnjmilepaaDoor

import Derived.Test.YtibhfcnjmilepaaDoorNumM
import Derived.Deep.AppendLies
namespace Go.Proofs.YtibhfcnjmilepaaDoor
open Go.RowKit

theorem own_base4 {w : World} {B B' e size n : Nat} {v : Value} {xs : List Value} (h : w.ownsRow B e size v n xs) (hB : B' ≤ B) : w.ownsRow B' e size v n xs := by
  refine ⟨h.1, ?_⟩
  rcases h.2 with h2 | ⟨g, cap, cur, rfl, hg, r⟩
  · exact .inl h2
  · exact .inr ⟨g, cap, cur, rfl, Nat.le_trans hB hg, r⟩
def u32V (d : Nat) : Value := .int .u32 (d : Int)
theorem Tryd.infoU32 : (Tryd.prog.info? 40).map (fun i => (i.zero, i.size, i.bytes)) = some (some (.int .u32 0), 1, 4) := by kernel_rfl
/-- a slice of digits, the call's own -/
def RPartsV (z : Int) (w : World) (e : Ending) (w' : World) : Prop :=
  (∃ v, e = .returned (.tuple #[.bool (decide (z < 0)), v]) ∧ w'.ownsRow w.heap.size 40 1 v (digB z.natAbs).length ((digB z.natAbs).map u32V)) ∧ Below w.heap.size w w'
def PartsRel (n L : Nat) (W : World) (o e : Value) (wr : World) : Prop :=
  ∃ j : Nat, e = .int .i64 ((L : Int) - 9 * j) ∧ 9 * j < L + 9 ∧ Hid (wr.ownsRow W.heap.size 40 1 o j ((grps n j).map u32V)) ∧ Hid (Below W.heap.size W wr)

set_option maxRecDepth 100000 in
set_option maxHeartbeats 4000000 in
theorem rparts_any (z : Int) (hl : (decN z.natAbs).length ≤ 4000) (w : World) :
    Calls Tryd.prog 16 #[intV z] w (RPartsV z w) := by
  obtain ⟨i0, hi, hz0, hz1, hz2⟩ := info_parts Tryd.infoU32
  obtain ⟨n, hn⟩ : ∃ n, n = z.natAbs := ⟨_, rfl⟩
  obtain ⟨D, hD⟩ : ∃ D, D = decS n := ⟨_, rfl⟩
  obtain ⟨b, hb⟩ : ∃ b, b = decide (z < 0) := ⟨_, rfl⟩
  have hDl : D.size = (decN n).length := by rw [hD, decS_size]
  have hD4 : D.size ≤ 4000 := by rw [hDl, hn]; exact hl
  have hDD : allD D.data.toList := by rw [hD]; exact decS_allD _
  have hVD : valL D.data.toList = n := by rw [hD, decS_data, val_dec]
  have hz3 := decS_zero n
  rw [← hD] at hz3
  unfold intV smV
  rw [← hn, ← hb, ← hD]
  have HDL := Lib.hid hDl
  have HDD := Lib.hid hDD
  have HVD := Lib.hid hVD
  have HN := Lib.hid hn
  have HBB := Lib.hid hb
  have HZ3 := Lib.hid hz3
  have hsg : ∀ j e (h : e + 9 * j = D.size), seg D.data.toList (e - 9) e = grp n j := fun j e h => by rw [seg_grp _ hDD j e (by rw [ba_len]; exact h), hVD]
  have HSG := Lib.hid hsg
  clear hDl hDD hVD hn hb hD hz3 hl hsg
  obtain ⟨W, hW⟩ : ∃ W, W = w.alloc (.cells #[.bool b, .string D] 30) := ⟨_, rfl⟩
  have q0 : W.heap[w.heap.size]? = some (.cells #[.bool b, .string D] 30 (0, 0)) := by rw [hW]; exact alloc_at rfl
  have hz : w.heap.size < W.heap.size := by rw [hW]; simp
  have hBel : Below w.heap.size w W := by rw [hW]; exact (Below.refl _ _).alloc (Nat.le_refl _) _
  have HB := Lib.hid hBel
  have Q0 := Lib.hid q0
  have HW := Lib.hid hW
  have w1 : W.cell? ⟨w.heap.size, 1, none⟩ = some (.string D) := Lib.cell_of_heap q0 1
  clear q0 hBel
  go_enter Tryd.func16, Tryd.ntmps16
  go_wp2
  rw [← hW]
  clear hW w1
  go_loopw [4, 5] (fun o e wr => PartsRel n D.size W o e wr) (fun _ e _ => (intOf e + 9).toNat)
  case atStart => exact ⟨0, by simp, by omega, Lib.hid (World.ownsRow_nil _ _ _ _), Lib.hid (Below.refl _ _)⟩
  case round =>
    obtain ⟨j, rfl, hj, HO, HBW⟩ := hrel
    have hbz := HBW.out.size
    have q0 := (HBW.out.block w.heap.size hz).trans Q0.out
    have m0 : wr.cell? ⟨w.heap.size, 0, none⟩ = some (.bool b) := Lib.cell_of_heap q0 0
    have m1 : wr.cell? ⟨w.heap.size, 1, none⟩ = some (.string D) := Lib.cell_of_heap q0 1
    clear q0
    by_cases hgo : 9 * j < D.size
    · obtain ⟨e, he⟩ : ∃ e, e + 9 * j = D.size := ⟨D.size - 9 * j, by omega⟩
      have hei : (D.size : Int) - 9 * j = (e : Int) := by omega
      rw [hei]
      have e0 : (0 : Int) < e := by omega
      have e4 : (e : Int) ≤ 4000 := by omega
      have HE := Lib.hid he
      have HEI := Lib.hid hei
      clear he hei
      by_cases h9 : e < 9
      · have g9 : (e : Int) - 9 < 0 := by omega
        go_wp2
        obtain ⟨lo, hlo⟩ : ∃ lo, lo = e - 9 := ⟨_, rfl⟩
        have HLO := Lib.hid hlo
        have hlo2 : lo ≤ e := by omega
        have hlo9 : e ≤ lo + 9 := by omega
        clear hlo
        go_loop [6, 7] (fun m i => ∃ t : Nat, lo ≤ t ∧ t ≤ e ∧ i = .int .i64 t ∧ m = .int .u32 (seg D.data.toList lo t)) (fun _ i => e - (intOf i).toNat)
        case atStart => exact ⟨lo, Nat.le_refl _, hlo2, by have := HLO.out; congr 1; omega, by rw [seg_nil]; rfl⟩
        case round =>
          obtain ⟨t, ht1, ht2, rfl, rfl⟩ := hrel
          have t0 : (0 : Int) ≤ t := Int.natCast_nonneg _
          by_cases hin : t < e
          · have ht : t < D.size := by have := HE.out; omega
            have g1 : (t : Int) < e := by omega
            have g2 : (t : Int) < D.size := by omega
            have hsn := seg_snoc D.data.toList lo t ht1 (by rw [ba_len]; exact ht)
            have hslt := seg_lt D.data.toList HDD.out lo t
            have hs8 : seg D.data.toList lo t < 100000000 := Nat.lt_of_lt_of_le hslt (Nat.le_trans (Nat.pow_le_pow_right (by omega) (show t - lo ≤ 8 by omega)) (by omega))
            obtain ⟨v, hv⟩ : ∃ v, v = seg D.data.toList lo t := ⟨_, rfl⟩
            rw [← hv] at hsn hs8 ⊢
            have hcd : isD D[t] = true := HDD.out _ (by
              have : D.data.toList[t]'(by rw [ba_len]; exact ht) = D[t] := rfl
              rw [← this]; exact List.getElem_mem _)
            have hcn := (isD_nat _).1 hcd
            have hsn2 : seg D.data.toList lo (t + 1) = 10 * v + (D[t].toNat - 48) := hsn
            have HSN := Lib.hid hsn2
            have HS8 := Lib.hid hs8
            have HCN := Lib.hid hcn
            have v0 : (0 : Int) ≤ v := Int.natCast_nonneg _
            have v8 : (v : Int) < 100000000 := by omega
            have c1 : (48 : Int) ≤ D[t].toNat := by omega
            have c2 : (D[t].toNat : Int) ≤ 57 := by omega
            clear hsn hslt hs8 hv hcd hcn hsn2
            go_wp2
            go_round
            case rel => exact ⟨t + 1, by omega, by omega, by go_num, by rw [HSN.out]; congr 1; omega⟩
            case measure => simp [intOf]; omega
          · have hte : t = e := by omega
            have g1 : ¬ (t : Int) < e := by omega
            have hgrp : seg D.data.toList lo t = grp n j := by rw [hte, HLO.out]; exact HSG.out j e HE.out
            rw [hgrp]
            obtain ⟨x, hx⟩ : ∃ x, x = grp n j := ⟨_, rfl⟩
            rw [← hx]
            have HX := Lib.hid hx
            have hjl : j ≤ 500 := by have := HE.out; omega
            have hown := HO.out
            clear hgrp hx hte hin
            have k1 := World.news_of_block (w := wr.alloc (.cells #[.int .u32 (x : Int)] 40)) (cs := #[.int .u32 (x : Int)]) (t := 40) (fr := (0, 0)) (heap_alloc_new wr _)
            have K1 := Lib.hid k1
            have k2 : ∀ u ∈ [Value.int .u32 (x : Int)], u.oneCell' = true := by simp [Value.oneCell']
            have K2 := Lib.hid k2
            have k3 : j + 1 ≤ maxLen := by unfold maxLen; omega
            have K3 := Lib.hid k3
            have k5 : W.heap.size ≤ (wr.alloc (.cells #[.int .u32 (x : Int)] 40)).heap.size := by simp; omega
            have K5 := Lib.hid k5
            have HOA := Lib.hid (hown.alloc (.cells #[.int .u32 (x : Int)] 40))
            have OWN := Lib.hid hown
            clear k1 k2 k3 k5 hown
            go_wp2_with (at_builtin; refine wpList_append_own _ rfl _ _ 22 rfl W.heap.size 40 i0 (.int .u32 0) 1 4 Tryd.underlying22 hi hz0 hz1 hz2 rfl (by decide) _ _ _ rfl HOA.out ⟨wr.heap.size, 0, none⟩ 1 1 [.int .u32 x] rfl rfl K1.out K2.out K3.out (by omega) K5.out ?_)
            intro v' w5 hown5 hgrow5 _
            have HB5 := Lib.hid ((HBW.out.alloc hbz _).grown hgrow5 (by simp; omega) (fun k hk => (OWN.out.lt k hk).1))
            have HO5 := Lib.hid hown5
            clear hown5 hgrow5
            go_wp2
            exact ⟨⟨j + 1, by have := HEI.out; congr 1; omega, by have := HE.out; omega, by rw [grps_succ, List.map_append, ← HX.out]; exact HO5, HB5⟩, by have := HEI.out; simp [intOf]; omega⟩
      · have g9 : ¬ (e : Int) - 9 < 0 := by omega
        go_wp2
        obtain ⟨lo, hlo⟩ : ∃ lo, lo = e - 9 := ⟨_, rfl⟩
        have HLO := Lib.hid hlo
        have hlo2 : lo ≤ e := by omega
        have hlo9 : e ≤ lo + 9 := by omega
        clear hlo
        go_loop [6, 7] (fun m i => ∃ t : Nat, lo ≤ t ∧ t ≤ e ∧ i = .int .i64 t ∧ m = .int .u32 (seg D.data.toList lo t)) (fun _ i => e - (intOf i).toNat)
        case atStart => exact ⟨lo, Nat.le_refl _, hlo2, by have := HLO.out; congr 1; omega, by rw [seg_nil]; rfl⟩
        case round =>
          obtain ⟨t, ht1, ht2, rfl, rfl⟩ := hrel
          have t0 : (0 : Int) ≤ t := Int.natCast_nonneg _
          by_cases hin : t < e
          · have ht : t < D.size := by have := HE.out; omega
            have g1 : (t : Int) < e := by omega
            have g2 : (t : Int) < D.size := by omega
            have hsn := seg_snoc D.data.toList lo t ht1 (by rw [ba_len]; exact ht)
            have hslt := seg_lt D.data.toList HDD.out lo t
            have hs8 : seg D.data.toList lo t < 100000000 := Nat.lt_of_lt_of_le hslt (Nat.le_trans (Nat.pow_le_pow_right (by omega) (show t - lo ≤ 8 by omega)) (by omega))
            obtain ⟨v, hv⟩ : ∃ v, v = seg D.data.toList lo t := ⟨_, rfl⟩
            rw [← hv] at hsn hs8 ⊢
            have hcd : isD D[t] = true := HDD.out _ (by
              have : D.data.toList[t]'(by rw [ba_len]; exact ht) = D[t] := rfl
              rw [← this]; exact List.getElem_mem _)
            have hcn := (isD_nat _).1 hcd
            have hsn2 : seg D.data.toList lo (t + 1) = 10 * v + (D[t].toNat - 48) := hsn
            have HSN := Lib.hid hsn2
            have HS8 := Lib.hid hs8
            have HCN := Lib.hid hcn
            have v0 : (0 : Int) ≤ v := Int.natCast_nonneg _
            have v8 : (v : Int) < 100000000 := by omega
            have c1 : (48 : Int) ≤ D[t].toNat := by omega
            have c2 : (D[t].toNat : Int) ≤ 57 := by omega
            clear hsn hslt hs8 hv hcd hcn hsn2
            go_wp2
            go_round
            case rel => exact ⟨t + 1, by omega, by omega, by go_num, by rw [HSN.out]; congr 1; omega⟩
            case measure => simp [intOf]; omega
          · have hte : t = e := by omega
            have g1 : ¬ (t : Int) < e := by omega
            have hgrp : seg D.data.toList lo t = grp n j := by rw [hte, HLO.out]; exact HSG.out j e HE.out
            rw [hgrp]
            obtain ⟨x, hx⟩ : ∃ x, x = grp n j := ⟨_, rfl⟩
            rw [← hx]
            have HX := Lib.hid hx
            have hjl : j ≤ 500 := by have := HE.out; omega
            have hown := HO.out
            clear hgrp hx hte hin
            have k1 := World.news_of_block (w := wr.alloc (.cells #[.int .u32 (x : Int)] 40)) (cs := #[.int .u32 (x : Int)]) (t := 40) (fr := (0, 0)) (heap_alloc_new wr _)
            have K1 := Lib.hid k1
            have k2 : ∀ u ∈ [Value.int .u32 (x : Int)], u.oneCell' = true := by simp [Value.oneCell']
            have K2 := Lib.hid k2
            have k3 : j + 1 ≤ maxLen := by unfold maxLen; omega
            have K3 := Lib.hid k3
            have k5 : W.heap.size ≤ (wr.alloc (.cells #[.int .u32 (x : Int)] 40)).heap.size := by simp; omega
            have K5 := Lib.hid k5
            have HOA := Lib.hid (hown.alloc (.cells #[.int .u32 (x : Int)] 40))
            have OWN := Lib.hid hown
            clear k1 k2 k3 k5 hown
            go_wp2_with (at_builtin; refine wpList_append_own _ rfl _ _ 22 rfl W.heap.size 40 i0 (.int .u32 0) 1 4 Tryd.underlying22 hi hz0 hz1 hz2 rfl (by decide) _ _ _ rfl HOA.out ⟨wr.heap.size, 0, none⟩ 1 1 [.int .u32 x] rfl rfl K1.out K2.out K3.out (by omega) K5.out ?_)
            intro v' w5 hown5 hgrow5 _
            have HB5 := Lib.hid ((HBW.out.alloc hbz _).grown hgrow5 (by simp; omega) (fun k hk => (OWN.out.lt k hk).1))
            have HO5 := Lib.hid hown5
            clear hown5 hgrow5
            go_wp2
            exact ⟨⟨j + 1, by have := HEI.out; congr 1; omega, by have := HE.out; omega, by rw [grps_succ, List.map_append, ← HX.out]; exact HO5, HB5⟩, by have := HEI.out; simp [intOf]; omega⟩
    · have hge : ¬ (0 : Int) < (D.size : Int) - 9 * j := by omega
      have hdec := HZ3.out
      by_cases hn0 : n = 0
      · rw [decide_eq_true hn0] at hdec
        have HN0 := Lib.hid hn0
        clear hn0
        go_wp2
        go_ret2
        refine ⟨⟨.slice none 0 0, by rw [HBB.out]; rfl, ?_⟩, HB.out.trans (HBW.out.mono (show w.heap.size ≤ W.heap.size by omega))⟩
        rw [← HN.out, HN0.out, digB_zero]
        exact World.ownsRow_nil _ _ _ _
      · rw [decide_eq_false hn0] at hdec
        have hall : grps n j = digB n := grps_all hn0 (by rw [← HDL.out]; omega) (by rw [← HDL.out]; omega)
        have HALL := Lib.hid hall
        clear hall hn0
        go_wp2
        go_ret2
        refine ⟨⟨_, by rw [HBB.out]; rfl, ?_⟩, HB.out.trans (HBW.out.mono (show w.heap.size ≤ W.heap.size by omega))⟩
        rw [← HN.out, ← HALL.out, grps_len]
        exact own_base4 HO.out (by omega)
end Go.Proofs.YtibhfcnjmilepaaDoor

import Derived.Test.YtibhfcnjmilepaaDoorNumJ
namespace Go.Proofs.YtibhfcnjmilepaaDoor
open Go.RowKit

/-- the number of a text, if it has one -/
def bodyZ (m : Bool) (d : List UInt8) : Option Int := if d ≠ [] ∧ d.all isD = true then some (sg m (valL d)) else none
def readZ (l : List UInt8) : Option Int := if l.head? = some 45 then bodyZ true l.tail else bodyZ false l
def readV : Option Int → Value
  | some z => .tuple #[intV z, .int .i64 0]
  | none => .tuple #[.agg #[.bool false, .string ⟨#[]⟩], .int .i64 2]
theorem body_none {m : Bool} {d : List UInt8} {k : Nat} (hk : k < d.length) (h : isD d[k] = false) : bodyZ m d = none := by
  unfold bodyZ
  rw [if_neg]
  rintro ⟨_, h2⟩
  rw [List.all_eq_true] at h2
  have := h2 _ (List.getElem_mem hk)
  rw [h] at this; cases this
theorem body_some {m : Bool} {d : List UInt8} (h0 : d ≠ []) (h : ∀ k (hk : k < d.length), isD d[k] = true) : bodyZ m d = some (sg m (valL d)) := by
  unfold bodyZ
  refine if_pos ⟨h0, ?_⟩
  rw [List.all_eq_true]
  intro c hc
  obtain ⟨k, hk, rfl⟩ := List.getElem_of_mem hc
  exact h k hk

set_option maxRecDepth 100000 in
set_option maxHeartbeats 4000000 in
theorem rread_any (s : ByteArray) (hs : s.size ≤ 10000) (w : World) :
    Calls Tryd.prog 10 #[.string s] w fun e w' => e = .returned (readV (readZ s.data.toList)) ∧ Below w.heap.size w w' := by
  obtain ⟨m, hm⟩ : ∃ m, m = decide (s.data.toList.head? = some 45) := ⟨_, rfl⟩
  obtain ⟨D, hD⟩ : ∃ D, D = if s.data.toList.head? = some 45 then s.extract 1 s.size else s := ⟨_, rfl⟩
  have hR : readZ s.data.toList = bodyZ m D.data.toList := by
    unfold readZ
    by_cases h : s.data.toList.head? = some 45
    · rw [if_pos h, hm, hD, if_pos h, decide_eq_true h, ext_tail]; congr 1; exact List.drop_one.symm
    · rw [if_neg h, hm, hD, if_neg h, decide_eq_false h]
  have hDs : D.size ≤ 10000 := by
    rw [hD]; split
    · simp [ByteArray.size_extract]; omega
    · exact hs
  have HR := Lib.hid hR
  have HDS := Lib.hid hDs
  have MD := fun (h : allD D.data.toList) w => made_any m D h (by omega) w
  have HMD := Lib.hid MD
  clear hR MD
  obtain ⟨W, hW⟩ : ∃ W, W = w.alloc (.cells #[.bool false, .string ⟨#[]⟩] 30) := ⟨_, rfl⟩
  have q2 : W.heap[w.heap.size]? = some (.cells #[.bool false, .string ⟨#[]⟩] 30 (0, 0)) := by rw [hW]; exact alloc_at rfl
  have hz : w.heap.size < W.heap.size := by rw [hW]; simp
  have hBel : Below w.heap.size w W := by rw [hW]; exact (Below.refl _ _).alloc (Nat.le_refl _) _
  have HB := Lib.hid hBel
  have Q2 := Lib.hid q2
  have HW := Lib.hid hW
  clear hW q2 hBel
  by_cases h0 : 0 < s.size
  · have hh := head_some s h0
    have e45 : ((s[0].toNat : Int) == 45) = decide (s[0] = 45) := u8_eq _ 45
    have hp : (0 : Int) < s.size := by omega
    by_cases h45 : s[0] = 45
    · rw [decide_eq_true h45] at e45
      rw [hh, h45, if_pos rfl] at hD
      rw [hh, h45, decide_eq_true rfl] at hm
      subst hm
      have HD := Lib.hid hD
      clear hh h45 hD
      go_enter Tryd.func10, Tryd.ntmps10
      go_wp2
      rw [← HW.out, ← HD.out]
      go_loop [5] (fun i => ∃ k : Nat, k ≤ D.size ∧ i = .int .i64 k ∧ Hid (∀ j (h : j < D.size), j < k → isD D[j] = true)) (fun i => D.size - (intOf i).toNat)
      case atStart => exact ⟨0, by omega, rfl, Lib.hid (fun j h hj => by omega)⟩
      case round =>
        obtain ⟨k, hk, rfl, HK⟩ := hrel
        have k0 : (0 : Int) ≤ k := Int.natCast_nonneg _
        have z0 : W.cell? ⟨w.heap.size, 0, none⟩ = some (.bool false) := Lib.cell_of_heap Q2.out 0
        have z1 : W.cell? ⟨w.heap.size, 1, none⟩ = some (.string ⟨#[]⟩) := Lib.cell_of_heap Q2.out 1
        have f0 : W.frozen? ⟨w.heap.size, 0, none⟩ = false := Lib.frozen_of_heap Q2.out 0
        have f1 : W.frozen? ⟨w.heap.size, 1, none⟩ = false := Lib.frozen_of_heap Q2.out 1
        by_cases hgo : k < D.size
        · have h1 : (k : Int) < D.size := by omega
          cases hd : isD D[k] with
          | true =>
            have hcn := (isD_nat _).1 hd
            have g1 : ¬ (D[k].toNat : Int) < 48 := by omega
            have g2 : ¬ (57 : Int) < (D[k].toNat : Int) := by omega
            have HK2 : Hid (∀ j (h : j < D.size), j < k + 1 → isD D[j] = true) := Lib.hid fun j h hj => by
              by_cases e : j = k
              · subst e; exact hd
              · exact HK.out j h (by omega)
            clear hd hcn
            go_wp2
            go_round
            case rel => exact ⟨k + 1, by omega, by go_num, HK2⟩
            case measure => simp [intOf]; omega
          | false =>
            have HN : Hid (bodyZ true D.data.toList = none) := Lib.hid (body_none (k := k) (by rw [ba_len]; exact hgo) hd)
            have hcn : (D[k].toNat : Int) < 48 ∨ (¬ (D[k].toNat : Int) < 48 ∧ (57 : Int) < (D[k].toNat : Int)) := by
              have : ¬ (48 ≤ D[k].toNat ∧ D[k].toNat ≤ 57) := fun h => by rw [(isD_nat _).2 h] at hd; cases hd
              omega
            clear hd
            rcases hcn with g1 | ⟨g1, g2⟩
            all_goals
              go_wp2
              exact bodyPost_ret (v := .tuple #[.agg #[.bool false, .string ⟨#[]⟩], .int .i64 2]) (by simp [results, Tryd.results10, go_sem, z0, z1]) rfl ⟨by rw [HR.out, HN.out]; rfl, (HB.out.setCell (p := ⟨w.heap.size, 0, none⟩) (Nat.le_refl _) _).setCell (p := ⟨w.heap.size, 1, none⟩) (Nat.le_refl _) _⟩
        · have h1 : ¬ (k : Int) < D.size := by omega
          by_cases hD0 : D.size = 0
          · have hl : D.toList = [] := by rw [Lib.toList_data]; exact List.length_eq_zero_iff.1 (by rw [ba_len]; exact hD0)
            have hl2 : D.toList.isEmpty = true := by rw [hl]; rfl
            have HN : Hid (bodyZ true D.data.toList = none) := by
              show _ = _
              rw [← Lib.toList_data, hl]; rfl
            clear hgo hD0
            go_wp2
            exact bodyPost_ret (v := .tuple #[.agg #[.bool false, .string ⟨#[]⟩], .int .i64 2]) (by simp [results, Tryd.results10, go_sem, z0, z1]) rfl ⟨by rw [HR.out, HN.out]; rfl, (HB.out.setCell (p := ⟨w.heap.size, 0, none⟩) (Nat.le_refl _) _).setCell (p := ⟨w.heap.size, 1, none⟩) (Nat.le_refl _) _⟩
          · have hne : D.data.toList ≠ [] := fun h => hD0 (by rw [← ba_len, h]; rfl)
            have hl2 : D.toList.isEmpty = false := by rw [Lib.toList_data, List.isEmpty_eq_false_iff]; exact hne
            have hall : allD D.data.toList := by
              intro x hx
              obtain ⟨j, hj, rfl⟩ := List.getElem_of_mem hx
              exact HK.out j (by rw [← ba_len]; exact hj) (by rw [ba_len] at hj; omega)
            have HN : Hid (bodyZ true D.data.toList = some (sg true (valL D.data.toList))) := Lib.hid (body_some hne fun j hj => hall _ (List.getElem_mem hj))
            have M := HMD.out hall W
            obtain ⟨z, hz2⟩ : ∃ z, z = sg true (valL D.data.toList) := ⟨_, rfl⟩
            rw [← hz2] at M HN
            obtain ⟨zb, hzb⟩ : ∃ zb, zb = decide (z < 0) := ⟨_, rfl⟩
            obtain ⟨zs, hzs⟩ : ∃ zs, zs = decS z.natAbs := ⟨_, rfl⟩
            have HZ : Hid (readV (some z) = .tuple #[.agg #[.bool zb, .string zs], .int .i64 0]) := by show _ = _; rw [hzb, hzs]; rfl
            unfold intV smV at M
            rw [← hzb, ← hzs] at M
            have HM := Lib.hid M
            clear M hz2 hzb hzs hall hne hgo hD0
            go_wp2_with fail
            refine HM.out.mono ?_
            rintro e w6 ⟨rfl, hb6⟩
            have HB6 := Lib.hid (HB.out.trans (hb6.mono (show w.heap.size ≤ W.heap.size by omega)))
            have q6 := (hb6.block w.heap.size hz).trans Q2.out
            have z0 : w6.cell? ⟨w.heap.size, 0, none⟩ = some (.bool false) := Lib.cell_of_heap q6 0
            have z1 : w6.cell? ⟨w.heap.size, 1, none⟩ = some (.string ⟨#[]⟩) := Lib.cell_of_heap q6 1
            have f0 : w6.frozen? ⟨w.heap.size, 0, none⟩ = false := Lib.frozen_of_heap q6 0
            have f1 : w6.frozen? ⟨w.heap.size, 1, none⟩ = false := Lib.frozen_of_heap q6 1
            clear hb6 q6
            go_wp2
            exact bodyPost_ret (v := .tuple #[.agg #[.bool zb, .string zs], .int .i64 0]) (by simp [results, Tryd.results10, go_sem, z0, z1]) rfl ⟨by rw [HR.out, HN.out, HZ.out], (HB6.out.setCell (p := ⟨w.heap.size, 0, none⟩) (Nat.le_refl _) _).setCell (p := ⟨w.heap.size, 1, none⟩) (Nat.le_refl _) _⟩
    · rw [decide_eq_false h45] at e45
      rw [hh, if_neg (by simpa using h45)] at hD
      rw [hh, decide_eq_false (by simpa using h45)] at hm
      subst hm
      subst hD
      clear hh h45
      go_enter Tryd.func10, Tryd.ntmps10
      go_wp2
      rw [← HW.out]
      go_loop [5] (fun i => ∃ k : Nat, k ≤ D.size ∧ i = .int .i64 k ∧ Hid (∀ j (h : j < D.size), j < k → isD D[j] = true)) (fun i => D.size - (intOf i).toNat)
      case atStart => exact ⟨0, by omega, rfl, Lib.hid (fun j h hj => by omega)⟩
      case round =>
        obtain ⟨k, hk, rfl, HK⟩ := hrel
        have k0 : (0 : Int) ≤ k := Int.natCast_nonneg _
        have z0 : W.cell? ⟨w.heap.size, 0, none⟩ = some (.bool false) := Lib.cell_of_heap Q2.out 0
        have z1 : W.cell? ⟨w.heap.size, 1, none⟩ = some (.string ⟨#[]⟩) := Lib.cell_of_heap Q2.out 1
        have f0 : W.frozen? ⟨w.heap.size, 0, none⟩ = false := Lib.frozen_of_heap Q2.out 0
        have f1 : W.frozen? ⟨w.heap.size, 1, none⟩ = false := Lib.frozen_of_heap Q2.out 1
        by_cases hgo : k < D.size
        · have h1 : (k : Int) < D.size := by omega
          cases hd : isD D[k] with
          | true =>
            have hcn := (isD_nat _).1 hd
            have g1 : ¬ (D[k].toNat : Int) < 48 := by omega
            have g2 : ¬ (57 : Int) < (D[k].toNat : Int) := by omega
            have HK2 : Hid (∀ j (h : j < D.size), j < k + 1 → isD D[j] = true) := Lib.hid fun j h hj => by
              by_cases e : j = k
              · subst e; exact hd
              · exact HK.out j h (by omega)
            clear hd hcn
            go_wp2
            go_round
            case rel => exact ⟨k + 1, by omega, by go_num, HK2⟩
            case measure => simp [intOf]; omega
          | false =>
            have HN : Hid (bodyZ false D.data.toList = none) := Lib.hid (body_none (k := k) (by rw [ba_len]; exact hgo) hd)
            have hcn : (D[k].toNat : Int) < 48 ∨ (¬ (D[k].toNat : Int) < 48 ∧ (57 : Int) < (D[k].toNat : Int)) := by
              have : ¬ (48 ≤ D[k].toNat ∧ D[k].toNat ≤ 57) := fun h => by rw [(isD_nat _).2 h] at hd; cases hd
              omega
            clear hd
            rcases hcn with g1 | ⟨g1, g2⟩
            all_goals
              go_wp2
              exact bodyPost_ret (v := .tuple #[.agg #[.bool false, .string ⟨#[]⟩], .int .i64 2]) (by simp [results, Tryd.results10, go_sem, z0, z1]) rfl ⟨by rw [HR.out, HN.out]; rfl, (HB.out.setCell (p := ⟨w.heap.size, 0, none⟩) (Nat.le_refl _) _).setCell (p := ⟨w.heap.size, 1, none⟩) (Nat.le_refl _) _⟩
        · have h1 : ¬ (k : Int) < D.size := by omega
          by_cases hD0 : D.size = 0
          · have hl : D.toList = [] := by rw [Lib.toList_data]; exact List.length_eq_zero_iff.1 (by rw [ba_len]; exact hD0)
            have hl2 : D.toList.isEmpty = true := by rw [hl]; rfl
            have HN : Hid (bodyZ false D.data.toList = none) := by
              show _ = _
              rw [← Lib.toList_data, hl]; rfl
            clear hgo hD0
            go_wp2
            exact bodyPost_ret (v := .tuple #[.agg #[.bool false, .string ⟨#[]⟩], .int .i64 2]) (by simp [results, Tryd.results10, go_sem, z0, z1]) rfl ⟨by rw [HR.out, HN.out]; rfl, (HB.out.setCell (p := ⟨w.heap.size, 0, none⟩) (Nat.le_refl _) _).setCell (p := ⟨w.heap.size, 1, none⟩) (Nat.le_refl _) _⟩
          · have hne : D.data.toList ≠ [] := fun h => hD0 (by rw [← ba_len, h]; rfl)
            have hl2 : D.toList.isEmpty = false := by rw [Lib.toList_data, List.isEmpty_eq_false_iff]; exact hne
            have hall : allD D.data.toList := by
              intro x hx
              obtain ⟨j, hj, rfl⟩ := List.getElem_of_mem hx
              exact HK.out j (by rw [← ba_len]; exact hj) (by rw [ba_len] at hj; omega)
            have HN : Hid (bodyZ false D.data.toList = some (sg false (valL D.data.toList))) := Lib.hid (body_some hne fun j hj => hall _ (List.getElem_mem hj))
            have M := HMD.out hall W
            obtain ⟨z, hz2⟩ : ∃ z, z = sg false (valL D.data.toList) := ⟨_, rfl⟩
            rw [← hz2] at M HN
            obtain ⟨zb, hzb⟩ : ∃ zb, zb = decide (z < 0) := ⟨_, rfl⟩
            obtain ⟨zs, hzs⟩ : ∃ zs, zs = decS z.natAbs := ⟨_, rfl⟩
            have HZ : Hid (readV (some z) = .tuple #[.agg #[.bool zb, .string zs], .int .i64 0]) := by show _ = _; rw [hzb, hzs]; rfl
            unfold intV smV at M
            rw [← hzb, ← hzs] at M
            have HM := Lib.hid M
            clear M hz2 hzb hzs hall hne hgo hD0
            go_wp2_with fail
            refine HM.out.mono ?_
            rintro e w6 ⟨rfl, hb6⟩
            have HB6 := Lib.hid (HB.out.trans (hb6.mono (show w.heap.size ≤ W.heap.size by omega)))
            have q6 := (hb6.block w.heap.size hz).trans Q2.out
            have z0 : w6.cell? ⟨w.heap.size, 0, none⟩ = some (.bool false) := Lib.cell_of_heap q6 0
            have z1 : w6.cell? ⟨w.heap.size, 1, none⟩ = some (.string ⟨#[]⟩) := Lib.cell_of_heap q6 1
            have f0 : w6.frozen? ⟨w.heap.size, 0, none⟩ = false := Lib.frozen_of_heap q6 0
            have f1 : w6.frozen? ⟨w.heap.size, 1, none⟩ = false := Lib.frozen_of_heap q6 1
            clear hb6 q6
            go_wp2
            exact bodyPost_ret (v := .tuple #[.agg #[.bool zb, .string zs], .int .i64 0]) (by simp [results, Tryd.results10, go_sem, z0, z1]) rfl ⟨by rw [HR.out, HN.out, HZ.out], (HB6.out.setCell (p := ⟨w.heap.size, 0, none⟩) (Nat.le_refl _) _).setCell (p := ⟨w.heap.size, 1, none⟩) (Nat.le_refl _) _⟩
  · have hnil : s.data.toList = [] := List.length_eq_zero_iff.1 (by rw [ba_len]; omega)
    rw [hnil, if_neg (by simp)] at hD
    rw [hnil, decide_eq_false (by simp)] at hm
    subst hm
    have hp : ¬ (0 : Int) < s.size := by omega
    subst hD
    clear hnil
    go_enter Tryd.func10, Tryd.ntmps10
    go_wp2
    rw [← HW.out]
    go_loop [5] (fun i => ∃ k : Nat, k ≤ D.size ∧ i = .int .i64 k ∧ Hid (∀ j (h : j < D.size), j < k → isD D[j] = true)) (fun i => D.size - (intOf i).toNat)
    case atStart => exact ⟨0, by omega, rfl, Lib.hid (fun j h hj => by omega)⟩
    case round =>
      obtain ⟨k, hk, rfl, HK⟩ := hrel
      have k0 : (0 : Int) ≤ k := Int.natCast_nonneg _
      have z0 : W.cell? ⟨w.heap.size, 0, none⟩ = some (.bool false) := Lib.cell_of_heap Q2.out 0
      have z1 : W.cell? ⟨w.heap.size, 1, none⟩ = some (.string ⟨#[]⟩) := Lib.cell_of_heap Q2.out 1
      have f0 : W.frozen? ⟨w.heap.size, 0, none⟩ = false := Lib.frozen_of_heap Q2.out 0
      have f1 : W.frozen? ⟨w.heap.size, 1, none⟩ = false := Lib.frozen_of_heap Q2.out 1
      by_cases hgo : k < D.size
      · omega
      · have h1 : ¬ (k : Int) < D.size := by omega
        by_cases hD0 : D.size = 0
        · have hl : D.toList = [] := by rw [Lib.toList_data]; exact List.length_eq_zero_iff.1 (by rw [ba_len]; exact hD0)
          have hl2 : D.toList.isEmpty = true := by rw [hl]; rfl
          have HN : Hid (bodyZ false D.data.toList = none) := by
            show _ = _
            rw [← Lib.toList_data, hl]; rfl
          clear hgo hD0
          go_wp2
          exact bodyPost_ret (v := .tuple #[.agg #[.bool false, .string ⟨#[]⟩], .int .i64 2]) (by simp [results, Tryd.results10, go_sem, z0, z1]) rfl ⟨by rw [HR.out, HN.out]; rfl, (HB.out.setCell (p := ⟨w.heap.size, 0, none⟩) (Nat.le_refl _) _).setCell (p := ⟨w.heap.size, 1, none⟩) (Nat.le_refl _) _⟩
        · omega
end Go.Proofs.YtibhfcnjmilepaaDoor

import Derived.Test.YtibhfcnjmilepaaDoorNumO
namespace Go.Proofs.YtibhfcnjmilepaaDoor
open Go.RowKit

theorem joinV_none (m : Bool) (l : List Nat) (h : joinZ m l = none) (zs : ByteArray) (hz : zs = decS 0) : joinV (joinZ m l) = .tuple #[.agg #[.bool false, .string zs], .int .i64 1] := by
  rw [h, hz]; rfl

set_option maxRecDepth 100000 in
set_option maxHeartbeats 4000000 in
theorem rjoin_any (m : Bool) (v : Value) (l : List Nat) (hl : l.length ≤ 100) (hu : ∀ j, j < l.length → l.getD j 0 < 4294967296) (w : World) (h : U32s w v l) :
    Calls Tryd.prog 14 #[.bool m, v] w fun e w' => e = .returned (joinV (joinZ m l)) ∧ Below w.heap.size w w' := by
  have M0 := fun w => made_dec false 0 (by rw [decN_small (by omega)]; simp) w
  rw [decS_0] at M0
  obtain ⟨zs0, hzs0⟩ : ∃ zs0, zs0 = decS 0 := ⟨_, rfl⟩
  have M1 : ∀ w : World, Calls Tryd.prog 37 #[.bool false, .string ⟨#[48]⟩] w fun e w' => e = .returned (.agg #[.bool false, .string zs0]) ∧ Below w.heap.size w w' := by rw [hzs0]; exact M0
  have HM0 := Lib.hid M1
  have HZ0 := Lib.hid hzs0
  obtain ⟨pa, pc, rfl⟩ := h.val
  obtain ⟨n, hn⟩ : ∃ n, n = l.length := ⟨_, rfl⟩
  rw [← hn] at h ⊢
  have HN := Lib.hid hn
  have HU := Lib.hid h
  have HU32 := Lib.hid hu
  have hn1 : n ≤ 100 := by omega
  clear M0 M1 hzs0 hn h hu hl
  obtain ⟨W, hW⟩ : ∃ W, W = w.alloc (.cells #[.bool false, .string ⟨#[]⟩] 30) := ⟨_, rfl⟩
  have q0 : W.heap[w.heap.size]? = some (.cells #[.bool false, .string ⟨#[]⟩] 30 (0, 0)) := by rw [hW]; exact alloc_at rfl
  have hz : w.heap.size < W.heap.size := by rw [hW]; simp
  have hBel : Below w.heap.size w W := by rw [hW]; exact (Below.refl _ _).alloc (Nat.le_refl _) _
  have HB := Lib.hid hBel
  have Q0 := Lib.hid q0
  go_enter Tryd.func14, Tryd.ntmps14
  go_wp2
  rw [← hW]
  clear hW q0 hBel
  go_loopw [6, 7] (fun d i wr => JoinRel l W d i wr) (fun _ i _ => n - (intOf i).toNat)
  case atStart => exact ⟨0, [], by omega, rfl, rfl, Lib.hid rfl, Lib.hid (fun c hc => by cases hc), Lib.hid (by simp [valB, valL]), Lib.hid (fun j hj => by omega), Lib.hid (Below.refl _ _)⟩
  case round =>
    obtain ⟨k, X, hk, rfl, rfl, HX, HXD, HXV, HSM, HBW⟩ := hrel
    rw [← HN.out] at hk
    have k0 : (0 : Int) ≤ k := Int.natCast_nonneg _
    have hbz := HBW.out.size
    have hXl : X.length ≤ 900 := by rw [HX.out]; omega
    by_cases hgo : k < n
    · have h1 : (k : Int) < n := by omega
      have hkl : k < l.length := by rw [← HN.out]; exact hgo
      obtain ⟨b, off, rfl, hbl, hcs⟩ : ∃ b off, pa = some ⟨b, off, none⟩ ∧ b < w.heap.size ∧ w.cell? ⟨b, off + k, none⟩ = some (u32V (l.getD k 0)) := by
        rcases HU.out with ⟨h0, _⟩ | ⟨b, off, cap, e, hb, hc⟩
        · rw [h0] at hkl; simp at hkl
        · cases e; exact ⟨b, off, rfl, hb, hc k hkl⟩
      obtain ⟨x, hx⟩ : ∃ x, x = l.getD k 0 := ⟨_, rfl⟩
      have hx32 := HU32.out k hkl
      rw [← hx] at hcs hx32
      have e1 : wr.cell? ⟨b, off + k, none⟩ = some (.int .u32 x) := (HBW.out.cell (p := ⟨b, off + k, none⟩) (show b < W.heap.size by omega)).trans ((HB.out.cell (p := ⟨b, off + k, none⟩) hbl).trans hcs)
      have x0 : (0 : Int) ≤ x := Int.natCast_nonneg _
      have HXX := Lib.hid hx
      by_cases hbig : x < 1000000000
      · have g1 : ¬ (1000000000 : Int) ≤ x := by omega
        have hsm : ∀ j, j < k + 1 → l.getD j 0 < bigB := fun j hj => by
          by_cases e : j = k
          · subst e; rw [← hx]; exact hbig
          · exact HSM.out j (by omega)
        have HSM2 := Lib.hid hsm
        obtain ⟨V, hV⟩ : ∃ V, V = valB (l.take k) := ⟨_, rfl⟩
        have hVn : valB (l.take (k + 1)) = V + bigB ^ k * x := by rw [valB_take l k hkl, hV, hx]
        have HVN := Lib.hid hVn
        have HXV2 : Hid (valL X = V) := by rw [hV]; exact HXV
        clear hcs hx hsm hV hVn HXV
        go_wp2
        obtain ⟨wo, rfl⟩ : ∃ wo : World, wo = wr := ⟨_, rfl⟩
        go_loopw [6, 8, 9] (fun d y t wr => JoinIn V x (9 * k) W d y t wr) (fun _ _ t _ => 9 - (intOf t).toNat)
        case atStart => exact ⟨0, X, by omega, rfl, by simp, rfl, Lib.hid (by rw [HX.out]; omega), HXD, Lib.hid (by rw [HXV2.out, Nat.pow_zero, Nat.mod_one]; omega), HBW⟩
        case round =>
          obtain ⟨t, Y, ht, rfl, rfl, rfl, HY, HYD, HYV, HBW2⟩ := hrel
          have t0 : (0 : Int) ≤ t := Int.natCast_nonneg _
          have hbz2 := HBW2.out.size
          have hYl : Y.length ≤ 1000 := by rw [HY.out]; omega
          by_cases hin : t < 9
          · have g9 : (t : Int) < 9 := by omega
            have hst := dig_step HY.out HYD.out HYV.out
            have hdd : x / 10 ^ (t + 1) = x / 10 ^ t / 10 := by rw [Nat.pow_succ, Nat.div_div_eq_div_mul]
            have hyx : x / 10 ^ t ≤ x := Nat.div_le_self _ _
            obtain ⟨y, hy⟩ : ∃ y, y = x / 10 ^ t := ⟨_, rfl⟩
            rw [← hy] at hst hdd hyx ⊢
            have y0 : (0 : Int) ≤ y := Int.natCast_nonneg _
            have y9 : (y : Int) < 1000000000 := by omega
            have hcv := conv1 wr (48 + (y : Int) % 10) (y % 10) (by omega) (Nat.mod_lt _ (by omega))
            have HST := Lib.hid hst
            have HDD := Lib.hid hdd
            clear hst hdd hy hyx
            go_wp2
            exact ⟨⟨t + 1, dig (y % 10) :: Y, by omega, by go_num, by rw [HDD.out]; congr 1, by congr 1, Lib.hid HST.out.2.1, Lib.hid HST.out.1, Lib.hid HST.out.2.2, Lib.hid (HBW2.out.alloc hbz2 _)⟩, by simp [intOf]; omega⟩
          · have g9 : ¬ (t : Int) < 9 := by omega
            have ht9 : t = 9 := by omega
            have hyv : valL Y = valB (l.take (k + 1)) := by
              rw [HYV.out, HVN.out, ht9, pow_nine]
              congr 2
              exact Nat.mod_eq_of_lt hbig
            have HYV2 := Lib.hid hyv
            have hyl : Y.length = 9 * (k + 1) := by rw [HY.out, ht9]; omega
            have HYL := Lib.hid hyl
            clear hyv hyl
            go_wp2
            exact ⟨⟨k + 1, Y, by rw [← HN.out]; omega, by go_num, rfl, HYL, HYD, HYV2, HSM2, HBW2⟩, by simp [intOf]; omega⟩
      · have g1 : (1000000000 : Int) ≤ x := by omega
        have HJ := Lib.hid (joinV_none m l (join_big hkl (by rw [← hx]; exact hbig)) zs0 HZ0.out)
        clear hcs hx hbig
        go_wp2_with fail
        refine (HM0.out _).mono ?_
        rintro e w6 ⟨rfl, hb6⟩
        have HB6 := Lib.hid (HB.out.trans ((HBW.out.trans (hb6.mono hbz)).mono (show w.heap.size ≤ W.heap.size by omega)))
        have q6 := (hb6.block w.heap.size (show w.heap.size < wr.heap.size by omega)).trans ((HBW.out.block w.heap.size hz).trans Q0.out)
        have z0 : w6.cell? ⟨w.heap.size, 0, none⟩ = some (.bool false) := Lib.cell_of_heap q6 0
        have z1 : w6.cell? ⟨w.heap.size, 1, none⟩ = some (.string ⟨#[]⟩) := Lib.cell_of_heap q6 1
        have f0 : w6.frozen? ⟨w.heap.size, 0, none⟩ = false := Lib.frozen_of_heap q6 0
        have f1 : w6.frozen? ⟨w.heap.size, 1, none⟩ = false := Lib.frozen_of_heap q6 1
        clear hb6 q6
        go_wp2
        exact bodyPost_ret (v := .tuple #[.agg #[.bool false, .string zs0], .int .i64 1]) (by simp [results, Tryd.results14, go_sem, z0, z1]) rfl ⟨by rw [HJ.out], (HB6.out.setCell (p := ⟨w.heap.size, 0, none⟩) (Nat.le_refl _) _).setCell (p := ⟨w.heap.size, 1, none⟩) (Nat.le_refl _) _⟩
    · have h1 : ¬ (k : Int) < n := by omega
      have hkn : k = n := by omega
      have hfull : valL X = valB l := by rw [HXV.out, List.take_of_length_le (by rw [← HN.out]; omega)]
      have hall := all_small (l := l) (fun j hj => HSM.out j (by rw [hkn, HN.out]; exact hj))
      have MD := made_any m ⟨X.toArray⟩ HXD.out (by rw [ba_size]; omega) wr
      rw [ba_mk, hfull] at MD
      obtain ⟨z, hzz⟩ : ∃ z, z = sg m (valB l) := ⟨_, rfl⟩
      have hzl : (decN z.natAbs).length ≤ 4000 := by
        rw [hzz, sg_abs, ← hfull]
        have hv := val_lt X HXD.out
        have hp := Nat.pow_le_pow_right (n := 10) (by omega) (Nat.le_succ X.length)
        exact Nat.le_trans ((dec_len (Nat.succ_pos X.length)).2 (Nat.lt_of_lt_of_le hv hp)) (by omega)
      have PT := fun w => rparts_any z hzl w
      obtain ⟨q, hq⟩ : ∃ q, q = (digB z.natAbs).length := ⟨_, rfl⟩
      have hjz : ∀ zb, zb = decide (z < 0) → joinZ m l = if zb = m ∧ q = n then some z else none := by
        rintro zb rfl
        unfold joinZ
        rw [← hzz, hq, hzz, sg_abs, ← hzz, HN.out, hall]
        simp only [true_and]
      rw [← hzz] at MD
      obtain ⟨zb, hzb⟩ : ∃ zb, zb = decide (z < 0) := ⟨_, rfl⟩
      obtain ⟨zs, hzs⟩ : ∃ zs, zs = decS z.natAbs := ⟨_, rfl⟩
      have hj2 := hjz zb hzb
      have hiv : Hid (joinV (some z) = .tuple #[.agg #[.bool zb, .string zs], .int .i64 0]) := by show _ = _; rw [hzb, hzs]; rfl
      unfold intV smV at MD PT
      rw [← hzb, ← hzs] at MD PT
      have HMD := Lib.hid MD
      have HPT := Lib.hid PT
      have HQ := Lib.hid hq
      have HJ2 := Lib.hid hj2
      have HZB := Lib.hid hzb
      clear MD PT hq hj2 hjz hzb hzs hzl hzz hall hfull hkn hgo
      go_wp2_with fail
      refine HMD.out.mono ?_
      rintro e w6 ⟨rfl, hb6⟩
      have hbz6 := hb6.size
      have HB6 := Lib.hid (HBW.out.trans (hb6.mono hbz))
      clear hb6
      go_wp2_with fail
      refine (HPT.out _).mono ?_
      rintro e w7 ⟨⟨v', rfl, hown⟩, hb7⟩
      obtain ⟨a', c', hv'⟩ := (U32s.of_own hown).val
      rw [← HQ.out] at hv'
      subst hv'
      rw [← HZB.out]
      have B6 := (Below.refl w6.heap.size w6).alloc (Nat.le_refl _) (.cells #[.bool zb, .string zs] 30)
      have hbz7 : w6.heap.size < w7.heap.size := by have := hb7.size; simp at this; omega
      have HB7 := Lib.hid (HB6.out.trans ((B6.trans (hb7.mono (by simp))).mono (show W.heap.size ≤ w6.heap.size by omega)))
      have HB70 := Lib.hid (HB.out.trans (HB7.out.mono (show w.heap.size ≤ W.heap.size by omega)))
      have qa := (hb7.block w6.heap.size (by simp)).trans (heap_alloc_new w6 (.cells #[.bool zb, .string zs] 30))
      have a0 : w7.cell? ⟨w6.heap.size, 0, none⟩ = some (.bool zb) := Lib.cell_of_heap qa 0
      have a1 : w7.cell? ⟨w6.heap.size, 1, none⟩ = some (.string zs) := Lib.cell_of_heap qa 1
      have qr := (HB7.out.block w.heap.size hz).trans Q0.out
      have QR := Lib.hid qr
      have z0 : w7.cell? ⟨w.heap.size, 0, none⟩ = some (.bool false) := Lib.cell_of_heap qr 0
      have z1 : w7.cell? ⟨w.heap.size, 1, none⟩ = some (.string ⟨#[]⟩) := Lib.cell_of_heap qr 1
      have f0 : w7.frozen? ⟨w.heap.size, 0, none⟩ = false := Lib.frozen_of_heap qr 0
      have f1 : w7.frozen? ⟨w.heap.size, 1, none⟩ = false := Lib.frozen_of_heap qr 1
      clear hb7 B6 qa qr hown
      by_cases hok : zb = m ∧ q = n
      · have HJ : Hid (joinV (joinZ m l) = .tuple #[.agg #[.bool zb, .string zs], .int .i64 0]) := by
          show _ = _
          rw [HJ2.out, if_pos hok, hiv.out]
        have g2 : ((q : Int) != (n : Int)) = false := by rw [hok.2]; simp
        obtain ⟨hm, _⟩ := hok
        subst hm
        go_wp2
        exact bodyPost_ret (v := .tuple #[.agg #[.bool zb, .string zs], .int .i64 0]) (by simp [results, Tryd.results14, go_sem, z0, z1]) rfl ⟨by rw [HJ.out], (HB70.out.setCell (p := ⟨w.heap.size, 0, none⟩) (Nat.le_refl _) _).setCell (p := ⟨w.heap.size, 1, none⟩) (Nat.le_refl _) _⟩
      · have HJ := Lib.hid (joinV_none m l (by rw [HJ2.out, if_neg hok]) zs0 HZ0.out)
        by_cases e : zb = m
        · subst e
          have g2 : ((q : Int) != (n : Int)) = true := by
            rw [bne_iff_ne]
            intro e2
            exact hok ⟨rfl, by omega⟩
          clear hok
          go_wp2_with fail
          refine (HM0.out _).mono ?_
          rintro e w8 ⟨rfl, hb8⟩
          have HB8 := Lib.hid (HB70.out.trans (hb8.mono (show w.heap.size ≤ w7.heap.size by omega)))
          have q8 := (hb8.block w.heap.size (show w.heap.size < w7.heap.size by omega)).trans QR.out
          have z0 : w8.cell? ⟨w.heap.size, 0, none⟩ = some (.bool false) := Lib.cell_of_heap q8 0
          have z1 : w8.cell? ⟨w.heap.size, 1, none⟩ = some (.string ⟨#[]⟩) := Lib.cell_of_heap q8 1
          have f0 : w8.frozen? ⟨w.heap.size, 0, none⟩ = false := Lib.frozen_of_heap q8 0
          have f1 : w8.frozen? ⟨w.heap.size, 1, none⟩ = false := Lib.frozen_of_heap q8 1
          clear hb8 q8
          go_wp2
          exact bodyPost_ret (v := .tuple #[.agg #[.bool false, .string zs0], .int .i64 1]) (by simp [results, Tryd.results14, go_sem, z0, z1]) rfl ⟨by rw [HJ.out], (HB8.out.setCell (p := ⟨w.heap.size, 0, none⟩) (Nat.le_refl _) _).setCell (p := ⟨w.heap.size, 1, none⟩) (Nat.le_refl _) _⟩
        · obtain rfl : m = !zb := by cases m <;> cases zb <;> simp_all
          clear hok e
          cases zb
          all_goals
            go_wp2_with fail
            refine (HM0.out _).mono ?_
            rintro e w8 ⟨rfl, hb8⟩
            have HB8 := Lib.hid (HB70.out.trans (hb8.mono (show w.heap.size ≤ w7.heap.size by omega)))
            have q8 := (hb8.block w.heap.size (show w.heap.size < w7.heap.size by omega)).trans QR.out
            have z0 : w8.cell? ⟨w.heap.size, 0, none⟩ = some (.bool false) := Lib.cell_of_heap q8 0
            have z1 : w8.cell? ⟨w.heap.size, 1, none⟩ = some (.string ⟨#[]⟩) := Lib.cell_of_heap q8 1
            have f0 : w8.frozen? ⟨w.heap.size, 0, none⟩ = false := Lib.frozen_of_heap q8 0
            have f1 : w8.frozen? ⟨w.heap.size, 1, none⟩ = false := Lib.frozen_of_heap q8 1
            clear hb8 q8
            go_wp2
            exact bodyPost_ret (v := .tuple #[.agg #[.bool false, .string zs0], .int .i64 1]) (by simp [results, Tryd.results14, go_sem, z0, z1]) rfl ⟨by rw [HJ.out], (HB8.out.setCell (p := ⟨w.heap.size, 0, none⟩) (Nat.le_refl _) _).setCell (p := ⟨w.heap.size, 1, none⟩) (Nat.le_refl _) _⟩
end Go.Proofs.YtibhfcnjmilepaaDoor
